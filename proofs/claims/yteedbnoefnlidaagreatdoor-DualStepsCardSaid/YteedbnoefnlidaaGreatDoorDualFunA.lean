/- DualFunA: several texts in one: plain facts and laws for the walks. No program is named. -/
import Derived.Test.YteedbnoefnlidaaGreatDoorDualSem
import Derived.Test.YteedbnoefnlidaaGreatDoorDualEx
import Derived.Test.YteedbnoefnlidaaGreatDoorTableFun0
import Derived.LoopTactic

/-! ### DualFunction: what lies in memory: the old table, the dual, the meter, a row of what is there and one of the values. -/
namespace Go.Proofs.YteedbnoefnlidaaGreatDoor.dual
open Go.ChangeShapes Go.WideShapes Go.ChangeAt Go.RowKit Go.Shelf swar under trap meter group probe lens tail call table evac
set_option linter.unusedSimpArgs false
set_option linter.unusedVariables false

/-- the old table, and those that are to come -/
def kT (t0 : Tb) (n1 : Nat) : Nat → Tb := fun i => if i = 0 then t0 else Tb.new n1
theorem kT_up (t0 t' : Tb) (n1 : Nat) : up (kT t0 n1) 0 t' = kT t' n1 := by
  funext i; unfold up kT
  by_cases h : i = 0
  · rw [if_pos h, if_pos h]
  · rw [if_neg h, if_neg h, if_neg h]
theorem kT_far {t0 : Tb} {n1 j : Nat} (hj : 1 ≤ j) : kT t0 n1 j = Tb.new n1 := if_neg (by omega)
/-- what a row of values says of a partial function -/
def Vals (F : Nat → Option Nat) (V : Nat → Nat) : Prop := ∀ k v, F k = some v → V k = v
theorem Vals.put {F : Nat → Option Nat} {V : Nat → Nat} (h : Vals F V) (k v : Nat) : Vals (set F k (some v)) (fun j => if j = k then v else V j) := fun j u hj => by
  by_cases e : j = k
  · subst e; rw [set_same] at hj; simpa using hj
  · rw [set_ne _ _ e] at hj
    show (if j = k then v else V j) = u
    rw [if_neg e]; exact h j u hj
theorem Vals.del {F : Nat → Option Nat} {V : Nat → Nat} (h : Vals F V) (k : Nat) : Vals (set F k none) V := fun j u hj => by
  by_cases e : j = k
  · subst e; rw [set_same] at hj; cases hj
  · rw [set_ne _ _ e] at hj; exact h j u hj
/-! ### while keys are put into the old table -/
/-- F: what the table holds; G: what the rows say -/
structure KB (a : String → Addr) (w1 : World) (H : Nat → Nat) (la T B n0 n1 Bt Bv k : Nat) (t0 : Tb) (F G : Nat → Option Nat) (V : Nat → Nat) (W : World) : Prop where
  re : Real a w1 (lay1 T B n0) (kT t0 n1) W
  rep : RepN H la t0 F
  rows : table.Rows Bt Bv la G V W
  len : t0.len ≤ (k : Int)
  bt : Bt ≠ T ∧ Bt ≠ B
  bv : Bv ≠ T ∧ Bv ≠ B
  ht : w1.heap.size ≤ Bt
  hv : w1.heap.size ≤ Bv
section
variable {a : String → Addr} {w1 : World} {H : Nat → Nat} {la T B n0 n1 Bt Bv k : Nat} {t0 : Tb} {F G : Nat → Option Nat} {V : Nat → Nat} {W W' : World}
theorem KB.read (h : KB a w1 H la T B n0 n1 Bt Bv k t0 F G V W) (hb : Below W.heap.size W W') : KB a w1 H la T B n0 n1 Bt Bv k t0 F G V W' := ⟨h.re.read hb, h.rep, h.rows.below hb, h.len, h.bt, h.bv, h.ht, h.hv⟩
theorem KB.up (h : KB a w1 H la T B n0 n1 Bt Bv k t0 F G V W) {k' : Nat} (hk : k ≤ k') : KB a w1 H la T B n0 n1 Bt Bv k' t0 F G V W := ⟨h.re, h.rep, h.rows, by have := h.len; omega, h.bt, h.bv, h.ht, h.hv⟩
theorem one_set {X i : Nat} {u : Value} : Past [X] W (W.setCell ⟨X, i, none⟩ u) := (Past.refl [X] W).store (p := ⟨X, i, none⟩) (.inl (by simp)) u
theorem KB.put (h : KB a w1 H la T B n0 n1 Bt Bv k t0 F F V W) (hla : la ≤ 1000) {key v : Nat} (hk : key < la) (hH : H key < 18446744073709551616) (hv : v < 18446744073709551616) :
    Calls Tryz.prog 41 #[.pointer (some ⟨T, 0, none⟩), .agg #[.pointer none], group.entV key v (H key)] W fun e w' => Past [T, B] W w' ∧ ((∃ b t', e = .returned (.tuple #[.bool b, .nilIface]) ∧ KB a w1 H la T B n0 n1 Bt Bv (k + 1) t' (set F key (some v)) F V w') ∨ (∃ x, e = .returned (.tuple #[.bool false, errs.errV x]) ∧ KB a w1 H la T B n0 n1 Bt Bv (k + 1) t0 F F V w')) := by
  have hkb : key < 18446744073709551616 := by omega
  obtain ⟨p1, p2⟩ := h.rep.rep.puts (key := key) (v := v) hkb hH hv
  have hR : Ready a T B t0 .nil Mt.zero W := h.re.rdL (i := 0) (L := .nil) Nat.one_pos trivial (fun b hb => by cases hb)
  refine (put_tab hR key (H key) v hkb hH hv).mono fun e w' ⟨he, hs⟩ => ?_
  have hp : Past [T, B] W w' := by simpa [Ln.d] using hs.ln.past
  have hrows : table.Rows Bt Bv la F V w' := h.rows.past hp (by simp [h.bt.1, h.bt.2]) (by simp [h.bv.1, h.bv.2])
  have hreal : Real a w1 (lay1 T B n0) (kT (t0.puts key (H key) v) n1) w' := by
    rw [← kT_up t0]
    exact h.re.tlL (i := 0) (L := .nil) Nat.one_pos (fun b hb => by cases hb) hs ((h.re.ok 0 Nat.one_pos).puts hkb hH hv) (puts_n ..)
  refine ⟨hp, ?_⟩
  by_cases hc : (F key).isSome = true ∨ 1 ≤ t0.left
  · obtain ⟨r, e2, e3, e4, e5⟩ := p1 hc
    left
    rw [e2] at he
    refine ⟨_, _, he, hreal, h.rep.put_yes hk r e4, hrows, ?_, h.bt, h.bv, h.ht, h.hv⟩
    have := h.len
    rw [e4]; split <;> omega
  · have h1 : (F key).isSome = false := by cases e : (F key).isSome; rfl; exact absurd (.inl e) hc
    obtain ⟨e1, e2, e3⟩ := p2 h1 (by
      apply Classical.byContradiction; intro hn; exact hc (.inr (by omega)))
    right
    rw [e2, e3] at he
    rw [e1] at hreal
    exact ⟨_, he, hreal, h.rep, hrows, by have := h.len; omega, h.bt, h.bv, h.ht, h.hv⟩
theorem KB.done {key v : Nat} (h : KB a w1 H la T B n0 n1 Bt Bv k t0 (set F key (some v)) F V W) (hk : key < la) : KB a w1 H la T B n0 n1 Bt Bv k t0 (set F key (some v)) (set F key (some v)) (fun j => if j = key then v else V j) ((W.setCell ⟨Bt, key, none⟩ (.bool true)).setCell ⟨Bv, key, none⟩ (.int .u64 (v : Nat))) := by
  have nt : ∀ X, X ≠ T ∧ X ≠ B → X ∉ (lay1 T B n0).tall := fun X hX e => by rcases lay1_tall e with e | e; exact hX.1 e; exact hX.2 e
  refine ⟨(h.re.past (one_set (X := Bt) (i := key) (u := .bool true)) fun b hb => ?_).past (one_set (X := Bv) (i := key) (u := .int .u64 (v : Nat))) fun b hb => ?_, h.rep, (h.rows.setT (o := some v) hk).setV hk, h.len, h.bt, h.bv, h.ht, h.hv⟩
  · obtain rfl : b = Bt := by simpa using hb
    exact ⟨h.ht, nt _ h.bt⟩
  · obtain rfl : b = Bv := by simpa using hb
    exact ⟨h.hv, nt _ h.bv⟩
end
/-! ### the dual -/
structure DB (a : String → Addr) (w1 : World) (H : Nat → Nat) (la : Nat) (Y : Lay) (D n1 d : Nat) (dp : Int) (q c : Nat) (t : Nat → Tb) (F : Nat → Option Nat) (fp : List Nat) (Bm Bt Bv p v : Nat) (G : Nat → Option Nat) (V : Nat → Nat) (W : World) : Prop where
  dm : DM a w1 H la Y D n1 d dp q c t F fp W
  ma : MAt Bm 0 (Mk p v q) W
  rows : table.Rows Bt Bv la G V W
  nm : Bm ∉ fp
  nt : Bt ∉ fp
  nv : Bv ∉ fp
  mt : Bm ≠ Bt
  mv : Bm ≠ Bv
  hm : w1.heap.size ≤ Bm
  ht : w1.heap.size ≤ Bt
  hv : w1.heap.size ≤ Bv
section
variable {a : String → Addr} {w1 : World} {H : Nat → Nat} {la : Nat} {Y : Lay} {D n1 d : Nat} {dp : Int} {q c : Nat} {t : Nat → Tb} {F : Nat → Option Nat} {fp : List Nat} {Bm Bt Bv p v : Nat} {G : Nat → Option Nat} {V : Nat → Nat} {W W' : World}
theorem DB.read (h : DB a w1 H la Y D n1 d dp q c t F fp Bm Bt Bv p v G V W) (hb : Below W.heap.size W W') : DB a w1 H la Y D n1 d dp q c t F fp Bm Bt Bv p v G V W' := ⟨h.dm.read hb, h.ma.below hb, h.rows.below hb, h.nm, h.nt, h.nv, h.mt, h.mv, h.hm, h.ht, h.hv⟩
theorem DB.bel (h : DB a w1 H la Y D n1 d dp q c t F fp Bm Bt Bv p v G V W) : Below w1.heap.size w1 W := h.dm.da.re.bel
theorem DB.past {l : List Nat} (h : DB a w1 H la Y D n1 d dp q c t F fp Bm Bt Bv p v G V W) (hp : Past l W W') (hl : ∀ b ∈ l, w1.heap.size ≤ b ∧ b ∉ fp ∧ b ≠ Bm ∧ b ≠ Bt ∧ b ≠ Bv) : DB a w1 H la Y D n1 d dp q c t F fp Bm Bt Bv p v G V W' :=
  ⟨h.dm.aside hp fun b hb => ⟨(hl b hb).1, (hl b hb).2.1⟩, h.ma.past hp fun e => (hl _ e).2.2.1 rfl, h.rows.past hp (fun e => (hl _ e).2.2.2.1 rfl) (fun e => (hl _ e).2.2.2.2 rfl), h.nm, h.nt, h.nv, h.mt, h.mv, h.hm, h.ht, h.hv⟩
/-- blocks that are there are no new ones -/
theorem DAt.flt {tk : Bool} (h : DAt a w1 Y D n1 d dp q tk t fp W) : ∀ b ∈ fp, b < W.heap.size := fun b hb => by
  have hN := h.N
  rcases h with ⟨hq, _, Q, GB, cB, GT, cT, h, rfl⟩ | ⟨hq, _, Q, GT, cT, GU, cU, Vv, h, rfl⟩
  · have tl : ∀ b ∈ Y.tall, b < W.heap.size := fun b hb => by
      obtain ⟨i, hi, hb⟩ := List.mem_flatMap.1 hb
      have hi := List.mem_range.1 hi
      by_cases e : i = 0
      · subst e
        have h0 := h.re.at' 0 Nat.one_pos
        have l1 := h0.lt
        have l2 := h0.lb
        have hb' : b = Y.T 0 ∨ b = Y.B 0 := by simpa using hb
        rcases hb' with rfl | rfl
        · exact l1
        · exact l2
      · have h0 := h.tb i (by omega) hi
        have l1 := h0.lt
        have l2 := h0.lb
        have hb' : b = Y.T i ∨ b = Y.B i := by simpa using hb
        rcases hb' with rfl | rfl
        · exact l1
        · exact l2
    simp only [fpP, List.mem_cons] at hb
    rcases hb with rfl | rfl | rfl | rfl | rfl | hb
    · exact World.block_lt_of_cell? _ _ (h.gb 1 (by omega) (by omega))
    · exact World.block_lt_of_cell? _ _ h.gt
    · exact h.row.lt
    · exact (h.bx 1 (by omega) (by omega)).lt
    · exact (h.bx (Y.N - 1) (by omega) (by omega)).lt
    · exact tl b hb
  · simp only [fpM, List.mem_cons] at hb
    obtain ⟨sB, hr⟩ := h.row
    rcases hb with rfl | rfl | rfl | rfl | hb
    · exact World.block_lt_of_cell? _ _ (h.gt 0 (by omega))
    · exact World.block_lt_of_cell? _ _ (h.gu 1 (by omega) (by omega))
    · exact h.ev.lt
    · exact hr.lt
    · exact h.re.lt b hb
/-- what is new stands apart -/
theorem DB.fresh (h : DB a w1 H la Y D n1 d dp q c t F fp Bm Bt Bv p v G V W) {b : Nat} (hb : W.heap.size ≤ b) : w1.heap.size ≤ b ∧ b ∉ fp ∧ b ≠ Bm ∧ b ≠ Bt ∧ b ≠ Bv := by
  have h1 := h.bel.size
  have h2 := h.ma.lt
  have h3 := h.rows.lt
  have h4 := h.rows.lv
  exact ⟨by omega, fun e => by have := h.dm.da.flt b e; omega, by omega, by omega, by omega⟩
theorem DB.put (h : DB a w1 H la Y D n1 d dp q c t F fp Bm Bt Bv p v F V W) (hla : la ≤ 1000) (hH : ∀ key, key < la → H key < 18446744073709551616) (hc : c < 7 * n1) {key val : Nat} (hk : key < la) (hv : val < 18446744073709551616) (hp : p + 200 ≤ 1000000) :
    Calls Tryz.prog 12 #[.pointer (some ⟨D, 0, none⟩), .agg #[.pointer (some ⟨Bm, 0, none⟩)], group.entV key val (H key), .bool true] W fun e w' => Past (Bm :: fp) W w' ∧ ∃ p' t', p' ≤ p + 128 ∧
      ((e = .returned (.tuple #[.bool (!(F key).isSome), .nilIface]) ∧ DB a w1 H la Y D n1 d dp q (c + 1) t' (set F key (some val)) fp Bm Bt Bv p' v F V w') ∨
       (rdy Y n1 q = false ∧ F key = none ∧ (∃ x, e = .returned (.tuple #[.bool false, errs.errV x])) ∧ DB a w1 H la Y D n1 d dp q (c + 1) t' F fp Bm Bt Bv p' v F V w')) := by
  refine (h.dm.put hla hH hc h.ma h.hm h.nm hk hv hp).mono fun e w' ⟨p', h1, hm, hpast, r⟩ => ⟨hpast, p', ?_⟩
  have hrows : table.Rows Bt Bv la F V w' := h.rows.past hpast (fun e => by rcases List.mem_cons.1 e with e | e; exact h.mt e.symm; exact h.nt e) (fun e => by rcases List.mem_cons.1 e with e | e; exact h.mv e.symm; exact h.nv e)
  rcases r with ⟨he, t', hD⟩ | ⟨e0, e1, he, hD⟩
  · exact ⟨t', h1, .inl ⟨he, hD, hm, hrows, h.nm, h.nt, h.nv, h.mt, h.mv, h.hm, h.ht, h.hv⟩⟩
  · exact ⟨t, h1, .inr ⟨e0, e1, ⟨_, he⟩, hD.mono (Nat.le_succ _), hm, hrows, h.nm, h.nt, h.nv, h.mt, h.mv, h.hm, h.ht, h.hv⟩⟩
theorem DB.delete (h : DB a w1 H la Y D n1 d dp q c t F fp Bm Bt Bv p v F V W) (hla : la ≤ 1000) (hH : ∀ key, key < la → H key < 18446744073709551616) {key : Nat} (hk : key < la) (hp : p + 200 ≤ 1000000) :
    Calls Tryz.prog 16 #[.pointer (some ⟨D, 0, none⟩), .agg #[.pointer (some ⟨Bm, 0, none⟩)], .int .u64 (key : Nat), .int .u64 (H key : Nat)] W fun e w' => Past (Bm :: fp) W w' ∧ ∃ p' t' ek ev eh, p' ≤ p + 128 ∧ e = .returned (.tuple #[group.entV ek ev eh, .bool (F key).isSome]) ∧ (∀ u, F key = some u → ev = u) ∧ DB a w1 H la Y D n1 d dp q c t' (set F key none) fp Bm Bt Bv p' v F V w' := by
  refine (h.dm.delete hla hH h.ma h.hm h.nm hk hp).mono fun e w' ⟨p', ek, ev, eh, h1, hm, hpast, he, hv, t', hD⟩ => ⟨hpast, p', t', ek, ev, eh, h1, he, hv, hD, hm, ?_, h.nm, h.nt, h.nv, h.mt, h.mv, h.hm, h.ht, h.hv⟩
  exact h.rows.past hpast (fun e => by rcases List.mem_cons.1 e with e | e; exact h.mt e.symm; exact h.nt e) (fun e => by rcases List.mem_cons.1 e with e | e; exact h.mv e.symm; exact h.nv e)
theorem DB.step (h : DB a w1 H la Y D n1 d dp q c t F fp Bm Bt Bv p v G V W) (hla : la ≤ 1000) (hH : ∀ key, key < la → H key < 18446744073709551616) (hc : c < 7 * n1) (hq : q < Y.n 0 + (Y.N - 1) * n1) (hp : p ≤ 1000000) (hv : v + 600 ≤ 1000000) (hk : q + 1 ≤ 1000000) :
    Calls Tryz.prog 31 #[.pointer (some ⟨D, 0, none⟩), .pointer (some ⟨Bm, 0, none⟩)] W fun e w' => e = .returned (.bool true) ∧ ∃ v' t' fp', v' ≤ v + 600 ∧ Past (Bm :: fp) W w' ∧ (∀ b ∈ fp', b ∈ fp ∨ W.heap.size ≤ b) ∧ DB a w1 H la Y D n1 d dp (q + 1) c t' F fp' Bm Bt Bv p v' G V w' := by
  refine (h.dm.step hla hH hc hq h.ma h.hm h.nm hp hv hk).mono fun e w' ⟨he, v', t', fp', h1, hm, hpast, hf, hD⟩ => ⟨he, v', t', fp', h1, hpast, hf, hD, hm, ?_, ?_, ?_, ?_, h.mt, h.mv, h.hm, h.ht, h.hv⟩
  · exact h.rows.past hpast (fun e => by rcases List.mem_cons.1 e with e | e; exact h.mt e.symm; exact h.nt e) (fun e => by rcases List.mem_cons.1 e with e | e; exact h.mv e.symm; exact h.nv e)
  · intro e; rcases hf _ e with e | e
    · exact h.nm e
    · have := h.ma.lt; omega
  · intro e; rcases hf _ e with e | e
    · exact h.nt e
    · have := h.rows.lt; omega
  · intro e; rcases hf _ e with e | e
    · exact h.nv e
    · have := h.rows.lv; omega
theorem DB.done0 {key val : Nat} (h : DB a w1 H la Y D n1 d dp q c t (set F key (some val)) fp Bm Bt Bv p v F V W) (hk : key < la) : DB a w1 H la Y D n1 d dp q c t (set F key (some val)) fp Bm Bt Bv p v (set F key (some val)) (fun j => if j = key then val else V j) ((W.setCell ⟨Bt, key, none⟩ (.bool true)).setCell ⟨Bv, key, none⟩ (.int .u64 (val : Nat))) := by
  have p1 : Past [Bt] W (W.setCell ⟨Bt, key, none⟩ (.bool true)) := one_set
  have p2 : Past [Bv] (W.setCell ⟨Bt, key, none⟩ (.bool true)) ((W.setCell ⟨Bt, key, none⟩ (.bool true)).setCell ⟨Bv, key, none⟩ (.int .u64 (val : Nat))) := one_set
  refine ⟨(h.dm.aside p1 fun b hb => ?_).aside p2 fun b hb => ?_, (h.ma.past p1 (by simp [h.mt])).past p2 (by simp [h.mv]), (h.rows.setT (o := some val) hk).setV hk, h.nm, h.nt, h.nv, h.mt, h.mv, h.hm, h.ht, h.hv⟩
  · obtain rfl : b = Bt := by simpa using hb
    exact ⟨h.ht, h.nt⟩
  · obtain rfl : b = Bv := by simpa using hb
    exact ⟨h.hv, h.nv⟩
theorem DB.done1 {key : Nat} (h : DB a w1 H la Y D n1 d dp q c t (set F key none) fp Bm Bt Bv p v F V W) (hk : key < la) : DB a w1 H la Y D n1 d dp q c t (set F key none) fp Bm Bt Bv p v (set F key none) V (W.setCell ⟨Bt, key, none⟩ (.bool false)) := by
  have p1 : Past [Bt] W (W.setCell ⟨Bt, key, none⟩ (.bool false)) := one_set
  refine ⟨h.dm.aside p1 fun b hb => ?_, h.ma.past p1 (by simp [h.mt]), h.rows.setT (o := none) hk, h.nm, h.nt, h.nv, h.mt, h.mv, h.hm, h.ht, h.hv⟩
  obtain rfl : b = Bt := by simpa using hb
  exact ⟨h.ht, h.nt⟩
end
/-- between two acts: k acts and q steps are done -/
def DS (a : String → Addr) (w1 : World) (H : Nat → Nat) (la : Nat) (Y : Lay) (D n1 d : Nat) (dp : Int) (Bm Bt Bv lk q k : Nat) (W : World) : Prop :=
  ∃ t F fp p v V, DB a w1 H la Y D n1 d dp q (lk + k) t F fp Bm Bt Bv p v F V W ∧ Vals F V ∧ p ≤ 200 * k ∧ v ≤ 600 * q
theorem DS.up {a : String → Addr} {w1 : World} {H : Nat → Nat} {la : Nat} {Y : Lay} {D n1 d : Nat} {dp : Int} {Bm Bt Bv lk q k : Nat} {W W' : World} (h : DS a w1 H la Y D n1 d dp Bm Bt Bv lk q k W) (hb : Below W.heap.size W W') : DS a w1 H la Y D n1 d dp Bm Bt Bv lk q (k + 1) W' := by
  obtain ⟨t, F, fp, p, v, V, h, hv, h1, h2⟩ := h
  have h := h.read hb
  exact ⟨t, F, fp, p, v, V, ⟨h.dm.mono (by omega), h.ma, h.rows, h.nm, h.nt, h.nv, h.mt, h.mv, h.hm, h.ht, h.hv⟩, hv, by omega, h2⟩
theorem DS.read {a : String → Addr} {w1 : World} {H : Nat → Nat} {la : Nat} {Y : Lay} {D n1 d : Nat} {dp : Int} {Bm Bt Bv lk q k : Nat} {W W' : World} (h : DS a w1 H la Y D n1 d dp Bm Bt Bv lk q k W) (hb : Below W.heap.size W W') : DS a w1 H la Y D n1 d dp Bm Bt Bv lk q k W' := by
  obtain ⟨t, F, fp, p, v, V, h, hv, h1, h2⟩ := h
  exact ⟨t, F, fp, p, v, V, h.read hb, hv, h1, h2⟩
end Go.Proofs.YteedbnoefnlidaaGreatDoor.dual

/-! ### DualFunction: where more is in it than is asked. -/
namespace Go.Proofs.YteedbnoefnlidaaGreatDoor.dual
open Go.ChangeShapes Go.WideShapes Go.ChangeAt Go.RowKit Go.Shelf swar under trap meter group probe lens tail call table evac
attribute [local go_sem] Oper.semAt_some stage.pureUpon move.stepUpon
set_option linter.unusedSimpArgs false
set_option linter.unusedVariables false

/-- a row of numbers -/
def IntsAt (s : Option Addr) (la : Nat) (w : World) (zs : Nat → Int) : Prop := ∀ j, j < la → ∃ x, s = some x ∧ ∀ W, Below w.heap.size w W → W.cell? (x.add j) = some (.int .i64 (zs j))
theorem IntsAt.below {s : Option Addr} {la : Nat} {w w' : World} {zs : Nat → Int} (h : IntsAt s la w zs) (hb : Below w.heap.size w w') : IntsAt s la w' zs := fun j hj => by
  obtain ⟨x, h1, h2⟩ := h j hj
  exact ⟨x, h1, fun W hW => h2 W (under.below_step hb hW)⟩
set_option maxRecDepth 100000 in
set_option maxHeartbeats 1000000 in
theorem fun_long (a : String → Addr) (c : Cas) (s2 : Option Addr) (lb cb : Nat) (hl : ¬ ∃ n0, Short c n0) (w : World) (hw : Bq a w) :
    Calls Tryz.prog 4 #[.agg #[.int .i64 c.old, .int .i64 c.new, .int .i64 c.depth, .slice c.sh c.lh c.ch, .slice c.sk c.lk c.ck], .slice s2 lb cb] w fun e w' => e = .returned (.bool true) ∧ Below w.heap.size w w' := by
  have cA := fun W (hb : Below w.heap.size w W) => alive_any a W (hw.below hb)
  have hX0 := CBox.new c w
  have hb0 := new_block w (.cells #[.int .i64 c.old, .int .i64 c.new, .int .i64 c.depth, .slice c.sh c.lh c.ch, .slice c.sk c.lk c.ck] 25)
  have cL := fun W => long_yes hl W
  obtain ⟨old, new, depth, sh, lh, ch, sk, lk, ck⟩ := c
  simp only at *
  clear hl
  go_enter Tryz.func4, Tryz.ntmps4
  go_wp2_with (first
    | (go_at_call 6; refine (cA _ hb0).mono ?_; rintro e w1 ⟨rfl, hb1⟩; have ⟨x0, x1, x2, x3, x4⟩ := CBox.all (hX0.keep hb1))
    | (go_at_call 7; refine (cL _).mono ?_; rintro e w2 ⟨rfl, hb2⟩; have ⟨y0, y1, y2, y3, y4⟩ := CBox.all ((hX0.keep hb1).keep hb2)))
  go_ret
  exact ⟨rfl, under.below_step (under.below_step hb0 hb1) hb2⟩
set_option maxRecDepth 100000 in
set_option maxHeartbeats 1000000 in
theorem fun_more (a : String → Addr) (c : Cas) (s2 : Option Addr) (lb cb : Nat) (n0 : Nat) (hS : Short c n0) (hm : 120 < lb) (w : World) (hw : Bq a w) :
    Calls Tryz.prog 4 #[.agg #[.int .i64 c.old, .int .i64 c.new, .int .i64 c.depth, .slice c.sh c.lh c.ch, .slice c.sk c.lk c.ck], .slice s2 lb cb] w fun e w' => e = .returned (.bool true) ∧ Below w.heap.size w w' := by
  have cA := fun W (hb : Below w.heap.size w W) => alive_any a W (hw.below hb)
  have hX0 := CBox.new c w
  have hb0 := new_block w (.cells #[.int .i64 c.old, .int .i64 c.new, .int .i64 c.depth, .slice c.sh c.lh c.ch, .slice c.sk c.lk c.ck] 25)
  have cL := fun W => long_no hS W
  have d1 : decide (120 < (lb : Int)) = true := decide_eq_true (by omega)
  obtain ⟨old, new, depth, sh, lh, ch, sk, lk, ck⟩ := c
  simp only at *
  clear hS hm
  go_enter Tryz.func4, Tryz.ntmps4
  go_wp2_with (first
    | (go_at_call 6; refine (cA _ hb0).mono ?_; rintro e w1 ⟨rfl, hb1⟩; have ⟨x0, x1, x2, x3, x4⟩ := CBox.all (hX0.keep hb1))
    | (go_at_call 7; refine (cL _).mono ?_; rintro e w2 ⟨rfl, hb2⟩; have ⟨y0, y1, y2, y3, y4⟩ := CBox.all ((hX0.keep hb1).keep hb2)))
  go_ret
  exact ⟨rfl, under.below_step (under.below_step hb0 hb1) hb2⟩
set_option maxRecDepth 100000 in
set_option maxHeartbeats 1000000 in
theorem fun_full (a : String → Addr) (c : Cas) (s2 : Option Addr) (lb cb : Nat) (n0 : Nat) (hS : Short c n0) (hm : ¬ 120 < lb) (hf : wrap64 (6 * c.new) < (c.lk : Int) + lb) (w : World) (hw : Bq a w) :
    Calls Tryz.prog 4 #[.agg #[.int .i64 c.old, .int .i64 c.new, .int .i64 c.depth, .slice c.sh c.lh c.ch, .slice c.sk c.lk c.ck], .slice s2 lb cb] w fun e w' => e = .returned (.bool true) ∧ Below w.heap.size w w' := by
  have cA := fun W (hb : Below w.heap.size w W) => alive_any a W (hw.below hb)
  have hX0 := CBox.new c w
  have hb0 := new_block w (.cells #[.int .i64 c.old, .int .i64 c.new, .int .i64 c.depth, .slice c.sh c.lh c.ch, .slice c.sk c.lk c.ck] 25)
  have cL := fun W => long_no hS W
  have d1 : decide (120 < (lb : Int)) = false := decide_eq_false (by omega)
  have hkk := hS.k2
  have e2 : IntKind.i64.wrap ((c.lk : Int) + (lb : Int)) = (c.lk : Int) + lb := IntWalk.i64_in _ (by omega)
  have d2 : decide (wrap64 (6 * c.new) < (c.lk : Int) + lb) = true := decide_eq_true hf
  obtain ⟨old, new, depth, sh, lh, ch, sk, lk, ck⟩ := c
  simp only at *
  clear hS hm hf hkk
  go_enter Tryz.func4, Tryz.ntmps4
  go_wp2_with (first
    | (go_at_call 6; refine (cA _ hb0).mono ?_; rintro e w1 ⟨rfl, hb1⟩; have ⟨x0, x1, x2, x3, x4⟩ := CBox.all (hX0.keep hb1))
    | (go_at_call 7; refine (cL _).mono ?_; rintro e w2 ⟨rfl, hb2⟩; have ⟨y0, y1, y2, y3, y4⟩ := CBox.all ((hX0.keep hb1).keep hb2)))
  go_ret
  exact ⟨rfl, under.below_step (under.below_step hb0 hb1) hb2⟩
end Go.Proofs.YteedbnoefnlidaaGreatDoor.dual

/-! ### DualFunction: Delete, however often it is called. -/
namespace Go.Proofs.YteedbnoefnlidaaGreatDoor.dual
open Go.ChangeShapes Go.WideShapes Go.ChangeAt Go.RowKit Go.Shelf swar under trap meter group probe lens tail call table evac
set_option linter.unusedSimpArgs false
set_option linter.unusedVariables false

theorem act3 (kd ky nn : Int) (w : World) : (w.alloc (.cells #[.int .i64 kd, .int .i64 ky, .int .i64 nn] 40)).cell? ⟨w.heap.size, 0, none⟩ = some (.int .i64 kd) ∧ (w.alloc (.cells #[.int .i64 kd, .int .i64 ky, .int .i64 nn] 40)).cell? ⟨w.heap.size, 1, none⟩ = some (.int .i64 ky) ∧ (w.alloc (.cells #[.int .i64 kd, .int .i64 ky, .int .i64 nn] 40)).cell? ⟨w.heap.size, 2, none⟩ = some (.int .i64 nn) := by
  have h := World.alloc_heap_new w (.cells #[.int .i64 kd, .int .i64 ky, .int .i64 nn] 40)
  exact ⟨by rw [cell_of_row _ _ _ _ _ _ h]; rfl, by rw [cell_of_row _ _ _ _ _ _ h]; rfl, by rw [cell_of_row _ _ _ _ _ _ h]; rfl⟩
def hOf (la : Nat) (hz : Nat → Nat) (k : Nat) : Nat := if k < la then hz k else 0
theorem hOf_lt {la : Nat} {hz : Nat → Nat} {k : Nat} (h : k < la) : hOf la hz k = hz k := if_pos h
/-- the entry that a dual has of a key -/
def entD (t : Nat → Tb) (key hs : Nat) (J : List Nat) : Nat × Nat × Nat := ((fndE t key hs J).key, (fndE t key hs J).val, (fndE t key hs J).hash)
/-- behind so many calls of Delete of the same key -/
def GD (a : String → Addr) (w1 : World) (H : Nat → Nat) (la : Nat) (Y : Lay) (D n1 d : Nat) (dp : Int) (q c : Nat) (t : Nat → Tb) (F : Nat → Option Nat) (fp : List Nat) (Bm Bt Bv p v : Nat) (V : Nat → Nat) (key : Nat) : Nat → World → Prop
  | 0, W => DB a w1 H la Y D n1 d dp q c t F fp Bm Bt Bv p v F V W
  | 1, W => ∃ p' t', p' ≤ p + 128 ∧ DB a w1 H la Y D n1 d dp q c t' (set F key none) fp Bm Bt Bv p' v F V W
  | _ + 2, W => ∃ t' m', DAt a w1 Y D n1 d dp q false t' fp W ∧ MAt Bm 0 m' W
section
variable {a : String → Addr} {w1 : World} {H : Nat → Nat} {la : Nat} {Y : Lay} {D n1 d : Nat} {dp : Int} {q c : Nat} {t : Nat → Tb} {F : Nat → Option Nat} {fp : List Nat} {Bm Bt Bv p v : Nat} {V : Nat → Nat} {key : Nat} {W W' : World}
theorem GD.weak (n : Nat) (h : GD a w1 H la Y D n1 d dp q c t F fp Bm Bt Bv p v V key n W) : ∃ t' m', DAt a w1 Y D n1 d dp q false t' fp W ∧ MAt Bm 0 m' W := by
  match n, h with
  | 0, h => exact ⟨_, _, h.dm.da, h.ma⟩
  | 1, h => obtain ⟨p', t', _, h⟩ := h; exact ⟨_, _, h.dm.da, h.ma⟩
  | n + 2, h => exact h
theorem DB.xg (h0 : DB a w1 H la Y D n1 d dp q c t F fp Bm Bt Bv p v F V W) : XG W (Bm :: fp) (GD a w1 H la Y D n1 d dp q c t F fp Bm Bt Bv p v V key) := by
  refine ⟨fun b hb => ?_, fun n w w' h hb => ?_, fun n w b i u h hb => ?_⟩
  · rcases List.mem_cons.1 hb with rfl | hb
    · exact h0.ma.lt
    · exact h0.dm.da.flt b hb
  · match n, h with
    | 0, h => exact DB.read h hb
    | 1, h => obtain ⟨p', t', hp, h⟩ := h; exact ⟨p', t', hp, h.read hb⟩
    | n + 2, h => obtain ⟨t', m', h1, h2⟩ := h; exact ⟨t', m', h1.read hb, h2.below hb⟩
  · have fr := h0.fresh hb
    have hl : ∀ x ∈ [b], w1.heap.size ≤ x ∧ x ∉ fp ∧ x ≠ Bm ∧ x ≠ Bt ∧ x ≠ Bv := fun x hx => by
      obtain rfl : x = b := by simpa using hx
      exact fr
    match n, h with
    | 0, h => exact DB.past h one_set hl
    | 1, h => obtain ⟨p', t', hp, h⟩ := h; exact ⟨p', t', hp, h.past one_set hl⟩
    | n + 2, h =>
      obtain ⟨t', m', h1, h2⟩ := h
      exact ⟨t', m', h1.aside one_set (fun x hx => ⟨(hl x hx).1, (hl x hx).2.1⟩), h2.past one_set (fun e => (hl _ e).2.2.1 rfl)⟩
theorem GD.call (hm : w1.heap.size ≤ Bm ∧ Bm ∉ fp) (hla : la ≤ 1000) (hH : ∀ key, key < la → H key < 18446744073709551616) (hk : key < la) (hp : p + 200 ≤ 1000000) (n : Nat) (h : GD a w1 H la Y D n1 d dp q c t F fp Bm Bt Bv p v V key n W) :
    Calls Tryz.prog 16 #[.pointer (some ⟨D, 0, none⟩), .agg #[.pointer (some ⟨Bm, 0, none⟩)], .int .u64 (key : Nat), .int .u64 (H key : Nat)] W fun e w' => Past (Bm :: fp) W w' ∧ ∃ v', e = .returned v' ∧
      (n = 0 → v' = .tuple #[group.entV (entD t key (H key) (js (rdy Y n1 q) Y.N d (H key))).1 (entD t key (H key) (js (rdy Y n1 q) Y.N d (H key))).2.1 (entD t key (H key) (js (rdy Y n1 q) Y.N d (H key))).2.2, .bool (F key).isSome]) ∧ GD a w1 H la Y D n1 d dp q c t F fp Bm Bt Bv p v V key (n + 1) w' := by
  have hd : ∀ b ∈ (Ln.pr Bm 0).d, w1.heap.size ≤ b ∧ b ∉ fp := fun b hb => by
    obtain rfl : b = Bm := by simpa [Ln.d] using hb
    exact hm
  have hpm : ∀ (w' : World), Past (Y.tall ++ (Ln.pr Bm 0).d) W w' → (∀ b ∈ Y.tall, b ∈ fp) → Past (Bm :: fp) W w' := fun w' h hs => h.mono fun b hb => by
    rcases List.mem_append.1 hb with hb | hb
    · exact List.mem_cons_of_mem _ (hs b hb)
    · obtain rfl : b = Bm := by simpa [Ln.d] using hb
      exact List.mem_cons_self
  match n, h with
  | 0, h =>
    have h : DB a w1 H la Y D n1 d dp q c t F fp Bm Bt Bv p v F V W := h
    have hN := h.dm.da.N
    obtain ⟨M, hs⟩ := h.dm.du
    have hK := fndK_le (key := key) (hs := H key) (t := t) Y.N d hN (fun i hi => h.dm.n64 hi) (rdy Y n1 q)
    obtain ⟨s1, s2⟩ := hs.seekV (rd := rdy Y n1 q) hN h.dm.tn key
    refine (h.dm.da.delete (L := .pr Bm 0) h.ma hd key (H key) (by omega) (hH _ hk)).mono fun e w' ⟨he, hD, hst⟩ => ?_
    have hat := hst.at'
    rw [Mk_pr Bm 0 _ (by omega)] at hat
    obtain ⟨hM, hT⟩ := hs.ddel hN h.dm.tn hk
    rw [s1] at he
    have hpast := hpm w' hst.past h.dm.sub
    refine ⟨hpast, _, he, fun _ => rfl, _, _, by omega, ⟨hD, hM, hT, fun e => off_eT (h.dm.off e)⟩, hat, ?_, h.nm, h.nt, h.nv, h.mt, h.mv, h.hm, h.ht, h.hv⟩
    exact h.rows.past hpast (fun e => by rcases List.mem_cons.1 e with e | e; exact h.mt e.symm; exact h.nt e) (fun e => by rcases List.mem_cons.1 e with e | e; exact h.mv e.symm; exact h.nv e)
  | n + 1, h =>
    obtain ⟨t', m', h1, h2⟩ := GD.weak _ h
    refine (h1.delete (L := .pr Bm 0) h2 hd key (H key) (by omega) (hH _ hk)).mono fun e w' ⟨he, hD, hst⟩ => ?_
    exact ⟨hpm w' hst.past h1.tin, _, he, fun e => (by cases e), _, _, hD, hst.at'⟩
theorem DB.entd (h : DB a w1 H la Y D n1 d dp q c t F fp Bm Bt Bv p v F V W) (key : Nat) : ∀ u, F key = some u → (entD t key (H key) (js (rdy Y n1 q) Y.N d (H key))).2.1 = u := by
  obtain ⟨M, hs⟩ := h.dm.du
  exact (hs.seekV (rd := rdy Y n1 q) h.dm.da.N h.dm.tn key).2
end
end Go.Proofs.YteedbnoefnlidaaGreatDoor.dual
