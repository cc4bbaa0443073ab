/- DualSteps: the walk. -/
import Derived.Test.YteedbnoefnlidaaGreatDoorDualStA
import Derived.LoopTactic
import Derived.BigQuiet
import Derived.Deep.CutRange
import Derived.Deep.CutBlock
import Derived.Deep.RegionHeld3
import Derived.Deep.LoopGhost
namespace Go.Proofs.YteedbnoefnlidaaGreatDoor.dual
open Go.ChangeShapes Go.WideShapes Go.ChangeAt Go.RowKit Go.Shelf swar under trap meter group probe lens tail call table evac
attribute [local go_sem] Oper.semAt_some stage.pureUpon move.stepUpon movex.stepUpon
set_option linter.unusedSimpArgs false
set_option linter.unusedVariables false

/-- behind so many keys -/
def FK (ks : Nat → Nat) : Nat → Nat → Option Nat
  | 0 => fun _ => none
  | k + 1 => set (FK ks k) (ks k) (some 5)
def oneZ : One := ⟨lay1 0 0 0, 0, 0, 0, fun _ => Tb.new 1, fun _ => none, []⟩
theorem pv_in {m : Nat} {S : Nat → One} {i : Nat} (h : i < m) : pv m S i = .pointer (some ⟨(S i).D, 0, none⟩) := if_pos h
section
variable {a : String → Addr} {w1 : World} {H : Nat → Nat} {la n0 n1 nb d : Nat} {dp : Int} {Bm A m P : Nat} {S : Nat → One} {W W' : World}
theorem T3.cellm (h : T3 a w1 H la n0 n1 nb d dp Bm A m P S W) {i : Nat} (hi : i < 3) : W.cell? ⟨A, i, none⟩ = some (pv m S i) := by
  obtain ⟨h0, h1, h2⟩ := h.cell
  obtain rfl | rfl | rfl : i = 0 ∨ i = 1 ∨ i = 2 := by omega
  · exact h0
  · exact h1
  · exact h2
theorem T3.zero (w1 : World) (W0 W : World) (H : Nat → Nat) (hb : Below w1.heap.size w1 W) (hB : MAt Bm 0 (Mk 0 0 0) W) (hA : W.heap[A]? = some (.cells #[.pointer none, .pointer none, .pointer none] 95 (0, 0))) (hne : A ≠ Bm) (h1 : w1.heap.size ≤ Bm) (h2 : w1.heap.size ≤ A) : T3 a w1 H la n0 n1 nb d dp Bm A 0 0 (fun _ => oneZ) W :=
  ⟨fun i hi => by omega, fun i j hi => by omega, ⟨0, 0, Nat.le_refl _, Nat.zero_le _, hB⟩, fun i hi => by omega, hA, fun i hi => by omega, hne, h1, h2, fun i hi => by omega, fun _ _ => rfl, hb⟩
end
theorem allF {S : Nat → One} {i : Nat} {x : One} {F : Nat → Option Nat} {C : Nat} (h : ∀ y, y < 3 → (S y).F = F ∧ (S y).c ≤ C) (hi : i < 3) (f1 : x.F = (S i).F) (f2 : x.c = (S i).c) : ∀ y, y < 3 → (upS S i x y).F = F ∧ (upS S i x y).c ≤ C := fun y hy => by
  by_cases e : y = i
  · subst e; rw [upS_same, f1, f2]; exact h y hy
  · rw [upS_ne _ _ e]; exact h y hy
/-- what an act makes of a partial function -/
def actF (F : Nat → Option Nat) (kd : Int) (ki vn : Nat) : Nat → Option Nat := if kd = 0 then set F ki (some vn) else if kd = 2 then set F ki none else F
theorem idx0 (x y z : Value) (w : World) : (Instr.index 95 (.agg #[x, y, z]) (.int .i64 0)).run Tryz.prog w = .ok x w := by kernel_rfl
theorem idx1 (x y z : Value) (w : World) : (Instr.index 95 (.agg #[x, y, z]) (.int .i64 1)).run Tryz.prog w = .ok y w := by kernel_rfl
theorem idx2 (x y z : Value) (w : World) : (Instr.index 95 (.agg #[x, y, z]) (.int .i64 2)).run Tryz.prog w = .ok z w := by kernel_rfl
theorem upS_self (S : Nat → One) (i : Nat) : upS S i (S i) = S := by
  funext j
  by_cases e : j = i
  · subst e; rw [upS_same]
  · rw [upS_ne _ _ e]
theorem actN {S S' : Nat → One} {i : Nat} {x : One} {F G : Nat → Option Nat} {C : Nat} (h : ∀ y, y < 3 → (S' y).F = (if y < i then G else F) ∧ (S' y).c ≤ C + (if y < i then 1 else 0) ∧ (S' y).D = (S y).D) (f1 : x.F = G) (f2 : x.c ≤ C + 1) (f3 : x.D = (S i).D) : ∀ y, y < 3 → (upS S' i x y).F = (if y < i + 1 then G else F) ∧ (upS S' i x y).c ≤ C + (if y < i + 1 then 1 else 0) ∧ (upS S' i x y).D = (S y).D := fun y hy => by
  by_cases e : y = i
  · subst e; rw [upS_same, if_pos (by omega), if_pos (by omega)]; exact ⟨f1, f2, f3⟩
  · rw [upS_ne _ _ e]
    obtain ⟨h1, h2, h3⟩ := h y hy
    by_cases e2 : y < i
    · rw [if_pos e2] at h1 h2
      rw [if_pos (by omega), if_pos (by omega)]; exact ⟨h1, h2, h3⟩
    · rw [if_neg e2] at h1 h2
      rw [if_neg (by omega), if_neg (by omega)]; exact ⟨h1, h2, h3⟩
theorem actS {S S' : Nat → One} {i k : Nat} {x : One} {F G : Nat → Option Nat} {C : Nat} (h : ∀ y, y < 3 → (S' y).F = (if y < k then G else F) ∧ (S' y).c ≤ C + (if y < k then 1 else 0) ∧ (S' y).D = (S y).D) (hi : i < 3) (f1 : x.F = (S' i).F) (f2 : x.c = (S' i).c) (f3 : x.D = (S' i).D) : ∀ y, y < 3 → (upS S' i x y).F = (if y < k then G else F) ∧ (upS S' i x y).c ≤ C + (if y < k then 1 else 0) ∧ (upS S' i x y).D = (S y).D := fun y hy => by
  by_cases e : y = i
  · subst e; rw [upS_same, f1, f2, f3]; exact h y hy
  · rw [upS_ne _ _ e]; exact h y hy
theorem T3.moreP {a : String → Addr} {w1 : World} {H : Nat → Nat} {la n0 n1 nb d : Nat} {dp : Int} {Bm A m P P' : Nat} {S : Nat → One} {W : World} (h : T3 a w1 H la n0 n1 nb d dp Bm A m P S W) (hP : P ≤ P') : T3 a w1 H la n0 n1 nb d dp Bm A m P' S W := by
  obtain ⟨p, v, h1, h2, h3⟩ := h.ma
  exact ⟨h.one, h.dis, ⟨p, v, Nat.le_trans h1 hP, h2, h3⟩, h.nm, h.arr, h.nA, h.mA, h.hm, h.hA, h.y0, h.z, h.bel⟩
/-- within an act: i of the three have done it -/
def In5 (a : String → Addr) (w1 : World) (H : Nat → Nat) (la n0 n1 nb d : Nat) (dp : Int) (Bm A lk j : Nat) (S : Nat → One) (F : Nat → Option Nat) (kd : Int) (ki vn hh E Ab : Nat) (i P : Nat) (W : World) : Prop :=
  ∃ S', T3 a w1 H la n0 n1 nb d dp Bm A 3 P S' W ∧ (∀ y, y < 3 → (S' y).F = (if y < i then actF F kd ki vn else F) ∧ (S' y).c ≤ lk + j + (if y < i then 1 else 0) ∧ (S' y).D = (S y).D) ∧ EBox E ki vn hh W ∧ W.cell? ⟨Ab, 0, none⟩ = some (.int .i64 kd) ∧ Oo Bm 3 S' E ∧ Oo Bm 3 S' Ab
set_option maxRecDepth 100000 in
set_option maxHeartbeats 4000000 in
theorem st_few (a : String → Addr) (n0 : Nat) (new depth : Int) (sh : Option Addr) (lh ch : Nat) (sk : Option Addr) (lk ck : Nat) (s2 : Option Addr) (lb cb : Nat) (hS : Short ⟨n0, new, depth, sh, lh, ch, sk, lk, ck⟩ n0) (hm : ¬ 60 < lb) (hf : ¬ wrap64 (6 * (n0 : Int)) < (lk : Int) + lb) (hn : ¬ new < (n0 : Int)) (hz : Nat → Nat) (kz : Nat → Int) (az : Nat → Ac) (w : World) (hw : Bq a w) (hH : HashAt sh lh w hz) (hK : IntsAt sk lk w kz) (hA : ActAt s2 lb w az) :
    Calls Tryz.prog 5 #[.agg #[.int .i64 n0, .int .i64 new, .int .i64 depth, .slice sh lh ch, .slice sk lk ck], .slice s2 lb cb] w fun e w' => e = .returned (.bool true) ∧ Below w.heap.size w w' := by
  have cA := fun W (hb : Below w.heap.size w W) => alive_any a W (hw.below hb)
  have hX0 := CBox.new ⟨n0, new, depth, sh, lh, ch, sk, lk, ck⟩ w
  have hb0 := new_block w (.cells #[.int .i64 n0, .int .i64 new, .int .i64 depth, .slice sh lh ch, .slice sk lk ck] 25)
  have cL := fun W => long_no hS W
  obtain ⟨g1, g2, k2, _, o0, l0, nw⟩ := hS
  simp only at *
  have hts := tab_some
  have d1 : decide (60 < (lb : Int)) = false := decide_eq_false (by omega)
  have d2 : decide (wrap64 (6 * (n0 : Int)) < (lk : Int) + lb) = false := decide_eq_false hf
  have d3 : decide (new < (n0 : Int)) = false := decide_eq_false hn
  have h6 : lk + lb ≤ 6 * n0 := by unfold wrap64 at hf; omega
  have hnp := okN_pos o0
  have HNW := Lib.hid nw
  have HW := Lib.hid hw
  have HH := Lib.hid hH
  have HK := Lib.hid hK
  have HA := Lib.hid hA
  clear hf hw hH hK hA nw
  go_enter Tryz.func5, Tryz.ntmps5
  go_wp2_with (first
    | (go_at_call 6; refine (cA _ hb0).mono ?_; rintro e w1 ⟨rfl, hb1⟩; have ⟨x0, x1, x2, x3, x4⟩ := CBox.all (hX0.keep hb1))
    | (go_at_call 7; refine (cL _).mono ?_; rintro e w2 ⟨rfl, hb2⟩; have ⟨y0, y1, y2, y3, y4⟩ := CBox.all ((hX0.keep hb1).keep hb2)))
  have hbw := under.below_step (under.below_step hb0 hb1) hb2
  have HW1 := Lib.hid (HW.out.below hbw)
  have HH1 := Lib.hid (HH.out.below hbw)
  have HHb := Lib.hid (show ∀ key, key < lh → hOf lh hz key < 18446744073709551616 from fun key hk => by
    rw [hOf_lt hk]
    obtain ⟨_, _, h, _⟩ := HH1.out key hk
    exact h)
  have HK1 := Lib.hid (HK.out.below hbw)
  have HA1 := Lib.hid (HA.out.below hbw)
  have HB1 := Lib.hid (fun W (hb : Below w2.heap.size w2 W) => under.below_step hbw hb)
  have hXl : w.heap.size < w2.heap.size := by have h1 := hb0.size; have h2 := hb1.size; have h3 := hb2.size; rw [World.size_alloc] at h1 h2; omega
  have HX2 := Lib.hid (fun W (hb : Below w2.heap.size w2 W) => ((hX0.keep hb1).keep hb2).keep hb)
  clear cA cL hX0 hb0 hb1 hb2 hbw HW HH HK HA x0 x1 x2 x3 x4 y0 y1 y2 y3 y4 d1 d2 d3
  generalize w.heap.size = X at HX2 hXl ⊢
  obtain ⟨d, nb, hnb⟩ : ∃ d nb : Nat, (depth < 0 ∧ nb = 1 ∧ d = 0) ∨ (depth = d ∧ nb = 2) := by
    by_cases hneg : depth < 0
    · exact ⟨0, 1, .inl ⟨hneg, rfl, rfl⟩⟩
    · exact ⟨depth.toNat, 2, .inr ⟨by omega, rfl⟩⟩
  have hT0 : T3 a w2 (hOf lh hz) lh n0 new.toNat nb d depth w2.heap.size (w2.heap.size + 1) 0 0 (fun _ => oneZ) ((w2.alloc (.cells #[.int .i64 0, .int .i64 0, .int .i64 0, .int .i64 0, .int .i64 0, .int .i64 0, .int .i64 0, .bool false] 36)).alloc (.cells #[.pointer none, .pointer none, .pointer none] 95)) := by
    have hr := World.alloc_heap_new (w2.alloc (.cells #[.int .i64 0, .int .i64 0, .int .i64 0, .int .i64 0, .int .i64 0, .int .i64 0, .int .i64 0, .bool false] 36)) (.cells #[.pointer none, .pointer none, .pointer none] 95)
    rw [World.size_alloc] at hr
    exact T3.zero w2 w2 _ _ (two_new w2 _ _) ((MAt.zero_new w2).below (new_block _ _)) hr (by omega) (Nat.le_refl _) (Nat.le_succ _)
  have HT0 := Lib.hid hT0
  have HNB := Lib.hid hnb
  obtain ⟨ks, hks⟩ : ∃ ks : Nat → Nat, ∀ k, ks k = kN (kz k) lh := ⟨_, fun _ => rfl⟩
  have HKS := Lib.hid hks
  clear hT0 hnb hks
  generalize (w2.alloc (.cells #[.int .i64 0, .int .i64 0, .int .i64 0, .int .i64 0, .int .i64 0, .int .i64 0, .int .i64 0, .bool false] 36)).alloc (.cells #[.pointer none, .pointer none, .pointer none] 95) = W0 at HT0 ⊢
  generalize w2.heap.size + 1 = A at HT0 ⊢
  generalize w2.heap.size = Bm at HT0 ⊢
  go_loopw [62] (fun i wr => ∃ m : Nat, m ≤ 3 ∧ i = .int .i64 m ∧ Hid (∃ S, T3 a w2 (hOf lh hz) lh n0 new.toNat nb d depth Bm A m 0 S wr ∧ (∀ x, x < m → (S x).F = FK ks lk ∧ (S x).c = lk) ∧ (0 < m → ∃ n1 : Nat, new = n1 ∧ okN n1))) (fun i _ => 3 - (intOf i).toNat)
  case atStart => exact ⟨0, by omega, rfl, Lib.hid ⟨_, HT0.out, fun x hx => by omega, fun h => by omega⟩⟩
  case round =>
    as_aux_lemma =>
      obtain ⟨m, hm3, rfl, HO⟩ := hrel
      rcases Nat.lt_or_ge m 3 with hml | hml
      · obtain ⟨S, hT, hSF, _⟩ := HO.out
        have hmi : (m : Int) < 3 := by omega
        have hmw : m + 1 ≤ 3 := by omega
        have ⟨y0, y1, y2, y3, y4⟩ := CBox.all (HX2.out wr hT.bel)
        have cT := table.new_yes n0 o0 wr
        have HT := Lib.hid hT
        have HSF := Lib.hid hSF
        clear hT hSF HT0 HO
        go_wp2_with (first
          | (go_at_call 40; refine cT.mono ?_; clear cT; rintro e w3 ⟨rfl, ht3, hb3⟩; have ⟨y0', y1', y2', y3', y4'⟩ := CBox.all (HX2.out w3 (under.below_step HT.out.bel hb3))))
        have hwr := HT.out.bel.size
        have hKC : KC a w2 (hOf lh hz) lh (wr.heap.size + 1) wr.heap.size n0 new.toNat 0 (Tb.new n0) (fun _ => none) w3 := ⟨lay1_start HW1.out rfl (Tb.Ok.new o0) ht3 (under.below_step HT.out.bel hb3) (by omega) hwr, .new o0 _, by show (0 : Int) + 0 ≤ 0; omega⟩
        have hf1 := HT.out.fresh (Nat.le_refl wr.heap.size)
        have hf2 := HT.out.fresh (Nat.le_succ wr.heap.size)
        have hTB : ∀ b ∈ [wr.heap.size + 1, wr.heap.size], w2.heap.size ≤ b ∧ (∀ i, i < m → b ∉ (S i).fp) ∧ b ≠ Bm ∧ b ≠ A := fun b hb => by
          rcases List.mem_cons.1 hb with rfl | hb
          · exact hf2
          · obtain rfl : b = wr.heap.size := by simpa using hb
            exact hf1
        have HTB := Lib.hid hTB
        have HC3 := Lib.hid (And.intro hKC (HT.out.read hb3))
        clear hKC hf1 hf2 hTB ht3 hb3 y0 y1 y2 y3 y4 y0' y1' y2' y3' hwr HT
        generalize wr.heap.size + 1 = T at HC3 HTB ⊢
        generalize wr.heap.size = B at HC3 HTB ⊢
        go_loopw [80] (fun i wx => ∃ k : Nat, k ≤ lk ∧ i = .int .i64 k ∧ Hid (∃ t0, KC a w2 (hOf lh hz) lh T B n0 new.toNat k t0 (FK ks k) wx ∧ T3 a w2 (hOf lh hz) lh n0 new.toNat nb d depth Bm A m 0 S wx)) (fun i _ => lk - (intOf i).toNat)
        case atStart => exact ⟨0, by omega, rfl, Lib.hid ⟨_, HC3.out⟩⟩
        case round =>
          as_aux_lemma =>
            obtain ⟨k, hk, rfl, HO⟩ := hrel
            rcases Nat.lt_or_ge k lk with hkl | hkl
            · obtain ⟨x, rfl, hx⟩ := HK1.out k hkl
              obtain ⟨t0, hKC, hT⟩ := HO.out
              have hki : (k : Int) < (lk : Int) := by omega
              have hkw : k + 1 ≤ lk := by omega
              have c0 := hx _ hKC.re.bel
              have hkz : kN (kz k) lh < lh := kN_lt _ g1
              have hzz : hz (kN (kz k) lh) < 18446744073709551616 := by obtain ⟨_, _, h, _⟩ := HH1.out _ hkz; exact h
              have cE := entry_any ⟨n0, new, depth, sh, lh, ch, some x, lk, ck⟩ hz g1 g2 (kz k) 5 wr (HH1.out.below hKC.re.bel)
              have cP := fun W (h : KC a w2 (hOf lh hz) lh T B n0 new.toNat k t0 (FK ks k) W) => h.put (by omega) (by omega) hkz (v := 5) (by rw [hOf_lt hkz]; exact hzz) (by decide)
              rw [hOf_lt hkz] at cP
              have hkk := HKS.out k
              simp only at cE
              generalize kN (kz k) lh = ki at *
              generalize hz ki = hh at *
              generalize kz k = zk at *
              have HKC := Lib.hid hKC
              have HT := Lib.hid hT
              have HKK := Lib.hid hkk
              have ⟨y0, y1, y2, y3, y4⟩ := CBox.all (HX2.out wr hKC.re.bel)
              clear hx hKC hT HO HC3 y4' hkk
              go_wp2_with (first
                | (go_at_call 9; refine cE.mono ?_; clear cE; rintro e w4 ⟨rfl, hb4⟩)
                | (go_at_call 41; refine (cP _ (HKC.out.read hb4)).mono ?_; rintro e w6 ⟨b6, t6, rfl, hp6, h6⟩))
              go_roundw
              case rel => exact ⟨k + 1, by omega, by simp, Lib.hid ⟨t6, by show KC _ _ _ _ _ _ _ _ _ _ (set (FK ks k) (ks k) (some 5)) _; rw [HKK.out]; exact h6, (HT.out.read hb4).aside hp6 HTB.out⟩⟩
              case measure => simp [intOf]; omega
            · obtain rfl : k = lk := by omega
              obtain ⟨t0, hKC, hT⟩ := HO.out
              have ⟨y0, y1, y2, y3, y4⟩ := CBox.all (HX2.out wr hKC.re.bel)
              have hRg := (HW1.out.below hKC.re.bel).six.two.range
              have hbk := hKC.re.bel
              clear HO HC3 y4'
              by_cases hd : 15 < depth
              · as_aux_lemma =>
                  have cD := new_deep 0 0 ⟨T, 0, none⟩ depth hd new wr _ hRg
                  have hdn := dual_none
                  clear hKC hT HNW
                  go_wp2_with (go_at_call 42; refine cD.mono ?_; rintro e w4 ⟨rfl, hb4⟩)
                  go_ret
                  exact ⟨rfl, HB1.out _ (under.below_step hbk hb4)⟩
              · by_cases hn : ∃ n1 : Nat, new = n1 ∧ okN n1
                · obtain ⟨n1, rfl, o1⟩ := hn
                  have h32 := HNW.out n1 rfl o1
                  have hnp1 := okN_pos o1
                  rw [Int.toNat_natCast] at hKC hT
                  have ld : d ≤ 15 := by have := HNB.out; omega
                  have cD := dual.new_yes a w2 wr T B n0 n1 d nb depth (kT t0 n1) hKC.re o0 o1 ld (by omega) (by have := HNB.out; omega) (fun j hj => kT_far hj)
                  have hds := dual_some
                  have HKC := Lib.hid hKC
                  have HT := Lib.hid hT
                  clear hKC hT hRg
                  go_wp2_with (fail)
                  refine cD.mono ?_
                  clear cD
                  rintro e w4 ⟨Y, D, fp, rfl, hN, hTe, hBe, hn0, hD, hb4, hfp, hDe⟩
                  clear hDe hTe hBe
                  have htm : 0 ≤ t0.tombs := by have h := (HKC.out.re.ok 0 Nat.one_pos).tombs; rw [show kT t0 n1 0 = t0 from rfl] at h; omega
                  have hlen := HKC.out.len
                  have hDM := DM.start (c := k) hD (by omega) HKC.out.rep (fun j hj => kT_far hj) (by show t0.len ≤ (k : Int); omega)
                  have hDR : DR a w2 (hOf lh hz) lh Y D n1 d depth 0 k (kT t0 n1) (FK ks k) fp w4 := ⟨hDM, fun _ => hlen⟩
                  have hT4 := HT.out.read hb4
                  have hff : ∀ b ∈ fp, (∀ i, i < m → b ∉ (S i).fp) ∧ b ≠ Bm ∧ b ≠ A := fun b hb => by
                    rcases hfp b hb with rfl | rfl | h
                    · exact (HTB.out _ (by simp)).2
                    · exact (HTB.out _ (by simp)).2
                    · exact (HT.out.fresh h).2
                  have cm := hT4.cellm hml
                  have cf := hT4.fz m
                  have H4 := Lib.hid (And.intro hDR (And.intro hT4 (And.intro hff (And.intro hn0 hN))))
                  clear hDM hDR hT4 hff hD hfp hn0 hN hlen htm hb4 HKC HT
                  go_wp2_with (fail)
                  go_roundw
                  case rel => exact ⟨m + 1, by omega, by simp, Lib.hid ⟨_, H4.out.2.1.add hml ⟨Y, D, 0, k, kT t0 n1, FK ks k, fp⟩ H4.out.1 rfl ⟨H4.out.2.2.2.1, H4.out.2.2.2.2⟩ H4.out.2.2.1, fun x hx => (by
                    by_cases e : x = m
                    · subst e; rw [upS_same]; exact ⟨rfl, rfl⟩
                    · rw [upS_ne _ _ e]; exact HSF.out x (by omega)), fun _ => ⟨n1, rfl, o1⟩⟩⟩
                  case measure => simp [intOf]; omega
                · as_aux_lemma =>
                    have cD := new_far T B t0 depth (by omega) new hn wr (hKC.re.at' 0 Nat.one_pos) _ hRg
                    have hdn := dual_none
                    clear hKC hT HNW
                    go_wp2_with (go_at_call 42; refine cD.mono ?_; rintro e w4 ⟨rfl, hb4⟩)
                    go_ret
                    exact ⟨rfl, HB1.out _ (under.below_step hbk hb4)⟩
      · obtain rfl : m = 3 := by omega
        obtain ⟨S, hT, hSF, hex⟩ := HO.out
        obtain ⟨n1, rfl, o1⟩ := hex (by omega)
        rw [Int.toNat_natCast] at hT
        have h32 := HNW.out n1 rfl o1
        have hnp1 := okN_pos o1
        have h01 : n0 ≤ n1 := by omega
        obtain ⟨g, hg⟩ : ∃ g, n0 + nb * n1 = g := ⟨_, rfl⟩
        have HG := Lib.hid hg
        have HS := Lib.hid (show ∃ S, T3 a w2 (hOf lh hz) lh n0 n1 nb d depth Bm A 3 0 S wr ∧ (∀ x, x < 3 → (S x).F = FK ks lk ∧ (S x).c ≤ lk) ∧ g - (S 0).q ≤ g from ⟨S, hT, fun x hx => ⟨(hSF x hx).1, Nat.le_of_eq (hSF x hx).2⟩, Nat.sub_le _ _⟩)
        clear hT hSF hg HT0 HO hex hts
        go_wp2
        go_loopg [120] g (fun k b wx => Hid (∃ S, T3 a w2 (hOf lh hz) lh n0 n1 nb d depth Bm A 3 0 S wx ∧ (∀ x, x < 3 → (S x).F = FK ks lk ∧ (S x).c ≤ lk) ∧ g - (S 0).q ≤ k))
        case atStart => exact HS
        case round =>
          as_aux_lemma =>
            have HR := hrel
            clear hrel
            obtain ⟨S, hT, hSF, hgk⟩ := HR.out
            have c0 := hT.cellm (i := 0) (by omega)
            rw [pv_in (by omega)] at c0
            have cS := hT.step (by omega) HHb.out (i := 0) (by omega) (by omega) (by have := (hSF 0 (by omega)).2; omega) (by omega)
            rw [HG.out] at cS
            have HSF := Lib.hid hSF
            clear hSF HR HS
            by_cases hq : (S 0).q < g
            · rw [decide_eq_true hq, if_pos hq] at cS
              clear hT
              go_wp2_with (go_at_call 31; refine cS.mono ?_; clear cS; rintro e w8 ⟨x, rfl, f1, f2, f3, f4, h8, hp8, hf8⟩)
              go_roundg (gk - 1)
              case measure => omega
              case rel => exact Lib.hid ⟨_, h8, allF HSF.out (by omega) f1 f2, by rw [upS_same, f4]; omega⟩
            · rw [decide_eq_false hq, if_neg hq] at cS
              clear hT
              go_wp2_with (go_at_call 31; refine cS.mono ?_; clear cS; rintro e w8 ⟨x, rfl, f1, f2, f3, f4, h8, hp8, hf8⟩)
              have HQ := Lib.hid (show ∃ F S, T3 a w2 (hOf lh hz) lh n0 n1 nb d depth Bm A 3 (400 * 0) S w8 ∧ (∀ x, x < 3 → (S x).F = F ∧ (S x).c ≤ lk + 0) from ⟨_, _, h8, allF HSF.out (by omega) f1 f2⟩)
              clear h8 hp8 hf8 f1 f2 f3 f4 HSF hgk c0 hq x
              go_loopw [123] (fun i wx => ∃ j : Nat, j ≤ lb ∧ i = .int .i64 j ∧ Hid (∃ F S, T3 a w2 (hOf lh hz) lh n0 n1 nb d depth Bm A 3 (400 * j) S wx ∧ ∀ x, x < 3 → (S x).F = F ∧ (S x).c ≤ lk + j)) (fun i _ => lb - (intOf i).toNat)
              case atStart => exact ⟨0, by omega, rfl, HQ⟩
              case round =>
                as_aux_lemma =>
                  obtain ⟨j, hj, rfl, HO⟩ := hrel
                  rcases Nat.lt_or_ge j lb with hjl | hjl
                  · obtain ⟨⟨x, rfl, hcs⟩, b1, b2, b3, b4⟩ := HA1.out j hjl
                    obtain ⟨F, S, hT, hSF⟩ := HO.out
                    obtain ⟨c0, c1, c2⟩ := hcs _ hT.bel
                    have hki : (j : Int) < (lb : Int) := by omega
                    have hkw : j + 1 ≤ lb := by omega
                    have hkz : kN (az j).key lh < lh := kN_lt _ g1
                    have hzz : hz (kN (az j).key lh) < 18446744073709551616 := by obtain ⟨_, _, h, _⟩ := HH1.out _ hkz; exact h
                    have hbA := new_block wr (.cells #[.int .i64 (az j).kind, .int .i64 (az j).key, .int .i64 (az j).n] 40)
                    have cE := entry_any ⟨n0, n1, depth, sh, lh, ch, sk, lk, ck⟩ hz g1 g2 (az j).key (uN (az j).n) _ (HH1.out.below (under.below_step hT.bel hbA))
                    have hvn := uN_lt (az j).n
                    have eH : hOf lh hz (kN (az j).key lh) = hz (kN (az j).key lh) := hOf_lt hkz
                    have e1 := uN_cast (az j).n
                    simp only at cE
                    generalize kN (az j).key lh = ki at *
                    generalize hz ki = hh at *
                    generalize (az j).kind = kd at *
                    generalize (az j).key = ky at *
                    generalize uN (az j).n = vn at *
                    generalize (az j).n = nn at *
                    have ⟨y0, y1, y2, y3, y4⟩ := CBox.all (HX2.out _ (under.below_step hT.bel hbA))
                    have ⟨a0, a1, a2⟩ := act3 kd ky nn wr
                    have HE := Lib.hid eH
                    have HT := Lib.hid hT
                    have HSF := Lib.hid hSF
                    clear hT hSF HO hcs b1 b2 b3 b4 eH HQ
                    go_wp2_with (first
                      | (go_at_call 9; refine cE.mono ?_; clear cE; rintro e w4 ⟨rfl, hb4⟩; have hF4 := (HT.out.read hbA).read hb4; have hV4 := EBox.new ki vn hh w4; have hF5 := hF4.read (new_block w4 (.cells #[.int .u64 (ki : Nat), .int .u64 (vn : Nat), .int .u64 (hh : Nat)] 43)); have x0 := keepc (new_block w4 (.cells #[.int .u64 (ki : Nat), .int .u64 (vn : Nat), .int .u64 (hh : Nat)] 43)) (keepc hb4 a0); have hz4 := hb4.size; have ⟨q0, q1, q2⟩ := hF5.cell; rw [pv_in (by decide)] at q0 q1 q2))
                    have hA4 : wr.heap.size < w4.heap.size := by rw [World.size_alloc] at hz4; omega
                    have oE := hF4.oo (Nat.le_refl w4.heap.size)
                    have oA := HT.out.oo (Nat.le_refl wr.heap.size)
                    have H5 := Lib.hid (show In5 a w2 (hOf lh hz) lh n0 n1 nb d depth Bm A lk j S F kd ki vn hh w4.heap.size wr.heap.size 0 (400 * j + 128 * 0) _ from ⟨S, hF5, fun y hy => by rw [if_neg (by omega), if_neg (by omega)]; exact ⟨(HSF.out y hy).1, (HSF.out y hy).2, rfl⟩, hV4, x0, oE, oA⟩)
                    clear HT HSF hF4 hF5 hV4 x0 hz4 hA4 oE oA hb4 hbA y0 y1 y2 y3 y4 a0 a1 a2 q0 q1 q2 c0 c1 c2 e1
                    generalize w4.alloc (.cells #[.int .u64 (ki : Nat), .int .u64 (vn : Nat), .int .u64 (hh : Nat)] 43) = w7 at *
                    generalize w4.heap.size = E at *
                    generalize wr.heap.size = Ab at *
                    go_loopw [135] (fun i wx => ∃ i' : Nat, i' ≤ 3 ∧ i = .int .i64 i' ∧ Hid (In5 a w2 (hOf lh hz) lh n0 n1 nb d depth Bm A lk j S F kd ki vn hh E Ab i' (400 * j + 128 * i') wx)) (fun i _ => 3 - (intOf i).toNat)
                    case atStart => exact ⟨0, by omega, rfl, H5⟩
                    case round =>
                      as_aux_lemma =>
                        obtain ⟨i, hi3, rfl, HI⟩ := hrel
                        clear H5
                        rcases Nat.lt_or_ge i 3 with hil | hil
                        · have hii : (i : Int) < 3 := by omega
                          have hiw : i + 1 ≤ 3 := by omega
                          go_upto_region 32 with (fail)
                          go_cut [18, 19] from 136 to 171 (fun s18 s19 wx => s18 = .int .i64 i ∧ s19 = .pointer (some ⟨(S i).D, 0, none⟩) ∧ wx = wr)
                          case first =>
                            obtain rfl | rfl | rfl : i = 0 ∨ i = 1 ∨ i = 2 := by omega
                            all_goals (have h0 := idx0; have h1 := idx1; have h2 := idx2; go_wp2; go_meet; case rel => exact ⟨rfl, rfl, rfl⟩)
                          case rest =>
                            as_aux_lemma =>
                              obtain ⟨rfl, rfl, rfl⟩ := hcut
                              obtain ⟨S', hT, hS, hV, hk0, oE, oA⟩ := HI.out
                              have lE := hV.lt
                              have lA := World.block_lt_of_cell? _ _ hk0
                              obtain ⟨hSF, hSc, hSD⟩ := hS i hil
                              rw [if_neg (Nat.lt_irrefl i)] at hSF hSc
                              have HT := Lib.hid hT
                              have HS' := Lib.hid hS
                              have HV := Lib.hid hV
                              have HoE := Lib.hid oE
                              have HoA := Lib.hid oA
                              have hni := HoE.out.not hil
                              have hna := HoA.out.not hil
                              have HK0 := Lib.hid hk0
                              clear hT hS hV oE oA HI
                              go_upto_block 10 with (fail)
                              go_cut [20, 21] from 136 to 171 (fun s20 s21 wx => Hid (In5 a w2 (hOf lh hz) lh n0 n1 nb d depth Bm A lk j S F kd ki vn hh E Ab (i + 1) (400 * j + 128 * (i + 1)) wx))
                              case first =>
                                as_aux_lemma =>
                                  by_cases k0 : kd = 0
                                  · subst k0
                                    have cP := fun W (h : T3 a w2 (hOf lh hz) lh n0 n1 nb d depth Bm A 3 (400 * j + 128 * i) S' W) => h.put (by omega) HHb.out hil hil (by omega) (by omega) hkz hvn (by omega)
                                    rw [HE.out, hSD] at cP
                                    have r0 := Under.cell HV.out.c0
                                    have r1 := Under.cell HV.out.c1
                                    have r2 := Under.cell HV.out.c2
                                    go_upto_region 35 with (fail)
                                    refine one.wp_region_one 4 _ (by kernel_rfl) (by kernel_rfl) rfl ?_
                                    simp only [List.take_succ_cons, List.take_zero, List.drop_succ_cons, List.drop_zero]
                                    repeat (quiet_step (first
                                      | (go_at_call 13; (with_reducible refine under_call (probing_any _ _ _)))))
                                    refine wpQuiet_nil ?_
                                    intro y Kc hKc
                                    have cPy := cP _ (HT.out.read y.below)
                                    have hV8 := HV.out.keep y.below
                                    have hk8 := keepc y.below HK0.out
                                    clear r0 r1 r2 cP
                                    generalize y.W = w8 at *
                                    go_simp
                                    refine cPy.mono ?_
                                    clear cPy
                                    rintro e w9 ⟨x9, b9, rfl, f1, f2, f3, f4, h9, hp9, hf9⟩
                                    have hV9 := hV8.past hp9 hni
                                    have hk9 := hp9.cell hk8 hna
                                    have oE9 := HoE.out.upd hil hV8.lt hf9
                                    have oA9 := HoA.out.upd hil (World.block_lt_of_cell? _ _ hk8) hf9
                                    go_simp
                                    refine hKc _ _ ?_
                                    clear hKc Kc hp9 hV8 hk8 hf9
                                    repeat (quiet_step (fail))
                                    refine wpQuiet_nil ?_
                                    intro y3
                                    have HN := Lib.hid (show In5 a w2 (hOf lh hz) lh n0 n1 nb d depth Bm A lk j S F 0 ki vn hh E Ab (i + 1) (400 * j + 128 * (i + 1)) y3.W from ⟨_, (h9.moreP (by omega)).read y3.below, actN HS'.out (by rw [f1, hSF]; rfl) (by rw [f2]; omega) f3, hV9.keep y3.below, keepc y3.below hk9, oE9, oA9⟩)
                                    clear h9 hV9 hk9 oE9 oA9 f1 f2 f3 f4
                                    generalize y3.W = w10 at *
                                    go_wp2_with (fail)
                                    go_meet
                                    case rel => exact HN
                                  · by_cases k2 : kd = 2
                                    · subst k2
                                      have cP := fun W (h : T3 a w2 (hOf lh hz) lh n0 n1 nb d depth Bm A 3 (400 * j + 128 * i) S' W) => h.delete (by omega) HHb.out hil hil hkz (by omega)
                                      rw [HE.out, hSD] at cP
                                      have r0 := Under.cell HV.out.c0
                                      have r2 := Under.cell HV.out.c2
                                      go_upto_region 39 with (fail)
                                      refine one.wp_region_one 7 _ (by kernel_rfl) (by kernel_rfl) rfl ?_
                                      simp only [List.take_succ_cons, List.take_zero, List.drop_succ_cons, List.drop_zero]
                                      repeat (quiet_step (first
                                        | (go_at_call 13; (with_reducible refine under_call (probing_any _ _ _)))))
                                      refine wpQuiet_nil ?_
                                      intro y Kc hKc
                                      have cPy := cP _ (HT.out.read y.below)
                                      have hV8 := HV.out.keep y.below
                                      have hk8 := keepc y.below HK0.out
                                      clear r0 r2 cP
                                      generalize y.W = w8 at *
                                      go_simp
                                      refine cPy.mono ?_
                                      clear cPy
                                      rintro e w9 ⟨x9, y9, z9, rfl, f1, f2, f3, f4, h9, hp9, hf9⟩
                                      have hV9 := hV8.past hp9 hni
                                      have hk9 := hp9.cell hk8 hna
                                      have oE9 := HoE.out.upd hil hV8.lt hf9
                                      have oA9 := HoA.out.upd hil (World.block_lt_of_cell? _ _ hk8) hf9
                                      go_simp
                                      refine hKc _ _ ?_
                                      clear hKc Kc hp9 hV8 hk8 hf9
                                      repeat (quiet_step (fail))
                                      refine wpQuiet_nil ?_
                                      intro y3
                                      have HN := Lib.hid (show In5 a w2 (hOf lh hz) lh n0 n1 nb d depth Bm A lk j S F 2 ki vn hh E Ab (i + 1) (400 * j + 128 * (i + 1)) y3.W from ⟨_, (h9.moreP (by omega)).read y3.below, actN HS'.out (by rw [f1, hSF]; rfl) (by rw [f2]; omega) f3, hV9.keep y3.below, keepc y3.below hk9, oE9, oA9⟩)
                                      clear h9 hV9 hk9 oE9 oA9 f1 f2 f3 f4
                                      generalize y3.W = w10 at *
                                      go_wp2_with (fail)
                                      go_meet
                                      case rel => exact HN
                                    · have e0 : (kd == 0) = false := beq_eq_false_iff_ne.2 k0
                                      have e2 : (kd == 2) = false := beq_eq_false_iff_ne.2 k2
                                      have HN := Lib.hid (show In5 a w2 (hOf lh hz) lh n0 n1 nb d depth Bm A lk j S F kd ki vn hh E Ab (i + 1) (400 * j + 128 * (i + 1)) wc from ⟨upS S' i (S' i), by rw [upS_self]; exact HT.out.moreP (by omega), actN HS'.out (by rw [hSF]; unfold actF; rw [if_neg k0, if_neg k2]) (by omega) hSD, HV.out, HK0.out, by rw [upS_self]; exact HoE.out, by rw [upS_self]; exact HoA.out⟩)
                                      go_wp2
                                      go_meet
                                      case rel => exact HN
                              case rest =>
                                as_aux_lemma =>
                                  have HC := hcut
                                  clear hcut HT HS' HV HoE HoA hni hna HK0 hSF hSc hSD
                                  by_cases e1 : i = 1
                                  · subst e1
                                    obtain ⟨S2, hT, hS, hV, hk0, oE, oA⟩ := HC.out
                                    have cS := hT.step (by omega) HHb.out (i := 1) (by omega) (by omega) (by have := (hS 1 (by omega)).2.1; rw [if_pos (by omega)] at this; omega) (by omega)
                                    rw [(hS 1 (by omega)).2.2] at cS
                                    have HSS := Lib.hid hS
                                    have HVV := Lib.hid hV
                                    have HOO := Lib.hid (And.intro hk0 (And.intro oE oA))
                                    clear hT hS hV hk0 oE oA HC
                                    go_wp2_with (go_at_call 31; refine cS.mono ?_; clear cS; rintro e w8 ⟨x, rfl, f1, f2, f3, f4, h8, hp8, hf8⟩)
                                    have HN := Lib.hid (show In5 a w2 (hOf lh hz) lh n0 n1 nb d depth Bm A lk j S F kd ki vn hh E Ab (1 + 1) (400 * j + 128 * (1 + 1)) w8 from ⟨_, h8, actS HSS.out (by omega) f1 f2 (f3.trans (HSS.out 1 (by omega)).2.2.symm), HVV.out.past hp8 (HOO.out.2.1.not (by omega)), hp8.cell HOO.out.1 (HOO.out.2.2.not (by omega)), HOO.out.2.1.upd (by omega) HVV.out.lt hf8, HOO.out.2.2.upd (by omega) (World.block_lt_of_cell? _ _ HOO.out.1) hf8⟩)
                                    go_roundw
                                    case rel => exact ⟨1 + 1, by omega, by simp, HN⟩
                                    case measure => simp [intOf]
                                  · have e2 : ((i : Int) == 1) = false := beq_eq_false_iff_ne.2 (by omega)
                                    go_wp2
                                    go_roundw
                                    case rel => exact ⟨i + 1, by omega, by simp, HC⟩
                                    case measure => simp [intOf]; omega
                        · obtain rfl : i = 3 := by omega
                          go_wp2
                          go_roundw
                          case rel => exact ⟨j + 1, by omega, by simp, Lib.hid (by
                            obtain ⟨S', hT, hS, _⟩ := HI.out
                            exact ⟨_, S', hT.moreP (by omega), fun y hy => by
                              obtain ⟨h1, h2, _⟩ := hS y hy
                              rw [if_pos hy] at h1 h2
                              exact ⟨h1, h2⟩⟩)⟩
                          case measure => simp [intOf]; omega
                  · obtain rfl : j = lb := by omega
                    obtain ⟨F, S, hT, hSF⟩ := HO.out
                    have HS6 := Lib.hid (show ∃ S, T3 a w2 (hOf lh hz) lh n0 n1 nb d depth Bm A 3 (400 * j) S wr ∧ (∀ x, x < 3 → (S x).F = F ∧ (S x).c ≤ lk + j) ∧ ∀ x, x < 0 → (S x).q = g from ⟨S, hT, hSF, fun x hx => by omega⟩)
                    clear hT hSF HO HQ
                    go_wp2
                    go_loopw [173] (fun i wx => ∃ m : Nat, m ≤ 3 ∧ i = .int .i64 m ∧ Hid (∃ S, T3 a w2 (hOf lh hz) lh n0 n1 nb d depth Bm A 3 (400 * j) S wx ∧ (∀ x, x < 3 → (S x).F = F ∧ (S x).c ≤ lk + j) ∧ ∀ x, x < m → (S x).q = g)) (fun i _ => 3 - (intOf i).toNat)
                    case atStart => exact ⟨0, by omega, rfl, HS6⟩
                    case round =>
                      as_aux_lemma =>
                        obtain ⟨m, hm3, rfl, HM⟩ := hrel
                        clear HS6
                        rcases Nat.lt_or_ge m 3 with hml | hml
                        · have hmi : (m : Int) < 3 := by omega
                          have hmw : m + 1 ≤ 3 := by omega
                          have HS7 := Lib.hid (show ∃ S, T3 a w2 (hOf lh hz) lh n0 n1 nb d depth Bm A 3 (400 * j) S wr ∧ (∀ x, x < 3 → (S x).F = F ∧ (S x).c ≤ lk + j) ∧ (∀ x, x < m → (S x).q = g) ∧ g - (S m).q ≤ g from by
                            obtain ⟨S, h1, h2, h3⟩ := HM.out
                            exact ⟨S, h1, h2, h3, Nat.sub_le _ _⟩)
                          clear HM
                          go_wp2
                          go_loopg [176] g (fun k b wx => Hid (∃ S, T3 a w2 (hOf lh hz) lh n0 n1 nb d depth Bm A 3 (400 * j) S wx ∧ (∀ x, x < 3 → (S x).F = F ∧ (S x).c ≤ lk + j) ∧ (∀ x, x < m → (S x).q = g) ∧ g - (S m).q ≤ k))
                          case atStart => exact HS7
                          case round =>
                            as_aux_lemma =>
                              have HR := hrel
                              clear hrel HS7
                              obtain ⟨S, hT, hSF, hSq, hgk⟩ := HR.out
                              have c0 := hT.cellm hml
                              rw [pv_in hml] at c0
                              have cS := hT.step (by omega) HHb.out hml hml (by have := (hSF m hml).2; omega) (by omega)
                              rw [HG.out] at cS
                              have hqm := (hT.one m hml).dm.da.le
                              rw [hT.ge hml, HG.out] at hqm
                              have HSF := Lib.hid (And.intro hSF hSq)
                              clear hSF HR hT hSq
                              by_cases hq : (S m).q < g
                              · rw [decide_eq_true hq, if_pos hq] at cS
                                go_wp2_with (go_at_call 31; refine cS.mono ?_; clear cS; rintro e w8 ⟨x, rfl, f1, f2, f3, f4, h8, hp8, hf8⟩)
                                go_roundg (gk - 1)
                                case measure => omega
                                case rel => exact Lib.hid ⟨_, h8, allF HSF.out.1 hml f1 f2, fun y hy => by rw [upS_ne _ _ (by omega)]; exact HSF.out.2 y hy, by rw [upS_same, f4]; omega⟩
                              · rw [decide_eq_false hq, if_neg hq] at cS
                                go_wp2_with (go_at_call 31; refine cS.mono ?_; clear cS; rintro e w8 ⟨x, rfl, f1, f2, f3, f4, h8, hp8, hf8⟩)
                                go_roundw
                                case rel => exact ⟨m + 1, by omega, by simp, Lib.hid ⟨_, h8, allF HSF.out.1 hml f1 f2, fun y hy => by
                                  by_cases e : y = m
                                  · subst e; rw [upS_same, f4]; omega
                                  · rw [upS_ne _ _ e]; exact HSF.out.2 y (by omega)⟩⟩
                                case measure => simp [intOf]; omega
                        · obtain rfl : m = 3 := by omega
                          obtain ⟨S, hT, hSF, hSq⟩ := HM.out
                          have HT8 := Lib.hid hT
                          have HSF := Lib.hid (And.intro hSF hSq)
                          have ⟨y0, y1, y2, y3, y4⟩ := CBox.all (HX2.out _ hT.bel)
                          clear hT hSF hSq HM
                          go_wp2
                          go_loopw [185] (fun i wx => ∃ m : Nat, m ≤ lh ∧ i = .int .i64 m ∧ Hid (T3 a w2 (hOf lh hz) lh n0 n1 nb d depth Bm A 3 (400 * j) S wx)) (fun i _ => lh - (intOf i).toNat)
                          case atStart => exact ⟨0, by omega, rfl, HT8⟩
                          case round =>
                            as_aux_lemma =>
                              obtain ⟨m, hm', rfl, HJ⟩ := hrel
                              rcases Nat.lt_or_ge m lh with hml | hml
                              · have hmi : (m : Int) < (lh : Int) := by omega
                                obtain ⟨xh, rfl, hzm, hx⟩ := HH1.out m hml
                                have cF := fun i (hi : i < 3) W (h : T3 a w2 (hOf lh hz) lh n0 n1 nb d depth Bm A 3 (400 * j) S W) => h.find (by omega) HHb.out hi hml
                                have c0 := fun W (h : T3 a w2 (hOf lh hz) lh n0 n1 nb d depth Bm A 3 (400 * j) S W) => h.cellm (i := 0) (by omega)
                                have c1 := fun W (h : T3 a w2 (hOf lh hz) lh n0 n1 nb d depth Bm A 3 (400 * j) S W) => h.cellm (i := 1) (by omega)
                                have c2 := fun W (h : T3 a w2 (hOf lh hz) lh n0 n1 nb d depth Bm A 3 (400 * j) S W) => h.cellm (i := 2) (by omega)
                                rw [pv_in (by omega)] at c0 c1 c2
                                have cF0 := cF 0 (by omega)
                                have cF1 := cF 1 (by omega)
                                have cF2 := cF 2 (by omega)
                                rw [hOf_lt hml, (HSF.out.1 0 (by omega)).1] at cF0
                                rw [hOf_lt hml, (HSF.out.1 1 (by omega)).1] at cF1
                                rw [hOf_lt hml, (HSF.out.1 2 (by omega)).1] at cF2
                                have hwm := u64_small m (by omega)
                                have d0 := hx _ HJ.out.bel
                                generalize hz m = hh' at *
                                generalize (eOf F (hOf lh hz) m).key = ek at *
                                generalize (eOf F (hOf lh hz) m).val = ev at *
                                generalize (eOf F (hOf lh hz) m).hash = eh at *
                                generalize (F m).isSome = fb at *
                                have C0 := Lib.hid c0
                                have C1 := Lib.hid c1
                                have C2 := Lib.hid c2
                                have s0 := c0 _ HJ.out
                                clear hx cF c0 c1 c2 HT8 y0 y1 y2 y3 y4
                                go_wp2_with (first
                                  | (go_at_call 18; refine (cF0 _ HJ.out).mono ?_; clear cF0; rintro e w5 ⟨rfl, hb5⟩; have h6 := (HJ.out.read hb5).read (new_block w5 (.cells #[.int .u64 (ek : Nat), .int .u64 (ev : Nat), .int .u64 (eh : Nat)] 43)); have hX6 := EBox.new ek ev eh w5; have s1 := C1.out _ h6)
                                  | (go_at_call 18; refine (cF1 _ h6).mono ?_; clear cF1; rintro e w7 ⟨rfl, hb7⟩; have h8 := (h6.read hb7).read (new_block w7 (.cells #[.int .u64 (ek : Nat), .int .u64 (ev : Nat), .int .u64 (eh : Nat)] 43)); have hX8 := EBox.new ek ev eh w7; have hX68 := (hX6.keep hb7).keep (new_block w7 (.cells #[.int .u64 (ek : Nat), .int .u64 (ev : Nat), .int .u64 (eh : Nat)] 43)); have s2 := C2.out _ h8)
                                  | (go_at_call 18; refine (cF2 _ h8).mono ?_; clear cF2; rintro e w9 ⟨rfl, hb9⟩; have h10 := (h8.read hb9).read (new_block w9 (.cells #[.int .u64 (ek : Nat), .int .u64 (ev : Nat), .int .u64 (eh : Nat)] 43)); have hX10 := EBox.new ek ev eh w9; have hX610 := (hX68.keep hb9).keep (new_block w9 (.cells #[.int .u64 (ek : Nat), .int .u64 (ev : Nat), .int .u64 (eh : Nat)] 43)); have hX810 := (hX8.keep hb9).keep (new_block w9 (.cells #[.int .u64 (ek : Nat), .int .u64 (ev : Nat), .int .u64 (eh : Nat)] 43)); have u0 := hX10.c0; have u1 := hX10.c1; have u2 := hX10.c2; have v0 := hX610.c0; have v1 := hX610.c1; have v2 := hX610.c2; have t0 := hX810.c0; have t1 := hX810.c1; have t2 := hX810.c2))
                                have HN := Lib.hid h10
                                clear h6 h8 h10 hX6 hX8 hX10 hX68 hX610 hX810 u0 u1 u2 v0 v1 v2 t0 t1 t2 s0 s1 s2 hb5 hb7 hb9
                                generalize w9.alloc (.cells #[.int .u64 (ek : Nat), .int .u64 (ev : Nat), .int .u64 (eh : Nat)] 43) = w10 at HN ⊢
                                go_roundw
                                case rel =>
                                  repeat (apply Exists.intro)
                                  refine ⟨?_, rfl⟩
                                  exact ⟨m + 1, by omega, by simp, HN⟩
                                case measure => simp [intOf]; omega
                              · obtain rfl : m = lh := by omega
                                have hq0 := HSF.out.2 0 (by omega)
                                have cL0 := fun (n : Under wr) => (HJ.out.read n.below).len (i := 0) (by omega) (by rw [HSF.out.2 0 (by omega), HG.out])
                                have cL1 := fun (n : Under wr) => (HJ.out.read n.below).len (i := 1) (by omega) (by rw [HSF.out.2 1 (by omega), HG.out])
                                have cL2 := fun (n : Under wr) => (HJ.out.read n.below).len (i := 2) (by omega) (by rw [HSF.out.2 2 (by omega), HG.out])
                                have cLf := fun (n : Under wr) => (HJ.out.read n.below).left (i := 0) (by omega)
                                rw [(HSF.out.1 0 (by omega)).1] at cL0
                                rw [(HSF.out.1 1 (by omega)).1] at cL1
                                rw [(HSF.out.1 2 (by omega)).1] at cL2
                                rw [HSF.out.2 0 (by omega), HG.out, Nat.sub_self] at cLf
                                have c0 := HJ.out.cellm (i := 0) (by omega)
                                have c1 := HJ.out.cellm (i := 1) (by omega)
                                have c2 := HJ.out.cellm (i := 2) (by omega)
                                rw [pv_in (by omega)] at c0 c1 c2
                                have r0 := Under.cell c0
                                have r1 := Under.cell c1
                                have r2 := Under.cell c2
                                have HB := HJ.out.bel
                                generalize cntM m F = cn at *
                                clear HT8 y0 y1 y2 y3 y4 HJ
                                go_upto_region 58 with (fail)
                                refine wp_region_any (by kernel_rfl) ?_
                                refine wpAny_head (C := fun w' => ∃ q : Under wr, w' = q.W) (g := 0) [true, true, true, true, true, true, true, true, true, true, true, true, true, true, true, true, true, true, true, true, true, true, true] (by kernel_rfl) ⟨⟨_, under.drew_below wr⟩, rfl⟩ ?_
                                simp only [sel, setAll]
                                repeat (quiet_step (first
                                  | (go_at_call 38; (with_reducible refine under_call (cL0 _)))
                                  | (go_at_call 38; (with_reducible refine under_call (cL1 _)))
                                  | (go_at_call 38; (with_reducible refine under_call (cL2 _)))
                                  | (go_at_call 36; (with_reducible refine under_call (cLf _)))))
                                refine wpQuiet_nil ?_
                                rintro _ ⟨q, rfl⟩
                                refine wpAny_done (by kernel_rfl) ?_ _
                                go_wp2
                                go_ret
                                exact ⟨rfl, HB1.out _ (under.below_step HB q.below)⟩
theorem steps_law (a : String → Addr) (old new depth : Int) (sh : Option Addr) (lh ch : Nat) (sk : Option Addr) (lk ck : Nat) (s2 : Option Addr) (lb cb : Nat) (hz : Nat → Nat) (kz : Nat → Int) (az : Nat → Ac) (w : World) (hw : Bq a w) (hH : HashAt sh lh w hz) (hK : IntsAt sk lk w kz) (hA : ActAt s2 lb w az) :
    Calls Tryz.prog 5 #[.agg #[.int .i64 old, .int .i64 new, .int .i64 depth, .slice sh lh ch, .slice sk lk ck], .slice s2 lb cb] w fun e w' => e = .returned (.bool true) ∧ Below w.heap.size w w' := by
  by_cases hl : ∃ n0, Short ⟨old, new, depth, sh, lh, ch, sk, lk, ck⟩ n0
  · obtain ⟨n0, hS⟩ := hl
    by_cases hm : 60 < lb
    · exact st_more a ⟨old, new, depth, sh, lh, ch, sk, lk, ck⟩ s2 lb cb n0 hS hm w hw
    · by_cases hf : wrap64 (6 * old) < (lk : Int) + lb
      · exact st_full a ⟨old, new, depth, sh, lh, ch, sk, lk, ck⟩ s2 lb cb n0 hS hm hf w hw
      · by_cases hn : new < old
        · exact st_small a ⟨old, new, depth, sh, lh, ch, sk, lk, ck⟩ s2 lb cb n0 hS hm hf hn w hw
        · obtain rfl : old = n0 := hS.e0
          exact st_few a n0 new depth sh lh ch sk lk ck s2 lb cb hS hm hf hn hz kz az w hw hH hK hA
  · exact st_long a ⟨old, new, depth, sh, lh, ch, sk, lk, ck⟩ s2 lb cb hl w hw
end Go.Proofs.YteedbnoefnlidaaGreatDoor.dual
