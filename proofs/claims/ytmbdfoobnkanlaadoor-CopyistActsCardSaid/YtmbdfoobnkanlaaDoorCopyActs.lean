/- CopyActs: the real copyist and the document's beside each other; the walk of CopyistActs. -/
import Derived.Test.YtmbdfoobnkanlaaDoorCopyBegun
namespace Go.Proofs.YtmbdfoobnkanlaaDoor.copyist
open Go.ChangeShapes Go.WideShapes Go.ChangeAt Go.RowKit split trap errs dir meter
set_option linter.unusedSimpArgs false
set_option linter.unusedVariables false

/-- both, all new since w0 -/
structure Sd (C A N B R D G d : Nat) (f1 : Nat → Nat) (k1 : Nat) (f2 : Nat → Nat) (k2 : Nat) (w0 W : World) : Prop where
  r : Rl C A N B d f1 k1 false w0 W
  q : QAt R D G d f2 k2 false W
  lr : w0.heap.size ≤ R
  ld : w0.heap.size ≤ D
  lg : w0.heap.size ≤ G
  rest : ∀ x ∈ [R, D, G], x ≠ C ∧ x ≠ A ∧ x ≠ N ∧ x ≠ B
section
variable {C A N B R D G d k1 k2 k1' k2' : Nat} {f1 f2 f1' f2' : Nat → Nat} {w0 W W' : World}
theorem Sd.past (h : Sd C A N B R D G d f1 k1 f2 k2 w0 W) (hb : Below W.heap.size W W') : Sd C A N B R D G d f1 k1 f2 k2 w0 W' :=
  ⟨h.r.past hb, h.q.below hb, h.lr, h.ld, h.lg, h.rest⟩
theorem Sd.setR {l : List Nat} (h : Sd C A N B R D G d f1 k1 f2 k2 w0 W) (hr : Rl C A N B d f1' k1' false w0 W') (hp : Past l W W') (hl : ∀ x ∈ l, x = C ∨ x = A ∨ x = N ∨ x = B) : Sd C A N B R D G d f1' k1' f2 k2 w0 W' := by
  have out : ∀ x ∈ [R, D, G], x ∉ l := fun x hx hxl => by
    have h1 := h.rest x hx
    rcases hl x hxl with e | e | e | e
    · exact h1.1 e
    · exact h1.2.1 e
    · exact h1.2.2.1 e
    · exact h1.2.2.2 e
  exact ⟨hr, h.q.past hp (out R (by simp)) (out D (by simp)) (out G (by simp)), h.lr, h.ld, h.lg, h.rest⟩
theorem Sd.setQ {l : List Nat} (h : Sd C A N B R D G d f1 k1 f2 k2 w0 W) (hq : QAt R D G d f2' k2' false W') (hp : Past l W W') (hl : ∀ x ∈ l, x ∈ [R, G]) : Sd C A N B R D G d f1 k1 f2' k2' w0 W' := by
  refine ⟨h.r.aside hp fun x hx => ?_, hq, h.lr, h.ld, h.lg, h.rest⟩
  have h1 := hl x hx
  simp at h1
  rcases h1 with rfl | rfl
  · exact ⟨h.lr, h.rest _ (by simp)⟩
  · exact ⟨h.lg, h.rest _ (by simp)⟩
end
/-- a round: both, and its act in a box of its own -/
structure Rd (C A N B R D G X d : Nat) (c : Ac) (f1 : Nat → Nat) (k1 : Nat) (f2 : Nat → Nat) (k2 : Nat) (w0 W : World) : Prop where
  t : Sd C A N B R D G d f1 k1 f2 k2 w0 W
  x : Box X c W
  nx : ∀ x ∈ [C, A, N, B, R, D, G], x ≠ X
section
variable {C A N B R D G X d k1 k2 k1' k2' : Nat} {c : Ac} {f1 f2 f1' f2' : Nat → Nat} {w0 W W' : World}
theorem Rd.past (h : Rd C A N B R D G X d c f1 k1 f2 k2 w0 W) (hb : Below W.heap.size W W') : Rd C A N B R D G X d c f1 k1 f2 k2 w0 W' :=
  ⟨h.t.past hb, h.x.below hb, h.nx⟩
theorem Rd.setR {l : List Nat} (h : Rd C A N B R D G X d c f1 k1 f2 k2 w0 W) (hr : Rl C A N B d f1' k1' false w0 W') (hp : Past l W W') (hl : ∀ x ∈ l, x = C ∨ x = A ∨ x = N ∨ x = B) : Rd C A N B R D G X d c f1' k1' f2 k2 w0 W' :=
  ⟨h.t.setR hr hp hl, h.x.past hp (fun hx => by
    rcases hl X hx with e | e | e | e
    · exact h.nx C (by simp) e.symm
    · exact h.nx A (by simp) e.symm
    · exact h.nx N (by simp) e.symm
    · exact h.nx B (by simp) e.symm), h.nx⟩
theorem Rd.setQ {l : List Nat} (h : Rd C A N B R D G X d c f1 k1 f2 k2 w0 W) (hq : QAt R D G d f2' k2' false W') (hp : Past l W W') (hl : ∀ x ∈ l, x ∈ [R, G]) : Rd C A N B R D G X d c f1 k1 f2' k2' w0 W' :=
  ⟨h.t.setQ hq hp hl, h.x.past hp (fun hx => by
    have h1 := hl X hx
    simp at h1
    rcases h1 with e | e
    · exact h.nx R (by simp) e.symm
    · exact h.nx G (by simp) e.symm), h.nx⟩
end
theorem rd_step (a : String → Addr) (C A N B R D G X d k1 k2 : Nat) (c : Ac) (f1 f2 : Nat → Nat) (w0 W : World) (hE : Er a w0) (h : Rd C A N B R D G X d c f1 k1 f2 k2 w0 W) :
    Calls Tryd.prog 15 #[.pointer (some ⟨C, 0, none⟩), .pointer (some ⟨B, 0, none⟩)] W fun e W' => e = .returned (.bool (decide (k1 < 2 ^ d))) ∧ Rd C A N B R D G X d c f1 (nxt d k1) f2 k2 w0 W' := by
  refine (rl_step a C A N B d k1 f1 false w0 W hE h.t.r).mono ?_
  rintro e W' ⟨rfl, hr, hp⟩
  refine ⟨rfl, h.setR hr hp fun x hx => ?_⟩
  simp at hx
  rcases hx with rfl | rfl | rfl <;> simp
theorem rd_rstep (C A N B R D G X d k1 k2 : Nat) (c : Ac) (f1 f2 : Nat → Nat) (w0 W : World) (h : Rd C A N B R D G X d c f1 k1 f2 k2 w0 W) :
    Calls Tryd.prog 16 #[.pointer (some ⟨R, 0, none⟩)] W fun e W' => e = .returned (.bool (decide (k2 < 2 ^ d))) ∧ Rd C A N B R D G X d c f1 k1 f2 (nxt d k2) w0 W' := by
  unfold nxt
  by_cases hk : k2 < 2 ^ d
  · rw [if_pos hk, decide_eq_true hk]
    refine (rstep_yes R D G d k2 f2 false W h.t.q hk).mono ?_
    rintro e W' ⟨rfl, hp, hq⟩
    exact ⟨rfl, h.setQ hq hp fun x hx => by simp at hx; simp [hx]⟩
  · rw [if_neg hk, decide_eq_false hk]
    have hq := h.t.q
    obtain rfl : k2 = 2 ^ d := by have := hq.kd; omega
    refine (rstep_no R D G d f2 false W hq).mono ?_
    rintro e W' ⟨rfl, q, rfl⟩
    exact ⟨rfl, h.past (dir.drewN_below W q)⟩
/-- what a Set comes to, on both sides -/
theorem rd_set (a : String → Addr) (C A N B R D G X d k : Nat) (hd : d ≤ 4) (c : Ac) (f : Nat → Nat) (p i n : Int) (w0 : World) (hE : Er a w0) : ∃ (v b : Nat) (f' : Nat → Nat), b ≤ 1 ∧
    (∀ f2 k2 W, Rd C A N B R D G X d c f k f2 k2 w0 W → Calls Tryd.prog 8 #[.pointer (some ⟨C, 0, none⟩), .int .i64 p, .int .i64 i, .int .i64 n] W fun e W' => e = .returned (.tuple #[.int .i64 v, errB (a "ambler/api.ErrRange") b]) ∧ Rd C A N B R D G X d c f' k f2 k2 w0 W') ∧
    (∀ f1 k1 W, Rd C A N B R D G X d c f1 k1 f k w0 W → Calls Tryd.prog 9 #[.pointer (some ⟨R, 0, none⟩), .int .i64 p, .int .i64 i, .int .i64 n] W fun e W' => e = .returned (.tuple #[.int .i64 v, .int .i64 b]) ∧ Rd C A N B R D G X d c f1 k1 f' k w0 W') := by
  by_cases hbad : NoSpan d p i ∨ n < 0
  · refine ⟨0, 1, f, Nat.le_refl _, fun f2 k2 W h => (rl_setbad a C A N B d k f false w0 W hE h.t.r p i n hbad).mono ?_, fun f1 k1 W h => (rset_bad R D G d k f false W h.t.q p i n hbad).mono ?_⟩
    · rintro e W' ⟨rfl, hr, hp⟩
      exact ⟨rfl, h.setR hr hp fun x hx => by simp at hx; rcases hx with rfl | rfl <;> simp⟩
    · rintro e W' ⟨rfl, hb⟩
      exact ⟨rfl, h.past hb⟩
  · obtain ⟨q, e, rfl, rfl, he, hq⟩ := (span_cases d (by omega) p i).resolve_left (fun h => hbad (.inl h))
    obtain ⟨m, rfl⟩ := Int.eq_ofNat_of_zero_le (show 0 ≤ n by omega)
    refine ⟨to d q e - fr d q e + 2 * (min (to d q e) k - fr d q e), 0, setF f (fr d q e) (to d q e) m, Nat.zero_le _, fun f2 k2 W h => (rl_set a C A N B d k f false w0 W hE h.t.r q e m he hq).mono ?_, fun f1 k1 W h => (rset_yes R D G d k f false W h.t.q q e m he hq).mono ?_⟩
    · rintro x W' ⟨rfl, hr, hp⟩
      exact ⟨rfl, h.setR hr hp fun x hx => by simp at hx; rcases hx with rfl | rfl <;> simp⟩
    · rintro x W' ⟨rfl, hp, hQ⟩
      exact ⟨rfl, h.setQ hQ hp fun x hx => by simp at hx; simp [hx]⟩
theorem rl_depth (C A N B d : Nat) (f : Nat → Nat) (t : Bool) (w0 W : World) (h : Rl C A N B d f (2 ^ d) t w0 W) :
    Calls Tryd.prog 11 #[.pointer (some ⟨N, 0, none⟩)] W fun e W' => e = .returned (.int .i64 (d + 1 : Nat)) ∧ W = W' := by
  obtain ⟨g, hd, hg⟩ := rl_made h
  exact depth_any N (d + 1) g W hd
theorem Sd.qside {C A N B R D G d k1 k2 : Nat} {f1 f2 : Nat → Nat} {w0 W W' : World} {l : List Nat} (h : Sd C A N B R D G d f1 k1 f2 k2 w0 W) (hp : Past l W W') (hl : ∀ x ∈ l, x = C ∨ x = A ∨ x = N ∨ x = B) : QAt R D G d f2 k2 false W' := by
  have out : ∀ x ∈ [R, D, G], x ∉ l := fun x hx hxl => by
    have h1 := h.rest x hx
    rcases hl x hxl with e | e | e | e
    · exact h1.1 e
    · exact h1.2.1 e
    · exact h1.2.2.1 e
    · exact h1.2.2.2 e
  exact h.q.past hp (out R (by simp)) (out D (by simp)) (out G (by simp))
theorem num_none (a : String → Addr) (w : World) (h : ErrsOk names a w) :
    Calls Tryd.prog 7 #[errV (a "ambler/api.ErrNone")] w fun e w' => e = .returned (.int .i64 4) ∧ Below w.heap.size w w' := num_at a 3 (by decide) w h
theorem num_state (a : String → Addr) (w : World) (h : ErrsOk names a w) :
    Calls Tryd.prog 7 #[errV (a "ambler/api.ErrState")] w fun e w' => e = .returned (.int .i64 5) ∧ Below w.heap.size w w' := num_at a 4 (by decide) w h
theorem er_of {a : String → Addr} {w : World} (h : ErrsOk names a w) : Er a w := Er.of h (by decide) (by decide) (by decide) (by decide)
set_option maxRecDepth 20000 in
theorem acts_many (a : String → Addr) (i : Int) (s : Option Addr) (la ca : Nat) (s2 : Option Addr) (lh ch : Nat) (hl : 40 < la ∨ 100 < lh) (w : World) (hE : Er a w) :
    Calls Tryd.prog 3 #[.int .i64 i, .slice s la ca, .slice s2 lh ch] w fun e w' => e = .returned (.bool true) ∧ Below w.heap.size w w' := by
  by_cases h1 : 40 < la
  · have d1 : decide (40 < (la : Int)) = true := decide_eq_true (by omega)
    go_enter Tryd.func3, Tryd.ntmps3
    go_wp2_with (go_at_call 5; refine (alive_any a _ hE).mono ?_; rintro e w1 ⟨rfl, hb1⟩)
    go_ret
    exact ⟨rfl, hb1⟩
  · have d1 : decide (40 < (la : Int)) = false := decide_eq_false (by omega)
    have d2 : decide (100 < (lh : Int)) = true := decide_eq_true (by omega)
    go_enter Tryd.func3, Tryd.ntmps3
    go_wp2_with (go_at_call 5; refine (alive_any a _ hE).mono ?_; rintro e w1 ⟨rfl, hb1⟩)
    go_ret
    exact ⟨rfl, hb1⟩
set_option maxRecDepth 20000 in
theorem acts_bad (a : String → Addr) (i : Int) (hi : i < 0 ∨ 5 < i) (s : Option Addr) (la ca : Nat) (s2 : Option Addr) (lh ch : Nat) (h1 : la ≤ 40) (h2 : lh ≤ 100) (w : World) (hE : ErrsOk names a w) :
    Calls Tryd.prog 3 #[.int .i64 i, .slice s la ca, .slice s2 lh ch] w fun e w' => e = .returned (.bool true) ∧ Below w.heap.size w w' := by
  have d1 : decide (40 < (la : Int)) = false := decide_eq_false (by omega)
  have d2 : decide (100 < (lh : Int)) = false := decide_eq_false (by omega)
  have cN := fun W (hb : Below w.heap.size w W) => num_none a W (hE.below hb)
  have cB := fun W (hb : Below w.heap.size w W) => begun_bad a i hi s la ca W ((er_of hE).below hb)
  have cA := alive_any a w (er_of hE)
  clear hE
  rcases hi with h | h
  · have d3 : decide (i < 0) = true := decide_eq_true h
    go_enter Tryd.func3, Tryd.ntmps3
    go_wp2_with (first
      | (go_at_call 5; refine cA.mono ?_; rintro e w1 ⟨rfl, hb1⟩)
      | (go_at_call 6; refine (cB _ hb1).mono ?_; rintro e w2 ⟨rfl, hb2⟩; have hb02 := under.below_step hb1 hb2)
      | (go_at_call 7; refine (cN _ hb02).mono ?_; rintro e w3 ⟨rfl, hb3⟩; have hb03 := under.below_step hb02 hb3))
    go_ret
    exact ⟨rfl, hb03⟩
  · have d3 : decide (i < 0) = false := decide_eq_false (by omega)
    have d4 : decide (5 < i) = true := decide_eq_true h
    go_enter Tryd.func3, Tryd.ntmps3
    go_wp2_with (first
      | (go_at_call 5; refine cA.mono ?_; rintro e w1 ⟨rfl, hb1⟩)
      | (go_at_call 6; refine (cB _ hb1).mono ?_; rintro e w2 ⟨rfl, hb2⟩; have hb02 := under.below_step hb1 hb2)
      | (go_at_call 7; refine (cN _ hb02).mono ?_; rintro e w3 ⟨rfl, hb3⟩; have hb03 := under.below_step hb02 hb3))
    go_ret
    exact ⟨rfl, hb03⟩
theorem ids_below {s : Option Addr} {la : Nat} {w W : World} {zs : Nat → Int} (h : IdsAt s la w zs) (hb : Below w.heap.size w W) : IdsAt s la W zs := fun j hj => by
  obtain ⟨x, hx, hc⟩ := h j hj
  exact ⟨x, hx, fun W' hb' => hc W' (under.below_step hb hb')⟩
set_option maxRecDepth 20000 in
theorem acts_five (a : String → Addr) (s : Option Addr) (la ca : Nat) (zs : Nat → Int) (s2 : Option Addr) (lh ch : Nat) (h1 : la ≤ 40) (h2 : lh ≤ 100) (w : World) (hE : ErrsOk names a w) (hI : IdsAt s la w zs) :
    Calls Tryd.prog 3 #[.int .i64 5, .slice s la ca, .slice s2 lh ch] w fun e w' => e = .returned (.bool true) ∧ Below w.heap.size w w' := by
  have d1 : decide (40 < (la : Int)) = false := decide_eq_false (by omega)
  have d2 : decide (100 < (lh : Int)) = false := decide_eq_false (by omega)
  have cN := fun W (hb : Below w.heap.size w W) => num_range a W (hE.below hb)
  have cB : ∀ W, Below w.heap.size w W → Calls Tryd.prog 6 #[.int .i64 5, .slice s la ca] W fun e w' => ∃ pr, e = .returned (.tuple #[.pointer none, .pointer pr, errV (a "ambler/api.ErrRange")]) ∧ Below w.heap.size w w' := fun W hb => by
    refine (begun_any a 5 (by decide) s la ca zs h1 W ((er_of hE).below hb) (ids_below hI hb)).mono ?_
    rintro e w' ⟨pc, pr, ev, rfl, h⟩
    rcases h with ⟨_, rfl, rfl, hb3⟩ | ⟨h4, _⟩
    · exact ⟨pr, rfl, under.below_step hb hb3⟩
    · omega
  have cA := alive_any a w (er_of hE)
  clear hE hI
  go_enter Tryd.func3, Tryd.ntmps3
  go_wp2_with (first
    | (go_at_call 5; refine cA.mono ?_; rintro e w1 ⟨rfl, hb1⟩)
    | (go_at_call 6; refine (cB _ hb1).mono ?_; rintro e w2 ⟨pr, rfl, hb02⟩)
    | (go_at_call 7; refine (cN _ hb02).mono ?_; rintro e w3 ⟨rfl, hb3⟩; have hb03 := under.below_step hb02 hb3))
  go_ret
  exact ⟨rfl, hb03⟩
theorem cnt_same (a b c : Int) (w : World) : (Op.equalIn 10000 56 (.agg #[.int .i64 a, .int .i64 b, .int .i64 c]) (.agg #[.int .i64 a, .int .i64 b, .int .i64 c])).run Tryd.prog w = .ok true w := by
  rw [show (10000 : Nat) = 9999 + 1 from rfl, run_equalIn_struct w 9999 56 _ _ (by kernel_rfl) (by kernel_rfl)]
  simp [Op.eqFields, part, go_sem, Tryd.underlying3, Tryd.underlying56, run_equalIn_int]
theorem built_cnt (k : Int) : Tryd.prog.built 56 [(2, .int .i64 k)] = some #[.int .i64 0, .int .i64 0, .int .i64 k] := by kernel_rfl
section
variable {P : Program} {ops : Array Oper} {C : World → Prop}
/-- a value is built of its parts, in a region that draws its order -/
theorem quiet_build {Q : Act → Prop} {a : Act} {o : Oper} {rest : List Oper} (t : TypeId) (ps : List (Nat × Operand)) (vs : List (Nat × Value)) (cells : Array Value) (hw : Region.wanted o (yielded ops a.tmps) = true) (ho : o.op = .build t ps.toArray)
    (hv : ps.map (fun p => (p.1, a.eval p.2)) = vs) (hb : P.built t vs = some cells) (h : wpQuiet P ops C Q rest (a.put o.dst (.agg cells))) : wpQuiet P ops C Q (o :: rest) a := by
  have hb' : P.built t ((ps.toArray.map fun (i, x) => (i, a.eval x)).toList) = some cells := by
    rw [← hb, ← hv]; simp
  refine wpQuiet_step fun K hK => ?_
  rw [if_pos hw]
  refine ⟨.agg cells, fun w _ => ?_, hK _ h⟩
  unfold Oper.quietAt execOp
  simp only [ho, Sem.run_bind, run_build w t _ cells hb', Result.andThen_ok]
  exact ⟨rfl, rfl⟩
end
set_option maxRecDepth 20000 in
set_option maxHeartbeats 4000000 in
theorem acts_good (a : String → Addr) (d : Nat) (hd : d ≤ 4) (s : Option Addr) (la ca : Nat) (zs : Nat → Int) (s2 : Option Addr) (lh ch : Nat) (az : Nat → Ac) (h1 : la ≤ 40) (h2 : lh ≤ 100) (w : World) (hE : ErrsOk names a w) (hI : IdsAt s la w zs) (hA : ActAt s2 lh w az) :
    Calls Tryd.prog 3 #[.int .i64 d, .slice s la ca, .slice s2 lh ch] w fun e w' => e = .returned (.bool true) ∧ Below w.heap.size w w' := by
  have d1 : decide (40 < (la : Int)) = false := decide_eq_false (by omega)
  have d2 : decide (100 < (lh : Int)) = false := decide_eq_false (by omega)
  have d3 : decide (5 < (d : Int)) = false := decide_eq_false (by omega)
  have d0 : decide ((d : Int) < 0) = false := decide_eq_false (by omega)
  have d4 : ((d : Int) == 5) = false := beq_eq_false_iff_ne.2 (by omega)
  have d5 : ¬ d = 5 := by omega
  have HE := Lib.hid hE
  have HA := Lib.hid hA
  have hG : ∀ W, Below w.heap.size w W → Calls Tryd.prog 6 #[.int .i64 d, .slice s la ca] W fun e w' => ∃ A N C R D G f, e = .returned (.tuple #[.pointer (some ⟨C, 0, none⟩), .pointer (some ⟨R, 0, none⟩), .nilIface]) ∧ Sd C A N w'.heap.size R D G d f 0 f 0 w (w'.alloc (.cells #[.int .i64 0, .int .i64 0, .int .i64 0, .int .i64 0, .int .i64 0, .int .i64 0, .int .i64 0, .bool false] 36)) := fun W hb => by
    refine (begun_any a d (by omega) s la ca zs h1 W ((er_of hE).below hb) (ids_below hI hb)).mono ?_
    rintro e w' ⟨pc, pr, ev, rfl, h⟩
    rcases h with ⟨h5, _⟩ | ⟨_, A, N, C, R, D, G, f, rfl, rfl, rfl, h⟩
    · omega
    · have hs := hb.size
      have q1 := h.q.lt
      have q2 := h.q.b.lt
      have q3 := h.q.b.lg
      refine ⟨A, N, C, R, D, G, f, rfl, rl_new h.c (under.below_step hb h.below) (Nat.le_trans hs h.lc) (Nat.le_trans hs h.la) (Nat.le_trans hs h.ln), h.q.below (new_block _ _), Nat.le_trans hs h.lr, Nat.le_trans hs h.lb, Nat.le_trans hs h.lg, fun x hx => ?_⟩
      refine ⟨(h.rest x hx).1, (h.rest x hx).2.1, (h.rest x hx).2.2, ?_⟩
      simp at hx
      rcases hx with rfl | rfl | rfl <;> omega
  have HG := Lib.hid hG
  have cA := alive_any a w (er_of hE)
  clear hE hA hI hG
  go_enter Tryd.func3, Tryd.ntmps3
  go_wp2_with (first
    | (go_at_call 5; refine cA.mono ?_; rintro e w1 ⟨rfl, hb1⟩)
    | (go_at_call 6; refine (HG.out _ hb1).mono ?_; rintro e w2 ⟨A, N, C, R, D, G, f0, rfl, hS0⟩; clear hb1))
  clear HG cA
  generalize w2.heap.size = B at hS0 ⊢
  generalize w2.alloc (.cells #[.int .i64 0, .int .i64 0, .int .i64 0, .int .i64 0, .int .i64 0, .int .i64 0, .int .i64 0, .bool false] 36) = w3 at hS0 ⊢
  go_loopw [68] (fun i W => ∃ j : Nat, j ≤ lh ∧ i = .int .i64 j ∧ ∃ f k, Sd C A N B R D G d f k f k w W) (fun i _ => lh - (intOf i).toNat)
  case atStart => exact ⟨0, by omega, rfl, _, _, hS0⟩
  case round =>
    obtain ⟨j, hj, rfl, f, k, hS⟩ := hrel
    clear hS0
    rcases Nat.lt_or_ge j lh with hlt | hge
    · have hlt' : (j : Int) < (lh : Int) := by omega
      obtain ⟨x, rfl, hc⟩ := HA.out j hlt
      obtain ⟨c0, c1, c2, c3⟩ := hc wr hS.r.below
      clear HA hc
      generalize az j = c at c0 c1 c2 c3
      have hR : Rd C A N B R D G wr.heap.size d c f k f k w (wr.alloc (.cells #[.int .i64 c.k, .int .i64 c.a, .int .i64 c.b, .int .i64 c.n] 38)) := by
        obtain ⟨g, hcc, _⟩ := hS.r.c
        have l1 := hcc.lt
        have l2 := hcc.a.lt
        have l3 := hcc.b.lt
        have l4 := hS.r.m.lt
        have l5 := hS.q.lt
        have l6 := hS.q.b.lt
        have l7 := hS.q.b.lg
        refine ⟨hS.past (new_block wr _), ⟨by rw [cell_alloc_row]; rfl, by rw [cell_alloc_row]; rfl, by rw [cell_alloc_row]; rfl, by rw [cell_alloc_row]; rfl⟩, fun x hx => ?_⟩
        simp at hx
        rcases hx with rfl | rfl | rfl | rfl | rfl | rfl | rfl <;> omega
      have h16 := two_le4 d hd
      have kd := hS.r.kd
      clear hS
      obtain ⟨ck, ca', cb, cn⟩ := c
      by_cases hk : ck = 0
      · subst hk
        as_aux_lemma =>
          -- SET
          obtain ⟨v, b, f', hb, cR, cD⟩ := rd_set a C A N B R D G wr.heap.size d k hd ⟨0, ca', cb, cn⟩ f ca' cb cn w (er_of HE.out)
          go_wp2_with fail
          generalize wr.alloc (.cells #[.int .i64 0, .int .i64 ca', .int .i64 cb, .int .i64 cn] 38) = W0 at hR ⊢
          generalize wr.heap.size = X at hR cR cD ⊢
          clear c0 c1 c2 c3
          refine (cR _ _ _ hR).mono ?_
          rintro e w4 ⟨rfl, hR4⟩
          obtain ⟨xk, xa, xb, xn⟩ := hR4.x
          clear hR cR
          go_wp2_with (first
            | (go_at_call 9; refine (cD _ _ _ hR4).mono ?_; rintro e w5 ⟨rfl, hR5⟩; clear hR4 cD)
            | (go_at_call 7; refine (num_errB a b hb _ (HE.out.below hR5.t.r.below)).mono ?_; rintro e w6 ⟨rfl, hb6⟩; have hR6 := hR5.past hb6; clear hR5 hb6))
          obtain ⟨m, hm⟩ : ∃ m, 2 ^ d = m := ⟨_, rfl⟩
          have hkm : k ≤ m := hm ▸ hR6.t.r.kd
          have hm16 : m ≤ 16 := hm ▸ h16
          have e1 : IntKind.i64.wrap ((m : Int) - ((k : Nat) : Int)) = ((m - k : Nat) : Int) := sub_16 hkm (by omega)
          have cLf : ∀ n : under.Under w6, Calls Tryd.prog 17 #[.pointer (some ⟨C, 0, none⟩)] n.W fun e W' => e = .returned (.int .i64 ((m - k : Nat) : Int)) ∧ Below n.W.heap.size n.W W' := fun n => by
            refine (rl_left C A N B d _ _ false w n.W (hR6.past n.below).t.r).mono ?_
            rintro e W' ⟨rfl, q, rfl⟩
            exact ⟨by rw [hm], dir.drewN_below _ q⟩
          have cAl : ∀ n : under.Under w6, Calls Tryd.prog 18 #[.pointer (some ⟨B, 0, none⟩)] n.W fun e W' => e = .returned (.agg #[.int .i64 0, .int .i64 0, .int .i64 (k : Nat)]) ∧ Below n.W.heap.size n.W W' := fun n =>
            rl_all C A N B d _ _ false w n.W (hR6.past n.below).t.r
          have z0 := under.Under.cell hR6.t.q.c0
          have z1 := under.Under.cell hR6.t.q.c1
          have z2 := under.Under.cell hR6.t.q.b.row
          rw [hm] at z2
          generalize m - k = l at e1 cLf
          have hcs := cnt_same
          have HH := Lib.hid hR6
          clear hR6 hm
          refine under.wp_region_under (by kernel_rfl) (by kernel_rfl) ?_
          repeat (quiet_step ((first
            | (go_at_call 17; (with_reducible refine under.under_call (cLf _)))
            | (go_at_call 18; (with_reducible refine under.under_call (cAl _))))))
          refine wpQuiet_nil ?_
          intro w9 hw9
          obtain ⟨n9, rfl⟩ := hw9
          have hEnd := (HH.out.past n9.below).t
          clear z0 z1 z2 cLf cAl HH
          generalize n9.W = W9 at hEnd ⊢
          go_wp2_with fail
          go_roundw
          case rel => exact ⟨j + 1, by omega, by simp, _, _, hEnd⟩
          case measure => simp [intOf]; omega
      · by_cases hk1 : ck = 1
        · subst hk1
          by_cases hkd : k < 2 ^ d
          · as_aux_lemma =>
              -- TAKE, too early
              have cT := fun W (hW : Rd C A N B R D G wr.heap.size d ⟨1, ca', cb, cn⟩ f k f k w W) => rl_takeno a C A N B d k f w W (er_of HE.out) hW.t.r hkd
              have d9 : decide ((k : Int) < ((2 ^ d : Nat) : Int)) = true := decide_eq_true (by omega)
              go_wp2_with fail
              generalize wr.alloc (.cells #[.int .i64 1, .int .i64 ca', .int .i64 cb, .int .i64 cn] 38) = W0 at hR ⊢
              generalize wr.heap.size = X at hR cT ⊢
              clear c0 c1 c2 c3
              refine (cT _ hR).mono ?_
              rintro e w4 ⟨rfl, hb4⟩
              have hR4 := hR.past hb4
              clear hR cT hb4
              go_wp2_with fail
              have z0 := hR4.t.q.c0
              have z1 := hR4.t.q.c1
              have z2 := hR4.t.q.b.row
              generalize 2 ^ d = m at hkd d9 z2
              have d10 : decide (k < m) = true := decide_eq_true hkd
              go_quiet (fail)
              have hR5 := hR4.past (dir.drewN_below w4 nq)
              generalize w4.drewN nq = w5 at hR5 ⊢
              clear z0 z1 z2 hR4
              go_wp2_with (go_at_call 7; refine (num_state a _ (HE.out.below hR5.t.r.below)).mono ?_; rintro e w6 ⟨rfl, hb6⟩; have hR6 := hR5.past hb6; clear hR5 hb6)
              exact ⟨⟨j + 1, by omega, by simp, _, _, hR6.t⟩, by simp [intOf]; omega⟩
          · as_aux_lemma =>
              -- TAKE
              obtain rfl : k = 2 ^ d := by omega
              have cT := fun W (hW : Rd C A N B R D G wr.heap.size d ⟨1, ca', cb, cn⟩ f (2 ^ d) f (2 ^ d) w W) => rl_take C A N B d f w W hW.t.r
              have cDep := fun W (hW : Rl C A N B d f (2 ^ d) true w W) => rl_depth C A N B d f true w W hW
              have cLis := fun W (hW : Rl C A N B d f (2 ^ d) true w W) => rl_list C A N B d f true w W hW
              have cNew := fun W (hW : QAt R D G d f (2 ^ d) true W) => rnew_any R D G d (2 ^ d) f true W hW
              have e1 : IntKind.i64.wrap ((d : Int) + 1) = ((d + 1 : Nat) : Int) := by rw [IntWalk.i64_in _ (by omega)]; omega
              have hn64 : 2 ^ (d + 1) ≤ 64 := by rw [two_next]; omega
              have CL := Lib.hid cLis
              have CN := Lib.hid cNew
              clear cLis cNew
              go_wp2_with fail
              generalize wr.alloc (.cells #[.int .i64 1, .int .i64 ca', .int .i64 cb, .int .i64 cn] 38) = W0 at hR ⊢
              generalize wr.heap.size = X at hR cT ⊢
              clear c0 c1 c2 c3
              refine (cT _ hR).mono ?_
              rintro e w4 ⟨rfl, hr4, hp4⟩
              have hq4 := hR.t.qside hp4 (fun x hx => by simp at hx; simp [hx])
              have hrest := hR.t.rest R (by simp)
              have hlr := hR.t.lr
              clear hR cT hp4
              have z0 := hq4.c0
              have z1 := hq4.c1
              have z2 := hq4.b.row
              have z3 := hq4.c2
              have z4 := hq4.fz
              go_wp2_with fail
              generalize 2 ^ d = m at z1 z2
              go_quiet (fail)
              have hr5 := hr4.past (dir.drewN_below w4 nq)
              have hq5 := hq4.drewN nq
              clear hr4 hq4 z0 z1 z2 z3 z4
              generalize w4.drewN nq = w5 at hr5 hq5 ⊢
              have z5 := hq5.fz
              have z6 := hq5.c2
              have hp5 := (Past.refl [R] w5).store (p := ⟨R, 2, none⟩) (.inl (by simp)) (.bool true)
              have hr6 := hr5.aside hp5 (fun x hx => by simp at hx; subst hx; exact ⟨hlr, hrest⟩)
              have hq6 := hq5.take
              clear hr5 hq5 hp5
              go_wp2_with (go_at_call 11; refine (cDep _ hr6).mono ?_; rintro e w6 ⟨rfl, rfl⟩)
              clear z5 z6 cDep
              generalize w5.setCell ⟨R, 2, none⟩ (.bool true) = w6 at hr6 hq6 ⊢
              have cL := CL.out _ hr6
              have cN := fun W (hb : Below w6.heap.size w6 W) => CN.out W (hq6.below hb)
              have hbW := Lib.hid hr6.below
              clear hr6 hq6 CL CN
              generalize 2 ^ (d + 1) = z at cL cN hn64
              go_wp2_with (first
                | (go_at_call 13; refine cL.mono ?_; rintro e w7 ⟨g1, c1', rfl, hl7, hc7, hb7⟩; have cN2 := cN _ hb7; clear cN cL)
                | (go_at_call 14; refine cN2.mono ?_; rintro e w8 ⟨g2, c2', rfl, hc8, hb8⟩; clear cN2))
              have hs := same_fn (dbl f) z g1 c1' g2 c2' w8 hn64 (fun j hj => (hb8.cell (p := ⟨g1, j, none⟩) hl7).trans (hc7 j hj)) hc8
              have hb9 := Lib.hid (under.below_step (under.below_step hbW.out hb7) hb8)
              clear hc7 hc8 hb7 hb8 hbW
              with_reducible refine hs.mono ?_
              rintro _ w9 ⟨rfl, rfl⟩
              clear hs
              go_wp2_with fail
              go_ret
              exact ⟨rfl, hb9.out⟩
        · as_aux_lemma =>
            -- STEP
            have q5 : ((ck : Int) == 0) = false := by simpa using hk
            have q6 : ((ck : Int) == 1) = false := by simpa using hk1
            have cR := fun f2 k2 W (hW : Rd C A N B R D G wr.heap.size d ⟨ck, ca', cb, cn⟩ f k f2 k2 w W) => rd_step a C A N B R D G wr.heap.size d k k2 ⟨ck, ca', cb, cn⟩ f f2 w W (er_of HE.out) hW
            have cD := fun f1 k1 W (hW : Rd C A N B R D G wr.heap.size d ⟨ck, ca', cb, cn⟩ f1 k1 f k w W) => rd_rstep C A N B R D G wr.heap.size d k1 k ⟨ck, ca', cb, cn⟩ f1 f w W hW
            generalize decide (k < 2 ^ d) = b at cR cD
            go_wp2_with fail
            generalize wr.alloc (.cells #[.int .i64 ck, .int .i64 ca', .int .i64 cb, .int .i64 cn] 38) = W0 at hR ⊢
            generalize wr.heap.size = X at hR cR cD ⊢
            clear c0 c1 c2 c3
            refine (cR _ _ _ hR).mono ?_
            rintro e w4 ⟨rfl, hR4⟩
            clear hR cR
            go_wp2_with (go_at_call 16; refine (cD _ _ _ hR4).mono ?_; rintro e w6 ⟨rfl, hR6⟩; clear hR4 cD)
            clear kd
            generalize nxt d k = k' at hR6
            obtain ⟨m, hm⟩ : ∃ m, 2 ^ d = m := ⟨_, rfl⟩
            have hkm : k' ≤ m := hm ▸ hR6.t.r.kd
            have hm16 : m ≤ 16 := hm ▸ h16
            have e1 : IntKind.i64.wrap ((m : Int) - ((k' : Nat) : Int)) = ((m - k' : Nat) : Int) := sub_16 hkm (by omega)
            have cLf : ∀ n : under.Under w6, Calls Tryd.prog 17 #[.pointer (some ⟨C, 0, none⟩)] n.W fun e W' => e = .returned (.int .i64 ((m - k' : Nat) : Int)) ∧ Below n.W.heap.size n.W W' := fun n => by
              refine (rl_left C A N B d _ _ false w n.W (hR6.past n.below).t.r).mono ?_
              rintro e W' ⟨rfl, q, rfl⟩
              exact ⟨by rw [hm], dir.drewN_below _ q⟩
            have cAl : ∀ n : under.Under w6, Calls Tryd.prog 18 #[.pointer (some ⟨B, 0, none⟩)] n.W fun e W' => e = .returned (.agg #[.int .i64 0, .int .i64 0, .int .i64 (k' : Nat)]) ∧ Below n.W.heap.size n.W W' := fun n =>
              rl_all C A N B d _ _ false w n.W (hR6.past n.below).t.r
            have z0 := under.Under.cell hR6.t.q.c0
            have z1 := under.Under.cell hR6.t.q.c1
            have z2 := under.Under.cell hR6.t.q.b.row
            rw [hm] at z2
            generalize m - k' = l at e1 cLf
            have hcs := cnt_same
            have HH := Lib.hid hR6
            clear hR6 hm
            refine under.wp_region_under (by kernel_rfl) (by kernel_rfl) ?_
            repeat (quiet_step ((first
              | (go_at_call 17; (with_reducible refine under.under_call (cLf _)))
              | (go_at_call 18; (with_reducible refine under.under_call (cAl _))))))
            refine wpQuiet_nil ?_
            intro w9 hw9
            obtain ⟨n9, rfl⟩ := hw9
            have hEnd := (HH.out.past n9.below).t
            clear z0 z1 z2 cLf cAl HH
            generalize n9.W = W9 at hEnd ⊢
            go_wp2_with fail
            go_roundw
            case rel => exact ⟨j + 1, by omega, by simp, _, _, hEnd⟩
            case measure => simp [intOf]; omega
    · obtain rfl : j = lh := by omega
      have hb := hS.r.below
      clear HA
      go_wp2
      go_ret
      exact ⟨rfl, hb⟩
theorem acts_any (a : String → Addr) (i : Int) (s : Option Addr) (la ca : Nat) (zs : Nat → Int) (s2 : Option Addr) (lh ch : Nat) (az : Nat → Ac) (w : World) (hE : ErrsOk names a w) (hI : IdsAt s la w zs) (hA : ActAt s2 lh w az) :
    Calls Tryd.prog 3 #[.int .i64 i, .slice s la ca, .slice s2 lh ch] w fun e w' => e = .returned (.bool true) ∧ Below w.heap.size w w' := by
  by_cases hl : 40 < la ∨ 100 < lh
  · exact acts_many a i s la ca s2 lh ch hl w (er_of hE)
  by_cases hi : i < 0 ∨ 5 < i
  · exact acts_bad a i hi s la ca s2 lh ch (by omega) (by omega) w hE
  obtain ⟨d, rfl⟩ := Int.eq_ofNat_of_zero_le (show 0 ≤ i by omega)
  by_cases h5 : d = 5
  · subst h5
    exact acts_five a s la ca zs s2 lh ch (by omega) (by omega) w hE hI
  · exact acts_good a d (by omega) s la ca zs s2 lh ch az (by omega) (by omega) w hE hI hA
end Go.Proofs.YtmbdfoobnkanlaaDoor.copyist
