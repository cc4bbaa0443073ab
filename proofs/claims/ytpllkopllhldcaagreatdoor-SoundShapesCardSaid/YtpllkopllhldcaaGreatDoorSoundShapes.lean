/- SoundShapes: the walk. -/
import Derived.Test.YtpllkopllhldcaaGreatDoorSoundRef
import Derived.Test.YtpllkopllhldcaaGreatDoorSoundC
import Derived.LoopTactic
namespace Go.Proofs.YtpllkopllhldcaaGreatDoor.sound
open Go.ChangeShapes Go.WideShapes Go.ChangeAt Go.RowKit Go.Shelf swar under trap meter group probe lens tail call table
attribute [local go_sem] Oper.semAt_some stage.pureUpon move.stepUpon
set_option linter.unusedSimpArgs false
set_option linter.unusedVariables false

theorem szRef3 : (Tryz.prog.info? 79).map (·.size) = some 2 := by kernel_rfl
theorem ptr_ref3 (x : Addr) (w : World) : (Op.equalIn 10000 26 (.pointer (some x)) (.pointer none)).run Tryz.prog w = .ok false w := by
  obtain ⟨j, hj, _⟩ := Option.map_eq_some_iff.1 szRef3
  have h : ∀ d : Nat, (Op.equalIn (d + 1) 26 (.pointer (some x)) (.pointer none)).run Tryz.prog w = .ok false w := fun d => by
    simp [Op.equalIn, run_underlying Tryz.underlying26, sizeOf, typeInfo, hj, sameAddr]
  exact h 9999
theorem path_row3 {base : Nat} {W : World} {v : Value} {t : Tb} {h : Nat} (hn : okN t.n) (hK : probe.Kept base W v (po t h)) : ∃ g c, v = .slice (some ⟨g, 0, none⟩) (po t h).length c ∧ ∀ j, j < (po t h).length → W.cell? ⟨g, j, none⟩ = some (.int .i64 ((po t h)[j]?.getD 0 : Nat)) := by
  obtain ⟨g, c, h1, h2, _, h4⟩ := hK.cells (po_ne h hn)
  exact ⟨g, c, h1, fun j hj => by rw [h4 j hj]⟩
theorem A6.of (w : World) (a b c d e f : Nat) : A6 w.heap.size a b c d e f (w.alloc (.cells #[.int .i64 (a : Nat), .int .i64 (b : Nat), .int .i64 (c : Nat), .int .i64 (d : Nat), .int .i64 (e : Nat), .int .i64 (f : Nat)] 29)) := ⟨World.alloc_heap_new w _⟩
section
variable {P : Program} {ops : Array Oper} {C : World → Prop}
/-- a value is built of its parts, in a region that draws its order -/
theorem quiet_build {Q : Act → Prop} {a : Act} {o : Oper} {rest : List Oper} (t : TypeId) (ps : List (Nat × Operand)) (vs : List (Nat × Value)) (cells : Array Value) (hw : Region.wanted o (yielded ops a.tmps) = true) (ho : o.op = .build t ps.toArray)
    (hv : ps.map (fun p => (p.1, a.eval p.2)) = vs) (hb : P.built t vs = some cells) (h : wpQuiet P ops C Q rest (a.put o.dst (.agg cells))) : wpQuiet P ops C Q (o :: rest) a := by
  have hb' : P.built t ((ps.toArray.map fun (i, x) => (i, a.eval x)).toList) = some cells := by
    rw [← hb, ← hv]; simp
  refine wpQuiet_step fun K hK => ?_
  rw [if_pos hw]
  refine ⟨.agg cells, fun w _ => ?_, hK _ h⟩
  unfold Oper.quietAt execOp
  simp only [ho, Sem.run_bind, run_build w t _ cells hb', Result.andThen_ok]
  exact ⟨rfl, rfl⟩
end
theorem built_sh (a b c d e f : Int) : Tryz.prog.built 32 [(0, .int .i64 a), (1, .int .i64 b), (2, .int .i64 c), (3, .int .i64 d), (4, .int .i64 e), (5, .int .i64 f)] = some #[.int .i64 a, .int .i64 b, .int .i64 c, .int .i64 d, .int .i64 e, .int .i64 f] := by kernel_rfl
theorem shapes_no (a : String → Addr) (g : Int) (s1 s2 : Option Addr) (la ca lb cb : Nat) (hc : noMade g la lb) (w : World) (hw : Bs a w) :
    Calls Tryz.prog 3 #[.int .i64 g, .slice s1 la ca, .slice s2 lb cb] w fun e w' => e = .returned (.bool true) ∧ Below w.heap.size w w' := by
  have hA := alive_any a w hw
  have cM := fun W (hb : Below w.heap.size w W) => made_no a g s1 s2 la ca lb cb hc W (hw.below hb)
  have hpn := ptr_none
  clear hw hc
  go_enter Tryz.func3, Tryz.ntmps3
  go_wp2_with (first
    | (go_at_call 6; refine hA.mono ?_; rintro e w1 ⟨rfl, hb1⟩)
    | (go_at_call 7; refine (cM _ hb1).mono ?_; rintro e w2 ⟨rfl, hb2⟩))
  go_ret
  exact ⟨rfl, under.below_step hb1 hb2⟩
set_option maxRecDepth 100000 in
set_option maxHeartbeats 8000000 in
theorem shapes_few (a : String → Addr) (n : Nat) (hn : okN n) (h16 : n ≤ 16) (s1 s2 : Option Addr) (la ca lb cb : Nat) (hz : Nat → Nat) (az : Nat → Ac) (h1 : 1 ≤ la) (h2 : la ≤ 100) (h3 : lb ≤ 120) (w : World) (hB : Base a w) (hH : HashAt s1 la w hz) (hA : ActAt s2 lb w az) :
    Calls Tryz.prog 3 #[.int .i64 n, .slice s1 la ca, .slice s2 lb cb] w fun e w' => e = .returned (.bool true) ∧ Below w.heap.size w w' := by
  have hw := Bs.of hB
  have hAl := alive_any a w hw
  have cM := fun W (hb : Below w.heap.size w W) => made_few a n hn h16 s1 s2 la ca lb cb hz az h1 h2 h3 W (hw.below hb) (hH.below hb) (hA.below hb)
  have hpt := ptr_tab
  have hpr := ptr_ref3
  have HH := Lib.hid hH
  have HB := Lib.hid hB
  clear hw hH hA hB
  go_enter Tryz.func3, Tryz.ntmps3
  go_wp2_with (first
    | (go_at_call 6; refine hAl.mono ?_; rintro e w1 ⟨rfl, hb1⟩)
    | (go_at_call 7; refine (cM _ hb1).mono ?_; rintro e w2 ⟨T, B, f, rfl, t, k, M, hk, rfl, hRep, hS⟩; have cL := rlook_any f t hRep.1.ok k (by omega) w2 hS.wa)
    | (go_at_call 8; refine cL.mono ?_; rintro e w3 ⟨rfl, hs3⟩))
  have hok := hRep.1.ok
  have hS3 := (hS.ref hs3 rfl).1
  have hb4 := new_block w3 (.cells #[.int .i64 (cntT 3 t : Nat), .int .i64 (cntT 2 t : Nat), .int .i64 (cntT 1 t : Nat), .int .i64 (oc t t.n : Nat), .int .i64 (mx (lks t (ents t t.n)) : Nat), .int .i64 ((lks t (ents t t.n)).sum : Nat)] 29)
  have hBx := A6.of w3 (cntT 3 t) (cntT 2 t) (cntT 1 t) (oc t t.n) (mx (lks t (ents t t.n))) (lks t (ents t t.n)).sum
  have hS4 := hS3.read hb4
  have HHw := Lib.hid hb1
  have hk2 : k + 64 < 9223372036854775807 := by omega
  clear hs3 hb4 cL cM hAl hk hRep hS hS3 hb1
  generalize w3.alloc (.cells #[.int .i64 (cntT 3 t : Nat), .int .i64 (cntT 2 t : Nat), .int .i64 (cntT 1 t : Nat), .int .i64 (oc t t.n : Nat), .int .i64 (mx (lks t (ents t t.n)) : Nat), .int .i64 ((lks t (ents t t.n)).sum : Nat)] 29) = w4 at *
  generalize w3.heap.size = S at *
  have kL := fun (q : Under w4) => look_sound (hS4.read q.below).rd
  unfold shapeOf at kL
  generalize cntT 3 t = c3 at *
  generalize cntT 2 t = c2 at *
  generalize cntT 1 t = c1 at *
  generalize oc t t.n = c0 at *
  generalize mx (lks t (ents t t.n)) = lg at *
  generalize (lks t (ents t t.n)).sum = sm at *
  have y0 := Under.cell hBx.c0
  have y1 := Under.cell hBx.c1
  have y2 := Under.cell hBx.c2
  have y3 := Under.cell hBx.c3
  have y4 := Under.cell hBx.c4
  have y5 := Under.cell hBx.c5
  have HS4 := Lib.hid hS4
  clear hS4 hBx
  as_aux_lemma =>
    refine wp_region_under (by kernel_rfl) (by kernel_rfl) ?_
    iterate 14 (go_big_quiet_step (first
      | (go_at_call 9; (with_reducible refine under_call (kL _)))))
    refine quiet_build 32 [(0, .tmp 32), (1, .tmp 34), (2, .tmp 36), (3, .tmp 38), (4, .tmp 40), (5, .tmp 42)] [(0, .int .i64 c3), (1, .int .i64 c2), (2, .int .i64 c1), (3, .int .i64 c0), (4, .int .i64 lg), (5, .int .i64 sm)] _ rfl rfl rfl (built_sh c3 c2 c1 c0 lg sm) ?_
    simp only [Act.put, List.setIfInBounds_toArray, List.set_cons_succ, List.set_cons_zero]
    go_big_quiet_step (fail)
    refine wpQuiet_nil ?_
    intro wz hwz
    obtain ⟨z, rfl⟩ := hwz
    have HI := Lib.hid (HS4.out.read z.below)
    clear kL y0 y1 y2 y3 y4 y5 HS4
    generalize z.W = w5 at *
    go_wp2_with (fail)
    go_loopw [47] (fun i wr => ∃ j : Nat, j ≤ la ∧ i = .int .i64 j ∧ Hid (Two w1 a T B .nil Mt.zero t f t k wr)) (fun i _ => la - (intOf i).toNat)
    case atStart => exact ⟨0, by omega, rfl, HI⟩
    case round =>
      obtain ⟨j, hj, rfl, HO⟩ := hrel
      clear HI
      rcases Nat.lt_or_ge j la with hjl | hjl
      · have hji : (j : Int) < (la : Int) := by omega
        obtain ⟨y, rfl, hh, hcy⟩ := HH.out j hjl
        have hc := hcy _ (under.below_step HHw.out HO.out.bel)
        generalize hz j = hs at *
        have cP := path_any T B t hok hs hh wr HO.out.rd.at'
        have cR := fun W (hb : Below wr.heap.size wr W) => rpath_any f t hok k hs hh W (HO.out.read hb).wa
        have HP := Lib.hid (fun W' v (hK : probe.Kept wr.heap.size W' v (po t hs)) => path_row3 hok.n hK)
        have hpl : (po t hs).length ≤ 64 := by have := po_le t hs; omega
        obtain ⟨pf, hpf⟩ : ∃ pf : Nat → Nat, pf = fun j => (po t hs)[j]?.getD 0 := ⟨_, rfl⟩
        have hpf' : ∀ j, (po t hs)[j]?.getD 0 = pf j := fun j => by rw [hpf]
        simp only [hpf'] at HP cR
        clear hpf hpf' hh
        go_wp2_with (first
          | (go_at_call 11; (with_reducible refine cP.mono ?_); rintro e w6 ⟨v, rfl, hK, hb6⟩; obtain ⟨g, c, rfl, hg1⟩ := HP.out _ _ hK; clear hK)
          | (go_at_call 12; (with_reducible refine (cR _ hb6).mono ?_); rintro e w7 ⟨g7, c7, rfl, hg7, hb7⟩; have hg17 := fun j hj => keepc hb7 (hg1 j hj))
          | (go_at_call 10; (with_reducible refine (same_fn pf _ g c g7 c7 _ hpl hg17 hg7).mono ?_); rintro e w8 ⟨rfl, rfl⟩))
        have HO8 := Lib.hid (HO.out.read (under.below_step hb6 hb7))
        go_roundw
        case rel => exact ⟨j + 1, by omega, by simp, HO8⟩
        case measure => simp [intOf]; omega
      · obtain rfl : j = la := by omega
        have HW := Lib.hid (HB.out.below (under.below_step HHw.out HO.out.bel))
        have cP1 := fun W => (show Calls Tryz.prog 11 #[.pointer none, .int .u64 1] W fun e w' => e = .returned (.slice none 0 0) ∧ Below W.heap.size W w' from path_none 1 W)
        have cE := fun W (hb : Below wr.heap.size wr W) => check_nil W (a "ambler/api.ErrNone") (errs6 (HW.out.below hb).errs).none
        have cN := fun W (hb : Below wr.heap.size wr W) => (show Calls Tryz.prog 13 #[errs.errV (a "ambler/api.ErrNone")] W fun e w' => e = .returned (.int .i64 4) ∧ Below W.heap.size W w' from trap.num_err a 4 (by decide) W (HW.out.below hb).errs)
        go_wp2_with (first
          | (go_at_call 9; (with_reducible refine (look_none _).mono ?_); rintro e w6 ⟨rfl, hb6⟩)
          | (go_at_call 11; (with_reducible refine (cP1 _).mono ?_); rintro e w7 ⟨rfl, hb7⟩; have hb67 := under.below_step hb6 hb7)
          | (go_at_call 14; (with_reducible refine (cE _ hb67).mono ?_); rintro e w8 ⟨rfl, hb8⟩; have hb68 := under.below_step hb67 hb8)
          | (go_at_call 13; (with_reducible refine (cN _ hb68).mono ?_); rintro e w9 ⟨rfl, hb9⟩; have hb69 := under.below_step hb68 hb9))
        go_ret
        exact ⟨rfl, under.below_step HHw.out (under.below_step HO.out.bel hb69)⟩
theorem shapes_law (a : String → Addr) (g : Int) (s1 s2 : Option Addr) (la ca lb cb : Nat) (hz : Nat → Nat) (az : Nat → Ac) (w : World) (hB : Base a w) (hH : HashAt s1 la w hz) (hA : ActAt s2 lb w az) :
    Calls Tryz.prog 3 #[.int .i64 g, .slice s1 la ca, .slice s2 lb cb] w fun e w' => e = .returned (.bool true) ∧ Below w.heap.size w w' := by
  by_cases hc : noMade g la lb
  · exact shapes_no a g s1 s2 la ca lb cb hc w (Bs.of hB)
  · unfold noMade at hc
    by_cases hg : ∃ k : Nat, g = k ∧ okN k
    · obtain ⟨n, rfl, hn⟩ := hg
      exact shapes_few a n hn (by omega) s1 s2 la ca lb cb hz az (by omega) (by omega) (by omega) w hB hH hA
    · exact absurd (.inr (.inr (.inr (.inr hg)))) hc
end Go.Proofs.YtpllkopllhldcaaGreatDoor.sound
