/- ChooseTells: the walk, some of its kinds. -/
import Derived.Test.YthnihnnonjodjaaDoorChooseTells0
namespace Go.Proofs.YthnihnnonjodjaaDoor.choose
open Go.ChangeShapes Go.WideShapes Go.ChangeAt Go.RowKit errs under
set_option linter.unusedSimpArgs false
set_option linter.unusedVariables false

set_option maxRecDepth 100000 in
set_option maxHeartbeats 8000000 in
theorem tells_k2_1 (l t g a b : Int) (hl : I l) (e : String → Addr) (w : World) (hW : WordsOk w) (hE : ErrsOk names e w) (hF : FreshOk w) (hx : gx 2 g = 1) :
    Calls Tryd.prog 3 #[num5 l t g a b, .int .i64 2] w fun e w' => e = .returned (.bool true) ∧ Below w.heap.size w w' := by
  have hb0 := box_below w l t g a b
  have hA := alive_any _ (hW.below hb0)
  have hC0 := B5.new w l t g a b
  have hG := fun wx hEx hFx => groups_any 2 g e wx hEx hFx
  have hRG := fun wx => rgroups_any 2 g wx
  have hU := fun wx hEx hFx => units_any 2 g e wx hEx hFx
  have hN := fun wx => which_any l t g a b hl wx
  have hRN := fun wx => rwhich_any l t g a b wx
  have hD := fun wx => double_any l t g a b hl wx
  have hRD := fun wx => rdouble_any l t g a b wx
  have hWd := fun wx hWx => word_any 2 wx hWx
  have hM := fun wx hEx => num_one e wx hEx
  have hE0 := hE.below hb0
  have hF0 := hF.below hb0
  have hW0 := hW.below hb0
  clear hE hF hW
  have eU : un 2 g = 0 := by unfold un; rw [hx]; rfl
  rw [eU] at hU
  rw [hx] at hG hRG
  clear eU hx
  generalize ge 2 g = E at *
  generalize gm 2 g = M at *
  generalize wh l t g a b = K at *
  generalize db l t g a b = Q at *
  rw [show wd 2 = ⟨#[103, 114, 111, 119]⟩ from rfl] at hWd
  have gv : ∃ v, ev e 1 = v := ⟨_, rfl⟩
  obtain ⟨v, gv⟩ := gv
  rw [gv] at hG hM
  obtain ⟨c0, c1, c2, c3, c4⟩ := hC0
  go_enter Tryd.func3, Tryd.ntmps3
  go_wp2_with (first
    | (go_at_call 6; refine hA.mono ?_; rintro e w1 ⟨rfl, rfl⟩)
    | (go_at_call 7; (with_reducible refine (hG _ (kr_all hE0) hF0).mono ?_); rintro e w1 ⟨rfl, hb1⟩; obtain ⟨d0, d1, d2, d3, d4⟩ := (B5.mk c0 c1 c2 c3 c4).below hb1)
    | (go_at_call 8; (with_reducible refine (hRG _).mono ?_); rintro e w2 ⟨rfl, hb2⟩; obtain ⟨d0, d1, d2, d3, d4⟩ := (B5.mk d0 d1 d2 d3 d4).below hb2)
    | (go_at_call 9; refine (hN _).mono ?_; rintro e w3 ⟨rfl, rfl⟩)
    | (go_at_call 10; refine (hRN _).mono ?_; rintro e w3 ⟨rfl, rfl⟩)
    | (go_at_call 11; refine (hD _).mono ?_; rintro e w3 ⟨rfl, rfl⟩)
    | (go_at_call 12; refine (hRD _).mono ?_; rintro e w3 ⟨rfl, rfl⟩))
  have hb3 : Below w2.heap.size w2 (w2.alloc (.cells #[.string ⟨#[110, 111, 110, 101]⟩, .string ⟨#[115, 119, 101, 101, 112]⟩, .string ⟨#[103, 114, 111, 119]⟩, .string ⟨#[115, 112, 108, 105, 116]⟩] 9)) := (Below.refl _ _).alloc (Nat.le_refl _) _
  have hB := probe.below_step hb0 (probe.below_step hb1 (probe.below_step hb2 hb3))
  obtain ⟨d0, d1, d2, d3, d4⟩ := (B5.mk d0 d1 d2 d3 d4).below hb3
  have hEn := fun n : Under (w2.alloc (.cells #[.string ⟨#[110, 111, 110, 101]⟩, .string ⟨#[115, 119, 101, 101, 112]⟩, .string ⟨#[103, 114, 111, 119]⟩, .string ⟨#[115, 112, 108, 105, 116]⟩] 9)) => (((hE0.below hb1).below hb2).below hb3).below n.below
  have hFn := fun n : Under (w2.alloc (.cells #[.string ⟨#[110, 111, 110, 101]⟩, .string ⟨#[115, 119, 101, 101, 112]⟩, .string ⟨#[103, 114, 111, 119]⟩, .string ⟨#[115, 112, 108, 105, 116]⟩] 9)) => (((hF0.below hb1).below hb2).below hb3).below n.below
  have hWn := fun n : Under (w2.alloc (.cells #[.string ⟨#[110, 111, 110, 101]⟩, .string ⟨#[115, 119, 101, 101, 112]⟩, .string ⟨#[103, 114, 111, 119]⟩, .string ⟨#[115, 112, 108, 105, 116]⟩] 9)) => (((hW0.below hb1).below hb2).below hb3).below n.below
  have f0 := Under.cell d0
  have f1 := Under.cell d1
  have f2 := Under.cell d2
  have f3 := Under.cell d3
  have f4 := Under.cell d4
  clear hE0 hF0 hW0 hb1 hb2 hb3 hb0 hA hG hRG d0 d1 d2 d3 d4
  try simp only [List.append_eq, List.cons_append, List.nil_append]
  refine wp_region_under (by kernel_rfl) (by kernel_rfl) ?_
  repeat (go_big_quiet_step ((first
    | (go_at_call 9; (with_reducible refine under_same (hN _)))
    | (go_at_call 10; (with_reducible refine under_same (hRN _)))
    | (go_at_call 11; (with_reducible refine under_same (hD _)))
    | (go_at_call 12; (with_reducible refine under_same (hRD _)))
    | (go_at_call 13; (with_reducible refine under_call (hM _ (hEn _))))
    | (go_at_call 14; (with_reducible refine under_call (hU _ (kr_all (hEn _)) (hFn _))))
    | (go_at_call 15; (with_reducible refine under_same (hWd _ (hWn _)))))))
  refine wpQuiet_nil ?_
  intro w5 hw5
  obtain ⟨m, rfl⟩ := hw5
  go_wp2
  all_goals (go_ret; exact ⟨by first | rfl | (simp; done), probe.below_step hB m.below⟩)

set_option maxRecDepth 100000 in
set_option maxHeartbeats 8000000 in
theorem tells_k3_0 (l t g a b : Int) (hl : I l) (e : String → Addr) (w : World) (hW : WordsOk w) (hE : ErrsOk names e w) (hF : FreshOk w) (hx : gx 3 g = 0) :
    Calls Tryd.prog 3 #[num5 l t g a b, .int .i64 3] w fun e w' => e = .returned (.bool true) ∧ Below w.heap.size w w' := by
  have hb0 := box_below w l t g a b
  have hA := alive_any _ (hW.below hb0)
  have hC0 := B5.new w l t g a b
  have hG := fun wx hEx hFx => groups_any 3 g e wx hEx hFx
  have hRG := fun wx => rgroups_any 3 g wx
  have hU := fun wx hEx hFx => units_any 3 g e wx hEx hFx
  have hN := fun wx => which_any l t g a b hl wx
  have hRN := fun wx => rwhich_any l t g a b wx
  have hD := fun wx => double_any l t g a b hl wx
  have hRD := fun wx => rdouble_any l t g a b wx
  have hWd := fun wx hWx => word_any 3 wx hWx
  have hM := fun wx hEx => num_zero e wx hEx
  have hE0 := hE.below hb0
  have hF0 := hF.below hb0
  have hW0 := hW.below hb0
  clear hE hF hW
  have hle := gx_le hx
  have eU : un 3 g = ge 3 g * gm 3 g + g := by unfold un; rw [if_pos hx]
  rw [eU] at hU
  rw [hx] at hG hRG
  clear eU hx
  generalize ge 3 g = E at *
  generalize gm 3 g = M at *
  generalize wh l t g a b = K at *
  generalize db l t g a b = Q at *
  obtain ⟨q1, q2, q3, q4, q5, q6⟩ := hle
  have hM2 : M = 1 ∨ M = 2 := by omega
  have e1 : wrap64 (E * M) = E * M := IntWalk.wrap64_in _ (by rcases hM2 with rfl | rfl <;> omega)
  have e2 : wrap64 (E * M + g) = E * M + g := IntWalk.wrap64_in _ (by rcases hM2 with rfl | rfl <;> omega)
  clear q1 q2 q3 q4 q5 q6 hM2
  rw [show wd 3 = ⟨#[115, 112, 108, 105, 116]⟩ from rfl] at hWd
  have gv : ∃ v, ev e 0 = v := ⟨_, rfl⟩
  obtain ⟨v, gv⟩ := gv
  rw [gv] at hG hM
  obtain ⟨c0, c1, c2, c3, c4⟩ := hC0
  go_enter Tryd.func3, Tryd.ntmps3
  go_wp2_with (first
    | (go_at_call 6; refine hA.mono ?_; rintro e w1 ⟨rfl, rfl⟩)
    | (go_at_call 7; (with_reducible refine (hG _ (kr_all hE0) hF0).mono ?_); rintro e w1 ⟨rfl, hb1⟩; obtain ⟨d0, d1, d2, d3, d4⟩ := (B5.mk c0 c1 c2 c3 c4).below hb1)
    | (go_at_call 8; (with_reducible refine (hRG _).mono ?_); rintro e w2 ⟨rfl, hb2⟩; obtain ⟨d0, d1, d2, d3, d4⟩ := (B5.mk d0 d1 d2 d3 d4).below hb2)
    | (go_at_call 9; refine (hN _).mono ?_; rintro e w3 ⟨rfl, rfl⟩)
    | (go_at_call 10; refine (hRN _).mono ?_; rintro e w3 ⟨rfl, rfl⟩)
    | (go_at_call 11; refine (hD _).mono ?_; rintro e w3 ⟨rfl, rfl⟩)
    | (go_at_call 12; refine (hRD _).mono ?_; rintro e w3 ⟨rfl, rfl⟩))
  have hb3 : Below w2.heap.size w2 (w2.alloc (.cells #[.string ⟨#[110, 111, 110, 101]⟩, .string ⟨#[115, 119, 101, 101, 112]⟩, .string ⟨#[103, 114, 111, 119]⟩, .string ⟨#[115, 112, 108, 105, 116]⟩] 9)) := (Below.refl _ _).alloc (Nat.le_refl _) _
  have hB := probe.below_step hb0 (probe.below_step hb1 (probe.below_step hb2 hb3))
  obtain ⟨d0, d1, d2, d3, d4⟩ := (B5.mk d0 d1 d2 d3 d4).below hb3
  have hEn := fun n : Under (w2.alloc (.cells #[.string ⟨#[110, 111, 110, 101]⟩, .string ⟨#[115, 119, 101, 101, 112]⟩, .string ⟨#[103, 114, 111, 119]⟩, .string ⟨#[115, 112, 108, 105, 116]⟩] 9)) => (((hE0.below hb1).below hb2).below hb3).below n.below
  have hFn := fun n : Under (w2.alloc (.cells #[.string ⟨#[110, 111, 110, 101]⟩, .string ⟨#[115, 119, 101, 101, 112]⟩, .string ⟨#[103, 114, 111, 119]⟩, .string ⟨#[115, 112, 108, 105, 116]⟩] 9)) => (((hF0.below hb1).below hb2).below hb3).below n.below
  have hWn := fun n : Under (w2.alloc (.cells #[.string ⟨#[110, 111, 110, 101]⟩, .string ⟨#[115, 119, 101, 101, 112]⟩, .string ⟨#[103, 114, 111, 119]⟩, .string ⟨#[115, 112, 108, 105, 116]⟩] 9)) => (((hW0.below hb1).below hb2).below hb3).below n.below
  have f0 := Under.cell d0
  have f1 := Under.cell d1
  have f2 := Under.cell d2
  have f3 := Under.cell d3
  have f4 := Under.cell d4
  clear hE0 hF0 hW0 hb1 hb2 hb3 hb0 hA hG hRG d0 d1 d2 d3 d4
  try simp only [List.append_eq, List.cons_append, List.nil_append]
  refine wp_region_under (by kernel_rfl) (by kernel_rfl) ?_
  repeat (go_big_quiet_step ((first
    | (go_at_call 9; (with_reducible refine under_same (hN _)))
    | (go_at_call 10; (with_reducible refine under_same (hRN _)))
    | (go_at_call 11; (with_reducible refine under_same (hD _)))
    | (go_at_call 12; (with_reducible refine under_same (hRD _)))
    | (go_at_call 13; (with_reducible refine under_call (hM _ (hEn _))))
    | (go_at_call 14; (with_reducible refine under_call (hU _ (kr_all (hEn _)) (hFn _))))
    | (go_at_call 15; (with_reducible refine under_same (hWd _ (hWn _)))))))
  refine wpQuiet_nil ?_
  intro w5 hw5
  obtain ⟨m, rfl⟩ := hw5
  go_wp2
  all_goals (go_ret; exact ⟨by first | rfl | (simp; done), probe.below_step hB m.below⟩)

set_option maxRecDepth 100000 in
set_option maxHeartbeats 8000000 in
theorem tells_k3_1 (l t g a b : Int) (hl : I l) (e : String → Addr) (w : World) (hW : WordsOk w) (hE : ErrsOk names e w) (hF : FreshOk w) (hx : gx 3 g = 1) :
    Calls Tryd.prog 3 #[num5 l t g a b, .int .i64 3] w fun e w' => e = .returned (.bool true) ∧ Below w.heap.size w w' := by
  have hb0 := box_below w l t g a b
  have hA := alive_any _ (hW.below hb0)
  have hC0 := B5.new w l t g a b
  have hG := fun wx hEx hFx => groups_any 3 g e wx hEx hFx
  have hRG := fun wx => rgroups_any 3 g wx
  have hU := fun wx hEx hFx => units_any 3 g e wx hEx hFx
  have hN := fun wx => which_any l t g a b hl wx
  have hRN := fun wx => rwhich_any l t g a b wx
  have hD := fun wx => double_any l t g a b hl wx
  have hRD := fun wx => rdouble_any l t g a b wx
  have hWd := fun wx hWx => word_any 3 wx hWx
  have hM := fun wx hEx => num_one e wx hEx
  have hE0 := hE.below hb0
  have hF0 := hF.below hb0
  have hW0 := hW.below hb0
  clear hE hF hW
  have eU : un 3 g = 0 := by unfold un; rw [hx]; rfl
  rw [eU] at hU
  rw [hx] at hG hRG
  clear eU hx
  generalize ge 3 g = E at *
  generalize gm 3 g = M at *
  generalize wh l t g a b = K at *
  generalize db l t g a b = Q at *
  rw [show wd 3 = ⟨#[115, 112, 108, 105, 116]⟩ from rfl] at hWd
  have gv : ∃ v, ev e 1 = v := ⟨_, rfl⟩
  obtain ⟨v, gv⟩ := gv
  rw [gv] at hG hM
  obtain ⟨c0, c1, c2, c3, c4⟩ := hC0
  go_enter Tryd.func3, Tryd.ntmps3
  go_wp2_with (first
    | (go_at_call 6; refine hA.mono ?_; rintro e w1 ⟨rfl, rfl⟩)
    | (go_at_call 7; (with_reducible refine (hG _ (kr_all hE0) hF0).mono ?_); rintro e w1 ⟨rfl, hb1⟩; obtain ⟨d0, d1, d2, d3, d4⟩ := (B5.mk c0 c1 c2 c3 c4).below hb1)
    | (go_at_call 8; (with_reducible refine (hRG _).mono ?_); rintro e w2 ⟨rfl, hb2⟩; obtain ⟨d0, d1, d2, d3, d4⟩ := (B5.mk d0 d1 d2 d3 d4).below hb2)
    | (go_at_call 9; refine (hN _).mono ?_; rintro e w3 ⟨rfl, rfl⟩)
    | (go_at_call 10; refine (hRN _).mono ?_; rintro e w3 ⟨rfl, rfl⟩)
    | (go_at_call 11; refine (hD _).mono ?_; rintro e w3 ⟨rfl, rfl⟩)
    | (go_at_call 12; refine (hRD _).mono ?_; rintro e w3 ⟨rfl, rfl⟩))
  have hb3 : Below w2.heap.size w2 (w2.alloc (.cells #[.string ⟨#[110, 111, 110, 101]⟩, .string ⟨#[115, 119, 101, 101, 112]⟩, .string ⟨#[103, 114, 111, 119]⟩, .string ⟨#[115, 112, 108, 105, 116]⟩] 9)) := (Below.refl _ _).alloc (Nat.le_refl _) _
  have hB := probe.below_step hb0 (probe.below_step hb1 (probe.below_step hb2 hb3))
  obtain ⟨d0, d1, d2, d3, d4⟩ := (B5.mk d0 d1 d2 d3 d4).below hb3
  have hEn := fun n : Under (w2.alloc (.cells #[.string ⟨#[110, 111, 110, 101]⟩, .string ⟨#[115, 119, 101, 101, 112]⟩, .string ⟨#[103, 114, 111, 119]⟩, .string ⟨#[115, 112, 108, 105, 116]⟩] 9)) => (((hE0.below hb1).below hb2).below hb3).below n.below
  have hFn := fun n : Under (w2.alloc (.cells #[.string ⟨#[110, 111, 110, 101]⟩, .string ⟨#[115, 119, 101, 101, 112]⟩, .string ⟨#[103, 114, 111, 119]⟩, .string ⟨#[115, 112, 108, 105, 116]⟩] 9)) => (((hF0.below hb1).below hb2).below hb3).below n.below
  have hWn := fun n : Under (w2.alloc (.cells #[.string ⟨#[110, 111, 110, 101]⟩, .string ⟨#[115, 119, 101, 101, 112]⟩, .string ⟨#[103, 114, 111, 119]⟩, .string ⟨#[115, 112, 108, 105, 116]⟩] 9)) => (((hW0.below hb1).below hb2).below hb3).below n.below
  have f0 := Under.cell d0
  have f1 := Under.cell d1
  have f2 := Under.cell d2
  have f3 := Under.cell d3
  have f4 := Under.cell d4
  clear hE0 hF0 hW0 hb1 hb2 hb3 hb0 hA hG hRG d0 d1 d2 d3 d4
  try simp only [List.append_eq, List.cons_append, List.nil_append]
  refine wp_region_under (by kernel_rfl) (by kernel_rfl) ?_
  repeat (go_big_quiet_step ((first
    | (go_at_call 9; (with_reducible refine under_same (hN _)))
    | (go_at_call 10; (with_reducible refine under_same (hRN _)))
    | (go_at_call 11; (with_reducible refine under_same (hD _)))
    | (go_at_call 12; (with_reducible refine under_same (hRD _)))
    | (go_at_call 13; (with_reducible refine under_call (hM _ (hEn _))))
    | (go_at_call 14; (with_reducible refine under_call (hU _ (kr_all (hEn _)) (hFn _))))
    | (go_at_call 15; (with_reducible refine under_same (hWd _ (hWn _)))))))
  refine wpQuiet_nil ?_
  intro w5 hw5
  obtain ⟨m, rfl⟩ := hw5
  go_wp2
  all_goals (go_ret; exact ⟨by first | rfl | (simp; done), probe.below_step hB m.below⟩)
end Go.Proofs.YthnihnnonjodjaaDoor.choose
