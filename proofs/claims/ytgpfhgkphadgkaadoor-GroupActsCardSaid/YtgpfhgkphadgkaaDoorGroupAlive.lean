/- group: what the laws' worlds hold; the chapter's example. -/
import Derived.Test.YtgpfhgkphadgkaaDoorGroupFind
namespace Go.Proofs.YtgpfhgkphadgkaaDoor.group
open Go.ChangeShapes Go.WideShapes Go.ChangeAt Go.RowKit swar trap under meter tail
set_option linter.unusedSimpArgs false
set_option linter.unusedVariables false

/-- a group and a meter, each in a block of its own that is new -/
structure St (w : World) (Bg Bm : Nat) (g : Gp) (m : Mt) (W : World) : Prop where
  below : Below w.heap.size w W
  ga : GAt Bg 0 g W
  ma : MAt Bm 0 m W
  ne : Bg ≠ Bm
  hg : w.heap.size ≤ Bg
  hm : w.heap.size ≤ Bm
theorem St.read {w : World} {Bg Bm : Nat} {g : Gp} {m : Mt} {W W' : World} (h : St w Bg Bm g m W) (hb : Below W.heap.size W W') : St w Bg Bm g m W' :=
  ⟨under.below_step h.below hb, h.ga.below hb, h.ma.below hb, h.ne, h.hg, h.hm⟩
theorem St.same {w : World} {Bg Bm : Nat} {g : Gp} {m : Mt} {W W' : World} (h : St w Bg Bm g m W) (hb : W = W') : St w Bg Bm g m W' := hb ▸ h
theorem St.gstep {w : World} {Bg Bm : Nat} {g g' : Gp} {m : Mt} {W W' : World} (h : St w Bg Bm g m W) (hs : GStep Bg 0 g' W W') : St w Bg Bm g' m W' :=
  ⟨h.below.trans (hs.past.below h.below.size (by simpa using h.hg)), hs.at', h.ma.past hs.past (by simp; exact fun e => h.ne e.symm), h.ne, h.hg, h.hm⟩
theorem St.mstep {w : World} {Bg Bm : Nat} {g : Gp} {m m' : Mt} {W W' : World} (h : St w Bg Bm g m W) (hs : MStep Bm 0 m' W W') : St w Bg Bm g m' W' :=
  ⟨h.below.trans (hs.past.below h.below.size (by simpa using h.hm)), h.ga.past hs.past (by simp; exact h.ne), hs.at', h.ne, h.hg, h.hm⟩
theorem St.new (w : World) : St w w.heap.size (w.heap.size + 1) .new .zero ((w.alloc (.cells newRow 76)).alloc (.cells #[.int .i64 0, .int .i64 0, .int .i64 0, .int .i64 0, .int .i64 0, .int .i64 0, .int .i64 0, .bool false] 32)) := by
  have h1 := GAt.new w
  have h2 := MAt.new (w.alloc (.cells newRow 76))
  rw [World.size_alloc] at h2
  exact ⟨two_new w _ _, h1.below (new_block _ _), h2, by omega, Nat.le_refl _, by omega⟩

/-- an entry, put into a new group at 3 -/
def aliveG : Gp := Gp.new.put 3 ⟨3, 1, 0, 0⟩
theorem alive_text : ctrl.textN (word aliveG) = ⟨#[46, 46, 46, 35, 46, 46, 46, 46]⟩ := by decide +kernel
theorem alive_two : ((Mt.zero.probes 1).probes 1).pl = 2 := by decide
theorem fld_counts (a b c : Int) (W : World) : (Instr.field 71 (.agg #[.int .i64 a, .int .i64 b, .int .i64 c]) 0).run Tryd.prog W = .ok (.int .i64 a) W := by kernel_rfl
set_option maxRecDepth 20000 in
theorem alive_any (x : Addr) (w : World) (hr : w.cell? ⟨1, 0, none⟩ = some (errs.errV x)) : Calls Tryd.prog 6 #[] w fun e w' => e = .returned (.bool true) ∧ Below w.heap.size w w' := by
  have hT0 := St.new w
  have hlt := World.block_lt_of_cell? w _ hr
  have hfl := fld_counts
  go_enter Tryd.func6, Tryd.ntmps6
  go_wp2_with (go_at_call 7; refine (new_any _).mono ?_; rintro e w' ⟨rfl, rfl⟩)
  generalize (w.alloc (.cells newRow 76)).alloc (.cells #[.int .i64 0, .int .i64 0, .int .i64 0, .int .i64 0, .int .i64 0, .int .i64 0, .int .i64 0, .bool false] 32) = W1 at hT0 ⊢
  have hr1 := (hT0.below.cell hlt).trans hr
  refine (probing_any _ _ _).mono ?_
  rintro e W2 ⟨rfl, hb2⟩
  have s2 := hT0.read hb2
  go_wp2_with (go_at_call 9; refine (look_probes _ _ (w.heap.size + 1) 0 _ _ s2.ma).mono ?_; rintro e W3 ⟨rfl, hs3⟩; have s3 := s2.mstep hs3)
  have hr3 := (s3.below.cell hlt).trans hr
  go_wp2_with (first
    | (go_at_call 11; refine (put_free w.heap.size 0 .new 3 1 0 0 (by decide) (by decide) Gp.Ok.new rfl _ s3.ga x hr3).mono ?_; rw [show is 2 Gp.new 3 = false from rfl]; rintro e W4 ⟨rfl, hs4⟩; have s4 := s3.gstep hs4)
    | (go_at_call 34; refine (probing_any _ _ _).mono ?_; rintro e W5 ⟨rfl, hb5⟩; have s5 := s4.read hb5)
    | (go_at_call 9; refine (look_probes _ _ (w.heap.size + 1) 0 _ _ s5.ma).mono ?_; rintro e W6 ⟨rfl, hs6⟩; have s6 := s5.mstep hs6)
    | (go_at_call 28; refine (text_any w.heap.size 0 aliveG _ s6.ga).mono ?_; rw [alive_text]; rintro e W7 ⟨rfl, hb7⟩; have s7 := s6.read hb7)
    | (go_at_call 35; refine (last_any (w.heap.size + 1) 0 _ _ s7.ma).mono ?_; rw [alive_two]; rintro e W8 ⟨rfl, hb8⟩; have s8 := s7.read hb8))
  go_ret
  exact ⟨rfl, s8.below⟩
end Go.Proofs.YtgpfhgkphadgkaaDoor.group
