/- GroupOpen: the walk. -/
import Derived.Test.YtgpfhgkphadgkaaDoorGroupOps
import Derived.LoopTactic
namespace Go.Proofs.YtgpfhgkphadgkaaDoor.group
open Go.ChangeShapes Go.WideShapes Go.ChangeAt Go.RowKit swar trap under meter tail
set_option linter.unusedSimpArgs false
set_option linter.unusedVariables false

/-- an act's cells -/
structure Act where
  kind : Int
  i : Int
  key : Nat
  val : Nat
  hash : Nat
structure ActCells (s : Option Addr) (w : World) (j : Nat) (a : Act) : Prop where
  cells : ∃ x, s = some x ∧ ∀ W, Below w.heap.size w W → W.cell? (x.add (j * 5)) = some (.int .i64 a.kind) ∧ W.cell? ⟨(x.add (j * 5)).block, (x.add (j * 5)).off + 1, none⟩ = some (.int .i64 a.i) ∧ W.cell? ⟨(x.add (j * 5)).block, (x.add (j * 5)).off + 2, none⟩ = some (.int .u64 (a.key : Nat)) ∧ W.cell? ⟨(x.add (j * 5)).block, (x.add (j * 5)).off + 3, none⟩ = some (.int .u64 (a.val : Nat)) ∧ W.cell? ⟨(x.add (j * 5)).block, (x.add (j * 5)).off + 4, none⟩ = some (.int .u64 (a.hash : Nat))
  i0 : -9223372036854775808 ≤ a.i
  i1 : a.i ≤ 9223372036854775807
  key : a.key < 18446744073709551616
  val : a.val < 18446744073709551616
  hash : a.hash < 18446744073709551616
abbrev actV (a : Act) : Value := .agg #[.int .i64 a.kind, .int .i64 a.i, .int .u64 (a.key : Nat), .int .u64 (a.val : Nat), .int .u64 (a.hash : Nat)]
set_option maxRecDepth 20000 in
theorem open_many (s : Option Addr) (la ca : Nat) (h80 : 80 < la) (x : Addr) (w : World) (hr : w.cell? ⟨1, 0, none⟩ = some (errs.errV x)) :
    Calls Tryd.prog 4 #[.slice s la ca] w fun e w' => e = .returned (.bool true) ∧ Below w.heap.size w w' := by
  have hA := alive_any x w hr
  have h1 : (80 : Int) < (la : Int) := by omega
  go_enter Tryd.func4, Tryd.ntmps4
  go_wp2_with (go_at_call 6; refine hA.mono ?_; rintro e w1 ⟨rfl, hb1⟩)
  go_ret
  exact ⟨rfl, hb1⟩
/-- between two rounds -/
def OpenOk (w : World) (B : Nat) (W : World) : Prop := ∃ g m, St w B (B + 1) g m W ∧ g.Ok
/-- in a round: the act's box and the view's -/
structure Rd (w : World) (B Sa Sv : Nat) (a : Act) (g : Gp) (m : Mt) (W : World) : Prop where
  st : St w B (B + 1) g m W
  ck : W.cell? ⟨Sa, 0, none⟩ = some (.int .i64 a.kind)
  ci : W.cell? ⟨Sa, 1, none⟩ = some (.int .i64 a.i)
  cky : W.cell? ⟨Sa, 2, none⟩ = some (.int .u64 (a.key : Nat))
  cvl : W.cell? ⟨Sa, 3, none⟩ = some (.int .u64 (a.val : Nat))
  chs : W.cell? ⟨Sa, 4, none⟩ = some (.int .u64 (a.hash : Nat))
  cv : W.cell? ⟨Sv, 0, none⟩ = some (.pointer (some ⟨B, 0, none⟩))
  na : Sa ≠ B
  nv : Sv ≠ B
  ok : g.Ok
theorem Rd.read {w : World} {B Sa Sv : Nat} {a : Act} {g : Gp} {m : Mt} {W W' : World} (h : Rd w B Sa Sv a g m W) (hb : Below W.heap.size W W') : Rd w B Sa Sv a g m W' :=
  have c : ∀ {p v}, W.cell? p = some v → W'.cell? p = some v := fun {p v} hc => (hb.cell (World.block_lt_of_cell? W p hc)).trans hc
  ⟨h.st.read hb, c h.ck, c h.ci, c h.cky, c h.cvl, c h.chs, c h.cv, h.na, h.nv, h.ok⟩
theorem Rd.gstep {w : World} {B Sa Sv : Nat} {a : Act} {g g' : Gp} {m : Mt} {W W' : World} (h : Rd w B Sa Sv a g m W) (hs : GStep B 0 g' W W') (hg : g'.Ok) : Rd w B Sa Sv a g' m W' :=
  have c : ∀ {i v}, W.cell? ⟨Sa, i, none⟩ = some v → W'.cell? ⟨Sa, i, none⟩ = some v := fun {i v} hc => hs.past.cell hc (by simpa using h.na)
  ⟨h.st.gstep hs, c h.ck, c h.ci, c h.cky, c h.cvl, c h.chs, hs.past.cell h.cv (by simpa using h.nv), h.na, h.nv, hg⟩
theorem Rd.start {w : World} {B : Nat} {a : Act} {g : Gp} {m m' : Mt} {W W2 W3 : World} (h : St w B (B + 1) g m W) (hok : g.Ok) (hb : Below (W.alloc (.cells #[.int .i64 a.kind, .int .i64 a.i, .int .u64 (a.key : Nat), .int .u64 (a.val : Nat), .int .u64 (a.hash : Nat)] 37)).heap.size (W.alloc (.cells #[.int .i64 a.kind, .int .i64 a.i, .int .u64 (a.key : Nat), .int .u64 (a.val : Nat), .int .u64 (a.hash : Nat)] 37)) W2) (hs : MStep (B + 1) 0 m' W2 W3) :
    Rd w B W.heap.size W3.heap.size a g m' (W3.alloc (.cells #[.pointer (some ⟨B, 0, none⟩)] 39)) := by
  have h1 := h.read (new_block W (.cells #[.int .i64 a.kind, .int .i64 a.i, .int .u64 (a.key : Nat), .int .u64 (a.val : Nat), .int .u64 (a.hash : Nat)] 37))
  have hz := hb.size
  rw [World.size_alloc] at hz
  have h2 := h1.read hb
  have h3 := h2.mstep hs
  have hg := h.ga.lt
  have hm := h.ma.lt
  have hz3 := hs.past.size
  have hr := World.alloc_heap_new W (.cells #[.int .i64 a.kind, .int .i64 a.i, .int .u64 (a.key : Nat), .int .u64 (a.val : Nat), .int .u64 (a.hash : Nat)] 37)
  have c : ∀ {i : Nat} {v : Value}, (W.alloc (.cells #[.int .i64 a.kind, .int .i64 a.i, .int .u64 (a.key : Nat), .int .u64 (a.val : Nat), .int .u64 (a.hash : Nat)] 37)).cell? ⟨W.heap.size, i, none⟩ = some v → (W3.alloc (.cells #[.pointer (some ⟨B, 0, none⟩)] 39)).cell? ⟨W.heap.size, i, none⟩ = some v := fun {i v} hc => by
    have k2 := (hb.cell (World.block_lt_of_cell? _ _ hc)).trans hc
    have k3 := hs.past.cell k2 (by simp; omega)
    exact ((new_block W3 _).cell (World.block_lt_of_cell? _ _ k3)).trans k3
  refine ⟨h3.read (new_block W3 _), c ?_, c ?_, c ?_, c ?_, c ?_, (Boxed.new W3 _ _).cell, by omega, by omega, hok⟩
  all_goals rw [cell_of_row _ _ _ _ _ _ hr]; rfl

set_option maxRecDepth 100000 in
set_option maxHeartbeats 4000000 in
theorem open_few (a : String → Addr) (s : Option Addr) (la ca : Nat) (az : Nat → Act) (h80 : la ≤ 80) (w : World) (hE : Errs2 a w) (hT : TabOk w) (hA : ∀ j, j < la → ActCells s w j (az j)) :
    Calls Tryd.prog 4 #[.slice s la ca] w fun e w' => e = .returned (.bool true) ∧ Below w.heap.size w w' := by
  have hAl := alive_any _ w hE.state
  have h1 : (la : Int) ≤ 80 := by omega
  have HE := Lib.hid hE
  have HT := Lib.hid hT
  have HA := Lib.hid hA
  clear hE hT hA
  go_enter Tryd.func4, Tryd.ntmps4
  go_wp2_with (first
    | (go_at_call 6; refine hAl.mono ?_; rintro e w1 ⟨rfl, hb1⟩)
    | (go_at_call 7; refine (new_any _).mono ?_; rintro e w' ⟨rfl, rfl⟩))
  have hS0 := St.new w1
  generalize (w1.alloc (.cells newRow 76)).alloc (.cells #[.int .i64 0, .int .i64 0, .int .i64 0, .int .i64 0, .int .i64 0, .int .i64 0, .int .i64 0, .bool false] 32) = W1 at hS0 ⊢
  have hI0 : OpenOk w1 w1.heap.size W1 := ⟨_, _, hS0, Gp.Ok.new⟩
  have HI := Lib.hid hI0
  have HE1 := Lib.hid (HE.out.below hb1)
  have HT1 := Lib.hid (HT.out.below hb1 HT.out.lt)
  clear hS0 hI0 hAl
  generalize hB : w1.heap.size = B at *
  go_loopw [28] (fun i wr => ∃ k : Nat, k ≤ la ∧ i = .int .i64 k ∧ Hid (OpenOk w1 B wr)) (fun i _ => la - (intOf i).toNat)
  case atStart => exact ⟨0, by omega, rfl, HI⟩
  case round =>
    obtain ⟨k, hk, rfl, HO⟩ := hrel
    rcases Nat.lt_or_ge k la with hkl | hkl
    · obtain ⟨⟨x, rfl, hcs⟩, i0, i1, bk, bv, bh⟩ := HA.out k hkl
      obtain ⟨g, m, hS, hg⟩ := HO.out
      obtain ⟨c0, c1, c2, c3, c4⟩ := hcs _ (under.below_step hb1 hS.below)
      have hki : (k : Int) < (la : Int) := by omega
      have hkw : k + 1 ≤ la := by omega
      have hk80 : k < 80 := by omega
      generalize hac : az k = ac at *
      clear hcs hac
      have HS := Lib.hid hS
      have HG := Lib.hid hg
      have HE2 := Lib.hid (HE1.out.below hS.below)
      clear hS hg HO
      -- THE ROUND
      go_wp2_with (first
        | (go_at_call 34; refine (probing_any _ _ _).mono ?_; rintro e W2 ⟨rfl, hb2⟩)
        | (go_at_call 9; refine (look_probes _ _ (B + 1) 0 _ _ (HS.out.read (under.below_step (new_block _ _) hb2)).ma).mono ?_; rintro e W3 ⟨rfl, hs3⟩))
      have R0 := Rd.start HS.out HG.out hb2 hs3
      generalize W3.heap.size = Sv at R0 ⊢
      generalize W3.alloc (.cells #[.pointer (some ⟨B, 0, none⟩)] 39) = W4 at R0 ⊢
      generalize wr.heap.size = Sa at R0 ⊢
      generalize m.probes 1 = m1 at R0
      clear hb2 hs3 W2 W3
      have cC0 := fun n : Under W4 => open_any B 0 g HG.out n.W (R0.read n.below).st.ga
      have cC1 := fun n : Under W4 => full_any B 0 g HG.out n.W (R0.read n.below).st.ga
      have cU0 := Under.cell R0.cv
      refine wp_region_under (by kernel_rfl) (by kernel_rfl) ?_
      repeat (go_big_quiet_step (first
        | (go_at_call 24; (with_reducible refine under_call (cC0 _)))
        | (go_at_call 26; (with_reducible refine under_call (cC1 _)))))
      refine wpQuiet_nil ?_
      intro wU hU
      obtain ⟨nU, rfl⟩ := hU
      have R := R0.read nU.below
      generalize nU.W = W5 at R ⊢
      clear nU cC0 cC1 cU0
      have hcl := count_le 3 g
      have fk := R.ck
      have fi := R.ci
      have fy := R.cky
      have fl := R.cvl
      have fh := R.chs
      have fv := R.cv
      clear R0 W4
      obtain ⟨cg, hcg⟩ : ∃ cg, count 3 g = cg := ⟨_, rfl⟩
      rw [hcg] at hcl ⊢
      have hw1 : IntKind.i64.wrap ((cg : Int) + 1) = (cg : Int) + 1 := IntWalk.i64_in _ (by omega)
      have hw2 : IntKind.i64.wrap ((cg : Int) - 1) = (cg : Int) - 1 := IntWalk.i64_in _ (by omega)
      by_cases k0 : ac.kind = 0
      · have d0 : (ac.kind == 0) = true := by simp [k0]
        by_cases hf : find ac.key ac.hash g < 0
        · have df : decide (0 ≤ find ac.key ac.hash g) = false := decide_eq_false (by omega)
          by_cases hp : putE g ac.i = 0
          · cases ho : opens g
            · have hgp := R.ok.putG ac.i bk bv bh
              obtain ⟨hfd, hct⟩ := put_found (v := ac.val) hf hp
              rw [hcg] at hct
              have hop : opens (putG g ac.i ⟨3, ac.key, ac.val, ac.hash⟩) = false := opens_putG ho
              have hct2 : ((count 3 (putG g ac.i ⟨3, ac.key, ac.val, ac.hash⟩) : Nat) : Int) = (cg : Int) + 1 := by omega
              have cP := fun W hG hE => put_any a B 0 g ac.i ac.key ac.val ac.hash bh R.ok W hG hE
              rw [hp, show errAt a 0 = .nilIface from rfl] at cP
              generalize putG g ac.i ⟨3, ac.key, ac.val, ac.hash⟩ = gp at *
              clear hct
              go_wp2_with (first
                | (go_at_call 24; refine (open_any B 0 _ R.ok _ R.st.ga).mono ?_; rintro e W6 ⟨rfl, hb6⟩; replace R := R.read hb6; replace fk := R.ck; replace fi := R.ci; replace fy := R.cky; replace fl := R.cvl; replace fh := R.chs; replace fv := R.cv; clear hb6)
                | (go_at_call 26; refine (full_any B 0 _ R.ok _ R.st.ga).mono ?_; rintro e W6 ⟨rfl, hb6⟩; replace R := R.read hb6; replace fk := R.ck; replace fi := R.ci; replace fy := R.cky; replace fl := R.cvl; replace fh := R.chs; replace fv := R.cv; clear hb6)
                | (go_at_call 19; refine (at_any a B 0 _ _ R.ok _ R.st.ga (HE1.out.below R.st.below)).mono ?_; rintro e W6 ⟨rfl, hb6⟩; replace R := R.read hb6; replace fk := R.ck; replace fi := R.ci; replace fy := R.cky; replace fl := R.cvl; replace fh := R.chs; replace fv := R.cv; clear hb6)
                | (go_at_call 20; refine (find_any B 0 _ ac.key ac.hash bh R.ok _ R.st.ga (HT1.out.below R.st.below HT1.out.lt)).mono ?_; rintro e W6 ⟨rfl, hb6⟩; replace R := R.read hb6; replace fk := R.ck; replace fi := R.ci; replace fy := R.cky; replace fl := R.cvl; replace fh := R.chs; replace fv := R.cv; clear hb6)
                | (go_at_call 11; refine (cP _ R.st.ga (HE1.out.below R.st.below)).mono ?_; rintro e W6 ⟨rfl, hs6⟩; replace R := R.gstep hs6 hgp; replace fk := R.ck; replace fi := R.ci; replace fy := R.cky; replace fl := R.cvl; replace fh := R.chs; replace fv := R.cv; clear hs6))
              clear fk fi fy fl fh fv
              have cC0 := fun n : Under W6 => find_any B 0 gp ac.key ac.hash bh hgp n.W (R.read n.below).st.ga (HT1.out.below (R.read n.below).st.below HT1.out.lt)
              have cC1 := fun n : Under W6 => full_any B 0 gp hgp n.W (R.read n.below).st.ga
              have cU0 := Under.cell R.cv
              have cU1 := Under.cell R.ci
              have cU2 := Under.cell R.cky
              have cU3 := Under.cell R.chs
              refine wp_region_under (by kernel_rfl) (by kernel_rfl) ?_
              repeat (go_big_quiet_step (first
                | (go_at_call 20; (with_reducible refine under_call (cC0 _)))
                | (go_at_call 26; (with_reducible refine under_call (cC1 _)))))
              refine wpQuiet_nil ?_
              intro wU hU
              obtain ⟨nU, rfl⟩ := hU
              have R1 := R.read nU.below
              generalize nU.W = W7 at R1 ⊢
              clear nU cC0 cC1 cU0 cU1 cU2 cU3
              clear R
              have R := R1
              clear R1 W6
              have fk := R.ck
              have fi := R.ci
              have fy := R.cky
              have fl := R.cvl
              have fh := R.chs
              have fv := R.cv
              go_wp2_with (first
                | (go_at_call 24; refine (open_any B 0 _ R.ok _ R.st.ga).mono ?_; rintro e W6 ⟨rfl, hb6⟩; replace R := R.read hb6; replace fk := R.ck; replace fi := R.ci; replace fy := R.cky; replace fl := R.cvl; replace fh := R.chs; replace fv := R.cv; clear hb6)
                | (go_at_call 26; refine (full_any B 0 _ R.ok _ R.st.ga).mono ?_; rintro e W6 ⟨rfl, hb6⟩; replace R := R.read hb6; replace fk := R.ck; replace fi := R.ci; replace fy := R.cky; replace fl := R.cvl; replace fh := R.chs; replace fv := R.cv; clear hb6)
                | (go_at_call 19; refine (at_any a B 0 _ _ R.ok _ R.st.ga (HE1.out.below R.st.below)).mono ?_; rintro e W6 ⟨rfl, hb6⟩; replace R := R.read hb6; replace fk := R.ck; replace fi := R.ci; replace fy := R.cky; replace fl := R.cvl; replace fh := R.chs; replace fv := R.cv; clear hb6))
              skip
              go_roundw
              case rel => exact ⟨k + 1, by omega, by simp, Lib.hid ⟨_, _, R.st, R.ok⟩⟩
              case measure => simp [intOf]; omega
            · have hgp := R.ok.putG ac.i bk bv bh
              obtain ⟨hfd, hct⟩ := put_found (v := ac.val) hf hp
              rw [hcg] at hct
              have hct2 : ((count 3 (putG g ac.i ⟨3, ac.key, ac.val, ac.hash⟩) : Nat) : Int) = (cg : Int) + 1 := by omega
              have cP := fun W hG hE => put_any a B 0 g ac.i ac.key ac.val ac.hash bh R.ok W hG hE
              rw [hp, show errAt a 0 = .nilIface from rfl] at cP
              generalize putG g ac.i ⟨3, ac.key, ac.val, ac.hash⟩ = gp at *
              clear hct
              go_wp2_with (first
                | (go_at_call 24; refine (open_any B 0 _ R.ok _ R.st.ga).mono ?_; rintro e W6 ⟨rfl, hb6⟩; replace R := R.read hb6; replace fk := R.ck; replace fi := R.ci; replace fy := R.cky; replace fl := R.cvl; replace fh := R.chs; replace fv := R.cv; clear hb6)
                | (go_at_call 26; refine (full_any B 0 _ R.ok _ R.st.ga).mono ?_; rintro e W6 ⟨rfl, hb6⟩; replace R := R.read hb6; replace fk := R.ck; replace fi := R.ci; replace fy := R.cky; replace fl := R.cvl; replace fh := R.chs; replace fv := R.cv; clear hb6)
                | (go_at_call 19; refine (at_any a B 0 _ _ R.ok _ R.st.ga (HE1.out.below R.st.below)).mono ?_; rintro e W6 ⟨rfl, hb6⟩; replace R := R.read hb6; replace fk := R.ck; replace fi := R.ci; replace fy := R.cky; replace fl := R.cvl; replace fh := R.chs; replace fv := R.cv; clear hb6)
                | (go_at_call 20; refine (find_any B 0 _ ac.key ac.hash bh R.ok _ R.st.ga (HT1.out.below R.st.below HT1.out.lt)).mono ?_; rintro e W6 ⟨rfl, hb6⟩; replace R := R.read hb6; replace fk := R.ck; replace fi := R.ci; replace fy := R.cky; replace fl := R.cvl; replace fh := R.chs; replace fv := R.cv; clear hb6)
                | (go_at_call 11; refine (cP _ R.st.ga (HE1.out.below R.st.below)).mono ?_; rintro e W6 ⟨rfl, hs6⟩; replace R := R.gstep hs6 hgp; replace fk := R.ck; replace fi := R.ci; replace fy := R.cky; replace fl := R.cvl; replace fh := R.chs; replace fv := R.cv; clear hs6))
              clear fk fi fy fl fh fv
              have cC0 := fun n : Under W6 => find_any B 0 gp ac.key ac.hash bh hgp n.W (R.read n.below).st.ga (HT1.out.below (R.read n.below).st.below HT1.out.lt)
              have cC1 := fun n : Under W6 => full_any B 0 gp hgp n.W (R.read n.below).st.ga
              have cU0 := Under.cell R.cv
              have cU1 := Under.cell R.ci
              have cU2 := Under.cell R.cky
              have cU3 := Under.cell R.chs
              refine wp_region_under (by kernel_rfl) (by kernel_rfl) ?_
              repeat (go_big_quiet_step (first
                | (go_at_call 20; (with_reducible refine under_call (cC0 _)))
                | (go_at_call 26; (with_reducible refine under_call (cC1 _)))))
              refine wpQuiet_nil ?_
              intro wU hU
              obtain ⟨nU, rfl⟩ := hU
              have R1 := R.read nU.below
              generalize nU.W = W7 at R1 ⊢
              clear nU cC0 cC1 cU0 cU1 cU2 cU3
              clear R
              have R := R1
              clear R1 W6
              have fk := R.ck
              have fi := R.ci
              have fy := R.cky
              have fl := R.cvl
              have fh := R.chs
              have fv := R.cv
              go_wp2_with (first
                | (go_at_call 24; refine (open_any B 0 _ R.ok _ R.st.ga).mono ?_; rintro e W6 ⟨rfl, hb6⟩; replace R := R.read hb6; replace fk := R.ck; replace fi := R.ci; replace fy := R.cky; replace fl := R.cvl; replace fh := R.chs; replace fv := R.cv; clear hb6)
                | (go_at_call 26; refine (full_any B 0 _ R.ok _ R.st.ga).mono ?_; rintro e W6 ⟨rfl, hb6⟩; replace R := R.read hb6; replace fk := R.ck; replace fi := R.ci; replace fy := R.cky; replace fl := R.cvl; replace fh := R.chs; replace fv := R.cv; clear hb6)
                | (go_at_call 19; refine (at_any a B 0 _ _ R.ok _ R.st.ga (HE1.out.below R.st.below)).mono ?_; rintro e W6 ⟨rfl, hb6⟩; replace R := R.read hb6; replace fk := R.ck; replace fi := R.ci; replace fy := R.cky; replace fl := R.cvl; replace fh := R.chs; replace fv := R.cv; clear hb6))
              skip
              go_roundw
              case rel => exact ⟨k + 1, by omega, by simp, Lib.hid ⟨_, _, R.st, R.ok⟩⟩
              case measure => simp [intOf]; omega
          · cases ho : opens g
            · have hgp := R.ok.putG ac.i bk bv bh
              have cP := fun W hG hE => put_any a B 0 g ac.i ac.key ac.val ac.hash bh R.ok W hG hE
              obtain ⟨pe, hpe⟩ : ∃ pe, putE g ac.i = pe + 1 := ⟨putE g ac.i - 1, by omega⟩
              rw [hpe, show errAt a (pe + 1) = errs.errV (a (errs.nm pe)) from rfl] at cP
              have hop : opens (putG g ac.i ⟨3, ac.key, ac.val, ac.hash⟩) = false := opens_putG ho
              generalize putG g ac.i ⟨3, ac.key, ac.val, ac.hash⟩ = gp at *
              go_wp2_with (first
                | (go_at_call 24; refine (open_any B 0 _ R.ok _ R.st.ga).mono ?_; rintro e W6 ⟨rfl, hb6⟩; replace R := R.read hb6; replace fk := R.ck; replace fi := R.ci; replace fy := R.cky; replace fl := R.cvl; replace fh := R.chs; replace fv := R.cv; clear hb6)
                | (go_at_call 26; refine (full_any B 0 _ R.ok _ R.st.ga).mono ?_; rintro e W6 ⟨rfl, hb6⟩; replace R := R.read hb6; replace fk := R.ck; replace fi := R.ci; replace fy := R.cky; replace fl := R.cvl; replace fh := R.chs; replace fv := R.cv; clear hb6)
                | (go_at_call 19; refine (at_any a B 0 _ _ R.ok _ R.st.ga (HE1.out.below R.st.below)).mono ?_; rintro e W6 ⟨rfl, hb6⟩; replace R := R.read hb6; replace fk := R.ck; replace fi := R.ci; replace fy := R.cky; replace fl := R.cvl; replace fh := R.chs; replace fv := R.cv; clear hb6)
                | (go_at_call 20; refine (find_any B 0 _ ac.key ac.hash bh R.ok _ R.st.ga (HT1.out.below R.st.below HT1.out.lt)).mono ?_; rintro e W6 ⟨rfl, hb6⟩; replace R := R.read hb6; replace fk := R.ck; replace fi := R.ci; replace fy := R.cky; replace fl := R.cvl; replace fh := R.chs; replace fv := R.cv; clear hb6)
                | (go_at_call 11; refine (cP _ R.st.ga (HE1.out.below R.st.below)).mono ?_; rintro e W6 ⟨rfl, hs6⟩; replace R := R.gstep hs6 hgp; replace fk := R.ck; replace fi := R.ci; replace fy := R.cky; replace fl := R.cvl; replace fh := R.chs; replace fv := R.cv; clear hs6))
              clear fk fi fy fl fh fv
              have cC0 := fun n : Under W6 => find_any B 0 gp ac.key ac.hash bh hgp n.W (R.read n.below).st.ga (HT1.out.below (R.read n.below).st.below HT1.out.lt)
              have cC1 := fun n : Under W6 => full_any B 0 gp hgp n.W (R.read n.below).st.ga
              have cU0 := Under.cell R.cv
              have cU1 := Under.cell R.ci
              have cU2 := Under.cell R.cky
              have cU3 := Under.cell R.chs
              refine wp_region_under (by kernel_rfl) (by kernel_rfl) ?_
              repeat (go_big_quiet_step (first
                | (go_at_call 20; (with_reducible refine under_call (cC0 _)))
                | (go_at_call 26; (with_reducible refine under_call (cC1 _)))))
              refine wpQuiet_nil ?_
              intro wU hU
              obtain ⟨nU, rfl⟩ := hU
              have R1 := R.read nU.below
              generalize nU.W = W7 at R1 ⊢
              clear nU cC0 cC1 cU0 cU1 cU2 cU3
              clear R
              have R := R1
              clear R1 W6
              have fk := R.ck
              have fi := R.ci
              have fy := R.cky
              have fl := R.cvl
              have fh := R.chs
              have fv := R.cv
              go_wp2_with (first
                | (go_at_call 24; refine (open_any B 0 _ R.ok _ R.st.ga).mono ?_; rintro e W6 ⟨rfl, hb6⟩; replace R := R.read hb6; replace fk := R.ck; replace fi := R.ci; replace fy := R.cky; replace fl := R.cvl; replace fh := R.chs; replace fv := R.cv; clear hb6)
                | (go_at_call 26; refine (full_any B 0 _ R.ok _ R.st.ga).mono ?_; rintro e W6 ⟨rfl, hb6⟩; replace R := R.read hb6; replace fk := R.ck; replace fi := R.ci; replace fy := R.cky; replace fl := R.cvl; replace fh := R.chs; replace fv := R.cv; clear hb6)
                | (go_at_call 19; refine (at_any a B 0 _ _ R.ok _ R.st.ga (HE1.out.below R.st.below)).mono ?_; rintro e W6 ⟨rfl, hb6⟩; replace R := R.read hb6; replace fk := R.ck; replace fi := R.ci; replace fy := R.cky; replace fl := R.cvl; replace fh := R.chs; replace fv := R.cv; clear hb6))
              skip
              go_roundw
              case rel => exact ⟨k + 1, by omega, by simp, Lib.hid ⟨_, _, R.st, R.ok⟩⟩
              case measure => simp [intOf]; omega
            · have hgp := R.ok.putG ac.i bk bv bh
              have cP := fun W hG hE => put_any a B 0 g ac.i ac.key ac.val ac.hash bh R.ok W hG hE
              obtain ⟨pe, hpe⟩ : ∃ pe, putE g ac.i = pe + 1 := ⟨putE g ac.i - 1, by omega⟩
              rw [hpe, show errAt a (pe + 1) = errs.errV (a (errs.nm pe)) from rfl] at cP
              generalize putG g ac.i ⟨3, ac.key, ac.val, ac.hash⟩ = gp at *
              go_wp2_with (first
                | (go_at_call 24; refine (open_any B 0 _ R.ok _ R.st.ga).mono ?_; rintro e W6 ⟨rfl, hb6⟩; replace R := R.read hb6; replace fk := R.ck; replace fi := R.ci; replace fy := R.cky; replace fl := R.cvl; replace fh := R.chs; replace fv := R.cv; clear hb6)
                | (go_at_call 26; refine (full_any B 0 _ R.ok _ R.st.ga).mono ?_; rintro e W6 ⟨rfl, hb6⟩; replace R := R.read hb6; replace fk := R.ck; replace fi := R.ci; replace fy := R.cky; replace fl := R.cvl; replace fh := R.chs; replace fv := R.cv; clear hb6)
                | (go_at_call 19; refine (at_any a B 0 _ _ R.ok _ R.st.ga (HE1.out.below R.st.below)).mono ?_; rintro e W6 ⟨rfl, hb6⟩; replace R := R.read hb6; replace fk := R.ck; replace fi := R.ci; replace fy := R.cky; replace fl := R.cvl; replace fh := R.chs; replace fv := R.cv; clear hb6)
                | (go_at_call 20; refine (find_any B 0 _ ac.key ac.hash bh R.ok _ R.st.ga (HT1.out.below R.st.below HT1.out.lt)).mono ?_; rintro e W6 ⟨rfl, hb6⟩; replace R := R.read hb6; replace fk := R.ck; replace fi := R.ci; replace fy := R.cky; replace fl := R.cvl; replace fh := R.chs; replace fv := R.cv; clear hb6)
                | (go_at_call 11; refine (cP _ R.st.ga (HE1.out.below R.st.below)).mono ?_; rintro e W6 ⟨rfl, hs6⟩; replace R := R.gstep hs6 hgp; replace fk := R.ck; replace fi := R.ci; replace fy := R.cky; replace fl := R.cvl; replace fh := R.chs; replace fv := R.cv; clear hs6))
              clear fk fi fy fl fh fv
              have cC0 := fun n : Under W6 => find_any B 0 gp ac.key ac.hash bh hgp n.W (R.read n.below).st.ga (HT1.out.below (R.read n.below).st.below HT1.out.lt)
              have cC1 := fun n : Under W6 => full_any B 0 gp hgp n.W (R.read n.below).st.ga
              have cU0 := Under.cell R.cv
              have cU1 := Under.cell R.ci
              have cU2 := Under.cell R.cky
              have cU3 := Under.cell R.chs
              refine wp_region_under (by kernel_rfl) (by kernel_rfl) ?_
              repeat (go_big_quiet_step (first
                | (go_at_call 20; (with_reducible refine under_call (cC0 _)))
                | (go_at_call 26; (with_reducible refine under_call (cC1 _)))))
              refine wpQuiet_nil ?_
              intro wU hU
              obtain ⟨nU, rfl⟩ := hU
              have R1 := R.read nU.below
              generalize nU.W = W7 at R1 ⊢
              clear nU cC0 cC1 cU0 cU1 cU2 cU3
              clear R
              have R := R1
              clear R1 W6
              have fk := R.ck
              have fi := R.ci
              have fy := R.cky
              have fl := R.cvl
              have fh := R.chs
              have fv := R.cv
              go_wp2_with (first
                | (go_at_call 24; refine (open_any B 0 _ R.ok _ R.st.ga).mono ?_; rintro e W6 ⟨rfl, hb6⟩; replace R := R.read hb6; replace fk := R.ck; replace fi := R.ci; replace fy := R.cky; replace fl := R.cvl; replace fh := R.chs; replace fv := R.cv; clear hb6)
                | (go_at_call 26; refine (full_any B 0 _ R.ok _ R.st.ga).mono ?_; rintro e W6 ⟨rfl, hb6⟩; replace R := R.read hb6; replace fk := R.ck; replace fi := R.ci; replace fy := R.cky; replace fl := R.cvl; replace fh := R.chs; replace fv := R.cv; clear hb6)
                | (go_at_call 19; refine (at_any a B 0 _ _ R.ok _ R.st.ga (HE1.out.below R.st.below)).mono ?_; rintro e W6 ⟨rfl, hb6⟩; replace R := R.read hb6; replace fk := R.ck; replace fi := R.ci; replace fy := R.cky; replace fl := R.cvl; replace fh := R.chs; replace fv := R.cv; clear hb6))
              skip
              go_roundw
              case rel => exact ⟨k + 1, by omega, by simp, Lib.hid ⟨_, _, R.st, R.ok⟩⟩
              case measure => simp [intOf]; omega
        · have df : decide (0 ≤ find ac.key ac.hash g) = true := decide_eq_true (by omega)
          go_wp2_with (first
            | (go_at_call 24; refine (open_any B 0 _ R.ok _ R.st.ga).mono ?_; rintro e W6 ⟨rfl, hb6⟩; replace R := R.read hb6; replace fk := R.ck; replace fi := R.ci; replace fy := R.cky; replace fl := R.cvl; replace fh := R.chs; replace fv := R.cv; clear hb6)
            | (go_at_call 26; refine (full_any B 0 _ R.ok _ R.st.ga).mono ?_; rintro e W6 ⟨rfl, hb6⟩; replace R := R.read hb6; replace fk := R.ck; replace fi := R.ci; replace fy := R.cky; replace fl := R.cvl; replace fh := R.chs; replace fv := R.cv; clear hb6)
            | (go_at_call 19; refine (at_any a B 0 _ _ R.ok _ R.st.ga (HE1.out.below R.st.below)).mono ?_; rintro e W6 ⟨rfl, hb6⟩; replace R := R.read hb6; replace fk := R.ck; replace fi := R.ci; replace fy := R.cky; replace fl := R.cvl; replace fh := R.chs; replace fv := R.cv; clear hb6)
            | (go_at_call 20; refine (find_any B 0 _ ac.key ac.hash bh R.ok _ R.st.ga (HT1.out.below R.st.below HT1.out.lt)).mono ?_; rintro e W6 ⟨rfl, hb6⟩; replace R := R.read hb6; replace fk := R.ck; replace fi := R.ci; replace fy := R.cky; replace fl := R.cvl; replace fh := R.chs; replace fv := R.cv; clear hb6))
          skip
          go_roundw
          case rel => exact ⟨k + 1, by omega, by simp, Lib.hid ⟨_, _, R.st, R.ok⟩⟩
          case measure => simp [intOf]; omega
      · by_cases k1 : ac.kind = 1
        · have d0 : (ac.kind == 0) = false := by simp [k0]
          have d1 : (ac.kind == 1) = true := by simp [k1]
          cases ho : opens g
          · have hgp := R.ok.valG ac.i bv
            obtain ⟨hvl, hct⟩ := val_said g ac.i ac.val
            rw [hcg] at hct
            have hop : opens (valG g ac.i ac.val) = false := opens_valG ho
            have hct2 : ((count 3 (valG g ac.i ac.val) : Nat) : Int) = (cg : Int) := by omega
            have cP := fun W hG hE => val_any a B 0 g ac.i ac.val R.ok W hG hE
            clear hct
            generalize valG g ac.i ac.val = gp at *
            have cA := fun W hG hE => at_any a B 0 gp ac.i hgp W hG hE
            generalize atS gp ac.i = sl at *
            cases hfa : fullAt gp ac.i
            · clear hvl
              rw [hfa] at cA
              go_wp2_with (first
                | (go_at_call 14; refine (cP _ R.st.ga (HE1.out.below R.st.below)).mono ?_; rintro e W6 ⟨rfl, hs6⟩; replace R := R.gstep hs6 hgp; replace fk := R.ck; replace fi := R.ci; replace fy := R.cky; replace fl := R.cvl; replace fh := R.chs; replace fv := R.cv; clear hs6)
                | (go_at_call 19; refine (cA _ R.st.ga (HE1.out.below R.st.below)).mono ?_; rintro e W6 ⟨rfl, hb6⟩; replace R := R.read hb6; replace fk := R.ck; replace fi := R.ci; replace fy := R.cky; replace fl := R.cvl; replace fh := R.chs; replace fv := R.cv; clear hb6; have zS := World.block_lt_of_cell? W6 _ fk; have zV := World.block_lt_of_cell? W6 _ fv))
              have hbE := new_block W6 (.cells #[.int .u64 (sl.key : Nat), .int .u64 (sl.val : Nat), .int .u64 (sl.hash : Nat)] 35)
              generalize W6.alloc (.cells #[.int .u64 (sl.key : Nat), .int .u64 (sl.val : Nat), .int .u64 (sl.hash : Nat)] 35) = W8 at hbE ⊢
              replace R := R.read hbE
              clear fk fi fy fl fh fv zS zV hbE
              have fk := R.ck
              have fi := R.ci
              have fy := R.cky
              have fl := R.cvl
              have fh := R.chs
              have fv := R.cv
              refine (full_any B 0 _ R.ok _ R.st.ga).mono ?_
              rintro e W9 ⟨rfl, hb9⟩
              replace R := R.read hb9
              replace fk := R.ck
              replace fi := R.ci
              replace fy := R.cky
              replace fl := R.cvl
              replace fh := R.chs
              replace fv := R.cv
              clear hb9
              go_wp2_with (first
                | (go_at_call 24; refine (open_any B 0 _ R.ok _ R.st.ga).mono ?_; rintro e W6 ⟨rfl, hb6⟩; replace R := R.read hb6; replace fk := R.ck; replace fi := R.ci; replace fy := R.cky; replace fl := R.cvl; replace fh := R.chs; replace fv := R.cv; clear hb6)
                | (go_at_call 26; refine (full_any B 0 _ R.ok _ R.st.ga).mono ?_; rintro e W6 ⟨rfl, hb6⟩; replace R := R.read hb6; replace fk := R.ck; replace fi := R.ci; replace fy := R.cky; replace fl := R.cvl; replace fh := R.chs; replace fv := R.cv; clear hb6)
                | (go_at_call 19; refine (at_any a B 0 _ _ R.ok _ R.st.ga (HE1.out.below R.st.below)).mono ?_; rintro e W6 ⟨rfl, hb6⟩; replace R := R.read hb6; replace fk := R.ck; replace fi := R.ci; replace fy := R.cky; replace fl := R.cvl; replace fh := R.chs; replace fv := R.cv; clear hb6))
              skip
              go_roundw
              case rel => exact ⟨k + 1, by omega, by simp, Lib.hid ⟨_, _, R.st, R.ok⟩⟩
              case measure => simp [intOf]; omega
            · have hvn : (((sl.val : Nat) : Int) != ((ac.val : Nat) : Int)) = false := by rw [hvl hfa]; simp
              rw [hfa] at cA
              clear hvl
              go_wp2_with (first
                | (go_at_call 14; refine (cP _ R.st.ga (HE1.out.below R.st.below)).mono ?_; rintro e W6 ⟨rfl, hs6⟩; replace R := R.gstep hs6 hgp; replace fk := R.ck; replace fi := R.ci; replace fy := R.cky; replace fl := R.cvl; replace fh := R.chs; replace fv := R.cv; clear hs6)
                | (go_at_call 19; refine (cA _ R.st.ga (HE1.out.below R.st.below)).mono ?_; rintro e W6 ⟨rfl, hb6⟩; replace R := R.read hb6; replace fk := R.ck; replace fi := R.ci; replace fy := R.cky; replace fl := R.cvl; replace fh := R.chs; replace fv := R.cv; clear hb6; have zS := World.block_lt_of_cell? W6 _ fk; have zV := World.block_lt_of_cell? W6 _ fv))
              have hbE := new_block W6 (.cells #[.int .u64 (sl.key : Nat), .int .u64 (sl.val : Nat), .int .u64 (sl.hash : Nat)] 35)
              generalize W6.alloc (.cells #[.int .u64 (sl.key : Nat), .int .u64 (sl.val : Nat), .int .u64 (sl.hash : Nat)] 35) = W8 at hbE ⊢
              replace R := R.read hbE
              clear fk fi fy fl fh fv zS zV hbE
              have fk := R.ck
              have fi := R.ci
              have fy := R.cky
              have fl := R.cvl
              have fh := R.chs
              have fv := R.cv
              refine (full_any B 0 _ R.ok _ R.st.ga).mono ?_
              rintro e W9 ⟨rfl, hb9⟩
              replace R := R.read hb9
              replace fk := R.ck
              replace fi := R.ci
              replace fy := R.cky
              replace fl := R.cvl
              replace fh := R.chs
              replace fv := R.cv
              clear hb9
              go_wp2_with (first
                | (go_at_call 24; refine (open_any B 0 _ R.ok _ R.st.ga).mono ?_; rintro e W6 ⟨rfl, hb6⟩; replace R := R.read hb6; replace fk := R.ck; replace fi := R.ci; replace fy := R.cky; replace fl := R.cvl; replace fh := R.chs; replace fv := R.cv; clear hb6)
                | (go_at_call 26; refine (full_any B 0 _ R.ok _ R.st.ga).mono ?_; rintro e W6 ⟨rfl, hb6⟩; replace R := R.read hb6; replace fk := R.ck; replace fi := R.ci; replace fy := R.cky; replace fl := R.cvl; replace fh := R.chs; replace fv := R.cv; clear hb6)
                | (go_at_call 19; refine (at_any a B 0 _ _ R.ok _ R.st.ga (HE1.out.below R.st.below)).mono ?_; rintro e W6 ⟨rfl, hb6⟩; replace R := R.read hb6; replace fk := R.ck; replace fi := R.ci; replace fy := R.cky; replace fl := R.cvl; replace fh := R.chs; replace fv := R.cv; clear hb6))
              skip
              go_roundw
              case rel => exact ⟨k + 1, by omega, by simp, Lib.hid ⟨_, _, R.st, R.ok⟩⟩
              case measure => simp [intOf]; omega
          · have hgp := R.ok.valG ac.i bv
            obtain ⟨hvl, hct⟩ := val_said g ac.i ac.val
            rw [hcg] at hct
            have hct2 : ((count 3 (valG g ac.i ac.val) : Nat) : Int) = (cg : Int) := by omega
            have cP := fun W hG hE => val_any a B 0 g ac.i ac.val R.ok W hG hE
            clear hct
            generalize valG g ac.i ac.val = gp at *
            have cA := fun W hG hE => at_any a B 0 gp ac.i hgp W hG hE
            generalize atS gp ac.i = sl at *
            cases hfa : fullAt gp ac.i
            · clear hvl
              rw [hfa] at cA
              go_wp2_with (first
                | (go_at_call 14; refine (cP _ R.st.ga (HE1.out.below R.st.below)).mono ?_; rintro e W6 ⟨rfl, hs6⟩; replace R := R.gstep hs6 hgp; replace fk := R.ck; replace fi := R.ci; replace fy := R.cky; replace fl := R.cvl; replace fh := R.chs; replace fv := R.cv; clear hs6)
                | (go_at_call 19; refine (cA _ R.st.ga (HE1.out.below R.st.below)).mono ?_; rintro e W6 ⟨rfl, hb6⟩; replace R := R.read hb6; replace fk := R.ck; replace fi := R.ci; replace fy := R.cky; replace fl := R.cvl; replace fh := R.chs; replace fv := R.cv; clear hb6; have zS := World.block_lt_of_cell? W6 _ fk; have zV := World.block_lt_of_cell? W6 _ fv))
              have hbE := new_block W6 (.cells #[.int .u64 (sl.key : Nat), .int .u64 (sl.val : Nat), .int .u64 (sl.hash : Nat)] 35)
              generalize W6.alloc (.cells #[.int .u64 (sl.key : Nat), .int .u64 (sl.val : Nat), .int .u64 (sl.hash : Nat)] 35) = W8 at hbE ⊢
              replace R := R.read hbE
              clear fk fi fy fl fh fv zS zV hbE
              have fk := R.ck
              have fi := R.ci
              have fy := R.cky
              have fl := R.cvl
              have fh := R.chs
              have fv := R.cv
              refine (full_any B 0 _ R.ok _ R.st.ga).mono ?_
              rintro e W9 ⟨rfl, hb9⟩
              replace R := R.read hb9
              replace fk := R.ck
              replace fi := R.ci
              replace fy := R.cky
              replace fl := R.cvl
              replace fh := R.chs
              replace fv := R.cv
              clear hb9
              go_wp2_with (first
                | (go_at_call 24; refine (open_any B 0 _ R.ok _ R.st.ga).mono ?_; rintro e W6 ⟨rfl, hb6⟩; replace R := R.read hb6; replace fk := R.ck; replace fi := R.ci; replace fy := R.cky; replace fl := R.cvl; replace fh := R.chs; replace fv := R.cv; clear hb6)
                | (go_at_call 26; refine (full_any B 0 _ R.ok _ R.st.ga).mono ?_; rintro e W6 ⟨rfl, hb6⟩; replace R := R.read hb6; replace fk := R.ck; replace fi := R.ci; replace fy := R.cky; replace fl := R.cvl; replace fh := R.chs; replace fv := R.cv; clear hb6)
                | (go_at_call 19; refine (at_any a B 0 _ _ R.ok _ R.st.ga (HE1.out.below R.st.below)).mono ?_; rintro e W6 ⟨rfl, hb6⟩; replace R := R.read hb6; replace fk := R.ck; replace fi := R.ci; replace fy := R.cky; replace fl := R.cvl; replace fh := R.chs; replace fv := R.cv; clear hb6))
              skip
              go_roundw
              case rel => exact ⟨k + 1, by omega, by simp, Lib.hid ⟨_, _, R.st, R.ok⟩⟩
              case measure => simp [intOf]; omega
            · have hvn : (((sl.val : Nat) : Int) != ((ac.val : Nat) : Int)) = false := by rw [hvl hfa]; simp
              rw [hfa] at cA
              clear hvl
              go_wp2_with (first
                | (go_at_call 14; refine (cP _ R.st.ga (HE1.out.below R.st.below)).mono ?_; rintro e W6 ⟨rfl, hs6⟩; replace R := R.gstep hs6 hgp; replace fk := R.ck; replace fi := R.ci; replace fy := R.cky; replace fl := R.cvl; replace fh := R.chs; replace fv := R.cv; clear hs6)
                | (go_at_call 19; refine (cA _ R.st.ga (HE1.out.below R.st.below)).mono ?_; rintro e W6 ⟨rfl, hb6⟩; replace R := R.read hb6; replace fk := R.ck; replace fi := R.ci; replace fy := R.cky; replace fl := R.cvl; replace fh := R.chs; replace fv := R.cv; clear hb6; have zS := World.block_lt_of_cell? W6 _ fk; have zV := World.block_lt_of_cell? W6 _ fv))
              have hbE := new_block W6 (.cells #[.int .u64 (sl.key : Nat), .int .u64 (sl.val : Nat), .int .u64 (sl.hash : Nat)] 35)
              generalize W6.alloc (.cells #[.int .u64 (sl.key : Nat), .int .u64 (sl.val : Nat), .int .u64 (sl.hash : Nat)] 35) = W8 at hbE ⊢
              replace R := R.read hbE
              clear fk fi fy fl fh fv zS zV hbE
              have fk := R.ck
              have fi := R.ci
              have fy := R.cky
              have fl := R.cvl
              have fh := R.chs
              have fv := R.cv
              refine (full_any B 0 _ R.ok _ R.st.ga).mono ?_
              rintro e W9 ⟨rfl, hb9⟩
              replace R := R.read hb9
              replace fk := R.ck
              replace fi := R.ci
              replace fy := R.cky
              replace fl := R.cvl
              replace fh := R.chs
              replace fv := R.cv
              clear hb9
              go_wp2_with (first
                | (go_at_call 24; refine (open_any B 0 _ R.ok _ R.st.ga).mono ?_; rintro e W6 ⟨rfl, hb6⟩; replace R := R.read hb6; replace fk := R.ck; replace fi := R.ci; replace fy := R.cky; replace fl := R.cvl; replace fh := R.chs; replace fv := R.cv; clear hb6)
                | (go_at_call 26; refine (full_any B 0 _ R.ok _ R.st.ga).mono ?_; rintro e W6 ⟨rfl, hb6⟩; replace R := R.read hb6; replace fk := R.ck; replace fi := R.ci; replace fy := R.cky; replace fl := R.cvl; replace fh := R.chs; replace fv := R.cv; clear hb6)
                | (go_at_call 19; refine (at_any a B 0 _ _ R.ok _ R.st.ga (HE1.out.below R.st.below)).mono ?_; rintro e W6 ⟨rfl, hb6⟩; replace R := R.read hb6; replace fk := R.ck; replace fi := R.ci; replace fy := R.cky; replace fl := R.cvl; replace fh := R.chs; replace fv := R.cv; clear hb6))
              skip
              go_roundw
              case rel => exact ⟨k + 1, by omega, by simp, Lib.hid ⟨_, _, R.st, R.ok⟩⟩
              case measure => simp [intOf]; omega
        · by_cases k2 : ac.kind = 2
          · have d0 : (ac.kind == 0) = false := by simp [k0]
            have d1 : (ac.kind == 1) = false := by simp [k1]
            have d2 : (ac.kind == 2) = true := by simp [k2]
            cases hfa : fullAt g ac.i
            · cases ho : opens g
              · have hgp := R.ok.eraG ac.i
                have cP := fun W hG hE => erase_any a B 0 g ac.i R.ok W hG hE
                obtain ⟨pe, hpe⟩ := valE_pos hfa
                rw [hpe, show errAt a (pe + 1) = errs.errV (a (errs.nm pe)) from rfl] at cP
                have hop : opens (eraG g ac.i) = false := opens_eraG ho
                have cA := fun W hG hE => at_any a B 0 g ac.i R.ok W hG hE
                rw [hfa] at cA
                generalize atS g ac.i = sl at *
                generalize eraG g ac.i = gp at *
                go_wp2_with (first
                  | (go_at_call 19; refine (cA _ R.st.ga (HE1.out.below R.st.below)).mono ?_; rintro e W6 ⟨rfl, hb6⟩; replace R := R.read hb6; replace fk := R.ck; replace fi := R.ci; replace fy := R.cky; replace fl := R.cvl; replace fh := R.chs; replace fv := R.cv; clear hb6; have zS := World.block_lt_of_cell? W6 _ fk; have zV := World.block_lt_of_cell? W6 _ fv))
                have hrow := heap_alloc_new W6 (.cells #[.int .u64 (sl.key : Nat), .int .u64 (sl.val : Nat), .int .u64 (sl.hash : Nat)] 35)
                have hbE := new_block W6 (.cells #[.int .u64 (sl.key : Nat), .int .u64 (sl.val : Nat), .int .u64 (sl.hash : Nat)] 35)
                generalize W6.alloc (.cells #[.int .u64 (sl.key : Nat), .int .u64 (sl.val : Nat), .int .u64 (sl.hash : Nat)] 35) = W8 at hbE hrow ⊢
                have hne : W6.heap.size ≠ B := by have h := R.st.ga.lt; omega
                replace R := R.read hbE
                clear fk fi fy fl fh fv zS zV hbE
                generalize W6.heap.size = Se at hrow hne ⊢
                have fe0 : W8.cell? ⟨Se, 0, none⟩ = some (.int .u64 (sl.key : Nat)) := by rw [cell_of_row _ _ _ _ _ _ hrow]; rfl
                have fe1 : W8.cell? ⟨Se, 1, none⟩ = some (.int .u64 (sl.val : Nat)) := by rw [cell_of_row _ _ _ _ _ _ hrow]; rfl
                have fe2 : W8.cell? ⟨Se, 2, none⟩ = some (.int .u64 (sl.hash : Nat)) := by rw [cell_of_row _ _ _ _ _ _ hrow]; rfl
                clear hrow W6
                have fk := R.ck
                have fi := R.ci
                have fy := R.cky
                have fl := R.cvl
                have fh := R.chs
                have fv := R.cv
                refine (cP _ R.st.ga (HE1.out.below R.st.below)).mono ?_
                rintro e W6 ⟨rfl, hs6⟩
                replace fe0 := hs6.past.cell fe0 (by simpa using hne)
                replace fe1 := hs6.past.cell fe1 (by simpa using hne)
                replace fe2 := hs6.past.cell fe2 (by simpa using hne)
                replace R := R.gstep hs6 hgp
                replace fk := R.ck
                replace fi := R.ci
                replace fy := R.cky
                replace fl := R.cvl
                replace fh := R.chs
                replace fv := R.cv
                clear hs6
                go_wp2
                clear fk fi fy fl fh fv
                have cC0 := fun n : Under W6 => full_any B 0 gp hgp n.W (R.read n.below).st.ga
                have cU0 := Under.cell R.cv
                have cU1 := Under.cell R.ci
                have ufe0 := Under.cell fe0
                have ufe1 := Under.cell fe1
                have ufe2 := Under.cell fe2
                refine wp_region_under (by kernel_rfl) (by kernel_rfl) ?_
                repeat (go_big_quiet_step (first
                  | (go_at_call 26; (with_reducible refine under_call (cC0 _)))))
                refine wpQuiet_nil ?_
                intro wU hU
                obtain ⟨nU, rfl⟩ := hU
                have R1 := R.read nU.below
                generalize nU.W = W7 at R1 ⊢
                clear nU cC0 cU0 cU1 ufe0 ufe1 ufe2 fe0 fe1 fe2
                clear R
                have R := R1
                clear R1 W6
                have fk := R.ck
                have fi := R.ci
                have fy := R.cky
                have fl := R.cvl
                have fh := R.chs
                have fv := R.cv
                go_wp2_with (first
                  | (go_at_call 24; refine (open_any B 0 _ R.ok _ R.st.ga).mono ?_; rintro e W6 ⟨rfl, hb6⟩; replace R := R.read hb6; replace fk := R.ck; replace fi := R.ci; replace fy := R.cky; replace fl := R.cvl; replace fh := R.chs; replace fv := R.cv; clear hb6)
                  | (go_at_call 26; refine (full_any B 0 _ R.ok _ R.st.ga).mono ?_; rintro e W6 ⟨rfl, hb6⟩; replace R := R.read hb6; replace fk := R.ck; replace fi := R.ci; replace fy := R.cky; replace fl := R.cvl; replace fh := R.chs; replace fv := R.cv; clear hb6)
                  | (go_at_call 19; refine (at_any a B 0 _ _ R.ok _ R.st.ga (HE1.out.below R.st.below)).mono ?_; rintro e W6 ⟨rfl, hb6⟩; replace R := R.read hb6; replace fk := R.ck; replace fi := R.ci; replace fy := R.cky; replace fl := R.cvl; replace fh := R.chs; replace fv := R.cv; clear hb6))
                skip
                go_roundw
                case rel => exact ⟨k + 1, by omega, by simp, Lib.hid ⟨_, _, R.st, R.ok⟩⟩
                case measure => simp [intOf]; omega
              · have hgp := R.ok.eraG ac.i
                have cP := fun W hG hE => erase_any a B 0 g ac.i R.ok W hG hE
                obtain ⟨pe, hpe⟩ := valE_pos hfa
                rw [hpe, show errAt a (pe + 1) = errs.errV (a (errs.nm pe)) from rfl] at cP
                have cA := fun W hG hE => at_any a B 0 g ac.i R.ok W hG hE
                rw [hfa] at cA
                generalize atS g ac.i = sl at *
                generalize eraG g ac.i = gp at *
                go_wp2_with (first
                  | (go_at_call 19; refine (cA _ R.st.ga (HE1.out.below R.st.below)).mono ?_; rintro e W6 ⟨rfl, hb6⟩; replace R := R.read hb6; replace fk := R.ck; replace fi := R.ci; replace fy := R.cky; replace fl := R.cvl; replace fh := R.chs; replace fv := R.cv; clear hb6; have zS := World.block_lt_of_cell? W6 _ fk; have zV := World.block_lt_of_cell? W6 _ fv))
                have hrow := heap_alloc_new W6 (.cells #[.int .u64 (sl.key : Nat), .int .u64 (sl.val : Nat), .int .u64 (sl.hash : Nat)] 35)
                have hbE := new_block W6 (.cells #[.int .u64 (sl.key : Nat), .int .u64 (sl.val : Nat), .int .u64 (sl.hash : Nat)] 35)
                generalize W6.alloc (.cells #[.int .u64 (sl.key : Nat), .int .u64 (sl.val : Nat), .int .u64 (sl.hash : Nat)] 35) = W8 at hbE hrow ⊢
                have hne : W6.heap.size ≠ B := by have h := R.st.ga.lt; omega
                replace R := R.read hbE
                clear fk fi fy fl fh fv zS zV hbE
                generalize W6.heap.size = Se at hrow hne ⊢
                have fe0 : W8.cell? ⟨Se, 0, none⟩ = some (.int .u64 (sl.key : Nat)) := by rw [cell_of_row _ _ _ _ _ _ hrow]; rfl
                have fe1 : W8.cell? ⟨Se, 1, none⟩ = some (.int .u64 (sl.val : Nat)) := by rw [cell_of_row _ _ _ _ _ _ hrow]; rfl
                have fe2 : W8.cell? ⟨Se, 2, none⟩ = some (.int .u64 (sl.hash : Nat)) := by rw [cell_of_row _ _ _ _ _ _ hrow]; rfl
                clear hrow W6
                have fk := R.ck
                have fi := R.ci
                have fy := R.cky
                have fl := R.cvl
                have fh := R.chs
                have fv := R.cv
                refine (cP _ R.st.ga (HE1.out.below R.st.below)).mono ?_
                rintro e W6 ⟨rfl, hs6⟩
                replace fe0 := hs6.past.cell fe0 (by simpa using hne)
                replace fe1 := hs6.past.cell fe1 (by simpa using hne)
                replace fe2 := hs6.past.cell fe2 (by simpa using hne)
                replace R := R.gstep hs6 hgp
                replace fk := R.ck
                replace fi := R.ci
                replace fy := R.cky
                replace fl := R.cvl
                replace fh := R.chs
                replace fv := R.cv
                clear hs6
                go_wp2
                clear fk fi fy fl fh fv
                have cC0 := fun n : Under W6 => full_any B 0 gp hgp n.W (R.read n.below).st.ga
                have cU0 := Under.cell R.cv
                have cU1 := Under.cell R.ci
                have ufe0 := Under.cell fe0
                have ufe1 := Under.cell fe1
                have ufe2 := Under.cell fe2
                refine wp_region_under (by kernel_rfl) (by kernel_rfl) ?_
                repeat (go_big_quiet_step (first
                  | (go_at_call 26; (with_reducible refine under_call (cC0 _)))))
                refine wpQuiet_nil ?_
                intro wU hU
                obtain ⟨nU, rfl⟩ := hU
                have R1 := R.read nU.below
                generalize nU.W = W7 at R1 ⊢
                clear nU cC0 cU0 cU1 ufe0 ufe1 ufe2 fe0 fe1 fe2
                clear R
                have R := R1
                clear R1 W6
                have fk := R.ck
                have fi := R.ci
                have fy := R.cky
                have fl := R.cvl
                have fh := R.chs
                have fv := R.cv
                go_wp2_with (first
                  | (go_at_call 24; refine (open_any B 0 _ R.ok _ R.st.ga).mono ?_; rintro e W6 ⟨rfl, hb6⟩; replace R := R.read hb6; replace fk := R.ck; replace fi := R.ci; replace fy := R.cky; replace fl := R.cvl; replace fh := R.chs; replace fv := R.cv; clear hb6)
                  | (go_at_call 26; refine (full_any B 0 _ R.ok _ R.st.ga).mono ?_; rintro e W6 ⟨rfl, hb6⟩; replace R := R.read hb6; replace fk := R.ck; replace fi := R.ci; replace fy := R.cky; replace fl := R.cvl; replace fh := R.chs; replace fv := R.cv; clear hb6)
                  | (go_at_call 19; refine (at_any a B 0 _ _ R.ok _ R.st.ga (HE1.out.below R.st.below)).mono ?_; rintro e W6 ⟨rfl, hb6⟩; replace R := R.read hb6; replace fk := R.ck; replace fi := R.ci; replace fy := R.cky; replace fl := R.cvl; replace fh := R.chs; replace fv := R.cv; clear hb6))
                skip
                go_roundw
                case rel => exact ⟨k + 1, by omega, by simp, Lib.hid ⟨_, _, R.st, R.ok⟩⟩
                case measure => simp [intOf]; omega
            · cases ho : opens g
              · have hgp := R.ok.eraG ac.i
                obtain ⟨hfd, heb, hct⟩ := erase_said hfa
                rw [hcg] at hct
                have cP := fun W hG hE => erase_any a B 0 g ac.i R.ok W hG hE
                rw [(valE_zero g ac.i).2 hfa, heb, ho, show errAt a 0 = .nilIface from rfl] at cP
                have hop : opens (eraG g ac.i) = false := opens_eraG ho
                have hct2 : ((count 3 (eraG g ac.i) : Nat) : Int) = (cg : Int) - 1 := by omega
                have hcp : 1 ≤ cg := by omega
                clear hct heb
                have cA := fun W hG hE => at_any a B 0 g ac.i R.ok W hG hE
                rw [hfa] at cA
                have hah : (atS g ac.i).hash < 18446744073709551616 := (atS_ok R.ok ac.i).hash
                generalize atS g ac.i = sl at *
                have hfe : (find sl.key sl.hash (eraG g ac.i) == ac.i) = false := beq_eq_false_iff_ne.2 hfd
                clear hfd
                generalize eraG g ac.i = gp at *
                go_wp2_with (first
                  | (go_at_call 19; refine (cA _ R.st.ga (HE1.out.below R.st.below)).mono ?_; rintro e W6 ⟨rfl, hb6⟩; replace R := R.read hb6; replace fk := R.ck; replace fi := R.ci; replace fy := R.cky; replace fl := R.cvl; replace fh := R.chs; replace fv := R.cv; clear hb6; have zS := World.block_lt_of_cell? W6 _ fk; have zV := World.block_lt_of_cell? W6 _ fv))
                have hrow := heap_alloc_new W6 (.cells #[.int .u64 (sl.key : Nat), .int .u64 (sl.val : Nat), .int .u64 (sl.hash : Nat)] 35)
                have hbE := new_block W6 (.cells #[.int .u64 (sl.key : Nat), .int .u64 (sl.val : Nat), .int .u64 (sl.hash : Nat)] 35)
                generalize W6.alloc (.cells #[.int .u64 (sl.key : Nat), .int .u64 (sl.val : Nat), .int .u64 (sl.hash : Nat)] 35) = W8 at hbE hrow ⊢
                have hne : W6.heap.size ≠ B := by have h := R.st.ga.lt; omega
                replace R := R.read hbE
                clear fk fi fy fl fh fv zS zV hbE
                generalize W6.heap.size = Se at hrow hne ⊢
                have fe0 : W8.cell? ⟨Se, 0, none⟩ = some (.int .u64 (sl.key : Nat)) := by rw [cell_of_row _ _ _ _ _ _ hrow]; rfl
                have fe1 : W8.cell? ⟨Se, 1, none⟩ = some (.int .u64 (sl.val : Nat)) := by rw [cell_of_row _ _ _ _ _ _ hrow]; rfl
                have fe2 : W8.cell? ⟨Se, 2, none⟩ = some (.int .u64 (sl.hash : Nat)) := by rw [cell_of_row _ _ _ _ _ _ hrow]; rfl
                clear hrow W6
                have fk := R.ck
                have fi := R.ci
                have fy := R.cky
                have fl := R.cvl
                have fh := R.chs
                have fv := R.cv
                refine (cP _ R.st.ga (HE1.out.below R.st.below)).mono ?_
                rintro e W6 ⟨rfl, hs6⟩
                replace fe0 := hs6.past.cell fe0 (by simpa using hne)
                replace fe1 := hs6.past.cell fe1 (by simpa using hne)
                replace fe2 := hs6.past.cell fe2 (by simpa using hne)
                replace R := R.gstep hs6 hgp
                replace fk := R.ck
                replace fi := R.ci
                replace fy := R.cky
                replace fl := R.cvl
                replace fh := R.chs
                replace fv := R.cv
                clear hs6
                go_wp2
                clear fk fi fy fl fh fv
                have cC0 := fun n : Under W6 => find_any B 0 gp sl.key sl.hash hah hgp n.W (R.read n.below).st.ga (HT1.out.below (R.read n.below).st.below HT1.out.lt)
                have cC1 := fun n : Under W6 => full_any B 0 gp hgp n.W (R.read n.below).st.ga
                have cU0 := Under.cell R.cv
                have cU1 := Under.cell R.ci
                have ufe0 := Under.cell fe0
                have ufe1 := Under.cell fe1
                have ufe2 := Under.cell fe2
                refine wp_region_under (by kernel_rfl) (by kernel_rfl) ?_
                repeat (go_big_quiet_step (first
                  | (go_at_call 20; (with_reducible refine under_call (cC0 _)))
                  | (go_at_call 26; (with_reducible refine under_call (cC1 _)))))
                refine wpQuiet_nil ?_
                intro wU hU
                obtain ⟨nU, rfl⟩ := hU
                have R1 := R.read nU.below
                generalize nU.W = W7 at R1 ⊢
                clear nU cC0 cC1 cU0 cU1 ufe0 ufe1 ufe2 fe0 fe1 fe2
                clear R
                have R := R1
                clear R1 W6
                have fk := R.ck
                have fi := R.ci
                have fy := R.cky
                have fl := R.cvl
                have fh := R.chs
                have fv := R.cv
                go_wp2_with (first
                  | (go_at_call 24; refine (open_any B 0 _ R.ok _ R.st.ga).mono ?_; rintro e W6 ⟨rfl, hb6⟩; replace R := R.read hb6; replace fk := R.ck; replace fi := R.ci; replace fy := R.cky; replace fl := R.cvl; replace fh := R.chs; replace fv := R.cv; clear hb6)
                  | (go_at_call 26; refine (full_any B 0 _ R.ok _ R.st.ga).mono ?_; rintro e W6 ⟨rfl, hb6⟩; replace R := R.read hb6; replace fk := R.ck; replace fi := R.ci; replace fy := R.cky; replace fl := R.cvl; replace fh := R.chs; replace fv := R.cv; clear hb6)
                  | (go_at_call 19; refine (at_any a B 0 _ _ R.ok _ R.st.ga (HE1.out.below R.st.below)).mono ?_; rintro e W6 ⟨rfl, hb6⟩; replace R := R.read hb6; replace fk := R.ck; replace fi := R.ci; replace fy := R.cky; replace fl := R.cvl; replace fh := R.chs; replace fv := R.cv; clear hb6))
                skip
                go_roundw
                case rel => exact ⟨k + 1, by omega, by simp, Lib.hid ⟨_, _, R.st, R.ok⟩⟩
                case measure => simp [intOf]; omega
              · have hgp := R.ok.eraG ac.i
                obtain ⟨hfd, heb, hct⟩ := erase_said hfa
                rw [hcg] at hct
                have cP := fun W hG hE => erase_any a B 0 g ac.i R.ok W hG hE
                rw [(valE_zero g ac.i).2 hfa, heb, ho, show errAt a 0 = .nilIface from rfl] at cP
                have hct2 : ((count 3 (eraG g ac.i) : Nat) : Int) = (cg : Int) - 1 := by omega
                have hcp : 1 ≤ cg := by omega
                clear hct heb
                have cA := fun W hG hE => at_any a B 0 g ac.i R.ok W hG hE
                rw [hfa] at cA
                have hah : (atS g ac.i).hash < 18446744073709551616 := (atS_ok R.ok ac.i).hash
                generalize atS g ac.i = sl at *
                have hfe : (find sl.key sl.hash (eraG g ac.i) == ac.i) = false := beq_eq_false_iff_ne.2 hfd
                clear hfd
                generalize eraG g ac.i = gp at *
                go_wp2_with (first
                  | (go_at_call 19; refine (cA _ R.st.ga (HE1.out.below R.st.below)).mono ?_; rintro e W6 ⟨rfl, hb6⟩; replace R := R.read hb6; replace fk := R.ck; replace fi := R.ci; replace fy := R.cky; replace fl := R.cvl; replace fh := R.chs; replace fv := R.cv; clear hb6; have zS := World.block_lt_of_cell? W6 _ fk; have zV := World.block_lt_of_cell? W6 _ fv))
                have hrow := heap_alloc_new W6 (.cells #[.int .u64 (sl.key : Nat), .int .u64 (sl.val : Nat), .int .u64 (sl.hash : Nat)] 35)
                have hbE := new_block W6 (.cells #[.int .u64 (sl.key : Nat), .int .u64 (sl.val : Nat), .int .u64 (sl.hash : Nat)] 35)
                generalize W6.alloc (.cells #[.int .u64 (sl.key : Nat), .int .u64 (sl.val : Nat), .int .u64 (sl.hash : Nat)] 35) = W8 at hbE hrow ⊢
                have hne : W6.heap.size ≠ B := by have h := R.st.ga.lt; omega
                replace R := R.read hbE
                clear fk fi fy fl fh fv zS zV hbE
                generalize W6.heap.size = Se at hrow hne ⊢
                have fe0 : W8.cell? ⟨Se, 0, none⟩ = some (.int .u64 (sl.key : Nat)) := by rw [cell_of_row _ _ _ _ _ _ hrow]; rfl
                have fe1 : W8.cell? ⟨Se, 1, none⟩ = some (.int .u64 (sl.val : Nat)) := by rw [cell_of_row _ _ _ _ _ _ hrow]; rfl
                have fe2 : W8.cell? ⟨Se, 2, none⟩ = some (.int .u64 (sl.hash : Nat)) := by rw [cell_of_row _ _ _ _ _ _ hrow]; rfl
                clear hrow W6
                have fk := R.ck
                have fi := R.ci
                have fy := R.cky
                have fl := R.cvl
                have fh := R.chs
                have fv := R.cv
                refine (cP _ R.st.ga (HE1.out.below R.st.below)).mono ?_
                rintro e W6 ⟨rfl, hs6⟩
                replace fe0 := hs6.past.cell fe0 (by simpa using hne)
                replace fe1 := hs6.past.cell fe1 (by simpa using hne)
                replace fe2 := hs6.past.cell fe2 (by simpa using hne)
                replace R := R.gstep hs6 hgp
                replace fk := R.ck
                replace fi := R.ci
                replace fy := R.cky
                replace fl := R.cvl
                replace fh := R.chs
                replace fv := R.cv
                clear hs6
                go_wp2
                clear fk fi fy fl fh fv
                have cC0 := fun n : Under W6 => find_any B 0 gp sl.key sl.hash hah hgp n.W (R.read n.below).st.ga (HT1.out.below (R.read n.below).st.below HT1.out.lt)
                have cC1 := fun n : Under W6 => full_any B 0 gp hgp n.W (R.read n.below).st.ga
                have cU0 := Under.cell R.cv
                have cU1 := Under.cell R.ci
                have ufe0 := Under.cell fe0
                have ufe1 := Under.cell fe1
                have ufe2 := Under.cell fe2
                refine wp_region_under (by kernel_rfl) (by kernel_rfl) ?_
                repeat (go_big_quiet_step (first
                  | (go_at_call 20; (with_reducible refine under_call (cC0 _)))
                  | (go_at_call 26; (with_reducible refine under_call (cC1 _)))))
                refine wpQuiet_nil ?_
                intro wU hU
                obtain ⟨nU, rfl⟩ := hU
                have R1 := R.read nU.below
                generalize nU.W = W7 at R1 ⊢
                clear nU cC0 cC1 cU0 cU1 ufe0 ufe1 ufe2 fe0 fe1 fe2
                clear R
                have R := R1
                clear R1 W6
                have fk := R.ck
                have fi := R.ci
                have fy := R.cky
                have fl := R.cvl
                have fh := R.chs
                have fv := R.cv
                go_wp2_with (first
                  | (go_at_call 24; refine (open_any B 0 _ R.ok _ R.st.ga).mono ?_; rintro e W6 ⟨rfl, hb6⟩; replace R := R.read hb6; replace fk := R.ck; replace fi := R.ci; replace fy := R.cky; replace fl := R.cvl; replace fh := R.chs; replace fv := R.cv; clear hb6)
                  | (go_at_call 26; refine (full_any B 0 _ R.ok _ R.st.ga).mono ?_; rintro e W6 ⟨rfl, hb6⟩; replace R := R.read hb6; replace fk := R.ck; replace fi := R.ci; replace fy := R.cky; replace fl := R.cvl; replace fh := R.chs; replace fv := R.cv; clear hb6)
                  | (go_at_call 19; refine (at_any a B 0 _ _ R.ok _ R.st.ga (HE1.out.below R.st.below)).mono ?_; rintro e W6 ⟨rfl, hb6⟩; replace R := R.read hb6; replace fk := R.ck; replace fi := R.ci; replace fy := R.cky; replace fl := R.cvl; replace fh := R.chs; replace fv := R.cv; clear hb6))
                skip
                go_roundw
                case rel => exact ⟨k + 1, by omega, by simp, Lib.hid ⟨_, _, R.st, R.ok⟩⟩
                case measure => simp [intOf]; omega
          · by_cases k3 : ac.kind = 3
            · have d0 : (ac.kind == 0) = false := by simp [k0]
              have d1 : (ac.kind == 1) = false := by simp [k1]
              have d2 : (ac.kind == 2) = false := by simp [k2]
              have d3 : (ac.kind == 3) = true := by simp [k3]
              go_wp2_with (first
                | (go_at_call 24; refine (open_any B 0 _ R.ok _ R.st.ga).mono ?_; rintro e W6 ⟨rfl, hb6⟩; replace R := R.read hb6; replace fk := R.ck; replace fi := R.ci; replace fy := R.cky; replace fl := R.cvl; replace fh := R.chs; replace fv := R.cv; clear hb6)
                | (go_at_call 26; refine (full_any B 0 _ R.ok _ R.st.ga).mono ?_; rintro e W6 ⟨rfl, hb6⟩; replace R := R.read hb6; replace fk := R.ck; replace fi := R.ci; replace fy := R.cky; replace fl := R.cvl; replace fh := R.chs; replace fv := R.cv; clear hb6)
                | (go_at_call 19; refine (at_any a B 0 _ _ R.ok _ R.st.ga (HE1.out.below R.st.below)).mono ?_; rintro e W6 ⟨rfl, hb6⟩; replace R := R.read hb6; replace fk := R.ck; replace fi := R.ci; replace fy := R.cky; replace fl := R.cvl; replace fh := R.chs; replace fv := R.cv; clear hb6))
              skip
              go_roundw
              case rel => exact ⟨k + 1, by omega, by simp, Lib.hid ⟨_, _, R.st, R.ok⟩⟩
              case measure => simp [intOf]; omega
            · have d0 : (ac.kind == 0) = false := by simp [k0]
              have d1 : (ac.kind == 1) = false := by simp [k1]
              have d2 : (ac.kind == 2) = false := by simp [k2]
              have d3 : (ac.kind == 3) = false := by simp [k3]
              cases ho : opens g
              · go_wp2_with (first
                  | (go_at_call 24; refine (open_any B 0 _ R.ok _ R.st.ga).mono ?_; rintro e W6 ⟨rfl, hb6⟩; replace R := R.read hb6; replace fk := R.ck; replace fi := R.ci; replace fy := R.cky; replace fl := R.cvl; replace fh := R.chs; replace fv := R.cv; clear hb6)
                  | (go_at_call 26; refine (full_any B 0 _ R.ok _ R.st.ga).mono ?_; rintro e W6 ⟨rfl, hb6⟩; replace R := R.read hb6; replace fk := R.ck; replace fi := R.ci; replace fy := R.cky; replace fl := R.cvl; replace fh := R.chs; replace fv := R.cv; clear hb6)
                  | (go_at_call 19; refine (at_any a B 0 _ _ R.ok _ R.st.ga (HE1.out.below R.st.below)).mono ?_; rintro e W6 ⟨rfl, hb6⟩; replace R := R.read hb6; replace fk := R.ck; replace fi := R.ci; replace fy := R.cky; replace fl := R.cvl; replace fh := R.chs; replace fv := R.cv; clear hb6))
                skip
                go_roundw
                case rel => exact ⟨k + 1, by omega, by simp, Lib.hid ⟨_, _, R.st, R.ok⟩⟩
                case measure => simp [intOf]; omega
              · go_wp2_with (first
                  | (go_at_call 24; refine (open_any B 0 _ R.ok _ R.st.ga).mono ?_; rintro e W6 ⟨rfl, hb6⟩; replace R := R.read hb6; replace fk := R.ck; replace fi := R.ci; replace fy := R.cky; replace fl := R.cvl; replace fh := R.chs; replace fv := R.cv; clear hb6)
                  | (go_at_call 26; refine (full_any B 0 _ R.ok _ R.st.ga).mono ?_; rintro e W6 ⟨rfl, hb6⟩; replace R := R.read hb6; replace fk := R.ck; replace fi := R.ci; replace fy := R.cky; replace fl := R.cvl; replace fh := R.chs; replace fv := R.cv; clear hb6)
                  | (go_at_call 19; refine (at_any a B 0 _ _ R.ok _ R.st.ga (HE1.out.below R.st.below)).mono ?_; rintro e W6 ⟨rfl, hb6⟩; replace R := R.read hb6; replace fk := R.ck; replace fi := R.ci; replace fy := R.cky; replace fl := R.cvl; replace fh := R.chs; replace fv := R.cv; clear hb6))
                skip
                go_roundw
                case rel => exact ⟨k + 1, by omega, by simp, Lib.hid ⟨_, _, R.st, R.ok⟩⟩
                case measure => simp [intOf]; omega
    · skip
      obtain rfl : k = la := by omega
      obtain ⟨g, m, hS, hg⟩ := HO.out
      go_wp2
      go_ret
      exact ⟨rfl, under.below_step hb1 hS.below⟩
theorem open_law (a : String → Addr) (s : Option Addr) (la ca : Nat) (az : Nat → Act) (w : World) (hE : Errs2 a w) (hT : TabOk w) (hA : ∀ j, j < la → ActCells s w j (az j)) :
    Calls Tryd.prog 4 #[.slice s la ca] w fun e w' => e = .returned (.bool true) ∧ Below w.heap.size w w' := by
  rcases Nat.lt_or_ge 80 la with h | h
  · exact open_many s la ca h _ w hE.state
  · exact open_few a s la ca az h w hE hT hA
end Go.Proofs.YtgpfhgkphadgkaaDoor.group
