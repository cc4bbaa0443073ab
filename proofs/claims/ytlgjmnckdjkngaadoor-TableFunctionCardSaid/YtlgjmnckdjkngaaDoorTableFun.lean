/- TableFunction: the walk. -/
import Derived.Test.YtlgjmnckdjkngaaDoorTableFun0
import Derived.Test.YtlgjmnckdjkngaaDoorTableOne
import Derived.LoopTactic
import Derived.Deep.CutRange
import Derived.Deep.CutBlock
import Derived.Deep.RegionHeld3
namespace Go.Proofs.YtlgjmnckdjkngaaDoor.table
open Go.ChangeShapes Go.WideShapes Go.ChangeAt Go.RowKit Go.Shelf swar under trap meter group probe lens tail call
attribute [local go_sem] Oper.semAt_some stage.pureUpon move.stepUpon
set_option linter.unusedSimpArgs false
set_option linter.unusedVariables false

theorem two_drew (w : World) (o1 o2 : Obj) : Below w.heap.size w ((w.drew.alloc o1).alloc o2) := balloc (balloc (bdrew (Below.refl _ _)) (Nat.le_refl _) o1) (by simp [World.size_alloc]) o2
set_option maxRecDepth 20000 in
theorem fun_many (a : String → Addr) (g : Int) (s1 s2 : Option Addr) (la ca lb cb : Nat) (hc : la < 1 ∨ 100 < la ∨ 150 < lb) (w : World) (hw : Base a w) :
    Calls Tryd.prog 4 #[.int .i64 g, .slice s1 la ca, .slice s2 lb cb] w fun e w' => e = .returned (.bool true) ∧ Below w.heap.size w w' := by
  have hA := alive_any a w hw
  clear hw
  rcases hc with h | h | h
  · have d1 : decide ((la : Int) < 1) = true := decide_eq_true (by omega)
    go_enter Tryd.func4, Tryd.ntmps4
    go_wp2_with (go_at_call 7; refine hA.mono ?_; rintro e w1 ⟨rfl, hb1⟩)
    go_ret
    exact ⟨rfl, hb1⟩
  · have d1 : decide ((la : Int) < 1) = false := decide_eq_false (by omega)
    have d2 : decide (100 < (la : Int)) = true := decide_eq_true (by omega)
    go_enter Tryd.func4, Tryd.ntmps4
    go_wp2_with (go_at_call 7; refine hA.mono ?_; rintro e w1 ⟨rfl, hb1⟩)
    go_ret
    exact ⟨rfl, hb1⟩
  · have d3 : decide (150 < (lb : Int)) = true := decide_eq_true (by omega)
    by_cases h1 : la < 1
    · have d1 : decide ((la : Int) < 1) = true := decide_eq_true (by omega)
      go_enter Tryd.func4, Tryd.ntmps4
      go_wp2_with (go_at_call 7; refine hA.mono ?_; rintro e w1 ⟨rfl, hb1⟩)
      go_ret
      exact ⟨rfl, hb1⟩
    · have d1 : decide ((la : Int) < 1) = false := decide_eq_false (by omega)
      by_cases h2 : 100 < la
      · have d2 : decide (100 < (la : Int)) = true := decide_eq_true (by omega)
        go_enter Tryd.func4, Tryd.ntmps4
        go_wp2_with (go_at_call 7; refine hA.mono ?_; rintro e w1 ⟨rfl, hb1⟩)
        go_ret
        exact ⟨rfl, hb1⟩
      · have d2 : decide (100 < (la : Int)) = false := decide_eq_false (by omega)
        go_enter Tryd.func4, Tryd.ntmps4
        go_wp2_with (go_at_call 7; refine hA.mono ?_; rintro e w1 ⟨rfl, hb1⟩)
        go_ret
        exact ⟨rfl, hb1⟩
set_option maxRecDepth 20000 in
theorem fun_no (a : String → Addr) (g : Int) (hg : ¬ ∃ k : Nat, g = k ∧ okN k) (s1 s2 : Option Addr) (la ca lb cb : Nat) (h1 : 1 ≤ la) (h2 : la ≤ 100) (h3 : lb ≤ 150) (w : World) (hw : Base a w) :
    Calls Tryd.prog 4 #[.int .i64 g, .slice s1 la ca, .slice s2 lb cb] w fun e w' => e = .returned (.bool true) ∧ Below w.heap.size w w' := by
  have hA := alive_any a w hw
  have cN : ∀ W, Below w.heap.size w W → Calls Tryd.prog 9 #[.int .i64 g] W fun e w' => e = .returned (.tuple #[.pointer none, errs.errV (a "ambler/api.ErrRange")]) ∧ Below W.heap.size W w' := fun W hb => (new_no g hg W _ (errs6 (hw.errs.below hb)).two.range).mono fun e w' ⟨h, q, hq⟩ => ⟨h, by rw [hq]; exact below_drewN' _ _⟩
  have d1 : decide ((la : Int) < 1) = false := decide_eq_false (by omega)
  have d2 : decide (100 < (la : Int)) = false := decide_eq_false (by omega)
  have d3 : decide (150 < (lb : Int)) = false := decide_eq_false (by omega)
  clear hw hg
  go_enter Tryd.func4, Tryd.ntmps4
  go_wp2_with (first
    | (go_at_call 7; refine hA.mono ?_; rintro e w1 ⟨rfl, hb1⟩))
  refine (cN _ hb1).mono ?_
  rintro e w2 ⟨rfl, hb2⟩
  have hb2' := under.below_step hb1 hb2
  go_wp2
  go_ret
  exact ⟨rfl, hb2'⟩
/-- what lies there behind Delete, with the box of what it answers: made behind it .. -/
def Fin (w1 : World) (T B Bm Bt Bv la : Nat) (t : Tb) (m : Mt) (M : Nat → Option Nat) (V : Nat → Nat) (E k v h X ek ev eh : Nat) (W : World) : Prop := LS w1 T B t Bm m W ∧ Rows Bt Bv la M V W ∧ EBox X ek ev eh W ∧ EBox E k v h W
theorem Fin.new {w1 : World} {T B Bm Bt Bv la : Nat} {t : Tb} {m : Mt} {M : Nat → Option Nat} {V : Nat → Nat} {E k v h : Nat} {W : World} (hL : LS w1 T B t Bm m W) (hR : Rows Bt Bv la M V W) (hV : EBox E k v h W) (ek ev eh : Nat) :
    Fin w1 T B Bm Bt Bv la t m M V E k v h W.heap.size ek ev eh (W.alloc (.cells #[.int .u64 (ek : Nat), .int .u64 (ev : Nat), .int .u64 (eh : Nat)] 42)) :=
  ⟨hL.read (new_block W _), hR.below (new_block W _), EBox.new ek ev eh W, hV.keep (new_block W _)⟩
/-- .. or ahead of it -/
theorem Fin.old {w1 : World} {T B Bm Bt Bv la : Nat} {t : Tb} {m : Mt} {M : Nat → Option Nat} {V : Nat → Nat} {E k v h X k' v' h' : Nat} {W : World} (hL : LS w1 T B t Bm m W) (hR : Rows Bt Bv la M V W) (hV : EBox E k v h W) (hz : EBox X k' v' h' W) (hX : w1.heap.size ≤ X) (hn : X ∉ [T, B, Bm, Bt, Bv]) (hE : E ≠ X) (ek ev eh : Nat) :
    Fin w1 T B Bm Bt Bv la t m M V E k v h X ek ev eh (set3 X ek ev eh W) := by
  have n3 : X ∉ [T, B, Bm] := by simp at hn ⊢; omega
  have n4 : Bt ≠ X := by simp at hn; omega
  have n5 : Bv ≠ X := by simp at hn; omega
  exact ⟨((hL.store hX n3 0 _).store hX n3 1 _).store hX n3 2 _, ((hR.newset n4 n5 0 _).newset n4 n5 1 _).newset n4 n5 2 _, hz.set ek ev eh, hV.other hE ek ev eh⟩
set_option maxRecDepth 20000 in
set_option maxHeartbeats 20000000 in
theorem fun_few (a : String → Addr) (n : Nat) (hn : okN n) (s1 s2 : Option Addr) (la ca lb cb : Nat) (hz : Nat → Nat) (az : Nat → Ac) (h1 : 1 ≤ la) (h2 : la ≤ 100) (h3 : lb ≤ 150) (w : World) (hw : Base a w) (hH : HashAt s1 la w hz) (hA : ActAt s2 lb w az) :
    Calls Tryd.prog 4 #[.int .i64 n, .slice s1 la ca, .slice s2 lb cb] w fun e w' => e = .returned (.bool true) ∧ Below w.heap.size w w' := by
  have hAl := alive_any a w hw
  have HW := Lib.hid hw
  have HH := Lib.hid hH
  have HA := Lib.hid hA
  have d1 : decide ((la : Int) < 1) = false := decide_eq_false (by omega)
  have d2 : decide (100 < (la : Int)) = false := decide_eq_false (by omega)
  have d3 : decide (150 < (lb : Int)) = false := decide_eq_false (by omega)
  clear hw hH hA
  go_enter Tryd.func4, Tryd.ntmps4
  go_wp2_with (first
    | (go_at_call 7; refine hAl.mono ?_; rintro e w1 ⟨rfl, hb1⟩))
  refine (new_yes n hn _).mono ?_
  rintro e w2 ⟨rfl, ht2, hb2⟩
  have HW1 := Lib.hid (HW.out.below hb1)
  have HH1 := Lib.hid (HH.out.below hb1)
  have HA1 := Lib.hid (HA.out.below hb1)
  have HB1 := Lib.hid hb1
  have HT2 := Lib.hid ht2
  have HB2 := Lib.hid hb2
  clear ht2 hb2 hAl hb1 HH HA HW
  go_upto_region 8 with (fail)
  go_cut [9, 10] from 52 to 57 (fun s9 s10 wx => ∃ Bt Bv, s9 = .slice (some ⟨Bt, 0, none⟩) la la ∧ s10 = .slice (some ⟨Bv, 0, none⟩) la la ∧ Hid (Rows Bt Bv la (fun _ => none) (fun _ => 0) wx ∧ w2.heap.size ≤ Bt ∧ w2.heap.size ≤ Bv ∧ Below w2.heap.size w2 wx))
  case first =>
    as_aux_lemma =>
      have m1 := mk_bools la h2
      have m2 := mk_u64s la h2
      refine wp_region_any (by kernel_rfl) ?_
      refine wpAny_take (i := 0) (v := .slice s1 la ca) rfl (by kernel_rfl) (by kernel_rfl) (by kernel_rfl) (fun _ _ _ h => h) (Or.inl ⟨by rfl, fun wx => by go_simp⟩) ?_
      refine wpAny_take (i := 1) (v := .int .i64 la) rfl (by kernel_rfl) (by kernel_rfl) (by kernel_rfl) (fun _ _ _ h => h) (Or.inl ⟨by rfl, fun wx => by go_simp⟩) ?_
      refine wpAny_take (i := 3) (v := .slice s1 la ca) rfl (by kernel_rfl) (by kernel_rfl) (by kernel_rfl) (fun _ _ _ h => h) (Or.inl ⟨by rfl, fun wx => by go_simp⟩) ?_
      refine wpAny_take (i := 4) (v := .int .i64 la) rfl (by kernel_rfl) (by kernel_rfl) (by kernel_rfl) (fun _ _ _ h => h) (Or.inl ⟨by rfl, fun wx => by go_simp⟩) ?_
      refine wpAny_ready (rs := [2, 5]) (by kernel_rfl) (by simp) ?_
      refine AllReady.cons rfl (fun K hK => ?_) ?_
      · go_simp
        refine hK _ _ ?_
        clear hK K
        refine wpAny_take (i := 6) (v := .slice (some ⟨w2.heap.size, 0, none⟩) la la) rfl (by kernel_rfl) (by kernel_rfl) (by kernel_rfl) (fun _ _ _ h => h) (Or.inl ⟨by rfl, fun wx => by go_simp⟩) ?_
        refine wpAny_ready (rs := [5]) (by kernel_rfl) (by simp) ?_
        refine AllReady.cons rfl (fun K hK => ?_) AllReady.nil
        go_simp
        refine hK _ _ ?_
        clear hK K
        refine wpAny_take (i := 7) (v := .slice (some ⟨w2.heap.size + 1, 0, none⟩) la la) rfl (by kernel_rfl) (by kernel_rfl) (by kernel_rfl) (fun _ _ _ h => h) (Or.inl ⟨by rfl, fun wx => by go_simp⟩) ?_
        refine wpAny_done (by kernel_rfl) ?_ _
        go_wp2
        go_meet
        case rel => exact ⟨_, _, rfl, rfl, Lib.hid ⟨Rows.new1 w2.drew la, Nat.le_refl _, Nat.le_succ _, two_drew w2 _ _⟩⟩
      · refine AllReady.cons rfl (fun K hK => ?_) AllReady.nil
        go_simp
        refine hK _ _ ?_
        clear hK K
        refine wpAny_ready (rs := [2]) (by kernel_rfl) (by simp) ?_
        refine AllReady.cons rfl (fun K hK => ?_) AllReady.nil
        go_simp
        refine hK _ _ ?_
        clear hK K
        refine wpAny_take (i := 6) (v := .slice (some ⟨w2.heap.size + 1, 0, none⟩) la la) rfl (by kernel_rfl) (by kernel_rfl) (by kernel_rfl) (fun _ _ _ h => h) (Or.inl ⟨by rfl, fun wx => by go_simp⟩) ?_
        refine wpAny_take (i := 7) (v := .slice (some ⟨w2.heap.size, 0, none⟩) la la) rfl (by kernel_rfl) (by kernel_rfl) (by kernel_rfl) (fun _ _ _ h => h) (Or.inl ⟨by rfl, fun wx => by go_simp⟩) ?_
        refine wpAny_done (by kernel_rfl) ?_ _
        go_wp2
        go_meet
        case rel => exact ⟨_, _, rfl, rfl, Lib.hid ⟨Rows.new2 w2.drew la, Nat.le_succ _, Nat.le_refl _, two_drew w2 _ _⟩⟩
  case rest =>
    as_aux_lemma =>
      obtain ⟨Bt, Bv, rfl, rfl, hR⟩ := hcut
      have hI : FN w1 (w1.heap.size + 1) w1.heap.size wc.heap.size Bt Bv la (hOf la hz) (Tb.new n) Mt.zero (fun _ => none) (fun _ => 0) (wc.alloc (.cells #[.int .i64 0, .int .i64 0, .int .i64 0, .int .i64 0, .int .i64 0, .int .i64 0, .int .i64 0, .bool false] 34)) := by
        obtain ⟨hr, b1, b2, hb⟩ := hR.out
        have l1 := HT2.out.lt
        have l2 := HT2.out.lb
        have l3 := hr.lt
        have l4 := hr.lv
        have l5 := HB2.out.size
        exact ⟨.new (under.below_step HB2.out hb) (HT2.out.below hb) (Tb.Ok.new hn) (by omega) (Nat.le_refl _), hr.below (new_block wc _), .new hn _, fun k v h => by (cases h), by simp; omega, by simp; omega, by omega, by omega⟩
      have HI := Lib.hid hI
      clear hI hR HT2 HB2
      go_wp2
      generalize wc.alloc (.cells #[.int .i64 0, .int .i64 0, .int .i64 0, .int .i64 0, .int .i64 0, .int .i64 0, .int .i64 0, .bool false] 34) = W0 at HI ⊢
      generalize wc.heap.size = Bm at HI ⊢
      generalize w1.heap.size + 1 = T at HI ⊢
      generalize hB1 : w1.heap.size = B at HI ⊢
      clear hB1
      go_loopw [62] (fun i wr => ∃ k : Nat, k ≤ lb ∧ i = .int .i64 k ∧ Hid (∃ t m M V, FN w1 T B Bm Bt Bv la (hOf la hz) t m M V wr ∧ t.n = n)) (fun i _ => lb - (intOf i).toNat)
      case atStart => exact ⟨0, by omega, rfl, Lib.hid ⟨_, _, _, _, HI.out, rfl⟩⟩
      case round =>
        as_aux_lemma =>
          obtain ⟨k, hk, rfl, HO⟩ := hrel
          rcases Nat.lt_or_ge k lb with hkl | hkl
          · obtain ⟨⟨x, rfl, hcs⟩, b1, b2, b3, b4⟩ := HA1.out k hkl
            obtain ⟨t, m, M, V, hF, htn⟩ := HO.out
            obtain ⟨c0, c1, c2⟩ := hcs _ hF.ls.below
            have hki : (k : Int) < (lb : Int) := by omega
            have hkw : k + 1 ≤ lb := by omega
            have hkz : kN (az k).key la < la := kN_lt _ h1
            have hzz : hz (kN (az k).key la) < 18446744073709551616 := by obtain ⟨_, _, h, _⟩ := HH1.out _ hkz; exact h
            have cE := fun W (hb : Below w1.heap.size w1 W) => entry_any s1 la ca hz h1 (by omega) (az k).kind (az k).key (az k).n W (HH1.out.below hb)
            have hv := uN_lt (az k).n
            have eH : hOf la hz (kN (az k).key la) = hz (kN (az k).key la) := hOf_lt hkz
            generalize kN (az k).key la = ki at *
            generalize uN (az k).n = vn at *
            generalize hz ki = hh at *
            generalize (az k).kind = kd at *
            generalize (az k).key = ky at *
            generalize (az k).n = nn at *
            have HF := Lib.hid hF
            have HE := Lib.hid eH
            obtain ⟨hlo, hlp⟩ := left_bounds hF.ls.ok
            have HN := Lib.hid htn
            have cL := fun W (h : LS w1 T B t Bm m W) => left_any T B t h.ok W h.at'
            have cR := fun W (h : LS w1 T B t Bm m W) => reset_any Bm 0 m W h.ma
            have hBm : Bm < wr.heap.size := hF.ls.ma.lt
            clear hF HO hcs b1 b2 b3 b4 eH htn HI
            go_upto_block 2 with (first
              | (go_at_call 21; refine (cE _ (under.below_step HF.out.ls.below (new_block wr _))).mono ?_; rintro e w4 ⟨rfl, hb4⟩; have hz4 : wr.heap.size ≤ w4.heap.size := (by have := hb4.size; rw [World.size_alloc] at this; omega); have hF4 := (HF.out.read (new_block wr (.cells #[.int .i64 kd, .int .i64 ky, .int .i64 nn] 56))).read hb4; have hV4 := EBox.new ki vn hh w4; have hF5 := hF4.read (new_block w4 (.cells #[.int .u64 (ki : Nat), .int .u64 (vn : Nat), .int .u64 (hh : Nat)] 42)); have x0 := keepc (new_block w4 (.cells #[.int .u64 (ki : Nat), .int .u64 (vn : Nat), .int .u64 (hh : Nat)] 42)) (keepc hb4 (act0 kd ky nn wr)))
              | (go_at_call 22; (with_reducible refine (cL _ hF5.ls).mono ?_); rintro e w6 ⟨rfl, q6, rfl⟩; have hF6 := hF5.read (below_drewN' _ q6); have hV6 := hV4.keep (below_drewN' _ q6); have x6 := keepc (below_drewN' _ q6) x0)
              | (go_at_call 23; (with_reducible refine (cR _ hF6.ls).mono ?_); rintro e w7 ⟨rfl, hs7⟩; have hF7 := hF6.mstep hs7; have x7 := hs7.past.cell x6 (by simp; omega); have hV7 := hV6.past hs7.past (by simp; omega)))
            have hXo := HF.out.out hz4
            have hXw : w1.heap.size ≤ w4.heap.size := Nat.le_trans HF.out.ls.below.size hz4
            generalize w4.heap.size = E at *
            generalize wr.heap.size = A at *
            have HF7 := Lib.hid hF7
            have HV7 := Lib.hid hV7
            clear hF4 hF5 hF6 hF7 hV4 hV6 hV7 x0 x6 hb4 hs7 cE cL cR HF hBm hz4 c0 c1 c2
            have hpl : m.reset.pl = 0 := rfl
            generalize m.reset = m0 at *
            go_cut [16, 17, 18, 19] from 63 to 221 (fun s16 s17 s18 s19 wx => Hid (∃ t' m' M' V', FN w1 T B Bm Bt Bv la (hOf la hz) t' m' M' V' wx ∧ t'.n = n ∧ t'.left ≤ t.left + 1 ∧ m'.pl ≤ n))
            case first =>
              as_aux_lemma =>
                by_cases k0 : kd = 0
                · as_aux_lemma =>
                    subst k0
                    have hkb : ki < 18446744073709551616 := by omega
                    have cP := fun W (h : LS w1 T B t Bm m0 W) => put_tab (h.pr HW1.out) ki hh vn hkb hzz hv
                    obtain ⟨p1, p2⟩ := HF7.out.rep.rep.puts (key := ki) (v := vn) hkb (by rw [HE.out]; exact hzz) hv
                    rw [HE.out] at p1 p2
                    have hlk := see_pl Bm 0 m0 hpl (looks t ki hh)
                    have hln := looks_le t ki hh
                    have r0 := Under.cell HV7.out.c0
                    have r1 := Under.cell HV7.out.c1
                    have r2 := Under.cell HV7.out.c2
        
                    generalize (Ln.pr Bm 0).see m0 (looks t ki hh) = m8 at *
                    have hrn := HF7.out.rep
                    cases hM : M ki with
                    | some u =>
                      obtain ⟨r, e2, e3, e4, e5⟩ := p1 (.inl (by rw [hM]; rfl))
                      have hrep := hrn.put_yes (key := ki) (v := vn) hkz (by rw [HE.out]; exact r) (by rw [HE.out]; exact e4)
                      rw [HE.out] at hrep
                      rw [hM] at e3
                      simp only [Option.isSome_some, Bool.not_true] at e3
                      rw [e2, e3, show errAt a 0 = .nilIface from rfl] at cP
                      have hok := r.1.ok
                      have HRP := Lib.hid hrep
                      have hn8 : (t.puts ki hh vn).n = n := by rw [puts_n]; exact HN.out
                      have HN8 := Lib.hid hn8
                      clear p1 p2 r e2 e3 e4 hrep hrn hn8
                      generalize t.puts ki hh vn = t8 at *
                      as_aux_lemma =>
                        go_upto_region 18 with (fail)
                        refine wp_region_any (by kernel_rfl) ?_
                        refine wpAny_head (C := fun w' => ∃ q : Under w7, w' = q.W) (g := 6) [true, true, true, true] (by kernel_rfl) ⟨⟨_, under.drew_below w7⟩, rfl⟩ ?_
                        simp only [sel, setAll]
                        repeat (quiet_step ((first
                          | (go_at_call 17; (with_reducible refine under_call (probing_any _ _ _))))))
                        refine wpQuiet_nil ?_
                        rintro _ ⟨q, rfl⟩
                        refine wpAny_ready (rs := [4]) (by kernel_rfl) (by simp) ?_
                        refine AllReady.cons rfl (fun K hK => ?_) AllReady.nil
                        go_simp
                        refine (cP _ (HF7.out.ls.read q.below)).mono ?_
                        rintro e w8 ⟨rfl, hs8⟩
                        refine hK _ _ ?_
                        clear hK K cP
                        have hR8 := (HF7.out.read q.below).tlrows hs8
                        have hL8 := (HF7.out.ls.read q.below).tl hok hs8
                        have hV8 := (HV7.out.keep q.below).past hs8.ln.past (by simp [Ln.d]; simp at hXo; omega)
                        have hth := hR8.th ki hkz
                        rw [hM] at hth
                        simp only [Option.isSome_some, Option.isSome_none] at hth
                        have v0 := hV8.c0
                        have v1 := hV8.c1
                        refine wpAny_take (i := 5) (v := .tuple #[.bool false, .nilIface]) rfl (by kernel_rfl) (by kernel_rfl) (by kernel_rfl) (fun _ _ _ h => h) (Or.inl ⟨by rfl, fun wx => by go_simp⟩) ?_
                        refine wpAny_take (i := 6) (v := .bool false) rfl (by kernel_rfl) (by kernel_rfl) (by kernel_rfl) (fun _ _ _ h => h) (Or.inl ⟨by rfl, fun wx => by go_simp⟩) ?_
                        refine wpAny_take (i := 7) (v := .nilIface) rfl (by kernel_rfl) (by kernel_rfl) (by kernel_rfl) (fun _ _ _ h => h) (Or.inl ⟨by rfl, fun wx => by go_simp⟩) ?_
                        refine wpAny_take (i := 8) (v := .bool false) rfl (by kernel_rfl) (by kernel_rfl) (by kernel_rfl) (fun _ _ _ h => h) (Or.inl ⟨by rfl, fun wx => by go_simp⟩) ?_
                        refine wpAny_take (i := 9) (v := .nilIface) rfl (by kernel_rfl) (by kernel_rfl) (by kernel_rfl) (fun _ _ _ h => h) (Or.inl ⟨by rfl, fun wx => by go_simp⟩) ?_
                        refine wpAny_done (by kernel_rfl) ?_ _
                        go_upto_region 19 with (fail)
                        go_quiet (fail)
                        go_upto_region 22 with (fail)
                        have n1 : E ≠ Bt := by simp at hXo; omega
                        have n2 : E ≠ Bv := by simp at hXo; omega
                        have hva := hR8.va ki hkz
                        have hft := hR8.ft
                        have hfv := hR8.fv
                        have hne := hR8.ne
                        go_region_held3 (fun w' => w'.cell? ⟨E, 0, none⟩ = some (.int .u64 (ki : Nat)) ∧ w'.cell? ⟨E, 1, none⟩ = some (.int .u64 (vn : Nat))) (first | exact ⟨(World.cell?_setCell_other _ _ _ _ (off_b (Ne.symm n1))).trans (And.left (by assumption)), (World.cell?_setCell_other _ _ _ _ (off_b (Ne.symm n1))).trans (And.right (by assumption))⟩ | exact ⟨(World.cell?_setCell_other _ _ _ _ (off_b (Ne.symm n2))).trans (And.left (by assumption)), (World.cell?_setCell_other _ _ _ _ (off_b (Ne.symm n2))).trans (And.right (by assumption))⟩ | go_keep) (fail)
                        go_wp2_with (fail)
                        go_meet
                        case rel => exact Lib.hid ⟨t8, m8, _, _, HF7.out.done0 (hL8.read (below_drewN' _ _)) (hR8.below (below_drewN' _ _)) HRP.out hkz, HN8.out, by omega, by have := HN.out; omega⟩
                    | none =>
                      by_cases hl : 1 ≤ t.left
                      · obtain ⟨r, e2, e3, e4, e5⟩ := p1 (.inr hl)
                        have hrep := hrn.put_yes (key := ki) (v := vn) hkz (by rw [HE.out]; exact r) (by rw [HE.out]; exact e4)
                        rw [HE.out] at hrep
                        rw [hM] at e3
                        simp only [Option.isSome_none, Bool.not_false] at e3
                        rw [e2, e3, show errAt a 0 = .nilIface from rfl] at cP
                        have hok := r.1.ok
                        have HRP := Lib.hid hrep
                        have hn8 : (t.puts ki hh vn).n = n := by rw [puts_n]; exact HN.out
                        have HN8 := Lib.hid hn8
                        have dl : decide (0 < t.left) = true := decide_eq_true (by omega)
                        clear p1 p2 r e2 e3 e4 hrep hrn hn8
                        generalize t.puts ki hh vn = t8 at *
                        as_aux_lemma =>
                          go_upto_region 18 with (fail)
                          refine wp_region_any (by kernel_rfl) ?_
                          refine wpAny_head (C := fun w' => ∃ q : Under w7, w' = q.W) (g := 6) [true, true, true, true] (by kernel_rfl) ⟨⟨_, under.drew_below w7⟩, rfl⟩ ?_
                          simp only [sel, setAll]
                          repeat (quiet_step ((first
                            | (go_at_call 17; (with_reducible refine under_call (probing_any _ _ _))))))
                          refine wpQuiet_nil ?_
                          rintro _ ⟨q, rfl⟩
                          refine wpAny_ready (rs := [4]) (by kernel_rfl) (by simp) ?_
                          refine AllReady.cons rfl (fun K hK => ?_) AllReady.nil
                          go_simp
                          refine (cP _ (HF7.out.ls.read q.below)).mono ?_
                          rintro e w8 ⟨rfl, hs8⟩
                          refine hK _ _ ?_
                          clear hK K cP
                          have hR8 := (HF7.out.read q.below).tlrows hs8
                          have hL8 := (HF7.out.ls.read q.below).tl hok hs8
                          have hV8 := (HV7.out.keep q.below).past hs8.ln.past (by simp [Ln.d]; simp at hXo; omega)
                          have hth := hR8.th ki hkz
                          rw [hM] at hth
                          simp only [Option.isSome_some, Option.isSome_none] at hth
                          have v0 := hV8.c0
                          have v1 := hV8.c1
                          refine wpAny_take (i := 5) (v := .tuple #[.bool true, .nilIface]) rfl (by kernel_rfl) (by kernel_rfl) (by kernel_rfl) (fun _ _ _ h => h) (Or.inl ⟨by rfl, fun wx => by go_simp⟩) ?_
                          refine wpAny_take (i := 6) (v := .bool true) rfl (by kernel_rfl) (by kernel_rfl) (by kernel_rfl) (fun _ _ _ h => h) (Or.inl ⟨by rfl, fun wx => by go_simp⟩) ?_
                          refine wpAny_take (i := 7) (v := .nilIface) rfl (by kernel_rfl) (by kernel_rfl) (by kernel_rfl) (fun _ _ _ h => h) (Or.inl ⟨by rfl, fun wx => by go_simp⟩) ?_
                          refine wpAny_take (i := 8) (v := .bool true) rfl (by kernel_rfl) (by kernel_rfl) (by kernel_rfl) (fun _ _ _ h => h) (Or.inl ⟨by rfl, fun wx => by go_simp⟩) ?_
                          refine wpAny_take (i := 9) (v := .nilIface) rfl (by kernel_rfl) (by kernel_rfl) (by kernel_rfl) (fun _ _ _ h => h) (Or.inl ⟨by rfl, fun wx => by go_simp⟩) ?_
                          refine wpAny_done (by kernel_rfl) ?_ _
                          go_upto_region 19 with (fail)
                          go_quiet (fail)
                          go_upto_region 22 with (fail)
                          have n1 : E ≠ Bt := by simp at hXo; omega
                          have n2 : E ≠ Bv := by simp at hXo; omega
                          have hva := hR8.va ki hkz
                          have hft := hR8.ft
                          have hfv := hR8.fv
                          have hne := hR8.ne
                          go_region_held3 (fun w' => w'.cell? ⟨E, 0, none⟩ = some (.int .u64 (ki : Nat)) ∧ w'.cell? ⟨E, 1, none⟩ = some (.int .u64 (vn : Nat))) (first | exact ⟨(World.cell?_setCell_other _ _ _ _ (off_b (Ne.symm n1))).trans (And.left (by assumption)), (World.cell?_setCell_other _ _ _ _ (off_b (Ne.symm n1))).trans (And.right (by assumption))⟩ | exact ⟨(World.cell?_setCell_other _ _ _ _ (off_b (Ne.symm n2))).trans (And.left (by assumption)), (World.cell?_setCell_other _ _ _ _ (off_b (Ne.symm n2))).trans (And.right (by assumption))⟩ | go_keep) (fail)
                          go_wp2_with (fail)
                          go_meet
                          case rel => exact Lib.hid ⟨t8, m8, _, _, HF7.out.done0 (hL8.read (below_drewN' _ _)) (hR8.below (below_drewN' _ _)) HRP.out hkz, HN8.out, by omega, by have := HN.out; omega⟩
                      · obtain ⟨e1, e2, e3⟩ := p2 (by rw [hM]; rfl) (by omega)
                        rw [e1, e2, e3, show errAt a 2 = errs.errV (a (errs.nm 1)) from rfl] at cP
                        have hok := HF7.out.ls.ok
                        have dl : decide (0 < t.left) = false := decide_eq_false (by omega)
                        clear p1 p2 e1 e2 e3 hrn
                        as_aux_lemma =>
                          go_upto_region 18 with (fail)
                          refine wp_region_any (by kernel_rfl) ?_
                          refine wpAny_head (C := fun w' => ∃ q : Under w7, w' = q.W) (g := 6) [true, true, true, true] (by kernel_rfl) ⟨⟨_, under.drew_below w7⟩, rfl⟩ ?_
                          simp only [sel, setAll]
                          repeat (quiet_step ((first
                            | (go_at_call 17; (with_reducible refine under_call (probing_any _ _ _))))))
                          refine wpQuiet_nil ?_
                          rintro _ ⟨q, rfl⟩
                          refine wpAny_ready (rs := [4]) (by kernel_rfl) (by simp) ?_
                          refine AllReady.cons rfl (fun K hK => ?_) AllReady.nil
                          go_simp
                          refine (cP _ (HF7.out.ls.read q.below)).mono ?_
                          rintro e w8 ⟨rfl, hs8⟩
                          refine hK _ _ ?_
                          clear hK K cP
                          have hR8 := (HF7.out.read q.below).tlrows hs8
                          have hL8 := (HF7.out.ls.read q.below).tl hok hs8
                          have hV8 := (HV7.out.keep q.below).past hs8.ln.past (by simp [Ln.d]; simp at hXo; omega)
                          have hth := hR8.th ki hkz
                          rw [hM] at hth
                          simp only [Option.isSome_some, Option.isSome_none] at hth
                          have v0 := hV8.c0
                          have v1 := hV8.c1
                          refine wpAny_take (i := 5) (v := .tuple #[.bool false, errs.errV (a (errs.nm 1))]) rfl (by kernel_rfl) (by kernel_rfl) (by kernel_rfl) (fun _ _ _ h => h) (Or.inl ⟨by rfl, fun wx => by go_simp⟩) ?_
                          refine wpAny_take (i := 6) (v := .bool false) rfl (by kernel_rfl) (by kernel_rfl) (by kernel_rfl) (fun _ _ _ h => h) (Or.inl ⟨by rfl, fun wx => by go_simp⟩) ?_
                          refine wpAny_take (i := 7) (v := errs.errV (a (errs.nm 1))) rfl (by kernel_rfl) (by kernel_rfl) (by kernel_rfl) (fun _ _ _ h => h) (Or.inl ⟨by rfl, fun wx => by go_simp⟩) ?_
                          refine wpAny_take (i := 8) (v := .bool false) rfl (by kernel_rfl) (by kernel_rfl) (by kernel_rfl) (fun _ _ _ h => h) (Or.inl ⟨by rfl, fun wx => by go_simp⟩) ?_
                          refine wpAny_take (i := 9) (v := errs.errV (a (errs.nm 1))) rfl (by kernel_rfl) (by kernel_rfl) (by kernel_rfl) (fun _ _ _ h => h) (Or.inl ⟨by rfl, fun wx => by go_simp⟩) ?_
                          refine wpAny_done (by kernel_rfl) ?_ _
                          go_upto_region 19 with (fail)
                          go_quiet (fail)
                          go_wp2
                          go_meet
                          case rel => exact Lib.hid ⟨t, m8, M, V, ⟨hL8.read (below_drewN' _ _), hR8.below (below_drewN' _ _), HF7.out.rep, HF7.out.val, HF7.out.bt, HF7.out.bv, HF7.out.ht, HF7.out.hv⟩, HN.out, by omega, by have := HN.out; omega⟩
                · by_cases k1 : kd = 1
                  · as_aux_lemma =>
                      subst k1
                      have hkb : ki < 18446744073709551616 := by omega
                      have cD := fun W (h : FN w1 T B Bm Bt Bv la (hOf la hz) t m0 M V W) => delete_tab (h.ls.pr HW1.out) ki hh hkb hzz
                      have hrep := HF7.out.rep.remove hkz
                      have hit := HF7.out.rep.rep.there ki
                      have hev : ∀ v, M ki = some v → (entOf t ki (hOf la hz ki)).val = V ki := fun v hv => by rw [HF7.out.rep.rep.ent hv, HF7.out.val ki v hv]
                      rw [HE.out] at hrep hit hev
                      rw [hit] at cD
                      have hlk := see_pl Bm 0 m0 hpl (looks t ki hh)
                      have hln := looks_le t ki hh
                      have hlr := left_remove t ki hh
                      have hok := hrep.rep.1.ok
                      have hn8 : (t.remove ki hh).n = n := by rw [remove_n]; exact HN.out
                      have HN8 := Lib.hid hn8
                      have HRP := Lib.hid hrep
                      have HEV := Lib.hid hev
                      clear hn8 hrep hit hev
                      generalize (Ln.pr Bm 0).see m0 (looks t ki hh) = m8 at *
                      generalize t.remove ki hh = t8 at *
                      generalize (entOf t ki hh).key = ek at *
                      generalize hevn : (entOf t ki hh).val = ev at *
                      generalize (entOf t ki hh).hash = eh at *
                      have HEN := Lib.hid hevn
                      clear hevn
                      have r0 := HV7.out.c0
                      have r1 := HV7.out.c1
                      have r2 := HV7.out.c2
                      go_upto_region 24 with (fail)
                      go_cut [18, 19] from 63 to 221 (fun s18 s19 wy => ∃ X, s18 = .pointer (some ⟨X, 0, none⟩) ∧ s19 = .bool (M ki).isSome ∧ Hid (Fin w1 T B Bm Bt Bv la t8 m8 M V E ki vn hh X ek ev eh wy))
                      case first =>
                        as_aux_lemma =>
                          have hlE := HV7.out.lt
                          have h7 := HF7.out
                          have hV7 := HV7.out
                          have hXn := h7.out (Nat.le_refl w7.heap.size)
                          have hXs := h7.ls.below.size
                          have hE7 : E ≠ w7.heap.size := by omega
                          have hE4 : E ∉ [T, B] ++ (Ln.pr Bm 0).d := by simp [Ln.d]; simp at hXo; omega
                          go_region_held3 (fun w' => w'.cell? ⟨E, 0, none⟩ = some (.int .u64 (ki : Nat)) ∧ w'.cell? ⟨E, 2, none⟩ = some (.int .u64 (hh : Nat)))
                            (first
                              | exact ⟨hV9.c0, hV9.c2⟩
                              | exact ⟨hV8.c0, hV8.c2⟩
                              | exact ⟨(hV8.keep (new_block w8 _)).c0, (hV8.keep (new_block w8 _)).c2⟩
                              | exact ⟨(hV9.keep (new_block w9 _)).c0, (hV9.keep (new_block w9 _)).c2⟩
                              | exact ⟨(hV9.other hE7 ek ev eh).c0, (hV9.other hE7 ek ev eh).c2⟩
                              | exact ⟨(hV9.other hE8 ek ev eh).c0, (hV9.other hE8 ek ev eh).c2⟩
                              | go_keep)
                            (first
                              | (go_at_call 17; refine (probing_any _ _ _).mono ?_; rintro e w8 ⟨rfl, hb8⟩; have hb7 : Below w7.heap.size w7 w8 := (by first | exact under.below_step (under.drew_below w7) hb8 | exact under.below_step (under.below_step (under.drew_below w7) (new_block _ _)) hb8); have h8 := h7.read hb7; have hV8 := hV7.keep hb7; have hz8 := hb7.size; have hXn8 := h7.out (Nat.le_trans (Nat.le_refl _) hz8); have hE8 : E ≠ w8.heap.size := (by omega); try (have z8 : EBox w7.heap.size 0 0 0 w8 := EBox.keep (EBox.new 0 0 0 w7.drew) hb8))
                              | (go_at_call 25; refine Calls.mono (cD _ h8) ?_; rintro e w9 ⟨rfl, hs9⟩; have hL9 := h8.ls.tl hok hs9; have hR9 := h8.tlrows hs9; have hV9 := hV8.past hs9.ln.past hE4; try (have z9 : EBox w7.heap.size 0 0 0 w9 := z8.past hs9.ln.past (by simp [Ln.d]; simp at hXn; omega); have g0 := z9.c0; have g1 := z9.c1; have g2 := z9.c2; have gf := z9.fz))
                              | (go_at_call 25; refine Calls.mono (cD _ (h8.read (new_block w8 _))) ?_; rintro e w9 ⟨rfl, hs9⟩; have hL9 := (h8.read (new_block w8 _)).ls.tl hok hs9; have hR9 := (h8.read (new_block w8 _)).tlrows hs9; have hV9 := (hV8.keep (new_block w8 _)).past hs9.ln.past hE4; have z9 : EBox w8.heap.size 0 0 0 w9 := (EBox.new 0 0 0 w8).past hs9.ln.past (by simp [Ln.d]; simp at hXn8; omega); have g0 := z9.c0; have g1 := z9.c1; have g2 := z9.c2; have gf := z9.fz))
                          all_goals (go_wp2_with (fail); go_meet; first | exact ⟨_, rfl, rfl, Lib.hid (Fin.new hL9 hR9 hV9 ek ev eh)⟩ | exact ⟨_, rfl, rfl, Lib.hid (Fin.old hL9 hR9 hV9 z9 (by omega) hXn hE7 ek ev eh)⟩ | exact ⟨_, rfl, rfl, Lib.hid (Fin.old hL9 hR9 hV9 z9 (by omega) hXn8 hE8 ek ev eh)⟩)
                      case rest =>
                        as_aux_lemma =>
                          obtain ⟨X, rfl, rfl, HX⟩ := hcut
                          obtain ⟨hL9, hR9, hX9, hV9⟩ := HX.out
                          have hth := hR9.th ki hkz
                          have hva := hR9.va ki hkz
                          have hft := hR9.ft
                          have u0 := hV9.c0
                          have u1 := hX9.c1
                          clear r0 r1 r2 cD HX
                          cases hM : M ki with
                          | none =>
                            rw [hM] at hth
                            simp only [Option.isSome_none] at hth ⊢
                            clear hva u1
                            go_upto_region 25 with (fail)
                            go_quiet (fail)
                            go_wp2_with (fail)
                            go_meet
                            case rel => exact Lib.hid ⟨t8, m8, _, _, HF7.out.done1 (hL9.read (below_drewN' _ _)) (hR9.below (below_drewN' _ _)) HRP.out hkz, HN8.out, hlr, by have := HN.out; omega⟩
                          | some v =>
                            have hev := HEV.out v hM
                            rw [hM] at hth
                            simp only [Option.isSome_some] at hth ⊢
                            rw [hev] at u1
                            generalize V ki = vk at u1 hva
                            go_upto_region 25 with (fail)
                            go_quiet (fail)
                            go_wp2_with (fail)
                            go_meet
                            case rel => exact Lib.hid ⟨t8, m8, _, _, HF7.out.done1 (hL9.read (below_drewN' _ _)) (hR9.below (below_drewN' _ _)) HRP.out hkz, HN8.out, hlr, by have := HN.out; omega⟩
                  · have e0 : (kd == 0) = false := beq_eq_false_iff_ne.2 k0
                    have e1 : (kd == 1) = false := beq_eq_false_iff_ne.2 k1
                    clear k0 k1
                    go_wp2
                    go_meet
                    case rel => exact Lib.hid ⟨t, m0, M, V, HF7.out, HN.out, by omega, by omega⟩
            case rest =>
              as_aux_lemma =>
                have HC := hcut
                clear hcut
                obtain ⟨t', m', M', V', hF, hn', hl', hp'⟩ := HC.out
                have HF8 := Lib.hid hF
                have HN8 := Lib.hid hn'
                have d4 : decide ((n : Int) < m'.pl) = false := decide_eq_false (by omega)
                have cLa := fun W (h : LS w1 T B t' Bm m' W) => last_any Bm 0 m' W h.ma
                clear hF hn' HC x7 HF7 HV7
                have hfl := fldL m'.pl m'.vl m'.ul
                go_wp2_with (first
                  | (go_at_call 26; (with_reducible refine (cLa _ HF8.out.ls).mono ?_); rintro e w9 ⟨rfl, hb9⟩))
                have HF9 := Lib.hid (show FNx w1 T B Bm Bt Bv la (hOf la hz) t' M' V' w9 from ⟨m', HF8.out.read hb9⟩)
                clear HF8 hb9 cLa hfl d4 hp'
                go_loopw [167, 20] (fun i c wx => ∃ j : Nat, j ≤ la ∧ i = .int .i64 j ∧ c = .int .i64 (cntM j M' : Nat) ∧ Hid (FNx w1 T B Bm Bt Bv la (hOf la hz) t' M' V' wx)) (fun i _ _ => la - (intOf i).toNat)
                case atStart => exact ⟨0, by omega, rfl, rfl, HF9⟩
                case round =>
                  as_aux_lemma =>
                    obtain ⟨j, hj, rfl, rfl, HJ⟩ := hrel
                    rcases Nat.lt_or_ge j la with hjl | hjl
                    · have hji : (j : Int) < (la : Int) := by omega
                      obtain ⟨xh, rfl, hzj, hx⟩ := HH1.out j hjl
                      have hit := (show RepN (hOf la hz) la t' M' from by obtain ⟨m, h⟩ := HJ.out; exact h.rep).rep.there j
                      have hev : ∀ v, M' j = some v → (entOf t' j (hOf la hz j)).val = V' j := fun v hv => by
                        obtain ⟨m, h⟩ := HJ.out
                        rw [h.rep.rep.ent hv, h.val j v hv]
                      rw [hOf_lt hjl] at hit hev
                      have cF := fun W (h : FNx w1 T B Bm Bt Bv la (hOf la hz) t' M' V' W) => h.find HW1.out j (hz j) (by omega) hzj
                      rw [hit] at cF
                      have hwj := u64_small j (by omega)
                      generalize (entOf t' j (hz j)).key = ek at *
                      generalize (entOf t' j (hz j)).val = ev at *
                      generalize (entOf t' j (hz j)).hash = eh at *
                      generalize hz j = hh at *
                      have kx : ∀ W, FNx w1 T B Bm Bt Bv la (hOf la hz) t' M' V' W → W.cell? (xh.add j) = some (.int .u64 (hh : Nat)) := fun W h => hx W h.bel
                      have HEV := Lib.hid hev
                      have HKX := Lib.hid kx
                      have y0 := kx _ HJ.out
                      clear hev hit hx kx
                      go_upto_region 34 with (fail)
                      go_cut [22, 23] from 168 to 204 (fun s22 s23 wy => ∃ X, s22 = .pointer (some ⟨X, 0, none⟩) ∧ s23 = .bool (M' j).isSome ∧ Hid (FNx w1 T B Bm Bt Bv la (hOf la hz) t' M' V' wy ∧ EBox X ek ev eh wy))
                      case first =>
                        as_aux_lemma =>
                          have h0 := HJ.out
                          go_region_held3 (fun w' => w'.cell? (xh.add j) = some (.int .u64 (hh : Nat)) ∧ FNx w1 T B Bm Bt Bv la (hOf la hz) t' M' V' w')
                            (first
                              | exact ⟨HKX.out _ h0.drew, h0.drew⟩
                              | exact ⟨HKX.out _ (FNx.read h9 (new_block _ _)), FNx.read h9 (new_block _ _)⟩
                              | exact ⟨HKX.out _ (h0.set3 h9 (Nat.le_refl _) _ _ _), h0.set3 h9 (Nat.le_refl _) _ _ _⟩
                              | exact ⟨HKX.out _ (h8.set3 h9 (Nat.le_refl _) _ _ _), h8.set3 h9 (Nat.le_refl _) _ _ _⟩
                              | exact ⟨HKX.out _ (FNx.read (And.right (by assumption)) (by assumption)), FNx.read (And.right (by assumption)) (by assumption)⟩
                              | exact ⟨HKX.out _ (FNx.look (And.right (by assumption)) (by assumption)), FNx.look (And.right (by assumption)) (by assumption)⟩
                              | exact ⟨HKX.out _ (FNx.read (And.right (by assumption)) (new_block _ _)), FNx.read (And.right (by assumption)) (new_block _ _)⟩
                              | go_keep)
                            (first
                              | (go_at_call 15; refine (working_any _ _ _).mono ?_; rintro e w8 ⟨rfl, hb8⟩; have h8 := FNx.read (And.right (by assumption)) hb8; try (have z8 : EBox wr.heap.size 0 0 0 w8 := EBox.keep (EBox.new 0 0 0 wr.drew) hb8))
                              | (go_at_call 16; refine Calls.mono (cF _ (And.right (by assumption))) ?_; rintro e w9 ⟨rfl, hs9⟩; have h9 := FNx.look (And.right (by assumption)) hs9; try (first | (have z9 : EBox wr.heap.size 0 0 0 w9 := h0.lk (Nat.le_refl _) z8 hs9; have g0 := z9.c0; have g1 := z9.c1; have g2 := z9.c2; have gf := z9.fz) | (have z9 : EBox w8.heap.size 0 0 0 w9 := h8.lk (Nat.le_refl _) (EBox.new 0 0 0 w8) hs9; have g0 := z9.c0; have g1 := z9.c1; have g2 := z9.c2; have gf := z9.fz))))
                          all_goals (go_wp2_with (fail); go_meet; first | exact ⟨_, rfl, rfl, Lib.hid ⟨h9.read (new_block _ _), EBox.new ek ev eh w9⟩⟩ | exact ⟨_, rfl, rfl, Lib.hid ⟨h0.set3 h9 (Nat.le_refl _) _ _ _, z9.set ek ev eh⟩⟩ | exact ⟨_, rfl, rfl, Lib.hid ⟨h8.set3 h9 (Nat.le_refl _) _ _ _, z9.set ek ev eh⟩⟩)
                      case rest =>
                        as_aux_lemma =>
                          obtain ⟨X, rfl, rfl, HX⟩ := hcut
                          have hth : wc.cell? ⟨Bt, j, none⟩ = some (.bool (M' j).isSome) := by obtain ⟨m, h⟩ := HX.out.1; exact h.rw'.th j hjl
                          have hva : wc.cell? ⟨Bv, j, none⟩ = some (.int .u64 (V' j : Nat)) := by obtain ⟨m, h⟩ := HX.out.1; exact h.rw'.va j hjl
                          have hx1 := HX.out.2.c1
                          have HCJ := Lib.hid (cntM_succ j M')
                          have hcj : cntM j M' ≤ la := Nat.le_trans (cntM_le j M') hj
                          have hcw : IntKind.i64.wrap ((cntM j M' : Int) + 1) = (cntM j M' : Int) + 1 := IntWalk.i64_in _ (by omega)
                          generalize cntM j M' = cj at *
                          clear y0 cF
                          cases hM : M' j with
                          | none =>
                            rw [hM] at hth HCJ
                            simp only [Option.isSome_none] at hth ⊢
                            clear hM HEV
                            go_upto_region 35 with (fail)
                            go_quiet (fail)
                            go_wp2
                            go_roundw
                            case rel => exact ⟨j + 1, by omega, by simp, by rw [HCJ.out]; simp, Lib.hid (HX.out.1.read (below_drewN' _ _))⟩
                            case measure => simp [intOf]; omega
                          | some v =>
                            obtain rfl := HEV.out v hM
                            rw [hM] at hth HCJ
                            simp only [Option.isSome_some] at hth ⊢
                            clear hM HEV
                            generalize V' j = vj at *
                            go_upto_region 35 with (fail)
                            go_quiet (fail)
                            go_wp2
                            go_roundw
                            case rel => exact ⟨j + 1, by omega, by simp, by rw [HCJ.out]; simp, Lib.hid (HX.out.1.read (below_drewN' _ _))⟩
                            case measure => simp [intOf]; omega
                    · obtain rfl : j = la := by omega
                      have cLe := fun W (h : FNx w1 T B Bm Bt Bv j (hOf j hz) t' M' V' W) => (show Calls Tryd.prog 11 #[.pointer (some ⟨T, 0, none⟩)] W fun e w' => e = .returned (.int .i64 (cntM j M' : Nat)) ∧ W = w' from by
                        obtain ⟨m, h⟩ := h
                        have := len_any T B t' W h.ls.at'
                        rw [h.rep.len] at this
                        exact this)
                      have cLf := fun W (h : FNx w1 T B Bm Bt Bv j (hOf j hz) t' M' V' W) => (show Calls Tryd.prog 22 #[.pointer (some ⟨T, 0, none⟩)] W fun e w' => e = .returned (.int .i64 t'.left) ∧ ∃ q, w' = W.drewN q from by
                        obtain ⟨m, h⟩ := h
                        exact left_any T B t' h.ls.ok W h.ls.at')
                      have hlw : IntKind.i64.wrap (t.left + 1) = t.left + 1 := IntWalk.i64_in _ (by omega)
                      have d6 : decide (t.left + 1 < t'.left) = false := decide_eq_false (by omega)
                      generalize cntM j M' = cj at *
                      go_wp2_with (first
                        | (go_at_call 11; (with_reducible refine (cLe _ HJ.out).mono ?_); rintro e w10 ⟨rfl, rfl⟩)
                        | (go_at_call 22; (with_reducible refine (cLf _ HJ.out).mono ?_); rintro e w11 ⟨rfl, q, rfl⟩))
                      go_roundw
                      case rel => exact ⟨k + 1, by omega, by simp, Lib.hid (by obtain ⟨m, h⟩ := HJ.out.read (below_drewN' _ q); exact ⟨t', m, M', V', h, HN8.out⟩)⟩
                      case measure => simp [intOf]; omega
          · obtain rfl : k = lb := by omega
            obtain ⟨t, m, M, V, hF, htn⟩ := HO.out
            have HF := Lib.hid hF
            clear hF
            go_wp2
            go_ret
            exact ⟨rfl, under.below_step HB1.out HF.out.ls.below⟩
end Go.Proofs.YtlgjmnckdjkngaaDoor.table
