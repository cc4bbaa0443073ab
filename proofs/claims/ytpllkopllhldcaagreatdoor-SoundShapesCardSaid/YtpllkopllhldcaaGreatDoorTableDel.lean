/- table: Delete. -/
import Derived.Test.YtpllkopllhldcaaGreatDoorTableOps
namespace Go.Proofs.YtpllkopllhldcaaGreatDoor.table
open Go.ChangeShapes Go.WideShapes Go.ChangeAt Go.RowKit Go.Shelf swar under trap meter group probe lens tail call
attribute [local go_sem] Oper.semAt_some stage.pureUpon move.stepUpon
set_option linter.unusedSimpArgs false
set_option linter.unusedVariables false
/-- three cells are set -/
abbrev set3 (X k v h : Nat) (w : World) : World := ((w.setCell ⟨X, 0, none⟩ (.int .u64 (k : Nat))).setCell ⟨X, 1, none⟩ (.int .u64 (v : Nat))).setCell ⟨X, 2, none⟩ (.int .u64 (h : Nat))
theorem set3_other {X k v h b j : Nat} {w : World} (hb : b ≠ X) : (set3 X k v h w).cell? ⟨b, j, none⟩ = w.cell? ⟨b, j, none⟩ := by
  unfold set3; rw [World.cell?_setCell_other _ _ _ _ (off_b (Ne.symm hb)), World.cell?_setCell_other _ _ _ _ (off_b (Ne.symm hb)), World.cell?_setCell_other _ _ _ _ (off_b (Ne.symm hb))]
/-- the worlds of a region in which a call writes, and then three cells are set -/
def DelD (W : World) (A : World → Prop) (X k v h : Nat) : Nat → World → Prop
  | 0 => fun w' => ∃ q, w' = W.drewN q
  | 1 => A
  | _ => fun w' => ∃ w'', A w'' ∧ w' = set3 X k v h w''
theorem DelD.cell {W : World} {A : World → Prop} {X k v h b j : Nat} {u : Value} (hb : b ≠ X) (hc : W.cell? ⟨b, j, none⟩ = some u) (hA : ∀ w', A w' → w'.cell? ⟨b, j, none⟩ = some u) (q : stage.Un (DelD W A X k v h)) : q.W.cell? ⟨b, j, none⟩ = some u := by
  obtain ⟨i, w', h'⟩ := q
  match i, h' with
  | 0, ⟨q, e⟩ => show w'.cell? _ = _; rw [e]; exact hc
  | 1, h' => exact hA _ h'
  | i + 2, ⟨w'', ha, e⟩ => show w'.cell? _ = _; rw [e, set3_other hb]; exact hA _ ha
def SetD (W : World) (X k v h : Nat) : Nat → World → Prop
  | 0 => fun w' => ∃ q, w' = W.drewN q
  | _ => fun w' => ∃ q, w' = set3 X k v h (W.drewN q)
theorem SetD.cell {W : World} {X k v h b j : Nat} {u : Value} (hb : b ≠ X) (hc : W.cell? ⟨b, j, none⟩ = some u) (q : stage.Un (SetD W X k v h)) : q.W.cell? ⟨b, j, none⟩ = some u := by
  obtain ⟨i, w', h'⟩ := q
  match i, h' with
  | 0, ⟨q, e⟩ => show w'.cell? _ = _; rw [e]; exact hc
  | i + 1, ⟨q, e⟩ => show w'.cell? _ = _; rw [e, set3_other hb]; exact hc
/-- a store into a block that is new -/
theorem TL.newset {T B : Nat} {t : Tb} {L : Ln} {m : Mt} {w w' : World} (h : TL T B t L m w w') (hd : ∀ b ∈ L.d, b < w.heap.size) (hT : T < w.heap.size) (hB : B < w.heap.size) {p : Addr} (hp : w.heap.size ≤ p.block) (u : Value) : TL T B t L m w (w'.setCell p u) := by
  have k : Past [p.block] w' (w'.setCell p u) := (Past.refl [p.block] w').store (.inl (by simp)) u
  exact ⟨h.at'.past k (by simp; omega) (by simp; omega), h.ln.newset hd hp u⟩
set_option maxRecDepth 20000 in
theorem delete_tab {ae : String → Addr} {T B : Nat} {t : Tb} {L : Ln} {m : Mt} {w : World} (h : Ready ae T B t L m w) (key hs : Nat) (hk : key < 18446744073709551616) (hh : hs < 18446744073709551616) :
    Calls Tryz.prog 25 #[.pointer (some ⟨T, 0, none⟩), .agg #[.pointer L.p], .int .u64 key, .int .u64 hs] w fun e w' => e = .returned (.tuple #[group.entV (entOf t key hs).key (entOf t key hs).val (entOf t key hs).hash, .bool (isThere t key hs)]) ∧ TL T B (t.remove key hs) L (L.see m (looks t key hs)) w w' := by
  have HH := Lib.hid h
  have hd := h.ln.lt
  have hb2 := two_new w (.cells #[.pointer L.p] 58) (.cells #[.int .u64 0, .int .u64 0, .int .u64 0] 60)
  have c1 := (h.below hb2).seek key hs hk hh
  have hV := EBox.second 0 0 0 w (.cells #[.pointer L.p] 58)
  have hR := fun W (hs' : LnStep [] L (L.see m (looks t key hs)) ((w.alloc (.cells #[.pointer L.p] 58)).alloc (.cells #[.int .u64 0, .int .u64 0, .int .u64 0] 60)) W) => (HH.out.below hb2).look hs'
  have HR := Lib.hid hR
  have hT0 : TL T B t L m w ((w.alloc (.cells #[.pointer L.p] 58)).alloc (.cells #[.int .u64 0, .int .u64 0, .int .u64 0] 60)) := .of h.at' h.ln hb2
  have hA := h.apart
  have hTlt := h.at'.lt
  have hBlt := h.at'.lb
  have cE := fun W (h' : Ready ae T B t L (L.see m (looks t key hs)) W) => h'.entry key hs hh
  have HM := Lib.hid (fun W (h' : Ready ae T B t L (L.see m (looks t key hs)) W) => h'.remove key hs hh)
  clear h hR
  generalize lastG t key hs = lg at *
  generalize roomG t key hs = rg at *
  generalize entOf t key hs = en at *
  generalize hm : L.see m (looks t key hs) = m' at *
  have e4 : isThere t key hs = false → t.remove key hs = t := fun hit => by unfold Tb.remove; rw [slot_neg hit, if_neg (by decide)]
  have e5 : isThere t key hs = true → noneE t key hs = 0 := fun hit => by unfold noneE; rw [hit]; rfl
  generalize t.remove key hs = t' at *
  generalize noneE t key hs = ne at *
  generalize isThere t key hs = it at *
  have E4 := Lib.hid e4
  have E5 := Lib.hid e5
  clear e4 e5
  go_enter Tryz.func25, Tryz.ntmps25
  go_wp2_with (first
    | (go_at_call 47; refine c1.mono ?_; rintro e w1 ⟨rfl, hs1⟩; have hb3 := new_block w1 (.cells #[.pointer (some ⟨T, 0, none⟩), .int .u64 (key : Nat), .int .u64 (hs : Nat), .pointer (some ⟨B, lg * 25, none⟩), .pointer (some ⟨B, rg * 25, none⟩)] 104); have hSB := SBox.new T B key hs lg rg w1; have hV1 := (hV.past hs1.past (by simpa using HH.out.ln.nd (by omega))).keep hb3; have hL1 := (hT0.trans (TL.look hT0.at' hA hs1)).below hb3; have z1 := hs1.past.size; rw [World.size_alloc, World.size_alloc] at z1; have hR1 := (HR.out _ hs1).below hb3)
    | (go_at_call 56; refine (cE _ hR1).mono ?_; rintro e w2 ⟨rfl, hb4⟩; have hEB := EBox.new en.key en.val en.hash w2; have hb5 := under.below_step hb4 (new_block w2 (.cells #[.int .u64 (en.key : Nat), .int .u64 (en.val : Nat), .int .u64 (en.hash : Nat)] 60)); have hR2 := hR1.below hb5; have hV2 := hV1.keep hb5; have hSB2 := hSB.keep hb5; have hL2 := hL1.below hb5; have z2 := hb4.size))
  generalize w2.alloc (.cells #[.int .u64 (en.key : Nat), .int .u64 (en.val : Nat), .int .u64 (en.hash : Nat)] 60) = W at *
  have z3 : w.heap.size + 2 ≤ w1.heap.size := z1
  have z4 : w1.heap.size + 1 ≤ w2.heap.size := by rw [World.size_alloc] at z2; exact z2
  generalize w1.heap.size = X1 at *
  generalize w2.heap.size = X2 at *
  clear c1 hs1 hb3 hR1 cE hb4 hb5 hL1 hV1 hSB HR z1 z2 hT0 hV hb2
  have n1 : X1 ≠ w.heap.size + 1 := by omega
  have n2 : X2 ≠ w.heap.size + 1 := by omega
  have m1 : X1 ∉ [T, B] := by simp; omega
  have m2 : X2 ∉ [T, B] := by simp; omega
  have mr : w.heap.size + 1 ∉ [T, B] := by simp; omega
  cases it
  · obtain rfl := E4.out rfl
    clear E4 E5 HM
    have q0 := SetD.cell (k := en.key) (v := en.val) (h := en.hash) n2 hEB.c0
    have q1 := SetD.cell (k := en.key) (v := en.val) (h := en.hash) n2 hEB.c1
    have q2 := SetD.cell (k := en.key) (v := en.val) (h := en.hash) n2 hEB.c2
    haveI : Nonempty (stage.Un (SetD W (w.heap.size + 1) en.key en.val en.hash)) := ⟨⟨0, W, 0, rfl⟩⟩
    refine (wpIn_wide (n := 3)).1 ?_
    refine move.region (D := SetD W (w.heap.size + 1) en.key en.val en.hash) 8 [false, false, false, false, false, false, false, true] (by kernel_rfl) (by kernel_rfl) (by kernel_rfl) ⟨1, rfl⟩ ?_
    simp only [List.take_succ_cons, List.take_zero, List.drop_succ_cons, List.drop_zero]
    iterate 7
      refine move.pure_step (fun _ _ _ => trivial) (fun K hK => ?_)
      go_simp
      refine hK _ ?_
      clear hK K
    refine move.move_step (v := undef) (fun _ _ _ => trivial) (by kernel_rfl) (fun wd hd9 => ?_) (fun K hK => ?_)
    · obtain ⟨q, rfl⟩ := hd9
      have k0 := hV2.c0
      have k1 := hV2.c1
      have k2 := hV2.c2
      have kf := hV2.fz
      go_simp
      exact ⟨q, rfl⟩
    refine hK _ ?_
    clear hK K
    refine move.nil_step ?_
    rintro w10 ⟨q, rfl⟩
    have k0 := hV2.c0
    have k1 := hV2.c1
    have k2 := hV2.c2
    clear q0 q1 q2 this
    gi_wp2
    go_wp2
    have hL3 := hL2.below (below_drewN' W q)
    refine bodyPost_ret (v := .tuple #[group.entV en.key en.val en.hash, .bool false]) (by simp [results, Tryz.results25, go_sem, k0, k1, k2]) rfl ⟨rfl, ?_⟩
    exact (((hL3.newset hd hTlt hBlt (by simp) _).newset hd hTlt hBlt (by simp) _).newset hd hTlt hBlt (by simp) _)
  · obtain rfl := E5.out rfl
    clear E4 E5
    have hRem := fun W' (hb : Below W.heap.size W W') => HM.out W' (hR2.below hb)
    rw [show errAt ae 0 = .nilIface from rfl] at hRem
    clear HM
    have q0 := DelD.cell (k := en.key) (v := en.val) (h := en.hash) (A := TStep T B t' W) n2 hEB.c0 fun w' hs => hs.past.cell hEB.c0 m2
    have q1 := DelD.cell (k := en.key) (v := en.val) (h := en.hash) (A := TStep T B t' W) n2 hEB.c1 fun w' hs => hs.past.cell hEB.c1 m2
    have q2 := DelD.cell (k := en.key) (v := en.val) (h := en.hash) (A := TStep T B t' W) n2 hEB.c2 fun w' hs => hs.past.cell hEB.c2 m2
    have r0 := DelD.cell (k := en.key) (v := en.val) (h := en.hash) (A := TStep T B t' W) n1 hSB2.c0 fun w' hs => hs.past.cell hSB2.c0 m1
    have r1 := DelD.cell (k := en.key) (v := en.val) (h := en.hash) (A := TStep T B t' W) n1 hSB2.c1 fun w' hs => hs.past.cell hSB2.c1 m1
    have r2 := DelD.cell (k := en.key) (v := en.val) (h := en.hash) (A := TStep T B t' W) n1 hSB2.c2 fun w' hs => hs.past.cell hSB2.c2 m1
    have r3 := DelD.cell (k := en.key) (v := en.val) (h := en.hash) (A := TStep T B t' W) n1 hSB2.c3 fun w' hs => hs.past.cell hSB2.c3 m1
    have r4 := DelD.cell (k := en.key) (v := en.val) (h := en.hash) (A := TStep T B t' W) n1 hSB2.c4 fun w' hs => hs.past.cell hSB2.c4 m1
    haveI : Nonempty (stage.Un (DelD W (TStep T B t' W) (w.heap.size + 1) en.key en.val en.hash)) := ⟨⟨0, W, 0, rfl⟩⟩
    refine (wpIn_wide (n := 3)).1 ?_
    refine move.region (D := DelD W (TStep T B t' W) (w.heap.size + 1) en.key en.val en.hash) 8 [false, false, false, false, true, false, false, true] (by kernel_rfl) (by kernel_rfl) (by kernel_rfl) ⟨1, rfl⟩ ?_
    simp only [List.take_succ_cons, List.take_zero, List.drop_succ_cons, List.drop_zero]
    iterate 4
      refine move.pure_step (fun _ _ _ => trivial) (fun K hK => ?_)
      go_simp
      refine hK _ ?_
      clear hK K
    refine move.move_step (v := .nilIface) (fun _ _ _ => trivial) (by kernel_rfl) (fun wd hd9 => ?_) (fun K hK => ?_)
    · obtain ⟨q, rfl⟩ := hd9
      go_simp
      refine callsIn_wide.2 ((hRem (W.drewN q) (below_drewN' W q)).mono ?_)
      rintro e' w' ⟨rfl, hs⟩
      exact ⟨rfl, (TStep.of hR2.at' (below_drewN' W q)).trans hs⟩
    refine hK _ ?_
    clear hK K
    iterate 2
      refine move.pure_step (fun _ _ _ => trivial) (fun K hK => ?_)
      go_simp
      refine hK _ ?_
      clear hK K
    refine move.move_step (v := undef) (fun _ _ _ => trivial) (by kernel_rfl) (fun wd hd9 => ?_) (fun K hK => ?_)
    · have hS9 : TStep T B t' W wd := hd9
      have hV3 := hV2.past hS9.past mr
      have k0 := hV3.c0
      have k1 := hV3.c1
      have k2 := hV3.c2
      have kf := hV3.fz
      clear hd9
      go_simp
      exact ⟨wd, hS9, rfl⟩
    refine hK _ ?_
    clear hK K
    refine move.nil_step ?_
    rintro w10 ⟨w9, hS9, rfl⟩
    have hV3 := hV2.past hS9.past mr
    have k0 := hV3.c0
    have k1 := hV3.c1
    have k2 := hV3.c2
    clear q0 q1 q2 r0 r1 r2 r3 r4 this
    gi_wp2
    go_wp2
    have hL3 := hL2.step hA hS9
    refine bodyPost_ret (v := .tuple #[group.entV en.key en.val en.hash, .bool true]) (by simp [results, Tryz.results25, go_sem, k0, k1, k2]) rfl ⟨rfl, ?_⟩
    exact (((hL3.newset hd hTlt hBlt (by simp) _).newset hd hTlt hBlt (by simp) _).newset hd hTlt hBlt (by simp) _)
end Go.Proofs.YtpllkopllhldcaaGreatDoor.table
