/- dual: Delete, over the tables in which a key is looked for. -/
import Derived.Test.YteedbnoefnlidaaGreatDoorDualPut
namespace Go.Proofs.YteedbnoefnlidaaGreatDoor.dual
open Go.ChangeShapes Go.WideShapes Go.ChangeAt Go.RowKit Go.Shelf swar under trap meter group probe lens tail call table evac
attribute [local go_sem] Oper.semAt_some stage.pureUpon move.stepUpon
set_option linter.unusedSimpArgs false
set_option linter.unusedVariables false

/-- between two tables -/
structure DlI (a : String → Addr) (w0 w : World) (Y : Lay) (t : Nat → Tb) (L : Ln) (m : Mt) (J : List Nat) (o : Option Addr) (k : Nat) (W : World) : Prop where
  re : Real a w0 Y t W
  ln : LnStep Y.tall L (L.see m k) w W
  bx : W.cell? ⟨w.heap.size, 0, none⟩ = some (.pointer L.p)
  rs : EBox (w.heap.size + 1) 0 0 0 W
  ps : PtrsAt o (ptrs Y J) W
section
variable {a : String → Addr} {w0 w : World} {Y : Lay} {t t' : Nat → Tb} {L : Ln} {m : Mt} {J : List Nat} {o : Option Addr} {k : Nat} {W W' : World}
theorem DlI.read (h : DlI a w0 w Y t L m J o k W) (hb : Below W.heap.size W W') : DlI a w0 w Y t L m J o k W' :=
  ⟨h.re.read hb, h.ln.below hb, keepc hb h.bx, h.rs.keep hb, h.ps.below hb⟩
theorem DlI.go (h : DlI a w0 w Y t L m J o k W) {i : Nat} (hi : i < Y.N) (hd : ∀ b ∈ L.d, w0.heap.size ≤ b ∧ b ∉ Y.tall) (hlt : ∀ b ∈ L.d, b < w.heap.size) (htl : ∀ b ∈ Y.tall, b < w.heap.size) (ho : ∀ x, o = some x → x.block ∉ L.d ∧ x.block ∉ Y.tall) {k' : Nat} {t1 : Tb} (hs : TL (Y.T i) (Y.B i) t1 L (L.see (L.see m k) k') W W') (ok : t1.Ok) (hn : t1.n = (t i).n) : DlI a w0 w Y (up t i t1) L m J o (k + k') W' := by
  have hp : Past (Y.tall ++ L.d) W W' := hs.ln.past.mono fun b hb => by
    rcases List.mem_append.1 hb with hb | hb
    · exact List.mem_append.2 (.inl (Lay.tin hi hb))
    · exact List.mem_append.2 (.inr hb)
  have nX : ∀ x, w.heap.size ≤ x → x ∉ Y.tall ++ L.d := fun x hx e => by
    rcases List.mem_append.1 e with e | e
    · have := htl x e; omega
    · have := hlt x e; omega
  refine ⟨h.re.tlL hi hd hs ok hn, ?_, hp.cell h.bx (nX _ (Nat.le_refl _)), h.rs.past hp (nX _ (by omega)), ptrs_keep h.ps hp fun x hx e => ?_⟩
  · rw [L.see_add]; exact h.ln.trans (hs.ln.mono fun b hb => Lay.tin hi hb)
  · rcases List.mem_append.1 e with e | e
    · exact (ho x hx).2 e
    · exact (ho x hx).1 e
end
theorem del_found {t : Nat → Tb} {key hs i : Nat} {J : List Nat} (hf : fnd t key hs J = some i) : eT t key hs J = up t i ((t i).remove key hs) := by unfold eT; rw [hf]
theorem del_off {t : Nat → Tb} {key hs : Nat} {J : List Nat} (hf : fnd t key hs J = none) : eT t key hs J = t := by unfold eT; rw [hf]
set_option maxRecDepth 20000 in
set_option maxHeartbeats 1000000 in
theorem delete_core (a : String → Addr) (w0 : World) (Y : Lay) (t : Nat → Tb) (D key hs : Nat) (hk : key < 18446744073709551616) (hh : hs < 18446744073709551616) (L : Ln) (m : Mt) (J : List Nat) (hJ : J.length ≤ 3) (hJN : ∀ i ∈ J, i < Y.N) (w : World) (hr : Real a w0 Y t w) (hl : LnAt L m w) (hd : ∀ b ∈ L.d, w0.heap.size ≤ b ∧ b ∉ Y.tall)
    (cW : ∀ W, Below w.heap.size w W → Calls Tryz.prog 49 #[.pointer (some ⟨D, 0, none⟩), .int .u64 (hs : Nat)] W fun e w' => ∃ o c, e = .returned (.slice o J.length c) ∧ PtrsAt o (ptrs Y J) w' ∧ (∀ x, o = some x → x.block ∉ L.d ∧ x.block ∉ Y.tall ∧ (x.block < w.heap.size ∨ W.heap.size ≤ x.block)) ∧ Below W.heap.size W w') :
    Calls Tryz.prog 16 #[.pointer (some ⟨D, 0, none⟩), .agg #[.pointer L.p], .int .u64 (key : Nat), .int .u64 (hs : Nat)] w fun e w' => e = .returned (.tuple #[group.entV (fndE t key hs J).key (fndE t key hs J).val (fndE t key hs J).hash, .bool (fnd t key hs J).isSome]) ∧ Real a w0 Y (eT t key hs J) w' ∧ LnStep Y.tall L (L.see m (fndK t key hs J)) w w' := by
  have hlt := hl.lt
  have htl := hr.lt
  have hb2 := two_new w (.cells #[.pointer L.p] 55) (.cells #[.int .u64 0, .int .u64 0, .int .u64 0] 43)
  have hX := keepc (new_block (w.alloc (.cells #[.pointer L.p] 55)) (.cells #[.int .u64 0, .int .u64 0, .int .u64 0] 43)) (newc w (.pointer L.p) 55)
  have hV := EBox.second 0 0 0 w (.cells #[.pointer L.p] 55)
  have HR := Lib.hid hr
  have HL := Lib.hid hl
  have HZ := Lib.hid hr.bel.size
  clear hr hl
  go_enter Tryz.func16, Tryz.ntmps16
  go_wp2_with (fail)
  refine (cW _ hb2).mono ?_
  rintro e w1 ⟨o, c, rfl, hP, ho, hb1⟩
  have hb12 := under.below_step hb2 hb1
  have HI := Lib.hid (show DlI a w0 w Y t L m J o 0 w1 from ⟨HR.out.read hb12, .of _ HL.out hb12, keepc hb1 hX, hV.keep hb1, hP⟩)
  have HO := Lib.hid (show ∀ x, o = some x → x.block ∉ L.d ∧ x.block ∉ Y.tall from fun x hx => ⟨(ho x hx).1, (ho x hx).2.1⟩)
  clear hX hV hP ho cW hb2 hb1 hb12
  go_wp2_with (fail)
  go_loopw [18] (fun i wr => ∃ j : Nat, j ≤ J.length ∧ i = .int .i64 j ∧ Hid ((∀ i ∈ J.take j, isThere (t i) key hs = false) ∧ DlI a w0 w Y t L m J o (fndK t key hs (J.take j)) wr)) (fun i _ => J.length - (intOf i).toNat)
  case atStart => exact ⟨0, by omega, rfl, Lib.hid ⟨fun i hi => (by simp at hi), HI.out⟩⟩
  case round =>
    obtain ⟨j, hj, rfl, HF⟩ := hrel
    clear HI
    rcases Nat.lt_or_ge j J.length with hjl | hjl
    · have hji : (j : Int) < (J.length : Int) := by omega
      obtain ⟨hoff, hF⟩ := HF.out
      obtain ⟨x, rfl, hc⟩ := ptrs_at hF.ps hjl
      have hi := hJN _ (List.getElem_mem hjl)
      have cF := delete_tab (hF.re.rdL hi hF.ln.at' hd) key hs hk hh
      have hbx := hF.bx
      have HN := Lib.hid (fun (W' : World) (hst : TL (Y.T J[j]) (Y.B J[j]) ((t J[j]).remove key hs) L (L.see (L.see m (fndK t key hs (J.take j))) (looks (t J[j]) key hs)) wr W') => hF.go hi hd hlt htl HO.out hst (hF.re.ok _ hi).remove (remove_n ..))
      have HA := Lib.hid (fun ht => fnd_at (key := key) (h := hs) (t := t) hjl hoff ht)
      have HB := Lib.hid (fun ht => And.intro (off_snoc hjl hoff ht) (fndK_snoc hjl hoff))
      have HE : Hid (isThere (t J[j]) key hs = true → fndE t key hs J = entOf (t J[j]) key hs ∧ eT t key hs J = up t J[j] ((t J[j]).remove key hs)) := Lib.hid fun ht => by
        have := (fnd_at hjl hoff ht).1
        exact ⟨by unfold fndE; rw [this], del_found this⟩
      have eR : isThere (t J[j]) key hs = false → (t J[j]).remove key hs = t J[j] := fun ht => by unfold Tb.remove; rw [slot_neg ht, if_neg (by decide)]
      clear hoff HF
      generalize J[j] = i at *
      generalize fndK t key hs (J.take j) = kj at *
      generalize looks (t i) key hs = lk at *
      generalize hen : entOf (t i) key hs = en at *
      generalize hit : isThere (t i) key hs = it at *
      cases it with
      | false =>
        obtain ⟨o1, o2⟩ := HB.out rfl
        rw [eR rfl] at cF HN
        rw [up_self] at HN
        clear HA HE HB eR hF
        go_wp2_with (go_at_call 58; refine cF.mono ?_; rintro e w2 ⟨rfl, hs2⟩; have HN2 := Lib.hid ((HN.out _ hs2).read (new_block w2 (.cells #[.int .u64 (en.key : Nat), .int .u64 (en.val : Nat), .int .u64 (en.hash : Nat)] 43))); clear hs2 cF HN)
        go_roundw
        case rel => exact ⟨j + 1, by omega, by simp, Lib.hid ⟨o1, by rw [o2]; exact HN2.out⟩⟩
        case measure => simp [intOf]; omega
      | true =>
        obtain ⟨e1, e2⟩ := HA.out rfl
        obtain ⟨e3, e4⟩ := HE.out rfl
        have hlr := hF.rs.lt
        clear HA HE HB eR hF
        go_wp2_with (go_at_call 58; refine cF.mono ?_; rintro e w2 ⟨rfl, hs2⟩; have hD2 := HN.out _ hs2; have hr2 := hD2.rs.keep (new_block w2 (.cells #[.int .u64 (en.key : Nat), .int .u64 (en.val : Nat), .int .u64 (en.hash : Nat)] 43)); have hE2 := EBox.new en.key en.val en.hash w2; have y0 := hE2.c0; have y1 := hE2.c1; have y2 := hE2.c2; have x0 := hr2.c0; have x1 := hr2.c1; have x2 := hr2.c2; have x3 := hr2.fz; have hz := hs2.ln.past.size; have hnx : w2.heap.size ≠ w.heap.size + 1 := (by omega); have HD2 := Lib.hid (hD2.read (new_block w2 (.cells #[.int .u64 (en.key : Nat), .int .u64 (en.val : Nat), .int .u64 (en.hash : Nat)] 43))); clear hD2 hr2)
        refine bodyPost_ret (v := .tuple #[group.entV en.key en.val en.hash, .bool true]) (by simp [results, Tryz.results16, go_sem, x0, x1, x2]) rfl ⟨by rw [e1, e3]; rfl, ?_, ?_⟩
        · rw [e4]
          refine HD2.out.re.past (((Past.refl [w.heap.size + 1] _).store (.inl (by simp)) _).store (.inl (by simp)) _ |>.store (.inl (by simp)) _) fun b hb => ?_
          obtain rfl : b = w.heap.size + 1 := by simpa using hb
          exact ⟨by have := HZ.out; omega, fun e => by have := htl _ e; omega⟩
        · rw [e2]
          exact ((HD2.out.ln.newset hlt (by simp) _).newset hlt (by simp) _).newset hlt (by simp) _
    · obtain rfl : j = J.length := by omega
      obtain ⟨hoff, hF⟩ := HF.out
      rw [List.take_length] at hoff hF
      have hrs := hF.rs
      have x0 := hrs.c0
      have x1 := hrs.c1
      have x2 := hrs.c2
      have x3 := hrs.fz
      have e1 := fnd_off hoff
      have e3 : fndE t key hs J = ⟨1, 0, 0, 0⟩ := by unfold fndE; rw [e1]
      have HF2 := Lib.hid hF
      clear hrs hoff HF hF
      go_wp2
      refine bodyPost_ret (v := .tuple #[group.entV 0 0 0, .bool false]) (by simp [results, Tryz.results16, go_sem, x0, x1, x2]) rfl ⟨by rw [e1, e3]; rfl, ?_, ?_⟩
      · rw [del_off e1]
        refine HF2.out.re.past (((Past.refl [w.heap.size + 1] _).store (.inl (by simp)) _).store (.inl (by simp)) _ |>.store (.inl (by simp)) _) fun b hb => ?_
        obtain rfl : b = w.heap.size + 1 := by simpa using hb
        exact ⟨by have := HZ.out; omega, fun e => by have := htl _ e; omega⟩
      · exact ((HF2.out.ln.newset hlt (by simp) _).newset hlt (by simp) _).newset hlt (by simp) _
end Go.Proofs.YteedbnoefnlidaaGreatDoor.dual
