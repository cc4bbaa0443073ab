/- table: Find, Put, Delete. -/
import Derived.Test.YtplhgcidegngiaaDoorTableSeek
namespace Go.Proofs.YtplhgcidegngiaaDoor.table
open Go.ChangeShapes Go.WideShapes Go.ChangeAt Go.RowKit Go.Shelf swar under trap meter group probe lens tail call
attribute [local go_sem] Oper.semAt_some stage.pureUpon move.stepUpon
set_option linter.unusedSimpArgs false
set_option linter.unusedVariables false
/-- what the contracts ask of the world: the table, the lens' meter, the errors, the table of math/bits -/
structure Ready (ae : String → Addr) (T B : Nat) (t : Tb) (L : Ln) (m : Mt) (w : World) : Prop where
  at' : TAt T B t w
  ok : t.Ok
  ln : LnAt L m w
  apart : Apart T B L
  bits : TabOk w
  far : Far L.d
  ft : 17 ≤ T
  fb : 17 ≤ B
  errs : Errs6 ae w
theorem Ready.below {ae : String → Addr} {T B : Nat} {t : Tb} {L : Ln} {m : Mt} {w W : World} (h : Ready ae T B t L m w) (hb : Below w.heap.size w W) : Ready ae T B t L m W :=
  ⟨h.at'.below hb, h.ok, h.ln.below hb, h.apart, h.bits.below hb h.bits.lt, h.far, h.ft, h.fb, h.errs.below hb⟩
theorem Ready.look {ae : String → Addr} {T B : Nat} {t : Tb} {L : Ln} {m m' : Mt} {w W : World} (h : Ready ae T B t L m w) (hs : LnStep [] L m' w W) : Ready ae T B t L m' W :=
  ⟨h.at'.past hs.past (by simpa using h.apart.t) (by simpa using h.apart.b), h.ok, hs.at', h.apart, tab_past h.bits hs.past (by simpa using h.far), h.far, h.ft, h.fb, h.errs.past hs.past (by simpa using h.far)⟩
theorem Ready.step {ae : String → Addr} {T B : Nat} {t t' : Tb} {L : Ln} {m : Mt} {w W : World} (h : Ready ae T B t L m w) (hs : TStep T B t' w W) (ok : t'.Ok) : Ready ae T B t' L m W := by
  have hf : Far [T, B] := fun b hb => by
    rcases List.mem_cons.1 hb with rfl | hb
    · exact h.ft
    · obtain rfl : b = B := by simpa using hb
      exact h.fb
  exact ⟨hs.at', ok, h.ln.past hs.past (fun b hb => by have := h.apart b hb; simpa using this), h.apart, tab_past h.bits hs.past hf, h.far, h.ft, h.fb, h.errs.past hs.past hf⟩
theorem Ready.tl {ae : String → Addr} {T B : Nat} {t t' : Tb} {L : Ln} {m m' : Mt} {w W : World} (h : Ready ae T B t L m w) (hs : TL T B t' L m' w W) (ok : t'.Ok) : Ready ae T B t' L m' W := by
  have hf : Far ([T, B] ++ L.d) := fun b hb => by
    rcases List.mem_append.1 hb with hb | hb
    · rcases List.mem_cons.1 hb with rfl | hb
      · exact h.ft
      · obtain rfl : b = B := by simpa using hb
        exact h.fb
    · exact h.far b hb
  exact ⟨hs.at', ok, hs.ln.at', h.apart, tab_past h.bits hs.ln.past hf, h.far, h.ft, h.fb, h.errs.past hs.ln.past hf⟩
theorem Ready.seek {ae : String → Addr} {T B : Nat} {t : Tb} {L : Ln} {m : Mt} {w : World} (h : Ready ae T B t L m w) (key hs : Nat) (hk : key < 18446744073709551616) (hh : hs < 18446744073709551616) :
    Calls Tryd.prog 26 #[.pointer (some ⟨T, 0, none⟩), .agg #[.pointer L.p], .int .u64 key, .int .u64 hs] w fun e w' => e = .returned (spotV T B key hs (lastG t key hs) (roomG t key hs)) ∧ LnStep [] L (L.see m (looks t key hs)) w w' :=
  seek_any T B t h.ok key hs hk hh L m w h.at' h.ln h.apart h.bits h.far
/-- Entry of the spot of a search -/
theorem Ready.entry {ae : String → Addr} {T B : Nat} {t : Tb} {L : Ln} {m : Mt} {w : World} (h : Ready ae T B t L m w) (key hs : Nat) (hh : hs < 18446744073709551616) :
    Calls Tryd.prog 45 #[spotV T B key hs (lastG t key hs) (roomG t key hs)] w fun e w' => e = .returned (.tuple #[group.entV (entOf t key hs).key (entOf t key hs).val (entOf t key hs).hash, .bool (isThere t key hs)]) ∧ Below w.heap.size w w' := by
  cases ht : isThere t key hs
  · have h1 := slot_neg ht
    have h2 := room_none (key := key) (h := hs) h.ok.n (by rw [h1]; decide)
    have h3 : find key hs (t.gs (roomG t key hs)) = -1 := by
      rcases find_cases key hs (t.gs (roomG t key hs)) with ⟨e, _⟩ | ⟨k, _, e, _⟩
      · exact e
      · omega
    have e : entOf t key hs = ⟨1, 0, 0, 0⟩ := by unfold entOf; rw [ht]; rfl
    rw [e]
    exact entry_no T B t h.ok key hs _ _ (lastG_lt t key hs h.ok.n) (roomG_lt t key hs h.ok.n) hh h1 h3 w h.at' h.bits
  · obtain ⟨k, h1, h2, h3⟩ := there_is ht
    have e : entOf t key hs = t.gs (lastG t key hs) k := by unfold entOf; rw [ht, h2]; rfl
    rw [e]
    exact entry_yes ae T B t h.ok key hs _ _ k (lastG_lt t key hs h.ok.n) h1 (hit_is h3).1 hh h2 w h.at' h.bits h.errs.two
theorem room_neg {t : Tb} {key hs : Nat} (hn : okN t.n) (ht : isThere t key hs = false) : find key hs (t.gs (roomG t key hs)) = -1 := by
  have h2 := room_none (key := key) (h := hs) hn (by rw [slot_neg ht]; decide)
  rcases find_cases key hs (t.gs (roomG t key hs)) with ⟨e, _⟩ | ⟨k, _, e, _⟩
  · exact e
  · omega
/-- the number of Replace's and Remove's error -/
def noneE (t : Tb) (key hs : Nat) : Nat := if isThere t key hs = true then 0 else 4
theorem Ready.replace {ae : String → Addr} {T B : Nat} {t : Tb} {L : Ln} {m : Mt} {w : World} (h : Ready ae T B t L m w) (key hs v : Nat) (hh : hs < 18446744073709551616) :
    Calls Tryd.prog 27 #[spotV T B key hs (lastG t key hs) (roomG t key hs), .int .u64 v] w fun e w' => e = .returned (errAt ae (noneE t key hs)) ∧ TStep T B (t.replace key hs v) w w' := by
  cases ht : isThere t key hs
  · have e1 : t.replace key hs v = t := by unfold Tb.replace; rw [slot_neg ht, if_neg (by decide)]
    have e2 : noneE t key hs = 4 := by unfold noneE; rw [ht]; rfl
    rw [e1, e2]
    exact (replace_no ae T B t h.ok key hs _ _ v (lastG_lt t key hs h.ok.n) (roomG_lt t key hs h.ok.n) hh (slot_neg ht) (room_neg h.ok.n ht) w h.at' h.bits h.errs).mono fun e w' ⟨he, hb⟩ => ⟨he, .of h.at' hb⟩
  · obtain ⟨k, h1, h2, h3⟩ := there_is ht
    have e2 : noneE t key hs = 0 := by unfold noneE; rw [ht]; rfl
    rw [replace_at h2, e2]
    exact replace_yes ae T B t h.ok key hs _ _ k v (lastG_lt t key hs h.ok.n) h1 (hit_is h3).1 hh h2 w h.at' h.bits h.errs.two
/-- Place of a key that isn't there -/
theorem Ready.place {ae : String → Addr} {T B : Nat} {t : Tb} {L : Ln} {m : Mt} {w : World} (h : Ready ae T B t L m w) (key hs v : Nat) (hh : hs < 18446744073709551616) (ht : isThere t key hs = false) :
    Calls Tryd.prog 28 #[spotV T B key hs (lastG t key hs) (roomG t key hs), group.entV key v hs] w fun e w' => e = .returned (errAt ae (roomE t key hs)) ∧ TStep T B (t.place key hs v) w w' := by
  by_cases he : roomE t key hs = 0
  · obtain ⟨h1, k, h2, h3, h4⟩ := room_is he
    rw [place_at he h3, he]
    exact place_ok ae T B t h.ok key hs _ _ v k (lastG_lt t key hs h.ok.n) (roomG_lt t key hs h.ok.n) hh (slot_neg ht) (room_neg h.ok.n ht) (by omega) h2 h3 h4 w h.at' h.bits h.errs
  · have e2 : roomE t key hs = 2 := by
      revert he; unfold roomE; split
      · intro _; rfl
      · split
        · intro _; rfl
        · intro he; exact absurd rfl he
    have hl : t.left < 1 ∨ least (t.gs (roomG t key hs)) < 0 := by
      revert he; unfold roomE; split
      · intro _; exact .inl ‹_›
      · split
        · intro _; exact .inr ‹_›
        · intro he; exact absurd rfl he
    rw [place_no he, e2]
    exact (place_full ae T B t h.ok key hs _ _ v (lastG_lt t key hs h.ok.n) (roomG_lt t key hs h.ok.n) hh (slot_neg ht) (room_neg h.ok.n ht) hl w h.at' h.bits h.errs).mono fun e w' ⟨he, hb⟩ => ⟨he, .of h.at' hb⟩
set_option maxRecDepth 20000 in
theorem put_tab {ae : String → Addr} {T B : Nat} {t : Tb} {L : Ln} {m : Mt} {w : World} (h : Ready ae T B t L m w) (key hs v : Nat) (hk : key < 18446744073709551616) (hh : hs < 18446744073709551616) (hv : v < 18446744073709551616) :
    Calls Tryd.prog 9 #[.pointer (some ⟨T, 0, none⟩), .agg #[.pointer L.p], group.entV key v hs] w fun e w' => e = .returned (.tuple #[.bool (putB' t key hs), errAt ae (putE' t key hs)]) ∧ TL T B (t.puts key hs v) L (L.see m (looks t key hs)) w w' := by
  have HH := Lib.hid h
  have hb2 := two_new w (.cells #[.pointer L.p] 44) (.cells #[.int .u64 (key : Nat), .int .u64 (v : Nat), .int .u64 (hs : Nat)] 47)
  have c1 := (h.below hb2).seek key hs hk hh
  have hV := EBox.second key v hs w (.cells #[.pointer L.p] 44)
  have hR := fun W (hs' : LnStep [] L (L.see m (looks t key hs)) ((w.alloc (.cells #[.pointer L.p] 44)).alloc (.cells #[.int .u64 (key : Nat), .int .u64 (v : Nat), .int .u64 (hs : Nat)] 47)) W) => (HH.out.below hb2).look hs'
  have HR := Lib.hid hR
  have hT0 : TL T B t L m w ((w.alloc (.cells #[.pointer L.p] 44)).alloc (.cells #[.int .u64 (key : Nat), .int .u64 (v : Nat), .int .u64 (hs : Nat)] 47)) := .of h.at' h.ln hb2
  have hA := h.apart
  have hTlt := h.at'.lt
  have hBlt := h.at'.lb
  have hok := h.ok
  have cR := fun W (h' : Ready ae T B t L (L.see m (looks t key hs)) W) => h'.replace key hs v hh
  have HP := Lib.hid (fun W (h' : Ready ae T B t L (L.see m (looks t key hs)) W) => h'.place key hs v hh)
  clear h hR
  generalize lastG t key hs = lg at *
  generalize roomG t key hs = rg at *
  cases hit : isThere t key hs
  · have e1 : t.puts key hs v = t.place key hs v := by unfold Tb.puts; rw [hit]; rfl
    have e2 : putB' t key hs = decide (roomE t key hs = 0) := by unfold putB'; rw [hit]; rfl
    have e3 : putE' t key hs = roomE t key hs := by unfold putE'; rw [hit]; rfl
    have e4 : t.replace key hs v = t := by unfold Tb.replace; rw [slot_neg hit, if_neg (by decide)]
    have e5 : noneE t key hs = 4 := by unfold noneE; rw [hit]; rfl
    rw [e1, e2, e3]
    rw [e4, e5] at cR
    have cP := fun W h' => HP.out W h' hit
    have h02 : roomE t key hs = 0 ∨ roomE t key hs = 2 := by
      unfold roomE; split
      · exact .inr rfl
      · split
        · exact .inr rfl
        · exact .inl rfl
    generalize t.place key hs v = t' at *
    generalize L.see m (looks t key hs) = m' at *
    generalize roomE t key hs = re at *
    clear e1 e2 e3 e4 e5 HP hit
    rw [show errAt ae 4 = errs.errV (ae "ambler/api.ErrNone") from rfl] at cR
    rcases h02 with rfl | rfl
    · rw [show errAt ae 0 = .nilIface from rfl] at cP ⊢
      go_enter Tryd.func9, Tryd.ntmps9
      go_wp2_with (first
        | (go_at_call 26; refine c1.mono ?_; rintro e w1 ⟨rfl, hs1⟩; have hb3 := new_block w1 (.cells #[.pointer (some ⟨T, 0, none⟩), .int .u64 (key : Nat), .int .u64 (hs : Nat), .pointer (some ⟨B, lg * 25, none⟩), .pointer (some ⟨B, rg * 25, none⟩)] 68); have hSB := SBox.new T B key hs lg rg w1; have hV1 := (hV.past hs1.past (by simpa using HH.out.ln.nd (by omega))).keep hb3; have x0 := hV1.c0; have x1 := hV1.c1; have x2 := hV1.c2; have hL1 := (hT0.trans (TL.look hT0.at' hA hs1)).below hb3; have z1 := hs1.past.size; rw [World.size_alloc, World.size_alloc] at z1)
        | (go_at_call 27; refine (cR _ ((HR.out _ hs1).below hb3)).mono ?_; rintro e w2 ⟨rfl, hs2⟩; have hR2 := ((HR.out _ hs1).below hb3).step hs2 hok; have hL2 := hL1.step hA hs2; have hS2 := hSB.past hs2.past (by simp; omega); have hV2 := hV1.past hs2.past (by simp; omega); have y0 := hV2.c0; have y1 := hV2.c1; have y2 := hV2.c2; have u0 := hS2.c0; have u1 := hS2.c1; have u2 := hS2.c2; have u3 := hS2.c3; have u4 := hS2.c4)
        | (go_at_call 28; refine (cP _ hR2).mono ?_; rintro e w3 ⟨rfl, hs3⟩))
      go_ret2
      exact ⟨rfl, hL2.step hA hs3⟩
    · rw [show errAt ae 2 = errs.errV (ae "ambler/api.ErrFull") from rfl] at cP ⊢
      go_enter Tryd.func9, Tryd.ntmps9
      go_wp2_with (first
        | (go_at_call 26; refine c1.mono ?_; rintro e w1 ⟨rfl, hs1⟩; have hb3 := new_block w1 (.cells #[.pointer (some ⟨T, 0, none⟩), .int .u64 (key : Nat), .int .u64 (hs : Nat), .pointer (some ⟨B, lg * 25, none⟩), .pointer (some ⟨B, rg * 25, none⟩)] 68); have hSB := SBox.new T B key hs lg rg w1; have hV1 := (hV.past hs1.past (by simpa using HH.out.ln.nd (by omega))).keep hb3; have x0 := hV1.c0; have x1 := hV1.c1; have x2 := hV1.c2; have hL1 := (hT0.trans (TL.look hT0.at' hA hs1)).below hb3; have z1 := hs1.past.size; rw [World.size_alloc, World.size_alloc] at z1)
        | (go_at_call 27; refine (cR _ ((HR.out _ hs1).below hb3)).mono ?_; rintro e w2 ⟨rfl, hs2⟩; have hR2 := ((HR.out _ hs1).below hb3).step hs2 hok; have hL2 := hL1.step hA hs2; have hS2 := hSB.past hs2.past (by simp; omega); have hV2 := hV1.past hs2.past (by simp; omega); have y0 := hV2.c0; have y1 := hV2.c1; have y2 := hV2.c2; have u0 := hS2.c0; have u1 := hS2.c1; have u2 := hS2.c2; have u3 := hS2.c3; have u4 := hS2.c4)
        | (go_at_call 28; refine (cP _ hR2).mono ?_; rintro e w3 ⟨rfl, hs3⟩))
      go_ret2
      exact ⟨rfl, hL2.step hA hs3⟩
  · have e1 : t.puts key hs v = t.replace key hs v := by unfold Tb.puts; rw [hit]; rfl
    have e2 : putB' t key hs = false := by unfold putB'; rw [hit]; rfl
    have e3 : putE' t key hs = 0 := by unfold putE'; rw [hit]; rfl
    have e5 : noneE t key hs = 0 := by unfold noneE; rw [hit]; rfl
    rw [e1, e2, e3]
    rw [e5] at cR
    rw [show errAt ae 0 = .nilIface from rfl] at cR ⊢
    generalize t.replace key hs v = t' at *
    generalize L.see m (looks t key hs) = m' at *
    clear e1 e2 e3 e5 HP hit
    go_enter Tryd.func9, Tryd.ntmps9
    go_wp2_with (first
      | (go_at_call 26; refine c1.mono ?_; rintro e w1 ⟨rfl, hs1⟩; have hb3 := new_block w1 (.cells #[.pointer (some ⟨T, 0, none⟩), .int .u64 (key : Nat), .int .u64 (hs : Nat), .pointer (some ⟨B, lg * 25, none⟩), .pointer (some ⟨B, rg * 25, none⟩)] 68); have hSB := SBox.new T B key hs lg rg w1; have hV1 := (hV.past hs1.past (by simpa using HH.out.ln.nd (by omega))).keep hb3; have x0 := hV1.c0; have x1 := hV1.c1; have x2 := hV1.c2; have hL1 := (hT0.trans (TL.look hT0.at' hA hs1)).below hb3; have z1 := hs1.past.size; rw [World.size_alloc, World.size_alloc] at z1)
      | (go_at_call 27; refine (cR _ ((HR.out _ hs1).below hb3)).mono ?_; rintro e w2 ⟨rfl, hs2⟩; have hL2 := hL1.step hA hs2))
    go_ret2
    exact ⟨rfl, hL2⟩
end Go.Proofs.YtplhgcidegngiaaDoor.table
