/- table: Find, Put, Delete. -/
import Derived.Test.YtplhgcidegngiaaGreatDoorTableSeek
namespace Go.Proofs.YtplhgcidegngiaaGreatDoor.table
open Go.ChangeShapes Go.WideShapes Go.ChangeAt Go.RowKit Go.Shelf swar under trap meter group probe lens tail call
attribute [local go_sem] Oper.semAt_some stage.pureUpon move.stepUpon
set_option linter.unusedSimpArgs false
set_option linter.unusedVariables false
/-- what the contracts ask of the world: the table, the lens' meter, the errors, the table of math/bits -/
structure Ready (ae : String → Addr) (T B : Nat) (t : Tb) (L : Ln) (m : Mt) (w : World) : Prop where
  at' : TAt T B t w
  ok : t.Ok
  ln : LnAt L m w
  apart : Apart T B L
  bits : TabOk w
  far : Far L.d
  ft : 18 ≤ T
  fb : 18 ≤ B
  errs : Errs6 ae w
theorem Ready.below {ae : String → Addr} {T B : Nat} {t : Tb} {L : Ln} {m : Mt} {w W : World} (h : Ready ae T B t L m w) (hb : Below w.heap.size w W) : Ready ae T B t L m W :=
  ⟨h.at'.below hb, h.ok, h.ln.below hb, h.apart, h.bits.below hb h.bits.lt, h.far, h.ft, h.fb, h.errs.below hb⟩
theorem Ready.look {ae : String → Addr} {T B : Nat} {t : Tb} {L : Ln} {m m' : Mt} {w W : World} (h : Ready ae T B t L m w) (hs : LnStep [] L m' w W) : Ready ae T B t L m' W :=
  ⟨h.at'.past hs.past (by simpa using h.apart.t) (by simpa using h.apart.b), h.ok, hs.at', h.apart, tab_past h.bits hs.past (by simpa using h.far), h.far, h.ft, h.fb, h.errs.past hs.past (by simpa using h.far)⟩
theorem Ready.step {ae : String → Addr} {T B : Nat} {t t' : Tb} {L : Ln} {m : Mt} {w W : World} (h : Ready ae T B t L m w) (hs : TStep T B t' w W) (ok : t'.Ok) : Ready ae T B t' L m W := by
  have hf : Far [T, B] := fun b hb => by
    rcases List.mem_cons.1 hb with rfl | hb
    · exact h.ft
    · obtain rfl : b = B := by simpa using hb
      exact h.fb
  exact ⟨hs.at', ok, h.ln.past hs.past (fun b hb => by have := h.apart b hb; simpa using this), h.apart, tab_past h.bits hs.past hf, h.far, h.ft, h.fb, h.errs.past hs.past hf⟩
theorem Ready.tl {ae : String → Addr} {T B : Nat} {t t' : Tb} {L : Ln} {m m' : Mt} {w W : World} (h : Ready ae T B t L m w) (hs : TL T B t' L m' w W) (ok : t'.Ok) : Ready ae T B t' L m' W := by
  have hf : Far ([T, B] ++ L.d) := fun b hb => by
    rcases List.mem_append.1 hb with hb | hb
    · rcases List.mem_cons.1 hb with rfl | hb
      · exact h.ft
      · obtain rfl : b = B := by simpa using hb
        exact h.fb
    · exact h.far b hb
  exact ⟨hs.at', ok, hs.ln.at', h.apart, tab_past h.bits hs.ln.past hf, h.far, h.ft, h.fb, h.errs.past hs.ln.past hf⟩
theorem Ready.seek {ae : String → Addr} {T B : Nat} {t : Tb} {L : Ln} {m : Mt} {w : World} (h : Ready ae T B t L m w) (key hs : Nat) (hk : key < 18446744073709551616) (hh : hs < 18446744073709551616) :
    Calls Tryz.prog 48 #[.pointer (some ⟨T, 0, none⟩), .agg #[.pointer L.p], .int .u64 key, .int .u64 hs] w fun e w' => e = .returned (spotV T B key hs (lastG t key hs) (roomG t key hs)) ∧ LnStep [] L (L.see m (looks t key hs)) w w' :=
  seek_any T B t h.ok key hs hk hh L m w h.at' h.ln h.apart h.bits h.far
/-- Entry of the spot of a search -/
theorem Ready.entry {ae : String → Addr} {T B : Nat} {t : Tb} {L : Ln} {m : Mt} {w : World} (h : Ready ae T B t L m w) (key hs : Nat) (hh : hs < 18446744073709551616) :
    Calls Tryz.prog 49 #[spotV T B key hs (lastG t key hs) (roomG t key hs)] w fun e w' => e = .returned (.tuple #[group.entV (entOf t key hs).key (entOf t key hs).val (entOf t key hs).hash, .bool (isThere t key hs)]) ∧ Below w.heap.size w w' := by
  cases ht : isThere t key hs
  · have h1 := slot_neg ht
    have h2 := room_none (key := key) (h := hs) h.ok.n (by rw [h1]; decide)
    have h3 : find key hs (t.gs (roomG t key hs)) = -1 := by
      rcases find_cases key hs (t.gs (roomG t key hs)) with ⟨e, _⟩ | ⟨k, _, e, _⟩
      · exact e
      · omega
    have e : entOf t key hs = ⟨1, 0, 0, 0⟩ := by unfold entOf; rw [ht]; rfl
    rw [e]
    exact entry_no T B t h.ok key hs _ _ (lastG_lt t key hs h.ok.n) (roomG_lt t key hs h.ok.n) hh h1 h3 w h.at' h.bits
  · obtain ⟨k, h1, h2, h3⟩ := there_is ht
    have e : entOf t key hs = t.gs (lastG t key hs) k := by unfold entOf; rw [ht, h2]; rfl
    rw [e]
    exact entry_yes ae T B t h.ok key hs _ _ k (lastG_lt t key hs h.ok.n) h1 (hit_is h3).1 hh h2 w h.at' h.bits h.errs.two
theorem room_neg {t : Tb} {key hs : Nat} (hn : okN t.n) (ht : isThere t key hs = false) : find key hs (t.gs (roomG t key hs)) = -1 := by
  have h2 := room_none (key := key) (h := hs) hn (by rw [slot_neg ht]; decide)
  rcases find_cases key hs (t.gs (roomG t key hs)) with ⟨e, _⟩ | ⟨k, _, e, _⟩
  · exact e
  · omega
/-- the number of Replace's and Remove's error -/
def noneE (t : Tb) (key hs : Nat) : Nat := if isThere t key hs = true then 0 else 4
set_option maxRecDepth 20000 in
theorem find_tab {ae : String → Addr} {T B : Nat} {t : Tb} {L : Ln} {m : Mt} {w : World} (h : Ready ae T B t L m w) (key hs : Nat) (hk : key < 18446744073709551616) (hh : hs < 18446744073709551616) :
    Calls Tryz.prog 38 #[.pointer (some ⟨T, 0, none⟩), .agg #[.pointer L.p], .int .u64 key, .int .u64 hs] w fun e w' => e = .returned (.tuple #[group.entV (entOf t key hs).key (entOf t key hs).val (entOf t key hs).hash, .bool (isThere t key hs)]) ∧ LnStep [] L (L.see m (looks t key hs)) w w' := by
  have HH := Lib.hid h
  have hd := h.ln.lt
  have hb2 := two_new w (.cells #[.pointer L.p] 60) (.cells #[.int .u64 0, .int .u64 0, .int .u64 0] 86)
  have c1 := (h.below hb2).seek key hs hk hh
  have hV := EBox.second 0 0 0 w (.cells #[.pointer L.p] 60)
  have c2 := fun W (hs' : LnStep [] L (L.see m (looks t key hs)) ((w.alloc (.cells #[.pointer L.p] 60)).alloc (.cells #[.int .u64 0, .int .u64 0, .int .u64 0] 86)) W) => ((HH.out.below hb2).look hs').entry key hs hh
  clear h
  generalize entOf t key hs = en at *
  generalize isThere t key hs = it at *
  go_enter Tryz.func38, Tryz.ntmps38
  go_wp2_with (first
    | (go_at_call 48; refine c1.mono ?_; rintro e w1 ⟨rfl, hs1⟩)
    | (go_at_call 49; refine (c2 _ hs1).mono ?_; rintro e w2 ⟨rfl, hb3⟩; have hV2 := (hV.past hs1.past (by simpa using HH.out.ln.nd (by omega))).keep hb3; have y0 := hV2.c0; have y1 := hV2.c1; have y2 := hV2.c2; have y3 := hV2.fz))
  have hS := ((LnStep.of [] HH.out.ln hb2).trans hs1).below hb3
  exact bodyPost_ret (v := .tuple #[group.entV en.key en.val en.hash, .bool it]) (by simp [results, Tryz.results38, go_sem, y0, y1, y2]) rfl ⟨rfl, ((hS.newset hd (by simp) _).newset hd (by simp) _).newset hd (by simp) _⟩
end Go.Proofs.YtplhgcidegngiaaGreatDoor.table
