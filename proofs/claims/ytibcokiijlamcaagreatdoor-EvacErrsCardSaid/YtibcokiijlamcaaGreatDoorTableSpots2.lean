/- TableSpots2: several texts in one: plain facts and laws for the walks. No program is named. -/
import Derived.Test.YtibcokiijlamcaaGreatDoorTabSeek
import Derived.Test.YtibcokiijlamcaaGreatDoorTabRef
import Derived.LoopTactic
import Derived.Test.YtibcokiijlamcaaGreatDoorTabNew
import Derived.Deep.CutRange
import Derived.Deep.CutBlock

/-! ### table: Take, Scan. -/
namespace Go.Proofs.YtibcokiijlamcaaGreatDoor.table
open Go.ChangeShapes Go.WideShapes Go.ChangeAt Go.RowKit Go.Shelf swar under trap meter group probe lens tail call
attribute [local go_sem] Oper.semAt_some stage.pureUpon move.stepUpon
set_option linter.unusedSimpArgs false
set_option linter.unusedVariables false

set_option maxRecDepth 20000 in
theorem scan_off {ae : String → Addr} {T B : Nat} {t : Tb} {L : Ln} {m : Mt} {w : World} (h : Ready ae T B t L m w) (i : Int) (hi : i < 0 ∨ (t.n : Int) ≤ i) :
    Calls Tryz.prog 29 #[.pointer (some ⟨T, 0, none⟩), .agg #[.pointer L.p], .int .i64 i] w fun e w' => e = .returned (.tuple #[.slice none 0 0, errAt ae 1]) ∧ Below w.heap.size w w' := by
  have hb := new_block w (.cells #[.pointer L.p] 66)
  have c := look_row_off T B t.n i hi L _ (keepc hb h.at'.row) _ (keepc hb h.errs.two.range)
  have he : errAt ae 1 = errs.errV (ae "ambler/api.ErrRange") := rfl
  rw [he]
  clear hi he h
  go_enter Tryz.func29, Tryz.ntmps29
  go_wp2_with (go_at_call 56; refine c.mono ?_; rintro e w1 ⟨rfl, hb1⟩)
  go_ret2
  exact ⟨rfl, under.below_step (under.below_step hb hb1) (new_block _ _)⟩
set_option maxRecDepth 20000 in
theorem scan_rd {ae : String → Addr} {T B : Nat} {t : Tb} {L : Ln} {m : Mt} {w : World} (h : Ready ae T B t L m w) (i : Nat) (hi : i < t.n) :
    Calls Tryz.prog 29 #[.pointer (some ⟨T, 0, none⟩), .agg #[.pointer L.p], .int .i64 i] w fun e w' => ∃ v, e = .returned (.tuple #[v, .nilIface]) ∧ Kept w.heap.size w' v (t.gs i) (fulls (t.gs i)) ∧ LnStep [] L (L.one m) w w' := by
  have hb := new_block w (.cells #[.pointer L.p] 66)
  have c := look_row T B t.n i hi L m _ (keepc hb h.at'.row) (h.ln.below hb) h.apart.t
  have HH := Lib.hid (h.below hb)
  have HL := Lib.hid (LnStep.of [] h.ln hb)
  have cE := fun W (hr : Ready ae T B t L (L.one m) W) => entries_any B (i * 25) (t.gs i) (hr.ok.gs i) W (hr.at'.gs i hi) hr.bits
  clear h
  go_enter Tryz.func29, Tryz.ntmps29
  go_wp2_with (first
    | (go_at_call 56; refine c.mono ?_; rintro e w1 ⟨rfl, hs1⟩; have hR1 := HH.out.look hs1; have hb2 := new_block w1 (.cells #[.pointer (some ⟨B, i * 25, none⟩)] 109); have hR2 := hR1.below hb2)
    | (go_at_call 57; (with_reducible refine (cE _ hR2).mono ?_); rintro e w3 ⟨v, rfl, hK, hb3⟩))
  go_ret2
  have hz := ((HL.out.trans hs1).below hb2).past.size
  exact ⟨_, rfl, by
    refine ⟨hK.1, ?_⟩
    rcases hK.2 with h2 | ⟨g, cap, cur, h1, h2, h3⟩
    · exact .inl h2
    · exact .inr ⟨g, cap, cur, h1, by omega, h3⟩, (((HL.out.trans hs1).below hb2).below hb3)⟩
set_option maxRecDepth 20000 in
theorem take_off {ae : String → Addr} {T B : Nat} {t : Tb} {L : Ln} {m : Mt} {w : World} (h : Ready ae T B t L m w) (i : Int) (hi : i < 0 ∨ (t.n : Int) ≤ i) :
    Calls Tryz.prog 73 #[.pointer (some ⟨T, 0, none⟩), .agg #[.pointer L.p], .int .i64 i] w fun e w' => e = .returned (.tuple #[.slice none 0 0, errAt ae 1]) ∧ Below w.heap.size w w' := by
  have hb := new_block w (.cells #[.pointer L.p] 66)
  have c := look_row_off T B t.n i hi L _ (keepc hb h.at'.row) _ (keepc hb h.errs.two.range)
  have he : errAt ae 1 = errs.errV (ae "ambler/api.ErrRange") := rfl
  rw [he]
  clear hi he h
  go_enter Tryz.func73, Tryz.ntmps73
  go_wp2_with (go_at_call 56; refine c.mono ?_; rintro e w1 ⟨rfl, hb1⟩)
  go_ret2
  exact ⟨rfl, under.below_step (under.below_step hb hb1) (new_block _ _)⟩
theorem past_fresh {dd d : List Nat} {x y z : World} (h : Past dd x y) (k : Past d y z) (hd : ∀ b ∈ d, x.heap.size ≤ b) : Past dd x z := by
  have q := (h.mono (d' := dd ++ d) fun b hb => List.mem_append_left _ hb).trans (k.mono (d' := dd ++ d) fun b hb => List.mem_append_right _ hb)
  exact ⟨q.os, q.tape, q.output, q.size, fun b hb hn => q.block b hb fun e => by
    rcases List.mem_append.1 e with e | e
    · exact hn e
    · have := hd b e; omega⟩
theorem Ready.past {ae : String → Addr} {T B : Nat} {t : Tb} {L : Ln} {m : Mt} {w W : World} {d : List Nat} (h : Ready ae T B t L m w) (hp : Past d w W) (hT : T ∉ d) (hB : B ∉ d) (hL : ∀ b ∈ L.d, b ∉ d) (hf : Far d) : Ready ae T B t L m W :=
  ⟨h.at'.past hp hT hB, h.ok, h.ln.past hp hL, h.apart, tab_past h.bits hp hf, h.far, h.ft, h.fb, h.errs.past hp hf⟩
theorem past_grown {w w' : World} {row : Option Nat} (h : w.grownBy w' row) : Past row.toList w w' := ⟨h.os, h.tape, h.output, h.size, fun k hk hn => h.block k hk fun e => hn (by rw [← e]; simp)⟩
/-- within Take: the view's box V; the list so far -/
structure TkI (ae : String → Addr) (w : World) (T B : Nat) (t : Tb) (L : Ln) (m : Mt) (i V j : Nat) (v : Value) (W : World) : Prop where
  rd : Ready ae T B (tk t i j) L m W
  tl : TL T B (tk t i j) L m w W
  row : Kept w.heap.size W v (t.gs i) ((List.range j).filter (is 3 (t.gs i)))
  vt : W.heap[V]? = some (.cells #[.pointer (some ⟨B, i * 25, none⟩)] 109 (0, 0))
  hV : w.heap.size ≤ V
  hd : ∀ b ∈ [T, B], b < w.heap.size
section
variable {ae : String → Addr} {w : World} {T B : Nat} {t : Tb} {L : Ln} {m : Mt} {i V j : Nat} {v : Value} {W W' : World}
theorem TkI.ltV (s : TkI ae w T B t L m i V j v W) : V < W.heap.size := (Array.getElem?_eq_some_iff.1 s.vt).1
theorem TkI.vw (s : TkI ae w T B t L m i V j v W) : W.cell? ⟨V, 0, none⟩ = some (.pointer (some ⟨B, i * 25, none⟩)) := by rw [cell_of_row _ _ _ _ _ _ s.vt]; rfl
theorem TkI.keep (s : TkI ae w T B t L m i V j v W) (hb : Below W.heap.size W W') : TkI ae w T B t L m i V j v W' :=
  ⟨s.rd.below hb, s.tl.below hb, row_below s.row hb, (hb.block V s.ltV).trans s.vt, s.hV, s.hd⟩
/-- the list has grown -/
theorem TkI.grown {v' : Value} {n : Nat} {xs : List Value} (s : TkI ae w T B t L m i V j v W) (hL : ∀ b ∈ L.d, b < w.heap.size) (hVr : v.ownBlock ≠ some V) (hg : W.grownBy W' v.ownBlock) (hr : W'.ownsRow w.heap.size 60 3 v' n xs) :
    Ready ae T B (tk t i j) L m W' ∧ TL T B (tk t i j) L m w W' ∧ W'.heap[V]? = some (.cells #[.pointer (some ⟨B, i * 25, none⟩)] 109 (0, 0)) ∧ V < W'.heap.size := by
  have hp := past_grown hg
  have hge : ∀ b ∈ v.ownBlock.toList, w.heap.size ≤ b := fun b hb => (World.ownsRow.lt (w := W) s.row b (by simpa using hb)).1
  have nT : T ∉ v.ownBlock.toList := fun e => by have := hge T e; have := s.hd T (by simp); omega
  have nB : B ∉ v.ownBlock.toList := fun e => by have := hge B e; have := s.hd B (by simp); omega
  have nL : ∀ b ∈ L.d, b ∉ v.ownBlock.toList := fun b hb e => by have := hge b e; have := hL b hb; omega
  have hf : Far v.ownBlock.toList := fun b hb => by have := hge b hb; have := s.hd T (by simp); have := s.rd.ft; omega
  have q := LnStep.of_past s.rd.ln hp nL
  exact ⟨s.rd.past hp nT nB nL hf, ⟨s.rd.at'.past hp nT nB, ⟨past_fresh s.tl.ln.past hp hge, s.tl.ln.side.trans q.side, q.at'⟩⟩, (hp.block V s.ltV (by simpa using hVr)).trans s.vt, Nat.lt_of_lt_of_le s.ltV hp.size⟩
end
set_option maxRecDepth 20000 in
set_option maxHeartbeats 2000000 in
theorem take_in {ae : String → Addr} {T B : Nat} {t : Tb} {L : Ln} {m : Mt} {w : World} (h : Ready ae T B t L m w) (i : Nat) (hi : i < t.n) :
    Calls Tryz.prog 73 #[.pointer (some ⟨T, 0, none⟩), .agg #[.pointer L.p], .int .i64 i] w fun e w' => ∃ v, e = .returned (.tuple #[v, .nilIface]) ∧ Kept w.heap.size w' v (t.gs i) (fulls (t.gs i)) ∧ TL T B (tk t i 8) L (L.one m) w w' := by
  obtain ⟨i0, hi0, hq0, hq1, hq2⟩ := info_parts infoEnt
  have hb := new_block w (.cells #[.pointer L.p] 66)
  have c := look_row T B t.n i hi L m _ (keepc hb h.at'.row) (h.ln.below hb) h.apart.t
  have HH := Lib.hid h
  have HL := Lib.hid (TL.of h.at' h.ln hb)
  have HB := Lib.hid hb
  have hdw : ∀ b ∈ [T, B], b < w.heap.size := fun b hb => by
    rcases List.mem_cons.1 hb with rfl | hb
    · exact h.at'.lt
    · obtain rfl : b = B := by simpa using hb
      exact h.at'.lb
  have HD := Lib.hid hdw
  have HLd := Lib.hid h.ln.lt
  clear h hb hdw
  go_enter Tryz.func73, Tryz.ntmps73
  go_wp2_with (go_at_call 56; refine c.mono ?_; rintro e w1 ⟨rfl, hs1⟩)
  have hR1 := (HH.out.below HB.out).look hs1
  have hT1 := HL.out.trans (TL.look (HH.out.below HB.out).at' HH.out.apart hs1)
  have hb2 := new_block w1 (.cells #[.pointer (some ⟨B, i * 25, none⟩)] 109)
  have hz1 := hT1.ln.past.size
  have HI := Lib.hid (show TkI ae w T B t L (L.one m) i w1.heap.size 0 (.slice none 0 0) (w1.alloc (.cells #[.pointer (some ⟨B, i * 25, none⟩)] 109)) from ⟨hR1.below hb2, hT1.below hb2, ⟨rfl, .inl ⟨rfl, rfl⟩⟩, World.alloc_heap_new w1 _, hz1, HD.out⟩)
  clear hR1 hT1 hb2 hs1 c HL HB
  generalize w1.alloc (.cells #[.pointer (some ⟨B, i * 25, none⟩)] 109) = W0 at HI ⊢
  generalize w1.heap.size = V at *
  go_loopw [24, 10] (fun jj v wr => ∃ j : Nat, j ≤ 8 ∧ jj = .int .i64 j ∧ Hid (TkI ae w T B t L (L.one m) i V j v wr)) (fun jj _ _ => 8 - (intOf jj).toNat)
  case atStart => exact ⟨0, by omega, rfl, HI⟩
  case round =>
    obtain ⟨j, hj, rfl, HR⟩ := hrel
    clear HI
    rcases Nat.lt_or_ge j 8 with h8 | h8
    · have h8i : (j : Int) < 8 := by omega
      have x0 := HR.out.vw
      have hnv : u10.ownBlock ≠ some V := fun e => by
        rcases HR.out.row.2 with ⟨e', _⟩ | ⟨g', c', cur, e', _, hg', _⟩
        · rw [e'] at e; cases e
        · rw [e'] at e; cases e
          have := HR.out.vt; rw [hg'] at this; cases this
      have HNV := Lib.hid hnv
      clear hnv
      have hin : i < (tk t i j).n := by rw [tk_n]; exact hi
      have cA := at_is B (i * 25) ((tk t i j).gs i) j h8 (HR.out.rd.ok.gs i) wr (HR.out.rd.at'.gs i hin) _ HR.out.rd.errs.two.state
      have hfar := tk_far t i j j (Nat.le_refl _)
      have hkd : is 3 ((tk t i j).gs i) j = is 3 (t.gs i) j := by unfold is; rw [hfar]
      rw [hkd, hfar] at cA
      have HKD := Lib.hid hkd
      have hfs := fulls_succ (t.gs i) j
      have hl := range_len (t.gs i) j
      have hrs := rows_snoc (t.gs i) ((List.range j).filter (is 3 (t.gs i))) j
      have he : ent (t.gs i j) = [.int .u64 ((t.gs i j).key : Nat), .int .u64 ((t.gs i j).val : Nat), .int .u64 ((t.gs i j).hash : Nat)] := rfl
      rw [he] at hrs
      have HFS := Lib.hid hfs
      have HRS := Lib.hid hrs
      have H3 := Lib.hid (show is 3 (t.gs i) j = true → ((tk t i j).gs i j).kind = 3 from fun h => by rw [← HKD.out] at h; unfold is at h; exact of_decide_eq_true h)
      have HG3 := Lib.hid (show ∀ b, is 3 (t.gs i) j = b → tk t i (j + 1) = if b = true then (tk t i j).era i j else tk t i j from fun b hb => by
        rw [tk_succ]
        have h3 : ((tk t i j).gs i j).kind = 3 ↔ b = true := by rw [← hb, ← HKD.out]; unfold is; rw [decide_eq_true_eq]
        by_cases hq : b = true
        · rw [if_pos hq, if_pos (h3.2 hq)]
        · rw [if_neg hq, if_neg fun e => hq (h3.1 e)])
      clear hfs hrs he hfar hkd
      generalize (t.gs i j).key = ky at *
      generalize (t.gs i j).val = vl at *
      generalize (t.gs i j).hash = hs at *
      cases hb3 : is 3 (t.gs i) j
      · rw [hb3] at cA
        have hF := HFS.out
        rw [hb3] at hF
        have HF := Lib.hid hF
        have hT := HG3.out _ hb3
        have HT := Lib.hid hT
        clear hF hT hb3 H3 HG3
        go_wp2_with (go_at_call 86; (with_reducible refine cA.mono ?_); rintro e w3 ⟨rfl, hb4⟩)
        go_roundw
        case rel =>
          have S := (HR.out.keep hb4).keep (new_block w3 (.cells #[.int .u64 (ky : Nat), .int .u64 (vl : Nat), .int .u64 (hs : Nat)] 60))
          refine ⟨j + 1, by omega, by simp, Lib.hid ⟨by rw [HT.out]; exact S.rd, by rw [HT.out]; exact S.tl, by rw [HF.out]; simpa using S.row, S.vt, S.hV, S.hd⟩⟩
        case measure => simp [intOf]; omega
      · rw [hb3] at cA
        have hF := HFS.out
        rw [hb3] at hF
        have HF := Lib.hid hF
        have HT := Lib.hid (HG3.out _ hb3)
        have h3 := H3.out hb3
        have HK := HR.out.row
        unfold group.Kept at HK
        have HK := Lib.hid HK
        have hz := HR.out.tl.ln.past.size
        clear hF hb3 H3 HG3
        go_wp2_with (first
          | (go_at_call 86; (with_reducible refine cA.mono ?_); rintro e w3 ⟨rfl, hb4⟩; have S4 := HR.out.keep hb4; have hb5 := new_block w3 (.cells #[.int .u64 (ky : Nat), .int .u64 (vl : Nat), .int .u64 (hs : Nat)] 60); have S5 := S4.keep hb5; have hb6 := new_block (w3.alloc (.cells #[.int .u64 (ky : Nat), .int .u64 (vl : Nat), .int .u64 (hs : Nat)] 60)) (.cells #[.int .u64 (ky : Nat), .int .u64 (vl : Nat), .int .u64 (hs : Nat)] 60); have S6 := S5.keep hb6; have HR6 := Lib.hid S6.row; have HN := Lib.hid (cell_three_new (w3.alloc (.cells #[.int .u64 (ky : Nat), .int .u64 (vl : Nat), .int .u64 (hs : Nat)] 60)) (.int .u64 (ky : Nat)) (.int .u64 (vl : Nat)) (.int .u64 (hs : Nat)) 60); have hz4 := hb4.size)
          | (at_builtin; refine wpList_append_own _ rfl _ _ 57 rfl w.heap.size 60 i0 (.agg #[.int .u64 0, .int .u64 0, .int .u64 0]) 3 24 Tryz.underlying57 hi0 hq0 hq1 hq2 rfl (by decide) _ _ _ rfl HR6.out ⟨w3.heap.size + 1, 0, none⟩ 1 1 [.int .u64 (ky : Nat), .int .u64 (vl : Nat), .int .u64 (hs : Nat)] rfl rfl (by have := HN.out; rw [World.size_alloc] at this; exact this) (by simp [Value.oneCell']) (by simp only [maxLen]; omega) (by omega) (by simp; omega) ?_; intro v' w7 hown' hgrow _; obtain ⟨gr7, gt7, gv7, gl7⟩ := S6.grown HLd.out HNV.out hgrow hown'; have gv8 : w7.cell? ⟨V, 0, none⟩ = some (.pointer (some ⟨B, i * 25, none⟩)) := (by rw [cell_of_row _ _ _ _ _ _ gv7]; rfl); have HO7 := Lib.hid hown'; clear hown' hgrow)
          | (go_at_call 106; (with_reducible refine (erase_at ae T B (tk t i j) gr7.ok i j hin h8 h3 _ gr7.at' gr7.errs.two).mono ?_); rintro e w8 ⟨rfl, hs8⟩))
        go_roundw
        case rel =>
          have hok : (tk t i (j + 1)).Ok := tk_ok HH.out.ok hi (j + 1) (by omega)
          have hT := HT.out
          simp only [if_true] at hT
          rw [← hT] at hs8
          refine ⟨j + 1, by omega, by simp, Lib.hid ⟨gr7.step hs8 hok, gt7.step gr7.apart hs8, ?_, (hs8.past.block V gl7 ?_).trans gv7, HR.out.hV, HR.out.hd⟩⟩
          · rw [HF.out]
            unfold group.Kept
            simp only [if_true]
            rw [HRS.out, List.length_append]
            exact row_past HO7.out hs8.past HR.out.hd
          · intro e; have := HR.out.hd V e; have := HR.out.hV; omega
        case measure => simp [intOf]; omega
    · obtain rfl : j = 8 := by omega
      go_wp2
      go_ret2
      exact ⟨_, rfl, HR.out.row, HR.out.tl⟩
end Go.Proofs.YtibcokiijlamcaaGreatDoor.table

/-! ### table: the table and the document's table, side by side; what is done with a spot (amblerlaw09.spot). -/
namespace Go.Proofs.YtibcokiijlamcaaGreatDoor.table
open Go.ChangeShapes Go.WideShapes Go.ChangeAt Go.RowKit Go.Shelf swar under trap meter group probe lens tail call
attribute [local go_sem] Oper.semAt_some stage.pureUpon move.stepUpon
set_option linter.unusedSimpArgs false
set_option linter.unusedVariables false

/-- the blocks that are written to -/
def Dn (T B : Nat) (L : Ln) (f : Rf) (n : Nat) : List Nat := [T, B] ++ L.d ++ f.d n
/-- the table holds t, its lens' meter m; the document's table u, k groups looked at; all of it is new since w0 -/
structure Two (w0 : World) (ae : String → Addr) (T B : Nat) (L : Ln) (m : Mt) (t : Tb) (f : Rf) (u : Tb) (k : Nat) (W : World) : Prop where
  rd : Ready ae T B t L m W
  wa : WAt f u k W
  n : u.n = t.n
  sep : ∀ b, b ∈ f.d t.n ∨ b = f.G → b ∉ [T, B] ++ L.d
  far : Far (f.d t.n)
  bel : Below w0.heap.size w0 W
  hD : ∀ b ∈ Dn T B L f t.n, w0.heap.size ≤ b
  gl : 17 ≤ w0.heap.size
section
variable {w0 : World} {ae : String → Addr} {T B : Nat} {L : Ln} {m m' : Mt} {t t' u u' : Tb} {f : Rf} {k k' : Nat} {W W' : World}
theorem Two.wn (s : Two w0 ae T B L m t f u k W) : f.d u.n = f.d t.n := by rw [s.n]
theorem Two.lts (s : Two w0 ae T B L m t f u k W) : ∀ b ∈ Dn T B L f t.n, b < W.heap.size := fun b hb => by
  rcases List.mem_append.1 hb with hb | hb
  · rcases List.mem_append.1 hb with hb | hb
    · rcases List.mem_cons.1 hb with rfl | hb
      · exact s.rd.at'.lt
      · obtain rfl : b = B := by simpa using hb
        exact s.rd.at'.lb
    · exact s.rd.ln.lt b hb
  · exact s.wa.lts (.inl (by rw [s.wn]; exact hb))
theorem Two.to (s : Two w0 ae T B L m t f u k W) (hp : Past (Dn T B L f t.n) W W') : Below w0.heap.size w0 W' := s.bel.trans (hp.below s.bel.size s.hD)
theorem Two.read (s : Two w0 ae T B L m t f u k W) (hb : Below W.heap.size W W') : Two w0 ae T B L m t f u k W' := ⟨s.rd.below hb, s.wa.below hb, s.n, s.sep, s.far, under.below_step s.bel hb, s.hD, s.gl⟩
theorem Two.tl (s : Two w0 ae T B L m t f u k W) (hs : TL T B t' L m' W W') (ok : t'.Ok) (hn : t'.n = t.n) : Two w0 ae T B L m' t' f u k W' ∧ Past (Dn T B L f t.n) W W' := by
  have hp : Past (Dn T B L f t.n) W W' := hs.ln.past.mono fun b hb => List.mem_append_left _ hb
  exact ⟨⟨s.rd.tl hs ok, s.wa.past hs.ln.past fun b hb => s.sep b (by rw [← s.wn]; exact hb), by rw [hn]; exact s.n, by rw [hn]; exact s.sep, by rw [hn]; exact s.far, s.to hp, by rw [hn]; exact s.hD, s.gl⟩, hp⟩
theorem Two.step (s : Two w0 ae T B L m t f u k W) (hs : TStep T B t' W W') (ok : t'.Ok) (hn : t'.n = t.n) : Two w0 ae T B L m t' f u k W' ∧ Past (Dn T B L f t.n) W W' := by
  have hp : Past (Dn T B L f t.n) W W' := hs.past.mono fun b hb => List.mem_append_left _ (List.mem_append_left _ hb)
  exact ⟨⟨s.rd.step hs ok, s.wa.past hs.past fun b hb e => s.sep b (by rw [← s.wn]; exact hb) (List.mem_append_left _ e), by rw [hn]; exact s.n, by rw [hn]; exact s.sep, by rw [hn]; exact s.far, s.to hp, by rw [hn]; exact s.hD, s.gl⟩, hp⟩
theorem Two.look (s : Two w0 ae T B L m t f u k W) (hs : LnStep [] L m' W W') : Two w0 ae T B L m' t f u k W' ∧ Past (Dn T B L f t.n) W W' := by
  have hp : Past (Dn T B L f t.n) W W' := hs.past.mono fun b hb => List.mem_append_left _ (List.mem_append_right _ (by simpa using hb))
  exact ⟨⟨s.rd.look hs, s.wa.past hs.past fun b hb e => s.sep b (by rw [← s.wn]; exact hb) (List.mem_append_right _ (by simpa using e)), s.n, s.sep, s.far, s.to hp, s.hD, s.gl⟩, hp⟩
theorem Two.ref (s : Two w0 ae T B L m t f u k W) (hs : WStep f u' k' W W') (hn : u'.n = u.n) : Two w0 ae T B L m t f u' k' W' ∧ Past (Dn T B L f t.n) W W' := by
  have hp := hs.past
  rw [hn, s.wn] at hp
  have nd : ∀ b ∈ [T, B] ++ L.d, b ∉ f.d t.n := fun b hb e => s.sep b (.inl e) hb
  have hq : Past (Dn T B L f t.n) W W' := hp.mono fun b hb => List.mem_append_right _ hb
  exact ⟨⟨s.rd.past hp (nd T (by simp)) (nd B (by simp)) (fun b hb => nd b (List.mem_append_right _ hb)) s.far, hs.at', by rw [hn]; exact s.n, s.sep, s.far, s.to hq, s.hD, s.gl⟩, hq⟩
theorem WAt.setK (h : WAt f u k W) (c : Nat) : WStep f u c W (W.setCell ⟨f.R, 1, none⟩ (.int .i64 (c : Nat))) := by
  have p : Past [f.R] W (W.setCell ⟨f.R, 1, none⟩ (.int .i64 (c : Nat))) := (Past.refl [f.R] W).store (p := ⟨f.R, 1, none⟩) (.inl (by simp)) _
  have e := heap_setCell_same W f.R 1 _ _ (.int .i64 (c : Nat)) h.row
  refine ⟨p.mono fun b hb => ?_, e, fun j hj => ?_, by simpa using h.lt, fun j hj => (h.gs j hj).past p (by simpa using h.nr j hj), h.inj, h.nr, h.ng, h.ne⟩
  · obtain rfl : b = f.R := by simpa using hb
    simp [Rf.d]
  · exact (p.cell (h.pt j hj) (by simpa using h.ne))
theorem Two.setK (s : Two w0 ae T B L m t f u k W) (c : Nat) : Two w0 ae T B L m t f u c (W.setCell ⟨f.R, 1, none⟩ (.int .i64 (c : Nat))) ∧ Past (Dn T B L f t.n) W (W.setCell ⟨f.R, 1, none⟩ (.int .i64 (c : Nat))) := s.ref (s.wa.setK c) rfl
end
/-! ### Place that refuses -/
theorem Ready.dup {ae : String → Addr} {T B : Nat} {t : Tb} {L : Ln} {m : Mt} {w : World} (h : Ready ae T B t L m w) (key hs : Nat) (hh : hs < 18446744073709551616) (ht : isThere t key hs = true) (k2 v2 h2 : Nat) :
    Calls Tryz.prog 60 #[spotV T B key hs (lastG t key hs) (roomG t key hs), group.entV k2 v2 h2] w fun e w' => e = .returned (errAt ae 16) ∧ Below w.heap.size w w' := by
  obtain ⟨k, h1, h2', h3⟩ := there_is ht
  exact place_dup ae T B t h.ok key hs _ _ k (lastG_lt t key hs h.ok.n) h1 (hit_is h3).1 hh h2' w h.at' h.bits h.errs k2 v2 h2
theorem Ready.kind {ae : String → Addr} {T B : Nat} {t : Tb} {L : Ln} {m : Mt} {w : World} (h : Ready ae T B t L m w) (key hs : Nat) (hh : hs < 18446744073709551616) (ht : isThere t key hs = false) (k2 v2 h2 : Nat) (hne : k2 ≠ key ∨ h2 ≠ hs) :
    Calls Tryz.prog 60 #[spotV T B key hs (lastG t key hs) (roomG t key hs), group.entV k2 v2 h2] w fun e w' => e = .returned (errAt ae 14) ∧ Below w.heap.size w w' :=
  place_kind ae T B t h.ok key hs _ _ (lastG_lt t key hs h.ok.n) (roomG_lt t key hs h.ok.n) hh (slot_neg ht) (room_neg h.ok.n ht) w h.at' h.bits h.errs k2 v2 h2 hne
/-! ### spot -/
/-- the arguments' boxes: the spot, the entry, the act -/
structure SpB (X T B key h a b v : Nat) (kd ky nn : Int) (W : World) : Prop where
  s : SBox X T B key h a b W
  e : EBox (X + 1) key v h W
  c0 : W.cell? ⟨X + 2, 0, none⟩ = some (.int .i64 kd)
  c1 : W.cell? ⟨X + 2, 1, none⟩ = some (.int .i64 ky)
  c2 : W.cell? ⟨X + 2, 2, none⟩ = some (.int .i64 nn)
section
variable {X T B key h a b v : Nat} {kd ky nn : Int} {W W' : World}
theorem SpB.keep (s : SpB X T B key h a b v kd ky nn W) (hb : Below W.heap.size W W') : SpB X T B key h a b v kd ky nn W' := ⟨s.s.keep hb, s.e.keep hb, keepc hb s.c0, keepc hb s.c1, keepc hb s.c2⟩
theorem SpB.past {d : List Nat} (s : SpB X T B key h a b v kd ky nn W) (hp : Past d W W') (hd : ∀ x ∈ d, x < X) : SpB X T B key h a b v kd ky nn W' := by
  have n0 : X ∉ d := fun e => by have := hd X e; omega
  have n1 : X + 1 ∉ d := fun e => by have := hd _ e; omega
  have n2 : X + 2 ∉ d := fun e => by have := hd _ e; omega
  exact ⟨s.s.past hp n0, s.e.past hp n1, hp.cell s.c0 n2, hp.cell s.c1 n2, hp.cell s.c2 n2⟩
theorem SpB.past' {d : List Nat} (s : SpB X T B key h a b v kd ky nn W) (hp : Past d W W') (n0 : X ∉ d) (n1 : X + 1 ∉ d) (n2 : X + 2 ∉ d) : SpB X T B key h a b v kd ky nn W' :=
  ⟨s.s.past hp n0, s.e.past hp n1, hp.cell s.c0 n2, hp.cell s.c1 n2, hp.cell s.c2 n2⟩
end
theorem three_new (w : World) (o1 o2 o3 : Obj) : Below w.heap.size w (((w.alloc o1).alloc o2).alloc o3) := under.below_step (two_new w o1 o2) (new_block _ o3)
/-- within spot -/
structure Sp (w0 : World) (ae : String → Addr) (T B : Nat) (L : Ln) (m : Mt) (t : Tb) (f : Rf) (u : Tb) (k : Nat) (N X key h a b v : Nat) (kd ky nn : Int) (w W : World) : Prop where
  two : Two w0 ae T B L m t f u k W
  bx : SpB X T B key h a b v kd ky nn W
  ps : Past (Dn T B L f N) w W
  n : t.n = N
  hX : w.heap.size = X
  hd : ∀ x ∈ Dn T B L f N, x < X
  hG : f.G < X
  hw : w0.heap.size ≤ X
section
variable {w0 : World} {ae : String → Addr} {T B : Nat} {L : Ln} {m m' : Mt} {t t' u u' : Tb} {f : Rf} {k k' N X key h a b v : Nat} {kd ky nn : Int} {w W W' : World}
theorem Sp.sz (s : Sp w0 ae T B L m t f u k N X key h a b v kd ky nn w W) : X + 2 < W.heap.size := World.block_lt_of_cell? W _ s.bx.c0
theorem Sp.out (s : Sp w0 ae T B L m t f u k N X key h a b v kd ky nn w W) {Y : Nat} (hY : X + 2 < Y) : Y ∉ Dn T B L f N := fun e => by have := s.hd Y e; omega
theorem Sp.keep (s : Sp w0 ae T B L m t f u k N X key h a b v kd ky nn w W) (hb : Below W.heap.size W W') : Sp w0 ae T B L m t f u k N X key h a b v kd ky nn w W' := ⟨s.two.read hb, s.bx.keep hb, s.ps.trans (Past.of hb), s.n, s.hX, s.hd, s.hG, s.hw⟩
theorem Sp.ref (s : Sp w0 ae T B L m t f u k N X key h a b v kd ky nn w W) (hs : WStep f u' k' W W') (hn : u'.n = u.n) : Sp w0 ae T B L m t f u' k' N X key h a b v kd ky nn w W' ∧ Past (Dn T B L f N) W W' := by
  obtain ⟨q1, q2⟩ := s.two.ref hs hn
  rw [s.n] at q2
  exact ⟨⟨q1, s.bx.past q2 s.hd, s.ps.trans q2, s.n, s.hX, s.hd, s.hG, s.hw⟩, q2⟩
theorem Sp.step (s : Sp w0 ae T B L m t f u k N X key h a b v kd ky nn w W) (hs : TStep T B t' W W') (ok : t'.Ok) (hn : t'.n = t.n) : Sp w0 ae T B L m t' f u k N X key h a b v kd ky nn w W' := by
  obtain ⟨q1, q2⟩ := s.two.step hs ok hn
  rw [s.n] at q2
  exact ⟨q1, s.bx.past q2 s.hd, s.ps.trans q2, hn.trans s.n, s.hX, s.hd, s.hG, s.hw⟩
theorem Sp.setK (s : Sp w0 ae T B L m t f u k N X key h a b v kd ky nn w W) (c : Nat) : Sp w0 ae T B L m t f u c N X key h a b v kd ky nn w (W.setCell ⟨f.R, 1, none⟩ (.int .i64 (c : Nat))) := (s.ref (s.two.wa.setK c) rfl).1
theorem Two.newset (s : Two w0 ae T B L m t f u k W) {X : Nat} (h0 : w0.heap.size ≤ X) (hG : X ≠ f.G) (hX : X ∉ Dn T B L f t.n) (i : Nat) (x : Value) : Two w0 ae T B L m t f u k (W.setCell ⟨X, i, none⟩ x) := by
  have p : Past [X] W (W.setCell ⟨X, i, none⟩ x) := (Past.refl [X] W).store (p := ⟨X, i, none⟩) (.inl (by simp)) _
  have e : ∀ b ∈ Dn T B L f t.n, b ∉ [X] := fun b hb e => hX (by obtain rfl : b = X := by simpa using e
                                                                 exact hb)
  have hTm : T ∈ Dn T B L f t.n := by simp [Dn]
  have hBm : B ∈ Dn T B L f t.n := by simp [Dn]
  have hft := s.rd.ft
  refine ⟨s.rd.past p (e T hTm) (e B hBm) (fun b hb => e b (by simp [Dn, hb])) (fun b hb => ?_), s.wa.past p fun b hb => ?_, s.n, s.sep, s.far, bset s.bel X i h0 x, s.hD, s.gl⟩
  · obtain rfl : b = X := by simpa using hb
    exact Nat.le_trans s.gl h0
  · rcases hb with hb | rfl
    · exact e b (by rw [s.wn] at hb; simp [Dn, hb])
    · simpa using hG.symm
theorem Sp.newset (s : Sp w0 ae T B L m t f u k N X key h a b v kd ky nn w W) {Y : Nat} (hY : X + 2 < Y) (i : Nat) (x : Value) : Sp w0 ae T B L m t f u k N X key h a b v kd ky nn w (W.setCell ⟨Y, i, none⟩ x) := by
  have p : Past [Y] W (W.setCell ⟨Y, i, none⟩ x) := (Past.refl [Y] W).store (p := ⟨Y, i, none⟩) (.inl (by simp)) _
  have hw := s.hX
  have hg := s.hG
  have h0 := s.hw
  exact ⟨s.two.newset (by omega) (by omega) (by rw [s.n]; exact s.out hY) i x, s.bx.past' p (by simp; omega) (by simp; omega) (by simp; omega), s.ps.store (p := ⟨Y, i, none⟩) (.inr (by show w.heap.size ≤ Y; omega)) x, s.n, s.hX, s.hd, s.hG, s.hw⟩
end
end Go.Proofs.YtibcokiijlamcaaGreatDoor.table

/-! ### TableSpots -/
namespace Go.Proofs.YtibcokiijlamcaaGreatDoor.table
open Go.ChangeShapes Go.WideShapes Go.ChangeAt Go.RowKit Go.Shelf swar under trap meter group probe lens tail call
attribute [local go_sem] Oper.semAt_some stage.pureUpon move.stepUpon
set_option linter.unusedSimpArgs false
set_option linter.unusedVariables false

end Go.Proofs.YtibcokiijlamcaaGreatDoor.table
