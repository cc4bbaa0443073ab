/- TableSpots2: several texts in one: plain facts and laws for the walks. No program is named. -/
import Derived.Test.YtplhgcidegngiaaGreatDoorTableOps
import Derived.Test.YtplhgcidegngiaaGreatDoorTableRefC
import Derived.LoopTactic
import Derived.Test.YtplhgcidegngiaaGreatDoorTableAlive
import Derived.Deep.CutRange
import Derived.Deep.CutBlock

/-! ### table: Take, Scan. -/
namespace Go.Proofs.YtplhgcidegngiaaGreatDoor.table
open Go.ChangeShapes Go.WideShapes Go.ChangeAt Go.RowKit Go.Shelf swar under trap meter group probe lens tail call
attribute [local go_sem] Oper.semAt_some stage.pureUpon move.stepUpon
set_option linter.unusedSimpArgs false
set_option linter.unusedVariables false

set_option maxRecDepth 20000 in
theorem scan_off {ae : String → Addr} {T B : Nat} {t : Tb} {L : Ln} {m : Mt} {w : World} (h : Ready ae T B t L m w) (i : Int) (hi : i < 0 ∨ (t.n : Int) ≤ i) :
    Calls Tryz.prog 47 #[.pointer (some ⟨T, 0, none⟩), .agg #[.pointer L.p], .int .i64 i] w fun e w' => e = .returned (.tuple #[.slice none 0 0, errAt ae 1]) ∧ Below w.heap.size w w' := by
  have hb := new_block w (.cells #[.pointer L.p] 60)
  have c := look_row_off T B t.n i hi L _ (keepc hb h.at'.row) _ (keepc hb h.errs.two.range)
  have he : errAt ae 1 = errs.errV (ae "ambler/api.ErrRange") := rfl
  rw [he]
  clear hi he h
  go_enter Tryz.func47, Tryz.ntmps47
  go_wp2_with (go_at_call 32; refine c.mono ?_; rintro e w1 ⟨rfl, hb1⟩)
  go_ret2
  exact ⟨rfl, under.below_step (under.below_step hb hb1) (new_block _ _)⟩
set_option maxRecDepth 20000 in
theorem scan_rd {ae : String → Addr} {T B : Nat} {t : Tb} {L : Ln} {m : Mt} {w : World} (h : Ready ae T B t L m w) (i : Nat) (hi : i < t.n) :
    Calls Tryz.prog 47 #[.pointer (some ⟨T, 0, none⟩), .agg #[.pointer L.p], .int .i64 i] w fun e w' => ∃ v, e = .returned (.tuple #[v, .nilIface]) ∧ Kept w.heap.size w' v (t.gs i) (fulls (t.gs i)) ∧ LnStep [] L (L.one m) w w' := by
  have hb := new_block w (.cells #[.pointer L.p] 60)
  have c := look_row T B t.n i hi L m _ (keepc hb h.at'.row) (h.ln.below hb) h.apart.t
  have HH := Lib.hid (h.below hb)
  have HL := Lib.hid (LnStep.of [] h.ln hb)
  have cE := fun W (hr : Ready ae T B t L (L.one m) W) => entries_any B (i * 25) (t.gs i) (hr.ok.gs i) W (hr.at'.gs i hi) hr.bits
  clear h
  go_enter Tryz.func47, Tryz.ntmps47
  go_wp2_with (first
    | (go_at_call 32; refine c.mono ?_; rintro e w1 ⟨rfl, hs1⟩; have hR1 := HH.out.look hs1; have hb2 := new_block w1 (.cells #[.pointer (some ⟨B, i * 25, none⟩)] 74); have hR2 := hR1.below hb2)
    | (go_at_call 59; (with_reducible refine (cE _ hR2).mono ?_); rintro e w3 ⟨v, rfl, hK, hb3⟩))
  go_ret2
  have hz := ((HL.out.trans hs1).below hb2).past.size
  exact ⟨_, rfl, by
    refine ⟨hK.1, ?_⟩
    rcases hK.2 with h2 | ⟨g, cap, cur, h1, h2, h3⟩
    · exact .inl h2
    · exact .inr ⟨g, cap, cur, h1, by omega, h3⟩, (((HL.out.trans hs1).below hb2).below hb3)⟩
theorem past_fresh {dd d : List Nat} {x y z : World} (h : Past dd x y) (k : Past d y z) (hd : ∀ b ∈ d, x.heap.size ≤ b) : Past dd x z := by
  have q := (h.mono (d' := dd ++ d) fun b hb => List.mem_append_left _ hb).trans (k.mono (d' := dd ++ d) fun b hb => List.mem_append_right _ hb)
  exact ⟨q.os, q.tape, q.output, q.size, fun b hb hn => q.block b hb fun e => by
    rcases List.mem_append.1 e with e | e
    · exact hn e
    · have := hd b e; omega⟩
theorem Ready.past {ae : String → Addr} {T B : Nat} {t : Tb} {L : Ln} {m : Mt} {w W : World} {d : List Nat} (h : Ready ae T B t L m w) (hp : Past d w W) (hT : T ∉ d) (hB : B ∉ d) (hL : ∀ b ∈ L.d, b ∉ d) (hf : Far d) : Ready ae T B t L m W :=
  ⟨h.at'.past hp hT hB, h.ok, h.ln.past hp hL, h.apart, tab_past h.bits hp hf, h.far, h.ft, h.fb, h.errs.past hp hf⟩
theorem past_grown {w w' : World} {row : Option Nat} (h : w.grownBy w' row) : Past row.toList w w' := ⟨h.os, h.tape, h.output, h.size, fun k hk hn => h.block k hk fun e => hn (by rw [← e]; simp)⟩
/-- within Take: the view's box V; the list so far -/
structure TkI (ae : String → Addr) (w : World) (T B : Nat) (t : Tb) (L : Ln) (m : Mt) (i V j : Nat) (v : Value) (W : World) : Prop where
  rd : Ready ae T B (tk t i j) L m W
  tl : TL T B (tk t i j) L m w W
  row : Kept w.heap.size W v (t.gs i) ((List.range j).filter (is 3 (t.gs i)))
  vt : W.heap[V]? = some (.cells #[.pointer (some ⟨B, i * 25, none⟩)] 74 (0, 0))
  hV : w.heap.size ≤ V
  hd : ∀ b ∈ [T, B], b < w.heap.size
section
variable {ae : String → Addr} {w : World} {T B : Nat} {t : Tb} {L : Ln} {m : Mt} {i V j : Nat} {v : Value} {W W' : World}
theorem TkI.ltV (s : TkI ae w T B t L m i V j v W) : V < W.heap.size := (Array.getElem?_eq_some_iff.1 s.vt).1
theorem TkI.vw (s : TkI ae w T B t L m i V j v W) : W.cell? ⟨V, 0, none⟩ = some (.pointer (some ⟨B, i * 25, none⟩)) := by rw [cell_of_row _ _ _ _ _ _ s.vt]; rfl
theorem TkI.keep (s : TkI ae w T B t L m i V j v W) (hb : Below W.heap.size W W') : TkI ae w T B t L m i V j v W' :=
  ⟨s.rd.below hb, s.tl.below hb, row_below s.row hb, (hb.block V s.ltV).trans s.vt, s.hV, s.hd⟩
/-- the list has grown -/
theorem TkI.grown {v' : Value} {n : Nat} {xs : List Value} (s : TkI ae w T B t L m i V j v W) (hL : ∀ b ∈ L.d, b < w.heap.size) (hVr : v.ownBlock ≠ some V) (hg : W.grownBy W' v.ownBlock) (hr : W'.ownsRow w.heap.size 86 3 v' n xs) :
    Ready ae T B (tk t i j) L m W' ∧ TL T B (tk t i j) L m w W' ∧ W'.heap[V]? = some (.cells #[.pointer (some ⟨B, i * 25, none⟩)] 74 (0, 0)) ∧ V < W'.heap.size := by
  have hp := past_grown hg
  have hge : ∀ b ∈ v.ownBlock.toList, w.heap.size ≤ b := fun b hb => (World.ownsRow.lt (w := W) s.row b (by simpa using hb)).1
  have nT : T ∉ v.ownBlock.toList := fun e => by have := hge T e; have := s.hd T (by simp); omega
  have nB : B ∉ v.ownBlock.toList := fun e => by have := hge B e; have := s.hd B (by simp); omega
  have nL : ∀ b ∈ L.d, b ∉ v.ownBlock.toList := fun b hb e => by have := hge b e; have := hL b hb; omega
  have hf : Far v.ownBlock.toList := fun b hb => by have := hge b hb; have := s.hd T (by simp); have := s.rd.ft; omega
  have q := LnStep.of_past s.rd.ln hp nL
  exact ⟨s.rd.past hp nT nB nL hf, ⟨s.rd.at'.past hp nT nB, ⟨past_fresh s.tl.ln.past hp hge, s.tl.ln.side.trans q.side, q.at'⟩⟩, (hp.block V s.ltV (by simpa using hVr)).trans s.vt, Nat.lt_of_lt_of_le s.ltV hp.size⟩
end
end Go.Proofs.YtplhgcidegngiaaGreatDoor.table

/-! ### table: the table and the document's table, side by side; what is done with a spot (amblerlaw09.spot). -/
namespace Go.Proofs.YtplhgcidegngiaaGreatDoor.table
open Go.ChangeShapes Go.WideShapes Go.ChangeAt Go.RowKit Go.Shelf swar under trap meter group probe lens tail call
attribute [local go_sem] Oper.semAt_some stage.pureUpon move.stepUpon
set_option linter.unusedSimpArgs false
set_option linter.unusedVariables false

/-- the blocks that are written to -/
def Dn (T B : Nat) (L : Ln) (f : Rf) (n : Nat) : List Nat := [T, B] ++ L.d ++ f.d n
section
variable {w0 : World} {ae : String → Addr} {T B : Nat} {L : Ln} {m m' : Mt} {t t' u u' : Tb} {f : Rf} {k k' : Nat} {W W' : World}
end
/-! ### Place that refuses -/
/-! ### spot -/
/-- the arguments' boxes: the spot, the entry, the act -/
structure SpB (X T B key h a b v : Nat) (kd ky nn : Int) (W : World) : Prop where
  s : SBox X T B key h a b W
  e : EBox (X + 1) key v h W
  c0 : W.cell? ⟨X + 2, 0, none⟩ = some (.int .i64 kd)
  c1 : W.cell? ⟨X + 2, 1, none⟩ = some (.int .i64 ky)
  c2 : W.cell? ⟨X + 2, 2, none⟩ = some (.int .i64 nn)
section
variable {X T B key h a b v : Nat} {kd ky nn : Int} {W W' : World}
theorem SpB.keep (s : SpB X T B key h a b v kd ky nn W) (hb : Below W.heap.size W W') : SpB X T B key h a b v kd ky nn W' := ⟨s.s.keep hb, s.e.keep hb, keepc hb s.c0, keepc hb s.c1, keepc hb s.c2⟩
theorem SpB.past {d : List Nat} (s : SpB X T B key h a b v kd ky nn W) (hp : Past d W W') (hd : ∀ x ∈ d, x < X) : SpB X T B key h a b v kd ky nn W' := by
  have n0 : X ∉ d := fun e => by have := hd X e; omega
  have n1 : X + 1 ∉ d := fun e => by have := hd _ e; omega
  have n2 : X + 2 ∉ d := fun e => by have := hd _ e; omega
  exact ⟨s.s.past hp n0, s.e.past hp n1, hp.cell s.c0 n2, hp.cell s.c1 n2, hp.cell s.c2 n2⟩
theorem SpB.past' {d : List Nat} (s : SpB X T B key h a b v kd ky nn W) (hp : Past d W W') (n0 : X ∉ d) (n1 : X + 1 ∉ d) (n2 : X + 2 ∉ d) : SpB X T B key h a b v kd ky nn W' :=
  ⟨s.s.past hp n0, s.e.past hp n1, hp.cell s.c0 n2, hp.cell s.c1 n2, hp.cell s.c2 n2⟩
end
theorem three_new (w : World) (o1 o2 o3 : Obj) : Below w.heap.size w (((w.alloc o1).alloc o2).alloc o3) := under.below_step (two_new w o1 o2) (new_block _ o3)
section
variable {w0 : World} {ae : String → Addr} {T B : Nat} {L : Ln} {m m' : Mt} {t t' u u' : Tb} {f : Rf} {k k' N X key h a b v : Nat} {kd ky nn : Int} {w W W' : World}
end
end Go.Proofs.YtplhgcidegngiaaGreatDoor.table

/-! ### TableSpots -/
namespace Go.Proofs.YtplhgcidegngiaaGreatDoor.table
open Go.ChangeShapes Go.WideShapes Go.ChangeAt Go.RowKit Go.Shelf swar under trap meter group probe lens tail call
attribute [local go_sem] Oper.semAt_some stage.pureUpon move.stepUpon
set_option linter.unusedSimpArgs false
set_option linter.unusedVariables false

end Go.Proofs.YtplhgcidegngiaaGreatDoor.table
