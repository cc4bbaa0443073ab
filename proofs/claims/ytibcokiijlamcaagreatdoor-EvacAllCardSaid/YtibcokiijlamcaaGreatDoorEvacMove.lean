/- evac: move, Step. -/
import Derived.Test.YtibcokiijlamcaaGreatDoorEvacStep
import Derived.LoopTactic
namespace Go.Proofs.YtibcokiijlamcaaGreatDoor.evac
open Go.ChangeShapes Go.WideShapes Go.ChangeAt Go.RowKit Go.Shelf swar under trap meter group probe lens tail call table
attribute [local go_sem] Oper.semAt_some stage.pureUpon stage.callUpon move.stepUpon
set_option linter.unusedSimpArgs false
set_option linter.unusedVariables false

/-- while entries are taken out of the old table again -/
structure LvI (a : String → Addr) (w0 w : World) (Y : Lay) (l : List Sl) (V d next b Bm X : Nat) (oo : Option Addr) (W : World) : Prop where
  r : ∃ t m, Real a w0 Y t W ∧ MAt Bm 0 m W
  e : EvAt V Y d next W
  li : ListAt b oo l W
  x : W.cell? ⟨X, 0, none⟩ = some (.pointer (some ⟨Bm, 2, none⟩))
  past : Past (Bm :: Y.tall) w W
theorem LvI.go {a : String → Addr} {w0 w : World} {Y : Lay} {l : List Sl} {V d next b Bm X : Nat} {oo : Option Addr} {W W' : World} (h : LvI a w0 w Y l V d next b Bm X oo W) (hb : ∀ x ∈ Bm :: Y.tall, x < b) (nV : V ∉ Bm :: Y.tall) (nX : X ∉ Bm :: Y.tall) {t : Nat → Tb} {m : Mt} (hr : Real a w0 Y t W') (hm : MAt Bm 0 m W') (hp : Past (Bm :: Y.tall) W W') : LvI a w0 w Y l V d next b Bm X oo W' :=
  ⟨⟨t, m, hr, hm⟩, h.e.past hp nV, list_past h.li hp hb, hp.cell h.x nX, h.past.trans hp⟩
theorem LvI.read {a : String → Addr} {w0 w : World} {Y : Lay} {l : List Sl} {V d next b Bm X : Nat} {oo : Option Addr} {W W' : World} (h : LvI a w0 w Y l V d next b Bm X oo W) (hb : Below W.heap.size W W') : LvI a w0 w Y l V d next b Bm X oo W' := by
  obtain ⟨t, m, h1, h2⟩ := h.r
  exact ⟨⟨t, m, h1.read hb, h2.below hb⟩, h.e.keep hb, h.li.read hb, keepc hb h.x, h.past.trans (Past.of hb)⟩
set_option maxRecDepth 100000 in
set_option maxHeartbeats 1000000 in
theorem leave_any (V : Nat) (a : String → Addr) (w0 : World) (Y : Lay) (t : Nat → Tb) (h0 : 0 < Y.N) (d next Bm : Nat) (m : Mt) (l : List Sl) (hl8 : l.length ≤ 8) (hlok : ∀ s ∈ l, s.Ok) (b c : Nat) (oo : Option Addr) (w : World) (hE : EvAt V Y d next w) (h : Real a w0 Y t w) (hm : MAt Bm 0 m w) (hB0 : w0.heap.size ≤ Bm) (ho : Bm ∉ Y.tall) (nV : V ∉ Bm :: Y.tall) (hL : ListAt b oo l w) (hb : ∀ x ∈ Bm :: Y.tall, x < b) :
    Calls Tryz.prog 72 #[.pointer (some ⟨V, 0, none⟩), .agg #[.pointer (some ⟨Bm, 2, none⟩)], .slice oo l.length c] w fun e w' => e = .returned (.tuple #[]) ∧ Past (Bm :: Y.tall) w w' ∧ ∃ t m, Real a w0 Y t w' ∧ MAt Bm 0 m w' := by
  have hlm : ∀ x ∈ Bm :: Y.tall, x < w.heap.size := fun x hx => by
    rcases List.mem_cons.1 hx with rfl | hx
    · exact hm.lt
    · exact h.lt x hx
  have nX : w.heap.size ∉ Bm :: Y.tall := fun e => by have := hlm _ e; omega
  have hb1 := new_block w (.cells #[.pointer (some ⟨Bm, 2, none⟩)] 66)
  have HI := Lib.hid (show LvI a w0 w Y l V d next b Bm w.heap.size oo (w.alloc (.cells #[.pointer (some ⟨Bm, 2, none⟩)] 66)) from ⟨⟨t, m, h.read hb1, hm.below hb1⟩, hE.keep hb1, hL.read hb1, newc w _ _, Past.of hb1⟩)
  clear hE h hm hL hlm hb1
  go_enter Tryz.func72, Tryz.ntmps72
  go_wp2_with (fail)
  generalize w.alloc (.cells #[.pointer (some ⟨Bm, 2, none⟩)] 66) = w1 at *
  generalize w.heap.size = X at *
  go_loopw [10] (fun i wr => ∃ j : Nat, j ≤ l.length ∧ i = .int .i64 j ∧ Hid (LvI a w0 w Y l V d next b Bm X oo wr)) (fun i _ => l.length - (intOf i).toNat)
  case atStart => exact ⟨0, by omega, rfl, HI⟩
  case round =>
    obtain ⟨j, hj, rfl, HR⟩ := hrel
    clear HI
    rcases Nat.lt_or_ge j l.length with hjl | hjl
    · have hji : (j : Int) < (l.length : Int) := by omega
      obtain ⟨x, rfl, hxb, hc0, hc1, hc2⟩ := HR.out.li j hjl
      have hs := hlok _ (List.getElem_mem hjl)
      generalize l[j] = en at *
      obtain ⟨_, hkey, hval, hhash, _⟩ := hs
      have hb5 := new_block wr (.cells #[.int .u64 (en.key : Nat), .int .u64 (en.val : Nat), .int .u64 (en.hash : Nat)] 60)
      have hV := EBox.new en.key en.val en.hash wr
      have HR5 := Lib.hid (HR.out.read hb5)
      have y0 := Under.cell hV.c0
      have y2 := Under.cell hV.c2
      go_wp2
      generalize wr.alloc (.cells #[.int .u64 (en.key : Nat), .int .u64 (en.val : Nat), .int .u64 (en.hash : Nat)] 60) = w7 at *
      obtain ⟨t5, m5, hr5, hm5⟩ := HR5.out.r
      have cD := fun (q : Under w7) => vdelete_any (hr5.read q.below) h0 (hm5.below q.below) hB0 ho en.key en.hash hkey hhash
      have ye := Under.cell HR5.out.e.c0
      have yx := Under.cell HR5.out.x
      clear hr5 hm5
      refine one.wp_region_one 9 _ (by kernel_rfl) (by kernel_rfl) rfl ?_
      simp only [List.take_succ_cons, List.take_zero, List.drop_succ_cons, List.drop_zero]
      repeat (quiet_step (fail))
      refine wpQuiet_nil ?_
      intro y Kc hKc
      have cDy := cD y
      have HRy := Lib.hid (HR5.out.read y.below)
      clear y0 y2 ye yx cD hV hb5
      generalize y.W = w8 at *
      go_simp
      refine cDy.mono ?_
      rintro e w9 ⟨v9, t9, m9, rfl, hr9, hm9, hp9⟩
      go_simp
      refine hKc _ _ ?_
      clear hKc Kc cDy
      repeat (quiet_step (fail))
      refine wpQuiet_nil ?_
      intro y3
      have HX := Lib.hid ((HRy.out.go hb nV nX hr9 hm9 hp9).read y3.below)
      clear hr9 hm9 hp9
      generalize y3.W = w10 at *
      go_wp2
      go_roundw
      case rel => exact ⟨j + 1, by omega, by simp, HX⟩
      case measure => simp [intOf]; omega
    · obtain rfl : j = l.length := by omega
      go_wp2
      go_end0
      exact ⟨rfl, HR.out.past, HR.out.r⟩
/-- while entries are put into their targets -/
structure MvI (a : String → Addr) (w0 w : World) (Y : Lay) (t : Nat → Tb) (l : List Sl) (V d next b Bm X : Nat) (mm : Mt) (oo : Option Addr) (j : Nat) (W : World) : Prop where
  m : Real a w0 Y (mvs Y.N d t (l.take j)) W
  e : EvAt V Y d next W
  mt : MAt Bm 0 (msee mm (lkc Y.N d t (l.take j))) W
  li : ListAt b oo l W
  x : W.cell? ⟨X, 0, none⟩ = some (.pointer (some ⟨Bm, 2, none⟩))
  past : Past (Bm :: Y.tall) w W
  hb : ∀ x ∈ Bm :: Y.tall, x < b
  nV : V ∉ Bm :: Y.tall
  nX : X ∉ Bm :: Y.tall
  g : goods Y.N d t (l.take j) = true
section
variable {a : String → Addr} {w0 w : World} {Y : Lay} {t : Nat → Tb} {l : List Sl} {V d nx b Bm X : Nat} {mm : Mt} {oo : Option Addr} {j : Nat} {W W' : World}
theorem MvI.read (h : MvI a w0 w Y t l V d nx b Bm X mm oo j W) (hb : Below W.heap.size W W') : MvI a w0 w Y t l V d nx b Bm X mm oo j W' :=
  ⟨h.m.read hb, h.e.keep hb, h.mt.below hb, h.li.read hb, keepc hb h.x, h.past.trans (Past.of hb), h.hb, h.nV, h.nX, h.g⟩
theorem MvI.next (h : MvI a w0 w Y t l V d nx b Bm X mm oo j W) (hj : j < l.length)
    (hg : good1 Y.N d (mvs Y.N d t (l.take j)) l[j] = true) (hm : Real a w0 Y (mv1 Y.N d (mvs Y.N d t (l.take j)) l[j]) W') (hmt : MAt Bm 0 (msee (msee mm (lkc Y.N d t (l.take j))) (looks (mvs Y.N d t (l.take j) (tgt Y.N d l[j].hash)) l[j].key l[j].hash)) W') (hp : Past (Bm :: Y.tall) W W') : MvI a w0 w Y t l V d nx b Bm X mm oo (j + 1) W' := by
  refine ⟨?_, h.e.past hp h.nV, ?_, list_past h.li hp h.hb, hp.cell h.x h.nX, h.past.trans hp, h.hb, h.nV, h.nX, ?_⟩
  · rw [take_next l hj, mvs_snoc]; exact hm
  · rw [take_next l hj, lkc_snoc, msee_add]; exact hmt
  · rw [take_next l hj, goods_snoc, h.g, hg]; rfl
end
set_option maxRecDepth 100000 in
set_option maxHeartbeats 1000000 in
theorem move_any (V : Nat) (a : String → Addr) (w0 : World) (Y : Lay) (t : Nat → Tb) (hN : Y.N = 2 ∨ Y.N = 3) (d nx next Bm : Nat) (m : Mt) (hd : d ≤ 15) (hn : next < Y.n 0) (w : World) (hE : EvAt V Y d nx w) (h : Real a w0 Y t w) (hm : MAt Bm 0 m w) (hB0 : w0.heap.size ≤ Bm) (ho : Bm ∉ Y.tall) (nV : V ∉ Bm :: Y.tall) :
    Calls Tryz.prog 40 #[.pointer (some ⟨V, 0, none⟩), .agg #[.pointer (some ⟨Bm, 2, none⟩)], .int .i64 next] w fun e w' =>
      (goods Y.N d t (lst t next) = true ∧ e = .returned (.tuple #[]) ∧ Real a w0 Y (tak (mvs Y.N d t (lst t next)) next) w' ∧ MAt Bm 0 (msee (m.visits 1) (lkc Y.N d t (lst t next))) w' ∧ Past (Bm :: Y.tall) w w') ∨
      (goods Y.N d t (lst t next) = false ∧ e = .panicked (thrown (raisedV (a "ambler/api.ErrBroken"))) ∧ Past (Bm :: Y.tall) w w' ∧ ∃ t', Real a w0 Y t' w') := by
  have h0 : 0 < Y.N := by omega
  have hn64 : Y.n 0 ≤ 64 := by rw [← h.tn 0 h0]; exact okN_le (h.ok 0 h0).n
  have hlm : ∀ x ∈ Bm :: Y.tall, x < w.heap.size := fun x hx => by
    rcases List.mem_cons.1 hx with rfl | hx
    · exact hm.lt
    · exact h.lt x hx
  have nX : w.heap.size ∉ Bm :: Y.tall := fun e => by have := hlm _ e; omega
  have hb1 := new_block w (.cells #[.pointer (some ⟨Bm, 2, none⟩)] 66)
  have hz1 := World.size_alloc w (.cells #[.pointer (some ⟨Bm, 2, none⟩)] 66)
  have hX := newc w (.pointer (some ⟨Bm, 2, none⟩)) 66
  have hE1 := hE.keep hb1
  have h1 := h.read hb1
  have hm1 := hm.below hb1
  have hlok := lst_ok (h.ok 0 h0) next
  have hl8 := lst_length t next
  have hbr := fun W (hb : Below w0.heap.size w0 W) => keepc (hb.mono (Nat.le_refl _)) h.base.broken
  have HBR := Lib.hid hbr
  have hnew : ∀ k ∈ Bm :: Y.tall, w0.heap.size ≤ k := fun k hk => by
    rcases List.mem_cons.1 hk with rfl | hk
    · exact hB0
    · exact h.new k hk
  generalize hl : lst t next = l at *
  clear hE h hm hbr
  go_enter Tryz.func40, Tryz.ntmps40
  go_wp2_with (fail)
  have y0 := Under.cell hE1.c0
  have yx := Under.cell hX
  have cS := fun (q : Under (w.alloc (.cells #[.pointer (some ⟨Bm, 2, none⟩)] 66))) => vscan_any (h1.read q.below) h0 (hm1.below q.below) hB0 ho next hn
  rw [hl] at cS
  generalize w.alloc (.cells #[.pointer (some ⟨Bm, 2, none⟩)] 66) = w1 at *
  refine one.wp_region_one 6 _ (by kernel_rfl) (by kernel_rfl) rfl ?_
  simp only [List.take_succ_cons, List.take_zero, List.drop_succ_cons, List.drop_zero]
  repeat (quiet_step (fail))
  refine wpQuiet_nil ?_
  intro y Kc hKc
  have cSy := cS y
  have hby := y.below
  have hE2 := hE1.keep hby
  have hX2 := keepc hby hX
  have hz2 := hby.size
  clear y0 yx cS h1 hm1 hE1 hX
  generalize y.W = w2 at *
  clear y
  go_simp
  refine cSy.mono ?_
  rintro e w3 ⟨oo, co, rfl, hco, hL, hR3, hm3, hp3⟩
  go_simp
  refine hKc _ _ ?_
  clear hKc Kc cSy
  have cM := fun (v : Value) (q : Under w3) => must_ents v q.W
  repeat (quiet_step ((go_at_call 70; (with_reducible refine under_same (cM _ _)))))
  refine wpQuiet_nil ?_
  intro y2
  have hby2 := y2.below
  have pm : Past (Bm :: Y.tall) w2 w3 := hp3.mono fun b hb => by
    obtain rfl : b = Bm := by simpa using hb
    exact List.mem_cons_self
  have HI := Lib.hid (show MvI a w0 w Y t l V d nx w2.heap.size Bm w.heap.size (m.visits 1) oo 0 y2.W from
    ⟨hR3.read hby2, (hE2.past pm nV).keep hby2, hm3.below hby2, hL.read hby2, keepc hby2 (pm.cell hX2 nX), ((Past.of (under.below_step hb1 hby)).trans pm).trans (Past.of hby2), fun x hx => by have := hlm x hx; omega, nV, nX, rfl⟩)
  clear hL hR3 hm3 hp3 pm cM hE2 hX2 hby hby2 hb1 nX hlm nV
  generalize y2.W = w4 at *
  clear y2
  generalize w2.heap.size = b at *
  generalize w.heap.size = X at *
  clear hz1 hz2
  go_wp2_with (fail)
  go_loopw [21] (fun i wr => ∃ j : Nat, j ≤ l.length ∧ i = .int .i64 j ∧ Hid (MvI a w0 w Y t l V d nx b Bm X (m.visits 1) oo j wr)) (fun i _ => l.length - (intOf i).toNat)
  case atStart => exact ⟨0, by omega, rfl, HI⟩
  case round =>
    obtain ⟨j, hj, rfl, HR⟩ := hrel
    clear HI
    rcases Nat.lt_or_ge j l.length with hjl | hjl
    · have hji : (j : Int) < (l.length : Int) := by omega
      obtain ⟨x, rfl, hxb, hc0, hc1, hc2⟩ := HR.out.li j hjl
      have hs := hlok _ (List.getElem_mem hjl)
      have HN := Lib.hid (fun (W V' : World) (hr : MvI a w0 w Y t l V d nx b Bm X (m.visits 1) (some x) j W) hg hm hmt hp => MvI.next (W' := V') hr hjl hg hm hmt hp)
      have HF := Lib.hid (fun hg => goods_no (N := Y.N) (d := d) (u := t) hjl hg)
      have HV := Lib.hid (show ∀ s ∈ l.take j, s.Ok from fun s hs' => hlok s (List.mem_of_mem_take hs'))
      generalize l[j] = en at *
      have hb5 := new_block wr (.cells #[.int .u64 (en.key : Nat), .int .u64 (en.val : Nat), .int .u64 (en.hash : Nat)] 60)
      have hV := EBox.new en.key en.val en.hash wr
      have HR5 := Lib.hid (HR.out.read hb5)
      have cP := place_any V a w0 Y _ hN d nx Bm _ hd en hs _ HR5.out.e HR5.out.m HR5.out.mt hB0 ho HR5.out.nV
      have yx := HR5.out.x
      have y0 := hV.c0
      have y1 := hV.c1
      have y2 := hV.c2
      generalize hgb : good1 Y.N d (mvs Y.N d t (l.take j)) en = gb at *
      have hE7 := HR5.out.e
      have HL7 := HR5.out.li
      have HP7 := HR5.out.past
      have hb7 := HR5.out.hb
      have nV7 := HR5.out.nV
      have nX7 := HR5.out.nX
      cases gb with
      | false =>
        have hjc : j ≤ co := by omega
        clear hV HN
        go_wp2_with (go_at_call 71; refine cP.mono ?_; rintro e w8 ⟨rfl, hr8, hmt8, hp8⟩)
        rw [if_neg (by simp)] at hr8
        have hE8 := hE7.past hp8 nV7
        have yx8 := hp8.cell yx nX7
        have hL8 : ListAt b (some x) (l.take j) w8 := fun i hi => by
          have hi' : i < l.length := by rw [List.length_take] at hi; omega
          have := list_past HL7 hp8 hb7 i hi'
          rw [List.getElem_take]; exact this
        have hlt : (l.take j).length = j := by rw [List.length_take]; omega
        have HBW := Lib.hid hr8.bel
        have cL := fun (q : Under w8) => leave_any V a w0 Y _ h0 d nx Bm _ (l.take j) (by omega) HV.out b co (some x) q.W (hE8.keep q.below) (hr8.read q.below) (hmt8.below q.below) hB0 ho nV7 (hL8.read q.below) hb7
        rw [hlt] at cL
        have yu := Under.cell yx8
        have HP8 := Lib.hid (HP7.trans hp8)
        clear cP hE8 hL8 hr8 hmt8 HL7 hE7 HP7 hp8 yx yx8 y0 y1 y2 hb5 hji
        have hjn : ¬ ((j : Int) < 0) := by omega
        have hjc' : (j : Int) ≤ (co : Int) := by omega
        refine one.wp_region_one 5 _ (by kernel_rfl) (by kernel_rfl) rfl ?_
        simp only [List.take_succ_cons, List.take_zero, List.drop_succ_cons, List.drop_zero]
        repeat (quiet_step (fail))
        refine wpQuiet_nil ?_
        intro y Kc hKc
        have cLy := cL y
        have hby := y.below
        have HBy := Lib.hid (under.below_step HBW.out hby)
        have HPy := Lib.hid (HP8.out.trans (Past.of hby))
        clear yu cL hjn hjc'
        generalize y.W = w9 at *
        go_simp
        refine cLy.mono ?_
        rintro e w10 ⟨rfl, hp10, t10, m10, hr10, _⟩
        go_simp
        refine hKc _ _ ?_
        clear hKc Kc cLy
        repeat (quiet_step (fail))
        refine wpQuiet_nil ?_
        intro y3
        have hb10 := under.below_step (HBy.out.trans (hp10.below HBy.out.size hnew)) y3.below
        have hp11 := (HPy.out.trans hp10).trans (Past.of y3.below)
        have hbr := HBR.out _ hb10
        have HP := Lib.hid hp11
        have HRX := Lib.hid (show ∃ t', Real a w0 Y t' y3.W from ⟨t10, hr10.read y3.below⟩)
        clear hb10 hp11 hp10 hby hr10
        generalize y3.W = w12 at *
        go_wp2_with (go_at_call 68; refine (raise_err _ _).mono ?_; rintro e w11 ⟨rfl, rfl⟩)
        exact ⟨rfl, .inr ⟨HF.out (by simp), rfl, HP.out, HRX.out⟩⟩
      | true =>
        have HP7 := Lib.hid HP7
        clear HV hE7 HL7 nV7 nX7 hb7
        go_wp2_with (go_at_call 71; refine cP.mono ?_; rintro e w8 ⟨rfl, hr8, hmt8, hp8⟩)
        rw [if_pos (by simp)] at hr8
        have HY := Lib.hid (HN.out _ _ HR5.out (by simp) hr8 hmt8 hp8)
        clear cP hr8 hmt8 hp8 HN HF hV yx y0 y1 y2 hb5 HP7
        go_wp2
        go_roundw
        case rel => exact ⟨j + 1, by omega, by simp, HY⟩
        case measure => simp [intOf]; omega
    · obtain rfl : j = l.length := by omega
      have hm := HR.out.m
      have hg := HR.out.g
      have hmt := HR.out.mt
      rw [List.take_length] at hm hg hmt
      have cT := ntake_any hm h0 next hn
      have c0 := HR.out.e.c0
      have cM := fun (v : Value) (W : World) => must_ents v W
      have HG := Lib.hid (And.intro hg (And.intro hmt HR.out.past))
      clear hm hg hmt
      go_wp2_with (first
        | (go_at_call 73; refine cT.mono ?_; rintro e w8 ⟨v8, rfl, hr8, hp8⟩)
        | (go_at_call 70; refine (cM _ _).mono ?_; rintro e w9 ⟨rfl, rfl⟩))
      go_end0
      exact .inl ⟨HG.out.1, rfl, hr8, HG.out.2.1.past hp8 ho, HG.out.2.2.trans (hp8.mono fun b hb => List.mem_cons_of_mem _ hb)⟩
set_option maxRecDepth 20000 in
theorem step_off (V : Nat) (Y : Lay) (d : Nat) (h64 : Y.n 0 ≤ 64) (v : Option Addr) (w : World) (hE : EvAt V Y d (Y.n 0) w) :
    Calls Tryz.prog 12 #[.pointer (some ⟨V, 0, none⟩), .pointer v] w fun e w' => e = .returned (.bool false) ∧ Below w.heap.size w w' := by
  have cL := left_any V Y d (Y.n 0) (Nat.le_refl _) h64 w hE
  rw [Nat.sub_self] at cL
  clear hE
  go_enter Tryz.func12, Tryz.ntmps12
  go_wp2_with (go_at_call 15; refine cL.mono ?_; rintro e w1 ⟨rfl, hb1⟩)
  go_ret
  exact ⟨rfl, hb1⟩
set_option maxRecDepth 100000 in
set_option maxHeartbeats 1000000 in
theorem step_on (V : Nat) (a : String → Addr) (w0 : World) (Y : Lay) (t : Nat → Tb) (hN : Y.N = 2 ∨ Y.N = 3) (d next Bm : Nat) (m : Mt) (hd : d ≤ 15) (hn : next < Y.n 0) (hok : m.Ok) (hu : m.unitE 1 = 0) (w : World) (hE : EvAt V Y d next w) (h : Real a w0 Y t w) (hm : MAt Bm 0 m w) (hB0 : w0.heap.size ≤ Bm) (ho : Bm ∉ Y.tall) (hV0 : w0.heap.size ≤ V) (nV : V ∉ Bm :: Y.tall) :
    Calls Tryz.prog 12 #[.pointer (some ⟨V, 0, none⟩), .pointer (some ⟨Bm, 0, none⟩)] w fun e w' =>
      (goods Y.N d t (lst t next) = true ∧ e = .returned (.bool true) ∧ Real a w0 Y (tak (mvs Y.N d t (lst t next)) next) w' ∧ EvAt V Y d (next + 1) w' ∧ MAt Bm 0 (msee ((m.unit 1).visits 1) (lkc Y.N d t (lst t next))) w' ∧ Past (V :: Bm :: Y.tall) w w') ∨
      (goods Y.N d t (lst t next) = false ∧ e = .panicked (thrown (raisedV (a "ambler/api.ErrBroken"))) ∧ Past (V :: Bm :: Y.tall) w w' ∧ ∃ t', Real a w0 Y t' w') := by
  have h0 : 0 < Y.N := by omega
  have hn64 : Y.n 0 ≤ 64 := by rw [← h.tn 0 h0]; exact okN_le (h.ok 0 h0).n
  have d1 : (((Y.n 0 - next : Nat) : Int) == 0) = false := beq_eq_false_iff_ne.2 (by omega)
  have d1' : ((Y.n 0 - next : Nat) == 0) = false := beq_eq_false_iff_ne.2 (by omega)
  have cL := left_any V Y d next (by omega) hn64 w hE
  have cU := fun W (hb : Below w.heap.size w W) => unit_any a Bm 0 m hok 1 W (hm.below hb) (keepc (under.below_step h.bel hb |>.mono (Nat.le_refl _)) h.base.limit)
  rw [hu] at cU
  have HM := Lib.hid (And.intro h (And.intro hE hm))
  have nVB : V ≠ Bm := fun e => nV (by rw [e]; exact List.mem_cons_self)
  have nVt : V ∉ Y.tall := fun e => nV (List.mem_cons_of_mem _ e)
  clear hE h hm
  generalize m.unit 1 = m1 at *
  generalize hl : lst t next = l at *
  go_enter Tryz.func12, Tryz.ntmps12
  go_wp2_with (first
    | (go_at_call 15; refine cL.mono ?_; rintro e w1 ⟨rfl, hb1⟩)
    | (go_at_call 39; refine (cU _ hb1).mono ?_; rintro e w2 ⟨he, hs2⟩; obtain rfl := ends_zero he; clear he))
  clear cL cU d1 d1'
  have hp2 := (Past.of (d := [Bm]) hb1).trans hs2.past
  have hE2 := HM.out.2.1.past hp2 (by simpa using nVB)
  have hM2 := HM.out.1.past hp2 (fun b hb => by
    obtain rfl : b = Bm := by simpa using hb
    exact ⟨hB0, ho⟩)
  have hm2 := hs2.at'
  clear hs2 hb1
  have y2 := Under.cell hE2.c2
  have cV := fun (q : Under w2) => move_any V a w0 Y t hN d next next Bm m1 hd hn q.W (hE2.keep q.below) (hM2.read q.below) (hm2.below q.below) hB0 ho nV
  rw [hl] at cV
  have HE2 := Lib.hid hE2
  clear hE2 hM2 hm2
  refine one.wp_region_one 7 _ (by kernel_rfl) (by kernel_rfl) rfl ?_
  simp only [List.take_succ_cons, List.take_zero, List.drop_succ_cons, List.drop_zero]
  repeat (quiet_step ((go_at_call 41; (with_reducible refine under_call (working_any _ _ _)))))
  refine wpQuiet_nil ?_
  intro y Kc hKc
  have cVy := cV y
  have hby := y.below
  have HPy := Lib.hid (hp2.trans (Past.of hby))
  have HE3 := Lib.hid (HE2.out.keep hby)
  clear y2 cV hp2 HE2
  generalize y.W = w3 at *
  clear hby
  go_simp
  refine cVy.mono ?_
  have up1 : ∀ {x z : World}, Past [Bm] x z → Past (V :: Bm :: Y.tall) x z := fun hp => hp.mono fun b hb => by
    obtain rfl : b = Bm := by simpa using hb
    exact List.mem_cons_of_mem _ List.mem_cons_self
  have up2 : ∀ {x z : World}, Past (Bm :: Y.tall) x z → Past (V :: Bm :: Y.tall) x z := fun hp => hp.mono fun b hb => List.mem_cons_of_mem _ hb
  rintro e w4 (⟨hg, rfl, hr4, hm4, hp4⟩ | ⟨hg, rfl, hp4, hrx⟩)
  · go_simp
    refine hKc _ _ ?_
    clear hKc Kc cVy
    repeat (quiet_step (fail))
    refine wpQuiet_nil ?_
    intro y2
    have hb5 := y2.below
    have hE5 := (HE3.out.past hp4 nV).keep hb5
    have hr5 := hr4.read hb5
    have hm5 := hm4.below hb5
    have hp5 := ((up1 HPy.out).trans (up2 hp4)).trans (Past.of hb5)
    clear hr4 hm4 hp4 hb5
    generalize y2.W = w5 at *
    have z2 := hE5.c2
    have zf := hE5.fz
    have ew : IntKind.i64.wrap ((next : Int) + 1) = (next : Int) + 1 := IntWalk.i64_in _ (by omega)
    have hE6 : EvAt V Y d (next + 1) (w5.setCell ⟨V, 2, none⟩ (.int .i64 ((next : Int) + 1))) := by
      have := hE5.set2 (next + 1)
      rwa [show ((next + 1 : Nat) : Int) = (next : Int) + 1 by omega] at this
    have hp6 := (Past.refl [V] w5).store (p := ⟨V, 2, none⟩) (.inl (by simp)) (.int .i64 ((next : Int) + 1))
    have HF := Lib.hid (show Real a w0 Y _ _ ∧ EvAt V Y d (next + 1) _ ∧ MAt Bm 0 _ _ ∧ Past (V :: Bm :: Y.tall) w _ from
      ⟨hr5.past hp6 (fun b hb => by
        obtain rfl : b = V := by simpa using hb
        exact ⟨hV0, nVt⟩), hE6, hm5.past hp6 (by simpa using Ne.symm nVB), hp5.trans (hp6.mono fun b hb => by
        obtain rfl : b = V := by simpa using hb
        exact List.mem_cons_self)⟩)
    clear hE5 hr5 hm5 hp5 hE6 hp6
    go_wp2
    go_ret
    exact .inl ⟨hg, rfl, HF.out⟩
  · have HP := Lib.hid ((up1 HPy.out).trans (up2 hp4))
    clear hKc cVy hp4
    go_simp
    exact ⟨rfl, .inr ⟨hg, rfl, HP.out, hrx⟩⟩
end Go.Proofs.YtibcokiijlamcaaGreatDoor.evac
