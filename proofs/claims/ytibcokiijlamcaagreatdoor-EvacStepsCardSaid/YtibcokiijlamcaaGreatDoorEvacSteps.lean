/- evac: what every step moves, and what it counts. -/
import Derived.Test.YtibcokiijlamcaaGreatDoorEvacCatch
import Derived.Test.YtibcokiijlamcaaGreatDoorMoves
import Derived.LoopTactic
namespace Go.Proofs.YtibcokiijlamcaaGreatDoor.evac
open Go.ChangeShapes Go.WideShapes Go.ChangeAt Go.RowKit Go.Shelf swar under trap meter group probe lens tail call table
attribute [local go_sem] Oper.semAt_some stage.pureUpon move.stepUpon moves.stepUpon
set_option linter.unusedSimpArgs false
set_option linter.unusedVariables false

/-- which blocks are apart -/
structure Ss (w0 : World) (Y : Lay) (V A E GE Bm Xv Xm d n0 n1 : Nat) : Prop where
  s : Sd w0 Y V A Bm d n0 n1
  oV : Out Y V
  oE : Out Y E
  oG : Out Y GE
  oB : Out Y Bm
  hE : w0.heap.size ≤ E
  nE : E ∉ V :: Bm :: Y.tall
  nG : GE ∉ V :: Bm :: Y.tall
  nV : V ∉ E :: Y.rall
  nB : Bm ∉ E :: Y.rall
  nA : A ∉ E :: Y.rall
  v1 : Xv ∉ V :: Bm :: Y.tall
  v2 : Xv ∉ E :: Y.rall
  m1 : Xm ∉ V :: Bm :: Y.tall
  m2 : Xm ∉ E :: Y.rall
/-- between two rounds -/
structure St (a : String → Addr) (w0 : World) (Y : Lay) (V A E GE cE Bm Xv Xm d next : Nat) (t : Nat → Tb) (v : Nat) (W : World) : Prop where
  hv : v ≤ 600 * next
  m : ∃ k, sumK Y.N k = v ∧ Many a w0 Y t t k W
  mt : MAt Bm 0 (Mk 0 v next) W
  ev : EvAt V Y d next W
  em : EmAt E GE cE Y d next W
  al : ∀ j, j < Y.N → W.cell? ⟨A, j, none⟩ = some (.pointer (some ⟨Y.T j, 0, none⟩))
  lA : A < W.heap.size
  cv : W.cell? ⟨Xv, 0, none⟩ = some (.pointer (some ⟨V, 0, none⟩))
  cm : W.cell? ⟨Xm, 0, none⟩ = some (.pointer (some ⟨Bm, 0, none⟩))
section
variable {a : String → Addr} {w0 : World} {Y : Lay} {V A E GE cE Bm Xv Xm d n0 n1 next v : Nat} {t : Nat → Tb} {W W' : World}
theorem St.read (h : St a w0 Y V A E GE cE Bm Xv Xm d next t v W) (hb : Below W.heap.size W W') : St a w0 Y V A E GE cE Bm Xv Xm d next t v W' := by
  obtain ⟨k, h1, h2⟩ := h.m
  exact ⟨h.hv, ⟨k, h1, h2.read hb⟩, h.mt.below hb, h.ev.keep hb, h.em.keep hb, fun j hj => (World.cell?_of_block (w := W) (hb.block A h.lA)).trans (h.al j hj), Nat.lt_of_lt_of_le h.lA hb.size, keepc hb h.cv, keepc hb h.cm⟩
theorem St.bel (h : St a w0 Y V A E GE cE Bm Xv Xm d next t v W) : Below w0.heap.size w0 W := by
  obtain ⟨k, h1, h2⟩ := h.m
  exact h2.bel
/-- behind the caught step -/
theorem St.mid (s : Ss w0 Y V A E GE Bm Xv Xm d n0 n1) (h : St a w0 Y V A E GE cE Bm Xv Xm d next t v W) {Xi : Nat} (hX : ∀ x, x ∈ A :: E :: GE :: Xv :: Xm :: (Y.rall ++ Y.tall) → x ≠ Xi) {t' : Nat → Tb} (hp : Past (Dc Y V Bm Xi) W W') (hr : Real a w0 Y t' W') :
    ∃ k, sumK Y.N k = v ∧ Many a w0 Y t' t k W' ∧ EmAt E GE cE Y d next W' ∧ (∀ j, j < Y.N → W'.cell? ⟨A, j, none⟩ = some (.pointer (some ⟨Y.T j, 0, none⟩))) ∧ A < W'.heap.size ∧ W'.cell? ⟨Xv, 0, none⟩ = some (.pointer (some ⟨V, 0, none⟩)) ∧ W'.cell? ⟨Xm, 0, none⟩ = some (.pointer (some ⟨Bm, 0, none⟩)) := by
  obtain ⟨k, h1, h2⟩ := h.m
  have no : ∀ x, x ∈ A :: E :: GE :: Xv :: Xm :: (Y.rall ++ Y.tall) → x ∉ V :: Bm :: Y.tall → x ∉ Dc Y V Bm Xi := fun x hx hn e => by
    rcases List.mem_cons.1 e with e | e
    · exact hX x hx e
    · exact hn e
  refine ⟨k, h1, Many.lift h2 hr hp fun b hb i hi e => ?_, h.em.past hp (no E (by simp) s.nE) (no GE (by simp) s.nG), fun j hj => (World.cell?_of_block (w := W) (hp.block A h.lA (no A (by simp) s.s.nA))).trans (h.al j hj), Nat.lt_of_lt_of_le h.lA hp.size, hp.cell h.cv (no Xv (by simp) s.v1), hp.cell h.cm (no Xm (by simp) s.m1)⟩
  rcases List.mem_cons.1 hb with rfl | hb
  · exact hX b (by simp only [List.mem_cons, List.mem_append]; exact .inr (.inr (.inr (.inr (.inr (.inl (Lay.rin hi e))))))) rfl
  · rcases List.mem_cons.1 hb with rfl | hb
    · exact s.oV i hi (Lay.rbs e)
    · rcases List.mem_cons.1 hb with rfl | hb
      · exact s.oB i hi (Lay.rbs e)
      · exact Many.tall_rb h2 b hb i hi e
theorem St.go (s : Ss w0 Y V A E GE Bm Xv Xm d n0 n1) {W5 W6 : World} {Xi : Nat} (hX : ∀ x, x ∈ A :: E :: GE :: Xv :: Xm :: (Y.rall ++ Y.tall) → x ≠ Xi) (hv : nxV Y.N d n0 next v t ≤ 600 * nxN n0 next) (ha : Aft a w0 Y V Bm d n0 next v t Xi W5) (al : ∀ j, j < Y.N → W5.cell? ⟨A, j, none⟩ = some (.pointer (some ⟨Y.T j, 0, none⟩))) (lA : A < W5.heap.size) (cv : W5.cell? ⟨Xv, 0, none⟩ = some (.pointer (some ⟨V, 0, none⟩))) (cm : W5.cell? ⟨Xm, 0, none⟩ = some (.pointer (some ⟨Bm, 0, none⟩)))
    (hp : Past (E :: Y.rall) W5 W6) {k' : Nat → Nat} (hk : sumK Y.N k' = nxV Y.N d n0 next v t) (hm : Many a w0 Y (nxT Y.N d n0 next t) (nxT Y.N d n0 next t) k' W6) (he : EmAt E GE cE Y d (nxN n0 next) W6) :
    St a w0 Y V A E GE cE Bm Xv Xm d (nxN n0 next) (nxT Y.N d n0 next t) (nxV Y.N d n0 next v t) W6 ∧ Var Xi (.bool (decide (next < n0))) W6 := by
  have nXi : Xi ∉ E :: Y.rall := fun e => by
    rcases List.mem_cons.1 e with e | e
    · exact hX E (by simp) e.symm
    · exact hX Xi (by simp only [List.mem_cons, List.mem_append]; exact .inr (.inr (.inr (.inr (.inr (.inl e)))))) rfl
  exact ⟨⟨hv, ⟨k', hk, hm⟩, ha.mt.past hp s.nB, ha.ev.past hp s.nV, he, fun j hj => (World.cell?_of_block (w := W5) (hp.block A lA s.nA)).trans (al j hj), Nat.lt_of_lt_of_le lA hp.size, hp.cell cv s.v2, hp.cell cm s.m2⟩, ha.is.past hp nXi⟩
theorem nxV_le (hN : Y.N = 2 ∨ Y.N = 3) (hv : v ≤ 600 * next) (hr : ∀ i, i < Y.N → (t i).n ≤ 64) : nxV Y.N d n0 next v t ≤ 600 * nxN n0 next := by
  have h1 := lkc_le Y.N d hN (lst t next) t hr
  have h2 := lst_length t next
  unfold nxV nxN
  split <;> omega
/-- a made case, a box of it, a meter, a box of that -/
theorem St.start {w3 : World} {t0 : Nat → Tb} (h : Made a w0 Y V A E GE cE d n0 n1 t0 w3) (ld : d ≤ 15) (o1 o3 : Obj)
    (c1 : (w3.alloc o1).cell? ⟨w3.heap.size, 0, none⟩ = some (.pointer (some ⟨V, 0, none⟩)))
    (c3 : ((((w3.alloc o1).alloc (.cells #[.int .i64 0, .int .i64 0, .int .i64 0, .int .i64 0, .int .i64 0, .int .i64 0, .int .i64 0, .bool false] 36))).alloc o3).cell? ⟨w3.heap.size + 1 + 1, 0, none⟩ = some (.pointer (some ⟨w3.heap.size + 1, 0, none⟩))) :
    Ss w0 Y V A E GE (w3.heap.size + 1) w3.heap.size (w3.heap.size + 1 + 1) d n0 n1 ∧ St a w0 Y V A E GE cE (w3.heap.size + 1) w3.heap.size (w3.heap.size + 1 + 1) d 0 t0 0 ((((w3.alloc o1).alloc (.cells #[.int .i64 0, .int .i64 0, .int .i64 0, .int .i64 0, .int .i64 0, .int .i64 0, .int .i64 0, .bool false] 36))).alloc o3) := by
  have hz1 := World.size_alloc w3 o1
  have b1 := new_block w3 o1
  obtain ⟨hs, hR⟩ := h.run ld b1
  rw [hz1] at hs hR
  obtain ⟨k, hm, hk0⟩ := h.m
  have lV := h.ev.lt
  have lE := h.em.lt
  have lG := h.em.lg
  have lA := h.lA
  have b2 := new_block (w3.alloc o1) (.cells #[.int .i64 0, .int .i64 0, .int .i64 0, .int .i64 0, .int .i64 0, .int .i64 0, .int .i64 0, .bool false] 36)
  have b3 := new_block ((w3.alloc o1).alloc (.cells #[.int .i64 0, .int .i64 0, .int .i64 0, .int .i64 0, .int .i64 0, .int .i64 0, .int .i64 0, .bool false] 36)) o3
  have b123 := under.below_step (under.below_step b1 b2) b3
  have lt := fun b hb => (hm.tall (b := b) hb).2
  have lr := fun b hb => (hm.rall (b := b) hb).2
  have far : ∀ x, w3.heap.size ≤ x → Out Y x := fun x hx i hi e => by have := hm.lts hi e; omega
  have nt : ∀ x, w3.heap.size ≤ x → x ∉ Y.tall := fun x hx e => by have := lt x e; omega
  have nr : ∀ x, w3.heap.size ≤ x → x ∉ Y.rall := fun x hx e => by have := lr x e; omega
  have hRR := hR.read b3
  refine ⟨⟨hs, h.oV, h.oE, h.oGE, far _ (by omega), h.hE, ?_, ?_, ?_, ?_, ?_, ?_, ?_, ?_, ?_⟩, ⟨by omega, ⟨k, ?_, hm.read b123⟩, hRR.mt, hRR.ev, h.em.keep b123, hRR.al, hRR.lA, keepc b3 (keepc b2 c1), c3⟩⟩
  · simp only [List.mem_cons, not_or]; exact ⟨Ne.symm h.nVE, by omega, h.oE.t⟩
  · simp only [List.mem_cons, not_or]; exact ⟨Ne.symm h.nVG, by omega, h.oGE.t⟩
  · simp only [List.mem_cons, not_or]; exact ⟨h.nVE, h.oV.r⟩
  · simp only [List.mem_cons, not_or]; exact ⟨by omega, nr _ (by omega)⟩
  · simp only [List.mem_cons, not_or]; exact ⟨h.nAE, h.oA.r⟩
  · simp only [List.mem_cons, not_or]; exact ⟨by omega, by omega, nt _ (by omega)⟩
  · simp only [List.mem_cons, not_or]; exact ⟨by omega, nr _ (by omega)⟩
  · simp only [List.mem_cons, not_or]; exact ⟨by omega, by omega, nt _ (by omega)⟩
  · simp only [List.mem_cons, not_or]; exact ⟨by omega, nr _ (by omega)⟩
  · rcases h.N with hN | hN
    · have q0 := hk0 0 (by omega)
      have q1 := hk0 1 (by omega)
      rw [hN]; show k 0 + k 1 = 0; omega
    · have q0 := hk0 0 (by omega)
      have q1 := hk0 1 (by omega)
      have q2 := hk0 2 (by omega)
      rw [hN]; show k 0 + k 1 + k 2 = 0; omega
end
/-! ### two texts, and whether they are the same, in one region -/
structure TS where
  a : Option (Option Addr)
  b : Option (Option Addr)
def TD (w : World) (l : List ByteArray) : TS → World → Prop := fun s W => Below w.heap.size w W ∧ (∀ o, s.a = some o → TextsAt o l W) ∧ (∀ o, s.b = some o → TextsAt o l W)
def TM (l : List ByteArray) (i1 i2 : Nat) : Nat → TS → Value → TS → Prop := fun k s v s' =>
  if k = i1 then ∃ o c, v = .slice o l.length c ∧ s' = ⟨some o, s.b⟩ else if k = i2 then ∃ o c, v = .slice o l.length c ∧ s' = ⟨s.a, some o⟩ else v = .bool true ∧ s' = s
theorem TM.some (l : List ByteArray) (i1 i2 k : Nat) (s : TS) : ∃ v s', TM l i1 i2 k s v s' := by
  unfold TM
  split
  · exact ⟨_, _, none, 0, rfl, rfl⟩
  · split
    · exact ⟨_, _, none, 0, rfl, rfl⟩
    · exact ⟨_, _, rfl, rfl⟩
set_option maxRecDepth 100000 in
set_option maxHeartbeats 1000000 in
theorem steps_long (a : String → Addr) (c : Cas) (hl : ¬ ∃ n0 n1 d, Short c n0 n1 d) (w : World) (hw : Base a w) :
    Calls Tryz.prog 3 #[.agg #[.int .i64 c.old, .int .i64 c.new, .int .i64 c.depth, .bool c.two, .slice c.sh c.lh c.ch, .slice c.sk c.lk c.ck, .slice c.sm c.lm c.cm]] w fun e w' => e = .returned (.bool true) ∧ Below w.heap.size w w' := by
  have cA := fun W (hb : Below w.heap.size w W) => alive_any a W (.of (hw.below hb))
  have hX0 := CBox.new c w
  have hb0 := new_block w (.cells #[.int .i64 c.old, .int .i64 c.new, .int .i64 c.depth, .bool c.two, .slice c.sh c.lh c.ch, .slice c.sk c.lk c.ck, .slice c.sm c.lm c.cm] 25)
  have cL := fun W => long_yes hl W
  obtain ⟨old, new, depth, two, sh, lh, ch, sk, lk, ck, sm, lm, cm⟩ := c
  simp only at *
  clear hl
  go_enter Tryz.func3, Tryz.ntmps3
  go_wp2_with (first
    | (go_at_call 7; refine (cA _ hb0).mono ?_; rintro e w1 ⟨rfl, hb1⟩; have ⟨x0, x1, x2, x3, x4, x5, x6⟩ := CBox.all (hX0.keep hb1))
    | (go_at_call 8; refine (cL _).mono ?_; rintro e w2 ⟨rfl, hb2⟩))
  go_ret
  exact ⟨rfl, under.below_step (under.below_step hb0 hb1) hb2⟩
set_option maxRecDepth 100000 in
set_option maxHeartbeats 4000000 in
theorem steps_main (a : String → Addr) (n0 n1 d : Nat) (two : Bool) (sh : Option Addr) (lh ch : Nat) (sk : Option Addr) (lk ck : Nat) (sm : Option Addr) (lm cm : Nat) (hS : Short ⟨n0, n1, d, two, sh, lh, ch, sk, lk, ck, sm, lm, cm⟩ n0 n1 d) (hz : Nat → Nat) (ks ms : Nat → Int) (w : World) (hw : Base a w) (hH : HashAt sh lh w hz) (hK : IntsAt sk lk w ks) (hM : IntsAt sm lm w ms) :
    Calls Tryz.prog 3 #[.agg #[.int .i64 (n0 : Nat), .int .i64 (n1 : Nat), .int .i64 (d : Nat), .bool two, .slice sh lh ch, .slice sk lk ck, .slice sm lm cm]] w fun e w' => e = .returned (.bool true) ∧ Below w.heap.size w w' := by
  have cA := fun W (hb : Below w.heap.size w W) => alive_any a W (.of (hw.below hb))
  have cM := fun W (hb : Below w.heap.size w W) => made_any a n0 n1 d two sh lh ch sk lk ck sm lm cm hS hz ks ms W (.of (hw.below hb)) (hH.below hb) (hK.below hb) (hM.below hb)
  have cL := fun W => long_no hS W
  have hX0 := CBox.new ⟨n0, n1, d, two, sh, lh, ch, sk, lk, ck, sm, lm, cm⟩ w
  have hb0 := new_block w (.cells #[.int .i64 (n0 : Nat), .int .i64 (n1 : Nat), .int .i64 (d : Nat), .bool two, .slice sh lh ch, .slice sk lk ck, .slice sm lm cm] 25)
  have hl0 := hS.l0
  have hld := hS.ld
  have hes := ev_some
  have hmf : ∀ (fn : Fn) (first cap : Array Value) (w : World), (Instr.makeFunc fn first cap).run Tryz.prog w = .ok (.func fn first cap) w := fun _ _ _ _ => rfl
  have HW := Lib.hid hw
  clear hS hw hH hK hM
  go_enter Tryz.func3, Tryz.ntmps3
  go_wp2_with (first
    | (go_at_call 7; refine (cA _ hb0).mono ?_; rintro e w1 ⟨rfl, hb1⟩; have hX1 := hX0.keep hb1; have ⟨x0, x1, x2, x3, x4, x5, x6⟩ := CBox.all hX1; have hb01 := under.below_step hb0 hb1; clear cA hb0 hb1 hX0)
    | (go_at_call 8; refine (cL _).mono ?_; rintro e w2 ⟨rfl, hb2⟩; have hX2 := hX1.keep hb2; have hb02 := under.below_step hb01 hb2; have ⟨z0, z1, z2, z3, z4, z5, z6⟩ := CBox.all hX2; clear cL hb2 hX1 hb01 x0 x1 x2 x3 x4 x5 x6)
    | (go_at_call 9; refine (cM _ hb02).mono ?_; rintro e w3 ⟨Y, V, A, E, GE, cA, cE, t0, rfl, hcA, htw, hMd, hRe⟩; have HZ0 := Lib.hid z0; have HMd := Lib.hid hMd; clear hMd hRe cM z0 z1 z2 z3 z4 z5 z6 hX2))
  obtain ⟨hSs, hSt⟩ := St.start HMd.out hld (.cells #[.pointer (some ⟨V, 0, none⟩)] 27) (.cells #[.pointer (some ⟨w3.heap.size + 1, 0, none⟩)] 32) (newc _ _ _) (by
    have h := newc ((w3.alloc (.cells #[.pointer (some ⟨V, 0, none⟩)] 27)).alloc (.cells #[.int .i64 0, .int .i64 0, .int .i64 0, .int .i64 0, .int .i64 0, .int .i64 0, .int .i64 0, .bool false] 36)) (.pointer (some ⟨w3.heap.size + 1, 0, none⟩)) 32
    rw [World.size_alloc, World.size_alloc] at h
    exact h)
  have HSs := Lib.hid hSs
  have HSt := Lib.hid hSt
  clear hSs hSt HMd
  generalize (((w3.alloc (.cells #[.pointer (some ⟨V, 0, none⟩)] 27)).alloc (.cells #[.int .i64 0, .int .i64 0, .int .i64 0, .int .i64 0, .int .i64 0, .int .i64 0, .int .i64 0, .bool false] 36))).alloc (.cells #[.pointer (some ⟨w3.heap.size + 1, 0, none⟩)] 32) = W0 at *
  generalize w3.heap.size + 1 + 1 = Xm at *
  generalize w3.heap.size + 1 = Bm at *
  generalize w3.heap.size = Xv at *
  obtain ⟨nt, hnt⟩ : ∃ nt, Y.N = nt + 1 := ⟨Y.N - 1, by have := HSs.out.s.N; omega⟩
  rw [hnt]
  have hnt2 : 1 ≤ nt ∧ nt ≤ 2 := by have := HSs.out.s.N; omega
  have HX := Lib.hid (fun (W : World) (h : Below w2.heap.size w2 W) => keepc h HZ0.out)
  have HB2 := Lib.hid (HW.out.below hb02)
  clear HZ0 htw hes
  go_loopw [7] (fun i wr => ∃ n : Nat, n ≤ n0 + 1 ∧ i = .int .i64 n ∧ Hid (∃ t v, St a w2 Y V A E GE cE Bm Xv Xm d (min n n0) t v wr)) (fun i _ => n0 + 1 - (intOf i).toNat)
  case atStart => exact ⟨0, by omega, rfl, Lib.hid ⟨t0, 0, by rw [Nat.zero_min]; exact HSt.out⟩⟩
  case round =>
    obtain ⟨n, hn, rfl, HR⟩ := hrel
    clear HSt
    rcases Nat.lt_or_ge n (n0 + 1) with hnl | hnl
    · have hni : decide ((n : Int) ≤ (n0 : Int)) = true := decide_eq_true (by omega)
      have hni' : decide (n ≤ n0) = true := decide_eq_true (by omega)
      have hle : n ≤ n0 := by omega
      have hmin : min n n0 = n := by omega
      obtain ⟨t, v, hS⟩ := HR.out
      rw [hmin] at hS
      clear HR
      have x0 := HX.out wr hS.bel
      have hb1 := new_block wr (.cells #[.bool false] 4)
      have hS1 := hS.read hb1
      have hXi : ∀ x, x ∈ A :: E :: GE :: Xv :: Xm :: (Y.rall ++ Y.tall) → x ≠ wr.heap.size := fun x hx e => by
        subst e
        obtain ⟨k, _, hm⟩ := hS.m
        have lA := hS.lA
        have lE := hS.em.lt
        have lG := hS.em.lg
        have lv := World.block_lt_of_cell? _ _ hS.cv
        have lm := World.block_lt_of_cell? _ _ hS.cm
        simp only [List.mem_cons, List.mem_append] at hx
        rcases hx with h | h | h | h | h | h | h
        · omega
        · omega
        · omega
        · simp only at lv; omega
        · simp only at lm; omega
        · have := (hm.rall h).2; omega
        · have := (hm.tall h).2; omega
      have nXi : wr.heap.size ∉ V :: Bm :: Y.tall := fun e => by
        have lV := hS.ev.lt
        have lB := hS.mt.lt
        rcases List.mem_cons.1 e with e | e
        · omega
        · rcases List.mem_cons.1 e with e | e
          · omega
          · exact hXi _ (by simp only [List.mem_cons, List.mem_append]; exact .inr (.inr (.inr (.inr (.inr (.inr e)))))) rfl
      have hr1 : Real a w2 Y t (wr.alloc (.cells #[.bool false] 4)) := by
        obtain ⟨k, _, hm⟩ := hS1.m
        exact Real.of hm
      have cC := catch_step (Xi := wr.heap.size) HSs.out.s HB2.out hS1.hv hle (by omega) _ hr1 hS1.ev hS1.mt hS1.cv hS1.cm (Var.new wr (.bool false) _) (by have := hS.bel.size; exact this) nXi
      have hvn := nxV_le (n0 := n0) (d := d) HSs.out.s.N hS1.hv (fun i hi => by have := hr1.tn i hi; have := okN_le (hr1.ok i hi).n; omega)
      have HS1 := Lib.hid hS1
      have hv0 := hS.hv
      clear hS hS1 hb1 nXi hr1
      have HXi := Lib.hid hXi
      clear hXi
      go_wp2_with (fail)
      refine cC.mono ?_
      rintro e w5 (⟨hg, rfl, hp5, ha⟩ | ⟨hg, rfl, hp5, t', hr'⟩)
      · obtain ⟨k, hk, hm5, he5, al5, lA5, cv5, cm5⟩ := HS1.out.mid HSs.out HXi.out hp5 ha.r
        have cR := rstep_both HSs.out.s.N HSs.out.s.e0 hld hle (by omega) hv0 hk w5 he5 hm5 HSs.out.oE HSs.out.oG HSs.out.hE
        rw [hg] at cR
        have CR := Lib.hid (show Calls Tryz.prog 13 #[.pointer (some ⟨E, 0, none⟩)] w5 (fun e w' => e = .returned (.tuple #[.bool (decide (n < n0)), .bool false]) ∧ ∃ k', St a w2 Y V A E GE cE Bm Xv Xm d (nxN n0 n) (nxT Y.N d n0 n t) (nxV Y.N d n0 n v t) w' ∧ Var wr.heap.size (.bool (decide (n < n0))) w' ∧ sumK Y.N k' = nxV Y.N d n0 n v t ∧ Many a w2 Y (nxT Y.N d n0 n t) (nxT Y.N d n0 n t) k' w') from cR.mono fun e w' h => by
          rcases h with ⟨_, h1, ⟨k', h2, h3⟩, h4, h5⟩ | ⟨hf, _⟩
          · obtain ⟨q1, q2⟩ := St.go HSs.out HXi.out hvn ha al5 lA5 cv5 cm5 h5 h2 h3 h4
            exact ⟨h1, k', q1, q2, h2, h3⟩
          · cases hf)
        clear cR cC hp5 ha hm5 he5 al5 lA5 cv5 cm5 HS1 HXi hvn
        have hn' : nxN n0 n ≤ n0 := by unfold nxN; split <;> omega
        have hnn : min (n + 1) n0 = nxN n0 n := by unfold nxN; split <;> omega
        have hvb : nxV Y.N d n0 n v t ≤ 600 * nxN n0 n → nxV Y.N d n0 n v t ≤ 100000 := fun h => by omega
        generalize decide (n < n0) = b at *
        generalize nxT Y.N d n0 n t = t' at *
        generalize nxV Y.N d n0 n v t = v' at *
        generalize nxN n0 n = n' at *
        generalize wr.heap.size = Xi at *
        go_wp2_with (go_at_call 13; refine CR.out.mono ?_; rintro e w6 ⟨rfl, k', hS6, hi6, hk6, hm6⟩)
        have q0 := Under.cell (HX.out w6 hS6.bel)
        have qi := Under.cell hi6.cell
        have qv := Under.cell hS6.cv
        have qm := Under.cell hS6.cm
        have q3 := Under.cell hS6.em.c3
        have cL := fun (q : Under w6) => left_any V Y d n' (by rw [HSs.out.s.e0]; exact hn') (by rw [HSs.out.s.e0]; omega) q.W (hS6.ev.keep q.below)
        rw [HSs.out.s.e0] at cL
        have cAl := fun (q : Under w6) => all_mk Bm 0 v' n' q.W (hS6.mt.below q.below)
        have cLk := fun (q : Under w6) => rlooks_any E GE cE a w2 Y t' t' k' HSs.out.s.N d n' 100000 (by decide) (fun i hi => by have := sumK_le HSs.out.s.N k' hi; have := hvb hS6.hv; omega) q.W (hS6.em.keep q.below) (hm6.read q.below)
        rw [hk6] at cLk
        have ew : IntKind.i64.wrap ((n0 : Int) - (n' : Int)) = ((n0 - n' : Nat) : Int) := by rw [IntWalk.i64_in _ (by omega)]; omega
        have hbb : (b != b) = false := by simp
        have HS6 := Lib.hid hS6
        clear hS6 hi6 hk6 hm6 CR hvb hmf
        generalize n0 - n' = nl at *
        refine wp_region_under (by kernel_rfl) (by kernel_rfl) ?_
        repeat (go_big_quiet_step (first
          | (go_at_call 15; (with_reducible refine under_call (cL _)))
          | (go_at_call 16; (with_reducible refine under_call (cAl _)))
          | (go_at_call 17; (with_reducible refine under_same (cLk _)))))
        refine wpQuiet_nil ?_
        intro wz hwz
        obtain ⟨z, rfl⟩ := hwz
        have HR6 := Lib.hid (HS6.out.read z.below)
        clear q0 qi qv qm q3 cL cAl cLk ew HS6
        generalize z.W = w8 at *
        clear z
        have hc1 : ¬ cA = 1 := by omega
        have hadd : (⟨A, 0, none⟩ : Addr).add (1 * 1) = ⟨A, 1, none⟩ := by simp [Addr.add]
        have hadd1 : (⟨A, 0, none⟩ : Addr).add 1 = ⟨A, 1, none⟩ := by simp [Addr.add]
        have hle1 : (1 : Int) ≤ ((nt + 1 : Nat) : Int) := by omega
        go_wp2_with (fail)
        go_loopw [79] (fun i wr => ∃ j : Nat, j ≤ nt ∧ i = .int .i64 j ∧ Hid (St a w2 Y V A E GE cE Bm Xv Xm d n' t' v' wr)) (fun i _ => nt - (intOf i).toNat)
        case atStart => exact ⟨0, by omega, rfl, HR6⟩
        case round =>
          obtain ⟨j, hj, rfl, HR7⟩ := hrel
          clear HR6
          have HR6 := HR7
          clear HR7
          rcases Nat.lt_or_ge j nt with hjl | hjl
          · have hji : (j : Int) < (nt : Int) := by omega
            have hjN : 1 + j < Y.N := by omega
            have hc := HR6.out.al (1 + j) hjN
            have hadd2 : (⟨A, 1, none⟩ : Addr).add j = ⟨A, 1 + j, none⟩ := add_at A 1 j
            go_wp2_with (fail)
            have cT := fun W (h : St a w2 Y V A E GE cE Bm Xv Xm d n' t' v' W) => text_tab (Y.T (1 + j)) (Y.B (1 + j)) (t' (1 + j)) (by obtain ⟨k, _, hm⟩ := h.m; exact hm.ok (1 + j) hjN) W (by obtain ⟨k, _, hm⟩ := h.m; exact hm.at' (1 + j) hjN)
            have cU := fun W (h : St a w2 Y V A E GE cE Bm Xv Xm d n' t' v' W) => (show Calls Tryz.prog 20 #[.pointer (some ⟨(Y.F (1 + j)).R, 0, none⟩)] W (fun e w' => ∃ v, e = .returned v ∧ KeptS W.heap.size w' v (texts (t' (1 + j)) (t' (1 + j)).n) ∧ Below W.heap.size W w') from by
              obtain ⟨k, _, hm⟩ := h.m
              exact rttext_any (Y.F (1 + j)) (t' (1 + j)) (hm.uok (1 + j) hjN) (k (1 + j)) W (hm.wa (1 + j) hjN))
            have hlen : (texts (t' (1 + j)) (t' (1 + j)).n).length ≤ 64 := by
              obtain ⟨k, _, hm⟩ := HR6.out.m
              rw [texts_length]; exact okN_le (hm.ok (1 + j) hjN).n
            have cS := fun o1 o2 c1 c2 W (h1 : TextsAt o1 (texts (t' (1 + j)) (t' (1 + j)).n) W) (h2 : TextsAt o2 (texts (t' (1 + j)) (t' (1 + j)).n) W) => same_texts o1 o2 c1 c2 (texts (t' (1 + j)) (t' (1 + j)).n) hlen W h1 h2
            generalize texts (t' (1 + j)) (t' (1 + j)).n = l at *
            have g1 : wr.cell? ⟨E, 1, none⟩ = some (.slice (some ⟨GE, 0, none⟩) nt cE) := by
              have h := HR6.out.em.c1
              rw [hnt] at h; exact h
            have g2 : wr.cell? ⟨GE, j, none⟩ = some (.pointer (some ⟨(Y.F (1 + j)).R, 0, none⟩)) := by
              have h := HR6.out.em.tg (1 + j) (by omega) hjN
              rw [show 1 + j - 1 = j by omega] at h; exact h
            have hadd3 : (⟨GE, 0, none⟩ : Addr).add j = ⟨GE, j, none⟩ := by rw [add_at, Nat.zero_add]
            generalize Y.T (1 + j) = Tj at *
            generalize (Y.F (1 + j)).R = Rj at *
            have hxd : TD wr l ⟨none, none⟩ wr.drew := ⟨under.drew_below _, (fun o e => by cases e), (fun o e => by cases e)⟩
            have qg1 : ∀ q : moves.Un (TD wr l), q.W.cell? ⟨E, 1, none⟩ = some (.slice (some ⟨GE, 0, none⟩) nt cE) := fun q => keepc q.h.1 g1
            have qg2 : ∀ q : moves.Un (TD wr l), q.W.cell? ⟨GE, j, none⟩ = some (.pointer (some ⟨Rj, 0, none⟩)) := fun q => keepc q.h.1 g2
            haveI : Nonempty (moves.Un (TD wr l)) := ⟨⟨⟨none, none⟩, _, hxd⟩⟩
            have HST := Lib.hid (fun W (hb : Below wr.heap.size wr W) => HR6.out.read hb)
            refine (wpIn_wide (n := 3)).1 ?_
            refine moves.region (D := TD wr l) (TM l 1 9) 10 [false, true, false, false, false, false, false, false, false, true] [] (by kernel_rfl) (by kernel_rfl) (by kernel_rfl) (fun k s _ => TM.some l 1 9 k s) (fun i j hij => by cases hij) ⟨none, none⟩ hxd ?_
            simp only [List.take_succ_cons, List.take_zero, List.drop_succ_cons, List.drop_zero]
            iterate 1
              refine moves.pure_step (fun _ _ _ => trivial) (fun K hK => ?_)
              go_simp
              refine hK _ ?_
              clear hK K
            refine moves.move_step (fun _ _ _ => trivial) (by kernel_rfl) (fun sd wd hd => ?_) ?_
            · go_simp
              refine callsIn_wide.2 ((cT wd (HST.out wd hd.1)).mono ?_)
              rintro e' w' ⟨v, rfl, hK, hb'⟩
              obtain ⟨o, c, rfl, hx⟩ := hK.texts
              exact ⟨_, rfl, ⟨some o, sd.b⟩, ⟨o, c, rfl, rfl⟩, ⟨under.below_step hd.1 hb', fun o' e => by cases e; exact hx, fun o' e => (hd.2.2 o' e).read hb'⟩⟩
            rintro _ _ ⟨oa, ca, rfl, rfl⟩ K hK
            refine hK _ ?_
            clear hK K
            iterate 7
              refine moves.pure_step (fun _ _ _ => trivial) (fun K hK => ?_)
              go_simp
              refine hK _ ?_
              clear hK K
            refine moves.move_step (fun _ _ _ => trivial) (by kernel_rfl) (fun sd wd hd => ?_) ?_
            · go_simp
              refine callsIn_wide.2 ((cU wd (HST.out wd hd.1)).mono ?_)
              rintro e' w' ⟨v, rfl, hK, hb'⟩
              obtain ⟨o, c, rfl, hx⟩ := hK.texts
              exact ⟨_, rfl, ⟨sd.a, some o⟩, ⟨o, c, rfl, rfl⟩, ⟨under.below_step hd.1 hb', fun o' e => (hd.2.1 o' e).read hb', fun o' e => by cases e; exact hx⟩⟩
            rintro _ _ ⟨ob, cb, rfl, rfl⟩ K hK
            refine hK _ ?_
            clear hK K
            refine moves.nil_step ?_
            intro w7 hw7
            have hw7' : TD wr l ⟨some oa, some ob⟩ w7 := hw7
            clear hw7
            have HT7 := Lib.hid (And.intro (hw7'.2.1 oa rfl) (hw7'.2.2 ob rfl))
            have HS7 := Lib.hid (HST.out w7 hw7'.1)
            clear hw7' hxd this qg1 qg2 g1 g2 cT cU HST
            gi_wp2_with (refine ⟨trivial, ?_⟩; gi_at_call 18; refine (callsIn_wide.2 (cS oa ob _ _ _ HT7.out.1 HT7.out.2)).mono ?_; rintro e w8 ⟨rfl, rfl⟩)
            go_wp2
            go_roundw
            case rel =>
              first
                | exact ⟨j + 1, by omega, by simp, HS7⟩
                | (repeat (apply Exists.intro)
                   refine ⟨?_, rfl⟩
                   exact ⟨j + 1, by omega, by simp, HS7⟩)
            case measure => simp [intOf]; omega
          · obtain rfl : nt = j := by omega
            have hjN : 0 < Y.N := by omega
            have hc := HR6.out.al 0 hjN
            go_wp2_with (fail)
            have cT := fun W (h : St a w2 Y V A E GE cE Bm Xv Xm d n' t' v' W) => text_tab (Y.T 0) (Y.B 0) (t' 0) (by obtain ⟨k, _, hm⟩ := h.m; exact hm.ok 0 hjN) W (by obtain ⟨k, _, hm⟩ := h.m; exact hm.at' 0 hjN)
            have cU := fun W (h : St a w2 Y V A E GE cE Bm Xv Xm d n' t' v' W) => (show Calls Tryz.prog 20 #[.pointer (some ⟨(Y.F 0).R, 0, none⟩)] W (fun e w' => ∃ v, e = .returned v ∧ KeptS W.heap.size w' v (texts (t' 0) (t' 0).n) ∧ Below W.heap.size W w') from by
              obtain ⟨k, _, hm⟩ := h.m
              exact rttext_any (Y.F 0) (t' 0) (hm.uok 0 hjN) (k 0) W (hm.wa 0 hjN))
            have hlen : (texts (t' 0) (t' 0).n).length ≤ 64 := by
              obtain ⟨k, _, hm⟩ := HR6.out.m
              rw [texts_length]; exact okN_le (hm.ok 0 hjN).n
            have cS := fun o1 o2 c1 c2 W (h1 : TextsAt o1 (texts (t' 0) (t' 0).n) W) (h2 : TextsAt o2 (texts (t' 0) (t' 0).n) W) => same_texts o1 o2 c1 c2 (texts (t' 0) (t' 0).n) hlen W h1 h2
            generalize texts (t' 0) (t' 0).n = l at *
            have g1 : wr.cell? ⟨E, 0, none⟩ = some (.pointer (some ⟨(Y.F 0).R, 0, none⟩)) := HR6.out.em.c0
            generalize Y.T 0 = Tj at *
            generalize (Y.F 0).R = Rj at *
            have hxd : TD wr l ⟨none, none⟩ wr.drew := ⟨under.drew_below _, (fun o e => by cases e), (fun o e => by cases e)⟩
            have qg1 : ∀ q : moves.Un (TD wr l), q.W.cell? ⟨E, 0, none⟩ = some (.pointer (some ⟨Rj, 0, none⟩)) := fun q => keepc q.h.1 g1
            have qg2 : ∀ q : moves.Un (TD wr l), q.W.cell? ⟨A, 0, none⟩ = some (.pointer (some ⟨Tj, 0, none⟩)) := fun q => keepc q.h.1 hc
            haveI : Nonempty (moves.Un (TD wr l)) := ⟨⟨⟨none, none⟩, _, hxd⟩⟩
            have HST := Lib.hid (fun W (hb : Below wr.heap.size wr W) => HR6.out.read hb)
            refine (wpIn_wide (n := 3)).1 ?_
            refine moves.region (D := TD wr l) (TM l 3 8) 9 [false, false, false, true, false, false, false, false, true] [] (by kernel_rfl) (by kernel_rfl) (by kernel_rfl) (fun k s _ => TM.some l 3 8 k s) (fun i j hij => by cases hij) ⟨none, none⟩ hxd ?_
            simp only [List.take_succ_cons, List.take_zero, List.drop_succ_cons, List.drop_zero]
            iterate 3
              refine moves.pure_step (fun _ _ _ => trivial) (fun K hK => ?_)
              go_simp
              refine hK _ ?_
              clear hK K
            refine moves.move_step (fun _ _ _ => trivial) (by kernel_rfl) (fun sd wd hd => ?_) ?_
            · go_simp
              refine callsIn_wide.2 ((cT wd (HST.out wd hd.1)).mono ?_)
              rintro e' w' ⟨v, rfl, hK, hb'⟩
              obtain ⟨o, c, rfl, hx⟩ := hK.texts
              exact ⟨_, rfl, ⟨some o, sd.b⟩, ⟨o, c, rfl, rfl⟩, ⟨under.below_step hd.1 hb', fun o' e => by cases e; exact hx, fun o' e => (hd.2.2 o' e).read hb'⟩⟩
            rintro _ _ ⟨oa, ca, rfl, rfl⟩ K hK
            refine hK _ ?_
            clear hK K
            iterate 4
              refine moves.pure_step (fun _ _ _ => trivial) (fun K hK => ?_)
              go_simp
              refine hK _ ?_
              clear hK K
            refine moves.move_step (fun _ _ _ => trivial) (by kernel_rfl) (fun sd wd hd => ?_) ?_
            · go_simp
              refine callsIn_wide.2 ((cU wd (HST.out wd hd.1)).mono ?_)
              rintro e' w' ⟨v, rfl, hK, hb'⟩
              obtain ⟨o, c, rfl, hx⟩ := hK.texts
              exact ⟨_, rfl, ⟨sd.a, some o⟩, ⟨o, c, rfl, rfl⟩, ⟨under.below_step hd.1 hb', fun o' e => (hd.2.1 o' e).read hb', fun o' e => by cases e; exact hx⟩⟩
            rintro _ _ ⟨ob, cb, rfl, rfl⟩ K hK
            refine hK _ ?_
            clear hK K
            refine moves.nil_step ?_
            intro w7 hw7
            have hw7' : TD wr l ⟨some oa, some ob⟩ w7 := hw7
            clear hw7
            have HT7 := Lib.hid (And.intro (hw7'.2.1 oa rfl) (hw7'.2.2 ob rfl))
            have HS7 := Lib.hid (HST.out w7 hw7'.1)
            clear hw7' hxd this qg1 qg2 g1 hc cT cU HST
            gi_wp2_with (refine ⟨trivial, ?_⟩; gi_at_call 18; refine (callsIn_wide.2 (cS oa ob _ _ _ HT7.out.1 HT7.out.2)).mono ?_; rintro e w8 ⟨rfl, rfl⟩)
            go_wp2
            go_roundw
            case rel =>
              first
                | exact ⟨n + 1, by omega, by simp, Lib.hid ⟨t', v', by rw [hnn]; exact HS7.out⟩⟩
                | (repeat (apply Exists.intro)
                   refine ⟨?_, rfl⟩
                   exact ⟨n + 1, by omega, by simp, Lib.hid ⟨t', v', by rw [hnn]; exact HS7.out⟩⟩)
            case measure => simp [intOf]; omega
      · obtain ⟨k, hk, hm5, he5, al5, lA5, cv5, cm5⟩ := HS1.out.mid HSs.out HXi.out hp5 hr'
        have cR := rstep_both HSs.out.s.N HSs.out.s.e0 hld hle (by omega) hv0 hk w5 he5 hm5 HSs.out.oE HSs.out.oG HSs.out.hE
        rw [hg] at cR
        have hb5 := hm5.bel
        have CR := Lib.hid (show Calls Tryz.prog 13 #[.pointer (some ⟨E, 0, none⟩)] w5 (fun e w' => e = .returned (.tuple #[.bool true, .bool true]) ∧ Below w2.heap.size w2 w') from cR.mono fun e w' h => by
          rcases h with ⟨hf, _⟩ | ⟨_, h1, h2⟩
          · cases hf
          · exact ⟨h1, hb5.trans (h2.below hb5.size fun x hx => by
              rcases List.mem_cons.1 hx with rfl | hx
              · exact HSs.out.hE
              · exact (hm5.rall hx).1)⟩)
        clear cR cC hp5 hm5 he5 al5 lA5 cv5 cm5 HS1 HXi hvn hr'
        go_wp2_with (first
          | (go_at_call 13; refine CR.out.mono ?_; rintro e w6 ⟨rfl, hb6⟩; have cN := trap.num_err a 10 (by decide) w6 (HB2.out.below hb6).errs)
          | (go_at_call 14; refine cN.mono ?_; rintro e w7 ⟨rfl, hb7⟩))
        go_ret
        exact ⟨rfl, under.below_step (under.below_step hb02 hb6) hb7⟩
    · obtain rfl : n = n0 + 1 := by omega
      obtain ⟨t, v, hS⟩ := HR.out
      have x0 := HX.out wr hS.bel
      have hni : decide ((n0 : Int) + 1 ≤ (n0 : Int)) = false := decide_eq_false (by omega)
      have hni' : decide (n0 + 1 ≤ n0) = false := decide_eq_false (by omega)
      have HB := Lib.hid (under.below_step hb02 hS.bel)
      clear hS HR
      go_wp2
      go_ret
      exact ⟨rfl, HB.out⟩
theorem steps_law (a : String → Addr) (old new depth : Int) (two : Bool) (sh : Option Addr) (lh ch : Nat) (sk : Option Addr) (lk ck : Nat) (sm : Option Addr) (lm cm : Nat) (hz : Nat → Nat) (ks ms : Nat → Int) (w : World) (hw : Base a w) (hH : HashAt sh lh w hz) (hK : IntsAt sk lk w ks) (hM : IntsAt sm lm w ms) :
    Calls Tryz.prog 3 #[.agg #[.int .i64 old, .int .i64 new, .int .i64 depth, .bool two, .slice sh lh ch, .slice sk lk ck, .slice sm lm cm]] w fun e w' => e = .returned (.bool true) ∧ Below w.heap.size w w' := by
  by_cases hS : ∃ n0 n1 d, Short ⟨old, new, depth, two, sh, lh, ch, sk, lk, ck, sm, lm, cm⟩ n0 n1 d
  · obtain ⟨n0, n1, d, hS⟩ := hS
    obtain rfl : old = n0 := hS.e0
    obtain rfl : new = n1 := hS.e1
    obtain rfl : depth = d := hS.ed
    exact steps_main a n0 n1 d two sh lh ch sk lk ck sm lm cm hS hz ks ms w hw hH hK hM
  · exact steps_long a ⟨old, new, depth, two, sh, lh, ch, sk, lk, ck, sm, lm, cm⟩ hS w hw
end Go.Proofs.YtibcokiijlamcaaGreatDoor.evac
