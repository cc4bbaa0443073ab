/- evac: a case is made and its groups are moved: what holds between two steps. -/
import Derived.Test.YtibcokiijlamcaaGreatDoorEvacMadeA
import Derived.Test.YtibcokiijlamcaaGreatDoorEvacMadeB
namespace Go.Proofs.YtibcokiijlamcaaGreatDoor.evac
open Go.ChangeShapes Go.WideShapes Go.ChangeAt Go.RowKit Go.Shelf swar under trap meter group probe lens tail call table
set_option linter.unusedSimpArgs false
set_option linter.unusedVariables false

theorem made_any (a : String → Addr) (n0 n1 d : Nat) (two : Bool) (sh : Option Addr) (lh ch : Nat) (sk : Option Addr) (lk ck : Nat) (sm : Option Addr) (lm cm : Nat) (hS : Short ⟨n0, n1, d, two, sh, lh, ch, sk, lk, ck, sm, lm, cm⟩ n0 n1 d) (hz : Nat → Nat) (ks ms : Nat → Int) (w : World) (hw : Bq a w) (hH : HashAt sh lh w hz) (hK : IntsAt sk lk w ks) (hM : IntsAt sm lm w ms) :
    Calls Tryz.prog 9 #[.agg #[.int .i64 (n0 : Nat), .int .i64 (n1 : Nat), .int .i64 (d : Nat), .bool two, .slice sh lh ch, .slice sk lk ck, .slice sm lm cm]] w fun e w' => ∃ (Y : Lay) (V A E GE cA cE : Nat) (t : Nat → Tb), e = .returned (.tuple #[.pointer (some ⟨V, 0, none⟩), .slice (some ⟨A, 0, none⟩) Y.N cA, .pointer (some ⟨E, 0, none⟩)]) ∧ Y.N ≤ cA ∧ (two = true ↔ Y.N = 3) ∧ Made a w Y V A E GE cE d n0 n1 t w' ∧ Reach hz lh Y.N d (news Y) true (lk + lm) t := by
  cases two with
  | true =>
    refine (made_two a n0 n1 d sh lh ch sk lk ck sm lm cm hS hz ks ms w hw hH hK hM).mono fun e w' ⟨Y, V, A, E, GE, cA, cE, t, h1, h2, h3, h4, h5⟩ => ⟨Y, V, A, E, GE, cA, cE, t, ?_, ?_, ?_, h4, h5⟩
    · rw [h1, h3]
    · omega
    · simp [h3]
  | false =>
    refine (made_one a n0 n1 d sh lh ch sk lk ck sm lm cm hS hz ks ms w hw hH hK hM).mono fun e w' ⟨Y, V, A, E, GE, cA, cE, t, h1, h2, h3, h4, h5⟩ => ⟨Y, V, A, E, GE, cA, cE, t, ?_, ?_, ?_, h4, h5⟩
    · rw [h1, h3]
    · omega
    · simp [h3]
theorem lkc_le (N d : Nat) (hN : N = 2 ∨ N = 3) : ∀ (l : List Sl) (u : Nat → Tb), (∀ i, i < N → (u i).n ≤ 64) → lkc N d u l ≤ 64 * l.length
  | [], _, _ => Nat.le_refl _
  | e :: l, u, h => by
    have h1 := looks_le (u (tgt N d e.hash)) e.key e.hash
    have h2 := h _ (tgt_lt hN d e.hash)
    have h3 := lkc_le N d hN l (mv1 N d u e) (fun i hi => by rw [mv1_n]; exact h i hi)
    show looks (u (tgt N d e.hash)) e.key e.hash + lkc N d (mv1 N d u e) l ≤ 64 * (l.length + 1)
    omega
/-- where the evacuation, the list of its tables and the meter lie -/
structure Sd (w : World) (Y : Lay) (V A Bm d n0 n1 : Nat) : Prop where
  N : Y.N = 2 ∨ Y.N = 3
  e0 : Y.n 0 = n0
  e1 : ∀ j, 1 ≤ j → j < Y.N → Y.n j = n1
  ld : d ≤ 15
  nV : V ∉ Bm :: Y.tall
  nA : A ∉ V :: Bm :: Y.tall
  nB : Bm ∉ Y.tall
  hV : w.heap.size ≤ V
  hA : w.heap.size ≤ A
  hB : w.heap.size ≤ Bm
structure Run (a : String → Addr) (w : World) (Y : Lay) (V A Bm d next : Nat) (t : Nat → Tb) (m : Mt) (W : World) : Prop where
  r : Real a w Y t W
  ev : EvAt V Y d next W
  mt : MAt Bm 0 m W
  al : ∀ j, j < Y.N → W.cell? ⟨A, j, none⟩ = some (.pointer (some ⟨Y.T j, 0, none⟩))
  lA : A < W.heap.size
section
variable {a : String → Addr} {w : World} {Y : Lay} {V A Bm d n0 n1 next : Nat} {t : Nat → Tb} {m : Mt} {W W' : World}
theorem Run.read (h : Run a w Y V A Bm d next t m W) (hb : Below W.heap.size W W') : Run a w Y V A Bm d next t m W' :=
  ⟨h.r.read hb, h.ev.keep hb, h.mt.below hb, fun j hj => (World.cell?_of_block (w := W) (hb.block A h.lA)).trans (h.al j hj), Nat.lt_of_lt_of_le h.lA hb.size⟩
/-- what a step comes to where all entries find their places -/
def stp1 (N d next : Nat) (t : Nat → Tb) : Nat → Tb := tak (mvs N d t (lst t next)) next
theorem run_step (s : Sd w Y V A Bm d n0 n1) {v : Nat} (hv : v ≤ 600 * next) (hn : next < n0) (h64 : n0 ≤ 64) (hg : goods Y.N d t (lst t next) = true) (h : Run a w Y V A Bm d next t (Mk 0 v next) W) :
    Calls Tryz.prog 12 #[.pointer (some ⟨V, 0, none⟩), .pointer (some ⟨Bm, 0, none⟩)] W fun e w' => e = .returned (.bool true) ∧ v + 1 + lkc Y.N d t (lst t next) ≤ 600 * (next + 1) ∧ Run a w Y V A Bm d (next + 1) (stp1 Y.N d next t) (Mk 0 (v + 1 + lkc Y.N d t (lst t next)) (next + 1)) w' ∧ Past (V :: Bm :: Y.tall) W w' := by
  have hl := lkc_le Y.N d s.N (lst t next) t (fun i hi => by have := h.r.tn i hi; have := okN_le (h.r.ok i hi).n; omega)
  have hl8 := lst_length t next
  refine (step_on V a w Y t s.N d next Bm (Mk 0 v next) s.ld (by rw [s.e0]; exact hn) (Mk_ok (by omega) (by omega) (by omega)) (Mk_E _ _ _) W h.ev h.r h.mt s.hB s.nB s.hV s.nV).mono fun e w' q => ?_
  rcases q with ⟨_, q1, q2, q3, q4, q5⟩ | ⟨q, _⟩
  · rw [Mk_unit (by omega), Mk_visit (by omega), Mk_see _ (by omega)] at q4
    exact ⟨q1, by omega, ⟨q2, q3, q4, fun j hj => (World.cell?_of_block (w := W) (q5.block A h.lA s.nA)).trans (h.al j hj), Nat.lt_of_lt_of_le h.lA q5.size⟩, q5⟩
  · rw [hg] at q; cases q
end
/-- the keys of U, each in just one of the tables; so many groups have no entries -/
structure Jn (hz : Nat → Nat) (lh N d next : Nat) (U : Nat → Bool) (t : Nat → Tb) : Prop where
  st : ∃ M, Sta hz lh N d U t M
  off : Off (t 0) next
theorem Jn.step {hz : Nat → Nat} {lh N d next : Nat} {U : Nat → Bool} {t : Nat → Tb} (hN : N = 2 ∨ N = 3) (hla : lh ≤ 1000) (hH : ∀ key, key < lh → hz key < 18446744073709551616) (h : Jn hz lh N d next U t) (hr : ∀ i, 1 ≤ i → i < N → ((List.range lh).countP U : Int) < 7 * ((t i).n : Int)) (hi : next < (t 0).n) :
    goods N d t (lst t next) = true ∧ Jn hz lh N d (next + 1) U (stp1 N d next t) := by
  obtain ⟨M, hs⟩ := h.st
  obtain ⟨g, M', hs'⟩ := hs.step hN hla hH hr hi
  exact ⟨g, ⟨M', hs'⟩, Off.next h.off⟩
theorem stp1_n (N d next : Nat) (t : Nat → Tb) (i : Nat) : (stp1 N d next t i).n = (t i).n := by
  unfold stp1 tak up
  split
  · next h => rw [tk_n, mvs_n, h]
  · exact mvs_n N d _ _ i
theorem Jn.start {hz : Nat → Nat} {lh d q : Nat} {Y : Lay} {t : Nat → Tb} (hN : Y.N = 2 ∨ Y.N = 3) (hla : lh ≤ 1000) (hH : ∀ key, key < lh → hz key < 18446744073709551616) (hok : ∀ i, i < Y.N → okN (Y.n i)) (h : Reach hz lh Y.N d (news Y) true q t) : ∃ U, Jn hz lh Y.N d 0 U t ∧ (List.range lh).countP U ≤ q := by
  obtain ⟨U, M, hs, hc⟩ := h.sta hN hla hH (fun i hi => RepN.new (hok i hi) hz) (fun i hi => rfl) rfl
  exact ⟨U, ⟨⟨M, hs⟩, fun g hg => absurd hg (Nat.not_lt_zero g)⟩, hc⟩
theorem szRev : (Tryz.prog.info? 48).map (·.size) = some 4 := by kernel_rfl
theorem rev_some (x : Addr) (w : World) : (Op.equalIn 10000 29 (.pointer (some x)) (.pointer none)).run Tryz.prog w = .ok false w := by
  obtain ⟨j, hj, _⟩ := Option.map_eq_some_iff.1 szRev
  have h : ∀ d : Nat, (Op.equalIn (d + 1) 29 (.pointer (some x)) (.pointer none)).run Tryz.prog w = .ok false w := fun d => by
    simp [Op.equalIn, run_underlying Tryz.underlying29, sizeOf, typeInfo, hj, sameAddr]
  exact h 9999
theorem tab_same (b : Nat) (w : World) : (Op.equalIn 10000 52 (.pointer (some ⟨b, 0, none⟩)) (.pointer (some ⟨b, 0, none⟩))).run Tryz.prog w = .ok true w := by
  obtain ⟨j, hj, _⟩ := Option.map_eq_some_iff.1 szTab
  have h : ∀ d : Nat, (Op.equalIn (d + 1) 52 (.pointer (some ⟨b, 0, none⟩)) (.pointer (some ⟨b, 0, none⟩))).run Tryz.prog w = .ok true w := fun d => by
    simp [Op.equalIn, run_underlying Tryz.underlying52, sizeOf, typeInfo, hj, sameAddr]
  exact h 9999
/-- a made case, with a meter that is new behind it -/
theorem Made.run {a : String → Addr} {w W : World} {Y : Lay} {V A E GE cE d n0 n1 : Nat} {t : Nat → Tb} (h : Made a w Y V A E GE cE d n0 n1 t W) (ld : d ≤ 15) {W' : World} (hb : Below W.heap.size W W') :
    Sd w Y V A W'.heap.size d n0 n1 ∧ Run a w Y V A W'.heap.size d 0 t (Mk 0 0 0) (W'.alloc (.cells #[.int .i64 0, .int .i64 0, .int .i64 0, .int .i64 0, .int .i64 0, .int .i64 0, .int .i64 0, .bool false] 36)) := by
  obtain ⟨k, hm, _⟩ := h.m
  have hlt : ∀ b ∈ Y.tall, b < W.heap.size := fun b hb => (hm.tall hb).2
  have z := hb.size
  have z0 := hm.bel.size
  have lV := h.ev.lt
  have hbn := new_block W' (.cells #[.int .i64 0, .int .i64 0, .int .i64 0, .int .i64 0, .int .i64 0, .int .i64 0, .int .i64 0, .bool false] 36)
  have nB : W'.heap.size ∉ Y.tall := fun e => by have := hlt _ e; omega
  have hb2 := under.below_step hb hbn
  refine ⟨⟨h.N, h.n0, h.n1, ld, fun e => ?_, fun e => ?_, nB, h.hV, h.hA, by omega⟩, ⟨Real.of (hm.read hb2), h.ev.keep hb2, MAt.zero_new W', fun j hj => (World.cell?_of_block (w := W) (hb2.block A h.lA)).trans (h.al j hj), Nat.lt_of_lt_of_le h.lA hb2.size⟩⟩
  · rcases List.mem_cons.1 e with e | e
    · omega
    · exact h.oV.t e
  · have lA := h.lA
    rcases List.mem_cons.1 e with e | e
    · exact h.nVA e.symm
    · rcases List.mem_cons.1 e with e | e
      · omega
      · exact h.oA.t e
/-- Scan, without a lens -/
theorem nscan_any {a : String → Addr} {w0 : World} {Y : Lay} {t : Nat → Tb} {W : World} (h : Real a w0 Y t W) {j : Nat} (hj : j < Y.N) (i : Nat) (hi : i < (t j).n) :
    Calls Tryz.prog 29 #[.pointer (some ⟨Y.T j, 0, none⟩), .agg #[.pointer none], .int .i64 i] W fun e w' => ∃ o c, e = .returned (.tuple #[.slice o (entsG ((t j).gs i)).length c, .nilIface]) ∧ ListAt W.heap.size o (entsG ((t j).gs i)) w' ∧ Below W.heap.size W w' := by
  refine (scan_rd (h.rd hj) i hi).mono fun e w' ⟨v, he, hk, hs⟩ => ?_
  obtain ⟨o, c, rfl, hcp, hl⟩ := kept_cap hk
  have el : (entsG ((t j).gs i)).length = (fulls ((t j).gs i)).length := by unfold entsG; rw [List.length_map]
  exact ⟨o, c, by rw [he, el], hl, Past.nil hs.past⟩
end Go.Proofs.YtibcokiijlamcaaGreatDoor.evac
