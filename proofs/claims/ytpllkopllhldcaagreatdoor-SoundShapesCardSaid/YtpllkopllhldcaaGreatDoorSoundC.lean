/- SoundC: several texts in one: plain facts and laws for the walks. No program is named. -/
import Derived.Test.YtpllkopllhldcaaGreatDoorSoundB
import Derived.Test.YtpllkopllhldcaaGreatDoorTableDel
import Derived.Test.YtpllkopllhldcaaGreatDoorTableNew
import Derived.Test.YtpllkopllhldcaaGreatDoorTableEntry
import Derived.Test.YtpllkopllhldcaaGreatDoorTableAlive
import Derived.LoopTactic

/-! ### sound: made (amblerlaw10.made): a table behind acts, and the document's table. -/
namespace Go.Proofs.YtpllkopllhldcaaGreatDoor.sound
open Go.ChangeShapes Go.WideShapes Go.ChangeAt Go.RowKit Go.Shelf swar under trap meter group probe lens tail call table
attribute [local go_sem] Oper.semAt_some stage.pureUpon move.stepUpon
set_option linter.unusedSimpArgs false
set_option linter.unusedVariables false

/-- what is asked of the program's variables -/
structure Bs (a : String → Addr) (w : World) : Prop where
  errs : Errs6 a w
  bits : TabOk w
  far : 18 ≤ w.heap.size
theorem Bs.below {a : String → Addr} {w W : World} (h : Bs a w) (hb : Below w.heap.size w W) : Bs a W := ⟨h.errs.below hb, h.bits.below hb h.bits.lt, Nat.le_trans h.far hb.size⟩
theorem see_nil (m : Mt) : ∀ k, Ln.nil.see m k = m
  | 0 => rfl
  | k + 1 => by rw [Ln.see_succ, see_nil m k]; rfl
/-- within a round of made: the act, the entry in their boxes -/
structure Mp (w0 : World) (ae : String → Addr) (T B : Nat) (t : Tb) (f : Rf) (u : Tb) (k : Nat) (N X Y key h v : Nat) (kd ky nn : Int) (W : World) : Prop where
  two : Two w0 ae T B .nil Mt.zero t f u k W
  e : EBox Y key v h W
  c0 : W.cell? ⟨X, 0, none⟩ = some (.int .i64 kd)
  c1 : W.cell? ⟨X, 1, none⟩ = some (.int .i64 ky)
  c2 : W.cell? ⟨X, 2, none⟩ = some (.int .i64 nn)
  n : t.n = N
  hX : X < Y
  hd : ∀ x ∈ Dn T B .nil f N, x < X
section
variable {w0 : World} {ae : String → Addr} {T B : Nat} {t t' u u' : Tb} {f : Rf} {k k' N X Y key h v : Nat} {kd ky nn : Int} {W W' : World}
theorem Mp.move (s : Mp w0 ae T B t f u k N X Y key h v kd ky nn W) (q : Two w0 ae T B .nil Mt.zero t' f u' k' W' ∧ Past (Dn T B .nil f t.n) W W') (hn : t'.n = t.n) : Mp w0 ae T B t' f u' k' N X Y key h v kd ky nn W' := by
  obtain ⟨q1, q2⟩ := q
  rw [s.n] at q2
  have n0 : X ∉ Dn T B .nil f N := fun e => by have := s.hd X e; omega
  have n1 : Y ∉ Dn T B .nil f N := fun e => by have := s.hd Y e; have := s.hX; omega
  exact ⟨q1, s.e.past q2 n1, q2.cell s.c0 n0, q2.cell s.c1 n0, q2.cell s.c2 n0, hn.trans s.n, s.hX, s.hd⟩
theorem Mp.keep (s : Mp w0 ae T B t f u k N X Y key h v kd ky nn W) (hb : Below W.heap.size W W') : Mp w0 ae T B t f u k N X Y key h v kd ky nn W' := s.move ⟨s.two.read hb, Past.of hb⟩ rfl
theorem Mp.tl (s : Mp w0 ae T B t f u k N X Y key h v kd ky nn W) (hs : TL T B t' .nil Mt.zero W W') (ok : t'.Ok) (hn : t'.n = t.n) : Mp w0 ae T B t' f u k N X Y key h v kd ky nn W' := s.move (s.two.tl hs ok hn) hn
theorem Mp.ref (s : Mp w0 ae T B t f u k N X Y key h v kd ky nn W) (hs : WStep f u' k' W W') (hn : u'.n = u.n) : Mp w0 ae T B t f u' k' N X Y key h v kd ky nn W' := s.move (s.two.ref hs hn) rfl
end
/-- between two acts -/
def Sm (w1 : World) (ae : String → Addr) (H : Nat → Nat) (T B : Nat) (f : Rf) (n j : Nat) (W : World) : Prop := ∃ t k M, k ≤ 64 * j ∧ t.n = n ∧ Rep H t M ∧ Two w1 ae T B .nil Mt.zero t f t k W
/-- there is none, or more than is asked -/
def noMade (g : Int) (la lb : Nat) : Prop := la < 1 ∨ 100 < la ∨ 120 < lb ∨ 16 < g ∨ ¬ ∃ k : Nat, g = k ∧ okN k
set_option maxRecDepth 20000 in
theorem made_no (a : String → Addr) (g : Int) (s1 s2 : Option Addr) (la ca lb cb : Nat) (hc : noMade g la lb) (w : World) (hw : Bs a w) :
    Calls Tryz.prog 7 #[.int .i64 g, .slice s1 la ca, .slice s2 lb cb] w fun e w' => e = .returned (.tuple #[.pointer none, .pointer none]) ∧ Below w.heap.size w w' := by
  have hq : la < 1 ∨ (1 ≤ la ∧ 100 < la) ∨ (1 ≤ la ∧ la ≤ 100 ∧ 120 < lb) ∨ (1 ≤ la ∧ la ≤ 100 ∧ lb ≤ 120 ∧ 16 < g) ∨ (1 ≤ la ∧ la ≤ 100 ∧ lb ≤ 120 ∧ g ≤ 16 ∧ ¬ ∃ k : Nat, g = k ∧ okN k) := by
    rcases hc with h | h | h | h | h
    · omega
    · omega
    · omega
    · omega
    · by_cases h1 : la < 1
      · exact .inl h1
      · by_cases h2 : 100 < la
        · omega
        · by_cases h3 : 120 < lb
          · omega
          · by_cases h4 : 16 < g
            · omega
            · exact .inr (.inr (.inr (.inr ⟨by omega, by omega, by omega, by omega, h⟩)))
  clear hc
  rcases hq with h | h | h | h | ⟨h1, h2, h3, h4, h5⟩
  · have d1 : decide ((la : Int) < 1) = true := decide_eq_true (by omega)
    go_enter Tryz.func7, Tryz.ntmps7
    go_wp2
    go_ret2
    exact ⟨rfl, Below.refl _ _⟩
  · have d1 : decide ((la : Int) < 1) = false := decide_eq_false (by omega)
    have d2 : decide (100 < (la : Int)) = true := decide_eq_true (by omega)
    go_enter Tryz.func7, Tryz.ntmps7
    go_wp2
    go_ret2
    exact ⟨rfl, Below.refl _ _⟩
  · have d1 : decide ((la : Int) < 1) = false := decide_eq_false (by omega)
    have d2 : decide (100 < (la : Int)) = false := decide_eq_false (by omega)
    have d3 : decide (120 < (lb : Int)) = true := decide_eq_true (by omega)
    go_enter Tryz.func7, Tryz.ntmps7
    go_wp2
    go_ret2
    exact ⟨rfl, Below.refl _ _⟩
  · have d1 : decide ((la : Int) < 1) = false := decide_eq_false (by omega)
    have d2 : decide (100 < (la : Int)) = false := decide_eq_false (by omega)
    have d3 : decide (120 < (lb : Int)) = false := decide_eq_false (by omega)
    have d4 : decide (16 < g) = true := decide_eq_true (by omega)
    go_enter Tryz.func7, Tryz.ntmps7
    go_wp2
    go_ret2
    exact ⟨rfl, Below.refl _ _⟩
  · have d1 : decide ((la : Int) < 1) = false := decide_eq_false (by omega)
    have d2 : decide (100 < (la : Int)) = false := decide_eq_false (by omega)
    have d3 : decide (120 < (lb : Int)) = false := decide_eq_false (by omega)
    have d4 : decide (16 < g) = false := decide_eq_false (by omega)
    have cN : ∀ W, Below w.heap.size w W → Calls Tryz.prog 21 #[.int .i64 g] W fun e w' => e = .returned (.tuple #[.pointer none, errs.errV (a "ambler/api.ErrRange")]) ∧ Below W.heap.size W w' := fun W hb => (new_no g h5 W _ (hw.errs.below hb).two.range).mono fun e w' ⟨h, q, hq⟩ => ⟨h, by rw [hq]; exact below_drewN' _ _⟩
    have cM : ∀ W, Calls Tryz.prog 23 #[.int .i64 g] W fun e w' => e = .returned (.tuple #[.pointer none, .int .i64 1]) ∧ W = w' := fun W => rtnew_no g h5 W
    clear hw h5
    go_enter Tryz.func7, Tryz.ntmps7
    go_wp2_with (first
      | (go_at_call 21; (with_reducible refine (cN _ (Below.refl _ _)).mono ?_); rintro e w2 ⟨rfl, hb2⟩)
      | (go_at_call 23; (with_reducible refine (cM _).mono ?_); rintro e w3 ⟨rfl, rfl⟩))
    go_ret2
    exact ⟨rfl, hb2⟩
set_option maxRecDepth 20000 in
set_option maxHeartbeats 8000000 in
theorem made_few (a : String → Addr) (n : Nat) (hn : okN n) (h16 : n ≤ 16) (s1 s2 : Option Addr) (la ca lb cb : Nat) (hz : Nat → Nat) (az : Nat → Ac) (h1 : 1 ≤ la) (h2 : la ≤ 100) (h3 : lb ≤ 120) (w : World) (hw : Bs a w) (hH : HashAt s1 la w hz) (hA : ActAt s2 lb w az) :
    Calls Tryz.prog 7 #[.int .i64 n, .slice s1 la ca, .slice s2 lb cb] w fun e w' => ∃ T B f, e = .returned (.tuple #[.pointer (some ⟨T, 0, none⟩), .pointer (some ⟨f.R, 0, none⟩)]) ∧ Sm w a hz T B f n lb w' := by
  have HW := Lib.hid hw
  have HH := Lib.hid hH
  have HA := Lib.hid hA
  have d1 : decide ((la : Int) < 1) = false := decide_eq_false (by omega)
  have d2 : decide (100 < (la : Int)) = false := decide_eq_false (by omega)
  have d3 : decide (120 < (lb : Int)) = false := decide_eq_false (by omega)
  have d4 : decide (16 < (n : Int)) = false := decide_eq_false (by omega)
  clear hw hH hA
  have hpt := ptr_tab ⟨w.heap.size + 1, 0, none⟩
  go_enter Tryz.func7, Tryz.ntmps7
  go_wp2_with (fail)
  refine (new_yes n hn _).mono ?_
  rintro e w2 ⟨rfl, ht2, hb2⟩
  go_wp2_with (fail)
  refine (rtnew_yes n hn _).mono ?_
  rintro e w3 ⟨f, rfl, hf3, hfb, hb3⟩
  have hI : Sm w a hz (w.heap.size + 1) w.heap.size f n 0 w3 := by
    have l1 := ht2.lt
    have l2 := ht2.lb
    have l3 := hb3.size
    have hb23 := under.below_step hb2 hb3
    have hfl : ∀ b, b ∈ f.d n ∨ b = f.G → b < w3.heap.size := fun b hb => hf3.lts hb
    have hfar := HW.out.far
    refine ⟨Tb.new n, 0, fun _ => none, by omega, rfl, .new hn hz, ⟨⟨ht2.below hb3, Tb.Ok.new hn, trivial, Apart.nil _ _, HW.out.bits.below hb23 HW.out.bits.lt, (fun b hb => by cases hb), by omega, by omega, HW.out.errs.below hb23⟩, hf3, rfl, fun b hb e => ?_, fun b hb => ?_, hb23, fun b hb => ?_, hfar⟩⟩
    · have hq := hfb b hb
      have hl := hfl b hb
      simp [Ln.d] at e
      omega
    · have hq := hfb b (.inl hb)
      omega
    · rcases List.mem_append.1 hb with hb | hb
      · simp [Ln.d] at hb; omega
      · have := hfb b (.inl hb); omega
  have HI := Lib.hid hI
  clear hI ht2 hb2 hf3 hfb hb3
  go_wp2_with (fail)
  clear hpt
  generalize w.heap.size + 1 = T at HI ⊢
  obtain ⟨B, hBe⟩ : ∃ B, w.heap.size = B := ⟨_, rfl⟩
  have HI2 := Lib.hid (show Sm w a hz T B f n 0 w3 from by rw [← hBe]; exact HI.out)
  clear HI hBe
  go_loopw [55] (fun i wr => ∃ j : Nat, j ≤ lb ∧ i = .int .i64 j ∧ Hid (Sm w a hz T B f n j wr)) (fun i _ => lb - (intOf i).toNat)
  case atStart => exact ⟨0, by omega, rfl, HI2⟩
  case round =>
    obtain ⟨j, hj, rfl, HO⟩ := hrel
    clear HI2
    rcases Nat.lt_or_ge j lb with hjl | hjl
    · as_aux_lemma =>
        obtain ⟨⟨x, rfl, hcs⟩, b1, b2, b3, b4⟩ := HA.out j hjl
        obtain ⟨t, k, M, hkj, htn, hRep, hS⟩ := HO.out
        obtain ⟨c0, c1, c2⟩ := hcs _ hS.bel
        have hji : (j : Int) < (lb : Int) := by omega
        have hjw : j + 1 ≤ lb := by omega
        have hkz : kN (az j).key la < la := kN_lt _ h1
        obtain ⟨y, rfl, hh, hcy⟩ := HH.out _ hkz
        have e1 := uN_cast (az j).key
        have e2 := uN_cast (az j).n
        have e3 : IntKind.u64.wrap (la : Int) = la := u64_small la (by omega)
        obtain ⟨er, ew, eu, ei⟩ := ent_num (az j).key h1 h2
        have hv := uN_lt (az j).n
        have hk64 : kN (az j).key la < 18446744073709551616 := Nat.lt_trans hkz (Nat.lt_of_le_of_lt h2 (by decide))
        have hcell := hcy _ (under.below_step hS.bel (new_block wr (.cells #[.int .i64 (az j).kind, .int .i64 (az j).key, .int .i64 (az j).n] 64)))
        have hok := hRep.1.ok
        have HPut := Lib.hid (show ∃ M', Rep hz (t.puts (kN (az j).key la) (hz (kN (az j).key la)) (uN (az j).n)) M' from by
          have hp := hRep.puts (key := kN (az j).key la) (v := uN (az j).n) hk64 hh hv
          by_cases hc : (M (kN (az j).key la)).isSome = true ∨ 1 ≤ t.left
          · exact ⟨_, (hp.1 hc).1⟩
          · have h1' : (M (kN (az j).key la)).isSome = false := by
              cases hm : (M (kN (az j).key la)).isSome
              · rfl
              · exact absurd (.inl hm) hc
            rw [(hp.2 h1' (by omega)).1]; exact ⟨M, hRep⟩)
        have HDel := Lib.hid (show ∃ M', Rep hz (t.remove (kN (az j).key la) (hz (kN (az j).key la))) M' from ⟨_, hRep.remove _⟩)
        have HTk := Lib.hid (show ∀ i, i < t.n → ∃ M', Rep hz (tk t i 8) M' from fun i hi => Rep.tk hRep hi 8 (by omega))
        have HRep := Lib.hid hRep
        have hr := World.alloc_heap_new wr (.cells #[.int .i64 (az j).kind, .int .i64 (az j).key, .int .i64 (az j).n] 64)
        have x0 : (wr.alloc (.cells #[.int .i64 (az j).kind, .int .i64 (az j).key, .int .i64 (az j).n] 64)).cell? ⟨wr.heap.size, 0, none⟩ = some (.int .i64 (az j).kind) := by rw [cell_of_row _ _ _ _ _ _ hr]; rfl
        have x1 : (wr.alloc (.cells #[.int .i64 (az j).kind, .int .i64 (az j).key, .int .i64 (az j).n] 64)).cell? ⟨wr.heap.size, 1, none⟩ = some (.int .i64 (az j).key) := by rw [cell_of_row _ _ _ _ _ _ hr]; rfl
        have x2 : (wr.alloc (.cells #[.int .i64 (az j).kind, .int .i64 (az j).key, .int .i64 (az j).n] 64)).cell? ⟨wr.heap.size, 2, none⟩ = some (.int .i64 (az j).n) := by rw [cell_of_row _ _ _ _ _ _ hr]; rfl
        have HS := Lib.hid hS
        have HTN := Lib.hid htn
        have HKJ := Lib.hid hkj
        clear hS htn HO hcs hr b1 b2 b3 b4 hRep hkj hcy
        generalize kN (az j).key la = ki at *
        generalize uN (az j).n = vn at *
        generalize uN (az j).key = uk at *
        generalize hz ki = hash at *
        generalize (az j).kind = kd at *
        generalize (az j).key = ky at *
        generalize (az j).n = nn at *
        have hc2 := fun o => keepc (new_block _ o) hcell
        go_upto_region 11 with (fail)
        go_region
        have hbw := under.below_step (two_new wr (.cells #[.int .i64 kd, .int .i64 ky, .int .i64 nn] 64) (.cells #[.int .u64 (ki : Nat), .int .u64 (vn : Nat), .int .u64 (hash : Nat)] 60)) (under.drew_below _)
        have hbd := under.below_step (new_block (wr.alloc (.cells #[.int .i64 kd, .int .i64 ky, .int .i64 nn] 64)) (.cells #[.int .u64 (ki : Nat), .int .u64 (vn : Nat), .int .u64 (hash : Nat)] 60)) (under.drew_below _)
        have hM : Mp w a T B t f t k n wr.heap.size (wr.heap.size + 1) ki hash vn kd ky nn ((wr.alloc (.cells #[.int .i64 kd, .int .i64 ky, .int .i64 nn] 64)).alloc (.cells #[.int .u64 (ki : Nat), .int .u64 (vn : Nat), .int .u64 (hash : Nat)] 60)).drew :=
          ⟨HS.out.read hbw, (EBox.second ki vn hash wr (.cells #[.int .i64 kd, .int .i64 ky, .int .i64 nn] 64)).keep (under.drew_below _), keepc hbd x0, keepc hbd x1, keepc hbd x2, HTN.out, by omega, fun x hx => HS.out.lts x (by rw [HTN.out]; exact hx)⟩
        have HM := Lib.hid hM
        clear hbw hbd hM x0 x1 x2 hcell hc2 c0 c1 c2 e1 e2 e3 er ew eu ei HS
        generalize ((wr.alloc (.cells #[.int .i64 kd, .int .i64 ky, .int .i64 nn] 64)).alloc (.cells #[.int .u64 (ki : Nat), .int .u64 (vn : Nat), .int .u64 (hash : Nat)] 60)).drew = w5 at *
        generalize wr.heap.size = X at *
        have hkb : k + 64 < 9223372036854775807 := by have := HKJ.out; omega
        have y0 := HM.out.e.c0
        have y1 := HM.out.e.c1
        have y2 := HM.out.e.c2
        have z0 := HM.out.c0
        have z2 := HM.out.c2
        have hlk := looks_le t ki hash
        have hn6 := okN_le hok.n
        by_cases h0 : kd = 0
        · subst h0
          as_aux_lemma =>
            have cP := fun W (s : Two w a T B .nil Mt.zero t f t k W) => put_tab s.rd ki hash vn hk64 hh hv
            simp only [Ln.p, see_nil] at cP
            have cQ := fun W t2 (s : Two w a T B .nil Mt.zero t2 f t k W) => rtput_any f t hok k ki vn hash hkb hh W s.wa
            have hro := hok.puts (key := ki) (hs := hash) (v := vn) hk64 hh hv
            have hrn := puts_n t ki hash vn
            generalize putE' t ki hash = pe at *
            generalize putB' t ki hash = pb at *
            generalize t.puts ki hash vn = t' at *
            generalize table.looks t ki hash = lk at *
            go_wp2_with (first
              | (go_at_call 22; (with_reducible refine (cP _ HM.out.two).mono ?_); rintro e w6 ⟨rfl, hs6⟩; have P6 := HM.out.tl hs6 hro hrn; have u0 := P6.e.c0; have u1 := P6.e.c1; have u2 := P6.e.c2)
              | (go_at_call 24; (with_reducible refine (cQ _ _ P6.two).mono ?_); rintro e w7 ⟨rfl, hs7⟩; have P7 := P6.ref hs7 hrn))
            go_roundw
            case rel =>
              obtain ⟨M', hM'⟩ := HPut.out
              exact ⟨j + 1, by omega, by simp, Lib.hid ⟨t', k + lk, M', by have := HKJ.out; omega, hrn.trans HTN.out, hM', P7.two⟩⟩
            case measure => simp [intOf]; omega
        · have q0 : (kd == 0) = false := beq_eq_false_iff_ne.2 h0
          clear h0
          by_cases h1' : kd = 1
          · subst h1'
            as_aux_lemma =>
              have cP := fun W (s : Two w a T B .nil Mt.zero t f t k W) => delete_tab s.rd ki hash hk64 hh
              simp only [Ln.p, see_nil] at cP
              have cQ := fun W t2 (s : Two w a T B .nil Mt.zero t2 f t k W) => rtdelete_any f t hok k ki hash hkb hh W s.wa
              have hro := hok.remove (key := ki) (hs := hash)
              have hrn := remove_n t ki hash
              generalize (entOf t ki hash).key = ek at *
              generalize (entOf t ki hash).val = ev at *
              generalize (entOf t ki hash).hash = eh at *
              generalize isThere t ki hash = it at *
              generalize t.remove ki hash = t' at *
              generalize table.looks t ki hash = lk at *
              go_wp2_with (first
                | (go_at_call 25; (with_reducible refine (cP _ HM.out.two).mono ?_); rintro e w6 ⟨rfl, hs6⟩; have P6 := HM.out.tl hs6 hro hrn; have u0 := P6.e.c0; have u1 := P6.e.c1; have u2 := P6.e.c2)
                | (go_at_call 26; (with_reducible refine (cQ _ _ P6.two).mono ?_); rintro e w7 ⟨rfl, hs7⟩; have P7 := P6.ref hs7 hrn))
              go_roundw
              case rel =>
                obtain ⟨M', hM'⟩ := HDel.out
                exact ⟨j + 1, by omega, by simp, Lib.hid ⟨t', k + lk, M', by have := HKJ.out; omega, hrn.trans HTN.out, hM', P7.two⟩⟩
              case measure => simp [intOf]; omega
          · have q1 : (kd == 1) = false := beq_eq_false_iff_ne.2 h1'
            clear h1'
            by_cases h3' : kd = 3
            · subst h3'
              by_cases hi : nn < 0 ∨ (t.n : Int) ≤ nn
              · as_aux_lemma =>
                  have cP := fun W (s : Two w a T B .nil Mt.zero t f t k W) => take_off s.rd nn hi
                  simp only [Ln.p] at cP
                  have cQ := fun W t2 (s : Two w a T B .nil Mt.zero t2 f t k W) => rttake_off f t k nn hi W s.wa
                  have HPI := Lib.hid hi
                  clear hi
                  go_wp2_with (first
                    | (go_at_call 27; (with_reducible refine (cP _ HM.out.two).mono ?_); rintro e w6 ⟨rfl, hb6⟩; have P6 := HM.out.keep hb6; have u2 := P6.c2)
                    | (go_at_call 28; (with_reducible refine (cQ _ _ P6.two).mono ?_); rintro e w7 ⟨rfl, hs7⟩; have P7 := P6.ref hs7 rfl))
                  go_roundw
                  case rel => exact ⟨j + 1, by omega, by simp, Lib.hid ⟨t, k, M, by have := HKJ.out; omega, HTN.out, HRep.out, P7.two⟩⟩
                  case measure => simp [intOf]; omega
              · as_aux_lemma =>
                  obtain ⟨i, hni⟩ : ∃ i : Nat, nn = i := ⟨nn.toNat, by omega⟩
                  subst hni
                  have hit : i < t.n := by omega
                  have cP := fun W (s : Two w a T B .nil Mt.zero t f t k W) => take_in s.rd i hit
                  simp only [Ln.p, show Ln.nil.one Mt.zero = Mt.zero from rfl] at cP
                  have cQ := fun W t2 (s : Two w a T B .nil Mt.zero t2 f t k W) => rttake_any f t hok.n k i hit hkb W s.wa
                  have hro := tk_ok hok hit 8 (by omega)
                  have hrn := tk_n t i 8
                  have HTi := Lib.hid (HTk.out i hit)
                  clear hi hit HTk
                  generalize tk t i 8 = t' at *
                  go_wp2_with (first
                    | (go_at_call 27; (with_reducible refine (cP _ HM.out.two).mono ?_); rintro e w6 ⟨v1, rfl, hK1, hs6⟩; clear hK1; have P6 := HM.out.tl hs6 hro hrn; have u2 := P6.c2)
                    | (go_at_call 28; (with_reducible refine (cQ _ _ P6.two).mono ?_); rintro e w7 ⟨v2, rfl, hK2, hs7⟩; clear hK2; have P7 := P6.ref hs7 hrn))
                  go_roundw
                  case rel =>
                    obtain ⟨M', hM'⟩ := HTi.out
                    exact ⟨j + 1, by omega, by simp, Lib.hid ⟨t', k + 1, M', by have := HKJ.out; omega, hrn.trans HTN.out, hM', P7.two⟩⟩
                  case measure => simp [intOf]; omega
            · have q3 : (kd == 3) = false := beq_eq_false_iff_ne.2 h3'
              clear h3'
              as_aux_lemma =>
                go_wp2
                go_roundw
                case rel => exact ⟨j + 1, by omega, by simp, Lib.hid ⟨t, k, M, by have := HKJ.out; omega, HTN.out, HRep.out, HM.out.two⟩⟩
                case measure => simp [intOf]; omega
    · obtain rfl : j = lb := by omega
      go_wp2
      go_ret2
      exact ⟨T, B, f, rfl, HO.out⟩
end Go.Proofs.YtpllkopllhldcaaGreatDoor.sound

/-! ### sound: the chapter's example (amblerlaw10.alive). -/
namespace Go.Proofs.YtpllkopllhldcaaGreatDoor.sound
open Go.ChangeShapes Go.WideShapes Go.ChangeAt Go.RowKit Go.Shelf swar under trap meter group probe lens tail call table
attribute [local go_sem] Oper.semAt_some stage.pureUpon move.stepUpon
set_option linter.unusedSimpArgs false
set_option linter.unusedVariables false

theorem okN_1 : okN 1 := by unfold okN; decide
def aliveS : Nat → Tb
  | 0 => Tb.new 1
  | k + 1 => (aliveS k).puts k k 0
theorem aliveS_rep : ∀ k, k ≤ 3 → ∃ M, Rep (fun x => x) (aliveS k) M ∧ (aliveS k).left = 7 - (k : Int) ∧ ∀ x, k ≤ x → M x = none
  | 0, _ => ⟨_, .new okN_1 _, rfl, fun _ _ => rfl⟩
  | k + 1, hk => by
    obtain ⟨M, h1, h2, h3⟩ := aliveS_rep k (by omega)
    have hp := h1.puts (key := k) (v := 0) (by omega) (by show k < _; omega) (by decide)
    refine ⟨_, (hp.1 (.inr (by omega))).1, ?_, fun x hx => ?_⟩
    · have : ∀ k : Fin 3, (aliveS (k.val + 1)).left = 7 - ((k.val + 1 : Nat) : Int) := by decide +kernel
      exact this ⟨k, by omega⟩
    · rw [set_ne _ _ (by omega)]; exact h3 x (by omega)
theorem aliveS_put : ∀ k : Fin 3, putB' (aliveS k.val) k.val k.val = true ∧ putE' (aliveS k.val) k.val k.val = 0 := by decide +kernel
theorem aliveS_shape : (cntT 3 (aliveS 3), cntT 2 (aliveS 3), cntT 1 (aliveS 3), oc (aliveS 3) (aliveS 3).n, mx (lks (aliveS 3) (ents (aliveS 3) (aliveS 3).n)), (lks (aliveS 3) (ents (aliveS 3) (aliveS 3).n)).sum) = (3, 0, 5, 1, 1, 3) := by decide +kernel
/-- a table made by the call, and nothing else written -/
structure RS (w : World) (a : String → Addr) (T B : Nat) (t : Tb) (W : World) : Prop where
  rd : Ready a T B t .nil Mt.zero W
  bel : Below w.heap.size w W
  hT : w.heap.size ≤ T
  hB : w.heap.size ≤ B
theorem RS.tl {w : World} {a : String → Addr} {T B : Nat} {t t' : Tb} {W W' : World} (h : RS w a T B t W) (hs : TL T B t' .nil Mt.zero W W') (ok : t'.Ok) : RS w a T B t' W' :=
  ⟨h.rd.tl hs ok, h.bel.trans (hs.ln.past.below h.bel.size fun b hb => by
    rcases List.mem_append.1 hb with hb | hb
    · rcases List.mem_cons.1 hb with rfl | hb
      · exact h.hT
      · obtain rfl : b = B := by simpa using hb
        exact h.hB
    · cases hb), h.hT, h.hB⟩
set_option maxRecDepth 20000 in
set_option maxHeartbeats 4000000 in
theorem alive_any (a : String → Addr) (w : World) (hw : Bs a w) : Calls Tryz.prog 6 #[] w fun e w' => e = .returned (.bool true) ∧ Below w.heap.size w w' := by
  have HW := Lib.hid hw
  clear hw
  have hpt := ptr_tab ⟨w.heap.size + 1, 0, none⟩
  go_enter Tryz.func6, Tryz.ntmps6
  go_wp2_with (fail)
  refine (new_yes 1 okN_1 _).mono ?_
  rintro e w2 ⟨rfl, ht2, hb2⟩
  have HI := Lib.hid (show RS w a (w.heap.size + 1) w.heap.size (aliveS 0) w2 from
    ⟨⟨ht2, Tb.Ok.new okN_1, trivial, Apart.nil _ _, HW.out.bits.below hb2 HW.out.bits.lt, (fun b hb => by cases hb), by have := HW.out.far; omega, HW.out.far, HW.out.errs.below hb2⟩, hb2, by omega, Nat.le_refl _⟩)
  clear ht2 hb2
  go_wp2_with (fail)
  generalize w.heap.size + 1 = T at HI ⊢
  obtain ⟨B, hBe⟩ : ∃ B, w.heap.size = B := ⟨_, rfl⟩
  have HI2 := Lib.hid (show RS w a T B (aliveS 0) w2 from by rw [← hBe]; exact HI.out)
  clear HI hBe hpt
  go_loopw [16] (fun i wr => ∃ k : Nat, k ≤ 3 ∧ i = .int .u64 k ∧ Hid (RS w a T B (aliveS k) wr)) (fun i _ => 3 - (intOf i).toNat)
  case atStart => exact ⟨0, by omega, rfl, HI2⟩
  case round =>
    obtain ⟨k, hk, rfl, HR⟩ := hrel
    clear HI2
    rcases Nat.lt_or_ge k 3 with h3 | h3
    · have hki : (k : Int) < 3 := by omega
      have cP := fun W (s : RS w a T B (aliveS k) W) => put_tab s.rd k k 0 (by omega) (by omega) (by decide)
      simp only [Ln.p, see_nil] at cP
      obtain ⟨e1, e2⟩ := aliveS_put ⟨k, h3⟩
      simp only at e1 e2
      rw [e1, e2, show errAt a 0 = .nilIface from rfl, show (aliveS k).puts k k 0 = aliveS (k + 1) from rfl] at cP
      obtain ⟨M, hM, _, _⟩ := aliveS_rep (k + 1) (by omega)
      have hok := hM.1.ok
      have ew : IntKind.u64.wrap ((k : Int) + 1) = ((k + 1 : Nat) : Int) := by rw [IntKind.wrap_u64]; omega
      clear e1 e2 hM
      obtain ⟨t', ht'⟩ : ∃ t', aliveS (k + 1) = t' := ⟨_, rfl⟩
      rw [ht'] at cP hok
      have HT := Lib.hid ht'
      clear ht'
      go_wp2_with (go_at_call 22; refine (cP _ HR.out).mono ?_; rintro e w3 ⟨rfl, hs3⟩; have hS3 := HR.out.tl hs3 hok)
      go_roundw
      case rel => exact ⟨k + 1, by omega, by simp, Lib.hid (by rw [HT.out]; exact hS3)⟩
      case measure => simp [intOf]; omega
    · obtain rfl : k = 3 := by omega
      obtain ⟨M, hM, _, _⟩ := aliveS_rep 3 (by omega)
      have cC := check_any HR.out.rd hM.1
      have cL := fun W (hb : Below wr.heap.size wr W) => look_sound (HR.out.rd.below hb)
      have hs := aliveS_shape
      simp only [Prod.mk.injEq] at hs
      obtain ⟨e1, e2, e3, e4, e5, e6⟩ := hs
      unfold shapeOf at cL
      rw [e1, e2, e3, e4, e5, e6] at cL
      clear e1 e2 e3 e4 e5 e6 hM
      go_wp2_with (first
        | (go_at_call 14; (with_reducible refine cC.mono ?_); rintro e w3 ⟨rfl, hb3⟩)
        | (go_at_call 9; (with_reducible refine (cL _ hb3).mono ?_); rintro e w4 ⟨rfl, hb4⟩))
      go_ret
      exact ⟨rfl, under.below_step HR.out.bel (under.below_step hb3 hb4)⟩
end Go.Proofs.YtpllkopllhldcaaGreatDoor.sound

/-! ### sound: what is asked of the program's variables, out of what a row lists. -/
namespace Go.Proofs.YtpllkopllhldcaaGreatDoor.sound
open swar table
/-- the errors that a table reads -/
def names8 : List String := ["ambler/api.ErrRange", "ambler/api.ErrFull", "ambler/api.ErrForm", "ambler/api.ErrNone", "ambler/api.ErrState", "ambler/api.ErrBroken", "ambler/api.ErrKind", "ambler/api.ErrDup"]
theorem nm8 {i : Nat} (h : i < 8) : names8[i]'h ∈ names8 := List.getElem_mem _
theorem gErrFull : Tryz.prog.globalNamed "ambler/api.ErrFull" = some 3 := by kernel_rfl
theorem Bs.of8 {a : String → Addr} {w : World} (h : errs.ErrsOk names8 a w) (hT : TabOk w) : Bs a w :=
  ⟨⟨⟨h.at errs.gErrRange (nm8 (i := 0) (by decide)), h.at errs.gErrState (nm8 (i := 4) (by decide))⟩, h.at gErrFull (nm8 (i := 1) (by decide)), h.at errs.gErrNone (nm8 (i := 3) (by decide)), h.at errs.gErrKind (nm8 (i := 6) (by decide)), h.at errs.gErrDup (nm8 (i := 7) (by decide))⟩, hT, hT.lt⟩
theorem Bs.of {a : String → Addr} {w : World} (h : Base a w) : Bs a w := ⟨errs6 h.errs, h.bits, h.far⟩
end Go.Proofs.YtpllkopllhldcaaGreatDoor.sound
