/- SoundA: several texts in one: plain facts and laws for the walks. No program is named. -/
import Derived.Test.YtibcokiijlamcaaGreatDoorTabMath
import Derived.Test.YtibcokiijlamcaaGreatDoorTabRef
import Derived.Lib.Bytealg
import Derived.Test.YtibcokiijlamcaaGreatDoorTableSpots2
import Derived.LoopTactic
import Derived.Test.YtibcokiijlamcaaGreatDoorProbe

/-! ### sound: a table's shape, its entries one by one, the path of a hash. No function is walked here. -/
namespace Go.Proofs.YtibcokiijlamcaaGreatDoor.sound
open group probe swar table
set_option linter.unusedSimpArgs false
set_option linter.unusedVariables false

/-! ### the signs of a group -/
theorem sg (s : Sl) (h : s.Ok) (k : Nat) (c : UInt8) (hk : (k = 1 ∧ c = 46) ∨ (k = 2 ∧ c = 120) ∨ (k = 3 ∧ c = 35)) : (ctrl.sgB (byt s) == c) = decide (s.kind = k) := by
  rcases h.kind with e | e | e
  · rw [sgB_1 e, e]; rcases hk with ⟨rfl, rfl⟩ | ⟨rfl, rfl⟩ | ⟨rfl, rfl⟩ <;> rfl
  · rw [sgB_2 e, e]; rcases hk with ⟨rfl, rfl⟩ | ⟨rfl, rfl⟩ | ⟨rfl, rfl⟩ <;> rfl
  · rw [sgB_3 e, e]; rcases hk with ⟨rfl, rfl⟩ | ⟨rfl, rfl⟩ | ⟨rfl, rfl⟩ <;> rfl
def txt (g : Gp) : ByteArray := ctrl.textN (word g)
theorem txt_list (g : Gp) : (txt g).data.toList = [ctrl.sgB (byt (g 0)), ctrl.sgB (byt (g 1)), ctrl.sgB (byt (g 2)), ctrl.sgB (byt (g 3)), ctrl.sgB (byt (g 4)), ctrl.sgB (byt (g 5)), ctrl.sgB (byt (g 6)), ctrl.sgB (byt (g 7))] := by
  unfold txt ctrl.textN
  rw [ln_word g (by decide), ln_word g (by decide), ln_word g (by decide), ln_word g (by decide), ln_word g (by decide), ln_word g (by decide), ln_word g (by decide), ln_word g (by decide)]
theorem txt_size (g : Gp) : (txt g).size = 8 := rfl
theorem txt_count {g : Gp} (h : g.Ok) {k : Nat} {c : UInt8} (hk : (k = 1 ∧ c = 46) ∨ (k = 2 ∧ c = 120) ∨ (k = 3 ∧ c = 35)) : Lib.countByte (txt g).data.toList c = count k g := by
  unfold Lib.countByte
  rw [txt_list]
  simp only [List.count_cons, List.count_nil, sg _ (h _) k c hk]
  unfold count cntB is
  have e : ∀ b : Bool, (if b = true then 1 else 0) = b.toNat := fun b => by cases b <;> rfl
  simp only [e]
  omega
theorem index_has {c : UInt8} : ∀ l : List UInt8, decide (0 ≤ Lib.indexByte l c) = l.any (· == c)
  | [] => rfl
  | b :: l => by
    have ih := index_has l (c := c)
    have hg := Lib.indexByte_ge l c
    unfold Lib.indexByte
    rw [List.any_cons]
    cases hb : b == c
    · rw [if_neg (by decide), Bool.false_or, ← ih]
      by_cases hm : Lib.indexByte l c = -1
      · rw [hm]; rfl
      · rw [if_neg (by simpa using hm)]
        rw [decide_eq_decide]; omega
    · rfl
theorem txt_open {g : Gp} (h : g.Ok) : decide (0 ≤ Lib.indexByte (txt g).data.toList 46) = opens g := by
  rw [index_has, txt_list]
  simp only [List.any_cons, List.any_nil, sg _ (h _) 1 46 (.inl ⟨rfl, rfl⟩)]
  unfold opens is
  simp only [Bool.or_false, Bool.or_assoc]

/-! ### a shape -/
def oc (t : Tb) (k : Nat) : Nat := sumN k fun i => (opens (t.gs i)).toNat
theorem kinds (t : Tb) (h : t.Ok) : cntT 3 t + cntT 2 t + cntT 1 t = 8 * t.n := by
  have e : sumN t.n (fun i => (count 3 (t.gs i) + count 2 (t.gs i)) + count 1 (t.gs i)) = 8 * t.n := by
    apply Nat.le_antisymm
    · exact sumN_le fun i hi => by have := kinds8 (h.gs i); omega
    · exact sumN_ge fun i hi => by have := kinds8 (h.gs i); omega
  rw [sumN_add, sumN_add] at e
  exact e
theorem oc_le (t : Tb) : ∀ k, oc t k ≤ k
  | 0 => Nat.le_refl _
  | k + 1 => by
    have := oc_le t k
    have : (opens (t.gs k)).toNat ≤ 1 := by cases opens (t.gs k) <;> decide
    unfold oc at *
    simp only [sumN]; omega
theorem oc_pos {t : Tb} (h : t.Ok) : 0 < oc t t.n := by
  obtain ⟨i, hi, ho⟩ := some_open h
  have : ∀ n, i < n → 0 < oc t n := by
    intro n
    induction n with
    | zero => intro h; omega
    | succ n ih =>
      intro hn
      unfold oc; simp only [sumN]
      by_cases e : i = n
      · subst e; rw [ho]; simp
      · have := ih (by omega); unfold oc at this; omega
  exact this _ hi
def lks (t : Tb) (l : List Sl) : List Nat := l.map fun e => looks t e.key e.hash
def mx (l : List Nat) : Nat := l.foldl max 0
theorem mx_snoc (l : List Nat) (x : Nat) : mx (l ++ [x]) = max (mx l) x := by unfold mx; rw [List.foldl_append]; rfl
theorem lks_snoc (t : Tb) (l : List Sl) (e : Sl) : lks t (l ++ [e]) = lks t l ++ [looks t e.key e.hash] := by simp [lks]
theorem mx_le {n : Nat} : ∀ {l : List Nat} {a : Nat}, a ≤ n → (∀ x ∈ l, x ≤ n) → l.foldl max a ≤ n
  | [], _, ha, _ => ha
  | x :: l, a, ha, h => mx_le (l := l) (a := max a x) (by have := h x (by simp); omega) fun y hy => h y (by simp [hy])
theorem lks_le (t : Tb) (l : List Sl) : ∀ x ∈ lks t l, x ≤ t.n := by
  intro x hx
  obtain ⟨e, _, rfl⟩ := List.mem_map.1 hx
  exact looks_le t _ _
theorem longest_le (t : Tb) (l : List Sl) : mx (lks t l) ≤ t.n := mx_le (Nat.zero_le _) (lks_le t l)
theorem sum_le {n : Nat} : ∀ {l : List Nat}, (∀ x ∈ l, x ≤ n) → l.sum ≤ n * l.length
  | [], _ => by simp
  | x :: l, h => by
    have := sum_le (l := l) fun y hy => h y (by simp [hy])
    have := h x (by simp)
    rw [List.sum_cons, List.length_cons, Nat.mul_succ]; omega
theorem sum_ge : ∀ {l : List Nat}, (∀ x ∈ l, 1 ≤ x) → l.length ≤ l.sum
  | [], _ => by simp
  | x :: l, h => by
    have := sum_ge (l := l) fun y hy => h y (by simp [hy])
    have := h x (by simp)
    rw [List.sum_cons, List.length_cons]; omega
theorem lks_sum_ge (t : Tb) (hn : okN t.n) (l : List Sl) : l.length ≤ (lks t l).sum := by
  have := sum_ge (l := lks t l) fun x hx => by
    obtain ⟨e, _, rfl⟩ := List.mem_map.1 hx
    exact looks_pos t _ _ hn
  simpa [lks] using this
theorem lks_sum_le (t : Tb) (l : List Sl) : (lks t l).sum ≤ t.n * l.length := by
  have := sum_le (lks_le t l)
  simpa [lks] using this
theorem fulls_count (g : Gp) : (fulls g).length = count 3 g := by
  have e : ∀ (p : Nat → Bool) (l : List Nat), (l.filter p).length = (l.map fun k => (p k).toNat).sum := by
    intro p l
    induction l with
    | nil => rfl
    | cons k l ih =>
      rw [List.map_cons, List.sum_cons]
      cases hp : p k
      · rw [List.filter_cons_of_neg (by rw [hp]; decide), ih]; simp
      · rw [List.filter_cons_of_pos hp, List.length_cons, ih]; simp; omega
  unfold fulls
  rw [e]
  show (is 3 g 0).toNat + ((is 3 g 1).toNat + ((is 3 g 2).toNat + ((is 3 g 3).toNat + ((is 3 g 4).toNat + ((is 3 g 5).toNat + ((is 3 g 6).toNat + ((is 3 g 7).toNat + 0))))))) = count 3 g
  unfold count cntB
  omega
theorem ents_count (t : Tb) : ∀ k, (ents t k).length = sumN k fun i => count 3 (t.gs i)
  | 0 => rfl
  | k + 1 => by
    rw [ents_succ, List.length_append, ents_count t k]
    simp only [sumN]
    rw [show (entsG (t.gs k)).length = count 3 (t.gs k) from by unfold entsG; rw [List.length_map, fulls_count]]
theorem ents_length (t : Tb) : (ents t t.n).length = cntT 3 t := ents_count t t.n

/-! ### entries are found, and no two have one key -/
def at_ (t : Tb) (p : Nat × Nat) : Sl := t.gs p.1 p.2
def poss (t : Tb) (n : Nat) : List (Nat × Nat) := (List.range n).flatMap fun i => (fulls (t.gs i)).map fun k => (i, k)
theorem ents_poss (t : Tb) (n : Nat) : ents t n = (poss t n).map (at_ t) := by
  unfold ents poss entsG
  rw [List.map_flatMap]
  congr 1
  funext i
  rw [List.map_map]; rfl
theorem poss_mem {t : Tb} {p : Nat × Nat} (h : p ∈ poss t t.n) : Stands t (at_ t p).key p.1 p.2 := by
  unfold poss at h
  obtain ⟨i, hi, h⟩ := List.mem_flatMap.1 h
  obtain ⟨k, hk, rfl⟩ := List.mem_map.1 h
  exact ⟨List.mem_range.1 hi, fulls_lt hk, fulls_kind hk, rfl⟩
theorem poss_nodup (t : Tb) (n : Nat) : (poss t n).Pairwise (· ≠ ·) := by
  unfold poss
  rw [List.pairwise_flatMap]
  refine ⟨fun i _ => ?_, ?_⟩
  · rw [List.pairwise_map]
    have h : (fulls (t.gs i)).Pairwise (· ≠ ·) := List.Pairwise.filter _ (by decide)
    exact h.imp fun hab e => hab (Prod.mk.inj e).2
  · have h : (List.range n).Pairwise (· ≠ ·) := List.nodup_range
    refine h.imp fun {a b} hab x hx y hy e => hab ?_
    obtain ⟨_, _, rfl⟩ := List.mem_map.1 hx
    obtain ⟨_, _, rfl⟩ := List.mem_map.1 hy
    exact (Prod.mk.inj e).1
theorem ents_keys {H : Nat → Nat} {t : Tb} (h : Inv H t) : (ents t t.n).Pairwise fun a b => a.key ≠ b.key := by
  rw [ents_poss, List.pairwise_map]
  refine (poss_nodup t t.n).imp_of_mem fun {a b} ha hb hab e => hab ?_
  have h1 := poss_mem ha
  have h2 := poss_mem hb
  rw [← e] at h2
  obtain ⟨e1, e2⟩ := h.uniq _ _ _ _ _ h1 h2
  exact Prod.ext e1 e2
theorem ents_found {H : Nat → Nat} {t : Tb} (h : Inv H t) {e : Sl} (he : e ∈ ents t t.n) : isThere t e.key e.hash = true ∧ entOf t e.key e.hash = e := by
  obtain ⟨i, k, hi, hk, h3, rfl⟩ := mem_ents.1 he
  have hs : Stands t (t.gs i k).key i k := ⟨hi, hk, h3, rfl⟩
  have hh := h.hash _ _ _ hs
  obtain ⟨h1, h2⟩ := found h hs
  rw [hh]
  have ht : isThere t (t.gs i k).key (H (t.gs i k).key) = true := by unfold isThere; rw [h2]; simp
  refine ⟨ht, ?_⟩
  unfold entOf
  rw [if_pos ht, h1, h2]; rfl
theorem ents_ok {t : Tb} (h : t.Ok) {e : Sl} (he : e ∈ ents t t.n) : e.Ok ∧ e.kind = 3 := by
  obtain ⟨i, k, hi, hk, h3, rfl⟩ := mem_ents.1 he
  exact ⟨h.gs i k, h3⟩

/-! ### a path -/
def po (t : Tb) (h : Nat) : List Nat := table.seen (fun i => opens (t.gs i)) (path t h)
theorem po_prefix (t : Tb) (h : Nat) : po t h <+: path t h := seen_prefix _ _
theorem po_ne {t : Tb} (h : Nat) (hn : okN t.n) : po t h ≠ [] := by
  have hl : (path t h).length = t.n := wl_length _ _
  have hp := okN_pos hn
  unfold po
  cases e : path t h with
  | nil => rw [e] at hl; simp at hl; omega
  | cons i l => unfold table.seen; split <;> simp
theorem po_le (t : Tb) (h : Nat) : (po t h).length ≤ t.n := by
  have := (po_prefix t h).length_le
  rwa [show (path t h).length = t.n from wl_length _ _] at this
theorem po_lt {t : Tb} {h i : Nat} (hn : okN t.n) (hi : i ∈ po t h) : i < t.n := path_lt hn ((po_prefix t h).subset hi)

/-! ### Take: a row of removes -/
theorem Rep.tk {H : Nat → Nat} {t : Tb} {M : Nat → Option Nat} (h : Rep H t M) {a : Nat} (ha : a < t.n) : ∀ k, k ≤ 8 → ∃ M', Rep H (table.tk t a k) M'
  | 0, _ => ⟨M, h⟩
  | k + 1, hk => by
    obtain ⟨M', h'⟩ := Rep.tk h ha k (by omega)
    rw [tk_succ]
    split
    · next h3 => exact ⟨_, h'.era (key := ((table.tk t a k).gs a k).key) ⟨by rw [tk_n]; exact ha, by omega, h3, rfl⟩⟩
    · exact ⟨M', h'⟩
end Go.Proofs.YtibcokiijlamcaaGreatDoor.sound

/-! ### sound: strings.Count and strings.Contains at one byte; isOpen, slots, countsItsSlots. -/
namespace Go.Proofs.YtibcokiijlamcaaGreatDoor.sound
open Go.ChangeShapes Go.WideShapes Go.ChangeAt Go.RowKit Go.Shelf swar under trap meter group probe lens tail call table
attribute [local go_sem] Oper.semAt_some stage.pureUpon move.stepUpon
set_option linter.unusedSimpArgs false
set_option linter.unusedVariables false

set_option maxRecDepth 100000 in
theorem count_one (s : ByteArray) (c : UInt8) (w : World) :
    Calls Tryz.prog 119 #[.string s, .string ⟨#[c]⟩] w fun e w' => e = .returned (.int .i64 (Lib.countByte s.data.toList c : Nat)) ∧ w' = w := by
  have hC : ∀ w, (callFunc 136 #[.string s, .int .u8 (c.toNat : Nat)]).run Tryz.prog w = .ok (.value (.int .i64 (Lib.countByte s.data.toList c : Nat))) w := fun w => by
    rw [run_callFunc_extern Tryz.func136 (by kernel_rfl) (by kernel_rfl) (by kernel_rfl) (e := Extern.BytealgCount.count) (by kernel_rfl), Lib.run_countString]
    simp
  have hC' : ∀ w, (callFunc 136 #[.string s, .int .u8 (((⟨#[c]⟩ : ByteArray)[0]'(by show 0 < 1; decide)).toNat : Nat)]).run Tryz.prog w = .ok (.value (.int .i64 (Lib.countByte s.data.toList c : Nat))) w := hC
  clear hC
  go_enter Tryz.func119, Tryz.ntmps119
  go_wp2
  go_ret
  exact ⟨rfl, rfl⟩
theorem open_txt (s : ByteArray) (hs : s.size = 8) (w : World) :
    Calls Tryz.prog 120 #[.string s] w fun e w' => e = .returned (.bool (decide (0 ≤ Lib.indexByte s.data.toList 46))) ∧ w' = w := by
  have hC : ∀ w, (callFunc 152 #[.string s, .int .u8 46]).run Tryz.prog w = .ok (.value (.int .i64 (Lib.indexByte s.data.toList 46))) w := fun w => by
    rw [run_callFunc_extern Tryz.func152 (by kernel_rfl) (by kernel_rfl) (by kernel_rfl) (e := Extern.BytealgIndexByte.indexByte) (by kernel_rfl), Lib.run_indexByteString]
    simp
  have hne : (([46] : List UInt8) == s.toList) = false := by
    rw [beq_eq_false_iff_ne]; intro e
    rw [ByteArray.toList_eq] at e
    have h1 : s.data.toList.length = 8 := hs
    rw [← e] at h1
    exact absurd h1 (by decide)
  generalize Lib.indexByte s.data.toList 46 = n at *
  have cB : ∀ w, Calls Tryz.prog 146 #[.string s, .int .u8 46] w fun e w' => e = .returned (.int .i64 n) ∧ w' = w := fun w => by
    go_enter Tryz.func146, Tryz.ntmps146
    go_wp2
    go_ret
    exact ⟨rfl, rfl⟩
  have cI : ∀ w, Calls Tryz.prog 142 #[.string s, .string ⟨#[46]⟩] w fun e w' => e = .returned (.int .i64 n) ∧ w' = w := fun w => by
    go_enter Tryz.func142, Tryz.ntmps142
    go_wp2_with (go_at_call 146; refine (cB _).mono ?_; rintro e w' ⟨rfl, rfl⟩)
    go_ret
    exact ⟨rfl, rfl⟩
  have cS : ∀ w, Calls Tryz.prog 137 #[.string s, .string ⟨#[46]⟩] w fun e w' => e = .returned (.int .i64 n) ∧ w' = w := fun w => by
    go_enter Tryz.func137, Tryz.ntmps137
    go_wp2_with (go_at_call 142; refine (cI _).mono ?_; rintro e w' ⟨rfl, rfl⟩)
    go_ret
    exact ⟨rfl, rfl⟩
  have cC : ∀ w, Calls Tryz.prog 138 #[.string s, .string ⟨#[46]⟩] w fun e w' => e = .returned (.bool (decide (0 ≤ n))) ∧ w' = w := fun w => by
    go_enter Tryz.func138, Tryz.ntmps138
    go_wp2_with (go_at_call 137; refine (cS _).mono ?_; rintro e w' ⟨rfl, rfl⟩)
    go_ret
    exact ⟨rfl, rfl⟩
  go_enter Tryz.func120, Tryz.ntmps120
  go_wp2_with (go_at_call 138; refine (cC _).mono ?_; rintro e w' ⟨rfl, rfl⟩)
  go_ret
  exact ⟨rfl, rfl⟩
theorem open_any (g : Gp) (h : g.Ok) (w : World) :
    Calls Tryz.prog 120 #[.string (txt g)] w fun e w' => e = .returned (.bool (opens g)) ∧ w' = w := by
  have := open_txt (txt g) (txt_size g) w
  rwa [txt_open h] at this
/-! ### slots -/
abbrev shV (a b c d e f : Nat) : Value := .agg #[.int .i64 (a : Nat), .int .i64 (b : Nat), .int .i64 (c : Nat), .int .i64 (d : Nat), .int .i64 (e : Nat), .int .i64 (f : Nat)]
/-- a box with a shape -/
structure ShBox (X a b c d e f : Nat) (W : World) : Prop where
  row : W.heap[X]? = some (.cells #[.int .i64 (a : Nat), .int .i64 (b : Nat), .int .i64 (c : Nat), .int .i64 (d : Nat), .int .i64 (e : Nat), .int .i64 (f : Nat)] 161 (0, 0))
section
variable {X a b c d e f : Nat} {W W' : World}
theorem ShBox.lt (h : ShBox X a b c d e f W) : X < W.heap.size := (Array.getElem?_eq_some_iff.1 h.row).1
theorem ShBox.keep (h : ShBox X a b c d e f W) (hb : Below W.heap.size W W') : ShBox X a b c d e f W' := ⟨(hb.block X h.lt).trans h.row⟩
theorem ShBox.past {l : List Nat} (h : ShBox X a b c d e f W) (hp : Past l W W') (hX : X ∉ l) : ShBox X a b c d e f W' := ⟨(hp.block X h.lt hX).trans h.row⟩
theorem ShBox.fz (h : ShBox X a b c d e f W) (i : Nat) : W.frozen? ⟨X, i, none⟩ = false := frozen_of_row _ _ i _ _ h.row
theorem ShBox.c0 (h : ShBox X a b c d e f W) : W.cell? ⟨X, 0, none⟩ = some (.int .i64 (a : Nat)) := by rw [cell_of_row _ _ _ _ _ _ h.row]; rfl
theorem ShBox.c1 (h : ShBox X a b c d e f W) : W.cell? ⟨X, 1, none⟩ = some (.int .i64 (b : Nat)) := by rw [cell_of_row _ _ _ _ _ _ h.row]; rfl
theorem ShBox.c2 (h : ShBox X a b c d e f W) : W.cell? ⟨X, 2, none⟩ = some (.int .i64 (c : Nat)) := by rw [cell_of_row _ _ _ _ _ _ h.row]; rfl
theorem ShBox.c3 (h : ShBox X a b c d e f W) : W.cell? ⟨X, 3, none⟩ = some (.int .i64 (d : Nat)) := by rw [cell_of_row _ _ _ _ _ _ h.row]; rfl
theorem ShBox.c4 (h : ShBox X a b c d e f W) : W.cell? ⟨X, 4, none⟩ = some (.int .i64 (e : Nat)) := by rw [cell_of_row _ _ _ _ _ _ h.row]; rfl
theorem ShBox.c5 (h : ShBox X a b c d e f W) : W.cell? ⟨X, 5, none⟩ = some (.int .i64 (f : Nat)) := by rw [cell_of_row _ _ _ _ _ _ h.row]; rfl
theorem ShBox.other (h : ShBox X a b c d e f W) {Y : Nat} (hY : X ≠ Y) (i : Nat) (u : Value) : ShBox X a b c d e f (W.setCell ⟨Y, i, none⟩ u) := ⟨(heap_setCell_other _ _ _ _ (show X ≠ Y from hY)).trans h.row⟩
theorem ShBox.set0 (h : ShBox X a b c d e f W) (x : Nat) : ShBox X x b c d e f (W.setCell ⟨X, 0, none⟩ (.int .i64 (x : Nat))) := ⟨heap_setCell_same W X 0 _ _ _ h.row⟩
theorem ShBox.set1 (h : ShBox X a b c d e f W) (x : Nat) : ShBox X a x c d e f (W.setCell ⟨X, 1, none⟩ (.int .i64 (x : Nat))) := ⟨heap_setCell_same W X 1 _ _ _ h.row⟩
theorem ShBox.set2 (h : ShBox X a b c d e f W) (x : Nat) : ShBox X a b x d e f (W.setCell ⟨X, 2, none⟩ (.int .i64 (x : Nat))) := ⟨heap_setCell_same W X 2 _ _ _ h.row⟩
theorem ShBox.set3 (h : ShBox X a b c d e f W) (x : Nat) : ShBox X a b c x e f (W.setCell ⟨X, 3, none⟩ (.int .i64 (x : Nat))) := ⟨heap_setCell_same W X 3 _ _ _ h.row⟩
theorem ShBox.set4 (h : ShBox X a b c d e f W) (x : Nat) : ShBox X a b c d x f (W.setCell ⟨X, 4, none⟩ (.int .i64 (x : Nat))) := ⟨heap_setCell_same W X 4 _ _ _ h.row⟩
theorem ShBox.set5 (h : ShBox X a b c d e f W) (x : Nat) : ShBox X a b c d e x (W.setCell ⟨X, 5, none⟩ (.int .i64 (x : Nat))) := ⟨heap_setCell_same W X 5 _ _ _ h.row⟩
end
theorem ShBox.new (W : World) : ShBox W.heap.size 0 0 0 0 0 0 (W.alloc (.cells #[.int .i64 0, .int .i64 0, .int .i64 0, .int .i64 0, .int .i64 0, .int .i64 0] 161)) := ⟨World.alloc_heap_new W _⟩
theorem KeptS.at_ {base : Nat} {W : World} {o : Option Addr} {n c : Nat} {l : List ByteArray} (h : KeptS base W (.slice o n c) l) : TextsAt o l W := by
  obtain ⟨o', c', e, hx⟩ := h.texts
  injection e with e1 _ _
  rw [e1]; exact hx
/-- within slots: the result's box X, the shape's box X + 1, the texts -/
structure Sl0 (w : World) (X : Nat) (v : Value) (l : List ByteArray) (a b c d : Nat) (W : World) : Prop where
  r : ShBox X 0 0 0 0 0 0 W
  s : ShBox (X + 1) a b c d 0 0 W
  tx : KeptS (X + 2) W v l
  bel : Below w.heap.size w W
  hX : w.heap.size = X
section
variable {w : World} {X : Nat} {v : Value} {l : List ByteArray} {a b c d : Nat} {W W' : World}
theorem Sl0.read (s : Sl0 w X v l a b c d W) (hb : Below W.heap.size W W') : Sl0 w X v l a b c d W' := ⟨s.r.keep hb, s.s.keep hb, row_below s.tx hb, under.below_step s.bel hb, s.hX⟩
theorem Sl0.put (s : Sl0 w X v l a b c d W) (i : Nat) (u : Value) {a' b' c' d' : Nat} (h : ShBox (X + 1) a' b' c' d' 0 0 (W.setCell ⟨X + 1, i, none⟩ u)) : Sl0 w X v l a' b' c' d' (W.setCell ⟨X + 1, i, none⟩ u) := by
  have p : Past [X + 1] W (W.setCell ⟨X + 1, i, none⟩ u) := (Past.refl [X + 1] W).store (p := ⟨X + 1, i, none⟩) (.inl (by simp)) _
  exact ⟨s.r.other (by omega) _ _, h, row_past s.tx p fun b hb => by simp at hb; omega, tail.bset s.bel _ _ (by have := s.hX; omega) _, s.hX⟩
end
set_option maxRecDepth 100000 in
set_option maxHeartbeats 4000000 in
theorem slots_any (T B : Nat) (t : Tb) (ht : t.Ok) (w : World) (h : TAt T B t w) :
    Calls Tryz.prog 87 #[.pointer (some ⟨T, 0, none⟩)] w fun e w' => e = .returned (shV (cntT 3 t) (cntT 2 t) (cntT 1 t) (oc t t.n) 0 0) ∧ Below w.heap.size w w' := by
  have hn := okN_le ht.n
  have hgs := Lib.hid ht.gs
  have hb2 := two_new w (.cells #[.int .i64 0, .int .i64 0, .int .i64 0, .int .i64 0, .int .i64 0, .int .i64 0] 161) (.cells #[.int .i64 0, .int .i64 0, .int .i64 0, .int .i64 0, .int .i64 0, .int .i64 0] 161)
  have cT := text_tab T B t ht _ (h.below hb2)
  have hr1 := (ShBox.new w).keep (new_block _ (.cells #[.int .i64 0, .int .i64 0, .int .i64 0, .int .i64 0, .int .i64 0, .int .i64 0] 161))
  have hr2 := ShBox.new (w.alloc (.cells #[.int .i64 0, .int .i64 0, .int .i64 0, .int .i64 0, .int .i64 0, .int .i64 0] 161))
  have hz : ((w.alloc (.cells #[.int .i64 0, .int .i64 0, .int .i64 0, .int .i64 0, .int .i64 0, .int .i64 0] 161)).alloc (.cells #[.int .i64 0, .int .i64 0, .int .i64 0, .int .i64 0, .int .i64 0, .int .i64 0] 161)).heap.size = w.heap.size + 2 := by simp
  have H2 := Lib.hid (And.intro hb2 (And.intro hr1 hr2))
  have HZ := Lib.hid hz
  have hl := texts_length t t.n
  have hs8 : ∀ c k, k ≤ t.n → sumN k (fun i => count c (t.gs i)) ≤ 512 := fun c k hk => by have := sumN_le8 c t k; omega
  have ho8 : ∀ k, k ≤ t.n → oc t k ≤ 64 := fun k hk => by have := oc_le t k; omega
  have H8 := Lib.hid (And.intro hs8 ho8)
  clear hb2 hr1 hr2 hz h hs8 ho8
  go_enter Tryz.func87, Tryz.ntmps87
  go_wp2_with (go_at_call 19; refine cT.mono ?_; rintro e w2 ⟨v, rfl, hK, hb3⟩; obtain ⟨o, c, e0, hx⟩ := hK.texts; subst e0; rw [hl] at *)
  have HI := Lib.hid (show Sl0 w w.heap.size (.slice o t.n c) (texts t t.n) (sumN 0 fun i => count 3 (t.gs i)) (sumN 0 fun i => count 2 (t.gs i)) (sumN 0 fun i => count 1 (t.gs i)) (oc t 0) w2 from
    ⟨H2.out.2.1.keep hb3, (by have := H2.out.2.2.keep hb3; rw [World.size_alloc] at this; exact this), (by rw [HZ.out] at hK; exact hK), under.below_step H2.out.1 hb3, rfl⟩)
  clear hK hx hb3 H2 HZ cT
  generalize hXe : w.heap.size = X at HI ⊢
  have HX := Lib.hid hXe
  clear hXe
  go_loopw [9] (fun i wr => ∃ k : Nat, k ≤ t.n ∧ i = .int .i64 k ∧ Hid (Sl0 w X (.slice o t.n c) (texts t t.n) (sumN k fun i => count 3 (t.gs i)) (sumN k fun i => count 2 (t.gs i)) (sumN k fun i => count 1 (t.gs i)) (oc t k) wr)) (fun i _ => t.n - (intOf i).toNat)
  case atStart => exact ⟨0, by omega, rfl, HI⟩
  case round =>
    obtain ⟨k, hk, rfl, HR⟩ := hrel
    clear HI
    rcases Nat.lt_or_ge k t.n with hkn | hkn
    · have hki : (k : Int) < (t.n : Int) := by omega
      obtain ⟨x, rfl, d1⟩ := (KeptS.at_ HR.out.tx) k (by rw [texts_length]; exact hkn)
      have etx : (texts t t.n)[k]'(by rw [texts_length]; exact hkn) = txt (t.gs k) := by simp [texts, txt]
      rw [etx] at d1
      have c3 := fun W => count_one (txt (t.gs k)) 35 W
      have c2 := fun W => count_one (txt (t.gs k)) 120 W
      have c1 := fun W => count_one (txt (t.gs k)) 46 W
      have cO := fun W => open_any (t.gs k) (hgs.out k) W
      rw [txt_count (hgs.out k) (k := 3) (.inr (.inr ⟨rfl, rfl⟩))] at c3
      rw [txt_count (hgs.out k) (k := 2) (.inr (.inl ⟨rfl, rfl⟩))] at c2
      rw [txt_count (hgs.out k) (k := 1) (.inl ⟨rfl, rfl⟩)] at c1
      have a3 : (sumN (k + 1) fun i => count 3 (t.gs i)) = (sumN k fun i => count 3 (t.gs i)) + count 3 (t.gs k) := rfl
      have a2 : (sumN (k + 1) fun i => count 2 (t.gs i)) = (sumN k fun i => count 2 (t.gs i)) + count 2 (t.gs k) := rfl
      have a1 : (sumN (k + 1) fun i => count 1 (t.gs i)) = (sumN k fun i => count 1 (t.gs i)) + count 1 (t.gs k) := rfl
      have a0 : oc t (k + 1) = oc t k + (opens (t.gs k)).toNat := rfl
      have b3 := H8.out.1 3 (k + 1) (by omega)
      have b2 := H8.out.1 2 (k + 1) (by omega)
      have b1 := H8.out.1 1 (k + 1) (by omega)
      have b0 := H8.out.2 (k + 1) (by omega)
      rw [a3] at b3
      rw [a2] at b2
      rw [a1] at b1
      rw [a0] at b0
      have HA := Lib.hid (And.intro a3 (And.intro a2 (And.intro a1 a0)))
      clear a3 a2 a1 a0 etx
      generalize txt (t.gs k) = tx at *
      generalize (sumN k fun i => count 3 (t.gs i)) = n3 at *
      generalize (sumN k fun i => count 2 (t.gs i)) = n2 at *
      generalize (sumN k fun i => count 1 (t.gs i)) = n1 at *
      generalize oc t k = n0 at *
      generalize count 3 (t.gs k) = m3 at *
      generalize count 2 (t.gs k) = m2 at *
      generalize count 1 (t.gs k) = m1 at *
      generalize opens (t.gs k) = ob at *
      have e3 : IntKind.i64.wrap ((n3 : Int) + (m3 : Int)) = (n3 : Int) + (m3 : Int) := IntWalk.i64_in _ (by omega)
      have e2 : IntKind.i64.wrap ((n2 : Int) + (m2 : Int)) = (n2 : Int) + (m2 : Int) := IntWalk.i64_in _ (by omega)
      have e1 : IntKind.i64.wrap ((n1 : Int) + (m1 : Int)) = (n1 : Int) + (m1 : Int) := IntWalk.i64_in _ (by omega)
      have e0 : ob = true → IntKind.i64.wrap ((n0 : Int) + 1) = (n0 : Int) + 1 := fun h => by rw [h] at b0; simp at b0; exact IntWalk.i64_in _ (by omega)
      have H0 := Lib.hid e0
      clear e0 b3 b2 b1 b0
      have x0 := HR.out.s.c0
      have f0 := HR.out.s.fz 0
      go_wp2
      refine wp_region_tail_drew 6 (by kernel_rfl) (by kernel_rfl) ?_
      simp only [List.take_succ_cons, List.take_zero, List.drop_succ_cons, List.drop_zero]
      repeat (quiet_step ((go_at_call 119; (with_reducible exact Calls.quiet_of_same (c3 _)))))
      refine wpQuiet_nil ?_
      intro w4 hw4
      obtain ⟨q4, rfl⟩ := hw4
      go_wp2_with (fail)
      have S1 : Sl0 w X (.slice (some x) t.n c) (texts t t.n) (n3 + m3) n2 n1 n0 ((wr.drewN q4).setCell ⟨X + 1, 0, none⟩ (.int .i64 ((n3 : Int) + (m3 : Int)))) := (HR.out.read (below_drewN' wr q4)).put 0 _ ((HR.out.read (below_drewN' wr q4)).s.set0 (n3 + m3))
      generalize (wr.drewN q4).setCell ⟨X + 1, 0, none⟩ (.int .i64 ((n3 : Int) + (m3 : Int))) = w5 at S1 ⊢
      have S1 := Lib.hid S1
      clear x0 f0 d1 q4 HR
      have x1 := S1.out.s.c1
      have f1 := S1.out.s.fz 1
      go_wp2
      refine wp_region_tail_drew 6 (by kernel_rfl) (by kernel_rfl) ?_
      simp only [List.take_succ_cons, List.take_zero, List.drop_succ_cons, List.drop_zero]
      repeat (quiet_step ((go_at_call 119; (with_reducible exact Calls.quiet_of_same (c2 _)))))
      refine wpQuiet_nil ?_
      intro w4 hw4
      obtain ⟨q4, rfl⟩ := hw4
      go_wp2_with (fail)
      have S2 : Sl0 w X (.slice (some x) t.n c) (texts t t.n) (n3 + m3) (n2 + m2) n1 n0 ((w5.drewN q4).setCell ⟨X + 1, 1, none⟩ (.int .i64 ((n2 : Int) + (m2 : Int)))) := (S1.out.read (below_drewN' w5 q4)).put 1 _ ((S1.out.read (below_drewN' w5 q4)).s.set1 (n2 + m2))
      generalize (w5.drewN q4).setCell ⟨X + 1, 1, none⟩ (.int .i64 ((n2 : Int) + (m2 : Int))) = w6 at S2 ⊢
      have S2 := Lib.hid S2
      clear x1 f1 q4 S1
      have x2 := S2.out.s.c2
      have f2 := S2.out.s.fz 2
      go_wp2
      refine wp_region_tail_drew 6 (by kernel_rfl) (by kernel_rfl) ?_
      simp only [List.take_succ_cons, List.take_zero, List.drop_succ_cons, List.drop_zero]
      repeat (quiet_step ((go_at_call 119; (with_reducible exact Calls.quiet_of_same (c1 _)))))
      refine wpQuiet_nil ?_
      intro w4 hw4
      obtain ⟨q4, rfl⟩ := hw4
      go_wp2_with (fail)
      have S3 : Sl0 w X (.slice (some x) t.n c) (texts t t.n) (n3 + m3) (n2 + m2) (n1 + m1) n0 ((w6.drewN q4).setCell ⟨X + 1, 2, none⟩ (.int .i64 ((n1 : Int) + (m1 : Int)))) := (S2.out.read (below_drewN' w6 q4)).put 2 _ ((S2.out.read (below_drewN' w6 q4)).s.set2 (n1 + m1))
      generalize (w6.drewN q4).setCell ⟨X + 1, 2, none⟩ (.int .i64 ((n1 : Int) + (m1 : Int))) = w7 at S3 ⊢
      have S3 := Lib.hid S3
      clear x2 f2 q4 S2
      have x3 := S3.out.s.c3
      have f3 := S3.out.s.fz 3
      cases ob
      · go_wp2_with (go_at_call 120; (with_reducible refine (cO _).mono ?_); rintro e w8 ⟨rfl, rfl⟩)
        go_roundw
        case rel => exact ⟨k + 1, by omega, by simp, by rw [HA.out.1, HA.out.2.1, HA.out.2.2.1, HA.out.2.2.2]; exact S3⟩
        case measure => simp [intOf]; omega
      · have e0 := H0.out rfl
        go_wp2_with (go_at_call 120; (with_reducible refine (cO _).mono ?_); rintro e w8 ⟨rfl, rfl⟩)
        go_roundw
        case rel => exact ⟨k + 1, by omega, by simp, by rw [HA.out.1, HA.out.2.1, HA.out.2.2.1, HA.out.2.2.2]; exact Lib.hid (S3.out.put 3 _ (S3.out.s.set3 (n0 + 1)))⟩
        case measure => simp [intOf]; omega
    · obtain rfl : k = t.n := by omega
      have x0 := HR.out.s.c0
      have x1 := HR.out.s.c1
      have x2 := HR.out.s.c2
      have x3 := HR.out.s.c3
      have x4 := HR.out.s.c4
      have x5 := HR.out.s.c5
      have y0 := HR.out.r.c0
      have y1 := HR.out.r.c1
      have y2 := HR.out.r.c2
      have y3 := HR.out.r.c3
      have y4 := HR.out.r.c4
      have y5 := HR.out.r.c5
      have yf := HR.out.r.fz
      have hbl := HR.out.bel
      have h3 : (sumN t.n fun i => count 3 (t.gs i)) = cntT 3 t := rfl
      have h2 : (sumN t.n fun i => count 2 (t.gs i)) = cntT 2 t := rfl
      have h1 : (sumN t.n fun i => count 1 (t.gs i)) = cntT 1 t := rfl
      rw [h3] at x0
      rw [h2] at x1
      rw [h1] at x2
      clear h3 h2 h1 HR
      go_wp2
      have hX := HX.out
      refine bodyPost_ret (v := shV (cntT 3 t) (cntT 2 t) (cntT 1 t) (oc t t.n) 0 0) (by simp [results, Tryz.results87, go_sem, y0, y1, y2, y3, y4, y5]) rfl ⟨rfl, ?_⟩
      refine bset (bset (bset (bset (bset (bset hbl _ _ (by omega) _) _ _ (by omega) _) _ _ (by omega) _) _ _ (by omega) _) _ _ (by omega) _) _ _ (by omega) _
/-! ### countsItsSlots -/
set_option maxRecDepth 100000 in
theorem counts_any (T B : Nat) (t : Tb) (ht : t.Ok) (w : World) (h : TAt T B t w) :
    Calls Tryz.prog 51 #[.pointer (some ⟨T, 0, none⟩)] w fun e w' => e = .returned (.bool true) ∧ Below w.heap.size w w' := by
  have cS := slots_any T B t ht w h
  have hlen := ht.len
  have htmb := ht.tombs
  have hroom : decide (0 ≤ t.left) = true := decide_eq_true ht.room
  have cLe := fun W (h : TAt T B t W) => (show Calls Tryz.prog 24 #[.pointer (some ⟨T, 0, none⟩)] W fun e w' => e = .returned (.int .i64 (cntT 3 t : Nat)) ∧ W = w' from by rw [← hlen]; exact len_any T B t W h)
  have cTo := fun W (h : TAt T B t W) => (show Calls Tryz.prog 88 #[.pointer (some ⟨T, 0, none⟩)] W fun e w' => e = .returned (.int .i64 (cntT 2 t : Nat)) ∧ W = w' from by rw [← htmb]; exact tombs_any T B t W h)
  have cLf := fun W (h : TAt T B t W) => left_any T B t ht W h
  have HH := Lib.hid h
  clear hlen htmb h
  generalize cntT 3 t = n3 at *
  generalize cntT 2 t = n2 at *
  generalize cntT 1 t = n1 at *
  generalize oc t t.n = n0 at *
  generalize t.left = lf at *
  go_enter Tryz.func51, Tryz.ntmps51
  go_upto_region 2 with (go_at_call 87; refine cS.mono ?_; rintro e w2 ⟨rfl, hb2⟩)
  have hb3 := new_block w2 (.cells #[.int .i64 (n3 : Nat), .int .i64 (n2 : Nat), .int .i64 (n1 : Nat), .int .i64 (n0 : Nat), .int .i64 0, .int .i64 0] 161)
  have hS : ShBox w2.heap.size n3 n2 n1 n0 0 0 (w2.alloc (.cells #[.int .i64 (n3 : Nat), .int .i64 (n2 : Nat), .int .i64 (n1 : Nat), .int .i64 (n0 : Nat), .int .i64 0, .int .i64 0] 161)) := ⟨World.alloc_heap_new w2 _⟩
  have hT := (HH.out.below hb2).below hb3
  have HB := Lib.hid (under.below_step hb2 hb3)
  clear hb2 hb3
  generalize w2.alloc (.cells #[.int .i64 (n3 : Nat), .int .i64 (n2 : Nat), .int .i64 (n1 : Nat), .int .i64 (n0 : Nat), .int .i64 0, .int .i64 0] 161) = w3 at *
  generalize w2.heap.size = X at *
  have x0 := Under.cell hS.c0
  have x1 := Under.cell hS.c1
  have kLe := fun (q : Under w3) => cLe q.W (hT.below q.below)
  have kTo := fun (q : Under w3) => cTo q.W (hT.below q.below)
  have kLf := fun (q : Under w3) => cLf q.W (hT.below q.below)
  clear hS hT cLe cTo cLf cS
  refine wp_region_under (by kernel_rfl) (by kernel_rfl) ?_
  repeat (go_big_quiet_step (first
    | (go_at_call 24; (with_reducible refine under_same (kLe _)))
    | (go_at_call 88; (with_reducible refine under_same (kTo _)))
    | (go_at_call 89; (with_reducible refine under_drew (kLf _)))))
  refine wpQuiet_nil ?_
  intro w4 hw4
  obtain ⟨q, rfl⟩ := hw4
  go_wp2
  go_ret
  exact ⟨rfl, under.below_step HB.out q.below⟩
end Go.Proofs.YtibcokiijlamcaaGreatDoor.sound

/-! ### sound: the iterator over a table's entries, for every loop body. -/
namespace Go.Proofs.YtibcokiijlamcaaGreatDoor.sound
open Go.ChangeShapes Go.WideShapes Go.ChangeAt Go.RowKit Go.Shelf swar under trap meter group probe lens tail call table
attribute [local go_sem] Oper.semAt_some
set_option linter.unusedSimpArgs false
set_option linter.unusedVariables false

/-- the cells of all blocks but those of d are as they were -/
structure KpD (d : List Nat) (W W' : World) : Prop where
  size : W.heap.size ≤ W'.heap.size
  same : ∀ (k : Nat) (o : Obj), k ∉ d → W.heap[k]? = some o → o.isCells = true → W'.heap[k]? = some o
theorem KpD.refl (d : List Nat) (W : World) : KpD d W W := ⟨Nat.le_refl _, fun _ _ _ h _ => h⟩
theorem KpD.trans {d : List Nat} {A B C : World} (h : KpD d A B) (k : KpD d B C) : KpD d A C := ⟨Nat.le_trans h.size k.size, fun i o hi ho hc => k.same i o hi (h.same i o hi ho hc) hc⟩
theorem KpD.put {d : List Nat} (W : World) (l : Nat) (o o' : Obj) (hl : W.heap[l]? = some o) (ho : o.isCells = false) : KpD d W (W.putObj l o') :=
  ⟨by simp [World.putObj], fun k p hk hp hc => by
    have e : k ≠ l := fun e => by subst e; rw [hl] at hp; cases hp; rw [ho] at hc; cases hc
    exact (World.putObj_heap_other e).trans hp⟩
theorem KpD.of {d : List Nat} {W W' : World} (h : Past d W W') : KpD d W W' := ⟨h.size, fun k o hk ho _ => (h.block k (Array.getElem?_eq_some_iff.1 ho).1 hk).trans ho⟩
theorem cells_of {W : World} {p : Addr} {v : Value} (h : W.cell? p = some v) : ∃ o, W.heap[p.block]? = some o ∧ o.isCells = true := by
  unfold World.cell? at h
  cases ho : W.heap[p.block]? with
  | none => rw [ho] at h; simp at h
  | some o =>
    refine ⟨o, rfl, ?_⟩
    rw [ho] at h
    cases o <;> first | rfl | (simp at h)
theorem KpD.block {d : List Nat} {W W' : World} (h : KpD d W W') {p : Addr} {v : Value} (hc : W.cell? p = some v) (hd : p.block ∉ d) : W'.heap[p.block]? = W.heap[p.block]? := by
  obtain ⟨o, h1, h2⟩ := cells_of hc
  exact (h.same p.block o hd h1 h2).trans h1.symm
theorem KpD.cell {d : List Nat} {W W' : World} (h : KpD d W W') {p : Addr} {v : Value} (hc : W.cell? p = some v) (hd : p.block ∉ d) : W'.cell? p = some v := (World.cell?_of_block (w := W) (h.block hc hd)).trans hc
/-- what the iterator asks of the world -/
structure It (ae : String → Addr) (T B : Nat) (t : Tb) (Bt : Nat) (W : World) : Prop where
  rd : Ready ae T B t .nil Mt.zero W
  bt : W.cell? ⟨Bt, 0, none⟩ = some (.pointer (some ⟨T, 0, none⟩))
theorem It.below {ae : String → Addr} {T B : Nat} {t : Tb} {Bt : Nat} {W W' : World} (h : It ae T B t Bt W) (hb : Below W.heap.size W W') : It ae T B t Bt W' := ⟨h.rd.below hb, keepc hb h.bt⟩
theorem It.kp {ae : String → Addr} {T B : Nat} {t : Tb} {Bt : Nat} {d : List Nat} {W W' : World} (h : It ae T B t Bt W) (hk : KpD d W W') (hT : T ∉ d) (hB : B ∉ d) (ht : Bt ∉ d) (hf : Far d) (hn : okN t.n) : It ae T B t Bt W' := by
  have c : ∀ {i v g}, g < 17 → W.cell? ⟨g, i, none⟩ = some v → W'.cell? ⟨g, i, none⟩ = some v := fun hg hc => hk.cell hc (hf.no hg)
  have b := h.rd.bits
  have e := h.rd.errs
  have g0 := (h.rd.at'.gs 0 (okN_pos hn)).word
  refine ⟨⟨h.rd.at'.of_blocks (hk.block h.rd.at'.row hT) (hk.block g0 hB) hk.size, h.rd.ok, trivial, h.rd.apart, ?_, h.rd.far, h.rd.ft, h.rd.fb, ?_⟩, hk.cell h.bt ht⟩
  · exact ⟨c (by decide) b.1, c (by decide) b.2.1, c (by decide) b.2.2.1, c (by decide) b.2.2.2.1, c (by decide) b.2.2.2.2.1, c (by decide) b.2.2.2.2.2.1, c (by decide) b.2.2.2.2.2.2.1, c (by decide) b.2.2.2.2.2.2.2⟩
  · exact ⟨⟨c (by decide) e.two.range, c (by decide) e.two.state⟩, c (by decide) e.full, c (by decide) e.none, c (by decide) e.kind, c (by decide) e.dup⟩
theorem must_list (o : Option Addr) (n c : Nat) (w : World) : Calls Tryz.prog 70 #[.slice o n c, .nilIface] w fun e w' => e = .returned (.slice o n c) ∧ w = w' := by
  go_enter Tryz.func70, Tryz.ntmps70
  go_wp2_with (go_at_call 68; refine (raise_nil _).mono ?_; rintro e w' ⟨rfl, rfl⟩)
  go_ret
  exact ⟨rfl, rfl⟩
theorem entries_fn (T : Nat) (w : World) : Calls Tryz.prog 90 #[.pointer (some ⟨T, 0, none⟩)] w fun e w' => e = .returned (.func (.func 121) #[] #[.pointer (some ⟨w.heap.size, 0, none⟩)]) ∧ w' = w.alloc (.cells #[.pointer (some ⟨T, 0, none⟩)] 52) := by
  go_enter Tryz.func90, Tryz.ntmps90
  go_wp2
  go_ret
  exact ⟨rfl, rfl⟩
/-- the entries as far as entry number c -/
def pf (N c : Nat) : List (Fin N) := (List.finRange N).take c
theorem pf_succ {N c : Nat} (h : c < N) : pf N (c + 1) = pf N c ++ [⟨c, h⟩] := by
  unfold pf
  rw [List.take_add_one]
  simp [h]
theorem pf_length {N c : Nat} (h : c ≤ N) : (pf N c).length = c := by simp [pf]; omega
theorem pf_all (N : Nat) : pf N N = List.finRange N := by unfold pf; rw [List.take_of_length_le (by simp)]
theorem pf_prefix (N c : Nat) : pf N c <+: List.finRange N := List.take_prefix _ _
def entN (t : Tb) (x : Fin (ents t t.n).length) : Sl := (ents t t.n)[x.val]
theorem ents_mono (t : Tb) {i n : Nat} (h : i ≤ n) : (ents t i).length ≤ (ents t n).length := by
  obtain ⟨k, rfl⟩ := Nat.exists_eq_add_of_le h
  clear h
  induction k with
  | zero => exact Nat.le_refl _
  | succ k ih => rw [← Nat.add_assoc, ents_succ, List.length_append]; omega
theorem ents_le (t : Tb) {i : Nat} (h : i ≤ t.n) : (ents t i).length ≤ (ents t t.n).length := ents_mono t h
theorem ents_len (t : Tb) (i : Nat) : (ents t (i + 1)).length = (ents t i).length + (entsG (t.gs i)).length := by rw [ents_succ, List.length_append]
theorem ents_at (t : Tb) {i j : Nat} (hi : i < t.n) (hj : j < (entsG (t.gs i)).length) (h : (ents t i).length + j < (ents t t.n).length) : (ents t t.n)[(ents t i).length + j] = (entsG (t.gs i))[j] := by
  have key : ∀ k, i < k → ∀ h : (ents t i).length + j < (ents t k).length, (ents t k)[(ents t i).length + j] = (entsG (t.gs i))[j] := by
    intro k
    induction k with
    | zero => intro h; omega
    | succ k ih =>
      intro hk h
      by_cases e : i = k
      · subst e
        simp only [ents_succ]
        rw [List.getElem_append_right (by omega)]
        simp
      · have hlt : (ents t i).length + j < (ents t k).length := by
          have h1 : i < k := by omega
          have := ents_mono t (show i + 1 ≤ k by omega)
          have := ents_len t i
          omega
        simp only [ents_succ]
        rw [List.getElem_append_left hlt]
        exact ih (by omega) hlt
  exact key _ hi h
theorem grown_of {W W' : World} (h : Below W.heap.size W W') : W.grownBy W' none := ⟨h.os, h.tape, h.output, h.size, fun k hk _ => h.block k hk⟩
theorem list_kp {b : Nat} {o : Option Addr} {l : List Sl} {W W' : World} {d : List Nat} (h : ListAt b o l W) (hk : KpD d W W') (hd : ∀ x ∈ d, x < b) : ListAt b o l W' := fun j hj => by
  obtain ⟨x, e, hb, h1, h2, h3⟩ := h j hj
  have hn : (x.add (j * 3)).block ∉ d := fun e => by have := hd _ e; omega
  exact ⟨x, e, hb, hk.cell h1 hn, hk.cell h2 hn, hk.cell h3 hn⟩
set_option maxRecDepth 100000 in
set_option maxHeartbeats 4000000 in
/-- the closure: for every loop body that keeps what the iterator asks -/
theorem ents1_in (n : Nat) (hn : 1 ≤ n) (l Bt T B : Nat) (t : Tb) (ae : String → Addr) (d : List Nat) (hdT : T ∉ d) (hdB : B ∉ d) (hdt : Bt ∉ d) (hdf : Far d) (b0 : Nat) (hd0 : ∀ b ∈ d, b < b0) (J Jx : List (Fin (ents t t.n).length) → World → Prop)
    (hJ : ∀ pre W W', J pre W → Below W.heap.size W W' → J pre W')
    (hY : ∀ pre x W, J pre W → pre.length < (ents t t.n).length → YieldAt Fence.wide (n - 1) Tryz.prog l #[group.entV (entN t x).key (entN t x).val (entN t x).hash] W fun e W' =>
      (e = .returned (.bool true) ∧ J (pre ++ [x]) W' ∧ KpD d W W') ∨ (e = .returned (.bool false) ∧ Jx (pre ++ [x]) W'))
    (W : World) (hI : It ae T B t Bt W) (hb0 : b0 ≤ W.heap.size) (h0 : J [] W) :
    CallsIn Fence.wide n Tryz.prog 121 #[.func (.yield l) #[] #[], .pointer (some ⟨Bt, 0, none⟩)] W fun e W' => (∃ v, e = .returned v) ∧
      ((∃ ys, ys = List.finRange (ents t t.n).length ∧ J ys W') ∨ (∃ pre, pre <+: List.finRange (ents t t.n).length ∧ Jx pre W')) := by
  have hok := hI.rd.ok
  have hn64 := okN_le hok.n
  have cG := fun W (h : It ae T B t Bt W) => groups_any T B t W h.rd.at'
  have cS := fun W (h : It ae T B t Bt W) i (hi : i < t.n) => scan_rd h.rd i hi
  have k0 := hI.bt
  have HI := Lib.hid hI
  refine callsIn_of_wp Tryz.func121 rfl trivial ?_ rfl
  simp only [Tryz.ntmps121, List.size_toArray, List.length_cons, List.length_nil, Nat.reduceAdd, Nat.reduceSub, Array.replicate_succ, Array.replicate_zero, List.push_toArray, List.append_toArray, List.nil_append, List.cons_append]
  gi_wp2_with (refine ⟨trivial, ?_⟩; gi_at_call 28; refine (callsIn_wide.2 (cG _ HI.out)).mono ?_; rintro e w' ⟨rfl, rfl⟩)
  have hS : pf (ents t t.n).length (ents t 0).length = [] := rfl
  rw [← hS] at h0
  clear hS hI k0
  gi_loopw [8] (fun v wr => ∃ i : Nat, i ≤ t.n ∧ v = .int .i64 i ∧ Hid (It ae T B t Bt wr ∧ b0 ≤ wr.heap.size ∧ J (pf (ents t t.n).length (ents t i).length) wr)) (fun v _ => t.n - (intOf v).toNat)
  case atStart => exact ⟨0, by omega, rfl, Lib.hid ⟨HI.out, hb0, h0⟩⟩
  case round =>
    obtain ⟨i, hi, rfl, HR⟩ := hrel
    clear HI
    rcases Nat.lt_or_ge i t.n with hlt | hlt
    · have hii : (i : Int) < (t.n : Int) := by omega
      have k0 := HR.out.1.bt
      have cSi := cS wr HR.out.1 i hlt
      gi_wp2_with (first
        | (refine ⟨trivial, ?_⟩; gi_at_call 29; refine (callsIn_wide.2 cSi).mono ?_; rintro e w2 ⟨v, rfl, hK, hs2⟩; obtain ⟨o, c, rfl, hL⟩ := Kept.list hK)
        | (refine ⟨trivial, ?_⟩; gi_at_call 70; refine (callsIn_wide.2 (must_list _ _ _ _)).mono ?_; rintro e w3 ⟨rfl, rfl⟩))
      have hb2 : Below wr.heap.size wr w2 := hs2.past.below (Nat.le_refl _) (by simp [Ln.d])
      have HB := Lib.hid (show b0 ≤ wr.heap.size from HR.out.2.1)
      have hN := ents_le t (show i + 1 ≤ t.n by omega)
      have hlen := ents_len t i
      have hel : (entsG (t.gs i)).length = (fulls (t.gs i)).length := by unfold entsG; rw [List.length_map]
      have h8 := fulls_length (t.gs i)
      rw [hlen, hel] at hN
      rw [hel] at hlen
      have HE := Lib.hid (show ∀ j (hj : j < (fulls (t.gs i)).length) (hN : (ents t i).length + j < (ents t t.n).length), entN t ⟨(ents t i).length + j, hN⟩ = ((fulls (t.gs i)).map (t.gs i))[j]'(by simpa using hj) from fun j hj hN => ents_at t hlt (by rw [hel]; exact hj) hN)
      have HL := Lib.hid hlen
      have hI2 := Lib.hid (show It ae T B t Bt w2 ∧ wr.heap.size ≤ w2.heap.size ∧ ListAt wr.heap.size o ((fulls (t.gs i)).map (t.gs i)) w2 ∧ J (pf (ents t t.n).length ((ents t i).length + 0)) w2 from
        ⟨HR.out.1.below hb2, hb2.size, hL, hJ _ _ _ HR.out.2.2 hb2⟩)
      clear hL hK hs2 hb2 HR cSi k0 hel hlen
      generalize wr.heap.size = b at *
      obtain ⟨q, hq⟩ : ∃ q, (fulls (t.gs i)).length = q := ⟨_, rfl⟩
      have hll : ((fulls (t.gs i)).map (t.gs i)).length = q := by rw [List.length_map, hq]
      obtain ⟨fl, hfl⟩ : ∃ fl, (fulls (t.gs i)).map (t.gs i) = fl := ⟨_, rfl⟩
      have HE2 := Lib.hid (show ∀ j (hj : j < fl.length) (hN : (ents t i).length + j < (ents t t.n).length), entN t ⟨(ents t i).length + j, hN⟩ = fl[j] from fun j hj hN => by
        subst hfl
        exact HE.out j (by simpa using hj) hN)
      rw [hfl] at hI2 hll
      rw [hq] at hN h8 HL ⊢
      clear HE hfl hq
      gi_loopw [19] (fun v wr => ∃ j : Nat, j ≤ q ∧ v = .int .i64 j ∧ Hid (It ae T B t Bt wr ∧ b ≤ wr.heap.size ∧ ListAt b o fl wr ∧ J (pf (ents t t.n).length ((ents t i).length + j)) wr)) (fun v _ => q - (intOf v).toNat)
      case atStart => exact ⟨0, by omega, rfl, hI2⟩
      case round =>
        obtain ⟨j, hj, rfl, HR2⟩ := hrel
        clear hI2
        rcases Nat.lt_or_ge j q with hjq | hjq
        · have hji : (j : Int) < (q : Int) := by omega
          obtain ⟨x, rfl, hbx, e1, e2, e3⟩ := HR2.out.2.2.1 j (by rw [hll]; exact hjq)
          have hYi := fun W hJW => hY (pf (ents t t.n).length ((ents t i).length + j)) ⟨(ents t i).length + j, by omega⟩ W hJW (by rw [pf_length (by omega)]; omega)
          rw [HE2.out j (by rw [hll]; exact hjq) (by omega)] at hYi
          have hpf := Lib.hid (pf_succ (N := (ents t t.n).length) (c := (ents t i).length + j) (by omega))
          generalize fl[j]'(by rw [hll]; exact hjq) = sl at *
          have hbn := new_block wr (.cells #[.int .u64 (sl.key : Nat), .int .u64 (sl.val : Nat), .int .u64 (sl.hash : Nat)] 60)
          have hIn := Lib.hid (show It ae T B t Bt _ ∧ b ≤ _ ∧ ListAt b (some x) fl _ from ⟨HR2.out.1.below hbn, Nat.le_trans HR2.out.2.1 hbn.size, HR2.out.2.2.1.read hbn⟩)
          obtain ⟨fn, tmps, assign, body, hy, hR⟩ := hYi _ (hJ _ _ _ HR2.out.2.2.2 hbn)
          have HRR := Lib.hid hR
          clear hbn hR hYi hbx
          gi_wp2
          refine HRR.out.mono ?_
          rintro e W3 (⟨rfl, hJ3, hk3⟩ | ⟨rfl, hJx3⟩)
          · have HI3 := Lib.hid (show It ae T B t Bt W3 ∧ b ≤ W3.heap.size ∧ ListAt b (some x) fl W3 ∧ J _ W3 from ⟨hIn.out.1.kp hk3 hdT hdB hdt hdf hok.n, Nat.le_trans hIn.out.2.1 hk3.size, list_kp hIn.out.2.2 hk3 fun y hy => Nat.lt_of_lt_of_le (hd0 y hy) HB.out, hJ3⟩)
            clear hJ3 hk3 HRR hIn
            gi_wp2
            go_roundw
            case rel => exact ⟨j + 1, by omega, by go_num, Lib.hid ⟨HI3.out.1, HI3.out.2.1, HI3.out.2.2.1, by rw [← Nat.add_assoc, hpf.out]; exact HI3.out.2.2.2⟩⟩
            case measure => simp [intOf]; omega
          · have HJ3 := Lib.hid hJx3
            clear hJx3 HRR hIn
            gi_wp2
            refine bodyPost_ret (results_none rfl _ _ _) rfl ?_
            exact ⟨⟨_, rfl⟩, .inr ⟨_, by rw [← hpf.out]; exact pf_prefix _ _, HJ3.out⟩⟩
        · obtain rfl : j = q := by omega
          gi_wp2
          go_roundw
          case rel => exact ⟨i + 1, by omega, by go_num, Lib.hid ⟨HR2.out.1, Nat.le_trans HB.out HR2.out.2.1, by rw [HL.out]; exact HR2.out.2.2.2⟩⟩
          case measure => simp [intOf]; omega
    · obtain rfl : i = t.n := by omega
      gi_wp2
      go_end0
      exact ⟨⟨_, rfl⟩, .inl ⟨_, rfl, by rw [← pf_all]; exact HR.out.2.2⟩⟩
theorem ents_stops (n : Nat) (hn : 1 ≤ n) (Bt T B : Nat) (t : Tb) (ae : String → Addr) (d : List Nat) (hdT : T ∉ d) (hdB : B ∉ d) (hdt : Bt ∉ d) (hdf : Far d) (w : World) (hd0 : ∀ b ∈ d, b < w.heap.size) (hI : It ae T B t Bt w) :
    SeqStopsK Fence.wide n Tryz.prog 121 #[.pointer (some ⟨Bt, 0, none⟩)] (fun x : Fin (ents t t.n).length => #[group.entV (entN t x).key (entN t x).val (entN t x).hash]) (KpD d) (fun ys => ys = List.finRange (ents t t.n).length) (fun pre => pre <+: List.finRange (ents t t.n).length) (ents t t.n).length w := fun l J Jx W hW hJ _ hY h0 =>
  ents1_in n hn l Bt T B t ae d hdT hdB hdt hdf w.heap.size hd0 J Jx (fun pre W W' hj hb => hJ pre W W' none hj (grown_of hb) (fun r e => by cases e)) hY W (hI.below hW) hW.size h0
end Go.Proofs.YtibcokiijlamcaaGreatDoor.sound
