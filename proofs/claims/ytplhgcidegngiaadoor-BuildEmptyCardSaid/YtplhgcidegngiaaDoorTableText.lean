/- table: Text; two lists of texts that are the same (amblernum.SameTexts). -/
import Derived.Test.YtplhgcidegngiaaDoorTableFns
import Derived.LoopTactic
namespace Go.Proofs.YtplhgcidegngiaaDoor.table
open Go.ChangeShapes Go.WideShapes Go.ChangeAt Go.RowKit Go.Shelf swar under trap meter group probe lens tail call
attribute [local go_sem] Oper.semAt_some stage.pureUpon move.stepUpon
set_option linter.unusedSimpArgs false
set_option linter.unusedVariables false

theorem infoStr : (Tryd.prog.info? 9).map (fun i => (i.zero, i.size, i.bytes)) = some (some (.string ⟨#[]⟩), 1, 16) := by kernel_rfl
/-- a slice of the call's own holds some texts -/
def KeptS (base : Nat) (W : World) (v : Value) (l : List ByteArray) : Prop := W.ownsRow base 9 1 v l.length (l.map Value.string)
def texts (t : Tb) (k : Nat) : List ByteArray := (List.range k).map fun i => ctrl.textN (group.word (t.gs i))
theorem texts_succ (t : Tb) (k : Nat) : texts t (k + 1) = texts t k ++ [ctrl.textN (group.word (t.gs k))] := by simp [texts, List.range_succ]
theorem texts_length (t : Tb) (k : Nat) : (texts t k).length = k := by simp [texts]
theorem row_below {w w' : World} {base : Nat} {e : TypeId} {size n : Nat} {v : Value} {xs : List Value} (h : w.ownsRow base e size v n xs) (hb : Below w.heap.size w w') : w'.ownsRow base e size v n xs := by
  refine ⟨h.1, ?_⟩
  rcases h.2 with h2 | ⟨g, cap, cur, h1, h2, h3, h4⟩
  · exact .inl h2
  · exact .inr ⟨g, cap, cur, h1, h2, (hb.block g (Array.getElem?_eq_some_iff.1 h3).1).trans h3, h4⟩
theorem cell_one_new (w : World) (a : Value) (t : TypeId) : ∀ j u, [a][j]? = some u → (w.alloc (.cells #[a] t)).cell? ((⟨w.heap.size, 0, none⟩ : Addr).add j) = some u := by
  intro j u hj
  have hr := World.alloc_heap_new w (.cells #[a] t)
  have hadd : (⟨w.heap.size, 0, none⟩ : Addr).add j = ⟨w.heap.size, j, none⟩ := by unfold Addr.add; split <;> simp_all
  rw [hadd, cell_of_row _ _ j _ _ _ hr]
  simpa using hj
set_option maxRecDepth 20000 in
set_option maxHeartbeats 1000000 in
theorem text_tab (T B : Nat) (t : Tb) (ht : t.Ok) (w : World) (h : TAt T B t w) :
    Calls Tryd.prog 14 #[.pointer (some ⟨T, 0, none⟩)] w fun e w' => ∃ v, e = .returned v ∧ KeptS w.heap.size w' v (texts t t.n) ∧ Below w.heap.size w w' := by
  obtain ⟨i0, hi0, hq0, hq1, hq2⟩ := info_parts infoStr
  have hn := okN_le ht.n
  have h0 := h.row
  have HH := Lib.hid h
  have hK0 : KeptS w.heap.size w (.slice none 0 0) (texts t 0) := ⟨rfl, .inl ⟨rfl, rfl⟩⟩
  have HI := Lib.hid (show KeptS w.heap.size w (.slice none 0 0) (texts t 0) ∧ Below w.heap.size w w from ⟨hK0, Below.refl _ _⟩)
  clear h hK0 ht
  go_enter Tryd.func14, Tryd.ntmps14
  go_wp2
  go_loopw [10, 3] (fun i v wr => ∃ k : Nat, k ≤ t.n ∧ i = .int .i64 k ∧ Hid (KeptS w.heap.size wr v (texts t k) ∧ Below w.heap.size w wr)) (fun i _ _ => t.n - (intOf i).toNat)
  case atStart => exact ⟨0, by omega, rfl, HI⟩
  case round =>
    obtain ⟨k, hk, rfl, HR⟩ := hrel
    rcases Nat.lt_or_ge k t.n with hkn | hkn
    · have hki : (k : Int) < (t.n : Int) := by omega
      have hlen := texts_length t k
      have HS := Lib.hid (texts_succ t k)
      have cV := view_any T B t k hkn wr (HH.out.below HR.out.2)
      have cT := fun W (hb : Below wr.heap.size wr W) => text_any B (k * 25) (t.gs k) W (((HH.out.below HR.out.2).below hb).gs k hkn)
      generalize ctrl.textN (group.word (t.gs k)) = tx at HS cT
      have hr := HR.out.1
      have hz := HR.out.2.size
      unfold KeptS at hr
      rw [hlen] at hr
      have H0 := Lib.hid hr
      clear hr
      go_wp2_with (first
        | (go_at_call 19; refine cV.mono ?_; rintro e w2 ⟨rfl, hb2⟩)
        | (go_at_call 31; refine (cT _ hb2).mono ?_; rintro e w3 ⟨rfl, hb3⟩; have hb4 := under.below_step (under.below_step hb2 hb3) (new_block w3 (.cells #[.string tx] 9)); have H5 := Lib.hid (row_below H0.out hb4); have HN := Lib.hid (cell_one_new w3 (.string tx) 9); have z4 := hb4.size)
        | (at_builtin; refine wpList_append_own _ rfl _ _ 51 rfl w.heap.size 9 i0 (.string ⟨#[]⟩) 1 16 Tryd.underlying51 hi0 hq0 hq1 hq2 rfl (by decide) _ _ _ rfl H5.out ⟨w3.heap.size, 0, none⟩ 1 1 [.string tx] rfl rfl HN.out (by simp [Value.oneCell']) (by simp only [maxLen]; omega) (by omega) (by omega) ?_; intro v' w1 hown' hgrow _; have HO := Lib.hid hown'; have HG := Lib.hid hgrow; clear hown' hgrow))
      go_roundw
      case rel =>
        have hb5 := under.below_step HR.out.2 hb4
        refine ⟨k + 1, by omega, by simp, Lib.hid ⟨?_, hb5.grown HG.out hb5.size fun j e => (H0.out.lt j e).1⟩⟩
        unfold KeptS
        rw [HS.out, List.length_append, hlen, List.map_append]
        exact HO.out
      case measure => simp [intOf]; omega
    · obtain rfl : k = t.n := by omega
      go_wp2
      go_ret
      exact ⟨_, rfl, HR.out.1, HR.out.2⟩
/-- a slice holds some texts -/
def TextsAt (o : Option Addr) (l : List ByteArray) (W : World) : Prop := ∀ j (hj : j < l.length), ∃ x, o = some x ∧ W.cell? (x.add j) = some (.string l[j])
theorem TextsAt.read {o : Option Addr} {l : List ByteArray} {W W' : World} (h : TextsAt o l W) (hb : Below W.heap.size W W') : TextsAt o l W' := fun j hj => by
  obtain ⟨x, e, hc⟩ := h j hj; exact ⟨x, e, keepc hb hc⟩
theorem KeptS.texts {base : Nat} {W : World} {v : Value} {l : List ByteArray} (h : KeptS base W v l) : ∃ o c, v = .slice o l.length c ∧ TextsAt o l W := by
  have hc := fun {g : Nat} (hg : v.ownBlock = some g) => h.cells hg
  obtain ⟨hl, h2⟩ := h
  rcases h2 with ⟨rfl, hn⟩ | ⟨B, c, cur, rfl, _, hB, _⟩
  · exact ⟨none, 0, by rw [hn], fun j hj => by omega⟩
  · refine ⟨_, _, rfl, fun j hj => ⟨_, rfl, hc rfl j _ ?_⟩⟩
    rw [List.getElem?_map, List.getElem?_eq_getElem hj]; rfl
theorem same_texts (o1 o2 : Option Addr) (c1 c2 : Nat) (l : List ByteArray) (hl : l.length ≤ 64) (w : World) (h1 : TextsAt o1 l w) (h2 : TextsAt o2 l w) :
    Calls Tryd.prog 13 #[.slice o1 l.length c1, .slice o2 l.length c2] w fun e w' => e = .returned (.bool true) ∧ w = w' := by
  have H1 := Lib.hid h1
  have H2 := Lib.hid h2
  clear h1 h2
  obtain ⟨n, hn⟩ : ∃ n, l.length = n := ⟨_, rfl⟩
  rw [hn]
  have HN := Lib.hid hn
  rw [hn] at hl
  clear hn
  go_enter Tryd.func13, Tryd.ntmps13
  go_wp2
  go_loopw [14] (fun i wr => ∃ k : Nat, k ≤ n ∧ i = .int .i64 k ∧ wr = w) (fun i _ => n - (intOf i).toNat)
  case atStart => exact ⟨0, by omega, rfl, rfl⟩
  case round =>
    obtain ⟨k, hk, rfl, rfl⟩ := hrel
    rcases Nat.lt_or_ge k n with hkn | hkn
    · have hki : (k : Int) < (n : Int) := by omega
      obtain ⟨x1, rfl, d1⟩ := H1.out k (by rw [HN.out]; exact hkn)
      obtain ⟨x2, rfl, d2⟩ := H2.out k (by rw [HN.out]; exact hkn)
      obtain ⟨tx, htx⟩ : ∃ tx, l[k]'(by rw [HN.out]; exact hkn) = tx := ⟨_, rfl⟩
      rw [htx] at d1 d2
      clear htx
      go_wp2
      go_roundw
      case rel => exact ⟨k + 1, by omega, by simp, trivial⟩
      case measure => simp [intOf]; omega
    · obtain rfl : k = n := by omega
      go_wp2
      go_ret
      exact ⟨rfl, rfl⟩
end Go.Proofs.YtplhgcidegngiaaDoor.table
