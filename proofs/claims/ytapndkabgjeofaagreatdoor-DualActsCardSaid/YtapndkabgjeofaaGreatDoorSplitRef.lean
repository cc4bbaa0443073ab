/- The document's own functions for layer 3: a hash's bits, the number of so many bits, the top, the bit. -/
import Derived.Test.YtapndkabgjeofaaGreatDoorRows
import Derived.Test.YtapndkabgjeofaaGreatDoorSplitFns
import Derived.WalkKit
import Derived.ProofKit
import Derived.Deep.WholeRow
import Derived.Laws.CopyOwn
import Derived.LoopTactic
import Derived.Lib.Hide
namespace Go.Proofs.YtapndkabgjeofaaGreatDoor.split
open Go.ChangeShapes Go.WideShapes Go.ChangeAt Go.RowKit

/-- so many bits of a hash, in cells -/
def bitsA (h:Nat):Array Value:=((List.range 64).map fun j => Value.int .i64 ((bitN h j:Nat):Int)).toArray
theorem bitsA_size (h:Nat):(bitsA h).size = 64:=by simp [bitsA]
theorem bitsA_at (h j:Nat) (hj:j < 64):(bitsA h)[j]? = some (.int .i64 ((bitN h j:Nat):Int)):=by simp [bitsA,hj]
theorem bitsA_of (h:Nat) (cs:Array Value) (hs:cs.size = 64) (hc:∀ j,j < 64 → cs[j]? = some (.int .i64 ((bitN h j:Nat):Int))):cs = bitsA h:=by
 apply Array.ext_getElem?
 intro i
 by_cases hi:i < 64
 ·rw [hc i hi,bitsA_at h i hi]
 ·rw [Array.getElem?_eq_none (by omega),Array.getElem?_eq_none (by rw [bitsA_size]; omega)]

/-- what is in memory behind so many rounds of Bits -/
structure BitsOk (h k:Nat) (w W:World):Prop where
 below:Below w.heap.size w W
 out:∃ z,W.heap[w.heap.size]? = some (.cells z 207 (0,0)) ∧ z.size = 64
 row:∃ cs:Array Value,W.heap[w.heap.size + 1]? = some (.cells cs 207 (0,0)) ∧ cs.size = 64 ∧ (∀ j,k ≤ j → j < 64 → cs[j]? = some (.int .i64 ((bitN h j:Nat):Int)))
theorem BitsOk.cell {h k j:Nat} {w W:World} (b:BitsOk h k w W) (hj:j < 64):∃ v,W.cell? ⟨w.heap.size + 1,j,none⟩ = some v:=by
 obtain ⟨cs,h1,h2,_⟩:=b.row
 exact ⟨cs[j],by rw [cell_of_row _ _ j cs _ _ h1,Array.getElem?_eq_getElem (by omega)]⟩
theorem BitsOk.frozen {h k j:Nat} {w W:World} (b:BitsOk h k w W):W.frozen? ⟨w.heap.size + 1,j,none⟩ = false:=by
 obtain ⟨cs,h1,_⟩:=b.row
 exact frozen_of_row _ _ j cs _ h1
theorem BitsOk.next {h k:Nat} {w W:World} (b:BitsOk h (k + 1) w W) (hk:k < 64):BitsOk h k w (W.setCell ⟨w.heap.size + 1,k,none⟩ (.int .i64 ((bitN h k:Nat):Int))):=by
 obtain ⟨cs,h1,h2,h3⟩:=b.row
 obtain ⟨z,z1,z2⟩:=b.out
 refine ⟨b.below.setCell (by simp) _,⟨z, ?_,z2⟩,⟨_,heap_setCell_same W _ k cs _ _ h1,by simpa using h2,fun j hj hj2 => ?_⟩⟩
 ·rw [heap_setCell_other _ _ _ _ (by simp)]; exact z1
 ·rcases Nat.eq_or_lt_of_le hj with rfl | hlt
  ·simp [h2,hk]
  ·rw [Array.getElem?_setIfInBounds_ne (by omega)]; exact h3 j (by omega) hj2
theorem info64 (cs:Array Value) (h:cs.size = 64):(Tryz.prog.info? 207).map (·.size) = some cs.size:=by rw [h]; kernel_rfl
/-- sixty-four noughts -/
def zeroA:Array Value:=Array.replicate 64 (.int .i64 0)
theorem zeroA_size:zeroA.size = 64:=by simp [zeroA]
theorem zeroA_one:zeroA.all (·.oneCell') = true:=by
 rw [Array.all_eq_true_iff_forall_mem]
 intro v hv
 unfold zeroA at hv
 rw [Array.eq_of_mem_replicate hv]; rfl
theorem bitsA_one (h:Nat):(bitsA h).all (·.oneCell') = true:=by simp [bitsA,Value.oneCell']
theorem BitsOk.start (h:Nat) (w:World) (A B:Array Value) (hA:A.size = 64):BitsOk h 64 w (((w.alloc (.cells A 207)).alloc (.cells B 207)).setRow (w.heap.size + 1) zeroA):=by
 have hB:=heap_alloc2_new w (.cells A 207) (.cells B 207)
 refine ⟨?_,⟨A, ?_,hA⟩,⟨zeroA, ?_,zeroA_size,fun j h1 h2 => by omega⟩⟩
 ·exact below_setRow (((Below.refl _ _).alloc (Nat.le_refl _) _).alloc (by simp) _) (by omega) _
 ·rw [setRow_other _ _ _ _ (by omega)]; exact heap_alloc2_old w _ _
 ·exact setRow_heap _ _ _ _ _ _ hB
set_option maxRecDepth 100000 in
theorem bits_any (h:Nat) (hh:h < 18446744073709551616) (w:World) :
  Calls Tryz.prog 143 #[.int .u64 h] w fun e w' => e = .returned (.agg (bitsA h)) ∧ Below w.heap.size w w':=by
 go_enter Tryz.func143,Tryz.ntmps143
 go_wp2_with (refine wpList_store_row (by rfl) 207 _ _ (by rfl) (w.heap.size + 1) zeroA (by rfl) (by rfl) 207 _ (heap_alloc2_new _ _ _) (info64 _ zeroA_size) (by rfl) zeroA_one ?_)
 go_loopw [4,0] (fun i s wr => ∃ k:Nat,k ≤ 64 ∧ i = .int .i64 ((k:Int) - 1) ∧ s = .int .u64 ((h / 2 ^ (64 - k):Nat):Int) ∧ BitsOk h k w wr) (fun i _ _ => (intOf i + 1).toNat)
 case atStart =>
  exact ⟨64,by omega,rfl,by simp,BitsOk.start h w _ _ (by rfl)⟩
 case round =>
  obtain ⟨k,hk,rfl,rfl,hB⟩:=hrel
  cases k with
  | zero =>
   obtain ⟨cs,r1,r2,r3⟩:=hB.row
   obtain ⟨z,z1,z2⟩:=hB.out
   obtain rfl:=bitsA_of h cs r2 (fun j hj => r3 j (by omega) hj)
   have HB:=Lib.hid hB
   have R1:=Lib.hid r1
   have Z1:=Lib.hid z1
   clear hB r1 z1 r3
   go_wp2_with (first
    | (refine wpList_load_row (by rfl) 207 _ (by rfl) _ (by rfl) _ _ _ (.array 64 3) R1.out (by kernel_rfl) (by rfl) (info64 _ r2) ?_)
    | (refine wpList_store_row (by rfl) 207 _ _ (by rfl) w.heap.size (bitsA h) (by rfl) (by rfl) 207 _ Z1.out (info64 _ r2) (z2.trans r2.symm) (bitsA_one h) ?_))
   have hl:w.heap.size < wr.heap.size:=(Array.getElem?_eq_some_iff.1 Z1.out).1
   refine bodyPost_ret (v:=.agg (bitsA h)) (results_cell_row (p:=2) (ty:=207) (by rfl) _ _ w.heap.size 207 (bitsA h) (0,0) (.array 64 3) (by rfl) (setRow_heap _ _ _ _ _ _ Z1.out) (by kernel_rfl) (by rfl) (info64 _ r2)) rfl ⟨rfl, ?_⟩
   exact below_setRow HB.out.below (Nat.le_refl _) _
  | succ k =>
   have e1:((k + 1:Nat):Int) - 1 = (k:Int):=by omega
   rw [e1]
   obtain ⟨v,hv⟩:=hB.cell (j:=k) (by omega)
   have hf:=hB.frozen (j:=k)
   have hk64:(k:Int) < 64:=by omega
   have hB':=Lib.hid hB
   clear hB e1
   have hlt:h / 2 ^ (63 - k) < 18446744073709551616:=Nat.lt_of_le_of_lt (Nat.div_le_self _ _) hh
   have q1:IntKind.u64.wrap (((h:Int) / 2 ^ (63 - k)).tdiv 2) = ((h / 2 ^ (64 - k):Nat):Int):=by
    rw [show ((h:Int) / 2 ^ (63 - k)) = ((h / 2 ^ (63 - k):Nat):Int) by simp,show 64 - k = (63 - k) + 1 by omega,Nat.pow_succ,← Nat.div_div_eq_div_mul]
    generalize h / 2 ^ (63 - k) = y at hlt
    rw [IntKind.wrap_u64,Int.tdiv_eq_ediv_of_nonneg (by omega)]; omega
   have q2:wrap64 (((h:Int) / 2 ^ (63 - k)).tmod 2) = ((bitN h k:Nat):Int):=by
    unfold bitN
    rw [show ((h:Int) / 2 ^ (63 - k)) = ((h / 2 ^ (63 - k):Nat):Int) by simp]
    generalize h / 2 ^ (63 - k) = y
    rw [Int.tmod_eq_emod_of_nonneg (by omega),Go.IntWalk.wrap64_in _ (by omega)]; omega
   have Q1:=Lib.hid q1
   have Q2:=Lib.hid q2
   clear q1 q2
   go_wp2
   go_roundw
   case rel => exact ⟨k,by omega,rfl,by rw [Q1.out],by rw [Q2.out]; exact hB'.out.next (by omega)⟩
   case measure => simp [intOf]
theorem index_bits (h d:Nat) (hd:d < 64) (w:World):(Instr.index 207 (.agg (bitsA h)) (.int .i64 d)).run Tryz.prog w = .ok (.int .i64 ((bitN h d:Nat):Int)) w:=by
 have e:=bitsA_at h d hd
 simp [Instr.index,asIntOf,part,hd,e,go_sem]
end Go.Proofs.YtapndkabgjeofaaGreatDoor.split
