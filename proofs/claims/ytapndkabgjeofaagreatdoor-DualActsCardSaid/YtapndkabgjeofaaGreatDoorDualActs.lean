/- dual: what a dual answers, act by act: the walk. -/
import Derived.Test.YtapndkabgjeofaaGreatDoorDualLB
import Derived.Test.YtapndkabgjeofaaGreatDoorRegs
import Derived.Test.YtapndkabgjeofaaGreatDoorTableSort
import Derived.LoopTactic
import Derived.BigQuiet
import Derived.Deep.CutRange
import Derived.Deep.CutBlock
import Derived.Deep.RegionHeld3
namespace Go.Proofs.YtapndkabgjeofaaGreatDoor.dual
open Go.ChangeShapes Go.WideShapes Go.ChangeAt Go.RowKit Go.Shelf swar under trap meter group probe lens tail call table evac
attribute [local go_sem] Oper.semAt_some stage.pureUpon move.stepUpon moves.stepUpon movex.stepUpon
set_option linter.unusedSimpArgs false
set_option linter.unusedVariables false

/-- between two rounds -/
def LR (a:String → Addr) (w0:World) (Y:Lay) (D n1 d:Nat) (dp:Int) (R E G c Bm X2 X5 X8 X9:Nat) (cas:Cas) (j:Nat) (W:World):Prop:=
 ∃ (q:Nat) (t:Nat → Tb) (fp:List Nat) (k:Nat → Nat) (P V U p v u:Nat),LS a w0 Y D n1 d dp R E G c Bm q t fp (q - (Y.N - 1) * n1) ((Y.N - 1) * n1 - q) t k (Mq P V U p v u) W ∧
  CBox X2 cas W ∧ W.cell? ⟨X5,0,none⟩ = some (.pointer (some ⟨D,0,none⟩)) ∧ W.cell? ⟨X8,0,none⟩ = some (.pointer (some ⟨Bm,0,none⟩)) ∧ W.heap[X9]? = some (.cells #[.int .i64 (P:Nat),.int .i64 (V:Nat),.int .i64 (U:Nat)] 38 (0,0)) ∧
  (∀ X ∈ [X2,X5,X8,X9],X ∉ Ft Y R E Bm fp) ∧ (w0.heap.size ≤ X9 ∧ X9 ≠ G ∧ X9 ∉ [X2,X5,X8]) ∧ P ≤ 1000 * j ∧ V ≤ 1000 * j ∧ U ≤ 1000 * j ∧ sumK Y.N k ≤ 1000 * j ∧ p ≤ P ∧ v ≤ V ∧ u ≤ U
/-- behind an act: what is wanted is what was counted -/
def LM (a:String → Addr) (w0:World) (Y:Lay) (D n1 d:Nat) (dp:Int) (R E G c Bm X2 X5 X8 X9 X11 X12 X14:Nat) (cas:Cas) (kd ky nn:Int) (key val hs j b:Nat) (W:World):Prop:=
 ∃ (q:Nat) (t:Nat → Tb) (fp:List Nat) (k:Nat → Nat) (P V U p v u wp:Nat),LS a w0 Y D n1 d dp R E G c Bm q t fp (q - (Y.N - 1) * n1) ((Y.N - 1) * n1 - q) t k (Mq (P + p) (V + v) (U + u) p v u) W ∧
  Cx w0.heap.size G X2 X5 X8 X9 X11 X12 X14 cas D Bm P V U kd ky nn key val hs wp v u (Ft Y R E Bm fp) W ∧ P + p ≤ 1000 * (j + 1) ∧ V + v ≤ 1000 * (j + 1) ∧ U + u ≤ 1000 * (j + 1) ∧ sumK Y.N k ≤ 1000 * (j + 1) ∧ b ≤ sumK Y.N k ∧ wp + (sumK Y.N k - b) = p
theorem LR.start {a:String → Addr} {w2 w3:World} {Y:Lay} {D n0 n1 d nb:Nat} {dp:Int} {t:Nat → Tb} {fp:List Nat} {R E G c:Nat} {k:Nat → Nat} {X2:Nat} {cas:Cas} (h:MadeQ a w2 Y D n0 n1 d nb dp t fp R E G c k w3) (hX:CBox X2 cas w3) (hX2:X2 < w2.heap.size) :
  LR a w2 Y D n1 d dp R E G c (w3.heap.size + 1) X2 w3.heap.size (w3.heap.size + 1 + 1) (w3.heap.size + 1 + 1 + 1) cas 0 ((((w3.alloc (.cells #[.pointer (some ⟨D,0,none⟩)] 28)).alloc (.cells #[.int .i64 0,.int .i64 0,.int .i64 0,.int .i64 0,.int .i64 0,.int .i64 0,.int .i64 0,.bool false] 36)).alloc (.cells #[.pointer (some ⟨w3.heap.size + 1,0,none⟩)] 32)).alloc (.cells #[.int .i64 0,.int .i64 0,.int .i64 0] 38)):=by
 obtain ⟨W1,hW1⟩:∃ W1,w3.alloc (.cells #[.pointer (some ⟨D,0,none⟩)] 28) = W1:=⟨_,rfl⟩
 obtain ⟨W2,hW2⟩:∃ W2,W1.alloc (.cells #[.int .i64 0,.int .i64 0,.int .i64 0,.int .i64 0,.int .i64 0,.int .i64 0,.int .i64 0,.bool false] 36) = W2:=⟨_,rfl⟩
 obtain ⟨W3,hW3⟩:∃ W3,W2.alloc (.cells #[.pointer (some ⟨w3.heap.size + 1,0,none⟩)] 32) = W3:=⟨_,rfl⟩
 have s1:W1.heap.size = w3.heap.size + 1:=by rw [← hW1,World.size_alloc]
 have s2:W2.heap.size = w3.heap.size + 1 + 1:=by rw [← hW2,World.size_alloc,s1]
 have s3:W3.heap.size = w3.heap.size + 1 + 1 + 1:=by rw [← hW3,World.size_alloc,s2]
 have b1:Below w3.heap.size w3 W1:=by rw [← hW1]; exact new_block _ _
 have b2:Below W1.heap.size W1 W2:=by rw [← hW2]; exact new_block _ _
 have b3:Below W2.heap.size W2 W3:=by rw [← hW3]; exact new_block _ _
 have b4:=new_block W3 (.cells #[.int .i64 0,.int .i64 0,.int .i64 0] 38)
 have b34:=under.below_step b3 b4
 have b24:=under.below_step b2 b34
 have b14:=under.below_step b1 b24
 have m1:=MAt.new W1
 rw [hW2,s1] at m1
 have c5:W1.cell? ⟨w3.heap.size,0,none⟩ = some (.pointer (some ⟨D,0,none⟩)):=by rw [← hW1]; exact newc _ _ _
 have c8:W3.cell? ⟨w3.heap.size + 1 + 1,0,none⟩ = some (.pointer (some ⟨w3.heap.size + 1,0,none⟩)):=by
  have:=newc W2 (.pointer (some ⟨w3.heap.size + 1,0,none⟩)) 32
  rw [hW3,s2] at this
  exact this
 have c9:(W3.alloc (.cells #[.int .i64 0,.int .i64 0,.int .i64 0] 38)).heap[w3.heap.size + 1 + 1 + 1]? = some (.cells #[.int .i64 ((0:Nat):Int),.int .i64 ((0:Nat):Int),.int .i64 ((0:Nat):Int)] 38 (0,0)):=by
  have:=World.alloc_heap_new W3 (.cells #[.int .i64 0,.int .i64 0,.int .i64 0] 38)
  rw [s3] at this
  exact this
 have zw:=h.bel.size
 obtain ⟨lR,lE,lG⟩:=h.rd.lR
 have lts:∀ b ∈ Ft Y R E (w3.heap.size + 1) fp,w2.heap.size ≤ b ∧ (b < w3.heap.size ∨ b = w3.heap.size + 1):=fun b hb => by
  simp only [Ft,List.mem_cons,List.mem_append] at hb
  rcases hb with rfl | rfl | rfl | hb | hb
  ·exact ⟨by omega,.inr rfl⟩
  ·exact ⟨h.hR,.inl lR⟩
  ·exact ⟨h.hE,.inl lE⟩
  ·exact ⟨h.fpn b hb,.inl (h.da.lts b hb)⟩
  ·exact ⟨h.rd.wn.ge hb,.inl (h.rd.wn.lts hb)⟩
 rw [hW1,hW2,hW3]
 refine ⟨0,t,fp,k,0,0,0,0,0,0,⟨h.da.read b14, ?_,m1.below b34,fun b hb => ?_,⟨by omega,by omega,by omega,by omega,fun e => by have:=h.rd.wn.lts e; omega⟩,h.hR,h.hE⟩,hX.keep b14,keepc b24 c5,keepc b4 c8,c9,fun X hX e => ?_,⟨by omega,by omega,by simp; omega⟩,by omega,by omega,by omega,by rw [h.k0]; omega,by omega,by omega,by omega⟩
 ·have:=h.rd.read b14
  rw [show nb * n1 = (Y.N - 1) * n1 - 0 by rw [h.N]; simp] at this
  rw [Nat.zero_sub]
  exact this
 ·obtain ⟨e1,e2,e3,e4⟩:=h.sep b hb
  exact ⟨h.fpn b hb,e1,e2,e3,e4,by have:=h.da.lts b hb; omega⟩
 ·obtain ⟨l1,l2⟩:=lts X e
  simp only [List.mem_cons,List.not_mem_nil,or_false] at hX
  omega
theorem LS.mstep {a:String → Addr} {w0:World} {Y:Lay} {D n1 d:Nat} {dp:Int} {R E G c Bm q:Nat} {t:Nat → Tb} {fp:List Nat} {nx br:Nat} {u:Nat → Tb} {k:Nat → Nat} {m m':Mt} {W W':World} (h:LS a w0 Y D n1 d dp R E G c Bm q t fp nx br u k m W) (hs:MStep Bm 0 m' W W'):LS a w0 Y D n1 d dp R E G c Bm q t fp nx br u k m' W':=
 h.real (h.da.aside hs.past (only ⟨h.hB.1,fun e => (h.sp _ e).2.2.2.2.2 rfl⟩)) hs.at' (hs.past.mono fun b hb => by
  obtain rfl:b = Bm:=by simpa using hb
  exact List.mem_cons_self) fun b hb => .inl hb
/-- the boxes of a round -/
theorem Cx.make {a:String → Addr} {w0:World} {Y:Lay} {D n1 d:Nat} {dp:Int} {R E G c Bm q:Nat} {t:Nat → Tb} {fp:List Nat} {nx br:Nat} {u:Nat → Tb} {k:Nat → Nat} {m:Mt} {X2 X5 X8 X9 P V U:Nat} {cas:Cas} {wr w4 w6:World} {kd ky nn:Int} {key val hs:Nat} (h:LS a w0 Y D n1 d dp R E G c Bm q t fp nx br u k m wr) (hcb:CBox X2 cas wr) (h5:wr.cell? ⟨X5,0,none⟩ = some (.pointer (some ⟨D,0,none⟩))) (h8:wr.cell? ⟨X8,0,none⟩ = some (.pointer (some ⟨Bm,0,none⟩)))
  (h9:wr.heap[X9]? = some (.cells #[.int .i64 (P:Nat),.int .i64 (V:Nat),.int .i64 (U:Nat)] 38 (0,0))) (ho:∀ X ∈ [X2,X5,X8,X9],X ∉ Ft Y R E Bm fp) (hn:w0.heap.size ≤ X9 ∧ X9 ≠ G ∧ X9 ∉ [X2,X5,X8])
  (hb4:Below (wr.alloc (.cells #[.int .i64 kd,.int .i64 ky,.int .i64 nn] 40)).heap.size (wr.alloc (.cells #[.int .i64 kd,.int .i64 ky,.int .i64 nn] 40)) w4) (hs6:Past [Bm] (w4.alloc (.cells #[.int .u64 (key:Nat),.int .u64 (val:Nat),.int .u64 (hs:Nat)] 43)) w6) :
  Cx w0.heap.size G X2 X5 X8 X9 wr.heap.size w4.heap.size w6.heap.size cas D Bm P V U kd ky nn key val hs 0 0 0 (Ft Y R E Bm fp) (w6.alloc (.cells #[.int .i64 0,.int .i64 0,.int .i64 0] 38)):=by
 have l2:=hcb.lt
 have l5:=World.block_lt_of_cell? _ _ h5
 have l8:=World.block_lt_of_cell? _ _ h8
 have l9:=row_lt' h9
 simp only at l5 l8
 have bA:=new_block wr (.cells #[.int .i64 kd,.int .i64 ky,.int .i64 nn] 40)
 have cA:=World.alloc_heap_new wr (.cells #[.int .i64 kd,.int .i64 ky,.int .i64 nn] 40)
 have zA:=World.size_alloc wr (.cells #[.int .i64 kd,.int .i64 ky,.int .i64 nn] 40)
 have z4:=hb4.size
 have bE:=new_block w4 (.cells #[.int .u64 (key:Nat),.int .u64 (val:Nat),.int .u64 (hs:Nat)] 43)
 have cE:=EBox.new key val hs w4
 have zE:=World.size_alloc w4 (.cells #[.int .u64 (key:Nat),.int .u64 (val:Nat),.int .u64 (hs:Nat)] 43)
 have z6:=hs6.size
 have bN:=new_block w6 (.cells #[.int .i64 0,.int .i64 0,.int .i64 0] 38)
 have cN:=World.alloc_heap_new w6 (.cells #[.int .i64 0,.int .i64 0,.int .i64 0] 38)
 have lBm:=h.mt.lt
 have hl:=h.lts
 have z0:=h.bel.size
 have hp4:Past [Bm] (wr.alloc (.cells #[.int .i64 kd,.int .i64 ky,.int .i64 nn] 40)) (w6.alloc (.cells #[.int .i64 0,.int .i64 0,.int .i64 0] 38)):=((Past.of hb4).trans (Past.of bE)).trans (hs6.trans (Past.of bN))
 have hp0:Past [Bm] wr (w6.alloc (.cells #[.int .i64 0,.int .i64 0,.int .i64 0] 38)):=(Past.of bA).trans hp4
 have nb:∀ X ∈ [X2,X5,X8,X9],X ∉ [Bm]:=fun X hX e => by
  obtain rfl:X = Bm:=by simpa using e
  exact ho X hX (by simp)
 have hlt:∀ X ∈ [X2,X5,X8,X9],X < wr.heap.size:=fun X hX => by
  simp only [List.mem_cons,List.not_mem_nil,or_false] at hX
  rcases hX with rfl | rfl | rfl | rfl <;> omega
 refine ⟨hcb.past hp0 (nb _ (by simp)),hp0.cell h5 (nb _ (by simp)),hp0.cell h8 (nb _ (by simp)), ?_, ?_,(cE.past hs6 (by simp; omega)).keep bN,cN,fun X hX => ?_,fun X hX => ?_,fun e => ?_,fun e => ?_⟩
 ·rw [hp0.block X9 l9 (nb _ (by simp))]; exact h9
 ·rw [hp4.block wr.heap.size (by omega) (by simp; omega)]; exact cA
 ·simp only [List.mem_cons,List.not_mem_nil,or_false] at hX
  rcases hX with rfl | rfl | rfl | rfl | rfl | rfl | rfl
  ·exact ho _ (by simp)
  ·exact ho _ (by simp)
  ·exact ho _ (by simp)
  ·exact ho _ (by simp)
  ·exact fun e => by have:=hl.1 _ e; omega
  ·exact fun e => by have:=hl.1 _ e; omega
  ·exact fun e => by have:=hl.1 _ e; omega
 ·simp only [List.mem_cons,List.not_mem_nil,or_false] at hX
  rcases hX with rfl | rfl | rfl | rfl
  ·exact ⟨hn.1,hn.2.1⟩
  ·exact ⟨by omega,by omega⟩
  ·exact ⟨by omega,by omega⟩
  ·exact ⟨by omega,by omega⟩
 ·simp only [List.mem_cons,List.not_mem_nil,or_false] at e
  have hn3:=hn.2.2
  simp only [List.mem_cons,List.not_mem_nil,or_false,not_or] at hn3
  omega
 ·have:=hlt X2 (by simp)
  have:=hlt X5 (by simp)
  have:=hlt X8 (by simp)
  have:=hlt X9 (by simp)
  simp only [List.mem_cons,List.not_mem_nil,or_false] at e
  omega
theorem Cx.next {b0 G X2 X5 X8 X9 X11 X12 X14:Nat} {cas:Cas} {D Bm P V U:Nat} {kd ky nn:Int} {key val hs wp wv wu:Nat} {F:List Nat} {W:World} (h:Cx b0 G X2 X5 X8 X9 X11 X12 X14 cas D Bm P V U kd ky nn key val hs wp wv wu F W) :
  CBox X2 cas W ∧ W.cell? ⟨X5,0,none⟩ = some (.pointer (some ⟨D,0,none⟩)) ∧ W.cell? ⟨X8,0,none⟩ = some (.pointer (some ⟨Bm,0,none⟩)) ∧ W.heap[X9]? = some (.cells #[.int .i64 (P:Nat),.int .i64 (V:Nat),.int .i64 (U:Nat)] 38 (0,0)) ∧ (∀ X ∈ [X2,X5,X8,X9],X ∉ F) ∧ (b0 ≤ X9 ∧ X9 ≠ G ∧ X9 ∉ [X2,X5,X8]):=by
 refine ⟨h.cb,h.c5,h.c8,h.al,fun X hX => h.o X ?_,(h.h X9 (by simp)).1,(h.h X9 (by simp)).2,fun e => h.n9 ?_⟩
 ·simp only [List.mem_cons,List.not_mem_nil,or_false] at hX ⊢
  rcases hX with e | e | e | e <;> simp [e]
 ·simp only [List.mem_cons,List.not_mem_nil,or_false] at e ⊢
  rcases e with e | e | e <;> simp [e]
/-- what the calls behind an act answer -/
def AM (la al lf r ln gr:Value) (n:Nat):Nat → Unit → Value → Unit → Prop:=fun k s v s' =>
 if k = 1 then v = la ∧ s' = s else if k = 6 then v = al ∧ s' = s else if k = 12 then v = lf ∧ s' = s else if k = 14 then v = lf ∧ s' = s else if k = 19 then v = r ∧ s' = s else if k = 29 then v = ln ∧ s' = s else if k = 31 then (∃ o c,v = .slice o n c) ∧ s' = s else v = gr ∧ s' = s
theorem AM.some (la al lf r ln gr:Value) (n k:Nat) (s:Unit):∃ v s',AM la al lf r ln gr n k s v s':=by
 unfold AM
 repeat' split
 all_goals first
  | exact ⟨_,_,rfl,rfl⟩
  | exact ⟨_,s,⟨none,0,rfl⟩,rfl⟩
/-- behind the document's Least: its box is new, or made ahead -/
def EF (A B:World → Prop) (l:List Nat) (x y k v h:Nat) (W:World):Prop:=A W ∧ B W ∧ EBox x k v h W ∧ EBox y k v h W ∧ ∀ Z ∈ l,Z ≠ y
/-! ### two texts, and whether they are the same, in one region -/
structure TS where
 a:Option (Option Addr)
 b:Option (Option Addr)
def TD (w:World) (l:List ByteArray):TS → World → Prop:=fun s W => Below w.heap.size w W ∧ (∀ o,s.a = some o → TextsAt o l W) ∧ (∀ o,s.b = some o → TextsAt o l W)
def TM (l:List ByteArray) (i1 i2:Nat):Nat → TS → Value → TS → Prop:=fun k s v s' =>
 if k = i1 then ∃ o c,v = .slice o l.length c ∧ s' = ⟨some o,s.b⟩ else if k = i2 then ∃ o c,v = .slice o l.length c ∧ s' = ⟨s.a,some o⟩ else v = .bool true ∧ s' = s
theorem TM.some (l:List ByteArray) (i1 i2 k:Nat) (s:TS):∃ v s',TM l i1 i2 k s v s':=by
 unfold TM
 split
 ·exact ⟨_,_,none,0,rfl,rfl⟩
 ·split
  ·exact ⟨_,_,none,0,rfl,rfl⟩
  ·exact ⟨_,_,rfl,rfl⟩
/-! ### what both duals answer between two rounds -/
section
variable {a:String → Addr} {w0:World} {Y:Lay} {D n1 d:Nat} {dp:Int} {R E G c Bm q:Nat} {t:Nat → Tb} {fp:List Nat} {k:Nat → Nat} {P V U p v u:Nat} {m:Mt} {W:World}
theorem LS.aLast (h:LS a w0 Y D n1 d dp R E G c Bm q t fp (q - (Y.N - 1) * n1) ((Y.N - 1) * n1 - q) t k (Mq P V U p v u) W) :
  Calls Tryz.prog 34 #[.pointer (some ⟨Bm,0,none⟩)] W fun e w' => e = .returned (.agg #[.int .i64 (p:Nat),.int .i64 (v:Nat),.int .i64 (u:Nat)]) ∧ Below W.heap.size W w':=last_any Bm 0 _ W h.mt
theorem LS.aAll (h:LS a w0 Y D n1 d dp R E G c Bm q t fp (q - (Y.N - 1) * n1) ((Y.N - 1) * n1 - q) t k (Mq P V U p v u) W) :
  Calls Tryz.prog 35 #[.pointer (some ⟨Bm,0,none⟩)] W fun e w' => e = .returned (.agg #[.int .i64 (P:Nat),.int .i64 (V:Nat),.int .i64 (U:Nat)]) ∧ Below W.heap.size W w':=all_any Bm 0 _ W h.mt
theorem LS.aLeft (h:LS a w0 Y D n1 d dp R E G c Bm q t fp (q - (Y.N - 1) * n1) ((Y.N - 1) * n1 - q) t k m W) :
  Calls Tryz.prog 36 #[.pointer (some ⟨D,0,none⟩)] W fun e w' => e = .returned (.int .i64 ((Y.n 0 + (Y.N - 1) * n1 - q:Nat):Int)) ∧ Below W.heap.size W w':=h.da.left
theorem LS.aRLeft (h:LS a w0 Y D n1 d dp R E G c Bm q t fp (q - (Y.N - 1) * n1) ((Y.N - 1) * n1 - q) t k m W) :
  Calls Tryz.prog 25 #[.pointer (some ⟨R,0,none⟩)] W fun e w' => e = .returned (.int .i64 ((Y.n 0 + (Y.N - 1) * n1 - q:Nat):Int)) ∧ Below W.heap.size W w':=by
 have hN:=h.da.N
 have hsm:=h.da.small
 have hle:=h.da.le
 have h':=rdleft_any h.rd.dd h.rd.em h.rd.wn (by omega) (by omega) (by omega)
 rw [show (Y.N - 1) * n1 - q + Y.n 0 - (q - (Y.N - 1) * n1) = Y.n 0 + (Y.N - 1) * n1 - q by omega] at h'
 exact h'
theorem LS.aReady (h:LS a w0 Y D n1 d dp R E G c Bm q t fp (q - (Y.N - 1) * n1) ((Y.N - 1) * n1 - q) t k m W) :
  Calls Tryz.prog 37 #[.pointer (some ⟨D,0,none⟩)] W fun e w' => e = .returned (.bool (rdy Y n1 q)) ∧ Below W.heap.size W w':=
 h.da.ready.mono fun e w' ⟨he,hw⟩ => ⟨he,by subst hw; exact Below.refl _ _⟩
theorem LS.aLen (h:LS a w0 Y D n1 d dp R E G c Bm q t fp (q - (Y.N - 1) * n1) ((Y.N - 1) * n1 - q) t k m W) :
  Calls Tryz.prog 38 #[.pointer (some ⟨D,0,none⟩)] W fun e w' => e = .returned (.int .i64 ((entsA t Y.N).length:Nat)) ∧ Below W.heap.size W w':=by
 have hl:=h.da.len
 rw [h.da.lenA] at hl
 exact hl.mono fun e w' ⟨he,hw⟩ => ⟨he,by subst hw; exact Below.refl _ _⟩
theorem LS.aList (h:LS a w0 Y D n1 d dp R E G c Bm q t fp (q - (Y.N - 1) * n1) ((Y.N - 1) * n1 - q) t k m W) :
  Calls Tryz.prog 22 #[.pointer (some ⟨R,0,none⟩)] W fun e w' => ∃ o cc,e = .returned (.slice o (entsA t Y.N).length cc) ∧ Below W.heap.size W w':=
 h.rd.all.mono fun e w' ⟨v,he,hK,hb'⟩ => by
  obtain ⟨o,cc,hv,_⟩:=hK.rows
  exact ⟨o,cc,by rw [he,hv],hb'⟩
theorem LS.aGroups (h:LS a w0 Y D n1 d dp R E G c Bm q t fp (q - (Y.N - 1) * n1) ((Y.N - 1) * n1 - q) t k m W) :
  Calls Tryz.prog 39 #[.pointer (some ⟨D,0,none⟩)] W fun e w' => e = .returned (.int .i64 (sumK Y.N Y.n:Nat)) ∧ Below W.heap.size W w':=by
 have hg:=h.da.groups
 rw [← h.da.sumn] at hg
 exact hg.mono fun e w' ⟨he,hw⟩ => ⟨he,by subst hw; exact Below.refl _ _⟩
end
set_option maxRecDepth 100000 in
set_option maxHeartbeats 20000000 in
theorem acts_few (a:String → Addr) (n0:Nat) (new depth:Int) (sh:Option Addr) (lh ch:Nat) (sk:Option Addr) (lk ck:Nat) (s2:Option Addr) (lb cb:Nat) (hS:Short ⟨n0,new,depth,sh,lh,ch,sk,lk,ck⟩ n0) (hm:¬ 120 < lb) (hz:Nat → Nat) (kz:Nat → Int) (az:Nat → Ac) (w:World) (hw:Base a w) (hH:HashAt sh lh w hz) (hK:IntsAt sk lk w kz) (hA:ActAt s2 lb w az) :
  Calls Tryz.prog 3 #[.agg #[.int .i64 n0,.int .i64 new,.int .i64 depth,.slice sh lh ch,.slice sk lk ck],.slice s2 lb cb] w fun e w' => e = .returned (.bool true) ∧ Below w.heap.size w w':=by
 have cA:=fun W (hb:Below w.heap.size w W) => alive_any a W (.of (hw.below hb))
 have hX0:=CBox.new ⟨n0,new,depth,sh,lh,ch,sk,lk,ck⟩ w
 have hb0:=new_block w (.cells #[.int .i64 n0,.int .i64 new,.int .i64 depth,.slice sh lh ch,.slice sk lk ck] 25)
 have cL:=fun W => long_no hS W
 have cM:=fun W (hb:Below w.heap.size w W) => made_any a n0 new depth sh lh ch sk lk ck hS hz kz W (hw.below hb) (hH.below hb) (hK.below hb)
 obtain ⟨g1,g2,k2,_,o0,l0,nw⟩:=hS
 simp only at *
 have d1:decide (120 < (lb:Int)) = false:=decide_eq_false (by omega)
 have HW:=Lib.hid hw
 have HH:=Lib.hid hH
 have HA:=Lib.hid hA
 have hds:=dual_none
 have hdn:=dual_some
 clear hw hH hK hA nw
 go_enter Tryz.func3,Tryz.ntmps3
 go_upto_region 6 with (first
  | (go_at_call 6; refine (cA _ hb0).mono ?_; rintro e w1 ⟨rfl,hb1⟩; have ⟨x0,x1,x2,x3,x4⟩:=CBox.all (hX0.keep hb1))
  | (go_at_call 7; refine (cL _).mono ?_; rintro e w2 ⟨rfl,hb2⟩; have hX2:=(hX0.keep hb1).keep hb2; have ⟨y0,y1,y2,y3,y4⟩:=CBox.all hX2; have hbw:=under.below_step (under.below_step hb0 hb1) hb2)
  | (go_at_call 8; refine (cM _ hbw).mono ?_; intro e w3 hM; rcases hM with ⟨rfl,hb3⟩ | ⟨n1,d,nb,rfl,o1,h32,hnb,ld,Y,D,fp,t,R,E,G,c,k,rfl,hQ⟩))
 ·clear cA cL cM
  have hbf:=under.below_step hbw hb3
  go_wp2
  go_ret
  exact ⟨rfl,under.below_step hbf (new_block _ _)⟩
 have hSt:=LR.start hQ (hX2.keep hQ.bel) (by have:=World.size_alloc w (.cells #[.int .i64 n0,.int .i64 (n1:Nat),.int .i64 depth,.slice sh lh ch,.slice sk lk ck] 25); have:=hb1.size; have:=hb2.size; omega)
 have hb3:=hQ.bel
 have ⟨Q,hpl⟩:=hQ.da.pl
 have HS:=Lib.hid hSt
 have HP:=Lib.hid hpl
 have HX2:=Lib.hid hX2
 have HB2:=Lib.hid (HW.out.below hbw)
 have HH2:=Lib.hid (HH.out.below hbw)
 have HA2:=Lib.hid (HA.out.below hbw)
 have HBW:=Lib.hid hbw
 have hyp1:=okN_pos o1
 have hyp6:=okN_le o1
 have hfin:∀ j W,LR a w2 Y D n1 d depth R E G c (w3.heap.size + 1) w.heap.size w3.heap.size (w3.heap.size + 1 + 1) (w3.heap.size + 1 + 1 + 1) ⟨n0,n1,depth,sh,lh,ch,sk,lk,ck⟩ j W → Below w.heap.size w W:=fun j W h => by
  obtain ⟨q,t,fp,k,P,V,U,p,v,u,h,_⟩:=h
  exact under.below_step hbw h.bel
 have HFN:=Lib.hid hfin
 have HY0:=Lib.hid (show Y.n 0 ≤ 16 from by rw [hQ.e0]; exact l0)
 clear cA cL cM hX0 hb0 hb1 x0 x1 x2 x3 x4 y0 y1 y2 y3 y4 hX2 hbw hb2 hSt hb3 hpl hQ HW HH HA hnb hfin
 go_wp2_with (fail)
 generalize (((w3.alloc (.cells #[.pointer (some ⟨D,0,none⟩)] 28)).alloc (.cells #[.int .i64 0,.int .i64 0,.int .i64 0,.int .i64 0,.int .i64 0,.int .i64 0,.int .i64 0,.bool false] 36)).alloc (.cells #[.pointer (some ⟨w3.heap.size + 1,0,none⟩)] 32)).alloc (.cells #[.int .i64 0,.int .i64 0,.int .i64 0] 38) = W0 at *
 generalize w3.heap.size + 1 + 1 + 1 = X9 at *
 generalize w3.heap.size + 1 + 1 = X8 at *
 generalize w3.heap.size + 1 = Bm at *
 generalize w3.heap.size = X5 at *
 generalize hXX:w.heap.size = X2 at HS HFN ⊢
 clear HX2
 go_loopw [70] (fun i wr => ∃ j:Nat,j ≤ lb ∧ i = .int .i64 j ∧ Hid (LR a w2 Y D n1 d depth R E G c Bm X2 X5 X8 X9 ⟨n0,n1,depth,sh,lh,ch,sk,lk,ck⟩ j wr)) (fun i _ => lb - (intOf i).toNat)
 case atStart => exact ⟨0,by omega,rfl,HS⟩
 case round =>
  as_aux_lemma =>
   obtain ⟨j,hj,rfl,HO⟩:=hrel
   clear HS
   rcases Nat.lt_or_ge j lb with hjl | hjl
   ·obtain ⟨⟨x,rfl,hcs⟩,bb1,bb2,bb3,bb4⟩:=HA2.out j hjl
    obtain ⟨q,t,fp,k,P,V,U,p,v,u,hL,hcb,h5,h8,h9,ho,hn9,hP,hV,hU,hK,hp,hv,hu⟩:=HO.out
    obtain ⟨c0,c1,c2⟩:=hcs _ hL.bel
    have hki:(j:Int) < (lb:Int):=by omega
    have hkw:j + 1 ≤ lb:=by omega
    have hkz:kN (az j).key lh < lh:=kN_lt _ g1
    have hzz:hz (kN (az j).key lh) < 18446744073709551616:=by obtain ⟨_,_,h,_⟩:=HH2.out _ hkz; exact h
    have cE:=fun W v (hb:Below w2.heap.size w2 W) => entry_any ⟨n0,n1,depth,sh,lh,ch,sk,lk,ck⟩ hz g1 g2 (az j).key v W (HH2.out.below hb)
    have hvn:=uN_lt (az j).n
    simp only at cE
    generalize kN (az j).key lh = ki at *
    generalize hz ki = hh at *
    generalize (az j).kind = kd at *
    generalize (az j).key = ky at *
    have e1:=uN_cast (az j).n
    generalize uN (az j).n = vn at *
    generalize (az j).n = nn at *
    have hbA:=new_block wr (.cells #[.int .i64 kd,.int .i64 ky,.int .i64 nn] 40)
    have ⟨y0,y1,y2,y3,y4⟩:=CBox.all (hcb.keep hbA)
    have cE:=cE _ vn (under.below_step hL.bel hbA)
    have ⟨a0,a1,a2⟩:=act3 kd ky nn wr
    have HL:=Lib.hid hL
    have HC:=Lib.hid (And.intro hcb (And.intro h5 (And.intro h8 (And.intro h9 (And.intro ho hn9)))))
    have HBD:=Lib.hid (And.intro hP (And.intro hV (And.intro hU hK)))
    have h120:lb ≤ 120:=by omega
    clear hL HO hcs bb1 bb2 bb3 bb4 hcb h5 h8 h9 ho hn9 hP hV hU hK hp hv hu
    go_upto_region 16 with (first
     | (go_at_call 9; refine cE.mono ?_; clear cE; rintro e w4 ⟨rfl,hb4⟩; have hL4:=(HL.out.read hbA).read hb4; have hL5:=hL4.read (new_block w4 (.cells #[.int .u64 (ki:Nat),.int .u64 (vn:Nat),.int .u64 (hh:Nat)] 43)); have r0:=hL5.rd.dd.c0; have cK:=hL5.rd.lks (by have:=HBD.out.2.2.2; omega); have x8:=keepc (new_block w4 (.cells #[.int .u64 (ki:Nat),.int .u64 (vn:Nat),.int .u64 (hh:Nat)] 43)) (keepc hb4 (keepc hbA HC.out.2.2.1)); have cR:=reset_any Bm 0 _ _ hL5.mt)
     | (go_at_call 10; refine cK.mono ?_; clear cK; rintro e w5 ⟨rfl,rfl⟩)
     | (go_at_call 11; refine cR.mono ?_; clear cR; rintro e w6 ⟨rfl,hs6⟩))
    have hL6:=hL5.mstep hs6
    rw [Mq_reset] at hL6
    have hL7:=hL6.read (new_block w6 (.cells #[.int .i64 0,.int .i64 0,.int .i64 0] 38))
    have hC7:=Cx.make (kd:=kd) (ky:=ky) (nn:=nn) (key:=ki) (val:=vn) (hs:=hh) HL.out HC.out.1 HC.out.2.1 HC.out.2.2.1 HC.out.2.2.2.1 HC.out.2.2.2.2.1 HC.out.2.2.2.2.2 hb4 hs6.past
    have HL7:=Lib.hid hL7
    have HC7:=Lib.hid hC7
    have ⟨v0,v1,v2⟩:=hC7.a0
    clear hL4 hL5 hL6 hL7 hC7 r0 x8 hs6 y0 y1 y2 y3 y4 a0 a1 a2 c0 c1 c2 hbA HL HC
    go_upto_region 17 with (fail)
    generalize w6.alloc (.cells #[.int .i64 0,.int .i64 0,.int .i64 0] 38) = w7 at *
    generalize w6.heap.size = X14 at *
    generalize w4.heap.size = X12 at *
    generalize wr.heap.size = X11 at *
    clear hb4
    have hb9:w2.heap.size ≤ w7.heap.size:=HL7.out.bel.size
    have hjb:j ≤ 119:=by omega
    have hPb:P ≤ 119000:=by have:=HBD.out.1; omega
    have hVb:V ≤ 119000:=by have:=HBD.out.2.1; omega
    have hUb:U ≤ 119000:=by have:=HBD.out.2.2.1; omega
    have hKb:sumK Y.N k ≤ 119000:=by have:=HBD.out.2.2.2; omega
    have hP':=HBD.out.1
    have hV':=HBD.out.2.1
    have hU':=HBD.out.2.2.1
    have hK':=HBD.out.2.2.2
    go_upto_block 2 with (fail)
    go_cut [13,15,16,17,18,19,20,21,22,23,24,25,26,27,28,29,30,31,32,33,34,35,36,37,38,39,40] from 91 to 332 (fun s13 s15 s16 s17 s18 s19 s20 s21 s22 s23 s24 s25 s26 s27 s28 s29 s30 s31 s32 s33 s34 s35 s36 s37 s38 s39 s40 wx => ∃ b:Nat,s13 = .int .i64 b ∧ Hid (LM a w2 Y D n1 d depth R E G c Bm X2 X5 X8 X9 X11 X12 X14 ⟨n0,n1,depth,sh,lh,ch,sk,lk,ck⟩ kd ky nn ki vn hh j b wx))
    case first =>
     as_aux_lemma =>
      by_cases k0:kd = 0
      ·as_aux_lemma =>
        subst k0
        have cP:=fun W (h:LS a w2 Y D n1 d depth R E G c Bm q t fp (q - (Y.N - 1) * n1) ((Y.N - 1) * n1 - q) t k (Mq P V U 0 0 0) W) => h.vput ki vn hh (by omega) hvn hzz true (by omega) (by omega)
        have cR:=fun m t' W (h:LS a w2 Y D n1 d depth R E G c Bm q t' fp (q - (Y.N - 1) * n1) ((Y.N - 1) * n1 - q) t k m W) => h.rput (rdy_eq Y n1 q) ki vn hh (by omega) hvn hzz true (by omega)
        have hfk:=HL7.out.few ki hh
        have hdE:=dE_le t ki hh (js (rdy Y n1 q) Y.N d hh) true
        generalize js (rdy Y n1 q) Y.N d hh = J at *
        generalize dB t ki hh J true = pb at *
        generalize dE t ki hh J true = pe at *
        generalize dT t ki hh vn J true = t1 at *
        generalize dual.fndK t ki hh J = fk at *
        simp only [Nat.zero_add] at cP
        have f5:=Under.cell HC7.out.c5
        have f8:=Under.cell HC7.out.c8
        have f0:=Under.cell HC7.out.e0.1
        have f1:=Under.cell HC7.out.e0.2.1
        have f2:=Under.cell HC7.out.e0.2.2
        have fa:=Under.cell HC7.out.a0.1
        go_upto_region 34 with (fail)
        refine one.wp_region_one 7 _ (by kernel_rfl) (by kernel_rfl) rfl ?_
        simp only [List.take_succ_cons,List.take_zero,List.drop_succ_cons,List.drop_zero]
        repeat (quiet_step (first
         | (go_at_call 13; (with_reducible refine under_call (probing_any _ _ _)))))
        refine wpQuiet_nil ?_
        intro y Kc hKc
        have cPy:=cP _ (HL7.out.read y.below)
        have hC8:=HC7.out.read y.below
        clear f5 f8 f0 f1 f2 fa cP
        generalize y.W = w8 at *
        go_simp
        refine cPy.mono ?_
        clear cPy
        rintro e w9 ⟨rfl,hL9,hp9⟩
        have hC9:=hC8.step hp9 ft_real
        go_simp
        refine hKc _ _ ?_
        clear hKc Kc hp9 hC8
        repeat (quiet_step (fail))
        refine wpQuiet_nil ?_
        intro y3
        have hL10:=hL9.read y3.below
        have hC10:=hC9.read y3.below
        clear hC9 hL9
        generalize y3.W = w10 at *
        have ⟨g0,g1',g2'⟩:=hC10.e0
        have ga:=hC10.a0.1
        have cR:=cR _ _ _ hL10
        have HC10:=Lib.hid hC10
        clear hC10 hL10
        have hpbb:(pb != pb) = false:=by simp
        go_wp2_with (first
         | (go_at_call 14; refine cR.mono ?_; clear cR; rintro e w11 ⟨rfl,⟨k1,hk1,hL11⟩,hp11⟩; have cN:=table.num_err a pe hdE w11 (HB2.out.below hL11.bel).errs; have HC11:=Lib.hid (HC10.out.step hp11 ft_doc); have HL11:=Lib.hid hL11; clear hL11 hp11)
         | (go_at_call 15; refine cN.mono ?_; clear cN; rintro e w12 ⟨rfl,hb12⟩))
        go_meet
        exact ⟨sumK Y.N k,rfl,Lib.hid ⟨q,t1,fp,k1,P,V,U,fk,0,0,0,HL11.out.read hb12,HC11.out.read hb12,by omega,by omega,by omega,by omega,by omega,by omega⟩⟩
      ·by_cases k1:kd = 1
       ·as_aux_lemma =>
         subst k1
         have cP:=fun W (h:LS a w2 Y D n1 d depth R E G c Bm q t fp (q - (Y.N - 1) * n1) ((Y.N - 1) * n1 - q) t k (Mq P V U 0 0 0) W) => h.vput ki vn hh (by omega) hvn hzz false (by omega) (by omega)
         have cR:=fun m t' W (h:LS a w2 Y D n1 d depth R E G c Bm q t' fp (q - (Y.N - 1) * n1) ((Y.N - 1) * n1 - q) t k m W) => h.rput (rdy_eq Y n1 q) ki vn hh (by omega) hvn hzz false (by omega)
         have hfk:=HL7.out.few ki hh
         have hdE:=dE_le t ki hh (js (rdy Y n1 q) Y.N d hh) false
         generalize js (rdy Y n1 q) Y.N d hh = J at *
         generalize dB t ki hh J false = pb at *
         generalize dE t ki hh J false = pe at *
         generalize dT t ki hh vn J false = t1 at *
         generalize dual.fndK t ki hh J = fk at *
         simp only [Nat.zero_add] at cP
         have f5:=Under.cell HC7.out.c5
         have f8:=Under.cell HC7.out.c8
         have f0:=Under.cell HC7.out.e0.1
         have f1:=Under.cell HC7.out.e0.2.1
         have f2:=Under.cell HC7.out.e0.2.2
         have fa:=Under.cell HC7.out.a0.1
         go_upto_region 34 with (fail)
         refine one.wp_region_one 7 _ (by kernel_rfl) (by kernel_rfl) rfl ?_
         simp only [List.take_succ_cons,List.take_zero,List.drop_succ_cons,List.drop_zero]
         repeat (quiet_step (first
          | (go_at_call 13; (with_reducible refine under_call (probing_any _ _ _)))))
         refine wpQuiet_nil ?_
         intro y Kc hKc
         have cPy:=cP _ (HL7.out.read y.below)
         have hC8:=HC7.out.read y.below
         clear f5 f8 f0 f1 f2 fa cP
         generalize y.W = w8 at *
         go_simp
         refine cPy.mono ?_
         clear cPy
         rintro e w9 ⟨rfl,hL9,hp9⟩
         have hC9:=hC8.step hp9 ft_real
         go_simp
         refine hKc _ _ ?_
         clear hKc Kc hp9 hC8
         repeat (quiet_step (fail))
         refine wpQuiet_nil ?_
         intro y3
         have hL10:=hL9.read y3.below
         have hC10:=hC9.read y3.below
         clear hC9 hL9
         generalize y3.W = w10 at *
         have ⟨g0,g1',g2'⟩:=hC10.e0
         have ga:=hC10.a0.1
         have cR:=cR _ _ _ hL10
         have HC10:=Lib.hid hC10
         clear hC10 hL10
         have hpbb:(pb != pb) = false:=by simp
         go_wp2_with (first
          | (go_at_call 14; refine cR.mono ?_; clear cR; rintro e w11 ⟨rfl,⟨k1,hk1,hL11⟩,hp11⟩; have cN:=table.num_err a pe hdE w11 (HB2.out.below hL11.bel).errs; have HC11:=Lib.hid (HC10.out.step hp11 ft_doc); have HL11:=Lib.hid hL11; clear hL11 hp11)
          | (go_at_call 15; refine cN.mono ?_; clear cN; rintro e w12 ⟨rfl,hb12⟩))
         go_meet
         exact ⟨sumK Y.N k,rfl,Lib.hid ⟨q,t1,fp,k1,P,V,U,fk,0,0,0,HL11.out.read hb12,HC11.out.read hb12,by omega,by omega,by omega,by omega,by omega,by omega⟩⟩
       ·by_cases k2:kd = 2
        ·as_aux_lemma =>
          subst k2
          have cD:=fun W (h:LS a w2 Y D n1 d depth R E G c Bm q t fp (q - (Y.N - 1) * n1) ((Y.N - 1) * n1 - q) t k (Mq P V U 0 0 0) W) => h.vdelete ki hh (by omega) hzz (by omega) (by omega)
          have cW:=fun W (h:LW a w2 Y D n1 d depth R E G c Bm q fp (q - (Y.N - 1) * n1) ((Y.N - 1) * n1 - q) t k W) => h.delete ki hh (by omega) hzz
          have cR:=fun m t' W (h:LS a w2 Y D n1 d depth R E G c Bm q t' fp (q - (Y.N - 1) * n1) ((Y.N - 1) * n1 - q) t k m W) => h.rdelete (rdy_eq Y n1 q) ki hh (by omega) hzz (by omega)
          have hfk:=HL7.out.few ki hh
          generalize js (rdy Y n1 q) Y.N d hh = J at *
          generalize (fnd t ki hh J).isSome = ab at *
          generalize eT t ki hh J = t1 at *
          generalize dual.fndK t ki hh J = fk at *
          generalize (fndE t ki hh J).key = ek at *
          generalize (fndE t ki hh J).val = ev at *
          generalize (fndE t ki hh J).hash = eh at *
          simp only [Nat.zero_add] at cD

          obtain ⟨GG,hGG⟩:∃ GG,GL (LS a w2 Y D n1 d depth R E G c Bm q t fp (q - (Y.N - 1) * n1) ((Y.N - 1) * n1 - q) t k (Mq P V U 0 0 0)) (LS a w2 Y D n1 d depth R E G c Bm q t1 fp (q - (Y.N - 1) * n1) ((Y.N - 1) * n1 - q) t k (Mq (P + fk) V U fk 0 0)) (LW a w2 Y D n1 d depth R E G c Bm q fp (q - (Y.N - 1) * n1) ((Y.N - 1) * n1 - q) t k) = GG:=⟨_,rfl⟩
          have hxg:XG w7 (Bm :: fp) GG:=by rw [← hGG]; exact HL7.out.xg
          have HGC:=Lib.hid (fun n W (h:GG n W) => show Calls Tryz.prog 16 #[.pointer (some ⟨D,0,none⟩),.agg #[.pointer (some ⟨Bm,0,none⟩)],.int .u64 (ki:Nat),.int .u64 (hh:Nat)] W fun e w' => Past (Bm :: fp) W w' ∧ ∃ v,e = .returned v ∧ (n = 0 → v = (.tuple #[group.entV ek ev eh,.bool ab])) ∧ GG (n + 1) w' from by
           rw [← hGG] at h ⊢
           exact GL.call cD (fun W h => ⟨_,_,h⟩) cW n W h)
          have hG0:GG 0 w7.drew:=by rw [← hGG]; exact HL7.out.read (under.drew_below _)
          have HG1:=Lib.hid (fun W (h:GG 1 W) => show LS a w2 Y D n1 d depth R E G c Bm q t1 fp (q - (Y.N - 1) * n1) ((Y.N - 1) * n1 - q) t k (Mq (P + fk) V U fk 0 0) W from by rw [← hGG] at h; exact h)
          clear hGG cD cW
          have hxd:XD w7 (Bm :: fp) GG ek ev eh ⟨0,none,false⟩ w7.drew:=XD.start hG0 (Past.of (under.drew_below _))
          have hnB:∀ X ∈ [X2,X5,X8,X9,X11,X12,X14],X ∉ Bm :: fp:=fun X hX e => HC7.out.o X hX (ft_real X e)
          have q5:∀ y:movex.Un (XD w7 (Bm :: fp) GG ek ev eh),y.W.cell? ⟨X5,0,none⟩ = some (.pointer (some ⟨D,0,none⟩)):=fun y => y.h.past.cell HC7.out.c5 (hnB _ (by simp))
          have q8:∀ y:movex.Un (XD w7 (Bm :: fp) GG ek ev eh),y.W.cell? ⟨X8,0,none⟩ = some (.pointer (some ⟨Bm,0,none⟩)):=fun y => y.h.past.cell HC7.out.c8 (hnB _ (by simp))
          have q0:∀ y:movex.Un (XD w7 (Bm :: fp) GG ek ev eh),y.W.cell? ⟨X12,0,none⟩ = some (.int .u64 (ki:Nat)):=fun y => y.h.past.cell HC7.out.e0.1 (hnB _ (by simp))
          have q2:∀ y:movex.Un (XD w7 (Bm :: fp) GG ek ev eh),y.W.cell? ⟨X12,2,none⟩ = some (.int .u64 (hh:Nat)):=fun y => y.h.past.cell HC7.out.e0.2.2 (hnB _ (by simp))
          have qa:∀ y:movex.Un (XD w7 (Bm :: fp) GG ek ev eh),y.W.cell? ⟨X11,2,none⟩ = some (.int .i64 nn):=fun y => y.h.past.cell HC7.out.a0.2.2 (hnB _ (by simp))
          haveI : Nonempty (movex.Un (XD w7 (Bm :: fp) GG ek ev eh)):=⟨⟨_,_,hxd⟩⟩
          go_upto_region 39 with (fail)
          refine (wpIn_wide (n:=3)).1 ?_
          refine movex.region (D:=XD w7 (Bm :: fp) GG ek ev eh) (XM (.agg #[.pointer (some ⟨Bm,0,none⟩)]) (.tuple #[group.entV ek ev eh,.bool ab]) 7 11 12) 12 14 [false,false,true,false,false,false,false,true,false,false,false,true,true,false] [(2,11),(7,11)] (by kernel_rfl) (by kernel_rfl) (by kernel_rfl) (fun k s _ => XM.some _ _ _ _ _ k s) (fun i j hij => by
           simp only [List.mem_cons,Prod.mk.injEq,List.not_mem_nil,or_false] at hij
           rcases hij with ⟨rfl,rfl⟩ | ⟨rfl,rfl⟩
           ·exact XM.free _ _ _ _ _ _ (by decide) (by decide)
           ·exact XM.free _ _ _ _ _ _ (by decide) (by decide)) ⟨0,none,false⟩ hxd ?_
          simp only [List.take_succ_cons,List.take_zero,List.drop_succ_cons,List.drop_zero]
          iterate 2
           refine movex.pure_step (fun _ _ _ => trivial) (fun K hK => ?_)
           go_simp
           refine hK _ ?_
           clear hK K
          refine movex.move_step (fun _ _ _ => trivial) (by kernel_rfl) (fun sd wd hd => ?_) ?_
          ·go_simp
           refine callsIn_wide.2 ((probing_any Bm 0 wd).mono ?_)
           rintro e' w' ⟨rfl,hb'⟩
           exact ⟨_,rfl,sd,⟨rfl,rfl⟩,hd.read hxg hb'⟩
          rintro _ _ ⟨rfl,rfl⟩ K hK
          refine hK _ ?_
          clear hK K
          iterate 4
           refine movex.pure_step (fun _ _ _ => trivial) (fun K hK => ?_)
           go_simp
           refine hK _ ?_
           clear hK K
          refine movex.move_step (fun _ _ _ => trivial) (by kernel_rfl) (fun sd wd hd => ?_) ?_
          ·go_simp
           refine callsIn_wide.2 ((HGC.out sd.n wd hd.g).mono ?_)
           rintro e' w' ⟨hp',v',rfl,hv',hg'⟩
           exact ⟨_,rfl,⟨sd.n + 1,sd.al,sd.st⟩,⟨hv',rfl⟩,hd.next hxg hg' hp'⟩
          rintro _ _ ⟨hv9,rfl⟩ K hK
          obtain rfl:=hv9 rfl
          clear hv9
          refine hK _ ?_
          clear hK K
          iterate 3
           refine movex.pure_step (fun _ _ _ => trivial) (fun K hK => ?_)
           go_simp
           refine hK _ ?_
           clear hK K
          refine movex.move_step (fun _ _ _ => trivial) (by kernel_rfl) (fun sd wd hd => ?_) ?_
          ·go_simp
           exact ⟨_,⟨_,rfl,rfl⟩,hd.put hxg⟩
          rintro _ _ ⟨xb,rfl,rfl⟩ K hK
          refine hK _ ?_
          clear hK K
          refine movex.last_step (fun _ _ _ => trivial) (by kernel_rfl) (fun wd hd => ?_) ?_
          ·obtain ⟨hb1,x1,y1,z1,hE1,-⟩:=hd.box xb rfl
           have e0:=hE1.c0
           have e1:=hE1.c1
           have e2:=hE1.c2
           have e3:=hE1.fz
           go_simp
           exact ⟨_,⟨rfl,rfl⟩,hd.set hxg rfl⟩
          rintro _ _ ⟨rfl,rfl⟩ K hK
          refine hK _ ?_
          clear hK K
          iterate 1
           refine movex.pure_step (fun _ _ _ => trivial) (fun K hK => ?_)
           go_simp
           refine hK _ ?_
           clear hK K
          refine movex.nil_step ?_
          intro w9 hw9
          clear q5 q8 q0 q2 qa this hxd hG0
          obtain ⟨hxb,x1,y1,z1,hE9,hE9'⟩:=hw9.box xb rfl
          obtain ⟨hx1,hx2,hx3⟩:=hE9' rfl
          rw [hx1,hx2,hx3] at hE9
          clear hx1 hx2 hx3
          have hL9:=HG1.out w9 hw9.g
          have hC9:=HC7.out.step hw9.past ft_real
          have hxo:=HL7.out.new hxb
          have hxs:∀ Z ∈ [X2,X5,X8,X9,X11,X12,X14],Z ≠ xb:=fun Z hZ e => by have:=HC7.out.lts Z hZ; omega
          clear hw9 hE9' hxg HGC HG1
          gi_wp2

          have ⟨g0,g1',g2'⟩:=hC9.e0
          have cR:=cR _ _ _ hL9
          have HC9:=Lib.hid hC9
          clear hC9 hL9
          have habb:(ab != ab) = false:=by simp
          have z0:=hE9.c0
          have z1':=hE9.c1
          have z2:=hE9.c2
          go_wp2_with (go_at_call 17; refine cR.mono ?_; clear cR; rintro e w11 ⟨rfl,⟨k1,hk1,hL11⟩,hp11⟩; have hb11:=new_block w11 (.cells #[.int .u64 (ek:Nat),.int .u64 (ev:Nat),.int .u64 (eh:Nat)] 43); have HC11:=Lib.hid ((HC9.out.step hp11 ft_doc).read hb11); have HL11:=Lib.hid (hL11.read hb11); have hE11:=(hE9.past hp11 (fun e => hxo.2.2 (ft_doc _ e))).keep hb11; have z0:=hE11.c0; have z1':=hE11.c1; have z2:=hE11.c2; clear hL11 hp11 hb11 hE11)
          go_meet
          exact ⟨sumK Y.N k,rfl,Lib.hid ⟨q,t1,fp,k1,P,V,U,fk,0,0,0,HL11.out,HC11.out,by omega,by omega,by omega,by omega,by omega,by omega⟩⟩
        ·by_cases k3:kd = 3
         ·as_aux_lemma =>
           subst k3
           have cD:=fun W (h:LS a w2 Y D n1 d depth R E G c Bm q t fp (q - (Y.N - 1) * n1) ((Y.N - 1) * n1 - q) t k (Mq P V U 0 0 0) W) => h.vfind ki hh (by omega) hzz (by omega) (by omega)
           have cW:=fun W (h:LW a w2 Y D n1 d depth R E G c Bm q fp (q - (Y.N - 1) * n1) ((Y.N - 1) * n1 - q) t k W) => h.find ki hh (by omega) hzz
           have cR:=fun m t' W (h:LS a w2 Y D n1 d depth R E G c Bm q t' fp (q - (Y.N - 1) * n1) ((Y.N - 1) * n1 - q) t k m W) => h.rfind (rdy_eq Y n1 q) ki hh hzz (by omega)
           have hfk:=HL7.out.few ki hh
           have hpI:=pI_some t ki hh (js (rdy Y n1 q) Y.N d hh)
           generalize js (rdy Y n1 q) Y.N d hh = J at *
           generalize (fnd t ki hh J).isSome = ab at *
           generalize pI t ki hh J = ip at *
           generalize dual.fndK t ki hh J = fk at *
           generalize (fndE t ki hh J).key = ek at *
           generalize (fndE t ki hh J).val = ev at *
           generalize (fndE t ki hh J).hash = eh at *
           simp only [Nat.zero_add] at cD

           obtain ⟨GG,hGG⟩:∃ GG,GL (LS a w2 Y D n1 d depth R E G c Bm q t fp (q - (Y.N - 1) * n1) ((Y.N - 1) * n1 - q) t k (Mq P V U 0 0 0)) (LS a w2 Y D n1 d depth R E G c Bm q t fp (q - (Y.N - 1) * n1) ((Y.N - 1) * n1 - q) t k (Mq (P + fk) V U fk 0 0)) (LW a w2 Y D n1 d depth R E G c Bm q fp (q - (Y.N - 1) * n1) ((Y.N - 1) * n1 - q) t k) = GG:=⟨_,rfl⟩
           have hxg:XG w7 (Bm :: fp) GG:=by rw [← hGG]; exact HL7.out.xg
           have HGC:=Lib.hid (fun n W (h:GG n W) => show Calls Tryz.prog 18 #[.pointer (some ⟨D,0,none⟩),.agg #[.pointer (some ⟨Bm,0,none⟩)],.int .u64 (ki:Nat),.int .u64 (hh:Nat)] W fun e w' => Past (Bm :: fp) W w' ∧ ∃ v,e = .returned v ∧ (n = 0 → v = (.tuple #[group.entV ek ev eh,.bool ab])) ∧ GG (n + 1) w' from by
            rw [← hGG] at h ⊢
            exact GL.call cD (fun W h => ⟨_,_,h⟩) cW n W h)
           have hG0:GG 0 w7.drew:=by rw [← hGG]; exact HL7.out.read (under.drew_below _)
           have HG1:=Lib.hid (fun W (h:GG 1 W) => show LS a w2 Y D n1 d depth R E G c Bm q t fp (q - (Y.N - 1) * n1) ((Y.N - 1) * n1 - q) t k (Mq (P + fk) V U fk 0 0) W from by rw [← hGG] at h; exact h)
           clear hGG cD cW
           have hxd:XD w7 (Bm :: fp) GG ek ev eh ⟨0,none,false⟩ w7.drew:=XD.start hG0 (Past.of (under.drew_below _))
           have hnB:∀ X ∈ [X2,X5,X8,X9,X11,X12,X14],X ∉ Bm :: fp:=fun X hX e => HC7.out.o X hX (ft_real X e)
           have q5:∀ y:movex.Un (XD w7 (Bm :: fp) GG ek ev eh),y.W.cell? ⟨X5,0,none⟩ = some (.pointer (some ⟨D,0,none⟩)):=fun y => y.h.past.cell HC7.out.c5 (hnB _ (by simp))
           have q8:∀ y:movex.Un (XD w7 (Bm :: fp) GG ek ev eh),y.W.cell? ⟨X8,0,none⟩ = some (.pointer (some ⟨Bm,0,none⟩)):=fun y => y.h.past.cell HC7.out.c8 (hnB _ (by simp))
           have q0:∀ y:movex.Un (XD w7 (Bm :: fp) GG ek ev eh),y.W.cell? ⟨X12,0,none⟩ = some (.int .u64 (ki:Nat)):=fun y => y.h.past.cell HC7.out.e0.1 (hnB _ (by simp))
           have q2:∀ y:movex.Un (XD w7 (Bm :: fp) GG ek ev eh),y.W.cell? ⟨X12,2,none⟩ = some (.int .u64 (hh:Nat)):=fun y => y.h.past.cell HC7.out.e0.2.2 (hnB _ (by simp))
           have qa:∀ y:movex.Un (XD w7 (Bm :: fp) GG ek ev eh),y.W.cell? ⟨X11,2,none⟩ = some (.int .i64 nn):=fun y => y.h.past.cell HC7.out.a0.2.2 (hnB _ (by simp))
           haveI : Nonempty (movex.Un (XD w7 (Bm :: fp) GG ek ev eh)):=⟨⟨_,_,hxd⟩⟩
           go_upto_region 44 with (fail)
           refine (wpIn_wide (n:=3)).1 ?_
           refine movex.region (D:=XD w7 (Bm :: fp) GG ek ev eh) (XM (.agg #[.pointer (some ⟨Bm,0,none⟩)]) (.tuple #[group.entV ek ev eh,.bool ab]) 7 11 12) 12 14 [false,false,true,false,false,false,false,true,false,false,false,true,true,false] [(2,11),(7,11)] (by kernel_rfl) (by kernel_rfl) (by kernel_rfl) (fun k s _ => XM.some _ _ _ _ _ k s) (fun i j hij => by
            simp only [List.mem_cons,Prod.mk.injEq,List.not_mem_nil,or_false] at hij
            rcases hij with ⟨rfl,rfl⟩ | ⟨rfl,rfl⟩
            ·exact XM.free _ _ _ _ _ _ (by decide) (by decide)
            ·exact XM.free _ _ _ _ _ _ (by decide) (by decide)) ⟨0,none,false⟩ hxd ?_
           simp only [List.take_succ_cons,List.take_zero,List.drop_succ_cons,List.drop_zero]
           iterate 2
            refine movex.pure_step (fun _ _ _ => trivial) (fun K hK => ?_)
            go_simp
            refine hK _ ?_
            clear hK K
           refine movex.move_step (fun _ _ _ => trivial) (by kernel_rfl) (fun sd wd hd => ?_) ?_
           ·go_simp
            refine callsIn_wide.2 ((probing_any Bm 0 wd).mono ?_)
            rintro e' w' ⟨rfl,hb'⟩
            exact ⟨_,rfl,sd,⟨rfl,rfl⟩,hd.read hxg hb'⟩
           rintro _ _ ⟨rfl,rfl⟩ K hK
           refine hK _ ?_
           clear hK K
           iterate 4
            refine movex.pure_step (fun _ _ _ => trivial) (fun K hK => ?_)
            go_simp
            refine hK _ ?_
            clear hK K
           refine movex.move_step (fun _ _ _ => trivial) (by kernel_rfl) (fun sd wd hd => ?_) ?_
           ·go_simp
            refine callsIn_wide.2 ((HGC.out sd.n wd hd.g).mono ?_)
            rintro e' w' ⟨hp',v',rfl,hv',hg'⟩
            exact ⟨_,rfl,⟨sd.n + 1,sd.al,sd.st⟩,⟨hv',rfl⟩,hd.next hxg hg' hp'⟩
           rintro _ _ ⟨hv9,rfl⟩ K hK
           obtain rfl:=hv9 rfl
           clear hv9
           refine hK _ ?_
           clear hK K
           iterate 3
            refine movex.pure_step (fun _ _ _ => trivial) (fun K hK => ?_)
            go_simp
            refine hK _ ?_
            clear hK K
           refine movex.move_step (fun _ _ _ => trivial) (by kernel_rfl) (fun sd wd hd => ?_) ?_
           ·go_simp
            exact ⟨_,⟨_,rfl,rfl⟩,hd.put hxg⟩
           rintro _ _ ⟨xb,rfl,rfl⟩ K hK
           refine hK _ ?_
           clear hK K
           refine movex.last_step (fun _ _ _ => trivial) (by kernel_rfl) (fun wd hd => ?_) ?_
           ·obtain ⟨hb1,x1,y1,z1,hE1,-⟩:=hd.box xb rfl
            have e0:=hE1.c0
            have e1:=hE1.c1
            have e2:=hE1.c2
            have e3:=hE1.fz
            go_simp
            exact ⟨_,⟨rfl,rfl⟩,hd.set hxg rfl⟩
           rintro _ _ ⟨rfl,rfl⟩ K hK
           refine hK _ ?_
           clear hK K
           iterate 1
            refine movex.pure_step (fun _ _ _ => trivial) (fun K hK => ?_)
            go_simp
            refine hK _ ?_
            clear hK K
           refine movex.nil_step ?_
           intro w9 hw9
           clear q5 q8 q0 q2 qa this hxd hG0
           obtain ⟨hxb,x1,y1,z1,hE9,hE9'⟩:=hw9.box xb rfl
           obtain ⟨hx1,hx2,hx3⟩:=hE9' rfl
           rw [hx1,hx2,hx3] at hE9
           clear hx1 hx2 hx3
           have hL9:=HG1.out w9 hw9.g
           have hC9:=HC7.out.step hw9.past ft_real
           have hxo:=HL7.out.new hxb
           have hxs:∀ Z ∈ [X2,X5,X8,X9,X11,X12,X14],Z ≠ xb:=fun Z hZ e => by have:=HC7.out.lts Z hZ; omega
           clear hw9 hE9' hxg HGC HG1
           gi_wp2

           have ⟨g0,g1',g2'⟩:=hC9.e0
           have cR:=cR _ _ _ hL9
           have HC9:=Lib.hid hC9
           clear hC9 hL9
           have habb:(ab != ab) = false:=by simp
           have z0:=hE9.c0
           have z1':=hE9.c1
           have z2:=hE9.c2
           go_wp2_with (go_at_call 19; refine cR.mono ?_; clear cR; rintro e w11 ⟨rfl,⟨k1,hk1,hL11⟩,hp11⟩; have hb11:=new_block w11 (.cells #[.int .u64 (ek:Nat),.int .u64 (ev:Nat),.int .u64 (eh:Nat)] 43); have HC11:=Lib.hid ((HC9.out.step hp11 ft_doc).read hb11); have HL11:=Lib.hid (hL11.read hb11); have hE11:=(hE9.past hp11 (fun e => hxo.2.2 (ft_doc _ e))).keep hb11; have z0:=hE11.c0; have z1':=hE11.c1; have z2:=hE11.c2; clear hL11 hp11 hb11 hE11)
           go_meet
           exact ⟨sumK Y.N k,rfl,Lib.hid ⟨q,t,fp,k1,P,V,U,fk,0,0,0,HL11.out,HC11.out,by omega,by omega,by omega,by omega,by omega,by omega⟩⟩
         ·by_cases k4:kd = 4
          ·as_aux_lemma =>
            subst k4
            have hlen:(entsA t Y.N).length ≤ 640:=by
             have h1:=entsA_few (t:=t) Y.N
             have h2:=gS_sum HL7.out.da.N (fun i hi => HL7.out.rd.wn.un i hi)
             have h3:=HL7.out.da.sumn
             have h4:(Y.N - 1) * n1 ≤ 2 * 32:=Nat.mul_le_mul (by have:=HL7.out.da.N; omega) h32
             have h5:=HY0.out
             omega
            have cD:=fun W (h:LS a w2 Y D n1 d depth R E G c Bm q t fp (q - (Y.N - 1) * n1) ((Y.N - 1) * n1 - q) t k (Mq P V U 0 0 0) W) => h.vleast hh vn (by omega) (by omega)
            have cW:=fun W (h:LW a w2 Y D n1 d depth R E G c Bm q fp (q - (Y.N - 1) * n1) ((Y.N - 1) * n1 - q) t k W) => h.least hh vn
            obtain ⟨gq,hgq⟩:∃ gq,(if rdy Y n1 q = true then sumK Y.N Y.n else Y.n 0) = gq:=⟨_,rfl⟩
            have hgs:gq ≤ 192:=by
             have h1:=HL7.out.da.sumn
             have h2:=HL7.out.da.small
             rw [← hgq]; split <;> omega
            have hgq':(if (Y.N - 1) * n1 - q = 0 then sumK Y.N Y.n else Y.n 0) = gq:=by
             rw [← hgq,← rdy_eq]
             by_cases h:(Y.N - 1) * n1 - q = 0
             ·rw [if_pos h,if_pos (decide_eq_true h)]
             ·rw [if_neg h,if_neg (by rw [decide_eq_false h]; exact Bool.false_ne_true)]
            obtain ⟨le,hle⟩:∃ le,entsA t Y.N = le:=⟨_,rfl⟩
            simp only [hgq,hle,Nat.zero_add] at cD
            rw [hle] at hlen
            have cL:=fun o c W (hE:EntsAt o le W) => rtleast_any o c le.length le rfl (by omega) hh vn W hE
            generalize table.sK (lfold hh vn none le) = ek at *
            generalize table.sV (lfold hh vn none le) = ev at *
            generalize table.sH (lfold hh vn none le) = eh at *
            generalize (lfold hh vn none le).isSome = ab at *
            have HGQ:=Lib.hid hgq'
            have HLE:=Lib.hid hle
            have CL:=Lib.hid cL
            clear hgq hgq' hle cL

            obtain ⟨GG,hGG⟩:∃ GG,GL (LS a w2 Y D n1 d depth R E G c Bm q t fp (q - (Y.N - 1) * n1) ((Y.N - 1) * n1 - q) t k (Mq P V U 0 0 0)) (LS a w2 Y D n1 d depth R E G c Bm q t fp (q - (Y.N - 1) * n1) ((Y.N - 1) * n1 - q) t k (Mq (P + gq) V U gq 0 0)) (LW a w2 Y D n1 d depth R E G c Bm q fp (q - (Y.N - 1) * n1) ((Y.N - 1) * n1 - q) t k) = GG:=⟨_,rfl⟩
            have hxg:XG w7 (Bm :: fp) GG:=by rw [← hGG]; exact HL7.out.xg
            have HGC:=Lib.hid (fun n W (h:GG n W) => show Calls Tryz.prog 20 #[.pointer (some ⟨D,0,none⟩),.agg #[.pointer (some ⟨Bm,0,none⟩)],.int .u64 (hh:Nat),.int .u64 (vn:Nat)] W fun e w' => Past (Bm :: fp) W w' ∧ ∃ v,e = .returned v ∧ (n = 0 → v = (.tuple #[group.entV ek ev eh,.bool ab])) ∧ GG (n + 1) w' from by
             rw [← hGG] at h ⊢
             exact GL.call cD (fun W h => ⟨_,_,h⟩) cW n W h)
            have hG0:GG 0 w7.drew:=by rw [← hGG]; exact HL7.out.read (under.drew_below _)
            have HG1:=Lib.hid (fun W (h:GG 1 W) => show LS a w2 Y D n1 d depth R E G c Bm q t fp (q - (Y.N - 1) * n1) ((Y.N - 1) * n1 - q) t k (Mq (P + gq) V U gq 0 0) W from by rw [← hGG] at h; exact h)
            clear hGG cD cW
            have hxd:XD w7 (Bm :: fp) GG ek ev eh ⟨0,none,false⟩ w7.drew:=XD.start hG0 (Past.of (under.drew_below _))
            have hnB:∀ X ∈ [X2,X5,X8,X9,X11,X12,X14],X ∉ Bm :: fp:=fun X hX e => HC7.out.o X hX (ft_real X e)
            have q5:∀ y:movex.Un (XD w7 (Bm :: fp) GG ek ev eh),y.W.cell? ⟨X5,0,none⟩ = some (.pointer (some ⟨D,0,none⟩)):=fun y => y.h.past.cell HC7.out.c5 (hnB _ (by simp))
            have q8:∀ y:movex.Un (XD w7 (Bm :: fp) GG ek ev eh),y.W.cell? ⟨X8,0,none⟩ = some (.pointer (some ⟨Bm,0,none⟩)):=fun y => y.h.past.cell HC7.out.c8 (hnB _ (by simp))
            have q0:∀ y:movex.Un (XD w7 (Bm :: fp) GG ek ev eh),y.W.cell? ⟨X12,0,none⟩ = some (.int .u64 (ki:Nat)):=fun y => y.h.past.cell HC7.out.e0.1 (hnB _ (by simp))
            have q2:∀ y:movex.Un (XD w7 (Bm :: fp) GG ek ev eh),y.W.cell? ⟨X12,2,none⟩ = some (.int .u64 (hh:Nat)):=fun y => y.h.past.cell HC7.out.e0.2.2 (hnB _ (by simp))
            have qa:∀ y:movex.Un (XD w7 (Bm :: fp) GG ek ev eh),y.W.cell? ⟨X11,2,none⟩ = some (.int .i64 nn):=fun y => y.h.past.cell HC7.out.a0.2.2 (hnB _ (by simp))
            haveI : Nonempty (movex.Un (XD w7 (Bm :: fp) GG ek ev eh)):=⟨⟨_,_,hxd⟩⟩
            go_upto_region 49 with (fail)
            refine (wpIn_wide (n:=3)).1 ?_
            refine movex.region (D:=XD w7 (Bm :: fp) GG ek ev eh) (XM (.agg #[.pointer (some ⟨Bm,0,none⟩)]) (.tuple #[group.entV ek ev eh,.bool ab]) 8 12 13) 13 15 [false,false,true,false,false,false,false,false,true,false,false,false,true,true,false] [(2,12),(8,12)] (by kernel_rfl) (by kernel_rfl) (by kernel_rfl) (fun k s _ => XM.some _ _ _ _ _ k s) (fun i j hij => by
             simp only [List.mem_cons,Prod.mk.injEq,List.not_mem_nil,or_false] at hij
             rcases hij with ⟨rfl,rfl⟩ | ⟨rfl,rfl⟩
             ·exact XM.free _ _ _ _ _ _ (by decide) (by decide)
             ·exact XM.free _ _ _ _ _ _ (by decide) (by decide)) ⟨0,none,false⟩ hxd ?_
            simp only [List.take_succ_cons,List.take_zero,List.drop_succ_cons,List.drop_zero]
            iterate 2
             refine movex.pure_step (fun _ _ _ => trivial) (fun K hK => ?_)
             go_simp
             refine hK _ ?_
             clear hK K
            refine movex.move_step (fun _ _ _ => trivial) (by kernel_rfl) (fun sd wd hd => ?_) ?_
            ·go_simp
             refine callsIn_wide.2 ((probing_any Bm 0 wd).mono ?_)
             rintro e' w' ⟨rfl,hb'⟩
             exact ⟨_,rfl,sd,⟨rfl,rfl⟩,hd.read hxg hb'⟩
            rintro _ _ ⟨rfl,rfl⟩ K hK
            refine hK _ ?_
            clear hK K
            iterate 5
             refine movex.pure_step (fun _ _ _ => trivial) (fun K hK => ?_)
             go_simp
             refine hK _ ?_
             clear hK K
            refine movex.move_step (fun _ _ _ => trivial) (by kernel_rfl) (fun sd wd hd => ?_) ?_
            ·go_simp
             refine callsIn_wide.2 ((HGC.out sd.n wd hd.g).mono ?_)
             rintro e' w' ⟨hp',v',rfl,hv',hg'⟩
             exact ⟨_,rfl,⟨sd.n + 1,sd.al,sd.st⟩,⟨hv',rfl⟩,hd.next hxg hg' hp'⟩
            rintro _ _ ⟨hv9,rfl⟩ K hK
            obtain rfl:=hv9 rfl
            clear hv9
            refine hK _ ?_
            clear hK K
            iterate 3
             refine movex.pure_step (fun _ _ _ => trivial) (fun K hK => ?_)
             go_simp
             refine hK _ ?_
             clear hK K
            refine movex.move_step (fun _ _ _ => trivial) (by kernel_rfl) (fun sd wd hd => ?_) ?_
            ·go_simp
             exact ⟨_,⟨_,rfl,rfl⟩,hd.put hxg⟩
            rintro _ _ ⟨xb,rfl,rfl⟩ K hK
            refine hK _ ?_
            clear hK K
            refine movex.last_step (fun _ _ _ => trivial) (by kernel_rfl) (fun wd hd => ?_) ?_
            ·obtain ⟨hb1,x1,y1,z1,hE1,-⟩:=hd.box xb rfl
             have e0:=hE1.c0
             have e1:=hE1.c1
             have e2:=hE1.c2
             have e3:=hE1.fz
             go_simp
             exact ⟨_,⟨rfl,rfl⟩,hd.set hxg rfl⟩
            rintro _ _ ⟨rfl,rfl⟩ K hK
            refine hK _ ?_
            clear hK K
            iterate 1
             refine movex.pure_step (fun _ _ _ => trivial) (fun K hK => ?_)
             go_simp
             refine hK _ ?_
             clear hK K
            refine movex.nil_step ?_
            intro w9 hw9
            clear q5 q8 q0 q2 qa this hxd hG0
            obtain ⟨hxb,x1,y1,z1,hE9,hE9'⟩:=hw9.box xb rfl
            obtain ⟨hx1,hx2,hx3⟩:=hE9' rfl
            rw [hx1,hx2,hx3] at hE9
            clear hx1 hx2 hx3
            have hL9:=HG1.out w9 hw9.g
            have hC9:=HC7.out.step hw9.past ft_real
            have hxo:=HL7.out.new hxb
            have hxs:∀ Z ∈ [X2,X5,X8,X9,X11,X12,X14],Z ≠ xb:=fun Z hZ e => by have:=HC7.out.lts Z hZ; omega
            clear hw9 hE9' hxg HGC HG1
            gi_wp2

            have ⟨u0,u1,u2⟩:=hC9.e0
            have ⟨b0,b1,b2⟩:=hC9.a0
            have cA:=fun W (hb:Below w9.heap.size w9 W) => (hL9.read hb).rd.all
            rw [HLE.out] at cA
            have lxb:=hE9.lt
            have HL9:=Lib.hid hL9
            have HC9:=Lib.hid hC9
            have HE9:=Lib.hid hE9
            have HXS:=Lib.hid hxs
            have cL:=CL.out
            have nA:∀ Z ∈ [X2,X5,X8,X9,X11,X12,X14],Z ≠ w9.heap.size:=fun Z hZ e => by have:=HC9.out.lts Z hZ; omega
            clear hL9 hC9 hE9 hxs hxo CL u0 u1 b0 b1
            clear v0 v1 v2 HFN HBD HH2 HA2 HBW HB2 HY0
            go_upto_region 50 with (fail)
            go_region_held3 (fun w' => w'.cell? ⟨X12,2,none⟩ = some (.int .u64 (hh:Nat)) ∧ w'.cell? ⟨X11,2,none⟩ = some (.int .i64 nn))
             (first
              | (with_reducible exact ⟨u2,b2⟩)
              | (with_reducible exact ⟨keepc (under.drew_below w9) u2,keepc (under.drew_below w9) b2⟩)
              | (with_reducible exact ⟨keepc (below_drewN' w9 _) u2,keepc (below_drewN' w9 _) b2⟩)
              | (with_reducible exact ⟨CB.e0.2.2,CB.a0.2.2⟩)
              | (with_reducible exact ⟨CA.e0.2.2,CA.a0.2.2⟩)
              | (with_reducible exact ⟨keepc (new_block wA _) CA.e0.2.2,keepc (new_block wA _) CA.a0.2.2⟩)
              | (with_reducible exact ⟨keepc (new_block wB _) CB.e0.2.2,keepc (new_block wB _) CB.a0.2.2⟩)
              | (with_reducible exact ⟨(CB.set3 (X:=w9.heap.size) nA _ _ _).e0.2.2,(CB.set3 (X:=w9.heap.size) nA _ _ _).a0.2.2⟩)
              | (with_reducible exact ⟨(CB.set3 (X:=wA.heap.size) nB _ _ _).e0.2.2,(CB.set3 (X:=wA.heap.size) nB _ _ _).a0.2.2⟩)
              | (with_reducible exact ⟨keepc (under.below_step (new_block w9 _) (under.drew_below (w9.alloc _))) u2,keepc (under.below_step (new_block w9 _) (under.drew_below (w9.alloc _))) b2⟩)
              | (with_reducible exact ⟨keepc (new_block w9 _) u2,keepc (new_block w9 _) b2⟩)
              | (with_reducible exact ⟨keepc (under.below_step (under.drew_below w9) (new_block w9.drew _)) u2,keepc (under.below_step (under.drew_below w9) (new_block w9.drew _)) b2⟩)
              | go_keep)
             (first
              | (go_at_call 22; (with_reducible refine Calls.mono (cA _ (under.drew_below w9)) ?_); rintro e wA ⟨vA,rfl,hKA,hbA⟩; have hb7:Below w9.heap.size w9 wA:=under.below_step (under.drew_below w9) hbA; have CA:=HC9.out.read hb7; have nB:∀ Z ∈ [X2,X5,X8,X9,X11,X12,X14],Z ≠ wA.heap.size:=(fun Z hZ e => by have:=CA.lts Z hZ; omega); have hzA:=hb7.size; obtain ⟨oA,ccA,rfl,hEA'⟩:=hKA.rows; have hEA:EntsAt oA le wA:=hEA')
              | (go_at_call 22; (with_reducible refine Calls.mono (cA _ (under.below_step (new_block w9 (.cells #[.int .u64 0,.int .u64 0,.int .u64 0] 43)) (under.drew_below (w9.alloc (.cells #[.int .u64 0,.int .u64 0,.int .u64 0] 43))))) ?_); rintro e wA ⟨vA,rfl,hKA,hbA⟩; have hb7:Below w9.heap.size w9 wA:=under.below_step (under.below_step (new_block w9 (.cells #[.int .u64 0,.int .u64 0,.int .u64 0] 43)) (under.drew_below (w9.alloc (.cells #[.int .u64 0,.int .u64 0,.int .u64 0] 43)))) hbA; have CA:=HC9.out.read hb7; have nB:∀ Z ∈ [X2,X5,X8,X9,X11,X12,X14],Z ≠ wA.heap.size:=(fun Z hZ e => by have:=CA.lts Z hZ; omega); have hzA:=hb7.size; obtain ⟨oA,ccA,rfl,hEA'⟩:=hKA.rows; have hEA:EntsAt oA le wA:=hEA'; have zA:EBox w9.heap.size 0 0 0 wA:=(EBox.new 0 0 0 w9).keep (under.below_step (under.drew_below _) hbA))
              | (go_at_call 21; (with_reducible refine Calls.mono (cL _ _ _ hEA) ?_); rintro e wB ⟨rfl,hbB⟩; have CB:=CA.read hbB; have hbf:=under.below_step hb7 hbB; try (have zB:EBox w9.heap.size 0 0 0 wB:=zA.keep hbB; have g0:=zB.c0; have g1:=zB.c1; have g2:=zB.c2; have gf:=zB.fz))
              | (go_at_call 21; (with_reducible refine Calls.mono (cL _ _ _ (EntsAt.read hEA (new_block wA _))) ?_); rintro e wB ⟨rfl,hbB⟩; have CB:=(CA.read (new_block wA _)).read hbB; have hbf:=under.below_step (under.below_step hb7 (new_block wA _)) hbB; have zB:EBox wA.heap.size 0 0 0 wB:=(EBox.new 0 0 0 wA).keep hbB; have g0:=zB.c0; have g1:=zB.c1; have g2:=zB.c2; have gf:=zB.fz))
            all_goals first
             | (have F:EF (LS a w2 Y D n1 d depth R E G c Bm q t fp (q - (Y.N - 1) * n1) ((Y.N - 1) * n1 - q) t k (Mq (P + gq) V U gq 0 0)) (Cx w2.heap.size G X2 X5 X8 X9 X11 X12 X14 ⟨n0,n1,depth,sh,lh,ch,sk,lk,ck⟩ D Bm P V U 4 ky nn ki vn hh 0 0 0 (Ft Y R E Bm fp)) [X2,X5,X8,X9,X11,X12,X14] xb w9.heap.size ek ev eh (table.set3 w9.heap.size ek ev eh wB):=⟨(HL9.out.read hbf).set3 (HL9.out.new (Nat.le_refl _)) ek ev eh,CB.set3 nA ek ev eh,(HE9.out.keep hbf).other (by omega) ek ev eh,zB.set ek ev eh,nA⟩; obtain ⟨wf,hwf⟩:∃ wf,table.set3 w9.heap.size ek ev eh wB = wf:=⟨_,rfl⟩; rw [hwf] at F; unfold table.set3 at hwf; rw [hwf]; clear hwf; generalize w9.heap.size = Yb at F ⊢)
             | (have F:EF (LS a w2 Y D n1 d depth R E G c Bm q t fp (q - (Y.N - 1) * n1) ((Y.N - 1) * n1 - q) t k (Mq (P + gq) V U gq 0 0)) (Cx w2.heap.size G X2 X5 X8 X9 X11 X12 X14 ⟨n0,n1,depth,sh,lh,ch,sk,lk,ck⟩ D Bm P V U 4 ky nn ki vn hh 0 0 0 (Ft Y R E Bm fp)) [X2,X5,X8,X9,X11,X12,X14] xb wA.heap.size ek ev eh (table.set3 wA.heap.size ek ev eh wB):=⟨(HL9.out.read hbf).set3 ((HL9.out.read hb7).new (Nat.le_refl _)) ek ev eh,CB.set3 nB ek ev eh,(HE9.out.keep hbf).other (by omega) ek ev eh,zB.set ek ev eh,nB⟩; obtain ⟨wf,hwf⟩:∃ wf,table.set3 wA.heap.size ek ev eh wB = wf:=⟨_,rfl⟩; rw [hwf] at F; unfold table.set3 at hwf; rw [hwf]; clear hwf; generalize wA.heap.size = Yb at F ⊢)
             | (have F:EF (LS a w2 Y D n1 d depth R E G c Bm q t fp (q - (Y.N - 1) * n1) ((Y.N - 1) * n1 - q) t k (Mq (P + gq) V U gq 0 0)) (Cx w2.heap.size G X2 X5 X8 X9 X11 X12 X14 ⟨n0,n1,depth,sh,lh,ch,sk,lk,ck⟩ D Bm P V U 4 ky nn ki vn hh 0 0 0 (Ft Y R E Bm fp)) [X2,X5,X8,X9,X11,X12,X14] xb wB.heap.size ek ev eh (wB.alloc (.cells #[.int .u64 (ek:Nat),.int .u64 (ev:Nat),.int .u64 (eh:Nat)] 43)):=⟨(HL9.out.read hbf).read (new_block wB _),CB.read (new_block wB _),(HE9.out.keep hbf).keep (new_block wB _),EBox.new ek ev eh wB,fun Z hZ e => by have:=CB.lts Z hZ; omega⟩; generalize wB.alloc (.cells #[.int .u64 (ek:Nat),.int .u64 (ev:Nat),.int .u64 (eh:Nat)] 43) = wf at F ⊢; generalize wB.heap.size = Yb at F ⊢)
            all_goals
             clear nA u2 b2 cA cL lxb HL9 HC9 HE9
             have cG:=F.1.rd.groups
             rw [HGQ.out] at cG
             have hC10:=F.2.1.setP gq
             have o14:=And.intro (F.2.1.h X14 (by simp)) (F.2.1.o X14 (by simp))
             have hL10:=F.1.box o14.1.1 o14.1.2 o14.2 0 (.int .i64 (gq:Nat))
             have pst:Past [X14] wf (wf.setCell ⟨X14,0,none⟩ (.int .i64 (gq:Nat))):=(Past.refl [X14] wf).store (p:=⟨X14,0,none⟩) (.inl (by simp)) _
             have hE10:=F.2.2.1.past pst (by simp only [List.mem_singleton]; exact fun e => HXS.out X14 (by simp) e.symm)
             have hZ10:=F.2.2.2.1.past pst (by simp only [List.mem_singleton]; exact fun e => F.2.2.2.2 X14 (by simp) e.symm)
             have xf:=F.2.1.w0.2.2.2
             have x0:=F.2.1.w0.1
             have HC10:=Lib.hid hC10
             have HL10:=Lib.hid hL10
             have HEZ:=Lib.hid (And.intro hE10 hZ10)
             clear hC10 hL10 hE10 hZ10 pst o14 F
             go_upto_region 52 with (first
              | (go_at_call 23; refine cG.mono ?_; clear cG; rintro e wg ⟨rfl,rfl⟩))
             clear xf x0
             generalize wf.setCell ⟨X14,0,none⟩ (.int .i64 (gq:Nat)) = w10 at *
             have z0:=HEZ.out.1.c0
             have z1:=HEZ.out.1.c1
             have z2:=HEZ.out.1.c2
             have y0:=HEZ.out.2.c0
             have y1:=HEZ.out.2.c1
             have y2:=HEZ.out.2.c2
             have habb:(ab != ab) = false:=by simp
             go_wp2_with (fail)
             go_meet
             exact ⟨sumK Y.N k,rfl,Lib.hid ⟨q,t,fp,k,P,V,U,gq,0,0,gq,HL10.out,HC10.out,by omega,by omega,by omega,by omega,Nat.le_refl _,by omega⟩⟩
          ·by_cases k5:kd = 5
           ·as_aux_lemma =>
             subst k5
             have f5:=HC7.out.c5
             by_cases hq:q < Y.n 0 + (Y.N - 1) * n1
             ·as_aux_lemma =>
               have cT:=HL7.out.da.take_early hq
               have hsm:=HL7.out.da.small
               have hN:=HL7.out.da.N
               have hrl:=fun W (h:LS a w2 Y D n1 d depth R E G c Bm q t fp (q - (Y.N - 1) * n1) ((Y.N - 1) * n1 - q) t k (Mq P V U 0 0 0) W) => (show Calls Tryz.prog 25 #[.pointer (some ⟨R,0,none⟩)] W fun e w' => e = .returned (.int .i64 ((Y.n 0 + (Y.N - 1) * n1 - q:Nat):Int)) ∧ Below W.heap.size W w' from by
                have h':=rdleft_any h.rd.dd h.rd.em h.rd.wn (by omega) (by omega) (by omega)
                rw [show (Y.N - 1) * n1 - q + Y.n 0 - (q - (Y.N - 1) * n1) = Y.n 0 + (Y.N - 1) * n1 - q by omega] at h'
                exact h')
               obtain ⟨lf,hlf⟩:∃ lf,Y.n 0 + (Y.N - 1) * n1 - q = lf:=⟨_,rfl⟩
               simp only [hlf] at hrl
               have hlf0:((lf:Int) == 0) = false:=by
                have : 0 < lf:=by omega
                simp; omega
               have hN5 := fun W (hb : Below w2.heap.size w2 W) => (show Calls Tryz.prog 15 #[errs.errV (a "ambler/api.ErrState")] W fun e w' => e = .returned (.int .i64 5) ∧ Below W.heap.size W w' from table.num_err a 5 (by decide) W (HB2.out.below hb).errs)
               clear hlf
               go_upto_region 59 with (first
                | (go_at_call 24; refine cT.mono ?_; clear cT; rintro e w8 ⟨rfl,hb8⟩; have HL8:=Lib.hid (HL7.out.read hb8); have HC8:=Lib.hid (HC7.out.read hb8); clear hb8)
                | (go_at_call 25; refine (hrl _ HL8.out).mono ?_; clear hrl; rintro e w9 ⟨rfl,hb9⟩; have HL9:=Lib.hid (HL8.out.read hb9); have HC9:=Lib.hid (HC8.out.read hb9); clear hb9)
                | (go_at_call 15; refine (hN5 _ HL9.out.bel).mono ?_; clear hN5; rintro e w10 ⟨rfl,hb10⟩; have HL10:=Lib.hid (HL9.out.read hb10); have HC10:=Lib.hid (HC9.out.read hb10); clear hb10))
               clear f5 hlf0
               go_wp2_with (fail)
               refine wp_loop_rounds 1 ?_
               rw [rounds_succ]
               go_wp2
               go_meet
               exact ⟨sumK Y.N k,rfl,Lib.hid ⟨q,t,fp,k,P,V,U,0,0,0,0,HL10.out,HC10.out,by omega,by omega,by omega,by omega,Nat.le_refl _,by omega⟩⟩
             ·as_aux_lemma =>
               have hq':q = Y.n 0 + (Y.N - 1) * n1:=by have:=HL7.out.da.le; omega
               have hsm:=HL7.out.da.small
               have hN:=HL7.out.da.N
               have cT:=HL7.out.da.take_yes hq'
               obtain ⟨nt,hnt⟩:∃ nt,Y.N - 1 = nt:=⟨_,rfl⟩
               simp only [hnt] at cT
               have hV:=fun W W' GU (hD:DAt a w2 Y D n1 d depth q true t fp W) (hp:Past fp w7 W) (hG:∀ j,1 ≤ j → j < Y.N → W.cell? ⟨GU,j - 1,none⟩ = some (.pointer (some ⟨Y.T j,0,none⟩))) (hb:Below W.heap.size W W') => (show Rd w2 R E G c d (q - (Y.N - 1) * n1) ((Y.N - 1) * n1 - q) false Y t k W' ∧ Real a w2 Y t W' ∧ ∀ j,1 ≤ j → j < Y.N → W'.cell? ⟨GU,j - 1,none⟩ = some (.pointer (some ⟨Y.T j,0,none⟩)) from
                ⟨(HL7.out.rd.aside hp fun b hb => by have s:=HL7.out.sp b hb; exact ⟨s.1,s.2.1,s.2.2.1,s.2.2.2.1,s.2.2.2.2.1⟩).read hb,Real.read (by have h:=hD.re; rw [rdy_yes (by omega)] at h; exact h) hb,fun j h1 h2 => keepc hb (hG j h1 h2)⟩)
               have hrl:=fun W (h:Rd w2 R E G c d (q - (Y.N - 1) * n1) ((Y.N - 1) * n1 - q) false Y t k W) => (show Calls Tryz.prog 25 #[.pointer (some ⟨R,0,none⟩)] W fun e w' => e = .returned (.int .i64 0) ∧ Below W.heap.size W w' from by
                have h':=rdleft_any h.dd h.em h.wn (by omega) (by omega) (by omega)
                rw [show (Y.N - 1) * n1 - q + Y.n 0 - (q - (Y.N - 1) * n1) = 0 by omega] at h'
                exact h')
               clear hq'
               go_upto_region 56 with (first
                | (go_at_call 24; refine cT.mono ?_; clear cT; rintro e w8 ⟨GU,cU,rfl,hG8,-,-,hD8,hp8⟩; have HV:=Lib.hid (fun W' (hb:Below w8.heap.size w8 W') => hV w8 W' GU hD8 hp8 hG8 hb); clear hV hG8 hD8 hp8))
               have cL:=hrl w8 (HV.out w8 (Below.refl _ _)).1
               clear hrl f5
               go_upto_region 57 with (first
                | (go_at_call 25; refine cL.mono ?_; clear cL; rintro e w9 ⟨rfl,hb9⟩; have r2:=(HV.out w9 hb9).1.dd.c2; have r0:=(HV.out w9 hb9).1.dd.c0; have r1:=(HV.out w9 hb9).1.em.c1; rw [hnt] at r1)
                )
               clear r2
               have hne:((nt:Int) != (nt:Int)) = false:=by simp
               go_wp2_with (fail)
               clear r0 r1 hne
               go_loopw [311] (fun i wr => ∃ m:Nat,m ≤ nt ∧ i = .int .i64 m ∧ Hid (Below w9.heap.size w9 wr)) (fun i _ => nt - (intOf i).toNat)
               case atStart => exact ⟨0,by omega,rfl,Lib.hid (Below.refl _ _)⟩
               case round =>
                obtain ⟨m,hm,rfl,HBm⟩:=hrel
                have HVr:=Lib.hid (HV.out wr (under.below_step hb9 HBm.out))
                rcases Nat.lt_or_ge m nt with hml | hml
                ·have hmi:(m:Int) < (nt:Int):=by omega
                 have hN1:1 + m < Y.N:=by omega
                 have hc:wr.cell? ⟨GU,m,none⟩ = some (.pointer (some ⟨Y.T (1 + m),0,none⟩)):=by
                  have h:=HVr.out.2.2 (1 + m) (by omega) hN1
                  rw [show 1 + m - 1 = m by omega] at h; exact h
                 have hadd2:(⟨GU,0,none⟩:Addr).add m = ⟨GU,m,none⟩:=by rw [add_at,Nat.zero_add]
                 go_upto_region 62 with (fail)
                 have cT:=fun W (hb:Below wr.heap.size wr W) => text_tab (Y.T (1 + m)) (Y.B (1 + m)) (t (1 + m)) (HVr.out.2.1.ok (1 + m) hN1) W ((HVr.out.2.1.read hb).at' (1 + m) hN1)
                 have cU:=fun W (hb:Below wr.heap.size wr W) => rttext_any (Y.F (1 + m)) (t (1 + m)) (HVr.out.2.1.ok (1 + m) hN1) (k (1 + m)) W ((HVr.out.1.read hb).wn.wa (1 + m) hN1)
                 have hlen:(texts (t (1 + m)) (t (1 + m)).n).length ≤ 64:=by rw [texts_length]; exact okN_le (HVr.out.2.1.ok (1 + m) hN1).n
                 have cS:=fun o1 o2 c1 c2 W (h1:TextsAt o1 (texts (t (1 + m)) (t (1 + m)).n) W) (h2:TextsAt o2 (texts (t (1 + m)) (t (1 + m)).n) W) => same_texts o1 o2 c1 c2 (texts (t (1 + m)) (t (1 + m)).n) hlen W h1 h2
                 generalize texts (t (1 + m)) (t (1 + m)).n = l at *
                 have g0:wr.cell? ⟨R,0,none⟩ = some (.pointer (some ⟨E,0,none⟩)):=HVr.out.1.dd.c0
                 have g1:wr.cell? ⟨E,1,none⟩ = some (.slice (some ⟨G,0,none⟩) nt c):=by
                  have h:=HVr.out.1.em.c1
                  rw [hnt] at h; exact h
                 have g2:wr.cell? ⟨G,m,none⟩ = some (.pointer (some ⟨(Y.F (1 + m)).R,0,none⟩)):=by
                  have h:=HVr.out.1.em.tg (1 + m) (by omega) hN1
                  rw [show 1 + m - 1 = m by omega] at h; exact h
                 have hadd3:(⟨G,0,none⟩:Addr).add m = ⟨G,m,none⟩:=by rw [add_at,Nat.zero_add]
                 generalize Y.T (1 + m) = Tj at *
                 generalize (Y.F (1 + m)).R = Rj at *
                 have hxd:TD wr l ⟨none,none⟩ wr.drew:=⟨under.drew_below _,(fun o e => by cases e),(fun o e => by cases e)⟩
                 have qg0:∀ q:moves.Un (TD wr l),q.W.cell? ⟨R,0,none⟩ = some (.pointer (some ⟨E,0,none⟩)):=fun q => keepc q.h.1 g0
                 have qg1:∀ q:moves.Un (TD wr l),q.W.cell? ⟨E,1,none⟩ = some (.slice (some ⟨G,0,none⟩) nt c):=fun q => keepc q.h.1 g1
                 have qg2:∀ q:moves.Un (TD wr l),q.W.cell? ⟨G,m,none⟩ = some (.pointer (some ⟨Rj,0,none⟩)):=fun q => keepc q.h.1 g2
                 haveI : Nonempty (moves.Un (TD wr l)):=⟨⟨⟨none,none⟩,_,hxd⟩⟩
                 clear hc hadd2
                 refine (wpIn_wide (n:=3)).1 ?_
                 refine moves.region (D:=TD wr l) (TM l 1 12) 13 [false,true,false,false,false,false,false,false,false,false,false,false,true] [] (by kernel_rfl) (by kernel_rfl) (by kernel_rfl) (fun k s _ => TM.some l 1 12 k s) (fun i j hij => by cases hij) ⟨none,none⟩ hxd ?_
                 simp only [List.take_succ_cons,List.take_zero,List.drop_succ_cons,List.drop_zero]
                 iterate 1
                  refine moves.pure_step (fun _ _ _ => trivial) (fun K hK => ?_)
                  go_simp
                  refine hK _ ?_
                  clear hK K
                 refine moves.move_step (fun _ _ _ => trivial) (by kernel_rfl) (fun sd wd hd => ?_) ?_
                 ·go_simp
                  refine callsIn_wide.2 ((cT wd hd.1).mono ?_)
                  rintro e' w' ⟨v,rfl,hK,hb'⟩
                  obtain ⟨o,c,rfl,hx⟩:=hK.texts
                  exact ⟨_,rfl,⟨some o,sd.b⟩,⟨o,c,rfl,rfl⟩,⟨under.below_step hd.1 hb',fun o' e => by cases e; exact hx,fun o' e => (hd.2.2 o' e).read hb'⟩⟩
                 rintro _ _ ⟨oa,ca,rfl,rfl⟩ K hK
                 refine hK _ ?_
                 clear hK K
                 iterate 10
                  refine moves.pure_step (fun _ _ _ => trivial) (fun K hK => ?_)
                  go_simp
                  refine hK _ ?_
                  clear hK K
                 refine moves.move_step (fun _ _ _ => trivial) (by kernel_rfl) (fun sd wd hd => ?_) ?_
                 ·go_simp
                  refine callsIn_wide.2 ((cU wd hd.1).mono ?_)
                  rintro e' w' ⟨v,rfl,hK,hb'⟩
                  obtain ⟨o,c,rfl,hx⟩:=hK.texts
                  exact ⟨_,rfl,⟨sd.a,some o⟩,⟨o,c,rfl,rfl⟩,⟨under.below_step hd.1 hb',fun o' e => (hd.2.1 o' e).read hb',fun o' e => by cases e; exact hx⟩⟩
                 rintro _ _ ⟨ob,cb',rfl,rfl⟩ K hK
                 refine hK _ ?_
                 clear hK K
                 refine moves.nil_step ?_
                 intro w11 hw11
                 have hw11':TD wr l ⟨some oa,some ob⟩ w11:=hw11
                 clear hw11
                 have HT11:=Lib.hid (And.intro (hw11'.2.1 oa rfl) (hw11'.2.2 ob rfl))
                 have HS11:=Lib.hid (under.below_step HBm.out hw11'.1)
                 clear hw11' hxd this qg0 qg1 qg2 g0 g1 g2 hadd3 cT cU
                 gi_wp2_with (refine ⟨trivial, ?_⟩; gi_at_call 26; refine (callsIn_wide.2 (cS oa ob _ _ _ HT11.out.1 HT11.out.2)).mono ?_; rintro e w12 ⟨rfl,rfl⟩)
                 go_wp2
                 go_roundw
                 case rel => exact ⟨m + 1,by omega,by simp,HS11⟩
                 case measure => simp [intOf]; omega
                ·obtain rfl:nt = m:=by omega
                 have HBr:=Lib.hid (under.below_step HBW.out HVr.out.1.wn.bel)
                 clear HVr HBm
                 go_wp2
                 go_ret
                 exact ⟨rfl,HBr.out⟩
           ·as_aux_lemma =>
             have d0:(kd == 0) = false:=by simpa using k0
             have d1:(kd == 1) = false:=by simpa using k1
             have d2:(kd == 2) = false:=by simpa using k2
             have d3:(kd == 3) = false:=by simpa using k3
             have d4:(kd == 4) = false:=by simpa using k4
             have d5:(kd == 5) = false:=by simpa using k5
             have hmf:∀ (fn:Fn) (first cap:Array Value) (w:World),(Instr.makeFunc fn first cap).run Tryz.prog w = .ok (.func fn first cap) w:=fun _ _ _ _ => rfl
             have hb8:=new_block w7 (.cells #[.bool false] 4)
             have hX8:=HL7.out.new (Nat.le_refl _)
             have hXi:∀ Z ∈ [X2,X5,X8,X9,X11,X12,X14],Z ≠ w7.heap.size:=fun Z hZ e => by have:=HC7.out.lts Z hZ; omega
             have cC:=catch_step (Xi:=w7.heap.size) HB2.out (HL7.out.read hb8) (HC7.out.read hb8).c5 (HC7.out.read hb8).c8 (Var.new w7 (.bool false) _) hX8.1 hX8.2.1 hX8.2.2 (by omega) (by omega) (by omega) (Nat.zero_le _) (Nat.zero_le _) (Nat.zero_le _)
             have HL8:=Lib.hid (HL7.out.read hb8)
             have HC8:=Lib.hid (HC7.out.read hb8)
             have HCC:=Lib.hid cC
             have HXi:=Lib.hid (And.intro hX8 hXi)
             have hsK:=HL7.out.sK_le
             have hba:decide ((0:Int) < (((Y.N - 1) * n1 - q:Nat):Int)) = !rdy Y n1 q:=by
              rw [← rdy_eq]
              by_cases h:(Y.N - 1) * n1 - q = 0
              ·rw [decide_eq_true h,decide_eq_false (by omega)]; rfl
              ·rw [decide_eq_false h,decide_eq_true (by omega)]; rfl
             clear cC hX8 hXi hb8 HL7 HC7 v0 v1 v2
             go_upto_region 19 with (fail)
             generalize w7.alloc (.cells #[.bool false] 4) = W1 at *
             generalize w7.heap.size = Xi at *
             go_wp2_with (fail)
             refine HCC.out.mono ?_
             clear HCC
             rintro e w9 ⟨hp9,(⟨hq,hg,he,fp',hQ⟩ | ⟨hq,hg,rfl,t',hre⟩ | ⟨hq,he,hQ⟩)⟩
             ·obtain rfl:e = .returned .nilIface:=he
              have hf1:∀ b ∈ fp',b ∈ fp ∨ W1.heap.size ≤ b:=fun b hb => (hQ.fp b hb).imp id (fun h => by omega)
              have hno:∀ X ∈ [X2,X5,X8,X9,X11,X12,X14],X ∉ Xi :: Bm :: fp:=fun X hX e => by
               rcases List.mem_cons.1 e with e | e
               ·exact HXi.out.2 X hX e
               ·exact HC8.out.o X hX (ft_real X e)
              have hC9:=(HC8.out.foot (F':=Ft Y R E Bm fp') fun X hX hl => ft_stay HL8.out hX hl hf1).aside hp9 hno
              obtain ⟨vv,hvv⟩:∃ vv,1 + dual.sK (rdy Y n1 q) Y.N d (q - (Y.N - 1) * n1) t = vv:=⟨_,rfl⟩
              have hL9:=hQ.ls
              rw [show V + 1 + dual.sK (rdy Y n1 q) Y.N d (q - (Y.N - 1) * n1) t = V + vv by omega,show 0 + 1 + dual.sK (rdy Y n1 q) Y.N d (q - (Y.N - 1) * n1) t = vv by omega] at hL9
              have cS:=hL9.rstep (q:=q) rfl rfl (fun hr => ⟨_,by
               have h:=hL9.da.re
               rw [rdy_yes (by have:=of_decide_eq_true (show decide ((Y.N - 1) * n1 ≤ q) = true from hr); omega)] at h
               exact h⟩) hq hg (by omega)
              have CS:=Lib.hid cS
              have r1:=hL9.rd.dd.c1
              have HL9:=Lib.hid hL9
              have HC9:=Lib.hid hC9
              have HCI:=Lib.hid hQ.is
              clear cS hL9 hC9 hno hf1 hp9 hQ HL8 HC8
              obtain ⟨ba,hba0⟩:∃ ba,(Y.N - 1) * n1 - q = ba:=⟨_,rfl⟩
              rw [hba0] at hba r1
              have hbb:decide (0 < ba) = !rdy Y n1 q:=by
               rw [← hba]
               by_cases h:0 < ba
               ·rw [decide_eq_true h,decide_eq_true (by omega)]
               ·rw [decide_eq_false h,decide_eq_false (by omega)]
              clear hba0
              cases hr:rdy Y n1 q with
              | true =>
               as_aux_lemma =>
                rw [hr] at hba hbb hsK hvv CS
                simp only [Bool.not_true] at hba hbb
                go_upto_region 27 with (first
                 | (go_at_call 32; refine CS.out.mono ?_; clear CS; rintro e w10 ⟨rfl,⟨k1,hk1,hL10⟩,hp10⟩; have hC10:=HC9.out.step hp10 ft_doc; have ci0:=(HCI.out.past hp10 (fun e => HXi.out.1.2.2 (ft_doc _ e))).cell; have HL10:=Lib.hid hL10; have HC10:=Lib.hid hC10; clear hL10 hC10 hp10))
                clear HL9 HC9 HCI ci0 r1
                have o14:=And.intro (HC10.out.h X14 (by simp)) (HC10.out.o X14 (by simp))
                have xf:=HC10.out.w0.2.2.2
                have x2:=HC10.out.w0.2.2.1
                have hC11:=HC10.out.setU 1
                have hL11:=HL10.out.box o14.1.1 o14.1.2 o14.2 2 (.int .i64 1)
                rw [show ((1:Nat):Int) = 1 from rfl] at hC11
                have HC11:=Lib.hid hC11
                have HL11:=Lib.hid hL11
                clear hC11 hL11 HC10 HL10
                go_upto_region 28 with (fail)
                generalize w10.setCell ⟨X14,2,none⟩ (.int .i64 1) = w11 at *
                clear xf x2
                simp only [if_true] at hk1
                obtain ⟨S1,hS1⟩:∃ x,sumK Y.N k1 = x:=⟨_,rfl⟩
                have eS1:S1 ≤ sumK Y.N k + vv:=by rw [← hS1,hk1,← hvv]; omega
                have eS2:sumK Y.N k + vv ≤ S1:=by rw [← hS1,hk1,← hvv]; omega
                have hv0:vv ≤ 513:=by omega
                obtain ⟨dd,hd1,hd2⟩:∃ x:Nat,x ≤ vv ∧ vv ≤ x:=⟨vv,Nat.le_refl _,Nat.le_refl _⟩
                have ed:IntKind.i64.wrap ((S1:Int) - ((sumK Y.N k:Nat):Int)) = (dd:Int):=by rw [IntWalk.i64_in _ (by omega)]; omega
                clear hk1 hvv hsK
                have cK:=HL11.out.rd.lks (by omega)
                rw [hS1] at cK
                have r0:=HL11.out.rd.dd.c0
                have xf:=HC11.out.w0.2.2.2
                have x1:=HC11.out.w0.2.1
                have hC12:=HC11.out.setV dd
                have hL12:=HL11.out.box o14.1.1 o14.1.2 o14.2 1 (.int .i64 (dd:Nat))
                have HC12:=Lib.hid hC12
                have HL12:=Lib.hid hL12
                clear hC12 hL12 HC11 HL11
                go_upto_region 29 with (first
                 | (go_at_call 10; refine cK.mono ?_; clear cK; rintro e wx ⟨rfl,rfl⟩))
                generalize w11.setCell ⟨X14,1,none⟩ (.int .i64 (dd:Nat)) = w12 at *
                clear xf x1 r0
                have cK:=HL12.out.rd.lks (by omega)
                rw [hS1] at cK
                have r0:=HL12.out.rd.dd.c0
                go_wp2_with (first
                 | (go_at_call 10; refine cK.mono ?_; clear cK; rintro e wx ⟨rfl,rfl⟩))
                go_meet
                obtain rfl:dd = vv:=by omega
                exact ⟨S1,rfl,Lib.hid ⟨q + 1,_,fp',k1,P,V,U,0,_,1,0,HL12.out,HC12.out,by omega,by omega,by omega,by omega,by omega,by omega⟩⟩
              | false =>
               as_aux_lemma =>
                rw [hr] at hba hbb hsK hvv CS
                simp only [Bool.not_false] at hba hbb
                go_upto_region 27 with (first
                 | (go_at_call 32; refine CS.out.mono ?_; clear CS; rintro e w10 ⟨rfl,⟨k1,hk1,hL10⟩,hp10⟩; have hC10:=HC9.out.step hp10 ft_doc; have ci0:=(HCI.out.past hp10 (fun e => HXi.out.1.2.2 (ft_doc _ e))).cell; have HL10:=Lib.hid hL10; have HC10:=Lib.hid hC10; clear hL10 hC10 hp10))
                clear HL9 HC9 HCI ci0 r1
                have o14:=And.intro (HC10.out.h X14 (by simp)) (HC10.out.o X14 (by simp))
                have xf:=HC10.out.w0.2.2.2
                have x2:=HC10.out.w0.2.2.1
                have hC11:=HC10.out.setU 1
                have hL11:=HL10.out.box o14.1.1 o14.1.2 o14.2 2 (.int .i64 1)
                rw [show ((1:Nat):Int) = 1 from rfl] at hC11
                have HC11:=Lib.hid hC11
                have HL11:=Lib.hid hL11
                clear hC11 hL11 HC10 HL10
                go_upto_region 28 with (fail)
                generalize w10.setCell ⟨X14,2,none⟩ (.int .i64 1) = w11 at *
                clear xf x2
                rw [if_neg Bool.false_ne_true,Nat.add_zero] at hk1
                rw [sK_no,Nat.add_zero] at hvv
                obtain ⟨S1,hS1⟩:∃ x,sumK Y.N k1 = x:=⟨_,rfl⟩
                have eS1:S1 ≤ sumK Y.N k:=by rw [← hS1,hk1]; omega
                have eS2:sumK Y.N k ≤ S1:=by rw [← hS1,hk1]; omega
                have hv1:vv ≤ 1:=by omega
                have hv2:1 ≤ vv:=by omega
                obtain ⟨dd,hd1⟩:∃ x:Nat,x ≤ 0:=⟨0,Nat.le_refl _⟩
                have ed:IntKind.i64.wrap ((S1:Int) - ((sumK Y.N k:Nat):Int)) = (dd:Int):=by rw [IntWalk.i64_in _ (by omega)]; omega
                clear hk1 hvv hsK
                have cK:=HL11.out.rd.lks (by omega)
                rw [hS1] at cK
                have r0:=HL11.out.rd.dd.c0
                have xf:=HC11.out.w0.2.2.2
                have x1:=HC11.out.w0.2.1
                have hC12:=HC11.out.setV dd
                have hL12:=HL11.out.box o14.1.1 o14.1.2 o14.2 1 (.int .i64 (dd:Nat))
                have HC12:=Lib.hid hC12
                have HL12:=Lib.hid hL12
                clear hC12 hL12 HC11 HL11
                go_upto_region 29 with (first
                 | (go_at_call 10; refine cK.mono ?_; clear cK; rintro e wx ⟨rfl,rfl⟩))
                generalize w11.setCell ⟨X14,1,none⟩ (.int .i64 (dd:Nat)) = w12 at *
                clear xf x1 r0
                have xf:=HC12.out.w0.2.2.2
                have x1:=HC12.out.w0.2.1
                have hC13:=HC12.out.setV 1
                have hL13:=HL12.out.box o14.1.1 o14.1.2 o14.2 1 (.int .i64 1)
                rw [show ((1:Nat):Int) = 1 from rfl] at hC13
                have HC13:=Lib.hid hC13
                have HL13:=Lib.hid hL13
                clear hC13 hL13 HC12 HL12
                go_upto_region 31 with (fail)
                generalize w12.setCell ⟨X14,1,none⟩ (.int .i64 1) = w13 at *
                clear xf x1
                have cK:=HL13.out.rd.lks (by omega)
                rw [hS1] at cK
                have r0:=HL13.out.rd.dd.c0
                go_wp2_with (first
                 | (go_at_call 10; refine cK.mono ?_; clear cK; rintro e wx ⟨rfl,rfl⟩))
                go_meet
                obtain rfl:vv = 1:=by omega
                exact ⟨S1,rfl,Lib.hid ⟨q + 1,_,fp',k1,P,V,U,0,_,1,0,HL13.out,HC13.out,by omega,by omega,by omega,by omega,by omega,by omega⟩⟩
             ·as_aux_lemma =>
               have hr:rdy Y n1 q = true:=by
                cases hr:rdy Y n1 q with
                | true => rfl
                | false => rw [hr,sG_no] at hg; cases hg
               have hl9:∀ b ∈ Xi :: Bm :: fp,w2.heap.size ≤ b ∧ b ≠ R ∧ b ≠ E ∧ b ≠ G ∧ b ∉ Y.rall:=fun b hb => by
                rcases List.mem_cons.1 hb with rfl | hb
                ·have h:=HXi.out.1
                 have h2:=h.2.2
                 simp only [Ft,List.mem_cons,List.mem_append,not_or] at h2
                 exact ⟨h.1,h2.2.1,h2.2.2.1,h.2.1,h2.2.2.2.2⟩
                ·rcases List.mem_cons.1 hb with rfl | hb
                 ·exact HL8.out.hB
                 ·have s:=HL8.out.sp b hb
                  exact ⟨s.1,s.2.1,s.2.2.1,s.2.2.2.1,s.2.2.2.2.1⟩
               have hR9:=HL8.out.rd.aside hp9 hl9
               have tin:=HL8.out.da.tin
               have cB:=rbreak (q:=q) hR9 rfl rfl hr hre (fun b hb => (HL8.out.sp b (tin b hb)).2.2.2.2.1) (fun e => (HL8.out.sp E (tin E e)).2.2.1 rfl) (fun e => (HL8.out.sp G (tin G e)).2.2.2.1 rfl) HL8.out.hR.2 hq hg (by omega)
               have hb09:Below w2.heap.size w2 w9:=HL8.out.bel.trans (hp9.below HL8.out.bel.size fun b hb => (hl9 b hb).1)
               have hE0:∀ b ∈ E :: Y.rall,w2.heap.size ≤ b:=fun b hb => HL8.out.nft b (ft_doc b (List.mem_cons_of_mem _ hb))
               have r1:=hR9.dd.c1
               have HB9:=Lib.hid hb09
               have HE0:=Lib.hid hE0
               have CB:=Lib.hid cB
               clear cB hb09 hE0 hl9 tin hre hp9 hR9 HL8 HC8
               go_wp2_with (first
                | (go_at_call 32; refine CB.out.mono ?_; clear CB; rintro e w10 ⟨rfl,hp10⟩; have hb10:Below w2.heap.size w2 w10:=HB9.out.trans (hp10.below HB9.out.size HE0.out); have cN:=table.num_err a 10 (by decide) w10 (HB2.out.below hb10).errs; have HB10:=Lib.hid hb10; clear hp10 hb10)
                | (go_at_call 15; refine cN.mono ?_; clear cN; rintro e w11 ⟨rfl,hb11⟩))
               go_ret
               exact ⟨rfl,under.below_step (under.below_step HBW.out HB10.out) hb11⟩
             ·as_aux_lemma =>
               obtain rfl:e = .returned .nilIface:=he
               have hno:∀ X ∈ [X2,X5,X8,X9,X11,X12,X14],X ∉ Xi :: Bm :: fp:=fun X hX e => by
                rcases List.mem_cons.1 e with e | e
                ·exact HXi.out.2 X hX e
                ·exact HC8.out.o X hX (ft_real X e)
               have hC9:=HC8.out.aside hp9 hno
               have hL9:=hQ.ls
               have cS:=hL9.rstop rfl rfl hq
               rw [rdy_yes (by omega)] at hba
               simp only [Bool.not_true] at hba
               have CS:=Lib.hid cS
               have r1:=hL9.rd.dd.c1
               have HC9:=Lib.hid hC9
               have HCI:=Lib.hid hQ.is
               clear cS hL9 hC9 hno hp9 hQ HL8 HC8
               go_wp2_with (first
                | (go_at_call 32; refine CS.out.mono ?_; clear CS; rintro e w10 ⟨rfl,hL10,hb10⟩; have HC10:=Lib.hid (HC9.out.read hb10); have ci0:=(HCI.out.below hb10).cell; have cK:=hL10.rd.lks (by omega); have r0:=hL10.rd.dd.c0; have HL10:=Lib.hid hL10; clear hL10 hb10)
                | (go_at_call 10; refine cK.mono ?_; clear cK; rintro e wx ⟨rfl,rfl⟩))
               go_meet
               exact ⟨_,rfl,Lib.hid ⟨q,t,fp,k,P,V,U,0,0,0,0,HL10.out,HC10.out,by omega,by omega,by omega,by omega,Nat.le_refl _,by omega⟩⟩
    case rest =>
     as_aux_lemma =>
      obtain ⟨b,rfl,HM⟩:=hcut
      clear HL7 HC7 v0 v1 v2 hb9 hPb hVb hUb hKb hP' hV' hU' hK' HBD
      obtain ⟨q2,t2,fp2,k2,P2,V2,U2,p2,vv2,uu2,wp2,hL,hC,hP2,hV2,hU2,hK2,hb2,hs2⟩:=HM.out
      have cK:=fun (y:Under wc) => (hL.rd.read y.below).lks (by omega)
      have r0:=Under.cell hL.rd.dd.c0
      have x0:=Under.cell hC.w0.1
      have HL:=Lib.hid hL
      have HC:=Lib.hid hC
      clear hL hC HM
      obtain ⟨S,hS⟩:∃ S,sumK Y.N k2 = S:=⟨_,rfl⟩
      simp only [hS] at cK hK2 hb2 hs2
      obtain ⟨dd,hdd⟩:∃ dd,S - b = dd:=⟨_,rfl⟩
      rw [hdd] at hs2
      have e1:IntKind.i64.wrap ((S:Int) - (b:Int)) = (dd:Int):=by rw [IntWalk.i64_in _ (by omega)]; omega
      have e2:IntKind.i64.wrap ((wp2:Int) + (dd:Int)) = (p2:Int):=by rw [IntWalk.i64_in _ (by omega)]; omega
      go_upto_region 67 with (fail)
      refine tail.wp_region_tail_under 11 (by kernel_rfl) (by kernel_rfl) ?_
      simp only [List.take_succ_cons,List.take_zero,List.drop_succ_cons,List.drop_zero]
      repeat (quiet_step (first
       | (go_at_call 10; (with_reducible refine under_same (cK _)))))
      refine wpQuiet_nil ?_
      intro wz hwz
      obtain ⟨z,rfl⟩:=hwz
      have hL8:=HL.out.read z.below
      have hC8:=HC.out.read z.below
      clear x0 cK r0 HL HC
      generalize z.W = w8 at *
      have hC9:=hC8.setP p2
      have hL9:=hL8.box (hC8.h X14 (by simp)).1 (hC8.h X14 (by simp)).2 (hC8.o X14 (by simp)) 0 (.int .i64 (p2:Nat))
      have xf:=hC8.w0.2.2.2
      have x0:=hC8.w0.1
      clear hC8 hL8
      have HC9:=Lib.hid hC9
      have HL9:=Lib.hid hL9
      clear hC9 hL9
      go_upto_region 68 with (fail)
      clear x0 xf
      generalize w8.setCell ⟨X14,0,none⟩ (.int .i64 (p2:Nat)) = w9 at *
      have ⟨x0,x1,x2,xf⟩:=HC9.out.w0
      have ⟨y0,y1,y2,yf⟩:=HC9.out.l0
      have p1:∀ W,Calls Tryz.prog 33 #[.agg #[.int .i64 (P2:Nat),.int .i64 (V2:Nat),.int .i64 (U2:Nat)],.agg #[.int .i64 (p2:Nat),.int .i64 (vv2:Nat),.int .i64 (uu2:Nat)]] W fun e w' => e = .returned (.agg #[.int .i64 ((P2 + p2:Nat):Int),.int .i64 ((V2 + vv2:Nat):Int),.int .i64 ((U2 + uu2:Nat):Int)]) ∧ Below W.heap.size W w':=fun W => by
       have h:=plus_any (P2:Nat) (V2:Nat) (U2:Nat) (p2:Nat) (vv2:Nat) (uu2:Nat) W
       rw [sm_nat (a:=P2) (b:=p2) (by omega),sm_nat (a:=V2) (b:=vv2) (by omega),sm_nat (a:=U2) (b:=uu2) (by omega)] at h
       exact h
      obtain ⟨P3,hP3⟩:∃ x,P2 + p2 = x:=⟨_,rfl⟩
      obtain ⟨V3,hV3⟩:∃ x,V2 + vv2 = x:=⟨_,rfl⟩
      obtain ⟨U3,hU3⟩:∃ x,U2 + uu2 = x:=⟨_,rfl⟩
      rw [hP3,hV3,hU3] at p1 HL9
      go_upto_region 69 with (first
       | (go_at_call 33; refine (p1 _).mono ?_; clear p1; rintro e w10 ⟨rfl,hb10⟩; have hC10:=HC9.out.read hb10; have hL10:=HL9.out.read hb10; have ⟨g0,g1',g2',gf⟩:=hC10.l0; have o9:=And.intro (hC10.h X9 (by simp)) (hC10.o X9 (by simp)); have hC11:=hC10.setA P3 V3 U3; have hL11:=((hL10.box o9.1.1 o9.1.2 o9.2 0 (.int .i64 (P3:Nat))).box o9.1.1 o9.1.2 o9.2 1 (.int .i64 (V3:Nat))).box o9.1.1 o9.1.2 o9.2 2 (.int .i64 (U3:Nat)); clear hC10 hL10; have HC11:=Lib.hid hC11; have HL11:=Lib.hid hL11; clear hC11 hL11 hb10))
      clear x0 x1 x2 xf y0 y1 y2 yf g0 g1' g2' gf HC9 HL9
      generalize ((w10.setCell ⟨X9,0,none⟩ (.int .i64 (P3:Nat))).setCell ⟨X9,1,none⟩ (.int .i64 (V3:Nat))).setCell ⟨X9,2,none⟩ (.int .i64 (U3:Nat)) = w11 at *
      clear w10 w9 w8 
      have hN:=HL11.out.da.N
      have hsm:=HL11.out.da.small
      have hle:=HL11.out.da.le
      have cG:=HL11.out.rd.groups
      go_upto_region 70 with (first
       | (go_at_call 23; refine cG.mono ?_; clear cG; rintro e w12 ⟨rfl,rfl⟩))
      have cLa:=fun W (hb:Below w11.heap.size w11 W) => (HL11.out.read hb).aLast
      have cAl:=fun W (hb:Below w11.heap.size w11 W) => (HL11.out.read hb).aAll
      have cLe:=fun W (hb:Below w11.heap.size w11 W) => (HL11.out.read hb).aLeft
      have cLd:=fun W (hb:Below w11.heap.size w11 W) => (HL11.out.read hb).aRLeft
      have cRy:=fun W (hb:Below w11.heap.size w11 W) => (HL11.out.read hb).aReady
      have cLn:=fun W (hb:Below w11.heap.size w11 W) => (HL11.out.read hb).aLen
      have cAA:=fun W (hb:Below w11.heap.size w11 W) => (HL11.out.read hb).aList
      have cGr:=fun W (hb:Below w11.heap.size w11 W) => (HL11.out.read hb).aGroups
      have hrd:decide ((((Y.N - 1) * n1 - q2:Nat):Int) = 0) = rdy Y n1 q2:=by
       rw [← rdy_eq]
       by_cases h:(Y.N - 1) * n1 - q2 = 0
       ·rw [decide_eq_true h,decide_eq_true (by omega)]
       ·rw [decide_eq_false h,decide_eq_false (by omega)]
      have hrd':((((Y.N - 1) * n1 - q2:Nat):Int) == 0) = rdy Y n1 q2:=by
       rw [← hrd]
       first
        | rfl
        | (by_cases h:(((Y.N - 1) * n1 - q2:Nat):Int) = 0 <;> simp [h])
      have ⟨x0,x1,x2,_⟩:=HC11.out.w0
      have ⟨y0,y1,y2,_⟩:=HC11.out.l0
      have c5:=HC11.out.c5
      have c8:=HC11.out.c8
      have r1:=HL11.out.rd.dd.c1
      generalize entsA t2 Y.N = le at *
      generalize Y.n 0 + (Y.N - 1) * n1 - q2 = lf at *
      obtain ⟨rr,hrr⟩:∃ rr,rdy Y n1 q2 = rr:=⟨_,rfl⟩
      rw [hrr] at cRy hrd hrd'
      obtain ⟨ba,hba⟩:∃ ba,(Y.N - 1) * n1 - q2 = ba:=⟨_,rfl⟩
      rw [hba] at hrd hrd' r1
      have hrd2:decide (ba = 0) = rr:=by
       rw [← hrd]
       by_cases h:ba = 0
       ·rw [decide_eq_true h,decide_eq_true (by omega)]
       ·rw [decide_eq_false h,decide_eq_false (by omega)]
      obtain ⟨gs,hgs⟩:∃ gs,sumK Y.N Y.n = gs:=⟨_,rfl⟩
      rw [hgs] at cGr ⊢
      have hrb:(rr != rr) = false:=by simp
      have hxd:(fun (_:Unit) W => Below w11.heap.size w11 W) () w11.drew:=under.drew_below _
      have qx0:∀ q:moves.Un (fun (_:Unit) W => Below w11.heap.size w11 W),q.W.cell? ⟨X14,0,none⟩ = some (.int .i64 (p2:Nat)):=fun q => keepc q.h x0
      have qx1:∀ q:moves.Un (fun (_:Unit) W => Below w11.heap.size w11 W),q.W.cell? ⟨X14,1,none⟩ = some (.int .i64 (vv2:Nat)):=fun q => keepc q.h x1
      have qx2:∀ q:moves.Un (fun (_:Unit) W => Below w11.heap.size w11 W),q.W.cell? ⟨X14,2,none⟩ = some (.int .i64 (uu2:Nat)):=fun q => keepc q.h x2
      have qy0:∀ q:moves.Un (fun (_:Unit) W => Below w11.heap.size w11 W),q.W.cell? ⟨X9,0,none⟩ = some (.int .i64 (P3:Nat)):=fun q => keepc q.h y0
      have qy1:∀ q:moves.Un (fun (_:Unit) W => Below w11.heap.size w11 W),q.W.cell? ⟨X9,1,none⟩ = some (.int .i64 (V3:Nat)):=fun q => keepc q.h y1
      have qy2:∀ q:moves.Un (fun (_:Unit) W => Below w11.heap.size w11 W),q.W.cell? ⟨X9,2,none⟩ = some (.int .i64 (U3:Nat)):=fun q => keepc q.h y2
      have q5:∀ q:moves.Un (fun (_:Unit) W => Below w11.heap.size w11 W),q.W.cell? ⟨X5,0,none⟩ = some (.pointer (some ⟨D,0,none⟩)):=fun q => keepc q.h c5
      have q8:∀ q:moves.Un (fun (_:Unit) W => Below w11.heap.size w11 W),q.W.cell? ⟨X8,0,none⟩ = some (.pointer (some ⟨Bm,0,none⟩)):=fun q => keepc q.h c8
      have qr:∀ q:moves.Un (fun (_:Unit) W => Below w11.heap.size w11 W),q.W.cell? ⟨R,1,none⟩ = some (.int .i64 (ba:Nat)):=fun q => keepc q.h r1
      haveI : Nonempty (moves.Un (fun (_:Unit) W => Below w11.heap.size w11 W)):=⟨⟨(),_,hxd⟩⟩
      clear x0 x1 x2 y0 y1 y2 c5 c8 r1
      refine (wpIn_wide (n:=3)).1 ?_
      refine moves.region (D:=fun (_:Unit) W => Below w11.heap.size w11 W) (AM (.agg #[.int .i64 (p2:Nat),.int .i64 (vv2:Nat),.int .i64 (uu2:Nat)]) (.agg #[.int .i64 (P3:Nat),.int .i64 (V3:Nat),.int .i64 (U3:Nat)]) (.int .i64 (lf:Nat)) (.bool rr) (.int .i64 (le.length:Nat)) (.int .i64 (gs:Nat)) le.length) 41 [false,true,false,false,false,false,true,false,false,false,false,false,true,false,true,false,false,false,false,true,false,false,false,false,false,false,false,false,false,true,false,true,false,false,false,false,false,true,false,false,false] [(1,6),(1,12),(1,14),(1,19),(1,29),(1,31),(1,37),(6,12),(6,14),(6,19),(6,29),(6,31),(6,37),(12,14),(12,19),(12,29),(12,31),(12,37),(14,19),(14,29),(14,31),(14,37),(19,29),(19,31),(19,37),(29,31),(29,37),(31,37)] (by kernel_rfl) (by kernel_rfl) (by kernel_rfl) (fun k s _ => AM.some _ _ _ _ _ _ _ k s) (fun i j _ s u sj v s2 h1 h2 => ⟨s,h2,h1⟩) () hxd ?_
      simp only [List.take_succ_cons,List.take_zero,List.drop_succ_cons,List.drop_zero]
      iterate 1
       refine moves.pure_step (fun _ _ _ => trivial) (fun K hK => ?_)
       go_simp
       refine hK _ ?_
       clear hK K
      refine moves.move_step (fun _ _ _ => trivial) (by kernel_rfl) (fun sd wd hd => ?_) ?_
      ·go_simp
       refine callsIn_wide.2 ((cLa wd hd).mono ?_)
       rintro e' w' ⟨rfl,hb'⟩
       exact ⟨_,rfl,⟨sd,⟨rfl,rfl⟩⟩,under.below_step hd hb'⟩
      rintro _ _ ⟨rfl,rfl⟩ K hK
      refine hK _ ?_
      clear hK K
      iterate 4
       refine moves.pure_step (fun _ _ _ => trivial) (fun K hK => ?_)
       go_simp
       refine hK _ ?_
       clear hK K
      refine moves.move_step (fun _ _ _ => trivial) (by kernel_rfl) (fun sd wd hd => ?_) ?_
      ·go_simp
       refine callsIn_wide.2 ((cAl wd hd).mono ?_)
       rintro e' w' ⟨rfl,hb'⟩
       exact ⟨_,rfl,⟨sd,⟨rfl,rfl⟩⟩,under.below_step hd hb'⟩
      rintro _ _ ⟨rfl,rfl⟩ K hK
      refine hK _ ?_
      clear hK K
      iterate 5
       refine moves.pure_step (fun _ _ _ => trivial) (fun K hK => ?_)
       go_simp
       refine hK _ ?_
       clear hK K
      refine moves.move_step (fun _ _ _ => trivial) (by kernel_rfl) (fun sd wd hd => ?_) ?_
      ·go_simp
       refine callsIn_wide.2 ((cLe wd hd).mono ?_)
       rintro e' w' ⟨rfl,hb'⟩
       exact ⟨_,rfl,⟨sd,⟨rfl,rfl⟩⟩,under.below_step hd hb'⟩
      rintro _ _ ⟨rfl,rfl⟩ K hK
      refine hK _ ?_
      clear hK K
      iterate 1
       refine moves.pure_step (fun _ _ _ => trivial) (fun K hK => ?_)
       go_simp
       refine hK _ ?_
       clear hK K
      refine moves.move_step (fun _ _ _ => trivial) (by kernel_rfl) (fun sd wd hd => ?_) ?_
      ·go_simp
       refine callsIn_wide.2 ((cLd wd hd).mono ?_)
       rintro e' w' ⟨rfl,hb'⟩
       exact ⟨_,rfl,⟨sd,⟨rfl,rfl⟩⟩,under.below_step hd hb'⟩
      rintro _ _ ⟨rfl,rfl⟩ K hK
      refine hK _ ?_
      clear hK K
      iterate 4
       refine moves.pure_step (fun _ _ _ => trivial) (fun K hK => ?_)
       go_simp
       refine hK _ ?_
       clear hK K
      refine moves.move_step (fun _ _ _ => trivial) (by kernel_rfl) (fun sd wd hd => ?_) ?_
      ·go_simp
       refine callsIn_wide.2 ((cRy wd hd).mono ?_)
       rintro e' w' ⟨rfl,hb'⟩
       exact ⟨_,rfl,⟨sd,⟨rfl,rfl⟩⟩,under.below_step hd hb'⟩
      rintro _ _ ⟨rfl,rfl⟩ K hK
      refine hK _ ?_
      clear hK K
      iterate 9
       refine moves.pure_step (fun _ _ _ => trivial) (fun K hK => ?_)
       go_simp
       refine hK _ ?_
       clear hK K
      refine moves.move_step (fun _ _ _ => trivial) (by kernel_rfl) (fun sd wd hd => ?_) ?_
      ·go_simp
       refine callsIn_wide.2 ((cLn wd hd).mono ?_)
       rintro e' w' ⟨rfl,hb'⟩
       exact ⟨_,rfl,⟨sd,⟨rfl,rfl⟩⟩,under.below_step hd hb'⟩
      rintro _ _ ⟨rfl,rfl⟩ K hK
      refine hK _ ?_
      clear hK K
      iterate 1
       refine moves.pure_step (fun _ _ _ => trivial) (fun K hK => ?_)
       go_simp
       refine hK _ ?_
       clear hK K
      refine moves.move_step (fun _ _ _ => trivial) (by kernel_rfl) (fun sd wd hd => ?_) ?_
      ·go_simp
       refine callsIn_wide.2 ((cAA wd hd).mono ?_)
       rintro e' w' ⟨o',c',rfl,hb'⟩
       exact ⟨_,rfl,⟨sd,⟨⟨o',c',rfl⟩,rfl⟩⟩,under.below_step hd hb'⟩
      rintro _ _ ⟨⟨oz,cz,rfl⟩,rfl⟩ K hK
      refine hK _ ?_
      clear hK K
      iterate 5
       refine moves.pure_step (fun _ _ _ => trivial) (fun K hK => ?_)
       go_simp
       refine hK _ ?_
       clear hK K
      refine moves.move_step (fun _ _ _ => trivial) (by kernel_rfl) (fun sd wd hd => ?_) ?_
      ·go_simp
       refine callsIn_wide.2 ((cGr wd hd).mono ?_)
       rintro e' w' ⟨rfl,hb'⟩
       exact ⟨_,rfl,⟨sd,⟨rfl,rfl⟩⟩,under.below_step hd hb'⟩
      rintro _ _ ⟨rfl,rfl⟩ K hK
      refine hK _ ?_
      clear hK K
      iterate 3
       refine moves.pure_step (fun _ _ _ => trivial) (fun K hK => ?_)
       go_simp
       refine hK _ ?_
       clear hK K
      refine moves.nil_step ?_
      intro w13 hw13
      have HLz:=Lib.hid (HL11.out.read hw13)
      have HCz:=Lib.hid (HC11.out.read hw13)
      clear hxd this qx0 qx1 qx2 qy0 qy1 qy2 q5 q8 qr cLa cAl cLe cLd cRy cLn cAA cGr hw13 HL11 HC11
      gi_wp2
      go_wp2
      all_goals
       go_roundw
       case rel =>
        have hn:=HCz.out.next
        exact ⟨j + 1,by omega,by simp,Lib.hid ⟨q2,t2,fp2,k2,P3,V3,U3,p2,vv2,uu2,HLz.out,hn.1,hn.2.1,hn.2.2.1,hn.2.2.2.1,hn.2.2.2.2.1,hn.2.2.2.2.2,by omega,by omega,by omega,by omega,by omega,by omega,by omega⟩⟩
       case measure => simp [intOf]; omega
   ·obtain rfl:j = lb:=by omega
    have HF:=HFN.out j wr HO.out
    go_wp2
    go_ret
    exact ⟨rfl,by rw [hXX]; exact HF⟩
end Go.Proofs.YtapndkabgjeofaaGreatDoor.dual
