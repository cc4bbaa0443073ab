/- Many: some tables and the document's, side by side. -/
import Derived.Test.YtdplhgpeggcmdaaGreatDoorTabRs
namespace Go.Proofs.YtdplhgpeggcmdaaGreatDoor
set_option linter.unusedSimpArgs false
set_option linter.unusedVariables false
open Go.ChangeShapes Go.WideShapes Go.ChangeAt Go.RowKit Go.Shelf swar under trap meter group probe lens tail call
namespace table
attribute [local go_sem] Oper.semAt_some stage.pureUpon move.stepUpon
structure Bq(a:String→Addr)(w:World):Prop where
 six:Errs6 a w
 broken : w.cell? ⟨4, 0, none⟩ = some (errs.errV (a "ambler/api.ErrBroken"))
 limit : w.cell? ⟨11, 0, none⟩ = some (errs.errV (a "ambler/api.ErrLimit"))
 bits:TabOk w
 far:18≤w.heap.size
theorem Bq.below{a:String→Addr}{w W:World}(h:Bq a w)(hb:Below w.heap.size w W):Bq a W:=⟨h.six.below hb,keepc hb h.broken,keepc hb h.limit,h.bits.below hb h.bits.lt,Nat.le_trans h.far hb.size⟩
theorem Bq.of{a:String→Addr}{w:World}(h:Base a w):Bq a w:=⟨errs6 h.errs,h.errs.at errs.gErrBroken (errs.nm_mem (i:=9) (by decide)),h.errs.at errs.gErrLimit (errs.nm_mem (i:=10) (by decide)),h.bits,h.far⟩
structure Lay where
 N:Nat
 T:Nat→Nat
 B:Nat→Nat
 F:Nat→Rf
 n:Nat→Nat
def Lay.rb(Y:Lay)(i:Nat):List Nat:=(Y.F i).G::(Y.F i).d (Y.n i)
def Lay.bs(Y:Lay)(i:Nat):List Nat:=Y.T i::Y.B i::Y.rb i
theorem Lay.rmem{Y:Lay}{i b:Nat}(h:b∈(Y.F i).d (Y.n i)∨b=(Y.F i).G):b∈Y.rb i:=by
 rcases h with h|rfl
 ·exact List.mem_cons_of_mem _ h
 ·exact List.mem_cons_self
theorem Lay.rbs{Y:Lay}{i b:Nat}(h:b∈Y.rb i):b∈Y.bs i:=List.mem_cons_of_mem _ (List.mem_cons_of_mem _ h)
theorem Lay.tbs(Y:Lay)(i:Nat):Y.T i∈Y.bs i:=List.mem_cons_self
theorem Lay.bbs(Y:Lay)(i:Nat):Y.B i∈Y.bs i:=List.mem_cons_of_mem _ List.mem_cons_self
def Lay.rall(Y:Lay):List Nat:=(List.range Y.N).flatMap Y.rb
def Lay.tall(Y:Lay):List Nat:=(List.range Y.N).flatMap fun i=>[Y.T i,Y.B i]
theorem Lay.rin{Y:Lay}{i b:Nat}(hi:i<Y.N)(h:b∈Y.rb i):b∈Y.rall:=List.mem_flatMap.2 ⟨i,List.mem_range.2 hi,h⟩
theorem Lay.tin{Y:Lay}{i b:Nat}(hi:i<Y.N)(h:b∈[Y.T i,Y.B i]):b∈Y.tall:=List.mem_flatMap.2 ⟨i,List.mem_range.2 hi,h⟩
def Out(Y:Lay)(x:Nat):Prop:=∀i,i<Y.N→x∉Y.bs i
theorem Out.r{Y:Lay}{x:Nat}(h:Out Y x):x∉Y.rall:=fun e=>by
 obtain⟨i,hi,hb⟩:=List.mem_flatMap.1 e;exact h i (List.mem_range.1 hi) (Lay.rbs hb)
def up{α:Type}(t:Nat→α)(i:Nat)(x:α):Nat→α:=fun j=>if j=i then x else t j
theorem up_same{α:Type}(t:Nat→α)(i:Nat)(x:α):up t i x i=x:=if_pos rfl
theorem up_ne{α:Type}(t:Nat→α){i j:Nat}(x:α)(h:j≠i):up t i x j=t j:=if_neg h
theorem up_self{α:Type}(t:Nat→α)(i:Nat):up t i (t i)=t:=by
 funext j;unfold up;split
 ·next h=>rw [h]
 ·rfl
structure Many(a:String→Addr)(w0:World)(Y:Lay)(t u:Nat→Tb)(k:Nat→Nat)(W:World):Prop where
 at':∀i,i<Y.N→TAt (Y.T i) (Y.B i) (t i) W
 ok:∀i,i<Y.N→(t i).Ok
 tn:∀i,i<Y.N→(t i).n=Y.n i
 wa:∀i,i<Y.N→WAt (Y.F i) (u i) (k i) W
 uok:∀i,i<Y.N→(u i).Ok
 un:∀i,i<Y.N→(u i).n=Y.n i
 ins:∀i,i<Y.N→Y.T i∉Y.rb i∧Y.B i∉Y.rb i
 sep:∀i j,i<Y.N→j<Y.N→i≠j→∀b∈Y.bs i,b∉Y.bs j
 new:∀i,i<Y.N→∀b∈Y.bs i,w0.heap.size≤b
 bel:Below w0.heap.size w0 W
 base:Bq a w0
section
variable {a:String→Addr} {w0:World} {Y:Lay} {t u:Nat→Tb} {k:Nat→Nat} {W W':World}
theorem Many.lts(h:Many a w0 Y t u k W){i:Nat}(hi:i<Y.N){b:Nat}(hb:b∈Y.bs i):b<W.heap.size:=by
 rcases List.mem_cons.1 hb with rfl|hb
 ·exact (h.at' i hi).lt
 ·rcases List.mem_cons.1 hb with rfl|hb
  ·exact (h.at' i hi).lb
  ·rcases List.mem_cons.1 hb with rfl|hb
   ·exact (h.wa i hi).lts (.inr rfl)
   ·exact (h.wa i hi).lts (.inl (by rw [h.un i hi];exact hb))
theorem Many.read(h:Many a w0 Y t u k W)(hb:Below W.heap.size W W'):Many a w0 Y t u k W':=
 ⟨fun i hi=>(h.at' i hi).below hb,h.ok,h.tn,fun i hi=>(h.wa i hi).below hb,h.uok,h.un,h.ins,h.sep,h.new,under.below_step h.bel hb,h.base⟩
theorem Many.past{d:List Nat}(h:Many a w0 Y t u k W)(hp:Past d W W')(hd:∀b∈d,w0.heap.size≤b)(ho:∀i,i<Y.N→∀b∈Y.bs i,b∉d):Many a w0 Y t u k W':=
 ⟨fun i hi=>(h.at' i hi).past hp (ho i hi _ (Y.tbs i)) (ho i hi _ (Y.bbs i)),h.ok,h.tn,fun i hi=>(h.wa i hi).past hp fun b hb=>ho i hi b (Lay.rbs (Lay.rmem (by rw [←h.un i hi];exact hb))),h.uok,h.un,h.ins,h.sep,h.new,h.bel.trans (hp.below h.bel.size hd),h.base⟩
theorem Many.ref{u':Tb}{k':Nat}(h:Many a w0 Y t u k W){i:Nat}(hi:i<Y.N)(hs:WStep (Y.F i) u' k' W W')(ok:u'.Ok)(hn:u'.n=Y.n i):Many a w0 Y t (up u i u') (up k i k') W'∧Past (Y.rb i) W W':=by
 have hp:=hs.past;rw [hn] at hp;have hr:∀b∈(Y.F i).d (Y.n i),b∈Y.rb i:=fun b hb=>Lay.rmem (.inl hb)
 have hout:∀j,j<Y.N→j≠i→∀b∈Y.bs j,b∉(Y.F i).d (Y.n i):=fun j hj hne b hb e=>h.sep j i hj hi hne b hb (Lay.rbs (hr b e))
 refine⟨⟨fun j hj=>?_,h.ok,h.tn,fun j hj=>?_,fun j hj=>?_,fun j hj=>?_,h.ins,h.sep,h.new,h.bel.trans (hp.below h.bel.size fun b hb=>h.new i hi b (Lay.rbs (hr b hb))),h.base⟩,hp.mono hr⟩
 ·by_cases e:j=i
  ·subst e;exact (h.at' j hj).past hp (fun e=>(h.ins j hj).1 (hr _ e)) (fun e=>(h.ins j hj).2 (hr _ e))
  ·exact (h.at' j hj).past hp (hout j hj e _ (Y.tbs j)) (hout j hj e _ (Y.bbs j))
 ·by_cases e:j=i
  ·subst e;rw [up_same,up_same];exact hs.at'
  ·rw [up_ne _ _ e,up_ne _ _ e]
   exact (h.wa j hj).past hp fun b hb=>hout j hj e b (Lay.rbs (Lay.rmem (by rw [←h.un j hj];exact hb)))
 ·by_cases e:j=i
  ·subst e;rw [up_same];exact ok
  ·rw [up_ne _ _ e];exact h.uok j hj
 ·by_cases e:j=i
  ·subst e;rw [up_same];exact hn
  ·rw [up_ne _ _ e];exact h.un j hj
end
def Lay.add(Y:Lay)(T B:Nat)(f:Rf)(n:Nat):Lay:=⟨Y.N+1,up Y.T Y.N T,up Y.B Y.N B,up Y.F Y.N f,up Y.n Y.N n⟩
def Lay.no:Lay:=⟨0,fun _=>0,fun _=>0,fun _=>⟨0,0,0,fun _=>0⟩,fun _=>0⟩
section
variable {a:String→Addr} {w0:World} {Y:Lay} {t u:Nat→Tb} {k:Nat→Nat} {W:World}
theorem Many.rput(h:Many a w0 Y t u k W){i:Nat}(hi:i<Y.N)(key hs v:Nat)(hk:key<18446744073709551616)(hh:hs<18446744073709551616)(hv:v<18446744073709551616)(hK:k i+64<9223372036854775807) :
  Calls Tryz.prog 51 #[.pointer (some ⟨(Y.F i).R,0,Option.none⟩),group.entV key v hs] W fun e w'=>e=.returned (.tuple #[.bool (putB' (u i) key hs),.int .i64 (putE' (u i) key hs:Nat)])∧Many a w0 Y t (up u i ((u i).puts key hs v)) (up k i (k i+looks (u i) key hs)) w'∧Past (Y.rb i) W w':=
 (rtput_any (Y.F i) (u i) (h.uok i hi) (k i) key v hs hK hh W (h.wa i hi)).mono fun e w' ⟨he,hs'⟩=>⟨he,h.ref hi hs' ((h.uok i hi).puts hk hh hv) ((puts_n ..).trans (h.un i hi))⟩
theorem Many.rall(h:Many a w0 Y t u k W){b:Nat}(hb:b∈Y.rall):w0.heap.size≤b∧b<W.heap.size:=by
 obtain⟨i,hi,hb⟩:=List.mem_flatMap.1 hb;exact⟨h.new i (List.mem_range.1 hi) b (Lay.rbs hb),h.lts (List.mem_range.1 hi) (Lay.rbs hb)⟩
end
end table
end Go.Proofs.YtdplhgpeggcmdaaGreatDoor
