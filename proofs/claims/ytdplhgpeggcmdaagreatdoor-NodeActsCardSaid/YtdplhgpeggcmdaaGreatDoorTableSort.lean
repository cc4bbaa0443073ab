/- TableSort: facts and laws for the walks. -/
import Derived.Test.YtdplhgpeggcmdaaGreatDoorTabRs
namespace Go.Proofs.YtdplhgpeggcmdaaGreatDoor
set_option linter.unusedSimpArgs false
set_option linter.unusedVariables false
namespace table
open group probe swar split
def pB(e x:Sl):Bool:=!lessB e.key e.hash x.key x.hash
def posn(l:List Sl)(e:Sl):Nat:=(l.takeWhile (pB e)).length
def insAt(l:List Sl)(e:Sl)(k:Nat):List Sl:=l.take k++[e]++l.drop k
def ins(l:List Sl)(e:Sl):List Sl:=insAt l e (posn l e)
def srt(l:List Sl):List Sl:=l.foldl ins []
theorem insAt_length{l:List Sl}{e:Sl}{k:Nat}(hk:k≤l.length):(insAt l e k).length=l.length+1:=by
 unfold insAt;simp;omega
theorem posn_le(l:List Sl)(e:Sl):posn l e≤l.length:=by
 unfold posn;exact (List.takeWhile_prefix _).length_le
theorem srt_succ{l:List Sl}{c:Nat}{e:Sl}(he:l[c]?=some e):srt (l.take (c+1))=ins (srt (l.take c)) e:=by
 unfold srt;rw [List.take_add_one,he,List.foldl_append];rfl
theorem srt_length(l:List Sl):(srt l).length=l.length:=by
 have h:∀(l s:List Sl),(l.foldl ins s).length=s.length+l.length:=by
  intro l
  induction l with
  | nil=>intro s;simp
  | cons e l ih=>intro s;rw [List.foldl_cons,ih,ins,insAt_length (posn_le _ _)];simp;omega
 unfold srt;rw [h];simp
theorem posn_is{e:Sl}:∀{l:List Sl} {k:Nat},k≤l.length→(∀j x,j<k→l[j]?=some x→pB e x=true)→(∀x,l[k]?=some x→pB e x=false)→posn l e=k
  | [], k, hk, _, _ => by have : k = 0 := by simpa using hk
                          subst this;rfl
  | a :: l,0,_,_,h2=>by
    have h:=h2 a rfl;unfold posn;rw [List.takeWhile_cons,h];rfl
  | a :: l,k+1,hk,h1,h2=>by
    have h:=h1 0 a (by omega) rfl;have ih:=posn_is (e:=e) (l:=l) (k:=k) (by simpa using hk) (fun j x hj hx=>h1 (j+1) x (by omega) (by simpa using hx)) (fun x hx=>h2 x (by simpa using hx));unfold posn at ih ⊢;rw [List.takeWhile_cons,h,if_pos rfl,List.length_cons,ih]
def nb(h k:Nat)(e:Sl):Bool:=!lessB e.key e.hash k h
theorem find_ins(h k:Nat)(s:List Sl)(e:Sl):(ins s e).find? (nb h k)=lstep h k (s.find? (nb h k)) e:=by
 have hs:s=s.take (posn s e)++s.drop (posn s e):=(List.take_append_drop _ _).symm
 have ht:s.take (posn s e)=s.takeWhile (pB e):=by
  have:=List.prefix_iff_eq_take.1 (List.takeWhile_prefix (l:=s) (pB e));exact this.symm
 have hd:∀x r,s.drop (posn s e)=x::r→pB e x=false:=fun x r hx=>by
  have h1:s.dropWhile (pB e)=x::r:=by
   have:=List.takeWhile_append_dropWhile (p:=pB e) (l:=s);rw [←ht] at this;have h2:=this.trans hs;rw [List.append_cancel_left_eq] at h2;rw [h2,hx]
  have:=List.head?_dropWhile_not (pB e) s;rw [h1] at this
  simpa using this
 have e1:(ins s e).find? (nb h k)=((s.take (posn s e)).find? (nb h k)).or ((if nb h k e=true then some e else none).or ((s.drop (posn s e)).find? (nb h k))):=by
  unfold ins insAt;rw [List.find?_append,List.find?_append,Option.or_assoc]
  congr 2
  rw [List.find?_cons];cases nb h k e <;> rfl
 have e2:s.find? (nb h k)=((s.take (posn s e)).find? (nb h k)).or ((s.drop (posn s e)).find? (nb h k)):=by
  conv=>lhs;rw [hs]
  rw [List.find?_append]
 rw [e1,e2];cases hq:lessB e.key e.hash k h
 ·have hn:nb h k e=true:=by unfold nb;rw [hq];rfl
  rw [hn];cases h1:(s.take (posn s e)).find? (nb h k) with
  | some m =>
   have hm:=List.mem_of_find?_eq_some h1;rw [ht] at hm
   have hp:pB e m=true:=List.all_takeWhile (l:=s) |> fun ha=>by
    have:=List.all_eq_true.1 ha m hm;exact this
   unfold lstep;rw [hq];unfold pB at hp;simp only [Bool.not_eq_true',Option.some_or] at hp ⊢;rw [hp];rfl
  | none =>
   simp only [Option.none_or,if_true,Option.some_or];cases h2:(s.drop (posn s e)).find? (nb h k) with
   | none=>unfold lstep;rw [hq];rfl
   | some m =>
    have : lessB e.key e.hash m.key m.hash=true:=by
     cases hx:s.drop (posn s e) with
     | nil=>rw [hx] at h2;cases h2
     | cons x r =>
      have hp:=hd x r hx;unfold pB at hp;have hl:lessB e.key e.hash x.key x.hash=true:=by simpa using hp
      rw [hx,List.find?_cons] at h2;cases hnx:nb h k x with
      | true=>rw [hnx] at h2;injection h2 with h2;rw [←h2];exact hl
      | false =>
       unfold nb at hnx;have hxk:lessB x.key x.hash k h=true:=by simpa using hnx
       rw [lessB_iff] at hl hxk;rw [Bool.eq_false_iff,Ne,lessB_iff] at hq;exact absurd (by omega) hq
    unfold lstep;rw [hq];simp only [Bool.false_eq_true,if_false];rw [this];rfl
 ·have hn:nb h k e=false:=by unfold nb;rw [hq];rfl
  rw [hn];unfold lstep;rw [hq];rfl
theorem find_srt(h k:Nat)(l:List Sl):(srt l).find? (nb h k)=lfold h k none l:=by
 have g:∀(l s:List Sl),(l.foldl ins s).find? (nb h k)=lfold h k (s.find? (nb h k)) l:=by
  intro l
  induction l with
  | nil=>intro s;rfl
  | cons e l ih=>intro s;rw [List.foldl_cons,ih,find_ins];rfl
 exact g l []
end table
namespace table
open Go.ChangeShapes Go.WideShapes Go.ChangeAt Go.RowKit Go.Shelf swar under trap meter group probe lens tail call split
attribute [local go_sem] Oper.semAt_some stage.pureUpon move.stepUpon
def slZ:Sl:=⟨1,0,0,0⟩
theorem rowsS_at:∀(l:List Sl) (j d:Nat) (hj:j<l.length),d<3→(rowsS l)[j*3+d]?=(ent (l.getD j slZ))[d]?
 | s::l,0,d,_,hd=>by
  have h:rowsS (s::l)=ent s++rowsS l:=by simp [rowsS]
  rw [h,Nat.zero_mul,Nat.zero_add,List.getElem?_append_left (by simp [ent];omega)];rfl
 | s::l,j+1,d,hj,hd=>by
  have h:rowsS (s::l)=ent s++rowsS l:=by simp [rowsS]
  rw [h,List.getElem?_append_right (by simp [ent];omega)];have e:(j+1)*3+d-(ent s).length=j*3+d:=by simp [ent];omega
  rw [e];exact rowsS_at l j d (by simpa using hj) hd
theorem KeptE.rows{base:Nat}{W:World}{v:Value}{l:List Sl}(h:KeptE base W v l):∃o c,v=.slice o l.length c∧RowsAt o (fun j=>l.getD j slZ) l.length W:=by
 have hc:=fun {g:Nat} (hg:v.ownBlock=some g)=>World.ownsRow.cells (w:=W) h hg
 obtain⟨hl,h⟩:=h
 rcases h with⟨rfl,hn⟩|⟨B,c,cur,rfl,_,hB,hn,_,hs,ht⟩
 ·exact⟨none,0,by rw [hn],fun j hj=>by omega⟩
 ·refine⟨_,_,rfl,fun j hj=>⟨_,rfl, ?_⟩⟩
  have ea:∀k,((⟨B,0,none⟩:Addr).add k)=⟨B,k,none⟩:=fun k=>by unfold Addr.add;split <;> simp_all
  have hc:∀d u,d<3→(ent (l.getD j slZ))[d]?=some u→W.cell? ⟨B,j*3+d,none⟩=some u:=fun d u hd hu=>by
   have:=hc rfl (j*3+d) u (by rw [rowsS_at l j d hj hd];exact hu);rw [ea] at this;exact this
  unfold group.ECells;rw [ea];exact⟨hc 0 _ (by decide) rfl,hc 1 _ (by decide) rfl,hc 2 _ (by decide) rfl⟩
def EntsAt(o:Option Addr)(l:List Sl)(W:World):Prop:=RowsAt o (fun j=>l.getD j slZ) l.length W
theorem EntsAt.read{o:Option Addr}{l:List Sl}{W W':World}(h:EntsAt o l W)(hb:Below W.heap.size W W'):EntsAt o l W':=RowsAt.read h hb
theorem KeptE.read{base:Nat}{W W':World}{v:Value}{l:List Sl}(h:KeptE base W v l)(hb:Below W.heap.size W W'):KeptE base W' v l:=row_below h hb
theorem KeptE.take{base:Nat}{W:World}{g n c:Nat}{l:List Sl}(h:KeptE base W (.slice (some ⟨g,0,none⟩) n c) l){k:Nat}:app.HasRow W (.slice (some ⟨g,0,none⟩) k c) k (rowsS (l.take k)):=by
 refine⟨_,_,rfl,fun j u hj=>⟨_,rfl,World.ownsRow.cells (w:=W) h rfl j u ?_⟩⟩;have e:rowsS l=rowsS (l.take k)++rowsS (l.drop k):=by rw [←rowsS_app,List.take_append_drop]
 rw [e,List.getElem?_append_left (by rw [List.getElem?_eq_some_iff] at hj;exact hj.1)];exact hj
theorem KeptE.drop{base:Nat}{W:World}{g n c:Nat}{l:List Sl}(h:KeptE base W (.slice (some ⟨g,0,none⟩) n c) l){k:Nat}(hk:k≤l.length)(m c':Nat):app.HasRow W (.slice (some ⟨g,k*3,none⟩) m c') m (rowsS (l.drop k)):=by
 refine⟨_,_,rfl,fun j u hj=>⟨_,rfl, ?_⟩⟩;have e:rowsS l=rowsS (l.take k)++rowsS (l.drop k):=by rw [←rowsS_app,List.take_append_drop]
 have hl:(rowsS (l.take k)).length=k*3:=by rw [rowsS_length,List.length_take];omega
 have hc:=World.ownsRow.cells (w:=W) h (g:=g) rfl (k*3+j) u (by rw [e,List.getElem?_append_right (by omega),hl,Nat.add_sub_cancel_left];exact hj);have ea:((⟨g,0,none⟩:Addr).add (k*3+j))=((⟨g,k*3,none⟩:Addr).add j):=by unfold Addr.add;split <;> simp_all
 rw [←ea];exact hc
theorem KeptE.dropS{base:Nat}{W:World}{g n c:Nat}{l:List Sl}(h:KeptE base W (.slice (some ⟨g,0,none⟩) n c) l)(hl:l.length=n){k so:Nat}(hk:k≤n)(hn:n≤c)(hso:(c=k∧so=0)∨(c≠k∧so=k*3))(m c':Nat):app.HasRow W (.slice (some ⟨g,so,none⟩) m c') m (rowsS (l.drop k)):=by
 rcases hso with⟨h1,rfl⟩|⟨_,rfl⟩
 ·have e:l.drop k=[]:=List.drop_eq_nil_of_le (by omega)
  rw [e];exact⟨_,_,rfl,fun j u hj=>by simp [rowsS] at hj⟩
 ·exact h.drop (by omega) m c'
theorem row_base{w:World}{base base':Nat}{e:TypeId}{size n:Nat}{v:Value}{xs:List Value}(h:w.ownsRow base e size v n xs)(hb:base'≤base):w.ownsRow base' e size v n xs:=by
 refine⟨h.1, ?_⟩
 rcases h.2 with h2|⟨g,cap,cur,h1,h2,h3⟩
 ·exact .inl h2
 ·exact .inr ⟨g,cap,cur,h1,by omega,h3⟩
theorem row_cap{w:World}{base:Nat}{e:TypeId}{size n g cap:Nat}{xs:List Value}(h:w.ownsRow base e size (.slice (some ⟨g,0,none⟩) n cap) n xs):n≤cap:=by
 rcases h.2 with⟨h2,_⟩|⟨g',cap',cur,h1,_,_,h3,_⟩
 ·cases h2
 ·cases h1;exact h3
theorem KeptE.at{base:Nat}{W:World}{g n c:Nat}{l:List Sl}(h:KeptE base W (.slice (some ⟨g,0,none⟩) n c) l){k:Nat}{y:Sl}(hk:l[k]?=some y):W.cell? ⟨g,k*3,none⟩=some (.int .u64 (y.key:Nat))∧W.cell? ⟨g,k*3+1,none⟩=some (.int .u64 (y.val:Nat))∧W.cell? ⟨g,k*3+2,none⟩=some (.int .u64 (y.hash:Nat)):=by
 have hlt:k<l.length:=(List.getElem?_eq_some_iff.1 hk).1;have hy:l.getD k slZ=y:=by rw [List.getD_eq_getElem?_getD,hk];rfl
 have ea:∀k,((⟨g,0,none⟩:Addr).add k)=⟨g,k,none⟩:=fun k=>by unfold Addr.add;split <;> simp_all
 have hc:∀d u,d<3→(ent y)[d]?=some u→W.cell? ⟨g,k*3+d,none⟩=some u:=fun d u hd hu=>by
  have:=World.ownsRow.cells (w:=W) h (g:=g) rfl (k*3+d) u (by rw [rowsS_at l k d hlt hd,hy];exact hu);rw [ea] at this;exact this
 exact⟨hc 0 _ (by decide) rfl,hc 1 _ (by decide) rfl,hc 2 _ (by decide) rfl⟩
theorem KeptE.lit(w:World){base:Nat}(hb:base≤w.heap.size)(s:Sl):KeptE base (w.alloc (.cells #[.int .u64 (s.key:Nat),.int .u64 (s.val:Nat),.int .u64 (s.hash:Nat)] 44)) (.slice (some ⟨w.heap.size,0,none⟩) 1 1) [s]:=
 World.ownsRow_lit w #[.int .u64 (s.key:Nat),.int .u64 (s.val:Nat),.int .u64 (s.hash:Nat)] 1 hb (by decide) rfl
theorem KeptE.none(w:World){base:Nat}(hb:base≤w.heap.size):KeptE base (w.alloc (.cells #[] 44)) (.slice (some ⟨w.heap.size,0,Option.none⟩) 0 0) []:=
 World.ownsRow_lit w #[] 0 hb (by decide) rfl
set_option maxRecDepth 20000 in
set_option maxHeartbeats 2000000 in
theorem sorted_any(o:Option Addr)(cp n:Nat)(l:List Sl)(hn:l.length=n)(h512:n≤2048)(w:World)(hl:EntsAt o l w) :
  Calls Tryz.prog 57 #[.slice o n cp] w fun e w'=>∃v,e=.returned v∧KeptE w.heap.size w' v (srt l)∧Below w.heap.size w w':=by
 obtain⟨i0,hi0,hq0,hq1,hq2⟩:=info_parts infoEnt;have HL:=Lib.hid hl;have HN:=Lib.hid hn;have HI:=Lib.hid (show KeptE w.heap.size (w.alloc (.cells #[] 44)) (.slice (some ⟨w.heap.size,0,none⟩) 0 0) (srt (l.take 0))∧Below w.heap.size w (w.alloc (.cells #[] 44)) from⟨KeptE.none w (Nat.le_refl _),new_block w _⟩);clear hl hn
 go_enter Tryz.func57,Tryz.ntmps57
 go_wp2
 go_loopw [10,3] (fun i v wr=>∃c g cap:Nat,c≤n∧c≤cap∧i=.int .i64 c∧v=.slice (some ⟨g,0,none⟩) c cap∧Hid (KeptE w.heap.size wr v (srt (l.take c))∧Below w.heap.size w wr)) (fun i _ _=>n-(intOf i).toNat)
 case atStart=>exact⟨0,_,0,by omega,by omega,rfl,rfl,HI⟩
 case round =>
  obtain⟨c,g,cap,hc,hcap,rfl,rfl,HR⟩:=hrel;clear HI
  rcases Nat.lt_or_ge c n with hcn|hcn
  ·have hci:(c:Int)<(n:Int):=by omega
   obtain⟨x,rfl,hE⟩:=HL.out c (by rw [HN.out];exact hcn);obtain⟨d0,d1,d2⟩:group.ECells x c (l.getD c slZ) wr:=hE.read HR.out.2;have hse:l[c]?=some (l.getD c slZ):=by rw [List.getD_eq_getElem?_getD,List.getElem?_eq_getElem (by rw [HN.out];exact hcn)];rfl
   have hsc:=srt_succ hse;have hlo:(srt (l.take c)).length=c:=by rw [srt_length,List.length_take,HN.out];omega
   have HSC:=Lib.hid hsc;clear hse hsc hE;generalize l.getD c slZ=s at *
   generalize srt (l.take c)=out at *
   have HK:=Lib.hid HR.out.1;have HB:=Lib.hid HR.out.2;have HLo:=Lib.hid hlo;have hV:=EBox.new s.key s.val s.hash wr;have hb1:=new_block wr (.cells #[.int .u64 (s.key:Nat),.int .u64 (s.val:Nat),.int .u64 (s.hash:Nat)] 44);have HJ:=Lib.hid (show KeptE w.heap.size _ (.slice (some ⟨g,0,none⟩) c cap) out∧EBox wr.heap.size s.key s.val s.hash _∧Below w.heap.size w _ from⟨HK.out.read hb1,hV,under.below_step HB.out hb1⟩);have hXw:w.heap.size≤wr.heap.size:=HB.out.size;clear hV hb1 HR HK HB hlo;go_wp2;obtain⟨X,hX⟩:∃X,wr.heap.size=X:=⟨_,rfl⟩;rw [hX] at hXw ⊢;have HJ:=Lib.hid (by have h:=HJ.out;rw [hX] at h;exact h);clear hX;generalize wr.alloc (.cells #[.int .u64 (s.key:Nat),.int .u64 (s.val:Nat),.int .u64 (s.hash:Nat)] 44)=W0 at HJ ⊢;clear d0 d1 d2
   go_loopw [6] (fun kk wx=>∃k:Nat,k≤c∧kk=.int .i64 k∧Hid (KeptE w.heap.size wx (.slice (some ⟨g,0,none⟩) c cap) out∧EBox X s.key s.val s.hash wx∧Below w.heap.size w wx∧∀j x,j<k→out[j]?=some x→pB s x=true)) (fun kk _=>c-(intOf kk).toNat)
   case atStart=>exact⟨0,by omega,rfl,Lib.hid ⟨HJ.out.1,HJ.out.2.1,HJ.out.2.2,fun j x hj=>absurd hj (Nat.not_lt_zero j)⟩⟩
   case round =>
    obtain⟨k,hkc,rfl,HQ⟩:=hrel;have K0:=Lib.hid HQ.out.1;have V0:=Lib.hid HQ.out.2.1;have HB:=Lib.hid HQ.out.2.2.1;have HPR:=Lib.hid HQ.out.2.2.2;clear HQ HJ;have e0:=Under.cell V0.out.c0;have e1:=Under.cell V0.out.c1;have e2:=Under.cell V0.out.c2;have k0:(0:Int)≤(k:Int):=by omega
    have k1:(k:Int)≤(cap:Int):=by omega
    have k2:(k:Int)≤(c:Int):=by omega
    have k3:(c:Int)≤(cap:Int):=by omega
    obtain⟨so,hso⟩:∃so,(cap=k∧so=0)∨(cap≠k∧so=k*3):=by
     by_cases h:cap=k
     ·exact⟨0,.inl ⟨h,rfl⟩⟩
     ·exact⟨k*3,.inr ⟨h,rfl⟩⟩
    have HSO:=Lib.hid hso;clear hso
    rcases Nat.lt_or_ge k c with hk|hk
    ·have hki:(k:Int)<(c:Int):=by omega
     obtain⟨y,hy⟩:∃y,out[k]?=some y:=⟨out[k]'(by rw [HLo.out];exact hk),List.getElem?_eq_getElem _⟩;obtain⟨f0,f1,f2⟩:=K0.out.at hy;have f0:=Under.cell f0;have f1:=Under.cell f1;have f2:=Under.cell f2;have HY:=Lib.hid hy;have cB:=fun W=>split.before_any s.key s.val s.hash y.key y.val y.hash W
     clear hy;cases hb:lessB s.key s.hash y.key y.hash
     ·rw [hb] at cB
      have HBB:=Lib.hid hb;clear hb
      go_upto_region 6 with (fail)
      refine wp_region_under (by kernel_rfl) (by kernel_rfl) ?_
      repeat (quiet_step ((go_at_call 58;(with_reducible refine under_call (cB _)))))
      refine wpQuiet_nil ?_;intro w4 hw4;obtain⟨n4,rfl⟩:=hw4;go_wp2
      go_roundw
      case rel =>
       refine⟨k+1,by omega,by simp,Lib.hid ⟨K0.out.read n4.below,V0.out.keep n4.below,under.below_step HB.out n4.below,fun j x hj hx=>?_⟩⟩
       rcases Nat.lt_or_ge j k with h|h
       ·exact HPR.out j x h hx
       ·obtain rfl:j=k:=by omega
        rw [HY.out] at hx;injection hx with hx;subst hx;unfold pB;rw [HBB.out];rfl
      case measure=>simp [intOf];omega
     ·rw [hb] at cB
      have HBB:=Lib.hid hb;have HP:=Lib.hid (posn_is (e:=s) (l:=out) (k:=k) (by rw [HLo.out];exact hkc) HPR.out fun x hx=>by rw [HY.out] at hx;injection hx with hx;subst hx;unfold pB;rw [HBB.out];rfl);clear hb HBB HY
      go_upto_region 6 with (fail)
      refine wp_region_under (by kernel_rfl) (by kernel_rfl) ?_
      repeat (quiet_step ((go_at_call 58;(with_reducible refine under_call (cB _)))))
      refine wpQuiet_nil ?_;intro w4 hw4;obtain⟨n4,rfl⟩:=hw4;have K0:=Lib.hid (K0.out.read n4.below);have V0:=Lib.hid (V0.out.keep n4.below);have HB:=Lib.hid (under.below_step HB.out n4.below);clear e0 e1 e2 f0 f1 f2 cB HPR;generalize n4.W=wx at *
      go_upto_region 8 with (fail)
      refine wp_region_any (by kernel_rfl) (show wpAny _ _ _ _ _ _ _ wx.drew from ?_);have HZ:=Lib.hid (under.drew_below wx);generalize wx.drew=y0 at HZ ⊢;refine wpAny_take (i:=1) (v:=(.slice (some ⟨g,0,none⟩) c cap)) rfl (by kernel_rfl) (by kernel_rfl) (by kernel_rfl) (fun _ _ _ h=>h) (Or.inl ⟨by rfl,fun wx=>by go_simp⟩) ?_;refine wpAny_take (i:=2) (v:=(.int .i64 k)) rfl (by kernel_rfl) (by kernel_rfl) (by kernel_rfl) (fun _ _ _ h=>h) (Or.inl ⟨by rfl,fun wx=>by go_simp⟩) ?_;refine wpAny_take (i:=3) (v:=(.slice (some ⟨g,0,none⟩) k cap)) rfl (by kernel_rfl) (by kernel_rfl) (by kernel_rfl) (fun _ _ _ h=>h) (Or.inl ⟨by rfl,fun wx=>by go_simp⟩) ?_;refine wpAny_take (i:=8) (v:=(.slice (some ⟨g,0,none⟩) c cap)) rfl (by kernel_rfl) (by kernel_rfl) (by kernel_rfl) (fun _ _ _ h=>h) (Or.inl ⟨by rfl,fun wx=>by go_simp⟩) ?_;refine wpAny_take (i:=9) (v:=(.int .i64 k)) rfl (by kernel_rfl) (by kernel_rfl) (by kernel_rfl) (fun _ _ _ h=>h) (Or.inl ⟨by rfl,fun wx=>by go_simp⟩) ?_;refine wpAny_take (i:=10) (v:=(.slice (some ⟨g,so,none⟩) (c-k) (cap-k))) rfl (by kernel_rfl) (by kernel_rfl) (by kernel_rfl) (fun _ _ _ h=>h) (Or.inl ⟨by rfl,fun wx=>by rcases HSO.out with⟨h1,h2⟩|⟨h1,h2⟩ <;> rw [h2] <;> go_simp <;> simp [h1]⟩) ?_;refine wpAny_ready (rs:=[0,5]) (by kernel_rfl) (by simp) ?_;refine AllReady.cons rfl (fun K hK=>?_) ?_
      ·go_simp
       refine hK _ _ ?_;clear hK K;have O29:=Lib.hid (KeptE.none (base:=wx.heap.size) y0 HZ.out.size);have HZ:=Lib.hid (balloc HZ.out HZ.out.size (.cells #[] 44));have z1:=Lib.hid (World.size_alloc y0 (.cells #[] 44));generalize y0.alloc (.cells #[] 44)=y1 at *
       refine wpAny_ready (rs:=[4,5]) (by kernel_rfl) (by simp) ?_;refine AllReady.cons rfl (fun K hK=>?_) ?_
       ·have zs:=HZ.out.size
        refine app.step_append_val _ (by rfl) _ _ 60 (by rfl) wx.heap.size 44 i0 (.agg #[.int .u64 0,.int .u64 0,.int .u64 0]) 3 24 Tryz.underlying60 hi0 hq0 hq1 hq2 rfl (by decide) (.slice (some ⟨y0.heap.size,0,none⟩) 0 0) 0 [] (by rfl) O29.out _ k (rowsS (out.take k)) (by rfl) (KeptE.take (K0.out.read HZ.out)) (by rw [rowsS_length];rw [List.length_take,HLo.out,Nat.min_eq_left hkc]) (rowsS_one _) (by simp only [maxLen];omega) (by omega) (by omega) ?_;intro v33 y2 hown33 hgrow33;refine hK _ _ ?_;clear hK K;have O33:=Lib.hid (show y2.ownsRow wx.heap.size 44 3 v33 k (rowsS (out.take k)) from by simpa using hown33);have HZ:=Lib.hid (HZ.out.grown hgrow33 HZ.out.size fun r e=>(O29.out.lt r e).1);have z2:=Lib.hid hgrow33.size;clear hown33 hgrow33 O29;refine wpAny_ready (rs:=[5]) (by kernel_rfl) (by simp) ?_;refine AllReady.cons rfl (fun K hK=>?_) AllReady.nil;have c0:=(V0.out.keep HZ.out).c0;have c1:=(V0.out.keep HZ.out).c1;have c2:=(V0.out.keep HZ.out).c2;go_simp;refine hK _ _ ?_;clear hK K;clear c0 c1 c2;refine wpAny_ready (rs:=[6]) (by kernel_rfl) (by simp) ?_;refine AllReady.cons rfl (fun K hK=>?_) AllReady.nil;go_simp;refine hK _ _ ?_;clear hK K;have O35:=Lib.hid (KeptE.lit (base:=wx.heap.size) y2 HZ.out.size s);have O33:=Lib.hid (row_below O33.out (new_block y2 (.cells #[.int .u64 (s.key:Nat),.int .u64 (s.val:Nat),.int .u64 (s.hash:Nat)] 44)));have HZ:=Lib.hid (balloc HZ.out HZ.out.size (.cells #[.int .u64 (s.key:Nat),.int .u64 (s.val:Nat),.int .u64 (s.hash:Nat)] 44));have z3:=Lib.hid (World.size_alloc y2 (.cells #[.int .u64 (s.key:Nat),.int .u64 (s.val:Nat),.int .u64 (s.hash:Nat)] 44));generalize y2.alloc (.cells #[.int .u64 (s.key:Nat),.int .u64 (s.val:Nat),.int .u64 (s.hash:Nat)] 44)=y3 at *
        have zs:=HZ.out.size;refine wpAny_ready (rs:=[7]) (by kernel_rfl) (by simp) ?_;refine AllReady.cons rfl (fun K hK=>?_) AllReady.nil;refine app.step_append_val _ (by rfl) _ _ 60 (by rfl) wx.heap.size 44 i0 (.agg #[.int .u64 0,.int .u64 0,.int .u64 0]) 3 24 Tryz.underlying60 hi0 hq0 hq1 hq2 rfl (by decide) v33 k (rowsS (out.take k)) (by rfl) O33.out _ 1 (rowsS [s]) (by rfl) (app.HasRow.own O35.out) (by rw [rowsS_length];rfl) (rowsS_one _) (by simp only [maxLen];omega) (by omega) (by omega) ?_;intro v36 w36 hown36 hgrow36;refine hK _ _ ?_;clear hK K;have O36:=Lib.hid hown36;have HZ6:=Lib.hid (HZ.out.grown hgrow36 HZ.out.size fun r e=>(O33.out.lt r e).1);have z36:=HZ6.out.size;clear hown36 hgrow36;refine wpAny_ready (rs:=[11]) (by kernel_rfl) (by simp) ?_;refine AllReady.cons rfl (fun K hK=>?_) AllReady.nil;refine app.step_append_val _ (by rfl) _ _ 60 (by rfl) wx.heap.size 44 i0 (.agg #[.int .u64 0,.int .u64 0,.int .u64 0]) 3 24 Tryz.underlying60 hi0 hq0 hq1 hq2 rfl (by decide) v36 (k+1) (rowsS (out.take k)++rowsS [s]) (by rfl) O36.out _ (c-k) (rowsS (out.drop k)) (by rfl) (KeptE.dropS (K0.out.read HZ6.out) HLo.out hkc hcap HSO.out (c-k) (cap-k)) (by rw [rowsS_length];rw [List.length_drop,HLo.out]) (rowsS_one _) (by simp only [maxLen];omega) (by omega) (by omega) ?_;intro v40 w40 hown40 hgrow40;refine hK _ _ ?_;clear hK K;have HZ7:=Lib.hid (HZ6.out.grown hgrow40 HZ6.out.size fun r e=>(O36.out.lt r e).1);obtain⟨g40,cap40,rfl,_,_⟩:=hown40.form (by omega);have q40:=row_cap hown40;have O40:=Lib.hid hown40;clear hown40 hgrow40;refine wpAny_take (i:=12) (v:=(.slice (some ⟨g40,0,none⟩) (k+1+(c-k)) cap40)) rfl (by kernel_rfl) (by kernel_rfl) (by kernel_rfl) (fun _ _ _ h=>h) (Or.inl ⟨by rfl,fun wx=>by go_simp⟩) ?_;refine wpAny_done (by kernel_rfl) ?_ _;go_wp2
        go_roundw
        case rel =>
         refine⟨c+1,g40,cap40,by omega,by omega,by simp,by rw [show k+1+(c-k)=c+1 by omega],Lib.hid ⟨?_,under.below_step HB.out HZ7.out⟩⟩;rw [HSC.out,ins,HP.out];have h:=row_base O40.out HB.out.size;unfold KeptE insAt;rw [rowsS_app,rowsS_app,List.length_append,List.length_append,List.length_take,List.length_drop,HLo.out,Nat.min_eq_left hkc];exact h
        case measure=>simp [intOf];omega
       ·refine AllReady.cons rfl (fun K hK=>?_) AllReady.nil
        have c0:=(V0.out.keep HZ.out).c0;have c1:=(V0.out.keep HZ.out).c1;have c2:=(V0.out.keep HZ.out).c2;go_simp;refine hK _ _ ?_;clear hK K;clear c0 c1 c2;refine wpAny_ready (rs:=[4,6]) (by kernel_rfl) (by simp) ?_;refine AllReady.cons rfl (fun K hK=>?_) ?_
        ·have zs:=HZ.out.size
         refine app.step_append_val _ (by rfl) _ _ 60 (by rfl) wx.heap.size 44 i0 (.agg #[.int .u64 0,.int .u64 0,.int .u64 0]) 3 24 Tryz.underlying60 hi0 hq0 hq1 hq2 rfl (by decide) (.slice (some ⟨y0.heap.size,0,none⟩) 0 0) 0 [] (by rfl) O29.out _ k (rowsS (out.take k)) (by rfl) (KeptE.take (K0.out.read HZ.out)) (by rw [rowsS_length];rw [List.length_take,HLo.out,Nat.min_eq_left hkc]) (rowsS_one _) (by simp only [maxLen];omega) (by omega) (by omega) ?_;intro v33 y2 hown33 hgrow33;refine hK _ _ ?_;clear hK K;have O33:=Lib.hid (show y2.ownsRow wx.heap.size 44 3 v33 k (rowsS (out.take k)) from by simpa using hown33);have HZ:=Lib.hid (HZ.out.grown hgrow33 HZ.out.size fun r e=>(O29.out.lt r e).1);have z2:=Lib.hid hgrow33.size;clear hown33 hgrow33 O29;refine wpAny_ready (rs:=[6]) (by kernel_rfl) (by simp) ?_;refine AllReady.cons rfl (fun K hK=>?_) AllReady.nil;go_simp;refine hK _ _ ?_;clear hK K;have O35:=Lib.hid (KeptE.lit (base:=wx.heap.size) y2 HZ.out.size s);have O33:=Lib.hid (row_below O33.out (new_block y2 (.cells #[.int .u64 (s.key:Nat),.int .u64 (s.val:Nat),.int .u64 (s.hash:Nat)] 44)));have HZ:=Lib.hid (balloc HZ.out HZ.out.size (.cells #[.int .u64 (s.key:Nat),.int .u64 (s.val:Nat),.int .u64 (s.hash:Nat)] 44));have z3:=Lib.hid (World.size_alloc y2 (.cells #[.int .u64 (s.key:Nat),.int .u64 (s.val:Nat),.int .u64 (s.hash:Nat)] 44));generalize y2.alloc (.cells #[.int .u64 (s.key:Nat),.int .u64 (s.val:Nat),.int .u64 (s.hash:Nat)] 44)=y3 at *
         have zs:=HZ.out.size;refine wpAny_ready (rs:=[7]) (by kernel_rfl) (by simp) ?_;refine AllReady.cons rfl (fun K hK=>?_) AllReady.nil;refine app.step_append_val _ (by rfl) _ _ 60 (by rfl) wx.heap.size 44 i0 (.agg #[.int .u64 0,.int .u64 0,.int .u64 0]) 3 24 Tryz.underlying60 hi0 hq0 hq1 hq2 rfl (by decide) v33 k (rowsS (out.take k)) (by rfl) O33.out _ 1 (rowsS [s]) (by rfl) (app.HasRow.own O35.out) (by rw [rowsS_length];rfl) (rowsS_one _) (by simp only [maxLen];omega) (by omega) (by omega) ?_;intro v36 w36 hown36 hgrow36;refine hK _ _ ?_;clear hK K;have O36:=Lib.hid hown36;have HZ6:=Lib.hid (HZ.out.grown hgrow36 HZ.out.size fun r e=>(O33.out.lt r e).1);have z36:=HZ6.out.size;clear hown36 hgrow36;refine wpAny_ready (rs:=[11]) (by kernel_rfl) (by simp) ?_;refine AllReady.cons rfl (fun K hK=>?_) AllReady.nil;refine app.step_append_val _ (by rfl) _ _ 60 (by rfl) wx.heap.size 44 i0 (.agg #[.int .u64 0,.int .u64 0,.int .u64 0]) 3 24 Tryz.underlying60 hi0 hq0 hq1 hq2 rfl (by decide) v36 (k+1) (rowsS (out.take k)++rowsS [s]) (by rfl) O36.out _ (c-k) (rowsS (out.drop k)) (by rfl) (KeptE.dropS (K0.out.read HZ6.out) HLo.out hkc hcap HSO.out (c-k) (cap-k)) (by rw [rowsS_length];rw [List.length_drop,HLo.out]) (rowsS_one _) (by simp only [maxLen];omega) (by omega) (by omega) ?_;intro v40 w40 hown40 hgrow40;refine hK _ _ ?_;clear hK K;have HZ7:=Lib.hid (HZ6.out.grown hgrow40 HZ6.out.size fun r e=>(O36.out.lt r e).1);obtain⟨g40,cap40,rfl,_,_⟩:=hown40.form (by omega);have q40:=row_cap hown40;have O40:=Lib.hid hown40;clear hown40 hgrow40;refine wpAny_take (i:=12) (v:=(.slice (some ⟨g40,0,none⟩) (k+1+(c-k)) cap40)) rfl (by kernel_rfl) (by kernel_rfl) (by kernel_rfl) (fun _ _ _ h=>h) (Or.inl ⟨by rfl,fun wx=>by go_simp⟩) ?_;refine wpAny_done (by kernel_rfl) ?_ _;go_wp2
         go_roundw
         case rel =>
          refine⟨c+1,g40,cap40,by omega,by omega,by simp,by rw [show k+1+(c-k)=c+1 by omega],Lib.hid ⟨?_,under.below_step HB.out HZ7.out⟩⟩;rw [HSC.out,ins,HP.out];have h:=row_base O40.out HB.out.size;unfold KeptE insAt;rw [rowsS_app,rowsS_app,List.length_append,List.length_append,List.length_take,List.length_drop,HLo.out,Nat.min_eq_left hkc];exact h
         case measure=>simp [intOf];omega
        ·refine AllReady.cons rfl (fun K hK=>?_) AllReady.nil
         go_simp;refine hK _ _ ?_;clear hK K;have O35:=Lib.hid (KeptE.lit (base:=wx.heap.size) y1 HZ.out.size s);have O29:=Lib.hid (KeptE.read O29.out (new_block y1 (.cells #[.int .u64 (s.key:Nat),.int .u64 (s.val:Nat),.int .u64 (s.hash:Nat)] 44)));have HZ:=Lib.hid (balloc HZ.out HZ.out.size (.cells #[.int .u64 (s.key:Nat),.int .u64 (s.val:Nat),.int .u64 (s.hash:Nat)] 44));have z2:=Lib.hid (World.size_alloc y1 (.cells #[.int .u64 (s.key:Nat),.int .u64 (s.val:Nat),.int .u64 (s.hash:Nat)] 44));generalize y1.alloc (.cells #[.int .u64 (s.key:Nat),.int .u64 (s.val:Nat),.int .u64 (s.hash:Nat)] 44)=y2 at *
         refine wpAny_ready (rs:=[4]) (by kernel_rfl) (by simp) ?_;refine AllReady.cons rfl (fun K hK=>?_) AllReady.nil;have zs:=HZ.out.size;refine app.step_append_val _ (by rfl) _ _ 60 (by rfl) wx.heap.size 44 i0 (.agg #[.int .u64 0,.int .u64 0,.int .u64 0]) 3 24 Tryz.underlying60 hi0 hq0 hq1 hq2 rfl (by decide) (.slice (some ⟨y0.heap.size,0,none⟩) 0 0) 0 [] (by rfl) O29.out _ k (rowsS (out.take k)) (by rfl) (KeptE.take (K0.out.read HZ.out)) (by rw [rowsS_length];rw [List.length_take,HLo.out,Nat.min_eq_left hkc]) (rowsS_one _) (by simp only [maxLen];omega) (by omega) (by omega) ?_;intro v33 y3 hown33 hgrow33;refine hK _ _ ?_;clear hK K;have O33:=Lib.hid (show y3.ownsRow wx.heap.size 44 3 v33 k (rowsS (out.take k)) from by simpa using hown33);have O35:=Lib.hid (World.ownsRow.kept O35.out hgrow33 (.inr (by have q1:=z1.out;have q2:=z2.out;simp [Value.ownBlock];omega)));have HZ:=Lib.hid (HZ.out.grown hgrow33 HZ.out.size fun r e=>(O29.out.lt r e).1);have z3:=Lib.hid hgrow33.size;clear hown33 hgrow33 O29;have zs:=HZ.out.size;refine wpAny_ready (rs:=[7]) (by kernel_rfl) (by simp) ?_;refine AllReady.cons rfl (fun K hK=>?_) AllReady.nil;refine app.step_append_val _ (by rfl) _ _ 60 (by rfl) wx.heap.size 44 i0 (.agg #[.int .u64 0,.int .u64 0,.int .u64 0]) 3 24 Tryz.underlying60 hi0 hq0 hq1 hq2 rfl (by decide) v33 k (rowsS (out.take k)) (by rfl) O33.out _ 1 (rowsS [s]) (by rfl) (app.HasRow.own O35.out) (by rw [rowsS_length];rfl) (rowsS_one _) (by simp only [maxLen];omega) (by omega) (by omega) ?_;intro v36 w36 hown36 hgrow36;refine hK _ _ ?_;clear hK K;have O36:=Lib.hid hown36;have HZ6:=Lib.hid (HZ.out.grown hgrow36 HZ.out.size fun r e=>(O33.out.lt r e).1);have z36:=HZ6.out.size;clear hown36 hgrow36;refine wpAny_ready (rs:=[11]) (by kernel_rfl) (by simp) ?_;refine AllReady.cons rfl (fun K hK=>?_) AllReady.nil;refine app.step_append_val _ (by rfl) _ _ 60 (by rfl) wx.heap.size 44 i0 (.agg #[.int .u64 0,.int .u64 0,.int .u64 0]) 3 24 Tryz.underlying60 hi0 hq0 hq1 hq2 rfl (by decide) v36 (k+1) (rowsS (out.take k)++rowsS [s]) (by rfl) O36.out _ (c-k) (rowsS (out.drop k)) (by rfl) (KeptE.dropS (K0.out.read HZ6.out) HLo.out hkc hcap HSO.out (c-k) (cap-k)) (by rw [rowsS_length];rw [List.length_drop,HLo.out]) (rowsS_one _) (by simp only [maxLen];omega) (by omega) (by omega) ?_
         intro v40 w40 hown40 hgrow40;refine hK _ _ ?_;clear hK K;have HZ7:=Lib.hid (HZ6.out.grown hgrow40 HZ6.out.size fun r e=>(O36.out.lt r e).1);obtain⟨g40,cap40,rfl,_,_⟩:=hown40.form (by omega);have q40:=row_cap hown40;have O40:=Lib.hid hown40;clear hown40 hgrow40;refine wpAny_take (i:=12) (v:=(.slice (some ⟨g40,0,none⟩) (k+1+(c-k)) cap40)) rfl (by kernel_rfl) (by kernel_rfl) (by kernel_rfl) (fun _ _ _ h=>h) (Or.inl ⟨by rfl,fun wx=>by go_simp⟩) ?_;refine wpAny_done (by kernel_rfl) ?_ _;go_wp2
         go_roundw
         case rel =>
          refine⟨c+1,g40,cap40,by omega,by omega,by simp,by rw [show k+1+(c-k)=c+1 by omega],Lib.hid ⟨?_,under.below_step HB.out HZ7.out⟩⟩;rw [HSC.out,ins,HP.out];have h:=row_base O40.out HB.out.size;unfold KeptE insAt;rw [rowsS_app,rowsS_app,List.length_append,List.length_append,List.length_take,List.length_drop,HLo.out,Nat.min_eq_left hkc];exact h
         case measure=>simp [intOf];omega
      ·refine AllReady.cons rfl (fun K hK=>?_) AllReady.nil
       have c0:=(V0.out.keep HZ.out).c0;have c1:=(V0.out.keep HZ.out).c1;have c2:=(V0.out.keep HZ.out).c2;go_simp;refine hK _ _ ?_;clear hK K;clear c0 c1 c2;refine wpAny_ready (rs:=[0,6]) (by kernel_rfl) (by simp) ?_;refine AllReady.cons rfl (fun K hK=>?_) ?_
       ·go_simp
        refine hK _ _ ?_;clear hK K;have O29:=Lib.hid (KeptE.none (base:=wx.heap.size) y0 HZ.out.size);have HZ:=Lib.hid (balloc HZ.out HZ.out.size (.cells #[] 44));have z1:=Lib.hid (World.size_alloc y0 (.cells #[] 44));generalize y0.alloc (.cells #[] 44)=y1 at *
        refine wpAny_ready (rs:=[4,6]) (by kernel_rfl) (by simp) ?_;refine AllReady.cons rfl (fun K hK=>?_) ?_
        ·have zs:=HZ.out.size
         refine app.step_append_val _ (by rfl) _ _ 60 (by rfl) wx.heap.size 44 i0 (.agg #[.int .u64 0,.int .u64 0,.int .u64 0]) 3 24 Tryz.underlying60 hi0 hq0 hq1 hq2 rfl (by decide) (.slice (some ⟨y0.heap.size,0,none⟩) 0 0) 0 [] (by rfl) O29.out _ k (rowsS (out.take k)) (by rfl) (KeptE.take (K0.out.read HZ.out)) (by rw [rowsS_length];rw [List.length_take,HLo.out,Nat.min_eq_left hkc]) (rowsS_one _) (by simp only [maxLen];omega) (by omega) (by omega) ?_;intro v33 y2 hown33 hgrow33;refine hK _ _ ?_;clear hK K;have O33:=Lib.hid (show y2.ownsRow wx.heap.size 44 3 v33 k (rowsS (out.take k)) from by simpa using hown33);have HZ:=Lib.hid (HZ.out.grown hgrow33 HZ.out.size fun r e=>(O29.out.lt r e).1);have z2:=Lib.hid hgrow33.size;clear hown33 hgrow33 O29;refine wpAny_ready (rs:=[6]) (by kernel_rfl) (by simp) ?_;refine AllReady.cons rfl (fun K hK=>?_) AllReady.nil;go_simp;refine hK _ _ ?_;clear hK K;have O35:=Lib.hid (KeptE.lit (base:=wx.heap.size) y2 HZ.out.size s);have O33:=Lib.hid (row_below O33.out (new_block y2 (.cells #[.int .u64 (s.key:Nat),.int .u64 (s.val:Nat),.int .u64 (s.hash:Nat)] 44)));have HZ:=Lib.hid (balloc HZ.out HZ.out.size (.cells #[.int .u64 (s.key:Nat),.int .u64 (s.val:Nat),.int .u64 (s.hash:Nat)] 44));have z3:=Lib.hid (World.size_alloc y2 (.cells #[.int .u64 (s.key:Nat),.int .u64 (s.val:Nat),.int .u64 (s.hash:Nat)] 44));generalize y2.alloc (.cells #[.int .u64 (s.key:Nat),.int .u64 (s.val:Nat),.int .u64 (s.hash:Nat)] 44)=y3 at *
         have zs:=HZ.out.size;refine wpAny_ready (rs:=[7]) (by kernel_rfl) (by simp) ?_;refine AllReady.cons rfl (fun K hK=>?_) AllReady.nil;refine app.step_append_val _ (by rfl) _ _ 60 (by rfl) wx.heap.size 44 i0 (.agg #[.int .u64 0,.int .u64 0,.int .u64 0]) 3 24 Tryz.underlying60 hi0 hq0 hq1 hq2 rfl (by decide) v33 k (rowsS (out.take k)) (by rfl) O33.out _ 1 (rowsS [s]) (by rfl) (app.HasRow.own O35.out) (by rw [rowsS_length];rfl) (rowsS_one _) (by simp only [maxLen];omega) (by omega) (by omega) ?_;intro v36 w36 hown36 hgrow36;refine hK _ _ ?_;clear hK K;have O36:=Lib.hid hown36;have HZ6:=Lib.hid (HZ.out.grown hgrow36 HZ.out.size fun r e=>(O33.out.lt r e).1);have z36:=HZ6.out.size;clear hown36 hgrow36;refine wpAny_ready (rs:=[11]) (by kernel_rfl) (by simp) ?_;refine AllReady.cons rfl (fun K hK=>?_) AllReady.nil;refine app.step_append_val _ (by rfl) _ _ 60 (by rfl) wx.heap.size 44 i0 (.agg #[.int .u64 0,.int .u64 0,.int .u64 0]) 3 24 Tryz.underlying60 hi0 hq0 hq1 hq2 rfl (by decide) v36 (k+1) (rowsS (out.take k)++rowsS [s]) (by rfl) O36.out _ (c-k) (rowsS (out.drop k)) (by rfl) (KeptE.dropS (K0.out.read HZ6.out) HLo.out hkc hcap HSO.out (c-k) (cap-k)) (by rw [rowsS_length];rw [List.length_drop,HLo.out]) (rowsS_one _) (by simp only [maxLen];omega) (by omega) (by omega) ?_;intro v40 w40 hown40 hgrow40;refine hK _ _ ?_;clear hK K;have HZ7:=Lib.hid (HZ6.out.grown hgrow40 HZ6.out.size fun r e=>(O36.out.lt r e).1);obtain⟨g40,cap40,rfl,_,_⟩:=hown40.form (by omega);have q40:=row_cap hown40;have O40:=Lib.hid hown40;clear hown40 hgrow40;refine wpAny_take (i:=12) (v:=(.slice (some ⟨g40,0,none⟩) (k+1+(c-k)) cap40)) rfl (by kernel_rfl) (by kernel_rfl) (by kernel_rfl) (fun _ _ _ h=>h) (Or.inl ⟨by rfl,fun wx=>by go_simp⟩) ?_;refine wpAny_done (by kernel_rfl) ?_ _;go_wp2
         go_roundw
         case rel =>
          refine⟨c+1,g40,cap40,by omega,by omega,by simp,by rw [show k+1+(c-k)=c+1 by omega],Lib.hid ⟨?_,under.below_step HB.out HZ7.out⟩⟩;rw [HSC.out,ins,HP.out];have h:=row_base O40.out HB.out.size;unfold KeptE insAt;rw [rowsS_app,rowsS_app,List.length_append,List.length_append,List.length_take,List.length_drop,HLo.out,Nat.min_eq_left hkc];exact h
         case measure=>simp [intOf];omega
        ·refine AllReady.cons rfl (fun K hK=>?_) AllReady.nil
         go_simp;refine hK _ _ ?_;clear hK K;have O35:=Lib.hid (KeptE.lit (base:=wx.heap.size) y1 HZ.out.size s);have O29:=Lib.hid (KeptE.read O29.out (new_block y1 (.cells #[.int .u64 (s.key:Nat),.int .u64 (s.val:Nat),.int .u64 (s.hash:Nat)] 44)));have HZ:=Lib.hid (balloc HZ.out HZ.out.size (.cells #[.int .u64 (s.key:Nat),.int .u64 (s.val:Nat),.int .u64 (s.hash:Nat)] 44));have z2:=Lib.hid (World.size_alloc y1 (.cells #[.int .u64 (s.key:Nat),.int .u64 (s.val:Nat),.int .u64 (s.hash:Nat)] 44));generalize y1.alloc (.cells #[.int .u64 (s.key:Nat),.int .u64 (s.val:Nat),.int .u64 (s.hash:Nat)] 44)=y2 at *
         refine wpAny_ready (rs:=[4]) (by kernel_rfl) (by simp) ?_;refine AllReady.cons rfl (fun K hK=>?_) AllReady.nil;have zs:=HZ.out.size;refine app.step_append_val _ (by rfl) _ _ 60 (by rfl) wx.heap.size 44 i0 (.agg #[.int .u64 0,.int .u64 0,.int .u64 0]) 3 24 Tryz.underlying60 hi0 hq0 hq1 hq2 rfl (by decide) (.slice (some ⟨y0.heap.size,0,none⟩) 0 0) 0 [] (by rfl) O29.out _ k (rowsS (out.take k)) (by rfl) (KeptE.take (K0.out.read HZ.out)) (by rw [rowsS_length];rw [List.length_take,HLo.out,Nat.min_eq_left hkc]) (rowsS_one _) (by simp only [maxLen];omega) (by omega) (by omega) ?_;intro v33 y3 hown33 hgrow33;refine hK _ _ ?_;clear hK K;have O33:=Lib.hid (show y3.ownsRow wx.heap.size 44 3 v33 k (rowsS (out.take k)) from by simpa using hown33);have O35:=Lib.hid (World.ownsRow.kept O35.out hgrow33 (.inr (by have q1:=z1.out;have q2:=z2.out;simp [Value.ownBlock];omega)));have HZ:=Lib.hid (HZ.out.grown hgrow33 HZ.out.size fun r e=>(O29.out.lt r e).1);have z3:=Lib.hid hgrow33.size;clear hown33 hgrow33 O29;have zs:=HZ.out.size;refine wpAny_ready (rs:=[7]) (by kernel_rfl) (by simp) ?_;refine AllReady.cons rfl (fun K hK=>?_) AllReady.nil;refine app.step_append_val _ (by rfl) _ _ 60 (by rfl) wx.heap.size 44 i0 (.agg #[.int .u64 0,.int .u64 0,.int .u64 0]) 3 24 Tryz.underlying60 hi0 hq0 hq1 hq2 rfl (by decide) v33 k (rowsS (out.take k)) (by rfl) O33.out _ 1 (rowsS [s]) (by rfl) (app.HasRow.own O35.out) (by rw [rowsS_length];rfl) (rowsS_one _) (by simp only [maxLen];omega) (by omega) (by omega) ?_;intro v36 w36 hown36 hgrow36;refine hK _ _ ?_;clear hK K;have O36:=Lib.hid hown36;have HZ6:=Lib.hid (HZ.out.grown hgrow36 HZ.out.size fun r e=>(O33.out.lt r e).1);have z36:=HZ6.out.size;clear hown36 hgrow36;refine wpAny_ready (rs:=[11]) (by kernel_rfl) (by simp) ?_;refine AllReady.cons rfl (fun K hK=>?_) AllReady.nil;refine app.step_append_val _ (by rfl) _ _ 60 (by rfl) wx.heap.size 44 i0 (.agg #[.int .u64 0,.int .u64 0,.int .u64 0]) 3 24 Tryz.underlying60 hi0 hq0 hq1 hq2 rfl (by decide) v36 (k+1) (rowsS (out.take k)++rowsS [s]) (by rfl) O36.out _ (c-k) (rowsS (out.drop k)) (by rfl) (KeptE.dropS (K0.out.read HZ6.out) HLo.out hkc hcap HSO.out (c-k) (cap-k)) (by rw [rowsS_length];rw [List.length_drop,HLo.out]) (rowsS_one _) (by simp only [maxLen];omega) (by omega) (by omega) ?_
         intro v40 w40 hown40 hgrow40;refine hK _ _ ?_;clear hK K;have HZ7:=Lib.hid (HZ6.out.grown hgrow40 HZ6.out.size fun r e=>(O36.out.lt r e).1);obtain⟨g40,cap40,rfl,_,_⟩:=hown40.form (by omega);have q40:=row_cap hown40;have O40:=Lib.hid hown40;clear hown40 hgrow40;refine wpAny_take (i:=12) (v:=(.slice (some ⟨g40,0,none⟩) (k+1+(c-k)) cap40)) rfl (by kernel_rfl) (by kernel_rfl) (by kernel_rfl) (fun _ _ _ h=>h) (Or.inl ⟨by rfl,fun wx=>by go_simp⟩) ?_;refine wpAny_done (by kernel_rfl) ?_ _;go_wp2
         go_roundw
         case rel =>
          refine⟨c+1,g40,cap40,by omega,by omega,by simp,by rw [show k+1+(c-k)=c+1 by omega],Lib.hid ⟨?_,under.below_step HB.out HZ7.out⟩⟩;rw [HSC.out,ins,HP.out];have h:=row_base O40.out HB.out.size;unfold KeptE insAt;rw [rowsS_app,rowsS_app,List.length_append,List.length_append,List.length_take,List.length_drop,HLo.out,Nat.min_eq_left hkc];exact h
         case measure=>simp [intOf];omega
       ·refine AllReady.cons rfl (fun K hK=>?_) AllReady.nil
        go_simp;refine hK _ _ ?_;clear hK K;have O35:=Lib.hid (KeptE.lit (base:=wx.heap.size) y0 HZ.out.size s);have HZ:=Lib.hid (balloc HZ.out HZ.out.size (.cells #[.int .u64 (s.key:Nat),.int .u64 (s.val:Nat),.int .u64 (s.hash:Nat)] 44));have z1:=Lib.hid (World.size_alloc y0 (.cells #[.int .u64 (s.key:Nat),.int .u64 (s.val:Nat),.int .u64 (s.hash:Nat)] 44));generalize y0.alloc (.cells #[.int .u64 (s.key:Nat),.int .u64 (s.val:Nat),.int .u64 (s.hash:Nat)] 44)=y1 at *
        refine wpAny_ready (rs:=[0]) (by kernel_rfl) (by simp) ?_;refine AllReady.cons rfl (fun K hK=>?_) AllReady.nil;go_simp;refine hK _ _ ?_;clear hK K;have O29:=Lib.hid (KeptE.none (base:=wx.heap.size) y1 HZ.out.size);have O35:=Lib.hid (KeptE.read O35.out (new_block y1 (.cells #[] 44)));have HZ:=Lib.hid (balloc HZ.out HZ.out.size (.cells #[] 44));have z2:=Lib.hid (World.size_alloc y1 (.cells #[] 44));generalize y1.alloc (.cells #[] 44)=y2 at *
        refine wpAny_ready (rs:=[4]) (by kernel_rfl) (by simp) ?_;refine AllReady.cons rfl (fun K hK=>?_) AllReady.nil;have zs:=HZ.out.size;refine app.step_append_val _ (by rfl) _ _ 60 (by rfl) wx.heap.size 44 i0 (.agg #[.int .u64 0,.int .u64 0,.int .u64 0]) 3 24 Tryz.underlying60 hi0 hq0 hq1 hq2 rfl (by decide) (.slice (some ⟨y1.heap.size,0,none⟩) 0 0) 0 [] (by rfl) O29.out _ k (rowsS (out.take k)) (by rfl) (KeptE.take (K0.out.read HZ.out)) (by rw [rowsS_length];rw [List.length_take,HLo.out,Nat.min_eq_left hkc]) (rowsS_one _) (by simp only [maxLen];omega) (by omega) (by omega) ?_;intro v33 y3 hown33 hgrow33;refine hK _ _ ?_;clear hK K;have O33:=Lib.hid (show y3.ownsRow wx.heap.size 44 3 v33 k (rowsS (out.take k)) from by simpa using hown33);have O35:=Lib.hid (World.ownsRow.kept O35.out hgrow33 (.inr (by have q1:=z1.out;have q2:=z2.out;simp [Value.ownBlock];omega)));have HZ:=Lib.hid (HZ.out.grown hgrow33 HZ.out.size fun r e=>(O29.out.lt r e).1);have z3:=Lib.hid hgrow33.size;clear hown33 hgrow33 O29;have zs:=HZ.out.size;refine wpAny_ready (rs:=[7]) (by kernel_rfl) (by simp) ?_;refine AllReady.cons rfl (fun K hK=>?_) AllReady.nil;refine app.step_append_val _ (by rfl) _ _ 60 (by rfl) wx.heap.size 44 i0 (.agg #[.int .u64 0,.int .u64 0,.int .u64 0]) 3 24 Tryz.underlying60 hi0 hq0 hq1 hq2 rfl (by decide) v33 k (rowsS (out.take k)) (by rfl) O33.out _ 1 (rowsS [s]) (by rfl) (app.HasRow.own O35.out) (by rw [rowsS_length];rfl) (rowsS_one _) (by simp only [maxLen];omega) (by omega) (by omega) ?_;intro v36 w36 hown36 hgrow36;refine hK _ _ ?_;clear hK K;have O36:=Lib.hid hown36;have HZ6:=Lib.hid (HZ.out.grown hgrow36 HZ.out.size fun r e=>(O33.out.lt r e).1);have z36:=HZ6.out.size;clear hown36 hgrow36;refine wpAny_ready (rs:=[11]) (by kernel_rfl) (by simp) ?_;refine AllReady.cons rfl (fun K hK=>?_) AllReady.nil;refine app.step_append_val _ (by rfl) _ _ 60 (by rfl) wx.heap.size 44 i0 (.agg #[.int .u64 0,.int .u64 0,.int .u64 0]) 3 24 Tryz.underlying60 hi0 hq0 hq1 hq2 rfl (by decide) v36 (k+1) (rowsS (out.take k)++rowsS [s]) (by rfl) O36.out _ (c-k) (rowsS (out.drop k)) (by rfl) (KeptE.dropS (K0.out.read HZ6.out) HLo.out hkc hcap HSO.out (c-k) (cap-k)) (by rw [rowsS_length];rw [List.length_drop,HLo.out]) (rowsS_one _) (by simp only [maxLen];omega) (by omega) (by omega) ?_
        intro v40 w40 hown40 hgrow40;refine hK _ _ ?_;clear hK K;have HZ7:=Lib.hid (HZ6.out.grown hgrow40 HZ6.out.size fun r e=>(O36.out.lt r e).1);obtain⟨g40,cap40,rfl,_,_⟩:=hown40.form (by omega);have q40:=row_cap hown40;have O40:=Lib.hid hown40;clear hown40 hgrow40;refine wpAny_take (i:=12) (v:=(.slice (some ⟨g40,0,none⟩) (k+1+(c-k)) cap40)) rfl (by kernel_rfl) (by kernel_rfl) (by kernel_rfl) (fun _ _ _ h=>h) (Or.inl ⟨by rfl,fun wx=>by go_simp⟩) ?_;refine wpAny_done (by kernel_rfl) ?_ _;go_wp2
        go_roundw
        case rel =>
         refine⟨c+1,g40,cap40,by omega,by omega,by simp,by rw [show k+1+(c-k)=c+1 by omega],Lib.hid ⟨?_,under.below_step HB.out HZ7.out⟩⟩;rw [HSC.out,ins,HP.out];have h:=row_base O40.out HB.out.size;unfold KeptE insAt;rw [rowsS_app,rowsS_app,List.length_append,List.length_append,List.length_take,List.length_drop,HLo.out,Nat.min_eq_left hkc];exact h
        case measure=>simp [intOf];omega
    ·have dkc:decide ((k:Int)<(c:Int))=false:=decide_eq_false (by omega)
     have dk2:¬(k<c):=by omega
     have dk3:¬((k:Int)<(c:Int)):=by omega
     have HP:=Lib.hid (posn_is (e:=s) (l:=out) (k:=k) (by rw [HLo.out];exact hkc) HPR.out fun x hx=>by have:=(List.getElem?_eq_some_iff.1 hx).1;rw [HLo.out] at this;omega)
     go_upto_region 6 with (fail)
     refine wp_region_under (by kernel_rfl) (by kernel_rfl) ?_
     repeat (go_big_quiet_step (fail))
     refine wpQuiet_nil ?_;intro w4 hw4;obtain⟨n4,rfl⟩:=hw4;have K0:=Lib.hid (K0.out.read n4.below);have V0:=Lib.hid (V0.out.keep n4.below);have HB:=Lib.hid (under.below_step HB.out n4.below);clear e0 e1 e2 HPR dkc dk2 dk3 hk;generalize n4.W=wx at *
     go_upto_region 8 with (fail)
     refine wp_region_any (by kernel_rfl) (show wpAny _ _ _ _ _ _ _ wx.drew from ?_);have HZ:=Lib.hid (under.drew_below wx);generalize wx.drew=y0 at HZ ⊢;refine wpAny_take (i:=1) (v:=(.slice (some ⟨g,0,none⟩) c cap)) rfl (by kernel_rfl) (by kernel_rfl) (by kernel_rfl) (fun _ _ _ h=>h) (Or.inl ⟨by rfl,fun wx=>by go_simp⟩) ?_;refine wpAny_take (i:=2) (v:=(.int .i64 k)) rfl (by kernel_rfl) (by kernel_rfl) (by kernel_rfl) (fun _ _ _ h=>h) (Or.inl ⟨by rfl,fun wx=>by go_simp⟩) ?_;refine wpAny_take (i:=3) (v:=(.slice (some ⟨g,0,none⟩) k cap)) rfl (by kernel_rfl) (by kernel_rfl) (by kernel_rfl) (fun _ _ _ h=>h) (Or.inl ⟨by rfl,fun wx=>by go_simp⟩) ?_;refine wpAny_take (i:=8) (v:=(.slice (some ⟨g,0,none⟩) c cap)) rfl (by kernel_rfl) (by kernel_rfl) (by kernel_rfl) (fun _ _ _ h=>h) (Or.inl ⟨by rfl,fun wx=>by go_simp⟩) ?_;refine wpAny_take (i:=9) (v:=(.int .i64 k)) rfl (by kernel_rfl) (by kernel_rfl) (by kernel_rfl) (fun _ _ _ h=>h) (Or.inl ⟨by rfl,fun wx=>by go_simp⟩) ?_;refine wpAny_take (i:=10) (v:=(.slice (some ⟨g,so,none⟩) (c-k) (cap-k))) rfl (by kernel_rfl) (by kernel_rfl) (by kernel_rfl) (fun _ _ _ h=>h) (Or.inl ⟨by rfl,fun wx=>by rcases HSO.out with⟨h1,h2⟩|⟨h1,h2⟩ <;> rw [h2] <;> go_simp <;> simp [h1]⟩) ?_;refine wpAny_ready (rs:=[0,5]) (by kernel_rfl) (by simp) ?_;refine AllReady.cons rfl (fun K hK=>?_) ?_
     ·go_simp
      refine hK _ _ ?_;clear hK K;have O29:=Lib.hid (KeptE.none (base:=wx.heap.size) y0 HZ.out.size);have HZ:=Lib.hid (balloc HZ.out HZ.out.size (.cells #[] 44));have z1:=Lib.hid (World.size_alloc y0 (.cells #[] 44));generalize y0.alloc (.cells #[] 44)=y1 at *
      refine wpAny_ready (rs:=[4,5]) (by kernel_rfl) (by simp) ?_;refine AllReady.cons rfl (fun K hK=>?_) ?_
      ·have zs:=HZ.out.size
       refine app.step_append_val _ (by rfl) _ _ 60 (by rfl) wx.heap.size 44 i0 (.agg #[.int .u64 0,.int .u64 0,.int .u64 0]) 3 24 Tryz.underlying60 hi0 hq0 hq1 hq2 rfl (by decide) (.slice (some ⟨y0.heap.size,0,none⟩) 0 0) 0 [] (by rfl) O29.out _ k (rowsS (out.take k)) (by rfl) (KeptE.take (K0.out.read HZ.out)) (by rw [rowsS_length];rw [List.length_take,HLo.out,Nat.min_eq_left hkc]) (rowsS_one _) (by simp only [maxLen];omega) (by omega) (by omega) ?_;intro v33 y2 hown33 hgrow33;refine hK _ _ ?_;clear hK K;have O33:=Lib.hid (show y2.ownsRow wx.heap.size 44 3 v33 k (rowsS (out.take k)) from by simpa using hown33);have HZ:=Lib.hid (HZ.out.grown hgrow33 HZ.out.size fun r e=>(O29.out.lt r e).1);have z2:=Lib.hid hgrow33.size;clear hown33 hgrow33 O29;refine wpAny_ready (rs:=[5]) (by kernel_rfl) (by simp) ?_;refine AllReady.cons rfl (fun K hK=>?_) AllReady.nil;have c0:=(V0.out.keep HZ.out).c0;have c1:=(V0.out.keep HZ.out).c1;have c2:=(V0.out.keep HZ.out).c2;go_simp;refine hK _ _ ?_;clear hK K;clear c0 c1 c2;refine wpAny_ready (rs:=[6]) (by kernel_rfl) (by simp) ?_;refine AllReady.cons rfl (fun K hK=>?_) AllReady.nil;go_simp;refine hK _ _ ?_;clear hK K;have O35:=Lib.hid (KeptE.lit (base:=wx.heap.size) y2 HZ.out.size s);have O33:=Lib.hid (row_below O33.out (new_block y2 (.cells #[.int .u64 (s.key:Nat),.int .u64 (s.val:Nat),.int .u64 (s.hash:Nat)] 44)));have HZ:=Lib.hid (balloc HZ.out HZ.out.size (.cells #[.int .u64 (s.key:Nat),.int .u64 (s.val:Nat),.int .u64 (s.hash:Nat)] 44));have z3:=Lib.hid (World.size_alloc y2 (.cells #[.int .u64 (s.key:Nat),.int .u64 (s.val:Nat),.int .u64 (s.hash:Nat)] 44));generalize y2.alloc (.cells #[.int .u64 (s.key:Nat),.int .u64 (s.val:Nat),.int .u64 (s.hash:Nat)] 44)=y3 at *
       have zs:=HZ.out.size;refine wpAny_ready (rs:=[7]) (by kernel_rfl) (by simp) ?_;refine AllReady.cons rfl (fun K hK=>?_) AllReady.nil;refine app.step_append_val _ (by rfl) _ _ 60 (by rfl) wx.heap.size 44 i0 (.agg #[.int .u64 0,.int .u64 0,.int .u64 0]) 3 24 Tryz.underlying60 hi0 hq0 hq1 hq2 rfl (by decide) v33 k (rowsS (out.take k)) (by rfl) O33.out _ 1 (rowsS [s]) (by rfl) (app.HasRow.own O35.out) (by rw [rowsS_length];rfl) (rowsS_one _) (by simp only [maxLen];omega) (by omega) (by omega) ?_;intro v36 w36 hown36 hgrow36;refine hK _ _ ?_;clear hK K;have O36:=Lib.hid hown36;have HZ6:=Lib.hid (HZ.out.grown hgrow36 HZ.out.size fun r e=>(O33.out.lt r e).1);have z36:=HZ6.out.size;clear hown36 hgrow36;refine wpAny_ready (rs:=[11]) (by kernel_rfl) (by simp) ?_;refine AllReady.cons rfl (fun K hK=>?_) AllReady.nil;refine app.step_append_val _ (by rfl) _ _ 60 (by rfl) wx.heap.size 44 i0 (.agg #[.int .u64 0,.int .u64 0,.int .u64 0]) 3 24 Tryz.underlying60 hi0 hq0 hq1 hq2 rfl (by decide) v36 (k+1) (rowsS (out.take k)++rowsS [s]) (by rfl) O36.out _ (c-k) (rowsS (out.drop k)) (by rfl) (KeptE.dropS (K0.out.read HZ6.out) HLo.out hkc hcap HSO.out (c-k) (cap-k)) (by rw [rowsS_length];rw [List.length_drop,HLo.out]) (rowsS_one _) (by simp only [maxLen];omega) (by omega) (by omega) ?_;intro v40 w40 hown40 hgrow40;refine hK _ _ ?_;clear hK K;have HZ7:=Lib.hid (HZ6.out.grown hgrow40 HZ6.out.size fun r e=>(O36.out.lt r e).1);obtain⟨g40,cap40,rfl,_,_⟩:=hown40.form (by omega);have q40:=row_cap hown40;have O40:=Lib.hid hown40;clear hown40 hgrow40;refine wpAny_take (i:=12) (v:=(.slice (some ⟨g40,0,none⟩) (k+1+(c-k)) cap40)) rfl (by kernel_rfl) (by kernel_rfl) (by kernel_rfl) (fun _ _ _ h=>h) (Or.inl ⟨by rfl,fun wx=>by go_simp⟩) ?_;refine wpAny_done (by kernel_rfl) ?_ _;go_wp2
       go_roundw
       case rel =>
        refine⟨c+1,g40,cap40,by omega,by omega,by simp,by rw [show k+1+(c-k)=c+1 by omega],Lib.hid ⟨?_,under.below_step HB.out HZ7.out⟩⟩;rw [HSC.out,ins,HP.out];have h:=row_base O40.out HB.out.size;unfold KeptE insAt;rw [rowsS_app,rowsS_app,List.length_append,List.length_append,List.length_take,List.length_drop,HLo.out,Nat.min_eq_left hkc];exact h
       case measure=>simp [intOf];omega
      ·refine AllReady.cons rfl (fun K hK=>?_) AllReady.nil
       have c0:=(V0.out.keep HZ.out).c0;have c1:=(V0.out.keep HZ.out).c1;have c2:=(V0.out.keep HZ.out).c2;go_simp;refine hK _ _ ?_;clear hK K;clear c0 c1 c2;refine wpAny_ready (rs:=[4,6]) (by kernel_rfl) (by simp) ?_;refine AllReady.cons rfl (fun K hK=>?_) ?_
       ·have zs:=HZ.out.size
        refine app.step_append_val _ (by rfl) _ _ 60 (by rfl) wx.heap.size 44 i0 (.agg #[.int .u64 0,.int .u64 0,.int .u64 0]) 3 24 Tryz.underlying60 hi0 hq0 hq1 hq2 rfl (by decide) (.slice (some ⟨y0.heap.size,0,none⟩) 0 0) 0 [] (by rfl) O29.out _ k (rowsS (out.take k)) (by rfl) (KeptE.take (K0.out.read HZ.out)) (by rw [rowsS_length];rw [List.length_take,HLo.out,Nat.min_eq_left hkc]) (rowsS_one _) (by simp only [maxLen];omega) (by omega) (by omega) ?_;intro v33 y2 hown33 hgrow33;refine hK _ _ ?_;clear hK K;have O33:=Lib.hid (show y2.ownsRow wx.heap.size 44 3 v33 k (rowsS (out.take k)) from by simpa using hown33);have HZ:=Lib.hid (HZ.out.grown hgrow33 HZ.out.size fun r e=>(O29.out.lt r e).1);have z2:=Lib.hid hgrow33.size;clear hown33 hgrow33 O29;refine wpAny_ready (rs:=[6]) (by kernel_rfl) (by simp) ?_;refine AllReady.cons rfl (fun K hK=>?_) AllReady.nil;go_simp;refine hK _ _ ?_;clear hK K;have O35:=Lib.hid (KeptE.lit (base:=wx.heap.size) y2 HZ.out.size s);have O33:=Lib.hid (row_below O33.out (new_block y2 (.cells #[.int .u64 (s.key:Nat),.int .u64 (s.val:Nat),.int .u64 (s.hash:Nat)] 44)));have HZ:=Lib.hid (balloc HZ.out HZ.out.size (.cells #[.int .u64 (s.key:Nat),.int .u64 (s.val:Nat),.int .u64 (s.hash:Nat)] 44));have z3:=Lib.hid (World.size_alloc y2 (.cells #[.int .u64 (s.key:Nat),.int .u64 (s.val:Nat),.int .u64 (s.hash:Nat)] 44));generalize y2.alloc (.cells #[.int .u64 (s.key:Nat),.int .u64 (s.val:Nat),.int .u64 (s.hash:Nat)] 44)=y3 at *
        have zs:=HZ.out.size;refine wpAny_ready (rs:=[7]) (by kernel_rfl) (by simp) ?_;refine AllReady.cons rfl (fun K hK=>?_) AllReady.nil;refine app.step_append_val _ (by rfl) _ _ 60 (by rfl) wx.heap.size 44 i0 (.agg #[.int .u64 0,.int .u64 0,.int .u64 0]) 3 24 Tryz.underlying60 hi0 hq0 hq1 hq2 rfl (by decide) v33 k (rowsS (out.take k)) (by rfl) O33.out _ 1 (rowsS [s]) (by rfl) (app.HasRow.own O35.out) (by rw [rowsS_length];rfl) (rowsS_one _) (by simp only [maxLen];omega) (by omega) (by omega) ?_;intro v36 w36 hown36 hgrow36;refine hK _ _ ?_;clear hK K;have O36:=Lib.hid hown36;have HZ6:=Lib.hid (HZ.out.grown hgrow36 HZ.out.size fun r e=>(O33.out.lt r e).1);have z36:=HZ6.out.size;clear hown36 hgrow36;refine wpAny_ready (rs:=[11]) (by kernel_rfl) (by simp) ?_;refine AllReady.cons rfl (fun K hK=>?_) AllReady.nil;refine app.step_append_val _ (by rfl) _ _ 60 (by rfl) wx.heap.size 44 i0 (.agg #[.int .u64 0,.int .u64 0,.int .u64 0]) 3 24 Tryz.underlying60 hi0 hq0 hq1 hq2 rfl (by decide) v36 (k+1) (rowsS (out.take k)++rowsS [s]) (by rfl) O36.out _ (c-k) (rowsS (out.drop k)) (by rfl) (KeptE.dropS (K0.out.read HZ6.out) HLo.out hkc hcap HSO.out (c-k) (cap-k)) (by rw [rowsS_length];rw [List.length_drop,HLo.out]) (rowsS_one _) (by simp only [maxLen];omega) (by omega) (by omega) ?_;intro v40 w40 hown40 hgrow40;refine hK _ _ ?_;clear hK K;have HZ7:=Lib.hid (HZ6.out.grown hgrow40 HZ6.out.size fun r e=>(O36.out.lt r e).1);obtain⟨g40,cap40,rfl,_,_⟩:=hown40.form (by omega);have q40:=row_cap hown40;have O40:=Lib.hid hown40;clear hown40 hgrow40;refine wpAny_take (i:=12) (v:=(.slice (some ⟨g40,0,none⟩) (k+1+(c-k)) cap40)) rfl (by kernel_rfl) (by kernel_rfl) (by kernel_rfl) (fun _ _ _ h=>h) (Or.inl ⟨by rfl,fun wx=>by go_simp⟩) ?_;refine wpAny_done (by kernel_rfl) ?_ _;go_wp2
        go_roundw
        case rel =>
         refine⟨c+1,g40,cap40,by omega,by omega,by simp,by rw [show k+1+(c-k)=c+1 by omega],Lib.hid ⟨?_,under.below_step HB.out HZ7.out⟩⟩;rw [HSC.out,ins,HP.out];have h:=row_base O40.out HB.out.size;unfold KeptE insAt;rw [rowsS_app,rowsS_app,List.length_append,List.length_append,List.length_take,List.length_drop,HLo.out,Nat.min_eq_left hkc];exact h
        case measure=>simp [intOf];omega
       ·refine AllReady.cons rfl (fun K hK=>?_) AllReady.nil
        go_simp;refine hK _ _ ?_;clear hK K;have O35:=Lib.hid (KeptE.lit (base:=wx.heap.size) y1 HZ.out.size s);have O29:=Lib.hid (KeptE.read O29.out (new_block y1 (.cells #[.int .u64 (s.key:Nat),.int .u64 (s.val:Nat),.int .u64 (s.hash:Nat)] 44)));have HZ:=Lib.hid (balloc HZ.out HZ.out.size (.cells #[.int .u64 (s.key:Nat),.int .u64 (s.val:Nat),.int .u64 (s.hash:Nat)] 44));have z2:=Lib.hid (World.size_alloc y1 (.cells #[.int .u64 (s.key:Nat),.int .u64 (s.val:Nat),.int .u64 (s.hash:Nat)] 44));generalize y1.alloc (.cells #[.int .u64 (s.key:Nat),.int .u64 (s.val:Nat),.int .u64 (s.hash:Nat)] 44)=y2 at *
        refine wpAny_ready (rs:=[4]) (by kernel_rfl) (by simp) ?_;refine AllReady.cons rfl (fun K hK=>?_) AllReady.nil;have zs:=HZ.out.size;refine app.step_append_val _ (by rfl) _ _ 60 (by rfl) wx.heap.size 44 i0 (.agg #[.int .u64 0,.int .u64 0,.int .u64 0]) 3 24 Tryz.underlying60 hi0 hq0 hq1 hq2 rfl (by decide) (.slice (some ⟨y0.heap.size,0,none⟩) 0 0) 0 [] (by rfl) O29.out _ k (rowsS (out.take k)) (by rfl) (KeptE.take (K0.out.read HZ.out)) (by rw [rowsS_length];rw [List.length_take,HLo.out,Nat.min_eq_left hkc]) (rowsS_one _) (by simp only [maxLen];omega) (by omega) (by omega) ?_;intro v33 y3 hown33 hgrow33;refine hK _ _ ?_;clear hK K;have O33:=Lib.hid (show y3.ownsRow wx.heap.size 44 3 v33 k (rowsS (out.take k)) from by simpa using hown33);have O35:=Lib.hid (World.ownsRow.kept O35.out hgrow33 (.inr (by have q1:=z1.out;have q2:=z2.out;simp [Value.ownBlock];omega)));have HZ:=Lib.hid (HZ.out.grown hgrow33 HZ.out.size fun r e=>(O29.out.lt r e).1);have z3:=Lib.hid hgrow33.size;clear hown33 hgrow33 O29;have zs:=HZ.out.size;refine wpAny_ready (rs:=[7]) (by kernel_rfl) (by simp) ?_;refine AllReady.cons rfl (fun K hK=>?_) AllReady.nil;refine app.step_append_val _ (by rfl) _ _ 60 (by rfl) wx.heap.size 44 i0 (.agg #[.int .u64 0,.int .u64 0,.int .u64 0]) 3 24 Tryz.underlying60 hi0 hq0 hq1 hq2 rfl (by decide) v33 k (rowsS (out.take k)) (by rfl) O33.out _ 1 (rowsS [s]) (by rfl) (app.HasRow.own O35.out) (by rw [rowsS_length];rfl) (rowsS_one _) (by simp only [maxLen];omega) (by omega) (by omega) ?_;intro v36 w36 hown36 hgrow36;refine hK _ _ ?_;clear hK K;have O36:=Lib.hid hown36;have HZ6:=Lib.hid (HZ.out.grown hgrow36 HZ.out.size fun r e=>(O33.out.lt r e).1);have z36:=HZ6.out.size;clear hown36 hgrow36;refine wpAny_ready (rs:=[11]) (by kernel_rfl) (by simp) ?_;refine AllReady.cons rfl (fun K hK=>?_) AllReady.nil;refine app.step_append_val _ (by rfl) _ _ 60 (by rfl) wx.heap.size 44 i0 (.agg #[.int .u64 0,.int .u64 0,.int .u64 0]) 3 24 Tryz.underlying60 hi0 hq0 hq1 hq2 rfl (by decide) v36 (k+1) (rowsS (out.take k)++rowsS [s]) (by rfl) O36.out _ (c-k) (rowsS (out.drop k)) (by rfl) (KeptE.dropS (K0.out.read HZ6.out) HLo.out hkc hcap HSO.out (c-k) (cap-k)) (by rw [rowsS_length];rw [List.length_drop,HLo.out]) (rowsS_one _) (by simp only [maxLen];omega) (by omega) (by omega) ?_
        intro v40 w40 hown40 hgrow40;refine hK _ _ ?_;clear hK K;have HZ7:=Lib.hid (HZ6.out.grown hgrow40 HZ6.out.size fun r e=>(O36.out.lt r e).1);obtain⟨g40,cap40,rfl,_,_⟩:=hown40.form (by omega);have q40:=row_cap hown40;have O40:=Lib.hid hown40;clear hown40 hgrow40;refine wpAny_take (i:=12) (v:=(.slice (some ⟨g40,0,none⟩) (k+1+(c-k)) cap40)) rfl (by kernel_rfl) (by kernel_rfl) (by kernel_rfl) (fun _ _ _ h=>h) (Or.inl ⟨by rfl,fun wx=>by go_simp⟩) ?_;refine wpAny_done (by kernel_rfl) ?_ _;go_wp2
        go_roundw
        case rel =>
         refine⟨c+1,g40,cap40,by omega,by omega,by simp,by rw [show k+1+(c-k)=c+1 by omega],Lib.hid ⟨?_,under.below_step HB.out HZ7.out⟩⟩;rw [HSC.out,ins,HP.out];have h:=row_base O40.out HB.out.size;unfold KeptE insAt;rw [rowsS_app,rowsS_app,List.length_append,List.length_append,List.length_take,List.length_drop,HLo.out,Nat.min_eq_left hkc];exact h
        case measure=>simp [intOf];omega
     ·refine AllReady.cons rfl (fun K hK=>?_) AllReady.nil
      have c0:=(V0.out.keep HZ.out).c0;have c1:=(V0.out.keep HZ.out).c1;have c2:=(V0.out.keep HZ.out).c2;go_simp;refine hK _ _ ?_;clear hK K;clear c0 c1 c2;refine wpAny_ready (rs:=[0,6]) (by kernel_rfl) (by simp) ?_;refine AllReady.cons rfl (fun K hK=>?_) ?_
      ·go_simp
       refine hK _ _ ?_;clear hK K;have O29:=Lib.hid (KeptE.none (base:=wx.heap.size) y0 HZ.out.size);have HZ:=Lib.hid (balloc HZ.out HZ.out.size (.cells #[] 44));have z1:=Lib.hid (World.size_alloc y0 (.cells #[] 44));generalize y0.alloc (.cells #[] 44)=y1 at *
       refine wpAny_ready (rs:=[4,6]) (by kernel_rfl) (by simp) ?_;refine AllReady.cons rfl (fun K hK=>?_) ?_
       ·have zs:=HZ.out.size
        refine app.step_append_val _ (by rfl) _ _ 60 (by rfl) wx.heap.size 44 i0 (.agg #[.int .u64 0,.int .u64 0,.int .u64 0]) 3 24 Tryz.underlying60 hi0 hq0 hq1 hq2 rfl (by decide) (.slice (some ⟨y0.heap.size,0,none⟩) 0 0) 0 [] (by rfl) O29.out _ k (rowsS (out.take k)) (by rfl) (KeptE.take (K0.out.read HZ.out)) (by rw [rowsS_length];rw [List.length_take,HLo.out,Nat.min_eq_left hkc]) (rowsS_one _) (by simp only [maxLen];omega) (by omega) (by omega) ?_;intro v33 y2 hown33 hgrow33;refine hK _ _ ?_;clear hK K;have O33:=Lib.hid (show y2.ownsRow wx.heap.size 44 3 v33 k (rowsS (out.take k)) from by simpa using hown33);have HZ:=Lib.hid (HZ.out.grown hgrow33 HZ.out.size fun r e=>(O29.out.lt r e).1);have z2:=Lib.hid hgrow33.size;clear hown33 hgrow33 O29;refine wpAny_ready (rs:=[6]) (by kernel_rfl) (by simp) ?_;refine AllReady.cons rfl (fun K hK=>?_) AllReady.nil;go_simp;refine hK _ _ ?_;clear hK K;have O35:=Lib.hid (KeptE.lit (base:=wx.heap.size) y2 HZ.out.size s);have O33:=Lib.hid (row_below O33.out (new_block y2 (.cells #[.int .u64 (s.key:Nat),.int .u64 (s.val:Nat),.int .u64 (s.hash:Nat)] 44)));have HZ:=Lib.hid (balloc HZ.out HZ.out.size (.cells #[.int .u64 (s.key:Nat),.int .u64 (s.val:Nat),.int .u64 (s.hash:Nat)] 44));have z3:=Lib.hid (World.size_alloc y2 (.cells #[.int .u64 (s.key:Nat),.int .u64 (s.val:Nat),.int .u64 (s.hash:Nat)] 44));generalize y2.alloc (.cells #[.int .u64 (s.key:Nat),.int .u64 (s.val:Nat),.int .u64 (s.hash:Nat)] 44)=y3 at *
        have zs:=HZ.out.size;refine wpAny_ready (rs:=[7]) (by kernel_rfl) (by simp) ?_;refine AllReady.cons rfl (fun K hK=>?_) AllReady.nil;refine app.step_append_val _ (by rfl) _ _ 60 (by rfl) wx.heap.size 44 i0 (.agg #[.int .u64 0,.int .u64 0,.int .u64 0]) 3 24 Tryz.underlying60 hi0 hq0 hq1 hq2 rfl (by decide) v33 k (rowsS (out.take k)) (by rfl) O33.out _ 1 (rowsS [s]) (by rfl) (app.HasRow.own O35.out) (by rw [rowsS_length];rfl) (rowsS_one _) (by simp only [maxLen];omega) (by omega) (by omega) ?_;intro v36 w36 hown36 hgrow36;refine hK _ _ ?_;clear hK K;have O36:=Lib.hid hown36;have HZ6:=Lib.hid (HZ.out.grown hgrow36 HZ.out.size fun r e=>(O33.out.lt r e).1);have z36:=HZ6.out.size;clear hown36 hgrow36;refine wpAny_ready (rs:=[11]) (by kernel_rfl) (by simp) ?_;refine AllReady.cons rfl (fun K hK=>?_) AllReady.nil;refine app.step_append_val _ (by rfl) _ _ 60 (by rfl) wx.heap.size 44 i0 (.agg #[.int .u64 0,.int .u64 0,.int .u64 0]) 3 24 Tryz.underlying60 hi0 hq0 hq1 hq2 rfl (by decide) v36 (k+1) (rowsS (out.take k)++rowsS [s]) (by rfl) O36.out _ (c-k) (rowsS (out.drop k)) (by rfl) (KeptE.dropS (K0.out.read HZ6.out) HLo.out hkc hcap HSO.out (c-k) (cap-k)) (by rw [rowsS_length];rw [List.length_drop,HLo.out]) (rowsS_one _) (by simp only [maxLen];omega) (by omega) (by omega) ?_;intro v40 w40 hown40 hgrow40;refine hK _ _ ?_;clear hK K;have HZ7:=Lib.hid (HZ6.out.grown hgrow40 HZ6.out.size fun r e=>(O36.out.lt r e).1);obtain⟨g40,cap40,rfl,_,_⟩:=hown40.form (by omega);have q40:=row_cap hown40;have O40:=Lib.hid hown40;clear hown40 hgrow40;refine wpAny_take (i:=12) (v:=(.slice (some ⟨g40,0,none⟩) (k+1+(c-k)) cap40)) rfl (by kernel_rfl) (by kernel_rfl) (by kernel_rfl) (fun _ _ _ h=>h) (Or.inl ⟨by rfl,fun wx=>by go_simp⟩) ?_;refine wpAny_done (by kernel_rfl) ?_ _;go_wp2
        go_roundw
        case rel =>
         refine⟨c+1,g40,cap40,by omega,by omega,by simp,by rw [show k+1+(c-k)=c+1 by omega],Lib.hid ⟨?_,under.below_step HB.out HZ7.out⟩⟩;rw [HSC.out,ins,HP.out];have h:=row_base O40.out HB.out.size;unfold KeptE insAt;rw [rowsS_app,rowsS_app,List.length_append,List.length_append,List.length_take,List.length_drop,HLo.out,Nat.min_eq_left hkc];exact h
        case measure=>simp [intOf];omega
       ·refine AllReady.cons rfl (fun K hK=>?_) AllReady.nil
        go_simp;refine hK _ _ ?_;clear hK K;have O35:=Lib.hid (KeptE.lit (base:=wx.heap.size) y1 HZ.out.size s);have O29:=Lib.hid (KeptE.read O29.out (new_block y1 (.cells #[.int .u64 (s.key:Nat),.int .u64 (s.val:Nat),.int .u64 (s.hash:Nat)] 44)));have HZ:=Lib.hid (balloc HZ.out HZ.out.size (.cells #[.int .u64 (s.key:Nat),.int .u64 (s.val:Nat),.int .u64 (s.hash:Nat)] 44));have z2:=Lib.hid (World.size_alloc y1 (.cells #[.int .u64 (s.key:Nat),.int .u64 (s.val:Nat),.int .u64 (s.hash:Nat)] 44));generalize y1.alloc (.cells #[.int .u64 (s.key:Nat),.int .u64 (s.val:Nat),.int .u64 (s.hash:Nat)] 44)=y2 at *
        refine wpAny_ready (rs:=[4]) (by kernel_rfl) (by simp) ?_;refine AllReady.cons rfl (fun K hK=>?_) AllReady.nil;have zs:=HZ.out.size;refine app.step_append_val _ (by rfl) _ _ 60 (by rfl) wx.heap.size 44 i0 (.agg #[.int .u64 0,.int .u64 0,.int .u64 0]) 3 24 Tryz.underlying60 hi0 hq0 hq1 hq2 rfl (by decide) (.slice (some ⟨y0.heap.size,0,none⟩) 0 0) 0 [] (by rfl) O29.out _ k (rowsS (out.take k)) (by rfl) (KeptE.take (K0.out.read HZ.out)) (by rw [rowsS_length];rw [List.length_take,HLo.out,Nat.min_eq_left hkc]) (rowsS_one _) (by simp only [maxLen];omega) (by omega) (by omega) ?_;intro v33 y3 hown33 hgrow33;refine hK _ _ ?_;clear hK K;have O33:=Lib.hid (show y3.ownsRow wx.heap.size 44 3 v33 k (rowsS (out.take k)) from by simpa using hown33);have O35:=Lib.hid (World.ownsRow.kept O35.out hgrow33 (.inr (by have q1:=z1.out;have q2:=z2.out;simp [Value.ownBlock];omega)));have HZ:=Lib.hid (HZ.out.grown hgrow33 HZ.out.size fun r e=>(O29.out.lt r e).1);have z3:=Lib.hid hgrow33.size;clear hown33 hgrow33 O29;have zs:=HZ.out.size;refine wpAny_ready (rs:=[7]) (by kernel_rfl) (by simp) ?_;refine AllReady.cons rfl (fun K hK=>?_) AllReady.nil;refine app.step_append_val _ (by rfl) _ _ 60 (by rfl) wx.heap.size 44 i0 (.agg #[.int .u64 0,.int .u64 0,.int .u64 0]) 3 24 Tryz.underlying60 hi0 hq0 hq1 hq2 rfl (by decide) v33 k (rowsS (out.take k)) (by rfl) O33.out _ 1 (rowsS [s]) (by rfl) (app.HasRow.own O35.out) (by rw [rowsS_length];rfl) (rowsS_one _) (by simp only [maxLen];omega) (by omega) (by omega) ?_;intro v36 w36 hown36 hgrow36;refine hK _ _ ?_;clear hK K;have O36:=Lib.hid hown36;have HZ6:=Lib.hid (HZ.out.grown hgrow36 HZ.out.size fun r e=>(O33.out.lt r e).1);have z36:=HZ6.out.size;clear hown36 hgrow36;refine wpAny_ready (rs:=[11]) (by kernel_rfl) (by simp) ?_;refine AllReady.cons rfl (fun K hK=>?_) AllReady.nil;refine app.step_append_val _ (by rfl) _ _ 60 (by rfl) wx.heap.size 44 i0 (.agg #[.int .u64 0,.int .u64 0,.int .u64 0]) 3 24 Tryz.underlying60 hi0 hq0 hq1 hq2 rfl (by decide) v36 (k+1) (rowsS (out.take k)++rowsS [s]) (by rfl) O36.out _ (c-k) (rowsS (out.drop k)) (by rfl) (KeptE.dropS (K0.out.read HZ6.out) HLo.out hkc hcap HSO.out (c-k) (cap-k)) (by rw [rowsS_length];rw [List.length_drop,HLo.out]) (rowsS_one _) (by simp only [maxLen];omega) (by omega) (by omega) ?_
        intro v40 w40 hown40 hgrow40;refine hK _ _ ?_;clear hK K;have HZ7:=Lib.hid (HZ6.out.grown hgrow40 HZ6.out.size fun r e=>(O36.out.lt r e).1);obtain⟨g40,cap40,rfl,_,_⟩:=hown40.form (by omega);have q40:=row_cap hown40;have O40:=Lib.hid hown40;clear hown40 hgrow40;refine wpAny_take (i:=12) (v:=(.slice (some ⟨g40,0,none⟩) (k+1+(c-k)) cap40)) rfl (by kernel_rfl) (by kernel_rfl) (by kernel_rfl) (fun _ _ _ h=>h) (Or.inl ⟨by rfl,fun wx=>by go_simp⟩) ?_;refine wpAny_done (by kernel_rfl) ?_ _;go_wp2
        go_roundw
        case rel =>
         refine⟨c+1,g40,cap40,by omega,by omega,by simp,by rw [show k+1+(c-k)=c+1 by omega],Lib.hid ⟨?_,under.below_step HB.out HZ7.out⟩⟩;rw [HSC.out,ins,HP.out];have h:=row_base O40.out HB.out.size;unfold KeptE insAt;rw [rowsS_app,rowsS_app,List.length_append,List.length_append,List.length_take,List.length_drop,HLo.out,Nat.min_eq_left hkc];exact h
        case measure=>simp [intOf];omega
      ·refine AllReady.cons rfl (fun K hK=>?_) AllReady.nil
       go_simp;refine hK _ _ ?_;clear hK K;have O35:=Lib.hid (KeptE.lit (base:=wx.heap.size) y0 HZ.out.size s);have HZ:=Lib.hid (balloc HZ.out HZ.out.size (.cells #[.int .u64 (s.key:Nat),.int .u64 (s.val:Nat),.int .u64 (s.hash:Nat)] 44));have z1:=Lib.hid (World.size_alloc y0 (.cells #[.int .u64 (s.key:Nat),.int .u64 (s.val:Nat),.int .u64 (s.hash:Nat)] 44));generalize y0.alloc (.cells #[.int .u64 (s.key:Nat),.int .u64 (s.val:Nat),.int .u64 (s.hash:Nat)] 44)=y1 at *
       refine wpAny_ready (rs:=[0]) (by kernel_rfl) (by simp) ?_;refine AllReady.cons rfl (fun K hK=>?_) AllReady.nil;go_simp;refine hK _ _ ?_;clear hK K;have O29:=Lib.hid (KeptE.none (base:=wx.heap.size) y1 HZ.out.size);have O35:=Lib.hid (KeptE.read O35.out (new_block y1 (.cells #[] 44)));have HZ:=Lib.hid (balloc HZ.out HZ.out.size (.cells #[] 44));have z2:=Lib.hid (World.size_alloc y1 (.cells #[] 44));generalize y1.alloc (.cells #[] 44)=y2 at *
       refine wpAny_ready (rs:=[4]) (by kernel_rfl) (by simp) ?_;refine AllReady.cons rfl (fun K hK=>?_) AllReady.nil;have zs:=HZ.out.size;refine app.step_append_val _ (by rfl) _ _ 60 (by rfl) wx.heap.size 44 i0 (.agg #[.int .u64 0,.int .u64 0,.int .u64 0]) 3 24 Tryz.underlying60 hi0 hq0 hq1 hq2 rfl (by decide) (.slice (some ⟨y1.heap.size,0,none⟩) 0 0) 0 [] (by rfl) O29.out _ k (rowsS (out.take k)) (by rfl) (KeptE.take (K0.out.read HZ.out)) (by rw [rowsS_length];rw [List.length_take,HLo.out,Nat.min_eq_left hkc]) (rowsS_one _) (by simp only [maxLen];omega) (by omega) (by omega) ?_;intro v33 y3 hown33 hgrow33;refine hK _ _ ?_;clear hK K;have O33:=Lib.hid (show y3.ownsRow wx.heap.size 44 3 v33 k (rowsS (out.take k)) from by simpa using hown33);have O35:=Lib.hid (World.ownsRow.kept O35.out hgrow33 (.inr (by have q1:=z1.out;have q2:=z2.out;simp [Value.ownBlock];omega)));have HZ:=Lib.hid (HZ.out.grown hgrow33 HZ.out.size fun r e=>(O29.out.lt r e).1);have z3:=Lib.hid hgrow33.size;clear hown33 hgrow33 O29;have zs:=HZ.out.size;refine wpAny_ready (rs:=[7]) (by kernel_rfl) (by simp) ?_;refine AllReady.cons rfl (fun K hK=>?_) AllReady.nil;refine app.step_append_val _ (by rfl) _ _ 60 (by rfl) wx.heap.size 44 i0 (.agg #[.int .u64 0,.int .u64 0,.int .u64 0]) 3 24 Tryz.underlying60 hi0 hq0 hq1 hq2 rfl (by decide) v33 k (rowsS (out.take k)) (by rfl) O33.out _ 1 (rowsS [s]) (by rfl) (app.HasRow.own O35.out) (by rw [rowsS_length];rfl) (rowsS_one _) (by simp only [maxLen];omega) (by omega) (by omega) ?_;intro v36 w36 hown36 hgrow36;refine hK _ _ ?_;clear hK K;have O36:=Lib.hid hown36;have HZ6:=Lib.hid (HZ.out.grown hgrow36 HZ.out.size fun r e=>(O33.out.lt r e).1);have z36:=HZ6.out.size;clear hown36 hgrow36;refine wpAny_ready (rs:=[11]) (by kernel_rfl) (by simp) ?_;refine AllReady.cons rfl (fun K hK=>?_) AllReady.nil;refine app.step_append_val _ (by rfl) _ _ 60 (by rfl) wx.heap.size 44 i0 (.agg #[.int .u64 0,.int .u64 0,.int .u64 0]) 3 24 Tryz.underlying60 hi0 hq0 hq1 hq2 rfl (by decide) v36 (k+1) (rowsS (out.take k)++rowsS [s]) (by rfl) O36.out _ (c-k) (rowsS (out.drop k)) (by rfl) (KeptE.dropS (K0.out.read HZ6.out) HLo.out hkc hcap HSO.out (c-k) (cap-k)) (by rw [rowsS_length];rw [List.length_drop,HLo.out]) (rowsS_one _) (by simp only [maxLen];omega) (by omega) (by omega) ?_
       intro v40 w40 hown40 hgrow40;refine hK _ _ ?_;clear hK K;have HZ7:=Lib.hid (HZ6.out.grown hgrow40 HZ6.out.size fun r e=>(O36.out.lt r e).1);obtain⟨g40,cap40,rfl,_,_⟩:=hown40.form (by omega);have q40:=row_cap hown40;have O40:=Lib.hid hown40;clear hown40 hgrow40;refine wpAny_take (i:=12) (v:=(.slice (some ⟨g40,0,none⟩) (k+1+(c-k)) cap40)) rfl (by kernel_rfl) (by kernel_rfl) (by kernel_rfl) (fun _ _ _ h=>h) (Or.inl ⟨by rfl,fun wx=>by go_simp⟩) ?_;refine wpAny_done (by kernel_rfl) ?_ _;go_wp2
       go_roundw
       case rel =>
        refine⟨c+1,g40,cap40,by omega,by omega,by simp,by rw [show k+1+(c-k)=c+1 by omega],Lib.hid ⟨?_,under.below_step HB.out HZ7.out⟩⟩;rw [HSC.out,ins,HP.out];have h:=row_base O40.out HB.out.size;unfold KeptE insAt;rw [rowsS_app,rowsS_app,List.length_append,List.length_append,List.length_take,List.length_drop,HLo.out,Nat.min_eq_left hkc];exact h
       case measure=>simp [intOf];omega
  ·obtain rfl:c=n:=by omega
   go_wp2
   go_ret
   exact⟨_,rfl,by have:=HR.out.1;rwa [List.take_of_length_le (by rw [HN.out];exact Nat.le_refl _)] at this,HR.out.2⟩
theorem find_at{p:Sl→Bool}:∀{l:List Sl} {c:Nat} {y:Sl},(∀j x,j<c→l[j]?=some x→p x=false)→l[c]?=some y→p y=true→l.find? p=some y
 | [],c,y,_,h,_=>by simp at h
 | a::l,0,y,_,h,hp=>by
  have e:a=y:=by simpa using h
  subst e;rw [List.find?_cons,hp]
 | a::l,c+1,y,hn,h,hp=>by
  have h0:=hn 0 a (Nat.succ_pos c) rfl;rw [List.find?_cons,h0];exact find_at (c:=c) (fun j x hj hx=>hn (j+1) x (by omega) (by simpa using hx)) (by simpa using h) hp
theorem find_no{p:Sl→Bool}{l:List Sl}(hn:∀j x,j<l.length→l[j]?=some x→p x=false):l.find? p=none:=by
 rw [List.find?_eq_none];intro x hx;obtain⟨j,hj,e⟩:=List.mem_iff_getElem.1 hx;have:=hn j x hj (by rw [List.getElem?_eq_getElem hj,e]);rw [this];decide
set_option maxRecDepth 20000 in
set_option maxHeartbeats 1000000 in
theorem rtleast_any(o:Option Addr)(cp n:Nat)(l:List Sl)(hn:l.length=n)(h512:n≤2048)(hash key:Nat)(w:World)(hl:EntsAt o l w) :
  Calls Tryz.prog 20 #[.slice o n cp,.int .u64 hash,.int .u64 key] w fun e w'=>e=.returned (.tuple #[group.entV (sK (lfold hash key none l)) (sV (lfold hash key none l)) (sH (lfold hash key none l)),.bool (lfold hash key none l).isSome])∧Below w.heap.size w w':=by
 rw [←find_srt];have hb2:=two_new w (.cells #[.int .u64 0,.int .u64 0,.int .u64 0] 44) (.cells #[.int .u64 (key:Nat),.int .u64 0,.int .u64 (hash:Nat)] 44);have V0:=(EBox.new 0 0 0 w).keep (new_block _ (.cells #[.int .u64 (key:Nat),.int .u64 0,.int .u64 (hash:Nat)] 44));have V1:=EBox.second key 0 hash w (.cells #[.int .u64 0,.int .u64 0,.int .u64 0] 44);have cS:=sorted_any o cp n l hn h512 _ (hl.read hb2);have hsl:=srt_length l;rw [hn] at hsl;have HV:=Lib.hid (And.intro V0 V1);have HB:=Lib.hid hb2;have HSL:=Lib.hid hsl;clear hl hn V0 V1 hb2 hsl;generalize srt l=sl at *
 go_enter Tryz.func20,Tryz.ntmps20
 go_wp2_with (go_at_call 57;(with_reducible refine cS.mono ?_);rintro e w2 ⟨v,rfl,hK,hb2⟩;obtain⟨o2,c2,rfl,hE⟩:=hK.rows;rw [HSL.out] at hE ⊢)
 have HI:=Lib.hid (show Below w.heap.size w w2∧EBox w.heap.size 0 0 0 w2∧EBox (w.heap.size+1) key 0 hash w2∧EntsAt o2 sl w2 from⟨under.below_step HB.out hb2,HV.out.1.keep hb2,HV.out.2.keep hb2,by unfold EntsAt;rw [HSL.out];exact hE⟩);clear hK hb2 hE cS HV HB;generalize hX:w.heap.size=X at HI ⊢;have hXe:w.heap.size=X:=hX;clear hX
 go_loopw [17] (fun i wr=>∃c:Nat,c≤n∧i=.int .i64 c∧Hid (Below w.heap.size w wr∧EBox X 0 0 0 wr∧EBox (X+1) key 0 hash wr∧EntsAt o2 sl wr∧∀j x,j<c→sl[j]?=some x→nb hash key x=false)) (fun i _=>n-(intOf i).toNat)
 case atStart=>exact⟨0,by omega,rfl,Lib.hid ⟨by rw [hXe];exact HI.out.1,HI.out.2.1,HI.out.2.2.1,HI.out.2.2.2,fun j x hj=>absurd hj (Nat.not_lt_zero j)⟩⟩
 case round =>
  obtain⟨c,hc,rfl,HR⟩:=hrel;clear HI
  rcases Nat.lt_or_ge c n with hcn|hcn
  ·have hci:(c:Int)<(n:Int):=by omega
   obtain⟨x,rfl,hE⟩:=HR.out.2.2.2.1 c (by rw [HSL.out];exact hcn);obtain⟨y,hy⟩:∃y,sl[c]?=some y:=⟨sl[c]'(by rw [HSL.out];exact hcn),List.getElem?_eq_getElem _⟩;have hgy:sl.getD c slZ=y:=by rw [List.getD_eq_getElem?_getD,hy];rfl
   have hE:group.ECells x c (sl.getD c slZ) wr:=hE;rw [hgy] at hE;obtain⟨d0,d1,d2⟩:=hE;have HY:=Lib.hid hy;have cB:=fun W=>(show Calls Tryz.prog 58 #[.agg #[.int .u64 (y.key:Nat),.int .u64 (y.val:Nat),.int .u64 (y.hash:Nat)],.agg #[.int .u64 (key:Nat),.int .u64 0,.int .u64 (hash:Nat)]] W fun e w'=>e=.returned (.bool (lessB y.key y.hash key hash))∧Below W.heap.size W w' from split.before_any y.key y.val y.hash key 0 hash W)
   have hb1:=new_block wr (.cells #[.int .u64 (y.key:Nat),.int .u64 (y.val:Nat),.int .u64 (y.hash:Nat)] 44);have v1:=HR.out.2.2.1.keep hb1;have e0:=v1.c0;have e1:=v1.c1;have e2:=v1.c2;have hXl:w.heap.size≤X:=by omega
   clear hy hgy v1;cases hb:lessB y.key y.hash key hash
   ·rw [hb] at cB
    have hnb:nb hash key y=true:=by unfold nb;rw [hb];rfl
    have HF:=Lib.hid (find_at HR.out.2.2.2.2 HY.out hnb);have HYE:=Lib.hid (EBox.new y.key y.val y.hash wr);have HB1:=Lib.hid hb1;clear hb hnb hb1
    go_wp2_with (go_at_call 58;(with_reducible refine (cB _).mono ?_);rintro e w4 ⟨rfl,hb4⟩;have ye:=HYE.out.keep hb4;have y0:=ye.c0;have y1:=ye.c1;have y2:=ye.c2;have z:=(HR.out.2.1.keep HB1.out).keep hb4;have z0:=z.c0;have z1:=z.c1;have z2:=z.c2;have z3:=z.fz)
    have hf:=under.below_step (under.below_step HR.out.1 HB1.out) hb4;refine bodyPost_ret (v:=.tuple #[group.entV y.key y.val y.hash,.bool true]) (by simp [results,Tryz.results20,go_sem,z0,z1,z2]) rfl ⟨by rw [HF.out];rfl,((hf.setCell hXl _).setCell hXl _).setCell hXl _⟩
   ·rw [hb] at cB
    have HNB:=Lib.hid (show nb hash key y=false by unfold nb;rw [hb];rfl);have HB1:=Lib.hid hb1;clear hb hb1
    go_wp2_with (go_at_call 58;(with_reducible refine (cB _).mono ?_);rintro e w4 ⟨rfl,hb4⟩)
    go_roundw
    case rel =>
     have hb5:=under.below_step HB1.out hb4;refine⟨c+1,by omega,by simp,Lib.hid ⟨under.below_step HR.out.1 hb5,HR.out.2.1.keep hb5,HR.out.2.2.1.keep hb5,HR.out.2.2.2.1.read hb5,fun j x' hj hx=>?_⟩⟩
     rcases Nat.lt_or_ge j c with h|h
     ·exact HR.out.2.2.2.2 j x' h hx
     ·obtain rfl:j=c:=by omega
      rw [HY.out] at hx;injection hx with hx;subst hx;exact HNB.out
    case measure=>simp [intOf];omega
  ·obtain rfl:c=n:=by omega
   have HF:=Lib.hid (find_no (l:=sl) (p:=nb hash key) (by rw [HSL.out];exact HR.out.2.2.2.2));have z0:=HR.out.2.1.c0;have z1:=HR.out.2.1.c1;have z2:=HR.out.2.1.c2;have z3:=HR.out.2.1.fz;have hXl:w.heap.size≤X:=by omega
   go_wp2;refine bodyPost_ret (v:=.tuple #[group.entV 0 0 0,.bool false]) (by simp [results,Tryz.results20,go_sem,z0,z1,z2]) rfl ⟨by rw [HF.out];rfl,((HR.out.1.setCell hXl _).setCell hXl _).setCell hXl _⟩
end table
end Go.Proofs.YtdplhgpeggcmdaaGreatDoor
