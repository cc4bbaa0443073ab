/- NodePj: facts and laws for the walks. -/
import Derived.Test.YtdplhgpeggcmdaaGreatDoorNodePi
namespace Go.Proofs.YtdplhgpeggcmdaaGreatDoor
set_option linter.unusedSimpArgs false
set_option linter.unusedVariables false
open Go.ChangeShapes Go.WideShapes Go.ChangeAt Go.RowKit Go.Shelf swar under trap meter group probe lens tail call table evac dual
namespace node
section
variable {X p d T:Nat} {k:Int} {w:World}
theorem step_or{D:Nat}{v:Value}{R:Bool→World→Prop}{Q:List PanicEntry→World→Prop}(h:NRow X p d T k (some ⟨D,0,none⟩) w)(hc:Calls Tryz.prog 75 #[.pointer (some ⟨D,0,none⟩),v] w fun e w'=>(∃b,e=.returned (.bool b)∧R b w')∨∃l,e=.panicked l∧Q l w'):Calls Tryz.prog 29 #[.pointer (some ⟨X,0,none⟩),v] w fun e w'=>(∃b,e=.returned (.bool b)∧R b w')∨∃l,e=.panicked l∧Q l w':=by
 have c4:=h.c4;have hn:=dl_some;clear h
 go_enter Tryz.func29,Tryz.ntmps29
 go_wp2_with (fail)
 refine hc.mono ?_;rintro e w1 (⟨b,rfl,hb⟩|⟨l,rfl,hq⟩)
 ·go_wp2
  go_ret
  exact .inl ⟨b,rfl,hb⟩
 ·exact⟨rfl,.inr ⟨l,rfl,hq⟩⟩
theorem nclo_any{X5 X8 Xi Bm:Nat}{R:Bool→World→Prop}{Q:List PanicEntry→World→Prop}(hc:Calls Tryz.prog 29 #[.pointer (some ⟨X,0,none⟩),.pointer (some ⟨Bm,0,none⟩)] w fun e w'=>(∃b,e=.returned (.bool b)∧R b w')∨∃l,e=.panicked l∧Q l w')(c5:w.cell? ⟨X5,0,none⟩=some (.pointer (some ⟨X,0,none⟩)))(c8:w.cell? ⟨X8,0,none⟩=some (.pointer (some ⟨Bm,0,none⟩)))(hv:∀b w1,R b w1→Var Xi (.bool false) w1) :
  Calls Tryz.prog 28 #[.pointer (some ⟨X5,0,none⟩),.pointer (some ⟨X8,0,none⟩),.pointer (some ⟨Xi,0,none⟩)] w fun e w'=>(∃b w1,e=.returned (.tuple #[])∧R b w1∧w'=w1.setCell ⟨Xi,0,none⟩ (.bool b))∨∃l,e=.panicked l∧Q l w':=by
 go_enter Tryz.func28,Tryz.ntmps28
 go_wp2_with (fail)
 refine hc.mono ?_;rintro e w1 (⟨b,rfl,hb⟩|⟨l,rfl,hq⟩)
 ·have hv1:=hv b w1 hb
  have v0:=hv1.cell;have v1:=hv1.frozen;go_wp2
  go_end0
  exact .inl ⟨b,w1,rfl,hb,rfl⟩
 ·exact⟨rfl,.inr ⟨l,rfl,hq⟩⟩
end
theorem fnN(cap:Array Value)(w:World):(callFunc 28 cap).run Tryz.prog w=.ok (.enter 28 cap) w:=by kernel_rfl
section
variable {a:String→Addr} {w0:World} {H:Nat→Nat} {la X Z Bm p d:Nat} {kd:Int} {Y:Lay} {D n1:Nat} {dp:Int} {R E G c q q':Nat} {t t' u u':Nat→Tb} {fp fp':List Nat} {nx br nx' br':Nat} {k k':Nat→Nat} {m m':Mt} {W W' W'':World} {KL:List Nat} {X5 X8 Xi:Nat}
theorem PB.aside{l:List Nat}(h:PB a w0 H la X Z Bm p d kd Y D n1 dp R E G c q t fp nx br u k m W)(hp:Past l W W')(hl:∀b∈l,w0.heap.size≤b∧b∉FB X Z G Y R E Bm fp):PB a w0 H la X Z Bm p d kd Y D n1 dp R E G c q t fp nx br u k m W':=by
 have q:∀b∈l,b≠X∧b≠Z∧b≠G∧b∉Ft Y R E Bm fp:=fun b hb=>by
  have:=(hl b hb).2;simp only [FB,List.mem_cons,not_or] at this;exact⟨this.1,this.2.1,this.2.2.1,by simp only [Ft,List.mem_cons,not_or];exact this.2.2.2⟩
 exact⟨h.ls.aside hp fun b hb=>⟨(hl b hb).1,(q b hb).2.2.1,(q b hb).2.2.2⟩,h.row.past hp fun e=>(q _ e).1 rfl,h.qow.imp fun _ z=>z.past hp fun e=>(q _ e).2.1 rfl,h.ok,h.oX,h.oZ,h.xz,h.du,h.n3⟩
theorem PB.duS(h:PB a w0 H la X Z Bm p d kd Y D n1 dp R E G c q t fp nx br u k m W)(hla:la≤100)(hH:∀key,key<la→H key<18446744073709551616)(hq:q<Y.n 0+(Y.N-1)*n1)(hg:sG (rdy Y n1 q) Y.N d (q-(Y.N-1)*n1) t=true):∃F M,Du H la Y.N d F (sT (rdy Y n1 q) Y.N d (q-(Y.N-1)*n1) t) M 5000:=by
 obtain⟨F,M,hM⟩:=h.du;cases hr:rdy Y n1 q with
 | false=>rw [sT_no];exact⟨F,M,hM⟩
 | true =>
  rw [hr] at hg;rw [sT_yes];rw [sG_yes] at hg;have hle:(Y.N-1)*n1≤q:=of_decide_eq_true hr;have h0:(t 0).n=Y.n 0:=h.ls.da.re.tn 0 (by rw [hr,cut_yes];have:=h.ls.da.N;omega);obtain⟨M',h'⟩:=du_stepG h.ls.da.N (by omega) hH hM (show q-(Y.N-1)*n1<(t 0).n by omega) hg;exact⟨F,M',h'⟩
end
section
variable {a:String→Addr} {w0:World} {H:Nat→Nat} {la X Z Bm p d:Nat} {kd:Int} {Y:Lay} {D n1:Nat} {dp:Int} {R E G c q q':Nat} {t t' u u':Nat→Tb} {fp fp':List Nat} {nx br nx' br':Nat} {k k':Nat→Nat} {m m':Mt} {W W' W'':World} {KL:List Nat} {X5 X8 Xi:Nat}
theorem PB.bel(h:PB a w0 H la X Z Bm p d kd Y D n1 dp R E G c q t fp nx br u k m W):Below w0.heap.size w0 W:=h.ls.bel
theorem PB.lts(h:PB a w0 H la X Z Bm p d kd Y D n1 dp R E G c q t fp nx br u k m W):∀b∈FB X Z G Y R E Bm fp,b<W.heap.size:=fun b hb=>by
 obtain⟨T',hqo⟩:=h.qow
 rcases List.mem_cons.1 hb with rfl|hb
 ·exact h.row.lt
 ·rcases List.mem_cons.1 hb with rfl|hb
  ·exact hqo.lt
  ·rcases List.mem_cons.1 hb with rfl|hb
   ·exact h.ls.lts.2
   ·exact h.ls.lts.1 b hb
theorem PB.xi(h:PB a w0 H la X Z Bm p d kd Y D n1 dp R E G c q t fp nx br u k m W)(hX0:w0.heap.size≤Xi)(hX:Xi∉FB X Z G Y R E Bm fp)(ci:Xi<W.heap.size):(∀b∈Xi::Bm::fp,b<W.heap.size∧w0.heap.size≤b)∧Xi∉Bm::fp:=by
 refine⟨fun b hb=>?_,fun e=>hX (List.mem_cons_of_mem _ (List.mem_cons_of_mem _ (List.mem_cons_of_mem _ (ft_real e))))⟩
 rcases List.mem_cons.1 hb with rfl|hb
 ·exact⟨ci,hX0⟩
 ·exact⟨h.ls.lts.1 b (ft_real hb),h.ls.nft b (ft_real hb)⟩
theorem PB.fgrow(h:PB a w0 H la X Z Bm p d kd Y D n1 dp R E G c q t fp nx br u k m W){b:Nat}(hb:b∉FB X Z G Y R E Bm fp)(hl:b<W.heap.size+2)(hf:∀b∈fp',b∈fp∨W.heap.size+2≤b):b∉FB X Z G Y R E Bm fp':=fun e=>by
 simp only [FB,Ft,List.mem_cons,List.mem_append,not_or] at hb e
 rcases e with e|e|e|e|e|e|e|e
 ·exact hb.1 e
 ·exact hb.2.1 e
 ·exact hb.2.2.1 e
 ·exact hb.2.2.2.1 e
 ·exact hb.2.2.2.2.1 e
 ·exact hb.2.2.2.2.2.1 e
 ·rcases hf b e with e|e
  ·exact hb.2.2.2.2.2.2.1 e
  ·omega
 ·exact hb.2.2.2.2.2.2.2 e
theorem PB.two(h:PB a w0 H la X Z Bm p d kd Y D n1 dp R E G c q t fp nx br u k m W){b:Nat}(hb:b∈[W.heap.size,W.heap.size+1]):w0.heap.size≤b∧b∉FB X Z G Y R E Bm fp∧b<W.heap.size+2:=by
 have hb':b=W.heap.size∨b=W.heap.size+1:=by simpa using hb
 have z:=h.bel.size;exact⟨by omega,fun e=>by have:=h.lts b e;omega,by omega⟩
theorem PB.catch_good(h:PB a w0 H la X Z Bm p d kd Y D n1 dp R E G c q t fp (q-(Y.N-1)*n1) ((Y.N-1)*n1-q) t k m W)(hw:Base a w0)(hla:la≤100)(hH:∀key,key<la→H key<18446744073709551616)(hK:∀b∈KL,b∉FB X Z G Y R E Bm fp)(hKl:∀b∈KL,b<W.heap.size)(hKi:Xi∉KL)(hX0:w0.heap.size≤Xi)(hXi:Xi∉FB X Z G Y R E Bm fp)(ci:Var Xi (.bool false) W)(c5:W.cell? ⟨X5,0,none⟩=some (.pointer (some ⟨X,0,none⟩)))(c8:W.cell? ⟨X8,0,none⟩=some (.pointer (some ⟨Bm,0,none⟩)))(hq:q<Y.n 0+(Y.N-1)*n1)(hg:sG (rdy Y n1 q) Y.N d (q-(Y.N-1)*n1) t=true)(hkk:sumK Y.N k+700≤100000000) :
  Calls Tryz.prog 27 #[.func (.func 28) #[] #[.pointer (some ⟨X5,0,none⟩),.pointer (some ⟨X8,0,none⟩),.pointer (some ⟨Xi,0,none⟩)]] W fun e w'=>e=.returned (errAt a 0)∧Var Xi (.bool true) w'∧PK KL W w'∧∀W',Below w'.heap.size w' W' →
   W'.cell? ⟨Z,4,none⟩=some (.pointer (some ⟨R,0,none⟩))∧Calls Tryz.prog 30 #[.pointer (some ⟨R,0,none⟩)] W' fun e w''=>e=.returned (.tuple #[.bool true,.bool false])∧Past (R::E::Y.rall) W' w''∧(∀b∈KL,b∉R::E::Y.rall)∧Xi∉R::E::Y.rall∧NB a w0 H la X Z Bm p d (sumK Y.N k+600) (Xi::KL) w'':=by
 obtain⟨hxl,hxn⟩:=h.xi hX0 hXi ci.lt;have hb2:=two_new W (.cells #[.nilIface] 27) (.cells #[.bool false] 4);have hsz:((W.alloc (.cells #[.nilIface] 27)).alloc (.cells #[.bool false] 4)).heap.size=W.heap.size+2:=by rw [World.size_alloc,World.size_alloc]
 obtain⟨W2,hW2⟩:∃W2,(W.alloc (.cells #[.nilIface] 27)).alloc (.cells #[.bool false] 4)=W2:=⟨_,rfl⟩;rw [hW2] at hb2 hsz;have hdu:=h.duS hla hH hq hg;have h2:=h.read hb2;have ci2:=ci.below hb2;have k5:=keepc hb2 c5;have k8:=keepc hb2 c8;have lts:=h.lts;have hS:=h2.ls.da.step_on hq h2.ls.mt h2.ok.1 (unitE_no m h2.ok.2) h2.ls.hB.1 (fun e=>(h2.ls.sp _ e).2.2.2.2.2 rfl)
 have hst:=nclo_any (X5:=X5) (X8:=X8) (Xi:=Xi) (Bm:=Bm) (w:=W2) (X:=X) (R:=fun b w1=>b=true∧Past (Bm::fp) W2 w1∧∃fp' m',PB a w0 H la X Z Bm p d kd Y D n1 dp R E G c (q+1) (sT (rdy Y n1 q) Y.N d (q-(Y.N-1)*n1) t) fp' (q-(Y.N-1)*n1) ((Y.N-1)*n1-q) t k m' w1∧∀b∈fp',b∈fp∨W2.heap.size≤b) (Q:=fun _ _=>False) (step_or h2.row (hS.mono fun e w1 hx=>by
  rcases hx with⟨_,he,fp',hD,hm,hp,hf⟩|⟨hf,_⟩
  ·refine .inl ⟨true,he,rfl,hp,fp',_,h2.real hD hm ?_ hp hf hdu,hf⟩
   have q1:=unit_ok m h2.ok.1 h2.ok.2;exact see_vi_ok _ (q1.1.visits 1) q1.2 _
  ·rw [hg] at hf;cases hf)) k5 k8 (fun b w1 hx=>ci2.past hx.2.1 hxn)
 have C:=catch_all a 0 28 #[.pointer (some ⟨X5,0,none⟩),.pointer (some ⟨X8,0,none⟩),.pointer (some ⟨Xi,0,none⟩)] (fnN _) (Xi::Bm::fp) (fun W1=>Var Xi (.bool true) W1∧∃fp' m',PB a w0 H la X Z Bm p d kd Y D n1 dp R E G c (q+1) (sT (rdy Y n1 q) Y.N d (q-(Y.N-1)*n1) t) fp' (q-(Y.N-1)*n1) ((Y.N-1)*n1-q) t k m' W1∧∀b∈fp',b∈fp∨W.heap.size+2≤b) W (fun b hb=>(hxl b hb).1) (fun wx hp=>(hw.below (h.bel.trans (hp.below h.bel.size fun b hb=>(hxl b hb).2))).errs)
  (fun w1 w2 ⟨hv,fp',m',hP,hf⟩ he => ⟨hv.past he (by have:=ci.lt; simp only [List.mem_cons,List.not_mem_nil,or_false]; omega),fp',m',hP.aside he (fun b hb => ⟨(h.two hb).1,h.fgrow (h.two hb).2.1 (h.two hb).2.2 hf⟩),hf⟩) (by
   rw [hW2];refine hst.mono fun e w' hx=>?_
   rcases hx with⟨b,w1,he,⟨rfl,hp,fp',m',hP,hf⟩,hw'⟩|⟨_,_,hx⟩
   ·rw [hsz] at hf
    rw [he,hw'];refine⟨Ends.back,(hp.mono fun x hx=>List.mem_cons_of_mem _ hx).store (.inl (by simp)) _,(ci2.past hp hxn).set _,fp',m',hP.aside (l:=[Xi]) ((Past.refl [Xi] w1).store (.inl (by simp)) _) (fun b hb=>?_),hf⟩;obtain rfl:b=Xi:=by simpa using hb
    exact⟨hX0,h.fgrow hXi (by have:=ci.lt;omega) hf⟩
   ·exact hx.elim)
 refine C.mono fun e w' ⟨he,hp,hv,fp',m',hP,hf⟩=>⟨he,hv,⟨_,hp,fun b hb e=>?_⟩,fun W' hb=>?_⟩
 ·rcases List.mem_cons.1 e with e|e
  ·exact hKi (e ▸ hb)
  ·exact hK b hb (List.mem_cons_of_mem _ (List.mem_cons_of_mem _ (List.mem_cons_of_mem _ (ft_real e))))
 ·have h3:=hP.read hb
  obtain⟨T',hqo⟩:=h3.qow
  have hre:rdy Y n1 q=true→∃t',Real a w0 Y t' W':=fun e=>by
   have hle:(Y.N-1)*n1≤q:=of_decide_eq_true e;have:=h3.ls.da.re;rw [rdy_yes (by omega),cut_yes] at this;exact⟨_,this⟩
  have hk512:=h.ls.sK_le
  refine⟨hqo.c4,(h3.ls.rstep rfl rfl hre hq hg (by omega)).mono fun e w'' ⟨he,⟨k',hk',hl⟩,hpd⟩=>⟨he,hpd,fun b hb e=>hK b hb (List.mem_cons_of_mem _ (List.mem_cons_of_mem _ (List.mem_cons_of_mem _ (ft_docs e)))),fun e=>hXi (List.mem_cons_of_mem _ (List.mem_cons_of_mem _ (List.mem_cons_of_mem _ (ft_docs e)))),kd,Y,D,n1,dp,R,E,G,c,q+1,_,fp',k',m',h3.doc hl hpd, ?_,fun b hb=>by
   rcases List.mem_cons.1 hb with rfl|hb
   ·exact h.fgrow hXi (by have:=ci.lt;omega) hf
   ·exact h.fgrow (hK b hb) (by have:=hKl b hb;omega) hf⟩⟩
  rw [hk']
  split <;> omega
theorem PB.catch_bad(h:PB a w0 H la X Z Bm p d kd Y D n1 dp R E G c q t fp (q-(Y.N-1)*n1) ((Y.N-1)*n1-q) t k m W)(hw:Base a w0)(hX0:w0.heap.size≤Xi)(hXi:Xi∉FB X Z G Y R E Bm fp)(ci:Var Xi (.bool false) W)(c5:W.cell? ⟨X5,0,none⟩=some (.pointer (some ⟨X,0,none⟩)))(c8:W.cell? ⟨X8,0,none⟩=some (.pointer (some ⟨Bm,0,none⟩)))(hq:q<Y.n 0+(Y.N-1)*n1)(hg:sG (rdy Y n1 q) Y.N d (q-(Y.N-1)*n1) t=false)(hkk:sumK Y.N k+700≤100000000) :
  Calls Tryz.prog 27 #[.func (.func 28) #[] #[.pointer (some ⟨X5,0,none⟩),.pointer (some ⟨X8,0,none⟩),.pointer (some ⟨Xi,0,none⟩)]] W fun e w'=>e=.returned (errAt a 10)∧Below w0.heap.size w0 w'∧∀W',Below w'.heap.size w' W' →
   W'.cell? ⟨Z,4,none⟩=some (.pointer (some ⟨R,0,none⟩))∧Calls Tryz.prog 30 #[.pointer (some ⟨R,0,none⟩)] W' fun e w''=>e=.returned (.tuple #[.bool true,.bool true])∧Below w0.heap.size w0 w'':=by
 obtain⟨hxl,hxn⟩:=h.xi hX0 hXi ci.lt;have hb2:=two_new W (.cells #[.nilIface] 27) (.cells #[.bool false] 4);obtain⟨W2,hW2⟩:∃W2,(W.alloc (.cells #[.nilIface] 27)).alloc (.cells #[.bool false] 4)=W2:=⟨_,rfl⟩;rw [hW2] at hb2;have h2:=h.read hb2;have k5:=keepc hb2 c5;have k8:=keepc hb2 c8;have z0:=h.bel.size;obtain⟨T',hqo⟩:=h2.qow;have hZ:=PB.ft h.oZ.2.2
 have hr:rdy Y n1 q=true:=by
  cases e:rdy Y n1 q with
  | true=>rfl
  | false=>rw [e,sG_no] at hg;cases hg
 have htl:∀b∈Y.tall,b<W.heap.size:=fun b hb=>h.ls.da.lts b (h.ls.da.tin b hb)
 have hS:=h2.ls.da.step_on hq h2.ls.mt h2.ok.1 (unitE_no m h2.ok.2) h2.ls.hB.1 (fun e=>(h2.ls.sp _ e).2.2.2.2.2 rfl)
 have hfs:∀b∈Bm::fp,w0.heap.size≤b∧b≠R∧b≠E∧b≠G∧b∉Y.rall:=fun b hb=>by
  rcases List.mem_cons.1 hb with rfl|hb
  ·exact h.ls.hB
  ·have q:=h.ls.sp b hb
   exact⟨q.1,q.2.1,q.2.2.1,q.2.2.2.1,q.2.2.2.2.1⟩
 have hst := nclo_any (X5 := X5) (X8 := X8) (Xi := Xi) (Bm := Bm) (w := W2) (X := X) (R := fun _ _ => False) (Q := fun l w1 => l = thrown (raisedV (a "ambler/api.ErrBroken")) ∧ Past (Bm :: fp) W2 w1 ∧ ∃ t', Real a w0 Y t' w1) (step_or h2.row (hS.mono fun e w1 hx => by
  rcases hx with⟨hf,_⟩|⟨_,he,hp,hre⟩
  ·rw [hg] at hf;cases hf
  ·exact .inr ⟨_,he,rfl,hp,hre⟩)) k5 k8 (fun b w1 hx=>hx.elim)
 have C:=catch_all a 10 28 #[.pointer (some ⟨X5,0,none⟩),.pointer (some ⟨X8,0,none⟩),.pointer (some ⟨Xi,0,none⟩)] (fnN _) (Xi::Bm::fp) (fun W1=>Rd w0 R E G c d (q-(Y.N-1)*n1) ((Y.N-1)*n1-q) false Y t k W1∧(∃t',Real a w0 Y t' W1)∧QRow Z p d kd T' (some ⟨R,0,none⟩) W1) W (fun b hb=>(hxl b hb).1) (fun wx hp=>(hw.below (h.bel.trans (hp.below h.bel.size fun b hb=>(hxl b hb).2))).errs)
  (fun w1 w2 ⟨hrd,⟨t',hre⟩,hqz⟩ he => by
   have two:∀b∈[W.heap.size,W.heap.size+1],W.heap.size≤b:=fun b hb=>by
    have hb':b=W.heap.size∨b=W.heap.size+1:=by simpa using hb
    omega
   have hlt:=h.lts;refine⟨hrd.aside he fun b hb=>?_,⟨t',hre.past he fun b hb=>⟨Nat.le_trans z0 (two b hb),fun e=>?_⟩⟩,hqz.past he fun e=>?_⟩
   ·have:=two b hb
    have f1:=PB.ft (h.two hb |>.2.1 |> fun q=>fun e=>q (List.mem_cons_of_mem _ (List.mem_cons_of_mem _ (List.mem_cons_of_mem _ e))));exact⟨by omega,f1.2.1,f1.2.2.1,fun e=>(h.two hb).2.1 (by simp [FB,e]),f1.2.2.2.2⟩
   ·have:=two b hb
    have:=htl b e;omega
   ·have:=two Z e
    have:=hlt Z (by simp [FB])
    omega) (by
   rw [hW2];refine hst.mono fun e w' hx=>?_
   rcases hx with⟨_,_,_,hx,_⟩|⟨l,he,rfl,hp,hre⟩
   ·exact hx.elim
   ·rw [he]
    refine⟨Ends.raised 9 (by decide),hp.mono fun x hx=>List.mem_cons_of_mem _ hx,h2.ls.rd.aside hp hfs,hre,hqo.past hp fun e=>h.oZ.2.2 (ft_real e)⟩)
 refine C.mono fun e w' ⟨he,hp,hrd,⟨t',hre⟩,hqz⟩=>⟨he,hre.bel,fun W' hb=>⟨(hqz.keep hb).c4, ?_⟩⟩
 have hst':∀b∈Y.tall,b∉Y.rall:=fun b hb=>(h.ls.sp b (h.ls.da.tin b hb)).2.2.2.2.1
 have oE:E∉Y.tall:=fun e=>(h.ls.sp E (h.ls.da.tin E e)).2.2.1 rfl
 have oG:G∉Y.tall:=fun e=>(h.ls.sp G (h.ls.da.tin G e)).2.2.2.1 rfl
 refine (rbreak (hrd.read hb) rfl rfl hr (hre.read hb) hst' oE oG h.ls.hR.2 hq hg (by omega)).mono fun e w'' ⟨he,hpd⟩=>⟨he,(hre.read hb).bel.trans (hpd.below (hre.read hb).bel.size fun b hb'=>?_)⟩
 rcases List.mem_cons.1 hb' with rfl|hb'
 ·exact h.ls.hR.2
 ·exact h.ls.rd.wn.ge hb'
theorem PB.catch_done(h:PB a w0 H la X Z Bm p d kd Y D n1 dp R E G c q t fp (q-(Y.N-1)*n1) ((Y.N-1)*n1-q) t k m W)(hw:Base a w0)(hK:∀b∈KL,b∉FB X Z G Y R E Bm fp)(hKi:Xi∉KL)(hX0:w0.heap.size≤Xi)(hXi:Xi∉FB X Z G Y R E Bm fp)(ci:Var Xi (.bool false) W)(c5:W.cell? ⟨X5,0,none⟩=some (.pointer (some ⟨X,0,none⟩)))(c8:W.cell? ⟨X8,0,none⟩=some (.pointer (some ⟨Bm,0,none⟩)))(hq:q=Y.n 0+(Y.N-1)*n1) :
  Calls Tryz.prog 27 #[.func (.func 28) #[] #[.pointer (some ⟨X5,0,none⟩),.pointer (some ⟨X8,0,none⟩),.pointer (some ⟨Xi,0,none⟩)]] W fun e w'=>e=.returned (errAt a 0)∧Var Xi (.bool false) w'∧PK KL W w'∧∀W',Below w'.heap.size w' W' →
   W'.cell? ⟨Z,4,none⟩=some (.pointer (some ⟨R,0,none⟩))∧Calls Tryz.prog 30 #[.pointer (some ⟨R,0,none⟩)] W' fun e w''=>e=.returned (.tuple #[.bool false,.bool false])∧Below W'.heap.size W' w''∧NB a w0 H la X Z Bm p d (sumK Y.N k) (Xi::KL) w'':=by
 obtain⟨hxl,hxn⟩:=h.xi hX0 hXi ci.lt;have hb2:=two_new W (.cells #[.nilIface] 27) (.cells #[.bool false] 4);obtain⟨W2,hW2⟩:∃W2,(W.alloc (.cells #[.nilIface] 27)).alloc (.cells #[.bool false] 4)=W2:=⟨_,rfl⟩;rw [hW2] at hb2;have h2:=h.read hb2;have ci2:=ci.below hb2;have hst:=nclo_any (X5:=X5) (X8:=X8) (Xi:=Xi) (Bm:=Bm) (w:=W2) (X:=X) (R:=fun b w1=>b=false∧Below W2.heap.size W2 w1) (Q:=fun _ _=>False) (step_or h2.row ((h2.ls.da.step_off hq _).mono fun e w1 ⟨he,hb⟩=>.inl ⟨false,he,rfl,hb⟩)) (keepc hb2 c5) (keepc hb2 c8) (fun b w1 hx=>ci2.below hx.2)
 have C:=catch_all a 0 28 #[.pointer (some ⟨X5,0,none⟩),.pointer (some ⟨X8,0,none⟩),.pointer (some ⟨Xi,0,none⟩)] (fnN _) (Xi::Bm::fp) (fun W1=>Var Xi (.bool false) W1∧PB a w0 H la X Z Bm p d kd Y D n1 dp R E G c q t fp (q-(Y.N-1)*n1) ((Y.N-1)*n1-q) t k m W1) W (fun b hb=>(hxl b hb).1) (fun wx hp=>(hw.below (h.bel.trans (hp.below h.bel.size fun b hb=>(hxl b hb).2))).errs)
  (fun w1 w2 ⟨hv,hP⟩ he => ⟨hv.past he (by have:=ci.lt; simp only [List.mem_cons,List.not_mem_nil,or_false]; omega),hP.aside he (fun b hb => ⟨(h.two hb).1,(h.two hb).2.1⟩)⟩) (by
   rw [hW2];refine hst.mono fun e w' hx=>?_
   rcases hx with⟨b,w1,he,⟨rfl,hb⟩,hw'⟩|⟨_,_,hx⟩
   ·rw [he,hw']
    refine⟨Ends.back,(Past.of hb).store (.inl (by simp)) _,(ci2.below hb).set _,(h2.read hb).aside (l:=[Xi]) ((Past.refl [Xi] w1).store (.inl (by simp)) _) (fun b hb=>?_)⟩;obtain rfl:b=Xi:=by simpa using hb
    exact⟨hX0,hXi⟩
   ·exact hx.elim)
 refine C.mono fun e w' ⟨he,hp,hv,hP⟩=>⟨he,hv,⟨_,hp,fun b hb e=>?_⟩,fun W' hb=>?_⟩
 ·rcases List.mem_cons.1 e with e|e
  ·exact hKi (e ▸ hb)
  ·exact hK b hb (List.mem_cons_of_mem _ (List.mem_cons_of_mem _ (List.mem_cons_of_mem _ (ft_real e))))
 ·have h3:=hP.read hb
  obtain⟨T',hqo⟩:=h3.qow;exact⟨hqo.c4,(h3.ls.rstop rfl rfl hq).mono fun e w'' ⟨he,hl,hbd⟩=>⟨he,hbd,kd,Y,D,n1,dp,R,E,G,c,q,t,fp,k,m,h3.read hbd,Nat.le_refl _,fun b hb'=>(List.mem_cons.1 hb').elim (fun e=>e ▸ hXi) (hK b)⟩⟩
end
end node
namespace node
attribute [local go_sem] Oper.semAt_some stage.pureUpon move.stepUpon movex.stepUpon
section
variable {a:String→Addr} {w0:World} {H:Nat→Nat} {la X Z Bm p d n T B:Nat} {f:Rf} {t:Tb} {k:Nat} {W W':World} {KL:List Nat} {X5 X8 Xi:Nat}
theorem PI.lts(h:PI a w0 H la X Z Bm p d n T B f t t k W):∀b∈FI X Z Bm T B n f,b<W.heap.size:=fun b hb=>by
 have hT:TAt T B t W:=h.re.at' 0 Nat.one_pos;have hw:=fun b (hb:b∈f.d t.n∨b=f.G)=>h.wa.lts hb
 rw [h.tn] at hw;simp only [FI,List.mem_cons] at hb
 rcases hb with e|e|e|e|e|e|e
 ·rw [e];exact h.row.lt
 ·rw [e];exact h.qow.lt
 ·rw [e];exact h.gm.lt
 ·rw [e];exact hT.lt
 ·rw [e];exact hT.lb
 ·exact hw b (.inr e)
 ·exact hw b (.inl e)
theorem PI.aside{l:List Nat}{u:Tb}(h:PI a w0 H la X Z Bm p d n T B f t u k W)(hp:Past l W W')(hl:∀b∈l,w0.heap.size≤b∧b∉FI X Z Bm T B n f):PI a w0 H la X Z Bm p d n T B f t u k W':=by
 have q:∀b∈l,b≠X∧b≠Z∧b≠Bm∧b≠T∧b≠B∧b≠f.G∧b∉f.d n:=fun b hb=>by
  have:=(hl b hb).2;simp only [FI,List.mem_cons,not_or] at this;exact this
 refine⟨h.re.past hp fun b hb=>⟨(hl b hb).1,fun e=>?_⟩,h.wa.past hp fun b hb e=>?_,h.uok,h.un,h.row.past hp fun e=>(q _ e).1 rfl,h.qow.past hp fun e=>(q _ e).2.1 rfl,h.gm.past hp fun e=>(q _ e).2.2.1 rfl,h.fB,h.oX,h.oZ,h.oB,h.xz,h.rep⟩
 ·rcases lay1_tall e with e|e
  ·exact (q _ hb).2.2.2.1 e
  ·exact (q _ hb).2.2.2.2.1 e
 ·rw [h.un] at hb
  rcases hb with hb|hb
  ·exact (q _ e).2.2.2.2.2.2 hb
  ·exact (q _ e).2.2.2.2.2.1 hb
theorem PI.catch(h:PI a w0 H la X Z Bm p d n T B f t t k W)(hw:Base a w0)(hKi:Xi∉KL)(hX0:w0.heap.size≤Xi)(hXi:Xi∉FI X Z Bm T B n f)(ci:Var Xi (.bool false) W)(c5:W.cell? ⟨X5,0,none⟩=some (.pointer (some ⟨X,0,none⟩)))(c8:W.cell? ⟨X8,0,none⟩=some (.pointer (some ⟨Bm,0,none⟩))) :
  Calls Tryz.prog 27 #[.func (.func 28) #[] #[.pointer (some ⟨X5,0,none⟩),.pointer (some ⟨X8,0,none⟩),.pointer (some ⟨Xi,0,none⟩)]] W fun e w'=>e=.returned (errAt a 0)∧Var Xi (.bool false) w'∧PK KL W w'∧PI a w0 H la X Z Bm p d n T B f t t k w':=by
 have hb2:=two_new W (.cells #[.nilIface] 27) (.cells #[.bool false] 4);obtain⟨W2,hW2⟩:∃W2,(W.alloc (.cells #[.nilIface] 27)).alloc (.cells #[.bool false] 4)=W2:=⟨_,rfl⟩;rw [hW2] at hb2;have h2:=h.read hb2;have ci2:=ci.below hb2;have z0:=h.bel.size;have hlt:=h.lts;have hst:=nclo_any (X5:=X5) (X8:=X8) (Xi:=Xi) (Bm:=Bm) (w:=W2) (X:=X) (R:=fun b w1=>b=false∧W2=w1) (Q:=fun _ _=>False) ((step_off h2.row _).mono fun e w1 ⟨he,hw⟩=>.inl ⟨false,he,rfl,hw⟩) (keepc hb2 c5) (keepc hb2 c8) (fun b w1 hx=>hx.2 ▸ ci2)
 have hxd:∀b∈[Xi],b<W.heap.size:=fun b hb=>by
  have:=ci.lt;obtain rfl:b=Xi:=by simpa using hb
  exact this
 have hxe:∀wx,Past [Xi] W wx→errs.ErrsOk errs.names a wx:=fun wx hp=>(hw.below (h.bel.trans (hp.below h.bel.size fun b hb=>by
  obtain rfl:b=Xi:=by simpa using hb
  exact hX0))).errs
 have C:=catch_all a 0 28 #[.pointer (some ⟨X5,0,none⟩),.pointer (some ⟨X8,0,none⟩),.pointer (some ⟨Xi,0,none⟩)] (fnN _) [Xi] (fun W1=>Var Xi (.bool false) W1∧PI a w0 H la X Z Bm p d n T B f t t k W1) W hxd hxe
  (fun w1 w2 ⟨hv,hP⟩ he => ⟨hv.past he (by have:=ci.lt; simp only [List.mem_cons,List.not_mem_nil,or_false]; omega),hP.aside he (fun b hb => by
   have hb':b=W.heap.size∨b=W.heap.size+1:=by simpa using hb
   exact⟨by omega,fun e=>by have:=hlt b e;omega⟩)⟩) (by
   rw [hW2];refine hst.mono fun e w' hx=>?_
   rcases hx with⟨b,w1,he,⟨rfl,rfl⟩,hw'⟩|⟨_,_,hx⟩
   ·rw [he,hw']
    refine⟨Ends.back,(Past.refl [Xi] W2).store (.inl (by simp)) _,ci2.set _,h2.aside (l:=[Xi]) ((Past.refl [Xi] W2).store (.inl (by simp)) _) (fun b hb=>?_)⟩;obtain rfl:b=Xi:=by simpa using hb
    exact⟨hX0,hXi⟩
   ·exact hx.elim)
 exact C.mono fun e w' ⟨he,hp,hv,hP⟩=>⟨he,hv,⟨_,hp,fun b hb e=>hKi (by simp only [List.mem_singleton] at e;exact e ▸ hb)⟩,hP⟩
theorem eq_same4(a b c e:Int)(w:World):(Op.equalIn 10000 116 (.agg #[.int .i64 a,.int .i64 b,.int .i64 c,.int .i64 e]) (.agg #[.int .i64 a,.int .i64 b,.int .i64 c,.int .i64 e])).run Tryz.prog w=.ok true w:=by
 obtain⟨i,hi⟩:=Option.isSome_iff_exists.1 (show (Tryz.prog.info? 3).isSome=true by kernel_rfl);rw [show (10000:Nat)=9998+1+1 from rfl,run_equalIn_array w (9998+1) _ _ Tryz.underlying116 hi,show Tryz.prog.cellsOf 3=1 by kernel_rfl];have e:List.range 4=[0,1,2,3]:=by decide
 rw [e]
 simp [Op.eqItems,part,go_sem,Tryz.underlying3,run_equalIn_int]
set_option maxRecDepth 20000 in
set_option maxHeartbeats 1000000 in
theorem PI.same(h:PI a w0 H la X Z Bm p d n T B f t t k W)(g:Int) :
  Calls Tryz.prog 26 #[.pointer (some ⟨X,0,none⟩),.pointer (some ⟨Z,0,none⟩),.int .i64 g] W fun e w'=>e=.returned (.bool true)∧Below W.heap.size W w':=by
 have HH:=Lib.hid h;have ok:t.Ok:=h.re.ok 0 Nat.one_pos;have hn64:=okN_le ok.n;have hl:t.len=(cntT 3 t:Nat):=ok.len;have ht:t.tombs=(cntT 2 t:Nat):=ok.tombs;have cP:=fun W' (hb:Below W.heap.size W W')=>pref_any (HH.out.read hb).row
 have cN:=fun W' (hb:Below W.heap.size W W')=>rnum_off (HH.out.read hb).qow (HH.out.read hb).wa hn64
 have cW:=fun W' (hb:Below W.heap.size W W')=>wants_off (HH.out.read hb).row ((HH.out.read hb).re.at' 0 Nat.one_pos) ok g
 have cV:=fun W' (hb:Below W.heap.size W W')=>rwants_off (HH.out.read hb).qow (HH.out.read hb).wa hn64 g
 rw [hl,ht] at cW;clear h
 go_enter Tryz.func26,Tryz.ntmps26
 go_wp2_with (first
  | (go_at_call 9;refine (cP _ (Below.refl _ _)).mono ?_;rintro e w1 ⟨rfl,hb1⟩)
  | (go_at_call 59;refine (cN _ hb1).mono ?_;rintro e w2 ⟨rfl,hb2⟩))
 have hA:=World.alloc_heap_new w2 (.cells #[.int .i64 (cntT 3 t:Nat),.int .i64 (cntT 2 t:Nat),.int .i64 (t.n:Nat),.int .i64 0] 116);have hlA:w2.heap.size<(w2.alloc (.cells #[.int .i64 (cntT 3 t:Nat),.int .i64 (cntT 2 t:Nat),.int .i64 (t.n:Nat),.int .i64 0] 116)).heap.size:=by rw [World.size_alloc];omega
 have hb3:=under.below_step (under.below_step hb1 hb2) (new_block w2 (.cells #[.int .i64 (cntT 3 t:Nat),.int .i64 (cntT 2 t:Nat),.int .i64 (t.n:Nat),.int .i64 0] 116));generalize w2.alloc (.cells #[.int .i64 (cntT 3 t:Nat),.int .i64 (cntT 2 t:Nat),.int .i64 (t.n:Nat),.int .i64 0] 116)=w3 at *
 generalize hX2:w2.heap.size=X2 at *
 clear cP cN hX2;obtain⟨wk,hwk⟩:∃x,choose.wh (cntT 3 t) (cntT 2 t) t.n d g=x:=⟨_,rfl⟩;obtain⟨db,hdb⟩:∃x,choose.db (cntT 3 t) (cntT 2 t) t.n d g=x:=⟨_,rfl⟩;rw [hwk,hdb] at cW cV;clear hwk hdb
 go_upto_region 5 with (first
  | (go_at_call 32;refine (cW _ hb3).mono ?_;rintro e w4 ⟨rfl,hb4⟩)
  | (go_at_call 21;refine (cV _ (under.below_step hb3 hb4)).mono ?_;rintro e w5 ⟨rfl,hb5⟩))
 have hb6:=under.below_step (under.below_step hb3 hb4) hb5;have H6:=Lib.hid (HH.out.read hb6);have hAr:=(under.below_step hb4 hb5).block X2 hlA;rw [hA] at hAr;have q0:w5.cell? ⟨X2,0,none⟩=some (.int .i64 (cntT 3 t:Nat)):=by rw [cell_of_row _ _ _ _ _ _ hAr];rfl
 have q1:w5.cell? ⟨X2,1,none⟩=some (.int .i64 (cntT 2 t:Nat)):=by rw [cell_of_row _ _ _ _ _ _ hAr];rfl
 have q2:w5.cell? ⟨X2,2,none⟩=some (.int .i64 (t.n:Nat)):=by rw [cell_of_row _ _ _ _ _ _ hAr];rfl
 have q3:w5.cell? ⟨X2,3,none⟩=some (.int .i64 0):=by rw [cell_of_row _ _ _ _ _ _ hAr];rfl
 have y0:=Under.cell q0;have y1:=Under.cell q1;have y2:=Under.cell q2;have y3:=Under.cell q3;have z0:=Under.cell H6.out.qow.c0;have z1:=Under.cell H6.out.qow.c1;have z2:=Under.cell H6.out.qow.c2;have z4:=Under.cell H6.out.qow.c4;have hn0:=rd_none;have hq4:=eq_same4;have cJ:=fun (x:Under w5)=>job_any (H6.out.row.keep x.below)
 have cL:=fun (x:Under w5)=>len_off (H6.out.row.keep x.below) ((H6.out.read x.below).re.at' 0 Nat.one_pos)
 have cT:=fun (x:Under w5)=>tombs_off (H6.out.row.keep x.below) ((H6.out.read x.below).re.at' 0 Nat.one_pos)
 have cG:=fun (x:Under w5)=>groups_off (H6.out.row.keep x.below) ((H6.out.read x.below).re.at' 0 Nat.one_pos)
 have cF:=fun (x:Under w5)=>left_off (H6.out.row.keep x.below)
 have cD:=fun (x:Under w5)=>done_off (H6.out.row.keep x.below)
 rw [hl] at cL;rw [ht] at cT;clear cW cV hA hAr q0 q1 q2 q3 hb3 hb4 hb5 hlA hl ht;generalize cntT 3 t=x3 at *
 generalize cntT 2 t=x2 at *
 generalize t.n=xn at *
 refine wp_region_under (by kernel_rfl) (by kernel_rfl) ?_
 repeat (go_big_quiet_step (first
   | (go_at_call 71;(with_reducible refine under_same (cJ _)))
   | (go_at_call 35;(with_reducible refine under_same (cL _)))
   | (go_at_call 72;(with_reducible refine under_same (cT _)))
   | (go_at_call 34;(with_reducible refine under_same (cG _)))
   | (go_at_call 73;(with_reducible refine under_same (cF _)))
   | (go_at_call 33;(with_reducible refine under_same (cD _)))))
 refine wpQuiet_nil ?_;intro wz hwz;obtain⟨z9,rfl⟩:=hwz;have hbz:=under.below_step hb6 z9.below;clear cJ cL cT cG cF cD y0 y1 y2 y3 z0 z1 z2 z4 H6;generalize z9.W=w9 at *
 go_wp2
 go_ret
 exact⟨rfl,hbz⟩
end
section
variable {a:String→Addr} {w0:World} {H:Nat→Nat} {la X Z Bm p d:Nat} {kd:Int} {Y:Lay} {D n1:Nat} {dp:Int} {R E G c q q':Nat} {t t' u u':Nat→Tb} {fp fp':List Nat} {nx br nx' br':Nat} {k k':Nat→Nat} {m m':Mt} {W W' W'':World} {KL:List Nat}
set_option maxRecDepth 20000 in
set_option maxHeartbeats 1000000 in
theorem PB.same(h:PB a w0 H la X Z Bm p d kd Y D n1 dp R E G c q t fp (q-(Y.N-1)*n1) ((Y.N-1)*n1-q) t k m W)(g:Int) :
  Calls Tryz.prog 26 #[.pointer (some ⟨X,0,none⟩),.pointer (some ⟨Z,0,none⟩),.int .i64 g] W fun e w'=>e=.returned (.bool true)∧Below W.heap.size W w':=by
 obtain⟨T',hqo⟩:=h.qow;have HQ:=Lib.hid hqo;have HH:=Lib.hid h;have hN2:=h.ls.da.N;have hsm:=h.ls.da.small;have hsn:=h.ls.da.sumn;have eN:=h.ls.da.ents;have eL:=h.ls.da.lenA;obtain⟨L,hL⟩:∃L,Y.n 0+(Y.N-1)*n1-q=L:=⟨_,rfl⟩;obtain⟨gs,hgs⟩:∃gs,Y.n 0+(Y.N-1)*n1=gs:=⟨_,rfl⟩;obtain⟨x3,hx3⟩:∃x3,(entsA t Y.N).length=x3:=⟨_,rfl⟩;have cP:=fun W' (hb:Below W.heap.size W W')=>pref_any (HH.out.read hb).row
 have cN:=fun W' (hb:Below W.heap.size W W')=>rnum_on (len:=x3) (gs:=gs) (x:=L) (HQ.out.keep hb) (fun W1 hb1=>((HH.out.read hb).read hb1).ls.rd.groups.mono fun e w1 ⟨he,hw⟩=>by
  rw [hsn,hgs] at he
  exact⟨⟨_,he⟩,hw⟩) (fun W1 hb1=>((HH.out.read hb).read hb1).ls.rd.all.mono fun e w1 ⟨v,he,hK,hb2⟩=>by
  obtain⟨o,cc,hv,_⟩:=hK.rows
  exact⟨o,cc,by rw [he,hv,hx3],hb2⟩) (fun W1 hb1=>((HH.out.read hb).read hb1).left.mono fun e w1 ⟨he,hb2⟩=>⟨by rw [he,hL],hb2⟩)
 have cW:=fun W' (hb:Below W.heap.size W W')=>(wants_on (HH.out.read hb).row g).mono (R':=fun e w'=>e=.returned (.tuple #[.int .i64 0,.bool false])∧Below W'.heap.size W' w') fun e w' ⟨he,hw⟩=>⟨he,hw ▸ Below.refl _ _⟩
 have cV:=fun W' (hb:Below W.heap.size W W')=>rwants_on (HQ.out.keep hb) g
 clear h hqo
 go_enter Tryz.func26,Tryz.ntmps26
 go_wp2_with (first
  | (go_at_call 9;refine (cP _ (Below.refl _ _)).mono ?_;rintro e w1 ⟨rfl,hb1⟩)
  | (go_at_call 59;refine (cN _ hb1).mono ?_;rintro e w2 ⟨rfl,hb2⟩))
 have hA:=World.alloc_heap_new w2 (.cells #[.int .i64 (x3:Nat),.int .i64 0,.int .i64 (gs:Nat),.int .i64 (L:Nat)] 116);have hlA:w2.heap.size<(w2.alloc (.cells #[.int .i64 (x3:Nat),.int .i64 0,.int .i64 (gs:Nat),.int .i64 (L:Nat)] 116)).heap.size:=by rw [World.size_alloc];omega
 have hb3:=under.below_step (under.below_step hb1 hb2) (new_block w2 (.cells #[.int .i64 (x3:Nat),.int .i64 0,.int .i64 (gs:Nat),.int .i64 (L:Nat)] 116));generalize w2.alloc (.cells #[.int .i64 (x3:Nat),.int .i64 0,.int .i64 (gs:Nat),.int .i64 (L:Nat)] 116)=w3 at *
 generalize hX2:w2.heap.size=X2 at *
 clear cP cN hX2
 go_upto_region 5 with (first
  | (go_at_call 32;refine (cW _ hb3).mono ?_;rintro e w4 ⟨rfl,hb4⟩)
  | (go_at_call 21;refine (cV _ (under.below_step hb3 hb4)).mono ?_;rintro e w5 ⟨rfl,hb5⟩))
 have hb6:=under.below_step (under.below_step hb3 hb4) hb5;have H6:=Lib.hid (HH.out.read hb6);have hAr:=(under.below_step hb4 hb5).block X2 hlA;rw [hA] at hAr;have q0:w5.cell? ⟨X2,0,none⟩=some (.int .i64 (x3:Nat)):=by rw [cell_of_row _ _ _ _ _ _ hAr];rfl
 have q1:w5.cell? ⟨X2,1,none⟩=some (.int .i64 0):=by rw [cell_of_row _ _ _ _ _ _ hAr];rfl
 have q2:w5.cell? ⟨X2,2,none⟩=some (.int .i64 (gs:Nat)):=by rw [cell_of_row _ _ _ _ _ _ hAr];rfl
 have q3:w5.cell? ⟨X2,3,none⟩=some (.int .i64 (L:Nat)):=by rw [cell_of_row _ _ _ _ _ _ hAr];rfl
 have y0:=Under.cell q0;have y1:=Under.cell q1;have y2:=Under.cell q2;have y3:=Under.cell q3;have z0:=Under.cell (HQ.out.keep hb6).c0;have z1:=Under.cell (HQ.out.keep hb6).c1;have z2:=Under.cell (HQ.out.keep hb6).c2;have z4:=Under.cell (HQ.out.keep hb6).c4;have hn0:=rd_some;have hq4:=eq_same4;have cJ:=fun (x:Under w5)=>job_any (H6.out.row.keep x.below)
 have cL:=fun (x:Under w5)=>len_on (x:=(x3:Nat)) (H6.out.row.keep x.below) (by
  have hl:=(H6.out.read x.below).ls.da.len;rw [eL,hx3] at hl
  exact hl)
 have cT:=fun (x:Under w5)=>tombs_on (H6.out.row.keep x.below)
 have cG:=fun (x:Under w5)=>groups_on (x:=(gs:Nat)) (H6.out.row.keep x.below) (by
  have hl:=(H6.out.read x.below).ls.da.groups;rw [hgs] at hl
  exact hl)
 have cF:=fun (x:Under w5)=>left_on (x:=(L:Nat)) (H6.out.row.keep x.below) (by
  have hl:=(H6.out.read x.below).ls.da.left;rw [hL] at hl
  exact hl)
 have cD:=fun (x:Under w5)=>done_on (x:=(L:Nat)) (H6.out.row.keep x.below) (by
  have hl:=(H6.out.read x.below).ls.da.left;rw [hL] at hl
  exact hl)
 clear cW cV hA hAr q0 q1 q2 q3 hb3 hb4 hb5 hlA;refine wp_region_under (by kernel_rfl) (by kernel_rfl) ?_
 repeat (go_big_quiet_step (first
   | (go_at_call 71;(with_reducible refine under_same (cJ _)))
   | (go_at_call 35;(with_reducible refine under_same (cL _)))
   | (go_at_call 72;(with_reducible refine under_same (cT _)))
   | (go_at_call 34;(with_reducible refine under_same (cG _)))
   | (go_at_call 73;(with_reducible refine under_call (cF _)))
   | (go_at_call 33;(with_reducible refine under_call (cD _)))))
 refine wpQuiet_nil ?_;intro wz hwz;obtain⟨z9,rfl⟩:=hwz;have hbz:=under.below_step hb6 z9.below;clear cJ cL cT cG cF cD y0 y1 y2 y3 z0 z1 z2 z4 H6;generalize z9.W=w9 at *
 go_wp2
 go_ret
 exact⟨rfl,hbz⟩
end
end node
end Go.Proofs.YtdplhgpeggcmdaaGreatDoor
