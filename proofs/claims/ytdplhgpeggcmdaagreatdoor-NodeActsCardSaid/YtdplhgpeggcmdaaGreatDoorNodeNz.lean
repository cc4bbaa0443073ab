/- NodeNz: facts and laws for the walks. -/
import Derived.Test.YtdplhgpeggcmdaaGreatDoorNodePj
import Derived.Test.YtdplhgpeggcmdaaGreatDoorNodeMem
namespace Go.Proofs.YtdplhgpeggcmdaaGreatDoor
set_option linter.unusedSimpArgs false
set_option linter.unusedVariables false
namespace node
open Go.ChangeShapes Go.WideShapes Go.ChangeAt Go.RowKit Go.Shelf swar under trap meter group probe lens tail call table evac dual
structure NP(a:String→Addr)(w0:World)(H:Nat→Nat)(la X Z Bm p d j:Nat)(KL:List Nat)(W:World):Prop where
 st:NI a w0 H la X Z Bm p d j KL W∨NB a w0 H la X Z Bm p d j KL W
 kl:∀b∈KL,b<W.heap.size
 d5:d≤5
 p2:p<2^d
section
variable {a:String→Addr} {w0:World} {H:Nat→Nat} {la X Z Bm p d j j':Nat} {KL KL':List Nat} {W W':World}
theorem PK.size(h:PK KL W W'):W.heap.size≤W'.heap.size:=by obtain⟨l,hp,_⟩:=h;exact hp.size
theorem PK.lts(h:PK KL W W')(hk:∀b∈KL,b<W.heap.size):∀b∈KL,b<W'.heap.size:=fun b hb=>Nat.lt_of_lt_of_le (hk b hb) h.size
theorem NI.up(h:NI a w0 H la X Z Bm p d j KL W)(hj:j≤j'):NI a w0 H la X Z Bm p d j' KL W:=by
 obtain⟨n,T,B,f,t,k,h,hk,hK⟩:=h;exact⟨n,T,B,f,t,k,h,by omega,hK⟩
theorem NB.up(h:NB a w0 H la X Z Bm p d j KL W)(hj:j≤j'):NB a w0 H la X Z Bm p d j' KL W:=by
 obtain⟨kd,Y,D,n1,dp,R,E,G,c,q,t,fp,k,m,h,hk,hK⟩:=h;exact⟨kd,Y,D,n1,dp,R,E,G,c,q,t,fp,k,m,h,by omega,hK⟩
theorem NP.up(h:NP a w0 H la X Z Bm p d j KL W)(hj:j≤j'):NP a w0 H la X Z Bm p d j' KL W:=⟨h.st.imp (·.up hj) (·.up hj),h.kl,h.d5,h.p2⟩
theorem NI.bel(h:NI a w0 H la X Z Bm p d j KL W):Below w0.heap.size w0 W:=by obtain⟨n,T,B,f,t,k,h,_⟩:=h;exact h.bel
theorem NB.bel(h:NB a w0 H la X Z Bm p d j KL W):Below w0.heap.size w0 W:=by obtain⟨kd,Y,D,n1,dp,R,E,G,c,q,t,fp,k,m,h,_⟩:=h;exact h.bel
theorem NP.bel(h:NP a w0 H la X Z Bm p d j KL W):Below w0.heap.size w0 W:=h.st.elim (·.bel) (·.bel)
theorem NI.read(h:NI a w0 H la X Z Bm p d j KL W)(hb:Below W.heap.size W W'):NI a w0 H la X Z Bm p d j KL W':=by
 obtain⟨n,T,B,f,t,k,h,hk,hK⟩:=h;exact⟨n,T,B,f,t,k,h.read hb,hk,hK⟩
theorem NB.read(h:NB a w0 H la X Z Bm p d j KL W)(hb:Below W.heap.size W W'):NB a w0 H la X Z Bm p d j KL W':=by
 obtain⟨kd,Y,D,n1,dp,R,E,G,c,q,t,fp,k,m,h,hk,hK⟩:=h;exact⟨kd,Y,D,n1,dp,R,E,G,c,q,t,fp,k,m,h.read hb,hk,hK⟩
theorem NP.read(h:NP a w0 H la X Z Bm p d j KL W)(hb:Below W.heap.size W W'):NP a w0 H la X Z Bm p d j KL W':=⟨h.st.imp (·.read hb) (·.read hb),fun b hb'=>Nat.lt_of_lt_of_le (h.kl b hb') hb.size,h.d5,h.p2⟩
theorem NP.also(h:NP a w0 H la X Z Bm p d j KL W)(hK:∀b∈KL',b∈KL∨W.heap.size≤b)(hl:∀b∈KL',b<W'.heap.size)(hb:Below W.heap.size W W'):NP a w0 H la X Z Bm p d j KL' W':=by
 refine⟨?_,hl,h.d5,h.p2⟩
 rcases h.st with⟨n,T,B,f,t,k,h,hk,hK'⟩|⟨kd,Y,D,n1,dp,R,E,G,c,q,t,fp,k,m,h,hk,hK'⟩
 ·refine .inl ⟨n,T,B,f,t,k,h.read hb,hk,fun b hb' e=>?_⟩
  rcases hK b hb' with h1|h1
  ·exact hK' b h1 e
  ·have:=h.lts b e;omega
 ·refine .inr ⟨kd,Y,D,n1,dp,R,E,G,c,q,t,fp,k,m,h.read hb,hk,fun b hb' e=>?_⟩
  rcases hK b hb' with h1|h1
  ·exact hK' b h1 e
  ·have:=h.lts b e;omega
theorem NP.aside{l:List Nat}(h:NP a w0 H la X Z Bm p d j KL W)(hp:Past l W W')(hl:∀b∈l,w0.heap.size≤b∧(b∈KL∨W.heap.size≤b)):NP a w0 H la X Z Bm p d j KL W':=by
 refine⟨?_,fun b hb'=>Nat.lt_of_lt_of_le (h.kl b hb') hp.size,h.d5,h.p2⟩
 rcases h.st with⟨n,T,B,f,t,k,h,hk,hK'⟩|⟨kd,Y,D,n1,dp,R,E,G,c,q,t,fp,k,m,h,hk,hK'⟩
 ·refine .inl ⟨n,T,B,f,t,k,h.aside hp fun b hb=>⟨(hl b hb).1,fun e=>?_⟩,hk,hK'⟩
  rcases (hl b hb).2 with h1|h1
  ·exact hK' b h1 e
  ·have:=h.lts b e;omega
 ·refine .inr ⟨kd,Y,D,n1,dp,R,E,G,c,q,t,fp,k,m,h.aside hp fun b hb=>⟨(hl b hb).1,fun e=>?_⟩,hk,hK'⟩
  rcases (hl b hb).2 with h1|h1
  ·exact hK' b h1 e
  ·have:=h.lts b e;omega
theorem NP.pref(h:NP a w0 H la X Z Bm p d j KL W):Calls Tryz.prog 9 #[.pointer (some ⟨X,0,none⟩)] W fun e w'=>e=.returned (.tuple #[.int .i64 (p:Nat),.int .i64 (d:Nat)])∧Below W.heap.size W w':=by
 rcases h.st with⟨n,T,B,f,t,k,h,hk,hK'⟩|⟨kd,Y,D,n1,dp,R,E,G,c,q,t,fp,k,m,h,hk,hK'⟩
 ·exact pref_any h.row
 ·exact pref_any h.row
theorem NP.same(h:NP a w0 H la X Z Bm p d j KL W)(g:Int):Calls Tryz.prog 26 #[.pointer (some ⟨X,0,none⟩),.pointer (some ⟨Z,0,none⟩),.int .i64 g] W fun e w'=>e=.returned (.bool true)∧Below W.heap.size W w':=by
 rcases h.st with⟨n,T,B,f,t,k,h,hk,hK'⟩|⟨kd,Y,D,n1,dp,R,E,G,c,q,t,fp,k,m,h,hk,hK'⟩
 ·exact h.same g
 ·exact h.same g
theorem NP.wants(h:NP a w0 H la X Z Bm p d j KL W)(g:Int):∃wk db,Calls Tryz.prog 21 #[.pointer (some ⟨Z,0,none⟩),.int .i64 g] W fun e w'=>e=.returned (.tuple #[.int .i64 wk,.bool db])∧Below W.heap.size W w':=by
 rcases h.st with⟨n,T,B,f,t,k,h,hk,hK'⟩|⟨kd,Y,D,n1,dp,R,E,G,c,q,t,fp,k,m,h,hk,hK'⟩
 ·exact⟨_,_,rwants_off h.qow h.wa (okN_le h.uok.n) g⟩
 ·obtain⟨T',hq⟩:=h.qow
  exact⟨_,_,rwants_on hq g⟩
theorem NP.put(h:NP a w0 H la X Z Bm p d j KL W)(hla:la≤100)(hH:∀key,key<la→H key<18446744073709551616){key v:Nat}(hk:key<la)(hv:v<18446744073709551616)(hj:j+700≤100000000)(more:Bool) :
  Calls Tryz.prog 11 #[.pointer (some ⟨X,0,none⟩),.agg #[.pointer (some ⟨Bm,0,none⟩)],group.entV key v (H key),.bool more] W fun e w'=>∃b en,en≤16∧e=.returned (.tuple #[.bool b,errAt a en])∧PK KL W w'∧∀W',Below w'.heap.size w' W' →
   Calls Tryz.prog 13 #[.pointer (some ⟨Z,0,none⟩),group.entV key v (H key),.bool more] W' fun e w''=>e=.returned (.tuple #[.bool b,.int .i64 (en:Nat)])∧PK KL W' w''∧NP a w0 H la X Z Bm p d (j+700) KL w'':=by
 have hkl:=h.kl;have h5:=h.d5;have h2:=h.p2
 rcases h.st with⟨n,T,B,f,t,k,h,hk',hK⟩|⟨kd,Y,D,n1,dp,R,E,G,c,q,t,fp,k,m,h,hk',hK⟩
 ·refine (h.put hK hla hk (hH key hk) hv (by omega) more).mono fun e w' ⟨b,en,h16,he,hp,hd⟩=>⟨b,en,h16,he,hp,fun W' hb=>(hd W' hb).mono fun e w'' ⟨he,hp',hn⟩=>⟨he,hp',.inl (hn.up (by omega)),hp'.lts fun b hb'=>Nat.lt_of_lt_of_le (hp.lts hkl b hb') hb.size,h5,h2⟩⟩
 ·refine (h.put hK hla hH hk hv (by omega) more).mono fun e w' ⟨b,en,h16,he,hp,hd⟩=>⟨b,en,h16,he,hp,fun W' hb=>(hd W' hb).mono fun e w'' ⟨he,hp',hn⟩=>⟨he,hp',.inr (hn.up (by omega)),hp'.lts fun b hb'=>Nat.lt_of_lt_of_le (hp.lts hkl b hb') hb.size,h5,h2⟩⟩
end
section
variable {a:String→Addr} {w0:World} {H:Nat→Nat} {la X Z Bm p d j j':Nat} {KL KL':List Nat} {W W':World} {X5 X8 Xi:Nat}
def sV2(o:Option Sl):Value:=.tuple #[group.entV (table.sK o) (sV o) (sH o),.bool o.isSome]
def LA(Z:Nat)(l:List Sl)(W:World):Prop:=l.length≤2048∧Calls Tryz.prog 18 #[.pointer (some ⟨Z,0,none⟩)] W fun e w''=>∃v,e=.returned v∧KeptE W.heap.size w'' v l∧Below W.heap.size W w''
theorem cnt_512{t:Tb}(h:t.Ok):(ents t t.n).length≤512:=by
 have e:=sound.ents_length t;have:=cntT_le 3 t;have:=okN_le h.n;omega
theorem la_busy{kd:Int}{Y:Lay}{D n1:Nat}{dp:Int}{R E G c q:Nat}{t:Nat→Tb}{fp:List Nat}{nx br:Nat}{k:Nat→Nat}{m:Mt}(h:PB a w0 H la X Z Bm p d kd Y D n1 dp R E G c q t fp nx br t k m W):LA Z (entsA t Y.N) W:=by
 refine⟨?_,h.all⟩;have hN:=h.ls.rd.N;have:=entsA_le (u:=t) (N:=Y.N) (fun i hi=>okN_le (h.ls.rd.wn.uok i hi).n) Y.N (Nat.le_refl _);omega
theorem NP.start(h:NP a w0 H la X Z Bm p d j KL W)(hla:la≤100)(hKR:choose.KR a w0)(hFr:choose.FreshOk w0)(kd:Int) :
  Calls Tryz.prog 22 #[.pointer (some ⟨X,0,none⟩),.int .i64 kd] W fun e w'=>∃en,en≤16∧e=.returned (errAt a en)∧PK KL W w'∧Below w0.heap.size w0 w'∧∀W',Below w'.heap.size w' W' →
   Calls Tryz.prog 23 #[.pointer (some ⟨Z,0,none⟩),.int .i64 kd] W' fun e w''=>e=.returned (.int .i64 (en:Nat))∧PK KL W' w''∧NP a w0 H la X Z Bm p d j KL w'':=by
 have hkl:=h.kl;have h5:=h.d5;have h2:=h.p2
 rcases h.st with⟨n,T,B,f,t,k,h,hk',hK⟩|⟨kd',Y,D,n1,dp,R,E,G,c,q,t,fp,k,m,h,hk',hK⟩
 ·by_cases hx:choose.gx kd t.n ≠ 0 ∨ kd = 3 ∧ d = 5
  ·obtain⟨en,h16,hr,hd⟩:=h.start_no hK hKR hFr kd hx
   refine hr.mono fun e w' ⟨he,hP,hb⟩=>⟨en,h16,he,.of hb,hP.bel,fun W' hb'=>(hd W' (hP.read hb')).mono fun e w'' ⟨he,hP2,hb2⟩=>⟨he,.of hb2,.inl ⟨n,T,B,f,t,k,hP2,hk',hK⟩,fun b hm=>?_,h5,h2⟩⟩
   have:=hkl b hm;have:=hb.size;have:=hb'.size;have:=hb2.size;omega
  ·have hx':choose.gx kd t.n=0:=by
    apply Classical.byContradiction
    intro hn;exact hx (.inl hn)
   have h3:kd=3→d≠5:=fun e e5=>hx (.inr ⟨e,e5⟩)
   exact (h.start hK hkl hla h5 hKR hFr kd hx' h3).mono fun e w' ⟨he,hp,hb0,hd⟩=>⟨0,by omega,he,hp,hb0,fun W' hb=>(hd W' hb).mono fun e w'' ⟨he,hp',hn⟩=>⟨he,hp',.inr (hn.up hk'),hp'.lts fun b hb'=>Nat.lt_of_lt_of_le (hp.lts hkl b hb') hb.size,h5,h2⟩⟩
 ·refine (start_state h.row kd _ (h.ls.da.state W (Below.refl _ _))).mono fun e w' ⟨he,hb⟩=>⟨5,by omega,he,.of hb,(h.read hb).ls.bel,fun W' hb'=>?_⟩
  have h3:=(h.read hb).read hb';obtain⟨T',hqo⟩:=h3.qow;refine (rstart_state hqo kd).mono fun e w'' ⟨he,hb2⟩=>⟨he,.of hb2,.inr ⟨kd',Y,D,n1,dp,R,E,G,c,q,t,fp,k,m,h3.read hb2,hk',hK⟩,fun b hm=>?_,h5,h2⟩
  have:=hkl b hm;have:=hb.size;have:=hb'.size;have:=hb2.size;omega
theorem NP.fin(h:NP a w0 H la X Z Bm p d j KL W) :
    Calls Tryz.prog 24 #[.pointer (some ⟨X,0,none⟩)] W fun e w'=>PK KL W w'∧Below w0.heap.size w0 w' ∧
      ((∃ en, en ≤ 16 ∧ e = .returned (.tuple #[.pointer none, errAt a en]) ∧ ∀ W', Below w'.heap.size w' W' → Calls Tryz.prog 25 #[.pointer (some ⟨Z, 0, none⟩)] W' fun e w'' => e = .returned (.tuple #[.pointer none, .int .i64 (en : Nat)]) ∧ PK KL W' w'' ∧ NP a w0 H la X Z Bm p d j KL w'') ∨
       ∃X1,e=.returned (.tuple #[.pointer (some ⟨X1,0,none⟩),.nilIface])∧∀W',Below w'.heap.size w' W'→Calls Tryz.prog 25 #[.pointer (some ⟨Z,0,none⟩)] W' fun e w''=>∃Z1,e=.returned (.tuple #[.pointer (some ⟨Z1,0,none⟩),.int .i64 0])∧PK KL W' w''∧NP a w0 H la X Z Bm (2*p) (d+1) j KL w''∧NP a w0 H la X1 Z1 Bm (2*p+1) (d+1) j KL w''):=by
  have hkl:=h.kl;have h5:=h.d5;have h2:=h.p2
  rcases h.st with⟨n,T,B,f,t,k,h,hk',hK⟩|⟨kd',Y,D,n1,dp,R,E,G,c,q,t,fp,k,m,h,hk',hK⟩
  · refine h.fin.1.mono fun e w' ⟨he,hb⟩=>⟨.of hb,(h.read hb).bel,.inl ⟨5,by omega,he,fun W' hb'=>?_⟩⟩
    have h3:=(h.read hb).read hb';refine h3.fin.2.mono fun e w'' ⟨he,hb2⟩=>⟨he,.of hb2,.inl ⟨n,T,B,f,t,k,h3.read hb2,hk',hK⟩,fun b hm=>?_,h5,h2⟩
    have:=hkl b hm;have:=hb.size;have:=hb'.size;have:=hb2.size;omega
  · by_cases hq:q < Y.n 0 + (Y.N - 1) * n1
    · refine (h.fin_no hq).1.mono fun e w' ⟨he,hb⟩=>⟨.of hb,(h.read hb).ls.bel,.inl ⟨5,by omega,he,fun W' hb'=>?_⟩⟩
      have h3:=(h.read hb).read hb';refine (h3.fin_no hq).2.mono fun e w'' ⟨he,hb2⟩=>⟨he,.of hb2,.inr ⟨kd',Y,D,n1,dp,R,E,G,c,q,t,fp,k,m,h3.read hb2,hk',hK⟩,fun b hm=>?_,h5,h2⟩
      have:=hkl b hm;have:=hb.size;have:=hb'.size;have:=hb2.size;omega
    · have hq':q=Y.n 0+(Y.N-1)*n1:=by have:=h.ls.da.le;omega
      rcases h.ls.da.N with hN|hN
      · exact (h.fin_one hK hq' hN).mono fun e w' ⟨he,hp,hb0,hd⟩=>⟨hp,hb0,.inl ⟨0,by omega,he,fun W' hb=>(hd W' hb).mono fun e w'' ⟨he,hp',hn⟩=>⟨he,hp',.inl (hn.up hk'),hp'.lts fun b hb'=>Nat.lt_of_lt_of_le (hp.lts hkl b hb') hb.size,h5,h2⟩⟩⟩
      · have hd5:=h.n3 hN
        have hp2:2*p<2^(d+1)∧2*p+1<2^(d+1):=by rw [Nat.pow_succ];omega
        have h32:2^d≤2^5:=Nat.pow_le_pow_right (by omega) (by omega);exact (h.fin_two hK hkl hq' hN (by omega) (by omega)).mono fun e w' ⟨X1,he,hp,hb0,hd⟩=>⟨hp,hb0,.inr ⟨X1,he,fun W' hb=>(hd W' hb).mono fun e w'' ⟨Z1,he,hp',hn,hn2⟩=>⟨Z1,he,hp',⟨.inl (hn.up hk'),hp'.lts fun b hb'=>Nat.lt_of_lt_of_le (hp.lts hkl b hb') hb.size,by omega,hp2.1⟩,⟨.inl (hn2.up hk'),hp'.lts fun b hb'=>Nat.lt_of_lt_of_le (hp.lts hkl b hb') hb.size,by omega,hp2.2⟩⟩⟩⟩
end
section
variable {a:String→Addr} {w0:World} {H:Nat→Nat} {la X Z Bm p d j j':Nat} {KL KL':List Nat} {W W':World} {X5 X8 Xi:Nat}
def SB(a:String→Addr)(w0:World)(H:Nat→Nat)(la X Z Bm p d j:Nat)(KL:List Nat)(b:Bool)(W:World):Prop:=
 (b=false∧W.cell? ⟨Z,4,none⟩=some (.pointer none)∧NP a w0 H la X Z Bm p d j KL W) ∨
 ∃R,W.cell? ⟨Z,4,none⟩=some (.pointer (some ⟨R,0,none⟩))∧Calls Tryz.prog 30 #[.pointer (some ⟨R,0,none⟩)] W fun e w''=>e=.returned (.tuple #[.bool b,.bool false])∧PK KL W w''∧NP a w0 H la X Z Bm p d j KL w''
def SX(w0:World)(Z:Nat)(W:World):Prop:=∃R,W.cell? ⟨Z,4,none⟩=some (.pointer (some ⟨R,0,none⟩))∧Calls Tryz.prog 30 #[.pointer (some ⟨R,0,none⟩)] W fun e w''=>e=.returned (.tuple #[.bool true,.bool true])∧Below w0.heap.size w0 w''
theorem NP.catch(h:NP a w0 H la X Z Bm p d j (Xi::KL) W)(hw:Base a w0)(hla:la≤100)(hH:∀key,key<la→H key<18446744073709551616)(hKi:Xi∉KL)(hX0:w0.heap.size≤Xi)(ci:Var Xi (.bool false) W)(c5:W.cell? ⟨X5,0,none⟩=some (.pointer (some ⟨X,0,none⟩)))(c8:W.cell? ⟨X8,0,none⟩=some (.pointer (some ⟨Bm,0,none⟩)))(hj:j+700≤100000000) :
  Calls Tryz.prog 27 #[.func (.func 28) #[] #[.pointer (some ⟨X5,0,none⟩),.pointer (some ⟨X8,0,none⟩),.pointer (some ⟨Xi,0,none⟩)]] W fun e w' =>
   (∃b,e=.returned (errAt a 0)∧Var Xi (.bool b) w'∧PK KL W w'∧∀W',Below w'.heap.size w' W'→SB a w0 H la X Z Bm p d (j+700) (Xi::KL) b W') ∨
   (e=.returned (errAt a 10)∧Below w0.heap.size w0 w'∧∀W',Below w'.heap.size w' W'→SX w0 Z W'):=by
 have hkl:=h.kl;have h5:=h.d5;have h2:=h.p2
 have hklw:∀{w' W2:World},PK KL W w'→Xi<w'.heap.size→w'.heap.size≤W2.heap.size→∀b∈Xi::KL,b<W2.heap.size:=fun hp hv hs b hb=>by
  rcases List.mem_cons.1 hb with rfl|hb'
  ·omega
  ·exact Nat.lt_of_lt_of_le (hp.lts (fun b hb=>hkl b (List.mem_cons_of_mem _ hb)) b hb') hs
 rcases h.st with⟨n,T,B,f,t,k,h,hk',hK⟩|⟨kd',Y,D,n1,dp,R,E,G,c,q,t,fp,k,m,h,hk',hK⟩
 ·refine (h.catch (KL:=KL) hw hKi hX0 (hK Xi List.mem_cons_self) ci c5 c8).mono fun e w' ⟨he,hv,hp,hP⟩=>.inl ⟨false,he,hv,hp,fun W' hb=>.inl ⟨rfl,(hP.qow.keep hb).c4,.inl ⟨n,T,B,f,t,k,hP.read hb,by omega,hK⟩,hklw hp hv.lt hb.size,h5,h2⟩⟩
 ·have hKX:=hK Xi List.mem_cons_self
  have hKL:=fun b (hb:b∈KL)=>hK b (List.mem_cons_of_mem _ hb)
  have hKl:=fun b (hb:b∈KL)=>hkl b (List.mem_cons_of_mem _ hb)
  by_cases hq:q<Y.n 0+(Y.N-1)*n1
  ·cases hg:sG (rdy Y n1 q) Y.N d (q-(Y.N-1)*n1) t with
   | true =>
    refine (h.catch_good hw hla hH hKL hKl hKi hX0 hKX ci c5 c8 hq hg (by omega)).mono fun e w' ⟨he,hv,hp,hd⟩=>.inl ⟨true,he,hv,hp,fun W' hb=>?_⟩
    obtain⟨hc,hs⟩:=hd W' hb;refine .inr ⟨R,hc,hs.mono fun e w'' ⟨he,hpd,n1',n2',hn⟩=>⟨he,⟨_,hpd,fun b hb'=>(List.mem_cons.1 hb').elim (fun e=>e ▸ n2') (n1' b)⟩,.inr (hn.up (by omega)),hklw hp hv.lt (Nat.le_trans hb.size hpd.size),h5,h2⟩⟩
   | false =>
    refine (h.catch_bad hw hX0 hKX ci c5 c8 hq hg (by omega)).mono fun e w' ⟨he,hb0,hd⟩=>.inr ⟨he,hb0,fun W' hb=>⟨R,hd W' hb⟩⟩
  ·have hq':q=Y.n 0+(Y.N-1)*n1:=by have:=h.ls.da.le;omega
   refine (h.catch_done (KL:=KL) hw hKL hKi hX0 hKX ci c5 c8 hq').mono fun e w' ⟨he,hv,hp,hd⟩=>.inl ⟨false,he,hv,hp,fun W' hb=>?_⟩
   obtain⟨hc,hs⟩:=hd W' hb;exact .inr ⟨R,hc,hs.mono fun e w'' ⟨he,hbd,hn⟩=>⟨he,.of hbd,.inr (hn.up (by omega)),hklw hp hv.lt (Nat.le_trans hb.size hbd.size),h5,h2⟩⟩
end
theorem NP.new{a:String→Addr}{w0:World}{H:Nat→Nat}{la X Z Bm d T B s s2:Nat}{f:Rf}{KL:List Nat}{W:World}(hq:Bq a w0)(hb:Below w0.heap.size w0 W)(row:NRow X 0 d T 0 none W)(ta:TAt T B (Tb.new 1) W)(qow:QRow Z 0 d 0 f.R none W)(wa:WAt f (Tb.new 1) 0 W)(gm:GM Bm W)(h0:w0.heap.size≤X∧w0.heap.size≤T∧w0.heap.size≤B∧X≠T∧X≠B)(hs:X<s∧T<s∧B<s)(hf:∀b,b∈f.d 1∨b=f.G→s≤b∧b<s2)(hZ:s≤Z∧Z<s2∧Z∉f.d 1∧Z≠f.G)(hB:s2≤Bm)(hd:d≤5)(hK:∀b∈KL,b<W.heap.size∧b∉FI X Z Bm T B 1 f):NP a w0 H la X Z Bm 0 d 0 KL W:=by
 have ok:(Tb.new 1).Ok:=(RepN.new (la:=la) (show okN 1 by decide) H).rep.1.ok;have hTl:=hs.2.1;have hG:=hf f.G (.inr rfl);refine⟨.inl ⟨1,T,B,f,Tb.new 1,0,⟨⟨fun i _=>ta,fun i _=>ok,fun i _=>rfl,fun i j hi hj hne=>?_,fun b hb'=>?_,hb,hq⟩,wa,ok,rfl,row,qow,gm,fun b hb'=>?_,⟨h0.1,h0.2.2.2.1,h0.2.2.2.2⟩,⟨by omega,by omega,by omega⟩,⟨by omega,by omega,by omega⟩,⟨by omega,by omega,by omega⟩,_,RepN.new (by decide) H⟩,Nat.le_refl _,fun b hb'=>(hK b hb').2⟩,fun b hb'=>(hK b hb').1,hd,Nat.pos_of_ne_zero (by simp)⟩
 ·have : i<1:=hi
  have : j<1:=hj;omega
 ·rcases lay1_tall hb' with rfl|rfl
  ·exact h0.2.1
  ·exact h0.2.2.1
 ·have q:=hf b hb'
  refine⟨by omega,by omega,fun e=>?_,by omega,by omega,by omega⟩;subst e
  rcases hb' with e|e
  ·exact hZ.2.2.1 e
  ·exact hZ.2.2.2 e
structure CG(w0 W:World)(KL:List Nat)(F:FuncId)(args:Array Value)(val:Value)(Q:World→Prop)(l:List Nat)(GG:Nat→World→Prop):Prop where
 kl:∀b∈KL,b∉l
 g0:∀W',Below W.heap.size W W'→GG 0 W'
 xg:XG W l GG
 bel:∀n W',GG n W'→Below w0.heap.size w0 W'
 call:∀n W',GG n W'→Calls Tryz.prog F args W' fun e w'=>Past l W' w'∧∃v,e=.returned v∧(n=0→v=val)∧GG (n+1) w'
 fin:∀W',GG 1 W'→W.heap.size≤W'.heap.size→Q W'
def sD{α:Type}(x y:α):Nat→α→Prop
 | 0,t=>t=x
 | 1,t=>t=y
 | _+2,_=>True
section
variable {a:String→Addr} {w0:World} {H:Nat→Nat} {la X Z Bm p d n T B:Nat} {f:Rf} {t t' u u':Tb} {k k' j:Nat} {W W':World} {KL:List Nat} {S:Nat→Tb→Prop}
def gI(a:String→Addr)(w0:World)(H:Nat→Nat)(la X Z Bm p d n T B:Nat)(f:Rf)(u:Tb)(k:Nat)(S:Nat→Tb→Prop)(i:Nat)(W:World):Prop:=∃t',S i t'∧PI a w0 H la X Z Bm p d n T B f t' u k W
theorem PI.xg(h:PI a w0 H la X Z Bm p d n T B f t t k W):XG W [Bm,T,B] (gI a w0 H la X Z Bm p d n T B f t k S):=by
 have hl:=h.lts;have h0:=h.bel.size
 exact⟨fun b hb=>hl b (fi3 hb),fun i W1 W2 ⟨t',hs,h'⟩ hb=>⟨t',hs,h'.read hb⟩,fun i W1 b c v ⟨t',hs,h'⟩ hb=>⟨t',hs,h'.aside one_set fun b' hb'=>by
  obtain rfl:b'=b:=by simpa using hb'
  exact⟨by omega,fun e=>by have:=hl _ e;omega⟩⟩⟩
end
section
variable {a:String→Addr} {w0:World} {H:Nat→Nat} {la X Z Bm p d:Nat} {kd:Int} {Y:Lay} {D n1:Nat} {dp:Int} {R E G c q:Nat} {t u:Nat→Tb} {fp:List Nat} {nx br:Nat} {k:Nat→Nat} {m:Mt} {W:World} {S:Nat→(Nat→Tb)→Prop}
def gB(a:String→Addr)(w0:World)(H:Nat→Nat)(la X Z Bm p d:Nat)(kd:Int)(Y:Lay)(D n1:Nat)(dp:Int)(R E G c q:Nat)(fp:List Nat)(nx br:Nat)(u:Nat→Tb)(k:Nat→Nat)(S:Nat→(Nat→Tb)→Prop)(i:Nat)(W:World):Prop:=∃t' m',S i t'∧PB a w0 H la X Z Bm p d kd Y D n1 dp R E G c q t' fp nx br u k m' W
theorem PB.xg(h:PB a w0 H la X Z Bm p d kd Y D n1 dp R E G c q t fp nx br u k m W):XG W (Bm::fp) (gB a w0 H la X Z Bm p d kd Y D n1 dp R E G c q fp nx br u k S):=by
 have hl:=h.lts;have h0:=h.ls.bel.size
 exact⟨fun b hb=>hl b (List.mem_cons_of_mem _ (List.mem_cons_of_mem _ (List.mem_cons_of_mem _ (ft_real hb)))),fun i W1 W2 ⟨t',m',hs,h'⟩ hb=>⟨t',m',hs,h'.read hb⟩,fun i W1 b c v ⟨t',m',hs,h'⟩ hb=>⟨t',m',hs,h'.aside one_set fun b' hb'=>by
  obtain rfl:b'=b:=by simpa using hb'
  exact⟨by omega,fun e=>by have:=hl _ e;omega⟩⟩⟩
theorem PB.klf{KL:List Nat}(hK:∀b∈KL,b∉FB X Z G Y R E Bm fp):∀b∈KL,b∉Bm::fp:=fun b hb e=>hK b hb (List.mem_cons_of_mem _ (List.mem_cons_of_mem _ (List.mem_cons_of_mem _ (ft_real e))))
end
section
variable {a:String→Addr} {w0:World} {H:Nat→Nat} {la X Z Bm p d j:Nat} {KL:List Nat} {W:World}
theorem NP.findG(h:NP a w0 H la X Z Bm p d j KL W)(hla:la≤100)(hH:∀key,key<la→H key<18446744073709551616){key:Nat}(hk:key<la) :
  ∃l fp GG,l.length≤2048∧CG w0 W KL 16 #[.pointer (some ⟨X,0,none⟩),.agg #[.pointer (some ⟨Bm,0,none⟩)],.int .u64 (key:Nat),.int .u64 (H key:Nat)] (sV2 (l.find? fun e=>e.key==key)) (fun W'=>NP a w0 H la X Z Bm p d j KL W'∧∀W2,Below W'.heap.size W' W2→LA Z l W2) (Bm::fp) GG:=by
 have hkl:=h.kl;have h5:=h.d5;have h2:=h.p2
 rcases h.st with⟨n,T,B,f,t,k,h,hk',hK⟩|⟨kd,Y,D,n1,dp,R,E,G,c,q,t,fp,k,m,h,hk',hK⟩
 ·refine⟨ents t t.n,[T,B],gI a w0 H la X Z Bm p d n T B f t k fun _ t'=>t'=t,by have:=cnt_512 h.uok;omega,fun b hb e=>hK b hb (fi3 e),fun W' hb=>⟨t,rfl,h.read hb⟩,h.xg,fun i W' ⟨t',_,h'⟩=>h'.bel,fun i W1 ⟨t',ht,h'⟩=>?_,fun W1 ⟨t',ht,h'⟩ hs=>?_⟩
  ·subst ht
   exact (h'.find hla hk (hH key hk)).mono fun e w' ⟨he,hp,hP⟩=>⟨hp,_,he,fun _=>rfl,_,rfl,hP⟩
  ·subst ht
   exact⟨⟨.inl ⟨n,T,B,f,_,k,h',hk',hK⟩,fun b hb=>Nat.lt_of_lt_of_le (hkl b hb) hs,h5,h2⟩,fun W2 hb=>⟨by have:=cnt_512 h'.uok;omega,(h'.read hb).all⟩⟩
 ·refine⟨entsA t Y.N,fp,gB a w0 H la X Z Bm p d kd Y D n1 dp R E G c q fp (q-(Y.N-1)*n1) ((Y.N-1)*n1-q) t k fun _ t'=>t'=t,(la_busy h).1,PB.klf hK,fun W' hb=>⟨t,_,rfl,h.read hb⟩,h.xg,fun i W' ⟨t',m',_,h'⟩=>h'.ls.bel,fun i W1 ⟨t',m',ht,h'⟩=>?_,fun W1 ⟨t',m',ht,h'⟩ hs=>?_⟩
  ·subst ht
   exact (h'.find hla hH hk).mono fun e w' ⟨he,hp,m2,hP⟩=>⟨hp,_,he,fun _=>rfl,_,m2,rfl,hP⟩
  ·subst ht
   exact⟨⟨.inr ⟨kd,Y,D,n1,dp,R,E,G,c,q,_,fp,k,m',h',hk',hK⟩,fun b hb=>Nat.lt_of_lt_of_le (hkl b hb) hs,h5,h2⟩,fun W2 hb=>la_busy (h'.read hb)⟩
theorem NP.leastG(h:NP a w0 H la X Z Bm p d j KL W)(hash key:Nat) :
  ∃l fp GG,l.length≤2048∧CG w0 W KL 19 #[.pointer (some ⟨X,0,none⟩),.agg #[.pointer (some ⟨Bm,0,none⟩)],.int .u64 (hash:Nat),.int .u64 (key:Nat)] (sV2 (lfold hash key none l)) (fun W'=>NP a w0 H la X Z Bm p d j KL W'∧∀W2,Below W'.heap.size W' W2→LA Z l W2) (Bm::fp) GG:=by
 have hkl:=h.kl;have h5:=h.d5;have h2:=h.p2
 rcases h.st with⟨n,T,B,f,t,k,h,hk',hK⟩|⟨kd,Y,D,n1,dp,R,E,G,c,q,t,fp,k,m,h,hk',hK⟩
 ·refine⟨ents t t.n,[T,B],gI a w0 H la X Z Bm p d n T B f t k fun _ t'=>t'=t,by have:=cnt_512 h.uok;omega,fun b hb e=>hK b hb (fi3 e),fun W' hb=>⟨t,rfl,h.read hb⟩,h.xg,fun i W' ⟨t',_,h'⟩=>h'.bel,fun i W1 ⟨t',ht,h'⟩=>?_,fun W1 ⟨t',ht,h'⟩ hs=>?_⟩
  ·subst ht
   exact (h'.least hash key).mono fun e w' ⟨he,hp,hP⟩=>⟨hp,_,he,fun _=>rfl,_,rfl,hP⟩
  ·subst ht
   exact⟨⟨.inl ⟨n,T,B,f,_,k,h',hk',hK⟩,fun b hb=>Nat.lt_of_lt_of_le (hkl b hb) hs,h5,h2⟩,fun W2 hb=>⟨by have:=cnt_512 h'.uok;omega,(h'.read hb).all⟩⟩
 ·refine⟨entsA t Y.N,fp,gB a w0 H la X Z Bm p d kd Y D n1 dp R E G c q fp (q-(Y.N-1)*n1) ((Y.N-1)*n1-q) t k fun _ t'=>t'=t,(la_busy h).1,PB.klf hK,fun W' hb=>⟨t,_,rfl,h.read hb⟩,h.xg,fun i W' ⟨t',m',_,h'⟩=>h'.ls.bel,fun i W1 ⟨t',m',ht,h'⟩=>?_,fun W1 ⟨t',m',ht,h'⟩ hs=>?_⟩
  ·subst ht
   exact (h'.least hash key).mono fun e w' ⟨he,hp,m2,hP⟩=>⟨hp,_,he,fun _=>rfl,_,m2,rfl,hP⟩
  ·subst ht
   exact⟨⟨.inr ⟨kd,Y,D,n1,dp,R,E,G,c,q,_,fp,k,m',h',hk',hK⟩,fun b hb=>Nat.lt_of_lt_of_le (hkl b hb) hs,h5,h2⟩,fun W2 hb=>la_busy (h'.read hb)⟩
theorem NP.delG(h:NP a w0 H la X Z Bm p d j KL W)(hla:la≤100)(hH:∀key,key<la→H key<18446744073709551616){key:Nat}(hk:key<la)(hj:j+700≤100000000) :
  ∃x y z b fp GG,CG w0 W KL 14 #[.pointer (some ⟨X,0,none⟩),.agg #[.pointer (some ⟨Bm,0,none⟩)],.int .u64 (key:Nat),.int .u64 (H key:Nat)] (.tuple #[group.entV x y z,.bool b]) (fun W1=>∀KL',(∀b∈KL',(b∈KL∨W.heap.size≤b)∧b<W1.heap.size)→∀W',Below W1.heap.size W1 W' →
   Calls Tryz.prog 15 #[.pointer (some ⟨Z,0,none⟩),.int .u64 (key:Nat),.int .u64 (H key:Nat)] W' fun e w''=>e=.returned (.tuple #[group.entV x y z,.bool b])∧PK KL' W' w''∧NP a w0 H la X Z Bm p d (j+700) KL' w'') (Bm::fp) GG:=by
 have hkl:=h.kl;have h5:=h.d5;have h2:=h.p2;have hHk:=hH key hk
 rcases h.st with⟨n,T,B,f,t,k,h,hk',hK⟩|⟨kd,Y,D,n1,dp,R,E,G,c,q,t,fp,k,m,h,hk',hK⟩
 ·refine⟨(entOf t key (H key)).key,(entOf t key (H key)).val,(entOf t key (H key)).hash,isThere t key (H key),[T,B],gI a w0 H la X Z Bm p d n T B f t k (sD t (t.remove key (H key))),fun b hb e=>hK b hb (fi3 e),fun W' hb=>⟨t,rfl,h.read hb⟩,h.xg,fun i W' ⟨t',_,h'⟩=>h'.bel,fun i W1 ⟨t',ht,h'⟩=>?_,fun W1 ⟨t',ht,h'⟩ hs=>fun KL' hk2 W' hb=>?_⟩
  ·refine (h'.del1 hla hk hHk).mono fun e w' ⟨he,hP,hp⟩=>⟨hp,_,he,fun e0=>?_,_, ?_,hP⟩
   ·subst e0
    obtain rfl:t'=t:=ht
    rfl
   ·match i,ht with
    | 0,ht=>obtain rfl:t'=t:=ht;exact rfl
    | _+1,_=>trivial
  ·obtain rfl:t'=t.remove key (H key):=ht
   exact (h'.del2 (fun b hb e=>(hk2 b hb).1.elim (fun h1=>hK b h1 e) fun h1=>by have:=h.lts _ e;omega) hla hk hHk (by omega) hb).mono fun e w'' ⟨he,hp',hn⟩=>⟨he,hp',.inl (hn.up (by omega)),hp'.lts fun b hb'=>Nat.lt_of_lt_of_le (hk2 b hb').2 hb.size,h5,h2⟩
 ·refine⟨(fndE t key (H key) (js (rdy Y n1 q) Y.N d (H key))).key,(fndE t key (H key) (js (rdy Y n1 q) Y.N d (H key))).val,(fndE t key (H key) (js (rdy Y n1 q) Y.N d (H key))).hash,(dual.fnd t key (H key) (js (rdy Y n1 q) Y.N d (H key))).isSome,fp,gB a w0 H la X Z Bm p d kd Y D n1 dp R E G c q fp (q-(Y.N-1)*n1) ((Y.N-1)*n1-q) t k (sD t (eT t key (H key) (js (rdy Y n1 q) Y.N d (H key)))),PB.klf hK,fun W' hb=>⟨t,_,rfl,h.read hb⟩,h.xg,fun i W' ⟨t',m',_,h'⟩=>h'.ls.bel,fun i W1 ⟨t',m',ht,h'⟩=>?_,fun W1 ⟨t',m',ht,h'⟩ hs=>fun KL' hk2 W' hb=>?_⟩
  ·refine (h'.del1 hla hH hk).mono fun e w' ⟨he,hP,hp⟩=>⟨hp,_,he,fun e0=>?_,_,_, ?_,hP⟩
   ·subst e0
    obtain rfl:t'=t:=ht
    rfl
   ·match i,ht with
    | 0,ht=>obtain rfl:t'=t:=ht;exact rfl
    | _+1,_=>trivial
  ·obtain rfl:t'=eT t key (H key) (js (rdy Y n1 q) Y.N d (H key)):=ht
   exact (h'.del2 (fun b hb e=>(hk2 b hb).1.elim (fun h1=>hK b h1 e) fun h1=>by have:=h.lts _ e;omega) hla hk hHk (by omega) (h.ls.few key (H key)) hb).mono fun e w'' ⟨he,hp',hn⟩=>⟨he,hp',.inr (hn.up (by omega)),hp'.lts fun b hb'=>Nat.lt_of_lt_of_le (hk2 b hb').2 hb.size,h5,h2⟩
end
end node
namespace node
open Go.ChangeShapes Go.WideShapes Go.ChangeAt Go.RowKit Go.Shelf swar under trap meter group probe lens tail call table evac dual
attribute [local go_sem] Oper.semAt_some stage.pureUpon move.stepUpon movex.stepUpon
set_option maxRecDepth 20000 in
theorem acts_more(a:String→Addr)(dep:Int)(s1:Option Addr)(lh ch:Nat)(s2:Option Addr)(lb cb:Nat)(hc:lh<1∨60<lh∨120<lb)(w:World)(hw:Bq a w)(hKR:choose.KR a w)(hFr:choose.FreshOk w) :
  Calls Tryz.prog 3 #[.int .i64 dep,.slice s1 lh ch,.slice s2 lb cb] w fun e w'=>e=.returned (.bool true)∧Below w.heap.size w w':=by
 have cA:=alive_any a w hw hKR hFr;clear hw hKR hFr
 have first:∀b1 b2 b3,decide ((lh:Int)<1)=b1→decide (60<(lh:Int))=b2→decide (120<(lb:Int))=b3→(b1||b2||b3)=true→Calls Tryz.prog 3 #[.int .i64 dep,.slice s1 lh ch,.slice s2 lb cb] w fun e w'=>e=.returned (.bool true)∧Below w.heap.size w w':=by
  intro b1 b2 b3 d1 d2 d3 hb;cases b1 <;> cases b2 <;> cases b3 <;> first|(exact absurd hb (by decide))|skip
  all_goals
   go_enter Tryz.func3,Tryz.ntmps3
   go_wp2_with (go_at_call 5;refine cA.mono ?_;rintro e w2 ⟨rfl,hb2⟩)
   go_ret
   exact⟨rfl,hb2⟩
 refine first _ _ _ rfl rfl rfl ?_
 simp only [Bool.or_eq_true,decide_eq_true_eq];omega
set_option maxRecDepth 20000 in
set_option maxHeartbeats 1000000 in
theorem acts_bad(a:String→Addr)(dep:Int)(s1:Option Addr)(lh ch:Nat)(s2:Option Addr)(lb cb:Nat)(h1:1≤lh)(h2:lh≤60)(h3:lb≤120)(hd:dep<0∨5<dep)(w:World)(hw:Base a w)(hb0:Bq a w)(hKR:choose.KR a w)(hFr:choose.FreshOk w) :
  Calls Tryz.prog 3 #[.int .i64 dep,.slice s1 lh ch,.slice s2 lb cb] w fun e w'=>e=.returned (.bool true)∧Below w.heap.size w w':=by
 have cA:=alive_any a w hb0 hKR hFr
 have cN:∀W,Below w.heap.size w W→Calls Tryz.prog 6 #[.int .i64 0,.int .i64 dep] W fun e w'=>e=.returned (.tuple #[.pointer none,errAt a 1])∧Below W.heap.size W w':=fun W hb=>by
  have hr:=(hKR.below hb).r
  rcases hd with h|h
  ·exact nnew_far 0 dep (by omega) (.inl h) W _ hr
  ·exact nnew_deep 0 dep h W _ hr
 have cR:∀W,Calls Tryz.prog 7 #[.int .i64 0,.int .i64 dep] W fun e w'=>e=.returned (.tuple #[.pointer none,.int .i64 1])∧Below W.heap.size W w':=fun W=>by
  rcases hd with h|h
  ·exact rnnew_far 0 dep (by omega) (.inl h) W
  ·exact rnnew_deep 0 dep h W
 have cE:∀W,Below w.heap.size w W→Calls Tryz.prog 8 #[errAt a 1] W fun e w'=>e=.returned (.int .i64 1)∧Below W.heap.size W w':=fun W hb=>table.num_err a 1 (by decide) W (hw.below hb).errs
 have d1:decide ((lh:Int)<1)=false:=decide_eq_false (by omega);have d2:decide (60<(lh:Int))=false:=decide_eq_false (by omega);have d3:decide (120<(lb:Int))=false:=decide_eq_false (by omega);have hnn:=node_none;clear hw hKR hFr hb0;generalize errAt a 1=er at *
 go_enter Tryz.func3,Tryz.ntmps3
 go_wp2_with (first
  | (go_at_call 5;refine cA.mono ?_;rintro e w2 ⟨rfl,hb2⟩)
  | (go_at_call 6;refine (cN _ hb2).mono ?_;rintro e w3 ⟨rfl,hb3⟩;have hb23:=under.below_step hb2 hb3))
 have hcx:=newc w3 (.pointer none) 25;have hbx:=under.below_step hb23 (new_block w3 (.cells #[.pointer none] 25));generalize w3.alloc (.cells #[.pointer none] 25)=w4 at *
 generalize w3.heap.size=X3 at *
 have cRw:=cR w4;clear cA cN cR hb2 hb3 hb23
 go_wp2_with (first
  | (go_at_call 7;refine cRw.mono ?_;rintro e w5 ⟨rfl,hb5⟩;have hcx5:=keepc hb5 hcx;have cE5:=cE _ (under.below_step hbx hb5))
  | (go_at_call 8;refine cE5.mono ?_;rintro e w6 ⟨rfl,hb6⟩;have hcx6:=keepc hb6 hcx5))
 go_ret
 exact⟨rfl,under.below_step (under.below_step hbx hb5) hb6⟩
end node
namespace movex
open Go.ChangeShapes Go.WideShapes Go.ChangeAt Go.RowKit Go.Shelf
variable {F:Fence} {n:Nat} {P:Program} {ops:Array Oper} {σ:Type} {D:σ→World→Prop} {M:Nat→σ→Value→σ→Prop}
theorem build_step{xl:Nat}{Q:Act→σ→Prop}{k:Nat}{m:List Bool}{o:Oper}{r:List Oper}{a:Act}{s:σ}(t:TypeId)(ps:List (Nat×Operand))(vs:List (Nat×Value))(cells:Array Value)(ha:asked F P D o a)(hw:Region.wanted o (yielded ops a.tmps)=true)(ho:o.op=.build t ps.toArray)
  (hv:ps.map (fun p=>(p.1,a.eval p.2))=vs)(hb:P.built t vs=some cells)(h:wpT F n P ops D M xl Q (k+1) m r (a.put o.dst (.agg cells)) s):wpT F n P ops D M xl Q k (false::m) (o::r) a s:=by
 have hb':P.built t ((ps.toArray.map fun (i,x)=>(i,a.eval x)).toList)=some cells:=by
  rw [←hb,←hv];simp
 refine⟨ha, ?_⟩;simp only [Bool.false_eq_true,if_false];refine⟨.agg cells,.inl ⟨hw,fun q=>?_⟩,h⟩;unfold execOp;simp only [ho,Sem.run_bind,run_build q.W t _ cells hb',Result.andThen_ok];exact⟨rfl,rfl⟩
end movex
namespace node
open Go.ChangeShapes Go.WideShapes Go.ChangeAt Go.RowKit Go.Shelf swar under trap meter group probe lens tail call table evac dual
theorem built_ent(a b c:Int):Tryz.prog.built 44 [(0,.int .u64 a),(1,.int .u64 b),(2,.int .u64 c)]=some #[.int .u64 a,.int .u64 b,.int .u64 c]:=by kernel_rfl
theorem szQn:(Tryz.prog.info? 75).map (·.size)=some 5:=by kernel_rfl
theorem qn_some(x:Addr)(w:World):(Op.equalIn 10000 30 (.pointer (some x)) (.pointer none)).run Tryz.prog w=.ok false w:=by
 obtain⟨j,hj,_⟩:=Option.map_eq_some_iff.1 szQn
 have h:∀d:Nat,(Op.equalIn (d+1) 30 (.pointer (some x)) (.pointer none)).run Tryz.prog w=.ok false w:=fun d=>by
  simp [Op.equalIn,run_underlying Tryz.underlying30,sizeOf,typeInfo,hj,sameAddr]
 exact h 9999
theorem qn_none(w:World):(Op.equalIn 10000 30 (.pointer none) (.pointer none)).run Tryz.prog w=.ok true w:=by
 obtain⟨j,hj,_⟩:=Option.map_eq_some_iff.1 szQn
 have h:∀d:Nat,(Op.equalIn (d+1) 30 (.pointer none) (.pointer none)).run Tryz.prog w=.ok true w:=fun d=>by
  simp [Op.equalIn,run_underlying Tryz.underlying30,sizeOf,typeInfo,hj,sameAddr]
 exact h 9999
theorem act3(kd ky nn:Int)(w:World):(w.alloc (.cells #[.int .i64 kd,.int .i64 ky,.int .i64 nn] 40)).cell? ⟨w.heap.size,0,none⟩=some (.int .i64 kd)∧(w.alloc (.cells #[.int .i64 kd,.int .i64 ky,.int .i64 nn] 40)).cell? ⟨w.heap.size,1,none⟩=some (.int .i64 ky)∧(w.alloc (.cells #[.int .i64 kd,.int .i64 ky,.int .i64 nn] 40)).cell? ⟨w.heap.size,2,none⟩=some (.int .i64 nn):=by
 have h:=World.alloc_heap_new w (.cells #[.int .i64 kd,.int .i64 ky,.int .i64 nn] 40);exact⟨by rw [cell_of_row _ _ _ _ _ _ h];rfl,by rw [cell_of_row _ _ _ _ _ _ h];rfl,by rw [cell_of_row _ _ _ _ _ _ h];rfl⟩
def hD(lh dep:Nat)(hz:Nat→Nat)(k:Nat):Nat:=if k<lh then hz k/2^dep else 0
structure BX(X Bm Xn Xm XA XE:Nat)(kd ky nn:Int)(ki vn hs:Nat)(W:World):Prop where
 pn:Var Xn (.pointer (some ⟨X,0,none⟩)) W
 pm:Var Xm (.pointer (some ⟨Bm,0,none⟩)) W
 a0:W.cell? ⟨XA,0,none⟩=some (.int .i64 kd)
 a1:W.cell? ⟨XA,1,none⟩=some (.int .i64 ky)
 a2:W.cell? ⟨XA,2,none⟩=some (.int .i64 nn)
 eb:EBox XE ki vn hs W
section
variable {a:String→Addr} {w0:World} {H:Nat→Nat} {la X Z Bm p d j j' Xn Xm XA XE:Nat} {kd ky nn:Int} {ki vn hs:Nat} {KL:List Nat} {W W':World}
theorem BX.past{l:List Nat}(h:BX X Bm Xn Xm XA XE kd ky nn ki vn hs W)(hp:Past l W W')(hl:∀b∈[XA,XE,Xn,Xm],b∉l):BX X Bm Xn Xm XA XE kd ky nn ki vn hs W':=
 ⟨h.pn.past hp (hl _ (by simp)),h.pm.past hp (hl _ (by simp)),hp.cell h.a0 (hl _ (by simp)),hp.cell h.a1 (hl _ (by simp)),hp.cell h.a2 (hl _ (by simp)),h.eb.past hp (hl _ (by simp))⟩
theorem BX.pk(h:BX X Bm Xn Xm XA XE kd ky nn ki vn hs W)(hp:PK KL W W')(hk:∀b∈[XA,XE,Xn,Xm],b∈KL):BX X Bm Xn Xm XA XE kd ky nn ki vn hs W':=by
 obtain⟨l,hp,hl⟩:=hp;exact h.past hp fun b hb=>hl b (hk b hb)
theorem BX.read(h:BX X Bm Xn Xm XA XE kd ky nn ki vn hs W)(hb:Below W.heap.size W W'):BX X Bm Xn Xm XA XE kd ky nn ki vn hs W':=h.past (Past.of (d:=[]) hb) fun _ _ e=>by cases e
theorem BX.lts(h:BX X Bm Xn Xm XA XE kd ky nn ki vn hs W):∀b∈[XA,XE,Xn,Xm],b<W.heap.size:=fun b hb=>by
 have h1:=h.pn.lt;have h2:=h.pm.lt;have h3:=World.block_lt_of_cell? _ _ h.a0;have h4:=h.eb.lt;simp only [List.mem_cons,List.not_mem_nil,or_false] at hb
 rcases hb with rfl|rfl|rfl|rfl
 ·exact h3
 ·exact h4
 ·exact h1
 ·exact h2
theorem BX.new{l:List Nat}(h:BX X Bm Xn Xm XA XE kd ky nn ki vn hs W)(hp:Past l W W')(hl:∀b∈l,W.heap.size≤b):BX X Bm Xn Xm XA XE kd ky nn ki vn hs W':=
 h.past hp fun b hb e=>by have:=h.lts b hb;have:=hl b e;omega
theorem BX.set(h:BX X Bm Xn Xm XA XE kd ky nn ki vn hs W){x:Nat}(hx:∀b∈[XA,XE,Xn,Xm],b≠x)(k v e:Nat):BX X Bm Xn Xm XA XE kd ky nn ki vn hs (table.set3 x k v e W):=
 h.past (l:=[x]) (((Past.refl [x] W).store (p:=⟨x,0,none⟩) (.inl (by simp)) _ |>.store (p:=⟨x,1,none⟩) (.inl (by simp)) _ |>.store (p:=⟨x,2,none⟩) (.inl (by simp)) _)) fun b hb e=>hx b hb (by simpa using e)
theorem EBox.pk{x k v e:Nat}(h:EBox x k v e W)(hp:PK KL W W')(hk:x∈KL):EBox x k v e W':=by
 obtain⟨l,hp,hl⟩:=hp;exact h.past hp (hl x hk)
theorem Var.pk{x:Nat}{v:Value}(h:Var x v W)(hp:PK KL W W')(hk:x∈KL):Var x v W':=by
 obtain⟨l,hp,hl⟩:=hp;exact h.past hp (hl x hk)
def EF(l:List Nat)(w:World)(x y k v h:Nat)(W:World):Prop:=EBox x k v h W∧EBox y k v h W∧Past [y] w W∧w.heap.size≤y∧∀Z∈l,Z≠y
theorem EF.set3{l:List Nat}{w w1:World}{x y k v h b c e:Nat}(hE:EBox x k v h w)(hz:EBox y b c e w1)(hb:Below w.heap.size w w1)(hy:w.heap.size≤y)(hn:∀Z∈l,Z≠y)(hx:x<w.heap.size):EF l w x y k v h (table.set3 y k v h w1):=
 ⟨(hE.keep hb).other (by omega) k v h,hz.set k v h,(((Past.of hb).store (p:=⟨y,0,none⟩) (.inl (by simp)) _).store (p:=⟨y,1,none⟩) (.inl (by simp)) _).store (p:=⟨y,2,none⟩) (.inl (by simp)) _,hy,hn⟩
theorem EF.alloc{l:List Nat}{w w1:World}{x k v h:Nat}(hE:EBox x k v h w)(hb:Below w.heap.size w w1)(hn:∀Z∈l,Z≠w1.heap.size):EF l w x w1.heap.size k v h (w1.alloc (.cells #[.int .u64 (k:Nat),.int .u64 (v:Nat),.int .u64 (h:Nat)] 44)):=
 ⟨(hE.keep hb).keep (new_block _ _),EBox.new k v h w1,(Past.of hb).trans (Past.of (new_block _ _)),hb.size,hn⟩
def RM(a:String→Addr)(w0:World)(H:Nat→Nat)(la X Z Bm Xn Xm XA XE:Nat)(kd ky nn:Int)(ki vn hs j:Nat)(W:World):Prop:=∃p d,NP a w0 H la X Z Bm p d j [XA,XE,Xn,Xm] W∧BX X Bm Xn Xm XA XE kd ky nn ki vn hs W
def AR(a:String→Addr)(w0:World)(H:Nat→Nat)(la X Z Bm Xn Xm j:Nat)(W:World):Prop:=∃p d,NP a w0 H la X Z Bm p d (220000*j) [Xn,Xm] W∧Var Xn (.pointer (some ⟨X,0,none⟩)) W∧Var Xm (.pointer (some ⟨Bm,0,none⟩)) W
theorem NP.kl'(h:NP a w0 H la X Z Bm p d j KL W){KL':List Nat}(hk:∀b∈KL',b∈KL):NP a w0 H la X Z Bm p d j KL' W:=h.also (fun b hb=>.inl (hk b hb)) (fun b hb=>h.kl b (hk b hb)) (Below.refl _ _)
theorem RM.ar(h:RM a w0 H la X Z Bm Xn Xm XA XE kd ky nn ki vn hs (220000*j) W):AR a w0 H la X Z Bm Xn Xm j W:=by
 obtain⟨p,d,hn,hb⟩:=h;exact⟨p,d,hn.kl' fun b hb=>by simp only [List.mem_cons,List.not_mem_nil,or_false] at hb ⊢;omega,hb.pn,hb.pm⟩
theorem NP.boxes(h:NP a w0 H la X Z Bm p d j [Xn,Xm] W)(vn':Var Xn (.pointer (some ⟨X,0,none⟩)) W)(vm:Var Xm (.pointer (some ⟨Bm,0,none⟩)) W){w1 w2:World}(hb1:Below W.heap.size W w1)(hb2:Below w1.heap.size w1 w2)(hA:W.heap.size≤XA)(hX:W.heap.size≤XE)
  (a0:w1.cell? ⟨XA,0,none⟩=some (.int .i64 kd))(a1:w1.cell? ⟨XA,1,none⟩=some (.int .i64 ky))(a2:w1.cell? ⟨XA,2,none⟩=some (.int .i64 nn))(hE:EBox XE ki vn hs w2) :
  NP a w0 H la X Z Bm p d j [XA,XE,Xn,Xm] w2∧BX X Bm Xn Xm XA XE kd ky nn ki vn hs w2:=by
 have bx:BX X Bm Xn Xm XA XE kd ky nn ki vn hs w2:=⟨(vn'.below hb1).below hb2,(vm.below hb1).below hb2,keepc hb2 a0,keepc hb2 a1,keepc hb2 a2,hE⟩;refine⟨h.also (fun b hb=>?_) bx.lts (under.below_step hb1 hb2),bx⟩;simp only [List.mem_cons,List.not_mem_nil,or_false] at hb ⊢
 rcases hb with rfl|rfl|h|h
 ·exact .inr hA
 ·exact .inr hX
 ·exact .inl (.inl h)
 ·exact .inl (.inr h)
end
end node
end Go.Proofs.YtdplhgpeggcmdaaGreatDoor
