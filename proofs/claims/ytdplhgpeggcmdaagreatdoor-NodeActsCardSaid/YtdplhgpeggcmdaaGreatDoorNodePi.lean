/- NodePi: facts and laws for the walks. -/
import Derived.Test.YtdplhgpeggcmdaaGreatDoorNodeSm
import Derived.Test.YtdplhgpeggcmdaaGreatDoorNodeRf
import Derived.Test.YtdplhgpeggcmdaaGreatDoorNodeUf
import Derived.Test.YtdplhgpeggcmdaaGreatDoorDualLB
namespace Go.Proofs.YtdplhgpeggcmdaaGreatDoor
set_option linter.unusedSimpArgs false
set_option linter.unusedVariables false
open Go.ChangeShapes Go.WideShapes Go.ChangeAt Go.RowKit Go.Shelf swar under trap meter group probe lens tail call table evac dual
namespace node
def PK(KL:List Nat)(W W':World):Prop:=∃l,Past l W W'∧∀b∈KL,b∉l
theorem PK.of{KL:List Nat}{W W':World}(hb:Below W.heap.size W W'):PK KL W W':=⟨[],Past.of hb,fun _ _ e=>by cases e⟩
abbrev FI(X Z Bm T B n:Nat)(f:Rf):List Nat:=X::Z::Bm::T::B::f.G::f.d n
structure PI(a:String→Addr)(w0:World)(H:Nat→Nat)(la X Z Bm p d n T B:Nat)(f:Rf)(t u:Tb)(k:Nat)(W:World):Prop where
 re:Real a w0 (lay1 T B n) (fun _=>t) W
 wa:WAt f u k W
 uok:u.Ok
 un:u.n=n
 row:NRow X p d T 0 none W
 qow:QRow Z p d 0 f.R none W
 gm:GM Bm W
 fB:∀b,b∈f.d n∨b=f.G→w0.heap.size≤b∧b≠X∧b≠Z∧b≠Bm∧b≠T∧b≠B
 oX:w0.heap.size≤X∧X≠T∧X≠B
 oZ:w0.heap.size≤Z∧Z≠T∧Z≠B
 oB:w0.heap.size≤Bm∧Bm≠T∧Bm≠B
 xz:X≠Z∧X≠Bm∧Z≠Bm
 rep:∃M,RepN H la t M
section
variable {a:String→Addr} {w0:World} {H:Nat→Nat} {la X Z Bm p d n T B:Nat} {f:Rf} {t t' u u':Tb} {k k':Nat} {W W':World} {KL:List Nat}
theorem PI.bel(h:PI a w0 H la X Z Bm p d n T B f t u k W):Below w0.heap.size w0 W:=h.re.bel
theorem PI.read(h:PI a w0 H la X Z Bm p d n T B f t u k W)(hb:Below W.heap.size W W'):PI a w0 H la X Z Bm p d n T B f t u k W':=
 ⟨h.re.read hb,h.wa.below hb,h.uok,h.un,h.row.keep hb,h.qow.keep hb,h.gm.read hb,h.fB,h.oX,h.oZ,h.oB,h.xz,h.rep⟩
theorem PI.real(h:PI a w0 H la X Z Bm p d n T B f t u k W)(hr:Real a w0 (lay1 T B n) (fun _=>t') W')(hm:GM Bm W')(hp:Past [Bm,T,B] W W')(hM:∃M,RepN H la t' M):PI a w0 H la X Z Bm p d n T B f t' u k W':=by
 refine⟨hr,h.wa.past hp fun b hb e=>?_,h.uok,h.un,h.row.past hp fun e=>?_,h.qow.past hp fun e=>?_,hm,h.fB,h.oX,h.oZ,h.oB,h.xz,hM⟩
 ·rw [h.un] at hb
  have q:=h.fB b hb;simp only [List.mem_cons,List.not_mem_nil,or_false] at e
  rcases e with e|e|e
  ·exact q.2.2.2.1 e
  ·exact q.2.2.2.2.1 e
  ·exact q.2.2.2.2.2 e
 ·simp only [List.mem_cons,List.not_mem_nil,or_false] at e
  rcases e with e|e|e
  ·exact h.xz.2.1 e
  ·exact h.oX.2.1 e
  ·exact h.oX.2.2 e
 ·simp only [List.mem_cons,List.not_mem_nil,or_false] at e
  rcases e with e|e|e
  ·exact h.xz.2.2 e
  ·exact h.oZ.2.1 e
  ·exact h.oZ.2.2 e
theorem PI.doc(h:PI a w0 H la X Z Bm p d n T B f t u k W)(hs:WStep f u' k' W W')(ok:u'.Ok)(hn:u'.n=n):PI a w0 H la X Z Bm p d n T B f t u' k' W':=by
 have hp:=hs.past;rw [hn] at hp;have q:=fun b (hb:b∈f.d n)=>h.fB b (.inl hb)
 refine⟨h.re.past hp fun b hb=>⟨(q b hb).1,fun e=>?_⟩,hs.at',ok,hn,h.row.past hp fun e=>(q _ e).2.1 rfl,h.qow.past hp fun e=>(q _ e).2.2.1 rfl,h.gm.past hp fun e=>(q _ e).2.2.2.1 rfl,h.fB,h.oX,h.oZ,h.oB,h.xz,h.rep⟩
 rcases lay1_tall e with rfl|rfl
 ·exact (q _ hb).2.2.2.2.1 rfl
 ·exact (q _ hb).2.2.2.2.2 rfl
theorem PI.hd(h:PI a w0 H la X Z Bm p d n T B f t u k W):∀b∈(Ln.pr Bm 0).d,w0.heap.size≤b∧b∉(lay1 T B n).tall:=fun b hb=>by
 obtain rfl:b=Bm:=by simpa [Ln.d] using hb
 exact⟨h.oB.1,fun e=>(lay1_tall e).elim h.oB.2.1 h.oB.2.2⟩
theorem PI.tn(h:PI a w0 H la X Z Bm p d n T B f t u k W):t.n=n:=h.re.tn 0 Nat.one_pos
theorem PI.pk1(h:PI a w0 H la X Z Bm p d n T B f t u k W)(hK:∀b∈KL,b∉FI X Z Bm T B n f)(hp:Past [Bm,T,B] W W'):PK KL W W':=⟨_,hp,fun b hb e=>hK b hb (by
 simp only [List.mem_cons,List.not_mem_nil,or_false] at e;simp only [FI,List.mem_cons]
 rcases e with e|e|e
 ·exact .inr (.inr (.inl e))
 ·exact .inr (.inr (.inr (.inl e)))
 ·exact .inr (.inr (.inr (.inr (.inl e)))))⟩
theorem PI.pk2(h:PI a w0 H la X Z Bm p d n T B f t u k W)(hK:∀b∈KL,b∉FI X Z Bm T B n f)(hp:Past (f.d n) W W'):PK KL W W':=⟨_,hp,fun b hb e=>hK b hb (by
 simp only [FI,List.mem_cons]
 exact .inr (.inr (.inr (.inr (.inr (.inr e))))))⟩
def NI(a:String→Addr)(w0:World)(H:Nat→Nat)(la X Z Bm p d j:Nat)(KL:List Nat)(W:World):Prop:=∃n T B f t k,PI a w0 H la X Z Bm p d n T B f t t k W∧k≤j∧∀b∈KL,b∉FI X Z Bm T B n f
end
theorem pT_n(t:Tb)(key hs v:Nat)(more:Bool):(pT t key hs v more).n=t.n:=by
 unfold pT;split
 ·exact puts_n ..
 ·rfl
theorem pE_16(t:Tb)(key hs:Nat)(more:Bool):pE t key hs more≤16:=by
 unfold pE
 split
 ·omega
 ·split
  ·rcases putE_le' t key hs with h|h <;> omega
  ·omega
section
variable {a:String→Addr} {w0:World} {H:Nat→Nat} {la X Z Bm p d n T B:Nat} {f:Rf} {t t' u u':Tb} {k k':Nat} {W W':World} {KL:List Nat}
theorem PI.put(h:PI a w0 H la X Z Bm p d n T B f t t k W)(hK:∀b∈KL,b∉FI X Z Bm T B n f)(hla:la≤100){key v:Nat}(hk:key<la)(hH:H key<18446744073709551616)(hv:v<18446744073709551616)(hkk:k+200≤100000000)(more:Bool) :
  Calls Tryz.prog 11 #[.pointer (some ⟨X,0,none⟩),.agg #[.pointer (some ⟨Bm,0,none⟩)],group.entV key v (H key),.bool more] W fun e w'=>∃b en,en≤16∧e=.returned (.tuple #[.bool b,errAt a en])∧PK KL W w'∧∀W',Below w'.heap.size w' W' →
   Calls Tryz.prog 13 #[.pointer (some ⟨Z,0,none⟩),group.entV key v (H key),.bool more] W' fun e w''=>e=.returned (.tuple #[.bool b,.int .i64 (en:Nat)])∧PK KL W' w''∧NI a w0 H la X Z Bm p d (k+128) KL w'':=by
 obtain⟨m,hm,hok,hon⟩:=h.gm;have hR:=h.re.rdL (i:=0) (L:=.pr Bm 0) (m:=m) Nat.one_pos hm h.hd;have hXB:X∉(Ln.pr Bm 0).d:=fun e=>h.xz.2.1 (by simpa [Ln.d] using e)
 refine (nput_off h.row hR hXB key (H key) v (by omega) hH hv more).mono fun e w' ⟨he,hs'⟩=>?_
 obtain⟨M,hM⟩:=h.rep
 have hM':∃M',RepN H la (pT t key (H key) v more) M':=by
  unfold pT
  split
  ·exact hM.puts hk (by omega) hH hv
  ·exact⟨M,hM⟩
 have okT:(pT t key (H key) v more).Ok:=by obtain⟨M',h'⟩:=hM';exact h'.rep.1.ok
 have hre:=h.re.tlL (i:=0) (L:=.pr Bm 0) Nat.one_pos h.hd hs' okT (pT_n ..)
 have hp:Past [Bm,T,B] W w':=hs'.ln.past.mono fun b hb=>by
  simp only [Ln.d,List.mem_append,List.mem_cons,List.not_mem_nil,or_false] at hb ⊢
  rcases hb with (h|h)|h
  ·exact .inr (.inl h)
  ·exact .inr (.inr h)
  ·exact .inl h
 have h1:=h.real (re1 hre (by rw [up_same])) ⟨_,hs'.ln.at',see_pr_ok Bm 0 m hok hon _⟩ hp hM';refine⟨_,_,pE_16 ..,he,h.pk1 hK hp,fun W' hb=>?_⟩;have h2:=h1.read hb;have hl:∀b∈f.d t.n,b<W'.heap.size:=fun b hb=>h2.wa.lts (.inl hb)
 have hX:Z∉f.d t.n:=fun e=>(h2.fB _ (.inl (by rw [←h.tn];exact e))).2.2.1 rfl
 refine (rput_off h2.qow h2.wa h2.uok key v (H key) (by omega) hH hl hX more).mono fun e w'' ⟨he,k',hk',hs⟩=>?_
 have hn':(pT t key (H key) v more).n=n:=(pT_n ..).trans h.tn;have hp':=hs.past;rw [hn'] at hp';exact⟨he,h2.pk2 hK hp',n,T,B,f,_,k',h2.doc hs okT hn',hk',hK⟩
theorem PI.del1(h:PI a w0 H la X Z Bm p d n T B f t u k W)(hla:la≤100){key:Nat}(hk:key<la)(hH:H key<18446744073709551616) :
  Calls Tryz.prog 14 #[.pointer (some ⟨X,0,none⟩),.agg #[.pointer (some ⟨Bm,0,none⟩)],.int .u64 (key:Nat),.int .u64 (H key:Nat)] W fun e w'=>e=.returned (.tuple #[group.entV (entOf t key (H key)).key (entOf t key (H key)).val (entOf t key (H key)).hash,.bool (isThere t key (H key))])∧PI a w0 H la X Z Bm p d n T B f (t.remove key (H key)) u k w'∧Past [Bm,T,B] W w':=by
 obtain⟨m,hm,hok,hon⟩:=h.gm;have hR:=h.re.rdL (i:=0) (L:=.pr Bm 0) (m:=m) Nat.one_pos hm h.hd;refine (ndel_off h.row hR key (H key) (by omega) hH).mono fun e w' ⟨he,hs'⟩=>?_
 obtain⟨M,hM⟩:=h.rep;have hM':∃M',RepN H la (t.remove key (H key)) M':=⟨_,hM.remove hk⟩;have okT:(t.remove key (H key)).Ok:=by obtain⟨M',h'⟩:=hM';exact h'.rep.1.ok
 have hre:=h.re.tlL (i:=0) (L:=.pr Bm 0) Nat.one_pos h.hd hs' okT (remove_n ..)
 have hp:Past [Bm,T,B] W w':=hs'.ln.past.mono fun b hb=>by
  simp only [Ln.d,List.mem_append,List.mem_cons,List.not_mem_nil,or_false] at hb ⊢
  rcases hb with (h|h)|h
  ·exact .inr (.inl h)
  ·exact .inr (.inr h)
  ·exact .inl h
 exact⟨he,h.real (re1 hre (by rw [up_same])) ⟨_,hs'.ln.at',see_pr_ok Bm 0 m hok hon _⟩ hp hM',hp⟩
theorem PI.del2{key:Nat}(h1:PI a w0 H la X Z Bm p d n T B f (t.remove key (H key)) t k W)(hK:∀b∈KL,b∉FI X Z Bm T B n f)(hla:la≤100)(hk:key<la)(hH:H key<18446744073709551616)(hkk:k+200≤100000000)(hb:Below W.heap.size W W') :
  Calls Tryz.prog 15 #[.pointer (some ⟨Z,0,none⟩),.int .u64 (key:Nat),.int .u64 (H key:Nat)] W' fun e w''=>e=.returned (.tuple #[group.entV (entOf t key (H key)).key (entOf t key (H key)).val (entOf t key (H key)).hash,.bool (isThere t key (H key))])∧PK KL W' w''∧NI a w0 H la X Z Bm p d (k+128) KL w'':=by
 have okT:(t.remove key (H key)).Ok:=by obtain⟨M',h'⟩:=h1.rep;exact h'.rep.1.ok
 have h2:=h1.read hb;have hl:∀b∈f.d t.n,b<W'.heap.size:=fun b hb=>h2.wa.lts (.inl hb)
 have hlk:=looks_le t key (H key);have hn64:=okN_le h2.uok.n;refine (rdel_off h2.qow h2.wa h2.uok key (H key) (by omega) hH hl).mono fun e w'' ⟨he,hs⟩=>?_
 have hn':(t.remove key (H key)).n=n:=(remove_n ..).trans h1.un;have hp':=hs.past;rw [hn'] at hp';exact⟨he,h2.pk2 hK hp',n,T,B,f,_,_,h2.doc hs okT hn',by omega,hK⟩
theorem PI.all(h:PI a w0 H la X Z Bm p d n T B f t t k W):Calls Tryz.prog 18 #[.pointer (some ⟨Z,0,none⟩)] W fun e w'=>∃v,e=.returned v∧KeptE W.heap.size w' v (ents t t.n)∧Below W.heap.size W w':=rall_off h.qow h.wa h.uok.n
theorem fi3{b:Nat}(hb:b∈[Bm,T,B]):b∈FI X Z Bm T B n f:=by
 simp only [FI,List.mem_cons,List.not_mem_nil,or_false] at hb ⊢
 rcases hb with e|e|e
 ·exact .inr (.inr (.inl e))
 ·exact .inr (.inr (.inr (.inl e)))
 ·exact .inr (.inr (.inr (.inr (.inl e))))
theorem PI.look(h:PI a w0 H la X Z Bm p d n T B f t u k W){m:Mt}(hm:m.Ok∧m.on=false){j:Nat}(hs:LnStep [] (.pr Bm 0) ((Ln.pr Bm 0).see m j) W W'):Past [Bm,T,B] W W'∧PI a w0 H la X Z Bm p d n T B f t u k W':=by
 have hp:Past [Bm,T,B] W W':=hs.past.mono fun b hb=>by
  simp only [Ln.d,List.mem_append,List.mem_cons,List.not_mem_nil,or_false,false_or] at hb ⊢;exact .inl hb
 exact⟨hp,h.real (h.re.lnL h.hd hs) ⟨_,hs.at',see_pr_ok Bm 0 m hm.1 hm.2 _⟩ hp h.rep⟩
theorem PI.find(h:PI a w0 H la X Z Bm p d n T B f t u k W)(hla:la≤100){key:Nat}(hk:key<la)(hH:H key<18446744073709551616) :
  Calls Tryz.prog 16 #[.pointer (some ⟨X,0,none⟩),.agg #[.pointer (some ⟨Bm,0,none⟩)],.int .u64 (key:Nat),.int .u64 (H key:Nat)] W fun e w'=>e=.returned (.tuple #[group.entV (table.sK ((ents t t.n).find? fun e=>e.key==key)) (sV ((ents t t.n).find? fun e=>e.key==key)) (sH ((ents t t.n).find? fun e=>e.key==key)),.bool ((ents t t.n).find? fun e=>e.key==key).isSome])∧Past [Bm,T,B] W w'∧PI a w0 H la X Z Bm p d n T B f t u k w':=by
 obtain⟨m,hm,hok,hon⟩:=h.gm;have hR:=h.re.rdL (i:=0) (L:=.pr Bm 0) (m:=m) Nat.one_pos hm h.hd;refine (nfind_off h.row hR key (H key) (by omega) hH).mono fun e w' ⟨he,hs'⟩=>?_
 obtain⟨M,hM⟩:=h.rep;have hf:=rep_find hM.rep key;obtain⟨q1,q2⟩:=h.look (m:=m) ⟨hok,hon⟩ hs';refine⟨?_,q1,q2⟩;rw [he,hf];cases hi:isThere t key (H key)
 ·have e0:entOf t key (H key)=⟨1,0,0,0⟩:=by unfold entOf;rw [hi];rfl
  rw [e0];rfl
 ·rfl
theorem PI.least(h:PI a w0 H la X Z Bm p d n T B f t u k W)(hash key:Nat) :
  Calls Tryz.prog 19 #[.pointer (some ⟨X,0,none⟩),.agg #[.pointer (some ⟨Bm,0,none⟩)],.int .u64 (hash:Nat),.int .u64 (key:Nat)] W fun e w'=>e=.returned (.tuple #[group.entV (table.sK (lfold hash key none (ents t t.n))) (sV (lfold hash key none (ents t t.n))) (sH (lfold hash key none (ents t t.n))),.bool (lfold hash key none (ents t t.n)).isSome])∧Past [Bm,T,B] W w'∧PI a w0 H la X Z Bm p d n T B f t u k w':=by
 obtain⟨m,hm,hok,hon⟩:=h.gm;have hR:=h.re.rdL (i:=0) (L:=.pr Bm 0) (m:=m) Nat.one_pos hm h.hd;refine (nleast_off h.row hR hash key).mono fun e w' ⟨he,hs'⟩=>?_
 obtain⟨q1,q2⟩:=h.look (m:=m) ⟨hok,hon⟩ hs';exact⟨he,q1,q2⟩
end
abbrev FB(X Z G:Nat)(Y:Lay)(R E Bm:Nat)(fp:List Nat):List Nat:=X::Z::G::Ft Y R E Bm fp
structure PB(a:String→Addr)(w0:World)(H:Nat→Nat)(la X Z Bm p d:Nat)(kd:Int)(Y:Lay)(D n1:Nat)(dp:Int)(R E G c q:Nat)(t:Nat→Tb)(fp:List Nat)(nx br:Nat)(u:Nat→Tb)(k:Nat→Nat)(m:Mt)(W:World):Prop where
 ls:LS a w0 Y D n1 d dp R E G c Bm q t fp nx br u k m W
 row:NRow X p d (Y.T 0) kd (some ⟨D,0,none⟩) W
 qow:∃T',QRow Z p d kd T' (some ⟨R,0,none⟩) W
 ok:m.Ok∧m.on=false
 oX:w0.heap.size≤X∧X≠G∧X∉Ft Y R E Bm fp
 oZ:w0.heap.size≤Z∧Z≠G∧Z∉Ft Y R E Bm fp
 xz:X≠Z
 du:∃F M,Du H la Y.N d F t M 5000
 n3:Y.N=3→d<5
section
variable {a:String→Addr} {w0:World} {H:Nat→Nat} {la X Z Bm p d:Nat} {kd:Int} {Y:Lay} {D n1:Nat} {dp:Int} {R E G c q q':Nat} {t t' u u':Nat→Tb} {fp fp':List Nat} {nx br nx' br':Nat} {k k':Nat→Nat} {m m':Mt} {W W':World} {KL:List Nat}
theorem ft_real{b:Nat}(hb:b∈Bm::fp):b∈Ft Y R E Bm fp:=by
 simp only [Ft,List.mem_cons,List.mem_append] at hb ⊢
 rcases hb with h|h
 ·exact .inl h
 ·exact .inr (.inr (.inr (.inl h)))
theorem ft_docs{b:Nat}(hb:b∈R::E::Y.rall):b∈Ft Y R E Bm fp:=by
 simp only [Ft,List.mem_cons,List.mem_append] at hb ⊢
 rcases hb with h|h|h
 ·exact .inr (.inl h)
 ·exact .inr (.inr (.inl h))
 ·exact .inr (.inr (.inr (.inr h)))
theorem ft_grow{b:Nat}(hb:b∉Ft Y R E Bm fp)(hl:b<W.heap.size)(hf:∀b∈fp',b∈fp∨W.heap.size≤b):b∉Ft Y R E Bm fp':=fun e=>by
 simp only [Ft,List.mem_cons,List.mem_append,not_or] at hb e
 rcases e with e|e|e|e|e
 ·exact hb.1 e
 ·exact hb.2.1 e
 ·exact hb.2.2.1 e
 ·rcases hf b e with h|h
  ·exact hb.2.2.2.1 h
  ·omega
 ·exact hb.2.2.2.2 e
theorem PB.read(h:PB a w0 H la X Z Bm p d kd Y D n1 dp R E G c q t fp nx br u k m W)(hb:Below W.heap.size W W'):PB a w0 H la X Z Bm p d kd Y D n1 dp R E G c q t fp nx br u k m W':=
 ⟨h.ls.read hb,h.row.keep hb,h.qow.imp fun _ q=>q.keep hb,h.ok,h.oX,h.oZ,h.xz,h.du,h.n3⟩
theorem PB.real(h:PB a w0 H la X Z Bm p d kd Y D n1 dp R E G c q t fp nx br u k m W)(hd:DAt a w0 Y D n1 d dp q' false t' fp' W')(hm:MAt Bm 0 m' W')(ok:m'.Ok∧m'.on=false)(hp:Past (Bm::fp) W W')(hf:∀b∈fp',b∈fp∨W.heap.size≤b)(du:∃F M,Du H la Y.N d F t' M 5000):PB a w0 H la X Z Bm p d kd Y D n1 dp R E G c q' t' fp' nx br u k m' W':=
 ⟨h.ls.real hd hm hp hf,h.row.past hp fun e=>h.oX.2.2 (ft_real e),h.qow.imp fun _ q=>q.past hp fun e=>h.oZ.2.2 (ft_real e),ok,⟨h.oX.1,h.oX.2.1,ft_grow h.oX.2.2 h.row.lt hf⟩,⟨h.oZ.1,h.oZ.2.1,ft_grow h.oZ.2.2 (by obtain⟨_,q⟩:=h.qow;exact q.lt) hf⟩,h.xz,du,h.n3⟩
theorem PB.doc(h:PB a w0 H la X Z Bm p d kd Y D n1 dp R E G c q t fp nx br u k m W)(hl:LS a w0 Y D n1 d dp R E G c Bm q t fp nx' br' u' k' m W')(hp:Past (R::E::Y.rall) W W'):PB a w0 H la X Z Bm p d kd Y D n1 dp R E G c q t fp nx' br' u' k' m W':=
 ⟨hl,h.row.past hp fun e=>h.oX.2.2 (ft_docs e),h.qow.imp fun _ q=>q.past hp fun e=>h.oZ.2.2 (ft_docs e),h.ok,h.oX,h.oZ,h.xz,h.du,h.n3⟩
theorem PB.pk1(hK:∀b∈KL,b∉FB X Z G Y R E Bm fp)(hp:Past (Bm::fp) W W'):PK KL W W':=⟨_,hp,fun b hb e=>hK b hb (List.mem_cons_of_mem _ (List.mem_cons_of_mem _ (List.mem_cons_of_mem _ (ft_real e))))⟩
theorem PB.pk2(hK:∀b∈KL,b∉FB X Z G Y R E Bm fp)(hp:Past (R::E::Y.rall) W W'):PK KL W W':=⟨_,hp,fun b hb e=>hK b hb (List.mem_cons_of_mem _ (List.mem_cons_of_mem _ (List.mem_cons_of_mem _ (ft_docs e))))⟩
def NB(a:String→Addr)(w0:World)(H:Nat→Nat)(la X Z Bm p d j:Nat)(KL:List Nat)(W:World):Prop:=∃kd Y D n1 dp R E G c q t fp k m,PB a w0 H la X Z Bm p d kd Y D n1 dp R E G c q t fp (q-(Y.N-1)*n1) ((Y.N-1)*n1-q) t k m W∧sumK Y.N k≤j∧∀b∈KL,b∉FB X Z G Y R E Bm fp
theorem PB.tabs(h:PB a w0 H la X Z Bm p d kd Y D n1 dp R E G c q t fp nx br u k m W){l:List Nat}(hl:∀b∈l,b∈Y.tall)(hp:Past (l++(Ln.pr Bm 0).d) W W'):Past (Bm::fp) W W':=hp.mono fun b hb=>by
 rcases List.mem_append.1 hb with hb|hb
 ·exact List.mem_cons_of_mem _ (h.ls.da.tin b (hl b hb))
 ·obtain rfl:b=Bm:=by simpa [Ln.d] using hb
  exact List.mem_cons_self
theorem PB.put(h:PB a w0 H la X Z Bm p d kd Y D n1 dp R E G c q t fp (q-(Y.N-1)*n1) ((Y.N-1)*n1-q) t k m W)(hK:∀b∈KL,b∉FB X Z G Y R E Bm fp)(hla:la≤100)(hH:∀key,key<la→H key<18446744073709551616){key v:Nat}(hk:key<la)(hv:v<18446744073709551616)(hkk:sumK Y.N k+200≤100000000)(more:Bool) :
  Calls Tryz.prog 11 #[.pointer (some ⟨X,0,none⟩),.agg #[.pointer (some ⟨Bm,0,none⟩)],group.entV key v (H key),.bool more] W fun e w'=>∃b en,en≤16∧e=.returned (.tuple #[.bool b,errAt a en])∧PK KL W w'∧∀W',Below w'.heap.size w' W' →
   Calls Tryz.prog 13 #[.pointer (some ⟨Z,0,none⟩),group.entV key v (H key),.bool more] W' fun e w''=>e=.returned (.tuple #[.bool b,.int .i64 (en:Nat)])∧PK KL W' w''∧NB a w0 H la X Z Bm p d (sumK Y.N k+128) KL w'':=by
 obtain⟨F,M,hM⟩:=h.du;have hkb:key<18446744073709551616:=by omega
 refine (nput_on h.row h.ls.da (L:=.pr Bm 0) h.ls.mt h.ls.hd key v (H key) hkb hv (hH key hk) more).mono fun e w' ⟨he,hD,hs'⟩=>?_
 have hM':=(du_putW hM h.ls.da.N h.ls.da.fresh (by omega) hH hk hv more).1;have hp:=h.tabs (fun b hb=>hb) hs'.past;have h1:=h.real hD hs'.at' (see_pr_ok Bm 0 m h.ok.1 h.ok.2 _) hp (fun b hb=>.inl hb) hM'
 have hen:dE t key (H key) (js (rdy Y n1 q) Y.N d (H key)) more≤16:=by
  unfold dE
  split
  ·omega
  ·split
   ·rcases putE_le' (t (dI t key (H key) (js (rdy Y n1 q) Y.N d (H key)))) key (H key) with h|h <;> omega
   ·omega
 refine⟨_,_,hen,he,PB.pk1 hK hp,fun W' hb=>?_⟩;have h2:=h1.read hb;obtain⟨T',hqo⟩:=h2.qow;have hfew:=h.ls.few key (H key);refine (rput_on (l:=[]) (Q:=fun w''=>∃k',sumK Y.N k'≤sumK Y.N k+128∧LS a w0 Y D n1 d dp R E G c Bm q (dT t key (H key) v (js (rdy Y n1 q) Y.N d (H key)) more) fp (q-(Y.N-1)*n1) ((Y.N-1)*n1-q) (dT t key (H key) v (js (rdy Y n1 q) Y.N d (H key)) more) k' ((Ln.pr Bm 0).see m (fndK t key (H key) (js (rdy Y n1 q) Y.N d (H key)))) w''∧Past (R::E::Y.rall) W' w'') hqo key v (H key) more (fun W1 hb1=>?_) (fun x y ⟨k',q1,q2,q3⟩ hb=>⟨k',q1,q2.read hb,q3.trans (Past.of hb)⟩)).mono fun e w'' ⟨he,k',q1,q2,q3⟩=>⟨he,PB.pk2 hK q3,kd,Y,D,n1,dp,R,E,G,c,q,_,fp,k',_,h2.doc q2 q3,q1,hK⟩
 refine ((h2.ls.read hb1).rput (rdy_eq Y n1 q) key v (H key) hkb hv (hH key hk) more hkk).mono fun e w'' ⟨he,⟨k',hk',hl⟩,hp'⟩=>⟨he,k', ?_,hl,(Past.of hb1).trans hp'⟩
 omega
theorem PB.del1(h:PB a w0 H la X Z Bm p d kd Y D n1 dp R E G c q t fp nx br u k m W)(hla:la≤100)(hH:∀key,key<la→H key<18446744073709551616){key:Nat}(hk:key<la) :
  Calls Tryz.prog 14 #[.pointer (some ⟨X,0,none⟩),.agg #[.pointer (some ⟨Bm,0,none⟩)],.int .u64 (key:Nat),.int .u64 (H key:Nat)] W fun e w'=>e=.returned (.tuple #[group.entV (fndE t key (H key) (js (rdy Y n1 q) Y.N d (H key))).key (fndE t key (H key) (js (rdy Y n1 q) Y.N d (H key))).val (fndE t key (H key) (js (rdy Y n1 q) Y.N d (H key))).hash,.bool (dual.fnd t key (H key) (js (rdy Y n1 q) Y.N d (H key))).isSome])∧PB a w0 H la X Z Bm p d kd Y D n1 dp R E G c q (eT t key (H key) (js (rdy Y n1 q) Y.N d (H key))) fp nx br u k ((Ln.pr Bm 0).see m (fndK t key (H key) (js (rdy Y n1 q) Y.N d (H key)))) w'∧Past (Bm::fp) W w':=by
 obtain⟨F,M,hM⟩:=h.du;refine (ndel_on h.row h.ls.da (L:=.pr Bm 0) h.ls.mt h.ls.hd key (H key) (by omega) (hH key hk)).mono fun e w' ⟨he,hD,hs'⟩=>?_
 have hM':=(du_delW hM h.ls.da.N h.ls.da.fresh (by omega) hk).1;have hp:=h.tabs (fun b hb=>hb) hs'.past;exact⟨he,h.real hD hs'.at' (see_pr_ok Bm 0 m h.ok.1 h.ok.2 _) hp (fun b hb=>.inl hb) hM',hp⟩
theorem PB.del2{key:Nat}(h1:PB a w0 H la X Z Bm p d kd Y D n1 dp R E G c q (eT t key (H key) (js (rdy Y n1 q) Y.N d (H key))) fp (q-(Y.N-1)*n1) ((Y.N-1)*n1-q) t k m' W)(hK:∀b∈KL,b∉FB X Z G Y R E Bm fp)(hla:la≤100)(hk:key<la)(hH:H key<18446744073709551616)(hkk:sumK Y.N k+200≤100000000)(hfew:dual.fndK t key (H key) (js (rdy Y n1 q) Y.N d (H key))≤128)(hb:Below W.heap.size W W') :
  Calls Tryz.prog 15 #[.pointer (some ⟨Z,0,none⟩),.int .u64 (key:Nat),.int .u64 (H key:Nat)] W' fun e w''=>e=.returned (.tuple #[group.entV (fndE t key (H key) (js (rdy Y n1 q) Y.N d (H key))).key (fndE t key (H key) (js (rdy Y n1 q) Y.N d (H key))).val (fndE t key (H key) (js (rdy Y n1 q) Y.N d (H key))).hash,.bool (dual.fnd t key (H key) (js (rdy Y n1 q) Y.N d (H key))).isSome])∧PK KL W' w''∧NB a w0 H la X Z Bm p d (sumK Y.N k+128) KL w'':=by
 have h2:=h1.read hb;obtain⟨T',hqo⟩:=h2.qow;have hlts:∀b∈R::E::Y.rall,b<W'.heap.size:=fun b hb=>h2.ls.lts.1 b (ft_docs hb)
 refine (rdel_on (l:=R::E::Y.rall) (Q:=fun w''=>∃k',sumK Y.N k'≤sumK Y.N k+128∧LS a w0 Y D n1 d dp R E G c Bm q (eT t key (H key) (js (rdy Y n1 q) Y.N d (H key))) fp (q-(Y.N-1)*n1) ((Y.N-1)*n1-q) (eT t key (H key) (js (rdy Y n1 q) Y.N d (H key))) k' m' w'') hqo key (H key) hlts (fun W1 hb1=>?_) (fun x B i v ⟨k',q1,q2⟩ hB=>⟨k',q1,q2.box (h2.ls.new hB).1 (h2.ls.new hB).2.1 (h2.ls.new hB).2.2 i v⟩)).mono fun e w'' ⟨he,⟨k',q1,q2⟩,q3⟩=>⟨he,PB.pk2 hK q3,kd,Y,D,n1,dp,R,E,G,c,q,_,fp,k',_,h2.doc q2 q3,q1,hK⟩
 refine ((h2.ls.read hb1).rdelete (rdy_eq Y n1 q) key (H key) (by omega) hH hkk).mono fun e w'' ⟨he,⟨k',hk',hl⟩,hp'⟩=>⟨he,⟨k', ?_,hl⟩,hp'⟩
 omega
theorem PB.all(h:PB a w0 H la X Z Bm p d kd Y D n1 dp R E G c q t fp nx br u k m W):Calls Tryz.prog 18 #[.pointer (some ⟨Z,0,none⟩)] W fun e w'=>∃v,e=.returned v∧KeptE W.heap.size w' v (entsA u Y.N)∧Below W.heap.size W w':=by
 obtain⟨T',hqo⟩:=h.qow;exact rall_on hqo h.ls.rd.all
theorem PB.look(h:PB a w0 H la X Z Bm p d kd Y D n1 dp R E G c q t fp nx br u k m W)(hD:DAt a w0 Y D n1 d dp q false t fp W'){j:Nat}(hs:LnStep [] (.pr Bm 0) ((Ln.pr Bm 0).see m j) W W'):Past (Bm::fp) W W'∧PB a w0 H la X Z Bm p d kd Y D n1 dp R E G c q t fp nx br u k ((Ln.pr Bm 0).see m j) W':=by
 have hp:=h.tabs (fun b hb=>by cases hb) hs.past;exact⟨hp,h.real hD hs.at' (see_pr_ok Bm 0 m h.ok.1 h.ok.2 _) hp (fun b hb=>.inl hb) h.du⟩
theorem PB.find(h:PB a w0 H la X Z Bm p d kd Y D n1 dp R E G c q t fp nx br u k m W)(hla:la≤100)(hH:∀key,key<la→H key<18446744073709551616){key:Nat}(hk:key<la) :
  Calls Tryz.prog 16 #[.pointer (some ⟨X,0,none⟩),.agg #[.pointer (some ⟨Bm,0,none⟩)],.int .u64 (key:Nat),.int .u64 (H key:Nat)] W fun e w'=>e=.returned (.tuple #[group.entV (table.sK ((entsA t Y.N).find? fun e=>e.key==key)) (sV ((entsA t Y.N).find? fun e=>e.key==key)) (sH ((entsA t Y.N).find? fun e=>e.key==key)),.bool ((entsA t Y.N).find? fun e=>e.key==key).isSome])∧Past (Bm::fp) W w'∧∃m',PB a w0 H la X Z Bm p d kd Y D n1 dp R E G c q t fp nx br u k m' w':=by
 obtain⟨F,M,hM⟩:=h.du;refine (nfind_on h.row h.ls.da (L:=.pr Bm 0) h.ls.mt h.ls.hd key (H key) (by omega) (hH key hk)).mono fun e w' ⟨he,hD,hs'⟩=>?_
 have hf:=du_find hM h.ls.da.N h.ls.da.fresh key;obtain⟨q1,q2⟩:=h.look hD hs';refine⟨?_,q1,_,q2⟩;rw [he,hf];unfold fndE;cases hi:dual.fnd t key (H key) (js (rdy Y n1 q) Y.N d (H key)) <;> rfl
theorem PB.least(h:PB a w0 H la X Z Bm p d kd Y D n1 dp R E G c q t fp nx br u k m W)(hash key:Nat) :
  Calls Tryz.prog 19 #[.pointer (some ⟨X,0,none⟩),.agg #[.pointer (some ⟨Bm,0,none⟩)],.int .u64 (hash:Nat),.int .u64 (key:Nat)] W fun e w'=>e=.returned (.tuple #[group.entV (table.sK (lfold hash key none (entsA t Y.N))) (sV (lfold hash key none (entsA t Y.N))) (sH (lfold hash key none (entsA t Y.N))),.bool (lfold hash key none (entsA t Y.N)).isSome])∧Past (Bm::fp) W w'∧∃m',PB a w0 H la X Z Bm p d kd Y D n1 dp R E G c q t fp nx br u k m' w':=by
 have hl:=h.ls.mt;have hlt:∀b∈(Ln.pr Bm 0).d,b<W.heap.size:=LnAt.lt (L:=.pr Bm 0) hl;refine (least_on (D:=D) (l:=(Ln.pr Bm 0).d) (R:=fun x y z b w'=>(x=table.sK (lfold hash key none (entsA t Y.N))∧y=sV (lfold hash key none (entsA t Y.N))∧z=sH (lfold hash key none (entsA t Y.N))∧b=(lfold hash key none (entsA t Y.N)).isSome)∧DAt a w0 Y D n1 d dp q false t fp w'∧LnStep [] (.pr Bm 0) ((Ln.pr Bm 0).see m (gS t (cut Y (rdy Y n1 q)).N)) W w') h.row (some ⟨Bm,0,none⟩) hash key hlt (fun W1 hb=>?_) (fun _ _ _ _ w' B' i u hr hB=>⟨hr.1,DAt.newset (w1:=W) h.ls.da hr.2.1 hB i u,hr.2.2.newset hlt (p:=⟨B',i,none⟩) hB u⟩)).mono fun e w' ⟨x,y,z,b,he,_,⟨h1,h2,h3,h4⟩,hD,hs'⟩=>?_
 ·have hc:=(h.ls.da.read hb).least (L:=.pr Bm 0) (m:=m) (LnStep.of [] (L:=.pr Bm 0) hl hb).at' h.ls.hd hash key
  rw [h.ls.da.ents] at hc;exact hc.mono fun e w' ⟨he,hD,hs'⟩=>⟨_,_,_,_,he,by simpa using hs'.past,⟨rfl,rfl,rfl,rfl⟩,hD,(LnStep.of [] (L:=.pr Bm 0) hl hb).trans hs'⟩
 ·obtain⟨q1,q2⟩:=h.look hD hs'
  exact⟨by rw [he,h1,h2,h3,h4],q1,_,q2⟩
end
theorem ev_at(a:String→Addr)(k:Nat):choose.ev a k=errAt a k:=by
 cases k with
 | zero=>rfl
 | succ k=>unfold choose.ev;rw [if_neg (by omega)];rfl
theorem gx_16(k g:Int):choose.gx k g≤16:=by rcases choose.gx_cases k g with h|h|h <;> omega
def nG(kd:Int)(n:Nat):Nat:=if kd=2 then 2*n else n
theorem nG_ok{kd:Int}{n:Nat}(hn:okN n)(hx:choose.gx kd n=0):okN (nG kd n)∧choose.ge kd n=(nG kd n:Nat):=by
 unfold choose.gx at hx
 split at hx
 ·rename_i h1
  split at hx
  ·rename_i h2
   have e:choose.ge kd n=if kd=2 then 2*(n:Int) else n:=by unfold choose.ge;rw [if_pos ⟨h1,h2⟩]
   rw [e];unfold nG
   split
   ·rename_i h3
    have h64:n≠64:=fun e=>h2.2 ⟨h3,by omega⟩
    refine⟨?_,by omega⟩
    rcases okN_cases hn with rfl|rfl|rfl|rfl|rfl|rfl|rfl <;> first|decide|omega
   ·exact⟨hn,rfl⟩
  ·cases hx
 ·cases hx
section
variable {a:String→Addr} {w0:World} {H:Nat→Nat} {la X Z Bm p d n T B:Nat} {f:Rf} {t t' u u':Tb} {k k':Nat} {W W':World} {KL:List Nat}
theorem PI.start_no(h:PI a w0 H la X Z Bm p d n T B f t t k W)(hK:∀b∈KL,b∉FI X Z Bm T B n f)(hKR:choose.KR a w0)(hFr:choose.FreshOk w0)(kd:Int)(hx:choose.gx kd t.n≠0∨kd=3∧d=5) :
  ∃en,en≤16∧(Calls Tryz.prog 22 #[.pointer (some ⟨X,0,none⟩),.int .i64 kd] W fun e w'=>e=.returned (errAt a en)∧PI a w0 H la X Z Bm p d n T B f t t k w'∧Below W.heap.size W w')∧∀W',PI a w0 H la X Z Bm p d n T B f t t k W'→Calls Tryz.prog 23 #[.pointer (some ⟨Z,0,none⟩),.int .i64 kd] W' fun e w''=>e=.returned (.int .i64 (en:Nat))∧PI a w0 H la X Z Bm p d n T B f t t k w''∧Below W'.heap.size W' w'':=by
 have hT:TAt T B t W:=h.re.at' 0 Nat.one_pos
 by_cases hg:choose.gx kd t.n=0
 ·obtain⟨rfl,rfl⟩:=hx.resolve_left (fun e=>e hg)
  refine⟨1,by omega,(start_range h.row hT (hKR.below h.bel) (hFr.below h.bel) hg).mono fun e w' ⟨he,hb⟩=>⟨he,h.read hb,hb⟩,fun W' h'=>(rstart_range h'.qow h'.wa hg).mono fun e w' ⟨he,hb⟩=>⟨he,h'.read hb,hb⟩⟩
 ·refine⟨_,gx_16 kd t.n,(start_bad h.row hT (hKR.below h.bel) (hFr.below h.bel) kd hg).mono fun e w' ⟨he,hb⟩=>⟨by rw [he,ev_at],h.read hb,hb⟩,fun W' h'=>(rstart_bad h'.qow h'.wa kd hg).mono fun e w' ⟨he,hb⟩=>⟨he,h'.read hb,hb⟩⟩
theorem sum_kD(k nb:Nat)(h:nb=1∨nb=2):sumK (nb+1) (kD k)=k:=by
 rcases h with rfl|rfl <;> simp [sumK,kD]
theorem PI.start(h:PI a w0 H la X Z Bm p d n T B f t t k W)(hK:∀b∈KL,b∉FI X Z Bm T B n f)(hKl:∀b∈KL,b<W.heap.size)(hla:la≤100)(hd5:d≤5)(hKR:choose.KR a w0)(hFr:choose.FreshOk w0)(kd:Int)(hx:choose.gx kd t.n=0)(h3:kd=3→d≠5) :
  Calls Tryz.prog 22 #[.pointer (some ⟨X,0,none⟩),.int .i64 kd] W fun e w'=>e=.returned .nilIface∧PK KL W w'∧Below w0.heap.size w0 w'∧∀W',Below w'.heap.size w' W' →
   Calls Tryz.prog 23 #[.pointer (some ⟨Z,0,none⟩),.int .i64 kd] W' fun e w''=>e=.returned (.int .i64 0)∧PK KL W' w''∧NB a w0 H la X Z Bm p d k KL w'':=by
 have hn:=h.tn;have hT:TAt T B t W:=h.re.at' 0 Nat.one_pos;have on:okN n:=by have:=(h.re.ok 0 Nat.one_pos).n;rwa [hn] at this
 obtain⟨o1,hge⟩:=nG_ok on (by rw [←hn];exact hx);obtain⟨n1,hn1⟩:∃n1,nG kd n=n1:=⟨_,rfl⟩;rw [hn1] at o1 hge;obtain⟨nb,hnb'⟩:∃nb,(if kd=3 then 2 else 1)=nb:=⟨_,rfl⟩;obtain⟨dp,hdp⟩:∃dp,(if kd=3 then (d:Int) else -1)=dp:=⟨_,rfl⟩
 have hnb:(dp<0∧nb=1)∨(dp=d∧nb=2):=by
  by_cases e:kd=3
  ·rw [if_pos e] at hnb' hdp;exact .inr ⟨hdp.symm,hnb'.symm⟩
  ·rw [if_neg e] at hnb' hdp;exact .inl ⟨by omega,hnb'.symm⟩
 have hnb2:nb=1∨nb=2:=by omega
 have hdp15:dp≤15:=by omega
 have hXl:=h.row.lt;have hZl:=h.qow.lt;have hBl:=h.gm.lt;obtain⟨M,hM⟩:=h.rep;refine (start_yes (R:=fun D w1=>∃(Y:Lay) (fd:List Nat),Y.N=nb+1∧Y.T 0=T∧Y.B 0=B∧Y.n 0=n∧DAt a w0 Y D n1 d dp 0 false (kT t n1) fd w1∧∀b∈fd,b=T∨b=B∨W.heap.size≤b) h.row hT (hKR.below h.bel) (hFr.below h.bel) kd hx h3 (fun W1 hb1=>?_)).mono fun e w' ⟨he,D,w1,⟨Y,fd,y1,y2,y3,y4,hD,hfd⟩,hb1,hw⟩=>?_
 ·rw [hn,hge,hdp]
  refine (dual.new_yes a w0 W1 T B n n1 d nb dp (kT t n1) (re1 (h.re.read hb1) rfl) on o1 (by omega) hdp15 hnb (fun j hj=>kT_far hj)).mono fun e w2 ⟨Y,D,fd,he,y1,y2,y3,y4,hD,hb2,hfd,_⟩=>⟨D,he,⟨Y,fd,y1,y2,y3,y4,hD,fun b hb=>?_⟩,hb2⟩
  have:=hb1.size
  rcases hfd b hb with h|h|h
  ·exact .inl h
  ·exact .inr (.inl h)
  ·exact .inr (.inr (by omega))
 ·obtain⟨N,T',B',F0,n'⟩:=Y
  simp only at y1 y2 y3 y4;subst y1
  have hnX:X∉fd:=fun e=>by
   rcases hfd X e with h'|h'|h'
   ·exact h.oX.2.1 h'
   ·exact h.oX.2.2 h'
   ·omega
  have hnZ:Z∉fd:=fun e=>by
   rcases hfd Z e with h'|h'|h'
   ·exact h.oZ.2.1 h'
   ·exact h.oZ.2.2 h'
   ·omega
  have hnB:Bm∉fd:=fun e=>by
   rcases hfd Bm e with h'|h'|h'
   ·exact h.oB.2.1 h'
   ·exact h.oB.2.2 h'
   ·omega
  have hp:Past [X] w1 w':=by
   rw [hw];exact ((Past.refl [X] w1).store (.inl (by simp)) _).store (.inl (by simp)) _
  have hrow:NRow X p d (T' 0) kd (some ⟨D,0,none⟩) w':=by
   rw [hw,y2];exact ((h.row.keep hb1).set3 kd).set4 _
  have hD':DAt a w0 ⟨nb+1,T',B',F0,n'⟩ D n1 d dp 0 false (kT t n1) fd w':=hD.aside hp fun b hb=>(by
   obtain rfl:b=X:=by simpa using hb
   exact⟨h.oX.1,hnX⟩)
  have hfX:∀b,b∈f.d t.n∨b=f.G→b∉[X]:=fun b hb e=>by
   rw [hn] at hb;exact (h.fB b hb).2.1 (by simpa using e)
  refine⟨he,⟨[X],(Past.of hb1).trans hp,fun b hb e=>hK b hb (by simp only [List.mem_singleton] at e;simp [e])⟩,hD'.re.bel,fun W' hb=>?_⟩;have z1:=hb1.size;have z2:=hp.size;have z3:=hb.size;have hqo:QRow Z p d 0 f.R none W':=((h.qow.keep hb1).past hp (by simpa using h.xz.1.symm)).keep hb;have hwa:WAt f t k W':=((h.wa.below hb1).past hp hfX).below hb;have hgm:GM Bm W':=((h.gm.read hb1).past hp (by simpa using h.xz.2.1.symm)).read hb;have hDD:=hD'.read hb;have hrw:=hrow.keep hb
  have hWn:Wn w0 (lyD T' B' (fun _=>f) n' 0) (kT t n1) (kD k) W':=by
   have z:∀i,i<(lyD T' B' (fun _=>f) n' 0).N→i=0:=fun i hi=>by have : i<0+1:=hi;omega
   refine⟨fun i hi=>?_,fun i hi=>?_,fun i hi=>?_,fun i j hi hj hne=>?_,fun i hi b hb'=>?_,hDD.re.bel⟩
   ·obtain rfl:=z i hi;exact hwa
   ·obtain rfl:=z i hi;exact h.uok
   ·obtain rfl:=z i hi;exact hn.trans y4.symm
   ·have:=z i hi;have:=z j hj;omega
   ·obtain rfl:=z i hi
    have hb':b∈f.G::f.d (n' 0):=hb';rw [y4] at hb'
    rcases List.mem_cons.1 hb' with e|e
    ·exact (h.fB b (.inr e)).1
    ·exact (h.fB b (.inl e)).1
  obtain⟨Q,pl⟩:=hDD.pl;have he1:∀j,1≤j→j<nb+1→n' j=n1:=fun j h1 hj=>pl.e1 j h1 hj
  refine (rstart_yes hqo hwa kd hx h3 (Q:=fun R w2=>∃F E G c,Rd w0 R E G c d 0 (nb*n1) false (lyD T' B' F n' nb) (kT t n1) (kD k) w2∧W'.heap.size≤R∧W'.heap.size≤E∧W'.heap.size≤G∧∀b∈(lyD T' B' F n' nb).rall,(b∈f.d n∨b=f.G)∨W'.heap.size≤b) (fun W2 hb2=>?_)).mono fun e w'' ⟨he,R,w2,⟨F,E,G,c,hRd,r1,r2,r3,r4⟩,hb2,hw2⟩=>?_
  ·rw [hn,hge,hdp]
   have z4:=hb2.size;refine (rdnew_yes w0 W2 T' B' n' n1 d nb dp (kT t n1) k f (hWn.read hb2) o1 (by omega) hdp15 hnb he1 (fun j hj=>kT_far hj)).mono fun e w3 ⟨F,R,E,G,c,he,hRd,hb3,a1,a2,a3,a4⟩=>⟨R,he,⟨F,E,G,c,hRd,by omega,by omega,by omega,fun b hb'=>?_⟩,hb3⟩
   rcases a4 b hb' with e|e
   ·left
    have e':b∈(f.G::f.d (n' 0)):=by simpa [Lay.rall,Lay.rb] using e
    rw [y4] at e'
    rcases List.mem_cons.1 e' with e|e
    ·exact .inr e
    ·exact .inl e
   ·exact .inr (by omega)
  ·have z4:=hb2.size
   have hpZ:Past [Z] w2 w'':=by
    rw [hw2];exact ((Past.refl [Z] w2).store (.inl (by simp)) _).store (.inl (by simp)) _
   have nR:∀b,(w0.heap.size≤b∧b<W'.heap.size∧∀x,x∈f.d n∨x=f.G→b≠x)→b≠R∧b≠E∧b≠G∧b∉(lyD T' B' F n' nb).rall:=fun b ⟨q0,q1,q2⟩=>⟨by omega,by omega,by omega,fun e=>by
    rcases r4 b e with e|e
    ·exact q2 b e rfl
    ·omega⟩
   have fX:=nR X ⟨h.oX.1,by omega,fun x hx e=>(h.fB x hx).2.1 e.symm⟩;have fZ:=nR Z ⟨h.oZ.1,by omega,fun x hx e=>(h.fB x hx).2.2.1 e.symm⟩;have fM:=nR Bm ⟨h.oB.1,by omega,fun x hx e=>(h.fB x hx).2.2.2.1 e.symm⟩
   have ffd:∀b∈fd,b≠R∧b≠E∧b≠G∧b∉(lyD T' B' F n' nb).rall:=fun b hb'=>by
    have hl:=hDD.lts b hb';refine nR b ⟨?_,hl,fun x hx e=>?_⟩
    ·have:=h.bel.size
     have hTl:=h.re.new T (Lay.tin (Y:=lay1 T B n) (i:=0) Nat.one_pos (by simp [lay1]));have hBl':=h.re.new B (Lay.tin (Y:=lay1 T B n) (i:=0) Nat.one_pos (by simp [lay1]))
     rcases hfd b hb' with rfl|rfl|h'
     ·exact hTl
     ·exact hBl'
     ·omega
    ·subst e
     have q:=h.fB b hx;have hl2:=h.wa.lts (b:=b) (by rw [hn];exact hx)
     rcases hfd b hb' with e|e|e
     ·exact q.2.2.2.2.1 e
     ·exact q.2.2.2.2.2 e
     ·omega
   have fd0:∀b∈fd,w0.heap.size≤b:=fun b hb'=>by
    have:=h.bel.size;have hTl:=h.re.new T (Lay.tin (Y:=lay1 T B n) (i:=0) Nat.one_pos (by simp [lay1]));have hBl':=h.re.new B (Lay.tin (Y:=lay1 T B n) (i:=0) Nat.one_pos (by simp [lay1]))
    rcases hfd b hb' with rfl|rfl|h'
    ·exact hTl
    ·exact hBl'
    ·omega
   obtain⟨m,hm,hok,hon⟩:=(hgm.read hb2).past hpZ (by simpa using h.xz.2.2.symm);have hbelW:=hDD.re.bel.size
   have hls:LS a w0 (lyD T' B' F n' nb) D n1 d dp R E G c Bm 0 (kT t n1) fd 0 (nb*n1) (kT t n1) (kD k) m w'':=by
    refine⟨((hDD.lay0 (F':=F)).read hb2).aside hpZ fun b hb'=>?_,hRd.aside hpZ fun b hb'=>?_,hm,fun b hb'=>?_,⟨h.oB.1,fM⟩,by omega,by omega⟩
    ·obtain rfl:b=Z:=by simpa using hb'
     exact⟨h.oZ.1,hnZ⟩
    ·obtain rfl:b=Z:=by simpa using hb'
     exact⟨h.oZ.1,fZ⟩
    ·have q:=ffd b hb'
     exact⟨fd0 b hb',q.1,q.2.1,q.2.2.1,q.2.2.2,fun e=>hnB (e ▸ hb')⟩
   have hqz:QRow Z p d kd f.R (some ⟨R,0,none⟩) w'':=by
    rw [hw2];exact ((hqo.keep hb2).set4 _).set2 kd
   have hrz:NRow X p d (T' 0) kd (some ⟨D,0,none⟩) w'':=(hrw.keep hb2).past hpZ (by simpa using h.xz.1)
   have nFt:∀b,b≠Bm→b≠R→b≠E→b∉fd→b∉(lyD T' B' F n' nb).rall→b∉Ft (lyD T' B' F n' nb) R E Bm fd:=fun b q1 q2 q3 q4 q5 e=>by
    simp only [Ft,List.mem_cons,List.mem_append] at e
    rcases e with e|e|e|e|e
    ·exact q1 e
    ·exact q2 e
    ·exact q3 e
    ·exact q4 e
    ·exact q5 e
   have hdu:∃F M,Du H la (nb+1) d F (kT t n1) M 5000:=⟨M,_,Du.start (by omega) (t:=kT t n1) hM (fun i h1 hi=>by rw [kT_far h1];exact⟨RepN.new o1 H,rfl⟩) (by
    have e:=hM.len;have:=cntM_le la M;show t.len≤_
    omega)⟩
   have hPB:PB a w0 H la X Z Bm p d kd (lyD T' B' F n' nb) D n1 dp R E G c 0 (kT t n1) fd 0 (nb*n1) (kT t n1) (kD k) m w'':=
    ⟨hls,hrz,⟨_,hqz⟩,⟨hok,hon⟩,⟨h.oX.1,fX.2.2.1,nFt X h.xz.2.1 fX.1 fX.2.1 hnX fX.2.2.2⟩,⟨h.oZ.1,fZ.2.2.1,nFt Z h.xz.2.2 fZ.1 fZ.2.1 hnZ fZ.2.2.2⟩,h.xz.1,hdu,fun e=>by
     have e':nb+1=3:=e
     have e3:kd=3:=by
      apply Classical.byContradiction
      intro hc;rw [if_neg hc] at hnb';omega
     have:=h3 e3
     omega⟩
   refine⟨he,⟨[Z],(Past.of hb2).trans hpZ,fun b hb' e=>hK b hb' (by simp only [List.mem_singleton] at e;simp [e])⟩,kd,lyD T' B' F n' nb,D,n1,dp,R,E,G,c,0,kT t n1,fd,kD k,m, ?_,Nat.le_of_eq (sum_kD k nb hnb2),fun b hb' e=>?_⟩
   ·rw [Nat.zero_sub,Nat.sub_zero]
    exact hPB
   ·have hk:=hK b hb'
    have hl:=hKl b hb';simp only [FI,List.mem_cons,not_or] at hk;simp only [FB,Ft,List.mem_cons,List.mem_append] at e
    rcases e with e|e|e|e|e|e|e|e
    ·exact hk.1 e
    ·exact hk.2.1 e
    ·omega
    ·exact hk.2.2.1 e
    ·omega
    ·omega
    ·rcases hfd b e with e|e|e
     ·exact hk.2.2.2.1 e
     ·exact hk.2.2.2.2.1 e
     ·omega
    ·rcases r4 b e with (e|e)|e
     ·exact hk.2.2.2.2.2.2 e
     ·exact hk.2.2.2.2.2.1 e
     ·omega
end
section
variable {a:String→Addr} {w0:World} {H:Nat→Nat} {la X Z Bm p d n T B:Nat} {f:Rf} {t1:Tb} {k1:Nat} {kd:Int} {Y:Lay} {D n1:Nat} {dp:Int} {R E G c q q':Nat} {t t' u u':Nat→Tb} {fp fp':List Nat} {nx br nx' br':Nat} {k k':Nat→Nat} {m m':Mt} {W W' W'':World} {KL:List Nat}
theorem PI.state (h : PI a w0 H la X Z Bm p d n T B f t1 t1 k1 W) : ∀ W', Below W.heap.size W W' → W'.cell? ⟨2, 0, none⟩ = some (errs.errV (a "ambler/api.ErrState")) := fun W' hb => (h.re.base.six.below (under.below_step h.bel hb)).two.state
theorem PI.fin(h:PI a w0 H la X Z Bm p d n T B f t1 t1 k1 W) :
  (Calls Tryz.prog 24 #[.pointer (some ⟨X,0,none⟩)] W fun e w'=>e=.returned (.tuple #[.pointer none,errAt a 5])∧Below W.heap.size W w')∧Calls Tryz.prog 25 #[.pointer (some ⟨Z,0,none⟩)] W fun e w''=>e=.returned (.tuple #[.pointer none,.int .i64 5])∧Below W.heap.size W w'':=
 ⟨end_state (pd:=none) _ ((done_off h.row).mono fun e w' ⟨he,hw⟩=>⟨he,hw ▸ Below.refl _ _⟩) (h.state W (Below.refl _ _)),rend_off h.qow⟩
theorem PB.left(h:PB a w0 H la X Z Bm p d kd Y D n1 dp R E G c q t fp (q-(Y.N-1)*n1) ((Y.N-1)*n1-q) u k m W):Calls Tryz.prog 70 #[.pointer (some ⟨R,0,none⟩)] W fun e w'=>e=.returned (.int .i64 ((Y.n 0+(Y.N-1)*n1-q:Nat):Int))∧Below W.heap.size W w':=by
 have hN:=h.ls.da.N;have hsm:=h.ls.da.small;have hle:=h.ls.da.le;have h':=rdleft_any h.ls.rd.dd h.ls.rd.em h.ls.rd.wn (by omega) (by omega) (by omega);rw [show (Y.N-1)*n1-q+Y.n 0-(q-(Y.N-1)*n1)=Y.n 0+(Y.N-1)*n1-q by omega] at h';exact h'
theorem PB.fin_no(h:PB a w0 H la X Z Bm p d kd Y D n1 dp R E G c q t fp (q-(Y.N-1)*n1) ((Y.N-1)*n1-q) t k m W)(hq:q<Y.n 0+(Y.N-1)*n1) :
  (Calls Tryz.prog 24 #[.pointer (some ⟨X,0,none⟩)] W fun e w'=>e=.returned (.tuple #[.pointer none,errAt a 5])∧Below W.heap.size W w')∧Calls Tryz.prog 25 #[.pointer (some ⟨Z,0,none⟩)] W fun e w''=>e=.returned (.tuple #[.pointer none,.int .i64 5])∧Below W.heap.size W w'':=by
 obtain⟨T',hqo⟩:=h.qow;exact⟨end_state (pd:=none) _ (DAt.done_no h.ls.da hq h.row) (h.ls.da.state W (Below.refl _ _)),rend_more hqo h.left (by omega)⟩
theorem PB.part(h:PB a w0 H la X Z Bm p d kd Y D n1 dp R E G c q t fp nx br u k m W){i x z p' d':Nat}(h1:1≤i)(hi:i<Y.N)(hre:Real a w0 Y t W'')(hwn:Wn w0 Y t k W'')(hgm:GM Bm W'')(row:NRow x p' d' (Y.T i) 0 none W'')(qow:QRow z p' d' 0 (Y.F i).R none W'')(ox:w0.heap.size≤x∧x∉fp∧x∉Y.rall∧x≠Bm)(oz:w0.heap.size≤z∧z∉fp∧z∉Y.rall∧z≠Bm)(xz:x≠z) :
  PI a w0 H la x z Bm p' d' (Y.n i) (Y.T i) (Y.B i) (Y.F i) (t i) (t i) (k i) W'':=by
 have fT:Y.T i∈fp:=h.ls.da.tin _ (Lay.tin hi (by simp));have fB:Y.B i∈fp:=h.ls.da.tin _ (Lay.tin hi (by simp));have fM:Bm∉fp:=fun e=>(h.ls.sp _ e).2.2.2.2.2 rfl
 have ne:∀{y b:Nat},y∉fp→b∈fp→y≠b:=fun hy hb e=>hy (e ▸ hb)
 obtain⟨F,M,hM⟩:=h.du;refine⟨re_of hre hi rfl,hwn.wa i hi,hwn.uok i hi,hwn.un i hi,row,qow,hgm,fun b hb=>?_,⟨ox.1,ne ox.2.1 fT,ne ox.2.1 fB⟩,⟨oz.1,ne oz.2.1 fT,ne oz.2.1 fB⟩,⟨h.ls.hB.1,ne fM fT,ne fM fB⟩,⟨xz,ox.2.2.2,oz.2.2.2⟩,_,hM.rep i hi⟩;have hr:b∈Y.rall:=Lay.rin hi (Lay.rmem hb);exact⟨hwn.ge hr,fun e=>ox.2.2.1 (e ▸ hr),fun e=>oz.2.2.1 (e ▸ hr),fun e=>h.ls.hB.2.2.2.2 (e ▸ hr),fun e=>(h.ls.sp _ fT).2.2.2.2.1 (e ▸ hr),fun e=>(h.ls.sp _ fB).2.2.2.2.1 (e ▸ hr)⟩
theorem PB.ft{y:Nat}(h:y∉Ft Y R E Bm fp):y≠Bm∧y≠R∧y≠E∧y∉fp∧y∉Y.rall:=by
 simp only [Ft,List.mem_cons,List.mem_append,not_or] at h;exact h
theorem PB.kI(h:PB a w0 H la X Z Bm p d kd Y D n1 dp R E G c q t fp nx br u k m W){i x z:Nat}(hi:i<Y.N){b:Nat}(hK:b∉FB X Z G Y R E Bm fp)(hx:b≠x)(hz:b≠z):b∉FI x z Bm (Y.T i) (Y.B i) (Y.n i) (Y.F i):=fun e=>by
 have fT:Y.T i∈fp:=h.ls.da.tin _ (Lay.tin hi (by simp));have fB:Y.B i∈fp:=h.ls.da.tin _ (Lay.tin hi (by simp));simp only [FB,List.mem_cons,not_or] at hK;obtain⟨k1,k2,k3,k4⟩:=hK;have k5:=PB.ft (Y:=Y) (R:=R) (E:=E) (Bm:=Bm) (fp:=fp) (by simp only [Ft,List.mem_cons,not_or];exact k4);simp only [FI,List.mem_cons] at e
 rcases e with e|e|e|e|e|e|e
 ·exact hx e
 ·exact hz e
 ·exact k5.1 e
 ·exact k5.2.2.2.1 (e ▸ fT)
 ·exact k5.2.2.2.1 (e ▸ fB)
 ·exact k5.2.2.2.2 (Lay.rin hi (Lay.rmem (.inr e)))
 ·exact k5.2.2.2.2 (Lay.rin hi (Lay.rmem (.inl e)))
theorem PB.fin_one(h:PB a w0 H la X Z Bm p d kd Y D n1 dp R E G c q t fp (q-(Y.N-1)*n1) ((Y.N-1)*n1-q) t k m W)(hK:∀b∈KL,b∉FB X Z G Y R E Bm fp)(hq:q=Y.n 0+(Y.N-1)*n1)(hN:Y.N=2) :
  Calls Tryz.prog 24 #[.pointer (some ⟨X,0,none⟩)] W fun e w'=>e=.returned (.tuple #[.pointer none,.nilIface])∧PK KL W w'∧Below w0.heap.size w0 w'∧∀W',Below w'.heap.size w' W' →
   Calls Tryz.prog 25 #[.pointer (some ⟨Z,0,none⟩)] W' fun e w''=>e=.returned (.tuple #[.pointer none,.int .i64 0])∧PK KL W' w''∧NI a w0 H la X Z Bm p d (sumK Y.N k) KL w'':=by
 have hX:=PB.ft h.oX.2.2;have hZ:=PB.ft h.oZ.2.2
 have hXf:∀b∈X::fp,w0.heap.size≤b∧b≠R∧b≠E∧b≠G∧b∉Y.rall:=fun b hb=>by
  rcases List.mem_cons.1 hb with rfl|hb
  ·exact⟨h.oX.1,hX.2.1,hX.2.2.1,h.oX.2.1,hX.2.2.2.2⟩
  ·have q:=h.ls.sp b hb
   exact⟨q.1,q.2.1,q.2.2.1,q.2.2.2.1,q.2.2.2.2.1⟩
 refine (end_one h.row h.ls.da hq hN hX.2.2.2.1 h.oX.1).mono fun e w' ⟨he,hrow,hre,hp⟩=>?_
 have hBX:Bm∉X::fp:=fun e=>by
  rcases List.mem_cons.1 e with e|e
  ·exact hX.1 e.symm
  ·exact (h.ls.sp _ e).2.2.2.2.2 rfl
 have hZX:Z∉X::fp:=fun e=>by
  rcases List.mem_cons.1 e with e|e
  ·exact h.xz e.symm
  ·exact hZ.2.2.2.1 e
 obtain⟨T',hqo⟩:=h.qow;refine⟨he,⟨_,hp,fun b hb e=>hK b hb ?_⟩,hre.bel,fun W' hb=>?_⟩
 ·rcases List.mem_cons.1 e with e|e
  ·rw [e];exact List.mem_cons_self
  ·exact List.mem_cons_of_mem _ (List.mem_cons_of_mem _ (List.mem_cons_of_mem _ (ft_real (List.mem_cons_of_mem _ e))))
 ·have hrd:=(h.ls.rd.aside hp hXf).read hb
  have hq2:=(hqo.past hp hZX).keep hb;have hN2:=h.ls.da.N;have hsm:=h.ls.da.small;have hl:=rdleft_any hrd.dd hrd.em hrd.wn (by omega) (by omega) (by omega);rw [show (Y.N-1)*n1-q+Y.n 0-(q-(Y.N-1)*n1)=0 by omega] at hl;have c1:=hrd.em.c1;rw [hN] at c1;refine (rend_one hq2 hl hrd.dd.c0 c1 (hrd.em.tg 1 (Nat.le_refl _) (by omega))).mono fun e w'' ⟨he,hqz,hpz⟩=>?_
  have hZa:∀b∈[Z],w0.heap.size≤b∧b≠R∧b≠E∧b≠G∧b∉Y.rall:=fun b hb=>by
   obtain rfl:b=Z:=by simpa using hb
   exact⟨h.oZ.1,hZ.2.1,hZ.2.2.1,h.oZ.2.1,hZ.2.2.2.2⟩
  have hre2:=(hre.read hb).past hpz fun b hb=>(by
   obtain rfl:b=Z:=by simpa using hb
   exact⟨h.oZ.1,fun e=>hZ.2.2.2.1 (h.ls.da.tin _ e)⟩)
  have hgm:GM Bm w'':=⟨m,((h.ls.mt.past hp hBX).below hb).past hpz (by simpa using hZ.1.symm),h.ok⟩;have hrow2:=(hrow.keep hb).past hpz (by simpa using h.xz);have hPI:=h.part (i:=1) (Nat.le_refl _) (by omega) hre2 ((hrd.aside hpz hZa).wn) hgm hrow2 hqz ⟨h.oX.1,hX.2.2.2.1,hX.2.2.2.2,hX.1⟩ ⟨h.oZ.1,hZ.2.2.2.1,hZ.2.2.2.2,hZ.1⟩ h.xz;refine⟨he,⟨_,hpz,fun b hb e=>hK b hb (by simp only [List.mem_singleton] at e;simp [FB,e])⟩,_,_,_,_,_,_,hPI,sumK_ge h.ls.rd.N k (by omega),fun b hb=>?_⟩;have q:=hK b hb;refine h.kI (by omega) q (fun e=>q ?_) (fun e=>q ?_)
  ·simp [FB,e]
  ·simp [FB,e]
theorem PB.fin_two(h:PB a w0 H la X Z Bm p d kd Y D n1 dp R E G c q t fp (q-(Y.N-1)*n1) ((Y.N-1)*n1-q) t k m W)(hK:∀b∈KL,b∉FB X Z G Y R E Bm fp)(hKl:∀b∈KL,b<W.heap.size)(hq:q=Y.n 0+(Y.N-1)*n1)(hN:Y.N=3)(hp16:p≤65536)(hd16:d≤16) :
  Calls Tryz.prog 24 #[.pointer (some ⟨X,0,none⟩)] W fun e w'=>∃X1,e=.returned (.tuple #[.pointer (some ⟨X1,0,none⟩),.nilIface])∧PK KL W w'∧Below w0.heap.size w0 w'∧∀W',Below w'.heap.size w' W' →
   Calls Tryz.prog 25 #[.pointer (some ⟨Z,0,none⟩)] W' fun e w''=>∃Z1,e=.returned (.tuple #[.pointer (some ⟨Z1,0,none⟩),.int .i64 0])∧PK KL W' w''∧NI a w0 H la X Z Bm (2*p) (d+1) (sumK Y.N k) KL w''∧NI a w0 H la X1 Z1 Bm (2*p+1) (d+1) (sumK Y.N k) KL w'':=by
 have hX:=PB.ft h.oX.2.2;have hZ:=PB.ft h.oZ.2.2
 have hXf:∀b∈X::fp,w0.heap.size≤b∧b≠R∧b≠E∧b≠G∧b∉Y.rall:=fun b hb=>by
  rcases List.mem_cons.1 hb with rfl|hb
  ·exact⟨h.oX.1,hX.2.1,hX.2.2.1,h.oX.2.1,hX.2.2.2.2⟩
  ·have q:=h.ls.sp b hb
   exact⟨q.1,q.2.1,q.2.2.1,q.2.2.2.1,q.2.2.2.2.1⟩
 refine (end_two h.row h.ls.da hq hN hX.2.2.2.1 h.oX.1 hp16 hd16).mono fun e w' ⟨X1,he,hX1,hrow,hrow1,hre,hp⟩=>?_
 have hBX:Bm∉X::fp:=fun e=>by
  rcases List.mem_cons.1 e with e|e
  ·exact hX.1 e.symm
  ·exact (h.ls.sp _ e).2.2.2.2.2 rfl
 have hZX:Z∉X::fp:=fun e=>by
  rcases List.mem_cons.1 e with e|e
  ·exact h.xz e.symm
  ·exact hZ.2.2.2.1 e
 obtain⟨T',hqo⟩:=h.qow;have lts:=h.ls.lts.1;have lX:=h.row.lt;have lZ:=hqo.lt;have ge0:=h.ls.bel.size
 have new:∀b,W.heap.size≤b→w0.heap.size≤b∧b∉fp∧b∉Y.rall∧b≠Bm:=fun b hb=>by
  have q:=h.ls.new hb;have q':=PB.ft q.2.2;exact⟨q.1,q'.2.2.2.1,q'.2.2.2.2,q'.1⟩
 refine⟨X1,he,⟨_,hp,fun b hb e=>hK b hb ?_⟩,hre.bel,fun W' hb=>?_⟩
 ·rcases List.mem_cons.1 e with e|e
  ·rw [e];exact List.mem_cons_self
  ·exact List.mem_cons_of_mem _ (List.mem_cons_of_mem _ (List.mem_cons_of_mem _ (ft_real (List.mem_cons_of_mem _ e))))
 ·have hrd:=(h.ls.rd.aside hp hXf).read hb
  have hq2:=(hqo.past hp hZX).keep hb;have hN2:=h.ls.da.N;have hsm:=h.ls.da.small;have hl:=rdleft_any hrd.dd hrd.em hrd.wn (by omega) (by omega) (by omega);rw [show (Y.N-1)*n1-q+Y.n 0-(q-(Y.N-1)*n1)=0 by omega] at hl;have c1:=hrd.em.c1;rw [hN] at c1;have lX1:=hrow1.lt;have s1:=hp.size;have s2:=hb.size;refine (rend_two hq2 hl hrd.dd.c0 c1 (hrd.em.tg 1 (Nat.le_refl _) (by omega)) (hrd.em.tg 2 (by omega) (by omega)) h.oZ.2.1.symm hp16 hd16).mono fun e w'' ⟨Z1,he,hZ1,hqz,hqz1,hpz⟩=>?_
  have hZa:∀b∈[Z],w0.heap.size≤b∧b≠R∧b≠E∧b≠G∧b∉Y.rall:=fun b hb=>by
   obtain rfl:b=Z:=by simpa using hb
   exact⟨h.oZ.1,hZ.2.1,hZ.2.2.1,h.oZ.2.1,hZ.2.2.2.2⟩
  have hre2:=(hre.read hb).past hpz fun b hb=>(by
   obtain rfl:b=Z:=by simpa using hb
   exact⟨h.oZ.1,fun e=>hZ.2.2.2.1 (h.ls.da.tin _ e)⟩)
  have hgm:GM Bm w'':=⟨m,((h.ls.mt.past hp hBX).below hb).past hpz (by simpa using hZ.1.symm),h.ok⟩;have hrow2:=(hrow.keep hb).past hpz (by simpa using h.xz);have hrow3:=(hrow1.keep hb).past hpz (by simp only [List.mem_singleton];omega);have hPI:=h.part (i:=1) (Nat.le_refl _) (by omega) hre2 ((hrd.aside hpz hZa).wn) hgm hrow2 hqz ⟨h.oX.1,hX.2.2.2.1,hX.2.2.2.2,hX.1⟩ ⟨h.oZ.1,hZ.2.2.2.1,hZ.2.2.2.2,hZ.1⟩ h.xz;have hPI2:=h.part (i:=2) (by omega) (by omega) hre2 ((hrd.aside hpz hZa).wn) hgm hrow3 hqz1 (new X1 hX1) (new Z1 (by omega)) (by omega);refine⟨Z1,he,⟨_,hpz,fun b hb e=>hK b hb (by simp only [List.mem_singleton] at e;simp [FB,e])⟩,⟨_,_,_,_,_,_,hPI,sumK_ge h.ls.rd.N k (by omega),fun b hb=>?_⟩,_,_,_,_,_,_,hPI2,sumK_ge h.ls.rd.N k (by omega),fun b hb=>?_⟩
  ·have q:=hK b hb
   refine h.kI (by omega) q (fun e=>q ?_) (fun e=>q ?_)
   ·simp [FB,e]
   ·simp [FB,e]
  ·have q:=hKl b hb
   exact h.kI (by omega) (hK b hb) (by omega) (by omega)
end
end node
end Go.Proofs.YtdplhgpeggcmdaaGreatDoor
