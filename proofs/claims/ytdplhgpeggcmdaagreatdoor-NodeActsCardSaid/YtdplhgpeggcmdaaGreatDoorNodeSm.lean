/- NodeSm: facts and laws for the walks. -/
import Derived.Test.YtdplhgpeggcmdaaGreatDoorNodeEx
import Derived.Test.YtdplhgpeggcmdaaGreatDoorDualFc
namespace Go.Proofs.YtdplhgpeggcmdaaGreatDoor
set_option linter.unusedSimpArgs false
set_option linter.unusedVariables false
namespace node
open group probe swar table evac dual
def R(n d:Nat):Nat:=4*n+if n=8 then 3*d else 0
structure Idl(n d g e:Nat)(s:Int):Prop where
 ok:okN n
 bd:s+e≤(R n d:Nat)
 dg:d≤g
 g5:g≤5
 gn:8<n→g≤d
inductive Jb(n d g:Nat):Nat→Nat→Nat→Prop
 | sweep:Jb n d g 2 n (2*n)
 | grow:n<64→(8≤n→g≤d)→Jb n d g 2 (2*n) (R n d)
 | split:n=8→d<g→Jb n d g 3 n (R n d)
structure Bsy(n d g N n1 B q c x:Nat)(o:Bool)(rd:Bool)(s:Int):Prop where
 ok:okN n
 dg:d≤g
 g5:g≤5
 gn:8<n→g≤d
 jb:Jb n d g N n1 B
 qn:q≤n+(N-1)*n1
 op:o=true→q<n+(N-1)*n1
 cc:8*c+x≤q+8*B∨q=n+(N-1)*n1
 cn:8*c+1≤n+(N-1)*n1+8*B
 so:rd=false→8*s+x≤q+8*(R n d:Nat)
theorem okN_cases{n:Nat}(h:okN n):n=1∨n=2∨n=4∨n=8∨n=16∨n=32∨n=64:=by
 have:=okN_pos h;have:=okN_le h;unfold okN at h;omega
section
variable {n d g N n1 B q c x e:Nat} {o rd:Bool} {s:Int}
end
end node
namespace node
open Go.ChangeShapes Go.WideShapes Go.ChangeAt Go.RowKit Go.Shelf swar under trap meter group probe lens tail call table evac dual
def wi(h p d:Nat):Prop:=h/2^(64-d)=p
def GM(Bm:Nat)(W:World):Prop:=∃m,MAt Bm 0 m W∧m.Ok∧m.on=false
theorem GM.read{Bm:Nat}{W W':World}(h:GM Bm W)(hb:Below W.heap.size W W'):GM Bm W':=by obtain⟨m,h1,h2⟩:=h;exact⟨m,h1.below hb,h2⟩
theorem GM.past{Bm:Nat}{W W':World}{l:List Nat}(h:GM Bm W)(hp:Past l W W')(hB:Bm∉l):GM Bm W':=by obtain⟨m,h1,h2⟩:=h;exact⟨m,h1.past hp hB,h2⟩
theorem GM.lt{Bm:Nat}{W:World}(h:GM Bm W):Bm<W.heap.size:=by obtain⟨m,h1,_⟩:=h;exact h1.lt
theorem see_pr_ok(B o:Nat)(m:Mt)(h:m.Ok)(h2:m.on=false):∀k,((Ln.pr B o).see m k).Ok∧((Ln.pr B o).see m k).on=false
 | 0=>⟨h,h2⟩
 | k+1=>by
  obtain⟨a,b⟩:=see_pr_ok B o m h h2 k;exact⟨a.probes 1,b⟩
theorem see_vi_ok(m:Mt)(h:m.Ok)(h2:m.on=false):∀k,(msee m k).Ok∧(msee m k).on=false
 | 0=>⟨h,h2⟩
 | k+1=>by
  obtain⟨a,b⟩:=see_vi_ok m h h2 k;exact⟨a.visits 1,b⟩
theorem unit_ok(m:Mt)(h:m.Ok)(h2:m.on=false):(m.unit 1).Ok∧(m.unit 1).on=false:=by
 refine⟨h.unit 1, ?_⟩;unfold Mt.unit
 split
 ·exact h2
 ·split <;> exact h2
theorem unitE_no(m:Mt)(h2:m.on=false):m.unitE 1=0:=by
 unfold Mt.unitE Mt.past;rw [h2];rfl
theorem GM.new(w:World):GM w.heap.size (w.alloc (.cells #[.int .i64 0,.int .i64 0,.int .i64 0,.int .i64 0,.int .i64 0,.int .i64 0,.int .i64 0,.bool false] 38)):=⟨_,MAt.zero_new w,Mt.zero_ok,rfl⟩
theorem re1{a:String→Addr}{w0 W:World}{T B n:Nat}{u v:Nat→Tb}(h:Real a w0 (lay1 T B n) u W)(e:u 0=v 0):Real a w0 (lay1 T B n) v W:=by
 have z:∀i,i<(lay1 T B n).N→i=0:=fun i hi=>by have : i<1:=hi;omega
 refine⟨fun i hi=>?_,fun i hi=>?_,fun i hi=>?_,h.sep,h.new,h.bel,h.base⟩
 ·obtain rfl:=z i hi;rw [←e];exact h.at' 0 hi
 ·obtain rfl:=z i hi;rw [←e];exact h.ok 0 hi
 ·obtain rfl:=z i hi;rw [←e];exact h.tn 0 hi
theorem re_of{a:String→Addr}{w0 W:World}{Y:Lay}{t:Nat→Tb}(h:Real a w0 Y t W){i n:Nat}(hi:i<Y.N)(hn:Y.n i=n):Real a w0 (lay1 (Y.T i) (Y.B i) n) (fun _=>t i) W:=by
 refine⟨fun j _=>h.at' i hi,fun j _=>h.ok i hi,fun j _=>(h.tn i hi).trans hn,fun j k hj hk hne=>?_,fun b hb=>?_,h.bel,h.base⟩
 ·have : j<1:=hj
  have : k<1:=hk;omega
 ·rcases lay1_tall hb with rfl|rfl
  ·exact h.new _ (Lay.tin hi (by simp))
  ·exact h.new _ (Lay.tin hi (by simp))
structure Ni(a:String→Addr)(w0:World)(H:Nat→Nat)(la g X p d T B n:Nat)(t:Tb)(F:Nat→Option Nat)(e:Nat)(fp:List Nat)(W:World):Prop where
 row:NRow X p d T 0 none W
 re:Real a w0 (lay1 T B n) (fun _=>t) W
 rep:RepN H la t F
 id:Idl n d g e (t.len+t.tombs)
 fp:fp=[X,T,B]
 nX:X≠T∧X≠B
structure Nb(a:String→Addr)(w0:World)(H:Nat→Nat)(la g X p d:Nat)(kd:Int)(Y:Lay)(D n1 dd:Nat)(dp:Int)(q c:Nat)(t:Nat→Tb)(F:Nat→Option Nat)(x:Nat)(o:Bool)(fp fd:List Nat)(W:World):Prop where
 row:NRow X p d (Y.T 0) kd (some ⟨D,0,none⟩) W
 dm:DM a w0 H la Y D n1 dd dp q c t F fd W
 bs:∃B,Bsy (Y.n 0) d g Y.N n1 B q c x o (rdy Y n1 q) ((t 0).len+(t 0).tombs)
 dd:Y.N=3→dd=d
 fp:fp=X::fd
 nX:X∉fd
structure NF(a:String→Addr)(w0:World)(H:Nat→Nat)(la g X p d:Nat)(F:Nat→Option Nat)(e x:Nat)(o:Bool)(fp:List Nat)(W:World):Prop where
 hla:la≤100
 hH:∀key,key<la→H key<18446744073709551616
 hX:w0.heap.size≤X
 hp:p<2^d
 hdg:d≤g∧g≤5
 hwi:∀key,(F key).isSome=true→wi (H key) p d
 st:(∃T B n t,Ni a w0 H la g X p d T B n t F e fp W)∨∃kd Y D n1 dd dp q c t fd,Nb a w0 H la g X p d kd Y D n1 dd dp q c t F x o fp fd W
section
variable {a:String→Addr} {w0:World} {H:Nat→Nat} {la g X p d:Nat} {F:Nat→Option Nat} {e x:Nat} {o:Bool} {fp:List Nat} {W W':World} {Bm:Nat}
end
def NW(a:String→Addr)(w0:World)(X p d:Nat)(fp:List Nat)(Bm:Nat)(W:World):Prop:=∃m,MAt Bm 0 m W ∧
 ((∃T B n t,NRow X p d T 0 none W∧Real a w0 (lay1 T B n) (fun _=>t) W∧fp=[X,T,B]∧X≠T∧X≠B)∨∃kd Y D n1 dd dp q t fd,NRow X p d (Y.T 0) kd (some ⟨D,0,none⟩) W∧DAt a w0 Y D n1 dd dp q false t fd W∧fp=X::fd∧X∉fd)
section
variable {a:String→Addr} {w0:World} {H:Nat→Nat} {la g X p d:Nat} {F:Nat→Option Nat} {e x:Nat} {o:Bool} {fp:List Nat} {W W':World} {Bm:Nat}
end
end node
end Go.Proofs.YtdplhgpeggcmdaaGreatDoor
