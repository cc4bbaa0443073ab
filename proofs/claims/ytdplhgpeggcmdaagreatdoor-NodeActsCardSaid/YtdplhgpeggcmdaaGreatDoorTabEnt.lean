/- TabEnt: facts and laws for the walks. -/
import Derived.Test.YtdplhgpeggcmdaaGreatDoorTabNew
namespace Go.Proofs.YtdplhgpeggcmdaaGreatDoor
set_option linter.unusedSimpArgs false
set_option linter.unusedVariables false
namespace table
open Go.ChangeShapes Go.WideShapes Go.ChangeAt Go.RowKit Go.Shelf swar under trap meter group probe lens tail call
attribute [local go_sem] Oper.semAt_some stage.pureUpon move.stepUpon
def HashAt(s:Option Addr)(la:Nat)(w:World)(hz:Nat→Nat):Prop:=∀j,j<la→∃x,s=some x∧hz j<18446744073709551616∧∀W,Below w.heap.size w W→W.cell? (x.add j)=some (.int .u64 (hz j:Nat))
structure Ac where
 kind:Int
 key:Int
 n:Int
def ActAt(s:Option Addr)(la:Nat)(w:World)(az:Nat→Ac):Prop:=∀j,j<la→(∃x,s=some x∧∀W,Below w.heap.size w W→W.cell? (x.add (j*3))=some (.int .i64 (az j).kind)∧W.cell? ⟨(x.add (j*3)).block,(x.add (j*3)).off+1,none⟩=some (.int .i64 (az j).key)∧W.cell? ⟨(x.add (j*3)).block,(x.add (j*3)).off+2,none⟩=some (.int .i64 (az j).n)) ∧
 -9223372036854775808≤(az j).key∧(az j).key≤9223372036854775807∧-9223372036854775808≤(az j).n∧(az j).n≤9223372036854775807
theorem HashAt.below{s:Option Addr}{la:Nat}{w w':World}{hz:Nat→Nat}(h:HashAt s la w hz)(hb:Below w.heap.size w w'):HashAt s la w' hz:=fun j hj=>by
 obtain⟨x,h1,h2,h3⟩:=h j hj;exact⟨x,h1,h2,fun W hW=>h3 W (under.below_step hb hW)⟩
theorem ActAt.below{s:Option Addr}{la:Nat}{w w':World}{az:Nat→Ac}(h:ActAt s la w az)(hb:Below w.heap.size w w'):ActAt s la w' az:=fun j hj=>by
 obtain⟨⟨x,h1,h3⟩,h2⟩:=h j hj;exact⟨⟨x,h1,fun W hW=>h3 W (under.below_step hb hW)⟩,h2⟩
def uN(x:Int):Nat:=(IntKind.u64.wrap x).toNat
def kN(key:Int)(la:Nat):Nat:=uN key%la
theorem uN_lt(x:Int):uN x<18446744073709551616:=by unfold uN;rw [IntKind.wrap_u64];omega
theorem uN_cast(x:Int):IntKind.u64.wrap x=((uN x:Nat):Int):=by unfold uN;rw [IntKind.wrap_u64];omega
theorem kN_lt(key:Int){la:Nat}(h:1≤la):kN key la<la:=Nat.mod_lt _ h
theorem w64_small(x:Nat)(h:x<101):wrap64 (x:Int)=x:=by unfold wrap64;omega
theorem u64_small(x:Nat)(h:x<101):IntKind.u64.wrap (x:Int)=x:=by rw [IntKind.wrap_u64];omega
theorem ent_num(key:Int){la:Nat}(h1:1≤la)(h2:la≤100):((uN key:Nat):Int)%(la:Int)=((kN key la:Nat):Int)∧wrap64 (((uN key:Nat):Int)%(la:Int))=((kN key la:Nat):Int)∧IntKind.u64.wrap ((kN key la:Nat):Int)=((kN key la:Nat):Int)∧((kN key la:Nat):Int)<(la:Int):=by
 have hk:=kN_lt key h1;have e:((uN key:Nat):Int)%(la:Int)=((kN key la:Nat):Int):=rfl;have hs:kN key la<101:=by omega
 exact⟨e,by rw [e];exact w64_small _ hs,u64_small _ hs,by omega⟩
theorem TL.tstep{T B:Nat}{t:Tb}{m:Mt}{w w':World}(h:TL T B t .nil m w w'):TStep T B t w w':=⟨by simpa [Ln.d] using h.ln.past,h.at'⟩
section
variable {ae:String→Addr} {T B:Nat} {t:Tb} {m:Mt} {w:World}
end
theorem num_err(a:String→Addr)(k:Nat)(hk:k≤16)(w:World)(h:errs.ErrsOk errs.names a w) :
  Calls Tryz.prog 8 #[errAt a k] w fun e w'=>e=.returned (.int .i64 k)∧Below w.heap.size w w':=by
 cases k with
 | zero=>exact (errs.num_nil w).mono fun e w' ⟨he,hw⟩=>⟨he,hw ▸ Below.refl _ _⟩
 | succ k=>exact errs.num_at a k (by omega) w h
theorem putE_le'(t:Tb)(key h:Nat):putE' t key h=0∨putE' t key h=2:=by
 unfold putE' roomE;split
 ·exact .inl rfl
 ·split
  ·exact .inr rfl
  ·split
   ·exact .inr rfl
   ·exact .inl rfl
section
variable {ae:String→Addr} {w:World} {T1 B1 T2 B2 Bl:Nat} {t1 t2 t':Tb} {W W':World}
end
end table
namespace table
open group probe swar split
def cntM(la:Nat)(M:Nat→Option Nat):Nat:=(List.range la).countP fun k=>(M k).isSome
theorem countP_same{p q:Nat→Bool}{n:Nat}(h:∀k,k<n→q k=p k):(List.range n).countP q=(List.range n).countP p:=
 List.countP_congr fun k hk=>by rw [h k (List.mem_range.1 hk)]
theorem countP_one{p q:Nat→Bool}{a:Nat}(hp:p a=false)(hq:q a=true)(hne:∀k,k≠a→q k=p k):∀n,a<n→(List.range n).countP q=(List.range n).countP p+1
 | 0,h=>absurd h (Nat.not_lt_zero _)
 | n+1,h=>by
  rw [List.range_succ,List.countP_append,List.countP_append,List.countP_singleton,List.countP_singleton]
  by_cases e:a=n
  ·subst e
   rw [hq,hp,countP_same fun k hk=>hne k (by omega)];simp
  ·rw [countP_one hp hq hne n (by omega),hne n (Ne.symm e)];omega
theorem cntM_le(la:Nat)(M:Nat→Option Nat):cntM la M≤la:=by
 have:=List.countP_le_length (p:=fun k=>(M k).isSome) (l:=List.range la)
 rwa [List.length_range] at this
theorem cntM_none(la:Nat):cntM la (fun _=>none)=0:=by
 unfold cntM;rw [List.countP_eq_zero];simp
theorem cntM_some{la key v:Nat}{M:Nat→Option Nat}(hk:key<la):cntM la (set M key (some v))=cntM la M+(if (M key).isSome=true then 0 else 1):=by
 cases h:(M key).isSome
 ·exact countP_one (a:=key) h (by rw [set_same];rfl) (fun k e=>by rw [set_ne _ _ e]) la hk
 ·simp only [if_true,Nat.add_zero]
  refine countP_same fun k _=>?_
  by_cases e:k=key
  ·subst e;rw [set_same,h];rfl
  ·rw [set_ne _ _ e]
theorem cntM_del{la key:Nat}{M:Nat→Option Nat}(hk:key<la):cntM la M=cntM la (set M key none)+(if (M key).isSome=true then 1 else 0):=by
 cases h:(M key).isSome
 ·simp only [Bool.false_eq_true,if_false,Nat.add_zero]
  refine countP_same fun k _=>?_
  by_cases e:k=key
  ·subst e;rw [set_same,h];rfl
  ·rw [set_ne _ _ e]
 ·exact countP_one (a:=key) (by rw [set_same];rfl) h (fun k e=>by rw [set_ne _ _ e]) la hk
structure RepN(H:Nat→Nat)(la:Nat)(t:Tb)(M:Nat→Option Nat):Prop where
 rep:Rep H t M
 far:∀k,la≤k→M k=none
 len:t.len=(cntM la M:Nat)
theorem RepN.new{n la:Nat}(hn:okN n)(H:Nat→Nat):RepN H la (Tb.new n) fun _=>none:=⟨.new hn H,fun _ _=>rfl,by rw [cntM_none];rfl⟩
theorem RepN.puts{H:Nat→Nat}{la:Nat}{t:Tb}{M:Nat→Option Nat}(h:RepN H la t M){key v:Nat}(hk:key<la)(hkey:key<18446744073709551616)(hh:H key<18446744073709551616)(hv:v<18446744073709551616) :
  ∃M',RepN H la (t.puts key (H key) v) M':=by
 obtain⟨h1,h2⟩:=h.rep.puts hkey hh hv
 by_cases hc:(M key).isSome=true∨1≤t.left
 ·obtain⟨a,_,_,b,_⟩:=h1 hc
  refine⟨_,a,fun k hk'=>by rw [set_ne _ _ (by omega)];exact h.far k hk', ?_⟩;rw [b,h.len,cntM_some hk];split <;> omega
 ·have hs:(M key).isSome=false:=by cases e:(M key).isSome;rfl;exact absurd (.inl e) hc
  have hl:t.left<1:=by
   apply Classical.byContradiction;intro hn;exact hc (.inr (by omega))
  rw [(h2 hs hl).1];exact⟨M,h⟩
theorem RepN.remove{H:Nat→Nat}{la:Nat}{t:Tb}{M:Nat→Option Nat}(h:RepN H la t M){key:Nat}(hk:key<la):RepN H la (t.remove key (H key)) (set M key none):=by
 refine⟨h.rep.remove key,fun k hk'=>by rw [set_ne _ _ (by omega)];exact h.far k hk', ?_⟩;rw [h.rep.remove_len,h.len,cntM_del (M:=M) hk];split <;> omega
theorem Rep.at{H:Nat→Nat}{t:Tb}{M:Nat→Option Nat}(h:Rep H t M){k:Nat}(e:(M k).isSome=true):∃s∈ents t t.n,s.key=k∧s.hash=H k:=by
 obtain⟨v,hv⟩:=Option.isSome_iff_exists.1 e;obtain⟨i,j,hs,_⟩:=(h.2 k v).1 hv;exact⟨_,mem_ents.2 ⟨i,j,hs.1,hs.2.1,hs.2.2.1,rfl⟩,hs.2.2.2,h.1.hash _ _ _ hs⟩
end table
end Go.Proofs.YtdplhgpeggcmdaaGreatDoor
