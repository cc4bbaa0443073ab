/- node: Find, Delete, Least, Put, to the letter. -/
import Derived.Test.YtdplhgpeggcmdaaGreatDoorNodeFj
import Derived.Test.YtdplhgpeggcmdaaGreatDoorNodePut
namespace Go.Proofs.YtdplhgpeggcmdaaGreatDoor
set_option linter.unusedSimpArgs false
set_option linter.unusedVariables false
open Go.ChangeShapes Go.WideShapes Go.ChangeAt Go.RowKit Go.Shelf swar under trap meter group probe lens tail call table evac dual
namespace node
attribute [local go_sem] Oper.semAt_some stage.pureUpon move.stepUpon movex.stepUpon
section
variable {X p d T:Nat} {k:Int} {w:World} {ae:String→Addr} {B:Nat} {t:Tb} {L:Ln} {m:Mt}
theorem nfind_off(hn:NRow X p d T k none w)(h:Ready ae T B t L m w)(key hs:Nat)(hk:key<18446744073709551616)(hh:hs<18446744073709551616) :
  Calls Tryz.prog 16 #[.pointer (some ⟨X,0,none⟩),.agg #[.pointer L.p],.int .u64 (key:Nat),.int .u64 (hs:Nat)] w fun e w'=>e=.returned (.tuple #[group.entV (entOf t key hs).key (entOf t key hs).val (entOf t key hs).hash,.bool (isThere t key hs)])∧LnStep [] L (L.see m (looks t key hs)) w w':=by
 have hlt:=h.ln.lt;refine (find_off (Q0:=0) (l:=L.d) (R:=fun x y z b w'=>(x=(entOf t key hs).key∧y=(entOf t key hs).val∧z=(entOf t key hs).hash∧b=isThere t key hs)∧LnStep [] L (L.see m (looks t key hs)) w w') hn L.p key hs hlt (fun W hb=>?_) (fun _ _ _ _ w' B' i u hr hB=>⟨hr.1,hr.2.newset hlt (p:=⟨B',i,none⟩) hB u⟩)).mono fun e w' ⟨x,y,z,b,he,_,⟨h1,h2,h3,h4⟩,hr⟩=>⟨by rw [he,h1,h2,h3,h4],hr⟩
 exact (find_tab (h.below hb) key hs hk hh).mono fun e w' ⟨he,hs'⟩=>⟨_,_,_,_,he,by simpa using hs'.past,⟨rfl,rfl,rfl,rfl⟩,(LnStep.of [] h.ln hb).trans hs'⟩
theorem ndel_off(hn:NRow X p d T k none w)(h:Ready ae T B t L m w)(key hs:Nat)(hk:key<18446744073709551616)(hh:hs<18446744073709551616) :
  Calls Tryz.prog 14 #[.pointer (some ⟨X,0,none⟩),.agg #[.pointer L.p],.int .u64 (key:Nat),.int .u64 (hs:Nat)] w fun e w'=>e=.returned (.tuple #[group.entV (entOf t key hs).key (entOf t key hs).val (entOf t key hs).hash,.bool (isThere t key hs)])∧TL T B (t.remove key hs) L (L.see m (looks t key hs)) w w':=by
 have hlt:=h.ln.lt;have hT:=h.at'.lt;have hB':=h.at'.lb;refine (delete_off (Q0:=0) (l:=[T,B]++L.d) (R:=fun x y z b w'=>(x=(entOf t key hs).key∧y=(entOf t key hs).val∧z=(entOf t key hs).hash∧b=isThere t key hs)∧TL T B (t.remove key hs) L (L.see m (looks t key hs)) w w') hn L.p key hs (fun b hb=>?_) (fun W hb=>?_) (fun _ _ _ _ w' B' i u hr hB=>⟨hr.1,hr.2.newset hlt hT hB' (p:=⟨B',i,none⟩) hB u⟩)).mono fun e w' ⟨x,y,z,b,he,_,⟨h1,h2,h3,h4⟩,hr⟩=>⟨by rw [he,h1,h2,h3,h4],hr⟩
 ·rcases List.mem_append.1 hb with hb|hb
  ·simp only [List.mem_cons,List.not_mem_nil,or_false] at hb
   rcases hb with rfl|rfl <;> assumption
  ·exact hlt b hb
 ·exact (delete_tab (h.below hb) key hs hk hh).mono fun e w' ⟨he,hs'⟩=>⟨_,_,_,_,he,hs'.ln.past,⟨rfl,rfl,rfl,rfl⟩,(TL.of h.at' h.ln hb).trans hs'⟩
theorem nleast_off(hn:NRow X p d T k none w)(h:Ready ae T B t L m w)(hash key:Nat) :
  Calls Tryz.prog 19 #[.pointer (some ⟨X,0,none⟩),.agg #[.pointer L.p],.int .u64 (hash:Nat),.int .u64 (key:Nat)] w fun e w'=>e=.returned (.tuple #[group.entV (sK (leastE t hash key)) (sV (leastE t hash key)) (sH (leastE t hash key)),.bool (leastE t hash key).isSome])∧LnStep [] L (L.see m t.n) w w':=by
 have hlt:=h.ln.lt;refine (least_off (Q0:=0) (l:=L.d) (R:=fun x y z b w'=>(x=sK (leastE t hash key)∧y=sV (leastE t hash key)∧z=sH (leastE t hash key)∧b=(leastE t hash key).isSome)∧LnStep [] L (L.see m t.n) w w') hn L.p hash key hlt (fun W hb=>?_) (fun _ _ _ _ w' B' i u hr hB=>⟨hr.1,hr.2.newset hlt (p:=⟨B',i,none⟩) hB u⟩)).mono fun e w' ⟨x,y,z,b,he,_,⟨h1,h2,h3,h4⟩,hr⟩=>⟨by rw [he,h1,h2,h3,h4],hr⟩
 exact (least_tab (h.below hb) hash key).mono fun e w' ⟨he,hs'⟩=>⟨_,_,_,_,he,by simpa using hs'.past,⟨rfl,rfl,rfl,rfl⟩,(LnStep.of [] h.ln hb).trans hs'⟩
end
section
variable {X p d T:Nat} {k:Int} {a:String→Addr} {w0:World} {Y:Lay} {D n1 dd:Nat} {dp:Int} {q:Nat} {tk:Bool} {t:Nat→Tb} {fp:List Nat} {w:World} {L:Ln} {m:Mt}
theorem set_one{W:World}{B i:Nat}{u:Value}:Past [B] W (W.setCell ⟨B,i,none⟩ u):=(Past.refl [B] W).store (p:=⟨B,i,none⟩) (.inl (by simp)) u
theorem DAt.newset{w1 w':World}{t':Nat→Tb}(h:DAt a w0 Y D n1 dd dp q tk t fp w)(h':DAt a w0 Y D n1 dd dp q tk t' fp w'){B:Nat}(hB:w.heap.size≤B)(i:Nat)(u:Value):DAt a w0 Y D n1 dd dp q tk t' fp (w'.setCell ⟨B,i,none⟩ u):=
 h'.aside set_one fun b hb=>by
  obtain rfl:b=B:=by simpa using hb
  have h1:=h.re.bel.size;exact⟨by omega,fun e=>by have:=h.lts _ e;omega⟩
theorem nfind_on(hn:NRow X p d T k (some ⟨D,0,none⟩) w)(h:DAt a w0 Y D n1 dd dp q tk t fp w)(hl:LnAt L m w)(hd:∀b∈L.d,w0.heap.size≤b∧b∉fp)(key hs:Nat)(hk:key<18446744073709551616)(hh:hs<18446744073709551616) :
  Calls Tryz.prog 16 #[.pointer (some ⟨X,0,none⟩),.agg #[.pointer L.p],.int .u64 (key:Nat),.int .u64 (hs:Nat)] w fun e w'=>e=.returned (.tuple #[group.entV (fndE t key hs (js (rdy Y n1 q) Y.N dd hs)).key (fndE t key hs (js (rdy Y n1 q) Y.N dd hs)).val (fndE t key hs (js (rdy Y n1 q) Y.N dd hs)).hash,.bool (fnd t key hs (js (rdy Y n1 q) Y.N dd hs)).isSome])∧DAt a w0 Y D n1 dd dp q tk t fp w'∧LnStep [] L (L.see m (fndK t key hs (js (rdy Y n1 q) Y.N dd hs))) w w':=by
 have hlt:=hl.lt;refine (find_on (D:=D) (l:=L.d) (R:=fun x y z b w'=>(x=(fndE t key hs (js (rdy Y n1 q) Y.N dd hs)).key∧y=(fndE t key hs (js (rdy Y n1 q) Y.N dd hs)).val∧z=(fndE t key hs (js (rdy Y n1 q) Y.N dd hs)).hash∧b=(fnd t key hs (js (rdy Y n1 q) Y.N dd hs)).isSome)∧DAt a w0 Y D n1 dd dp q tk t fp w'∧LnStep [] L (L.see m (fndK t key hs (js (rdy Y n1 q) Y.N dd hs))) w w') hn L.p key hs hlt (fun W hb=>?_) (fun _ _ _ _ w' B' i u hr hB=>⟨hr.1,DAt.newset (w1:=w) h hr.2.1 hB i u,hr.2.2.newset hlt (p:=⟨B',i,none⟩) hB u⟩)).mono fun e w' ⟨x,y,z,b,he,_,⟨h1,h2,h3,h4⟩,hr⟩=>⟨by rw [he,h1,h2,h3,h4],hr⟩
 exact ((h.read hb).find (L:=L) (m:=m) (LnStep.of [] hl hb).at' hd key hs hk hh).mono fun e w' ⟨he,hD,hs'⟩=>⟨_,_,_,_,he,by simpa using hs'.past,⟨rfl,rfl,rfl,rfl⟩,hD,(LnStep.of [] hl hb).trans hs'⟩
theorem ndel_on(hn:NRow X p d T k (some ⟨D,0,none⟩) w)(h:DAt a w0 Y D n1 dd dp q tk t fp w)(hl:LnAt L m w)(hd:∀b∈L.d,w0.heap.size≤b∧b∉fp)(key hs:Nat)(hk:key<18446744073709551616)(hh:hs<18446744073709551616) :
  Calls Tryz.prog 14 #[.pointer (some ⟨X,0,none⟩),.agg #[.pointer L.p],.int .u64 (key:Nat),.int .u64 (hs:Nat)] w fun e w'=>e=.returned (.tuple #[group.entV (fndE t key hs (js (rdy Y n1 q) Y.N dd hs)).key (fndE t key hs (js (rdy Y n1 q) Y.N dd hs)).val (fndE t key hs (js (rdy Y n1 q) Y.N dd hs)).hash,.bool (fnd t key hs (js (rdy Y n1 q) Y.N dd hs)).isSome])∧DAt a w0 Y D n1 dd dp q tk (eT t key hs (js (rdy Y n1 q) Y.N dd hs)) fp w'∧LnStep Y.tall L (L.see m (fndK t key hs (js (rdy Y n1 q) Y.N dd hs))) w w':=by
 have hlt:=hl.lt;refine (delete_on (D:=D) (l:=Y.tall++L.d) (R:=fun x y z b w'=>(x=(fndE t key hs (js (rdy Y n1 q) Y.N dd hs)).key∧y=(fndE t key hs (js (rdy Y n1 q) Y.N dd hs)).val∧z=(fndE t key hs (js (rdy Y n1 q) Y.N dd hs)).hash∧b=(fnd t key hs (js (rdy Y n1 q) Y.N dd hs)).isSome)∧DAt a w0 Y D n1 dd dp q tk (eT t key hs (js (rdy Y n1 q) Y.N dd hs)) fp w'∧LnStep Y.tall L (L.see m (fndK t key hs (js (rdy Y n1 q) Y.N dd hs))) w w') hn L.p key hs (fun b hb=>?_) (fun W hb=>?_) (fun _ _ _ _ w' B' i u hr hB=>⟨hr.1,DAt.newset (w1:=w) h hr.2.1 hB i u,hr.2.2.newset hlt (p:=⟨B',i,none⟩) hB u⟩)).mono fun e w' ⟨x,y,z,b,he,_,⟨h1,h2,h3,h4⟩,hr⟩=>⟨by rw [he,h1,h2,h3,h4],hr⟩
 ·rcases List.mem_append.1 hb with hb|hb
  ·exact h.lts _ (h.tin _ hb)
  ·exact hlt b hb
 ·exact ((h.read hb).delete (L:=L) (m:=m) (LnStep.of [] hl hb).at' hd key hs hk hh).mono fun e w' ⟨he,hD,hs'⟩=>⟨_,_,_,_,he,hs'.past,⟨rfl,rfl,rfl,rfl⟩,hD,(LnStep.of _ hl hb).trans hs'⟩
set_option maxRecDepth 20000 in
theorem nput_on(hn:NRow X p d T k (some ⟨D,0,none⟩) w)(h:DAt a w0 Y D n1 dd dp q tk t fp w)(hl:LnAt L m w)(hd:∀b∈L.d,w0.heap.size≤b∧b∉fp)(key v hs:Nat)(hk:key<18446744073709551616)(hv:v<18446744073709551616)(hh:hs<18446744073709551616)(more:Bool) :
  Calls Tryz.prog 11 #[.pointer (some ⟨X,0,none⟩),.agg #[.pointer L.p],group.entV key v hs,.bool more] w fun e w'=>e=.returned (.tuple #[.bool (dB t key hs (js (rdy Y n1 q) Y.N dd hs) more),errAt a (dE t key hs (js (rdy Y n1 q) Y.N dd hs) more)])∧DAt a w0 Y D n1 dd dp q tk (dT t key hs v (js (rdy Y n1 q) Y.N dd hs) more) fp w'∧LnStep Y.tall L (L.see m (fndK t key hs (js (rdy Y n1 q) Y.N dd hs))) w w':=by
 have HH:=Lib.hid h;have HL:=Lib.hid hl;have hb2:=two_new w (.cells #[.pointer L.p] 52) (.cells #[.int .u64 (key:Nat),.int .u64 (v:Nat),.int .u64 (hs:Nat)] 44);have c1:=fun W (hb:Below w.heap.size w W)=>((HH.out.read hb).put (L:=L) (m:=m) (LnStep.of [] HL.out hb).at' hd key v hs hk hv hh more).mono (R':=fun e w'=>e=.returned (.tuple #[.bool (dB t key hs (js (rdy Y n1 q) Y.N dd hs) more),errAt a (dE t key hs (js (rdy Y n1 q) Y.N dd hs) more)])∧DAt a w0 Y D n1 dd dp q tk (dT t key hs v (js (rdy Y n1 q) Y.N dd hs) more) fp w'∧LnStep Y.tall L (L.see m (fndK t key hs (js (rdy Y n1 q) Y.N dd hs))) w w') fun e w' ⟨h1,h2,h3⟩=>⟨h1,h2,(LnStep.of _ HL.out hb).trans h3⟩
 have hV:=EBox.second key v hs w (.cells #[.pointer L.p] 52);have hN2:=hn.keep hb2;have k4:=hN2.c4;have hds:=dl_some;have hX0:((w.alloc (.cells #[.pointer L.p] 52)).alloc (.cells #[.int .u64 (key:Nat),.int .u64 (v:Nat),.int .u64 (hs:Nat)] 44)).cell? ⟨w.heap.size,0,none⟩=some (.pointer L.p):=keepc (new_block _ _) (newc w _ _);have u4:=Under.cell k4;have u5:=Under.cell hX0;have u0:=Under.cell hV.c0;have u1:=Under.cell hV.c1;have u2:=Under.cell hV.c2;clear h hl hn hN2;generalize dB t key hs (js (rdy Y n1 q) Y.N dd hs) more=rB at *
 generalize errAt a (dE t key hs (js (rdy Y n1 q) Y.N dd hs) more)=rE at *
 generalize dT t key hs v (js (rdy Y n1 q) Y.N dd hs) more=rT at *
 generalize fndK t key hs (js (rdy Y n1 q) Y.N dd hs)=rK at *
 go_enter Tryz.func11,Tryz.ntmps11
 go_upto_region 2 with (fail)
 refine one.wp_region_one 7 _ (by kernel_rfl) (by kernel_rfl) rfl ?_;simp only [List.take_succ_cons,List.take_zero,List.drop_succ_cons,List.drop_zero]
 repeat (quiet_step (fail))
 refine wpQuiet_nil ?_;intro y Kc hKc;have cPy:=c1 _ (under.below_step hb2 y.below);clear u0 u1 u2 u4 u5 c1;generalize y.W=w8 at *
 go_simp;refine cPy.mono ?_;clear cPy;rintro e w9 ⟨rfl,hD9,hs9⟩;go_simp;refine hKc _ _ ?_;clear hKc Kc
 repeat (quiet_step (fail))
 refine wpQuiet_nil ?_;intro y3;have hD10:=hD9.read y3.below;have hs10:=hs9.below y3.below;clear hD9 hs9;generalize y3.W=w10 at *
 go_wp2
 go_ret2
 exact⟨rfl,hD10,hs10⟩
end
end node
end Go.Proofs.YtdplhgpeggcmdaaGreatDoor
