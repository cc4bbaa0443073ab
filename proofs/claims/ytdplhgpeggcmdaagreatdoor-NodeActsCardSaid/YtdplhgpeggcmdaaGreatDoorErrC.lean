/- ErrC: facts and laws for the walks. -/
import Derived.Stop.LaidErr
import Derived.Stop.Asserts
import Derived.Stop.IfaceNil
import Derived.Test.YtdplhgpeggcmdaaGreatDoorSwarFd
import Derived.Deep.RegionWith
namespace Go.Proofs.YtdplhgpeggcmdaaGreatDoor
set_option linter.unusedSimpArgs false
set_option linter.unusedVariables false
namespace sent
open Go
abbrev mkSent(nm:String)(x:String×List UInt8):String×DataW Unit:=(x.1,.iface nm (.ptr (.agg [.lit (.string x.2)])))
theorem sents_of{P:Program}{nm:String}{W:World}{ti tp te ts:TypeId}{ms:Array (String×TypeId)}{f:Field}
  (hi:P.underlying ti=some (.interface ms))(hrow:∀u,P.typeName? 3 u=some nm→u=tp)
  (hp:P.underlying tp=some (.pointer te))(he:P.underlying te=some (.struct #[f]))(hft:f.type=ts)(hfo:f.offset=0)(hs:P.underlying ts=some .string)(hc:P.cellsOf te=1)(hcs:P.cellsOf ts=1) :
  ∀(L:List (String×List UInt8)) (ps:List MemPlace),DataW.LaidVars P W (L.map (mkSent nm)) ps→ps.Nodup →
   (∀b off,MemPlace.cell b off∈ps→(∃c t,W.heap[b]?=some (.cells c t (0,0)))∧∀u v,W.cell? ⟨b,off,none⟩=some (.iface u v)→Value.okWide P W .any 0 u v) →
   (∀x∈L,(P.globalNamed x.1).bind (fun g=>(P.globals[g]?).map (·.type))=some ti)→(L.map Prod.fst).Nodup →
   ∃a:String→Addr,(∀x∈L,MemPlace.cell (a x.1).block (a x.1).off∈ps∧(∃g,P.globalNamed x.1=some g∧W.cell? ⟨g,0,none⟩=some (.iface tp (.pointer (some (a x.1)))))∧(∃c t,W.heap[(a x.1).block]?=some (.cells c t (0,0)))) ∧
    ∀x∈L,∀y∈L,a x.1=a y.1→x.1=y.1
 | [],_,_,_,_,_,_=>⟨fun _=>⟨0,0,none⟩,fun _ h=>(by cases h),fun _ h=>(by cases h)⟩
 | x :: L,ps,hl,hnd,hrows,hty,hn=>by
  obtain⟨g,t,cs,fu,p,q,hg,ht,hv,hd,hr,e⟩:=hl;subst e;have htx:=hty x (by simp);simp only [hg,Option.bind_some] at htx;obtain rfl:=Option.some.inj (htx.symm.trans ht);obtain⟨cs⟩:=cs
  have ok0:∀u v,cs=[.iface u v]→Value.okWide P W .any 0 u v:=fun u v e=>by
   subst e;exact (hrows g 0 (by simp [MemPlace.row])).2 u v (by simpa using World.var?_cell hg hv 0)
  obtain⟨a0,s0,rfl,hc0,hs0,hz0,rfl⟩:=errorString_of_trod hi hrow hp he hft hfo hs hc hcs hd ok0;have hb0:=(hrows a0.block a0.off (by simp [MemPlace.row])).1;have hcell:W.cell? ⟨g,0,none⟩=some (.iface tp (.pointer (some a0))):=by simpa using World.var?_cell hg hv 0
  rw [List.nodup_append] at hnd;obtain⟨hnd1,hnd2,hnd3⟩:=hnd;obtain⟨a,ha,hinj⟩:=sents_of hi hrow hp he hft hfo hs hc hcs L q hr hnd2 (fun b off h=>hrows b off (List.mem_append_right _ h)) (fun y hy=>hty y (List.mem_cons_of_mem _ hy)) (List.nodup_cons.1 hn).2;have hx:∀y∈L,y.1≠x.1:=fun y hy e=>(List.nodup_cons.1 hn).1 (e ▸ List.mem_map_of_mem hy)
  have hne:∀y∈L,a y.1≠a0:=fun y hy e=>by
   have h1:=(ha y hy).1;rw [e] at h1;exact hnd3 _ (List.mem_append_right _ (by simp [MemPlace.row])) _ h1 rfl
  refine⟨fun n=>if n=x.1 then a0 else a n,fun y hy=>?_,fun y hy z hz=>?_⟩
  ·rcases List.mem_cons.1 hy with rfl|hy
   ·simp only [if_true]
    exact⟨List.mem_append_left _ (List.mem_append_right _ (by simp [MemPlace.row])),⟨g,hg,hcell⟩,hb0⟩
   ·simp only [if_neg (hx y hy)]
    exact⟨List.mem_append_right _ (ha y hy).1,(ha y hy).2⟩
  ·rcases List.mem_cons.1 hy with hy0|hy1
   ·rcases List.mem_cons.1 hz with hz0|hz1
    ·intro _;rw [hy0,hz0]
    ·rw [hy0]
     simp only [if_true,if_neg (hx z hz1)];intro e;exact absurd e.symm (hne z hz1)
   ·rcases List.mem_cons.1 hz with hz0|hz1
    ·rw [hz0]
     simp only [if_true,if_neg (hx y hy1)];intro e;exact absurd e (hne y hy1)
    ·simp only [if_neg (hx y hy1),if_neg (hx z hz1)]
     exact hinj y hy1 z hz1
theorem sents{P:Program}{nm:String}{W:World}{ti tp te ts:TypeId}{ms:Array (String×TypeId)}{f:Field}
  (hi:P.underlying ti=some (.interface ms))(hrow:∀u,P.typeName? 3 u=some nm→u=tp)
  (hp:P.underlying tp=some (.pointer te))(he:P.underlying te=some (.struct #[f]))(hft:f.type=ts)(hfo:f.offset=0)(hs:P.underlying ts=some .string)(hc:P.cellsOf te=1)(hcs:P.cellsOf ts=1)
  (L:List (String×List UInt8))(h:laidMet P (L.map (mkSent nm)) W)(hty:∀x∈L,(P.globalNamed x.1).bind (fun g=>(P.globals[g]?).map (·.type))=some ti)(hn:(L.map Prod.fst).Nodup) :
  ∃a:String→Addr,(∀n∈L.map Prod.fst,(∃g,P.globalNamed n=some g∧W.cell? ⟨g,0,none⟩=some (.iface tp (.pointer (some (a n)))))∧(∃c t,W.heap[(a n).block]?=some (.cells c t (0,0)))) ∧
   ∀n∈L.map Prod.fst,∀m∈L.map Prod.fst,a n=a m→n=m:=by
 obtain⟨ps,hl,hnd,hrows⟩:=h;obtain⟨a,h1,h2⟩:=sents_of hi hrow hp he hft hfo hs hc hcs L ps hl hnd hrows hty hn;refine⟨a,fun n hn=>?_,fun n hn m hm=>?_⟩
 ·obtain⟨x,hx,rfl⟩:=List.mem_map.1 hn
  exact (h1 x hx).2
 ·obtain⟨x,hx,rfl⟩:=List.mem_map.1 hn
  obtain⟨y,hy,rfl⟩:=List.mem_map.1 hm;exact h2 x hx y hy
end sent
namespace errs
open Go.RowKit Go.Extern.Stop Go.Stop Go.Extern
abbrev errV(x:Addr):Value:=.iface 268 (.pointer (some x))
theorem isTypeOf(v:Value)(w:World):(Extern.ReflectliteType.typeOf #[.iface 268 v]).run Tryz.prog w=.ok (.iface 207 (.agg #[.pointer (some ⟨18,268,none⟩)])) w:=by kernel_rfl
def cmpOf : Array Value → Sem Value := Extern.ReflectliteType.method fun t => do Go.Extern.Rtype.noPackHeld "Comparable" t; pure (.bool (← typeInfo t).comparable)
theorem cmpRun(w:World):(cmpOf #[.agg #[.pointer (some ⟨18,268,none⟩)]]).run Tryz.prog w=.ok (.bool true) w:=by kernel_rfl
theorem isComparable(w:World):(callFunc 226 #[.agg #[.pointer (some ⟨18,268,none⟩)]]).run Tryz.prog w=.ok (Next.value (.bool true)) w:=by
 have h:=@run_callFunc_extern Tryz.prog 226 _ cmpOf Tryz.func226 (by kernel_rfl) (by kernel_rfl) (by kernel_rfl) (by kernel_rfl) #[.agg #[.pointer (some ⟨18,268,none⟩)]] w;rw [h,cmpRun];rfl
theorem isMethodComparable (v : Value) (w : World) : (Go.method 405 207 v "Comparable").run Tryz.prog w = .ok (226, v) w := by kernel_rfl
theorem isComp:(Tryz.prog.info? 268).map (·.comparable)=some true:=by kernel_rfl
theorem isSize:(Tryz.prog.info? 293).map (·.size)=some 1:=by kernel_rfl
theorem noIsE(v:Value)(xT:TypeId)(w:World):(Instr.typeAssert (.iface 268 v) xT 209 true).run Tryz.prog w=.ok (.tuple #[.nilIface,.bool false]) w:=run_typeAssert_lacksB Tryz.underlying209 (by kernel_rfl) (by kernel_rfl) v xT w
theorem noUnwrapE(v:Value)(xT:TypeId)(w:World):(Instr.typeAssert (.iface 268 v) xT 212 true).run Tryz.prog w=.ok (.tuple #[.nilIface,.bool false]) w:=run_typeAssert_lacksB Tryz.underlying212 (by kernel_rfl) (by kernel_rfl) v xT w
theorem noUnwrapsE(v:Value)(xT:TypeId)(w:World):(Instr.typeAssert (.iface 268 v) xT 214 true).run Tryz.prog w=.ok (.tuple #[.nilIface,.bool false]) w:=run_typeAssert_lacksB Tryz.underlying214 (by kernel_rfl) (by kernel_rfl) v xT w
theorem is_same(a:Addr)(w:World) :
  Calls Tryz.prog 42 #[errV a,errV a] w fun e w'=>e=.returned (.bool true)∧w=w':=by
 obtain⟨i,hi,hcmp⟩:=Option.map_eq_some_iff.1 isComp;obtain⟨j,hj,hjs⟩:=Option.map_eq_some_iff.1 isSize;have h8:=@run_callFunc_extern Tryz.prog 90 _ Extern.ReflectliteType.typeOf Tryz.func90 (by kernel_rfl) (by kernel_rfl) (by kernel_rfl) (by kernel_rfl);have tT:=isTypeOf;have cT:=isComparable;have mR:=isMethodComparable;have heq:=run_eql_iface_ptr_same (P:=Tryz.prog) w a Tryz.underlying27 Tryz.underlying268 hi hcmp hj
 go_enter Tryz.func42,Tryz.ntmps42
 go_wp2;refine wp_loop_rounds 1 ?_;rw [rounds_succ];go_wp2
 go_ret
 exact⟨rfl,rfl⟩
theorem is_other(a b:Addr)(ca cb:Array Value)(ta tb:TypeId)(w:World)(hne:a≠b)(ha:w.heap[a.block]?=some (.cells ca ta (0,0)))(hb:w.heap[b.block]?=some (.cells cb tb (0,0))) :
  Calls Tryz.prog 42 #[errV a,errV b] w fun e w'=>e=.returned (.bool false)∧w=w':=by
 obtain⟨i,hi,hcmp⟩:=Option.map_eq_some_iff.1 isComp;obtain⟨j,hj,hjs⟩:=Option.map_eq_some_iff.1 isSize;have h8:=@run_callFunc_extern Tryz.prog 90 _ Extern.ReflectliteType.typeOf Tryz.func90 (by kernel_rfl) (by kernel_rfl) (by kernel_rfl) (by kernel_rfl);have tT:=isTypeOf;have cT:=isComparable;have mR:=isMethodComparable;have nE:=noIsE;have uE:=noUnwrapE;have vE:=noUnwrapsE;have heq:=run_eql_iface_ptr_other (P:=Tryz.prog) w Tryz.underlying27 Tryz.underlying268 hi hcmp hj (by rw [hjs];decide) hne ha hb
 go_enter Tryz.func42,Tryz.ntmps42
 go_wp2;refine wp_loop_rounds 1 ?_;rw [rounds_succ];go_wp2
 go_ret
 exact⟨rfl,rfl⟩
def names : List String := ["ambler/api.ErrRange", "ambler/api.ErrFull", "ambler/api.ErrForm", "ambler/api.ErrNone", "ambler/api.ErrState", "ambler/api.ErrBadIter", "ambler/api.ErrTooMany", "ambler/api.ErrHash", "ambler/api.ErrLong", "ambler/api.ErrBroken", "ambler/api.ErrLimit", "ambler/api.ErrEmpty", "ambler/api.ErrNumber", "ambler/api.ErrKind", "ambler/api.ErrName", "ambler/api.ErrDup"]
structure ErrsOk(ns:List String)(a:String→Addr)(w:World):Prop where
 cell:∀n∈ns,∃g,Tryz.prog.globalNamed n=some g∧w.cell? ⟨g,0,none⟩=some (errV (a n))
 row:∀n∈ns,∃c t,w.heap[(a n).block]?=some (.cells c t (0,0))
 ne:∀n∈ns,∀m∈ns,a n=a m→n=m
theorem ErrsOk.at{ns:List String}{a:String→Addr}{w:World}(h:ErrsOk ns a w){n:String}{g:Nat}(hg:Tryz.prog.globalNamed n=some g)(hn:n∈ns):w.cell? ⟨g,0,none⟩=some (errV (a n)):=by
 obtain⟨g',hg',hc⟩:=h.cell n hn;obtain rfl:=Option.some.inj (hg.symm.trans hg');exact hc
theorem ErrsOk.below{ns:List String}{a:String→Addr}{w w':World}(h:ErrsOk ns a w)(hb:Below w.heap.size w w'):ErrsOk ns a w':=by
 refine⟨fun n hn=>?_,fun n hn=>?_,h.ne⟩
 ·obtain⟨g,hg,hc⟩:=h.cell n hn
  exact⟨g,hg,(hb.cell (p:=⟨g,0,none⟩) (World.block_lt_of_cell? w _ hc)).trans hc⟩
 ·obtain⟨c,t,hr⟩:=h.row n hn
  have hlt:(a n).block<w.heap.size:=by
   rcases Nat.lt_or_ge (a n).block w.heap.size with h'|h'
   ·exact h'
   ·simp [Array.getElem?_eq_none h'] at hr
  exact⟨c,t,(hb.block _ hlt).trans hr⟩
theorem is_not{ns:List String}{a:String→Addr}{w:World}(h:ErrsOk ns a w){n m:String}(hn:n∈ns)(hm:m∈ns)(hne:n≠m) :
  Calls Tryz.prog 42 #[errV (a n),errV (a m)] w fun e w'=>e=.returned (.bool false)∧w=w':=by
 obtain⟨ca,ta,ha⟩:=h.row n hn;obtain⟨cb,tb,hb⟩:=h.row m hm;exact is_other _ _ ca cb ta tb w (fun e=>hne (h.ne n hn m hm e)) ha hb
end errs
namespace errs
open Go.RowKit
theorem gErrRange : Tryz.prog.globalNamed "ambler/api.ErrRange" = some 0 := by kernel_rfl
theorem gErrFull : Tryz.prog.globalNamed "ambler/api.ErrFull" = some 1 := by kernel_rfl
theorem gErrForm : Tryz.prog.globalNamed "ambler/api.ErrForm" = some 5 := by kernel_rfl
theorem gErrNone : Tryz.prog.globalNamed "ambler/api.ErrNone" = some 6 := by kernel_rfl
theorem gErrState : Tryz.prog.globalNamed "ambler/api.ErrState" = some 2 := by kernel_rfl
theorem gErrBadIter : Tryz.prog.globalNamed "ambler/api.ErrBadIter" = some 7 := by kernel_rfl
theorem gErrTooMany : Tryz.prog.globalNamed "ambler/api.ErrTooMany" = some 8 := by kernel_rfl
theorem gErrHash : Tryz.prog.globalNamed "ambler/api.ErrHash" = some 9 := by kernel_rfl
theorem gErrLong : Tryz.prog.globalNamed "ambler/api.ErrLong" = some 10 := by kernel_rfl
theorem gErrBroken : Tryz.prog.globalNamed "ambler/api.ErrBroken" = some 4 := by kernel_rfl
theorem gErrLimit : Tryz.prog.globalNamed "ambler/api.ErrLimit" = some 11 := by kernel_rfl
theorem gErrEmpty : Tryz.prog.globalNamed "ambler/api.ErrEmpty" = some 3 := by kernel_rfl
theorem gErrNumber : Tryz.prog.globalNamed "ambler/api.ErrNumber" = some 12 := by kernel_rfl
theorem gErrKind : Tryz.prog.globalNamed "ambler/api.ErrKind" = some 13 := by kernel_rfl
theorem gErrName : Tryz.prog.globalNamed "ambler/api.ErrName" = some 14 := by kernel_rfl
theorem gErrDup : Tryz.prog.globalNamed "ambler/api.ErrDup" = some 15 := by kernel_rfl
def nm (i : Nat) : String := names.getD i ""
theorem nm_mem{i:Nat}(h:i<16):nm i∈names:=by
 unfold nm;rw [List.getD_eq_getElem?_getD,List.getElem?_eq_getElem (by exact h)];exact List.getElem_mem _
set_option maxRecDepth 10000 in
theorem nm_ne{i j:Nat}(hi:i<16)(hj:j<16)(h:i≠j):nm i≠nm j:=by
 have hn:names.Nodup:=by decide
 unfold nm;rw [List.getD_eq_getElem?_getD,List.getD_eq_getElem?_getD,List.getElem?_eq_getElem (by exact hi),List.getElem?_eq_getElem (by exact hj)]
 rcases Nat.lt_or_gt_of_ne h with h'|h'
 ·exact List.pairwise_iff_getElem.1 hn i j hi hj h'
 ·exact fun e=>List.pairwise_iff_getElem.1 hn j i hj hi h' e.symm
theorem cases16{i:Nat}(h:i<16):i=0∨i=1∨i=2∨i=3∨i=4∨i=5∨i=6∨i=7∨i=8∨i=9∨i=10∨i=11∨i=12∨i=13∨i=14∨i=15:=by omega
theorem all_any(a:String→Addr)(w:World)(h:ErrsOk names a w) :
  Calls Tryz.prog 41 #[] w fun e w'=>∃B,e=.returned (.slice (some ⟨B,0,none⟩) 16 16)∧Below w.heap.size w w'∧∀i<16,w'.cell? ⟨B,i,none⟩=some (errV (a (nm i))):=by
 have c0:=h.at gErrRange (nm_mem (i:=0) (by decide));have c1:=h.at gErrFull (nm_mem (i:=1) (by decide));have c2:=h.at gErrForm (nm_mem (i:=2) (by decide));have c3:=h.at gErrNone (nm_mem (i:=3) (by decide));have c4:=h.at gErrState (nm_mem (i:=4) (by decide));have c5:=h.at gErrBadIter (nm_mem (i:=5) (by decide));have c6:=h.at gErrTooMany (nm_mem (i:=6) (by decide));have c7:=h.at gErrHash (nm_mem (i:=7) (by decide));have c8:=h.at gErrLong (nm_mem (i:=8) (by decide));have c9:=h.at gErrBroken (nm_mem (i:=9) (by decide));have c10:=h.at gErrLimit (nm_mem (i:=10) (by decide));have c11:=h.at gErrEmpty (nm_mem (i:=11) (by decide));have c12:=h.at gErrNumber (nm_mem (i:=12) (by decide));have c13:=h.at gErrKind (nm_mem (i:=13) (by decide));have c14:=h.at gErrName (nm_mem (i:=14) (by decide));have c15:=h.at gErrDup (nm_mem (i:=15) (by decide))
 go_enter Tryz.func41,Tryz.ntmps41
 go_wp2
 go_ret
 refine⟨w.heap.size,rfl,(Below.refl _ _).alloc (Nat.le_refl _) _,fun i hi=>?_⟩
 rcases cases16 hi with rfl|rfl|rfl|rfl|rfl|rfl|rfl|rfl|rfl|rfl|rfl|rfl|rfl|rfl|rfl|rfl <;> (rw [World.cell?_alloc_new];rfl)
theorem num_nil(w:World) :
  Calls Tryz.prog 8 #[.nilIface] w fun e w'=>e=.returned (.int .i64 0)∧w=w':=by
 go_enter Tryz.func8,Tryz.ntmps8
 go_wp2
 go_ret
 exact⟨rfl,rfl⟩
theorem num_at(a:String→Addr)(k:Nat)(hk:k<16)(w:World)(h:ErrsOk names a w) :
  Calls Tryz.prog 8 #[errV (a (nm k))] w fun e w'=>e=.returned (.int .i64 ((k+1:Nat):Int))∧Below w.heap.size w w':=by
 have hall:=all_any a w h
 go_enter Tryz.func8,Tryz.ntmps8
 go_wp2_with (go_at_call 41;refine hall.mono ?_;rintro e w1 ⟨B,rfl,hb,hc⟩)
 go_loopw [9] (fun i wr=>∃j:Nat,j≤k∧i=.int .i64 j∧wr=w1) (fun i _=>16-(intOf i).toNat)
 case atStart=>exact⟨0,by omega,rfl,rfl⟩
 case round =>
  obtain⟨j,hj,rfl,rfl⟩:=hrel;have hcj:=hc j (by omega);have h1:(j:Int)<16:=by omega
  rcases Nat.lt_or_ge j k with hjk|hjk
  ·have hI:=is_not (h.below hb) (nm_mem hk) (nm_mem (i:=j) (by omega)) (nm_ne hk (by omega) (by omega))
   go_wp2_with (go_at_call 42;refine hI.mono ?_;rintro e w2 ⟨rfl,rfl⟩)
   go_roundw
   case rel=>exact⟨j+1,by omega,by simp,trivial⟩
   case measure=>simp [intOf];omega
  ·obtain rfl:j=k:=by omega
   have hI:=is_same (a (nm j)) wr
   go_wp2_with (go_at_call 42;refine hI.mono ?_;rintro e w2 ⟨rfl,rfl⟩)
   go_ret
   exact⟨by simp,hb⟩
end errs
namespace ctrl
open Go.ChangeShapes Go.WideShapes Go.ChangeAt Go.RowKit swar
theorem isFull_any(b:Nat)(w:World) :
  Calls Tryz.prog 163 #[.int .u8 b] w fun e w'=>e=.returned (.bool (decide ((b:Int)<128)))∧w=w':=by
 go_enter Tryz.func163,Tryz.ntmps163
 go_wp2
 all_goals (go_ret;exact⟨by simp_all,rfl⟩)
theorem new_any(w:World) :
  Calls Tryz.prog 155 #[] w fun e w'=>e=.returned (.int .u64 9259542123273814144)∧w=w':=by
 have c:=fun w1=>repeat_any 128 (by decide) w1
 have e:pk8 128 128 128 128 128 128 128 128=9259542123273814144:=by decide
 rw [e] at c
 go_enter Tryz.func155,Tryz.ntmps155
 go_wp2_with (go_at_call 178;refine (c _).mono ?_;rintro e w' ⟨rfl,rfl⟩)
 go_ret
 exact⟨rfl,rfl⟩
theorem empties_any(n:Nat)(hn:n<18446744073709551616)(w:World) :
  Calls Tryz.prog 133 #[.int .u64 n] w fun e w'=>e=.returned (.int .u64 (eqM n 128:Nat))∧w=w':=by
 go_enter Tryz.func133,Tryz.ntmps133
 go_wp2_with (go_at_call 161;refine (equal_any n 128 hn (by decide) _).mono ?_;rintro e w' ⟨rfl,rfl⟩)
 go_ret
 exact⟨rfl,rfl⟩
theorem frees_any(n:Nat)(hn:n<18446744073709551616)(w:World) :
  Calls Tryz.prog 132 #[.int .u64 n] w fun e w'=>e=.returned (.int .u64 (hiM n:Nat))∧w=w':=by
 go_enter Tryz.func132,Tryz.ntmps132
 go_wp2_with (go_at_call 159;refine (high_any n hn _).mono ?_;rintro e w' ⟨rfl,rfl⟩)
 go_ret
 exact⟨rfl,rfl⟩
theorem fulls_any(n:Nat)(hn:n<18446744073709551616)(w:World) :
  Calls Tryz.prog 191 #[.int .u64 n] w fun e w'=>e=.returned (.int .u64 (hiM (18446744073709551615-n):Nat))∧w=w':=by
 have c:=fun w1=>high_any (18446744073709551615-n) (not_lt n) w1
 have HE:=Lib.hid (not_int n hn)
 go_enter Tryz.func191,Tryz.ntmps191
 go_wp2_with (go_at_call 159;rw [HE.out];refine (c _).mono ?_;rintro e w' ⟨rfl,rfl⟩)
 go_ret
 exact⟨rfl,rfl⟩
theorem match_full(n b:Nat)(hn:n<18446744073709551616)(hb:b<128)(w:World) :
  Calls Tryz.prog 135 #[.int .u64 n,.int .u8 b] w fun e w'=>e=.returned (.int .u64 (eqM n b:Nat))∧w=w':=by
 have d:decide ((b:Int)<128)=true:=decide_eq_true (by omega);have c:=fun w1=>isFull_any b w1
 rw [d] at c
 go_enter Tryz.func135,Tryz.ntmps135
 go_wp2_with (first
  | (go_at_call 163;refine (c _).mono ?_;rintro e w' ⟨rfl,rfl⟩)
  | (go_at_call 161;refine (equal_any n b hn (by omega) _).mono ?_;rintro e w' ⟨rfl,rfl⟩))
 all_goals (go_ret;exact⟨rfl,rfl⟩)
theorem get_yes(n k:Nat)(hn:n<18446744073709551616)(hk:k<8)(w:World) :
  Calls Tryz.prog 165 #[.int .u64 n,.int .i64 k] w fun e w'=>e=.returned (.int .u8 (ln n k:Nat))∧w=w':=by
 go_enter Tryz.func165,Tryz.ntmps165
 go_wp2_with (go_at_call 180;refine (lane_yes n k hn hk _).mono ?_;rintro e w' ⟨rfl,rfl⟩)
 all_goals (go_ret;exact⟨rfl,rfl⟩)
theorem set_yes(n b k:Nat)(hn:n<18446744073709551616)(hk:k<8)(hb:okB b=true)(w:World) :
  Calls Tryz.prog 182 #[.int .u64 n,.int .i64 k,.int .u8 b] w fun e w'=>e=.returned (.tuple #[.int .u64 (withL n k b:Nat),.nilIface])∧∃q,w'=w.drewN q:=by
 have h3:b<128∨b=128∨b=254:=by unfold okB at hb;simp at hb;omega
 have hb8:b<256:=by omega
 have c:=fun w1=>isFull_any b w1
 rcases h3 with h3|rfl|rfl
 ·rw [decide_eq_true (by omega)] at c
  go_enter Tryz.func182,Tryz.ntmps182
  go_wp2_with (first
   | (go_at_call 180;refine (lane_yes n k hn hk _).mono ?_;rintro e w' ⟨rfl,rfl⟩)
   | (go_at_call 163;refine (c _).mono ?_;rintro e w' ⟨rfl,rfl⟩)
   | (go_at_call 190;refine (with_yes n b k hn hb8 hk _).mono ?_;rintro e w' ⟨rfl,q,rfl⟩))
  go_ret2
  exact⟨rfl,_,rfl⟩
 all_goals
  rw [decide_eq_false (by omega)] at c
  go_enter Tryz.func182,Tryz.ntmps182
  go_wp2_with (first
   | (go_at_call 180;refine (lane_yes n k hn hk _).mono ?_;rintro e w' ⟨rfl,rfl⟩)
   | (go_at_call 163;refine (c _).mono ?_;rintro e w' ⟨rfl,rfl⟩)
   | (go_at_call 190;refine (with_yes n _ k hn hb8 hk _).mono ?_;rintro e w' ⟨rfl,q,rfl⟩))
  go_ret2
  exact⟨rfl,_,rfl⟩
def sgB(b:Nat):UInt8:=if b<128 then 35 else if b=128 then 46 else if b=254 then 120 else 63
def textN(n:Nat):ByteArray:=⟨#[sgB (ln n 0),sgB (ln n 1),sgB (ln n 2),sgB (ln n 3),sgB (ln n 4),sgB (ln n 5),sgB (ln n 6),sgB (ln n 7)]⟩
end ctrl
end Go.Proofs.YtdplhgpeggcmdaaGreatDoor
