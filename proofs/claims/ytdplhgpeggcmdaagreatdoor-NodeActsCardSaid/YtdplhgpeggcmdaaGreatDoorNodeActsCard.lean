/- 'NodeActs', tied: for every depth, every list of hashes and every list of acts the law returns true, and its arguments read as they did. No condition of ours. -/
import Derived.Test.YtdplhgpeggcmdaaGreatDoorCards
import Derived.Test.YtdplhgpeggcmdaaGreatDoorTie
import Derived.Test.YtdplhgpeggcmdaaGreatDoorNodeActsW
import Derived.Test.YtdplhgpeggcmdaaGreatDoorChooseLaid
import Derived.Lay
import Derived.Deep.DeepWitnessRowRef
namespace Go.Proofs.YtdplhgpeggcmdaaGreatDoor
set_option linter.unusedSimpArgs false
set_option linter.unusedVariables false
open Go.ChangeShapes Go.WideShapes Go.ChangeAt Go.RowKit
open Go.ChangeMaps (open_string shut_string)
namespace nodeActs
theorem own:ownKnob Tryz.prog.godebug=none:=by kernel_rfl
theorem laidOut:laidOutB Tryz.prog=true:=by kernel_rfl
theorem cells_amblerlaw15_Act:Tryz.prog.cellsOf 40=3:=by kernel_rfl
theorem cells_int:Tryz.prog.cellsOf 3=1:=by kernel_rfl
theorem cells_uint64:Tryz.prog.cellsOf 42=1:=by kernel_rfl
theorem kept : Rows.nodeActsRow.laid.filter choose.keepE = [("ambler/api.ErrRange", Rows.laid_ambler_api_ErrRange), ("ambler/api.ErrFull", Rows.laid_ambler_api_ErrFull), ("ambler/api.ErrForm", Rows.laid_ambler_api_ErrForm), ("ambler/api.ErrNone", Rows.laid_ambler_api_ErrNone), ("ambler/api.ErrState", Rows.laid_ambler_api_ErrState), ("ambler/api.ErrBadIter", Rows.laid_ambler_api_ErrBadIter), ("ambler/api.ErrTooMany", Rows.laid_ambler_api_ErrTooMany), ("ambler/api.ErrHash", Rows.laid_ambler_api_ErrHash), ("ambler/api.ErrLong", Rows.laid_ambler_api_ErrLong), ("ambler/api.ErrBroken", Rows.laid_ambler_api_ErrBroken), ("ambler/api.ErrLimit", Rows.laid_ambler_api_ErrLimit), ("ambler/api.ErrEmpty", Rows.laid_ambler_api_ErrEmpty), ("ambler/api.ErrNumber", Rows.laid_ambler_api_ErrNumber), ("ambler/api.ErrKind", Rows.laid_ambler_api_ErrKind), ("ambler/api.ErrName", Rows.laid_ambler_api_ErrName), ("ambler/api.ErrDup", Rows.laid_ambler_api_ErrDup)] := by kernel_rfl
theorem errsOk{W:World}(h:laidMetH Tryz.prog Rows.nodeActsRow.laid W):∃a,errs.ErrsOk errs.names a W:=by
 have h':=laidMetH.filter choose.keepE h;rw [kept] at h';exact errs.ofLaid h' (by kernel_rfl) (by rfl) (by kernel_rfl) (by decide) errs.names (by decide)
theorem gTab : Tryz.prog.globalNamed "math/bits.deBruijn64tab" = some 17 := by kernel_rfl
theorem gTabType:(Tryz.prog.globals[17]?).map (·.type)=some 255:=by kernel_rfl
theorem cellsTab:Tryz.prog.cellsOf 255=64:=by kernel_rfl
theorem cellsTabE:Tryz.prog.cellsOf 5=1:=by kernel_rfl
def tabList:List Int:=[0,1,56,2,57,49,28,3,61,58,42,50,38,29,17,4,62,47,59,36,45,43,51,22,53,39,33,30,24,18,12,5,63,55,48,27,60,41,37,16,46,35,44,21,52,32,23,11,54,26,40,15,34,20,31,10,25,14,19,9,13,8,7,6]
theorem table {W : World} (h : laidMetH Tryz.prog Rows.nodeActsRow.laid W) : Lib.TabIs Tryz.prog W "math/bits.deBruijn64tab" .u8 tabList :=
 Lib.tabIs_of_head (rest:=_) gTab gTabType Tryz.underlying255 Tryz.underlying5 cellsTabE cellsTab (errs.plainOf h (by kernel_rfl))
theorem tabOk{W:World}(h:laidMetH Tryz.prog Rows.nodeActsRow.laid W):swar.TabOk W:=
 ⟨(table h).cell gTab 62 (by decide),(table h).cell gTab 51 (by decide),(table h).cell gTab 46 (by decide),(table h).cell gTab 54 (by decide),(table h).cell gTab 25 (by decide),(table h).cell gTab 17 (by decide),(table h).cell gTab 33 (by decide),(table h).cell gTab 32 (by decide)⟩
theorem freshOk{W:World}(h:laidMetH Tryz.prog Rows.nodeActsRow.laid W):choose.FreshOk W:=
 choose.freshOk_of h (by kernel_rfl) (List.mem_iff_getElem?.2 ⟨17,rfl⟩)
set_option maxRecDepth 100000 in
theorem contract(H:Type)(enc:TypeId×Value→H)(W:World)(base:Nat)(args:Array Value)(ds gs:List (DataW H))(before:List MemPlace)
  (hval:∀(j:Nat) t v,Tryz.f3.params[j]?=some t→args[j]?=some v→Value.okWide Tryz.prog W .any base t v)
  (hW:DataW.Whole enc Tryz.prog Tryz.f3.params.toList Rows.nodeActsSpec.vars false W args.toList ds gs before)(hL:laidMetH Tryz.prog Rows.nodeActsRow.laid W) :
  Calls Tryz.prog 3 args W fun e W'=>∃v,e=.returned v∧Rows.nodeActsSpec.post enc Tryz.prog Tryz.f3 false true false false W args v W':=by
 have hW':=hW;obtain⟨p,q,hA0,hV,rfl,hfz,hnd⟩:=hW;have hA:DataW.TrodAll enc Tryz.prog W 0 (fun _=>true) true Tryz.f3.params.toList args.toList ds p:=hA0;rw [Tryz.params3] at hA hval;obtain⟨v0,vs0,d0,ds0,p0,q0,hargs,rfl,rfl,h0,r0⟩:=trodAll_cons hA;obtain⟨v1,vs1,d1,ds1,p1,q1,rfl,rfl,rfl,h1,r1⟩:=trodAll_cons r0;obtain⟨v2,vs2,d2,ds2,p2,q2,rfl,rfl,rfl,h2,r2⟩:=trodAll_cons r1;obtain⟨rfl,rfl,rfl⟩:=trodAll_nil r2;obtain rfl:args=#[v0,v1,v2]:=by cases args;simp_all
 obtain⟨rfl,rfl⟩:=trodVars_none hV;have k0:=h0;have k1:=h1;have lt1:∀x∈p1,x.block<W.heap.size:=by obtain⟨m,hm⟩:=k1;exact DataW.trod_lt m _ _ _ hm
 have k2:=h2;have lt2:∀x∈p2,x.block<W.heap.size:=by obtain⟨m,hm⟩:=k2;exact DataW.trod_lt m _ _ _ hm
 obtain⟨x0,rfl,rfl,rfl,w0⟩:=open_int Tryz.underlying3 (hval 0 3 v0 rfl rfl) h0;obtain⟨s1,len1,cap1,zs1,rfl,c1⟩:=opens.open_ints_arg Tryz.underlying22 Tryz.underlying42 cells_uint64 (hval 1 22 v1 rfl rfl) h1
 obtain⟨s2,len2,cap2,zs2,rfl,c2⟩:=opens.open_structs_arg (k:=.i64) Tryz.underlying23 Tryz.underlying40 (fun j f hj=>by
  match j,hj with
  | 0,hj=>simp at hj;subst hj;exact⟨Tryz.underlying3,rfl,cells_int⟩
  | 1,hj=>simp at hj;subst hj;exact⟨Tryz.underlying3,rfl,cells_int⟩
  | 2,hj=>simp at hj;subst hj;exact⟨Tryz.underlying3,rfl,cells_int⟩
  | j+3,hj=>simp at hj) cells_amblerlaw15_Act (hval 2 23 v2 rfl rfl) h2
 clear hA0;obtain⟨a,ha⟩:=errsOk hL
 refine (node.acts_law a x0 s1 len1 cap1 s2 len2 cap2 (fun i=>(zs1 i).toNat) (fun i=>⟨zs2 i 0,zs2 i 1,zs2 i 2⟩) W (table.Base.of ha (tabOk hL)) (choose.kr_of ha (by decide) (by decide)) (freshOk hL) (fun i hi=>by
  obtain⟨x,hx,hc,hw⟩:=c1 i hi;have b:=bounds_u64 hw;have hlt:=World.block_lt_of_cell? W _ hc
  exact⟨x,hx,by show (zs1 i).toNat<_;omega,fun W' hb=>by show _=some (Value.int .u64 (((zs1 i).toNat:Nat):Int));rw [Int.toNat_of_nonneg b.1];exact (hb.cell hlt).trans hc⟩) (fun i hi=>by
  obtain⟨x,hx,hc0,hw0⟩:=c2 i hi 0 (by decide);obtain⟨x',hx',hc1,hw1⟩:=c2 i hi 1 (by decide);obtain rfl:x=x':=Option.some.inj (hx.symm.trans hx');obtain⟨x',hx',hc2,hw2⟩:=c2 i hi 2 (by decide);obtain rfl:x=x':=Option.some.inj (hx.symm.trans hx');have hlt:=World.block_lt_of_cell? W _ hc0;have b1:=bounds_i64 hw1;have b2:=bounds_i64 hw2
  have hc1':W.cell? ⟨(x.add (i*3)).block,(x.add (i*3)).off+1,none⟩=some (.int .i64 (zs2 i 1)):=by
   have e:=hc1;rw [show ((#[_,_,_]:Array Field).size)=3 from rfl,←Go.Deep.add_add] at e;exact e
  have hc2':W.cell? ⟨(x.add (i*3)).block,(x.add (i*3)).off+2,none⟩=some (.int .i64 (zs2 i 2)):=by
   have e:=hc2;rw [show ((#[_,_,_]:Array Field).size)=3 from rfl,←Go.Deep.add_add] at e;exact e
  exact⟨⟨x,hx,fun W' hb=>⟨(hb.cell hlt).trans hc0,(hb.cell (p:=⟨(x.add (i*3)).block,(x.add (i*3)).off+1,none⟩) hlt).trans hc1',(hb.cell (p:=⟨(x.add (i*3)).block,(x.add (i*3)).off+2,none⟩) hlt).trans hc2'⟩⟩,by show _≤zs2 i 1;omega,by show zs2 i 1≤_;omega,by show _≤zs2 i 2;omega,by show zs2 i 2≤_;omega⟩)).mono fun e W' ⟨he,hg⟩=>?_
 subst he;exact⟨_,rfl,_,_,_,[],_,[],hW',trodAll_mk1 (shut_bool Tryz.underlying4 _),(trodAll_cons_mk (shut_int Tryz.underlying3 w0) (trodAll_cons_mk (Below.trod laidOut (by kernel_rfl) (of_decide_eq_true (by kernel_rfl)) k1 hg lt1) (trodAll_cons_mk (Below.trod laidOut (by kernel_rfl) (of_decide_eq_true (by kernel_rfl)) k2 hg lt2) trodAll_mk0))),rfl,hg.frame _,fun h=>by cases h⟩
noncomputable def laidWorld (os:Os):World:=World.laidAll Tryz.prog os Rows.nodeActsRow.laid
theorem laid_met(os:Os):laidMetH Tryz.prog Rows.nodeActsRow.laid ((laidWorld os).forCall (fun _ _=>0) ⟨#[],#[.int .i64 0,.slice none 0 0,.slice none 0 0],[]⟩).memory:=by
 rw [MakeChecks.laidMetH_plain _ _ _ (by kernel_rfl)];exact laidMet_laidAll _ (by kernel_rfl) (by kernel_rfl)
theorem reads(os:Os){H:Type}(enc:TypeId×Value→H):∃places,DataW.whole enc Tryz.prog ((laidWorld os).forCall (fun _ _=>0) ⟨#[],#[.int .i64 0,.slice none 0 0,.slice none 0 0],[]⟩).memory Tryz.f3.params.toList Rows.nodeActsSpec.vars false #[Value.int .i64 0,.slice none 0 0,.slice none 0 0].toList 8=some ([.lit (.int .i64 0),.nil,.nil],[],places):=
 ⟨[],by kernel_rfl⟩
set_option maxRecDepth 100000 in
theorem lifted(os:Os)(started:os.Started)(H:Type)(enc:TypeId×Value→H)(F:Stop.Interp) :
  ReturnsInHanded {} Tryz.checked os 3 .any ((OpenSpec.ofChange Rows.nodeActsSpec).preRow enc Tryz.prog Tryz.f3 Rows.nodeActsRow.domain false Rows.nodeActsRow.laid) (((OpenSpec.ofChange Rows.nodeActsSpec).at F).post enc Tryz.prog Tryz.f3 false true false false):=by
 obtain⟨places,hx⟩:=reads os enc
 refine returnsInHanded_of_row (C:=Tryz.checked) (s:=OpenSpec.ofChange Rows.nodeActsSpec) own started (by kernel_rfl) Tryz.func3
  (witness_row_atRef (enc:=enc) (C:=Tryz.checked) false (laidWorld os) #[.int .i64 0,.slice none 0 0,.slice none 0 0] (World.laidAll_os _ _ _) (by kernel_rfl) (by kernel_rfl) (by kernel_rfl)
   (OpenSpec.preRow_of_cond 8 hx (by kernel_rfl) (fun k hk=>by cases hk) (by kernel_rfl) (laid_met os))) ?_
 intro W base args ds gs before hval hW _ _ _ hL _ _;exact contract H enc W base args ds gs before hval hW hL
theorem said:Rows.NodeActsSaid:=
 OpenClaim.holds_of_cond 3 Tryz.f3 rfl rfl rfl rfl rfl rfl rfl ⟨rfl,rfl,rfl,rfl,rfl⟩ rfl rfl rfl rfl rfl (by kernel_rfl) Tryz.func3 (by kernel_rfl)
  (of_decide_eq_true (by kernel_rfl)) (by unfold Func.isWrapper;first|(rw [if_pos (by decide +kernel)];kernel_rfl)|(rw [if_neg (by decide +kernel)];exact⟨rfl,rfl⟩))
  (fun os started H enc _ F=>by rw [OpenClaim.pre_eq_preRow];exact lifted os started H enc F)
theorem plain (f : FuncId) (fn : Func) (hf : Tryz.pinned.checked.prog.funcNamed "ambler/amblerlaw15.NodeActs" = some f) (hfn : Tryz.pinned.checked.prog.funcs[f]? = some fn) :
  true=Tryz.pinned.checked.prog.looks []∧∀(j:Nat) t,fn.params[j]?=some t→Tryz.pinned.checked.prog.wantsStandIn t=false:=by
 obtain rfl : f = 3 := Option.some.inj ((show Tryz.prog.funcNamed "ambler/amblerlaw15.NodeActs" = some 3 by kernel_rfl).symm.trans hf) |>.symm
 obtain rfl:fn=Tryz.f3:=(Option.some.inj (Tryz.func3.symm.trans hfn)).symm;refine⟨by kernel_rfl,fun j t ht=>?_⟩;rw [Tryz.params3] at ht;have h:=Array.mem_of_getElem? ht;simp only [List.mem_toArray,List.mem_cons,List.not_mem_nil,or_false] at h
 rcases h with rfl|rfl|rfl
 ·exact (show Tryz.prog.wantsStandIn 3=false by kernel_rfl)
 ·exact (show Tryz.prog.wantsStandIn 22=false by kernel_rfl)
 ·exact (show Tryz.prog.wantsStandIn 23=false by kernel_rfl)
theorem card:Rows.NodeActsCardSaid:=
 Claim7.holds_tied_plain_at .later [] _ _ _ _ said (fun _ h=>by cases h) (by kernel_rfl) (fun _ h=>by cases h) nodeActs_row_tie rfl ⟨rfl,rfl⟩ (by kernel_rfl) rfl plain (by kernel_rfl)
end nodeActs
end Go.Proofs.YtdplhgpeggcmdaaGreatDoor
