/- The iterator of package swar: 'Lanes', for every loop body. -/
import Derived.Test.YtdplhgpeggcmdaaGreatDoorSwarFd
import Derived.RangeFuncNested
import Derived.RangeFuncBound
import Derived.Shelf.RegionOpen
import Derived.OwnWalkIn
import Derived.LoopNIn
import Derived.LoopIn
namespace Go.Proofs.YtdplhgpeggcmdaaGreatDoor
set_option linter.unusedSimpArgs false
set_option linter.unusedVariables false
open Go.ChangeShapes Go.WideShapes Go.ChangeAt Go.RowKit Go.Shelf
namespace swar
attribute [local go_sem] Oper.semAt_some
theorem tab_at{w:World}(hT:TabOk w)(k:Nat)(hk:k<8):∃i:Nat,i<64∧IntKind.u64.wrap (((2^(8*k+7):Nat):Int)*285870213051353865)/288230376151711744=(i:Int)∧w.cell? ⟨17,i,none⟩=some (.int .u8 (8*k+7:Nat)):=by
 obtain⟨t0,t1,t2,t3,t4,t5,t6,t7⟩:=hT
 rcases cases8 hk with rfl|rfl|rfl|rfl|rfl|rfl|rfl|rfl
 ·exact⟨62,by decide,by decide,t0⟩
 ·exact⟨51,by decide,by decide,t1⟩
 ·exact⟨46,by decide,by decide,t2⟩
 ·exact⟨54,by decide,by decide,t3⟩
 ·exact⟨25,by decide,by decide,t4⟩
 ·exact⟨17,by decide,by decide,t5⟩
 ·exact⟨33,by decide,by decide,t6⟩
 ·exact⟨32,by decide,by decide,t7⟩
theorem first_msk(k:Nat)(r:List Nat)(hk:k<8)(hup:Up (k+1) r)(w:World)(hT:TabOk w) :
  Calls Tryz.prog 131 #[.int .u64 (msk (k::r):Nat)] w fun e w'=>e=.returned (.int .i64 k)∧w=w':=by
 have h0:Up 0 (k::r):=⟨Nat.zero_le _,hk,hup⟩;obtain⟨i,hi,hI,hc⟩:=tab_at hT k hk;have he:=hiM_self h0;have c:=first_at (msk (k::r)) (msk_lt h0) (by rw [he];exact msk_pos) i hi (8*k+7) (by omega) (by rw [he,msk_tz (by omega) hup (msk_lt h0)];exact hI) w hc
 rwa [show (8*k+7)/8=k from by omega] at c
theorem Up.zero{j:Nat}{l:List Nat}(h:Up j l):Up 0 l:=h.mono (Nat.zero_le _)
set_option maxRecDepth 100000 in
set_option maxHeartbeats 1000000 in
theorem lanes1_in(n:Nat)(hn:1≤n)(l Bn n0:Nat)(x:Nat)(hx:x<18446744073709551616)(J Jx:List Nat→World→Prop)
  (hY:∀ pre k W,k < 8 → J pre W → pre.length < (tl x).length → YieldAt Fence.wide (n - 1) Tryz.prog l #[.int .i64 (k:Nat)] W fun e W' =>
   (e=.returned (.bool true)∧J (pre++[k]) W'∧Below n0 W W')∨(e=.returned (.bool false)∧Jx (pre++[k]) W'))
  (W:World) (hBn:W.cell? ⟨Bn,0,none⟩=some (.int .u64 x)) (hT:TabOk W) (hg0:17<n0) (h0:J [] W) :
  CallsIn Fence.wide n Tryz.prog 162 #[.func (.yield l) #[] #[],.pointer (some ⟨Bn,0,none⟩)] W fun e W'=>(∃v,e=.returned v) ∧
   ((∃ys,ys=tl x∧J ys W')∨(∃pre,pre <+: tl x∧Jx pre W')):=by
 have ht:=up_tl x
 have hH:∀w,Calls Tryz.prog 159 #[.int .u64 x] w fun e w'=>e=.returned (.int .u64 (msk (tl x):Nat))∧w=w':=fun w=>by
  have c:=high_any x hx w
  rwa [hiM_msk] at c
 have HH:=Lib.hid hH;clear hH;have HT:=Lib.hid hT;clear hT;refine callsIn_of_wp Tryz.func162 rfl trivial ?_ rfl;simp only [Tryz.ntmps162,List.size_toArray,List.length_cons,List.length_nil,Nat.reduceAdd,Nat.reduceSub,Array.replicate_succ,Array.replicate_zero,List.push_toArray,List.append_toArray,List.nil_append,List.cons_append]
 gi_wp2_with (refine⟨trivial, ?_⟩;gi_at_call 159;refine (callsIn_wide.2 (HH.out _)).mono ?_;rintro e w' ⟨rfl,rfl⟩)
 gi_loopw [3] (fun v wr=>∃(pre rest:List Nat),v=.int .u64 (msk rest:Nat)∧tl x=pre++rest∧Up 0 rest∧Hid (TabOk wr)∧J pre wr)
  (fun v _=>(intOf v).toNat)
 case atStart =>
  exact⟨[],tl x,rfl,rfl,ht,HT,h0⟩
 case round =>
  obtain⟨pre,rest,rfl,he,hu,HTr,hJs⟩:=hrel;cases rest with
  | nil =>
   gi_wp2
   go_end0
   exact⟨⟨_,rfl⟩,.inl ⟨pre,by simp [he],hJs⟩⟩
  | cons k r =>
   obtain⟨_,hk,hur⟩:=hu;obtain⟨fn,tmps,assign,body,hy,hR⟩:=hY pre k wr hk hJs (by rw [he];simp);have hlt:=msk_lt (l:=k::r) ⟨Nat.zero_le _,hk,hur⟩;have hp:=@msk_pos k r;have hne:(((msk (k::r):Nat):Int) != 0)=true:=by rw [bne_iff_ne];omega
   have HS:=Lib.hid (msk_step hur hlt);have hmr:msk r<msk (k::r):=by simp only [msk];have:=Nat.pow_pos (n:=k) (show 0<256 by decide);omega
   have HF:=Lib.hid (first_msk k r hk hur wr HTr.out);have He:=Lib.hid he;clear he
   gi_wp2_with (refine⟨trivial, ?_⟩;gi_at_call 131;refine (callsIn_wide.2 HF.out).mono ?_;rintro e w' ⟨rfl,rfl⟩)
   refine hR.mono ?_;rintro e W3 (⟨rfl,hJ3,hk3⟩|⟨rfl,hJx3⟩)
   ·have HT3:=Lib.hid (HTr.out.below hk3 hg0)
    have hs:=HS.out;gi_wp2
    go_roundw
    case rel=>exact⟨pre++[k],r,rfl,by simp [He.out],hur.zero,HT3,hJ3⟩
    case measure=>simp [intOf];omega
   ·gi_wp2
    refine bodyPost_ret (results_none rfl _ _ _) rfl ?_;exact⟨⟨_,rfl⟩,.inr ⟨pre++[k],⟨r,by simp [He.out]⟩,hJx3⟩⟩
theorem lanes_any(x:Nat)(w:World) :
  Calls Tryz.prog 134 #[.int .u64 x] w fun e w'=>e=.returned (.func (.func 162) #[] #[.pointer (some ⟨w.heap.size,0,none⟩)])∧w'=w.alloc (.cells #[.int .u64 x] 42):=by
 go_enter Tryz.func134,Tryz.ntmps134
 go_wp2
 go_ret
 exact⟨rfl,rfl⟩
theorem lanes_stops8(n:Nat)(hn:1≤n)(Bn n0:Nat)(x:Nat)(hx:x<18446744073709551616)(w:World)(hBn:Bn<w.heap.size)(hg0:17<n0)
  (hc:w.cell? ⟨Bn,0,none⟩=some (.int .u64 x))(hT:TabOk w) :
  SeqStopsK Fence.wide n Tryz.prog 162 #[.pointer (some ⟨Bn,0,none⟩)] (fun k:Fin 8=>#[Value.int .i64 ((k.val:Nat):Int)]) (Below n0) (fun ys=>ys.map Fin.val=tl x) (fun pre=>pre.map Fin.val <+: tl x) (tl x).length w:=fun l J Jx W hW _ _ hY h0 =>
 (lanes1_in n hn l Bn n0 x hx (fun pre W => ∃ p:List (Fin 8),p.map Fin.val = pre ∧ J p W) (fun pre W => ∃ p:List (Fin 8),p.map Fin.val = pre ∧ Jx p W)
  (fun pre k W hk ⟨p,hp,hJ⟩ hlen => by
   obtain⟨fn,tmps,assign,body,hy,hR⟩:=hY p ⟨k,hk⟩ W hJ (by rw [←hp] at hlen;simpa using hlen);refine⟨fn,tmps,assign,body,hy,hR.mono ?_⟩;rintro e W3 (⟨rfl,hJ3,hk3⟩|⟨rfl,hJx3⟩)
   ·exact .inl ⟨rfl,⟨_,by simp [hp],hJ3⟩,hk3⟩
   ·exact .inr ⟨rfl,⟨_,by simp [hp],hJx3⟩⟩) W ((hW.cell (p:=⟨Bn,0,none⟩) hBn).trans hc) (hT.below hW hT.lt) hg0 ⟨[],rfl,h0⟩).mono fun e W3 ⟨h1,h2⟩=>⟨h1,by
    rcases h2 with⟨ys,hys,p,hp,hJ⟩|⟨pre,hpre,p,hp,hJx⟩
    ·exact .inl ⟨p,hp.trans hys,hJ⟩
    ·exact .inr ⟨p,by subst hp;exact hpre,hJx⟩⟩
end swar
end Go.Proofs.YtdplhgpeggcmdaaGreatDoor
