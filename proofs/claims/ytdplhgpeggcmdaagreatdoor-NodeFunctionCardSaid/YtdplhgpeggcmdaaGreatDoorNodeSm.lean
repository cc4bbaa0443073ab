/- NodeSm: several texts in one: plain facts and laws for the walks. No program is named. -/
import Derived.Test.YtdplhgpeggcmdaaGreatDoorDualIM
import Derived.Test.YtdplhgpeggcmdaaGreatDoorNodeEx
import Derived.Test.YtdplhgpeggcmdaaGreatDoorDualFunA
import Derived.Handy
import Derived.LoopTactic

/-! ### node: how many entries and tombs there may be: the plain numbers. No program is named. -/
namespace Go.Proofs.YtdplhgpeggcmdaaGreatDoor.node
open group probe swar table evac dual
set_option linter.unusedSimpArgs false
set_option linter.unusedVariables false

/-- so many entries and tombs a table of n groups may have when a job begins -/
def R (n d:Nat):Nat:=4 * n + if n = 8 then 3 * d else 0
/-- what a node without a job has, behind a write (e = 0) or before one (e = 1): s entries and tombs -/
structure Idl (n d g e:Nat) (s:Int):Prop where
 ok:okN n
 bd:s + e ≤ (R n d:Nat)
 dg:d ≤ g
 g5:g ≤ 5
 gn:8 < n → g ≤ d
/-- the job: of how many tables (N), with how many groups (n1), with at most so many entries at first (B) -/
inductive Jb (n d g:Nat):Nat → Nat → Nat → Prop
 | sweep:Jb n d g 2 n (2 * n)
 | grow:n < 64 → (8 ≤ n → g ≤ d) → Jb n d g 2 (2 * n) (R n d)
 | split:n = 8 → d < g → Jb n d g 3 n (R n d)
/-- a node with a job: q steps are done, x of them behind this write; c bounds what the new tables hold, s what the old one does -/
structure Bsy (n d g N n1 B q c x:Nat) (o:Bool) (rd:Bool) (s:Int):Prop where
 ok:okN n
 dg:d ≤ g
 g5:g ≤ 5
 gn:8 < n → g ≤ d
 jb:Jb n d g N n1 B
 qn:q ≤ n + (N - 1) * n1
 op:o = true → q < n + (N - 1) * n1
 cc:8 * c + x ≤ q + 8 * B ∨ q = n + (N - 1) * n1
 cn:8 * c + 1 ≤ n + (N - 1) * n1 + 8 * B
 so:rd = false → 8 * s + x ≤ q + 8 * (R n d:Nat)
theorem okN_cases {n:Nat} (h:okN n):n = 1 ∨ n = 2 ∨ n = 4 ∨ n = 8 ∨ n = 16 ∨ n = 32 ∨ n = 64:=by
 have:=okN_pos h
 have:=okN_le h
 unfold okN at h
 omega
section
variable {n d g N n1 B q c x e:Nat} {o rd:Bool} {s:Int}
theorem Jb.NN (h:Jb n d g N n1 B):N = 2 ∨ N = 3:=by cases h <;> simp
theorem Jb.o1 (h:Jb n d g N n1 B) (hn:okN n):okN n1:=by
 cases h with
 | sweep => exact hn
 | grow h1 _ => rcases okN_cases hn with rfl | rfl | rfl | rfl | rfl | rfl | rfl <;> first | decide | omega
 | split _ _ => exact hn
/-- the new tables have room -/
theorem Bsy.room (h:Bsy n d g N n1 B q c x o rd s):c < 7 * n1:=by
 obtain ⟨hn,h1,h2,h3,hj,_,_,_,h4,_⟩:=h
 cases hj with
 | sweep => simp only [Nat.reduceSub,Nat.one_mul] at h4; have:=okN_pos hn; omega
 | grow _ _ =>
  simp only [Nat.reduceSub,Nat.one_mul] at h4
  have:=okN_pos hn
  unfold R at h4
  split at h4 <;> omega
 | split h5 _ =>
  subst h5
  unfold R at h4
  simp at h4
  omega
/-- the old one has room, as long as it is asked alone -/
theorem Bsy.old (h:Bsy n d g N n1 B q c 8 o false s) (hq:q < (N - 1) * n1):s < 7 * (n:Int):=by
 obtain ⟨hn,h1,h2,h3,hj,_,_,_,_,h4⟩:=h
 have h4:=h4 rfl
 have:=okN_pos hn
 have hq2:q < 2 * n:=by
  cases hj with
  | sweep => simp only [Nat.reduceSub,Nat.one_mul] at hq; omega
  | grow _ _ => simp only [Nat.reduceSub,Nat.one_mul] at hq; omega
  | split _ _ => simp only [Nat.reduceSub] at hq; omega
 have : (R n d:Nat) ≤ 4 * n + if n = 8 then 15 else 0:=by unfold R; split <;> omega
 split at this <;> omega
/-- a key is put: one more may be there -/
theorem Bsy.put {s':Int} (h:Bsy n d g N n1 B q c 8 true rd s) (hs:rd = false → s' ≤ s + 1):Bsy n d g N n1 B q (c + 1) 0 true rd s':=by
 obtain ⟨hn,h1,h2,h3,hj,h4,h5,h6,h7,h8⟩:=h
 have h5':=h5 rfl
 refine ⟨hn,h1,h2,h3,hj,h4,h5, ?_, ?_,fun e => ?_⟩
 ·omega
 ·omega
 ·have:=h8 e; have:=hs e; omega
theorem Bsy.same {s':Int} (h:Bsy n d g N n1 B q c 8 true rd s) (hs:rd = false → s' ≤ s):Bsy n d g N n1 B q c 0 true rd s':=by
 obtain ⟨hn,h1,h2,h3,hj,h4,h5,h6,h7,h8⟩:=h
 refine ⟨hn,h1,h2,h3,hj,h4,h5, ?_,h7,fun e => ?_⟩
 ·omega
 ·have:=h8 e; have:=hs e; omega
/-- a step is done -/
theorem Bsy.step {rd':Bool} {s':Int} (h:Bsy n d g N n1 B q c x o rd s) (hq:q < n + (N - 1) * n1) (hr:rd' = false → rd = false ∧ s' ≤ s):Bsy n d g N n1 B (q + 1) c (x + 1) false rd' s':=by
 obtain ⟨hn,h1,h2,h3,hj,h4,h5,h6,h7,h8⟩:=h
 refine ⟨hn,h1,h2,h3,hj,by omega,fun e => (by cases e),by omega,h7,fun e => ?_⟩
 obtain ⟨a,b⟩:=hr e
 have:=h8 a
 omega
/-- none is left -/
theorem Bsy.stop (h:Bsy n d g N n1 B q c x o rd s) (hq:q = n + (N - 1) * n1) (hr:rd = true):Bsy n d g N n1 B q c (x + 1) false rd s:=by
 obtain ⟨hn,h1,h2,h3,hj,h4,h5,h6,h7,h8⟩:=h
 exact ⟨hn,h1,h2,h3,hj,h4,fun e => (by cases e),.inr hq,h7,fun e => (by rw [hr] at e; cases e)⟩
theorem Bsy.opn (h:Bsy n d g N n1 B q c x o rd s) (hq:q < n + (N - 1) * n1):Bsy n d g N n1 B q c x true rd s:=
 ⟨h.ok,h.dg,h.g5,h.gn,h.jb,h.qn,fun _ => hq,h.cc,h.cn,h.so⟩
/-- the new tables, once the job is over -/
theorem Bsy.done {s':Int} (h:Bsy n d g N n1 B q c x o rd s) (hs:s' ≤ (c:Nat)):Idl n1 (if N = 3 then d + 1 else d) g 1 s':=by
 obtain ⟨hn,h1,h2,h3,hj,h4,h5,h6,h7,h8⟩:=h
 have hp:=okN_pos hn
 cases hj with
 | sweep =>
  refine ⟨hn, ?_,h1,h2,h3⟩
  simp only [Nat.reduceSub,Nat.one_mul] at h7
  show s' + 1 ≤ (R n d:Nat)
  unfold R; split <;> omega
 | grow h9 h10 =>
  refine ⟨Jb.o1 (.grow h9 h10) hn, ?_,h1,h2,fun e => ?_⟩
  ·simp only [Nat.reduceSub,Nat.one_mul] at h7
   show s' + 1 ≤ (R (2 * n) d:Nat)
   have : R n d ≤ 4 * n + if n = 8 then 15 else 0:=by unfold R; split <;> omega
   have : 4 * (2 * n) ≤ R (2 * n) d:=by unfold R; omega
   split at * <;> omega
  ·show g ≤ d
   exact h10 (by rcases okN_cases hn with rfl | rfl | rfl | rfl | rfl | rfl | rfl <;> omega)
 | split h9 h10 =>
  subst h9
  refine ⟨hn, ?_,by simp; omega,h2,fun e => absurd e (by omega)⟩
  show s' + 1 ≤ (R 8 (if 3 = 3 then d + 1 else d):Nat)
  simp only [R,if_true] at h7 ⊢
  simp only [Nat.reduceSub] at h7
  omega
theorem Idl.put {s':Int} (h:Idl n d g 1 s) (hs:s' ≤ s + 1):Idl n d g 0 s':=⟨h.ok,by have:=h.bd; omega,h.dg,h.g5,h.gn⟩
theorem Idl.same {s':Int} (h:Idl n d g 1 s) (hs:s' ≤ s):Idl n d g 0 s':=h.put (by omega)
theorem Idl.room (h:Idl n d g 1 s):s < 7 * (n:Int):=by
 have h1:=h.bd
 have h2:=h.dg
 have h3:=h.g5
 have h4:=okN_pos h.ok
 unfold R at h1
 split at h1 <;> omega
/-- it wants no job -/
theorem Idl.rest (h:Idl n d g 0 s) (hs:s < 4 * (n:Int)):Idl n d g 1 s:=by
 refine ⟨h.ok, ?_,h.dg,h.g5,h.gn⟩
 have : 4 * n ≤ R n d:=by unfold R; omega
 omega
/-- a job begins -/
theorem Idl.start {l:Int} (h:Idl n d g 0 s) (hj:Jb n d g N n1 B) (hl:l ≤ (B:Nat)) (h0:0 ≤ l):Bsy n d g N n1 B 0 l.toNat 0 true false s:=by
 have hp:=okN_pos h.ok
 have h1:1 ≤ n1:=okN_pos (hj.o1 h.ok)
 have hN:=hj.NN
 have h2:=Nat.mul_pos (show 0 < N - 1 by omega) (show 0 < n1 by omega)
 refine ⟨h.ok,h.dg,h.g5,h.gn,hj,by omega,fun _ => by omega,.inl (by omega),by omega,fun _ => ?_⟩
 have:=h.bd
 omega
end
end Go.Proofs.YtdplhgpeggcmdaaGreatDoor.node

/-! ### node: a node as a partial function: what its calls answer, and how it goes on. -/
namespace Go.Proofs.YtdplhgpeggcmdaaGreatDoor.node
open Go.ChangeShapes Go.WideShapes Go.ChangeAt Go.RowKit Go.Shelf swar under trap meter group probe lens tail call table evac dual
set_option linter.unusedSimpArgs false
set_option linter.unusedVariables false

/-! ### of which part a hash is -/
def wi (h p d:Nat):Prop:=h / 2 ^ (64 - d) = p
theorem wi_two {h p d:Nat} (hd:d ≤ 15):wi h p d ↔ wi h (2 * p) (d + 1) ∧ tgt 3 d h = 1 ∨ wi h (2 * p + 1) (d + 1) ∧ tgt 3 d h = 2:=by
 unfold wi tgt split.bitN
 rw [if_pos rfl,show 64 - (d + 1) = 63 - d by omega,show 64 - d = (63 - d) + 1 by omega,Nat.pow_succ,← Nat.div_div_eq_div_mul]
 generalize h / 2 ^ (63 - d) = x
 omega
theorem wi_up {h p d:Nat} (hd:d ≤ 15):wi h p d ↔ wi h (2 * p) (d + 1) ∨ wi h (2 * p + 1) (d + 1):=by
 rw [wi_two hd]
 unfold wi tgt split.bitN
 rw [if_pos rfl,show 64 - (d + 1) = 63 - d by omega]
 generalize h / 2 ^ (63 - d) = x
 omega
/-! ### the meter: any counts, without a limit -/
def GM (Bm:Nat) (W:World):Prop:=∃ m,MAt Bm 0 m W ∧ m.Ok ∧ m.on = false
theorem GM.read {Bm:Nat} {W W':World} (h:GM Bm W) (hb:Below W.heap.size W W'):GM Bm W':=by obtain ⟨m,h1,h2⟩:=h; exact ⟨m,h1.below hb,h2⟩
theorem GM.past {Bm:Nat} {W W':World} {l:List Nat} (h:GM Bm W) (hp:Past l W W') (hB:Bm ∉ l):GM Bm W':=by obtain ⟨m,h1,h2⟩:=h; exact ⟨m,h1.past hp hB,h2⟩
theorem GM.lt {Bm:Nat} {W:World} (h:GM Bm W):Bm < W.heap.size:=by obtain ⟨m,h1,_⟩:=h; exact h1.lt
theorem see_pr_ok (B o:Nat) (m:Mt) (h:m.Ok) (h2:m.on = false):∀ k,((Ln.pr B o).see m k).Ok ∧ ((Ln.pr B o).see m k).on = false
 | 0 => ⟨h,h2⟩
 | k + 1 => by
  obtain ⟨a,b⟩:=see_pr_ok B o m h h2 k
  exact ⟨a.probes 1,b⟩
theorem see_vi_ok (m:Mt) (h:m.Ok) (h2:m.on = false):∀ k,(msee m k).Ok ∧ (msee m k).on = false
 | 0 => ⟨h,h2⟩
 | k + 1 => by
  obtain ⟨a,b⟩:=see_vi_ok m h h2 k
  exact ⟨a.visits 1,b⟩
theorem unit_ok (m:Mt) (h:m.Ok) (h2:m.on = false):(m.unit 1).Ok ∧ (m.unit 1).on = false:=by
 refine ⟨h.unit 1, ?_⟩
 unfold Mt.unit
 split
 ·exact h2
 ·split <;> exact h2
theorem unitE_no (m:Mt) (h2:m.on = false):m.unitE 1 = 0:=by
 unfold Mt.unitE Mt.past
 rw [h2]; rfl
theorem GM.new (w:World):GM w.heap.size (w.alloc (.cells #[.int .i64 0,.int .i64 0,.int .i64 0,.int .i64 0,.int .i64 0,.int .i64 0,.int .i64 0,.bool false] 38)):=⟨_,MAt.zero_new w,Mt.zero_ok,rfl⟩
/-! ### a node -/
theorem re1 {a:String → Addr} {w0 W:World} {T B n:Nat} {u v:Nat → Tb} (h:Real a w0 (lay1 T B n) u W) (e:u 0 = v 0):Real a w0 (lay1 T B n) v W:=by
 have z:∀ i,i < (lay1 T B n).N → i = 0:=fun i hi => by have : i < 1:=hi; omega
 refine ⟨fun i hi => ?_,fun i hi => ?_,fun i hi => ?_,h.sep,h.new,h.bel,h.base⟩
 ·obtain rfl:=z i hi; rw [← e]; exact h.at' 0 hi
 ·obtain rfl:=z i hi; rw [← e]; exact h.ok 0 hi
 ·obtain rfl:=z i hi; rw [← e]; exact h.tn 0 hi
theorem re_of {a:String → Addr} {w0 W:World} {Y:Lay} {t:Nat → Tb} (h:Real a w0 Y t W) {i n:Nat} (hi:i < Y.N) (hn:Y.n i = n):Real a w0 (lay1 (Y.T i) (Y.B i) n) (fun _ => t i) W:=by
 refine ⟨fun j _ => h.at' i hi,fun j _ => h.ok i hi,fun j _ => (h.tn i hi).trans hn,fun j k hj hk hne => ?_,fun b hb => ?_,h.bel,h.base⟩
 ·have : j < 1:=hj
  have : k < 1:=hk
  omega
 ·rcases lay1_tall hb with rfl | rfl
  ·exact h.new _ (Lay.tin hi (by simp))
  ·exact h.new _ (Lay.tin hi (by simp))
structure Ni (a:String → Addr) (w0:World) (H:Nat → Nat) (la g X p d T B n:Nat) (t:Tb) (F:Nat → Option Nat) (e:Nat) (fp:List Nat) (W:World):Prop where
 row:NRow X p d T 0 none W
 re:Real a w0 (lay1 T B n) (fun _ => t) W
 rep:RepN H la t F
 id:Idl n d g e (t.len + t.tombs)
 fp:fp = [X,T,B]
 nX:X ≠ T ∧ X ≠ B
structure Nb (a:String → Addr) (w0:World) (H:Nat → Nat) (la g X p d:Nat) (kd:Int) (Y:Lay) (D n1 dd:Nat) (dp:Int) (q c:Nat) (t:Nat → Tb) (F:Nat → Option Nat) (x:Nat) (o:Bool) (fp fd:List Nat) (W:World):Prop where
 row:NRow X p d (Y.T 0) kd (some ⟨D,0,none⟩) W
 dm:DM a w0 H la Y D n1 dd dp q c t F fd W
 bs:∃ B,Bsy (Y.n 0) d g Y.N n1 B q c x o (rdy Y n1 q) ((t 0).len + (t 0).tombs)
 dd:Y.N = 3 → dd = d
 fp:fp = X :: fd
 nX:X ∉ fd
structure NF (a:String → Addr) (w0:World) (H:Nat → Nat) (la g X p d:Nat) (F:Nat → Option Nat) (e x:Nat) (o:Bool) (fp:List Nat) (W:World):Prop where
 hla:la ≤ 100
 hH:∀ key,key < la → H key < 18446744073709551616
 hX:w0.heap.size ≤ X
 hp:p < 2 ^ d
 hdg:d ≤ g ∧ g ≤ 5
 hwi:∀ key,(F key).isSome = true → wi (H key) p d
 st:(∃ T B n t,Ni a w0 H la g X p d T B n t F e fp W) ∨ ∃ kd Y D n1 dd dp q c t fd,Nb a w0 H la g X p d kd Y D n1 dd dp q c t F x o fp fd W
section
variable {a:String → Addr} {w0:World} {H:Nat → Nat} {la g X p d:Nat} {F:Nat → Option Nat} {e x:Nat} {o:Bool} {fp:List Nat} {W W':World} {Bm:Nat}
theorem NF.aside {l:List Nat} (h:NF a w0 H la g X p d F e x o fp W) (hp:Past l W W') (hl:∀ b ∈ l,w0.heap.size ≤ b ∧ b ∉ fp):NF a w0 H la g X p d F e x o fp W':=by
 refine ⟨h.hla,h.hH,h.hX,h.hp,h.hdg,h.hwi, ?_⟩
 rcases h.st with ⟨T,B,n,t,i⟩ | ⟨kd,Y,D,n1,dd,dp,q,c,t,fd,i⟩
 ·refine .inl ⟨T,B,n,t,i.row.past hp fun e => (hl _ e).2 (by rw [i.fp]; simp),i.re.past hp fun b hb => ⟨(hl b hb).1,fun e => (hl b hb).2 ?_⟩,i.rep,i.id,i.fp,i.nX⟩
  rw [i.fp]
  rcases lay1_tall e with rfl | rfl <;> simp
 ·exact .inr ⟨kd,Y,D,n1,dd,dp,q,c,t,fd,i.row.past hp (fun e => (hl _ e).2 (by rw [i.fp]; simp)),i.dm.aside hp (fun b hb => ⟨(hl b hb).1,fun e => (hl b hb).2 (by rw [i.fp]; exact List.mem_cons_of_mem _ e)⟩),i.bs,i.dd,i.fp,i.nX⟩
theorem NF.read (h:NF a w0 H la g X p d F e x o fp W) (hb:Below W.heap.size W W'):NF a w0 H la g X p d F e x o fp W':=
 h.aside (Past.of (d:=[]) hb) fun b hb => by cases hb
theorem NF.lts (h:NF a w0 H la g X p d F e x o fp W):∀ b ∈ fp,b < W.heap.size:=fun b hb => by
 rcases h.st with ⟨T,B,n,t,i⟩ | ⟨kd,Y,D,n1,dd,dp,q,c,t,fd,i⟩
 ·rw [i.fp] at hb
  simp only [List.mem_cons,List.not_mem_nil,or_false] at hb
  have h0:=i.re.at' 0 Nat.one_pos
  rcases hb with rfl | rfl | rfl
  ·exact i.row.lt
  ·exact h0.lt
  ·exact h0.lb
 ·rw [i.fp] at hb
  rcases List.mem_cons.1 hb with rfl | hb
  ·exact i.row.lt
  ·exact i.dm.da.flt b hb
theorem NF.bel (h:NF a w0 H la g X p d F e x o fp W):Below w0.heap.size w0 W:=by
 rcases h.st with ⟨T,B,n,t,i⟩ | ⟨kd,Y,D,n1,dd,dp,q,c,t,fd,i⟩
 ·exact i.re.bel
 ·exact i.dm.da.re.bel
theorem NF.xin (h:NF a w0 H la g X p d F e x o fp W):X ∈ fp:=by
 rcases h.st with ⟨T,B,n,t,i⟩ | ⟨kd,Y,D,n1,dd,dp,q,c,t,fd,i⟩
 ·rw [i.fp]; simp
 ·rw [i.fp]; simp
theorem NF.row (h:NF a w0 H la g X p d F e x o fp W):∃ T k pd,NRow X p d T k pd W:=by
 rcases h.st with ⟨T,B,n,t,i⟩ | ⟨kd,Y,D,n1,dd,dp,q,c,t,fd,i⟩
 ·exact ⟨_,_,_,i.row⟩
 ·exact ⟨_,_,_,i.row⟩
/-! ### Find -/
theorem NF.find (h:NF a w0 H la g X p d F e x o fp W) {key:Nat} (hk:key < la) :
  Calls Tryz.prog 16 #[.pointer (some ⟨X,0,none⟩),.agg #[.pointer none],.int .u64 (key:Nat),.int .u64 (H key:Nat)] W fun e w' => ∃ ek ev eh,e = .returned (.tuple #[group.entV ek ev eh,.bool (F key).isSome]) ∧ (∀ u,F key = some u → ev = u) ∧ Below W.heap.size W w':=by
 have hla:=h.hla
 have hHk:=h.hH key hk
 have hn:∀ {w':World} {B i:Nat} {u:Value},Below W.heap.size W w' → W.heap.size ≤ B → Below W.heap.size W (w'.setCell ⟨B,i,none⟩ u):=fun hb hB => hb.setCell hB _
 rcases h.st with ⟨T,B,n,t,i⟩ | ⟨kd,Y,D,n1,dd,dp,q,c,t,fd,i⟩
 ·have h1:=i.rep.rep.there key
  have h2:∀ u,F key = some u → (entOf t key (H key)).val = u:=fun u hu => by rw [i.rep.rep.ent hu]
  refine (find_off (Q0:=0) (l:=[]) (R:=fun x' y' z' b' w' => (b' = (F key).isSome ∧ ∀ u,F key = some u → y' = u) ∧ Below W.heap.size W w') i.row none key (H key) (fun b hb => by cases hb) (fun W1 hb1 => ?_) (fun _ _ _ _ _ _ _ _ hr hB => ⟨hr.1,hn hr.2 hB⟩)).mono fun e w' ⟨x',y',z',b',he,_,⟨hb',hy⟩,hbw⟩ => ⟨x',y',z',by rw [he,hb'],hy,hbw⟩
  have hr:=(i.re.read hb1).rdL (i:=0) (L:=.nil) (m:=Mt.zero) Nat.one_pos trivial (fun b hb => by cases hb)
  refine (find_tab hr key (H key) (by omega) hHk).mono fun e w' ⟨he,hs⟩ => ⟨_,_,_,_,he,by simpa [Ln.d] using hs.past,⟨h1,h2⟩,under.below_step hb1 (Past.nil hs.past)⟩
 ·refine (find_on (D:=D) (l:=[]) (R:=fun x' y' z' b' w' => (b' = (F key).isSome ∧ ∀ u,F key = some u → y' = u) ∧ Below W.heap.size W w') i.row none key (H key) (fun b hb => by cases hb) (fun W1 hb1 => ?_) (fun _ _ _ _ _ _ _ _ hr hB => ⟨hr.1,hn hr.2 hB⟩)).mono fun e w' ⟨x',y',z',b',he,_,⟨hb',hy⟩,hbw⟩ => ⟨x',y',z',by rw [he,hb'],hy,hbw⟩
  exact ((i.dm.read hb1).find (by omega) h.hH hk).mono fun e w' ⟨x',y',z',he,hy,hb2⟩ => ⟨x',y',z',_,he,Past.of hb2,⟨rfl,hy⟩,under.below_step hb1 hb2⟩
/-! ### what a call came to, seen from the node -/
theorem NF.off (h:NF a w0 H la g X p d F e x o fp W) {b:Nat} (hb:W.heap.size ≤ b):w0.heap.size ≤ b ∧ b ∉ fp:=by
 have:=h.bel.size
 exact ⟨by omega,fun e => by have:=h.lts b e; omega⟩
theorem wi_set {F:Nat → Option Nat} {key:Nat} {v:Option Nat} (h:∀ k,(F k).isSome = true → wi (H k) p d) (hw:v.isSome = true → wi (H key) p d):∀ k,(table.set F key v k).isSome = true → wi (H k) p d:=fun k hk => by
 by_cases e:k = key
 ·subst e; rw [table.set_same] at hk; exact hw hk
 ·rw [table.set_ne _ _ e] at hk; exact h k hk
theorem dI_off {t:Nat → Tb} {key hs N d:Nat}:dI t key hs (js false N d hs) = 0:=by
 unfold dI
 cases hf:fnd t key hs (js false N d hs) with
 | none => rfl
 | some i =>
  have:=(fnd_some hf).1
  simpa [js] using this
theorem dT_cnt {t:Nat → Tb} {key hs v N d:Nat} {more:Bool}:(dT t key hs v (js false N d hs) more 0).len + (dT t key hs v (js false N d hs) more 0).tombs ≤ (t 0).len + (t 0).tombs + 1:=by
 unfold dT
 split
 ·rw [dI_off,up_same]; exact puts_cnt _ _ _ _
 ·omega
theorem eT_cnt {t:Nat → Tb} {key hs N d:Nat}:(eT t key hs (js false N d hs) 0).len + (eT t key hs (js false N d hs) 0).tombs ≤ (t 0).len + (t 0).tombs:=by
 cases hf:fnd t key hs (js false N d hs) with
 | none => rw [del_off hf]; exact Int.le_refl _
 | some i =>
  have:=(fnd_some hf).1
  obtain rfl:i = 0:=by simpa [js] using this
  rw [del_found hf,up_same]; exact remove_cnt _ _ _
theorem du_put {N dd c n1:Nat} {t:Nat → Tb} {M:Nat → Nat → Option Nat} {rd:Bool} (s:Du H la N dd F t M c) (hN:N = 2 ∨ N = 3) (ht:rd = false → ∀ j,1 ≤ j → t j = Tb.new n1) (hla:la ≤ 1000) (hH:∀ key,key < la → H key < 18446744073709551616) (hr:rd = true → ∀ i,1 ≤ i → i < N → (c:Int) < 7 * ((t i).n:Int)) (hl:rd = false → 1 ≤ (t 0).left) {key v:Nat} (hk:key < la) (hv:v < 18446744073709551616) :
  dB t key (H key) (js rd N dd (H key)) true = !(F key).isSome ∧ dE t key (H key) (js rd N dd (H key)) true = 0 ∧ (∃ M',Du H la N dd (table.set F key (some v)) (dT t key (H key) v (js rd N dd (H key)) true) M' (c + 1)) ∧ (rd = false → ∀ j,1 ≤ j → dT t key (H key) v (js rd N dd (H key)) true j = Tb.new n1):=by
 rcases s.dput hN ht hla hH hr hk hv with h | ⟨e0,e1,e2,e3,e4⟩
 ·exact h
 ·exfalso
  subst e0
  rcases s.seek0 hN ht key with ⟨i,v0,h1,h2,h3,h4⟩ | ⟨h1,h2,h5,h6⟩
  ·rw [h2] at e1; cases e1
  ·have eE:dE t key (H key) (js false N dd (H key)) true = putE' (t 0) key (H key):=by unfold dE; rw [dI_off,h1]; rfl
   rw [eE,(repN_put (s.rep 0 (by omega)) hk (by omega) (hH _ hk) hv (.inr (hl rfl))).2.1] at e3
   cases e3
/-! ### Put -/
theorem NF.put (h:NF a w0 H la g X p d F 1 8 true fp W) (hm:GM Bm W) (hB0:w0.heap.size ≤ Bm) (hB:Bm ∉ fp) {key val:Nat} (hk:key < la) (hv:val < 18446744073709551616) (hw:wi (H key) p d) :
  Calls Tryz.prog 11 #[.pointer (some ⟨X,0,none⟩),.agg #[.pointer (some ⟨Bm,0,none⟩)],group.entV key val (H key),.bool true] W fun e w' => e = .returned (.tuple #[.bool (!(F key).isSome),.nilIface]) ∧ NF a w0 H la g X p d (table.set F key (some val)) 0 0 true fp w' ∧ GM Bm w' ∧ Past (Bm :: fp) W w':=by
 have hla:=h.hla
 have hHk:=h.hH key hk
 obtain ⟨m,hm,hok,hon⟩:=hm
 have hwi:=wi_set h.hwi (key:=key) (v:=some val) fun _ => hw
 rcases h.st with ⟨T,B,n,t,i⟩ | ⟨kd,Y,D,n1,dd,dp,q,c,t,fd,i⟩
 ·have hfp:=i.fp
  have hd:∀ b ∈ (Ln.pr Bm 0).d,w0.heap.size ≤ b ∧ b ∉ (lay1 T B n).tall:=fun b hb => by
   obtain rfl:b = Bm:=by simpa [Ln.d] using hb
   refine ⟨hB0,fun e => hB ?_⟩
   rw [hfp]
   rcases lay1_tall e with rfl | rfl <;> simp
  have hR:=i.re.rdL (i:=0) (L:=.pr Bm 0) (m:=m) Nat.one_pos hm hd
  have hXB:X ∉ (Ln.pr Bm 0).d:=fun e => hB (by
   obtain rfl:X = Bm:=by simpa [Ln.d] using e
   exact h.xin)
  have hs:=i.id.room
  have hn:t.n = n:=i.re.tn 0 Nat.one_pos
  have hl:1 ≤ t.left:=by unfold Tb.left; rw [hn]; omega
  obtain ⟨r1,r2,r3⟩:=repN_put i.rep hk (by omega) hHk hv (.inr hl)
  have hth:=i.rep.rep.there key
  refine (nput_off i.row hR hXB key (H key) val (by omega) hHk hv true).mono fun e w' ⟨he,hs'⟩ => ?_
  have eB:pB t key (H key) true = !(F key).isSome:=by
   unfold pB
   rw [hth,r3]
   cases (F key).isSome <;> rfl
  have eE:pE t key (H key) true = 0:=by
   unfold pE
   rw [r2]; simp
  have eT:pT t key (H key) val true = t.puts key (H key) val:=by unfold pT; simp
  rw [eB,eE] at he
  rw [eT] at hs'
  have hpast:Past (Bm :: fp) W w':=hs'.ln.past.mono fun b hb => by
   rw [hfp]
   simp only [Ln.d,List.mem_append,List.mem_cons,List.not_mem_nil,or_false] at hb ⊢
   rcases hb with (h | h) | h
   ·exact .inr (.inr (.inl h))
   ·exact .inr (.inr (.inr h))
   ·exact .inl h
  have hre:=i.re.tlL (i:=0) (L:=.pr Bm 0) Nat.one_pos hd hs' (r1.rep.1.ok) (puts_n ..)
  refine ⟨he,⟨h.hla,h.hH,h.hX,h.hp,h.hdg,hwi,.inl ⟨T,B,n,_,i.row.past hs'.ln.past fun e => ?_,re1 hre (by rw [up_same]),r1,i.id.put (puts_cnt _ _ _ _),i.fp,i.nX⟩⟩,⟨_,hs'.ln.at',see_pr_ok Bm 0 m hok hon _⟩,hpast⟩
  simp only [Ln.d,List.mem_append,List.mem_cons,List.not_mem_nil,or_false] at e
  rcases e with (e | e) | e
  ·exact i.nX.1 e
  ·exact i.nX.2 e
  ·exact hXB (by simpa [Ln.d] using e)
 ·have hfp:=i.fp
  obtain ⟨M,hs⟩:=i.dm.du
  obtain ⟨B,hbs⟩:=i.bs
  have hN:=i.dm.da.N
  have hroom:=hbs.room
  have hd:∀ b ∈ (Ln.pr Bm 0).d,w0.heap.size ≤ b ∧ b ∉ fd:=fun b hb => by
   obtain rfl:b = Bm:=by simpa [Ln.d] using hb
   exact ⟨hB0,fun e => hB (by rw [hfp]; exact List.mem_cons_of_mem _ e)⟩
  have hold:rdy Y n1 q = false → 1 ≤ (t 0).left:=fun e => by
   have hb':=hbs
   rw [e] at hb'
   have h1:¬ (Y.N - 1) * n1 ≤ q:=of_decide_eq_false e
   have h2:=hb'.old (by omega)
   have h3:(t 0).n = Y.n 0:=i.dm.da.re.tn 0 (cut_pos hN _)
   unfold Tb.left
   rw [h3]; omega
  obtain ⟨r1,r2,hM,hT⟩:=du_put hs hN i.dm.tn (by omega) h.hH (fun e j h1 hj => by rw [i.dm.rn e h1 hj]; omega) hold hk hv
  refine (nput_on i.row i.dm.da (L:=.pr Bm 0) hm hd key val (H key) (by omega) hv hHk true).mono fun e w' ⟨he,hD,hs'⟩ => ?_
  rw [r1,r2] at he
  have hpast:Past (Bm :: fp) W w':=hs'.past.mono fun b hb => by
   rw [hfp]
   rcases List.mem_append.1 hb with hb | hb
   ·exact List.mem_cons_of_mem _ (List.mem_cons_of_mem _ (i.dm.da.tin b hb))
   ·obtain rfl:b = Bm:=by simpa [Ln.d] using hb
    exact List.mem_cons_self
  refine ⟨he,⟨h.hla,h.hH,h.hX,h.hp,h.hdg,hwi,.inr ⟨kd,Y,D,n1,dd,dp,q,c + 1,_,fd,i.row.past hs'.past fun e => ?_,⟨hD,hM,hT,fun e => by have:=i.dm.off e; rw [e]; exact off_dT this⟩,⟨B,hbs.put fun e => ?_⟩,i.dd,i.fp,i.nX⟩⟩,⟨_,hs'.at',see_pr_ok Bm 0 m hok hon _⟩,hpast⟩
  ·rcases List.mem_append.1 e with e | e
   ·exact i.nX (i.dm.da.tin _ e)
   ·obtain rfl:X = Bm:=by simpa [Ln.d] using e
    exact hB h.xin
  ·rw [e]; exact dT_cnt
end
end Go.Proofs.YtdplhgpeggcmdaaGreatDoor.node

/-! ### node: Delete, however often it is called; a job begins, goes on, ends: seen as a partial function. -/
namespace Go.Proofs.YtdplhgpeggcmdaaGreatDoor.node
open Go.ChangeShapes Go.WideShapes Go.ChangeAt Go.RowKit Go.Shelf swar under trap meter group probe lens tail call table evac dual
set_option linter.unusedSimpArgs false
set_option linter.unusedVariables false

/-! ### Delete -/
/-- what lies in memory, whatever it holds -/
def NW (a:String → Addr) (w0:World) (X p d:Nat) (fp:List Nat) (Bm:Nat) (W:World):Prop:=∃ m,MAt Bm 0 m W ∧
 ((∃ T B n t,NRow X p d T 0 none W ∧ Real a w0 (lay1 T B n) (fun _ => t) W ∧ fp = [X,T,B] ∧ X ≠ T ∧ X ≠ B) ∨ ∃ kd Y D n1 dd dp q t fd,NRow X p d (Y.T 0) kd (some ⟨D,0,none⟩) W ∧ DAt a w0 Y D n1 dd dp q false t fd W ∧ fp = X :: fd ∧ X ∉ fd)
section
variable {a:String → Addr} {w0:World} {H:Nat → Nat} {la g X p d:Nat} {F:Nat → Option Nat} {e x:Nat} {o:Bool} {fp:List Nat} {W W':World} {Bm:Nat}
theorem NW.aside {l:List Nat} (h:NW a w0 X p d fp Bm W) (hp:Past l W W') (hl:∀ b ∈ l,w0.heap.size ≤ b ∧ b ∉ fp ∧ b ≠ Bm):NW a w0 X p d fp Bm W':=by
 obtain ⟨m,hm,h⟩:=h
 refine ⟨m,hm.past hp fun e => (hl _ e).2.2 rfl, ?_⟩
 rcases h with ⟨T,B,n,t,h1,h2,h3,h4⟩ | ⟨kd,Y,D,n1,dd,dp,q,t,fd,h1,h2,h3,h4⟩
 ·refine .inl ⟨T,B,n,t,h1.past hp fun e => (hl _ e).2.1 (by rw [h3]; simp),h2.past hp fun b hb => ⟨(hl b hb).1,fun e => (hl b hb).2.1 ?_⟩,h3,h4⟩
  rw [h3]
  rcases lay1_tall e with rfl | rfl <;> simp
 ·exact .inr ⟨kd,Y,D,n1,dd,dp,q,t,fd,h1.past hp (fun e => (hl _ e).2.1 (by rw [h3]; simp)),h2.aside hp (fun b hb => ⟨(hl b hb).1,fun e => (hl b hb).2.1 (by rw [h3]; exact List.mem_cons_of_mem _ e)⟩),h3,h4⟩
theorem NW.del (h:NW a w0 X p d fp Bm W) (hB0:w0.heap.size ≤ Bm) (hB:Bm ∉ fp) (key hs:Nat) (hk:key < 18446744073709551616) (hh:hs < 18446744073709551616) :
  Calls Tryz.prog 14 #[.pointer (some ⟨X,0,none⟩),.agg #[.pointer (some ⟨Bm,0,none⟩)],.int .u64 (key:Nat),.int .u64 (hs:Nat)] W fun e w' => Past (Bm :: fp) W w' ∧ ∃ v,e = .returned v ∧ NW a w0 X p d fp Bm w':=by
 obtain ⟨m,hm,h⟩:=h
 rcases h with ⟨T,B,n,t,h1,h2,h3,h4⟩ | ⟨kd,Y,D,n1,dd,dp,q,t,fd,h1,h2,h3,h4⟩
 ·have hd:∀ b ∈ (Ln.pr Bm 0).d,w0.heap.size ≤ b ∧ b ∉ (lay1 T B n).tall:=fun b hb => by
   obtain rfl:b = Bm:=by simpa [Ln.d] using hb
   refine ⟨hB0,fun e => hB ?_⟩
   rw [h3]
   rcases lay1_tall e with rfl | rfl <;> simp
  have hR:=h2.rdL (i:=0) (L:=.pr Bm 0) (m:=m) Nat.one_pos hm hd
  refine (ndel_off h1 hR key hs hk hh).mono fun e w' ⟨he,hs'⟩ => ⟨hs'.ln.past.mono fun b hb => ?_,_,he,_,hs'.ln.at',.inl ⟨T,B,n,t.remove key hs,h1.past hs'.ln.past fun e => ?_,re1 (h2.tlL (i:=0) (L:=.pr Bm 0) Nat.one_pos hd hs' (hR.ok.remove) (remove_n ..)) (by rw [up_same]),h3,h4⟩⟩
  ·rw [h3]
   simp only [Ln.d,List.mem_append,List.mem_cons,List.not_mem_nil,or_false] at hb ⊢
   rcases hb with (h | h) | h
   ·exact .inr (.inr (.inl h))
   ·exact .inr (.inr (.inr h))
   ·exact .inl h
  ·simp only [Ln.d,List.mem_append,List.mem_cons,List.not_mem_nil,or_false] at e
   rcases e with (e | e) | e
   ·exact h4.1 e
   ·exact h4.2 e
   ·exact hB (by rw [h3,← e]; simp)
 ·have hd:∀ b ∈ (Ln.pr Bm 0).d,w0.heap.size ≤ b ∧ b ∉ fd:=fun b hb => by
   obtain rfl:b = Bm:=by simpa [Ln.d] using hb
   exact ⟨hB0,fun e => hB (by rw [h3]; exact List.mem_cons_of_mem _ e)⟩
  refine (ndel_on h1 h2 (L:=.pr Bm 0) hm hd key hs hk hh).mono fun e w' ⟨he,hD,hs'⟩ => ⟨hs'.past.mono fun b hb => ?_,_,he,_,hs'.at',.inr ⟨kd,Y,D,n1,dd,dp,q,_,fd,h1.past hs'.past fun e => ?_,hD,h3,h4⟩⟩
  ·rw [h3]
   rcases List.mem_append.1 hb with hb | hb
   ·exact List.mem_cons_of_mem _ (List.mem_cons_of_mem _ (h2.tin b hb))
   ·obtain rfl:b = Bm:=by simpa [Ln.d] using hb
    exact List.mem_cons_self
  ·rcases List.mem_append.1 e with e | e
   ·exact h4 (h2.tin _ e)
   ·obtain rfl:X = Bm:=by simpa [Ln.d] using e
    exact hB (by rw [h3]; simp)
theorem NW.bel (h:NW a w0 X p d fp Bm W):Below w0.heap.size w0 W:=by
 obtain ⟨m,_,h⟩:=h
 rcases h with ⟨T,B,n,t,_,h2,_⟩ | ⟨kd,Y,D,n1,dd,dp,q,t,fd,_,h2,_⟩
 ·exact h2.bel
 ·exact h2.re.bel
theorem NF.weak (h:NF a w0 H la g X p d F e x o fp W) (hm:GM Bm W):NW a w0 X p d fp Bm W:=by
 obtain ⟨m,hm,_⟩:=hm
 refine ⟨m,hm, ?_⟩
 rcases h.st with ⟨T,B,n,t,i⟩ | ⟨kd,Y,D,n1,dd,dp,q,c,t,fd,i⟩
 ·exact .inl ⟨T,B,n,t,i.row,i.re,i.fp,i.nX⟩
 ·exact .inr ⟨kd,Y,D,n1,dd,dp,q,t,fd,i.row,i.dm.da,i.fp,i.nX⟩
/-- how it goes on, call by call -/
def GN (Z0 Z1 Zw:World → Prop):Nat → World → Prop
 | 0,W => Z0 W
 | 1,W => Z1 W
 | _ + 2,W => Zw W
/-- Delete of one key, called however often -/
theorem NF.delete (h : NF a w0 H la g X p d F 1 8 true fp W) (hm : GM Bm W) (hB0 : w0.heap.size ≤ Bm) (hB : Bm ∉ fp) {key : Nat} (hk : key < la) :
    ∃ (ek ev eh : Nat) (G : Nat → World → Prop), (∀ u, F key = some u → ev = u) ∧ G 0 W ∧ XG W (Bm :: fp) G ∧ (∀ n W1, G n W1 → Below w0.heap.size w0 W1) ∧
      (∀ n W1, G n W1 → Calls Tryz.prog 14 #[.pointer (some ⟨X, 0, none⟩), .agg #[.pointer (some ⟨Bm, 0, none⟩)], .int .u64 (key : Nat), .int .u64 (H key : Nat)] W1 fun e w' => Past (Bm :: fp) W1 w' ∧ ∃ v, e = .returned v ∧ (n = 0 → v = .tuple #[group.entV ek ev eh, .bool (F key).isSome]) ∧ G (n + 1) w') ∧
      ∀ W1, G 1 W1 → NF a w0 H la g X p d (table.set F key none) 0 0 true fp W1 ∧ GM Bm W1 := by
  have hla := h.hla
  have hHk := h.hH key hk
  have hwi := wi_set h.hwi (key := key) (v := none) fun e => by cases e
  -- G from what holds at first, and behind one call
  have mk : ∀ (Z0 : World → Prop) (ek ev eh : Nat), (∀ u, F key = some u → ev = u) → Z0 W → (∀ W1, Z0 W1 → NF a w0 H la g X p d F 1 8 true fp W1 ∧ GM Bm W1) → (∀ l W1 W2, Z0 W1 → Past l W1 W2 → (∀ b ∈ l, w0.heap.size ≤ b ∧ b ∉ fp ∧ b ≠ Bm) → Z0 W2) →
      (∀ W1, Z0 W1 → Calls Tryz.prog 14 #[.pointer (some ⟨X, 0, none⟩), .agg #[.pointer (some ⟨Bm, 0, none⟩)], .int .u64 (key : Nat), .int .u64 (H key : Nat)] W1 fun e w' => Past (Bm :: fp) W1 w' ∧ e = .returned (.tuple #[group.entV ek ev eh, .bool (F key).isSome]) ∧ NF a w0 H la g X p d (table.set F key none) 0 0 true fp w' ∧ GM Bm w') →
      ∃ (ek ev eh : Nat) (G : Nat → World → Prop), (∀ u, F key = some u → ev = u) ∧ G 0 W ∧ XG W (Bm :: fp) G ∧ (∀ n W1, G n W1 → Below w0.heap.size w0 W1) ∧
      (∀ n W1, G n W1 → Calls Tryz.prog 14 #[.pointer (some ⟨X, 0, none⟩), .agg #[.pointer (some ⟨Bm, 0, none⟩)], .int .u64 (key : Nat), .int .u64 (H key : Nat)] W1 fun e w' => Past (Bm :: fp) W1 w' ∧ ∃ v, e = .returned v ∧ (n = 0 → v = .tuple #[group.entV ek ev eh, .bool (F key).isSome]) ∧ G (n + 1) w') ∧
      ∀ W1, G 1 W1 → NF a w0 H la g X p d (table.set F key none) 0 0 true fp W1 ∧ GM Bm W1 := fun Z0 ek ev eh hev hZ hZN hZa hZc => by
    refine ⟨ek, ev, eh, GN Z0 (fun W1 => NF a w0 H la g X p d (table.set F key none) 0 0 true fp W1 ∧ GM Bm W1) (NW a w0 X p d fp Bm), hev, hZ, ⟨fun b hb => ?_, fun n W1 W2 hg hb => ?_, fun n W1 b i u hg hb => ?_⟩, fun n W1 hg => (match n, hg with
      | 0, hg => (hZN W1 hg).1.bel
      | 1, hg => NF.bel hg.1
      | n + 2, hg => NW.bel hg), fun n W1 hg => ?_, fun W1 hg => hg⟩
    · rcases List.mem_cons.1 hb with rfl | hb
      · exact hm.lt
      · exact h.lts b hb
    · match n, hg with
      | 0, hg => exact hZa [] _ _ hg (Past.of hb) fun b hb => by cases hb
      | 1, hg => exact ⟨NF.read hg.1 hb, hg.2.read hb⟩
      | n + 2, hg => exact NW.aside hg (Past.of (d := []) hb) fun b hb => by cases hb
    · have hof := h.off hb
      have hne : b ≠ Bm := fun e => by have := hm.lt; omega
      have hl : ∀ x ∈ [b], w0.heap.size ≤ x ∧ x ∉ fp ∧ x ≠ Bm := fun x hx => by
        obtain rfl : x = b := by simpa using hx
        exact ⟨hof.1, hof.2, hne⟩
      match n, hg with
      | 0, hg => exact hZa [b] _ _ hg set_one hl
      | 1, hg => exact ⟨NF.aside hg.1 set_one fun x hx => ⟨(hl x hx).1, (hl x hx).2.1⟩, hg.2.past set_one fun e => (hl _ e).2.2 rfl⟩
      | n + 2, hg => exact NW.aside hg set_one hl
    · match n, hg with
      | 0, hg => exact (hZc W1 hg).mono fun e w' ⟨h1, h2, h3⟩ => ⟨h1, _, h2, fun _ => rfl, h3⟩
      | 1, hg => exact ((NF.weak hg.1 hg.2).del hB0 hB key (H key) (by omega) hHk).mono fun e w' ⟨h1, v, h2, h3⟩ => ⟨h1, v, h2, fun e => (by cases e), h3⟩
      | n + 2, hg => exact (NW.del hg hB0 hB key (H key) (by omega) hHk).mono fun e w' ⟨h1, v, h2, h3⟩ => ⟨h1, v, h2, fun e => (by cases e), h3⟩
  rcases h.st with ⟨T, B, n, t, i⟩ | ⟨kd, Y, D, n1, dd, dp, q, c, t, fd, i⟩
  · have hfp := i.fp
    have hth := i.rep.rep.there key
    have rest : ∀ W1, Ni a w0 H la g X p d T B n t F 1 fp W1 → NF a w0 H la g X p d F 1 8 true fp W1 := fun W1 j => ⟨h.hla, h.hH, h.hX, h.hp, h.hdg, h.hwi, .inl ⟨T, B, n, t, j⟩⟩
    refine mk (fun W1 => Ni a w0 H la g X p d T B n t F 1 fp W1 ∧ GM Bm W1) (entOf t key (H key)).key (entOf t key (H key)).val (entOf t key (H key)).hash (fun u hu => by rw [i.rep.rep.ent hu]) ⟨i, hm⟩ (fun W1 j => ⟨rest W1 j.1, j.2⟩) (fun l W1 W2 j hp hl => ?_) (fun W1 j => ?_)
    · have j1 := j.1
      refine ⟨⟨j1.row.past hp fun e => (hl _ e).2.1 h.xin, j1.re.past hp fun b hb => ⟨(hl b hb).1, fun e => (hl b hb).2.1 ?_⟩, j1.rep, j1.id, j1.fp, j1.nX⟩, j.2.past hp fun e => (hl _ e).2.2 rfl⟩
      rw [hfp]
      rcases lay1_tall e with rfl | rfl <;> simp
    · obtain ⟨j, m, hmm, hok, hon⟩ := j
      have hd : ∀ b ∈ (Ln.pr Bm 0).d, w0.heap.size ≤ b ∧ b ∉ (lay1 T B n).tall := fun b hb => by
        obtain rfl : b = Bm := by simpa [Ln.d] using hb
        refine ⟨hB0, fun e => hB ?_⟩
        rw [hfp]
        rcases lay1_tall e with rfl | rfl <;> simp
      have hR := j.re.rdL (i := 0) (L := .pr Bm 0) (m := m) Nat.one_pos hmm hd
      refine (ndel_off j.row hR key (H key) (by omega) hHk).mono fun e w' ⟨he, hs'⟩ => ⟨hs'.ln.past.mono fun b hb => ?_, by rw [he, hth], ⟨h.hla, h.hH, h.hX, h.hp, h.hdg, hwi, .inl ⟨T, B, n, t.remove key (H key), j.row.past hs'.ln.past fun e => ?_, re1 (j.re.tlL (i := 0) (L := .pr Bm 0) Nat.one_pos hd hs' (hR.ok.remove) (remove_n ..)) (by rw [up_same]), i.rep.remove hk, j.id.same (remove_cnt _ _ _), i.fp, i.nX⟩⟩, ⟨_, hs'.ln.at', see_pr_ok Bm 0 m hok hon _⟩⟩
      · rw [hfp]
        simp only [Ln.d, List.mem_append, List.mem_cons, List.not_mem_nil, or_false] at hb ⊢
        rcases hb with (h | h) | h
        · exact .inr (.inr (.inl h))
        · exact .inr (.inr (.inr h))
        · exact .inl h
      · simp only [Ln.d, List.mem_append, List.mem_cons, List.not_mem_nil, or_false] at e
        rcases e with (e | e) | e
        · exact i.nX.1 e
        · exact i.nX.2 e
        · exact hB (by rw [hfp, ← e]; simp)
  · have hfp := i.fp
    obtain ⟨M, hs⟩ := i.dm.du
    obtain ⟨s1, s2⟩ := hs.seekV (rd := rdy Y n1 q) i.dm.da.N i.dm.tn key
    have rest : ∀ W1, Nb a w0 H la g X p d kd Y D n1 dd dp q c t F 8 true fp fd W1 → NF a w0 H la g X p d F 1 8 true fp W1 := fun W1 j => ⟨h.hla, h.hH, h.hX, h.hp, h.hdg, h.hwi, .inr ⟨kd, Y, D, n1, dd, dp, q, c, t, fd, j⟩⟩
    refine mk (fun W1 => Nb a w0 H la g X p d kd Y D n1 dd dp q c t F 8 true fp fd W1 ∧ GM Bm W1) (fndE t key (H key) (js (rdy Y n1 q) Y.N dd (H key))).key (fndE t key (H key) (js (rdy Y n1 q) Y.N dd (H key))).val (fndE t key (H key) (js (rdy Y n1 q) Y.N dd (H key))).hash s2 ⟨i, hm⟩ (fun W1 j => ⟨rest W1 j.1, j.2⟩) (fun l W1 W2 j hp hl => ?_) (fun W1 j => ?_)
    · have j1 := j.1
      exact ⟨⟨j1.row.past hp fun e => (hl _ e).2.1 h.xin, j1.dm.aside hp fun b hb => ⟨(hl b hb).1, fun e => (hl b hb).2.1 (by rw [hfp]; exact List.mem_cons_of_mem _ e)⟩, j1.bs, j1.dd, j1.fp, j1.nX⟩, j.2.past hp fun e => (hl _ e).2.2 rfl⟩
    · obtain ⟨j, m, hmm, hok, hon⟩ := j
      obtain ⟨B, hbs⟩ := j.bs
      have hd : ∀ b ∈ (Ln.pr Bm 0).d, w0.heap.size ≤ b ∧ b ∉ fd := fun b hb => by
        obtain rfl : b = Bm := by simpa [Ln.d] using hb
        exact ⟨hB0, fun e => hB (by rw [hfp]; exact List.mem_cons_of_mem _ e)⟩
      obtain ⟨hM, hT⟩ := hs.ddel i.dm.da.N i.dm.tn hk
      refine (ndel_on j.row j.dm.da (L := .pr Bm 0) hmm hd key (H key) (by omega) hHk).mono fun e w' ⟨he, hD, hs'⟩ => ⟨hs'.past.mono fun b hb => ?_, by rw [he, s1], ⟨h.hla, h.hH, h.hX, h.hp, h.hdg, hwi, .inr ⟨kd, Y, D, n1, dd, dp, q, c, _, fd, j.row.past hs'.past fun e => ?_, ⟨hD, hM, hT, fun e => off_eT (j.dm.off e)⟩, ⟨B, hbs.same fun e => ?_⟩, i.dd, i.fp, i.nX⟩⟩, ⟨_, hs'.at', see_pr_ok Bm 0 m hok hon _⟩⟩
      · rw [hfp]
        rcases List.mem_append.1 hb with hb | hb
        · exact List.mem_cons_of_mem _ (List.mem_cons_of_mem _ (j.dm.da.tin b hb))
        · obtain rfl : b = Bm := by simpa [Ln.d] using hb
          exact List.mem_cons_self
      · rcases List.mem_append.1 e with e | e
        · exact i.nX (j.dm.da.tin _ e)
        · obtain rfl : X = Bm := by simpa [Ln.d] using e
          exact hB h.xin
      · rw [e]; exact eT_cnt
/-! ### Wants, Start -/
/-- behind Wants: either it wants none, and rests; or it may begin the job -/
def WS (a:String → Addr) (w0:World) (H:Nat → Nat) (la g X p d:Nat) (F:Nat → Option Nat) (fp:List Nat) (kd:Int) (W:World):Prop:=
 (kd = 0 ∧ NF a w0 H la g X p d F 1 0 true fp W) ∨ (kd ≠ 0 ∧ ∃ T B n t N n1 C,Ni a w0 H la g X p d T B n t F 0 fp W ∧ Jb n d g N n1 C ∧ t.len ≤ (C:Nat) ∧ choose.ge kd n = (n1:Nat) ∧ choose.gx kd n = 0 ∧ (kd = 3 ↔ N = 3))
theorem okN_lt {T B n:Nat} {t:Tb} {e':Nat} (i:Ni a w0 H la g X p d T B n t F e' fp W):t.n = n ∧ t.Ok ∧ t.len ≤ la ∧ 0 ≤ t.len ∧ 0 ≤ t.tombs:=by
 have hok:t.Ok:=i.re.ok 0 Nat.one_pos
 have hb:=hok.bounds
 have:=cntM_le la F
 exact ⟨i.re.tn 0 Nat.one_pos,hok,by rw [i.rep.len]; omega,hb.1,hb.2.2.1⟩
theorem wants_math {n d g:Nat} {l tb:Int} (hI:Idl n d g 0 (l + tb)) (hl0:0 ≤ l) (ht0:0 ≤ tb) (hla:l ≤ 100) :
  (choose.wh l tb n d g = 0 ∧ l + tb < 4 * (n:Int)) ∨ (choose.wh l tb n d g ≠ 0 ∧ ∃ N n1 C,Jb n d g N n1 C ∧ l ≤ (C:Nat) ∧ choose.ge (choose.wh l tb n d g) n = (n1:Nat) ∧ choose.gx (choose.wh l tb n d g) n = 0 ∧ (choose.wh l tb n d g = 3 ↔ N = 3)):=by
 have hrt:=choose.rt_of n hI.ok
 have hR:=hI.bd
 have hg5:=hI.g5
 have hdg:=hI.dg
 have hC:l ≤ (R n d:Nat):=by omega
 cases hnd:choose.nd l tb n d g with
 | false =>
  refine .inl ⟨choose.wh_none hnd, ?_⟩
  unfold choose.nd at hnd
  rw [hrt] at hnd
  simp only [Bool.and_true,Bool.and_eq_false_iff,decide_eq_false_iff_not] at hnd
  omega
 | true =>
  right
  by_cases h1:l ≤ 2 * (n:Int)
  ·rw [choose.wh_few hnd h1]
   have hx:choose.gx 1 n = 0:=by unfold choose.gx; rw [if_pos (by decide),if_pos ⟨hrt,by omega⟩]
   have he:choose.ge 1 n = (n:Nat):=by unfold choose.ge; rw [if_pos ⟨by decide,hrt,by omega⟩]; rfl
   exact ⟨by decide,2,n,2 * n,.sweep,by omega,he,hx,by decide⟩
  ·by_cases h2:8 ≤ n ∧ d < g
   ·rw [choose.wh_split hnd (by omega) (by omega) (by omega)]
    have hx:choose.gx 3 n = 0:=by unfold choose.gx; rw [if_pos (by decide),if_pos ⟨hrt,by omega⟩]
    have he:choose.ge 3 n = (n:Nat):=by unfold choose.ge; rw [if_pos ⟨by decide,hrt,by omega⟩]; rfl
    have h8:n = 8:=by
     have:=hI.gn
     rcases okN_cases hI.ok with h | h | h | h | h | h | h <;> omega
    exact ⟨by decide,3,n,R n d,.split h8 h2.2,hC,he,hx,by decide⟩
   ·by_cases h3:n < 64
    ·rw [choose.wh_grow hnd (by omega) (by omega) (by omega)]
     have hx:choose.gx 2 n = 0:=by unfold choose.gx; rw [if_pos (by decide),if_pos ⟨hrt,by omega⟩]
     have he:choose.ge 2 n = ((2 * n:Nat):Int):=by unfold choose.ge; rw [if_pos ⟨by decide,hrt,by omega⟩,if_pos rfl]; omega
     exact ⟨by decide,2,2 * n,R n d,.grow h3 (fun e => by omega),hC,he,hx,by decide⟩
    ·exfalso
     omega
theorem NF.wants (h:NF a w0 H la g X p d F 0 0 true fp W) :
  Calls Tryz.prog 32 #[.pointer (some ⟨X,0,none⟩),.int .i64 (g:Nat)] W fun e w' => ∃ kd b,e = .returned (.tuple #[.int .i64 kd,.bool b]) ∧ WS a w0 H la g X p d F fp kd w' ∧ Below W.heap.size W w':=by
 rcases h.st with ⟨T,B,n,t,i⟩ | ⟨kd,Y,D,n1,dd,dp,q,c,t,fd,i⟩
 ·obtain ⟨hn,hok,hl,hl0,ht0⟩:=okN_lt i
  have hla:=h.hla
  have hT:TAt T B t W:=i.re.at' 0 Nat.one_pos
  refine (wants_off i.row hT hok g).mono fun e w' ⟨he,hb⟩ => ⟨_,_,he, ?_,hb⟩
  have hi':Ni a w0 H la g X p d T B n t F 0 fp w':=⟨i.row.keep hb,i.re.read hb,i.rep,i.id,i.fp,i.nX⟩
  rw [hn]
  rcases wants_math i.id hl0 ht0 (by omega) with ⟨h1,h2⟩ | ⟨h1,N,n1,C,h2⟩
  ·exact .inl ⟨h1,h.hla,h.hH,h.hX,h.hp,h.hdg,h.hwi,.inl ⟨T,B,n,t,hi'.row,hi'.re,i.rep,i.id.rest h2,i.fp,i.nX⟩⟩
  ·exact .inr ⟨h1,T,B,n,t,N,n1,C,hi',h2⟩
 ·refine (wants_on i.row g).mono fun e w' ⟨he,hw⟩ => ⟨_,_,he,.inl ⟨rfl,h.hla,h.hH,h.hX,h.hp,h.hdg,h.hwi, ?_⟩,by rw [hw]; exact Below.refl _ _⟩
  subst hw
  exact .inr ⟨kd,Y,D,n1,dd,dp,q,c,t,fd,i⟩
theorem NF.start {kd:Int} (h:NF a w0 H la g X p d F 0 0 true fp W) (hs:WS a w0 H la g X p d F fp kd W') (hk:kd ≠ 0) (hKR:choose.KR a w0) (hFr:choose.FreshOk w0) :
  Calls Tryz.prog 22 #[.pointer (some ⟨X,0,none⟩),.int .i64 kd] W' fun e w' => e = .returned .nilIface ∧ ∃ fp',NF a w0 H la g X p d F 1 0 true fp' w' ∧ Past fp W' w' ∧ ∀ b ∈ fp',b ∈ fp ∨ W'.heap.size ≤ b:=by
 rcases hs with ⟨h1,_⟩ | ⟨_,T,B,n,t,N,n1,C,i,hj,hlC,hge,hgx,h3⟩
 ·exact absurd h1 hk
 ·obtain ⟨hn,hok,hl,hl0,ht0⟩:=okN_lt i
  have hla:=h.hla
  have hT:TAt T B t W':=i.re.at' 0 Nat.one_pos
  have hbel:=i.re.bel
  have hN:=hj.NN
  have o1:=hj.o1 i.id.ok
  have hd5:d ≤ 5:=by have:=h.hdg; omega
  have hfp:=i.fp
  have hd3:kd = 3 → d ≠ 5:=fun e e5 => by
   have e3:=h3.1 e
   subst e3
   cases hj with
   | split _ hlt => have:=h.hdg; omega
  have hXl:=i.row.lt
  refine (start_yes (R:=fun D w1 => ∃ (Y:Lay) (fd:List Nat),Y.N = N ∧ Y.T 0 = T ∧ Y.B 0 = B ∧ Y.n 0 = n ∧ DAt a w0 Y D n1 d (if kd = 3 then (d:Int) else -1) 0 false (kT t n1) fd w1 ∧ (∀ b ∈ fd,b = T ∨ b = B ∨ W'.heap.size ≤ b)) i.row hT (hKR.below hbel) (hFr.below hbel) kd (by rw [hn]; exact hgx) hd3 (fun W1 hb1 => ?_)).mono fun e w' ⟨he,D,w1,⟨Y,fd,y1,y2,y3,y4,hD,hfd⟩,hb1,hw⟩ => ⟨he,X :: fd, ?_⟩
  ·rw [hn,hge]
   have hnb:((if kd = 3 then (d:Int) else -1) < 0 ∧ N - 1 = 1) ∨ ((if kd = 3 then (d:Int) else -1) = d ∧ N - 1 = 2):=by
    by_cases e:kd = 3
    ·rw [if_pos e]; have:=h3.1 e; exact .inr ⟨rfl,by omega⟩
    ·rw [if_neg e]
     have : N ≠ 3:=fun e' => e (h3.2 e')
     exact .inl ⟨by decide,by omega⟩
   refine (dual.new_yes a w0 W1 T B n n1 d (N - 1) _ (kT t n1) (re1 (i.re.read hb1) rfl) i.id.ok o1 (by omega) (by split <;> omega) hnb (fun j hj => kT_far hj)).mono fun e w2 ⟨Y,D,fd,he,y1,y2,y3,y4,hD,hb2,hfd,_⟩ => ⟨D,he,⟨Y,fd,by omega,y2,y3,y4,hD,fun b hb => ?_⟩,hb2⟩
   have:=hb1.size
   rcases hfd b hb with h | h | h
   ·exact .inl h
   ·exact .inr (.inl h)
   ·exact .inr (.inr (by omega))
  ·have hnX:X ∉ fd:=fun e => by
    rcases hfd X e with h | h | h
    ·exact i.nX.1 h
    ·exact i.nX.2 h
    ·omega
   have hp:Past [X] w1 w':=by
    rw [hw]
    exact ((Past.refl [X] w1).store (.inl (by simp)) _).store (.inl (by simp)) _
   have hrow:NRow X p d (Y.T 0) kd (some ⟨D,0,none⟩) w':=by
    rw [hw,y2]
    exact ((i.row.keep hb1).set3 kd).set4 _
   have hD':DAt a w0 Y D n1 d (if kd = 3 then (d:Int) else -1) 0 false (kT t n1) fd w':=hD.aside hp fun b hb => (by
    obtain rfl:b = X:=by simpa using hb
    exact ⟨h.hX,hnX⟩)
   have hDM:DM a w0 H la Y D n1 d (if kd = 3 then (d:Int) else -1) 0 t.len.toNat (kT t n1) F fd w':=DM.start hD' (okN_pos o1 |> Nat.pos_iff_ne_zero.1) i.rep (fun j hj => kT_far hj) (by show t.len ≤ _; omega)
   have hr0:rdy Y n1 0 = false:=rdy_no (Nat.mul_pos (by omega) (okN_pos o1))
   refine ⟨⟨h.hla,h.hH,h.hX,h.hp,h.hdg,h.hwi,.inr ⟨kd,Y,D,n1,d,_,0,t.len.toNat,kT t n1,fd,hrow,hDM,⟨C, ?_⟩,fun _ => rfl,rfl,hnX⟩⟩,(Past.of hb1).trans (hp.mono fun b hb => ?_),fun b hb => ?_⟩
   ·rw [hr0,y1,y4]
    exact i.id.start hj hlC hl0
   ·obtain rfl:b = X:=by simpa using hb
    rw [hfp]; simp
   ·rw [hfp]
    rcases List.mem_cons.1 hb with rfl | hb
    ·exact .inl (by simp)
    ·rcases hfd b hb with rfl | rfl | h
     ·exact .inl (by simp)
     ·exact .inl (by simp)
     ·exact .inr h
/-! ### Step -/
theorem NF.step (h:NF a w0 H la g X p d F 1 x o fp W) (hm:GM Bm W) (hB0:w0.heap.size ≤ Bm) (hB:Bm ∉ fp) :
  Calls Tryz.prog 29 #[.pointer (some ⟨X,0,none⟩),.pointer (some ⟨Bm,0,none⟩)] W fun e w' => ∃ b,e = .returned (.bool b) ∧ ∃ fp',NF a w0 H la g X p d F 1 (x + 1) false fp' w' ∧ GM Bm w' ∧ Past (Bm :: fp) W w' ∧ ∀ b ∈ fp',b ∈ fp ∨ W.heap.size ≤ b:=by
 rcases h.st with ⟨T,B,n,t,i⟩ | ⟨kd,Y,D,n1,dd,dp,q,c,t,fd,i⟩
 ·refine (step_off i.row _).mono fun e w' ⟨he,hw⟩ => ⟨false,he,fp, ?_⟩
  subst hw
  exact ⟨⟨h.hla,h.hH,h.hX,h.hp,h.hdg,h.hwi,.inl ⟨T,B,n,t,i⟩⟩,hm,Past.refl _ _,fun b hb => .inl hb⟩
 ·have hfp:=i.fp
  obtain ⟨C,hbs⟩:=i.bs
  obtain ⟨M,hs⟩:=i.dm.du
  have hN:=i.dm.da.N
  have hroom:=hbs.room
  have hla:=h.hla
  by_cases hq:q < Y.n 0 + (Y.N - 1) * n1
  ·obtain ⟨m,hmm,hok,hon⟩:=hm
   have hBd:Bm ∉ fd:=fun e => hB (by rw [hfp]; exact List.mem_cons_of_mem _ e)
   have key:sG (rdy Y n1 q) Y.N dd (q - (Y.N - 1) * n1) t = true ∧ (∃ M',Du H la Y.N dd F (sT (rdy Y n1 q) Y.N dd (q - (Y.N - 1) * n1) t) M' c) ∧ (rdy Y n1 (q + 1) = false → ∀ j,1 ≤ j → sT (rdy Y n1 q) Y.N dd (q - (Y.N - 1) * n1) t j = Tb.new n1):=by
    cases hr:rdy Y n1 q with
    | false => exact ⟨rfl,⟨M,hs⟩,fun _ => i.dm.tn hr⟩
    | true =>
     have hnx:q - (Y.N - 1) * n1 < (t 0).n:=by
      have:=i.dm.da.re.tn 0 (cut_pos hN _)
      have e:(cut Y (rdy Y n1 q)).n 0 = Y.n 0:=rfl
      rw [this,e]
      have : (Y.N - 1) * n1 ≤ q:=of_decide_eq_true hr
      omega
     obtain ⟨g',hM⟩:=hs.step hN (by omega) h.hH (fun j h1 hj => by rw [i.dm.rn hr h1 hj]; omega) hnx
     refine ⟨g',hM,fun e => ?_⟩
     have h1:(Y.N - 1) * n1 ≤ q:=of_decide_eq_true hr
     have h2:¬ (Y.N - 1) * n1 ≤ q + 1:=of_decide_eq_false e
     omega
   have key3:rdy Y n1 (q + 1) = true → Off (sT (rdy Y n1 q) Y.N dd (q - (Y.N - 1) * n1) t 0) (q + 1 - (Y.N - 1) * n1):=fun e => by
    cases hr:rdy Y n1 q with
    | false =>
     have h1:(Y.N - 1) * n1 ≤ q + 1:=of_decide_eq_true e
     have h2:¬ (Y.N - 1) * n1 ≤ q:=of_decide_eq_false hr
     rw [show q + 1 - (Y.N - 1) * n1 = 0 by omega]
     exact fun g hg => absurd hg (Nat.not_lt_zero g)
    | true =>
     have h1:(Y.N - 1) * n1 ≤ q:=of_decide_eq_true hr
     rw [show q + 1 - (Y.N - 1) * n1 = q - (Y.N - 1) * n1 + 1 by omega]
     rw [sT_yes]
     exact Off.next (i.dm.off hr)
   have hst:=i.dm.da.step_on hq hmm hok (unitE_no m hon) hB0 hBd
   refine step_on i.row (hst.mono fun e w' r => ?_)
   rcases r with ⟨_,he,fd',hD,hm',hp',hf⟩ | ⟨hg,_⟩
   ·have hu:=unit_ok m hok hon
    have hv:=see_vi_ok ((m.unit 1).visits 1) (hu.1.visits 1) hu.2 (sK (rdy Y n1 q) Y.N dd (q - (Y.N - 1) * n1) t)
    have hnX:X ∉ Bm :: fd:=fun e => by
     rcases List.mem_cons.1 e with e | e
     ·exact hB (e ▸ h.xin)
     ·exact i.nX e
    refine ⟨true,he,X :: fd',⟨h.hla,h.hH,h.hX,h.hp,h.hdg,h.hwi,.inr ⟨kd,Y,D,n1,dd,dp,q + 1,c,_,fd',i.row.past hp' hnX,⟨hD,key.2.1,key.2.2,key3⟩,⟨C,hbs.step hq fun e => ?_⟩,i.dd,rfl,fun e => ?_⟩⟩,⟨_,hm',hv⟩,hp'.mono fun b hb => ?_,fun b hb => ?_⟩
    ·have h2:¬ (Y.N - 1) * n1 ≤ q + 1:=of_decide_eq_false e
     have hr:rdy Y n1 q = false:=rdy_no (by omega)
     refine ⟨hr, ?_⟩
     rw [hr]
     exact Int.le_refl _
    ·rcases hf X e with e | e
     ·exact i.nX e
     ·have:=i.row.lt; omega
    ·rw [hfp]
     rcases List.mem_cons.1 hb with rfl | hb
     ·exact List.mem_cons_self
     ·exact List.mem_cons_of_mem _ (List.mem_cons_of_mem _ hb)
    ·rw [hfp]
     rcases List.mem_cons.1 hb with rfl | hb
     ·exact .inl List.mem_cons_self
     ·rcases hf b hb with h | h
      ·exact .inl (List.mem_cons_of_mem _ h)
      ·exact .inr h
   ·rw [key.1] at hg; cases hg
  ·have hq':q = Y.n 0 + (Y.N - 1) * n1:=by have:=i.dm.da.le; omega
   refine step_on (R:=fun b w' => ∃ fp',NF a w0 H la g X p d F 1 (x + 1) false fp' w' ∧ GM Bm w' ∧ Past (Bm :: fp) W w' ∧ ∀ b ∈ fp',b ∈ fp ∨ W.heap.size ≤ b) i.row ((i.dm.da.step_off hq' _).mono fun e w' ⟨he,hb⟩ => ⟨false,he,fp,⟨h.hla,h.hH,h.hX,h.hp,h.hdg,h.hwi,.inr ⟨kd,Y,D,n1,dd,dp,q,c,t,fd,i.row.keep hb,i.dm.read hb,⟨C,hbs.stop hq' (rdy_yes (by omega))⟩,i.dd,i.fp,i.nX⟩⟩,hm.read hb,Past.of hb,fun b hb => .inl hb⟩)
/-! ### Done, End -/
theorem NF.fin (h : NF a w0 H la g X p d F 1 8 false fp W) (hp5 : p ≤ 65536) :
    ∃ dn : Bool, Calls Tryz.prog 33 #[.pointer (some ⟨X, 0, none⟩)] W (fun e w' => e = .returned (.bool dn) ∧ Below W.heap.size W w') ∧
      (dn = false → NF a w0 H la g X p d F 1 8 true fp W) ∧
      (dn = true → ∀ W1, Below W.heap.size W W1 → Calls Tryz.prog 24 #[.pointer (some ⟨X, 0, none⟩)] W1 fun e w' =>
        (e = .returned (.tuple #[.pointer none, .nilIface]) ∧ ∃ fp', NF a w0 H la g X p d F 1 8 true fp' w' ∧ Past fp W1 w' ∧ ∀ b ∈ fp', b ∈ fp) ∨
        (d + 1 ≤ g ∧ ∃ X' F1 F2 f1 f2, e = .returned (.tuple #[.pointer (some ⟨X', 0, none⟩), .nilIface]) ∧ NF a w0 H la g X (2 * p) (d + 1) F1 1 8 true f1 w' ∧ NF a w0 H la g X' (2 * p + 1) (d + 1) F2 1 8 true f2 w' ∧ Past fp W1 w' ∧ (∀ b ∈ f1, b ∈ fp) ∧ (∀ b ∈ f2, b ∈ fp ∨ W1.heap.size ≤ b) ∧ (∀ b ∈ f1, b ∉ f2) ∧ (∀ key, wi (H key) (2 * p) (d + 1) → F1 key = F key) ∧ (∀ key, wi (H key) (2 * p + 1) (d + 1) → F2 key = F key))) := by
  rcases h.st with ⟨T, B, n, t, i⟩ | ⟨kd, Y, D, n1, dd, dp, q, c, t, fd, i⟩
  · exact ⟨false, (done_off i.row).mono fun e w' ⟨he, hw⟩ => ⟨he, by rw [hw]; exact Below.refl _ _⟩, fun _ => ⟨h.hla, h.hH, h.hX, h.hp, h.hdg, h.hwi, .inl ⟨T, B, n, t, i⟩⟩, fun e => by cases e⟩
  · obtain ⟨C, hbs⟩ := i.bs
    have hfp := i.fp
    have hN := i.dm.da.N
    by_cases hq : q < Y.n 0 + (Y.N - 1) * n1
    · exact ⟨false, DAt.done_no i.dm.da hq i.row, fun _ => ⟨h.hla, h.hH, h.hX, h.hp, h.hdg, h.hwi, .inr ⟨kd, Y, D, n1, dd, dp, q, c, t, fd, i.row, i.dm, ⟨C, hbs.opn hq⟩, i.dd, i.fp, i.nX⟩⟩, fun e => by cases e⟩
    · have hq' : q = Y.n 0 + (Y.N - 1) * n1 := by have := i.dm.da.le; omega
      refine ⟨true, DAt.done_yes i.dm.da hq' i.row, fun e => (by cases e), fun _ W1 hb1 => ?_⟩
      obtain ⟨M, hs⟩ := i.dm.du
      have hrd : rdy Y n1 q = true := rdy_yes (by omega)
      -- the old table has none
      have hM0 : ∀ key, M 0 key = none := fun key => by
        have ho := i.dm.off hrd
        have hre := i.dm.da.re
        have e0 : (t 0).n = Y.n 0 := hre.tn 0 (cut_pos hN _)
        rw [show q - (Y.N - 1) * n1 = (t 0).n by omega] at ho
        exact ((hs.rep 0 (by omega)).rep.none_iff key).2 fun i' k hs' => ho i' hs'.1 k hs'.2.1 hs'.2.2.1
      have hF : ∀ key, F key = M (tgt Y.N dd (H key)) key := fun key => by rw [hs.un key, hM0 key]; rfl
      have hcn : ∀ j, 1 ≤ j → j < Y.N → (t j).len + (t j).tombs ≤ (c : Int) := fun j h1 hj => by
        have h2 := hs.cn j h1 hj
        have h3 := (hs.rep 0 (by omega)).len
        omega
      have hid : ∀ j, 1 ≤ j → j < Y.N → Idl n1 (if Y.N = 3 then d + 1 else d) g 1 ((t j).len + (t j).tombs) := fun j h1 hj => hbs.done (hcn j h1 hj)
      obtain ⟨Q, pl⟩ := i.dm.da.pl
      have hX1 : ∀ j, j < Y.N → X ≠ Y.T j ∧ X ≠ Y.B j := fun j hj => ⟨fun e => i.nX (e ▸ i.dm.da.tin _ (pl.tin hj).1), fun e => i.nX (e ▸ i.dm.da.tin _ (pl.tin hj).2)⟩
      rcases hN with hN | hN
      · refine (end_one (i.row.keep hb1) (i.dm.da.read hb1) hq' hN i.nX h.hX).mono fun e w' ⟨he, hr, hre, hp⟩ => .inl ⟨he, [X, Y.T 1, Y.B 1], ⟨h.hla, h.hH, h.hX, h.hp, h.hdg, h.hwi, .inl ⟨Y.T 1, Y.B 1, n1, t 1, hr, re_of hre (by omega) (pl.e1 1 (Nat.le_refl _) (by omega)), ?_, ?_, rfl, hX1 1 (by omega)⟩⟩, by rw [hfp]; exact hp, fun b hb => ?_⟩
        · have h1 := hs.rep 1 (by omega)
          have e : M 1 = F := funext fun key => by
            rw [hF key]
            have : tgt Y.N dd (H key) = 1 := by unfold tgt; rw [if_neg (by omega)]
            rw [this]
          rw [← e]; exact h1
        · have := hid 1 (Nat.le_refl _) (by omega)
          rw [if_neg (by omega)] at this
          exact this
        · rw [hfp]
          simp only [List.mem_cons, List.not_mem_nil, or_false] at hb
          rcases hb with rfl | rfl | rfl
          · exact List.mem_cons_self
          · exact List.mem_cons_of_mem _ (i.dm.da.tin _ (pl.tin (by omega)).1)
          · exact List.mem_cons_of_mem _ (i.dm.da.tin _ (pl.tin (by omega)).2)
      · have hdd : dd = d := i.dd hN
        subst hdd
        have hd5 := h.hdg
        have hi1 := hid 1 (Nat.le_refl _) (by omega)
        have hi2 := hid 2 (by decide) (by omega)
        rw [if_pos hN] at hi1 hi2
        have hdg1 := hi1.dg
        have hbs1 := hb1.size
        refine (end_two (i.row.keep hb1) (i.dm.da.read hb1) hq' hN i.nX h.hX hp5 (by omega)).mono fun e w' ⟨X', he, hX', hr1, hr2, hre, hp⟩ => .inr ⟨hdg1, X', M 1, M 2, [X, Y.T 1, Y.B 1], [X', Y.T 2, Y.B 2], he, ?_, ?_, by rw [hfp]; exact hp, fun b hb => ?_, fun b hb => ?_, fun b hb hb2 => ?_, fun key hk => ?_, fun key hk => ?_⟩
        · refine ⟨h.hla, h.hH, h.hX, by have := h.hp; rw [Nat.pow_succ]; omega, ⟨hdg1, hd5.2⟩, fun key hk => ?_, .inl ⟨Y.T 1, Y.B 1, n1, t 1, hr1, re_of hre (by omega) (pl.e1 1 (Nat.le_refl _) (by omega)), hs.rep 1 (by omega), hi1, rfl, hX1 1 (by omega)⟩⟩
          have ht := hs.tg 1 (Nat.le_refl _) (by omega) key hk
          have hFk : (F key).isSome = true := by rw [hF key, ht]; exact hk
          rw [hN] at ht
          rcases (wi_two (by omega)).1 (h.hwi key hFk) with ⟨a1, _⟩ | ⟨_, a2⟩
          · exact a1
          · omega
        · have hXo : ∀ b, b ∈ fd → b ≠ X' := fun b hb e => by have := i.dm.da.lts b hb; omega
          refine ⟨h.hla, h.hH, by have := i.dm.da.re.bel.size; omega, by have := h.hp; rw [Nat.pow_succ]; omega, ⟨hdg1, hd5.2⟩, fun key hk => ?_, .inl ⟨Y.T 2, Y.B 2, n1, t 2, hr2, re_of hre (by omega) (pl.e1 2 (by decide) (by omega)), hs.rep 2 (by omega), hi2, rfl, fun e => hXo _ (i.dm.da.tin _ (pl.tin (j := 2) (by omega)).1) e.symm, fun e => hXo _ (i.dm.da.tin _ (pl.tin (j := 2) (by omega)).2) e.symm⟩⟩
          have ht := hs.tg 2 (by decide) (by omega) key hk
          have hFk : (F key).isSome = true := by rw [hF key, ht]; exact hk
          rw [hN] at ht
          rcases (wi_two (by omega)).1 (h.hwi key hFk) with ⟨_, a1⟩ | ⟨a2, _⟩
          · omega
          · exact a2
        · rw [hfp]
          simp only [List.mem_cons, List.not_mem_nil, or_false] at hb
          rcases hb with rfl | rfl | rfl
          · exact List.mem_cons_self
          · exact List.mem_cons_of_mem _ (i.dm.da.tin _ (pl.tin (by omega)).1)
          · exact List.mem_cons_of_mem _ (i.dm.da.tin _ (pl.tin (by omega)).2)
        · rw [hfp]
          simp only [List.mem_cons, List.not_mem_nil, or_false] at hb
          rcases hb with rfl | rfl | rfl
          · exact .inr hX'
          · exact .inl (List.mem_cons_of_mem _ (i.dm.da.tin _ (pl.tin (by omega)).1))
          · exact .inl (List.mem_cons_of_mem _ (i.dm.da.tin _ (pl.tin (by omega)).2))
        · have hsep := pl.sep 1 2 (by omega) (by omega) (by decide) b
          have hXl := i.row.lt
          have hlt : ∀ b' ∈ fd, b' < W.heap.size := i.dm.da.lts
          have hin := fun j (hj : j < Y.N) => And.intro (hlt _ (i.dm.da.tin _ (pl.tin hj).1)) (hlt _ (i.dm.da.tin _ (pl.tin hj).2))
          simp only [List.mem_cons, List.not_mem_nil, or_false] at hb hb2 hsep
          rcases hb with hb | hb | hb
          · rcases hb2 with h2 | h2 | h2
            · omega
            · exact (hX1 2 (by omega)).1 (hb ▸ h2)
            · exact (hX1 2 (by omega)).2 (hb ▸ h2)
          · rcases hb2 with h2 | h2
            · have := hin 1 (by omega); omega
            · exact hsep (.inl hb) h2
          · rcases hb2 with h2 | h2
            · have := hin 1 (by omega); omega
            · exact hsep (.inr hb) h2
        · rw [hF key, hN]
          have hw : wi (H key) p dd := (wi_up (by omega)).2 (.inl hk)
          rcases (wi_two (by omega)).1 hw with ⟨_, a1⟩ | ⟨a2, _⟩
          · rw [a1]
          · unfold wi at a2 hk; omega
        · rw [hF key, hN]
          have hw : wi (H key) p dd := (wi_up (by omega)).2 (.inr hk)
          rcases (wi_two (by omega)).1 hw with ⟨a2, _⟩ | ⟨_, a1⟩
          · unfold wi at a2 hk; omega
          · rw [a1]
end
end Go.Proofs.YtdplhgpeggcmdaaGreatDoor.node
