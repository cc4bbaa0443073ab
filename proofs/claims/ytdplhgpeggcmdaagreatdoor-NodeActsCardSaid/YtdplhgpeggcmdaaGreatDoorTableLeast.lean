/- table: Least. -/
import Derived.Test.YtdplhgpeggcmdaaGreatDoorProbeSk
namespace Go.Proofs.YtdplhgpeggcmdaaGreatDoor
set_option linter.unusedSimpArgs false
set_option linter.unusedVariables false
open Go.ChangeShapes Go.WideShapes Go.ChangeAt Go.RowKit Go.Shelf swar under trap meter group probe lens tail call split
namespace table
attribute [local go_sem] Oper.semAt_some stage.pureUpon move.stepUpon
def ECells(x:Addr)(j:Nat)(e:Sl)(W:World):Prop:=
 W.cell? (x.add (j*3))=some (.int .u64 (e.key:Nat))∧W.cell? ⟨(x.add (j*3)).block,(x.add (j*3)).off+1,none⟩=some (.int .u64 (e.val:Nat))∧W.cell? ⟨(x.add (j*3)).block,(x.add (j*3)).off+2,none⟩=some (.int .u64 (e.hash:Nat))
theorem ECells.read{x:Addr}{j:Nat}{e:Sl}{W W':World}(h:ECells x j e W)(hb:Below W.heap.size W W'):ECells x j e W':=⟨keepc hb h.1,keepc hb h.2.1,keepc hb h.2.2⟩
def ListAt(b:Nat)(o:Option Addr)(l:List Sl)(W:World):Prop:=∀j (hj:j<l.length),∃x,o=some x∧b≤(x.add (j*3)).block∧ECells x j l[j] W
theorem ListAt.read{b:Nat}{o:Option Addr}{l:List Sl}{W W':World}(h:ListAt b o l W)(hb:Below W.heap.size W W'):ListAt b o l W':=fun j hj=>by
 obtain⟨x,e,h1,hc⟩:=h j hj;exact⟨x,e,h1,hc.read hb⟩
theorem Kept.list{base:Nat}{W:World}{v:Value}{g:Gp}{l:List Nat}(h:group.Kept base W v g l):∃o c,v=.slice o l.length c∧ListAt base o (l.map g) W:=by
 obtain⟨hl,h⟩:=h
 rcases h with⟨rfl,hn⟩|⟨B,c,cur,rfl,hbase,hB,hn,_,hs,ht⟩
 ·exact⟨none,0,by rw [hn],fun j hj=>by rw [List.length_map] at hj;omega⟩
 ·have hadd:∀j,(⟨B,0,none⟩:Addr).add (j*3)=⟨B,j*3,none⟩:=fun j=>by unfold Addr.add;split <;> simp_all
  refine⟨_,_,rfl,fun j hj=>⟨_,rfl,by rw [hadd];exact hbase, ?_⟩⟩;rw [List.length_map] at hj
  have hc:∀d,d<3→W.cell? ⟨B,j*3+d,none⟩=(ent (g l[j]))[d]?:=fun d hd=>by
   rw [cell_of_row _ _ _ _ _ _ hB];have h1:=rows_at g l j d hj hd;rw [←h1,←ht,List.getElem?_take,if_pos (by omega)]
   simp
  rw [List.getElem_map];unfold ECells;rw [hadd];exact⟨hc 0 (by decide),hc 1 (by decide),hc 2 (by decide)⟩
def sK(s:Option Sl):Nat:=match s with|some e=>e.key|none=>0
def sV(s:Option Sl):Nat:=match s with|some e=>e.val|none=>0
def sH(s:Option Sl):Nat:=match s with|some e=>e.hash|none=>0
structure LK(key hash:Nat)(L:Ln)(m:Mt)(w:World)(x k:Nat)(s:Option Sl)(W:World):Prop where
 ln:LnStep [] L (L.see m k) w W
 cl:W.cell? ⟨x,0,none⟩=some (.pointer L.p)
 r:EBox (x+1) 0 0 0 W
 f:EBox (x+1+1) key 0 hash W
 b:EBox (x+1+1+1) (sK s) (sV s) (sH s) W
section
variable {key hash:Nat} {L:Ln} {m:Mt} {w:World} {x k:Nat} {s:Option Sl} {W W':World}
theorem LK.read(h:LK key hash L m w x k s W)(hb:Below W.heap.size W W'):LK key hash L m w x k s W':=⟨h.ln.below hb,keepc hb h.cl,h.r.keep hb,h.f.keep hb,h.b.keep hb⟩
theorem LK.look(h:LK key hash L m w x k s W)(hx:w.heap.size≤x)(hd:∀b∈L.d,b<w.heap.size)(hs:LnStep [] L (L.one (L.see m k)) W W'):LK key hash L m w x (k+1) s W':=by
 have n:∀b,x≤b→b∉([]++L.d):=fun b hb he=>by have:=hd b (by simpa using he);omega
 exact⟨h.ln.trans hs,hs.past.cell h.cl (n _ (by omega)),h.r.past hs.past (n _ (by omega)),h.f.past hs.past (n _ (by omega)),h.b.past hs.past (n _ (by omega))⟩
theorem EBox.set{X a b c:Nat}{w:World}(h:EBox X a b c w)(a' b' c':Nat):EBox X a' b' c' (set3 X a' b' c' w):=by
 obtain⟨h0,h1,h2,hf⟩:=h;refine⟨?_, ?_, ?_,fun i=>by unfold set3;simp [go_sem,hf]⟩ <;> unfold set3 <;> simp [World.cell?_setCell_same',World.cell?_setCell_other,h0,h1,h2]
theorem EBox.other{X Y a b c:Nat}{w:World}(h:EBox X a b c w)(hne:X≠Y)(a' b' c':Nat):EBox X a b c (set3 Y a' b' c' w):=
 ⟨by rw [set3_other hne];exact h.c0,by rw [set3_other hne];exact h.c1,by rw [set3_other hne];exact h.c2,fun i=>by unfold set3;rw [World.frozen?_setCell,World.frozen?_setCell,World.frozen?_setCell];exact h.fz i⟩
theorem LK.set(h:LK key hash L m w x k s W)(hx:w.heap.size≤x)(hd:∀b∈L.d,b<w.heap.size)(e:Sl):LK key hash L m w x k (some e) (set3 (x+1+1+1) e.key e.val e.hash W):=
 ⟨((h.ln.newset hd (by simp;omega) _).newset hd (by simp;omega) _).newset hd (by simp;omega) _,by rw [set3_other (by omega)];exact h.cl,h.r.other (by omega) _ _ _,h.f.other (by omega) _ _ _,h.b.set _ _ _⟩
theorem ListAt.set{b:Nat}{o:Option Addr}{l:List Sl}{W:World}(h:ListAt b o l W){X a' b' c':Nat}(hX:X<b):ListAt b o l (set3 X a' b' c' W):=fun j hj=>by
 obtain⟨x,e,h1,h2,h3,h4⟩:=h j hj;have n0:∀{p:Addr} {i:Nat},p.block=(x.add (j*3)).block→(⟨X,i,none⟩:Addr)≠p:=fun hp e=>by rw [←e] at hp;simp at hp;omega
 have n1:∀p:Addr,p.block=(x.add (j*3)).block→(set3 X a' b' c' W).cell? p=W.cell? p:=fun p hp=>by
  unfold set3;rw [World.cell?_setCell_other _ _ _ _ (n0 hp),World.cell?_setCell_other _ _ _ _ (n0 hp),World.cell?_setCell_other _ _ _ _ (n0 hp)]
 exact⟨x,e,h1,(n1 _ rfl).trans h2,(n1 ⟨_,_,none⟩ rfl).trans h3,(n1 ⟨_,_,none⟩ rfl).trans h4⟩
end
abbrev boxE(k v h:Nat)(w:World):World:=w.alloc (.cells #[.int .u64 (k:Nat),.int .u64 (v:Nat),.int .u64 (h:Nat)] 44)
abbrev boxes(key hash:Nat)(L:Ln)(w:World):World:=boxE 0 0 0 (boxE key 0 hash (boxE 0 0 0 (w.alloc (.cells #[.pointer L.p] 52))))
theorem boxes_below(key hash:Nat)(L:Ln)(w:World):Below w.heap.size w (boxes key hash L w):=under.below_step (under.below_step (under.below_step (new_block w _) (new_block _ _)) (new_block _ _)) (new_block _ _)
theorem LK.new(key hash:Nat){L:Ln}{m:Mt}{w:World}(h:LnAt L m w):LK key hash L m w w.heap.size 0 none (boxes key hash L w):=by
 have e0:(w.alloc (.cells #[.pointer L.p] 52)).cell? ⟨w.heap.size,0,none⟩=some (.pointer L.p):=by
  rw [cell_of_row _ _ _ _ _ _ (World.alloc_heap_new w (.cells #[.pointer L.p] 52))];rfl
 have e1:=EBox.new 0 0 0 (w.alloc (.cells #[.pointer L.p] 52));have e2:=EBox.new key 0 hash (boxE 0 0 0 (w.alloc (.cells #[.pointer L.p] 52)));have e3:=EBox.new 0 0 0 (boxE key 0 hash (boxE 0 0 0 (w.alloc (.cells #[.pointer L.p] 52))));have b1:=new_block (w.alloc (.cells #[.pointer L.p] 52)) (.cells #[.int .u64 (0:Nat),.int .u64 (0:Nat),.int .u64 (0:Nat)] 44);have b2:=new_block (boxE 0 0 0 (w.alloc (.cells #[.pointer L.p] 52))) (.cells #[.int .u64 (key:Nat),.int .u64 (0:Nat),.int .u64 (hash:Nat)] 44);have b3:=new_block (boxE key 0 hash (boxE 0 0 0 (w.alloc (.cells #[.pointer L.p] 52)))) (.cells #[.int .u64 (0:Nat),.int .u64 (0:Nat),.int .u64 (0:Nat)] 44);have hL:L.see m 0=m:=by cases L <;> rfl
 rw [World.size_alloc] at e1 e2 e3;rw [World.size_alloc] at e2 e3;rw [World.size_alloc] at e3;refine⟨?_,keepc b3 (keepc b2 (keepc b1 e0)),(e1.keep b2).keep b3,e2.keep b3,e3⟩;rw [hL];exact .of [] h (boxes_below key hash L w)
set_option maxRecDepth 20000 in
set_option maxHeartbeats 4000000 in
theorem least_tab{ae:String→Addr}{T B:Nat}{t:Tb}{L:Ln}{m:Mt}{w:World}(h:Ready ae T B t L m w)(hash key:Nat) :
  Calls Tryz.prog 213 #[.pointer (some ⟨T,0,none⟩),.agg #[.pointer L.p],.int .u64 (hash:Nat),.int .u64 (key:Nat)] w fun e w'=>e=.returned (.tuple #[group.entV (sK (leastE t hash key)) (sV (leastE t hash key)) (sH (leastE t hash key)),.bool (leastE t hash key).isSome])∧LnStep [] L (L.see m t.n) w w':=by
 have hd:=h.ln.lt;have hn:=okN_le h.ok.n;have HH:=Lib.hid h;have hTlt:=h.at'.lt;have hBlt:=h.at'.lb;have c0:((((w.alloc (.cells #[.pointer L.p] 52)).alloc (.cells #[.int .u64 0,.int .u64 0,.int .u64 0] 44)).alloc (.cells #[.int .u64 (key:Nat),.int .u64 0,.int .u64 (hash:Nat)] 44)).alloc (.cells #[.int .u64 0,.int .u64 0,.int .u64 0] 44)).cell? ⟨T,0,none⟩=some (.slice (some ⟨B,0,none⟩) t.n t.n):=keepc (boxes_below key hash L w) h.at'.row;have HI:=Lib.hid (LK.new key hash h.ln);clear h
 go_enter Tryz.func213,Tryz.ntmps213
 go_wp2
 go_loopw [24,12] (fun i b wr=>∃(k:Nat) (s:Option Sl),k≤t.n∧i=.int .i64 k∧b=.bool s.isSome∧Hid (s=lfold hash key none (ents t k)∧LK key hash L m w w.heap.size k s wr)) (fun i _ _=>t.n-(intOf i).toNat)
 case atStart=>exact⟨0,none,by omega,rfl,rfl,Lib.hid ⟨rfl,HI.out⟩⟩
 case round =>
  obtain⟨k,s,hk,rfl,rfl,HR⟩:=hrel
  rcases Nat.lt_or_ge k t.n with hkn|hkn
  ·have hki:(k:Int)<(t.n:Int):=by omega
   have cr:=(HH.out.look HR.out.2.ln).at'.row;have cl:=HR.out.2.cl;have cL:=fun q=>look_any B (k*25) L (L.see m k) (wr.drewN q) ((HR.out.2.ln.at').below (below_drewN' wr q))
   go_wp2;refine wp_region_any (by kernel_rfl) ?_;refine wpAny_take (i:=10) (v:=.int .i64 0) rfl (by kernel_rfl) (by kernel_rfl) (by kernel_rfl) (fun _ _ _ h=>h) (Or.inl ⟨by rfl,fun wx=>by go_simp⟩) ?_;refine wpAny_head (C:=fun w'=>∃q,w'=wr.drewN q) (g:=3) [true,true,true,true,true,true,true] (by kernel_rfl) ⟨1,rfl⟩ ?_;simp only [sel,setAll]
   iterate 7 quiet_step (fail)
   refine wpQuiet_nil ?_;rintro _ ⟨q,rfl⟩;have cL:=cL q;refine wpAny_ready (rs:=[7]) (by kernel_rfl) (by simp) ?_;refine AllReady.cons rfl (fun K hK=>?_) AllReady.nil;go_simp;refine cL.mono ?_;rintro e w1 ⟨rfl,hs1⟩;refine hK _ _ ?_;clear hK K;refine wpAny_ready (rs:=[8]) (by kernel_rfl) (by simp) ?_;refine AllReady.cons rfl (fun K hK=>?_) AllReady.nil;go_simp;have hK1:=(HR.out.2.read (below_drewN' wr q)).look (Nat.le_refl _) hd hs1;have hRd:=HH.out.look hK1.ln;refine (group.entries_any B (k*25) (t.gs k) (HH.out.ok.gs k) w1 (hRd.at'.gs k hkn) hRd.bits).mono ?_;rintro e w2 ⟨v,rfl,hKv,hb2⟩;refine hK _ _ ?_;clear hK K;obtain⟨o,c,rfl,hLi⟩:=Kept.list hKv;have hK2:=hK1.read hb2;have hfl:(fulls (t.gs k)).length=(entsG (t.gs k)).length:=by unfold entsG;rw [List.length_map]
   have hle:(entsG (t.gs k)).length≤8:=by rw [←hfl];exact fulls_length _
   have hsz:w.heap.size+3<w1.heap.size:=hK1.b.lt;have HS:=Lib.hid (ents_succ t k);have HL:=Lib.hid hLi;have HK:=Lib.hid hK2;clear hKv hLi hK1 hRd hs1 hb2 cL cr cl hK2;rw [hfl];clear hfl;change Hid (ListAt w1.heap.size o (entsG (t.gs k)) w2) at HL;generalize entsG (t.gs k)=le at *
   refine wpAny_ready (rs:=[9]) (by kernel_rfl) (by simp) ?_;refine AllReady.cons rfl (fun K hK=>?_) AllReady.nil;go_simp;refine hK _ _ ?_;clear hK K;refine wpAny_done (by kernel_rfl) ?_ _;go_wp2
   go_loopw [37,12] (fun i b wx=>∃(j:Nat) (s':Option Sl),j≤le.length∧i=.int .i64 j∧b=.bool s'.isSome∧Hid (s'=lfold hash key s (le.take j)∧LK key hash L m w w.heap.size (k+1) s' wx∧ListAt w1.heap.size o le wx)) (fun i _ _=>le.length-(intOf i).toNat)
   case atStart=>exact⟨0,s,by omega,rfl,rfl,Lib.hid ⟨rfl,HK.out,HL.out⟩⟩
   case round =>
    obtain⟨j,s',hj,rfl,rfl,HJ⟩:=hrel
    rcases Nat.lt_or_ge j le.length with hjn|hjn
    ·have hji:(j:Int)<(le.length:Int):=by omega
     obtain⟨x,rfl,hxb,x0,x1,x2⟩:=HJ.out.2.2 j hjn;obtain⟨en,hen⟩:∃en,le[j]=en:=⟨_,rfl⟩;rw [hen] at x0 x1 x2;have hst:lfold hash key s (le.take (j+1))=lstep hash key s' en:=by rw [List.take_succ_eq_append_getElem hjn,hen,lfold_snoc,←HJ.out.1]
     have HT:=Lib.hid hst;clear hst hen;have hnb:=new_block wr (.cells #[.int .u64 (en.key:Nat),.int .u64 (en.val:Nat),.int .u64 (en.hash:Nat)] 44);have hK1:=HJ.out.2.1.read hnb;have hL1:=HJ.out.2.2.read hnb;have hE1:=EBox.new en.key en.val en.hash wr;have f0:=hK1.f.c0;have f1:(wr.alloc (.cells #[.int .u64 (en.key:Nat),.int .u64 (en.val:Nat),.int .u64 (en.hash:Nat)] 44)).cell? ⟨w.heap.size+1+1,1,none⟩=some (.int .u64 0):=hK1.f.c1;have f2:=hK1.f.c2;have cL1:∀W,Calls Tryz.prog 214 #[.agg #[.int .u64 (en.key:Nat),.int .u64 (en.val:Nat),.int .u64 (en.hash:Nat)],.agg #[.int .u64 (key:Nat),.int .u64 0,.int .u64 (hash:Nat)]] W fun e w'=>e=.returned (.bool (lessB en.key en.hash key hash))∧Below W.heap.size W w':=fun W=>less_any en.key en.val en.hash key 0 hash W
     have hsz2:w.heap.size+3<wr.heap.size:=HJ.out.2.1.b.lt;cases hl1:lessB en.key en.hash key hash
     ·rw [hl1] at cL1
      cases s' with
      | none =>
       have e1:lstep hash key none en=some en:=by unfold lstep;rw [hl1];rfl
       rw [e1] at HT;clear e1 hl1
       go_wp2_with (go_at_call 214;(with_reducible refine (cL1 _).mono ?_);rintro e w3 ⟨rfl,hb3⟩;have b0:=(hE1.keep hb3).c0;have b1:=(hE1.keep hb3).c1;have b2:=(hE1.keep hb3).c2;have hK3:=hK1.read hb3;have hL3:=hL1.read hb3;have k0:=hK3.b.c0;have k1:=hK3.b.c1;have k2:=hK3.b.c2;have kf:=hK3.b.fz)
       go_roundw
       case rel=>exact⟨j+1,some en,by omega,by simp,rfl,Lib.hid ⟨HT.out.symm,hK3.set (Nat.le_refl _) hd en,hL3.set (by omega)⟩⟩
       case measure=>simp [intOf];omega
      | some l =>
       have cL2:∀W,Calls Tryz.prog 214 #[.agg #[.int .u64 (en.key:Nat),.int .u64 (en.val:Nat),.int .u64 (en.hash:Nat)],.agg #[.int .u64 (l.key:Nat),.int .u64 (l.val:Nat),.int .u64 (l.hash:Nat)]] W fun e w'=>e=.returned (.bool (lessB en.key en.hash l.key l.hash))∧Below W.heap.size W w':=fun W=>less_any en.key en.val en.hash l.key l.val l.hash W
       cases hl2:lessB en.key en.hash l.key l.hash
       ·rw [hl2] at cL2
        have e1:lstep hash key (some l) en=some l:=by unfold lstep;rw [hl1];simp [hl2]
        rw [e1] at HT;clear e1 hl1 hl2
        go_wp2_with (first
         | (go_at_call 214;(with_reducible refine (cL1 _).mono ?_);rintro e w3 ⟨rfl,hb3⟩;have b0:=(hE1.keep hb3).c0;have b1:=(hE1.keep hb3).c1;have b2:=(hE1.keep hb3).c2;have hK3:=hK1.read hb3;have hL3:=hL1.read hb3;have k0:w3.cell? ⟨w.heap.size+1+1+1,0,none⟩=some (.int .u64 (l.key:Nat)):=hK3.b.c0;have k1:w3.cell? ⟨w.heap.size+1+1+1,1,none⟩=some (.int .u64 (l.val:Nat)):=hK3.b.c1;have k2:w3.cell? ⟨w.heap.size+1+1+1,2,none⟩=some (.int .u64 (l.hash:Nat)):=hK3.b.c2)
         | (go_at_call 214;(with_reducible refine (cL2 _).mono ?_);rintro e w4 ⟨rfl,hb4⟩))
        go_roundw
        case rel=>exact⟨j+1,some l,by omega,by simp,rfl,Lib.hid ⟨HT.out.symm,hK3.read hb4,hL3.read hb4⟩⟩
        case measure=>simp [intOf];omega
       ·rw [hl2] at cL2
        have e1:lstep hash key (some l) en=some en:=by unfold lstep;rw [hl1];simp [hl2]
        rw [e1] at HT;clear e1 hl1 hl2
        go_wp2_with (first
         | (go_at_call 214;(with_reducible refine (cL1 _).mono ?_);rintro e w3 ⟨rfl,hb3⟩;have b0:=(hE1.keep hb3).c0;have b1:=(hE1.keep hb3).c1;have b2:=(hE1.keep hb3).c2;have hK3:=hK1.read hb3;have hL3:=hL1.read hb3;have hE3:=hE1.keep hb3;have k0:w3.cell? ⟨w.heap.size+1+1+1,0,none⟩=some (.int .u64 (l.key:Nat)):=hK3.b.c0;have k1:w3.cell? ⟨w.heap.size+1+1+1,1,none⟩=some (.int .u64 (l.val:Nat)):=hK3.b.c1;have k2:w3.cell? ⟨w.heap.size+1+1+1,2,none⟩=some (.int .u64 (l.hash:Nat)):=hK3.b.c2)
         | (go_at_call 214;(with_reducible refine (cL2 _).mono ?_);rintro e w4 ⟨rfl,hb4⟩;have hK4:=hK3.read hb4;have hL4:=hL3.read hb4;have d0:=(hE3.keep hb4).c0;have d1:=(hE3.keep hb4).c1;have d2:=(hE3.keep hb4).c2;have j0:=hK4.b.c0;have j1:=hK4.b.c1;have j2:=hK4.b.c2;have jf:=hK4.b.fz))
        go_roundw
        case rel=>exact⟨j+1,some en,by omega,by simp,rfl,Lib.hid ⟨HT.out.symm,hK4.set (Nat.le_refl _) hd en,hL4.set (by omega)⟩⟩
        case measure=>simp [intOf];omega
     ·rw [hl1] at cL1
      have e1:lstep hash key s' en=s':=by unfold lstep;rw [hl1];rfl
      rw [e1] at HT;clear e1 hl1
      go_wp2_with (go_at_call 214;(with_reducible refine (cL1 _).mono ?_);rintro e w3 ⟨rfl,hb3⟩)
      go_roundw
      case rel=>exact⟨j+1,s',by omega,by simp,rfl,Lib.hid ⟨HT.out.symm,hK1.read hb3,hL1.read hb3⟩⟩
      case measure=>simp [intOf];omega
    ·obtain rfl:j=le.length:=by omega
     go_wp2
     go_roundw
     case rel =>
      refine⟨k+1,s',by omega,by simp,rfl,Lib.hid ⟨?_,HJ.out.2.1⟩⟩;rw [HS.out,lfold_append,←HR.out.1,HJ.out.1,List.take_length]
     case measure=>simp [intOf];omega
  ·obtain rfl:k=t.n:=by omega
   have k0:=HR.out.2.b.c0;have k1:=HR.out.2.b.c1;have k2:=HR.out.2.b.c2;have r0:=HR.out.2.r.c0;have r1:=HR.out.2.r.c1;have r2:=HR.out.2.r.c2;have rf:=HR.out.2.r.fz;go_wp2;have hE:leastE t hash key=s:=HR.out.1.symm;rw [hE];exact bodyPost_ret (v:=.tuple #[group.entV (sK s) (sV s) (sH s),.bool s.isSome]) (by simp [results,Tryz.results213,go_sem,r0,r1,r2]) rfl ⟨rfl,((HR.out.2.ln.newset hd (by simp) _).newset hd (by simp) _).newset hd (by simp) _⟩
end table
end Go.Proofs.YtdplhgpeggcmdaaGreatDoor
