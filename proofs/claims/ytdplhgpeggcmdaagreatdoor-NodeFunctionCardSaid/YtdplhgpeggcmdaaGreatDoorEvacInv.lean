/- evac: what is in the tables, as partial functions, while groups are moved: the plain mathematics. No function is walked here. -/
import Derived.Test.YtdplhgpeggcmdaaGreatDoorEvac
import Derived.Test.YtdplhgpeggcmdaaGreatDoorTabEnt
namespace Go.Proofs.YtdplhgpeggcmdaaGreatDoor.evac
open group probe swar table
set_option linter.unusedSimpArgs false
set_option linter.unusedVariables false

/-! ### a group is taken -/
theorem tk_off (t:Tb) (a:Nat):∀ k,(∀ j,j < k → ((tk t a k).gs a j).kind ≠ 3) ∧ ∀ g,g ≠ a → (tk t a k).gs g = t.gs g
 | 0 => ⟨fun j hj => absurd hj (Nat.not_lt_zero j),fun g hg => rfl⟩
 | k + 1 => by
  obtain ⟨h1,h2⟩:=tk_off t a k
  rw [tk_succ]
  split
  ·next h3 =>
   refine ⟨fun j hj => ?_,fun g hg => ?_⟩
   ·show (upd (tk t a k).gs a (((tk t a k).gs a).put k (erased ((tk t a k).gs a))) a j).kind ≠ 3
    rw [upd_same]
    by_cases e:j = k
    ·subst e; rw [put_same]; unfold erased; split <;> decide
    ·rw [put_ne _ _ e]; exact h1 j (by omega)
   ·show upd (tk t a k).gs a _ g = _
    rw [upd_ne _ _ hg]; exact h2 g hg
  ·next h3 =>
   refine ⟨fun j hj => ?_,h2⟩
   by_cases e:j = k
   ·subst e; exact h3
   ·exact h1 j (by omega)
/-- the keys that stand in a group -/
def inG (t:Tb) (a:Nat) (key:Nat):Prop:=∃ k,Stands t key a k
theorem tk_rep {H:Nat → Nat} {la:Nat} {t:Tb} {M:Nat → Option Nat} (h:RepN H la t M) {a:Nat} (ha:a < t.n):∀ k,k ≤ 8 → ∃ M',RepN H la (tk t a k) M' ∧ (∀ key,(∃ j,j < k ∧ Stands t key a j) → M' key = none) ∧ ∀ key,(¬ ∃ j,j < k ∧ Stands t key a j) → M' key = M key
 | 0,_ => ⟨M,h,fun key ⟨j,hj,_⟩ => absurd hj (Nat.not_lt_zero j),fun key _ => rfl⟩
 | k + 1,hk => by
  obtain ⟨M',h',h1,h2⟩:=tk_rep h ha k (by omega)
  rw [tk_succ]
  have hf:=tk_far t a k k (Nat.le_refl _)
  split
  ·next h3 =>
   have hs:Stands (tk t a k) ((tk t a k).gs a k).key a k:=⟨by rw [tk_n]; exact ha,by omega,h3,rfl⟩
   have hs':Stands t ((tk t a k).gs a k).key a k:=⟨ha,by omega,by rw [← hf]; exact h3,by rw [hf]⟩
   have hr:=h'.rep.era hs
   have hM:(M' ((tk t a k).gs a k).key).isSome = true:=by
    have:=(h'.rep.2 ((tk t a k).gs a k).key _).2 ⟨a,k,hs,rfl⟩
    rw [this]; rfl
   have hla:((tk t a k).gs a k).key < la:=by
    rcases Nat.lt_or_ge ((tk t a k).gs a k).key la with h | h
    ·exact h
    ·have:=h'.far _ h; rw [this] at hM; cases hM
   refine ⟨_,⟨hr,fun x hx => by rw [set_ne _ _ (by omega)]; exact h'.far x hx, ?_⟩,fun key ⟨j,hj,hst⟩ => ?_,fun key hno => ?_⟩
   ·show (tk t a k).len - 1 = _
    rw [h'.len,cntM_del (M:=M') hla,hM]; simp
   ·by_cases e:key = ((tk t a k).gs a k).key
    ·rw [e,set_same]
    ·rw [set_ne _ _ e]
     refine h1 key ⟨j, ?_,hst⟩
     rcases Nat.lt_or_ge j k with h | h
     ·exact h
     ·exfalso
      obtain rfl:j = k:=by omega
      exact e (by rw [hf]; exact hst.2.2.2.symm)
   ·have e:key ≠ ((tk t a k).gs a k).key:=fun e => hno ⟨k,by omega,by rw [e]; exact hs'⟩
    rw [set_ne _ _ e]
    exact h2 key fun ⟨j,hj,hst⟩ => hno ⟨j,by omega,hst⟩
  ·next h3 =>
   have hno:∀ key,¬ Stands t key a k:=fun key hs => h3 (by rw [hf]; exact hs.2.2.1)
   refine ⟨M',h',fun key ⟨j,hj,hst⟩ => h1 key ⟨j, ?_,hst⟩,fun key hh => h2 key fun ⟨j,hj,hst⟩ => hh ⟨j,by omega,hst⟩⟩
   rcases Nat.lt_or_ge j k with h | h
   ·exact h
   ·obtain rfl:j = k:=by omega
    exact absurd hst (hno key)
theorem mem_fulls {g:Gp} {k:Nat} (h:k ∈ fulls g):k < 8 ∧ (g k).kind = 3:=by
 unfold fulls at h
 have:=List.mem_filter.1 h
 exact ⟨List.mem_range.1 this.1,of_decide_eq_true this.2⟩
theorem fulls_mem {g:Gp} {k:Nat} (hk:k < 8) (h:(g k).kind = 3):k ∈ fulls g:=by
 unfold fulls
 exact List.mem_filter.2 ⟨List.mem_range.2 hk,decide_eq_true h⟩
theorem mem_lst {u:Nat → Tb} {i:Nat} (hi:i < (u 0).n) {e:Sl} (he:e ∈ lst u i):∃ k,Stands (u 0) e.key i k ∧ (u 0).gs i k = e:=by
 unfold lst entsG at he
 obtain ⟨k,hk,rfl⟩:=List.mem_map.1 he
 have hk':k < 8 ∧ ((u 0).gs i k).kind = 3:=mem_fulls hk
 exact ⟨k,⟨hi,hk'.1,hk'.2,rfl⟩,rfl⟩
theorem lst_mem {u:Nat → Tb} {i k key:Nat} (h:Stands (u 0) key i k):(u 0).gs i k ∈ lst u i:=by
 unfold lst entsG
 exact List.mem_map.2 ⟨k,fulls_mem h.2.1 h.2.2.1,rfl⟩
/-! ### all tables -/
/-- what is in them: each key of U in the old table or in its target -/
structure Sta (H:Nat → Nat) (la N d:Nat) (U:Nat → Bool) (t:Nat → Tb) (M:Nat → Nat → Option Nat):Prop where
 rep:∀ i,i < N → RepN H la (t i) (M i)
 val:∀ i,i < N → ∀ key v,M i key = some v → v = key + 5
 tg:∀ i,1 ≤ i → i < N → ∀ key,(M i key).isSome = true → tgt N d (H key) = i
 one:∀ key,(M 0 key).isSome = true → M (tgt N d (H key)) key = none
 un:∀ key,U key = ((M 0 key).isSome || (M (tgt N d (H key)) key).isSome)
 tb:∀ i,1 ≤ i → i < N → (t i).tombs = 0
/-- within a step: the entries of one group are put into their targets, and still stand in the old table -/
structure Mid (H:Nat → Nat) (la N d:Nat) (t0:Nat → Tb) (M:Nat → Nat → Option Nat) (D:Nat → Prop) (t:Nat → Tb) (M':Nat → Nat → Option Nat):Prop where
 zero:t 0 = t0 0
 rep:∀ i,1 ≤ i → i < N → RepN H la (t i) (M' i)
 old:∀ i,1 ≤ i → i < N → ∀ key,¬ (D key ∧ tgt N d (H key) = i) → M' i key = M i key
 new:∀ i,1 ≤ i → i < N → ∀ key,D key → tgt N d (H key) = i → M' i key = M 0 key
 tb:∀ i,1 ≤ i → i < N → (t i).tombs = 0
 n:∀ i,(t i).n = (t0 i).n
theorem repN_put {H:Nat → Nat} {la:Nat} {t:Tb} {M:Nat → Option Nat} (h:RepN H la t M) {key v:Nat} (hk:key < la) (hkey:key < 18446744073709551616) (hh:H key < 18446744073709551616) (hv:v < 18446744073709551616) (hc:(M key).isSome = true ∨ 1 ≤ t.left) :
  RepN H la (t.puts key (H key) v) (set M key (some v)) ∧ putE' t key (H key) = 0 ∧ putB' t key (H key) = !(M key).isSome:=by
 obtain ⟨a,c,d,b,_⟩:=(h.rep.puts hkey hh hv).1 hc
 refine ⟨⟨a,fun k hk' => by rw [set_ne _ _ (by omega)]; exact h.far k hk', ?_⟩,c,d⟩
 rw [b,h.len,cntM_some hk]; split <;> omega
section
variable {H:Nat → Nat} {la N d:Nat} {U:Nat → Bool} {t:Nat → Tb} {M:Nat → Nat → Option Nat}
theorem lst_nodup {i:Nat} (hI:Inv H (t 0)) (hi:i < (t 0).n):((lst t i).map Sl.key).Nodup:=by
 unfold lst entsG
 rw [List.map_map]
 have hf:(fulls ((t 0).gs i)).Nodup:=by unfold fulls; exact List.Pairwise.filter _ (show l8.Nodup by decide)
 refine List.pairwise_map.2 (List.Pairwise.imp_of_mem (fun {x y} hx hy hne hxy => hne ?_) hf)
 have hx':=mem_fulls hx
 have hy':=mem_fulls hy
 have s1:Stands (t 0) ((t 0).gs i x).key i x:=⟨hi,hx'.1,hx'.2,rfl⟩
 have s2:Stands (t 0) ((t 0).gs i x).key i y:=⟨hi,hy'.1,hy'.2,hxy.symm⟩
 have a:=(found hI s1).2
 have b:=(found hI s2).2
 omega
/-- so many groups of the old table have no entries -/
def Off (t:Tb) (c:Nat):Prop:=∀ g,g < c → ∀ k,k < 8 → (t.gs g k).kind ≠ 3
theorem Off.next {l:List Sl} {i:Nat} (h:Off (t 0) i):Off (tak (mvs N d t l) i 0) (i + 1):=fun g hg k hk => by
 unfold tak; rw [up_same,mvs_zero]
 by_cases e:g = i
 ·subst e; exact (tk_off (t 0) g 8).1 k hk
 ·rw [(tk_off (t 0) i 8).2 g e]; exact h g (by omega) k hk
end
/-! ### how a case's tables come to be -/
/-- first entries are put into the old table, then, of keys that aren't there, into their targets -/
inductive Reach (hz:Nat → Nat) (la N d:Nat) (t0:Nat → Tb):Bool → Nat → (Nat → Tb) → Prop
 | new:Reach hz la N d t0 false 0 t0
 | old {n:Nat} {t:Nat → Tb} {key:Nat}:Reach hz la N d t0 false n t → key < la → Reach hz la N d t0 false (n + 1) (up t 0 ((t 0).puts key (hz key) (key + 5)))
 | turn {n:Nat} {t:Nat → Tb}:Reach hz la N d t0 false n t → Reach hz la N d t0 true n t
 | more {n:Nat} {t:Nat → Tb} {key:Nat}:Reach hz la N d t0 true n t → key < la → isThere (t 0) key (hz key) = false → Reach hz la N d t0 true (n + 1) (up t (tgt N d (hz key)) ((t (tgt N d (hz key))).puts key (hz key) (key + 5)))
 | skip {n:Nat} {t:Nat → Tb}:Reach hz la N d t0 true n t → Reach hz la N d t0 true (n + 1) t
theorem cntM_set {la key v:Nat} {M:Nat → Option Nat} (hk:key < la):cntM la (set M key (some v)) ≤ cntM la M + 1:=by
 rw [cntM_some hk]; split <;> omega
end Go.Proofs.YtdplhgpeggcmdaaGreatDoor.evac
