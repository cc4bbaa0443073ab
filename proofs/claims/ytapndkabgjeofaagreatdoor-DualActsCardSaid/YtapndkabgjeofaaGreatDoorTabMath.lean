/- TabMath: several texts in one: plain facts and laws for the walks. No program is named. -/
import Derived.Test.YtapndkabgjeofaaGreatDoorGroup
import Derived.Test.YtapndkabgjeofaaGreatDoorMath
import Derived.Test.YtapndkabgjeofaaGreatDoorLess

/-! ### table: what a table holds; where a search ends, and where a new entry stands; what is done to a table. No function is walked here. -/
namespace Go.Proofs.YtapndkabgjeofaaGreatDoor.table
open group probe swar
set_option linter.unusedSimpArgs false
set_option linter.unusedVariables false

/-! ### sums over groups -/
def sumN:Nat → (Nat → Nat) → Nat
 | 0,_ => 0
 | n + 1,f => sumN n f + f n
theorem sumN_congr {n:Nat} {f g:Nat → Nat} (h:∀ i,i < n → f i = g i):sumN n f = sumN n g:=by
 induction n with
 | zero => rfl
 | succ n ih => simp only [sumN]; rw [ih fun i hi => h i (by omega),h n (by omega)]
theorem sumN_put {n:Nat} {f g:Nat → Nat} {i:Nat} (hi:i < n) (h:∀ j,j ≠ i → g j = f j):sumN n g + f i = sumN n f + g i:=by
 induction n with
 | zero => omega
 | succ n ih =>
  simp only [sumN]
  by_cases e:i = n
  ·subst e; rw [sumN_congr fun j hj => h j (by omega)]; omega
  ·have:=ih (by omega); rw [h n (fun e' => e e'.symm)]; omega
theorem sumN_le {n m:Nat} {f:Nat → Nat} (h:∀ i,i < n → f i ≤ m):sumN n f ≤ m * n:=by
 induction n with
 | zero => simp [sumN]
 | succ n ih => simp only [sumN]; have:=ih fun i hi => h i (by omega); have:=h n (by omega); rw [Nat.mul_succ]; omega
theorem sumN_zero {n:Nat} {f:Nat → Nat} (h:∀ i,i < n → f i = 0):sumN n f = 0:=by
 induction n with
 | zero => rfl
 | succ n ih => simp only [sumN]; rw [ih fun i hi => h i (by omega),h n (by omega)]

/-! ### a table -/
structure Tb where
 n:Nat
 gs:Nat → Gp
 len:Int
 tombs:Int
def cntT (k:Nat) (t:Tb):Nat:=sumN t.n fun i => count k (t.gs i)
def Tb.left (t:Tb):Int:=7 * (t.n:Int) - t.len - t.tombs
structure Tb.Ok (t:Tb):Prop where
 n:okN t.n
 gs:∀ i,(t.gs i).Ok
 len:t.len = cntT 3 t
 tombs:t.tombs = cntT 2 t
 room:0 ≤ t.left
def upd (gs:Nat → Gp) (i:Nat) (g:Gp):Nat → Gp:=fun j => if j = i then g else gs j
theorem upd_same (gs:Nat → Gp) (i:Nat) (g:Gp):upd gs i g i = g:=if_pos rfl
theorem upd_ne (gs:Nat → Gp) {i j:Nat} (g:Gp) (h:j ≠ i):upd gs i g j = gs j:=if_neg h
theorem upd_id (gs:Nat → Gp) (i:Nat):upd gs i (gs i) = gs:=by
 funext j; unfold upd; split
 ·next h => rw [h]
 ·rfl
/-- a new table -/
def Tb.new (n:Nat):Tb:=⟨n,fun _ => .new,0,0⟩
theorem count_new (k:Nat):count k .new = if k = 1 then 8 else 0:=by
 by_cases h:k = 1
 ·subst h; rfl
 ·rw [if_neg h,count_zero]
  have : ∀ i,is k .new i = false:=fun i => by unfold is; exact decide_eq_false (fun e => h e.symm)
  simp [this]
theorem Tb.Ok.new {n:Nat} (h:okN n):(Tb.new n).Ok:=by
 have z:∀ k,k ≠ 1 → cntT k (Tb.new n) = 0:=fun k hk => sumN_zero fun i _ => by show count k .new = 0; rw [count_new,if_neg hk]
 refine ⟨h,fun _ => Gp.Ok.new, ?_, ?_, ?_⟩
 ·rw [z 3 (by decide)]; rfl
 ·rw [z 2 (by decide)]; rfl
 ·show 0 ≤ 7 * (n:Int) - 0 - 0; omega
theorem cntT_le (k:Nat) (t:Tb):cntT k t ≤ 8 * t.n:=sumN_le fun i _ => count_le k _
/-! ### where a search ends -/
def seen (p:Nat → Bool):List Nat → List Nat
 | [] => []
 | i :: l => if p i = true then [i] else i :: seen p l
theorem seen_prefix (p:Nat → Bool):∀ l,seen p l <+: l
 | [] => List.prefix_refl _
 | i :: l => by
  unfold seen; split
  ·exact ⟨l,rfl⟩
  ·exact (List.prefix_cons_inj i).2 (seen_prefix p l)
theorem seen_all {p:Nat → Bool}:∀ {l:List Nat},(∀ i ∈ l,p i = false) → seen p l = l
 | [],_ => rfl
 | i :: l,h => by
  unfold seen
  rw [if_neg (by rw [h i (by simp)]; decide),seen_all fun j hj => h j (by simp [hj])]
theorem seen_at {p:Nat → Bool} {x:Nat} (hx:p x = true):∀ {pre l:List Nat},pre ++ [x] <+: l → (∀ i ∈ pre,p i = false) → seen p l = pre ++ [x]
 | [],l,h,_ => by
  obtain ⟨r,rfl⟩:=h
  show seen p (x :: r) = _
  unfold seen; rw [if_pos hx]; rfl
 | i :: pre,l,h,hp => by
  obtain ⟨r,rfl⟩:=h
  show seen p (i :: (pre ++ [x] ++ r)) = _
  unfold seen
  rw [if_neg (by rw [hp i (by simp)]; decide),seen_at hx ⟨r,rfl⟩ fun j hj => hp j (by simp [hj])]; rfl
/-- either it ends at such a one, or there is none -/
theorem seen_is (p:Nat → Bool):∀ l,(seen p l = l ∧ ∀ i ∈ l,p i = false) ∨ ∃ pre x,seen p l = pre ++ [x] ∧ pre ++ [x] <+: l ∧ (∀ i ∈ pre,p i = false) ∧ p x = true
 | [] => .inl ⟨rfl,fun i hi => by cases hi⟩
 | i :: l => by
  cases hp:p i
  ·rcases seen_is p l with ⟨h1,h2⟩ | ⟨pre,x,h1,h2,h3,h4⟩
   ·refine .inl ⟨by unfold seen; rw [if_neg (by rw [hp]; decide),h1],fun j hj => ?_⟩
    rcases List.mem_cons.1 hj with rfl | hj
    ·exact hp
    ·exact h2 j hj
   ·refine .inr ⟨i :: pre,x,by unfold seen; rw [if_neg (by rw [hp]; decide),h1]; rfl,(List.prefix_cons_inj i).2 h2,fun j hj => ?_,h4⟩
    rcases List.mem_cons.1 hj with rfl | hj
    ·exact hp
    ·exact h3 j hj
  ·exact .inr ⟨[],i,by unfold seen; rw [if_pos hp]; rfl,⟨l,rfl⟩,fun j hj => (by cases hj),hp⟩
def lastOf (l:List Nat):Nat:=l.getLast?.getD 0
theorem lastOf_snoc (l:List Nat) (x:Nat):lastOf (l ++ [x]) = x:=by simp [lastOf]
theorem lastOf_mem {l:List Nat} (h:l ≠ []):lastOf l ∈ l:=by
 unfold lastOf
 rw [List.getLast?_eq_some_getLast h]; exact List.getLast_mem h
/-- the first one with a free slot; the last one, if there is none -/
def roomOf (f:Nat → Bool) (l:List Nat):Nat:=match l.find? f with | some i => i | none => lastOf l
theorem roomOf_mem {f:Nat → Bool} {l:List Nat} (h:l ≠ []):roomOf f l ∈ l:=by
 unfold roomOf; split
 ·next i hi => exact List.mem_of_find?_eq_some hi
 ·exact lastOf_mem h
theorem roomOf_snoc (f:Nat → Bool) (l:List Nat) (x:Nat):roomOf f (l ++ [x]) = if (l.any f) = true then roomOf f l else x:=by
 unfold roomOf
 rw [List.find?_append,lastOf_snoc]
 cases hf:l.find? f with
 | some i =>
  have : l.any f = true:=by
   rw [List.any_eq_true]; exact ⟨i,List.mem_of_find?_eq_some hf,List.find?_some hf⟩
  simp [this]
 | none =>
  have : l.any f = false:=by
   rw [List.any_eq_false]; exact fun i hi => by simpa using List.find?_eq_none.1 hf i hi
  rw [this]
  simp only [Bool.false_eq_true,if_false,Option.none_or]
  cases hx:f x
  ·rw [List.find?_cons_of_neg (by rw [hx]; decide)]; rfl
  ·rw [List.find?_cons_of_pos hx]
def stp (t:Tb) (key h i:Nat):Bool:=opens (t.gs i) || decide (0 ≤ find key h (t.gs i))
def free (t:Tb) (i:Nat):Bool:=decide (0 ≤ least (t.gs i))
def path (t:Tb) (h:Nat):List Nat:=wl (h / 128) t.n
/-- the groups that a search looks at -/
def sn (t:Tb) (key h:Nat):List Nat:=seen (stp t key h) (path t h)
def lastG (t:Tb) (key h:Nat):Nat:=lastOf (sn t key h)
def roomG (t:Tb) (key h:Nat):Nat:=roomOf (free t) (sn t key h)
def looks (t:Tb) (key h:Nat):Nat:=(sn t key h).length
def slot (t:Tb) (key h:Nat):Int:=find key h (t.gs (lastG t key h))
theorem sn_prefix (t:Tb) (key h:Nat):sn t key h <+: path t h:=seen_prefix _ _
theorem sn_ne (t:Tb) (key h:Nat) (hn:okN t.n):sn t key h ≠ []:=by
 have hl:(path t h).length = t.n:=wl_length _ _
 have hp:=okN_pos hn
 unfold sn
 cases e:path t h with
 | nil => rw [e] at hl; simp at hl; omega
 | cons i l => unfold seen; split <;> simp
theorem path_lt {t:Tb} {h i:Nat} (hn:okN t.n) (hi:i ∈ path t h):i < t.n:=wl_lt _ _ _ (okN_pos hn) hi
theorem lastG_mem (t:Tb) (key h:Nat) (hn:okN t.n):lastG t key h ∈ sn t key h:=lastOf_mem (sn_ne t key h hn)
theorem roomG_mem (t:Tb) (key h:Nat) (hn:okN t.n):roomG t key h ∈ sn t key h:=roomOf_mem (sn_ne t key h hn)
theorem lastG_lt (t:Tb) (key h:Nat) (hn:okN t.n):lastG t key h < t.n:=path_lt hn ((sn_prefix t key h).subset (lastG_mem t key h hn))
theorem roomG_lt (t:Tb) (key h:Nat) (hn:okN t.n):roomG t key h < t.n:=path_lt hn ((sn_prefix t key h).subset (roomG_mem t key h hn))
theorem looks_le (t:Tb) (key h:Nat):looks t key h ≤ t.n:=by
 have:=(sn_prefix t key h).length_le
 rwa [show (path t h).length = t.n from wl_length _ _] at this
/-- a key that isn't found at the search's end stands in none of the groups that were looked at -/
theorem none_seen {t:Tb} {key h:Nat} (hs:slot t key h < 0):∀ i ∈ sn t key h,find key h (t.gs i) < 0:=by
 intro i hi
 have key1:∀ i,stp t key h i = false → find key h (t.gs i) < 0:=fun i e => by
  unfold stp at e; rw [Bool.or_eq_false_iff,decide_eq_false_iff_not] at e; omega
 unfold slot lastG sn at hs
 unfold sn at hi
 rcases seen_is (stp t key h) (path t h) with ⟨h1,h2⟩ | ⟨pre,x,h1,h2,h3,h4⟩
 ·rw [h1] at hi; exact key1 i (h2 i hi)
 ·rw [h1] at hi hs
  rw [lastOf_snoc] at hs
  rcases List.mem_append.1 hi with hi | hi
  ·exact key1 i (h3 i hi)
  ·obtain rfl:i = x:=by simpa using hi
   exact hs
theorem room_none {t:Tb} {key h:Nat} (hn:okN t.n) (hs:slot t key h < 0):find key h (t.gs (roomG t key h)) < 0:=none_seen hs _ (roomG_mem t key h hn)
theorem find_cases (key h:Nat) (g:Gp):(find key h g = -1 ∧ ∀ k,k < 8 → hit key h g k = false) ∨ ∃ k:Nat,k < 8 ∧ find key h g = k ∧ hit key h g k = true:=by
 rcases scan_is (hit key h g) with h | ⟨i,h1,h2,h3,_⟩
 ·exact .inl h
 ·exact .inr ⟨i,h1,h2,h3⟩
theorem hit_is {key h:Nat} {g:Gp} {k:Nat} (hh:hit key h g k = true):(g k).kind = 3 ∧ (g k).key = key ∧ (g k).hash % 128 = h % 128:=by
 unfold hit isH at hh
 simp only [Bool.and_eq_true,decide_eq_true_eq] at hh
 exact ⟨hh.1.1,hh.2,hh.1.2⟩
theorem least_cases (g:Gp):(least g = -1 ∧ ∀ k,k < 8 → (g k).kind = 3) ∨ ∃ k:Nat,k < 8 ∧ least g = k ∧ (g k).kind ≠ 3:=by
 rcases scan_is (fun k => !is 3 g k) with ⟨h1,h2⟩ | ⟨i,h1,h2,h3,_⟩
 ·exact .inl ⟨h1,fun k hk => by have:=h2 k hk; unfold is at this; simpa using this⟩
 ·refine .inr ⟨i,h1,h2, ?_⟩
  unfold is at h3; simpa using h3

/-! ### what is done to a table -/
/-- a value is set -/
def Tb.val (t:Tb) (a k:Nat) (v:Nat):Tb:={ t with gs:=upd t.gs a ((t.gs a).put k { t.gs a k with val:=v }) }
/-- an entry is put -/
def Tb.put (t:Tb) (b k:Nat) (e:Sl):Tb:={ t with gs:=upd t.gs b ((t.gs b).put k e),len:=t.len + 1,tombs:=if is 2 (t.gs b) k = true then t.tombs - 1 else t.tombs }
/-- an entry is let go -/
def Tb.era (t:Tb) (a k:Nat):Tb:={ t with gs:=upd t.gs a ((t.gs a).put k (erased (t.gs a))),len:=t.len - 1,tombs:=if opens (t.gs a) = true then t.tombs else t.tombs + 1 }
theorem cntT_upd {t:Tb} {a k:Nat} (ha:a < t.n) (hk:k < 8) (s:Sl) (c:Nat) (len tombs:Int) :
  cntT c ⟨t.n,upd t.gs a ((t.gs a).put k s),len,tombs⟩ + (is c (t.gs a) k).toNat = cntT c t + (decide (s.kind = c)).toNat:=by
 have h1:=sumN_put (n:=t.n) (f:=fun i => count c (t.gs i)) (g:=fun i => count c (upd t.gs a ((t.gs a).put k s) i)) ha (fun j hj => by rw [upd_ne _ _ hj])
 simp only [upd_same] at h1
 have h2:=count_put c (t.gs a) hk s
 show sumN t.n (fun i => count c (upd t.gs a ((t.gs a).put k s) i)) + (is c (t.gs a) k).toNat = sumN t.n (fun i => count c (t.gs i)) + (decide (s.kind = c)).toNat
 omega
theorem upd_ok {gs:Nat → Gp} (h:∀ i,(gs i).Ok) {a:Nat} {g:Gp} (hg:g.Ok):∀ i,(upd gs a g i).Ok:=fun i => by unfold upd; split; exact hg; exact h i
theorem is_of {n:Nat} {g:Gp} {k:Nat} (h:(g k).kind = n):is n g k = true:=decide_eq_true h
theorem is_not' {n:Nat} {g:Gp} {k:Nat} (h:(g k).kind ≠ n):is n g k = false:=decide_eq_false h
theorem Tb.Ok.val {t:Tb} (h:t.Ok) {a k v:Nat} (ha:a < t.n) (hk:k < 8) (h3:(t.gs a k).kind = 3) (hv:v < 18446744073709551616):(t.val a k v).Ok:=by
 have c:∀ c,cntT c (t.val a k v) = cntT c t:=fun c => by
  have:=cntT_upd (t:=t) ha hk { t.gs a k with val:=v } c t.len t.tombs
  have e:decide (({ t.gs a k with val:=v }:Sl).kind = c) = is c (t.gs a) k:=rfl
  rw [e] at this
  show cntT c ⟨t.n,upd t.gs a ((t.gs a).put k { t.gs a k with val:=v }),t.len,t.tombs⟩ = _
  omega
 refine ⟨h.n,upd_ok h.gs ((h.gs a).put _ ⟨(h.gs a k).kind,(h.gs a k).key,hv,(h.gs a k).hash,fun e => absurd h3 e⟩), ?_, ?_,h.room⟩
 ·rw [c 3]; exact h.len
 ·rw [c 2]; exact h.tombs
theorem Tb.Ok.put {t:Tb} (h:t.Ok) {b k:Nat} {e:Sl} (hb:b < t.n) (hk:k < 8) (h3:(t.gs b k).kind ≠ 3) (he:e.Ok) (e3:e.kind = 3) (hl:1 ≤ t.left):(t.put b k e).Ok:=by
 have c3:=cntT_upd (t:=t) hb hk e 3 (t.len + 1) (if is 2 (t.gs b) k = true then t.tombs - 1 else t.tombs)
 have c2:=cntT_upd (t:=t) hb hk e 2 (t.len + 1) (if is 2 (t.gs b) k = true then t.tombs - 1 else t.tombs)
 rw [e3,is_not' h3] at c3
 rw [e3] at c2
 have hl':=h.len
 have ht':=h.tombs
 refine ⟨h.n,upd_ok h.gs ((h.gs b).put _ he), ?_, ?_, ?_⟩
 ·show t.len + 1 = _
  simp at c3
  show t.len + 1 = ((cntT 3 ⟨t.n,upd t.gs b ((t.gs b).put k e),t.len + 1,if is 2 (t.gs b) k = true then t.tombs - 1 else t.tombs⟩:Nat):Int)
  omega
 ·show (if is 2 (t.gs b) k = true then t.tombs - 1 else t.tombs) = ((cntT 2 ⟨t.n,upd t.gs b ((t.gs b).put k e),t.len + 1,if is 2 (t.gs b) k = true then t.tombs - 1 else t.tombs⟩:Nat):Int)
  generalize hx:cntT 2 ⟨t.n,upd t.gs b ((t.gs b).put k e),t.len + 1,if is 2 (t.gs b) k = true then t.tombs - 1 else t.tombs⟩ = x at c2
  cases hi:is 2 (t.gs b) k <;> rw [hi] at c2 <;> simp at c2 ⊢ <;> omega
 ·show 0 ≤ 7 * (t.n:Int) - (t.len + 1) - (if is 2 (t.gs b) k = true then t.tombs - 1 else t.tombs)
  unfold Tb.left at hl
  split <;> omega
theorem Tb.Ok.era {t:Tb} (h:t.Ok) {a k:Nat} (ha:a < t.n) (hk:k < 8) (h3:(t.gs a k).kind = 3):(t.era a k).Ok:=by
 have c3:=cntT_upd (t:=t) ha hk (erased (t.gs a)) 3 (t.len - 1) (if opens (t.gs a) = true then t.tombs else t.tombs + 1)
 have c2:=cntT_upd (t:=t) ha hk (erased (t.gs a)) 2 (t.len - 1) (if opens (t.gs a) = true then t.tombs else t.tombs + 1)
 have n3:decide ((erased (t.gs a)).kind = 3) = false:=by unfold erased; split <;> rfl
 have n2:decide ((erased (t.gs a)).kind = 2) = !opens (t.gs a):=by unfold erased; cases opens (t.gs a) <;> rfl
 rw [n3,is_of h3] at c3
 rw [n2,is_not' (n:=2) (by omega)] at c2
 have hl':=h.len
 have ht':=h.tombs
 have hr:=h.room
 refine ⟨h.n,upd_ok h.gs ((h.gs a).put _ (erased_ok _)), ?_, ?_, ?_⟩
 ·simp at c3
  show t.len - 1 = ((cntT 3 ⟨t.n,upd t.gs a ((t.gs a).put k (erased (t.gs a))),t.len - 1,if opens (t.gs a) = true then t.tombs else t.tombs + 1⟩:Nat):Int)
  omega
 ·show (if opens (t.gs a) = true then t.tombs else t.tombs + 1) = ((cntT 2 ⟨t.n,upd t.gs a ((t.gs a).put k (erased (t.gs a))),t.len - 1,if opens (t.gs a) = true then t.tombs else t.tombs + 1⟩:Nat):Int)
  generalize hx:cntT 2 ⟨t.n,upd t.gs a ((t.gs a).put k (erased (t.gs a))),t.len - 1,if opens (t.gs a) = true then t.tombs else t.tombs + 1⟩ = x at c2
  cases ho:opens (t.gs a) <;> rw [ho] at c2 <;> simp at c2 ⊢ <;> omega
 ·show 0 ≤ 7 * (t.n:Int) - (t.len - 1) - (if opens (t.gs a) = true then t.tombs else t.tombs + 1)
  unfold Tb.left at hr
  split <;> omega
/-- Replace, Remove, Place behind a search -/
def Tb.replace (t:Tb) (key h v:Nat):Tb:=if 0 ≤ slot t key h then t.val (lastG t key h) (slot t key h).toNat v else t
def Tb.remove (t:Tb) (key h:Nat):Tb:=if 0 ≤ slot t key h then t.era (lastG t key h) (slot t key h).toNat else t
/-- the number of Place's error for a key that isn't there -/
def roomE (t:Tb) (key h:Nat):Nat:=if t.left < 1 then 2 else if least (t.gs (roomG t key h)) < 0 then 2 else 0
def Tb.place (t:Tb) (key h v:Nat):Tb:=if roomE t key h = 0 then t.put (roomG t key h) (least (t.gs (roomG t key h))).toNat ⟨3,key,v,h⟩ else t
/-- Put -/
def isThere (t:Tb) (key h:Nat):Bool:=decide (0 ≤ slot t key h)
def putE' (t:Tb) (key h:Nat):Nat:=if isThere t key h = true then 0 else roomE t key h
def putB' (t:Tb) (key h:Nat):Bool:=!isThere t key h && decide (roomE t key h = 0)
def Tb.puts (t:Tb) (key h v:Nat):Tb:=if isThere t key h = true then t.replace key h v else t.place key h v
/-- the entry that a search finds -/
def entOf (t:Tb) (key h:Nat):Sl:=if isThere t key h = true then t.gs (lastG t key h) (slot t key h).toNat else ⟨1,0,0,0⟩
theorem there_is {t:Tb} {key h:Nat} (ht:isThere t key h = true):∃ k:Nat,k < 8 ∧ slot t key h = k ∧ hit key h (t.gs (lastG t key h)) k = true:=by
 unfold isThere at ht
 rw [decide_eq_true_eq] at ht
 rcases find_cases key h (t.gs (lastG t key h)) with ⟨e,_⟩ | ⟨k,h1,h2,h3⟩
 ·unfold slot at ht; omega
 ·exact ⟨k,h1,h2,h3⟩
theorem slot_neg {t:Tb} {key h:Nat} (ht:isThere t key h = false):slot t key h = -1:=by
 unfold isThere at ht
 rw [decide_eq_false_iff_not] at ht
 rcases find_cases key h (t.gs (lastG t key h)) with ⟨e,_⟩ | ⟨k,h1,h2,h3⟩
 ·exact e
 ·unfold slot at ht; omega
theorem replace_at {t:Tb} {key h k:Nat} (hs:slot t key h = (k:Nat)) (v:Nat):t.replace key h v = t.val (lastG t key h) k v:=by
 unfold Tb.replace; rw [hs,if_pos (by omega)]; rfl
theorem remove_at {t:Tb} {key h k:Nat} (hs:slot t key h = (k:Nat)):t.remove key h = t.era (lastG t key h) k:=by
 unfold Tb.remove; rw [hs,if_pos (by omega)]; rfl
theorem Tb.Ok.replace {t:Tb} (h:t.Ok) {key hs v:Nat} (hv:v < 18446744073709551616):(t.replace key hs v).Ok:=by
 cases ht:isThere t key hs
 ·unfold Tb.replace; rw [slot_neg ht,if_neg (by decide)]; exact h
 ·obtain ⟨k,h1,h2,h3⟩:=there_is ht
  rw [replace_at h2]
  exact h.val (lastG_lt t key hs h.n) h1 (hit_is h3).1 hv
theorem Tb.Ok.remove {t:Tb} (h:t.Ok) {key hs:Nat}:(t.remove key hs).Ok:=by
 cases ht:isThere t key hs
 ·unfold Tb.remove; rw [slot_neg ht,if_neg (by decide)]; exact h
 ·obtain ⟨k,h1,h2,h3⟩:=there_is ht
  rw [remove_at h2]
  exact h.era (lastG_lt t key hs h.n) h1 (hit_is h3).1
theorem room_is {t:Tb} {key h:Nat} (he:roomE t key h = 0):1 ≤ t.left ∧ ∃ k:Nat,k < 8 ∧ least (t.gs (roomG t key h)) = k ∧ (t.gs (roomG t key h) k).kind ≠ 3:=by
 unfold roomE at he
 split at he
 ·cases he
 ·split at he
  ·cases he
  ·next h1 h2 =>
   refine ⟨by omega, ?_⟩
   rcases least_cases (t.gs (roomG t key h)) with ⟨e,_⟩ | h3
   ·omega
   ·exact h3
theorem place_at {t:Tb} {key h k:Nat} (he:roomE t key h = 0) (hk:least (t.gs (roomG t key h)) = (k:Nat)) (v:Nat):t.place key h v = t.put (roomG t key h) k ⟨3,key,v,h⟩:=by
 unfold Tb.place; rw [if_pos he,hk]; rfl
theorem place_no {t:Tb} {key h:Nat} (he:roomE t key h ≠ 0) (v:Nat):t.place key h v = t:=by unfold Tb.place; rw [if_neg he]
theorem Tb.Ok.place {t:Tb} (h:t.Ok) {key hs v:Nat} (hk:key < 18446744073709551616) (hh:hs < 18446744073709551616) (hv:v < 18446744073709551616):(t.place key hs v).Ok:=by
 by_cases he:roomE t key hs = 0
 ·obtain ⟨h1,k,h2,h3,h4⟩:=room_is he
  rw [place_at he h3]
  exact h.put (roomG_lt t key hs h.n) h2 h4 (.of_full hk hv hh) rfl h1
 ·rw [place_no he]; exact h
theorem Tb.Ok.puts {t:Tb} (h:t.Ok) {key hs v:Nat} (hk:key < 18446744073709551616) (hh:hs < 18446744073709551616) (hv:v < 18446744073709551616):(t.puts key hs v).Ok:=by
 unfold Tb.puts; split
 ·exact h.replace hv
 ·exact h.place hk hh hv
theorem replace_n (t:Tb) (key h v:Nat):(t.replace key h v).n = t.n:=by unfold Tb.replace; split <;> rfl
theorem remove_n (t:Tb) (key h:Nat):(t.remove key h).n = t.n:=by unfold Tb.remove; split <;> rfl
theorem place_n (t:Tb) (key h v:Nat):(t.place key h v).n = t.n:=by unfold Tb.place; split <;> rfl
theorem puts_n (t:Tb) (key h v:Nat):(t.puts key h v).n = t.n:=by unfold Tb.puts; split; exact replace_n ..; exact place_n ..
end Go.Proofs.YtapndkabgjeofaaGreatDoor.table

/-! ### table: a table is a partial function from keys to values. No function is walked here. -/
namespace Go.Proofs.YtapndkabgjeofaaGreatDoor.table
open group probe swar
set_option linter.unusedSimpArgs false
set_option linter.unusedVariables false

/-- a key stands in a slot -/
def Stands (t:Tb) (key i k:Nat):Prop:=i < t.n ∧ k < 8 ∧ (t.gs i k).kind = 3 ∧ (t.gs i k).key = key
/-- each key of the hash H stands at one place at the most, and where a search comes to it -/
structure Inv (H:Nat → Nat) (t:Tb):Prop where
 ok:t.Ok
 hash:∀ key i k,Stands t key i k → (t.gs i k).hash = H key
 uniq:∀ key i k j l,Stands t key i k → Stands t key j l → i = j ∧ k = l
 reach:∀ key i k,Stands t key i k → ∃ pre,pre ++ [i] <+: path t (H key) ∧ ∀ j ∈ pre,opens (t.gs j) = false
/-- what a table answers: the value of each key -/
def Rep (H:Nat → Nat) (t:Tb) (M:Nat → Option Nat):Prop:=Inv H t ∧ ∀ key v,M key = some v ↔ ∃ i k,Stands t key i k ∧ (t.gs i k).val = v
/-! ### a new table -/
/-! ### a slot is changed: which keys stand -/
theorem slot_other {gs:Nat → Gp} {a k i l:Nat} {s:Sl} (hne:¬ (i = a ∧ l = k)):(upd gs a ((gs a).put k s)) i l = gs i l:=by
 by_cases h:i = a
 ·subst h; rw [upd_same]; exact put_ne _ _ fun e => hne ⟨rfl,e⟩
 ·rw [upd_ne _ _ h]
def set (M:Nat → Option Nat) (key:Nat) (v:Option Nat):Nat → Option Nat:=fun k => if k = key then v else M k
/-! ### what is asked of a search's room -/
/-! ### Put, Delete -/
end Go.Proofs.YtapndkabgjeofaaGreatDoor.table

/-! ### table: the first entry that doesn't come ahead of a hash and key. No function is walked here. -/
namespace Go.Proofs.YtapndkabgjeofaaGreatDoor.table
open group probe swar split
set_option linter.unusedSimpArgs false
set_option linter.unusedVariables false

/-- the entries of a group; of the first k groups -/
def entsG (g:Gp):List Sl:=(fulls g).map g
def ents (t:Tb) (k:Nat):List Sl:=(List.range k).flatMap fun i => entsG (t.gs i)
theorem ents_succ (t:Tb) (k:Nat):ents t (k + 1) = ents t k ++ entsG (t.gs k):=by simp [ents,List.range_succ]
/-- one more entry -/
def lstep (h k:Nat) (s:Option Sl) (e:Sl):Option Sl:=
 if lessB e.key e.hash k h = true then s else match s with
  | none => some e
  | some l => if lessB e.key e.hash l.key l.hash = true then some e else some l
def lfold (h k:Nat) (s:Option Sl) (l:List Sl):Option Sl:=l.foldl (lstep h k) s
theorem lfold_append (h k:Nat) (s:Option Sl) (l m:List Sl):lfold h k s (l ++ m) = lfold h k (lfold h k s l) m:=List.foldl_append ..
theorem lfold_snoc (h k:Nat) (s:Option Sl) (l:List Sl) (e:Sl):lfold h k s (l ++ [e]) = lstep h k (lfold h k s l) e:=by rw [lfold_append]; rfl
def leastE (t:Tb) (h k:Nat):Option Sl:=lfold h k none (ents t t.n)
/-- what it is -/
def Good (h k:Nat) (P:List Sl) (s:Option Sl):Prop:=(s = none ∧ ∀ e ∈ P,lessB e.key e.hash k h = true) ∨
  ∃ m,s = some m ∧ m ∈ P ∧ lessB m.key m.hash k h = false ∧ ∀ e ∈ P,lessB e.key e.hash k h = false → lessB e.key e.hash m.key m.hash = false
end Go.Proofs.YtapndkabgjeofaaGreatDoor.table
