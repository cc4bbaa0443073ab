/- DirBoth: the real directory and the document's beside each other: what each call answers on both sides. -/
import Derived.Test.YtmbdfoobnkanlaaDoorDirParts
import Derived.Test.YtmbdfoobnkanlaaDoorDirRef
namespace Go.Proofs.YtmbdfoobnkanlaaDoor.dir
open Go.ChangeShapes Go.WideShapes Go.ChangeAt Go.RowKit split trap errs
set_option linter.unusedSimpArgs false
set_option linter.unusedVariables false

/-- an act: kind, A, B, N -/
structure Ac where
  k : Int
  a : Int
  b : Int
  n : Int
def ActAt (s : Option Addr) (la : Nat) (w : World) (az : Nat → Ac) : Prop := ∀ j, j < la → ∃ x, s = some x ∧ ∀ W, Below w.heap.size w W → W.cell? (x.add (j * 4)) = some (.int .i64 (az j).k) ∧ W.cell? ⟨(x.add (j * 4)).block, (x.add (j * 4)).off + 1, none⟩ = some (.int .i64 (az j).a) ∧ W.cell? ⟨(x.add (j * 4)).block, (x.add (j * 4)).off + 2, none⟩ = some (.int .i64 (az j).b) ∧ W.cell? ⟨(x.add (j * 4)).block, (x.add (j * 4)).off + 3, none⟩ = some (.int .i64 (az j).n)
/-- the error of a number: none, or this one -/
def errB (x : Addr) : Nat → Value
  | 0 => .nilIface
  | _ + 1 => errV x
theorem num_errB (a : String → Addr) (b : Nat) (hb : b ≤ 1) (w : World) (h : ErrsOk names a w) :
    Calls Tryd.prog 7 #[errB (a "ambler/api.ErrRange") b] w fun e w' => e = .returned (.int .i64 b) ∧ Below w.heap.size w w' := by
  rcases b with _ | _ | b
  · exact (num_nil w).mono fun e w' h => ⟨h.1, h.2 ▸ Below.refl _ _⟩
  · exact num_range a w h
  · omega
theorem set_both (d : Nat) (hd : d ≤ 5) (f : Nat → Nat) (p i n : Int) (x : Addr) : ∃ (k b : Nat) (f' : Nat → Nat), b ≤ 1 ∧
    (∀ A w, DAt A d f w → w.cell? ⟨1, 0, none⟩ = some (errV x) → Calls Tryd.prog 28 #[.pointer (some ⟨A, 0, none⟩), .int .i64 p, .int .i64 i, .int .i64 n] w fun e w' => e = .returned (.tuple #[.int .i64 k, errB x b]) ∧ Past [A] w w' ∧ DAt A d f' w') ∧
    (∀ B g w, RAt B g d f w → Calls Tryd.prog 32 #[.pointer (some ⟨B, 0, none⟩), .int .i64 p, .int .i64 i, .int .i64 n] w fun e w' => e = .returned (.tuple #[.int .i64 k, .int .i64 b]) ∧ Past [g] w w' ∧ RAt B g d f' w') := by
  rcases span_cases d hd p i with h | ⟨q, e, rfl, rfl, he, hq⟩
  · refine ⟨0, 1, f, Nat.le_refl _, fun A w hw hr => (set_no A d f w hw p i n h x hr).mono ?_, fun B g w hw => (rset_no B g d f w hw p i n h).mono ?_⟩
    · rintro e w' ⟨rfl, m, rfl⟩; exact ⟨rfl, (Past.refl _ _).drewN m, hw.drewN m⟩
    · rintro e w' ⟨rfl, hb⟩; exact ⟨rfl, Past.of hb, hw.below hb⟩
  · by_cases hn : n < 0
    · refine ⟨0, 1, f, Nat.le_refl _, fun A w hw hr => (set_neg A d f w hw q e he hq n hn _ hr).mono ?_, fun B g w hw => (rset_neg B g d f w hw q e he hq n hn).mono ?_⟩
      · rintro e w' ⟨rfl, m, rfl⟩; exact ⟨rfl, (Past.refl _ _).drewN m, hw.drewN m⟩
      · rintro e w' ⟨rfl, hb⟩; exact ⟨rfl, Past.of hb, hw.below hb⟩
    · obtain ⟨m, rfl⟩ := Int.eq_ofNat_of_zero_le (show 0 ≤ n by omega)
      exact ⟨_, 0, _, Nat.zero_le _, fun A w hw hr => set_yes A d f w hw q e m he hq, fun B g w hw => rset_yes B g d f w hw q e m he hq⟩
theorem span_both (d : Nat) (hd : d ≤ 5) (p i : Int) (x : Addr) : ∃ (k l b : Nat), b ≤ 1 ∧
    (∀ A f w, DAt A d f w → w.cell? ⟨1, 0, none⟩ = some (errV x) → Calls Tryd.prog 29 #[.pointer (some ⟨A, 0, none⟩), .int .i64 p, .int .i64 i] w fun e w' => e = .returned (.tuple #[.int .i64 k, .int .i64 l, errB x b]) ∧ Below w.heap.size w w') ∧
    (∀ B g f w, RAt B g d f w → Calls Tryd.prog 33 #[.pointer (some ⟨B, 0, none⟩), .int .i64 p, .int .i64 i] w fun e w' => e = .returned (.tuple #[.int .i64 k, .int .i64 l, .int .i64 b]) ∧ Below w.heap.size w w') := by
  rcases span_cases d hd p i with h | ⟨q, e, rfl, rfl, he, hq⟩
  · refine ⟨0, 0, 1, Nat.le_refl _, fun A f w hw hr => (span_no A d f w hw p i h x hr).mono ?_, fun B g f w hw => rspan_no B g d f w hw p i h⟩
    rintro e w' ⟨rfl, m, rfl⟩; exact ⟨rfl, drewN_below w m⟩
  · refine ⟨_, _, 0, Nat.zero_le _, fun A f w hw hr => (span_yes A d f w hw q e he hq).mono ?_, fun B g f w hw => rspan_yes B g d f w hw q e he hq⟩
    rintro e w' ⟨rfl, m, rfl⟩; exact ⟨rfl, drewN_below w m⟩
/-- both, new since w0 -/
structure Two (A B g d : Nat) (f f2 : Nat → Nat) (w0 W : World) : Prop where
  a : DAt A d f W
  b : RAt B g d f2 W
  below : Below w0.heap.size w0 W
  la : w0.heap.size ≤ A
  lb : w0.heap.size ≤ B
  lg : w0.heap.size ≤ g
  ab : A ≠ B
  ag : A ≠ g
theorem Two.past {A B g d : Nat} {f f2 : Nat → Nat} {w0 W W' : World} (h : Two A B g d f f2 w0 W) (hb : Below W.heap.size W W') : Two A B g d f f2 w0 W' :=
  ⟨h.a.below hb, h.b.below hb, under.below_step h.below hb, h.la, h.lb, h.lg, h.ab, h.ag⟩
theorem Two.setA {A B g d : Nat} {f f2 f' : Nat → Nat} {w0 W W' : World} (h : Two A B g d f f2 w0 W) (hp : Past [A] W W') (hd : DAt A d f' W') : Two A B g d f' f2 w0 W' :=
  ⟨hd, h.b.past hp (by simp; exact fun e => h.ab e.symm) (by simp; exact fun e => h.ag e.symm), below_past h.below hp h.la, h.la, h.lb, h.lg, h.ab, h.ag⟩
theorem Two.setB {A B g d : Nat} {f f2 f' : Nat → Nat} {w0 W W' : World} (h : Two A B g d f f2 w0 W) (hp : Past [g] W W') (hd : RAt B g d f' W') : Two A B g d f f' w0 W' :=
  ⟨h.a.past hp (by simp; exact h.ag), hd, below_past h.below hp h.lg, h.la, h.lb, h.lg, h.ab, h.ag⟩
/-- a round's act, in a box of its own -/
structure Box (X : Nat) (c : Ac) (W : World) : Prop where
  k : W.cell? ⟨X, 0, none⟩ = some (.int .i64 c.k)
  a : W.cell? ⟨X, 1, none⟩ = some (.int .i64 c.a)
  b : W.cell? ⟨X, 2, none⟩ = some (.int .i64 c.b)
  n : W.cell? ⟨X, 3, none⟩ = some (.int .i64 c.n)
theorem Box.past {X : Nat} {c : Ac} {W W' : World} {l : List Nat} (h : Box X c W) (hp : Past l W W') (hX : X ∉ l) : Box X c W' :=
  ⟨hp.cell h.k hX, hp.cell h.a hX, hp.cell h.b hX, hp.cell h.n hX⟩
theorem Box.below {X : Nat} {c : Ac} {W W' : World} (h : Box X c W) (hb : Below W.heap.size W W') : Box X c W' := h.past (Past.of (d := []) hb) (by simp)
/-- a round: both, and its act -/
structure Rd (A B g d X : Nat) (c : Ac) (f f2 : Nat → Nat) (w0 W : World) : Prop where
  t : Two A B g d f f2 w0 W
  x : Box X c W
  na : X ≠ A
  ng : X ≠ g
theorem Rd.past {A B g d X : Nat} {c : Ac} {f f2 : Nat → Nat} {w0 W W' : World} (h : Rd A B g d X c f f2 w0 W) (hb : Below W.heap.size W W') : Rd A B g d X c f f2 w0 W' := ⟨h.t.past hb, h.x.below hb, h.na, h.ng⟩
theorem Rd.setA {A B g d X : Nat} {c : Ac} {f f2 f' : Nat → Nat} {w0 W W' : World} (h : Rd A B g d X c f f2 w0 W) (hp : Past [A] W W') (hd : DAt A d f' W') : Rd A B g d X c f' f2 w0 W' :=
  ⟨h.t.setA hp hd, h.x.past hp (by simp; exact h.na), h.na, h.ng⟩
theorem Rd.setB {A B g d X : Nat} {c : Ac} {f f2 f' : Nat → Nat} {w0 W W' : World} (h : Rd A B g d X c f f2 w0 W) (hp : Past [g] W W') (hd : RAt B g d f' W') : Rd A B g d X c f f' w0 W' :=
  ⟨h.t.setB hp hd, h.x.past hp (by simp; exact h.ng), h.na, h.ng⟩
end Go.Proofs.YtmbdfoobnkanlaaDoor.dir
