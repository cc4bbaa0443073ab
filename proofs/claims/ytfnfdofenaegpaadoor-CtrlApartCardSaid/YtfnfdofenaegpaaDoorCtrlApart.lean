/- CtrlApart: all the walks together. -/
import Derived.Test.YtfnfdofenaegpaaDoorCtrlApart0
import Derived.Test.YtfnfdofenaegpaaDoorCtrlApartA
import Derived.Test.YtfnfdofenaegpaaDoorCtrlApartB
import Derived.Test.YtfnfdofenaegpaaDoorCtrlApartC
namespace Go.Proofs.YtfnfdofenaegpaaDoor.ctrl
open Go.ChangeShapes Go.WideShapes Go.ChangeAt Go.RowKit swar errs

theorem apart_any (n b : Nat) (i : Int) (hn : n < 18446744073709551616) (hb8 : b < 256) (w : World) (a : String → Addr) (ha : ∀ w', Below w.heap.size w w' → ErrsOk ["ambler/api.ErrRange", "ambler/api.ErrForm"] a w') :
    Calls Tryd.prog 5 #[.int .u64 n, .int .i64 i, .int .u8 b] w fun e w' => e = .returned (.bool true) ∧ Below w.heap.size w w' := by
  by_cases hi : i < 0 ∨ 8 ≤ i
  · cases hr : okW n
    · exact apart_r1 n b i hn hr hi w a ha
    · exact apart_r0 n b i hn hr hi w a ha
  · obtain ⟨k, rfl⟩ := Int.eq_ofNat_of_zero_le (show 0 ≤ i by omega)
    have hk : k < 8 := by omega
    cases hb : okB b
    · cases hr : okW n
      · exact apart_f1 n b k hn hr hk hb w a ha
      · exact apart_f0 n b k hn hr hk hb w a ha
    · cases hr : okW n
      · rcases cases8 hk with rfl | rfl | rfl | rfl | rfl | rfl | rfl | rfl
        · cases ho : okB (ln n 0)
          · exact apart_C0 n b hn hb8 hb hr ho w a ha
          · exact apart_B0 n b hn hb8 hb hr ho w
        · cases ho : okB (ln n 1)
          · exact apart_C1 n b hn hb8 hb hr ho w a ha
          · exact apart_B1 n b hn hb8 hb hr ho w
        · cases ho : okB (ln n 2)
          · exact apart_C2 n b hn hb8 hb hr ho w a ha
          · exact apart_B2 n b hn hb8 hb hr ho w
        · cases ho : okB (ln n 3)
          · exact apart_C3 n b hn hb8 hb hr ho w a ha
          · exact apart_B3 n b hn hb8 hb hr ho w
        · cases ho : okB (ln n 4)
          · exact apart_C4 n b hn hb8 hb hr ho w a ha
          · exact apart_B4 n b hn hb8 hb hr ho w
        · cases ho : okB (ln n 5)
          · exact apart_C5 n b hn hb8 hb hr ho w a ha
          · exact apart_B5 n b hn hb8 hb hr ho w
        · cases ho : okB (ln n 6)
          · exact apart_C6 n b hn hb8 hb hr ho w a ha
          · exact apart_B6 n b hn hb8 hb hr ho w
        · cases ho : okB (ln n 7)
          · exact apart_C7 n b hn hb8 hb hr ho w a ha
          · exact apart_B7 n b hn hb8 hb hr ho w
      · rcases cases8 hk with rfl | rfl | rfl | rfl | rfl | rfl | rfl | rfl
        · exact apart_A0 n b hn hb8 hb hr w
        · exact apart_A1 n b hn hb8 hb hr w
        · exact apart_A2 n b hn hb8 hb hr w
        · exact apart_A3 n b hn hb8 hb hr w
        · exact apart_A4 n b hn hb8 hb hr w
        · exact apart_A5 n b hn hb8 hb hr w
        · exact apart_A6 n b hn hb8 hb hr w
        · exact apart_A7 n b hn hb8 hb hr w
end Go.Proofs.YtfnfdofenaegpaaDoor.ctrl
