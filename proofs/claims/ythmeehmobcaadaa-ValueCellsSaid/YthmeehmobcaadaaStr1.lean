/- Contracts of str's small functions: kinds of bytes, places, pieces, Compare, Slice, Name. -/
import Derived.Test.YthmeehmobcaadaaBase
import Derived.Test.YthmeehmobcaadaaShelf
namespace Go.Proofs.Ythmeehmobcaadaa
open Go.RowKit Go.ChangeShapes Go.WideShapes Go.ChangeAt

def placed (a n : Int) : Int := if a < 0 then wrap64 (a + n) else a
theorem compare_any (a b : ByteArray) (w : World) : Calls Try.prog 25 #[.string a, .string b] w fun e w' => e = .returned (.int .i64 (Lib.compareBytes a.data.toList b.data.toList)) ∧ w = w' := by
  go_enter Try.func25, Try.ntmps25
  go_wp2_with fail
  refine (Try.strings_Compare a b _).mono ?_
  rintro e w' ⟨rfl, rfl⟩
  go_wp2_with fail
  go_ret
  exact ⟨rfl, rfl⟩
end Go.Proofs.Ythmeehmobcaadaa
