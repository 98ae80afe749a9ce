/- Contracts of num.In, Text, read, Parse. -/
import Derived.Test.YthmeehmobcaadaaNum1
namespace Go.Proofs.Ythmeehmobcaadaa.Nu
open Go.RowKit Go.ChangeShapes Go.WideShapes Go.ChangeAt

theorem text_any (a : Int) (h1 : -9223372036854775808 ≤ a) (h2 : a ≤ 9223372036854775807) (w : World) :
    Calls Try.prog 19 #[.int .i64 a] w fun e w' => e = .returned (.string ⟨(txt a 10).toArray⟩) ∧ Below w.heap.size w w' := by
  go_enter Try.func19, Try.ntmps19
  go_wp2_with fail
  refine (write_any a h1 h2 10 (by omega) (by omega) _).mono ?_
  rintro e w1 ⟨rfl, hb⟩
  go_wp2_with fail
  go_ret
  exact ⟨rfl, hb⟩

theorem byte_lt (s : ByteArray) (k : Nat) (h : k < s.size) : (s[k]).toNat ≤ 255 := by have := (s[k]).toNat_lt; omega
theorem drop_byte (s : ByteArray) (k : Nat) (h : k < s.size) : s.data.toList.drop k = s[k] :: s.data.toList.drop (k + 1) := by
  rw [List.drop_eq_getElem_cons (by simpa using h)]; rfl

theorem ret_two {k1 k2 : IntKind} {a b c d : Int} (h : a = b) (h2 : c = d) : Ending.returned (.tuple #[.int k1 a, .int k2 c]) = .returned (.tuple #[.int k1 b, .int k2 d]) := by rw [h, h2]

end Go.Proofs.Ythmeehmobcaadaa.Nu
