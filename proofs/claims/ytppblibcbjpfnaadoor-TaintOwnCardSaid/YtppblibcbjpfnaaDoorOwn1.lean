import Derived.Test.YtppblibcbjpfnaaDoorSw2
import Derived.Laws.BytesArg
namespace Go.Proofs.YtppblibcbjpfnaaDoor.L
open Go.RowKit
set_option linter.unusedVariables false
/-- The mark of two numbers. -/
def mk3 (i k : Nat) : ByteArray := strOfNums [65 + (i : Int) % 26, 48 + (k : Int) % 64, 48 + (k : Int) / 64 % 64]
set_option maxHeartbeats 4000000 in
set_option maxRecDepth 100000 in
theorem marks_any (i k : Nat) (w : World) (hi : i < 4611686018427387904) (hk : k < 4611686018427387904) : Calls Tryd.prog 32 #[.int .i64 i, .int .i64 k] w fun e w' => e = .returned (.string (mk3 i k)) ∧ Below w.heap.size w w' := by
  have kc := run_convert_bytes_arg (P := Tryd.prog) (w.alloc (.cells #[.int .u8 (65 + (i : Int) % 26), .int .u8 (48 + (k : Int) % 64), .int .u8 (48 + (k : Int) / 64 % 64)] 5)) 82 5 Tryd.underlying82 Tryd.underlying5 w.heap.size 0 3 3 [65 + (i : Int) % 26, 48 + (k : Int) % 64, 48 + (k : Int) / 64 % 64] rfl (fun j hj => by
    have h := three w (.int .u8 (65 + (i : Int) % 26)) (.int .u8 (48 + (k : Int) % 64)) (.int .u8 (48 + (k : Int) / 64 % 64)) 5
    match j, hj with
    | 0, _ => exact h.1
    | 1, _ => exact h.2.1
    | 2, _ => exact h.2.2) 9 Tryd.underlying9
  have BA := hid (belowA w (.cells #[.int .u8 (65 + (i : Int) % 26), .int .u8 (48 + (k : Int) % 64), .int .u8 (48 + (k : Int) / 64 % 64)] 5))
  go_enter Tryd.func32, Tryd.ntmps32
  go_wp2
  go_ret
  exact ⟨rfl, BA.out⟩
end Go.Proofs.YtppblibcbjpfnaaDoor.L
