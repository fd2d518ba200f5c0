/- Digits of any text. The model's. -/
import Derived.Test.YtibhbpgnjikjnaaDoorDigs
namespace Go.Proofs.YtibhbpgnjikjnaaDoor
open Go.RowKit

def ldM (s : ByteArray) : Int := if s.size ≤ 9 then ldN s else -1
theorem spec_l01DigitsM (s : ByteArray) (w : World) (hs : s.size ≤ 8000) :
    Calls Tryd.prog 101 #[.string s] w fun e w' => e = .returned (.int .i64 (ldM s)) ∧ w' = w := by
  unfold ldM
  by_cases h : s.size ≤ 9
  · rw [if_pos h]; exact spec_l01Digits s w h
  · rw [if_neg h]
    go_enter Tryd.func101, Tryd.ntmps101
    go_wp2
    go_ret
    exact ⟨rfl, rfl⟩
theorem ldM_bd0 (s : ByteArray) (h : s.size = 0) : ldM s = -1 := by
  unfold ldM
  rw [if_pos (by omega), ldN_f (digs_no0 h)]
end Go.Proofs.YtibhbpgnjikjnaaDoor
