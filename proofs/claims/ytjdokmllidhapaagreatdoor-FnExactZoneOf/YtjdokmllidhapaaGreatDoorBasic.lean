/- What all contracts share: endings, worlds that have grown, a number between two. -/
import Derived.Test.YtjdokmllidhapaaGreatDoorProg
import Derived.WalkKit
import Derived.WalkSpells
import Derived.WalkLawsBesides
import Derived.Deep.QuietTactic
import Derived.BigQuiet
import Derived.Deep.RegionWith
namespace Go.Proofs.YtjdokmllidhapaaGreatDoor
open Go.RowKit

theorem ret_bool {a b : Bool} (h : a = b) : Ending.returned (.bool a) = .returned (.bool b) := by rw [h]
theorem ret_int {k : IntKind} {a b : Int} (h : a = b) : Ending.returned (.int k a) = .returned (.int k b) := by rw [h]

theorem below1 (w : World) (o : Obj) (n : Nat) : Below w.heap.size w ((w.alloc o).drewN n) := below_drewN ((Below.refl _ _).alloc (Nat.le_refl _) o) n
theorem bcell {W w1 : World} (hb : Below W.heap.size W w1) : (∀ b o, b < W.heap.size → w1.cell? ⟨b, o, none⟩ = W.cell? ⟨b, o, none⟩) ∧ (∀ b o, b < W.heap.size → w1.frozen? ⟨b, o, none⟩ = W.frozen? ⟨b, o, none⟩) :=
  ⟨fun b o h => hb.cell (p := ⟨b, o, none⟩) h, fun b o h => hb.frozen (p := ⟨b, o, none⟩) h⟩

set_option maxHeartbeats 400000 in
theorem spec_l01Is_t (n lo hi : Int) (w : World) (h1 : lo ≤ n) (h2 : n ≤ hi) :
    Calls Tryz.prog 47 #[.int .i64 n, .int .i64 lo, .int .i64 hi] w fun e w' => e = .returned (.bool true) ∧ w' = w := by
  go_enter Tryz.func47, Tryz.ntmps47
  go_wp2
  go_ret
  exact ⟨ret_bool (by simp), rfl⟩
set_option maxHeartbeats 400000 in
theorem spec_l01Is_f (n lo hi : Int) (w : World) (h : n < lo ∨ hi < n) :
    Calls Tryz.prog 47 #[.int .i64 n, .int .i64 lo, .int .i64 hi] w fun e w' => e = .returned (.bool false) ∧ w' = w := by
  by_cases h1 : lo ≤ n
  · have h2 : hi < n := by omega
    clear h
    go_enter Tryz.func47, Tryz.ntmps47
    go_wp2
    go_ret
    exact ⟨ret_bool (by simp; omega), rfl⟩
  · clear h
    go_enter Tryz.func47, Tryz.ntmps47
    go_wp2
    go_ret
    exact ⟨ret_bool (by simp), rfl⟩
def isB (n lo hi : Int) : Bool := decide (lo ≤ n ∧ n ≤ hi)
theorem isB_t {n lo hi : Int} (h1 : lo ≤ n) (h2 : n ≤ hi) : isB n lo hi = true := decide_eq_true ⟨h1, h2⟩
theorem isB_f {n lo hi : Int} (h : ¬ (lo ≤ n ∧ n ≤ hi)) : isB n lo hi = false := decide_eq_false h
theorem isB_of_t {n lo hi : Int} (h : isB n lo hi = true) : lo ≤ n ∧ n ≤ hi := of_decide_eq_true h
theorem isB_of_f {n lo hi : Int} (h : isB n lo hi = false) : ¬ (lo ≤ n ∧ n ≤ hi) := of_decide_eq_false h
theorem spec_l01Is (n lo hi : Int) (w : World) :
    Calls Tryz.prog 47 #[.int .i64 n, .int .i64 lo, .int .i64 hi] w fun e w' => e = .returned (.bool (isB n lo hi)) ∧ w' = w := by
  cases h : isB n lo hi
  · exact spec_l01Is_f n lo hi w (by have := isB_of_f h; omega)
  · exact spec_l01Is_t n lo hi w (isB_of_t h).1 (isB_of_t h).2
theorem spec_l01Is_v {n lo hi : Int} {b : Bool} (h : isB n lo hi = b) (w : World) :
    Calls Tryz.prog 47 #[.int .i64 n, .int .i64 lo, .int .i64 hi] w fun e w' => e = .returned (.bool b) ∧ w' = w := h ▸ spec_l01Is n lo hi w
end Go.Proofs.YtjdokmllidhapaaGreatDoor
