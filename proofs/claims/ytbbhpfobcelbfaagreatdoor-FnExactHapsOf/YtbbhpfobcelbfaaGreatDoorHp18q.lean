/- What happens, in memory of one's own: numbered. -/
import Derived.Test.YtbbhpfobcelbfaaGreatDoorHp5q
import Derived.Test.YtbbhpfobcelbfaaGreatDoorMarkHapq
namespace Go.Proofs.YtbbhpfobcelbfaaGreatDoor
open Go.RowKit

theorem OwnsH.seq {w : World} {base : Nat} {v : Value} {P : List HapD} (h : OwnsH w base v P) : ∃ a cap, v = .slice a P.length cap ∧ SeqAt w a 3 (P.map HapD.cs) := by
  obtain ⟨a, cap, h1, h2, h3⟩ := seq_of_owns (rows := P.map HapD.cs) (by rw [List.length_map]; exact h) hap_len
  rw [List.length_map] at h1 h3
  exact ⟨a, cap, h1, h2⟩
/-- a list of nothing, numbered. -/
theorem laws_markHap0 (a : Option Addr) (cap k : Nat) (w : World) : Calls Tryz.prog 25 #[.slice a 0 cap, .int .i64 k] w fun e w' => e = .returned (.int .i64 k) ∧ w' = w := by
  go_enter Tryz.func25, Tryz.ntmps25
  go_wp2
  go_loopw [1, 5] (fun s t wr => t = .int .i64 0 ∧ s = .int .i64 k ∧ wr = w) (fun _ _ _ => 0)
  case atStart => exact ⟨rfl, rfl, rfl⟩
  case round =>
    obtain ⟨rfl, rfl, hw⟩ := hrel
    have hw := hw.symm
    subst hw
    go_wp2
    go_ret
    exact ⟨rfl, rfl⟩
/-- what happens, of one's own, numbered. -/
theorem mark_haps (X : List HapD) (v : Value) (base k : Nat) (w : World) (h : OwnsH w base v X) (h0 : 0 < k) (h1 : k + 3 * X.length < 1000000000) :
    Calls Tryz.prog 25 #[v, .int .i64 k] w fun e w' => e = .returned (.int .i64 ((k + 3 * X.length : Nat) : Int)) ∧ (∃ a cap, v = .slice a X.length cap ∧ SeqAt w' a 3 (mksHap k X.length)) ∧ Touch (fun b => v.ownBlock = some b) w w' := by
  rcases h.2 with ⟨hv, hn⟩ | ⟨g, cap, cur, hv, _⟩
  · subst hv
    rw [hn]
    refine (laws_markHap0 none 0 k w).mono ?_
    rintro e w' ⟨rfl, rfl⟩
    exact ⟨rfl, ⟨_, _, rfl, .inl rfl⟩, Touch.refl _ _⟩
  · subst hv
    refine (laws_markHapS X.length g cap k w (room_of_owns h) h0 h1).mono ?_
    rintro e w' ⟨rfl, hS, _, ht⟩
    exact ⟨rfl, ⟨_, _, rfl, hS⟩, ht.mono fun b _ hb => by rw [hb.1]; rfl⟩
theorem SeqAt.touchH {S : Nat → Prop} {w w' : World} {a : Option Addr} {n cap k : Nat} {rows : List (List Value)} (h : SeqAt w a k rows) (ht : Touch S w w') (hs : ∀ g, (Value.slice a n cap).ownBlock = some g → ¬ S g) : SeqAt w' a k rows := by
  rcases h with h | ⟨b, o, rfl, h⟩
  · exact .inl h
  · exact .inr ⟨b, o, rfl, fun i j r c hi hj => ht.cell (hs b rfl) (h i j r c hi hj)⟩
end Go.Proofs.YtbbhpfobcelbfaaGreatDoor
