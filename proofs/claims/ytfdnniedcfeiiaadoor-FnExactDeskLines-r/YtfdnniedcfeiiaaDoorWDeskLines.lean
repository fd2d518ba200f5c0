/- The walk of the law FnExactDeskLines. -/
import Derived.Test.YtfdnniedcfeiiaaDoorD5
import Derived.Test.YtfdnniedcfeiiaaDoorD7
namespace Go.Proofs.YtfdnniedcfeiiaaDoor.deskLines
open Go.RowKit

theorem sep_blk {v0 v1 : Value} {m : Nat} (h0 : ∀ k, v0.ownBlock = some k → k < m) (h1 : ∀ k, v1.ownBlock = some k → m ≤ k) : v0.ownBlock = none ∨ v0.ownBlock ≠ v1.ownBlock := by
  cases e : v0.ownBlock with
  | none => exact .inl rfl
  | some g => right; intro e2; have := h0 g e; have := h1 g e2.symm; omega
theorem deskL_len (s : ByteArray) : (deskL s).length ≤ 8000 := by
  unfold deskL
  split
  · split
    · have := (lfs_bd s s.size).1; omega
    · simp
  · simp
set_option maxRecDepth 20000 in
set_option maxHeartbeats 4000000 in
theorem walk (s : ByteArray) (pE : Addr) (w : World) (hs : s.size ≤ maxLen) (hE : ErrAt w pE) :
    Calls Tryd.prog 3 #[.string s] w fun e w' => e = .returned (.bool true) ∧ Below w.heap.size w w' := by
  unfold maxLen at hs
  by_cases g : s.size ≤ 1048576
  · have hS := fun w => spec_DeskLines s w hs
    have hI := fun w (h : ErrAt w pE) => impl_DeskLines s pE w hs h
    have HL : (deskL s).length ≤ 8000 := deskL_len s
    have hErr : ∀ w', Below w.heap.size w w' → ErrAt w' pE := fun w' hb => by
      unfold ErrAt
      rw [hb.cell (p := ⟨0, 0, none⟩) (World.block_lt_of_cell? w _ hE)]; exact hE
    clear hE
    generalize deskL s = L at *
    obtain ⟨n, hn⟩ : ∃ n, L.length = n := ⟨_, rfl⟩
    go_enter Tryd.func3, Tryd.ntmps3
    go_wp2_with fail
    refine (hS _).mono ?_
    intro e w1 h1
    obtain ⟨v0, rfl, o0, hb1⟩ := h1.ex
    clear h1
    go_wp2_with fail
    refine (hI _ (hErr _ hb1)).mono ?_
    intro e w2 h2
    obtain ⟨v1, rfl, o1, hb2⟩ := h2.ex
    clear h2
    have hB2 := hb1.trans (hb2.mono hb1.size)
    have o0z : ∀ k, v0.ownBlock = some k → k < w1.heap.size := fun k hk => (World.ownsRow.lt o0 k hk).2
    have o0 := own_below o0 hb2
    have o1z : ∀ k, v1.ownBlock = some k → w1.heap.size ≤ k := own_blkJ o1
    go_wp2_with fail
    refine (laws_eqStringS L _ _ _ _ _ o1 o0 HL).mono ?_
    rintro e w3 ⟨rfl, hb3⟩
    have hB3 := hB2.trans (hb3.mono hB2.size)
    have o0 := own_below o0 hb3
    have o1 := own_below o1 hb3
    go_wp2_with fail
    refine (laws_markStringS _ _ _ 1 _ _ o1 (by omega) (by omega)).mono ?_
    rintro e w4 ⟨rfl, o1m, hg4⟩
    have hB4 : Below w.heap.size w w4 := hB3.grown hg4 hB3.size fun k hk => Nat.le_trans hb1.size (o1z k hk)
    have o0 := o0.kept hg4 (sep_blk o0z o1z)
    clear hg4 o1
    go_wp2_with fail
    refine (laws_heldStringS _ _ 1 _ _ o1m (by omega) (by omega)).mono ?_
    rintro e w5 ⟨rfl, hb5⟩
    have hB5 := hB4.trans (hb5.mono hB4.size)
    have o0 := own_below o0 hb5
    have o1m := own_below o1m hb5
    rw [hn] at o1m HL
    have hq : ¬ (((1 + n : Nat) : Int) < 0) := by omega
    rw [hn]
    go_wp2_with fail
    refine (hI _ (hErr _ hB5)).mono ?_
    intro e w6 h6
    obtain ⟨v2, rfl, o2, hb6⟩ := h6.ex
    clear h6
    have hB6 := hB5.trans (hb6.mono hB5.size)
    have o0 := own_below o0 hb6
    have o1m := own_below o1m hb6
    go_wp2_with fail
    refine (laws_eqStringS L _ _ _ _ _ o2 o0 (by omega)).mono ?_
    rintro e w7 ⟨rfl, hb7⟩
    have hB7 := hB6.trans (hb7.mono hB6.size)
    have o1m := own_below o1m hb7
    go_wp2_with fail
    refine (laws_heldStringS _ _ 1 _ _ o1m (by omega) (by omega)).mono ?_
    rintro e w8 ⟨rfl, hb8⟩
    have hB8 := hB7.trans (hb8.mono hB7.size)
    go_wp2
    go_ret
    exact ⟨rfl, hB8⟩
  · go_enter Tryd.func3, Tryd.ntmps3
    go_wp2
    go_ret
    exact ⟨rfl, Below.refl _ _⟩
end Go.Proofs.YtfdnniedcfeiiaaDoor.deskLines
