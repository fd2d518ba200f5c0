/- The model's l01Split at a line feed: all lines of a text. -/
import Derived.Test.YteajdbnongpkfaaDoorJ1
import Derived.OwnWalk
namespace Go.Proofs.YteajdbnongpkfaaDoor
open Go.RowKit

set_option maxRecDepth 100000 in
theorem info9J : ∃ i : TypeInfo, Tryd.prog.info? 9 = some i ∧ i.zero = some (.string ⟨#[]⟩) ∧ i.size = 1 ∧ i.bytes = 16 := ⟨_, rfl, rfl, rfl, rfl⟩

theorem own_emptyJ (w : World) (t : TypeId) : (w.alloc (.cells #[] t)).ownsRow w.heap.size t 1 (.slice (some ⟨w.heap.size, 0, none⟩) 0 0) 0 [] :=
  ⟨rfl, .inr ⟨w.heap.size, 0, #[], rfl, Nat.le_refl _, (MapKept.heap_alloc w _).1, Nat.le_refl _, by unfold maxLen; omega, rfl, rfl⟩⟩
theorem own_blkJ {w : World} {base : Nat} {e : TypeId} {size : Nat} {v : Value} {n : Nat} {xs : List Value} (h : w.ownsRow base e size v n xs) : ∀ k, v.ownBlock = some k → base ≤ k := by
  intro k hk
  rcases h.2 with ⟨rfl, _⟩ | ⟨g, cap, cur, rfl, hg, _⟩
  · cases hk
  · simp [Value.ownBlock] at hk; omega
set_option maxHeartbeats 1000000 in
theorem spec_splitLf (s : ByteArray) (w : World) (hs : s.size ≤ 8000) :
    Calls Tryd.prog 20 #[.string s, .int .u8 10] w fun e w' => ∃ v, e = .returned v ∧ w'.ownsRow w.heap.size 9 1 v (lns s).length ((lns s).map Value.string) ∧ Below w.heap.size w w' := by
  obtain ⟨i0, hi, hz0, hz1, hz2⟩ := info9J
  go_enter Tryd.func20, Tryd.ntmps20
  go_wp2
  go_loopw [5, 6, 7] (fun v f i wr => ∃ k : Nat, k ≤ s.size ∧ i = .int .i64 k ∧ f = .int .i64 (lfs s k).2 ∧ wr.ownsRow w.heap.size 9 1 v (lfs s k).1.length ((lfs s k).1.map Value.string) ∧ Below w.heap.size w wr) (fun _ _ i _ => s.size - (intOf i).toNat)
  case atStart => exact ⟨0, by omega, rfl, rfl, own_emptyJ _ _, (Below.refl _ _).alloc (Nat.le_refl _) _⟩
  case round =>
    obtain ⟨k, hk, rfl, rfl, hown, hB⟩ := hrel
    have ⟨b1, b2⟩ := lfs_bd s k
    have hsz := hB.size
    by_cases hlt : k < s.size
    · have e := byteAt_eq s k hlt
      by_cases hc : byteAt s k = 10
      · have HS : Hid (lfs s (k + 1) = ((lfs s k).1 ++ [s.extract (lfs s k).2 k], k + 1)) := lfs_hit hc
        rw [← e] at hc
        have hc' : ((s[k].toNat : Int) == 10) = true := by rw [hc]; rfl
        clear e hc
        generalize (lfs s k).2 = f at *
        generalize (lfs s k).1 = o at *
        go_wp2_with (first
          | (at_builtin; refine wpList_append_own _ rfl _ _ 39 rfl w.heap.size 9 i0 (.string ⟨#[]⟩) 1 16 Tryd.underlying39 hi hz0 hz1 hz2 rfl (by decide) _ _ _ rfl (hown.alloc _) ⟨wr.heap.size, 0, none⟩ 1 1 [.string (s.extract f k)] rfl rfl ?c1 ?c2 ?c3 ?c4 ?c5 ?_)
          | fail)
        case c1 => exact cell_one_new _ _ _
        case c2 => intro u hu; simp at hu; subst hu; rfl
        case c3 => unfold maxLen; omega
        case c4 => omega
        case c5 => simp; omega
        · intro v' w1 hown' hgrow _
          have hB1 : Below w.heap.size w w1 := (hB.alloc hsz _).grown hgrow (by simp; omega) (own_blkJ hown)
          have HO : Hid (w1.ownsRow w.heap.size 9 1 v' (o ++ [s.extract f k]).length ((o ++ [s.extract f k]).map Value.string)) := by simpa [Hid] using hown'
          clear hgrow hown' hown
          go_wp2
          go_roundw
          case rel => exact ⟨k + 1, by omega, by go_num, by rw [HS.out]; go_num, by rw [HS.out]; exact HO.out, hB1⟩
          case measure => simp [intOf]; omega
      · have HS : Hid (lfs s (k + 1) = lfs s k) := lfs_miss hc
        rw [← e] at hc
        have hc' : ((s[k].toNat : Int) == 10) = false := by simpa using hc
        clear e hc
        go_wp2
        go_roundw
        case rel => exact ⟨k + 1, by omega, by go_num, by rw [HS.out], by rw [HS.out]; exact hown, hB⟩
        case measure => simp [intOf]; omega
    · have e : k = s.size := by omega
      subst e
      have HP : Hid (lns s = (lfs s s.size).1 ++ [s.extract (lfs s s.size).2 s.size]) := rfl
      generalize (lfs s s.size).2 = f at *
      generalize (lfs s s.size).1 = o at *
      go_wp2_with (first
          | (at_builtin; refine wpList_append_own _ rfl _ _ 39 rfl w.heap.size 9 i0 (.string ⟨#[]⟩) 1 16 Tryd.underlying39 hi hz0 hz1 hz2 rfl (by decide) _ _ _ rfl (hown.alloc _) ⟨wr.heap.size, 0, none⟩ 1 1 [.string (s.extract f s.size)] rfl rfl ?c1 ?c2 ?c3 ?c4 ?c5 ?_)
          | fail)
      case c1 => exact cell_one_new _ _ _
      case c2 => intro u hu; simp at hu; subst hu; rfl
      case c3 => unfold maxLen; omega
      case c4 => omega
      case c5 => simp; omega
      · intro v' w1 hown' hgrow _
        have hB1 : Below w.heap.size w w1 := (hB.alloc hsz _).grown hgrow (by simp; omega) (own_blkJ hown)
        have HO : Hid (w1.ownsRow w.heap.size 9 1 v' (lns s).length ((lns s).map Value.string)) := by rw [HP.out]; simpa [Hid] using hown'
        clear hgrow hown' hown
        go_wp2
        go_ret
        exact ⟨_, rfl, HO.out, hB1⟩
end Go.Proofs.YteajdbnongpkfaaDoor
