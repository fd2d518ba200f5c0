/- The contract of the model's l01Split at a colon: the parts of a text. -/
import Derived.Test.YtibhbpgnjikjnaaDoorDigs
import Derived.OwnWalk
namespace Go.Proofs.YtibhbpgnjikjnaaDoor
open Go.RowKit

/-- the parts behind the first k bytes, and where the last one begins. -/
def scan (s : ByteArray) : Nat → List ByteArray × Nat
  | 0 => ([], 0)
  | k + 1 => if byteAt s k = 58 then ((scan s k).1 ++ [s.extract (scan s k).2 k], k + 1) else scan s k
def parts (s : ByteArray) : List ByteArray := (scan s s.size).1 ++ [s.extract (scan s s.size).2 s.size]
theorem scan_bd (s : ByteArray) (k : Nat) : (scan s k).1.length ≤ k ∧ (scan s k).2 ≤ k := by
  induction k with
  | zero => simp [scan]
  | succ k ih =>
    simp only [scan]
    split
    · simp; omega
    · omega
theorem scan_hit {s : ByteArray} {k : Nat} (h : byteAt s k = 58) : scan s (k + 1) = ((scan s k).1 ++ [s.extract (scan s k).2 k], k + 1) := by simp only [scan]; rw [if_pos h]
theorem scan_miss {s : ByteArray} {k : Nat} (h : byteAt s k ≠ 58) : scan s (k + 1) = scan s k := by simp only [scan]; rw [if_neg h]

set_option maxRecDepth 100000 in
theorem info9 : ∃ i : TypeInfo, Tryd.prog.info? 9 = some i ∧ i.zero = some (.string ⟨#[]⟩) ∧ i.size = 1 ∧ i.bytes = 16 := ⟨_, rfl, rfl, rfl, rfl⟩

theorem own_emptyS (w : World) (t : TypeId) : (w.alloc (.cells #[] t)).ownsRow w.heap.size t 1 (.slice (some ⟨w.heap.size, 0, none⟩) 0 0) 0 [] :=
  ⟨rfl, .inr ⟨w.heap.size, 0, #[], rfl, Nat.le_refl _, (MapKept.heap_alloc w _).1, Nat.le_refl _, by unfold maxLen; omega, rfl, rfl⟩⟩
theorem own_blk {w : World} {base : Nat} {e : TypeId} {size : Nat} {v : Value} {n : Nat} {xs : List Value} (h : w.ownsRow base e size v n xs) : ∀ k, v.ownBlock = some k → base ≤ k := by
  intro k hk
  rcases h.2 with ⟨rfl, _⟩ | ⟨g, cap, cur, rfl, hg, _⟩
  · cases hk
  · simp [Value.ownBlock] at hk; omega
set_option maxHeartbeats 1000000 in
theorem spec_l01Split (s : ByteArray) (w : World) (hs : s.size ≤ 8000) :
    Calls Tryd.prog 102 #[.string s, .int .u8 58] w fun e w' => ∃ v, e = .returned v ∧ w'.ownsRow w.heap.size 9 1 v (parts s).length ((parts s).map Value.string) ∧ Below w.heap.size w w' := by
  obtain ⟨i0, hi, hz0, hz1, hz2⟩ := info9
  go_enter Tryd.func102, Tryd.ntmps102
  go_wp2
  go_loopw [5, 6, 7] (fun v f i wr => ∃ k : Nat, k ≤ s.size ∧ i = .int .i64 k ∧ f = .int .i64 (scan s k).2 ∧ wr.ownsRow w.heap.size 9 1 v (scan s k).1.length ((scan s k).1.map Value.string) ∧ Below w.heap.size w wr) (fun _ _ i _ => s.size - (intOf i).toNat)
  case atStart => exact ⟨0, by omega, rfl, rfl, own_emptyS _ _, (Below.refl _ _).alloc (Nat.le_refl _) _⟩
  case round =>
    obtain ⟨k, hk, rfl, rfl, hown, hB⟩ := hrel
    have ⟨b1, b2⟩ := scan_bd s k
    have hsz := hB.size
    by_cases hlt : k < s.size
    · have e := byteAt_eq s k hlt
      by_cases hc : byteAt s k = 58
      · have HS : Hid (scan s (k + 1) = ((scan s k).1 ++ [s.extract (scan s k).2 k], k + 1)) := scan_hit hc
        rw [← e] at hc
        have hc' : ((s[k].toNat : Int) == 58) = true := by rw [hc]; rfl
        clear e hc
        generalize (scan s k).2 = f at *
        generalize (scan s k).1 = o at *
        go_wp2_with (first
          | (at_builtin; refine wpList_append_own _ rfl _ _ 36 rfl w.heap.size 9 i0 (.string ⟨#[]⟩) 1 16 Tryd.underlying36 hi hz0 hz1 hz2 rfl (by decide) _ _ _ rfl (hown.alloc _) ⟨wr.heap.size, 0, none⟩ 1 1 [.string (s.extract f k)] rfl rfl ?c1 ?c2 ?c3 ?c4 ?c5 ?_)
          | fail)
        case c1 => exact cell_one_new _ _ _
        case c2 => intro u hu; simp at hu; subst hu; rfl
        case c3 => unfold maxLen; omega
        case c4 => omega
        case c5 => simp; omega
        · intro v' w1 hown' hgrow _
          have hB1 : Below w.heap.size w w1 := (hB.alloc hsz _).grown hgrow (by simp; omega) (own_blk hown)
          have HO : Hid (w1.ownsRow w.heap.size 9 1 v' (o ++ [s.extract f k]).length ((o ++ [s.extract f k]).map Value.string)) := by simpa [Hid] using hown'
          clear hgrow hown' hown
          go_wp2
          go_roundw
          case rel => exact ⟨k + 1, by omega, by go_num, by rw [HS.out]; go_num, by rw [HS.out]; exact HO.out, hB1⟩
          case measure => simp [intOf]; omega
      · have HS : Hid (scan s (k + 1) = scan s k) := scan_miss hc
        rw [← e] at hc
        have hc' : ((s[k].toNat : Int) == 58) = false := by simpa using hc
        clear e hc
        go_wp2
        go_roundw
        case rel => exact ⟨k + 1, by omega, by go_num, by rw [HS.out], by rw [HS.out]; exact hown, hB⟩
        case measure => simp [intOf]; omega
    · have e : k = s.size := by omega
      subst e
      have HP : Hid (parts s = (scan s s.size).1 ++ [s.extract (scan s s.size).2 s.size]) := rfl
      generalize (scan s s.size).2 = f at *
      generalize (scan s s.size).1 = o at *
      go_wp2_with (first
          | (at_builtin; refine wpList_append_own _ rfl _ _ 36 rfl w.heap.size 9 i0 (.string ⟨#[]⟩) 1 16 Tryd.underlying36 hi hz0 hz1 hz2 rfl (by decide) _ _ _ rfl (hown.alloc _) ⟨wr.heap.size, 0, none⟩ 1 1 [.string (s.extract f s.size)] rfl rfl ?c1 ?c2 ?c3 ?c4 ?c5 ?_)
          | fail)
      case c1 => exact cell_one_new _ _ _
      case c2 => intro u hu; simp at hu; subst hu; rfl
      case c3 => unfold maxLen; omega
      case c4 => omega
      case c5 => simp; omega
      · intro v' w1 hown' hgrow _
        have hB1 : Below w.heap.size w w1 := (hB.alloc hsz _).grown hgrow (by simp; omega) (own_blk hown)
        have HO : Hid (w1.ownsRow w.heap.size 9 1 v' (parts s).length ((parts s).map Value.string)) := by rw [HP.out]; simpa [Hid] using hown'
        clear hgrow hown' hown
        go_wp2
        go_ret
        exact ⟨_, rfl, HO.out, hB1⟩
end Go.Proofs.YtibhbpgnjikjnaaDoor
