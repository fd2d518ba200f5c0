/- The model's lines and words: safe, and the shape of what they tell. -/
import Derived.Test.YtcelbkmnbjcjhaaGreatRelAd
import Derived.Test.YtcelbkmnbjcjhaaGreatBaseAd
import Derived.OwnWalk
namespace Go.Proofs.YtcelbkmnbjcjhaaGreat
open Go.RowKit

/-- texts of one's own, none longer than K. -/
structure Strs (w : World) (base : Nat) (v : Value) (n K : Nat) : Prop where
 ex : ∃ L : List ByteArray, L.length = n ∧ w.ownsRow base 9 1 v L.length (L.map Value.string) ∧ ∀ x ∈ L, x.size ≤ K
set_option maxRecDepth 100000 in
theorem infoStrR : ∃ i : TypeInfo, Tryz.prog.info? 9 = some i ∧ i.zero = some (.string ⟨#[]⟩) ∧ i.size = 1 ∧ i.bytes = 16 := ⟨_, rfl, rfl, rfl, rfl⟩
theorem own_blkS {w : World} {base : Nat} {e : TypeId} {size : Nat} {v : Value} {n : Nat} {xs : List Value} (h : w.ownsRow base e size v n xs) : ∀ k, v.ownBlock = some k → base ≤ k := fun k hk => (World.ownsRow.lt h k hk).1
theorem strs_snoc {w : World} {base : Nat} {v : Value} {L : List ByteArray} {x : ByteArray} {K : Nat} (h : w.ownsRow base 9 1 v (L.length + 1) (L.map Value.string ++ [.string x])) (hL : ∀ y ∈ L, y.size ≤ K) (hx : x.size ≤ K) : Strs w base v (L.length + 1) K :=
 ⟨L ++ [x], by simp, by simpa using h, fun y hy => by simp at hy; rcases hy with hy | rfl; exact hL y hy; exact hx⟩
/-- what the words of a line are, in memory. -/
structure WordsP (w : World) (e : Ending) (w' : World) : Prop where
 ex : ∃ v n, e = .returned v ∧ n ≤ 8001 ∧ Strs w' w.heap.size v n 8000 ∧ Below w.heap.size w w'
theorem ext_size (s : ByteArray) (i j : Nat) : (s.extract i j).size ≤ s.size := by rw [ByteArray.size_extract]; omega
set_option maxHeartbeats 2000000 in
theorem split_rows (s : ByteArray) (w : World) (hs : s.size ≤ 8000) :
  Calls Tryz.prog 61 #[.string s, .int .u8 10] w fun e w' => ∃ v n, e = .returned v ∧ 1 ≤ n ∧ n ≤ 8001 ∧ Strs w' w.heap.size v n 8000 ∧ Below w.heap.size w w' := by
 obtain ⟨i0, hi, hz0, hz1, hz2⟩ := infoStrR
 go_enter Tryz.func61, Tryz.ntmps61
 go_wp2
 go_loopw [5, 6, 7] (fun v f i wr => ∃ (k n m : Nat), k ≤ s.size ∧ i = .int .i64 k ∧ f = .int .i64 m ∧ m ≤ k ∧ n ≤ k ∧ Strs wr w.heap.size v n 8000 ∧ Below w.heap.size w wr) (fun _ _ i _ => s.size - (intOf i).toNat)
 case atStart => exact ⟨0, 0, 0, by omega, rfl, rfl, by omega, by omega, ⟨[], rfl, own_empty _ _ _, (fun x hx => by simp at hx)⟩, (Below.refl _ _).alloc (Nat.le_refl _) _⟩
 case round =>
  obtain ⟨k, n, f, hk, rfl, rfl, hf, hn, hst, hB⟩ := hrel
  obtain ⟨o, rfl, hown, ho⟩ := hst.ex
  have HOo : Hid (∀ x ∈ o, x.size ≤ 8000) := ho
  have hx8 : ∀ i j, (s.extract i j).size ≤ 8000 := fun i j => Nat.le_trans (ext_size s i j) hs
  have HX8 : Hid (∀ i j, (s.extract i j).size ≤ 8000) := hx8
  have hsz := hB.size
  clear hst ho hx8
  by_cases hlt : k < s.size
  ·
   by_cases hc : ((s[k].toNat : Int) == 10) = true
   ·
    skip
    go_wp2_with (first
     | (at_builtin; refine wpList_append_own _ rfl _ _ 96 rfl w.heap.size 9 i0 (.string ⟨#[]⟩) 1 16 Tryz.underlying96 hi hz0 hz1 hz2 rfl (by decide) _ _ _ rfl (hown.alloc _) ⟨wr.heap.size, 0, none⟩ 1 1 [.string (s.extract f k)] rfl rfl ?c1 ?c2 ?c3 ?c4 ?c5 ?_)
     | fail)
    case c1 => exact cell_one_new _ _ _
    case c2 => intro u hu; simp at hu; subst hu; rfl
    case c3 => unfold maxLen; omega
    case c4 => omega
    case c5 => simp; omega
    ·
     intro v' w1 hown' hgrow _
     have hB1 : Below w.heap.size w w1 := (hB.alloc hB.size _).grown hgrow (by have := hB.size; simp; omega) (own_blkS hown)
     have HO : Hid (Strs w1 w.heap.size v' (o.length + 1) 8000) := strs_snoc (by simpa using hown') HOo.out (HX8.out f k)
     clear hgrow hown' hown
     go_wp2
     go_roundw
     case rel => exact ⟨k + 1, o.length + 1, k + 1, by omega, by go_num, by go_num, by omega, by omega, HO.out, hB1⟩
     case measure => simp [intOf] <;> omega
   ·
    have hc' : ((s[k].toNat : Int) == 10) = false := by simpa using hc
    have HO : Hid (Strs wr w.heap.size _ o.length 8000) := ⟨o, rfl, hown, HOo.out⟩
    clear hc hown
    go_wp2
    go_roundw
    case rel => exact ⟨k + 1, o.length, f, by omega, by go_num, rfl, by omega, by omega, HO.out, hB⟩
    case measure => simp [intOf] <;> omega
  ·
   have e : k = s.size := by omega
   subst e
   go_wp2_with (first
    | (at_builtin; refine wpList_append_own _ rfl _ _ 96 rfl w.heap.size 9 i0 (.string ⟨#[]⟩) 1 16 Tryz.underlying96 hi hz0 hz1 hz2 rfl (by decide) _ _ _ rfl (hown.alloc _) ⟨wr.heap.size, 0, none⟩ 1 1 [.string (s.extract f s.size)] rfl rfl ?c1 ?c2 ?c3 ?c4 ?c5 ?_)
    | fail)
   case c1 => exact cell_one_new _ _ _
   case c2 => intro u hu; simp at hu; subst hu; rfl
   case c3 => unfold maxLen; omega
   case c4 => omega
   case c5 => simp; omega
   ·
    intro v' w1 hown' hgrow _
    have hB1 : Below w.heap.size w w1 := (hB.alloc hB.size _).grown hgrow (by have := hB.size; simp; omega) (own_blkS hown)
    have HO : Hid (Strs w1 w.heap.size v' (o.length + 1) 8000) := strs_snoc (by simpa using hown') HOo.out (HX8.out f s.size)
    clear hgrow hown' hown
    go_wp2
    go_ret
    exact ⟨_, _, rfl, by omega, by omega, HO.out, hB1⟩
set_option maxRecDepth 20000 in
set_option maxHeartbeats 4000000 in
theorem words_rows (s : ByteArray) (w : World) (hs : s.size ≤ 8000) :
  Calls Tryz.prog 62 #[.string s] w fun e w' => WordsP w e w' := by
 obtain ⟨i0, hi, hz0, hz1, hz2⟩ := infoStrR
 go_enter Tryz.func62, Tryz.ntmps62
 go_wp2
 go_loopw [3, 4, 5] (fun v x i wr => ∃ (k n : Nat) (t : ByteArray), k ≤ s.size + 1 ∧ i = .int .i64 k ∧ x = .string t ∧ t.size ≤ k ∧ n ≤ k ∧ Strs wr w.heap.size v n 8000 ∧ Below w.heap.size w wr) (fun _ _ i _ => s.size + 1 - (intOf i).toNat)
 case atStart => exact ⟨0, 0, ⟨#[]⟩, by omega, rfl, rfl, Nat.le_refl _, by omega, ⟨[], rfl, own_empty _ _ _, (fun x hx => by simp at hx)⟩, (Below.refl _ _).alloc (Nat.le_refl _) _⟩
 case round =>
  obtain ⟨k, n, t, hk, rfl, rfl, ht, hn, hst, hB⟩ := hrel
  obtain ⟨o, rfl, hown, ho⟩ := hst.ex
  have HOo : Hid (∀ x ∈ o, x.size ≤ 8000) := ho
  have HO0 : Hid (Strs wr w.heap.size _ o.length 8000) := ⟨o, rfl, hown, ho⟩
  have hsz := hB.size
  clear hst ho
  by_cases hend : k = s.size + 1
  ·
   have h1 : ¬ (k : Int) ≤ (s.size : Int) := by omega
   clear hown
   go_wp2
   go_ret
   exact ⟨⟨_, _, rfl, by omega, HO0.out, hB⟩⟩
  ·
   have h1 : (k : Int) ≤ (s.size : Int) := by omega
   by_cases hlast : k = s.size
   ·
    subst hlast
    cases hx : t.toList.isEmpty with
    | true =>
     clear hown
     go_wp2
     go_roundw
     case rel => exact ⟨s.size + 1, o.length, ⟨#[]⟩, by omega, by go_num, rfl, Nat.zero_le _, by omega, HO0.out, hB⟩
     case measure => simp [intOf] <;> omega
    | false =>
     go_wp2_with (first
      | (at_builtin; refine wpList_append_own _ rfl _ _ 96 rfl w.heap.size 9 i0 (.string ⟨#[]⟩) 1 16 Tryz.underlying96 hi hz0 hz1 hz2 rfl (by decide) _ _ _ rfl (hown.alloc _) ⟨wr.heap.size, 0, none⟩ 1 1 [.string (t)] rfl rfl ?c1 ?c2 ?c3 ?c4 ?c5 ?_)
      | fail)
     case c1 => exact cell_one_new _ _ _
     case c2 => intro u hu; simp at hu; subst hu; rfl
     case c3 => unfold maxLen; omega
     case c4 => omega
     case c5 => simp; omega
     ·
      intro v' w1 hown' hgrow _
      have hB1 : Below w.heap.size w w1 := (hB.alloc hB.size _).grown hgrow (by have := hB.size; simp; omega) (own_blkS hown)
      have HO : Hid (Strs w1 w.heap.size v' (o.length + 1) 8000) := strs_snoc (by simpa using hown') HOo.out (by omega)
      clear hgrow hown' hown
      go_wp2
      go_roundw
      case rel => exact ⟨s.size + 1, o.length + 1, ⟨#[]⟩, by omega, by go_num, rfl, Nat.zero_le _, by omega, HO.out, hB1⟩
      case measure => simp [intOf] <;> omega
   ·
    have hlt : k < s.size := by omega
    have hne : ¬ (k : Int) = (s.size : Int) := by omega
    by_cases hc3 : ((s[k].toNat : Int) == 35) = true
    ·
     have e3 : (s[k].toNat : Int) = 35 := by simpa using hc3
     have hc1 : ((s[k].toNat : Int) == 32) = false := by rw [e3]; rfl
     have hc2 : ((s[k].toNat : Int) == 9) = false := by rw [e3]; rfl
     clear e3
     cases hx : t.toList.isEmpty with
     | true =>
      clear hown
      go_wp2
      go_ret
      exact ⟨⟨_, _, rfl, by omega, HO0.out, hB⟩⟩
     | false =>
      go_wp2_with (first
       | (at_builtin; refine wpList_append_own _ rfl _ _ 96 rfl w.heap.size 9 i0 (.string ⟨#[]⟩) 1 16 Tryz.underlying96 hi hz0 hz1 hz2 rfl (by decide) _ _ _ rfl (hown.alloc _) ⟨wr.heap.size, 0, none⟩ 1 1 [.string (t)] rfl rfl ?c1 ?c2 ?c3 ?c4 ?c5 ?_)
       | fail)
      case c1 => exact cell_one_new _ _ _
      case c2 => intro u hu; simp at hu; subst hu; rfl
      case c3 => unfold maxLen; omega
      case c4 => omega
      case c5 => simp; omega
      ·
       intro v' w1 hown' hgrow _
       have hB1 : Below w.heap.size w w1 := (hB.alloc hB.size _).grown hgrow (by have := hB.size; simp; omega) (own_blkS hown)
       have HO : Hid (Strs w1 w.heap.size v' (o.length + 1) 8000) := strs_snoc (by simpa using hown') HOo.out (by omega)
       clear hgrow hown' hown
       go_wp2
       go_ret
       exact ⟨⟨_, _, rfl, by omega, HO.out, hB1⟩⟩
    ·
     have hc3' : ((s[k].toNat : Int) == 35) = false := by simpa using hc3
     clear hc3
     by_cases hc1 : ((s[k].toNat : Int) == 32) = true
     ·
      skip
      cases hx : t.toList.isEmpty with
      | true =>
       clear hown
       go_wp2
       go_roundw
       case rel => exact ⟨k + 1, o.length, ⟨#[]⟩, by omega, by go_num, rfl, Nat.zero_le _, by omega, HO0.out, hB⟩
       case measure => simp [intOf] <;> omega
      | false =>
       go_wp2_with (first
        | (at_builtin; refine wpList_append_own _ rfl _ _ 96 rfl w.heap.size 9 i0 (.string ⟨#[]⟩) 1 16 Tryz.underlying96 hi hz0 hz1 hz2 rfl (by decide) _ _ _ rfl (hown.alloc _) ⟨wr.heap.size, 0, none⟩ 1 1 [.string (t)] rfl rfl ?c1 ?c2 ?c3 ?c4 ?c5 ?_)
        | fail)
       case c1 => exact cell_one_new _ _ _
       case c2 => intro u hu; simp at hu; subst hu; rfl
       case c3 => unfold maxLen; omega
       case c4 => omega
       case c5 => simp; omega
       ·
        intro v' w1 hown' hgrow _
        have hB1 : Below w.heap.size w w1 := (hB.alloc hB.size _).grown hgrow (by have := hB.size; simp; omega) (own_blkS hown)
        have HO : Hid (Strs w1 w.heap.size v' (o.length + 1) 8000) := strs_snoc (by simpa using hown') HOo.out (by omega)
        clear hgrow hown' hown
        go_wp2
        go_roundw
        case rel => exact ⟨k + 1, o.length + 1, ⟨#[]⟩, by omega, by go_num, rfl, Nat.zero_le _, by omega, HO.out, hB1⟩
        case measure => simp [intOf] <;> omega
     ·
      have hc1' : ((s[k].toNat : Int) == 32) = false := by simpa using hc1
      clear hc1
      by_cases hc2 : ((s[k].toNat : Int) == 9) = true
      ·
       skip
       cases hx : t.toList.isEmpty with
       | true =>
        clear hown
        go_wp2
        go_roundw
        case rel => exact ⟨k + 1, o.length, ⟨#[]⟩, by omega, by go_num, rfl, Nat.zero_le _, by omega, HO0.out, hB⟩
        case measure => simp [intOf] <;> omega
       | false =>
        go_wp2_with (first
         | (at_builtin; refine wpList_append_own _ rfl _ _ 96 rfl w.heap.size 9 i0 (.string ⟨#[]⟩) 1 16 Tryz.underlying96 hi hz0 hz1 hz2 rfl (by decide) _ _ _ rfl (hown.alloc _) ⟨wr.heap.size, 0, none⟩ 1 1 [.string (t)] rfl rfl ?c1 ?c2 ?c3 ?c4 ?c5 ?_)
         | fail)
        case c1 => exact cell_one_new _ _ _
        case c2 => intro u hu; simp at hu; subst hu; rfl
        case c3 => unfold maxLen; omega
        case c4 => omega
        case c5 => simp; omega
        ·
         intro v' w1 hown' hgrow _
         have hB1 : Below w.heap.size w w1 := (hB.alloc hB.size _).grown hgrow (by have := hB.size; simp; omega) (own_blkS hown)
         have HO : Hid (Strs w1 w.heap.size v' (o.length + 1) 8000) := strs_snoc (by simpa using hown') HOo.out (by omega)
         clear hgrow hown' hown
         go_wp2
         go_roundw
         case rel => exact ⟨k + 1, o.length + 1, ⟨#[]⟩, by omega, by go_num, rfl, Nat.zero_le _, by omega, HO.out, hB1⟩
         case measure => simp [intOf] <;> omega
      ·
       have hc2' : ((s[k].toNat : Int) == 9) = false := by simpa using hc2
       clear hc2 hown
       go_wp2
       go_roundw
       case rel => exact ⟨k + 1, o.length, _, by omega, by go_num, rfl, by rw [ByteArray.size_append, ByteArray.size_extract]; omega, by omega, HO0.out, hB⟩
       case measure => simp [intOf] <;> omega
end Go.Proofs.YtcelbkmnbjcjhaaGreat
