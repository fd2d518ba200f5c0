/- Packed: Txt1 Txt3 Txt4 Txt5 Held Txt6 Txt7 Txt8. -/
import Derived.Test.YtjdokmllidhapaaGreatDoorOffText
import Derived.Test.YtjdokmllidhapaaGreatDoorTimeText
import Derived.Test.YtjdokmllidhapaaGreatDoorRelRel2
import Derived.Test.YtjdokmllidhapaaGreatDoorOn1
import Derived.Test.YtjdokmllidhapaaGreatDoorShelf
import Derived.OwnWalk
import Derived.Deep.RegionHeld3
import Derived.Test.YtjdokmllidhapaaGreatDoorBasic
import Derived.Test.YtjdokmllidhapaaGreatDoorRelZone2
namespace Go.Proofs.YtjdokmllidhapaaGreatDoor
open Go.RowKit Go.Sort

def dashB (b : ByteArray) : ByteArray := if b.toList.isEmpty = true then ⟨#[45]⟩ else b
theorem dash_y {b : ByteArray} (h : b.toList.isEmpty = true) : dashB b = ⟨#[45]⟩ := if_pos h
theorem dash_n {b : ByteArray} (h : b.toList.isEmpty = false) : dashB b = b := by unfold dashB; rw [h]; rfl
def tmB (n : Int) (of : ByteArray) : ByteArray := if (of.toList == [119]) = true then S (offV n) else S (offV n) ++ of
theorem tm_y {n : Int} {b : ByteArray} (h : (b.toList == [119]) = true) : tmB n b = S (offV n) := if_pos h
theorem tm_n {n : Int} {b : ByteArray} (h : (b.toList == [119]) = false) : tmB n b = S (offV n) ++ b := by unfold tmB; rw [h]; rfl
theorem nil_app (a : ByteArray) : a ++ ⟨#[]⟩ = a := by
  apply ByteArray.ext
  simp
def monB (m : Int) : ByteArray :=
  if m = 1 then ⟨#[74, 97, 110]⟩ else if m = 2 then ⟨#[70, 101, 98]⟩ else if m = 3 then ⟨#[77, 97, 114]⟩ else if m = 4 then ⟨#[65, 112, 114]⟩ else
  if m = 5 then ⟨#[77, 97, 121]⟩ else if m = 6 then ⟨#[74, 117, 110]⟩ else if m = 7 then ⟨#[74, 117, 108]⟩ else if m = 8 then ⟨#[65, 117, 103]⟩ else
  if m = 9 then ⟨#[83, 101, 112]⟩ else if m = 10 then ⟨#[79, 99, 116]⟩ else if m = 11 then ⟨#[78, 111, 118]⟩ else ⟨#[68, 101, 99]⟩
theorem offL_len {s : Nat} (h : s ≤ 604800) : (offL s).length ≤ 100 := by
  have l1 := dd_len (n := s / 3600) (by omega)
  have l2 := padL_len (u := s / 60 % 60) (k := 2) (by omega) (by omega)
  have l3 := padL_len (u := s % 60) (k := 2) (by omega) (by omega)
  unfold offL
  split <;> simp <;> omega
theorem offV_len (n : Int) : (S (offV n)).size ≤ 101 := by
  rw [S_size]
  unfold offV
  split
  · rename_i h
    have := isB_of_t h
    split
    · have := offL_len (s := n.natAbs) (by omega)
      simp; omega
    · have := offL_len (s := n.toNat) (by omega)
      omega
  · simp
set_option maxHeartbeats 1000000 in
theorem impl_letterText (b : ByteArray) (w : World) :
    Calls Tryz.prog 161 #[.string b] w fun e w' => e = .returned (.string (dashB b)) ∧ w' = w := by
  cases h : b.toList.isEmpty
  · have HZ : Hid (dashB b = b) := dash_n h
    go_enter Tryz.func161, Tryz.ntmps161
    go_wp2
    go_ret
    exact ⟨ret_str HZ.out.symm, rfl⟩
  · have HZ : Hid (dashB b = ⟨#[45]⟩) := dash_y h
    go_enter Tryz.func161, Tryz.ntmps161
    go_wp2
    go_ret
    exact ⟨ret_str HZ.out.symm, rfl⟩
set_option maxHeartbeats 1000000 in
theorem spec_l02Dash (b : ByteArray) (w : World) :
    Calls Tryz.prog 152 #[.string b] w fun e w' => e = .returned (.string (dashB b)) ∧ w' = w := by
  cases h : b.toList.isEmpty
  · have HZ : Hid (dashB b = b) := dash_n h
    go_enter Tryz.func152, Tryz.ntmps152
    go_wp2
    go_ret
    exact ⟨ret_str HZ.out.symm, rfl⟩
  · have HZ : Hid (dashB b = ⟨#[45]⟩) := dash_y h
    go_enter Tryz.func152, Tryz.ntmps152
    go_wp2
    go_ret
    exact ⟨ret_str HZ.out.symm, rfl⟩
set_option maxHeartbeats 1000000 in
theorem impl_timeOfText (n : Int) (b : ByteArray) (w : World) (hP : Pow w) (hb : b.size ≤ 8000) :
    Calls Tryz.prog 159 #[.int .i64 n, .string b] w fun e w' => e = .returned (.string (tmB n b)) ∧ Below w.heap.size w w' := by
  have hO := fun w hP => impl_OffsetText n w hP
  have l := offV_len n
  cases h : (b.toList == [119])
  · have HZ : Hid (tmB n b = S (offV n) ++ b) := tm_n h
    generalize S (offV n) = o at *
    go_enter Tryz.func159, Tryz.ntmps159
    go_wp2_with fail
    refine (hO _ hP).mono ?_
    rintro e w1 ⟨rfl, hb1⟩
    go_wp2
    go_ret
    exact ⟨ret_str HZ.out.symm, hb1⟩
  · have HZ : Hid (tmB n b = S (offV n)) := tm_y h
    generalize S (offV n) = o at *
    go_enter Tryz.func159, Tryz.ntmps159
    go_wp2_with fail
    refine (hO _ hP).mono ?_
    rintro e w1 ⟨rfl, hb1⟩
    go_wp2
    go_ret
    exact ⟨ret_str HZ.out.symm, hb1⟩
set_option maxHeartbeats 1000000 in
theorem spec_l02TimeText (n : Int) (b : ByteArray) (w : World) (hb : b.size ≤ 8000) :
    Calls Tryz.prog 150 #[.int .i64 n, .string b] w fun e w' => e = .returned (.string (tmB n b)) ∧ Below w.heap.size w w' := by
  have hO := fun w => spec_OffsetText n w
  have l := offV_len n
  cases h : (b.toList == [119])
  · have HZ : Hid (tmB n b = S (offV n) ++ b) := tm_n h
    generalize S (offV n) = o at *
    go_enter Tryz.func150, Tryz.ntmps150
    go_wp2_with fail
    refine (hO _).mono ?_
    rintro e w1 ⟨rfl, hb1⟩
    go_wp2
    go_ret
    exact ⟨ret_str HZ.out.symm, hb1⟩
  · have HZ : Hid (tmB n b = S (offV n)) := tm_y h
    generalize S (offV n) = o at *
    go_enter Tryz.func150, Tryz.ntmps150
    go_wp2_with fail
    refine (hO _).mono ?_
    rintro e w1 ⟨rfl, hb1⟩
    go_wp2
    go_ret
    exact ⟨ret_str (by rw [HZ.out]; exact nil_app _), hb1⟩
theorem mon_cases {m : Int} (h1 : 1 ≤ m) (h2 : m ≤ 12) : m = 1 ∨ m = 2 ∨ m = 3 ∨ m = 4 ∨ m = 5 ∨ m = 6 ∨ m = 7 ∨ m = 8 ∨ m = 9 ∨ m = 10 ∨ m = 11 ∨ m = 12 := by omega
theorem monB_len {m : Int} (h1 : 1 ≤ m) (h2 : m ≤ 12) : (monB m).size = 3 := by
  rcases mon_cases h1 h2 with rfl | rfl | rfl | rfl | rfl | rfl | rfl | rfl | rfl | rfl | rfl | rfl <;> rfl
abbrev monS : ByteArray := ⟨#[74, 97, 110, 70, 101, 98, 77, 97, 114, 65, 112, 114, 77, 97, 121, 74, 117, 110, 74, 117, 108, 65, 117, 103, 83, 101, 112, 79, 99, 116, 78, 111, 118, 68, 101, 99]⟩
theorem mon_ex {m : Nat} (h : m < 12) : monS.extract (m * 3) ((m + 1) * 3) = monB (m + 1 : Nat) := by
  obtain rfl | rfl | rfl | rfl | rfl | rfl | rfl | rfl | rfl | rfl | rfl | rfl : m = 0 ∨ m = 1 ∨ m = 2 ∨ m = 3 ∨ m = 4 ∨ m = 5 ∨ m = 6 ∨ m = 7 ∨ m = 8 ∨ m = 9 ∨ m = 10 ∨ m = 11 := by omega
  all_goals decide
set_option maxHeartbeats 4000000 in
theorem impl_monthText (m : Nat) (w : World) (h1 : 1 ≤ m) (h2 : m ≤ 12) :
    Calls Tryz.prog 158 #[.int .i64 m] w fun e w' => e = .returned (.string (monB m)) ∧ w' = w := by
  obtain ⟨k, rfl⟩ : ∃ k, m = k + 1 := ⟨m - 1, by omega⟩
  have hN := fun w => impl_shortName monS k w (by show (k + 1) * 3 ≤ 36; omega) (by decide)
  have HZ : Hid (monS.extract (k * 3) ((k + 1) * 3) = monB (k + 1 : Nat)) := mon_ex (by omega)
  rw [HZ.out] at hN
  go_enter Tryz.func158, Tryz.ntmps158
  go_wp2_with fail
  refine (hN _).mono ?_
  rintro e w' ⟨rfl, rfl⟩
  go_wp2
  go_ret
  exact ⟨rfl, rfl⟩
set_option maxHeartbeats 1000000 in
theorem spec_l02Months (w : World) :
    Calls Tryz.prog 149 #[] w fun e w' => e = .returned (.slice (some ⟨w.heap.size, 0, none⟩) 12 12) ∧ Below w.heap.size w w' ∧ ∀ m : Nat, 1 ≤ m → m ≤ 12 → w'.cell? ⟨w.heap.size, m - 1, none⟩ = some (.string (monB m)) := by
  have hB := fun o => (Below.refl w.heap.size w).alloc (Nat.le_refl _) o
  go_enter Tryz.func149, Tryz.ntmps149
  go_wp2
  go_ret
  refine ⟨rfl, hB _, fun m h1 h2 => ?_⟩
  obtain rfl | rfl | rfl | rfl | rfl | rfl | rfl | rfl | rfl | rfl | rfl | rfl : m = 1 ∨ m = 2 ∨ m = 3 ∨ m = 4 ∨ m = 5 ∨ m = 6 ∨ m = 7 ∨ m = 8 ∨ m = 9 ∨ m = 10 ∨ m = 11 ∨ m = 12 := by omega
  all_goals simp [go_sem, monB]
end Go.Proofs.YtjdokmllidhapaaGreatDoor
namespace Go.Proofs.YtjdokmllidhapaaGreatDoor
open Go.RowKit Go.Sort

def lineB (xs : List ByteArray) : ByteArray := S (Lib.join (xs.map (·.data.toList)) [32] ++ [10])
def toB (lo hi : Nat) : ByteArray := if hi = lo then ⟨#[111, 110, 108, 121]⟩ else if hi = 9999 then ⟨#[109, 97, 120]⟩ else S (Lib.decDigits hi)
theorem toB_len {lo hi : Nat} (h : hi ≤ 9999) : (toB lo hi).size ≤ 20 := by
  have := dd_len (n := hi) (by omega)
  unfold toB
  split
  · decide
  · split
    · decide
    · rw [S_size]; exact this
theorem tmB_len (n : Int) (b : ByteArray) (h : b.size ≤ 8000) : (tmB n b).size ≤ 8101 := by
  have := offV_len n
  unfold tmB
  split
  · omega
  · rw [ByteArray.size_append]; omega
theorem dashB_len (b : ByteArray) (h : b.size ≤ 8000) : (dashB b).size ≤ 8000 := by
  unfold dashB
  split
  · decide
  · exact h
set_option maxHeartbeats 1000000 in
theorem impl_lineText (xs : List ByteArray) (bk c : Nat) (w : World) (hc : ∀ (j : Nat) x, xs[j]? = some x → w.cell? ⟨bk, j, none⟩ = some (.string x)) (hb : bk < w.heap.size) (hn : xs.length ≤ 1000) (hcap : xs.length ≤ c) (hl : (Lib.join (xs.map (·.data.toList)) [32]).length ≤ 100000000) :
    Calls Tryz.prog 86 #[.slice (some ⟨bk, 0, none⟩) xs.length c] w fun e w' => e = .returned (.string (lineB xs)) ∧ Below w.heap.size w w' := by
  have hJ := Tryz.strings_Join bk 0 c xs ⟨#[32]⟩ w (fun j x hx => by rw [Nat.zero_add]; exact hc j x hx) hb (by omega) hcap (by show (Lib.join (xs.map (·.data.toList)) [32]).length ≤ _; omega)
  have HZ : Hid (lineB xs = S (Lib.join (xs.map (·.data.toList)) [32]) ++ ⟨#[10]⟩) := by show lineB xs = _; unfold lineB; rw [← S_append]
  have hsz : (S (Lib.join (xs.map (·.data.toList)) [32])).size ≤ 100000000 := by rw [S_size]; exact hl
  change Calls Tryz.prog 164 #[.slice (some ⟨bk, 0, none⟩) xs.length c, .string ⟨#[32]⟩] w fun e w' => e = .returned (.string (S (Lib.join (xs.map (·.data.toList)) [32]))) ∧ Below w.heap.size w w' at hJ
  generalize S (Lib.join (xs.map (·.data.toList)) [32]) = J at *
  clear hl
  generalize xs.length = n at *
  clear hc
  go_enter Tryz.func86, Tryz.ntmps86
  go_wp2_with fail
  refine hJ.mono ?_
  rintro e w1 ⟨rfl, hb1⟩
  go_wp2
  go_ret
  exact ⟨ret_str HZ.out.symm, hb1⟩
set_option maxHeartbeats 1000000 in
theorem impl_toText (nm on of lt : ByteArray) (lo hi m : Nat) (at_ sv : Int) (w : World) (h3 : hi ≤ 9999) (hP : Pow w) :
    Calls Tryz.prog 157 #[.agg #[.string nm, .int .i64 (lo : Int), .int .i64 (hi : Int), .int .i64 (m : Int), .string on, .int .i64 at_, .string of, .int .i64 sv, .string lt]] w fun e w' => e = .returned (.string (toB lo hi)) ∧ Below w.heap.size w w' := by
  have hB0 := (Below.refl w.heap.size w).alloc (Nat.le_refl _) (.cells #[.string nm, .int .i64 (lo : Int), .int .i64 (hi : Int), .int .i64 (m : Int), .string on, .int .i64 at_, .string of, .int .i64 sv, .string lt] 104)
  have hA := fun w hP => impl_padded hi 1 w (by omega) (by omega) hP
  rw [pad1] at hA
  by_cases e1 : hi = lo
  · have HZ : Hid (toB lo hi = ⟨#[111, 110, 108, 121]⟩) := if_pos e1
    have e1' : ((hi : Int) == (lo : Int)) = true := by simp [e1]
    clear e1
    go_enter Tryz.func157, Tryz.ntmps157
    go_wp2
    go_ret
    exact ⟨ret_str HZ.out.symm, hB0⟩
  have e1' : ((hi : Int) == (lo : Int)) = false := by simp; omega
  by_cases e2 : hi = 9999
  · have HZ : Hid (toB lo hi = ⟨#[109, 97, 120]⟩) := by show toB lo hi = _; unfold toB; rw [if_neg e1, if_pos e2]
    have e2' : ((hi : Int) == 9999) = true := by simp [e2]
    clear e1 e2
    go_enter Tryz.func157, Tryz.ntmps157
    go_wp2
    go_ret
    exact ⟨ret_str HZ.out.symm, hB0⟩
  have HZ : Hid (toB lo hi = S (Lib.decDigits hi)) := by show toB lo hi = _; unfold toB; rw [if_neg e1, if_neg e2]
  have e2' : ((hi : Int) == 9999) = false := by simp; omega
  clear e1 e2
  go_enter Tryz.func157, Tryz.ntmps157
  go_wp2_with fail
  refine (hA _ (hP.alloc _)).mono ?_
  rintro e w1 ⟨rfl, hb1⟩
  go_wp2
  go_ret
  exact ⟨ret_str HZ.out.symm, hB0.trans (hb1.mono hB0.size)⟩
theorem strs_cells (w : World) (t : TypeId) (xs : List ByteArray) : ∀ (j : Nat) x, xs[j]? = some x → (w.alloc (.cells (xs.map Value.string).toArray t)).cell? ⟨w.heap.size, j, none⟩ = some (.string x) := fun j x hx => by
  rw [Lib.cell_of_heap (heap_alloc_new w _)]; simp [hx]
theorem rule_len (nm A T M on X O D : ByteArray) (h1 : nm.size ≤ 20) (s1 : A.size ≤ 20) (s3 : T.size ≤ 20) (s4 : M.size ≤ 3) (h6 : on.size ≤ 1048576) (s5 : X.size ≤ 8101) (s6 : O.size ≤ 101) (s7 : D.size ≤ 8000) :
    (Lib.join ([⟨#[82, 117, 108, 101]⟩, nm, A, T, ⟨#[45]⟩, M, on, X, O, D].map (·.data.toList)) [32]).length ≤ 100000000 := by
  have e : ∀ b : ByteArray, b.data.toList.length = b.size := fun b => by rw [Array.length_toList]; rfl
  rw [List.map_cons, Lib.join_cons]
  simp [Lib.joinTail]
  have := e nm; have := e A; have := e T; have := e M; have := e on; have := e X; have := e O; have := e D
  simp only [Array.length_toList] at *
  omega
set_option maxRecDepth 20000 in
set_option maxHeartbeats 2000000 in
theorem impl_ruleText (nm on of lt : ByteArray) (lo hi m : Nat) (at_ sv : Int) (w : World) (hP : Pow w) (h1 : nm.size ≤ 20) (h2 : lo ≤ 9999) (h3 : hi ≤ 9999) (h4 : 1 ≤ m) (h5 : m ≤ 12) (h6 : on.size ≤ 1048576) (h7 : of.size ≤ 8000) (h8 : lt.size ≤ 8000) :
    Calls Tryz.prog 84 #[.agg #[.string nm, .int .i64 (lo : Int), .int .i64 (hi : Int), .int .i64 (m : Int), .string on, .int .i64 at_, .string of, .int .i64 sv, .string lt]] w fun e w' => e = .returned (.string (lineB [⟨#[82, 117, 108, 101]⟩, nm, S (Lib.decDigits lo), toB lo hi, ⟨#[45]⟩, monB m, on, tmB at_ of, S (offV sv), dashB lt])) ∧ Below w.heap.size w w' := by
  have hA := fun w hP => impl_padded lo 1 w (by omega) (by omega) hP
  rw [pad1] at hA
  have hT := fun w hP => impl_toText nm on of lt lo hi m at_ sv w h3 hP
  have hM := fun w => impl_monthText m w h4 h5
  have hX := fun w hP => impl_timeOfText at_ of w hP h7
  have hO := fun w hP => impl_OffsetText sv w hP
  have hD := fun w => impl_letterText lt w
  have s1 := dd_len (n := lo) (by omega)
  rw [← S_size] at s1
  have s3 := toB_len (lo := lo) h3
  have s4 : (monB m).size ≤ 3 := Nat.le_of_eq (monB_len (m := m) (by omega) (by omega))
  have s5 := tmB_len at_ of h7
  have s6 := offV_len sv
  have s7 := dashB_len lt h8
  generalize S (Lib.decDigits lo) = A at *
  generalize toB lo hi = T at *
  generalize monB m = M at *
  generalize tmB at_ of = X at *
  generalize S (offV sv) = O at *
  generalize dashB lt = D at *
  have hln := rule_len nm A T M on X O D h1 s1 s3 s4 h6 s5 s6 s7
  have hL : ∀ (bk : Nat) (w : World) (hc : ∀ (j : Nat) (x : ByteArray), [⟨#[82, 117, 108, 101]⟩, nm, A, T, ⟨#[45]⟩, M, on, X, O, D][j]? = some x → w.cell? ⟨bk, j, none⟩ = some (.string x)) (hb : bk < w.heap.size), Calls Tryz.prog 86 #[.slice (some ⟨bk, 0, none⟩) 10 10] w (fun e w' => e = .returned (.string (lineB [⟨#[82, 117, 108, 101]⟩, nm, A, T, ⟨#[45]⟩, M, on, X, O, D])) ∧ Below w.heap.size w w') := fun bk w hc hb => impl_lineText _ bk 10 w hc hb (by simp) (by simp) hln
  clear hln s1 s3 s4 s5 s6 s7
  generalize lineB [⟨#[82, 117, 108, 101]⟩, nm, A, T, ⟨#[45]⟩, M, on, X, O, D] = R at *
  have hB0 := (Below.refl w.heap.size w).alloc (Nat.le_refl _) (.cells #[.string nm, .int .i64 (lo : Int), .int .i64 (hi : Int), .int .i64 (m : Int), .string on, .int .i64 at_, .string of, .int .i64 sv, .string lt] 104)
  have c0_0 : (w.alloc (.cells #[.string nm, .int .i64 (lo : Int), .int .i64 (hi : Int), .int .i64 (m : Int), .string on, .int .i64 at_, .string of, .int .i64 sv, .string lt] 104)).cell? ⟨w.heap.size, 0, none⟩ = some (.string nm) := by simp [go_sem]
  have c1_0 : (w.alloc (.cells #[.string nm, .int .i64 (lo : Int), .int .i64 (hi : Int), .int .i64 (m : Int), .string on, .int .i64 at_, .string of, .int .i64 sv, .string lt] 104)).cell? ⟨w.heap.size, 1, none⟩ = some (.int .i64 (lo : Int)) := by simp [go_sem]
  have c2_0 : (w.alloc (.cells #[.string nm, .int .i64 (lo : Int), .int .i64 (hi : Int), .int .i64 (m : Int), .string on, .int .i64 at_, .string of, .int .i64 sv, .string lt] 104)).cell? ⟨w.heap.size, 2, none⟩ = some (.int .i64 (hi : Int)) := by simp [go_sem]
  have c3_0 : (w.alloc (.cells #[.string nm, .int .i64 (lo : Int), .int .i64 (hi : Int), .int .i64 (m : Int), .string on, .int .i64 at_, .string of, .int .i64 sv, .string lt] 104)).cell? ⟨w.heap.size, 3, none⟩ = some (.int .i64 (m : Int)) := by simp [go_sem]
  have c4_0 : (w.alloc (.cells #[.string nm, .int .i64 (lo : Int), .int .i64 (hi : Int), .int .i64 (m : Int), .string on, .int .i64 at_, .string of, .int .i64 sv, .string lt] 104)).cell? ⟨w.heap.size, 4, none⟩ = some (.string on) := by simp [go_sem]
  have c5_0 : (w.alloc (.cells #[.string nm, .int .i64 (lo : Int), .int .i64 (hi : Int), .int .i64 (m : Int), .string on, .int .i64 at_, .string of, .int .i64 sv, .string lt] 104)).cell? ⟨w.heap.size, 5, none⟩ = some (.int .i64 at_) := by simp [go_sem]
  have c6_0 : (w.alloc (.cells #[.string nm, .int .i64 (lo : Int), .int .i64 (hi : Int), .int .i64 (m : Int), .string on, .int .i64 at_, .string of, .int .i64 sv, .string lt] 104)).cell? ⟨w.heap.size, 6, none⟩ = some (.string of) := by simp [go_sem]
  have c7_0 : (w.alloc (.cells #[.string nm, .int .i64 (lo : Int), .int .i64 (hi : Int), .int .i64 (m : Int), .string on, .int .i64 at_, .string of, .int .i64 sv, .string lt] 104)).cell? ⟨w.heap.size, 7, none⟩ = some (.int .i64 sv) := by simp [go_sem]
  have c8_0 : (w.alloc (.cells #[.string nm, .int .i64 (lo : Int), .int .i64 (hi : Int), .int .i64 (m : Int), .string on, .int .i64 at_, .string of, .int .i64 sv, .string lt] 104)).cell? ⟨w.heap.size, 8, none⟩ = some (.string lt) := by simp [go_sem]
  have hD1 : Below (w.alloc (.cells #[.string nm, .int .i64 (lo : Int), .int .i64 (hi : Int), .int .i64 (m : Int), .string on, .int .i64 at_, .string of, .int .i64 sv, .string lt] 104)).heap.size (w.alloc (.cells #[.string nm, .int .i64 (lo : Int), .int .i64 (hi : Int), .int .i64 (m : Int), .string on, .int .i64 at_, .string of, .int .i64 sv, .string lt] 104)) (w.alloc (.cells #[.string nm, .int .i64 (lo : Int), .int .i64 (hi : Int), .int .i64 (m : Int), .string on, .int .i64 at_, .string of, .int .i64 sv, .string lt] 104)).drew := ⟨rfl, rfl, rfl, Nat.le_refl _, fun _ _ => rfl⟩
  have hB2 := hB0.trans (hD1.mono hB0.size)
  have c0_2 := ((bcell hD1).1 _ _ (World.block_lt_of_cell? _ _ c0_0)).trans c0_0
  have c1_2 := ((bcell hD1).1 _ _ (World.block_lt_of_cell? _ _ c1_0)).trans c1_0
  have c2_2 := ((bcell hD1).1 _ _ (World.block_lt_of_cell? _ _ c2_0)).trans c2_0
  have c3_2 := ((bcell hD1).1 _ _ (World.block_lt_of_cell? _ _ c3_0)).trans c3_0
  have c4_2 := ((bcell hD1).1 _ _ (World.block_lt_of_cell? _ _ c4_0)).trans c4_0
  have c5_2 := ((bcell hD1).1 _ _ (World.block_lt_of_cell? _ _ c5_0)).trans c5_0
  have c6_2 := ((bcell hD1).1 _ _ (World.block_lt_of_cell? _ _ c6_0)).trans c6_0
  have c7_2 := ((bcell hD1).1 _ _ (World.block_lt_of_cell? _ _ c7_0)).trans c7_0
  have c8_2 := ((bcell hD1).1 _ _ (World.block_lt_of_cell? _ _ c8_0)).trans c8_0
  have hP2 := hP.of_below hB2
  go_enter Tryz.func84, Tryz.ntmps84
  go_wp2_with fail
  go_region_held3 (fun w' => w'.cell? ⟨w.heap.size, 0, none⟩ = some (.string nm) ∧ w'.cell? ⟨w.heap.size, 1, none⟩ = some (.int .i64 (lo : Int)) ∧ w'.cell? ⟨w.heap.size, 2, none⟩ = some (.int .i64 (hi : Int)) ∧ w'.cell? ⟨w.heap.size, 3, none⟩ = some (.int .i64 (m : Int)) ∧ w'.cell? ⟨w.heap.size, 4, none⟩ = some (.string on) ∧ w'.cell? ⟨w.heap.size, 5, none⟩ = some (.int .i64 at_) ∧ w'.cell? ⟨w.heap.size, 6, none⟩ = some (.string of) ∧ w'.cell? ⟨w.heap.size, 7, none⟩ = some (.int .i64 sv) ∧ w'.cell? ⟨w.heap.size, 8, none⟩ = some (.string lt)) (go_keep) (first | (go_at_call 156; refine (hA _ hP2).mono ?_; rintro e w3 ⟨rfl, hb3⟩; have c0_3 := ((bcell hb3).1 _ _ (World.block_lt_of_cell? _ _ c0_2)).trans c0_2; have c1_3 := ((bcell hb3).1 _ _ (World.block_lt_of_cell? _ _ c1_2)).trans c1_2; have c2_3 := ((bcell hb3).1 _ _ (World.block_lt_of_cell? _ _ c2_2)).trans c2_2; have c3_3 := ((bcell hb3).1 _ _ (World.block_lt_of_cell? _ _ c3_2)).trans c3_2; have c4_3 := ((bcell hb3).1 _ _ (World.block_lt_of_cell? _ _ c4_2)).trans c4_2; have c5_3 := ((bcell hb3).1 _ _ (World.block_lt_of_cell? _ _ c5_2)).trans c5_2; have c6_3 := ((bcell hb3).1 _ _ (World.block_lt_of_cell? _ _ c6_2)).trans c6_2; have c7_3 := ((bcell hb3).1 _ _ (World.block_lt_of_cell? _ _ c7_2)).trans c7_2; have c8_3 := ((bcell hb3).1 _ _ (World.block_lt_of_cell? _ _ c8_2)).trans c8_2; have hB3 := hB2.trans (hb3.mono hB2.size); have hP3 := hP.of_below hB3) | (go_at_call 157; refine (hT _ hP3).mono ?_; rintro e w4 ⟨rfl, hb4⟩; have c0_4 := ((bcell hb4).1 _ _ (World.block_lt_of_cell? _ _ c0_3)).trans c0_3; have c1_4 := ((bcell hb4).1 _ _ (World.block_lt_of_cell? _ _ c1_3)).trans c1_3; have c2_4 := ((bcell hb4).1 _ _ (World.block_lt_of_cell? _ _ c2_3)).trans c2_3; have c3_4 := ((bcell hb4).1 _ _ (World.block_lt_of_cell? _ _ c3_3)).trans c3_3; have c4_4 := ((bcell hb4).1 _ _ (World.block_lt_of_cell? _ _ c4_3)).trans c4_3; have c5_4 := ((bcell hb4).1 _ _ (World.block_lt_of_cell? _ _ c5_3)).trans c5_3; have c6_4 := ((bcell hb4).1 _ _ (World.block_lt_of_cell? _ _ c6_3)).trans c6_3; have c7_4 := ((bcell hb4).1 _ _ (World.block_lt_of_cell? _ _ c7_3)).trans c7_3; have c8_4 := ((bcell hb4).1 _ _ (World.block_lt_of_cell? _ _ c8_3)).trans c8_3; have hB4 := hB3.trans (hb4.mono hB3.size); have hP4 := hP.of_below hB4) | (go_at_call 158; refine (hM _).mono ?_; rintro e wx ⟨rfl, hwx⟩; have hwy := hwx.symm; clear hwx; subst hwy) | (go_at_call 159; refine (hX _ hP4).mono ?_; rintro e w5 ⟨rfl, hb5⟩; have c0_5 := ((bcell hb5).1 _ _ (World.block_lt_of_cell? _ _ c0_4)).trans c0_4; have c1_5 := ((bcell hb5).1 _ _ (World.block_lt_of_cell? _ _ c1_4)).trans c1_4; have c2_5 := ((bcell hb5).1 _ _ (World.block_lt_of_cell? _ _ c2_4)).trans c2_4; have c3_5 := ((bcell hb5).1 _ _ (World.block_lt_of_cell? _ _ c3_4)).trans c3_4; have c4_5 := ((bcell hb5).1 _ _ (World.block_lt_of_cell? _ _ c4_4)).trans c4_4; have c5_5 := ((bcell hb5).1 _ _ (World.block_lt_of_cell? _ _ c5_4)).trans c5_4; have c6_5 := ((bcell hb5).1 _ _ (World.block_lt_of_cell? _ _ c6_4)).trans c6_4; have c7_5 := ((bcell hb5).1 _ _ (World.block_lt_of_cell? _ _ c7_4)).trans c7_4; have c8_5 := ((bcell hb5).1 _ _ (World.block_lt_of_cell? _ _ c8_4)).trans c8_4; have hB5 := hB4.trans (hb5.mono hB4.size); have hP5 := hP.of_below hB5) | (go_at_call 160; refine (hO _ hP5).mono ?_; rintro e w6 ⟨rfl, hb6⟩; have c0_6 := ((bcell hb6).1 _ _ (World.block_lt_of_cell? _ _ c0_5)).trans c0_5; have c1_6 := ((bcell hb6).1 _ _ (World.block_lt_of_cell? _ _ c1_5)).trans c1_5; have c2_6 := ((bcell hb6).1 _ _ (World.block_lt_of_cell? _ _ c2_5)).trans c2_5; have c3_6 := ((bcell hb6).1 _ _ (World.block_lt_of_cell? _ _ c3_5)).trans c3_5; have c4_6 := ((bcell hb6).1 _ _ (World.block_lt_of_cell? _ _ c4_5)).trans c4_5; have c5_6 := ((bcell hb6).1 _ _ (World.block_lt_of_cell? _ _ c5_5)).trans c5_5; have c6_6 := ((bcell hb6).1 _ _ (World.block_lt_of_cell? _ _ c6_5)).trans c6_5; have c7_6 := ((bcell hb6).1 _ _ (World.block_lt_of_cell? _ _ c7_5)).trans c7_5; have c8_6 := ((bcell hb6).1 _ _ (World.block_lt_of_cell? _ _ c8_5)).trans c8_5; have hB6 := hB5.trans (hb6.mono hB5.size); have hP6 := hP.of_below hB6) | (go_at_call 161; refine (hD _).mono ?_; rintro e wx ⟨rfl, hwx⟩; have hwy := hwx.symm; clear hwx; subst hwy) | (go_at_call 86; refine (hL w6.heap.size (w6.alloc (.cells #[.string ⟨#[82, 117, 108, 101]⟩, .string nm, .string A, .string T, .string ⟨#[45]⟩, .string M, .string on, .string X, .string O, .string D] 9)) (strs_cells w6 9 [⟨#[82, 117, 108, 101]⟩, nm, A, T, ⟨#[45]⟩, M, on, X, O, D]) (by simp)).mono ?_; rintro e w7 ⟨rfl, hb7⟩; have hBa := hB6.alloc hB6.size (.cells #[.string ⟨#[82, 117, 108, 101]⟩, .string nm, .string A, .string T, .string ⟨#[45]⟩, .string M, .string on, .string X, .string O, .string D] 9); have hB7 := hBa.trans (hb7.mono hBa.size); have d0 := ((bcell ((Below.refl w6.heap.size w6).alloc (Nat.le_refl _) (.cells #[.string ⟨#[82, 117, 108, 101]⟩, .string nm, .string A, .string T, .string ⟨#[45]⟩, .string M, .string on, .string X, .string O, .string D] 9))).1 _ _ (World.block_lt_of_cell? _ _ c0_6)).trans c0_6; have d1 := ((bcell ((Below.refl w6.heap.size w6).alloc (Nat.le_refl _) (.cells #[.string ⟨#[82, 117, 108, 101]⟩, .string nm, .string A, .string T, .string ⟨#[45]⟩, .string M, .string on, .string X, .string O, .string D] 9))).1 _ _ (World.block_lt_of_cell? _ _ c1_6)).trans c1_6; have d2 := ((bcell ((Below.refl w6.heap.size w6).alloc (Nat.le_refl _) (.cells #[.string ⟨#[82, 117, 108, 101]⟩, .string nm, .string A, .string T, .string ⟨#[45]⟩, .string M, .string on, .string X, .string O, .string D] 9))).1 _ _ (World.block_lt_of_cell? _ _ c2_6)).trans c2_6; have d3 := ((bcell ((Below.refl w6.heap.size w6).alloc (Nat.le_refl _) (.cells #[.string ⟨#[82, 117, 108, 101]⟩, .string nm, .string A, .string T, .string ⟨#[45]⟩, .string M, .string on, .string X, .string O, .string D] 9))).1 _ _ (World.block_lt_of_cell? _ _ c3_6)).trans c3_6; have d4 := ((bcell ((Below.refl w6.heap.size w6).alloc (Nat.le_refl _) (.cells #[.string ⟨#[82, 117, 108, 101]⟩, .string nm, .string A, .string T, .string ⟨#[45]⟩, .string M, .string on, .string X, .string O, .string D] 9))).1 _ _ (World.block_lt_of_cell? _ _ c4_6)).trans c4_6; have d5 := ((bcell ((Below.refl w6.heap.size w6).alloc (Nat.le_refl _) (.cells #[.string ⟨#[82, 117, 108, 101]⟩, .string nm, .string A, .string T, .string ⟨#[45]⟩, .string M, .string on, .string X, .string O, .string D] 9))).1 _ _ (World.block_lt_of_cell? _ _ c5_6)).trans c5_6; have d6 := ((bcell ((Below.refl w6.heap.size w6).alloc (Nat.le_refl _) (.cells #[.string ⟨#[82, 117, 108, 101]⟩, .string nm, .string A, .string T, .string ⟨#[45]⟩, .string M, .string on, .string X, .string O, .string D] 9))).1 _ _ (World.block_lt_of_cell? _ _ c6_6)).trans c6_6; have d7 := ((bcell ((Below.refl w6.heap.size w6).alloc (Nat.le_refl _) (.cells #[.string ⟨#[82, 117, 108, 101]⟩, .string nm, .string A, .string T, .string ⟨#[45]⟩, .string M, .string on, .string X, .string O, .string D] 9))).1 _ _ (World.block_lt_of_cell? _ _ c7_6)).trans c7_6; have d8 := ((bcell ((Below.refl w6.heap.size w6).alloc (Nat.le_refl _) (.cells #[.string ⟨#[82, 117, 108, 101]⟩, .string nm, .string A, .string T, .string ⟨#[45]⟩, .string M, .string on, .string X, .string O, .string D] 9))).1 _ _ (World.block_lt_of_cell? _ _ c8_6)).trans c8_6; have c0_7 := ((bcell hb7).1 _ _ (World.block_lt_of_cell? _ _ d0)).trans d0; have c1_7 := ((bcell hb7).1 _ _ (World.block_lt_of_cell? _ _ d1)).trans d1; have c2_7 := ((bcell hb7).1 _ _ (World.block_lt_of_cell? _ _ d2)).trans d2; have c3_7 := ((bcell hb7).1 _ _ (World.block_lt_of_cell? _ _ d3)).trans d3; have c4_7 := ((bcell hb7).1 _ _ (World.block_lt_of_cell? _ _ d4)).trans d4; have c5_7 := ((bcell hb7).1 _ _ (World.block_lt_of_cell? _ _ d5)).trans d5; have c6_7 := ((bcell hb7).1 _ _ (World.block_lt_of_cell? _ _ d6)).trans d6; have c7_7 := ((bcell hb7).1 _ _ (World.block_lt_of_cell? _ _ d7)).trans d7; have c8_7 := ((bcell hb7).1 _ _ (World.block_lt_of_cell? _ _ d8)).trans d8;))
  go_wp2
  go_ret
  exact ⟨rfl, hB7⟩
end Go.Proofs.YtjdokmllidhapaaGreatDoor
namespace Go.Proofs.YtjdokmllidhapaaGreatDoor
open Go.RowKit Go.Sort

def rulT (rules : ByteArray) (sv : Int) : ByteArray := if rules.toList.isEmpty = true then (if sv = 0 then ⟨#[45]⟩ else S (offV sv)) else rules
set_option maxHeartbeats 1000000 in
theorem impl_rulesText (rules fmt of : ByteArray) (off sv unt : Int) (w : World) (hP : Pow w) :
    Calls Tryz.prog 221 #[.agg #[.int .i64 off, .string rules, .int .i64 sv, .string fmt, .int .i64 unt, .string of]] w fun e w' => e = .returned (.string (rulT rules sv)) ∧ Below w.heap.size w w' := by
  have hB0 := (Below.refl w.heap.size w).alloc (Nat.le_refl _) (.cells #[.int .i64 off, .string rules, .int .i64 sv, .string fmt, .int .i64 unt, .string of] 55)
  have hO := fun w hP => impl_OffsetText sv w hP
  cases e1 : rules.toList.isEmpty
  · have HZ : Hid (rulT rules sv = rules) := by show rulT rules sv = _; unfold rulT; rw [e1]; rfl
    go_enter Tryz.func221, Tryz.ntmps221
    go_wp2
    go_ret
    exact ⟨ret_str HZ.out.symm, hB0⟩
  by_cases e2 : sv = 0
  · have HZ : Hid (rulT rules sv = ⟨#[45]⟩) := by show rulT rules sv = _; unfold rulT; rw [e1, if_pos rfl, if_pos e2]
    subst e2
    go_enter Tryz.func221, Tryz.ntmps221
    go_wp2
    go_ret
    exact ⟨ret_str HZ.out.symm, hB0⟩
  have HZ : Hid (rulT rules sv = S (offV sv)) := by show rulT rules sv = _; unfold rulT; rw [e1, if_pos rfl, if_neg e2]
  have e2' : (sv == 0) = false := by simp [e2]
  go_enter Tryz.func221, Tryz.ntmps221
  go_wp2_with fail
  refine (hO _ (hP.alloc _)).mono ?_
  rintro e w1 ⟨rfl, hb1⟩
  go_wp2
  go_ret
  exact ⟨ret_str HZ.out.symm, hB0.trans (hb1.mono hB0.size)⟩
set_option maxRecDepth 20000 in
set_option maxHeartbeats 2000000 in
theorem impl_eraWords (rules fmt of : ByteArray) (off sv unt : Int) (w : World) (hP : Pow w) :
    Calls Tryz.prog 162 #[.agg #[.int .i64 off, .string rules, .int .i64 sv, .string fmt, .int .i64 unt, .string of]] w fun e w' => ∃ w1, e = .returned (.slice (some ⟨w1.heap.size, 0, none⟩) 3 3) ∧ Below w.heap.size w w1 ∧ w' = w1.alloc (.cells #[.string (S (offV off)), .string (rulT rules sv), .string fmt] 9) := by
  have hO := fun w hP => impl_OffsetText off w hP
  have hR := fun w hP => impl_rulesText rules fmt of off sv unt w hP
  generalize S (offV off) = O at *
  generalize rulT rules sv = R at *
  have hB0 := (Below.refl w.heap.size w).alloc (Nat.le_refl _) (.cells #[.int .i64 off, .string rules, .int .i64 sv, .string fmt, .int .i64 unt, .string of] 55)
  have c0_0 : (w.alloc (.cells #[.int .i64 off, .string rules, .int .i64 sv, .string fmt, .int .i64 unt, .string of] 55)).cell? ⟨w.heap.size, 0, none⟩ = some (.int .i64 off) := by simp [go_sem]
  have c1_0 : (w.alloc (.cells #[.int .i64 off, .string rules, .int .i64 sv, .string fmt, .int .i64 unt, .string of] 55)).cell? ⟨w.heap.size, 1, none⟩ = some (.string rules) := by simp [go_sem]
  have c2_0 : (w.alloc (.cells #[.int .i64 off, .string rules, .int .i64 sv, .string fmt, .int .i64 unt, .string of] 55)).cell? ⟨w.heap.size, 2, none⟩ = some (.int .i64 sv) := by simp [go_sem]
  have c3_0 : (w.alloc (.cells #[.int .i64 off, .string rules, .int .i64 sv, .string fmt, .int .i64 unt, .string of] 55)).cell? ⟨w.heap.size, 3, none⟩ = some (.string fmt) := by simp [go_sem]
  have c4_0 : (w.alloc (.cells #[.int .i64 off, .string rules, .int .i64 sv, .string fmt, .int .i64 unt, .string of] 55)).cell? ⟨w.heap.size, 4, none⟩ = some (.int .i64 unt) := by simp [go_sem]
  have c5_0 : (w.alloc (.cells #[.int .i64 off, .string rules, .int .i64 sv, .string fmt, .int .i64 unt, .string of] 55)).cell? ⟨w.heap.size, 5, none⟩ = some (.string of) := by simp [go_sem]
  have hD1 : Below (w.alloc (.cells #[.int .i64 off, .string rules, .int .i64 sv, .string fmt, .int .i64 unt, .string of] 55)).heap.size (w.alloc (.cells #[.int .i64 off, .string rules, .int .i64 sv, .string fmt, .int .i64 unt, .string of] 55)) (w.alloc (.cells #[.int .i64 off, .string rules, .int .i64 sv, .string fmt, .int .i64 unt, .string of] 55)).drew := ⟨rfl, rfl, rfl, Nat.le_refl _, fun _ _ => rfl⟩
  have hB2 := hB0.trans (hD1.mono hB0.size)
  have c0_2 := ((bcell hD1).1 _ _ (World.block_lt_of_cell? _ _ c0_0)).trans c0_0
  have c1_2 := ((bcell hD1).1 _ _ (World.block_lt_of_cell? _ _ c1_0)).trans c1_0
  have c2_2 := ((bcell hD1).1 _ _ (World.block_lt_of_cell? _ _ c2_0)).trans c2_0
  have c3_2 := ((bcell hD1).1 _ _ (World.block_lt_of_cell? _ _ c3_0)).trans c3_0
  have c4_2 := ((bcell hD1).1 _ _ (World.block_lt_of_cell? _ _ c4_0)).trans c4_0
  have c5_2 := ((bcell hD1).1 _ _ (World.block_lt_of_cell? _ _ c5_0)).trans c5_0
  have hP2 := hP.of_below hB2
  go_enter Tryz.func162, Tryz.ntmps162
  go_wp2_with fail
  go_region_held3 (fun w' => w'.cell? ⟨w.heap.size, 0, none⟩ = some (.int .i64 off) ∧ w'.cell? ⟨w.heap.size, 1, none⟩ = some (.string rules) ∧ w'.cell? ⟨w.heap.size, 2, none⟩ = some (.int .i64 sv) ∧ w'.cell? ⟨w.heap.size, 3, none⟩ = some (.string fmt) ∧ w'.cell? ⟨w.heap.size, 4, none⟩ = some (.int .i64 unt) ∧ w'.cell? ⟨w.heap.size, 5, none⟩ = some (.string of)) (go_keep) (first | (go_at_call 160; refine (hO _ hP2).mono ?_; rintro e w3 ⟨rfl, hb3⟩; have c0_3 := ((bcell hb3).1 _ _ (World.block_lt_of_cell? _ _ c0_2)).trans c0_2; have c1_3 := ((bcell hb3).1 _ _ (World.block_lt_of_cell? _ _ c1_2)).trans c1_2; have c2_3 := ((bcell hb3).1 _ _ (World.block_lt_of_cell? _ _ c2_2)).trans c2_2; have c3_3 := ((bcell hb3).1 _ _ (World.block_lt_of_cell? _ _ c3_2)).trans c3_2; have c4_3 := ((bcell hb3).1 _ _ (World.block_lt_of_cell? _ _ c4_2)).trans c4_2; have c5_3 := ((bcell hb3).1 _ _ (World.block_lt_of_cell? _ _ c5_2)).trans c5_2; have hB3 := hB2.trans (hb3.mono hB2.size); have hP3 := hP.of_below hB3) | (go_at_call 221; refine (hR _ hP3).mono ?_; rintro e w4 ⟨rfl, hb4⟩; have c0_4 := ((bcell hb4).1 _ _ (World.block_lt_of_cell? _ _ c0_3)).trans c0_3; have c1_4 := ((bcell hb4).1 _ _ (World.block_lt_of_cell? _ _ c1_3)).trans c1_3; have c2_4 := ((bcell hb4).1 _ _ (World.block_lt_of_cell? _ _ c2_3)).trans c2_3; have c3_4 := ((bcell hb4).1 _ _ (World.block_lt_of_cell? _ _ c3_3)).trans c3_3; have c4_4 := ((bcell hb4).1 _ _ (World.block_lt_of_cell? _ _ c4_3)).trans c4_3; have c5_4 := ((bcell hb4).1 _ _ (World.block_lt_of_cell? _ _ c5_3)).trans c5_3; have hB4 := hB3.trans (hb4.mono hB3.size); have hP4 := hP.of_below hB4))
  go_wp2
  go_ret
  exact ⟨w4, rfl, hB4, rfl⟩
set_option maxRecDepth 20000 in
set_option maxHeartbeats 2000000 in
theorem impl_untilWords (rules fmt of : ByteArray) (off sv unt : Int) (w : World) (hT : Tab w) (hP : Pow w) (h1 : -62135596800 ≤ unt) (h2 : unt ≤ 253402300799) (h7 : of.size ≤ 8000) :
    Calls Tryz.prog 163 #[.agg #[.int .i64 off, .string rules, .int .i64 sv, .string fmt, .int .i64 unt, .string of]] w fun e w' => ∃ w1, e = .returned (.slice (some ⟨w1.heap.size, 0, none⟩) 4 4) ∧ Below w.heap.size w w1 ∧ w' = w1.alloc (.cells #[.string (S (Lib.decDigits (yOf (unt / 86400)).toNat)), .string (monB (mOf (unt / 86400))), .string (S (Lib.decDigits (dOf (unt / 86400)).toNat)), .string (tmB (unt % 86400) of)] 9) := by
  have hC := fun w => impl_dayAndClock unt w h1 h2
  have hDo := fun w hT => impl_DateOf_ok (unt / 86400) w hT (by omega) (by omega)
  obtain ⟨y, m, d, ey, em, ed, y1, y2, m1, m2, d1, d2⟩ := date_nat (n := unt / 86400) (by omega) (by omega)
  rw [ey, em, ed] at hDo
  rw [ey, em, ed]
  simp only [Int.toNat_natCast]
  have hY := fun w hP => impl_padded y 1 w (by omega) (by omega) hP
  have hDd := fun w hP => impl_padded d 1 w (by omega) (by omega) hP
  rw [pad1] at hY hDd
  have hM := fun w => impl_monthText m w m1 m2
  have hX := fun w hP => impl_timeOfText (unt % 86400) of w hP h7
  generalize S (Lib.decDigits y) = Y at *
  generalize S (Lib.decDigits d) = D at *
  generalize monB m = M at *
  generalize tmB (unt % 86400) of = X at *
  clear ey em ed
  generalize unt / 86400 = dy at *
  generalize unt % 86400 = ck at *
  have hB0 := (Below.refl w.heap.size w).alloc (Nat.le_refl _) (.cells #[.int .i64 off, .string rules, .int .i64 sv, .string fmt, .int .i64 unt, .string of] 55)
  have c4_0 : (w.alloc (.cells #[.int .i64 off, .string rules, .int .i64 sv, .string fmt, .int .i64 unt, .string of] 55)).cell? ⟨w.heap.size, 4, none⟩ = some (.int .i64 unt) := by simp [go_sem]
  have c5_0 : (w.alloc (.cells #[.int .i64 off, .string rules, .int .i64 sv, .string fmt, .int .i64 unt, .string of] 55)).cell? ⟨w.heap.size, 5, none⟩ = some (.string of) := by simp [go_sem]
  go_enter Tryz.func163, Tryz.ntmps163
  go_wp2_with fail
  refine (hC _).mono ?_
  rintro e wx ⟨rfl, hwx⟩
  subst hwx
  go_wp2_with fail
  refine (hDo _ (hT.of_below hB0)).mono ?_
  rintro e w3 ⟨rfl, hb3⟩
  have hB3 := hB0.trans (hb3.mono hB0.size)
  have c5_3 := ((bcell hb3).1 _ _ (World.block_lt_of_cell? _ _ c5_0)).trans c5_0
  have hb4 := (Below.refl w3.heap.size w3).alloc (Nat.le_refl _) (.cells #[.int .i64 (y : Int), .int .i64 (m : Int), .int .i64 (d : Int)] 200)
  have hB4 := hB3.trans (hb4.mono hB3.size)
  have c5_4 := ((bcell hb4).1 _ _ (World.block_lt_of_cell? _ _ c5_3)).trans c5_3
  have d0_4 : (w3.alloc (.cells #[.int .i64 (y : Int), .int .i64 (m : Int), .int .i64 (d : Int)] 200)).cell? ⟨w3.heap.size, 0, none⟩ = some (.int .i64 (y : Int)) := by simp [go_sem]
  have d1_4 : (w3.alloc (.cells #[.int .i64 (y : Int), .int .i64 (m : Int), .int .i64 (d : Int)] 200)).cell? ⟨w3.heap.size, 1, none⟩ = some (.int .i64 (m : Int)) := by simp [go_sem]
  have d2_4 : (w3.alloc (.cells #[.int .i64 (y : Int), .int .i64 (m : Int), .int .i64 (d : Int)] 200)).cell? ⟨w3.heap.size, 2, none⟩ = some (.int .i64 (d : Int)) := by simp [go_sem]
  clear c4_0 c5_0 c5_3 hC hDo
  go_wp2_with fail
  generalize w3.alloc (.cells #[.int .i64 (y : Int), .int .i64 (m : Int), .int .i64 (d : Int)] 200) = w4 at *
  have hD5 : Below w4.heap.size w4 w4.drew := ⟨rfl, rfl, rfl, Nat.le_refl _, fun _ _ => rfl⟩
  have hB5 := hB4.trans (hD5.mono hB4.size)
  have hP5 := hP.of_below hB5
  have c5_5 := ((bcell hD5).1 _ _ (World.block_lt_of_cell? _ _ c5_4)).trans c5_4
  have d0_5 := ((bcell hD5).1 _ _ (World.block_lt_of_cell? _ _ d0_4)).trans d0_4
  have d1_5 := ((bcell hD5).1 _ _ (World.block_lt_of_cell? _ _ d1_4)).trans d1_4
  have d2_5 := ((bcell hD5).1 _ _ (World.block_lt_of_cell? _ _ d2_4)).trans d2_4
  go_region_held3 (fun w' => w'.cell? ⟨w.heap.size, 5, none⟩ = some (.string of) ∧ w'.cell? ⟨w3.heap.size, 0, none⟩ = some (.int .i64 (y : Int)) ∧ w'.cell? ⟨w3.heap.size, 1, none⟩ = some (.int .i64 (m : Int)) ∧ w'.cell? ⟨w3.heap.size, 2, none⟩ = some (.int .i64 (d : Int))) (go_keep) (first | (go_at_call 156; refine (hDd _ hP6).mono ?_; rintro e w7 ⟨rfl, hb7⟩; have c5_7 := ((bcell hb7).1 _ _ (World.block_lt_of_cell? _ _ c5_6)).trans c5_6; have d0_7 := ((bcell hb7).1 _ _ (World.block_lt_of_cell? _ _ d0_6)).trans d0_6; have d1_7 := ((bcell hb7).1 _ _ (World.block_lt_of_cell? _ _ d1_6)).trans d1_6; have d2_7 := ((bcell hb7).1 _ _ (World.block_lt_of_cell? _ _ d2_6)).trans d2_6; have hB7 := hB6.trans (hb7.mono hB6.size); have hP7 := hP.of_below hB7) | (go_at_call 156; refine (hY _ hP5).mono ?_; rintro e w6 ⟨rfl, hb6⟩; have c5_6 := ((bcell hb6).1 _ _ (World.block_lt_of_cell? _ _ c5_5)).trans c5_5; have d0_6 := ((bcell hb6).1 _ _ (World.block_lt_of_cell? _ _ d0_5)).trans d0_5; have d1_6 := ((bcell hb6).1 _ _ (World.block_lt_of_cell? _ _ d1_5)).trans d1_5; have d2_6 := ((bcell hb6).1 _ _ (World.block_lt_of_cell? _ _ d2_5)).trans d2_5; have hB6 := hB5.trans (hb6.mono hB5.size); have hP6 := hP.of_below hB6) | (go_at_call 158; refine (hM _).mono ?_; rintro e wx ⟨rfl, hwx⟩; have hwy := hwx.symm; clear hwx; subst hwy) | (go_at_call 159; refine (hX _ hP7).mono ?_; rintro e w8 ⟨rfl, hb8⟩; have c5_8 := ((bcell hb8).1 _ _ (World.block_lt_of_cell? _ _ c5_7)).trans c5_7; have d0_8 := ((bcell hb8).1 _ _ (World.block_lt_of_cell? _ _ d0_7)).trans d0_7; have d1_8 := ((bcell hb8).1 _ _ (World.block_lt_of_cell? _ _ d1_7)).trans d1_7; have d2_8 := ((bcell hb8).1 _ _ (World.block_lt_of_cell? _ _ d2_7)).trans d2_7; have hB8 := hB7.trans (hb8.mono hB7.size); have hP8 := hP.of_below hB8))
  go_wp2
  go_ret
  exact ⟨w8, rfl, hB8, rfl⟩
end Go.Proofs.YtjdokmllidhapaaGreatDoor
namespace Go.Proofs
open Go.RowKit Go.Shelf
theorem Tryz.Builder_WriteString_j (B b : Nat) (bs : List Value) (s : ByteArray) (w : World) (h : Lib.IsBuilder 125 5 B b bs w) (hlen : bs.length + s.size ≤ 140737488355328) (hBw : B ≤ w.heap.size) :
    Calls Tryz.prog 83 #[.pointer (some ⟨b, 0, none⟩), .string s] w fun e w' => e = .returned (.tuple #[.int .i64 s.size, .nilIface]) ∧ (Lib.BuilderAt 125 5 B b (.pointer (some ⟨b, 0, none⟩)) (bs ++ Lib.strCells s) w' ∧ Below B w w') :=
  Any.Builder_WriteString (ρ := Tryz.lays156_ren) { Tryz.lays156 with } Tryz.Builder_Extra_156 B b bs s w h hlen hBw
end Go.Proofs
namespace Go.Proofs.YtjdokmllidhapaaGreatDoor

theorem wpAnyH_sub {P : Program} {md : Region.Mode} {ops : Array Oper} {Q : Exit → Act → World → Prop} {S1 S2 : World → Prop} (h : ∀ w, S2 w → S1 w) :
    ∀ (fuel : Nat) (listed : Array Bool) (a : Act) (w : World), wpAnyH P md ops Q S2 fuel listed a w → wpAnyH P md ops Q S1 fuel listed a w
  | 0, _, _, _, hw => hw
  | n + 1, _, _, _, ⟨h0, h1⟩ => ⟨h0, fun i hi => wpOp_mono (fun a w ⟨hs, hw⟩ => ⟨h w hs, wpAnyH_sub h n _ a w hw⟩) (h1 i hi)⟩
end Go.Proofs.YtjdokmllidhapaaGreatDoor
namespace Go.Proofs.YtjdokmllidhapaaGreatDoor
open Go.RowKit Go.Sort

def ruleJ (nm A T M on X O D : ByteArray) : ByteArray := ⟨#[82, 117, 108, 101, 32]⟩ ++ nm ++ ⟨#[32]⟩ ++ A ++ ⟨#[32]⟩ ++ T ++ ⟨#[32, 45, 32]⟩ ++ M ++ ⟨#[32]⟩ ++ on ++ ⟨#[32]⟩ ++ X ++ ⟨#[32]⟩ ++ O ++ ⟨#[32]⟩ ++ D ++ ⟨#[10]⟩
set_option linter.unusedSimpArgs false in
set_option maxRecDepth 200000 in
set_option maxHeartbeats 4000000 in
theorem spec_l02RuleText (nm on of lt : ByteArray) (lo hi m : Nat) (at_ sv : Int) (w : World) (h1 : nm.size ≤ 20) (h2 : lo ≤ 9999) (h3 : hi ≤ 9999) (h4 : 1 ≤ m) (h5 : m ≤ 12) (h6 : on.size ≤ 1048576) (h7 : of.size ≤ 8000) (h8 : lt.size ≤ 8000) :
    Calls Tryz.prog 81 #[.agg #[.string nm, .int .i64 (lo : Int), .int .i64 (hi : Int), .int .i64 (m : Int), .string on, .int .i64 at_, .string of, .int .i64 sv, .string lt]] w fun e w' => e = .returned (.string (ruleJ nm (S (Lib.decDigits lo)) (toB lo hi) (monB m) on (tmB at_ of) (S (offV sv)) (dashB lt))) ∧ Below w.heap.size w w' := by
  have hA := fun w => spec_l01Dec lo w (by omega)
  have hT := fun w => spec_l01Dec hi w (by omega)
  have hM := fun w => spec_l02Months w
  have hX := fun w => spec_l02TimeText at_ of w h7
  have hO := fun w => spec_OffsetText sv w
  have hD := fun w => spec_l02Dash lt w
  have s1 := dd_len (n := lo) (by omega)
  rw [← S_size] at s1
  have s2 := dd_len (n := hi) (by omega)
  rw [← S_size] at s2
  have s4 : (monB m).size ≤ 3 := Nat.le_of_eq (monB_len (m := m) (by omega) (by omega))
  have s5 := tmB_len at_ of h7
  have s6 := offV_len sv
  have s7 := dashB_len lt h8
  have eT : toB lo hi = (if hi = lo then ⟨#[111, 110, 108, 121]⟩ else if hi = 9999 then ⟨#[109, 97, 120]⟩ else S (Lib.decDigits hi)) := rfl
  obtain ⟨k, hk⟩ : ∃ k, m = k + 1 := ⟨m - 1, by omega⟩
  have m1 : (m : Int) - 1 = (k : Int) := by omega
  have m2 : (0 : Int) ≤ (k : Int) := by omega
  have m3 : (k : Int) < 12 := by omega
  have m4 : IntKind.i64.wrap (k : Int) = (k : Int) := wrap_small _ m2 (by omega)
  have hM' : ∀ w, Calls Tryz.prog 149 #[] w fun e w' => e = .returned (.slice (some ⟨w.heap.size, 0, none⟩) 12 12) ∧ Below w.heap.size w w' ∧ w'.cell? ⟨w.heap.size, k, none⟩ = some (.string (monB m)) := fun w => (hM w).mono fun e w' ⟨a, b, c⟩ => ⟨a, b, by have := c m h4 h5; rw [hk] at this ⊢; exact this⟩
  clear hM hk
  generalize S (Lib.decDigits lo) = A at *
  generalize S (Lib.decDigits hi) = H at *
  generalize monB m = M at *
  generalize tmB at_ of = X at *
  generalize S (offV sv) = O at *
  generalize dashB lt = D at *
  generalize toB lo hi = T at *
  unfold ruleJ
  have hB0 := (Below.refl w.heap.size w).alloc (Nat.le_refl _) (.cells #[.string nm, .int .i64 (lo : Int), .int .i64 (hi : Int), .int .i64 (m : Int), .string on, .int .i64 at_, .string of, .int .i64 sv, .string lt] 104)
  have c0_0 : (w.alloc (.cells #[.string nm, .int .i64 (lo : Int), .int .i64 (hi : Int), .int .i64 (m : Int), .string on, .int .i64 at_, .string of, .int .i64 sv, .string lt] 104)).cell? ⟨w.heap.size, 0, none⟩ = some (.string nm) := by simp [go_sem]
  have c1_0 : (w.alloc (.cells #[.string nm, .int .i64 (lo : Int), .int .i64 (hi : Int), .int .i64 (m : Int), .string on, .int .i64 at_, .string of, .int .i64 sv, .string lt] 104)).cell? ⟨w.heap.size, 1, none⟩ = some (.int .i64 (lo : Int)) := by simp [go_sem]
  have c2_0 : (w.alloc (.cells #[.string nm, .int .i64 (lo : Int), .int .i64 (hi : Int), .int .i64 (m : Int), .string on, .int .i64 at_, .string of, .int .i64 sv, .string lt] 104)).cell? ⟨w.heap.size, 2, none⟩ = some (.int .i64 (hi : Int)) := by simp [go_sem]
  have c3_0 : (w.alloc (.cells #[.string nm, .int .i64 (lo : Int), .int .i64 (hi : Int), .int .i64 (m : Int), .string on, .int .i64 at_, .string of, .int .i64 sv, .string lt] 104)).cell? ⟨w.heap.size, 3, none⟩ = some (.int .i64 (m : Int)) := by simp [go_sem]
  have c4_0 : (w.alloc (.cells #[.string nm, .int .i64 (lo : Int), .int .i64 (hi : Int), .int .i64 (m : Int), .string on, .int .i64 at_, .string of, .int .i64 sv, .string lt] 104)).cell? ⟨w.heap.size, 4, none⟩ = some (.string on) := by simp [go_sem]
  have c5_0 : (w.alloc (.cells #[.string nm, .int .i64 (lo : Int), .int .i64 (hi : Int), .int .i64 (m : Int), .string on, .int .i64 at_, .string of, .int .i64 sv, .string lt] 104)).cell? ⟨w.heap.size, 5, none⟩ = some (.int .i64 at_) := by simp [go_sem]
  have c6_0 : (w.alloc (.cells #[.string nm, .int .i64 (lo : Int), .int .i64 (hi : Int), .int .i64 (m : Int), .string on, .int .i64 at_, .string of, .int .i64 sv, .string lt] 104)).cell? ⟨w.heap.size, 6, none⟩ = some (.string of) := by simp [go_sem]
  have c7_0 : (w.alloc (.cells #[.string nm, .int .i64 (lo : Int), .int .i64 (hi : Int), .int .i64 (m : Int), .string on, .int .i64 at_, .string of, .int .i64 sv, .string lt] 104)).cell? ⟨w.heap.size, 7, none⟩ = some (.int .i64 sv) := by simp [go_sem]
  have c8_0 : (w.alloc (.cells #[.string nm, .int .i64 (lo : Int), .int .i64 (hi : Int), .int .i64 (m : Int), .string on, .int .i64 at_, .string of, .int .i64 sv, .string lt] 104)).cell? ⟨w.heap.size, 8, none⟩ = some (.string lt) := by simp [go_sem]
  by_cases e1 : hi = lo
  · rw [if_pos e1] at eT
    have e1' : ((hi : Int) == (lo : Int)) = true := by simp [e1]
    subst eT
    clear e1
    go_enter Tryz.func81, Tryz.ntmps81
    go_wp2_with fail
    refine (hT _).mono ?_
    rintro e w1 ⟨rfl, hb1⟩
    have hB1 := hB0.trans (hb1.mono hB0.size)
    have c0_1 := ((bcell hb1).1 _ _ (World.block_lt_of_cell? _ _ c0_0)).trans c0_0
    have c1_1 := ((bcell hb1).1 _ _ (World.block_lt_of_cell? _ _ c1_0)).trans c1_0
    have c2_1 := ((bcell hb1).1 _ _ (World.block_lt_of_cell? _ _ c2_0)).trans c2_0
    have c3_1 := ((bcell hb1).1 _ _ (World.block_lt_of_cell? _ _ c3_0)).trans c3_0
    have c4_1 := ((bcell hb1).1 _ _ (World.block_lt_of_cell? _ _ c4_0)).trans c4_0
    have c5_1 := ((bcell hb1).1 _ _ (World.block_lt_of_cell? _ _ c5_0)).trans c5_0
    have c6_1 := ((bcell hb1).1 _ _ (World.block_lt_of_cell? _ _ c6_0)).trans c6_0
    have c7_1 := ((bcell hb1).1 _ _ (World.block_lt_of_cell? _ _ c7_0)).trans c7_0
    have c8_1 := ((bcell hb1).1 _ _ (World.block_lt_of_cell? _ _ c8_0)).trans c8_0
    clear hb1 hB0 hT c0_0 c1_0 c2_0 c3_0 c4_0 c5_0 c6_0 c7_0 c8_0
    have hD1 : Below w1.heap.size w1 w1.drew := ⟨rfl, rfl, rfl, Nat.le_refl _, fun _ _ => rfl⟩
    have hB2 := hB1.trans (hD1.mono hB1.size)
    go_wp2_with fail
    refine wp_region_noPanic ?_
    refine wp_region_held_drew (S := fun w' => w'.cell? ⟨w.heap.size, 0, none⟩ = some (.string nm) ∧ w'.cell? ⟨w.heap.size, 1, none⟩ = some (.int .i64 (lo : Int)) ∧ w'.cell? ⟨w.heap.size, 2, none⟩ = some (.int .i64 (hi : Int)) ∧ w'.cell? ⟨w.heap.size, 3, none⟩ = some (.int .i64 (m : Int)) ∧ w'.cell? ⟨w.heap.size, 4, none⟩ = some (.string on) ∧ w'.cell? ⟨w.heap.size, 5, none⟩ = some (.int .i64 at_) ∧ w'.cell? ⟨w.heap.size, 6, none⟩ = some (.string of) ∧ w'.cell? ⟨w.heap.size, 7, none⟩ = some (.int .i64 sv) ∧ w'.cell? ⟨w.heap.size, 8, none⟩ = some (.string lt)) (by kernel_rfl) ⟨((bcell hD1).1 _ _ (World.block_lt_of_cell? _ _ c0_1)).trans c0_1, ((bcell hD1).1 _ _ (World.block_lt_of_cell? _ _ c1_1)).trans c1_1, ((bcell hD1).1 _ _ (World.block_lt_of_cell? _ _ c2_1)).trans c2_1, ((bcell hD1).1 _ _ (World.block_lt_of_cell? _ _ c3_1)).trans c3_1, ((bcell hD1).1 _ _ (World.block_lt_of_cell? _ _ c4_1)).trans c4_1, ((bcell hD1).1 _ _ (World.block_lt_of_cell? _ _ c5_1)).trans c5_1, ((bcell hD1).1 _ _ (World.block_lt_of_cell? _ _ c6_1)).trans c6_1, ((bcell hD1).1 _ _ (World.block_lt_of_cell? _ _ c7_1)).trans c7_1, ((bcell hD1).1 _ _ (World.block_lt_of_cell? _ _ c8_1)).trans c8_1⟩ (fun hHeld => ?_)
    clear hB1 hD1 c0_1 c1_1 c2_1 c3_1 c4_1 c5_1 c6_1 c7_1 c8_1
    refine wpAnyH_take (i := 0) (v := ?va0) rfl (by kernel_rfl) (by kernel_rfl) (by kernel_rfl) (fun _ _ _ h => h) (Or.inl ⟨by rfl, ?ya0⟩) hHeld ?za0
    case ya0 => (intro wq hSw; (try dsimp only at hSw); go_simp; try with_reducible rfl)
    try simp only [Act.put, List.setIfInBounds_toArray, List.set_cons_zero, List.set_cons_succ]
    refine wpAnyH_take (i := 1) (v := ?va1) rfl (by kernel_rfl) (by kernel_rfl) (by kernel_rfl) (fun _ _ _ h => h) (Or.inl ⟨by rfl, ?ya1⟩) hHeld ?za1
    case ya1 => (intro wq hSw; (try dsimp only at hSw); go_simp; try with_reducible rfl)
    try simp only [Act.put, List.setIfInBounds_toArray, List.set_cons_zero, List.set_cons_succ]
    refine wpAnyH_take (i := 4) (v := ?va4) rfl (by kernel_rfl) (by kernel_rfl) (by kernel_rfl) (fun _ _ _ h => h) (Or.inl ⟨by rfl, ?ya4⟩) hHeld ?za4
    case ya4 => (intro wq hSw; (try dsimp only at hSw); go_simp; try with_reducible rfl)
    try simp only [Act.put, List.setIfInBounds_toArray, List.set_cons_zero, List.set_cons_succ]
    refine wpAnyH_take (i := 5) (v := ?va5) rfl (by kernel_rfl) (by kernel_rfl) (by kernel_rfl) (fun _ _ _ h => h) (Or.inl ⟨by rfl, ?ya5⟩) hHeld ?za5
    case ya5 => (intro wq hSw; (try dsimp only at hSw); go_simp; try with_reducible rfl)
    try simp only [Act.put, List.setIfInBounds_toArray, List.set_cons_zero, List.set_cons_succ]
    refine wpAnyH_take (i := 9) (v := ?va9) rfl (by kernel_rfl) (by kernel_rfl) (by kernel_rfl) (fun _ _ _ h => h) (Or.inl ⟨by rfl, ?ya9⟩) hHeld ?za9
    case ya9 => (intro wq hSw; (try dsimp only at hSw); go_simp; try with_reducible rfl)
    try simp only [Act.put, List.setIfInBounds_toArray, List.set_cons_zero, List.set_cons_succ]
    refine wpAnyH_take (i := 13) (v := ?va13) rfl (by kernel_rfl) (by kernel_rfl) (by kernel_rfl) (fun _ _ _ h => h) (Or.inl ⟨by rfl, ?ya13⟩) hHeld ?za13
    case ya13 => (intro wq hSw; (try dsimp only at hSw); go_simp; try with_reducible rfl)
    try simp only [Act.put, List.setIfInBounds_toArray, List.set_cons_zero, List.set_cons_succ]
    refine wpAnyH_take (i := 14) (v := ?va14) rfl (by kernel_rfl) (by kernel_rfl) (by kernel_rfl) (fun _ _ _ h => h) (Or.inl ⟨by rfl, ?ya14⟩) hHeld ?za14
    case ya14 => (intro wq hSw; (try dsimp only at hSw); go_simp; try with_reducible rfl)
    try simp only [Act.put, List.setIfInBounds_toArray, List.set_cons_zero, List.set_cons_succ]
    refine wpAnyH_take (i := 15) (v := ?va15) rfl (by kernel_rfl) (by kernel_rfl) (by kernel_rfl) (fun _ _ _ h => h) (Or.inl ⟨by rfl, ?ya15⟩) hHeld ?za15
    case ya15 => (intro wq hSw; (try dsimp only at hSw); go_simp; try with_reducible rfl)
    try simp only [Act.put, List.setIfInBounds_toArray, List.set_cons_zero, List.set_cons_succ]
    refine wpAnyH_take (i := 20) (v := ?va20) rfl (by kernel_rfl) (by kernel_rfl) (by kernel_rfl) (fun _ _ _ h => h) (Or.inl ⟨by rfl, ?ya20⟩) hHeld ?za20
    case ya20 => (intro wq hSw; (try dsimp only at hSw); go_simp; try with_reducible rfl)
    try simp only [Act.put, List.setIfInBounds_toArray, List.set_cons_zero, List.set_cons_succ]
    refine wpAnyH_take (i := 21) (v := ?va21) rfl (by kernel_rfl) (by kernel_rfl) (by kernel_rfl) (fun _ _ _ h => h) (Or.inl ⟨by rfl, ?ya21⟩) hHeld ?za21
    case ya21 => (intro wq hSw; (try dsimp only at hSw); go_simp; try with_reducible rfl)
    try simp only [Act.put, List.setIfInBounds_toArray, List.set_cons_zero, List.set_cons_succ]
    refine wpAnyH_take (i := 24) (v := ?va24) rfl (by kernel_rfl) (by kernel_rfl) (by kernel_rfl) (fun _ _ _ h => h) (Or.inl ⟨by rfl, ?ya24⟩) hHeld ?za24
    case ya24 => (intro wq hSw; (try dsimp only at hSw); go_simp; try with_reducible rfl)
    try simp only [Act.put, List.setIfInBounds_toArray, List.set_cons_zero, List.set_cons_succ]
    refine wpAnyH_take (i := 25) (v := ?va25) rfl (by kernel_rfl) (by kernel_rfl) (by kernel_rfl) (fun _ _ _ h => h) (Or.inl ⟨by rfl, ?ya25⟩) hHeld ?za25
    case ya25 => (intro wq hSw; (try dsimp only at hSw); go_simp; try with_reducible rfl)
    try simp only [Act.put, List.setIfInBounds_toArray, List.set_cons_zero, List.set_cons_succ]
    refine wpAnyH_take (i := 26) (v := ?va26) rfl (by kernel_rfl) (by kernel_rfl) (by kernel_rfl) (fun _ _ _ h => h) (Or.inl ⟨by rfl, ?ya26⟩) hHeld ?za26
    case ya26 => (intro wq hSw; (try dsimp only at hSw); go_simp; try with_reducible rfl)
    try simp only [Act.put, List.setIfInBounds_toArray, List.set_cons_zero, List.set_cons_succ]
    refine wpAnyH_take (i := 27) (v := ?va27) rfl (by kernel_rfl) (by kernel_rfl) (by kernel_rfl) (fun _ _ _ h => h) (Or.inl ⟨by rfl, ?ya27⟩) hHeld ?za27
    case ya27 => (intro wq hSw; (try dsimp only at hSw); go_simp; try with_reducible rfl)
    try simp only [Act.put, List.setIfInBounds_toArray, List.set_cons_zero, List.set_cons_succ]
    refine wpAnyH_take (i := 31) (v := ?va31) rfl (by kernel_rfl) (by kernel_rfl) (by kernel_rfl) (fun _ _ _ h => h) (Or.inl ⟨by rfl, ?ya31⟩) hHeld ?za31
    case ya31 => (intro wq hSw; (try dsimp only at hSw); go_simp; try with_reducible rfl)
    try simp only [Act.put, List.setIfInBounds_toArray, List.set_cons_zero, List.set_cons_succ]
    refine wpAnyH_take (i := 32) (v := ?va32) rfl (by kernel_rfl) (by kernel_rfl) (by kernel_rfl) (fun _ _ _ h => h) (Or.inl ⟨by rfl, ?ya32⟩) hHeld ?za32
    case ya32 => (intro wq hSw; (try dsimp only at hSw); go_simp; try with_reducible rfl)
    try simp only [Act.put, List.setIfInBounds_toArray, List.set_cons_zero, List.set_cons_succ]
    refine wpAnyH_take (i := 36) (v := ?va36) rfl (by kernel_rfl) (by kernel_rfl) (by kernel_rfl) (fun _ _ _ h => h) (Or.inl ⟨by rfl, ?ya36⟩) hHeld ?za36
    case ya36 => (intro wq hSw; (try dsimp only at hSw); go_simp; try with_reducible rfl)
    try simp only [Act.put, List.setIfInBounds_toArray, List.set_cons_zero, List.set_cons_succ]
    refine wpAnyH_take (i := 37) (v := ?va37) rfl (by kernel_rfl) (by kernel_rfl) (by kernel_rfl) (fun _ _ _ h => h) (Or.inl ⟨by rfl, ?ya37⟩) hHeld ?za37
    case ya37 => (intro wq hSw; (try dsimp only at hSw); go_simp; try with_reducible rfl)
    try simp only [Act.put, List.setIfInBounds_toArray, List.set_cons_zero, List.set_cons_succ]
    refine wpAnyH_take (i := 2) (v := .string (⟨#[82, 117, 108, 101, 32]⟩ ++ nm)) rfl (by kernel_rfl) (by kernel_rfl) (by kernel_rfl) (fun _ _ _ h => h) (Or.inl ⟨by rfl, ?ya2⟩) hHeld ?za2
    case ya2 => intro wq _; go_simp; omega
    try simp only [Act.put, List.setIfInBounds_toArray, List.set_cons_zero, List.set_cons_succ]
    refine wpAnyH_take (i := 3) (v := .string (⟨#[82, 117, 108, 101, 32]⟩ ++ nm ++ ⟨#[32]⟩)) rfl (by kernel_rfl) (by kernel_rfl) (by kernel_rfl) (fun _ _ _ h => h) (Or.inl ⟨by rfl, ?ya3⟩) hHeld ?za3
    case ya3 => intro wq _; go_simp; omega
    try simp only [Act.put, List.setIfInBounds_toArray, List.set_cons_zero, List.set_cons_succ]
    refine wpAnyH_ready (rs := [6]) (by kernel_rfl) (by simp) ?_
    refine AllReadyH.cons rfl (fun K hK => ?_) AllReadyH.nil
    go_simp
    refine (hA _).mono ?_
    rintro e w3 ⟨rfl, hb3⟩
    have hB3 := hB2.trans (hb3.mono hB2.size)
    obtain ⟨x0, x1, x2, x3, x4, x5, x6, x7, x8⟩ := hHeld
    have hS := And.intro (((bcell hb3).1 _ _ (World.block_lt_of_cell? _ _ x0)).trans x0) (And.intro (((bcell hb3).1 _ _ (World.block_lt_of_cell? _ _ x1)).trans x1) (And.intro (((bcell hb3).1 _ _ (World.block_lt_of_cell? _ _ x2)).trans x2) (And.intro (((bcell hb3).1 _ _ (World.block_lt_of_cell? _ _ x3)).trans x3) (And.intro (((bcell hb3).1 _ _ (World.block_lt_of_cell? _ _ x4)).trans x4) (And.intro (((bcell hb3).1 _ _ (World.block_lt_of_cell? _ _ x5)).trans x5) (And.intro (((bcell hb3).1 _ _ (World.block_lt_of_cell? _ _ x6)).trans x6) (And.intro (((bcell hb3).1 _ _ (World.block_lt_of_cell? _ _ x7)).trans x7) (((bcell hb3).1 _ _ (World.block_lt_of_cell? _ _ x8)).trans x8))))))))
    go_wp2_with fail
    refine hK.out _ _ hS (fun hHeld => ?_)
    clear hK K
    try simp only [Act.put, List.setIfInBounds_toArray, List.set_cons_zero, List.set_cons_succ]
    refine wpAnyH_take (i := 7) (v := .string (⟨#[82, 117, 108, 101, 32]⟩ ++ nm ++ ⟨#[32]⟩ ++ A)) rfl (by kernel_rfl) (by kernel_rfl) (by kernel_rfl) (fun _ _ _ h => h) (Or.inl ⟨by rfl, ?ya7⟩) hHeld ?za7
    case ya7 => intro wq _; go_simp; omega
    try simp only [Act.put, List.setIfInBounds_toArray, List.set_cons_zero, List.set_cons_succ]
    refine wpAnyH_take (i := 8) (v := .string (⟨#[82, 117, 108, 101, 32]⟩ ++ nm ++ ⟨#[32]⟩ ++ A ++ ⟨#[32]⟩)) rfl (by kernel_rfl) (by kernel_rfl) (by kernel_rfl) (fun _ _ _ h => h) (Or.inl ⟨by rfl, ?ya8⟩) hHeld ?za8
    case ya8 => intro wq _; go_simp; omega
    try simp only [Act.put, List.setIfInBounds_toArray, List.set_cons_zero, List.set_cons_succ]
    refine wpAnyH_take (i := 10) (v := .string (⟨#[82, 117, 108, 101, 32]⟩ ++ nm ++ ⟨#[32]⟩ ++ A ++ ⟨#[32]⟩ ++ ⟨#[111, 110, 108, 121]⟩)) rfl (by kernel_rfl) (by kernel_rfl) (by kernel_rfl) (fun _ _ _ h => h) (Or.inl ⟨by rfl, ?ya10⟩) hHeld ?za10
    case ya10 => intro wq _; go_simp; omega
    try simp only [Act.put, List.setIfInBounds_toArray, List.set_cons_zero, List.set_cons_succ]
    refine wpAnyH_take (i := 11) (v := .string (⟨#[82, 117, 108, 101, 32]⟩ ++ nm ++ ⟨#[32]⟩ ++ A ++ ⟨#[32]⟩ ++ ⟨#[111, 110, 108, 121]⟩ ++ ⟨#[32, 45, 32]⟩)) rfl (by kernel_rfl) (by kernel_rfl) (by kernel_rfl) (fun _ _ _ h => h) (Or.inl ⟨by rfl, ?ya11⟩) hHeld ?za11
    case ya11 => intro wq _; go_simp; omega
    try simp only [Act.put, List.setIfInBounds_toArray, List.set_cons_zero, List.set_cons_succ]
    refine wpAnyH_ready (rs := [12]) (by kernel_rfl) (by simp) ?_
    refine AllReadyH.cons rfl (fun K hK => ?_) AllReadyH.nil
    go_simp
    refine (hM' _).mono ?_
    rintro e w4 ⟨rfl, hb4, m_4⟩
    have hB4 := hB3.trans (hb4.mono hB3.size)
    obtain ⟨x0, x1, x2, x3, x4, x5, x6, x7, x8⟩ := hHeld
    have hS := And.intro (((bcell hb4).1 _ _ (World.block_lt_of_cell? _ _ x0)).trans x0) (And.intro (((bcell hb4).1 _ _ (World.block_lt_of_cell? _ _ x1)).trans x1) (And.intro (((bcell hb4).1 _ _ (World.block_lt_of_cell? _ _ x2)).trans x2) (And.intro (((bcell hb4).1 _ _ (World.block_lt_of_cell? _ _ x3)).trans x3) (And.intro (((bcell hb4).1 _ _ (World.block_lt_of_cell? _ _ x4)).trans x4) (And.intro (((bcell hb4).1 _ _ (World.block_lt_of_cell? _ _ x5)).trans x5) (And.intro (((bcell hb4).1 _ _ (World.block_lt_of_cell? _ _ x6)).trans x6) (And.intro (((bcell hb4).1 _ _ (World.block_lt_of_cell? _ _ x7)).trans x7) (((bcell hb4).1 _ _ (World.block_lt_of_cell? _ _ x8)).trans x8))))))))
    go_wp2_with fail
    refine hK.out _ _ hS (fun hHeld => ?_)
    clear hK K
    try simp only [Act.put, List.setIfInBounds_toArray, List.set_cons_zero, List.set_cons_succ]
    refine wpAnyH_sub (S2 := fun w' => w'.cell? ⟨w.heap.size, 0, none⟩ = some (.string nm) ∧ w'.cell? ⟨w.heap.size, 1, none⟩ = some (.int .i64 (lo : Int)) ∧ w'.cell? ⟨w.heap.size, 2, none⟩ = some (.int .i64 (hi : Int)) ∧ w'.cell? ⟨w.heap.size, 3, none⟩ = some (.int .i64 (m : Int)) ∧ w'.cell? ⟨w.heap.size, 4, none⟩ = some (.string on) ∧ w'.cell? ⟨w.heap.size, 5, none⟩ = some (.int .i64 at_) ∧ w'.cell? ⟨w.heap.size, 6, none⟩ = some (.string of) ∧ w'.cell? ⟨w.heap.size, 7, none⟩ = some (.int .i64 sv) ∧ w'.cell? ⟨w.heap.size, 8, none⟩ = some (.string lt) ∧ w'.cell? ⟨w3.heap.size, k, none⟩ = some (.string M)) (fun _ h => ⟨h.1, h.2.1, h.2.2.1, h.2.2.2.1, h.2.2.2.2.1, h.2.2.2.2.2.1, h.2.2.2.2.2.2.1, h.2.2.2.2.2.2.2.1, h.2.2.2.2.2.2.2.2.1⟩) _ _ _ _ ?_
    have hHeld : (fun w' : World => w'.cell? ⟨w.heap.size, 0, none⟩ = some (.string nm) ∧ w'.cell? ⟨w.heap.size, 1, none⟩ = some (.int .i64 (lo : Int)) ∧ w'.cell? ⟨w.heap.size, 2, none⟩ = some (.int .i64 (hi : Int)) ∧ w'.cell? ⟨w.heap.size, 3, none⟩ = some (.int .i64 (m : Int)) ∧ w'.cell? ⟨w.heap.size, 4, none⟩ = some (.string on) ∧ w'.cell? ⟨w.heap.size, 5, none⟩ = some (.int .i64 at_) ∧ w'.cell? ⟨w.heap.size, 6, none⟩ = some (.string of) ∧ w'.cell? ⟨w.heap.size, 7, none⟩ = some (.int .i64 sv) ∧ w'.cell? ⟨w.heap.size, 8, none⟩ = some (.string lt) ∧ w'.cell? ⟨w3.heap.size, k, none⟩ = some (.string M)) w4 := ⟨hHeld.1, hHeld.2.1, hHeld.2.2.1, hHeld.2.2.2.1, hHeld.2.2.2.2.1, hHeld.2.2.2.2.2.1, hHeld.2.2.2.2.2.2.1, hHeld.2.2.2.2.2.2.2.1, hHeld.2.2.2.2.2.2.2.2, m_4⟩
    refine wpAnyH_take (i := 16) (v := ?va16) rfl (by kernel_rfl) (by kernel_rfl) (by kernel_rfl) (fun _ _ _ h => h) (Or.inl ⟨by rfl, ?ya16⟩) hHeld ?za16
    case ya16 => (intro wq hSw; (try dsimp only at hSw); go_simp; try with_reducible rfl)
    try simp only [Act.put, List.setIfInBounds_toArray, List.set_cons_zero, List.set_cons_succ]
    refine wpAnyH_take (i := 17) (v := ?va17) rfl (by kernel_rfl) (by kernel_rfl) (by kernel_rfl) (fun _ _ _ h => h) (Or.inl ⟨by rfl, ?ya17⟩) hHeld ?za17
    case ya17 => (intro wq hSw; (try dsimp only at hSw); go_simp; try with_reducible rfl)
    try simp only [Act.put, List.setIfInBounds_toArray, List.set_cons_zero, List.set_cons_succ]
    refine wpAnyH_take (i := 18) (v := .string (⟨#[82, 117, 108, 101, 32]⟩ ++ nm ++ ⟨#[32]⟩ ++ A ++ ⟨#[32]⟩ ++ ⟨#[111, 110, 108, 121]⟩ ++ ⟨#[32, 45, 32]⟩ ++ M)) rfl (by kernel_rfl) (by kernel_rfl) (by kernel_rfl) (fun _ _ _ h => h) (Or.inl ⟨by rfl, ?ya18⟩) hHeld ?za18
    case ya18 => intro wq _; go_simp; omega
    try simp only [Act.put, List.setIfInBounds_toArray, List.set_cons_zero, List.set_cons_succ]
    refine wpAnyH_take (i := 19) (v := .string (⟨#[82, 117, 108, 101, 32]⟩ ++ nm ++ ⟨#[32]⟩ ++ A ++ ⟨#[32]⟩ ++ ⟨#[111, 110, 108, 121]⟩ ++ ⟨#[32, 45, 32]⟩ ++ M ++ ⟨#[32]⟩)) rfl (by kernel_rfl) (by kernel_rfl) (by kernel_rfl) (fun _ _ _ h => h) (Or.inl ⟨by rfl, ?ya19⟩) hHeld ?za19
    case ya19 => intro wq _; go_simp; omega
    try simp only [Act.put, List.setIfInBounds_toArray, List.set_cons_zero, List.set_cons_succ]
    refine wpAnyH_take (i := 22) (v := .string (⟨#[82, 117, 108, 101, 32]⟩ ++ nm ++ ⟨#[32]⟩ ++ A ++ ⟨#[32]⟩ ++ ⟨#[111, 110, 108, 121]⟩ ++ ⟨#[32, 45, 32]⟩ ++ M ++ ⟨#[32]⟩ ++ on)) rfl (by kernel_rfl) (by kernel_rfl) (by kernel_rfl) (fun _ _ _ h => h) (Or.inl ⟨by rfl, ?ya22⟩) hHeld ?za22
    case ya22 => intro wq _; go_simp; omega
    try simp only [Act.put, List.setIfInBounds_toArray, List.set_cons_zero, List.set_cons_succ]
    refine wpAnyH_take (i := 23) (v := .string (⟨#[82, 117, 108, 101, 32]⟩ ++ nm ++ ⟨#[32]⟩ ++ A ++ ⟨#[32]⟩ ++ ⟨#[111, 110, 108, 121]⟩ ++ ⟨#[32, 45, 32]⟩ ++ M ++ ⟨#[32]⟩ ++ on ++ ⟨#[32]⟩)) rfl (by kernel_rfl) (by kernel_rfl) (by kernel_rfl) (fun _ _ _ h => h) (Or.inl ⟨by rfl, ?ya23⟩) hHeld ?za23
    case ya23 => intro wq _; go_simp; omega
    try simp only [Act.put, List.setIfInBounds_toArray, List.set_cons_zero, List.set_cons_succ]
    refine wpAnyH_ready (rs := [28]) (by kernel_rfl) (by simp) ?_
    refine AllReadyH.cons rfl (fun K hK => ?_) AllReadyH.nil
    go_simp
    refine (hX _).mono ?_
    rintro e w5 ⟨rfl, hb5⟩
    have hB5 := hB4.trans (hb5.mono hB4.size)
    obtain ⟨x0, x1, x2, x3, x4, x5, x6, x7, x8, x9⟩ := hHeld
    have hS := And.intro (((bcell hb5).1 _ _ (World.block_lt_of_cell? _ _ x0)).trans x0) (And.intro (((bcell hb5).1 _ _ (World.block_lt_of_cell? _ _ x1)).trans x1) (And.intro (((bcell hb5).1 _ _ (World.block_lt_of_cell? _ _ x2)).trans x2) (And.intro (((bcell hb5).1 _ _ (World.block_lt_of_cell? _ _ x3)).trans x3) (And.intro (((bcell hb5).1 _ _ (World.block_lt_of_cell? _ _ x4)).trans x4) (And.intro (((bcell hb5).1 _ _ (World.block_lt_of_cell? _ _ x5)).trans x5) (And.intro (((bcell hb5).1 _ _ (World.block_lt_of_cell? _ _ x6)).trans x6) (And.intro (((bcell hb5).1 _ _ (World.block_lt_of_cell? _ _ x7)).trans x7) (And.intro (((bcell hb5).1 _ _ (World.block_lt_of_cell? _ _ x8)).trans x8) (((bcell hb5).1 _ _ (World.block_lt_of_cell? _ _ x9)).trans x9)))))))))
    go_wp2_with fail
    refine hK.out _ _ hS (fun hHeld => ?_)
    clear hK K
    try simp only [Act.put, List.setIfInBounds_toArray, List.set_cons_zero, List.set_cons_succ]
    refine wpAnyH_take (i := 29) (v := .string (⟨#[82, 117, 108, 101, 32]⟩ ++ nm ++ ⟨#[32]⟩ ++ A ++ ⟨#[32]⟩ ++ ⟨#[111, 110, 108, 121]⟩ ++ ⟨#[32, 45, 32]⟩ ++ M ++ ⟨#[32]⟩ ++ on ++ ⟨#[32]⟩ ++ X)) rfl (by kernel_rfl) (by kernel_rfl) (by kernel_rfl) (fun _ _ _ h => h) (Or.inl ⟨by rfl, ?ya29⟩) hHeld ?za29
    case ya29 => intro wq _; go_simp; omega
    try simp only [Act.put, List.setIfInBounds_toArray, List.set_cons_zero, List.set_cons_succ]
    refine wpAnyH_take (i := 30) (v := .string (⟨#[82, 117, 108, 101, 32]⟩ ++ nm ++ ⟨#[32]⟩ ++ A ++ ⟨#[32]⟩ ++ ⟨#[111, 110, 108, 121]⟩ ++ ⟨#[32, 45, 32]⟩ ++ M ++ ⟨#[32]⟩ ++ on ++ ⟨#[32]⟩ ++ X ++ ⟨#[32]⟩)) rfl (by kernel_rfl) (by kernel_rfl) (by kernel_rfl) (fun _ _ _ h => h) (Or.inl ⟨by rfl, ?ya30⟩) hHeld ?za30
    case ya30 => intro wq _; go_simp; omega
    try simp only [Act.put, List.setIfInBounds_toArray, List.set_cons_zero, List.set_cons_succ]
    refine wpAnyH_ready (rs := [33]) (by kernel_rfl) (by simp) ?_
    refine AllReadyH.cons rfl (fun K hK => ?_) AllReadyH.nil
    go_simp
    refine (hO _).mono ?_
    rintro e w6 ⟨rfl, hb6⟩
    have hB6 := hB5.trans (hb6.mono hB5.size)
    obtain ⟨x0, x1, x2, x3, x4, x5, x6, x7, x8, x9⟩ := hHeld
    have hS := And.intro (((bcell hb6).1 _ _ (World.block_lt_of_cell? _ _ x0)).trans x0) (And.intro (((bcell hb6).1 _ _ (World.block_lt_of_cell? _ _ x1)).trans x1) (And.intro (((bcell hb6).1 _ _ (World.block_lt_of_cell? _ _ x2)).trans x2) (And.intro (((bcell hb6).1 _ _ (World.block_lt_of_cell? _ _ x3)).trans x3) (And.intro (((bcell hb6).1 _ _ (World.block_lt_of_cell? _ _ x4)).trans x4) (And.intro (((bcell hb6).1 _ _ (World.block_lt_of_cell? _ _ x5)).trans x5) (And.intro (((bcell hb6).1 _ _ (World.block_lt_of_cell? _ _ x6)).trans x6) (And.intro (((bcell hb6).1 _ _ (World.block_lt_of_cell? _ _ x7)).trans x7) (And.intro (((bcell hb6).1 _ _ (World.block_lt_of_cell? _ _ x8)).trans x8) (((bcell hb6).1 _ _ (World.block_lt_of_cell? _ _ x9)).trans x9)))))))))
    go_wp2_with fail
    refine hK.out _ _ hS (fun hHeld => ?_)
    clear hK K
    try simp only [Act.put, List.setIfInBounds_toArray, List.set_cons_zero, List.set_cons_succ]
    refine wpAnyH_take (i := 34) (v := .string (⟨#[82, 117, 108, 101, 32]⟩ ++ nm ++ ⟨#[32]⟩ ++ A ++ ⟨#[32]⟩ ++ ⟨#[111, 110, 108, 121]⟩ ++ ⟨#[32, 45, 32]⟩ ++ M ++ ⟨#[32]⟩ ++ on ++ ⟨#[32]⟩ ++ X ++ ⟨#[32]⟩ ++ O)) rfl (by kernel_rfl) (by kernel_rfl) (by kernel_rfl) (fun _ _ _ h => h) (Or.inl ⟨by rfl, ?ya34⟩) hHeld ?za34
    case ya34 => intro wq _; go_simp; omega
    try simp only [Act.put, List.setIfInBounds_toArray, List.set_cons_zero, List.set_cons_succ]
    refine wpAnyH_take (i := 35) (v := .string (⟨#[82, 117, 108, 101, 32]⟩ ++ nm ++ ⟨#[32]⟩ ++ A ++ ⟨#[32]⟩ ++ ⟨#[111, 110, 108, 121]⟩ ++ ⟨#[32, 45, 32]⟩ ++ M ++ ⟨#[32]⟩ ++ on ++ ⟨#[32]⟩ ++ X ++ ⟨#[32]⟩ ++ O ++ ⟨#[32]⟩)) rfl (by kernel_rfl) (by kernel_rfl) (by kernel_rfl) (fun _ _ _ h => h) (Or.inl ⟨by rfl, ?ya35⟩) hHeld ?za35
    case ya35 => intro wq _; go_simp; omega
    try simp only [Act.put, List.setIfInBounds_toArray, List.set_cons_zero, List.set_cons_succ]
    refine wpAnyH_ready (rs := [38]) (by kernel_rfl) (by simp) ?_
    refine AllReadyH.cons rfl (fun K hK => ?_) AllReadyH.nil
    go_simp
    refine (hD _).mono ?_
    rintro e wx ⟨rfl, hwx⟩
    have hwy := hwx.symm
    clear hwx
    subst hwy
    go_wp2_with fail
    refine hK.out _ _ hHeld (fun hHeld => ?_)
    clear hK K
    try simp only [Act.put, List.setIfInBounds_toArray, List.set_cons_zero, List.set_cons_succ]
    refine wpAnyH_take (i := 39) (v := .string (⟨#[82, 117, 108, 101, 32]⟩ ++ nm ++ ⟨#[32]⟩ ++ A ++ ⟨#[32]⟩ ++ ⟨#[111, 110, 108, 121]⟩ ++ ⟨#[32, 45, 32]⟩ ++ M ++ ⟨#[32]⟩ ++ on ++ ⟨#[32]⟩ ++ X ++ ⟨#[32]⟩ ++ O ++ ⟨#[32]⟩ ++ D)) rfl (by kernel_rfl) (by kernel_rfl) (by kernel_rfl) (fun _ _ _ h => h) (Or.inl ⟨by rfl, ?ya39⟩) hHeld ?za39
    case ya39 => intro wq _; go_simp; omega
    try simp only [Act.put, List.setIfInBounds_toArray, List.set_cons_zero, List.set_cons_succ]
    refine wpAnyH_take (i := 40) (v := .string (⟨#[82, 117, 108, 101, 32]⟩ ++ nm ++ ⟨#[32]⟩ ++ A ++ ⟨#[32]⟩ ++ ⟨#[111, 110, 108, 121]⟩ ++ ⟨#[32, 45, 32]⟩ ++ M ++ ⟨#[32]⟩ ++ on ++ ⟨#[32]⟩ ++ X ++ ⟨#[32]⟩ ++ O ++ ⟨#[32]⟩ ++ D ++ ⟨#[10]⟩)) rfl (by kernel_rfl) (by kernel_rfl) (by kernel_rfl) (fun _ _ _ h => h) (Or.inl ⟨by rfl, ?ya40⟩) hHeld ?za40
    case ya40 => intro wq _; go_simp; omega
    try simp only [Act.put, List.setIfInBounds_toArray, List.set_cons_zero, List.set_cons_succ]
    refine wpAnyH_take (i := 41) (v := ?va41) rfl (by kernel_rfl) (by kernel_rfl) (by kernel_rfl) (fun _ _ _ h => h) (Or.inl ⟨by rfl, ?ya41⟩) hHeld ?za41
    case ya41 => (intro wq hSw; (try dsimp only at hSw); go_simp; try with_reducible rfl)
    try simp only [Act.put, List.setIfInBounds_toArray, List.set_cons_zero, List.set_cons_succ]
    try simp only [Act.put, List.getElem_toArray, List.getElem_cons_succ, List.getElem_cons_zero, List.setIfInBounds_toArray, List.set_cons_zero, List.set_cons_succ]
    refine wpAnyH_done (by kernel_rfl) ?_ _
    refine NoPanic.normal ?_
    go_wp2
    go_ret
    exact ⟨rfl, hB6⟩
  rw [if_neg e1] at eT
  have e1' : ((hi : Int) == (lo : Int)) = false := by simp; omega
  by_cases e2 : hi = 9999
  · rw [if_pos e2] at eT
    have e2' : ((hi : Int) == 9999) = true := by simp [e2]
    subst eT
    clear e1 e2
    go_enter Tryz.func81, Tryz.ntmps81
    go_wp2_with fail
    refine (hT _).mono ?_
    rintro e w1 ⟨rfl, hb1⟩
    have hB1 := hB0.trans (hb1.mono hB0.size)
    have c0_1 := ((bcell hb1).1 _ _ (World.block_lt_of_cell? _ _ c0_0)).trans c0_0
    have c1_1 := ((bcell hb1).1 _ _ (World.block_lt_of_cell? _ _ c1_0)).trans c1_0
    have c2_1 := ((bcell hb1).1 _ _ (World.block_lt_of_cell? _ _ c2_0)).trans c2_0
    have c3_1 := ((bcell hb1).1 _ _ (World.block_lt_of_cell? _ _ c3_0)).trans c3_0
    have c4_1 := ((bcell hb1).1 _ _ (World.block_lt_of_cell? _ _ c4_0)).trans c4_0
    have c5_1 := ((bcell hb1).1 _ _ (World.block_lt_of_cell? _ _ c5_0)).trans c5_0
    have c6_1 := ((bcell hb1).1 _ _ (World.block_lt_of_cell? _ _ c6_0)).trans c6_0
    have c7_1 := ((bcell hb1).1 _ _ (World.block_lt_of_cell? _ _ c7_0)).trans c7_0
    have c8_1 := ((bcell hb1).1 _ _ (World.block_lt_of_cell? _ _ c8_0)).trans c8_0
    clear hb1 hB0 hT c0_0 c1_0 c2_0 c3_0 c4_0 c5_0 c6_0 c7_0 c8_0
    have hD1 : Below w1.heap.size w1 w1.drew := ⟨rfl, rfl, rfl, Nat.le_refl _, fun _ _ => rfl⟩
    have hB2 := hB1.trans (hD1.mono hB1.size)
    go_wp2_with fail
    refine wp_region_noPanic ?_
    refine wp_region_held_drew (S := fun w' => w'.cell? ⟨w.heap.size, 0, none⟩ = some (.string nm) ∧ w'.cell? ⟨w.heap.size, 1, none⟩ = some (.int .i64 (lo : Int)) ∧ w'.cell? ⟨w.heap.size, 2, none⟩ = some (.int .i64 (hi : Int)) ∧ w'.cell? ⟨w.heap.size, 3, none⟩ = some (.int .i64 (m : Int)) ∧ w'.cell? ⟨w.heap.size, 4, none⟩ = some (.string on) ∧ w'.cell? ⟨w.heap.size, 5, none⟩ = some (.int .i64 at_) ∧ w'.cell? ⟨w.heap.size, 6, none⟩ = some (.string of) ∧ w'.cell? ⟨w.heap.size, 7, none⟩ = some (.int .i64 sv) ∧ w'.cell? ⟨w.heap.size, 8, none⟩ = some (.string lt)) (by kernel_rfl) ⟨((bcell hD1).1 _ _ (World.block_lt_of_cell? _ _ c0_1)).trans c0_1, ((bcell hD1).1 _ _ (World.block_lt_of_cell? _ _ c1_1)).trans c1_1, ((bcell hD1).1 _ _ (World.block_lt_of_cell? _ _ c2_1)).trans c2_1, ((bcell hD1).1 _ _ (World.block_lt_of_cell? _ _ c3_1)).trans c3_1, ((bcell hD1).1 _ _ (World.block_lt_of_cell? _ _ c4_1)).trans c4_1, ((bcell hD1).1 _ _ (World.block_lt_of_cell? _ _ c5_1)).trans c5_1, ((bcell hD1).1 _ _ (World.block_lt_of_cell? _ _ c6_1)).trans c6_1, ((bcell hD1).1 _ _ (World.block_lt_of_cell? _ _ c7_1)).trans c7_1, ((bcell hD1).1 _ _ (World.block_lt_of_cell? _ _ c8_1)).trans c8_1⟩ (fun hHeld => ?_)
    clear hB1 hD1 c0_1 c1_1 c2_1 c3_1 c4_1 c5_1 c6_1 c7_1 c8_1
    refine wpAnyH_take (i := 0) (v := ?vb0) rfl (by kernel_rfl) (by kernel_rfl) (by kernel_rfl) (fun _ _ _ h => h) (Or.inl ⟨by rfl, ?yb0⟩) hHeld ?zb0
    case yb0 => (intro wq hSw; (try dsimp only at hSw); go_simp; try with_reducible rfl)
    try simp only [Act.put, List.setIfInBounds_toArray, List.set_cons_zero, List.set_cons_succ]
    refine wpAnyH_take (i := 1) (v := ?vb1) rfl (by kernel_rfl) (by kernel_rfl) (by kernel_rfl) (fun _ _ _ h => h) (Or.inl ⟨by rfl, ?yb1⟩) hHeld ?zb1
    case yb1 => (intro wq hSw; (try dsimp only at hSw); go_simp; try with_reducible rfl)
    try simp only [Act.put, List.setIfInBounds_toArray, List.set_cons_zero, List.set_cons_succ]
    refine wpAnyH_take (i := 4) (v := ?vb4) rfl (by kernel_rfl) (by kernel_rfl) (by kernel_rfl) (fun _ _ _ h => h) (Or.inl ⟨by rfl, ?yb4⟩) hHeld ?zb4
    case yb4 => (intro wq hSw; (try dsimp only at hSw); go_simp; try with_reducible rfl)
    try simp only [Act.put, List.setIfInBounds_toArray, List.set_cons_zero, List.set_cons_succ]
    refine wpAnyH_take (i := 5) (v := ?vb5) rfl (by kernel_rfl) (by kernel_rfl) (by kernel_rfl) (fun _ _ _ h => h) (Or.inl ⟨by rfl, ?yb5⟩) hHeld ?zb5
    case yb5 => (intro wq hSw; (try dsimp only at hSw); go_simp; try with_reducible rfl)
    try simp only [Act.put, List.setIfInBounds_toArray, List.set_cons_zero, List.set_cons_succ]
    refine wpAnyH_take (i := 9) (v := ?vb9) rfl (by kernel_rfl) (by kernel_rfl) (by kernel_rfl) (fun _ _ _ h => h) (Or.inl ⟨by rfl, ?yb9⟩) hHeld ?zb9
    case yb9 => (intro wq hSw; (try dsimp only at hSw); go_simp; try with_reducible rfl)
    try simp only [Act.put, List.setIfInBounds_toArray, List.set_cons_zero, List.set_cons_succ]
    refine wpAnyH_take (i := 13) (v := ?vb13) rfl (by kernel_rfl) (by kernel_rfl) (by kernel_rfl) (fun _ _ _ h => h) (Or.inl ⟨by rfl, ?yb13⟩) hHeld ?zb13
    case yb13 => (intro wq hSw; (try dsimp only at hSw); go_simp; try with_reducible rfl)
    try simp only [Act.put, List.setIfInBounds_toArray, List.set_cons_zero, List.set_cons_succ]
    refine wpAnyH_take (i := 14) (v := ?vb14) rfl (by kernel_rfl) (by kernel_rfl) (by kernel_rfl) (fun _ _ _ h => h) (Or.inl ⟨by rfl, ?yb14⟩) hHeld ?zb14
    case yb14 => (intro wq hSw; (try dsimp only at hSw); go_simp; try with_reducible rfl)
    try simp only [Act.put, List.setIfInBounds_toArray, List.set_cons_zero, List.set_cons_succ]
    refine wpAnyH_take (i := 15) (v := ?vb15) rfl (by kernel_rfl) (by kernel_rfl) (by kernel_rfl) (fun _ _ _ h => h) (Or.inl ⟨by rfl, ?yb15⟩) hHeld ?zb15
    case yb15 => (intro wq hSw; (try dsimp only at hSw); go_simp; try with_reducible rfl)
    try simp only [Act.put, List.setIfInBounds_toArray, List.set_cons_zero, List.set_cons_succ]
    refine wpAnyH_take (i := 20) (v := ?vb20) rfl (by kernel_rfl) (by kernel_rfl) (by kernel_rfl) (fun _ _ _ h => h) (Or.inl ⟨by rfl, ?yb20⟩) hHeld ?zb20
    case yb20 => (intro wq hSw; (try dsimp only at hSw); go_simp; try with_reducible rfl)
    try simp only [Act.put, List.setIfInBounds_toArray, List.set_cons_zero, List.set_cons_succ]
    refine wpAnyH_take (i := 21) (v := ?vb21) rfl (by kernel_rfl) (by kernel_rfl) (by kernel_rfl) (fun _ _ _ h => h) (Or.inl ⟨by rfl, ?yb21⟩) hHeld ?zb21
    case yb21 => (intro wq hSw; (try dsimp only at hSw); go_simp; try with_reducible rfl)
    try simp only [Act.put, List.setIfInBounds_toArray, List.set_cons_zero, List.set_cons_succ]
    refine wpAnyH_take (i := 24) (v := ?vb24) rfl (by kernel_rfl) (by kernel_rfl) (by kernel_rfl) (fun _ _ _ h => h) (Or.inl ⟨by rfl, ?yb24⟩) hHeld ?zb24
    case yb24 => (intro wq hSw; (try dsimp only at hSw); go_simp; try with_reducible rfl)
    try simp only [Act.put, List.setIfInBounds_toArray, List.set_cons_zero, List.set_cons_succ]
    refine wpAnyH_take (i := 25) (v := ?vb25) rfl (by kernel_rfl) (by kernel_rfl) (by kernel_rfl) (fun _ _ _ h => h) (Or.inl ⟨by rfl, ?yb25⟩) hHeld ?zb25
    case yb25 => (intro wq hSw; (try dsimp only at hSw); go_simp; try with_reducible rfl)
    try simp only [Act.put, List.setIfInBounds_toArray, List.set_cons_zero, List.set_cons_succ]
    refine wpAnyH_take (i := 26) (v := ?vb26) rfl (by kernel_rfl) (by kernel_rfl) (by kernel_rfl) (fun _ _ _ h => h) (Or.inl ⟨by rfl, ?yb26⟩) hHeld ?zb26
    case yb26 => (intro wq hSw; (try dsimp only at hSw); go_simp; try with_reducible rfl)
    try simp only [Act.put, List.setIfInBounds_toArray, List.set_cons_zero, List.set_cons_succ]
    refine wpAnyH_take (i := 27) (v := ?vb27) rfl (by kernel_rfl) (by kernel_rfl) (by kernel_rfl) (fun _ _ _ h => h) (Or.inl ⟨by rfl, ?yb27⟩) hHeld ?zb27
    case yb27 => (intro wq hSw; (try dsimp only at hSw); go_simp; try with_reducible rfl)
    try simp only [Act.put, List.setIfInBounds_toArray, List.set_cons_zero, List.set_cons_succ]
    refine wpAnyH_take (i := 31) (v := ?vb31) rfl (by kernel_rfl) (by kernel_rfl) (by kernel_rfl) (fun _ _ _ h => h) (Or.inl ⟨by rfl, ?yb31⟩) hHeld ?zb31
    case yb31 => (intro wq hSw; (try dsimp only at hSw); go_simp; try with_reducible rfl)
    try simp only [Act.put, List.setIfInBounds_toArray, List.set_cons_zero, List.set_cons_succ]
    refine wpAnyH_take (i := 32) (v := ?vb32) rfl (by kernel_rfl) (by kernel_rfl) (by kernel_rfl) (fun _ _ _ h => h) (Or.inl ⟨by rfl, ?yb32⟩) hHeld ?zb32
    case yb32 => (intro wq hSw; (try dsimp only at hSw); go_simp; try with_reducible rfl)
    try simp only [Act.put, List.setIfInBounds_toArray, List.set_cons_zero, List.set_cons_succ]
    refine wpAnyH_take (i := 36) (v := ?vb36) rfl (by kernel_rfl) (by kernel_rfl) (by kernel_rfl) (fun _ _ _ h => h) (Or.inl ⟨by rfl, ?yb36⟩) hHeld ?zb36
    case yb36 => (intro wq hSw; (try dsimp only at hSw); go_simp; try with_reducible rfl)
    try simp only [Act.put, List.setIfInBounds_toArray, List.set_cons_zero, List.set_cons_succ]
    refine wpAnyH_take (i := 37) (v := ?vb37) rfl (by kernel_rfl) (by kernel_rfl) (by kernel_rfl) (fun _ _ _ h => h) (Or.inl ⟨by rfl, ?yb37⟩) hHeld ?zb37
    case yb37 => (intro wq hSw; (try dsimp only at hSw); go_simp; try with_reducible rfl)
    try simp only [Act.put, List.setIfInBounds_toArray, List.set_cons_zero, List.set_cons_succ]
    refine wpAnyH_take (i := 2) (v := .string (⟨#[82, 117, 108, 101, 32]⟩ ++ nm)) rfl (by kernel_rfl) (by kernel_rfl) (by kernel_rfl) (fun _ _ _ h => h) (Or.inl ⟨by rfl, ?yb2⟩) hHeld ?zb2
    case yb2 => intro wq _; go_simp; omega
    try simp only [Act.put, List.setIfInBounds_toArray, List.set_cons_zero, List.set_cons_succ]
    refine wpAnyH_take (i := 3) (v := .string (⟨#[82, 117, 108, 101, 32]⟩ ++ nm ++ ⟨#[32]⟩)) rfl (by kernel_rfl) (by kernel_rfl) (by kernel_rfl) (fun _ _ _ h => h) (Or.inl ⟨by rfl, ?yb3⟩) hHeld ?zb3
    case yb3 => intro wq _; go_simp; omega
    try simp only [Act.put, List.setIfInBounds_toArray, List.set_cons_zero, List.set_cons_succ]
    refine wpAnyH_ready (rs := [6]) (by kernel_rfl) (by simp) ?_
    refine AllReadyH.cons rfl (fun K hK => ?_) AllReadyH.nil
    go_simp
    refine (hA _).mono ?_
    rintro e w3 ⟨rfl, hb3⟩
    have hB3 := hB2.trans (hb3.mono hB2.size)
    obtain ⟨x0, x1, x2, x3, x4, x5, x6, x7, x8⟩ := hHeld
    have hS := And.intro (((bcell hb3).1 _ _ (World.block_lt_of_cell? _ _ x0)).trans x0) (And.intro (((bcell hb3).1 _ _ (World.block_lt_of_cell? _ _ x1)).trans x1) (And.intro (((bcell hb3).1 _ _ (World.block_lt_of_cell? _ _ x2)).trans x2) (And.intro (((bcell hb3).1 _ _ (World.block_lt_of_cell? _ _ x3)).trans x3) (And.intro (((bcell hb3).1 _ _ (World.block_lt_of_cell? _ _ x4)).trans x4) (And.intro (((bcell hb3).1 _ _ (World.block_lt_of_cell? _ _ x5)).trans x5) (And.intro (((bcell hb3).1 _ _ (World.block_lt_of_cell? _ _ x6)).trans x6) (And.intro (((bcell hb3).1 _ _ (World.block_lt_of_cell? _ _ x7)).trans x7) (((bcell hb3).1 _ _ (World.block_lt_of_cell? _ _ x8)).trans x8))))))))
    go_wp2_with fail
    refine hK.out _ _ hS (fun hHeld => ?_)
    clear hK K
    try simp only [Act.put, List.setIfInBounds_toArray, List.set_cons_zero, List.set_cons_succ]
    refine wpAnyH_take (i := 7) (v := .string (⟨#[82, 117, 108, 101, 32]⟩ ++ nm ++ ⟨#[32]⟩ ++ A)) rfl (by kernel_rfl) (by kernel_rfl) (by kernel_rfl) (fun _ _ _ h => h) (Or.inl ⟨by rfl, ?yb7⟩) hHeld ?zb7
    case yb7 => intro wq _; go_simp; omega
    try simp only [Act.put, List.setIfInBounds_toArray, List.set_cons_zero, List.set_cons_succ]
    refine wpAnyH_take (i := 8) (v := .string (⟨#[82, 117, 108, 101, 32]⟩ ++ nm ++ ⟨#[32]⟩ ++ A ++ ⟨#[32]⟩)) rfl (by kernel_rfl) (by kernel_rfl) (by kernel_rfl) (fun _ _ _ h => h) (Or.inl ⟨by rfl, ?yb8⟩) hHeld ?zb8
    case yb8 => intro wq _; go_simp; omega
    try simp only [Act.put, List.setIfInBounds_toArray, List.set_cons_zero, List.set_cons_succ]
    refine wpAnyH_take (i := 10) (v := .string (⟨#[82, 117, 108, 101, 32]⟩ ++ nm ++ ⟨#[32]⟩ ++ A ++ ⟨#[32]⟩ ++ ⟨#[109, 97, 120]⟩)) rfl (by kernel_rfl) (by kernel_rfl) (by kernel_rfl) (fun _ _ _ h => h) (Or.inl ⟨by rfl, ?yb10⟩) hHeld ?zb10
    case yb10 => intro wq _; go_simp; omega
    try simp only [Act.put, List.setIfInBounds_toArray, List.set_cons_zero, List.set_cons_succ]
    refine wpAnyH_take (i := 11) (v := .string (⟨#[82, 117, 108, 101, 32]⟩ ++ nm ++ ⟨#[32]⟩ ++ A ++ ⟨#[32]⟩ ++ ⟨#[109, 97, 120]⟩ ++ ⟨#[32, 45, 32]⟩)) rfl (by kernel_rfl) (by kernel_rfl) (by kernel_rfl) (fun _ _ _ h => h) (Or.inl ⟨by rfl, ?yb11⟩) hHeld ?zb11
    case yb11 => intro wq _; go_simp; omega
    try simp only [Act.put, List.setIfInBounds_toArray, List.set_cons_zero, List.set_cons_succ]
    refine wpAnyH_ready (rs := [12]) (by kernel_rfl) (by simp) ?_
    refine AllReadyH.cons rfl (fun K hK => ?_) AllReadyH.nil
    go_simp
    refine (hM' _).mono ?_
    rintro e w4 ⟨rfl, hb4, m_4⟩
    have hB4 := hB3.trans (hb4.mono hB3.size)
    obtain ⟨x0, x1, x2, x3, x4, x5, x6, x7, x8⟩ := hHeld
    have hS := And.intro (((bcell hb4).1 _ _ (World.block_lt_of_cell? _ _ x0)).trans x0) (And.intro (((bcell hb4).1 _ _ (World.block_lt_of_cell? _ _ x1)).trans x1) (And.intro (((bcell hb4).1 _ _ (World.block_lt_of_cell? _ _ x2)).trans x2) (And.intro (((bcell hb4).1 _ _ (World.block_lt_of_cell? _ _ x3)).trans x3) (And.intro (((bcell hb4).1 _ _ (World.block_lt_of_cell? _ _ x4)).trans x4) (And.intro (((bcell hb4).1 _ _ (World.block_lt_of_cell? _ _ x5)).trans x5) (And.intro (((bcell hb4).1 _ _ (World.block_lt_of_cell? _ _ x6)).trans x6) (And.intro (((bcell hb4).1 _ _ (World.block_lt_of_cell? _ _ x7)).trans x7) (((bcell hb4).1 _ _ (World.block_lt_of_cell? _ _ x8)).trans x8))))))))
    go_wp2_with fail
    refine hK.out _ _ hS (fun hHeld => ?_)
    clear hK K
    try simp only [Act.put, List.setIfInBounds_toArray, List.set_cons_zero, List.set_cons_succ]
    refine wpAnyH_sub (S2 := fun w' => w'.cell? ⟨w.heap.size, 0, none⟩ = some (.string nm) ∧ w'.cell? ⟨w.heap.size, 1, none⟩ = some (.int .i64 (lo : Int)) ∧ w'.cell? ⟨w.heap.size, 2, none⟩ = some (.int .i64 (hi : Int)) ∧ w'.cell? ⟨w.heap.size, 3, none⟩ = some (.int .i64 (m : Int)) ∧ w'.cell? ⟨w.heap.size, 4, none⟩ = some (.string on) ∧ w'.cell? ⟨w.heap.size, 5, none⟩ = some (.int .i64 at_) ∧ w'.cell? ⟨w.heap.size, 6, none⟩ = some (.string of) ∧ w'.cell? ⟨w.heap.size, 7, none⟩ = some (.int .i64 sv) ∧ w'.cell? ⟨w.heap.size, 8, none⟩ = some (.string lt) ∧ w'.cell? ⟨w3.heap.size, k, none⟩ = some (.string M)) (fun _ h => ⟨h.1, h.2.1, h.2.2.1, h.2.2.2.1, h.2.2.2.2.1, h.2.2.2.2.2.1, h.2.2.2.2.2.2.1, h.2.2.2.2.2.2.2.1, h.2.2.2.2.2.2.2.2.1⟩) _ _ _ _ ?_
    have hHeld : (fun w' : World => w'.cell? ⟨w.heap.size, 0, none⟩ = some (.string nm) ∧ w'.cell? ⟨w.heap.size, 1, none⟩ = some (.int .i64 (lo : Int)) ∧ w'.cell? ⟨w.heap.size, 2, none⟩ = some (.int .i64 (hi : Int)) ∧ w'.cell? ⟨w.heap.size, 3, none⟩ = some (.int .i64 (m : Int)) ∧ w'.cell? ⟨w.heap.size, 4, none⟩ = some (.string on) ∧ w'.cell? ⟨w.heap.size, 5, none⟩ = some (.int .i64 at_) ∧ w'.cell? ⟨w.heap.size, 6, none⟩ = some (.string of) ∧ w'.cell? ⟨w.heap.size, 7, none⟩ = some (.int .i64 sv) ∧ w'.cell? ⟨w.heap.size, 8, none⟩ = some (.string lt) ∧ w'.cell? ⟨w3.heap.size, k, none⟩ = some (.string M)) w4 := ⟨hHeld.1, hHeld.2.1, hHeld.2.2.1, hHeld.2.2.2.1, hHeld.2.2.2.2.1, hHeld.2.2.2.2.2.1, hHeld.2.2.2.2.2.2.1, hHeld.2.2.2.2.2.2.2.1, hHeld.2.2.2.2.2.2.2.2, m_4⟩
    refine wpAnyH_take (i := 16) (v := ?vb16) rfl (by kernel_rfl) (by kernel_rfl) (by kernel_rfl) (fun _ _ _ h => h) (Or.inl ⟨by rfl, ?yb16⟩) hHeld ?zb16
    case yb16 => (intro wq hSw; (try dsimp only at hSw); go_simp; try with_reducible rfl)
    try simp only [Act.put, List.setIfInBounds_toArray, List.set_cons_zero, List.set_cons_succ]
    refine wpAnyH_take (i := 17) (v := ?vb17) rfl (by kernel_rfl) (by kernel_rfl) (by kernel_rfl) (fun _ _ _ h => h) (Or.inl ⟨by rfl, ?yb17⟩) hHeld ?zb17
    case yb17 => (intro wq hSw; (try dsimp only at hSw); go_simp; try with_reducible rfl)
    try simp only [Act.put, List.setIfInBounds_toArray, List.set_cons_zero, List.set_cons_succ]
    refine wpAnyH_take (i := 18) (v := .string (⟨#[82, 117, 108, 101, 32]⟩ ++ nm ++ ⟨#[32]⟩ ++ A ++ ⟨#[32]⟩ ++ ⟨#[109, 97, 120]⟩ ++ ⟨#[32, 45, 32]⟩ ++ M)) rfl (by kernel_rfl) (by kernel_rfl) (by kernel_rfl) (fun _ _ _ h => h) (Or.inl ⟨by rfl, ?yb18⟩) hHeld ?zb18
    case yb18 => intro wq _; go_simp; omega
    try simp only [Act.put, List.setIfInBounds_toArray, List.set_cons_zero, List.set_cons_succ]
    refine wpAnyH_take (i := 19) (v := .string (⟨#[82, 117, 108, 101, 32]⟩ ++ nm ++ ⟨#[32]⟩ ++ A ++ ⟨#[32]⟩ ++ ⟨#[109, 97, 120]⟩ ++ ⟨#[32, 45, 32]⟩ ++ M ++ ⟨#[32]⟩)) rfl (by kernel_rfl) (by kernel_rfl) (by kernel_rfl) (fun _ _ _ h => h) (Or.inl ⟨by rfl, ?yb19⟩) hHeld ?zb19
    case yb19 => intro wq _; go_simp; omega
    try simp only [Act.put, List.setIfInBounds_toArray, List.set_cons_zero, List.set_cons_succ]
    refine wpAnyH_take (i := 22) (v := .string (⟨#[82, 117, 108, 101, 32]⟩ ++ nm ++ ⟨#[32]⟩ ++ A ++ ⟨#[32]⟩ ++ ⟨#[109, 97, 120]⟩ ++ ⟨#[32, 45, 32]⟩ ++ M ++ ⟨#[32]⟩ ++ on)) rfl (by kernel_rfl) (by kernel_rfl) (by kernel_rfl) (fun _ _ _ h => h) (Or.inl ⟨by rfl, ?yb22⟩) hHeld ?zb22
    case yb22 => intro wq _; go_simp; omega
    try simp only [Act.put, List.setIfInBounds_toArray, List.set_cons_zero, List.set_cons_succ]
    refine wpAnyH_take (i := 23) (v := .string (⟨#[82, 117, 108, 101, 32]⟩ ++ nm ++ ⟨#[32]⟩ ++ A ++ ⟨#[32]⟩ ++ ⟨#[109, 97, 120]⟩ ++ ⟨#[32, 45, 32]⟩ ++ M ++ ⟨#[32]⟩ ++ on ++ ⟨#[32]⟩)) rfl (by kernel_rfl) (by kernel_rfl) (by kernel_rfl) (fun _ _ _ h => h) (Or.inl ⟨by rfl, ?yb23⟩) hHeld ?zb23
    case yb23 => intro wq _; go_simp; omega
    try simp only [Act.put, List.setIfInBounds_toArray, List.set_cons_zero, List.set_cons_succ]
    refine wpAnyH_ready (rs := [28]) (by kernel_rfl) (by simp) ?_
    refine AllReadyH.cons rfl (fun K hK => ?_) AllReadyH.nil
    go_simp
    refine (hX _).mono ?_
    rintro e w5 ⟨rfl, hb5⟩
    have hB5 := hB4.trans (hb5.mono hB4.size)
    obtain ⟨x0, x1, x2, x3, x4, x5, x6, x7, x8, x9⟩ := hHeld
    have hS := And.intro (((bcell hb5).1 _ _ (World.block_lt_of_cell? _ _ x0)).trans x0) (And.intro (((bcell hb5).1 _ _ (World.block_lt_of_cell? _ _ x1)).trans x1) (And.intro (((bcell hb5).1 _ _ (World.block_lt_of_cell? _ _ x2)).trans x2) (And.intro (((bcell hb5).1 _ _ (World.block_lt_of_cell? _ _ x3)).trans x3) (And.intro (((bcell hb5).1 _ _ (World.block_lt_of_cell? _ _ x4)).trans x4) (And.intro (((bcell hb5).1 _ _ (World.block_lt_of_cell? _ _ x5)).trans x5) (And.intro (((bcell hb5).1 _ _ (World.block_lt_of_cell? _ _ x6)).trans x6) (And.intro (((bcell hb5).1 _ _ (World.block_lt_of_cell? _ _ x7)).trans x7) (And.intro (((bcell hb5).1 _ _ (World.block_lt_of_cell? _ _ x8)).trans x8) (((bcell hb5).1 _ _ (World.block_lt_of_cell? _ _ x9)).trans x9)))))))))
    go_wp2_with fail
    refine hK.out _ _ hS (fun hHeld => ?_)
    clear hK K
    try simp only [Act.put, List.setIfInBounds_toArray, List.set_cons_zero, List.set_cons_succ]
    refine wpAnyH_take (i := 29) (v := .string (⟨#[82, 117, 108, 101, 32]⟩ ++ nm ++ ⟨#[32]⟩ ++ A ++ ⟨#[32]⟩ ++ ⟨#[109, 97, 120]⟩ ++ ⟨#[32, 45, 32]⟩ ++ M ++ ⟨#[32]⟩ ++ on ++ ⟨#[32]⟩ ++ X)) rfl (by kernel_rfl) (by kernel_rfl) (by kernel_rfl) (fun _ _ _ h => h) (Or.inl ⟨by rfl, ?yb29⟩) hHeld ?zb29
    case yb29 => intro wq _; go_simp; omega
    try simp only [Act.put, List.setIfInBounds_toArray, List.set_cons_zero, List.set_cons_succ]
    refine wpAnyH_take (i := 30) (v := .string (⟨#[82, 117, 108, 101, 32]⟩ ++ nm ++ ⟨#[32]⟩ ++ A ++ ⟨#[32]⟩ ++ ⟨#[109, 97, 120]⟩ ++ ⟨#[32, 45, 32]⟩ ++ M ++ ⟨#[32]⟩ ++ on ++ ⟨#[32]⟩ ++ X ++ ⟨#[32]⟩)) rfl (by kernel_rfl) (by kernel_rfl) (by kernel_rfl) (fun _ _ _ h => h) (Or.inl ⟨by rfl, ?yb30⟩) hHeld ?zb30
    case yb30 => intro wq _; go_simp; omega
    try simp only [Act.put, List.setIfInBounds_toArray, List.set_cons_zero, List.set_cons_succ]
    refine wpAnyH_ready (rs := [33]) (by kernel_rfl) (by simp) ?_
    refine AllReadyH.cons rfl (fun K hK => ?_) AllReadyH.nil
    go_simp
    refine (hO _).mono ?_
    rintro e w6 ⟨rfl, hb6⟩
    have hB6 := hB5.trans (hb6.mono hB5.size)
    obtain ⟨x0, x1, x2, x3, x4, x5, x6, x7, x8, x9⟩ := hHeld
    have hS := And.intro (((bcell hb6).1 _ _ (World.block_lt_of_cell? _ _ x0)).trans x0) (And.intro (((bcell hb6).1 _ _ (World.block_lt_of_cell? _ _ x1)).trans x1) (And.intro (((bcell hb6).1 _ _ (World.block_lt_of_cell? _ _ x2)).trans x2) (And.intro (((bcell hb6).1 _ _ (World.block_lt_of_cell? _ _ x3)).trans x3) (And.intro (((bcell hb6).1 _ _ (World.block_lt_of_cell? _ _ x4)).trans x4) (And.intro (((bcell hb6).1 _ _ (World.block_lt_of_cell? _ _ x5)).trans x5) (And.intro (((bcell hb6).1 _ _ (World.block_lt_of_cell? _ _ x6)).trans x6) (And.intro (((bcell hb6).1 _ _ (World.block_lt_of_cell? _ _ x7)).trans x7) (And.intro (((bcell hb6).1 _ _ (World.block_lt_of_cell? _ _ x8)).trans x8) (((bcell hb6).1 _ _ (World.block_lt_of_cell? _ _ x9)).trans x9)))))))))
    go_wp2_with fail
    refine hK.out _ _ hS (fun hHeld => ?_)
    clear hK K
    try simp only [Act.put, List.setIfInBounds_toArray, List.set_cons_zero, List.set_cons_succ]
    refine wpAnyH_take (i := 34) (v := .string (⟨#[82, 117, 108, 101, 32]⟩ ++ nm ++ ⟨#[32]⟩ ++ A ++ ⟨#[32]⟩ ++ ⟨#[109, 97, 120]⟩ ++ ⟨#[32, 45, 32]⟩ ++ M ++ ⟨#[32]⟩ ++ on ++ ⟨#[32]⟩ ++ X ++ ⟨#[32]⟩ ++ O)) rfl (by kernel_rfl) (by kernel_rfl) (by kernel_rfl) (fun _ _ _ h => h) (Or.inl ⟨by rfl, ?yb34⟩) hHeld ?zb34
    case yb34 => intro wq _; go_simp; omega
    try simp only [Act.put, List.setIfInBounds_toArray, List.set_cons_zero, List.set_cons_succ]
    refine wpAnyH_take (i := 35) (v := .string (⟨#[82, 117, 108, 101, 32]⟩ ++ nm ++ ⟨#[32]⟩ ++ A ++ ⟨#[32]⟩ ++ ⟨#[109, 97, 120]⟩ ++ ⟨#[32, 45, 32]⟩ ++ M ++ ⟨#[32]⟩ ++ on ++ ⟨#[32]⟩ ++ X ++ ⟨#[32]⟩ ++ O ++ ⟨#[32]⟩)) rfl (by kernel_rfl) (by kernel_rfl) (by kernel_rfl) (fun _ _ _ h => h) (Or.inl ⟨by rfl, ?yb35⟩) hHeld ?zb35
    case yb35 => intro wq _; go_simp; omega
    try simp only [Act.put, List.setIfInBounds_toArray, List.set_cons_zero, List.set_cons_succ]
    refine wpAnyH_ready (rs := [38]) (by kernel_rfl) (by simp) ?_
    refine AllReadyH.cons rfl (fun K hK => ?_) AllReadyH.nil
    go_simp
    refine (hD _).mono ?_
    rintro e wx ⟨rfl, hwx⟩
    have hwy := hwx.symm
    clear hwx
    subst hwy
    go_wp2_with fail
    refine hK.out _ _ hHeld (fun hHeld => ?_)
    clear hK K
    try simp only [Act.put, List.setIfInBounds_toArray, List.set_cons_zero, List.set_cons_succ]
    refine wpAnyH_take (i := 39) (v := .string (⟨#[82, 117, 108, 101, 32]⟩ ++ nm ++ ⟨#[32]⟩ ++ A ++ ⟨#[32]⟩ ++ ⟨#[109, 97, 120]⟩ ++ ⟨#[32, 45, 32]⟩ ++ M ++ ⟨#[32]⟩ ++ on ++ ⟨#[32]⟩ ++ X ++ ⟨#[32]⟩ ++ O ++ ⟨#[32]⟩ ++ D)) rfl (by kernel_rfl) (by kernel_rfl) (by kernel_rfl) (fun _ _ _ h => h) (Or.inl ⟨by rfl, ?yb39⟩) hHeld ?zb39
    case yb39 => intro wq _; go_simp; omega
    try simp only [Act.put, List.setIfInBounds_toArray, List.set_cons_zero, List.set_cons_succ]
    refine wpAnyH_take (i := 40) (v := .string (⟨#[82, 117, 108, 101, 32]⟩ ++ nm ++ ⟨#[32]⟩ ++ A ++ ⟨#[32]⟩ ++ ⟨#[109, 97, 120]⟩ ++ ⟨#[32, 45, 32]⟩ ++ M ++ ⟨#[32]⟩ ++ on ++ ⟨#[32]⟩ ++ X ++ ⟨#[32]⟩ ++ O ++ ⟨#[32]⟩ ++ D ++ ⟨#[10]⟩)) rfl (by kernel_rfl) (by kernel_rfl) (by kernel_rfl) (fun _ _ _ h => h) (Or.inl ⟨by rfl, ?yb40⟩) hHeld ?zb40
    case yb40 => intro wq _; go_simp; omega
    try simp only [Act.put, List.setIfInBounds_toArray, List.set_cons_zero, List.set_cons_succ]
    refine wpAnyH_take (i := 41) (v := ?vb41) rfl (by kernel_rfl) (by kernel_rfl) (by kernel_rfl) (fun _ _ _ h => h) (Or.inl ⟨by rfl, ?yb41⟩) hHeld ?zb41
    case yb41 => (intro wq hSw; (try dsimp only at hSw); go_simp; try with_reducible rfl)
    try simp only [Act.put, List.setIfInBounds_toArray, List.set_cons_zero, List.set_cons_succ]
    try simp only [Act.put, List.getElem_toArray, List.getElem_cons_succ, List.getElem_cons_zero, List.setIfInBounds_toArray, List.set_cons_zero, List.set_cons_succ]
    refine wpAnyH_done (by kernel_rfl) ?_ _
    refine NoPanic.normal ?_
    go_wp2
    go_ret
    exact ⟨rfl, hB6⟩
  rw [if_neg e2] at eT
  have e2' : ((hi : Int) == 9999) = false := by simp; omega
  subst eT
  clear e1 e2
  go_enter Tryz.func81, Tryz.ntmps81
  go_wp2_with fail
  refine (hT _).mono ?_
  rintro e w1 ⟨rfl, hb1⟩
  have hB1 := hB0.trans (hb1.mono hB0.size)
  have c0_1 := ((bcell hb1).1 _ _ (World.block_lt_of_cell? _ _ c0_0)).trans c0_0
  have c1_1 := ((bcell hb1).1 _ _ (World.block_lt_of_cell? _ _ c1_0)).trans c1_0
  have c2_1 := ((bcell hb1).1 _ _ (World.block_lt_of_cell? _ _ c2_0)).trans c2_0
  have c3_1 := ((bcell hb1).1 _ _ (World.block_lt_of_cell? _ _ c3_0)).trans c3_0
  have c4_1 := ((bcell hb1).1 _ _ (World.block_lt_of_cell? _ _ c4_0)).trans c4_0
  have c5_1 := ((bcell hb1).1 _ _ (World.block_lt_of_cell? _ _ c5_0)).trans c5_0
  have c6_1 := ((bcell hb1).1 _ _ (World.block_lt_of_cell? _ _ c6_0)).trans c6_0
  have c7_1 := ((bcell hb1).1 _ _ (World.block_lt_of_cell? _ _ c7_0)).trans c7_0
  have c8_1 := ((bcell hb1).1 _ _ (World.block_lt_of_cell? _ _ c8_0)).trans c8_0
  clear hb1 hB0 hT c0_0 c1_0 c2_0 c3_0 c4_0 c5_0 c6_0 c7_0 c8_0
  have hD1 : Below w1.heap.size w1 w1.drew := ⟨rfl, rfl, rfl, Nat.le_refl _, fun _ _ => rfl⟩
  have hB2 := hB1.trans (hD1.mono hB1.size)
  go_wp2_with fail
  refine wp_region_noPanic ?_
  refine wp_region_held_drew (S := fun w' => w'.cell? ⟨w.heap.size, 0, none⟩ = some (.string nm) ∧ w'.cell? ⟨w.heap.size, 1, none⟩ = some (.int .i64 (lo : Int)) ∧ w'.cell? ⟨w.heap.size, 2, none⟩ = some (.int .i64 (hi : Int)) ∧ w'.cell? ⟨w.heap.size, 3, none⟩ = some (.int .i64 (m : Int)) ∧ w'.cell? ⟨w.heap.size, 4, none⟩ = some (.string on) ∧ w'.cell? ⟨w.heap.size, 5, none⟩ = some (.int .i64 at_) ∧ w'.cell? ⟨w.heap.size, 6, none⟩ = some (.string of) ∧ w'.cell? ⟨w.heap.size, 7, none⟩ = some (.int .i64 sv) ∧ w'.cell? ⟨w.heap.size, 8, none⟩ = some (.string lt)) (by kernel_rfl) ⟨((bcell hD1).1 _ _ (World.block_lt_of_cell? _ _ c0_1)).trans c0_1, ((bcell hD1).1 _ _ (World.block_lt_of_cell? _ _ c1_1)).trans c1_1, ((bcell hD1).1 _ _ (World.block_lt_of_cell? _ _ c2_1)).trans c2_1, ((bcell hD1).1 _ _ (World.block_lt_of_cell? _ _ c3_1)).trans c3_1, ((bcell hD1).1 _ _ (World.block_lt_of_cell? _ _ c4_1)).trans c4_1, ((bcell hD1).1 _ _ (World.block_lt_of_cell? _ _ c5_1)).trans c5_1, ((bcell hD1).1 _ _ (World.block_lt_of_cell? _ _ c6_1)).trans c6_1, ((bcell hD1).1 _ _ (World.block_lt_of_cell? _ _ c7_1)).trans c7_1, ((bcell hD1).1 _ _ (World.block_lt_of_cell? _ _ c8_1)).trans c8_1⟩ (fun hHeld => ?_)
  clear hB1 hD1 c0_1 c1_1 c2_1 c3_1 c4_1 c5_1 c6_1 c7_1 c8_1
  refine wpAnyH_take (i := 0) (v := ?vc0) rfl (by kernel_rfl) (by kernel_rfl) (by kernel_rfl) (fun _ _ _ h => h) (Or.inl ⟨by rfl, ?yc0⟩) hHeld ?zc0
  case yc0 => (intro wq hSw; (try dsimp only at hSw); go_simp; try with_reducible rfl)
  try simp only [Act.put, List.setIfInBounds_toArray, List.set_cons_zero, List.set_cons_succ]
  refine wpAnyH_take (i := 1) (v := ?vc1) rfl (by kernel_rfl) (by kernel_rfl) (by kernel_rfl) (fun _ _ _ h => h) (Or.inl ⟨by rfl, ?yc1⟩) hHeld ?zc1
  case yc1 => (intro wq hSw; (try dsimp only at hSw); go_simp; try with_reducible rfl)
  try simp only [Act.put, List.setIfInBounds_toArray, List.set_cons_zero, List.set_cons_succ]
  refine wpAnyH_take (i := 4) (v := ?vc4) rfl (by kernel_rfl) (by kernel_rfl) (by kernel_rfl) (fun _ _ _ h => h) (Or.inl ⟨by rfl, ?yc4⟩) hHeld ?zc4
  case yc4 => (intro wq hSw; (try dsimp only at hSw); go_simp; try with_reducible rfl)
  try simp only [Act.put, List.setIfInBounds_toArray, List.set_cons_zero, List.set_cons_succ]
  refine wpAnyH_take (i := 5) (v := ?vc5) rfl (by kernel_rfl) (by kernel_rfl) (by kernel_rfl) (fun _ _ _ h => h) (Or.inl ⟨by rfl, ?yc5⟩) hHeld ?zc5
  case yc5 => (intro wq hSw; (try dsimp only at hSw); go_simp; try with_reducible rfl)
  try simp only [Act.put, List.setIfInBounds_toArray, List.set_cons_zero, List.set_cons_succ]
  refine wpAnyH_take (i := 9) (v := ?vc9) rfl (by kernel_rfl) (by kernel_rfl) (by kernel_rfl) (fun _ _ _ h => h) (Or.inl ⟨by rfl, ?yc9⟩) hHeld ?zc9
  case yc9 => (intro wq hSw; (try dsimp only at hSw); go_simp; try with_reducible rfl)
  try simp only [Act.put, List.setIfInBounds_toArray, List.set_cons_zero, List.set_cons_succ]
  refine wpAnyH_take (i := 13) (v := ?vc13) rfl (by kernel_rfl) (by kernel_rfl) (by kernel_rfl) (fun _ _ _ h => h) (Or.inl ⟨by rfl, ?yc13⟩) hHeld ?zc13
  case yc13 => (intro wq hSw; (try dsimp only at hSw); go_simp; try with_reducible rfl)
  try simp only [Act.put, List.setIfInBounds_toArray, List.set_cons_zero, List.set_cons_succ]
  refine wpAnyH_take (i := 14) (v := ?vc14) rfl (by kernel_rfl) (by kernel_rfl) (by kernel_rfl) (fun _ _ _ h => h) (Or.inl ⟨by rfl, ?yc14⟩) hHeld ?zc14
  case yc14 => (intro wq hSw; (try dsimp only at hSw); go_simp; try with_reducible rfl)
  try simp only [Act.put, List.setIfInBounds_toArray, List.set_cons_zero, List.set_cons_succ]
  refine wpAnyH_take (i := 15) (v := ?vc15) rfl (by kernel_rfl) (by kernel_rfl) (by kernel_rfl) (fun _ _ _ h => h) (Or.inl ⟨by rfl, ?yc15⟩) hHeld ?zc15
  case yc15 => (intro wq hSw; (try dsimp only at hSw); go_simp; try with_reducible rfl)
  try simp only [Act.put, List.setIfInBounds_toArray, List.set_cons_zero, List.set_cons_succ]
  refine wpAnyH_take (i := 20) (v := ?vc20) rfl (by kernel_rfl) (by kernel_rfl) (by kernel_rfl) (fun _ _ _ h => h) (Or.inl ⟨by rfl, ?yc20⟩) hHeld ?zc20
  case yc20 => (intro wq hSw; (try dsimp only at hSw); go_simp; try with_reducible rfl)
  try simp only [Act.put, List.setIfInBounds_toArray, List.set_cons_zero, List.set_cons_succ]
  refine wpAnyH_take (i := 21) (v := ?vc21) rfl (by kernel_rfl) (by kernel_rfl) (by kernel_rfl) (fun _ _ _ h => h) (Or.inl ⟨by rfl, ?yc21⟩) hHeld ?zc21
  case yc21 => (intro wq hSw; (try dsimp only at hSw); go_simp; try with_reducible rfl)
  try simp only [Act.put, List.setIfInBounds_toArray, List.set_cons_zero, List.set_cons_succ]
  refine wpAnyH_take (i := 24) (v := ?vc24) rfl (by kernel_rfl) (by kernel_rfl) (by kernel_rfl) (fun _ _ _ h => h) (Or.inl ⟨by rfl, ?yc24⟩) hHeld ?zc24
  case yc24 => (intro wq hSw; (try dsimp only at hSw); go_simp; try with_reducible rfl)
  try simp only [Act.put, List.setIfInBounds_toArray, List.set_cons_zero, List.set_cons_succ]
  refine wpAnyH_take (i := 25) (v := ?vc25) rfl (by kernel_rfl) (by kernel_rfl) (by kernel_rfl) (fun _ _ _ h => h) (Or.inl ⟨by rfl, ?yc25⟩) hHeld ?zc25
  case yc25 => (intro wq hSw; (try dsimp only at hSw); go_simp; try with_reducible rfl)
  try simp only [Act.put, List.setIfInBounds_toArray, List.set_cons_zero, List.set_cons_succ]
  refine wpAnyH_take (i := 26) (v := ?vc26) rfl (by kernel_rfl) (by kernel_rfl) (by kernel_rfl) (fun _ _ _ h => h) (Or.inl ⟨by rfl, ?yc26⟩) hHeld ?zc26
  case yc26 => (intro wq hSw; (try dsimp only at hSw); go_simp; try with_reducible rfl)
  try simp only [Act.put, List.setIfInBounds_toArray, List.set_cons_zero, List.set_cons_succ]
  refine wpAnyH_take (i := 27) (v := ?vc27) rfl (by kernel_rfl) (by kernel_rfl) (by kernel_rfl) (fun _ _ _ h => h) (Or.inl ⟨by rfl, ?yc27⟩) hHeld ?zc27
  case yc27 => (intro wq hSw; (try dsimp only at hSw); go_simp; try with_reducible rfl)
  try simp only [Act.put, List.setIfInBounds_toArray, List.set_cons_zero, List.set_cons_succ]
  refine wpAnyH_take (i := 31) (v := ?vc31) rfl (by kernel_rfl) (by kernel_rfl) (by kernel_rfl) (fun _ _ _ h => h) (Or.inl ⟨by rfl, ?yc31⟩) hHeld ?zc31
  case yc31 => (intro wq hSw; (try dsimp only at hSw); go_simp; try with_reducible rfl)
  try simp only [Act.put, List.setIfInBounds_toArray, List.set_cons_zero, List.set_cons_succ]
  refine wpAnyH_take (i := 32) (v := ?vc32) rfl (by kernel_rfl) (by kernel_rfl) (by kernel_rfl) (fun _ _ _ h => h) (Or.inl ⟨by rfl, ?yc32⟩) hHeld ?zc32
  case yc32 => (intro wq hSw; (try dsimp only at hSw); go_simp; try with_reducible rfl)
  try simp only [Act.put, List.setIfInBounds_toArray, List.set_cons_zero, List.set_cons_succ]
  refine wpAnyH_take (i := 36) (v := ?vc36) rfl (by kernel_rfl) (by kernel_rfl) (by kernel_rfl) (fun _ _ _ h => h) (Or.inl ⟨by rfl, ?yc36⟩) hHeld ?zc36
  case yc36 => (intro wq hSw; (try dsimp only at hSw); go_simp; try with_reducible rfl)
  try simp only [Act.put, List.setIfInBounds_toArray, List.set_cons_zero, List.set_cons_succ]
  refine wpAnyH_take (i := 37) (v := ?vc37) rfl (by kernel_rfl) (by kernel_rfl) (by kernel_rfl) (fun _ _ _ h => h) (Or.inl ⟨by rfl, ?yc37⟩) hHeld ?zc37
  case yc37 => (intro wq hSw; (try dsimp only at hSw); go_simp; try with_reducible rfl)
  try simp only [Act.put, List.setIfInBounds_toArray, List.set_cons_zero, List.set_cons_succ]
  refine wpAnyH_take (i := 2) (v := .string (⟨#[82, 117, 108, 101, 32]⟩ ++ nm)) rfl (by kernel_rfl) (by kernel_rfl) (by kernel_rfl) (fun _ _ _ h => h) (Or.inl ⟨by rfl, ?yc2⟩) hHeld ?zc2
  case yc2 => intro wq _; go_simp; omega
  try simp only [Act.put, List.setIfInBounds_toArray, List.set_cons_zero, List.set_cons_succ]
  refine wpAnyH_take (i := 3) (v := .string (⟨#[82, 117, 108, 101, 32]⟩ ++ nm ++ ⟨#[32]⟩)) rfl (by kernel_rfl) (by kernel_rfl) (by kernel_rfl) (fun _ _ _ h => h) (Or.inl ⟨by rfl, ?yc3⟩) hHeld ?zc3
  case yc3 => intro wq _; go_simp; omega
  try simp only [Act.put, List.setIfInBounds_toArray, List.set_cons_zero, List.set_cons_succ]
  refine wpAnyH_ready (rs := [6]) (by kernel_rfl) (by simp) ?_
  refine AllReadyH.cons rfl (fun K hK => ?_) AllReadyH.nil
  go_simp
  refine (hA _).mono ?_
  rintro e w3 ⟨rfl, hb3⟩
  have hB3 := hB2.trans (hb3.mono hB2.size)
  obtain ⟨x0, x1, x2, x3, x4, x5, x6, x7, x8⟩ := hHeld
  have hS := And.intro (((bcell hb3).1 _ _ (World.block_lt_of_cell? _ _ x0)).trans x0) (And.intro (((bcell hb3).1 _ _ (World.block_lt_of_cell? _ _ x1)).trans x1) (And.intro (((bcell hb3).1 _ _ (World.block_lt_of_cell? _ _ x2)).trans x2) (And.intro (((bcell hb3).1 _ _ (World.block_lt_of_cell? _ _ x3)).trans x3) (And.intro (((bcell hb3).1 _ _ (World.block_lt_of_cell? _ _ x4)).trans x4) (And.intro (((bcell hb3).1 _ _ (World.block_lt_of_cell? _ _ x5)).trans x5) (And.intro (((bcell hb3).1 _ _ (World.block_lt_of_cell? _ _ x6)).trans x6) (And.intro (((bcell hb3).1 _ _ (World.block_lt_of_cell? _ _ x7)).trans x7) (((bcell hb3).1 _ _ (World.block_lt_of_cell? _ _ x8)).trans x8))))))))
  go_wp2_with fail
  refine hK.out _ _ hS (fun hHeld => ?_)
  clear hK K
  try simp only [Act.put, List.setIfInBounds_toArray, List.set_cons_zero, List.set_cons_succ]
  refine wpAnyH_take (i := 7) (v := .string (⟨#[82, 117, 108, 101, 32]⟩ ++ nm ++ ⟨#[32]⟩ ++ A)) rfl (by kernel_rfl) (by kernel_rfl) (by kernel_rfl) (fun _ _ _ h => h) (Or.inl ⟨by rfl, ?yc7⟩) hHeld ?zc7
  case yc7 => intro wq _; go_simp; omega
  try simp only [Act.put, List.setIfInBounds_toArray, List.set_cons_zero, List.set_cons_succ]
  refine wpAnyH_take (i := 8) (v := .string (⟨#[82, 117, 108, 101, 32]⟩ ++ nm ++ ⟨#[32]⟩ ++ A ++ ⟨#[32]⟩)) rfl (by kernel_rfl) (by kernel_rfl) (by kernel_rfl) (fun _ _ _ h => h) (Or.inl ⟨by rfl, ?yc8⟩) hHeld ?zc8
  case yc8 => intro wq _; go_simp; omega
  try simp only [Act.put, List.setIfInBounds_toArray, List.set_cons_zero, List.set_cons_succ]
  refine wpAnyH_take (i := 10) (v := .string (⟨#[82, 117, 108, 101, 32]⟩ ++ nm ++ ⟨#[32]⟩ ++ A ++ ⟨#[32]⟩ ++ T)) rfl (by kernel_rfl) (by kernel_rfl) (by kernel_rfl) (fun _ _ _ h => h) (Or.inl ⟨by rfl, ?yc10⟩) hHeld ?zc10
  case yc10 => intro wq _; go_simp; omega
  try simp only [Act.put, List.setIfInBounds_toArray, List.set_cons_zero, List.set_cons_succ]
  refine wpAnyH_take (i := 11) (v := .string (⟨#[82, 117, 108, 101, 32]⟩ ++ nm ++ ⟨#[32]⟩ ++ A ++ ⟨#[32]⟩ ++ T ++ ⟨#[32, 45, 32]⟩)) rfl (by kernel_rfl) (by kernel_rfl) (by kernel_rfl) (fun _ _ _ h => h) (Or.inl ⟨by rfl, ?yc11⟩) hHeld ?zc11
  case yc11 => intro wq _; go_simp; omega
  try simp only [Act.put, List.setIfInBounds_toArray, List.set_cons_zero, List.set_cons_succ]
  refine wpAnyH_ready (rs := [12]) (by kernel_rfl) (by simp) ?_
  refine AllReadyH.cons rfl (fun K hK => ?_) AllReadyH.nil
  go_simp
  refine (hM' _).mono ?_
  rintro e w4 ⟨rfl, hb4, m_4⟩
  have hB4 := hB3.trans (hb4.mono hB3.size)
  obtain ⟨x0, x1, x2, x3, x4, x5, x6, x7, x8⟩ := hHeld
  have hS := And.intro (((bcell hb4).1 _ _ (World.block_lt_of_cell? _ _ x0)).trans x0) (And.intro (((bcell hb4).1 _ _ (World.block_lt_of_cell? _ _ x1)).trans x1) (And.intro (((bcell hb4).1 _ _ (World.block_lt_of_cell? _ _ x2)).trans x2) (And.intro (((bcell hb4).1 _ _ (World.block_lt_of_cell? _ _ x3)).trans x3) (And.intro (((bcell hb4).1 _ _ (World.block_lt_of_cell? _ _ x4)).trans x4) (And.intro (((bcell hb4).1 _ _ (World.block_lt_of_cell? _ _ x5)).trans x5) (And.intro (((bcell hb4).1 _ _ (World.block_lt_of_cell? _ _ x6)).trans x6) (And.intro (((bcell hb4).1 _ _ (World.block_lt_of_cell? _ _ x7)).trans x7) (((bcell hb4).1 _ _ (World.block_lt_of_cell? _ _ x8)).trans x8))))))))
  go_wp2_with fail
  refine hK.out _ _ hS (fun hHeld => ?_)
  clear hK K
  try simp only [Act.put, List.setIfInBounds_toArray, List.set_cons_zero, List.set_cons_succ]
  refine wpAnyH_sub (S2 := fun w' => w'.cell? ⟨w.heap.size, 0, none⟩ = some (.string nm) ∧ w'.cell? ⟨w.heap.size, 1, none⟩ = some (.int .i64 (lo : Int)) ∧ w'.cell? ⟨w.heap.size, 2, none⟩ = some (.int .i64 (hi : Int)) ∧ w'.cell? ⟨w.heap.size, 3, none⟩ = some (.int .i64 (m : Int)) ∧ w'.cell? ⟨w.heap.size, 4, none⟩ = some (.string on) ∧ w'.cell? ⟨w.heap.size, 5, none⟩ = some (.int .i64 at_) ∧ w'.cell? ⟨w.heap.size, 6, none⟩ = some (.string of) ∧ w'.cell? ⟨w.heap.size, 7, none⟩ = some (.int .i64 sv) ∧ w'.cell? ⟨w.heap.size, 8, none⟩ = some (.string lt) ∧ w'.cell? ⟨w3.heap.size, k, none⟩ = some (.string M)) (fun _ h => ⟨h.1, h.2.1, h.2.2.1, h.2.2.2.1, h.2.2.2.2.1, h.2.2.2.2.2.1, h.2.2.2.2.2.2.1, h.2.2.2.2.2.2.2.1, h.2.2.2.2.2.2.2.2.1⟩) _ _ _ _ ?_
  have hHeld : (fun w' : World => w'.cell? ⟨w.heap.size, 0, none⟩ = some (.string nm) ∧ w'.cell? ⟨w.heap.size, 1, none⟩ = some (.int .i64 (lo : Int)) ∧ w'.cell? ⟨w.heap.size, 2, none⟩ = some (.int .i64 (hi : Int)) ∧ w'.cell? ⟨w.heap.size, 3, none⟩ = some (.int .i64 (m : Int)) ∧ w'.cell? ⟨w.heap.size, 4, none⟩ = some (.string on) ∧ w'.cell? ⟨w.heap.size, 5, none⟩ = some (.int .i64 at_) ∧ w'.cell? ⟨w.heap.size, 6, none⟩ = some (.string of) ∧ w'.cell? ⟨w.heap.size, 7, none⟩ = some (.int .i64 sv) ∧ w'.cell? ⟨w.heap.size, 8, none⟩ = some (.string lt) ∧ w'.cell? ⟨w3.heap.size, k, none⟩ = some (.string M)) w4 := ⟨hHeld.1, hHeld.2.1, hHeld.2.2.1, hHeld.2.2.2.1, hHeld.2.2.2.2.1, hHeld.2.2.2.2.2.1, hHeld.2.2.2.2.2.2.1, hHeld.2.2.2.2.2.2.2.1, hHeld.2.2.2.2.2.2.2.2, m_4⟩
  refine wpAnyH_take (i := 16) (v := ?vc16) rfl (by kernel_rfl) (by kernel_rfl) (by kernel_rfl) (fun _ _ _ h => h) (Or.inl ⟨by rfl, ?yc16⟩) hHeld ?zc16
  case yc16 => (intro wq hSw; (try dsimp only at hSw); go_simp; try with_reducible rfl)
  try simp only [Act.put, List.setIfInBounds_toArray, List.set_cons_zero, List.set_cons_succ]
  refine wpAnyH_take (i := 17) (v := ?vc17) rfl (by kernel_rfl) (by kernel_rfl) (by kernel_rfl) (fun _ _ _ h => h) (Or.inl ⟨by rfl, ?yc17⟩) hHeld ?zc17
  case yc17 => (intro wq hSw; (try dsimp only at hSw); go_simp; try with_reducible rfl)
  try simp only [Act.put, List.setIfInBounds_toArray, List.set_cons_zero, List.set_cons_succ]
  refine wpAnyH_take (i := 18) (v := .string (⟨#[82, 117, 108, 101, 32]⟩ ++ nm ++ ⟨#[32]⟩ ++ A ++ ⟨#[32]⟩ ++ T ++ ⟨#[32, 45, 32]⟩ ++ M)) rfl (by kernel_rfl) (by kernel_rfl) (by kernel_rfl) (fun _ _ _ h => h) (Or.inl ⟨by rfl, ?yc18⟩) hHeld ?zc18
  case yc18 => intro wq _; go_simp; omega
  try simp only [Act.put, List.setIfInBounds_toArray, List.set_cons_zero, List.set_cons_succ]
  refine wpAnyH_take (i := 19) (v := .string (⟨#[82, 117, 108, 101, 32]⟩ ++ nm ++ ⟨#[32]⟩ ++ A ++ ⟨#[32]⟩ ++ T ++ ⟨#[32, 45, 32]⟩ ++ M ++ ⟨#[32]⟩)) rfl (by kernel_rfl) (by kernel_rfl) (by kernel_rfl) (fun _ _ _ h => h) (Or.inl ⟨by rfl, ?yc19⟩) hHeld ?zc19
  case yc19 => intro wq _; go_simp; omega
  try simp only [Act.put, List.setIfInBounds_toArray, List.set_cons_zero, List.set_cons_succ]
  refine wpAnyH_take (i := 22) (v := .string (⟨#[82, 117, 108, 101, 32]⟩ ++ nm ++ ⟨#[32]⟩ ++ A ++ ⟨#[32]⟩ ++ T ++ ⟨#[32, 45, 32]⟩ ++ M ++ ⟨#[32]⟩ ++ on)) rfl (by kernel_rfl) (by kernel_rfl) (by kernel_rfl) (fun _ _ _ h => h) (Or.inl ⟨by rfl, ?yc22⟩) hHeld ?zc22
  case yc22 => intro wq _; go_simp; omega
  try simp only [Act.put, List.setIfInBounds_toArray, List.set_cons_zero, List.set_cons_succ]
  refine wpAnyH_take (i := 23) (v := .string (⟨#[82, 117, 108, 101, 32]⟩ ++ nm ++ ⟨#[32]⟩ ++ A ++ ⟨#[32]⟩ ++ T ++ ⟨#[32, 45, 32]⟩ ++ M ++ ⟨#[32]⟩ ++ on ++ ⟨#[32]⟩)) rfl (by kernel_rfl) (by kernel_rfl) (by kernel_rfl) (fun _ _ _ h => h) (Or.inl ⟨by rfl, ?yc23⟩) hHeld ?zc23
  case yc23 => intro wq _; go_simp; omega
  try simp only [Act.put, List.setIfInBounds_toArray, List.set_cons_zero, List.set_cons_succ]
  refine wpAnyH_ready (rs := [28]) (by kernel_rfl) (by simp) ?_
  refine AllReadyH.cons rfl (fun K hK => ?_) AllReadyH.nil
  go_simp
  refine (hX _).mono ?_
  rintro e w5 ⟨rfl, hb5⟩
  have hB5 := hB4.trans (hb5.mono hB4.size)
  obtain ⟨x0, x1, x2, x3, x4, x5, x6, x7, x8, x9⟩ := hHeld
  have hS := And.intro (((bcell hb5).1 _ _ (World.block_lt_of_cell? _ _ x0)).trans x0) (And.intro (((bcell hb5).1 _ _ (World.block_lt_of_cell? _ _ x1)).trans x1) (And.intro (((bcell hb5).1 _ _ (World.block_lt_of_cell? _ _ x2)).trans x2) (And.intro (((bcell hb5).1 _ _ (World.block_lt_of_cell? _ _ x3)).trans x3) (And.intro (((bcell hb5).1 _ _ (World.block_lt_of_cell? _ _ x4)).trans x4) (And.intro (((bcell hb5).1 _ _ (World.block_lt_of_cell? _ _ x5)).trans x5) (And.intro (((bcell hb5).1 _ _ (World.block_lt_of_cell? _ _ x6)).trans x6) (And.intro (((bcell hb5).1 _ _ (World.block_lt_of_cell? _ _ x7)).trans x7) (And.intro (((bcell hb5).1 _ _ (World.block_lt_of_cell? _ _ x8)).trans x8) (((bcell hb5).1 _ _ (World.block_lt_of_cell? _ _ x9)).trans x9)))))))))
  go_wp2_with fail
  refine hK.out _ _ hS (fun hHeld => ?_)
  clear hK K
  try simp only [Act.put, List.setIfInBounds_toArray, List.set_cons_zero, List.set_cons_succ]
  refine wpAnyH_take (i := 29) (v := .string (⟨#[82, 117, 108, 101, 32]⟩ ++ nm ++ ⟨#[32]⟩ ++ A ++ ⟨#[32]⟩ ++ T ++ ⟨#[32, 45, 32]⟩ ++ M ++ ⟨#[32]⟩ ++ on ++ ⟨#[32]⟩ ++ X)) rfl (by kernel_rfl) (by kernel_rfl) (by kernel_rfl) (fun _ _ _ h => h) (Or.inl ⟨by rfl, ?yc29⟩) hHeld ?zc29
  case yc29 => intro wq _; go_simp; omega
  try simp only [Act.put, List.setIfInBounds_toArray, List.set_cons_zero, List.set_cons_succ]
  refine wpAnyH_take (i := 30) (v := .string (⟨#[82, 117, 108, 101, 32]⟩ ++ nm ++ ⟨#[32]⟩ ++ A ++ ⟨#[32]⟩ ++ T ++ ⟨#[32, 45, 32]⟩ ++ M ++ ⟨#[32]⟩ ++ on ++ ⟨#[32]⟩ ++ X ++ ⟨#[32]⟩)) rfl (by kernel_rfl) (by kernel_rfl) (by kernel_rfl) (fun _ _ _ h => h) (Or.inl ⟨by rfl, ?yc30⟩) hHeld ?zc30
  case yc30 => intro wq _; go_simp; omega
  try simp only [Act.put, List.setIfInBounds_toArray, List.set_cons_zero, List.set_cons_succ]
  refine wpAnyH_ready (rs := [33]) (by kernel_rfl) (by simp) ?_
  refine AllReadyH.cons rfl (fun K hK => ?_) AllReadyH.nil
  go_simp
  refine (hO _).mono ?_
  rintro e w6 ⟨rfl, hb6⟩
  have hB6 := hB5.trans (hb6.mono hB5.size)
  obtain ⟨x0, x1, x2, x3, x4, x5, x6, x7, x8, x9⟩ := hHeld
  have hS := And.intro (((bcell hb6).1 _ _ (World.block_lt_of_cell? _ _ x0)).trans x0) (And.intro (((bcell hb6).1 _ _ (World.block_lt_of_cell? _ _ x1)).trans x1) (And.intro (((bcell hb6).1 _ _ (World.block_lt_of_cell? _ _ x2)).trans x2) (And.intro (((bcell hb6).1 _ _ (World.block_lt_of_cell? _ _ x3)).trans x3) (And.intro (((bcell hb6).1 _ _ (World.block_lt_of_cell? _ _ x4)).trans x4) (And.intro (((bcell hb6).1 _ _ (World.block_lt_of_cell? _ _ x5)).trans x5) (And.intro (((bcell hb6).1 _ _ (World.block_lt_of_cell? _ _ x6)).trans x6) (And.intro (((bcell hb6).1 _ _ (World.block_lt_of_cell? _ _ x7)).trans x7) (And.intro (((bcell hb6).1 _ _ (World.block_lt_of_cell? _ _ x8)).trans x8) (((bcell hb6).1 _ _ (World.block_lt_of_cell? _ _ x9)).trans x9)))))))))
  go_wp2_with fail
  refine hK.out _ _ hS (fun hHeld => ?_)
  clear hK K
  try simp only [Act.put, List.setIfInBounds_toArray, List.set_cons_zero, List.set_cons_succ]
  refine wpAnyH_take (i := 34) (v := .string (⟨#[82, 117, 108, 101, 32]⟩ ++ nm ++ ⟨#[32]⟩ ++ A ++ ⟨#[32]⟩ ++ T ++ ⟨#[32, 45, 32]⟩ ++ M ++ ⟨#[32]⟩ ++ on ++ ⟨#[32]⟩ ++ X ++ ⟨#[32]⟩ ++ O)) rfl (by kernel_rfl) (by kernel_rfl) (by kernel_rfl) (fun _ _ _ h => h) (Or.inl ⟨by rfl, ?yc34⟩) hHeld ?zc34
  case yc34 => intro wq _; go_simp; omega
  try simp only [Act.put, List.setIfInBounds_toArray, List.set_cons_zero, List.set_cons_succ]
  refine wpAnyH_take (i := 35) (v := .string (⟨#[82, 117, 108, 101, 32]⟩ ++ nm ++ ⟨#[32]⟩ ++ A ++ ⟨#[32]⟩ ++ T ++ ⟨#[32, 45, 32]⟩ ++ M ++ ⟨#[32]⟩ ++ on ++ ⟨#[32]⟩ ++ X ++ ⟨#[32]⟩ ++ O ++ ⟨#[32]⟩)) rfl (by kernel_rfl) (by kernel_rfl) (by kernel_rfl) (fun _ _ _ h => h) (Or.inl ⟨by rfl, ?yc35⟩) hHeld ?zc35
  case yc35 => intro wq _; go_simp; omega
  try simp only [Act.put, List.setIfInBounds_toArray, List.set_cons_zero, List.set_cons_succ]
  refine wpAnyH_ready (rs := [38]) (by kernel_rfl) (by simp) ?_
  refine AllReadyH.cons rfl (fun K hK => ?_) AllReadyH.nil
  go_simp
  refine (hD _).mono ?_
  rintro e wx ⟨rfl, hwx⟩
  have hwy := hwx.symm
  clear hwx
  subst hwy
  go_wp2_with fail
  refine hK.out _ _ hHeld (fun hHeld => ?_)
  clear hK K
  try simp only [Act.put, List.setIfInBounds_toArray, List.set_cons_zero, List.set_cons_succ]
  refine wpAnyH_take (i := 39) (v := .string (⟨#[82, 117, 108, 101, 32]⟩ ++ nm ++ ⟨#[32]⟩ ++ A ++ ⟨#[32]⟩ ++ T ++ ⟨#[32, 45, 32]⟩ ++ M ++ ⟨#[32]⟩ ++ on ++ ⟨#[32]⟩ ++ X ++ ⟨#[32]⟩ ++ O ++ ⟨#[32]⟩ ++ D)) rfl (by kernel_rfl) (by kernel_rfl) (by kernel_rfl) (fun _ _ _ h => h) (Or.inl ⟨by rfl, ?yc39⟩) hHeld ?zc39
  case yc39 => intro wq _; go_simp; omega
  try simp only [Act.put, List.setIfInBounds_toArray, List.set_cons_zero, List.set_cons_succ]
  refine wpAnyH_take (i := 40) (v := .string (⟨#[82, 117, 108, 101, 32]⟩ ++ nm ++ ⟨#[32]⟩ ++ A ++ ⟨#[32]⟩ ++ T ++ ⟨#[32, 45, 32]⟩ ++ M ++ ⟨#[32]⟩ ++ on ++ ⟨#[32]⟩ ++ X ++ ⟨#[32]⟩ ++ O ++ ⟨#[32]⟩ ++ D ++ ⟨#[10]⟩)) rfl (by kernel_rfl) (by kernel_rfl) (by kernel_rfl) (fun _ _ _ h => h) (Or.inl ⟨by rfl, ?yc40⟩) hHeld ?zc40
  case yc40 => intro wq _; go_simp; omega
  try simp only [Act.put, List.setIfInBounds_toArray, List.set_cons_zero, List.set_cons_succ]
  refine wpAnyH_take (i := 41) (v := ?vc41) rfl (by kernel_rfl) (by kernel_rfl) (by kernel_rfl) (fun _ _ _ h => h) (Or.inl ⟨by rfl, ?yc41⟩) hHeld ?zc41
  case yc41 => (intro wq hSw; (try dsimp only at hSw); go_simp; try with_reducible rfl)
  try simp only [Act.put, List.setIfInBounds_toArray, List.set_cons_zero, List.set_cons_succ]
  try simp only [Act.put, List.getElem_toArray, List.getElem_cons_succ, List.getElem_cons_zero, List.setIfInBounds_toArray, List.set_cons_zero, List.set_cons_succ]
  refine wpAnyH_done (by kernel_rfl) ?_ _
  refine NoPanic.normal ?_
  go_wp2
  go_ret
  exact ⟨rfl, hB6⟩
end Go.Proofs.YtjdokmllidhapaaGreatDoor
namespace Go.Proofs.YtjdokmllidhapaaGreatDoor
open Go.RowKit Go.Sort

def eraW (e : EraD) : List ByteArray := [S (offV e.offset), rulT e.rules e.save, e.format]
def untW (e : EraD) : List ByteArray := [S (Lib.decDigits (yOf (e.until_ / 86400)).toNat), monB (mOf (e.until_ / 86400)), S (Lib.decDigits (dOf (e.until_ / 86400)).toNat), tmB (e.until_ % 86400) e.of]
def zHd (nm : ByteArray) (k : Nat) : List ByteArray := if k = 0 then [⟨#[90, 111, 110, 101]⟩, nm] else []
def zeroE : EraD := ⟨0, ⟨#[]⟩, 0, ⟨#[]⟩, 0, ⟨#[]⟩⟩
def zTx (nm : ByteArray) (es : List EraD) : Nat → ByteArray
  | 0 => ⟨#[]⟩
  | k + 1 => zTx nm es k ++ lineB ((zHd nm k ++ eraW (es[k]?.getD zeroE)) ++ untW (es[k]?.getD zeroE))
def zoneT (nm : ByteArray) (es : List EraD) (n : Nat) : ByteArray := zTx nm es n ++ lineB (zHd nm n ++ eraW (es[n]?.getD zeroE))
/-- what is asked of an era, so that its text is small. -/
structure EraS (e : EraD) : Prop where
  fmt : e.format.size ≤ 12
  rul : e.rules.size ≤ 20
  of : e.of.size ≤ 8000
  lo : -62135596800 ≤ e.until_
  hi : e.until_ ≤ 253402300799
def szs (l : List ByteArray) : Nat := (l.map ByteArray.size).sum
theorem szs_append (a b : List ByteArray) : szs (a ++ b) = szs a + szs b := by simp [szs]
theorem joinTail_len (r : List (List UInt8)) : (Lib.joinTail [32] r).length = (r.map List.length).sum + r.length := by
  induction r with
  | nil => rfl
  | cons x r ih =>
    have e : Lib.joinTail [32] (x :: r) = 32 :: x ++ Lib.joinTail [32] r := by simp [Lib.joinTail]
    rw [e]
    simp only [List.length_append, List.length_cons, List.map_cons, List.sum_cons, ih]
    omega
theorem join_le (xs : List ByteArray) : (Lib.join (xs.map (·.data.toList)) [32]).length ≤ szs xs + xs.length := by
  cases xs with
  | nil => simp [Lib.join_nil]
  | cons x r =>
    rw [List.map_cons, Lib.join_cons, List.length_append, joinTail_len]
    have e : ∀ b : ByteArray, b.data.toList.length = b.size := fun b => by rw [Array.length_toList]; rfl
    have e2 : ((r.map (·.data.toList)).map List.length).sum = (r.map ByteArray.size).sum := by
      congr 1
      rw [List.map_map]
      exact List.map_congr_left fun b _ => e b
    rw [e2, e, List.length_map]
    simp only [szs, List.map_cons, List.sum_cons, List.length_cons]
    omega
theorem lineB_size (xs : List ByteArray) : (lineB xs).size ≤ szs xs + xs.length + 1 := by
  unfold lineB
  rw [S_size, List.length_append]
  have := join_le xs
  simp only [List.length_cons, List.length_nil]
  omega
theorem zHd_le (nm : ByteArray) (k : Nat) (h : nm.size ≤ 20) : szs (zHd nm k) ≤ 24 ∧ (zHd nm k).length ≤ 2 := by
  unfold zHd
  split
  · refine ⟨?_, by simp⟩
    have : szs [(⟨#[90, 111, 110, 101]⟩ : ByteArray), nm] = 4 + (nm.size + 0) := rfl
    omega
  · simp [szs]
theorem rulT_le (rules : ByteArray) (sv : Int) (h : rules.size ≤ 20) : (rulT rules sv).size ≤ 101 := by
  unfold rulT
  split
  · split
    · show 1 ≤ 101; omega
    · exact offV_len sv
  · omega
theorem eraW_le {e : EraD} (h : EraS e) : szs (eraW e) ≤ 214 ∧ (eraW e).length = 3 := by
  refine ⟨?_, rfl⟩
  have h1 := offV_len e.offset
  have h2 := rulT_le e.rules e.save h.rul
  have h3 := h.fmt
  have : szs (eraW e) = (S (offV e.offset)).size + ((rulT e.rules e.save).size + (e.format.size + 0)) := rfl
  omega
theorem untW_le {e : EraD} (h : EraS e) : szs (untW e) ≤ 8144 ∧ (untW e).length = 4 := by
  refine ⟨?_, rfl⟩
  have lo := h.lo
  have hi := h.hi
  obtain ⟨y, m, d, ey, em, ed, y1, y2, m1, m2, d1, d2⟩ := date_nat (n := e.until_ / 86400) (by omega) (by omega)
  have h1 := dd_len (n := (yOf (e.until_ / 86400)).toNat) (by rw [ey]; simp; omega)
  have h2 := dd_len (n := (dOf (e.until_ / 86400)).toNat) (by rw [ed]; simp; omega)
  have h3 := monB_len (m := mOf (e.until_ / 86400)) (by rw [em]; omega) (by rw [em]; omega)
  have h4 := tmB_len (e.until_ % 86400) e.of h.of
  rw [← S_size] at h1 h2
  have : szs (untW e) = (S (Lib.decDigits (yOf (e.until_ / 86400)).toNat)).size + ((monB (mOf (e.until_ / 86400))).size + ((S (Lib.decDigits (dOf (e.until_ / 86400)).toNat)).size + ((tmB (e.until_ % 86400) e.of).size + 0))) := rfl
  omega
theorem zTx_le {nm : ByteArray} {es : List EraD} (hn : nm.size ≤ 20) (hs : ∀ e ∈ es, EraS e) : ∀ k, k ≤ es.length → (zTx nm es k).size ≤ k * 10000 := by
  intro k
  induction k with
  | zero => intro _; exact Nat.le_refl 0
  | succ k ih =>
    intro hk
    obtain ⟨x, hx⟩ : ∃ x, es[k]? = some x := ⟨_, List.getElem?_eq_getElem (by omega)⟩
    have ok := hs x (List.mem_of_getElem? hx)
    have h1 := ih (by omega)
    have h2 := lineB_size ((zHd nm k ++ eraW x) ++ untW x)
    have h3 := zHd_le nm k hn
    have h4 := eraW_le ok
    have h5 := untW_le ok
    rw [szs_append, szs_append, List.length_append, List.length_append] at h2
    rw [zTx, hx, ByteArray.size_append]
    simp only [Option.getD_some]
    omega
theorem cells_new (w : World) (cs : List Value) (t : TypeId) : ∀ j u, cs[j]? = some u → (w.alloc (.cells cs.toArray t)).cell? ((⟨w.heap.size, 0, none⟩ : Addr).add j) = some u := by
  intro j u hj
  have h := heap_alloc_new w (.cells cs.toArray t)
  have hl := (List.getElem?_eq_some_iff.mp hj).1
  rcases Nat.eq_zero_or_pos j with rfl | h0
  · simp only [Addr.add, ↓reduceIte]
    simp only [World.cell?]
    rw [h]
    simpa using hj
  · have : j ≠ 0 := by omega
    simp only [Addr.add, this, ↓reduceIte, Nat.zero_add]
    simp only [World.cell?]
    rw [h]
    simpa using hj
end Go.Proofs.YtjdokmllidhapaaGreatDoor
namespace Go.Proofs.YtjdokmllidhapaaGreatDoor
open Go.RowKit Go.Sort

set_option maxRecDepth 100000 in
theorem infoS : ∃ i : TypeInfo, Tryz.prog.info? 9 = some i ∧ i.zero = some (.string ⟨#[]⟩) ∧ i.size = 1 ∧ i.bytes = 16 := ⟨_, rfl, rfl, rfl, rfl⟩
theorem own_blkS {w : World} {base : Nat} {e : TypeId} {size : Nat} {v : Value} {n : Nat} {xs : List Value} (h : w.ownsRow base e size v n xs) : ∀ k, v.ownBlock = some k → base ≤ k := by
  intro k hk
  rcases h.2 with ⟨rfl, _⟩ | ⟨g, cap, cur, rfl, hg, _⟩
  · cases hk
  · simp [Value.ownBlock] at hk; omega
theorem own_belowS {w w' : World} {base : Nat} {e : TypeId} {size : Nat} {v : Value} {n : Nat} {xs : List Value} (h : w.ownsRow base e size v n xs) (hb : Below w.heap.size w w') : w'.ownsRow base e size v n xs := by
  refine ⟨h.1, ?_⟩
  rcases h.2 with h | ⟨g, cap, cur, rfl, e2, e3, e4⟩
  · exact .inl h
  · exact .inr ⟨g, cap, cur, rfl, e2, (hb.block g (Array.getElem?_eq_some_iff.1 e3).1).trans e3, e4⟩
/-- a row of words as lineText takes it. -/
theorem line_row {w : World} {base : Nat} {v : Value} {ws : List ByteArray} (hn : 0 < ws.length) (hl : ws.length ≤ 9) (hs : szs ws ≤ 9000) (h : w.ownsRow base 9 1 v ws.length (ws.map Value.string)) :
    Calls Tryz.prog 86 #[v] w fun e w' => e = .returned (.string (lineB ws)) ∧ Below w.heap.size w w' := by
  obtain ⟨m, hm⟩ : ∃ m, ws.length = m + 1 := ⟨ws.length - 1, by omega⟩
  rcases h.2 with ⟨_, h0⟩ | ⟨g, cap, cur, rfl, e2, e3, e4, e5⟩
  · omega
  · have hj := join_le ws
    refine impl_lineText ws g cap w (fun j x hx => ?_) (Array.getElem?_eq_some_iff.1 e3).1 (by omega) e4 (by omega)
    have hi := (List.getElem?_eq_some_iff.mp hx).1
    rw [h.cellAt j (by omega), List.getElem?_map, hx]
    rfl
set_option maxRecDepth 20000 in
set_option maxHeartbeats 8000000 in
theorem impl_zoneText (nm : ByteArray) (es : List EraD) (q : Nat) (w : World) (hT : Tab w) (hP : Pow w) (n : Nat) (hn : es.length = n + 1) (hA : SeqAt w (some ⟨q, 0, none⟩) 6 (es.map EraD.cs)) (hnm : nm.size ≤ 20) (hn8 : n ≤ 7) (hs : ∀ e ∈ es, EraS e) :
    Calls Tryz.prog 85 #[.agg #[.string nm, .slice (some ⟨q, 0, none⟩) (n + 1) (n + 1)]] w fun e w' => e = .returned (.string (zoneT nm es n)) ∧ Below w.heap.size w w' := by
  obtain ⟨i0, hi, hz0, hz1, hz2⟩ := infoS
  have hcells : ∀ (wr : World), Below w.heap.size w wr → ∀ (k : Nat) (x : EraD), es[k]? = some x → wr.cell? ⟨q, k * 6, none⟩ = some (.int .i64 x.offset) ∧ wr.cell? ⟨q, k * 6 + 1, none⟩ = some (.string x.rules) ∧ wr.cell? ⟨q, k * 6 + 2, none⟩ = some (.int .i64 x.save) ∧ wr.cell? ⟨q, k * 6 + 3, none⟩ = some (.string x.format) ∧ wr.cell? ⟨q, k * 6 + 4, none⟩ = some (.int .i64 x.until_) ∧ wr.cell? ⟨q, k * 6 + 5, none⟩ = some (.string x.of) := fun wr hB k x hx => by
    obtain ⟨b', o', he, hc⟩ := (hA.below hB).at (i := k) (r := x.cs) (by rw [List.getElem?_map, hx]; rfl)
    injection he with he
    injection he with u1 u2
    subst u1 u2
    simp only [Nat.zero_add] at hc
    exact ⟨hc 0 _ rfl, hc 1 _ rfl, hc 2 _ rfl, hc 3 _ rfl, hc 4 _ rfl, hc 5 _ rfl⟩
  have hle := fun k (h : k ≤ es.length) => zTx_le hnm hs k h
  have hZ0 : Hid (zoneT nm es n = zTx nm es n ++ lineB (zHd nm n ++ eraW (es[n]?.getD zeroE))) := rfl
  clear hA
  generalize zoneT nm es n = ZT at *
  go_enter Tryz.func85, Tryz.ntmps85
  go_wp2
  obtain ⟨wA, hwA⟩ : ∃ wA, (w.alloc (.cells #[.string nm, .slice (some ⟨q, 0, none⟩) (n + 1) (n + 1)] 49)) = wA := ⟨_, rfl⟩
  have hsA : wA.heap.size = w.heap.size + 1 := by rw [← hwA]; simp
  have hBA : Below w.heap.size w wA := by rw [← hwA]; exact (Below.refl _ w).alloc (Nat.le_refl _) _
  have cA1 : wA.cell? ⟨w.heap.size, 1, none⟩ = some (.slice (some ⟨q, 0, none⟩) (n + 1) (n + 1)) := by rw [← hwA]; simp [go_sem]
  have hE0 : (wA.alloc (.cells #[.string ⟨#[90, 111, 110, 101]⟩, .string nm] 9)).ownsRow (w.heap.size + 1) 9 1 (.slice (some ⟨wA.heap.size, 0, none⟩) 2 2) 2 [.string ⟨#[90, 111, 110, 101]⟩, .string nm] :=
    World.ownsRow_lit wA #[.string ⟨#[90, 111, 110, 101]⟩, .string nm] 2 (by omega) (by unfold maxLen; omega) rfl
  rw [hsA] at hE0
  rw [hwA]
  go_loopw [4, 5, 20] (fun s4 s5 s20 wr => ∃ k : Nat, k ≤ n ∧ s20 = .int .i64 k ∧ s5 = .string (zTx nm es k) ∧ wr.ownsRow (w.heap.size + 1) 9 1 s4 (zHd nm k).length ((zHd nm k).map Value.string) ∧ Below (w.heap.size + 1) wA wr) (fun _ _ s20 _ => n - (intOf s20).toNat)
  case atStart => exact ⟨0, by omega, rfl, rfl, hE0, (Below.refl _ _).alloc (by omega) _⟩
  case round =>
    obtain ⟨k, hk, rfl, rfl, hown, hB⟩ := hrel
    have hsW := hB.size
    have hBw := hBA.trans (hB.mono (show w.heap.size ≤ w.heap.size + 1 by omega))
    obtain ⟨x, hx⟩ : ∃ x, es[k]? = some x := ⟨_, List.getElem?_eq_getElem (by omega)⟩
    have ok := hs x (List.mem_of_getElem? hx)
    obtain ⟨c0, c1, c2, c3, c4, c5⟩ := hcells wr hBw k x hx
    have zk := hle k (by omega)
    have zh := zHd_le nm k hnm
    have we := eraW_le ok
    have hEW := fun w hP => impl_eraWords x.rules x.format x.of x.offset x.save x.until_ w hP
    have cZ : wr.cell? ⟨w.heap.size, 1, none⟩ = some (.slice (some ⟨q, 0, none⟩) (n + 1) (n + 1)) := (hB.cell (p := ⟨w.heap.size, 1, none⟩) (show w.heap.size < w.heap.size + 1 by omega)).trans cA1
    by_cases hlt : k < n
    · have wu := untW_le ok
      have hUW := fun w hT hP => impl_untilWords x.rules x.format x.of x.offset x.save x.until_ w hT hP ok.lo ok.hi ok.of
      have HZ : Hid (zTx nm es (k + 1) = zTx nm es k ++ lineB ((zHd nm k ++ eraW x) ++ untW x)) := by simp only [Hid]; rw [zTx, hx]; rfl
      have HH : Hid (zHd nm (k + 1) = []) := rfl
      have HEW : Hid (eraW x = [S (offV x.offset), rulT x.rules x.save, x.format]) := rfl
      have HUW : Hid (untW x = [S (Lib.decDigits (yOf (x.until_ / 86400)).toNat), monB (mOf (x.until_ / 86400)), S (Lib.decDigits (dOf (x.until_ / 86400)).toNat), tmB (x.until_ % 86400) x.of]) := rfl
      have hr0 := hown.lt
      clear hx hcells hle hs
      go_wp2_with fail
      have hb1 : Below wr.heap.size wr (wr.alloc (.cells #[.int .i64 x.offset, .string x.rules, .int .i64 x.save, .string x.format, .int .i64 x.until_, .string x.of] 55)) := (Below.refl _ _).alloc (Nat.le_refl _) _
      have hC1 := hB.trans (hb1.mono (by omega))
      have hB1 := hBA.trans (hC1.mono (show w.heap.size ≤ w.heap.size + 1 by omega))
      have hk1 : (wr.alloc (.cells #[.int .i64 x.offset, .string x.rules, .int .i64 x.save, .string x.format, .int .i64 x.until_, .string x.of] 55)).heap[wr.heap.size]? = some (.cells #[.int .i64 x.offset, .string x.rules, .int .i64 x.save, .string x.format, .int .i64 x.until_, .string x.of] 55 (0, 0)) := heap_alloc_new wr _
      have hown1 := own_belowS hown hb1
      refine (hEW _ (hP.of_below hB1)).mono ?_
      rintro e w2' ⟨w1, rfl, hb2, rfl⟩
      have hC2 := hC1.trans (hb2.mono (by simp; omega))
      have hB2 := hBA.trans (hC2.mono (show w.heap.size ≤ w.heap.size + 1 by omega))
      have hb3 : Below w1.heap.size w1 (w1.alloc (.cells #[.string (S (offV x.offset)), .string (rulT x.rules x.save), .string x.format] 9)) := (Below.refl _ _).alloc (Nat.le_refl _) _
      have hC3 := hC2.trans (hb3.mono (by have := hb2.size; simp at this; omega))
      have hB3 := hBA.trans (hC3.mono (show w.heap.size ≤ w.heap.size + 1 by omega))
      have hk3 := (hb3.block _ (Array.getElem?_eq_some_iff.1 ((hb2.block _ (by simp)).trans hk1)).1).trans ((hb2.block _ (by simp)).trans hk1)
      have hown3 := own_belowS (own_belowS hown1 hb2) hb3
      have hsz3 : wr.heap.size < w1.heap.size := by have := hb2.size; simp at this; omega
      clear hk1 hown1 hown hb1 hb2 hb3
      go_wp2_with (first
        | (at_builtin; refine wpList_append_own _ rfl _ _ 81 rfl (w.heap.size + 1) 9 i0 (.string ⟨#[]⟩) 1 16 Tryz.underlying81 hi hz0 hz1 hz2 rfl (by decide) _ _ _ rfl hown3 ⟨w1.heap.size, 0, none⟩ 3 3 [.string (S (offV x.offset)), .string (rulT x.rules x.save), .string x.format] rfl rfl ?c1 ?c2 ?c3 ?c4 ?c5 ?_)
        | fail)
      case c1 => exact cells_new _ _ _
      case c2 => intro u hu; simp at hu; rcases hu with rfl | rfl | rfl <;> rfl
      case c3 => unfold maxLen; omega
      case c4 => omega
      case c5 => simp; omega
      · intro v1 w4 hown4 hgrow4 _
        have hC4 : Below (w.heap.size + 1) wA w4 := hC3.grown hgrow4 (by simp; omega) (own_blkS hown3)
        have hB4 := hBA.trans (hC4.mono (show w.heap.size ≤ w.heap.size + 1 by omega))
        have hk4 : w4.heap[wr.heap.size]? = some (.cells #[.int .i64 x.offset, .string x.rules, .int .i64 x.save, .string x.format, .int .i64 x.until_, .string x.of] 55 (0, 0)) := (hgrow4.block _ (Array.getElem?_eq_some_iff.1 hk3).1 (fun e => by have := (hr0 _ e.symm).2; omega)).trans hk3
        have HO4 : w4.ownsRow (w.heap.size + 1) 9 1 v1 (zHd nm k ++ eraW x).length ((zHd nm k ++ eraW x).map Value.string) := by rw [HEW.out]; simpa using hown4
        have hs4 := hgrow4.size
        have f0 : w4.cell? ⟨wr.heap.size, 0, none⟩ = some (.int .i64 x.offset) := by simp only [World.cell?]; rw [hk4]; rfl
        have f1 : w4.cell? ⟨wr.heap.size, 1, none⟩ = some (.string x.rules) := by simp only [World.cell?]; rw [hk4]; rfl
        have f2 : w4.cell? ⟨wr.heap.size, 2, none⟩ = some (.int .i64 x.save) := by simp only [World.cell?]; rw [hk4]; rfl
        have f3 : w4.cell? ⟨wr.heap.size, 3, none⟩ = some (.string x.format) := by simp only [World.cell?]; rw [hk4]; rfl
        have f4 : w4.cell? ⟨wr.heap.size, 4, none⟩ = some (.int .i64 x.until_) := by simp only [World.cell?]; rw [hk4]; rfl
        have f5 : w4.cell? ⟨wr.heap.size, 5, none⟩ = some (.string x.of) := by simp only [World.cell?]; rw [hk4]; rfl
        clear hown3 hown4 hgrow4 hk3 hk4 hB3 hB2 hB1 hC1 hC2 hC3 c0 c1 c2 c3 c4 c5
        go_wp2_with fail
        refine (hUW _ (hT.of_below hB4) (hP.of_below hB4)).mono ?_
        rintro e w6' ⟨w5, rfl, hb5, rfl⟩
        have hC5 := hC4.trans (hb5.mono (by simp at hs4; omega))
        have hb6 : Below w5.heap.size w5 (w5.alloc (.cells #[.string (S (Lib.decDigits (yOf (x.until_ / 86400)).toNat)), .string (monB (mOf (x.until_ / 86400))), .string (S (Lib.decDigits (dOf (x.until_ / 86400)).toNat)), .string (tmB (x.until_ % 86400) x.of)] 9)) := (Below.refl _ _).alloc (Nat.le_refl _) _
        have hC6 := hC5.trans (hb6.mono (by have := hb5.size; simp at hs4; omega))
        have hown6 := own_belowS (own_belowS HO4 hb5) hb6
        have hll : (zHd nm k ++ eraW x).length ≤ 5 := by rw [List.length_append]; omega
        have hsz5 := hb5.size
        have hsB : w.heap.size + 1 ≤ w4.heap.size := by simp at hs4; omega
        clear HO4 hb5 hb6 f0 f1 f2 f3 f4 f5
        go_wp2_with (first
          | (at_builtin; refine wpList_append_own _ rfl _ _ 81 rfl (w.heap.size + 1) 9 i0 (.string ⟨#[]⟩) 1 16 Tryz.underlying81 hi hz0 hz1 hz2 rfl (by decide) _ _ _ rfl hown6 ⟨w5.heap.size, 0, none⟩ 4 4 [.string (S (Lib.decDigits (yOf (x.until_ / 86400)).toNat)), .string (monB (mOf (x.until_ / 86400))), .string (S (Lib.decDigits (dOf (x.until_ / 86400)).toNat)), .string (tmB (x.until_ % 86400) x.of)] rfl rfl ?d1 ?d2 ?d3 ?d4 ?d5 ?_)
          | fail)
        case d1 => exact cells_new _ _ _
        case d2 => intro u hu; simp at hu; rcases hu with rfl | rfl | rfl | rfl <;> rfl
        case d3 => unfold maxLen; omega
        case d4 => omega
        case d5 => simp; omega
        · intro v2 w7 hown7 hgrow7 _
          have hC7 : Below (w.heap.size + 1) wA w7 := hC6.grown hgrow7 (by simp; omega) (own_blkS hown6)
          have HO7 : w7.ownsRow (w.heap.size + 1) 9 1 v2 ((zHd nm k ++ eraW x) ++ untW x).length (((zHd nm k ++ eraW x) ++ untW x).map Value.string) := by rw [HUW.out, List.length_append, List.map_append]; first | exact hown7 | simpa [we.2, Nat.add_assoc] using hown7
          have hL := line_row (by simp [eraW, untW]) (by rw [List.length_append, List.length_append]; omega) (by rw [szs_append, szs_append]; omega) HO7
          have hLs := lineB_size ((zHd nm k ++ eraW x) ++ untW x)
          rw [szs_append, szs_append, List.length_append, List.length_append] at hLs
          have hs7 := hgrow7.size
          generalize lineB ((zHd nm k ++ eraW x) ++ untW x) = LB at *
          have hlb : LB.size ≤ 10000 := by omega
          clear hown7 hown6 hgrow7 HO7 HEW HUW hLs
          generalize zTx nm es k = TX at *
          go_wp2_with fail
          refine hL.mono ?_
          rintro e w8 ⟨rfl, hb8⟩
          have HB8 : Hid (Below (w.heap.size + 1) wA w8) := hC7.trans (hb8.mono (by simp at hs7; omega))
          go_wp2
          go_roundw
          case rel => exact ⟨k + 1, by omega, by go_num, by rw [HZ.out], by rw [HH.out]; exact World.ownsRow_nil _ _ _ _, HB8.out⟩
          case measure => simp [intOf]; omega
    · obtain rfl : k = n := by omega
      have HZ1 : Hid (ZT = zTx nm es k ++ lineB (zHd nm k ++ eraW x)) := by simp only [Hid]; rw [hZ0.out, hx]; rfl
      have HEW : Hid (eraW x = [S (offV x.offset), rulT x.rules x.save, x.format]) := rfl
      clear hx hcells hle hs hZ0
      go_wp2_with fail
      refine (hEW _ (hP.of_below hBw)).mono ?_
      rintro e w2' ⟨w1, rfl, hb2, rfl⟩
      have hC2 := hB.trans (hb2.mono (by omega))
      have hb3 : Below w1.heap.size w1 (w1.alloc (.cells #[.string (S (offV x.offset)), .string (rulT x.rules x.save), .string x.format] 9)) := (Below.refl _ _).alloc (Nat.le_refl _) _
      have hC3 := hC2.trans (hb3.mono (by have := hb2.size; omega))
      have hown3 := own_belowS (own_belowS hown hb2) hb3
      have hsz3 := hb2.size
      clear hown hb2 hb3 c0 c1 c2 c3 c4 c5
      go_wp2_with (first
        | (at_builtin; refine wpList_append_own _ rfl _ _ 81 rfl (w.heap.size + 1) 9 i0 (.string ⟨#[]⟩) 1 16 Tryz.underlying81 hi hz0 hz1 hz2 rfl (by decide) _ _ _ rfl hown3 ⟨w1.heap.size, 0, none⟩ 3 3 [.string (S (offV x.offset)), .string (rulT x.rules x.save), .string x.format] rfl rfl ?f1 ?f2 ?f3 ?f4 ?f5 ?_)
        | fail)
      case f1 => exact cells_new _ _ _
      case f2 => intro u hu; simp at hu; rcases hu with rfl | rfl | rfl <;> rfl
      case f3 => unfold maxLen; omega
      case f4 => omega
      case f5 => simp; omega
      · intro v1 w4 hown4 hgrow4 _
        have hC4 : Below (w.heap.size + 1) wA w4 := hC3.grown hgrow4 (by simp; omega) (own_blkS hown3)
        have hB4 := hBA.trans (hC4.mono (show w.heap.size ≤ w.heap.size + 1 by omega))
        have HO4 : w4.ownsRow (w.heap.size + 1) 9 1 v1 (zHd nm k ++ eraW x).length ((zHd nm k ++ eraW x).map Value.string) := by rw [HEW.out]; simpa using hown4
        have hL := line_row (by simp [eraW]) (by rw [List.length_append]; omega) (by rw [szs_append]; omega) HO4
        have hLs := lineB_size (zHd nm k ++ eraW x)
        rw [szs_append, List.length_append] at hLs
        generalize lineB (zHd nm k ++ eraW x) = LB at *
        have hlb : LB.size ≤ 10000 := by omega
        clear hown4 hown3 hgrow4 HO4 HEW hLs
        generalize zTx nm es k = TX at *
        go_wp2_with fail
        refine hL.mono ?_
        rintro e w8 ⟨rfl, hb8⟩
        have hB8 := hB4.trans (hb8.mono hB4.size)
        go_wp2
        go_ret
        exact ⟨ret_str HZ1.out.symm, hB8⟩
end Go.Proofs.YtjdokmllidhapaaGreatDoor
