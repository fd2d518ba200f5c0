/- The contract of the model's l01Offset, whole; of OffsetRead, the program's and the model's. -/
import Derived.Test.YtibhbpgnjikjnaaDoorOffset4
namespace Go.Proofs.YtibhbpgnjikjnaaDoor
open Go.RowKit

/-- is it an offset's text. -/
def okO (s : ByteArray) : Bool := minusB s || (rdB (restS s) && decide (rdN (restS s) ≤ 604800))
def sgN (g : Bool) (n : Int) : Int := if g = true then - n else n
theorem orC_okO (s : ByteArray) : orC s = if okO s = true then 0 else 3 := by
  unfold orC okO
  cases minusB s
  · by_cases h : rdB (restS s) = true ∧ rdN (restS s) ≤ 604800
    · rw [if_pos h]; simp [h.1, h.2]
    · rw [if_neg h, if_neg (by decide)]
      rw [if_neg]
      simpa using h
  · simp
theorem orN_no {s : ByteArray} (h : okO s = false) : orN s = 0 := by
  unfold okO at h; unfold orN
  cases hm : minusB s
  · rw [hm] at h
    rw [if_neg (by decide), if_neg]
    intro hn
    simp [hn.1, hn.2] at h
  · simp
theorem orN_yes {s : ByteArray} (hm : minusB s = false) (h : okO s = true) : rdB (restS s) = true ∧ orN s = sgN (negB s) (rdN (restS s)) := by
  unfold okO at h; unfold orN sgN
  rw [hm] at h ⊢
  simp at h
  rw [if_neg (by decide), if_pos h]
  exact ⟨h.1, rfl⟩
/-- by the parts. -/
theorem okO_parts {s : ByteArray} (hm : minusB s = false) : okO s = (pB (parts (restS s)) && decide (pN (parts (restS s)) ≤ 604800)) := by
  unfold okO
  rw [hm]
  cases h : rdB (restS s)
  · have : pB (parts (restS s)) = false := by
      cases hp : pB (parts (restS s))
      · rfl
      · rw [rd_complete hp] at h; cases h
    rw [this]; rfl
  · have ⟨a, b⟩ := rd_sound h
    rw [a, b]; rfl
theorem orN_parts {s : ByteArray} (hm : minusB s = false) (h : okO s = true) : orN s = sgN (negB s) (pN (parts (restS s))) := by
  have ⟨a, b⟩ := orN_yes hm h
  rw [b, (rd_sound a).2]
set_option maxHeartbeats 400000 in
theorem off_minus (s : ByteArray) (w : World) (hm : (s.toList == [45]) = true) :
    Calls Tryd.prog 82 #[.string s] w fun e w' => e = .returned (.tuple #[.int .i64 0, .bool true]) ∧ Below w.heap.size w w' := by
  go_enter Tryd.func82, Tryd.ntmps82
  go_wp2
  go_ret2
  exact ⟨rfl, Below.refl _ _⟩
/-- the whole contract. -/
theorem spec_l01Offset (s : ByteArray) (w : World) (hs : s.size ≤ 8000) :
    Calls Tryd.prog 82 #[.string s] w fun e w' => (∃ n, e = .returned (.tuple #[.int .i64 n, .bool (okO s)]) ∧ (okO s = true → n = orN s)) ∧ Below w.heap.size w w' := by
  cases hm : minusB s
  · have hm' : (s.toList == [45]) = false := hm
    have hg := sign_of s
    have NO : pB (parts (restS s)) = false → okO s = false := fun h => by rw [okO_parts hm, h]; rfl
    have fin0 : ∀ (e : Ending) (w' : World), pB (parts (restS s)) = false → (e = .returned (.tuple #[.int .i64 0, .bool false]) ∧ Below w.heap.size w w') → ((∃ n, e = .returned (.tuple #[.int .i64 n, .bool (okO s)]) ∧ (okO s = true → n = orN s)) ∧ Below w.heap.size w w') := by
      rintro e w' h ⟨rfl, hb⟩
      rw [NO h]
      exact ⟨⟨0, rfl, fun h => by cases h⟩, hb⟩
    have fin1 : ∀ (e : Ending) (w' : World) (n : Int), pB (parts (restS s)) = true → pN (parts (restS s)) = n → (e = .returned (.tuple #[.int .i64 (if negB s = true then - n else n), .bool (decide (n ≤ 604800))]) ∧ Below w.heap.size w w') → ((∃ n, e = .returned (.tuple #[.int .i64 n, .bool (okO s)]) ∧ (okO s = true → n = orN s)) ∧ Below w.heap.size w w') := by
      rintro e w' n h1 h2 ⟨rfl, hb⟩
      refine ⟨⟨sgN (negB s) n, ?_, fun h => ?_⟩, hb⟩
      · rw [okO_parts hm, h1, h2]; rfl
      · rw [orN_parts hm h, h2]
    by_cases h3 : 3 < (parts (restS s)).length
    · refine (off_many s _ _ w hs hm' hg h3).mono fun e w' h => fin0 e w' ?_ h
      match hp : parts (restS s) with
      | [] => rfl
      | [a] => rw [hp] at h3; simp at h3
      | [a, b] => rw [hp] at h3; simp at h3
      | [a, b, c] => rw [hp] at h3; simp at h3
      | a :: b :: c :: d :: r => rfl
    · have hne := parts_ne (restS s)
      obtain ⟨a, l, hp, hl⟩ : ∃ a l, parts (restS s) = a :: l ∧ l.length ≤ 2 := by
        match hp : parts (restS s) with
        | [] => rw [hp] at hne; simp at hne
        | a :: l => exact ⟨a, l, rfl, by rw [hp] at h3; simp at h3; omega⟩
      have HA : hdB a = false → pB (parts (restS s)) = false := fun h => by
        rw [hp]
        match l with
        | [] => exact h
        | [b] => simp [pB, h]
        | [b, c] => simp [pB, h]
        | b :: c :: d :: r => rfl
      by_cases ha : 3 < a.size
      · exact (off_big s _ _ w hs hm' hg hp hl ha).mono fun e w' h => fin0 e w' (HA (by unfold hdB; simp; omega)) h
      cases hd : digs a
      · exact (off_bad s _ _ w hs hm' hg hp hl (by omega) hd).mono fun e w' h => fin0 e w' (HA (by unfold hdB; simp [hd])) h
      have hA : hdB a = true := by unfold hdB; simp [hd]; omega
      match l, hp, hl with
      | [], hp, _ =>
        exact (off_one s _ _ w hs hm' hg hp (by omega) hd).mono fun e w' h => fin1 e w' _ (by rw [hp]; exact hA) (by rw [hp]; rfl) h
      | b :: l, hp, hl =>
        have hl1 : l.length ≤ 1 := by simp at hl; omega
        cases hb : twB b
        · have hN : pB (parts (restS s)) = false := by
            rw [hp]
            match l with
            | [] => simp [pB, hb]
            | [c] => simp [pB, hb]
            | c :: d :: r => rfl
          rcases tw_no hb with q | q | q
          · exact (off2_no0 s _ _ w hs hm' hg hp hl1 (by omega) hd q).mono fun e w' h => fin0 e w' hN h
          · exact (off2_no1 s _ _ w hs hm' hg hp hl1 (by omega) hd q).mono fun e w' h => fin0 e w' hN h
          · exact (off2_no2 s _ _ w hs hm' hg hp hl1 (by omega) hd q).mono fun e w' h => fin0 e w' hN h
        · match l, hp, hl1 with
          | [], hp, _ =>
            exact (off2_yes s _ _ w hs hm' hg hp (by omega) hd hb).mono fun e w' h => fin1 e w' _ (by rw [hp]; simp [pB, hA, hb]) (by rw [hp]; rfl) h
          | [c], hp, _ =>
            cases hc : twB c
            · have hN : pB (parts (restS s)) = false := by rw [hp]; simp [pB, hc]
              rcases tw_no hc with q | q | q
              · exact (off3_no0 s _ _ w hs hm' hg hp (by omega) hd hb q).mono fun e w' h => fin0 e w' hN h
              · exact (off3_no1 s _ _ w hs hm' hg hp (by omega) hd hb q).mono fun e w' h => fin0 e w' hN h
              · exact (off3_no2 s _ _ w hs hm' hg hp (by omega) hd hb q).mono fun e w' h => fin0 e w' hN h
            · exact (off3_yes s _ _ w hs hm' hg hp (by omega) hd hb hc).mono fun e w' h => fin1 e w' _ (by rw [hp]; simp [pB, hA, hb, hc]) (by rw [hp]; rfl) h
  · refine (off_minus s w hm).mono fun e w' ⟨he, hb⟩ => ⟨⟨0, ?_, fun _ => ?_⟩, hb⟩
    · rw [he]; unfold okO; rw [hm]; rfl
    · unfold orN; rw [hm]; rfl
set_option maxHeartbeats 400000 in
theorem spec_OffsetRead_ok (s : ByteArray) (w : World) (hs : s.size ≤ 8000) :
    Calls Tryd.prog 40 #[.string s] w fun e w' => e = .returned (.agg #[.int .i64 (orN s), .int .i64 (orC s)]) ∧ Below w.heap.size w w' := by
  have hO := fun w => spec_l01Offset s w hs
  rw [orC_okO]
  cases h : okO s
  · rw [orN_no h]
    rw [h] at hO
    clear h
    go_enter Tryd.func40, Tryd.ntmps40
    go_wp2_with fail
    refine (hO _).mono ?_
    rintro e w1 ⟨⟨n, rfl, _⟩, hb⟩
    obtain ⟨hc, hf⟩ := bcell hb
    have hz : w.heap.size < w1.heap.size := by have := hb.size; simp at this; omega
    have hB : Below w.heap.size w w1 := ((Below.refl _ _).alloc (Nat.le_refl _) _).trans (hb.mono (by simp))
    go_wp2
    exact bodyPost_ret (v := .agg #[.int .i64 0, .int .i64 3]) (by simp [results, Tryd.results40, go_sem, hc]) rfl ⟨rfl, (hB.setCell (Nat.le_refl _) _).setCell (Nat.le_refl _) _⟩
  · rw [h] at hO
    generalize orN s = k at *
    clear h
    go_enter Tryd.func40, Tryd.ntmps40
    go_wp2_with fail
    refine (hO _).mono ?_
    rintro e w1 ⟨⟨n, rfl, hn⟩, hb⟩
    obtain rfl : n = k := by simpa using hn
    obtain ⟨hc, hf⟩ := bcell hb
    have hz : w.heap.size < w1.heap.size := by have := hb.size; simp at this; omega
    have hB : Below w.heap.size w w1 := ((Below.refl _ _).alloc (Nat.le_refl _) _).trans (hb.mono (by simp))
    go_wp2
    exact bodyPost_ret (v := .agg #[.int .i64 n, .int .i64 0]) (by simp [results, Tryd.results40, go_sem, hc]) rfl ⟨rfl, (hB.setCell (Nat.le_refl _) _).setCell (Nat.le_refl _) _⟩
set_option maxHeartbeats 400000 in
theorem spec_OffsetRead_big (s : ByteArray) (w : World) (hs : 8000 < s.size) (hm : s.size ≤ maxLen) :
    Calls Tryd.prog 40 #[.string s] w fun e w' => e = .returned (.agg #[.int .i64 0, .int .i64 2]) ∧ Below w.heap.size w w' := by
  unfold maxLen at hm
  go_enter Tryd.func40, Tryd.ntmps40
  go_wp2
  exact bodyPost_ret (v := .agg #[.int .i64 0, .int .i64 2]) (by simp [results, Tryd.results40, go_sem]) rfl ⟨rfl, (Below.refl _ _).alloc (Nat.le_refl _) _⟩
set_option maxHeartbeats 400000 in
theorem impl_OffsetRead_big (s : ByteArray) (w : World) (hs : 8000 < s.size) (hm : s.size ≤ maxLen) :
    Calls Tryd.prog 36 #[.string s] w fun e w' => e = .returned (.agg #[.int .i64 0, .int .i64 2]) ∧ Below w.heap.size w w' := by
  unfold maxLen at hm
  go_enter Tryd.func36, Tryd.ntmps36
  go_wp2
  exact bodyPost_ret (v := .agg #[.int .i64 0, .int .i64 2]) (by simp [results, Tryd.results36, go_sem]) rfl ⟨rfl, (Below.refl _ _).alloc (Nat.le_refl _) _⟩
/-- what both tell. -/
def orNN (s : ByteArray) : Int := if 8000 < s.size then 0 else orN s
def orCC (s : ByteArray) : Int := if 8000 < s.size then 2 else orC s
theorem impl_OffsetRead_all (s : ByteArray) (w : World) (hm : s.size ≤ maxLen) :
    Calls Tryd.prog 36 #[.string s] w fun e w' => e = .returned (.agg #[.int .i64 (orNN s), .int .i64 (orCC s)]) ∧ Below w.heap.size w w' := by
  unfold orNN orCC
  by_cases h : 8000 < s.size
  · rw [if_pos h, if_pos h]; exact impl_OffsetRead_big s w h hm
  · rw [if_neg h, if_neg h]; exact impl_OffsetRead s w (by omega)
theorem spec_OffsetRead_all (s : ByteArray) (w : World) (hm : s.size ≤ maxLen) :
    Calls Tryd.prog 40 #[.string s] w fun e w' => e = .returned (.agg #[.int .i64 (orNN s), .int .i64 (orCC s)]) ∧ Below w.heap.size w w' := by
  unfold orNN orCC
  by_cases h : 8000 < s.size
  · rw [if_pos h, if_pos h]; exact spec_OffsetRead_big s w h hm
  · rw [if_neg h, if_neg h]; exact spec_OffsetRead_ok s w (by omega)
set_option maxHeartbeats 400000 in
theorem laws_eqNumOut (n c : Int) (w : World) :
    Calls Tryd.prog 43 #[.agg #[.int .i64 n, .int .i64 c], .agg #[.int .i64 n, .int .i64 c]] w fun e w' => e = .returned (.bool true) ∧ Below w.heap.size w w' := by
  go_enter Tryd.func43, Tryd.ntmps43
  go_wp2
  go_ret
  exact ⟨rfl, ((Below.refl _ _).alloc (Nat.le_refl _) _).alloc (by simp) _⟩
end Go.Proofs.YtibhbpgnjikjnaaDoor
