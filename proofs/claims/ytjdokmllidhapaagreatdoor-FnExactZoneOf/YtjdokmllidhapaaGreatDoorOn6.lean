/- What the model tells of a year, a month and a text. -/
import Derived.Test.YtjdokmllidhapaaGreatDoorOn5
import Derived.Test.YtjdokmllidhapaaGreatDoorBytes
namespace Go.Proofs.YtjdokmllidhapaaGreatDoor
open Go.RowKit

def aB (s : ByteArray) : Bool := decide (s.size = 7) && ((s.extract 0 4).toList == [108, 97, 115, 116])
def bB (c : UInt8) (s : ByteArray) : Bool := decide (5 < s.size) && ((s.extract 3 5).toList == [c, 61])
def moV (y m : Int) (s : ByteArray) : Int := if aB s = true ∧ wdN (s.extract 4 7) ≠ -1 then uptoV (wdN (s.extract 4 7)) (num y m (Cal.dim y m)) else if bB 62 s = true then fromV (wdN (s.extract 0 3)) (nbV y m (s.extract 5 s.size)) else if bB 60 s = true then uptoV (wdN (s.extract 0 3)) (nbV y m (s.extract 5 s.size)) else nbV y m s
theorem num_one (y m k : Int) : num y m k = num y m 1 + k - 1 := by unfold num; omega
theorem twoN_bd (t : ByteArray) : -1 ≤ twoN t ∧ twoN t ≤ 999999999 := by
  unfold twoN
  split
  · cases hd : digs t
    · rw [ldN_f hd]; omega
    · have := numAt_bd9 (s := t) (k := t.size) (by omega) (digs_t hd).2
      rw [ldN_t hd]; omega
  · omega
/-- the day of a number, by the model's number. -/
theorem nb_two {y m : Int} (h : ymB y m = true) (t : ByteArray) : nbV y m t = if 1 ≤ twoN t ∧ twoN t ≤ Cal.dim y m then num y m 1 + twoN t - 1 else -1000000 := by
  have ⟨a, b, c, d⟩ := ymB_t h
  unfold nbV nbB twoN
  by_cases h2 : t.size ≤ 2
  · rw [if_pos h2, decide_eq_true h2]
    cases hd : digs t
    · rw [ldN_f hd]; simp
    · rw [ldN_t hd, drN_t hd, ← num_one]
      cases hv : vldB y m (numAt t t.size)
      · rw [if_neg (by simp), if_neg]
        intro hn
        exact vld_f hv ⟨a, b, c, d, hn.1, hn.2⟩
      · have := vld_t hv
        rw [if_pos (by simp), if_pos ⟨this.2.2.2.2.1, this.2.2.2.2.2⟩]
  · rw [if_neg h2]; simp [h2]
theorem last_num (y m : Int) : num y m (Cal.dim y m) = num y m 1 + Cal.dim y m - 1 := num_one _ _ _
theorem ext_byte {s : ByteArray} {a b : Nat} {l : List UInt8} (hb : b ≤ s.size) (h : (s.extract a b).toList = l) {i : Nat} {c : UInt8} (hi : l[i]? = some c) : byteAt s (a + i) = (c.toNat : Int) := by
  have e : s.extract a b = S l := by
    apply ByteArray.ext
    apply Array.ext'
    rw [ByteArray.toList_eq] at h
    simpa [S] using h
  obtain ⟨hlt, _⟩ := List.getElem?_eq_some_iff.mp hi
  have hz : (s.extract a b).size = l.length := by rw [e, S_size]
  rw [ByteArray.size_extract] at hz
  rw [← byteAt_ex hb (by omega), e]
  exact byteAt_S hi
theorem bB_byte {s : ByteArray} {c : UInt8} (h : bB c s = true) : 5 < s.size ∧ byteAt s 3 = (c.toNat : Int) ∧ byteAt s 4 = 61 := by
  unfold bB at h
  simp only [Bool.and_eq_true, decide_eq_true_eq, beq_iff_eq] at h
  exact ⟨h.1, ext_byte (a := 3) (by omega) h.2 (i := 0) rfl, ext_byte (a := 3) (by omega) h.2 (i := 1) rfl⟩
theorem aB_byte {s : ByteArray} (h : aB s = true) : s.size = 7 ∧ byteAt s 0 = 108 ∧ byteAt s 1 = 97 ∧ byteAt s 2 = 115 ∧ byteAt s 3 = 116 := by
  unfold aB at h
  simp only [Bool.and_eq_true, decide_eq_true_eq, beq_iff_eq] at h
  exact ⟨h.1, ext_byte (a := 0) (by omega) h.2 (i := 0) rfl, ext_byte (a := 0) (by omega) h.2 (i := 1) rfl, ext_byte (a := 0) (by omega) h.2 (i := 2) rfl, ext_byte (a := 0) (by omega) h.2 (i := 3) rfl⟩
set_option maxHeartbeats 1000000 in
theorem on_last (y m : Int) (s : ByteArray) (w : World) (hy : ymB y m = true) (ha : aB s = true) (hw : wdN (s.extract 4 7) ≠ -1) :
    Calls Tryz.prog 180 #[.int .i64 y, .int .i64 m, .string s] w fun e w' => e = .returned (.int .i64 (uptoV (wdN (s.extract 4 7)) (num y m (Cal.dim y m)))) ∧ Below w.heap.size w w' := by
  have ⟨y1, y2, m1, m2⟩ := ymB_t hy
  have hM := fun w => spec_l01Month y m w y1 y2
  have hF := fun w => spec_l01Days y m 1 w y1 y2 m1 m2 (by omega) (by omega)
  have dm := Cal.dim_bd y m
  have nl := num_bd (vld_last hy)
  have nf := num_bd (vld_mk (y := y) (m := m) (d := 1) ⟨y1, y2, m1, m2, by omega, by omega⟩)
  rw [last_num] at nl
  have hN := fun w => spec_l01Named (s.extract 4 7) w
  have hv : 0 ≤ wdN (s.extract 4 7) ∧ wdN (s.extract 4 7) < 7 := by have := wdN_bd (s.extract 4 7); omega
  have hz := (aB_byte ha).1
  unfold aB at ha
  simp only [Bool.and_eq_true] at ha
  have ha2 := ha.2
  have er : uptoV (wdN (s.extract 4 7)) (num y m (Cal.dim y m)) = num y m 1 + Cal.dim y m - 1 - ((num y m 1 + Cal.dim y m - 1 + 719163) % 7 - wdN (s.extract 4 7) + 7) % 7 := by
    unfold uptoV; rw [last_num, if_neg (by omega)]
  have HR : Hid (uptoV (wdN (s.extract 4 7)) (num y m (Cal.dim y m)) = num y m 1 + Cal.dim y m - 1 - ((num y m 1 + Cal.dim y m - 1 + 719163) % 7 - wdN (s.extract 4 7) + 7) % 7) := er
  have hW := fun w => spec_l01Weekday (num y m 1 + Cal.dim y m - 1) w (by omega) (by omega)
  clear ha hw er hy y1 y2 m1 m2
  generalize uptoV (wdN (s.extract 4 7)) (num y m (Cal.dim y m)) = r at *
  generalize wdN (s.extract 4 7) = v at *
  generalize Cal.dim y m = dd at *
  generalize num y m 1 = q at *
  have hr : 0 ≤ (q + dd - 1 + 719163) % 7 ∧ (q + dd - 1 + 719163) % 7 < 7 := by omega
  have hz' : ((s.size : Int) == 7) = true := by simp; omega
  generalize (q + dd - 1 + 719163) % 7 = u at *
  go_enter Tryz.func180, Tryz.ntmps180
  go_wp2_with fail
  refine (hM _).mono ?_
  rintro e w0 ⟨rfl, rfl⟩
  go_wp2_with fail
  refine (hF _).mono ?_
  rintro e w1 ⟨rfl, hb1⟩
  go_wp2_with fail
  refine (hN _).mono ?_
  rintro e w2 ⟨rfl, hb2⟩
  have hB2 := hb1.trans (hb2.mono hb1.size)
  go_wp2_with fail
  refine (hW _).mono ?_
  rintro e w3 ⟨rfl, rfl⟩
  go_wp2
  go_ret
  exact ⟨ret_int (by rw [HR.out]; omega), hB2⟩
end Go.Proofs.YtjdokmllidhapaaGreatDoor
