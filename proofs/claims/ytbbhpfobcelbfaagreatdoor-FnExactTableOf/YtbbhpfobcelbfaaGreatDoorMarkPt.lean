/- Packed: Touch Mark0 MarkRule MarkEra MarkLink MarkRel. -/
import Derived.Test.YtbbhpfobcelbfaaGreatDoorRelPt
import Derived.Sort.Row
import Derived.Test.YtbbhpfobcelbfaaGreatDoorBasePt
import Derived.Laws.IdiomStrings
import Derived.Lib.QuietBelow
namespace Go.Proofs.YtbbhpfobcelbfaaGreatDoor
open Go.RowKit

/-- of what was there only the blocks of S have turned. -/
structure Touch (S : Nat → Prop) (w w' : World) : Prop where
  os : w'.os = w.os
  tape : w'.tape = w.tape
  output : w'.output = w.output
  size : w.heap.size ≤ w'.heap.size
  block : ∀ b, b < w.heap.size → ¬ S b → w'.heap[b]? = w.heap[b]?
  room : ∀ g m, Room w g m → Room w' g m
theorem Touch.refl (S : Nat → Prop) (w : World) : Touch S w w := ⟨rfl, rfl, rfl, Nat.le_refl _, fun _ _ _ => rfl, fun _ _ h => h⟩
theorem Touch.trans {S : Nat → Prop} {w w1 w2 : World} (h : Touch S w w1) (h2 : Touch S w1 w2) : Touch S w w2 :=
  ⟨h2.os.trans h.os, h2.tape.trans h.tape, h2.output.trans h.output, Nat.le_trans h.size h2.size, fun b hb hs => (h2.block b (Nat.lt_of_lt_of_le hb h.size) hs).trans (h.block b hb hs), fun g m hr => h2.room g m (h.room g m hr)⟩
theorem Touch.mono {S S2 : Nat → Prop} {w w' : World} (h : Touch S w w') (hs : ∀ b, b < w.heap.size → S b → S2 b) : Touch S2 w w' :=
  ⟨h.os, h.tape, h.output, h.size, fun b hb hn => h.block b hb fun hx => hn (hs b hb hx), h.room⟩
theorem Touch.of_below {S : Nat → Prop} {w w' : World} (h : Below w.heap.size w w') : Touch S w w' := ⟨h.os, h.tape, h.output, h.size, fun b hb _ => h.block b hb, fun _ _ hr => hr.below h⟩
theorem Touch.set {S : Nat → Prop} {w w' : World} (h : Touch S w w') {g o : Nat} (hg : S g) (v : Value) : Touch S w (w'.setCell ⟨g, o, none⟩ v) := by
  refine ⟨h.os, h.tape, h.output, by simpa using h.size, fun b hb hn => ?_, fun _ _ hr => (h.room _ _ hr).set _ _⟩
  rw [← h.block b hb hn, Go.Sort.setCell_eq]
  have hne : g ≠ b := fun e => hn (e ▸ hg)
  simp [Go.Sort.mapBlock, Array.getElem?_modify, hne]
theorem Touch.below {S : Nat → Prop} {w0 w w' : World} {B : Nat} (h : Touch S w w') (hS : ∀ b, S b → B ≤ b) (hB : B ≤ w.heap.size) (hb : Below B w0 w) : Below B w0 w' :=
  ⟨h.os.trans hb.os, h.tape.trans hb.tape, h.output.trans hb.output, Nat.le_trans hb.size h.size, fun k hk => (h.block k (Nat.lt_of_lt_of_le hk hB) fun hs => by have := hS k hs; omega).trans (hb.block k hk)⟩
theorem Touch.cell {S : Nat → Prop} {w w' : World} (h : Touch S w w') {b o : Nat} {v : Value} (hs : ¬ S b) (hc : w.cell? ⟨b, o, none⟩ = some v) : w'.cell? ⟨b, o, none⟩ = some v := by
  rw [World.cell?_of_block (h.block b (World.block_lt_of_cell? _ _ hc) hs)]; exact hc
theorem Touch.frozen {S : Nat → Prop} {w w' : World} (h : Touch S w w') {b o : Nat} (hb : b < w.heap.size) (hs : ¬ S b) : w'.frozen? ⟨b, o, none⟩ = w.frozen? ⟨b, o, none⟩ := World.frozen?_of_block (h.block b hb hs)
theorem SeqAt.touch {S : Nat → Prop} {w w' : World} {g o k : Nat} {rows : List (List Value)} (h : SeqAt w (some ⟨g, o, none⟩) k rows) (ht : Touch S w w') (hs : ¬ S g) : SeqAt w' (some ⟨g, o, none⟩) k rows := by
  rcases h with h | ⟨b, o', ha, hc⟩
  · exact .inl h
  · injection ha with ha
    injection ha with h1 h2
    subst h1 h2
    exact .inr ⟨_, _, rfl, fun i j r c hi hj => ht.cell hs (hc i j r c hi hj)⟩
theorem Room.touch {S : Nat → Prop} {w w' : World} {g m : Nat} (h : Room w g m) (ht : Touch S w w') (hs : ¬ S g) : Room w' g m := fun x hx => by
  obtain ⟨⟨v, hv⟩, hf⟩ := h x hx
  exact ⟨⟨v, ht.cell hs hv⟩, (ht.frozen (World.block_lt_of_cell? _ _ hv) hs).trans hf⟩
/-- cells one behind the other. -/
def Part (w : World) (g o : Nat) (vals : List Value) : Prop := ∀ j v, vals[j]? = some v → w.cell? ⟨g, o + j, none⟩ = some v
theorem Part.nil (w : World) (g o : Nat) : Part w g o [] := fun j v h => by simp at h
theorem Part.below {w w' : World} {g o : Nat} {vals : List Value} (h : Part w g o vals) (hb : Below w.heap.size w w') : Part w' g o vals := fun j v hj => by
  have := h j v hj
  rw [(bcell hb).1 _ _ (World.block_lt_of_cell? _ _ this)]; exact this
theorem Part.store {w : World} {g o m : Nat} {vals : List Value} (h : Part w g o vals) (hR : Room w g m) {n : Nat} (hn : vals.length = n) (hm : o + n < m) (v : Value) : Part (w.setCell ⟨g, o + n, none⟩ v) g o (vals ++ [v]) := fun j u hj => by
  rcases Nat.lt_or_ge j vals.length with hl | hl
  · rw [List.getElem?_append_left hl] at hj
    rw [World.cell?_setCell_other]
    · exact h j u hj
    · intro e; injection e with _ e2; omega
  · rw [List.getElem?_append_right hl] at hj
    have e : j = vals.length := by
      rcases Nat.eq_or_lt_of_le hl with e | e
      · exact e.symm
      · rw [List.getElem?_eq_none (by simp; omega)] at hj; cases hj
    subst e
    simp at hj
    subst hj hn
    obtain ⟨⟨u, hu⟩, _⟩ := hR (o + vals.length) hm
    exact World.cell?_setCell_same _ _ _ hu
theorem Filled.store {w : World} {g q k : Nat} {rows : List (List Value)} (h : Filled w g q k rows) (hlen : ∀ r ∈ rows, r.length = q) (j : Nat) (v : Value) : Filled (w.setCell ⟨g, k * q + j, none⟩ v) g q k rows := fun i l r c hi hr hc => by
  have hl : l < q := by
    have := hlen r (List.mem_of_getElem? hr)
    have := (List.getElem?_eq_some_iff.mp hc).1
    omega
  have hik : i * q + q ≤ k * q := by
    have : (i + 1) * q ≤ k * q := Nat.mul_le_mul_right q (by omega)
    rw [Nat.add_mul] at this; omega
  rw [World.cell?_setCell_other]
  · exact h i l r c hi hr hc
  · intro e; injection e with _ e2; omega
theorem Filled.step {w : World} {g q k : Nat} {rows : List (List Value)} {row : List Value} (h : Filled w g q k rows) (hp : Part w g (k * q) row) (hr : rows[k]? = some row) : Filled w g q (k + 1) rows := fun i l r c hi hr' hc => by
  by_cases e : i = k
  · subst e
    rw [hr] at hr'
    obtain rfl := Option.some.inj hr'
    exact hp l c hc
  · exact h i l r c (by omega) hr' hc
end Go.Proofs.YtbbhpfobcelbfaaGreatDoor
namespace Go.Proofs.YtbbhpfobcelbfaaGreatDoor
open Go.RowKit

def mtF : Nat → Nat → List UInt8 → List UInt8
 | 0, _, c => c
 | f + 1, k, c => if k = 0 then c else mtF f (k / 10) (UInt8.ofNat (48 + k % 10) :: c)
theorem mtF_any : ∀ {f g k : Nat} {c : List UInt8}, k ≤ f → k ≤ g → mtF f k c = mtF g k c
 | 0, 0, _, _, _, _ => rfl
 | 0, g + 1, k, c, h, _ => by rw [mtF, mtF, if_pos (by omega)]
 | f + 1, 0, k, c, _, h => by rw [mtF, mtF, if_pos (by omega)]
 | f + 1, g + 1, k, c, h, h2 => by
  rw [mtF, mtF]
  split
  · rfl
  · exact mtF_any (by omega) (by omega)
def mtGo (k : Nat) (acc : List UInt8) : List UInt8 := mtF k k acc
theorem mtGo_zero (acc : List UInt8) : mtGo 0 acc = acc := rfl
theorem mtGo_pos {k : Nat} (h : 0 < k) (acc : List UInt8) : mtGo k acc = mtGo (k / 10) (UInt8.ofNat (48 + k % 10) :: acc) := by
 obtain ⟨f, rfl⟩ : ∃ f, k = f + 1 := ⟨k - 1, by omega⟩
 rw [mtGo, mtF, if_neg (by omega)]; exact mtF_any (by omega) (by omega)
theorem ret_strM {a b : ByteArray} (h : a = b) : Ending.returned (.string a) = .returned (.string b) := by rw [h]
/-- the text of a number. -/
def mtB (k : Nat) : ByteArray := ⟨(109 :: mtGo k []).toArray⟩
set_option maxRecDepth 20000 in
set_option maxHeartbeats 1000000 in
theorem laws_markText (k : Nat) (w : World) (h0 : 0 < k) (h1 : k < 1000000000) :
    Calls Tryz.prog 64 #[.int .i64 k] w fun e w' => e = .returned (.string (mtB k)) ∧ Below w.heap.size w w' := by
  go_enter Tryz.func64, Tryz.ntmps64
  go_wp2
  go_loopw [0, 3] (fun s o wr => ∃ (m : Nat) (l : List UInt8), s = .int .i64 m ∧ o = .string ⟨l.toArray⟩ ∧ l.length ≤ 9 ∧ m < 10 ^ (9 - l.length) ∧ Hid (mtGo m l = mtGo k []) ∧ Below w.heap.size w wr) (fun s _ _ => (intOf s).toNat)
  case atStart => exact ⟨k, [], rfl, rfl, by simp, by simpa using h1, rfl, Below.refl _ _⟩
  case round =>
    obtain ⟨m, l, rfl, rfl, hl, hm, HG, hB⟩ := hrel
    by_cases hpos : 0 < m
    · have hl9 : l.length < 9 := by
        rcases Nat.lt_or_ge l.length 9 with h | h
        · exact h
        · have e : 9 - l.length = 0 := by omega
          rw [e] at hm; omega
      have HL : Hid (m / 10 < 10 ^ (9 - (l.length + 1))) := by
        simp only [Hid]
        rw [show 9 - l.length = (9 - (l.length + 1)) + 1 by omega, Nat.pow_succ] at hm
        omega
      have HR : Hid (mtGo (m / 10) (UInt8.ofNat (48 + m % 10) :: l) = mtGo k []) := by simp only [Hid]; rw [← mtGo_pos hpos]; exact HG.out
      have hm2 : (m : Int) ≤ 1000000000 := by
        have := Nat.pow_le_pow_right (show 0 < 10 by omega) (show 9 - l.length ≤ 9 by omega)
        have h9 : 10 ^ 9 = 1000000000 := by decide
        omega
      clear hm
      have hu : (UInt8.ofNat (48 + m % 10)).toNat = 48 + m % 10 := UInt8.toNat_ofNat_of_lt' (by have : UInt8.size = 256 := rfl; omega)
      have kc : (convert 22 9 (.slice (some ⟨wr.heap.size, 0, none⟩) 1 1)).run Tryz.prog (wr.alloc (.cells #[.int .u8 (48 + (m : Int) % 10)] 5)) = .ok (.string ⟨#[UInt8.ofNat (48 + m % 10)]⟩) (wr.alloc (.cells #[.int .u8 (48 + (m : Int) % 10)] 5)) :=
        run_convert_bytes_back _ 22 9 5 ⟨wr.heap.size, 0, none⟩ 1 [UInt8.ofNat (48 + m % 10)] Tryz.underlying22 Tryz.underlying5 Tryz.underlying9 (fun j hj => by
          have e : j = 0 := by simpa using hj
          subst e
          simp only [List.getElem_cons_zero, hu]
          simp [go_sem])
      have HC : Hid (∀ b : UInt8, ({ data := #[b] } : ByteArray) ++ ⟨l.toArray⟩ = ⟨(b :: l).toArray⟩) := fun b => by apply ByteArray.ext; simp
      generalize UInt8.ofNat (48 + m % 10) = c at *
      clear hu
      go_wp2
      go_roundw
      case rel => exact ⟨m / 10, c :: l, by go_num, by rw [HC.out], by simp; omega, by simpa using HL.out, HR, hB.alloc hB.size _⟩
      case measure => simp [intOf]; omega
    · have e : m = 0 := by omega
      subst e
      have HR : Hid (({ data := #[109] } : ByteArray) ++ ⟨l.toArray⟩ = mtB k) := by
        simp only [Hid]
        have := HG.out
        rw [mtGo_zero] at this
        subst this
        unfold mtB
        apply ByteArray.ext
        simp
      clear HG
      go_wp2
      go_ret
      exact ⟨ret_strM HR.out, hB⟩
end Go.Proofs.YtbbhpfobcelbfaaGreatDoor
namespace Go.Proofs.YtbbhpfobcelbfaaGreatDoor
open Go.RowKit Go.Sort

def mkRule (c : Nat) : List Value := [.string (mtB (c)), .int .i64 (c + 1 : Nat), .int .i64 (c + 2 : Nat), .int .i64 (c + 3 : Nat), .string (mtB (c + 4)), .int .i64 (c + 5 : Nat), .string (mtB (c + 6)), .int .i64 (c + 7 : Nat), .string (mtB (c + 8))]
def mksRule (c n : Nat) : List (List Value) := (List.range n).map fun i => mkRule (c + 9 * i)
theorem mksRule_at {c n i : Nat} (h : i < n) : (mksRule c n)[i]? = some (mkRule (c + 9 * i)) := by unfold mksRule; rw [List.getElem?_map, List.getElem?_range h]; rfl
theorem mksRule_len {c n : Nat} : ∀ r ∈ mksRule c n, r.length = 9 := fun r hr => by
  unfold mksRule at hr
  obtain ⟨i, _, rfl⟩ := List.mem_map.mp hr
  rfl
set_option maxRecDepth 20000 in
set_option maxHeartbeats 4000000 in
theorem laws_markRuleS (n g cap k : Nat) (w : World) (hR0 : Room w g (n * 9)) (h0 : 0 < k) (h1 : k + 9 * n < 1000000000) :
    Calls Tryz.prog 61 #[.slice (some ⟨g, 0, none⟩) n cap, .int .i64 k] w fun e w' => e = .returned (.int .i64 ((k + 9 * n : Nat) : Int)) ∧ SeqAt w' (some ⟨g, 0, none⟩) 9 (mksRule k n) ∧ Room w' g (n * 9) ∧ Touch (fun b => b = g ∧ 0 < n) w w' := by
  have hlen := @mksRule_len k n
  go_enter Tryz.func61, Tryz.ntmps61
  go_wp2
  go_loopw [1, 5] (fun s t wr => ∃ i : Nat, i ≤ n ∧ t = .int .i64 i ∧ s = .int .i64 ((k + 9 * i : Nat) : Int) ∧ Room wr g (n * 9) ∧ Filled wr g 9 i (mksRule k n) ∧ Touch (fun b => b = g ∧ 0 < n) w wr) (fun _ t _ => n - (intOf t).toNat)
  case atStart => exact ⟨0, by omega, rfl, rfl, hR0, fun i j r c h => by omega, Touch.refl _ _⟩
  case round =>
    clear hR0
    obtain ⟨i, hi, rfl, rfl, hR0, hF0, hT0⟩ := hrel
    by_cases hlt : i < n
    · have hrow := mksRule_at (c := k) hlt
      have HK : Hid (k + 9 * (i + 1) = (k + 9 * i) + 9) := by simp only [Hid]; omega
      have hc0 : 0 < k + 9 * i := by omega
      have hc1 : k + 9 * i + 9 < 1000000000 := by omega
      generalize k + 9 * i = c at *
      have hP0 : Part wr g (i * 9) [] := Part.nil _ _ _
      have hM0 := fun w => laws_markText (c) w (by omega) (by omega)
      go_wp2_with fail
      refine (hM0 _).mono ?_
      rintro e w1 ⟨rfl, hb1⟩
      have hR0a := hR0.below hb1
      have hF0a := hF0.below hb1
      have hP0a := hP0.below hb1
      have hT0a := hT0.trans (Touch.of_below (S := fun b => b = g ∧ 0 < n) hb1)
      clear hb1 hR0 hF0 hP0 hT0 hM0
      obtain ⟨⟨u0, hu0⟩, hf0⟩ := hR0a (i * 9) (by omega)
      have hR1 : Room (w1.setCell ⟨g, i * 9, none⟩ (.string (mtB (c)))) g (n * 9) := hR0a.set _ _
      have hF1 : Filled (w1.setCell ⟨g, i * 9, none⟩ (.string (mtB (c)))) g 9 i (mksRule k n) := by simpa using hF0a.store hlen 0 (.string (mtB (c)))
      have hP1 : Part (w1.setCell ⟨g, i * 9, none⟩ (.string (mtB (c)))) g (i * 9) [.string (mtB (c))] := by simpa using hP0a.store hR0a (n := 0) rfl (by omega) (.string (mtB (c)))
      have hT1 : Touch (fun b => b = g ∧ 0 < n) w (w1.setCell ⟨g, i * 9, none⟩ (.string (mtB (c)))) := hT0a.set ⟨rfl, by omega⟩ _
      obtain ⟨⟨u1, hu1⟩, hf1⟩ := hR1 (i * 9 + 1) (by omega)
      have hR2 : Room ((w1.setCell ⟨g, i * 9, none⟩ (.string (mtB (c)))).setCell ⟨g, i * 9 + 1, none⟩ (.int .i64 ((c : Int) + 1))) g (n * 9) := hR1.set _ _
      have hF2 : Filled ((w1.setCell ⟨g, i * 9, none⟩ (.string (mtB (c)))).setCell ⟨g, i * 9 + 1, none⟩ (.int .i64 ((c : Int) + 1))) g 9 i (mksRule k n) := by simpa using hF1.store hlen 1 (.int .i64 ((c : Int) + 1))
      have hP2 : Part ((w1.setCell ⟨g, i * 9, none⟩ (.string (mtB (c)))).setCell ⟨g, i * 9 + 1, none⟩ (.int .i64 ((c : Int) + 1))) g (i * 9) [.string (mtB (c)), .int .i64 ((c : Int) + 1)] := by simpa using hP1.store hR1 (n := 1) rfl (by omega) (.int .i64 ((c : Int) + 1))
      have hT2 : Touch (fun b => b = g ∧ 0 < n) w ((w1.setCell ⟨g, i * 9, none⟩ (.string (mtB (c)))).setCell ⟨g, i * 9 + 1, none⟩ (.int .i64 ((c : Int) + 1))) := hT1.set ⟨rfl, by omega⟩ _
      obtain ⟨⟨u2, hu2⟩, hf2⟩ := hR2 (i * 9 + 2) (by omega)
      have hR3 : Room (((w1.setCell ⟨g, i * 9, none⟩ (.string (mtB (c)))).setCell ⟨g, i * 9 + 1, none⟩ (.int .i64 ((c : Int) + 1))).setCell ⟨g, i * 9 + 2, none⟩ (.int .i64 ((c : Int) + 1 + 1))) g (n * 9) := hR2.set _ _
      have hF3 : Filled (((w1.setCell ⟨g, i * 9, none⟩ (.string (mtB (c)))).setCell ⟨g, i * 9 + 1, none⟩ (.int .i64 ((c : Int) + 1))).setCell ⟨g, i * 9 + 2, none⟩ (.int .i64 ((c : Int) + 1 + 1))) g 9 i (mksRule k n) := by simpa using hF2.store hlen 2 (.int .i64 ((c : Int) + 1 + 1))
      have hP3 : Part (((w1.setCell ⟨g, i * 9, none⟩ (.string (mtB (c)))).setCell ⟨g, i * 9 + 1, none⟩ (.int .i64 ((c : Int) + 1))).setCell ⟨g, i * 9 + 2, none⟩ (.int .i64 ((c : Int) + 1 + 1))) g (i * 9) [.string (mtB (c)), .int .i64 ((c : Int) + 1), .int .i64 ((c : Int) + 1 + 1)] := by simpa using hP2.store hR2 (n := 2) rfl (by omega) (.int .i64 ((c : Int) + 1 + 1))
      have hT3 : Touch (fun b => b = g ∧ 0 < n) w (((w1.setCell ⟨g, i * 9, none⟩ (.string (mtB (c)))).setCell ⟨g, i * 9 + 1, none⟩ (.int .i64 ((c : Int) + 1))).setCell ⟨g, i * 9 + 2, none⟩ (.int .i64 ((c : Int) + 1 + 1))) := hT2.set ⟨rfl, by omega⟩ _
      obtain ⟨⟨u3, hu3⟩, hf3⟩ := hR3 (i * 9 + 3) (by omega)
      have hR4 : Room ((((w1.setCell ⟨g, i * 9, none⟩ (.string (mtB (c)))).setCell ⟨g, i * 9 + 1, none⟩ (.int .i64 ((c : Int) + 1))).setCell ⟨g, i * 9 + 2, none⟩ (.int .i64 ((c : Int) + 1 + 1))).setCell ⟨g, i * 9 + 3, none⟩ (.int .i64 ((c : Int) + 1 + 1 + 1))) g (n * 9) := hR3.set _ _
      have hF4 : Filled ((((w1.setCell ⟨g, i * 9, none⟩ (.string (mtB (c)))).setCell ⟨g, i * 9 + 1, none⟩ (.int .i64 ((c : Int) + 1))).setCell ⟨g, i * 9 + 2, none⟩ (.int .i64 ((c : Int) + 1 + 1))).setCell ⟨g, i * 9 + 3, none⟩ (.int .i64 ((c : Int) + 1 + 1 + 1))) g 9 i (mksRule k n) := by simpa using hF3.store hlen 3 (.int .i64 ((c : Int) + 1 + 1 + 1))
      have hP4 : Part ((((w1.setCell ⟨g, i * 9, none⟩ (.string (mtB (c)))).setCell ⟨g, i * 9 + 1, none⟩ (.int .i64 ((c : Int) + 1))).setCell ⟨g, i * 9 + 2, none⟩ (.int .i64 ((c : Int) + 1 + 1))).setCell ⟨g, i * 9 + 3, none⟩ (.int .i64 ((c : Int) + 1 + 1 + 1))) g (i * 9) [.string (mtB (c)), .int .i64 ((c : Int) + 1), .int .i64 ((c : Int) + 1 + 1), .int .i64 ((c : Int) + 1 + 1 + 1)] := by simpa using hP3.store hR3 (n := 3) rfl (by omega) (.int .i64 ((c : Int) + 1 + 1 + 1))
      have hT4 : Touch (fun b => b = g ∧ 0 < n) w ((((w1.setCell ⟨g, i * 9, none⟩ (.string (mtB (c)))).setCell ⟨g, i * 9 + 1, none⟩ (.int .i64 ((c : Int) + 1))).setCell ⟨g, i * 9 + 2, none⟩ (.int .i64 ((c : Int) + 1 + 1))).setCell ⟨g, i * 9 + 3, none⟩ (.int .i64 ((c : Int) + 1 + 1 + 1))) := hT3.set ⟨rfl, by omega⟩ _
      have hM4 := fun w => laws_markText (c + 4) w (by omega) (by omega)
      rw [show ((c + 4 : Nat) : Int) = (c : Int) + 1 + 1 + 1 + 1 by omega] at hM4
      go_wp2_with fail
      refine (hM4 _).mono ?_
      rintro e w2 ⟨rfl, hb2⟩
      have hR4a := hR4.below hb2
      have hF4a := hF4.below hb2
      have hP4a := hP4.below hb2
      have hT4a := hT4.trans (Touch.of_below (S := fun b => b = g ∧ 0 < n) hb2)
      clear hb2 hR4 hF4 hP4 hT4 hM4
      obtain ⟨⟨u4, hu4⟩, hf4⟩ := hR4a (i * 9 + 4) (by omega)
      have hR5 : Room (w2.setCell ⟨g, i * 9 + 4, none⟩ (.string (mtB (c + 4)))) g (n * 9) := hR4a.set _ _
      have hF5 : Filled (w2.setCell ⟨g, i * 9 + 4, none⟩ (.string (mtB (c + 4)))) g 9 i (mksRule k n) := by simpa using hF4a.store hlen 4 (.string (mtB (c + 4)))
      have hP5 : Part (w2.setCell ⟨g, i * 9 + 4, none⟩ (.string (mtB (c + 4)))) g (i * 9) [.string (mtB (c)), .int .i64 ((c : Int) + 1), .int .i64 ((c : Int) + 1 + 1), .int .i64 ((c : Int) + 1 + 1 + 1), .string (mtB (c + 4))] := by simpa using hP4a.store hR4a (n := 4) rfl (by omega) (.string (mtB (c + 4)))
      have hT5 : Touch (fun b => b = g ∧ 0 < n) w (w2.setCell ⟨g, i * 9 + 4, none⟩ (.string (mtB (c + 4)))) := hT4a.set ⟨rfl, by omega⟩ _
      obtain ⟨⟨u5, hu5⟩, hf5⟩ := hR5 (i * 9 + 5) (by omega)
      have hR6 : Room ((w2.setCell ⟨g, i * 9 + 4, none⟩ (.string (mtB (c + 4)))).setCell ⟨g, i * 9 + 5, none⟩ (.int .i64 ((c : Int) + 1 + 1 + 1 + 1 + 1))) g (n * 9) := hR5.set _ _
      have hF6 : Filled ((w2.setCell ⟨g, i * 9 + 4, none⟩ (.string (mtB (c + 4)))).setCell ⟨g, i * 9 + 5, none⟩ (.int .i64 ((c : Int) + 1 + 1 + 1 + 1 + 1))) g 9 i (mksRule k n) := by simpa using hF5.store hlen 5 (.int .i64 ((c : Int) + 1 + 1 + 1 + 1 + 1))
      have hP6 : Part ((w2.setCell ⟨g, i * 9 + 4, none⟩ (.string (mtB (c + 4)))).setCell ⟨g, i * 9 + 5, none⟩ (.int .i64 ((c : Int) + 1 + 1 + 1 + 1 + 1))) g (i * 9) [.string (mtB (c)), .int .i64 ((c : Int) + 1), .int .i64 ((c : Int) + 1 + 1), .int .i64 ((c : Int) + 1 + 1 + 1), .string (mtB (c + 4)), .int .i64 ((c : Int) + 1 + 1 + 1 + 1 + 1)] := by simpa using hP5.store hR5 (n := 5) rfl (by omega) (.int .i64 ((c : Int) + 1 + 1 + 1 + 1 + 1))
      have hT6 : Touch (fun b => b = g ∧ 0 < n) w ((w2.setCell ⟨g, i * 9 + 4, none⟩ (.string (mtB (c + 4)))).setCell ⟨g, i * 9 + 5, none⟩ (.int .i64 ((c : Int) + 1 + 1 + 1 + 1 + 1))) := hT5.set ⟨rfl, by omega⟩ _
      have hM6 := fun w => laws_markText (c + 6) w (by omega) (by omega)
      rw [show ((c + 6 : Nat) : Int) = (c : Int) + 1 + 1 + 1 + 1 + 1 + 1 by omega] at hM6
      go_wp2_with fail
      refine (hM6 _).mono ?_
      rintro e w3 ⟨rfl, hb3⟩
      have hR6a := hR6.below hb3
      have hF6a := hF6.below hb3
      have hP6a := hP6.below hb3
      have hT6a := hT6.trans (Touch.of_below (S := fun b => b = g ∧ 0 < n) hb3)
      clear hb3 hR6 hF6 hP6 hT6 hM6
      obtain ⟨⟨u6, hu6⟩, hf6⟩ := hR6a (i * 9 + 6) (by omega)
      have hR7 : Room (w3.setCell ⟨g, i * 9 + 6, none⟩ (.string (mtB (c + 6)))) g (n * 9) := hR6a.set _ _
      have hF7 : Filled (w3.setCell ⟨g, i * 9 + 6, none⟩ (.string (mtB (c + 6)))) g 9 i (mksRule k n) := by simpa using hF6a.store hlen 6 (.string (mtB (c + 6)))
      have hP7 : Part (w3.setCell ⟨g, i * 9 + 6, none⟩ (.string (mtB (c + 6)))) g (i * 9) [.string (mtB (c)), .int .i64 ((c : Int) + 1), .int .i64 ((c : Int) + 1 + 1), .int .i64 ((c : Int) + 1 + 1 + 1), .string (mtB (c + 4)), .int .i64 ((c : Int) + 1 + 1 + 1 + 1 + 1), .string (mtB (c + 6))] := by simpa using hP6a.store hR6a (n := 6) rfl (by omega) (.string (mtB (c + 6)))
      have hT7 : Touch (fun b => b = g ∧ 0 < n) w (w3.setCell ⟨g, i * 9 + 6, none⟩ (.string (mtB (c + 6)))) := hT6a.set ⟨rfl, by omega⟩ _
      obtain ⟨⟨u7, hu7⟩, hf7⟩ := hR7 (i * 9 + 7) (by omega)
      have hR8 : Room ((w3.setCell ⟨g, i * 9 + 6, none⟩ (.string (mtB (c + 6)))).setCell ⟨g, i * 9 + 7, none⟩ (.int .i64 ((c : Int) + 1 + 1 + 1 + 1 + 1 + 1 + 1))) g (n * 9) := hR7.set _ _
      have hF8 : Filled ((w3.setCell ⟨g, i * 9 + 6, none⟩ (.string (mtB (c + 6)))).setCell ⟨g, i * 9 + 7, none⟩ (.int .i64 ((c : Int) + 1 + 1 + 1 + 1 + 1 + 1 + 1))) g 9 i (mksRule k n) := by simpa using hF7.store hlen 7 (.int .i64 ((c : Int) + 1 + 1 + 1 + 1 + 1 + 1 + 1))
      have hP8 : Part ((w3.setCell ⟨g, i * 9 + 6, none⟩ (.string (mtB (c + 6)))).setCell ⟨g, i * 9 + 7, none⟩ (.int .i64 ((c : Int) + 1 + 1 + 1 + 1 + 1 + 1 + 1))) g (i * 9) [.string (mtB (c)), .int .i64 ((c : Int) + 1), .int .i64 ((c : Int) + 1 + 1), .int .i64 ((c : Int) + 1 + 1 + 1), .string (mtB (c + 4)), .int .i64 ((c : Int) + 1 + 1 + 1 + 1 + 1), .string (mtB (c + 6)), .int .i64 ((c : Int) + 1 + 1 + 1 + 1 + 1 + 1 + 1)] := by simpa using hP7.store hR7 (n := 7) rfl (by omega) (.int .i64 ((c : Int) + 1 + 1 + 1 + 1 + 1 + 1 + 1))
      have hT8 : Touch (fun b => b = g ∧ 0 < n) w ((w3.setCell ⟨g, i * 9 + 6, none⟩ (.string (mtB (c + 6)))).setCell ⟨g, i * 9 + 7, none⟩ (.int .i64 ((c : Int) + 1 + 1 + 1 + 1 + 1 + 1 + 1))) := hT7.set ⟨rfl, by omega⟩ _
      have hM8 := fun w => laws_markText (c + 8) w (by omega) (by omega)
      rw [show ((c + 8 : Nat) : Int) = (c : Int) + 1 + 1 + 1 + 1 + 1 + 1 + 1 + 1 by omega] at hM8
      go_wp2_with fail
      refine (hM8 _).mono ?_
      rintro e w4 ⟨rfl, hb4⟩
      have hR8a := hR8.below hb4
      have hF8a := hF8.below hb4
      have hP8a := hP8.below hb4
      have hT8a := hT8.trans (Touch.of_below (S := fun b => b = g ∧ 0 < n) hb4)
      clear hb4 hR8 hF8 hP8 hT8 hM8
      obtain ⟨⟨u8, hu8⟩, hf8⟩ := hR8a (i * 9 + 8) (by omega)
      have hR9 : Room (w4.setCell ⟨g, i * 9 + 8, none⟩ (.string (mtB (c + 8)))) g (n * 9) := hR8a.set _ _
      have hF9 : Filled (w4.setCell ⟨g, i * 9 + 8, none⟩ (.string (mtB (c + 8)))) g 9 i (mksRule k n) := by simpa using hF8a.store hlen 8 (.string (mtB (c + 8)))
      have hP9 : Part (w4.setCell ⟨g, i * 9 + 8, none⟩ (.string (mtB (c + 8)))) g (i * 9) [.string (mtB (c)), .int .i64 ((c : Int) + 1), .int .i64 ((c : Int) + 1 + 1), .int .i64 ((c : Int) + 1 + 1 + 1), .string (mtB (c + 4)), .int .i64 ((c : Int) + 1 + 1 + 1 + 1 + 1), .string (mtB (c + 6)), .int .i64 ((c : Int) + 1 + 1 + 1 + 1 + 1 + 1 + 1), .string (mtB (c + 8))] := by simpa using hP8a.store hR8a (n := 8) rfl (by omega) (.string (mtB (c + 8)))
      have hT9 : Touch (fun b => b = g ∧ 0 < n) w (w4.setCell ⟨g, i * 9 + 8, none⟩ (.string (mtB (c + 8)))) := hT8a.set ⟨rfl, by omega⟩ _
      have hF : Filled _ g 9 (i + 1) (mksRule k n) := hF9.step hP9 (by rw [hrow]; simp [mkRule, Int.add_assoc])
      clear hF9 hP9
      go_wp2
      go_roundw
      case rel => exact ⟨i + 1, by omega, by go_num, by rw [HK.out]; go_num, hR9, hF, hT9⟩
      case measure => simp [intOf]; omega
    · have e : i = n := by omega
      subst e
      go_wp2
      go_ret
      exact ⟨rfl, Filled.seq (by unfold mksRule; rw [List.length_map, List.length_range]; exact hF0), hR0, hT0⟩
end Go.Proofs.YtbbhpfobcelbfaaGreatDoor
namespace Go.Proofs.YtbbhpfobcelbfaaGreatDoor
open Go.RowKit Go.Sort

def mkEra (c : Nat) : List Value := [.int .i64 (c : Nat), .string (mtB (c + 1)), .int .i64 (c + 2 : Nat), .string (mtB (c + 3)), .int .i64 (c + 4 : Nat), .string (mtB (c + 5))]
def mksEra (c n : Nat) : List (List Value) := (List.range n).map fun i => mkEra (c + 6 * i)
theorem mksEra_at {c n i : Nat} (h : i < n) : (mksEra c n)[i]? = some (mkEra (c + 6 * i)) := by unfold mksEra; rw [List.getElem?_map, List.getElem?_range h]; rfl
theorem mksEra_len {c n : Nat} : ∀ r ∈ mksEra c n, r.length = 6 := fun r hr => by
  unfold mksEra at hr
  obtain ⟨i, _, rfl⟩ := List.mem_map.mp hr
  rfl
set_option maxRecDepth 20000 in
set_option maxHeartbeats 4000000 in
theorem laws_markEraS (n g cap k : Nat) (w : World) (hR0 : Room w g (n * 6)) (h0 : 0 < k) (h1 : k + 6 * n < 1000000000) :
    Calls Tryz.prog 112 #[.slice (some ⟨g, 0, none⟩) n cap, .int .i64 k] w fun e w' => e = .returned (.int .i64 ((k + 6 * n : Nat) : Int)) ∧ SeqAt w' (some ⟨g, 0, none⟩) 6 (mksEra k n) ∧ Room w' g (n * 6) ∧ Touch (fun b => b = g ∧ 0 < n) w w' := by
  have hlen := @mksEra_len k n
  go_enter Tryz.func112, Tryz.ntmps112
  go_wp2
  go_loopw [1, 5] (fun s t wr => ∃ i : Nat, i ≤ n ∧ t = .int .i64 i ∧ s = .int .i64 ((k + 6 * i : Nat) : Int) ∧ Room wr g (n * 6) ∧ Filled wr g 6 i (mksEra k n) ∧ Touch (fun b => b = g ∧ 0 < n) w wr) (fun _ t _ => n - (intOf t).toNat)
  case atStart => exact ⟨0, by omega, rfl, rfl, hR0, fun i j r c h => by omega, Touch.refl _ _⟩
  case round =>
    clear hR0
    obtain ⟨i, hi, rfl, rfl, hR0, hF0, hT0⟩ := hrel
    by_cases hlt : i < n
    · have hrow := mksEra_at (c := k) hlt
      have HK : Hid (k + 6 * (i + 1) = (k + 6 * i) + 6) := by simp only [Hid]; omega
      have hc0 : 0 < k + 6 * i := by omega
      have hc1 : k + 6 * i + 6 < 1000000000 := by omega
      generalize k + 6 * i = c at *
      have hP0 : Part wr g (i * 6) [] := Part.nil _ _ _
      obtain ⟨⟨u0, hu0⟩, hf0⟩ := hR0 (i * 6) (by omega)
      have hR1 : Room (wr.setCell ⟨g, i * 6, none⟩ (.int .i64 (c : Int))) g (n * 6) := hR0.set _ _
      have hF1 : Filled (wr.setCell ⟨g, i * 6, none⟩ (.int .i64 (c : Int))) g 6 i (mksEra k n) := by simpa using hF0.store hlen 0 (.int .i64 (c : Int))
      have hP1 : Part (wr.setCell ⟨g, i * 6, none⟩ (.int .i64 (c : Int))) g (i * 6) [.int .i64 (c : Int)] := by simpa using hP0.store hR0 (n := 0) rfl (by omega) (.int .i64 (c : Int))
      have hT1 : Touch (fun b => b = g ∧ 0 < n) w (wr.setCell ⟨g, i * 6, none⟩ (.int .i64 (c : Int))) := hT0.set ⟨rfl, by omega⟩ _
      have hM1 := fun w => laws_markText (c + 1) w (by omega) (by omega)
      rw [show ((c + 1 : Nat) : Int) = (c : Int) + 1 by omega] at hM1
      go_wp2_with fail
      refine (hM1 _).mono ?_
      rintro e w1 ⟨rfl, hb1⟩
      have hR1a := hR1.below hb1
      have hF1a := hF1.below hb1
      have hP1a := hP1.below hb1
      have hT1a := hT1.trans (Touch.of_below (S := fun b => b = g ∧ 0 < n) hb1)
      clear hb1 hR1 hF1 hP1 hT1 hM1
      obtain ⟨⟨u1, hu1⟩, hf1⟩ := hR1a (i * 6 + 1) (by omega)
      have hR2 : Room (w1.setCell ⟨g, i * 6 + 1, none⟩ (.string (mtB (c + 1)))) g (n * 6) := hR1a.set _ _
      have hF2 : Filled (w1.setCell ⟨g, i * 6 + 1, none⟩ (.string (mtB (c + 1)))) g 6 i (mksEra k n) := by simpa using hF1a.store hlen 1 (.string (mtB (c + 1)))
      have hP2 : Part (w1.setCell ⟨g, i * 6 + 1, none⟩ (.string (mtB (c + 1)))) g (i * 6) [.int .i64 (c : Int), .string (mtB (c + 1))] := by simpa using hP1a.store hR1a (n := 1) rfl (by omega) (.string (mtB (c + 1)))
      have hT2 : Touch (fun b => b = g ∧ 0 < n) w (w1.setCell ⟨g, i * 6 + 1, none⟩ (.string (mtB (c + 1)))) := hT1a.set ⟨rfl, by omega⟩ _
      obtain ⟨⟨u2, hu2⟩, hf2⟩ := hR2 (i * 6 + 2) (by omega)
      have hR3 : Room ((w1.setCell ⟨g, i * 6 + 1, none⟩ (.string (mtB (c + 1)))).setCell ⟨g, i * 6 + 2, none⟩ (.int .i64 ((c : Int) + 1 + 1))) g (n * 6) := hR2.set _ _
      have hF3 : Filled ((w1.setCell ⟨g, i * 6 + 1, none⟩ (.string (mtB (c + 1)))).setCell ⟨g, i * 6 + 2, none⟩ (.int .i64 ((c : Int) + 1 + 1))) g 6 i (mksEra k n) := by simpa using hF2.store hlen 2 (.int .i64 ((c : Int) + 1 + 1))
      have hP3 : Part ((w1.setCell ⟨g, i * 6 + 1, none⟩ (.string (mtB (c + 1)))).setCell ⟨g, i * 6 + 2, none⟩ (.int .i64 ((c : Int) + 1 + 1))) g (i * 6) [.int .i64 (c : Int), .string (mtB (c + 1)), .int .i64 ((c : Int) + 1 + 1)] := by simpa using hP2.store hR2 (n := 2) rfl (by omega) (.int .i64 ((c : Int) + 1 + 1))
      have hT3 : Touch (fun b => b = g ∧ 0 < n) w ((w1.setCell ⟨g, i * 6 + 1, none⟩ (.string (mtB (c + 1)))).setCell ⟨g, i * 6 + 2, none⟩ (.int .i64 ((c : Int) + 1 + 1))) := hT2.set ⟨rfl, by omega⟩ _
      have hM3 := fun w => laws_markText (c + 3) w (by omega) (by omega)
      rw [show ((c + 3 : Nat) : Int) = (c : Int) + 1 + 1 + 1 by omega] at hM3
      go_wp2_with fail
      refine (hM3 _).mono ?_
      rintro e w2 ⟨rfl, hb2⟩
      have hR3a := hR3.below hb2
      have hF3a := hF3.below hb2
      have hP3a := hP3.below hb2
      have hT3a := hT3.trans (Touch.of_below (S := fun b => b = g ∧ 0 < n) hb2)
      clear hb2 hR3 hF3 hP3 hT3 hM3
      obtain ⟨⟨u3, hu3⟩, hf3⟩ := hR3a (i * 6 + 3) (by omega)
      have hR4 : Room (w2.setCell ⟨g, i * 6 + 3, none⟩ (.string (mtB (c + 3)))) g (n * 6) := hR3a.set _ _
      have hF4 : Filled (w2.setCell ⟨g, i * 6 + 3, none⟩ (.string (mtB (c + 3)))) g 6 i (mksEra k n) := by simpa using hF3a.store hlen 3 (.string (mtB (c + 3)))
      have hP4 : Part (w2.setCell ⟨g, i * 6 + 3, none⟩ (.string (mtB (c + 3)))) g (i * 6) [.int .i64 (c : Int), .string (mtB (c + 1)), .int .i64 ((c : Int) + 1 + 1), .string (mtB (c + 3))] := by simpa using hP3a.store hR3a (n := 3) rfl (by omega) (.string (mtB (c + 3)))
      have hT4 : Touch (fun b => b = g ∧ 0 < n) w (w2.setCell ⟨g, i * 6 + 3, none⟩ (.string (mtB (c + 3)))) := hT3a.set ⟨rfl, by omega⟩ _
      obtain ⟨⟨u4, hu4⟩, hf4⟩ := hR4 (i * 6 + 4) (by omega)
      have hR5 : Room ((w2.setCell ⟨g, i * 6 + 3, none⟩ (.string (mtB (c + 3)))).setCell ⟨g, i * 6 + 4, none⟩ (.int .i64 ((c : Int) + 1 + 1 + 1 + 1))) g (n * 6) := hR4.set _ _
      have hF5 : Filled ((w2.setCell ⟨g, i * 6 + 3, none⟩ (.string (mtB (c + 3)))).setCell ⟨g, i * 6 + 4, none⟩ (.int .i64 ((c : Int) + 1 + 1 + 1 + 1))) g 6 i (mksEra k n) := by simpa using hF4.store hlen 4 (.int .i64 ((c : Int) + 1 + 1 + 1 + 1))
      have hP5 : Part ((w2.setCell ⟨g, i * 6 + 3, none⟩ (.string (mtB (c + 3)))).setCell ⟨g, i * 6 + 4, none⟩ (.int .i64 ((c : Int) + 1 + 1 + 1 + 1))) g (i * 6) [.int .i64 (c : Int), .string (mtB (c + 1)), .int .i64 ((c : Int) + 1 + 1), .string (mtB (c + 3)), .int .i64 ((c : Int) + 1 + 1 + 1 + 1)] := by simpa using hP4.store hR4 (n := 4) rfl (by omega) (.int .i64 ((c : Int) + 1 + 1 + 1 + 1))
      have hT5 : Touch (fun b => b = g ∧ 0 < n) w ((w2.setCell ⟨g, i * 6 + 3, none⟩ (.string (mtB (c + 3)))).setCell ⟨g, i * 6 + 4, none⟩ (.int .i64 ((c : Int) + 1 + 1 + 1 + 1))) := hT4.set ⟨rfl, by omega⟩ _
      have hM5 := fun w => laws_markText (c + 5) w (by omega) (by omega)
      rw [show ((c + 5 : Nat) : Int) = (c : Int) + 1 + 1 + 1 + 1 + 1 by omega] at hM5
      go_wp2_with fail
      refine (hM5 _).mono ?_
      rintro e w3 ⟨rfl, hb3⟩
      have hR5a := hR5.below hb3
      have hF5a := hF5.below hb3
      have hP5a := hP5.below hb3
      have hT5a := hT5.trans (Touch.of_below (S := fun b => b = g ∧ 0 < n) hb3)
      clear hb3 hR5 hF5 hP5 hT5 hM5
      obtain ⟨⟨u5, hu5⟩, hf5⟩ := hR5a (i * 6 + 5) (by omega)
      have hR6 : Room (w3.setCell ⟨g, i * 6 + 5, none⟩ (.string (mtB (c + 5)))) g (n * 6) := hR5a.set _ _
      have hF6 : Filled (w3.setCell ⟨g, i * 6 + 5, none⟩ (.string (mtB (c + 5)))) g 6 i (mksEra k n) := by simpa using hF5a.store hlen 5 (.string (mtB (c + 5)))
      have hP6 : Part (w3.setCell ⟨g, i * 6 + 5, none⟩ (.string (mtB (c + 5)))) g (i * 6) [.int .i64 (c : Int), .string (mtB (c + 1)), .int .i64 ((c : Int) + 1 + 1), .string (mtB (c + 3)), .int .i64 ((c : Int) + 1 + 1 + 1 + 1), .string (mtB (c + 5))] := by simpa using hP5a.store hR5a (n := 5) rfl (by omega) (.string (mtB (c + 5)))
      have hT6 : Touch (fun b => b = g ∧ 0 < n) w (w3.setCell ⟨g, i * 6 + 5, none⟩ (.string (mtB (c + 5)))) := hT5a.set ⟨rfl, by omega⟩ _
      have hF : Filled _ g 6 (i + 1) (mksEra k n) := hF6.step hP6 (by rw [hrow]; simp [mkEra, Int.add_assoc])
      clear hF6 hP6
      go_wp2
      go_roundw
      case rel => exact ⟨i + 1, by omega, by go_num, by rw [HK.out]; go_num, hR6, hF, hT6⟩
      case measure => simp [intOf]; omega
    · have e : i = n := by omega
      subst e
      go_wp2
      go_ret
      exact ⟨rfl, Filled.seq (by unfold mksEra; rw [List.length_map, List.length_range]; exact hF0), hR0, hT0⟩
end Go.Proofs.YtbbhpfobcelbfaaGreatDoor
namespace Go.Proofs.YtbbhpfobcelbfaaGreatDoor
open Go.RowKit Go.Sort

def mkLink (c : Nat) : List Value := [.string (mtB (c)), .string (mtB (c + 1))]
def mksLink (c n : Nat) : List (List Value) := (List.range n).map fun i => mkLink (c + 2 * i)
theorem mksLink_at {c n i : Nat} (h : i < n) : (mksLink c n)[i]? = some (mkLink (c + 2 * i)) := by unfold mksLink; rw [List.getElem?_map, List.getElem?_range h]; rfl
theorem mksLink_len {c n : Nat} : ∀ r ∈ mksLink c n, r.length = 2 := fun r hr => by
  unfold mksLink at hr
  obtain ⟨i, _, rfl⟩ := List.mem_map.mp hr
  rfl
set_option maxRecDepth 20000 in
set_option maxHeartbeats 4000000 in
theorem laws_markLinkS (n g cap k : Nat) (w : World) (hR0 : Room w g (n * 2)) (h0 : 0 < k) (h1 : k + 2 * n < 1000000000) :
    Calls Tryz.prog 63 #[.slice (some ⟨g, 0, none⟩) n cap, .int .i64 k] w fun e w' => e = .returned (.int .i64 ((k + 2 * n : Nat) : Int)) ∧ SeqAt w' (some ⟨g, 0, none⟩) 2 (mksLink k n) ∧ Room w' g (n * 2) ∧ Touch (fun b => b = g ∧ 0 < n) w w' := by
  have hlen := @mksLink_len k n
  go_enter Tryz.func63, Tryz.ntmps63
  go_wp2
  go_loopw [1, 5] (fun s t wr => ∃ i : Nat, i ≤ n ∧ t = .int .i64 i ∧ s = .int .i64 ((k + 2 * i : Nat) : Int) ∧ Room wr g (n * 2) ∧ Filled wr g 2 i (mksLink k n) ∧ Touch (fun b => b = g ∧ 0 < n) w wr) (fun _ t _ => n - (intOf t).toNat)
  case atStart => exact ⟨0, by omega, rfl, rfl, hR0, fun i j r c h => by omega, Touch.refl _ _⟩
  case round =>
    clear hR0
    obtain ⟨i, hi, rfl, rfl, hR0, hF0, hT0⟩ := hrel
    by_cases hlt : i < n
    · have hrow := mksLink_at (c := k) hlt
      have HK : Hid (k + 2 * (i + 1) = (k + 2 * i) + 2) := by simp only [Hid]; omega
      have hc0 : 0 < k + 2 * i := by omega
      have hc1 : k + 2 * i + 2 < 1000000000 := by omega
      generalize k + 2 * i = c at *
      have hP0 : Part wr g (i * 2) [] := Part.nil _ _ _
      have hM0 := fun w => laws_markText (c) w (by omega) (by omega)
      go_wp2_with fail
      refine (hM0 _).mono ?_
      rintro e w1 ⟨rfl, hb1⟩
      have hR0a := hR0.below hb1
      have hF0a := hF0.below hb1
      have hP0a := hP0.below hb1
      have hT0a := hT0.trans (Touch.of_below (S := fun b => b = g ∧ 0 < n) hb1)
      clear hb1 hR0 hF0 hP0 hT0 hM0
      obtain ⟨⟨u0, hu0⟩, hf0⟩ := hR0a (i * 2) (by omega)
      have hR1 : Room (w1.setCell ⟨g, i * 2, none⟩ (.string (mtB (c)))) g (n * 2) := hR0a.set _ _
      have hF1 : Filled (w1.setCell ⟨g, i * 2, none⟩ (.string (mtB (c)))) g 2 i (mksLink k n) := by simpa using hF0a.store hlen 0 (.string (mtB (c)))
      have hP1 : Part (w1.setCell ⟨g, i * 2, none⟩ (.string (mtB (c)))) g (i * 2) [.string (mtB (c))] := by simpa using hP0a.store hR0a (n := 0) rfl (by omega) (.string (mtB (c)))
      have hT1 : Touch (fun b => b = g ∧ 0 < n) w (w1.setCell ⟨g, i * 2, none⟩ (.string (mtB (c)))) := hT0a.set ⟨rfl, by omega⟩ _
      have hM1 := fun w => laws_markText (c + 1) w (by omega) (by omega)
      rw [show ((c + 1 : Nat) : Int) = (c : Int) + 1 by omega] at hM1
      go_wp2_with fail
      refine (hM1 _).mono ?_
      rintro e w2 ⟨rfl, hb2⟩
      have hR1a := hR1.below hb2
      have hF1a := hF1.below hb2
      have hP1a := hP1.below hb2
      have hT1a := hT1.trans (Touch.of_below (S := fun b => b = g ∧ 0 < n) hb2)
      clear hb2 hR1 hF1 hP1 hT1 hM1
      obtain ⟨⟨u1, hu1⟩, hf1⟩ := hR1a (i * 2 + 1) (by omega)
      have hR2 : Room (w2.setCell ⟨g, i * 2 + 1, none⟩ (.string (mtB (c + 1)))) g (n * 2) := hR1a.set _ _
      have hF2 : Filled (w2.setCell ⟨g, i * 2 + 1, none⟩ (.string (mtB (c + 1)))) g 2 i (mksLink k n) := by simpa using hF1a.store hlen 1 (.string (mtB (c + 1)))
      have hP2 : Part (w2.setCell ⟨g, i * 2 + 1, none⟩ (.string (mtB (c + 1)))) g (i * 2) [.string (mtB (c)), .string (mtB (c + 1))] := by simpa using hP1a.store hR1a (n := 1) rfl (by omega) (.string (mtB (c + 1)))
      have hT2 : Touch (fun b => b = g ∧ 0 < n) w (w2.setCell ⟨g, i * 2 + 1, none⟩ (.string (mtB (c + 1)))) := hT1a.set ⟨rfl, by omega⟩ _
      have hF : Filled _ g 2 (i + 1) (mksLink k n) := hF2.step hP2 (by rw [hrow]; simp [mkLink])
      clear hF2 hP2
      go_wp2
      go_roundw
      case rel => exact ⟨i + 1, by omega, by go_num, by rw [HK.out]; go_num, hR2, hF, hT2⟩
      case measure => simp [intOf]; omega
    · have e : i = n := by omega
      subst e
      go_wp2
      go_ret
      exact ⟨rfl, Filled.seq (by unfold mksLink; rw [List.length_map, List.length_range]; exact hF0), hR0, hT0⟩
end Go.Proofs.YtbbhpfobcelbfaaGreatDoor
namespace Go.Proofs.YtbbhpfobcelbfaaGreatDoor
open Go.RowKit Go.Sort

/-- how many numbers the zones take. -/
def zc (l : List ZoneD) : Nat := (l.map fun z => 1 + 6 * z.eras.length).sum
theorem zc_take {l : List ZoneD} {k : Nat} {r : ZoneD} (h : l[k]? = some r) : zc (l.take (k + 1)) = zc (l.take k) + (1 + 6 * r.eras.length) := by
  unfold zc
  rw [List.take_add_one, h]
  simp
theorem zc_le (l : List ZoneD) (k : Nat) : zc (l.take k) ≤ zc l := by
  have := congrArg (fun l => (l.map fun z : ZoneD => 1 + 6 * z.eras.length).sum) (List.take_append_drop k l)
  simp only [List.map_append, List.sum_append] at this
  unfold zc
  omega
theorem zc_sz (l : List ZoneD) : zc l ≤ 7 * (l.length + zsz l) := by
  unfold zc zsz
  induction l with
  | nil => simp
  | cons z l ih =>
    simp only [List.map_cons, List.sum_cons, List.length_cons]
    have : z.eras.length ≤ z.sz := by unfold ZoneD.sz; omega
    omega
/-- zones whose lists of eras may be written, ahead of a block. -/
def ZRoom (w : World) (g U : Nat) (zs : List ZoneD) : Prop := ∀ i z, zs[i]? = some z → ∃ q, g < q ∧ (0 < z.eras.length → q < U) ∧ w.cell? ⟨g, i * 2 + 1, none⟩ = some (.slice (some ⟨q, 0, none⟩) z.eras.length z.eras.length) ∧ Room w q (z.eras.length * 6)
theorem ZRoom.below {w w' : World} {g U : Nat} {zs : List ZoneD} (h : ZRoom w g U zs) (hb : Below w.heap.size w w') : ZRoom w' g U zs := fun i z hz => by
  obtain ⟨q, hq, hu, c1, hr⟩ := h i z hz
  exact ⟨q, hq, hu, by rw [(bcell hb).1 _ _ (World.block_lt_of_cell? _ _ c1)]; exact c1, hr.below hb⟩
theorem ZRoom.store {w : World} {g U : Nat} {zs : List ZoneD} (h : ZRoom w g U zs) (k : Nat) (v : Value) : ZRoom (w.setCell ⟨g, k * 2, none⟩ v) g U zs := fun i z hz => by
  obtain ⟨q, hq, hu, c1, hr⟩ := h i z hz
  refine ⟨q, hq, hu, ?_, hr.set _ _⟩
  rw [World.cell?_setCell_other]
  · exact c1
  · intro e; injection e with _ e2; omega
theorem ZRoom.touch {S : Nat → Prop} {w w' : World} {g U : Nat} {zs : List ZoneD} (h : ZRoom w g U zs) (ht : Touch S w w') (hq : ¬ S g) : ZRoom w' g U zs := fun i z hz => by
  obtain ⟨q', hq', hu, c1, hr⟩ := h i z hz
  exact ⟨q', hq', hu, ht.cell hq c1, ht.room _ _ hr⟩
theorem Room.lt {w : World} {g m : Nat} (h : Room w g m) (hm : 0 < m) : g < w.heap.size := by
  obtain ⟨⟨v, hv⟩, _⟩ := h 0 hm
  exact World.block_lt_of_cell? _ _ hv
set_option maxRecDepth 20000 in
set_option maxHeartbeats 4000000 in
theorem laws_markZoneS (zs : List ZoneD) (g cap k B U : Nat) (w : World) (hR0 : Room w g (zs.length * 2)) (hZ0 : ZRoom w g U zs) (hB : B ≤ g) (hU : 0 < zs.length → g < U) (h0 : 0 < k) (h1 : k + zc zs < 900000000) (hn : zs.length ≤ 1048576) :
    Calls Tryz.prog 62 #[.slice (some ⟨g, 0, none⟩) zs.length cap, .int .i64 k] w fun e w' => e = .returned (.int .i64 ((k + zc zs : Nat) : Int)) ∧ Touch (fun b => B ≤ b ∧ b < U) w w' := by
  go_enter Tryz.func62, Tryz.ntmps62
  go_wp2
  go_loopw [1, 5] (fun s t wr => ∃ i : Nat, i ≤ zs.length ∧ t = .int .i64 i ∧ s = .int .i64 ((k + zc (zs.take i) : Nat) : Int) ∧ Room wr g (zs.length * 2) ∧ ZRoom wr g U zs ∧ Touch (fun b => B ≤ b ∧ b < U) w wr) (fun _ t _ => zs.length - (intOf t).toNat)
  case atStart => exact ⟨0, by omega, rfl, by simp [zc], hR0, hZ0, Touch.refl _ _⟩
  case round =>
    clear hR0 hZ0
    obtain ⟨i, hi, rfl, rfl, hR0, hZ0, hT0⟩ := hrel
    by_cases hlt : i < zs.length
    · obtain ⟨z, hz⟩ : ∃ z, zs[i]? = some z := ⟨_, List.getElem?_eq_getElem hlt⟩
      have hgU := hU (by omega)
      have ht := zc_take hz
      have hle := zc_le zs (i + 1)
      have HK : Hid (k + zc (zs.take (i + 1)) = (k + zc (zs.take i)) + 1 + 6 * z.eras.length) := by simp only [Hid]; omega
      have hc0 : 0 < k + zc (zs.take i) := by omega
      have hc1 : k + zc (zs.take i) + 1 + 6 * z.eras.length < 900000000 := by omega
      generalize k + zc (zs.take i) = c at *
      clear ht hle
      have hM := fun w => laws_markText c w hc0 (by omega)
      go_wp2_with fail
      refine (hM _).mono ?_
      rintro e w1 ⟨rfl, hb1⟩
      have hR1 := hR0.below hb1
      have hZ1 := hZ0.below hb1
      have hT1 := hT0.trans (Touch.of_below (S := fun b => B ≤ b ∧ b < U) hb1)
      obtain ⟨⟨u0, hu0⟩, hf0⟩ := hR1 (i * 2) (by omega)
      have hR2 : Room (w1.setCell ⟨g, i * 2, none⟩ (.string (mtB c))) g (zs.length * 2) := hR1.set _ _
      have hZ2 : ZRoom (w1.setCell ⟨g, i * 2, none⟩ (.string (mtB c))) g U zs := hZ1.store i _
      have hT2 : Touch (fun b => B ≤ b ∧ b < U) w (w1.setCell ⟨g, i * 2, none⟩ (.string (mtB c))) := hT1.set ⟨hB, hgU⟩ _
      clear hM hb1 hR0 hZ0 hT0 hR1 hZ1 hT1
      obtain ⟨q, hq, hqu, c1, hr⟩ := hZ2 i z hz
      have hE := laws_markEraS z.eras.length q z.eras.length (c + 1) (w1.setCell ⟨g, i * 2, none⟩ (.string (mtB c))) hr (by omega) (by omega)
      rw [show ((c + 1 : Nat) : Int) = (c : Int) + 1 by omega] at hE
      go_wp2_with fail
      refine hE.mono ?_
      rintro e w3 ⟨rfl, _, _, ht3⟩
      have hR3 := ht3.room _ _ hR2
      have hZ3 := hZ2.touch ht3 (fun h => by have : g = q := h.1; omega)
      have hT3 := hT2.trans (ht3.mono fun b _ hb => show B ≤ b ∧ b < U from by
        have e1 : b = q := hb.1
        have e2 := hqu hb.2
        omega)
      go_wp2
      go_roundw
      case rel => exact ⟨i + 1, by omega, by go_num, by rw [HK.out]; go_num, hR3, hZ3, hT3⟩
      case measure => simp [intOf]; omega
    · have e : i = zs.length := by omega
      subst e
      have HR : Hid (zc (zs.take zs.length) = zc zs) := by simp only [Hid]; rw [List.take_length]
      rw [HR.out]
      go_wp2
      go_ret
      exact ⟨rfl, hT0⟩
/-- a release of one's own memory, between two blocks. -/
structure OwnRelU (w : World) (B U : Nat) (v : Value) (r : RelD) : Prop where
  form : ∃ a b c, v = .agg #[.slice (some ⟨a, 0, none⟩) r.rules.length r.rules.length, .slice (some ⟨b, 0, none⟩) r.zones.length r.zones.length, .slice (some ⟨c, 0, none⟩) r.links.length r.links.length] ∧
    (B ≤ a ∧ B ≤ b ∧ B ≤ c) ∧ ((0 < r.rules.length → a < U) ∧ (0 < r.zones.length → b < U) ∧ (0 < r.links.length → c < U)) ∧ (0 < r.rules.length → 0 < r.zones.length → a ≠ b) ∧ Room w a (r.rules.length * 9) ∧ Room w b (r.zones.length * 2) ∧ ZRoom w b U r.zones ∧ Room w c (r.links.length * 2)
theorem OwnRel.upto {w w' : World} {B : Nat} {v : Value} {r : RelD} (h : OwnRel w B v r) (hb : Below w.heap.size w w') : OwnRelU w' B w.heap.size v r := by
  obtain ⟨a, b, c, hv, hB, ⟨hSa, hRa⟩, ⟨hZ, hRb⟩, ⟨_, hRc⟩⟩ := h.form
  have hab : 0 < r.rules.length → 0 < r.zones.length → a ≠ b := fun h1 h2 e => by
    subst e
    obtain ⟨x, hx⟩ : ∃ x, r.rules[0]? = some x := ⟨_, List.getElem?_eq_getElem h1⟩
    obtain ⟨z, hz⟩ : ∃ z, r.zones[0]? = some z := ⟨_, List.getElem?_eq_getElem h2⟩
    obtain ⟨b', o', he, hc⟩ := hSa.at (i := 0) (r := x.cs) (by rw [List.getElem?_map, hx]; rfl)
    injection he with he
    injection he with e1 e2
    subst e1 e2
    have p1 := hc 1 _ rfl
    obtain ⟨_, q, _, p2, _, _⟩ := hZ 0 z h2 hz
    rw [show 0 + 0 * 9 + 1 = 0 * 2 + 1 by omega, p2] at p1
    cases p1
  refine ⟨a, b, c, hv, hB, ⟨fun h => hRa.lt (by omega), fun h => hRb.lt (by omega), fun h => hRc.lt (by omega)⟩, hab, hRa.below hb, hRb.below hb, ZRoom.below (fun i z hz => ?_) hb, hRc.below hb⟩
  obtain ⟨_, q, hq, c1, _, hr⟩ := hZ i z (List.getElem?_eq_some_iff.mp hz).1 hz
  exact ⟨q, hq, fun h => hr.lt (by omega), c1, hr⟩
set_option maxRecDepth 20000 in
set_option maxHeartbeats 2000000 in
theorem laws_markRelease (r : RelD) (v : Value) (B U : Nat) (w : World) (hv : OwnRelU w B U v r) (hU : U ≤ w.heap.size) (hsz : r.sz ≤ 1048576) :
    Calls Tryz.prog 24 #[v, .int .i64 1] w fun e w' => (∃ K : Nat, e = .returned (.int .i64 (K : Int))) ∧ Touch (fun b => B ≤ b ∧ b < U) w w' := by
  obtain ⟨a, b, c, rfl, ⟨ha, hb, hc⟩, ⟨ua, ub, uc⟩, hab, hRa, hRb, hZ, hRc⟩ := hv.form
  have hzs := zc_sz r.zones
  unfold RelD.sz at hsz
  have h1 := fun w (h : Room w a (r.rules.length * 9)) => laws_markRuleS r.rules.length a r.rules.length 1 w h (by omega) (by omega)
  have h2 := fun w (h : Room w b (r.zones.length * 2)) (h2 : ZRoom w b U r.zones) => laws_markZoneS r.zones b r.zones.length (1 + 9 * r.rules.length) B U w h h2 hb ub (by omega) (by omega) (by omega)
  have h3 := fun w (h : Room w c (r.links.length * 2)) => laws_markLinkS r.links.length c r.links.length (1 + 9 * r.rules.length + zc r.zones) w h (by omega) (by omega)
  have hB0 := (Below.refl w.heap.size w).alloc (Nat.le_refl _) (.cells #[.slice (some ⟨a, 0, none⟩) r.rules.length r.rules.length, .slice (some ⟨b, 0, none⟩) r.zones.length r.zones.length, .slice (some ⟨c, 0, none⟩) r.links.length r.links.length] 27)
  have x1 : (w.alloc (.cells #[.slice (some ⟨a, 0, none⟩) r.rules.length r.rules.length, .slice (some ⟨b, 0, none⟩) r.zones.length r.zones.length, .slice (some ⟨c, 0, none⟩) r.links.length r.links.length] 27)).cell? ⟨w.heap.size, 1, none⟩ = some (.slice (some ⟨b, 0, none⟩) r.zones.length r.zones.length) := by simp [go_sem]
  have x2 : (w.alloc (.cells #[.slice (some ⟨a, 0, none⟩) r.rules.length r.rules.length, .slice (some ⟨b, 0, none⟩) r.zones.length r.zones.length, .slice (some ⟨c, 0, none⟩) r.links.length r.links.length] 27)).cell? ⟨w.heap.size, 2, none⟩ = some (.slice (some ⟨c, 0, none⟩) r.links.length r.links.length) := by simp [go_sem]
  have hT0 : Touch (fun b => B ≤ b ∧ b < U) w (w.alloc (.cells #[.slice (some ⟨a, 0, none⟩) r.rules.length r.rules.length, .slice (some ⟨b, 0, none⟩) r.zones.length r.zones.length, .slice (some ⟨c, 0, none⟩) r.links.length r.links.length] 27)) := Touch.of_below hB0
  have hne : ¬ (B ≤ w.heap.size ∧ w.heap.size < U) := by omega
  generalize hk1 : 1 + 9 * r.rules.length = k1 at *
  go_enter Tryz.func24, Tryz.ntmps24
  go_wp2_with fail
  refine (h1 _ (hRa.below hB0)).mono ?_
  rintro e w1 ⟨rfl, _, _, t1⟩
  have t1' := t1.mono (S2 := fun b => B ≤ b ∧ b < U) fun x _ hx => by have e1 : x = a := hx.1; have e2 := ua hx.2; show B ≤ x ∧ x < U; omega
  have hT1 := hT0.trans t1'
  have y1 := t1'.cell hne x1
  have y2 := t1'.cell hne x2
  go_wp2_with fail
  refine (h2 _ (hT1.room _ _ hRb) ?_).mono ?_
  · intro i z hz
    have hl := (List.getElem?_eq_some_iff.mp hz).1
    exact (hZ.below hB0).touch t1 (fun h => hab h.2 (by omega) h.1.symm) i z hz
  rintro e w2 ⟨rfl, t2⟩
  have hT2 := hT1.trans t2
  have z2 := t2.cell hne y2
  go_wp2_with fail
  refine (h3 _ (hT2.room _ _ hRc)).mono ?_
  rintro e w3 ⟨rfl, _, _, t3⟩
  have t3' := t3.mono (S2 := fun b => B ≤ b ∧ b < U) fun x _ hx => by have e1 : x = c := hx.1; have e2 := uc hx.2; show B ≤ x ∧ x < U; omega
  go_wp2
  go_ret
  exact ⟨⟨_, rfl⟩, hT2.trans t3'⟩
end Go.Proofs.YtbbhpfobcelbfaaGreatDoor
