/- Packed: Mark0 Touch MarkLink MarkEra MarkRule MarkRel Zone1 Zone2 Zone3 Zone4 Zone5 Zone6. -/
import Derived.Test.YtjdokmllidhapaaGreatDoorBasic
import Derived.Laws.IdiomStrings
import Derived.Test.YtjdokmllidhapaaGreatDoorRel2
import Derived.Sort.Row
import Derived.Lib.QuietBelow
import Derived.Test.YtjdokmllidhapaaGreatDoorRelRel2
import Derived.Test.YtjdokmllidhapaaGreatDoorRight21
import Derived.Lib.SliceRun
import Derived.Deep.RegionHeld3
namespace Go.Proofs.YtjdokmllidhapaaGreatDoor
open Go.RowKit

def mtF : Nat → Nat → List UInt8 → List UInt8
 | 0, _, c => c
 | f + 1, k, c => if k = 0 then c else mtF f (k / 10) (UInt8.ofNat (48 + k % 10) :: c)
theorem mtF_any : ∀ {f g k : Nat} {c : List UInt8}, k ≤ f → k ≤ g → mtF f k c = mtF g k c
 | 0, 0, _, _, _, _ => rfl
 | 0, g + 1, k, c, h, _ => by rw [mtF, mtF, if_pos (by omega)]
 | f + 1, 0, k, c, _, h => by rw [mtF, mtF, if_pos (by omega)]
 | f + 1, g + 1, k, c, h, h2 => by
  rw [mtF, mtF]
  split
  · rfl
  · exact mtF_any (by omega) (by omega)
def mtGo (k : Nat) (acc : List UInt8) : List UInt8 := mtF k k acc
theorem mtGo_zero (acc : List UInt8) : mtGo 0 acc = acc := rfl
theorem mtGo_pos {k : Nat} (h : 0 < k) (acc : List UInt8) : mtGo k acc = mtGo (k / 10) (UInt8.ofNat (48 + k % 10) :: acc) := by
 obtain ⟨f, rfl⟩ : ∃ f, k = f + 1 := ⟨k - 1, by omega⟩
 rw [mtGo, mtF, if_neg (by omega)]; exact mtF_any (by omega) (by omega)
theorem ret_strM {a b : ByteArray} (h : a = b) : Ending.returned (.string a) = .returned (.string b) := by rw [h]
/-- the text of a number. -/
def mtB (k : Nat) : ByteArray := ⟨(109 :: mtGo k []).toArray⟩
set_option maxRecDepth 20000 in
set_option maxHeartbeats 1000000 in
theorem laws_markText (k : Nat) (w : World) (h0 : 0 < k) (h1 : k < 1000000000) :
    Calls Tryz.prog 97 #[.int .i64 k] w fun e w' => e = .returned (.string (mtB k)) ∧ Below w.heap.size w w' := by
  go_enter Tryz.func97, Tryz.ntmps97
  go_wp2
  go_loopw [0, 3] (fun s o wr => ∃ (m : Nat) (l : List UInt8), s = .int .i64 m ∧ o = .string ⟨l.toArray⟩ ∧ l.length ≤ 9 ∧ m < 10 ^ (9 - l.length) ∧ Hid (mtGo m l = mtGo k []) ∧ Below w.heap.size w wr) (fun s _ _ => (intOf s).toNat)
  case atStart => exact ⟨k, [], rfl, rfl, by simp, by simpa using h1, rfl, Below.refl _ _⟩
  case round =>
    obtain ⟨m, l, rfl, rfl, hl, hm, HG, hB⟩ := hrel
    by_cases hpos : 0 < m
    · have hl9 : l.length < 9 := by
        rcases Nat.lt_or_ge l.length 9 with h | h
        · exact h
        · have e : 9 - l.length = 0 := by omega
          rw [e] at hm; omega
      have HL : Hid (m / 10 < 10 ^ (9 - (l.length + 1))) := by
        simp only [Hid]
        rw [show 9 - l.length = (9 - (l.length + 1)) + 1 by omega, Nat.pow_succ] at hm
        omega
      have HR : Hid (mtGo (m / 10) (UInt8.ofNat (48 + m % 10) :: l) = mtGo k []) := by simp only [Hid]; rw [← mtGo_pos hpos]; exact HG.out
      have hm2 : (m : Int) ≤ 1000000000 := by
        have := Nat.pow_le_pow_right (show 0 < 10 by omega) (show 9 - l.length ≤ 9 by omega)
        have h9 : 10 ^ 9 = 1000000000 := by decide
        omega
      clear hm
      have hu : (UInt8.ofNat (48 + m % 10)).toNat = 48 + m % 10 := UInt8.toNat_ofNat_of_lt' (by have : UInt8.size = 256 := rfl; omega)
      have kc : (convert 22 9 (.slice (some ⟨wr.heap.size, 0, none⟩) 1 1)).run Tryz.prog (wr.alloc (.cells #[.int .u8 (48 + (m : Int) % 10)] 5)) = .ok (.string ⟨#[UInt8.ofNat (48 + m % 10)]⟩) (wr.alloc (.cells #[.int .u8 (48 + (m : Int) % 10)] 5)) :=
        run_convert_bytes_back _ 22 9 5 ⟨wr.heap.size, 0, none⟩ 1 [UInt8.ofNat (48 + m % 10)] Tryz.underlying22 Tryz.underlying5 Tryz.underlying9 (fun j hj => by
          have e : j = 0 := by simpa using hj
          subst e
          simp only [List.getElem_cons_zero, hu]
          simp [go_sem])
      have HC : Hid (∀ b : UInt8, ({ data := #[b] } : ByteArray) ++ ⟨l.toArray⟩ = ⟨(b :: l).toArray⟩) := fun b => by apply ByteArray.ext; simp
      generalize UInt8.ofNat (48 + m % 10) = c at *
      clear hu
      go_wp2
      go_roundw
      case rel => exact ⟨m / 10, c :: l, by go_num, by rw [HC.out], by simp; omega, by simpa using HL.out, HR, hB.alloc hB.size _⟩
      case measure => simp [intOf]; omega
    · have e : m = 0 := by omega
      subst e
      have HR : Hid (({ data := #[109] } : ByteArray) ++ ⟨l.toArray⟩ = mtB k) := by
        simp only [Hid]
        have := HG.out
        rw [mtGo_zero] at this
        subst this
        unfold mtB
        apply ByteArray.ext
        simp
      clear HG
      go_wp2
      go_ret
      exact ⟨ret_strM HR.out, hB⟩
end Go.Proofs.YtjdokmllidhapaaGreatDoor
namespace Go.Proofs.YtjdokmllidhapaaGreatDoor
open Go.RowKit

/-- of what was there only the blocks of S have turned. -/
structure Touch (S : Nat → Prop) (w w' : World) : Prop where
  os : w'.os = w.os
  tape : w'.tape = w.tape
  output : w'.output = w.output
  size : w.heap.size ≤ w'.heap.size
  block : ∀ b, b < w.heap.size → ¬ S b → w'.heap[b]? = w.heap[b]?
  room : ∀ g m, Room w g m → Room w' g m
theorem Touch.refl (S : Nat → Prop) (w : World) : Touch S w w := ⟨rfl, rfl, rfl, Nat.le_refl _, fun _ _ _ => rfl, fun _ _ h => h⟩
theorem Touch.trans {S : Nat → Prop} {w w1 w2 : World} (h : Touch S w w1) (h2 : Touch S w1 w2) : Touch S w w2 :=
  ⟨h2.os.trans h.os, h2.tape.trans h.tape, h2.output.trans h.output, Nat.le_trans h.size h2.size, fun b hb hs => (h2.block b (Nat.lt_of_lt_of_le hb h.size) hs).trans (h.block b hb hs), fun g m hr => h2.room g m (h.room g m hr)⟩
theorem Touch.mono {S S2 : Nat → Prop} {w w' : World} (h : Touch S w w') (hs : ∀ b, b < w.heap.size → S b → S2 b) : Touch S2 w w' :=
  ⟨h.os, h.tape, h.output, h.size, fun b hb hn => h.block b hb fun hx => hn (hs b hb hx), h.room⟩
theorem Touch.of_below {S : Nat → Prop} {w w' : World} (h : Below w.heap.size w w') : Touch S w w' := ⟨h.os, h.tape, h.output, h.size, fun b hb _ => h.block b hb, fun _ _ hr => hr.below h⟩
theorem Touch.set {S : Nat → Prop} {w w' : World} (h : Touch S w w') {g o : Nat} (hg : S g) (v : Value) : Touch S w (w'.setCell ⟨g, o, none⟩ v) := by
  refine ⟨h.os, h.tape, h.output, by simpa using h.size, fun b hb hn => ?_, fun _ _ hr => (h.room _ _ hr).set _ _⟩
  rw [← h.block b hb hn, Go.Sort.setCell_eq]
  have hne : g ≠ b := fun e => hn (e ▸ hg)
  simp [Go.Sort.mapBlock, Array.getElem?_modify, hne]
theorem Touch.below {S : Nat → Prop} {w0 w w' : World} {B : Nat} (h : Touch S w w') (hS : ∀ b, S b → B ≤ b) (hB : B ≤ w.heap.size) (hb : Below B w0 w) : Below B w0 w' :=
  ⟨h.os.trans hb.os, h.tape.trans hb.tape, h.output.trans hb.output, Nat.le_trans hb.size h.size, fun k hk => (h.block k (Nat.lt_of_lt_of_le hk hB) fun hs => by have := hS k hs; omega).trans (hb.block k hk)⟩
theorem Touch.cell {S : Nat → Prop} {w w' : World} (h : Touch S w w') {b o : Nat} {v : Value} (hs : ¬ S b) (hc : w.cell? ⟨b, o, none⟩ = some v) : w'.cell? ⟨b, o, none⟩ = some v := by
  rw [World.cell?_of_block (h.block b (World.block_lt_of_cell? _ _ hc) hs)]; exact hc
theorem Touch.frozen {S : Nat → Prop} {w w' : World} (h : Touch S w w') {b o : Nat} (hb : b < w.heap.size) (hs : ¬ S b) : w'.frozen? ⟨b, o, none⟩ = w.frozen? ⟨b, o, none⟩ := World.frozen?_of_block (h.block b hb hs)
theorem SeqAt.touch {S : Nat → Prop} {w w' : World} {g o k : Nat} {rows : List (List Value)} (h : SeqAt w (some ⟨g, o, none⟩) k rows) (ht : Touch S w w') (hs : ¬ S g) : SeqAt w' (some ⟨g, o, none⟩) k rows := by
  rcases h with h | ⟨b, o', ha, hc⟩
  · exact .inl h
  · injection ha with ha
    injection ha with h1 h2
    subst h1 h2
    exact .inr ⟨_, _, rfl, fun i j r c hi hj => ht.cell hs (hc i j r c hi hj)⟩
theorem Room.touch {S : Nat → Prop} {w w' : World} {g m : Nat} (h : Room w g m) (ht : Touch S w w') (hs : ¬ S g) : Room w' g m := fun x hx => by
  obtain ⟨⟨v, hv⟩, hf⟩ := h x hx
  exact ⟨⟨v, ht.cell hs hv⟩, (ht.frozen (World.block_lt_of_cell? _ _ hv) hs).trans hf⟩
/-- cells one behind the other. -/
def Part (w : World) (g o : Nat) (vals : List Value) : Prop := ∀ j v, vals[j]? = some v → w.cell? ⟨g, o + j, none⟩ = some v
theorem Part.nil (w : World) (g o : Nat) : Part w g o [] := fun j v h => by simp at h
theorem Part.below {w w' : World} {g o : Nat} {vals : List Value} (h : Part w g o vals) (hb : Below w.heap.size w w') : Part w' g o vals := fun j v hj => by
  have := h j v hj
  rw [(bcell hb).1 _ _ (World.block_lt_of_cell? _ _ this)]; exact this
theorem Part.store {w : World} {g o m : Nat} {vals : List Value} (h : Part w g o vals) (hR : Room w g m) {n : Nat} (hn : vals.length = n) (hm : o + n < m) (v : Value) : Part (w.setCell ⟨g, o + n, none⟩ v) g o (vals ++ [v]) := fun j u hj => by
  rcases Nat.lt_or_ge j vals.length with hl | hl
  · rw [List.getElem?_append_left hl] at hj
    rw [World.cell?_setCell_other]
    · exact h j u hj
    · intro e; injection e with _ e2; omega
  · rw [List.getElem?_append_right hl] at hj
    have e : j = vals.length := by
      rcases Nat.eq_or_lt_of_le hl with e | e
      · exact e.symm
      · rw [List.getElem?_eq_none (by simp; omega)] at hj; cases hj
    subst e
    simp at hj
    subst hj hn
    obtain ⟨⟨u, hu⟩, _⟩ := hR (o + vals.length) hm
    exact World.cell?_setCell_same _ _ _ hu
theorem Filled.store {w : World} {g q k : Nat} {rows : List (List Value)} (h : Filled w g q k rows) (hlen : ∀ r ∈ rows, r.length = q) (j : Nat) (v : Value) : Filled (w.setCell ⟨g, k * q + j, none⟩ v) g q k rows := fun i l r c hi hr hc => by
  have hl : l < q := by
    have := hlen r (List.mem_of_getElem? hr)
    have := (List.getElem?_eq_some_iff.mp hc).1
    omega
  have hik : i * q + q ≤ k * q := by
    have : (i + 1) * q ≤ k * q := Nat.mul_le_mul_right q (by omega)
    rw [Nat.add_mul] at this; omega
  rw [World.cell?_setCell_other]
  · exact h i l r c hi hr hc
  · intro e; injection e with _ e2; omega
theorem Filled.step {w : World} {g q k : Nat} {rows : List (List Value)} {row : List Value} (h : Filled w g q k rows) (hp : Part w g (k * q) row) (hr : rows[k]? = some row) : Filled w g q (k + 1) rows := fun i l r c hi hr' hc => by
  by_cases e : i = k
  · subst e
    rw [hr] at hr'
    obtain rfl := Option.some.inj hr'
    exact hp l c hc
  · exact h i l r c (by omega) hr' hc
end Go.Proofs.YtjdokmllidhapaaGreatDoor
namespace Go.Proofs.YtjdokmllidhapaaGreatDoor
open Go.RowKit Go.Sort

def mkLink (c : Nat) : List Value := [.string (mtB (c)), .string (mtB (c + 1))]
def mksLink (c n : Nat) : List (List Value) := (List.range n).map fun i => mkLink (c + 2 * i)
theorem mksLink_at {c n i : Nat} (h : i < n) : (mksLink c n)[i]? = some (mkLink (c + 2 * i)) := by unfold mksLink; rw [List.getElem?_map, List.getElem?_range h]; rfl
theorem mksLink_len {c n : Nat} : ∀ r ∈ mksLink c n, r.length = 2 := fun r hr => by
  unfold mksLink at hr
  obtain ⟨i, _, rfl⟩ := List.mem_map.mp hr
  rfl
set_option maxRecDepth 20000 in
set_option maxHeartbeats 4000000 in
theorem laws_markLinkS (n g cap k : Nat) (w : World) (hR0 : Room w g (n * 2)) (h0 : 0 < k) (h1 : k + 2 * n < 1000000000) :
    Calls Tryz.prog 93 #[.slice (some ⟨g, 0, none⟩) n cap, .int .i64 k] w fun e w' => e = .returned (.int .i64 ((k + 2 * n : Nat) : Int)) ∧ SeqAt w' (some ⟨g, 0, none⟩) 2 (mksLink k n) ∧ Room w' g (n * 2) ∧ Touch (fun b => b = g ∧ 0 < n) w w' := by
  have hlen := @mksLink_len k n
  go_enter Tryz.func93, Tryz.ntmps93
  go_wp2
  go_loopw [1, 5] (fun s t wr => ∃ i : Nat, i ≤ n ∧ t = .int .i64 i ∧ s = .int .i64 ((k + 2 * i : Nat) : Int) ∧ Room wr g (n * 2) ∧ Filled wr g 2 i (mksLink k n) ∧ Touch (fun b => b = g ∧ 0 < n) w wr) (fun _ t _ => n - (intOf t).toNat)
  case atStart => exact ⟨0, by omega, rfl, rfl, hR0, fun i j r c h => by omega, Touch.refl _ _⟩
  case round =>
    clear hR0
    obtain ⟨i, hi, rfl, rfl, hR0, hF0, hT0⟩ := hrel
    by_cases hlt : i < n
    · have hrow := mksLink_at (c := k) hlt
      have HK : Hid (k + 2 * (i + 1) = (k + 2 * i) + 2) := by simp only [Hid]; omega
      have hc0 : 0 < k + 2 * i := by omega
      have hc1 : k + 2 * i + 2 < 1000000000 := by omega
      generalize k + 2 * i = c at *
      have hP0 : Part wr g (i * 2) [] := Part.nil _ _ _
      have hM0 := fun w => laws_markText (c) w (by omega) (by omega)
      go_wp2_with fail
      refine (hM0 _).mono ?_
      rintro e w1 ⟨rfl, hb1⟩
      have hR0a := hR0.below hb1
      have hF0a := hF0.below hb1
      have hP0a := hP0.below hb1
      have hT0a := hT0.trans (Touch.of_below (S := fun b => b = g ∧ 0 < n) hb1)
      clear hb1 hR0 hF0 hP0 hT0 hM0
      obtain ⟨⟨u0, hu0⟩, hf0⟩ := hR0a (i * 2) (by omega)
      have hR1 : Room (w1.setCell ⟨g, i * 2, none⟩ (.string (mtB (c)))) g (n * 2) := hR0a.set _ _
      have hF1 : Filled (w1.setCell ⟨g, i * 2, none⟩ (.string (mtB (c)))) g 2 i (mksLink k n) := by simpa using hF0a.store hlen 0 (.string (mtB (c)))
      have hP1 : Part (w1.setCell ⟨g, i * 2, none⟩ (.string (mtB (c)))) g (i * 2) [.string (mtB (c))] := by simpa using hP0a.store hR0a (n := 0) rfl (by omega) (.string (mtB (c)))
      have hT1 : Touch (fun b => b = g ∧ 0 < n) w (w1.setCell ⟨g, i * 2, none⟩ (.string (mtB (c)))) := hT0a.set ⟨rfl, by omega⟩ _
      have hM1 := fun w => laws_markText (c + 1) w (by omega) (by omega)
      rw [show ((c + 1 : Nat) : Int) = (c : Int) + 1 by omega] at hM1
      go_wp2_with fail
      refine (hM1 _).mono ?_
      rintro e w2 ⟨rfl, hb2⟩
      have hR1a := hR1.below hb2
      have hF1a := hF1.below hb2
      have hP1a := hP1.below hb2
      have hT1a := hT1.trans (Touch.of_below (S := fun b => b = g ∧ 0 < n) hb2)
      clear hb2 hR1 hF1 hP1 hT1 hM1
      obtain ⟨⟨u1, hu1⟩, hf1⟩ := hR1a (i * 2 + 1) (by omega)
      have hR2 : Room (w2.setCell ⟨g, i * 2 + 1, none⟩ (.string (mtB (c + 1)))) g (n * 2) := hR1a.set _ _
      have hF2 : Filled (w2.setCell ⟨g, i * 2 + 1, none⟩ (.string (mtB (c + 1)))) g 2 i (mksLink k n) := by simpa using hF1a.store hlen 1 (.string (mtB (c + 1)))
      have hP2 : Part (w2.setCell ⟨g, i * 2 + 1, none⟩ (.string (mtB (c + 1)))) g (i * 2) [.string (mtB (c)), .string (mtB (c + 1))] := by simpa using hP1a.store hR1a (n := 1) rfl (by omega) (.string (mtB (c + 1)))
      have hT2 : Touch (fun b => b = g ∧ 0 < n) w (w2.setCell ⟨g, i * 2 + 1, none⟩ (.string (mtB (c + 1)))) := hT1a.set ⟨rfl, by omega⟩ _
      have hF : Filled _ g 2 (i + 1) (mksLink k n) := hF2.step hP2 (by rw [hrow]; simp [mkLink])
      clear hF2 hP2
      go_wp2
      go_roundw
      case rel => exact ⟨i + 1, by omega, by go_num, by rw [HK.out]; go_num, hR2, hF, hT2⟩
      case measure => simp [intOf]; omega
    · have e : i = n := by omega
      subst e
      go_wp2
      go_ret
      exact ⟨rfl, Filled.seq (by unfold mksLink; rw [List.length_map, List.length_range]; exact hF0), hR0, hT0⟩
end Go.Proofs.YtjdokmllidhapaaGreatDoor
namespace Go.Proofs.YtjdokmllidhapaaGreatDoor
open Go.RowKit Go.Sort

def mkEra (c : Nat) : List Value := [.int .i64 (c : Nat), .string (mtB (c + 1)), .int .i64 (c + 2 : Nat), .string (mtB (c + 3)), .int .i64 (c + 4 : Nat), .string (mtB (c + 5))]
def mksEra (c n : Nat) : List (List Value) := (List.range n).map fun i => mkEra (c + 6 * i)
theorem mksEra_at {c n i : Nat} (h : i < n) : (mksEra c n)[i]? = some (mkEra (c + 6 * i)) := by unfold mksEra; rw [List.getElem?_map, List.getElem?_range h]; rfl
theorem mksEra_len {c n : Nat} : ∀ r ∈ mksEra c n, r.length = 6 := fun r hr => by
  unfold mksEra at hr
  obtain ⟨i, _, rfl⟩ := List.mem_map.mp hr
  rfl
set_option maxRecDepth 20000 in
set_option maxHeartbeats 4000000 in
theorem laws_markEraS (n g cap k : Nat) (w : World) (hR0 : Room w g (n * 6)) (h0 : 0 < k) (h1 : k + 6 * n < 1000000000) :
    Calls Tryz.prog 94 #[.slice (some ⟨g, 0, none⟩) n cap, .int .i64 k] w fun e w' => e = .returned (.int .i64 ((k + 6 * n : Nat) : Int)) ∧ SeqAt w' (some ⟨g, 0, none⟩) 6 (mksEra k n) ∧ Room w' g (n * 6) ∧ Touch (fun b => b = g ∧ 0 < n) w w' := by
  have hlen := @mksEra_len k n
  go_enter Tryz.func94, Tryz.ntmps94
  go_wp2
  go_loopw [1, 5] (fun s t wr => ∃ i : Nat, i ≤ n ∧ t = .int .i64 i ∧ s = .int .i64 ((k + 6 * i : Nat) : Int) ∧ Room wr g (n * 6) ∧ Filled wr g 6 i (mksEra k n) ∧ Touch (fun b => b = g ∧ 0 < n) w wr) (fun _ t _ => n - (intOf t).toNat)
  case atStart => exact ⟨0, by omega, rfl, rfl, hR0, fun i j r c h => by omega, Touch.refl _ _⟩
  case round =>
    clear hR0
    obtain ⟨i, hi, rfl, rfl, hR0, hF0, hT0⟩ := hrel
    by_cases hlt : i < n
    · have hrow := mksEra_at (c := k) hlt
      have HK : Hid (k + 6 * (i + 1) = (k + 6 * i) + 6) := by simp only [Hid]; omega
      have hc0 : 0 < k + 6 * i := by omega
      have hc1 : k + 6 * i + 6 < 1000000000 := by omega
      generalize k + 6 * i = c at *
      have hP0 : Part wr g (i * 6) [] := Part.nil _ _ _
      obtain ⟨⟨u0, hu0⟩, hf0⟩ := hR0 (i * 6) (by omega)
      have hR1 : Room (wr.setCell ⟨g, i * 6, none⟩ (.int .i64 (c : Int))) g (n * 6) := hR0.set _ _
      have hF1 : Filled (wr.setCell ⟨g, i * 6, none⟩ (.int .i64 (c : Int))) g 6 i (mksEra k n) := by simpa using hF0.store hlen 0 (.int .i64 (c : Int))
      have hP1 : Part (wr.setCell ⟨g, i * 6, none⟩ (.int .i64 (c : Int))) g (i * 6) [.int .i64 (c : Int)] := by simpa using hP0.store hR0 (n := 0) rfl (by omega) (.int .i64 (c : Int))
      have hT1 : Touch (fun b => b = g ∧ 0 < n) w (wr.setCell ⟨g, i * 6, none⟩ (.int .i64 (c : Int))) := hT0.set ⟨rfl, by omega⟩ _
      have hM1 := fun w => laws_markText (c + 1) w (by omega) (by omega)
      rw [show ((c + 1 : Nat) : Int) = (c : Int) + 1 by omega] at hM1
      go_wp2_with fail
      refine (hM1 _).mono ?_
      rintro e w1 ⟨rfl, hb1⟩
      have hR1a := hR1.below hb1
      have hF1a := hF1.below hb1
      have hP1a := hP1.below hb1
      have hT1a := hT1.trans (Touch.of_below (S := fun b => b = g ∧ 0 < n) hb1)
      clear hb1 hR1 hF1 hP1 hT1 hM1
      obtain ⟨⟨u1, hu1⟩, hf1⟩ := hR1a (i * 6 + 1) (by omega)
      have hR2 : Room (w1.setCell ⟨g, i * 6 + 1, none⟩ (.string (mtB (c + 1)))) g (n * 6) := hR1a.set _ _
      have hF2 : Filled (w1.setCell ⟨g, i * 6 + 1, none⟩ (.string (mtB (c + 1)))) g 6 i (mksEra k n) := by simpa using hF1a.store hlen 1 (.string (mtB (c + 1)))
      have hP2 : Part (w1.setCell ⟨g, i * 6 + 1, none⟩ (.string (mtB (c + 1)))) g (i * 6) [.int .i64 (c : Int), .string (mtB (c + 1))] := by simpa using hP1a.store hR1a (n := 1) rfl (by omega) (.string (mtB (c + 1)))
      have hT2 : Touch (fun b => b = g ∧ 0 < n) w (w1.setCell ⟨g, i * 6 + 1, none⟩ (.string (mtB (c + 1)))) := hT1a.set ⟨rfl, by omega⟩ _
      obtain ⟨⟨u2, hu2⟩, hf2⟩ := hR2 (i * 6 + 2) (by omega)
      have hR3 : Room ((w1.setCell ⟨g, i * 6 + 1, none⟩ (.string (mtB (c + 1)))).setCell ⟨g, i * 6 + 2, none⟩ (.int .i64 ((c : Int) + 1 + 1))) g (n * 6) := hR2.set _ _
      have hF3 : Filled ((w1.setCell ⟨g, i * 6 + 1, none⟩ (.string (mtB (c + 1)))).setCell ⟨g, i * 6 + 2, none⟩ (.int .i64 ((c : Int) + 1 + 1))) g 6 i (mksEra k n) := by simpa using hF2.store hlen 2 (.int .i64 ((c : Int) + 1 + 1))
      have hP3 : Part ((w1.setCell ⟨g, i * 6 + 1, none⟩ (.string (mtB (c + 1)))).setCell ⟨g, i * 6 + 2, none⟩ (.int .i64 ((c : Int) + 1 + 1))) g (i * 6) [.int .i64 (c : Int), .string (mtB (c + 1)), .int .i64 ((c : Int) + 1 + 1)] := by simpa using hP2.store hR2 (n := 2) rfl (by omega) (.int .i64 ((c : Int) + 1 + 1))
      have hT3 : Touch (fun b => b = g ∧ 0 < n) w ((w1.setCell ⟨g, i * 6 + 1, none⟩ (.string (mtB (c + 1)))).setCell ⟨g, i * 6 + 2, none⟩ (.int .i64 ((c : Int) + 1 + 1))) := hT2.set ⟨rfl, by omega⟩ _
      have hM3 := fun w => laws_markText (c + 3) w (by omega) (by omega)
      rw [show ((c + 3 : Nat) : Int) = (c : Int) + 1 + 1 + 1 by omega] at hM3
      go_wp2_with fail
      refine (hM3 _).mono ?_
      rintro e w2 ⟨rfl, hb2⟩
      have hR3a := hR3.below hb2
      have hF3a := hF3.below hb2
      have hP3a := hP3.below hb2
      have hT3a := hT3.trans (Touch.of_below (S := fun b => b = g ∧ 0 < n) hb2)
      clear hb2 hR3 hF3 hP3 hT3 hM3
      obtain ⟨⟨u3, hu3⟩, hf3⟩ := hR3a (i * 6 + 3) (by omega)
      have hR4 : Room (w2.setCell ⟨g, i * 6 + 3, none⟩ (.string (mtB (c + 3)))) g (n * 6) := hR3a.set _ _
      have hF4 : Filled (w2.setCell ⟨g, i * 6 + 3, none⟩ (.string (mtB (c + 3)))) g 6 i (mksEra k n) := by simpa using hF3a.store hlen 3 (.string (mtB (c + 3)))
      have hP4 : Part (w2.setCell ⟨g, i * 6 + 3, none⟩ (.string (mtB (c + 3)))) g (i * 6) [.int .i64 (c : Int), .string (mtB (c + 1)), .int .i64 ((c : Int) + 1 + 1), .string (mtB (c + 3))] := by simpa using hP3a.store hR3a (n := 3) rfl (by omega) (.string (mtB (c + 3)))
      have hT4 : Touch (fun b => b = g ∧ 0 < n) w (w2.setCell ⟨g, i * 6 + 3, none⟩ (.string (mtB (c + 3)))) := hT3a.set ⟨rfl, by omega⟩ _
      obtain ⟨⟨u4, hu4⟩, hf4⟩ := hR4 (i * 6 + 4) (by omega)
      have hR5 : Room ((w2.setCell ⟨g, i * 6 + 3, none⟩ (.string (mtB (c + 3)))).setCell ⟨g, i * 6 + 4, none⟩ (.int .i64 ((c : Int) + 1 + 1 + 1 + 1))) g (n * 6) := hR4.set _ _
      have hF5 : Filled ((w2.setCell ⟨g, i * 6 + 3, none⟩ (.string (mtB (c + 3)))).setCell ⟨g, i * 6 + 4, none⟩ (.int .i64 ((c : Int) + 1 + 1 + 1 + 1))) g 6 i (mksEra k n) := by simpa using hF4.store hlen 4 (.int .i64 ((c : Int) + 1 + 1 + 1 + 1))
      have hP5 : Part ((w2.setCell ⟨g, i * 6 + 3, none⟩ (.string (mtB (c + 3)))).setCell ⟨g, i * 6 + 4, none⟩ (.int .i64 ((c : Int) + 1 + 1 + 1 + 1))) g (i * 6) [.int .i64 (c : Int), .string (mtB (c + 1)), .int .i64 ((c : Int) + 1 + 1), .string (mtB (c + 3)), .int .i64 ((c : Int) + 1 + 1 + 1 + 1)] := by simpa using hP4.store hR4 (n := 4) rfl (by omega) (.int .i64 ((c : Int) + 1 + 1 + 1 + 1))
      have hT5 : Touch (fun b => b = g ∧ 0 < n) w ((w2.setCell ⟨g, i * 6 + 3, none⟩ (.string (mtB (c + 3)))).setCell ⟨g, i * 6 + 4, none⟩ (.int .i64 ((c : Int) + 1 + 1 + 1 + 1))) := hT4.set ⟨rfl, by omega⟩ _
      have hM5 := fun w => laws_markText (c + 5) w (by omega) (by omega)
      rw [show ((c + 5 : Nat) : Int) = (c : Int) + 1 + 1 + 1 + 1 + 1 by omega] at hM5
      go_wp2_with fail
      refine (hM5 _).mono ?_
      rintro e w3 ⟨rfl, hb3⟩
      have hR5a := hR5.below hb3
      have hF5a := hF5.below hb3
      have hP5a := hP5.below hb3
      have hT5a := hT5.trans (Touch.of_below (S := fun b => b = g ∧ 0 < n) hb3)
      clear hb3 hR5 hF5 hP5 hT5 hM5
      obtain ⟨⟨u5, hu5⟩, hf5⟩ := hR5a (i * 6 + 5) (by omega)
      have hR6 : Room (w3.setCell ⟨g, i * 6 + 5, none⟩ (.string (mtB (c + 5)))) g (n * 6) := hR5a.set _ _
      have hF6 : Filled (w3.setCell ⟨g, i * 6 + 5, none⟩ (.string (mtB (c + 5)))) g 6 i (mksEra k n) := by simpa using hF5a.store hlen 5 (.string (mtB (c + 5)))
      have hP6 : Part (w3.setCell ⟨g, i * 6 + 5, none⟩ (.string (mtB (c + 5)))) g (i * 6) [.int .i64 (c : Int), .string (mtB (c + 1)), .int .i64 ((c : Int) + 1 + 1), .string (mtB (c + 3)), .int .i64 ((c : Int) + 1 + 1 + 1 + 1), .string (mtB (c + 5))] := by simpa using hP5a.store hR5a (n := 5) rfl (by omega) (.string (mtB (c + 5)))
      have hT6 : Touch (fun b => b = g ∧ 0 < n) w (w3.setCell ⟨g, i * 6 + 5, none⟩ (.string (mtB (c + 5)))) := hT5a.set ⟨rfl, by omega⟩ _
      have hF : Filled _ g 6 (i + 1) (mksEra k n) := hF6.step hP6 (by rw [hrow]; simp [mkEra, Int.add_assoc])
      clear hF6 hP6
      go_wp2
      go_roundw
      case rel => exact ⟨i + 1, by omega, by go_num, by rw [HK.out]; go_num, hR6, hF, hT6⟩
      case measure => simp [intOf]; omega
    · have e : i = n := by omega
      subst e
      go_wp2
      go_ret
      exact ⟨rfl, Filled.seq (by unfold mksEra; rw [List.length_map, List.length_range]; exact hF0), hR0, hT0⟩
set_option maxRecDepth 20000 in
set_option maxHeartbeats 4000000 in
theorem laws_heldEraS (n cap k : Nat) (a : Option Addr) (w : World) (hA : SeqAt w a 6 (mksEra k n)) (h0 : 0 < k) (h1 : k + 6 * n < 1000000000) :
    Calls Tryz.prog 95 #[.slice a n cap, .int .i64 k] w fun e w' => e = .returned (.int .i64 ((k + 6 * n : Nat) : Int)) ∧ Below w.heap.size w w' := by
  go_enter Tryz.func95, Tryz.ntmps95
  go_wp2
  go_loopw [1, 5] (fun s t wr => ∃ i : Nat, i ≤ n ∧ t = .int .i64 i ∧ s = .int .i64 ((k + 6 * i : Nat) : Int) ∧ Below w.heap.size w wr) (fun _ t _ => n - (intOf t).toNat)
  case atStart => exact ⟨0, by omega, rfl, rfl, Below.refl _ _⟩
  case round =>
    obtain ⟨i, hi, rfl, rfl, hB0⟩ := hrel
    by_cases hlt : i < n
    · obtain ⟨b, o, rfl, hc⟩ := (hA.below hB0).at (mksEra_at (c := k) hlt)
      have HK : Hid (k + 6 * (i + 1) = (k + 6 * i) + 6) := by simp only [Hid]; omega
      have hc0 : 0 < k + 6 * i := by omega
      have hc1 : k + 6 * i + 6 < 1000000000 := by omega
      generalize k + 6 * i = c at *
      have p00 : wr.cell? ⟨b, o + i * 6, none⟩ = some (.int .i64 (c : Int)) := by simpa using hc 0 _ rfl
      have p10 : wr.cell? ⟨b, o + i * 6 + 1, none⟩ = some (.string (mtB (c + 1))) := by simpa using hc 1 _ rfl
      have p20 : wr.cell? ⟨b, o + i * 6 + 2, none⟩ = some (.int .i64 ((c : Int) + 2)) := by simpa using hc 2 _ rfl
      have p30 : wr.cell? ⟨b, o + i * 6 + 3, none⟩ = some (.string (mtB (c + 3))) := by simpa using hc 3 _ rfl
      have p40 : wr.cell? ⟨b, o + i * 6 + 4, none⟩ = some (.int .i64 ((c : Int) + 4)) := by simpa using hc 4 _ rfl
      have p50 : wr.cell? ⟨b, o + i * 6 + 5, none⟩ = some (.string (mtB (c + 5))) := by simpa using hc 5 _ rfl
      clear hc
      have hM1 := fun w => laws_markText (c + 1) w (by omega) (by omega)
      rw [show ((c + 1 : Nat) : Int) = (c : Int) + 1 by omega] at hM1
      have cE1 : ∀ dd os, Calls Tryz.prog _ _ (grow (redrawn wr dd) os) fun e w'' => e = .returned (.string (mtB (c + 1))) ∧ ∃ p : Regrown, w'' = grow (redrawn wr p.d) p.os := fun _ _ => Calls.regrown_of (hM1 _)
      have kc1 := cell_regrown p10
      go_wp2_with fail
      refine wp_region_quiet_below (by kernel_rfl) (by kernel_rfl) ?_
      repeat (quiet_step ((go_at_call 97; exact cE1 _ _)))
      refine wpQuiet_nil ?_
      intro w1 hw'
      obtain ⟨⟨dq0, osq0⟩, hw0⟩ := hw'
      have hb1 : Below wr.heap.size wr w1 := hw0 ▸ below_regrown wr dq0 osq0
      have hB1 := hB0.trans (hb1.mono hB0.size)
      have p21 := ((bcell hb1).1 _ _ (World.block_lt_of_cell? _ _ p20)).trans p20
      have p31 := ((bcell hb1).1 _ _ (World.block_lt_of_cell? _ _ p30)).trans p30
      have p41 := ((bcell hb1).1 _ _ (World.block_lt_of_cell? _ _ p40)).trans p40
      have p51 := ((bcell hb1).1 _ _ (World.block_lt_of_cell? _ _ p50)).trans p50
      clear hw0 kc1 cE1 hM1 hb1
      have hM3 := fun w => laws_markText (c + 3) w (by omega) (by omega)
      rw [show ((c + 3 : Nat) : Int) = (c : Int) + 3 by omega] at hM3
      have cE3 : ∀ dd os, Calls Tryz.prog _ _ (grow (redrawn w1 dd) os) fun e w'' => e = .returned (.string (mtB (c + 3))) ∧ ∃ p : Regrown, w'' = grow (redrawn w1 p.d) p.os := fun _ _ => Calls.regrown_of (hM3 _)
      have kc3 := cell_regrown p31
      go_wp2_with fail
      refine wp_region_quiet_below (by kernel_rfl) (by kernel_rfl) ?_
      repeat (quiet_step ((go_at_call 97; exact cE3 _ _)))
      refine wpQuiet_nil ?_
      intro w2 hw'
      obtain ⟨⟨dq1, osq1⟩, hw1⟩ := hw'
      have hb2 : Below w1.heap.size w1 w2 := hw1 ▸ below_regrown w1 dq1 osq1
      have hB2 := hB1.trans (hb2.mono hB1.size)
      have p42 := ((bcell hb2).1 _ _ (World.block_lt_of_cell? _ _ p41)).trans p41
      have p52 := ((bcell hb2).1 _ _ (World.block_lt_of_cell? _ _ p51)).trans p51
      clear hw1 kc3 cE3 hM3 hb2
      have hM5 := fun w => laws_markText (c + 5) w (by omega) (by omega)
      rw [show ((c + 5 : Nat) : Int) = (c : Int) + 5 by omega] at hM5
      have cE5 : ∀ dd os, Calls Tryz.prog _ _ (grow (redrawn w2 dd) os) fun e w'' => e = .returned (.string (mtB (c + 5))) ∧ ∃ p : Regrown, w'' = grow (redrawn w2 p.d) p.os := fun _ _ => Calls.regrown_of (hM5 _)
      have kc5 := cell_regrown p52
      go_wp2_with fail
      refine wp_region_quiet_below (by kernel_rfl) (by kernel_rfl) ?_
      repeat (quiet_step ((go_at_call 97; exact cE5 _ _)))
      refine wpQuiet_nil ?_
      intro w3 hw'
      obtain ⟨⟨dq2, osq2⟩, hw2⟩ := hw'
      have hb3 : Below w2.heap.size w2 w3 := hw2 ▸ below_regrown w2 dq2 osq2
      have hB3 := hB2.trans (hb3.mono hB2.size)
      clear hw2 kc5 cE5 hM5 hb3
      go_wp2
      go_roundw
      case rel => exact ⟨i + 1, by omega, by go_num, by rw [HK.out]; go_num, hB3⟩
      case measure => simp [intOf]; omega
    · have e : i = n := by omega
      subst e
      go_wp2
      go_ret
      exact ⟨rfl, hB0⟩
end Go.Proofs.YtjdokmllidhapaaGreatDoor
namespace Go.Proofs.YtjdokmllidhapaaGreatDoor
open Go.RowKit Go.Sort

def mkRule (c : Nat) : List Value := [.string (mtB (c)), .int .i64 (c + 1 : Nat), .int .i64 (c + 2 : Nat), .int .i64 (c + 3 : Nat), .string (mtB (c + 4)), .int .i64 (c + 5 : Nat), .string (mtB (c + 6)), .int .i64 (c + 7 : Nat), .string (mtB (c + 8))]
def mksRule (c n : Nat) : List (List Value) := (List.range n).map fun i => mkRule (c + 9 * i)
theorem mksRule_at {c n i : Nat} (h : i < n) : (mksRule c n)[i]? = some (mkRule (c + 9 * i)) := by unfold mksRule; rw [List.getElem?_map, List.getElem?_range h]; rfl
theorem mksRule_len {c n : Nat} : ∀ r ∈ mksRule c n, r.length = 9 := fun r hr => by
  unfold mksRule at hr
  obtain ⟨i, _, rfl⟩ := List.mem_map.mp hr
  rfl
set_option maxRecDepth 20000 in
set_option maxHeartbeats 4000000 in
theorem laws_markRuleS (n g cap k : Nat) (w : World) (hR0 : Room w g (n * 9)) (h0 : 0 < k) (h1 : k + 9 * n < 1000000000) :
    Calls Tryz.prog 91 #[.slice (some ⟨g, 0, none⟩) n cap, .int .i64 k] w fun e w' => e = .returned (.int .i64 ((k + 9 * n : Nat) : Int)) ∧ SeqAt w' (some ⟨g, 0, none⟩) 9 (mksRule k n) ∧ Room w' g (n * 9) ∧ Touch (fun b => b = g ∧ 0 < n) w w' := by
  have hlen := @mksRule_len k n
  go_enter Tryz.func91, Tryz.ntmps91
  go_wp2
  go_loopw [1, 5] (fun s t wr => ∃ i : Nat, i ≤ n ∧ t = .int .i64 i ∧ s = .int .i64 ((k + 9 * i : Nat) : Int) ∧ Room wr g (n * 9) ∧ Filled wr g 9 i (mksRule k n) ∧ Touch (fun b => b = g ∧ 0 < n) w wr) (fun _ t _ => n - (intOf t).toNat)
  case atStart => exact ⟨0, by omega, rfl, rfl, hR0, fun i j r c h => by omega, Touch.refl _ _⟩
  case round =>
    clear hR0
    obtain ⟨i, hi, rfl, rfl, hR0, hF0, hT0⟩ := hrel
    by_cases hlt : i < n
    · have hrow := mksRule_at (c := k) hlt
      have HK : Hid (k + 9 * (i + 1) = (k + 9 * i) + 9) := by simp only [Hid]; omega
      have hc0 : 0 < k + 9 * i := by omega
      have hc1 : k + 9 * i + 9 < 1000000000 := by omega
      generalize k + 9 * i = c at *
      have hP0 : Part wr g (i * 9) [] := Part.nil _ _ _
      have hM0 := fun w => laws_markText (c) w (by omega) (by omega)
      go_wp2_with fail
      refine (hM0 _).mono ?_
      rintro e w1 ⟨rfl, hb1⟩
      have hR0a := hR0.below hb1
      have hF0a := hF0.below hb1
      have hP0a := hP0.below hb1
      have hT0a := hT0.trans (Touch.of_below (S := fun b => b = g ∧ 0 < n) hb1)
      clear hb1 hR0 hF0 hP0 hT0 hM0
      obtain ⟨⟨u0, hu0⟩, hf0⟩ := hR0a (i * 9) (by omega)
      have hR1 : Room (w1.setCell ⟨g, i * 9, none⟩ (.string (mtB (c)))) g (n * 9) := hR0a.set _ _
      have hF1 : Filled (w1.setCell ⟨g, i * 9, none⟩ (.string (mtB (c)))) g 9 i (mksRule k n) := by simpa using hF0a.store hlen 0 (.string (mtB (c)))
      have hP1 : Part (w1.setCell ⟨g, i * 9, none⟩ (.string (mtB (c)))) g (i * 9) [.string (mtB (c))] := by simpa using hP0a.store hR0a (n := 0) rfl (by omega) (.string (mtB (c)))
      have hT1 : Touch (fun b => b = g ∧ 0 < n) w (w1.setCell ⟨g, i * 9, none⟩ (.string (mtB (c)))) := hT0a.set ⟨rfl, by omega⟩ _
      obtain ⟨⟨u1, hu1⟩, hf1⟩ := hR1 (i * 9 + 1) (by omega)
      have hR2 : Room ((w1.setCell ⟨g, i * 9, none⟩ (.string (mtB (c)))).setCell ⟨g, i * 9 + 1, none⟩ (.int .i64 ((c : Int) + 1))) g (n * 9) := hR1.set _ _
      have hF2 : Filled ((w1.setCell ⟨g, i * 9, none⟩ (.string (mtB (c)))).setCell ⟨g, i * 9 + 1, none⟩ (.int .i64 ((c : Int) + 1))) g 9 i (mksRule k n) := by simpa using hF1.store hlen 1 (.int .i64 ((c : Int) + 1))
      have hP2 : Part ((w1.setCell ⟨g, i * 9, none⟩ (.string (mtB (c)))).setCell ⟨g, i * 9 + 1, none⟩ (.int .i64 ((c : Int) + 1))) g (i * 9) [.string (mtB (c)), .int .i64 ((c : Int) + 1)] := by simpa using hP1.store hR1 (n := 1) rfl (by omega) (.int .i64 ((c : Int) + 1))
      have hT2 : Touch (fun b => b = g ∧ 0 < n) w ((w1.setCell ⟨g, i * 9, none⟩ (.string (mtB (c)))).setCell ⟨g, i * 9 + 1, none⟩ (.int .i64 ((c : Int) + 1))) := hT1.set ⟨rfl, by omega⟩ _
      obtain ⟨⟨u2, hu2⟩, hf2⟩ := hR2 (i * 9 + 2) (by omega)
      have hR3 : Room (((w1.setCell ⟨g, i * 9, none⟩ (.string (mtB (c)))).setCell ⟨g, i * 9 + 1, none⟩ (.int .i64 ((c : Int) + 1))).setCell ⟨g, i * 9 + 2, none⟩ (.int .i64 ((c : Int) + 1 + 1))) g (n * 9) := hR2.set _ _
      have hF3 : Filled (((w1.setCell ⟨g, i * 9, none⟩ (.string (mtB (c)))).setCell ⟨g, i * 9 + 1, none⟩ (.int .i64 ((c : Int) + 1))).setCell ⟨g, i * 9 + 2, none⟩ (.int .i64 ((c : Int) + 1 + 1))) g 9 i (mksRule k n) := by simpa using hF2.store hlen 2 (.int .i64 ((c : Int) + 1 + 1))
      have hP3 : Part (((w1.setCell ⟨g, i * 9, none⟩ (.string (mtB (c)))).setCell ⟨g, i * 9 + 1, none⟩ (.int .i64 ((c : Int) + 1))).setCell ⟨g, i * 9 + 2, none⟩ (.int .i64 ((c : Int) + 1 + 1))) g (i * 9) [.string (mtB (c)), .int .i64 ((c : Int) + 1), .int .i64 ((c : Int) + 1 + 1)] := by simpa using hP2.store hR2 (n := 2) rfl (by omega) (.int .i64 ((c : Int) + 1 + 1))
      have hT3 : Touch (fun b => b = g ∧ 0 < n) w (((w1.setCell ⟨g, i * 9, none⟩ (.string (mtB (c)))).setCell ⟨g, i * 9 + 1, none⟩ (.int .i64 ((c : Int) + 1))).setCell ⟨g, i * 9 + 2, none⟩ (.int .i64 ((c : Int) + 1 + 1))) := hT2.set ⟨rfl, by omega⟩ _
      obtain ⟨⟨u3, hu3⟩, hf3⟩ := hR3 (i * 9 + 3) (by omega)
      have hR4 : Room ((((w1.setCell ⟨g, i * 9, none⟩ (.string (mtB (c)))).setCell ⟨g, i * 9 + 1, none⟩ (.int .i64 ((c : Int) + 1))).setCell ⟨g, i * 9 + 2, none⟩ (.int .i64 ((c : Int) + 1 + 1))).setCell ⟨g, i * 9 + 3, none⟩ (.int .i64 ((c : Int) + 1 + 1 + 1))) g (n * 9) := hR3.set _ _
      have hF4 : Filled ((((w1.setCell ⟨g, i * 9, none⟩ (.string (mtB (c)))).setCell ⟨g, i * 9 + 1, none⟩ (.int .i64 ((c : Int) + 1))).setCell ⟨g, i * 9 + 2, none⟩ (.int .i64 ((c : Int) + 1 + 1))).setCell ⟨g, i * 9 + 3, none⟩ (.int .i64 ((c : Int) + 1 + 1 + 1))) g 9 i (mksRule k n) := by simpa using hF3.store hlen 3 (.int .i64 ((c : Int) + 1 + 1 + 1))
      have hP4 : Part ((((w1.setCell ⟨g, i * 9, none⟩ (.string (mtB (c)))).setCell ⟨g, i * 9 + 1, none⟩ (.int .i64 ((c : Int) + 1))).setCell ⟨g, i * 9 + 2, none⟩ (.int .i64 ((c : Int) + 1 + 1))).setCell ⟨g, i * 9 + 3, none⟩ (.int .i64 ((c : Int) + 1 + 1 + 1))) g (i * 9) [.string (mtB (c)), .int .i64 ((c : Int) + 1), .int .i64 ((c : Int) + 1 + 1), .int .i64 ((c : Int) + 1 + 1 + 1)] := by simpa using hP3.store hR3 (n := 3) rfl (by omega) (.int .i64 ((c : Int) + 1 + 1 + 1))
      have hT4 : Touch (fun b => b = g ∧ 0 < n) w ((((w1.setCell ⟨g, i * 9, none⟩ (.string (mtB (c)))).setCell ⟨g, i * 9 + 1, none⟩ (.int .i64 ((c : Int) + 1))).setCell ⟨g, i * 9 + 2, none⟩ (.int .i64 ((c : Int) + 1 + 1))).setCell ⟨g, i * 9 + 3, none⟩ (.int .i64 ((c : Int) + 1 + 1 + 1))) := hT3.set ⟨rfl, by omega⟩ _
      have hM4 := fun w => laws_markText (c + 4) w (by omega) (by omega)
      rw [show ((c + 4 : Nat) : Int) = (c : Int) + 1 + 1 + 1 + 1 by omega] at hM4
      go_wp2_with fail
      refine (hM4 _).mono ?_
      rintro e w2 ⟨rfl, hb2⟩
      have hR4a := hR4.below hb2
      have hF4a := hF4.below hb2
      have hP4a := hP4.below hb2
      have hT4a := hT4.trans (Touch.of_below (S := fun b => b = g ∧ 0 < n) hb2)
      clear hb2 hR4 hF4 hP4 hT4 hM4
      obtain ⟨⟨u4, hu4⟩, hf4⟩ := hR4a (i * 9 + 4) (by omega)
      have hR5 : Room (w2.setCell ⟨g, i * 9 + 4, none⟩ (.string (mtB (c + 4)))) g (n * 9) := hR4a.set _ _
      have hF5 : Filled (w2.setCell ⟨g, i * 9 + 4, none⟩ (.string (mtB (c + 4)))) g 9 i (mksRule k n) := by simpa using hF4a.store hlen 4 (.string (mtB (c + 4)))
      have hP5 : Part (w2.setCell ⟨g, i * 9 + 4, none⟩ (.string (mtB (c + 4)))) g (i * 9) [.string (mtB (c)), .int .i64 ((c : Int) + 1), .int .i64 ((c : Int) + 1 + 1), .int .i64 ((c : Int) + 1 + 1 + 1), .string (mtB (c + 4))] := by simpa using hP4a.store hR4a (n := 4) rfl (by omega) (.string (mtB (c + 4)))
      have hT5 : Touch (fun b => b = g ∧ 0 < n) w (w2.setCell ⟨g, i * 9 + 4, none⟩ (.string (mtB (c + 4)))) := hT4a.set ⟨rfl, by omega⟩ _
      obtain ⟨⟨u5, hu5⟩, hf5⟩ := hR5 (i * 9 + 5) (by omega)
      have hR6 : Room ((w2.setCell ⟨g, i * 9 + 4, none⟩ (.string (mtB (c + 4)))).setCell ⟨g, i * 9 + 5, none⟩ (.int .i64 ((c : Int) + 1 + 1 + 1 + 1 + 1))) g (n * 9) := hR5.set _ _
      have hF6 : Filled ((w2.setCell ⟨g, i * 9 + 4, none⟩ (.string (mtB (c + 4)))).setCell ⟨g, i * 9 + 5, none⟩ (.int .i64 ((c : Int) + 1 + 1 + 1 + 1 + 1))) g 9 i (mksRule k n) := by simpa using hF5.store hlen 5 (.int .i64 ((c : Int) + 1 + 1 + 1 + 1 + 1))
      have hP6 : Part ((w2.setCell ⟨g, i * 9 + 4, none⟩ (.string (mtB (c + 4)))).setCell ⟨g, i * 9 + 5, none⟩ (.int .i64 ((c : Int) + 1 + 1 + 1 + 1 + 1))) g (i * 9) [.string (mtB (c)), .int .i64 ((c : Int) + 1), .int .i64 ((c : Int) + 1 + 1), .int .i64 ((c : Int) + 1 + 1 + 1), .string (mtB (c + 4)), .int .i64 ((c : Int) + 1 + 1 + 1 + 1 + 1)] := by simpa using hP5.store hR5 (n := 5) rfl (by omega) (.int .i64 ((c : Int) + 1 + 1 + 1 + 1 + 1))
      have hT6 : Touch (fun b => b = g ∧ 0 < n) w ((w2.setCell ⟨g, i * 9 + 4, none⟩ (.string (mtB (c + 4)))).setCell ⟨g, i * 9 + 5, none⟩ (.int .i64 ((c : Int) + 1 + 1 + 1 + 1 + 1))) := hT5.set ⟨rfl, by omega⟩ _
      have hM6 := fun w => laws_markText (c + 6) w (by omega) (by omega)
      rw [show ((c + 6 : Nat) : Int) = (c : Int) + 1 + 1 + 1 + 1 + 1 + 1 by omega] at hM6
      go_wp2_with fail
      refine (hM6 _).mono ?_
      rintro e w3 ⟨rfl, hb3⟩
      have hR6a := hR6.below hb3
      have hF6a := hF6.below hb3
      have hP6a := hP6.below hb3
      have hT6a := hT6.trans (Touch.of_below (S := fun b => b = g ∧ 0 < n) hb3)
      clear hb3 hR6 hF6 hP6 hT6 hM6
      obtain ⟨⟨u6, hu6⟩, hf6⟩ := hR6a (i * 9 + 6) (by omega)
      have hR7 : Room (w3.setCell ⟨g, i * 9 + 6, none⟩ (.string (mtB (c + 6)))) g (n * 9) := hR6a.set _ _
      have hF7 : Filled (w3.setCell ⟨g, i * 9 + 6, none⟩ (.string (mtB (c + 6)))) g 9 i (mksRule k n) := by simpa using hF6a.store hlen 6 (.string (mtB (c + 6)))
      have hP7 : Part (w3.setCell ⟨g, i * 9 + 6, none⟩ (.string (mtB (c + 6)))) g (i * 9) [.string (mtB (c)), .int .i64 ((c : Int) + 1), .int .i64 ((c : Int) + 1 + 1), .int .i64 ((c : Int) + 1 + 1 + 1), .string (mtB (c + 4)), .int .i64 ((c : Int) + 1 + 1 + 1 + 1 + 1), .string (mtB (c + 6))] := by simpa using hP6a.store hR6a (n := 6) rfl (by omega) (.string (mtB (c + 6)))
      have hT7 : Touch (fun b => b = g ∧ 0 < n) w (w3.setCell ⟨g, i * 9 + 6, none⟩ (.string (mtB (c + 6)))) := hT6a.set ⟨rfl, by omega⟩ _
      obtain ⟨⟨u7, hu7⟩, hf7⟩ := hR7 (i * 9 + 7) (by omega)
      have hR8 : Room ((w3.setCell ⟨g, i * 9 + 6, none⟩ (.string (mtB (c + 6)))).setCell ⟨g, i * 9 + 7, none⟩ (.int .i64 ((c : Int) + 1 + 1 + 1 + 1 + 1 + 1 + 1))) g (n * 9) := hR7.set _ _
      have hF8 : Filled ((w3.setCell ⟨g, i * 9 + 6, none⟩ (.string (mtB (c + 6)))).setCell ⟨g, i * 9 + 7, none⟩ (.int .i64 ((c : Int) + 1 + 1 + 1 + 1 + 1 + 1 + 1))) g 9 i (mksRule k n) := by simpa using hF7.store hlen 7 (.int .i64 ((c : Int) + 1 + 1 + 1 + 1 + 1 + 1 + 1))
      have hP8 : Part ((w3.setCell ⟨g, i * 9 + 6, none⟩ (.string (mtB (c + 6)))).setCell ⟨g, i * 9 + 7, none⟩ (.int .i64 ((c : Int) + 1 + 1 + 1 + 1 + 1 + 1 + 1))) g (i * 9) [.string (mtB (c)), .int .i64 ((c : Int) + 1), .int .i64 ((c : Int) + 1 + 1), .int .i64 ((c : Int) + 1 + 1 + 1), .string (mtB (c + 4)), .int .i64 ((c : Int) + 1 + 1 + 1 + 1 + 1), .string (mtB (c + 6)), .int .i64 ((c : Int) + 1 + 1 + 1 + 1 + 1 + 1 + 1)] := by simpa using hP7.store hR7 (n := 7) rfl (by omega) (.int .i64 ((c : Int) + 1 + 1 + 1 + 1 + 1 + 1 + 1))
      have hT8 : Touch (fun b => b = g ∧ 0 < n) w ((w3.setCell ⟨g, i * 9 + 6, none⟩ (.string (mtB (c + 6)))).setCell ⟨g, i * 9 + 7, none⟩ (.int .i64 ((c : Int) + 1 + 1 + 1 + 1 + 1 + 1 + 1))) := hT7.set ⟨rfl, by omega⟩ _
      have hM8 := fun w => laws_markText (c + 8) w (by omega) (by omega)
      rw [show ((c + 8 : Nat) : Int) = (c : Int) + 1 + 1 + 1 + 1 + 1 + 1 + 1 + 1 by omega] at hM8
      go_wp2_with fail
      refine (hM8 _).mono ?_
      rintro e w4 ⟨rfl, hb4⟩
      have hR8a := hR8.below hb4
      have hF8a := hF8.below hb4
      have hP8a := hP8.below hb4
      have hT8a := hT8.trans (Touch.of_below (S := fun b => b = g ∧ 0 < n) hb4)
      clear hb4 hR8 hF8 hP8 hT8 hM8
      obtain ⟨⟨u8, hu8⟩, hf8⟩ := hR8a (i * 9 + 8) (by omega)
      have hR9 : Room (w4.setCell ⟨g, i * 9 + 8, none⟩ (.string (mtB (c + 8)))) g (n * 9) := hR8a.set _ _
      have hF9 : Filled (w4.setCell ⟨g, i * 9 + 8, none⟩ (.string (mtB (c + 8)))) g 9 i (mksRule k n) := by simpa using hF8a.store hlen 8 (.string (mtB (c + 8)))
      have hP9 : Part (w4.setCell ⟨g, i * 9 + 8, none⟩ (.string (mtB (c + 8)))) g (i * 9) [.string (mtB (c)), .int .i64 ((c : Int) + 1), .int .i64 ((c : Int) + 1 + 1), .int .i64 ((c : Int) + 1 + 1 + 1), .string (mtB (c + 4)), .int .i64 ((c : Int) + 1 + 1 + 1 + 1 + 1), .string (mtB (c + 6)), .int .i64 ((c : Int) + 1 + 1 + 1 + 1 + 1 + 1 + 1), .string (mtB (c + 8))] := by simpa using hP8a.store hR8a (n := 8) rfl (by omega) (.string (mtB (c + 8)))
      have hT9 : Touch (fun b => b = g ∧ 0 < n) w (w4.setCell ⟨g, i * 9 + 8, none⟩ (.string (mtB (c + 8)))) := hT8a.set ⟨rfl, by omega⟩ _
      have hF : Filled _ g 9 (i + 1) (mksRule k n) := hF9.step hP9 (by rw [hrow]; simp [mkRule, Int.add_assoc])
      clear hF9 hP9
      go_wp2
      go_roundw
      case rel => exact ⟨i + 1, by omega, by go_num, by rw [HK.out]; go_num, hR9, hF, hT9⟩
      case measure => simp [intOf]; omega
    · have e : i = n := by omega
      subst e
      go_wp2
      go_ret
      exact ⟨rfl, Filled.seq (by unfold mksRule; rw [List.length_map, List.length_range]; exact hF0), hR0, hT0⟩
end Go.Proofs.YtjdokmllidhapaaGreatDoor
namespace Go.Proofs.YtjdokmllidhapaaGreatDoor
open Go.RowKit Go.Sort

/-- how many numbers the zones take. -/
def zc (l : List ZoneD) : Nat := (l.map fun z => 1 + 6 * z.eras.length).sum
theorem zc_take {l : List ZoneD} {k : Nat} {r : ZoneD} (h : l[k]? = some r) : zc (l.take (k + 1)) = zc (l.take k) + (1 + 6 * r.eras.length) := by
  unfold zc
  rw [List.take_add_one, h]
  simp
theorem zc_le (l : List ZoneD) (k : Nat) : zc (l.take k) ≤ zc l := by
  have := congrArg (fun l => (l.map fun z : ZoneD => 1 + 6 * z.eras.length).sum) (List.take_append_drop k l)
  simp only [List.map_append, List.sum_append] at this
  unfold zc
  omega
theorem zc_sz (l : List ZoneD) : zc l ≤ 7 * (l.length + zsz l) := by
  unfold zc zsz
  induction l with
  | nil => simp
  | cons z l ih =>
    simp only [List.map_cons, List.sum_cons, List.length_cons]
    have : z.eras.length ≤ z.sz := by unfold ZoneD.sz; omega
    omega
/-- zones whose lists of eras may be written, ahead of a block. -/
def ZRoom (w : World) (g U : Nat) (zs : List ZoneD) : Prop := ∀ i z, zs[i]? = some z → ∃ q, g < q ∧ (0 < z.eras.length → q < U) ∧ w.cell? ⟨g, i * 2 + 1, none⟩ = some (.slice (some ⟨q, 0, none⟩) z.eras.length z.eras.length) ∧ Room w q (z.eras.length * 6)
theorem ZRoom.below {w w' : World} {g U : Nat} {zs : List ZoneD} (h : ZRoom w g U zs) (hb : Below w.heap.size w w') : ZRoom w' g U zs := fun i z hz => by
  obtain ⟨q, hq, hu, c1, hr⟩ := h i z hz
  exact ⟨q, hq, hu, by rw [(bcell hb).1 _ _ (World.block_lt_of_cell? _ _ c1)]; exact c1, hr.below hb⟩
theorem ZRoom.store {w : World} {g U : Nat} {zs : List ZoneD} (h : ZRoom w g U zs) (k : Nat) (v : Value) : ZRoom (w.setCell ⟨g, k * 2, none⟩ v) g U zs := fun i z hz => by
  obtain ⟨q, hq, hu, c1, hr⟩ := h i z hz
  refine ⟨q, hq, hu, ?_, hr.set _ _⟩
  rw [World.cell?_setCell_other]
  · exact c1
  · intro e; injection e with _ e2; omega
theorem ZRoom.touch {S : Nat → Prop} {w w' : World} {g U : Nat} {zs : List ZoneD} (h : ZRoom w g U zs) (ht : Touch S w w') (hq : ¬ S g) : ZRoom w' g U zs := fun i z hz => by
  obtain ⟨q', hq', hu, c1, hr⟩ := h i z hz
  exact ⟨q', hq', hu, ht.cell hq c1, ht.room _ _ hr⟩
theorem Room.lt {w : World} {g m : Nat} (h : Room w g m) (hm : 0 < m) : g < w.heap.size := by
  obtain ⟨⟨v, hv⟩, _⟩ := h 0 hm
  exact World.block_lt_of_cell? _ _ hv
set_option maxRecDepth 20000 in
set_option maxHeartbeats 4000000 in
theorem laws_markZoneS (zs : List ZoneD) (g cap k B U : Nat) (w : World) (hR0 : Room w g (zs.length * 2)) (hZ0 : ZRoom w g U zs) (hB : B ≤ g) (hU : 0 < zs.length → g < U) (h0 : 0 < k) (h1 : k + zc zs < 900000000) (hn : zs.length ≤ 1048576) :
    Calls Tryz.prog 92 #[.slice (some ⟨g, 0, none⟩) zs.length cap, .int .i64 k] w fun e w' => e = .returned (.int .i64 ((k + zc zs : Nat) : Int)) ∧ Touch (fun b => B ≤ b ∧ b < U) w w' := by
  go_enter Tryz.func92, Tryz.ntmps92
  go_wp2
  go_loopw [1, 5] (fun s t wr => ∃ i : Nat, i ≤ zs.length ∧ t = .int .i64 i ∧ s = .int .i64 ((k + zc (zs.take i) : Nat) : Int) ∧ Room wr g (zs.length * 2) ∧ ZRoom wr g U zs ∧ Touch (fun b => B ≤ b ∧ b < U) w wr) (fun _ t _ => zs.length - (intOf t).toNat)
  case atStart => exact ⟨0, by omega, rfl, by simp [zc], hR0, hZ0, Touch.refl _ _⟩
  case round =>
    clear hR0 hZ0
    obtain ⟨i, hi, rfl, rfl, hR0, hZ0, hT0⟩ := hrel
    by_cases hlt : i < zs.length
    · obtain ⟨z, hz⟩ : ∃ z, zs[i]? = some z := ⟨_, List.getElem?_eq_getElem hlt⟩
      have hgU := hU (by omega)
      have ht := zc_take hz
      have hle := zc_le zs (i + 1)
      have HK : Hid (k + zc (zs.take (i + 1)) = (k + zc (zs.take i)) + 1 + 6 * z.eras.length) := by simp only [Hid]; omega
      have hc0 : 0 < k + zc (zs.take i) := by omega
      have hc1 : k + zc (zs.take i) + 1 + 6 * z.eras.length < 900000000 := by omega
      generalize k + zc (zs.take i) = c at *
      clear ht hle
      have hM := fun w => laws_markText c w hc0 (by omega)
      go_wp2_with fail
      refine (hM _).mono ?_
      rintro e w1 ⟨rfl, hb1⟩
      have hR1 := hR0.below hb1
      have hZ1 := hZ0.below hb1
      have hT1 := hT0.trans (Touch.of_below (S := fun b => B ≤ b ∧ b < U) hb1)
      obtain ⟨⟨u0, hu0⟩, hf0⟩ := hR1 (i * 2) (by omega)
      have hR2 : Room (w1.setCell ⟨g, i * 2, none⟩ (.string (mtB c))) g (zs.length * 2) := hR1.set _ _
      have hZ2 : ZRoom (w1.setCell ⟨g, i * 2, none⟩ (.string (mtB c))) g U zs := hZ1.store i _
      have hT2 : Touch (fun b => B ≤ b ∧ b < U) w (w1.setCell ⟨g, i * 2, none⟩ (.string (mtB c))) := hT1.set ⟨hB, hgU⟩ _
      clear hM hb1 hR0 hZ0 hT0 hR1 hZ1 hT1
      obtain ⟨q, hq, hqu, c1, hr⟩ := hZ2 i z hz
      have hE := laws_markEraS z.eras.length q z.eras.length (c + 1) (w1.setCell ⟨g, i * 2, none⟩ (.string (mtB c))) hr (by omega) (by omega)
      rw [show ((c + 1 : Nat) : Int) = (c : Int) + 1 by omega] at hE
      go_wp2_with fail
      refine hE.mono ?_
      rintro e w3 ⟨rfl, _, _, ht3⟩
      have hR3 := ht3.room _ _ hR2
      have hZ3 := hZ2.touch ht3 (fun h => by have : g = q := h.1; omega)
      have hT3 := hT2.trans (ht3.mono fun b _ hb => show B ≤ b ∧ b < U from by
        have e1 : b = q := hb.1
        have e2 := hqu hb.2
        omega)
      go_wp2
      go_roundw
      case rel => exact ⟨i + 1, by omega, by go_num, by rw [HK.out]; go_num, hR3, hZ3, hT3⟩
      case measure => simp [intOf]; omega
    · have e : i = zs.length := by omega
      subst e
      have HR : Hid (zc (zs.take zs.length) = zc zs) := by simp only [Hid]; rw [List.take_length]
      rw [HR.out]
      go_wp2
      go_ret
      exact ⟨rfl, hT0⟩
/-- a release of one's own memory, between two blocks. -/
structure OwnRelU (w : World) (B U : Nat) (v : Value) (r : RelD) : Prop where
  form : ∃ a b c, v = .agg #[.slice (some ⟨a, 0, none⟩) r.rules.length r.rules.length, .slice (some ⟨b, 0, none⟩) r.zones.length r.zones.length, .slice (some ⟨c, 0, none⟩) r.links.length r.links.length] ∧
    (B ≤ a ∧ B ≤ b ∧ B ≤ c) ∧ ((0 < r.rules.length → a < U) ∧ (0 < r.zones.length → b < U) ∧ (0 < r.links.length → c < U)) ∧ (0 < r.rules.length → 0 < r.zones.length → a ≠ b) ∧ Room w a (r.rules.length * 9) ∧ Room w b (r.zones.length * 2) ∧ ZRoom w b U r.zones ∧ Room w c (r.links.length * 2)
theorem OwnRel.upto {w w' : World} {B : Nat} {v : Value} {r : RelD} (h : OwnRel w B v r) (hb : Below w.heap.size w w') : OwnRelU w' B w.heap.size v r := by
  obtain ⟨a, b, c, hv, hB, ⟨hSa, hRa⟩, ⟨hZ, hRb⟩, ⟨_, hRc⟩⟩ := h.form
  have hab : 0 < r.rules.length → 0 < r.zones.length → a ≠ b := fun h1 h2 e => by
    subst e
    obtain ⟨x, hx⟩ : ∃ x, r.rules[0]? = some x := ⟨_, List.getElem?_eq_getElem h1⟩
    obtain ⟨z, hz⟩ : ∃ z, r.zones[0]? = some z := ⟨_, List.getElem?_eq_getElem h2⟩
    obtain ⟨b', o', he, hc⟩ := hSa.at (i := 0) (r := x.cs) (by rw [List.getElem?_map, hx]; rfl)
    injection he with he
    injection he with e1 e2
    subst e1 e2
    have p1 := hc 1 _ rfl
    obtain ⟨_, q, _, p2, _, _⟩ := hZ 0 z h2 hz
    rw [show 0 + 0 * 9 + 1 = 0 * 2 + 1 by omega, p2] at p1
    cases p1
  refine ⟨a, b, c, hv, hB, ⟨fun h => hRa.lt (by omega), fun h => hRb.lt (by omega), fun h => hRc.lt (by omega)⟩, hab, hRa.below hb, hRb.below hb, ZRoom.below (fun i z hz => ?_) hb, hRc.below hb⟩
  obtain ⟨_, q, hq, c1, _, hr⟩ := hZ i z (List.getElem?_eq_some_iff.mp hz).1 hz
  exact ⟨q, hq, fun h => hr.lt (by omega), c1, hr⟩
set_option maxRecDepth 20000 in
set_option maxHeartbeats 2000000 in
theorem laws_markRelease (r : RelD) (v : Value) (B U : Nat) (w : World) (hv : OwnRelU w B U v r) (hU : U ≤ w.heap.size) (hsz : r.sz ≤ 1048576) :
    Calls Tryz.prog 32 #[v, .int .i64 1] w fun e w' => (∃ K : Nat, e = .returned (.int .i64 (K : Int))) ∧ Touch (fun b => B ≤ b ∧ b < U) w w' := by
  obtain ⟨a, b, c, rfl, ⟨ha, hb, hc⟩, ⟨ua, ub, uc⟩, hab, hRa, hRb, hZ, hRc⟩ := hv.form
  have hzs := zc_sz r.zones
  unfold RelD.sz at hsz
  have h1 := fun w (h : Room w a (r.rules.length * 9)) => laws_markRuleS r.rules.length a r.rules.length 1 w h (by omega) (by omega)
  have h2 := fun w (h : Room w b (r.zones.length * 2)) (h2 : ZRoom w b U r.zones) => laws_markZoneS r.zones b r.zones.length (1 + 9 * r.rules.length) B U w h h2 hb ub (by omega) (by omega) (by omega)
  have h3 := fun w (h : Room w c (r.links.length * 2)) => laws_markLinkS r.links.length c r.links.length (1 + 9 * r.rules.length + zc r.zones) w h (by omega) (by omega)
  have hB0 := (Below.refl w.heap.size w).alloc (Nat.le_refl _) (.cells #[.slice (some ⟨a, 0, none⟩) r.rules.length r.rules.length, .slice (some ⟨b, 0, none⟩) r.zones.length r.zones.length, .slice (some ⟨c, 0, none⟩) r.links.length r.links.length] 27)
  have x1 : (w.alloc (.cells #[.slice (some ⟨a, 0, none⟩) r.rules.length r.rules.length, .slice (some ⟨b, 0, none⟩) r.zones.length r.zones.length, .slice (some ⟨c, 0, none⟩) r.links.length r.links.length] 27)).cell? ⟨w.heap.size, 1, none⟩ = some (.slice (some ⟨b, 0, none⟩) r.zones.length r.zones.length) := by simp [go_sem]
  have x2 : (w.alloc (.cells #[.slice (some ⟨a, 0, none⟩) r.rules.length r.rules.length, .slice (some ⟨b, 0, none⟩) r.zones.length r.zones.length, .slice (some ⟨c, 0, none⟩) r.links.length r.links.length] 27)).cell? ⟨w.heap.size, 2, none⟩ = some (.slice (some ⟨c, 0, none⟩) r.links.length r.links.length) := by simp [go_sem]
  have hT0 : Touch (fun b => B ≤ b ∧ b < U) w (w.alloc (.cells #[.slice (some ⟨a, 0, none⟩) r.rules.length r.rules.length, .slice (some ⟨b, 0, none⟩) r.zones.length r.zones.length, .slice (some ⟨c, 0, none⟩) r.links.length r.links.length] 27)) := Touch.of_below hB0
  have hne : ¬ (B ≤ w.heap.size ∧ w.heap.size < U) := by omega
  generalize hk1 : 1 + 9 * r.rules.length = k1 at *
  go_enter Tryz.func32, Tryz.ntmps32
  go_wp2_with fail
  refine (h1 _ (hRa.below hB0)).mono ?_
  rintro e w1 ⟨rfl, _, _, t1⟩
  have t1' := t1.mono (S2 := fun b => B ≤ b ∧ b < U) fun x _ hx => by have e1 : x = a := hx.1; have e2 := ua hx.2; show B ≤ x ∧ x < U; omega
  have hT1 := hT0.trans t1'
  have y1 := t1'.cell hne x1
  have y2 := t1'.cell hne x2
  go_wp2_with fail
  refine (h2 _ (hT1.room _ _ hRb) ?_).mono ?_
  · intro i z hz
    have hl := (List.getElem?_eq_some_iff.mp hz).1
    exact (hZ.below hB0).touch t1 (fun h => hab h.2 (by omega) h.1.symm) i z hz
  rintro e w2 ⟨rfl, t2⟩
  have hT2 := hT1.trans t2
  have z2 := t2.cell hne y2
  go_wp2_with fail
  refine (h3 _ (hT2.room _ _ hRc)).mono ?_
  rintro e w3 ⟨rfl, _, _, t3⟩
  have t3' := t3.mono (S2 := fun b => B ≤ b ∧ b < U) fun x _ hx => by have e1 : x = c := hx.1; have e2 := uc hx.2; show B ≤ x ∧ x < U; omega
  go_wp2
  go_ret
  exact ⟨⟨_, rfl⟩, hT2.trans t3'⟩
end Go.Proofs.YtjdokmllidhapaaGreatDoor
namespace Go.Proofs.YtjdokmllidhapaaGreatDoor
open Go.RowKit Go.Sort

def linkTo (ls : List LinkD) (nm : ByteArray) : ByteArray := match ls.find? (fun l => l.name.toList == nm.toList) with
  | some l => l.to_
  | none => nm
def zoneIx (zs : List ZoneD) (nm : ByteArray) : Option Nat := zs.findIdx? fun z => z.name.toList == nm.toList
def zeroZ : ZoneD := ⟨⟨#[]⟩, []⟩
def zoneD (r : RelD) (nm : ByteArray) : ZoneD := if relB r = true then (match zoneIx r.zones (linkTo r.links nm) with
  | some i => (match r.zones[i]? with | some z => z | none => zeroZ)
  | none => zeroZ) else zeroZ
theorem find_hit {α : Type} {l : List α} {p : α → Bool} {k : Nat} {x : α} (hx : l[k]? = some x) (hp : p x = true) (hn : ∀ j, j < k → ∀ y, l[j]? = some y → p y = false) : l.find? p = some x := by
  induction l generalizing k with
  | nil => simp at hx
  | cons a l ih =>
    cases k with
    | zero => simp at hx; subst hx; simp [hp]
    | succ k =>
      have h0 := hn 0 (by omega) a rfl
      rw [List.find?_cons, h0]
      exact ih (by simpa using hx) fun j hj y hy => hn (j + 1) (by omega) y (by simpa using hy)
theorem find_none {α : Type} {l : List α} {p : α → Bool} (hn : ∀ j, j < l.length → ∀ y, l[j]? = some y → p y = false) : l.find? p = none := by
  rw [List.find?_eq_none]
  intro x hx
  obtain ⟨j, hj⟩ := List.getElem?_of_mem hx
  have := hn j (List.getElem?_eq_some_iff.mp hj).1 x hj
  simp [this]
theorem ix_hit {α : Type} {l : List α} {p : α → Bool} {k : Nat} {x : α} (hx : l[k]? = some x) (hp : p x = true) (hn : ∀ j, j < k → ∀ y, l[j]? = some y → p y = false) : l.findIdx? p = some k := by
  induction l generalizing k with
  | nil => simp at hx
  | cons a l ih =>
    cases k with
    | zero => simp at hx; subst hx; simp [List.findIdx?_cons, hp]
    | succ k =>
      have h0 := hn 0 (by omega) a rfl
      rw [List.findIdx?_cons, h0]
      have := ih (k := k) (by simpa using hx) fun j hj y hy => hn (j + 1) (by omega) y (by simpa using hy)
      simp [this]
theorem ix_none {α : Type} {l : List α} {p : α → Bool} (hn : ∀ j, j < l.length → ∀ y, l[j]? = some y → p y = false) : l.findIdx? p = none := by
  rw [List.findIdx?_eq_none_iff]
  intro x hx
  obtain ⟨j, hj⟩ := List.getElem?_of_mem hx
  exact hn j (List.getElem?_eq_some_iff.mp hj).1 x hj
theorem link_hit {ls : List LinkD} {nm : ByteArray} {k : Nat} {x : LinkD} (hx : ls[k]? = some x) (hp : (x.name.toList == nm.toList) = true) (hn : ∀ j, j < k → ∀ y, ls[j]? = some y → (y.name.toList == nm.toList) = false) : linkTo ls nm = x.to_ := by unfold linkTo; rw [find_hit hx hp hn]
theorem link_none {ls : List LinkD} {nm : ByteArray} (hn : ∀ j, j < ls.length → ∀ y, ls[j]? = some y → (y.name.toList == nm.toList) = false) : linkTo ls nm = nm := by unfold linkTo; rw [find_none hn]
theorem zone_hit {zs : List ZoneD} {nm : ByteArray} {k : Nat} {x : ZoneD} (hx : zs[k]? = some x) (hp : (x.name.toList == nm.toList) = true) (hn : ∀ j, j < k → ∀ y, zs[j]? = some y → (y.name.toList == nm.toList) = false) : zoneIx zs nm = some k := ix_hit hx hp hn
theorem zone_none {zs : List ZoneD} {nm : ByteArray} (hn : ∀ j, j < zs.length → ∀ y, zs[j]? = some y → (y.name.toList == nm.toList) = false) : zoneIx zs nm = none := ix_none hn
theorem zoneIx_lt {zs : List ZoneD} {nm : ByteArray} {i : Nat} (h : zoneIx zs nm = some i) : i < zs.length := (List.findIdx?_eq_some_iff_getElem.mp h).1
def ixI (o : Option Nat) : Int := match o with
  | some i => i
  | none => -1
end Go.Proofs.YtjdokmllidhapaaGreatDoor
namespace Go.Proofs.YtjdokmllidhapaaGreatDoor
open Go.RowKit Go.Sort

set_option maxHeartbeats 4000000 in
theorem spec_l02Find (r : RelD) (v : Value) (nm : ByteArray) (w : World) (hv : RelAt w v r) (sm : r.small) :
    Calls Tryz.prog 55 #[v, .string nm] w fun e w' => e = .returned (.int .i64 (ixI (zoneIx r.zones (linkTo r.links nm)))) ∧ Below w.heap.size w w' := by
  obtain ⟨a, b, c, ca, cb, cc, rfl, _, hZ, hA⟩ := hv.form
  obtain ⟨m1, m2, m3, m4⟩ := sm
  have hB0 := (Below.refl w.heap.size w).alloc (Nat.le_refl _) (.cells #[.slice a r.rules.length ca, .slice b r.zones.length cb, .slice c r.links.length cc] 27)
  have hA1 := hA.below hB0
  have hZ1 := hZ.below hB0
  have x1 : (w.alloc (.cells #[.slice a r.rules.length ca, .slice b r.zones.length cb, .slice c r.links.length cc] 27)).cell? ⟨w.heap.size, 1, none⟩ = some (.slice b r.zones.length cb) := by simp [go_sem]
  have x2 : (w.alloc (.cells #[.slice a r.rules.length ca, .slice b r.zones.length cb, .slice c r.links.length cc] 27)).cell? ⟨w.heap.size, 2, none⟩ = some (.slice c r.links.length cc) := by simp [go_sem]
  clear hv hA hZ
  go_enter Tryz.func55, Tryz.ntmps55
  go_wp2
  generalize (w.alloc (.cells #[.slice a r.rules.length ca, .slice b r.zones.length cb, .slice c r.links.length cc] 27)) = W at *
  go_loop [1, 5] (fun s i => ∃ k : Nat, k ≤ r.links.length ∧ s = .string nm ∧ i = .int .i64 k ∧ Hid (∀ j, j < k → ∀ y, r.links[j]? = some y → (y.name.toList == nm.toList) = false)) (fun _ i => r.links.length - (intOf i).toNat)
  case atStart => exact ⟨0, by omega, rfl, rfl, fun j hj => by omega⟩
  case round =>
    obtain ⟨k, hk, rfl, rfl, hall⟩ := hrel
    by_cases hlt : k < r.links.length
    · obtain ⟨x, hx⟩ : ∃ x, r.links[k]? = some x := ⟨_, List.getElem?_eq_getElem hlt⟩
      obtain ⟨b', o, rfl, hc⟩ := hA1.at (i := k) (r := x.cs) (by rw [List.getElem?_map, hx]; rfl)
      have c0 : W.cell? ⟨b', o + k * 2, none⟩ = some (.string x.to_) := hc 0 _ rfl
      have c1 := hc 1 _ rfl
      clear hc
      cases hb : (x.name.toList == nm.toList)
      · have HR : Hid (∀ j, j < k + 1 → ∀ y, r.links[j]? = some y → (y.name.toList == nm.toList) = false) := fun j hj y hy => by
          by_cases e : j = k
          · subst e; rw [hx] at hy; obtain rfl := Option.some.inj hy; exact hb
          · exact hall.out j (by omega) y hy
        go_wp2
        go_round
        case rel => exact ⟨k + 1, by omega, rfl, by go_num, HR⟩
        case measure => simp [intOf]; omega
      · have HL : Hid (linkTo r.links nm = x.to_) := link_hit hx hb hall.out
        clear hall
        go_wp2
        go_loop [6] (fun i => ∃ k : Nat, k ≤ r.zones.length ∧ i = .int .i64 k ∧ Hid (∀ j, j < k → ∀ y, r.zones[j]? = some y → (y.name.toList == x.to_.toList) = false)) (fun i => r.zones.length - (intOf i).toNat)
        case atStart => exact ⟨0, by omega, rfl, fun j hj => by omega⟩
        case round =>
          obtain ⟨k, hk, rfl, hall⟩ := hrel
          by_cases hlt : k < r.zones.length
          · obtain ⟨z, hx⟩ : ∃ z, r.zones[k]? = some z := ⟨_, List.getElem?_eq_getElem hlt⟩
            obtain ⟨b', o, rfl, c0, u, c1, hu⟩ := hZ1.at hx
            cases hb : (z.name.toList == x.to_.toList)
            · have HR : Hid (∀ j, j < k + 1 → ∀ y, r.zones[j]? = some y → (y.name.toList == x.to_.toList) = false) := fun j hj y hy => by
                by_cases e : j = k
                · subst e; rw [hx] at hy; obtain rfl := Option.some.inj hy; exact hb
                · exact hall.out j (by omega) y hy
              go_wp2
              go_round
              case rel => exact ⟨k + 1, by omega, by go_num, HR⟩
              case measure => simp [intOf]; omega
            · have HR : Hid (ixI (zoneIx r.zones (linkTo r.links nm)) = k) := by simp only [Hid]; rw [HL.out, zone_hit hx hb hall.out]; rfl
              go_wp2
              go_ret
              exact ⟨ret_int HR.out.symm, hB0⟩
          · have e : k = r.zones.length := by omega
            subst e
            have HR : Hid (ixI (zoneIx r.zones (linkTo r.links nm)) = -1) := by simp only [Hid]; rw [HL.out, zone_none hall.out]; rfl
            go_wp2
            go_ret
            exact ⟨ret_int HR.out.symm, hB0⟩
    · have e : k = r.links.length := by omega
      subst e
      have HL : Hid (linkTo r.links nm = nm) := link_none hall.out
      clear hall
      go_wp2
      go_loop [6] (fun i => ∃ k : Nat, k ≤ r.zones.length ∧ i = .int .i64 k ∧ Hid (∀ j, j < k → ∀ y, r.zones[j]? = some y → (y.name.toList == nm.toList) = false)) (fun i => r.zones.length - (intOf i).toNat)
      case atStart => exact ⟨0, by omega, rfl, fun j hj => by omega⟩
      case round =>
        obtain ⟨k, hk, rfl, hall⟩ := hrel
        by_cases hlt : k < r.zones.length
        · obtain ⟨z, hx⟩ : ∃ z, r.zones[k]? = some z := ⟨_, List.getElem?_eq_getElem hlt⟩
          obtain ⟨b', o, rfl, c0, u, c1, hu⟩ := hZ1.at hx
          cases hb : (z.name.toList == nm.toList)
          · have HR : Hid (∀ j, j < k + 1 → ∀ y, r.zones[j]? = some y → (y.name.toList == nm.toList) = false) := fun j hj y hy => by
              by_cases e : j = k
              · subst e; rw [hx] at hy; obtain rfl := Option.some.inj hy; exact hb
              · exact hall.out j (by omega) y hy
            go_wp2
            go_round
            case rel => exact ⟨k + 1, by omega, by go_num, HR⟩
            case measure => simp [intOf]; omega
          · have HR : Hid (ixI (zoneIx r.zones (linkTo r.links nm)) = k) := by simp only [Hid]; rw [HL.out, zone_hit hx hb hall.out]; rfl
            go_wp2
            go_ret
            exact ⟨ret_int HR.out.symm, hB0⟩
        · have e : k = r.zones.length := by omega
          subst e
          have HR : Hid (ixI (zoneIx r.zones (linkTo r.links nm)) = -1) := by simp only [Hid]; rw [HL.out, zone_none hall.out]; rfl
          go_wp2
          go_ret
          exact ⟨ret_int HR.out.symm, hB0⟩
end Go.Proofs.YtjdokmllidhapaaGreatDoor
namespace Go.Proofs.YtjdokmllidhapaaGreatDoor
open Go.RowKit Go.Sort

theorem flat_at {q : Nat} : ∀ {rows : List (List Value)}, (∀ r ∈ rows, r.length = q) → ∀ {i l : Nat}, l < q → rows.flatten[i * q + l]? = (rows[i]?).bind (·[l]?) := by
  intro rows
  induction rows with
  | nil => intro _ i l _; simp
  | cons r rs ih =>
    intro hlen i l hl
    have hr := hlen r (List.mem_cons_self ..)
    rw [List.flatten_cons]
    cases i with
    | zero =>
      rw [Nat.zero_mul, Nat.zero_add, List.getElem?_append_left (by omega)]
      simp
    | succ i =>
      rw [List.getElem?_append_right (by rw [hr, Nat.add_mul]; omega), hr, show (i + 1) * q + l - q = i * q + l by rw [Nat.add_mul]; omega]
      rw [ih (fun r hr => hlen r (List.mem_cons_of_mem _ hr)) hl]
      simp
theorem flat_len {q : Nat} : ∀ {rows : List (List Value)}, (∀ r ∈ rows, r.length = q) → rows.flatten.length = rows.length * q := by
  intro rows
  induction rows with
  | nil => intro _; simp
  | cons r rs ih =>
    intro hlen
    rw [List.flatten_cons, List.length_append, ih fun r hr => hlen r (List.mem_cons_of_mem _ hr), hlen r (List.mem_cons_self ..), List.length_cons, Nat.add_mul]
    omega
def flatE (es : List EraD) : List Value := (es.map EraD.cs).flatten
theorem era_rows (es : List EraD) : ∀ r ∈ es.map EraD.cs, r.length = 6 := fun r hr => by
  obtain ⟨x, _, rfl⟩ := List.mem_map.mp hr; rfl
theorem flatE_len (es : List EraD) : (flatE es).length = es.length * 6 := by
  unfold flatE; rw [flat_len (era_rows es), List.length_map]
theorem flatE_at {es : List EraD} {j : Nat} {u : Value} (h : (flatE es)[j]? = some u) : ∃ r, (es.map EraD.cs)[j / 6]? = some r ∧ r[j % 6]? = some u := by
  have e : j = j / 6 * 6 + j % 6 := by omega
  unfold flatE at h
  rw [e, flat_at (era_rows es) (by omega)] at h
  obtain ⟨r, h1, h2⟩ := Option.bind_eq_some_iff.mp h
  exact ⟨r, h1, h2⟩
theorem flatE_cells {w : World} {b o : Nat} {es : List EraD} (hA : SeqAt w (some ⟨b, o, none⟩) 6 (es.map EraD.cs)) (j : Nat) (u : Value) (h : (flatE es)[j]? = some u) : w.cell? ⟨b, o + j, none⟩ = some u := by
  obtain ⟨r, h1, h2⟩ := flatE_at h
  obtain ⟨b', o', he, hc⟩ := hA.at h1
  injection he with he
  injection he with e1 e2
  subst e1 e2
  have := hc _ _ h2
  rw [show o + j / 6 * 6 + j % 6 = o + j by omega] at this
  exact this
theorem flatE_one {es : List EraD} : ∀ u ∈ flatE es, u.oneCell' = true := fun u hu => by
  unfold flatE at hu
  obtain ⟨r, hr, hu⟩ := List.mem_flatten.mp hu
  obtain ⟨x, _, rfl⟩ := List.mem_map.mp hr
  simp only [EraD.cs, List.mem_cons, List.not_mem_nil, or_false] at hu
  rcases hu with rfl | rfl | rfl | rfl | rfl | rfl <;> rfl
/-- a list of eras of one's own, from a block on. -/
def OwnEra (w : World) (B : Nat) (v : Value) (es : List EraD) : Prop :=
  (es = [] ∧ v = .slice none 0 0) ∨ ∃ g cap, v = .slice (some ⟨g, 0, none⟩) es.length cap ∧ B ≤ g ∧ g < w.heap.size ∧ SeqAt w (some ⟨g, 0, none⟩) 6 (es.map EraD.cs) ∧ Room w g (es.length * 6)
theorem OwnEra.below {w w' : World} {B : Nat} {v : Value} {es : List EraD} (h : OwnEra w B v es) (hb : Below w.heap.size w w') : OwnEra w' B v es := by
  rcases h with h | ⟨g, cap, hv, hg, hl, h1, h2⟩
  · exact .inl h
  · exact .inr ⟨g, cap, hv, hg, Nat.lt_of_lt_of_le hl hb.size, h1.below hb, h2.below hb⟩
theorem OwnEra.sl {w : World} {B : Nat} {v : Value} {es : List EraD} (h : OwnEra w B v es) : EraSl w v es := by
  rcases h with ⟨rfl, rfl⟩ | ⟨g, cap, hv, _, _, h1, _⟩
  · exact ⟨none, 0, rfl, .inl rfl⟩
  · exact ⟨_, _, hv, h1⟩
theorem OwnEra.mono {w : World} {B B2 : Nat} {v : Value} {es : List EraD} (h : OwnEra w B v es) (hb : B2 ≤ B) : OwnEra w B2 v es := by
  rcases h with h | ⟨g, cap, hv, hg, rest⟩
  · exact .inl h
  · exact .inr ⟨g, cap, hv, by omega, rest⟩
theorem own_eras {w : World} {B : Nat} {e : TypeId} {v : Value} {es : List EraD} (h : w.ownsRow B e 6 v es.length (flatE es)) (hn : 0 < es.length) : OwnEra w B v es := by
  rcases h.2 with ⟨_, h0⟩ | ⟨g, cap, cur, hv, hg, hh, hc, hm, hs, ht⟩
  · omega
  · have hlt : g < w.heap.size := by
      rcases Nat.lt_or_ge g w.heap.size with h' | h'
      · exact h'
      · rw [Array.getElem?_eq_none h'] at hh; cases hh
    refine .inr ⟨g, cap, hv, hg, hlt, .inr ⟨g, 0, rfl, fun i j r c hi hj => ?_⟩, fun x hx => ?_⟩
    · have hj6 : j < 6 := by
        have := era_rows es r (List.mem_of_getElem? hi)
        have := (List.getElem?_eq_some_iff.mp hj).1
        omega
      have hil : i < es.length := by have := (List.getElem?_eq_some_iff.mp hi).1; simpa using this
      have e1 : (cur.toList.take (es.length * 6))[i * 6 + j]? = (flatE es)[i * 6 + j]? := by rw [ht]
      unfold flatE at e1
      rw [flat_at (era_rows es) hj6, hi] at e1
      rw [List.getElem?_take, if_pos (by omega), Array.getElem?_toList] at e1
      simp only [World.cell?, hh, Nat.zero_add]
      simp only [Option.isSome_none, Bool.false_eq_true, if_false]
      rw [e1]
      exact hj
    · have hx' : x < cur.size := by have : es.length * 6 ≤ cap * 6 := Nat.mul_le_mul_right 6 hc; omega
      exact ⟨⟨cur[x], by simp [World.cell?, hh, hx']⟩, by simp [World.frozen?, hh]⟩
theorem ownE_empty (w : World) (t : TypeId) : (w.alloc (.cells #[] t)).ownsRow w.heap.size t 6 (.slice (some ⟨w.heap.size, 0, none⟩) 0 0) 0 [] :=
  ⟨rfl, .inr ⟨w.heap.size, 0, #[], rfl, Nat.le_refl _, (MapKept.heap_alloc w _).1, Nat.le_refl _, by unfold maxLen; omega, rfl, rfl⟩⟩
set_option maxRecDepth 20000 in
set_option maxHeartbeats 2000000 in
theorem impl_cloneEra (es : List EraD) (b o cap : Nat) (w : World) (hA : SeqAt w (some ⟨b, o, none⟩) 6 (es.map EraD.cs)) (hn : 0 < es.length) (hl : es.length ≤ 1048576) :
    Calls Tryz.prog 89 #[.slice (some ⟨b, o, none⟩) es.length cap] w fun e w' => ∃ v', e = .returned v' ∧ OwnEra w' w.heap.size v' es ∧ Below w.heap.size w w' := by
  obtain ⟨i0, hi, hz0, hz1, hz2⟩ := infoEra
  have q22 : ∀ (w : World) (a : Option Addr) (n c n' c' : Nat), (binOp .eql 47 (.slice a n c) (.slice none n' c')).run Tryz.prog w = .ok (.bool a.isNone) w := fun w a n c n' c' => Lib.run_eql_slice_nil w _ _ a n c n' c' Tryz.underlying47
  have hcells := flatE_cells hA
  have HC : Hid (∀ j u, (flatE es)[j]? = some u → w.cell? ⟨b, o + j, none⟩ = some u) := hcells
  clear hcells
  go_enter Tryz.func89, Tryz.ntmps89
  go_wp2_with (at_builtin; refine wpList_append_own _ rfl _ _ 47 rfl w.heap.size 55 i0 _ 6 72 Tryz.underlying47 hi hz0 hz1 hz2 rfl (by decide) _ _ _ rfl (ownE_empty w 55) ⟨b, o, none⟩ es.length cap (flatE es) rfl ?qc1 ?qc2 ?qc3 ?qc4 ?qc5 ?qc6 ?_)
  case qc1 => exact flatE_len es
  case qc2 =>
    intro j u hj
    rw [Addr.add_lit]
    exact Lib.cell?_alloc_some _ (HC.out j u hj)
  case qc3 => exact flatE_one
  case qc4 => unfold maxLen; omega
  case qc5 => omega
  case qc6 => simp
  intro v' w1 hown hgrow hnil
  go_wp2
  go_ret
  refine ⟨v', rfl, own_eras (by simpa using hown) hn, ((Below.refl _ w).alloc (Nat.le_refl _) _).grown hgrow (by simp) (by intro k hk; simp [Value.ownBlock] at hk; omega)⟩
end Go.Proofs.YtjdokmllidhapaaGreatDoor
namespace Go.Proofs.YtjdokmllidhapaaGreatDoor
open Go.RowKit Go.Sort

theorem zoneD_no {r : RelD} {nm : ByteArray} (h : relB r = false) : zoneD r nm = zeroZ := by unfold zoneD; rw [if_neg (by rw [h]; simp)]
theorem zoneD_none {r : RelD} {nm : ByteArray} (h : zoneIx r.zones (linkTo r.links nm) = none) : zoneD r nm = zeroZ := by
  unfold zoneD
  split
  · rw [h]
  · rfl
theorem zoneD_some {r : RelD} {nm : ByteArray} {i : Nat} {z : ZoneD} (hr : relB r = true) (h : zoneIx r.zones (linkTo r.links nm) = some i) (hz : r.zones[i]? = some z) : zoneD r nm = z := by
  unfold zoneD
  rw [if_pos hr, h]
  simp only [hz]
theorem size_toList (s : ByteArray) : s.toList.length = s.size := by rw [ByteArray.toList_eq, Array.length_toList]; rfl
theorem rel_zoneok {r : RelD} (hr : relB r = true) {z : ZoneD} (hz : z ∈ r.zones) : 0 < z.eras.length ∧ nameB z.name = true := by
  have t := rel_of hr
  have := List.all_eq_true.mp t.zones z hz
  unfold zoneP at this
  simp only [Bool.and_eq_true, decide_eq_true_eq] at this
  exact ⟨by omega, this.1⟩
theorem rel_long {r : RelD} (hr : relB r = true) {nm : ByteArray} (h : 8000 < nm.size) : zoneIx r.zones (linkTo r.links nm) = none := by
  have hl : linkTo r.links nm = nm := link_none fun j _ y hy => by
    have h1 := List.all_eq_true.mp (rel_of hr).links y (List.mem_of_getElem? hy)
    unfold linkB at h1
    simp only [Bool.and_eq_true] at h1
    have := (nameB_t h1.2).2.1
    cases hb : (y.name.toList == nm.toList)
    · rfl
    · have e := congrArg List.length (beq_iff_eq.mp hb)
      rw [size_toList, size_toList] at e
      omega
  rw [hl]
  refine zone_none fun j _ y hy => ?_
  have := (nameB_t (rel_zoneok hr (List.mem_of_getElem? hy)).2).2.1
  cases hb : (y.name.toList == nm.toList)
  · rfl
  · have e := congrArg List.length (beq_iff_eq.mp hb)
    rw [size_toList, size_toList] at e
    omega
theorem OwnEra.set {w : World} {B : Nat} {v : Value} {es : List EraD} (h : OwnEra w B v es) {p i : Nat} (hp : p < B) (x : Value) : OwnEra (w.setCell ⟨p, i, none⟩ x) B v es := by
  rcases h with h | ⟨g, cap, hv, hg, hl, h1, h2⟩
  · exact .inl h
  · refine .inr ⟨g, cap, hv, hg, by simpa using hl, h1.keep fun y => World.cell?_setCell_other _ _ _ _ (ne_blk2 (by omega)), h2.set _ _⟩
theorem ownEra_zero (w : World) (B : Nat) : OwnEra w B (.slice none 0 0) zeroZ.eras := .inl ⟨rfl, rfl⟩
set_option maxRecDepth 20000 in
set_option maxHeartbeats 4000000 in
theorem spec_ZoneOf (r : RelD) (v : Value) (nm : ByteArray) (w : World) (hv : RelAt w v r) (ok : r.ok) (sm : r.small) (hon : ∀ x ∈ r.rules, x.on.size ≤ 1048576) (hnm : nm.size ≤ 1048576) :
    Calls Tryz.prog 20 #[v, .string nm] w fun e w' => ∃ v', e = .returned (.agg #[.string (zoneD r nm).name, v']) ∧ OwnEra w' w.heap.size v' (zoneD r nm).eras ∧ Below w.heap.size w w' := by
  obtain ⟨a, b, c, ca, cb, cc, hvv, _, hAz, _⟩ := hv.form
  have hF := fun w (h : RelAt w v r) => spec_l02Find r v nm w h sm
  have hS := fun w (h : RelAt w v r) => spec_ReleaseRight r v w h ok sm hon
  obtain ⟨m1, m2, m3, m4⟩ := sm
  subst hvv
  have hB0 := ((Below.refl w.heap.size w).alloc (Nat.le_refl _) (.cells #[.slice a r.rules.length ca, .slice b r.zones.length cb, .slice c r.links.length cc] 27)).alloc (by simp) (.cells #[.string ⟨#[]⟩, .slice none 0 0] 49)
  have x0 : (((w.alloc (.cells #[.slice a r.rules.length ca, .slice b r.zones.length cb, .slice c r.links.length cc] 27)).alloc (.cells #[.string ⟨#[]⟩, .slice none 0 0] 49))).cell? ⟨w.heap.size, 0, none⟩ = some (.slice a r.rules.length ca) := by simp [go_sem]
  have y0 : (((w.alloc (.cells #[.slice a r.rules.length ca, .slice b r.zones.length cb, .slice c r.links.length cc] 27)).alloc (.cells #[.string ⟨#[]⟩, .slice none 0 0] 49))).cell? ⟨w.heap.size, 1, none⟩ = some (.slice b r.zones.length cb) := by simp [go_sem]
  have z0 : (((w.alloc (.cells #[.slice a r.rules.length ca, .slice b r.zones.length cb, .slice c r.links.length cc] 27)).alloc (.cells #[.string ⟨#[]⟩, .slice none 0 0] 49))).cell? ⟨w.heap.size, 2, none⟩ = some (.slice c r.links.length cc) := by simp [go_sem]
  have r0 : (((w.alloc (.cells #[.slice a r.rules.length ca, .slice b r.zones.length cb, .slice c r.links.length cc] 27)).alloc (.cells #[.string ⟨#[]⟩, .slice none 0 0] 49))).cell? ⟨w.heap.size + 1, 0, none⟩ = some (.string ⟨#[]⟩) := by simp [go_sem]
  have s0 : (((w.alloc (.cells #[.slice a r.rules.length ca, .slice b r.zones.length cb, .slice c r.links.length cc] 27)).alloc (.cells #[.string ⟨#[]⟩, .slice none 0 0] 49))).cell? ⟨w.heap.size + 1, 1, none⟩ = some (.slice none 0 0) := by simp [go_sem]
  have f0 : (((w.alloc (.cells #[.slice a r.rules.length ca, .slice b r.zones.length cb, .slice c r.links.length cc] 27)).alloc (.cells #[.string ⟨#[]⟩, .slice none 0 0] 49))).frozen? ⟨w.heap.size + 1, 0, none⟩ = false := by simp [go_sem]
  have g0 : (((w.alloc (.cells #[.slice a r.rules.length ca, .slice b r.zones.length cb, .slice c r.links.length cc] 27)).alloc (.cells #[.string ⟨#[]⟩, .slice none 0 0] 49))).frozen? ⟨w.heap.size + 1, 1, none⟩ = false := by simp [go_sem]
  by_cases hlong : 8000 < nm.size
  · have HZ : Hid (zoneD r nm = zeroZ) := by
      simp only [Hid]
      cases hr : relB r
      · exact zoneD_no hr
      · exact zoneD_none (rel_long hr hlong)
    rw [HZ.out]
    generalize ixI (zoneIx r.zones (linkTo r.links nm)) = ix at *
    go_enter Tryz.func20, Tryz.ntmps20
    go_wp2_with fail
    refine (hF _ (hv.below hB0)).mono ?_
    rintro e w1 ⟨rfl, hb1⟩
    have hB1 := hB0.trans (hb1.mono hB0.size)
    have x1 := ((bcell hb1).1 _ _ (World.block_lt_of_cell? _ _ x0)).trans x0
    have y1 := ((bcell hb1).1 _ _ (World.block_lt_of_cell? _ _ y0)).trans y0
    have z1 := ((bcell hb1).1 _ _ (World.block_lt_of_cell? _ _ z0)).trans z0
    have r1 := ((bcell hb1).1 _ _ (World.block_lt_of_cell? _ _ r0)).trans r0
    have s1 := ((bcell hb1).1 _ _ (World.block_lt_of_cell? _ _ s0)).trans s0
    have f1 := ((bcell hb1).2 _ _ (World.block_lt_of_cell? _ _ r0)).trans f0
    have g1 := ((bcell hb1).2 _ _ (World.block_lt_of_cell? _ _ s0)).trans g0
    clear hb1
    obtain ⟨t0, t1⟩ := set_two (v0 := .string ⟨#[]⟩) (v1 := .slice none 0 0) r1 s1
    go_wp2
    exact bodyPost_ret (v := .agg #[.string ⟨#[]⟩, .slice none 0 0]) (by simp [results, Tryz.results20, go_sem, t0, t1]) rfl ⟨_, rfl, ownEra_zero _ _, (hB1.setCell (show w.heap.size ≤ w.heap.size + 1 by omega) _).setCell (show w.heap.size ≤ w.heap.size + 1 by omega) _⟩
  cases hix : zoneIx r.zones (linkTo r.links nm) with
  | none =>
    rw [zoneD_none hix]
    rw [hix] at hF
    simp only [ixI] at hF
    clear hix
    go_enter Tryz.func20, Tryz.ntmps20
    go_wp2_with fail
    refine (hF _ (hv.below hB0)).mono ?_
    rintro e w1 ⟨rfl, hb1⟩
    have hB1 := hB0.trans (hb1.mono hB0.size)
    have x1 := ((bcell hb1).1 _ _ (World.block_lt_of_cell? _ _ x0)).trans x0
    have y1 := ((bcell hb1).1 _ _ (World.block_lt_of_cell? _ _ y0)).trans y0
    have z1 := ((bcell hb1).1 _ _ (World.block_lt_of_cell? _ _ z0)).trans z0
    have r1 := ((bcell hb1).1 _ _ (World.block_lt_of_cell? _ _ r0)).trans r0
    have s1 := ((bcell hb1).1 _ _ (World.block_lt_of_cell? _ _ s0)).trans s0
    have f1 := ((bcell hb1).2 _ _ (World.block_lt_of_cell? _ _ r0)).trans f0
    have g1 := ((bcell hb1).2 _ _ (World.block_lt_of_cell? _ _ s0)).trans g0
    clear hb1
    obtain ⟨t0, t1⟩ := set_two (v0 := .string ⟨#[]⟩) (v1 := .slice none 0 0) r1 s1
    go_wp2
    exact bodyPost_ret (v := .agg #[.string ⟨#[]⟩, .slice none 0 0]) (by simp [results, Tryz.results20, go_sem, t0, t1]) rfl ⟨_, rfl, ownEra_zero _ _, (hB1.setCell (show w.heap.size ≤ w.heap.size + 1 by omega) _).setCell (show w.heap.size ≤ w.heap.size + 1 by omega) _⟩
  | some i =>
    have hil := zoneIx_lt hix
    obtain ⟨z, hz⟩ : ∃ z, r.zones[i]? = some z := ⟨_, List.getElem?_eq_getElem hil⟩
    cases hr : relB r
    · rw [zoneD_no hr]
      rw [hix] at hF
      simp only [ixI] at hF
      rw [hr] at hS
      clear hix hr
      go_enter Tryz.func20, Tryz.ntmps20
      go_wp2_with fail
      refine (hF _ (hv.below hB0)).mono ?_
      rintro e w1 ⟨rfl, hb1⟩
      have hB1 := hB0.trans (hb1.mono hB0.size)
      have x1 := ((bcell hb1).1 _ _ (World.block_lt_of_cell? _ _ x0)).trans x0
      have y1 := ((bcell hb1).1 _ _ (World.block_lt_of_cell? _ _ y0)).trans y0
      have z1 := ((bcell hb1).1 _ _ (World.block_lt_of_cell? _ _ z0)).trans z0
      have r1 := ((bcell hb1).1 _ _ (World.block_lt_of_cell? _ _ r0)).trans r0
      have s1 := ((bcell hb1).1 _ _ (World.block_lt_of_cell? _ _ s0)).trans s0
      have f1 := ((bcell hb1).2 _ _ (World.block_lt_of_cell? _ _ r0)).trans f0
      have g1 := ((bcell hb1).2 _ _ (World.block_lt_of_cell? _ _ s0)).trans g0
      clear hb1
      go_wp2_with fail
      refine (hS _ (hv.below hB1)).mono ?_
      rintro e w2 ⟨rfl, hb2⟩
      have hB2 := hB1.trans (hb2.mono hB1.size)
      have x2 := ((bcell hb2).1 _ _ (World.block_lt_of_cell? _ _ x1)).trans x1
      have y2 := ((bcell hb2).1 _ _ (World.block_lt_of_cell? _ _ y1)).trans y1
      have z2 := ((bcell hb2).1 _ _ (World.block_lt_of_cell? _ _ z1)).trans z1
      have r2 := ((bcell hb2).1 _ _ (World.block_lt_of_cell? _ _ r1)).trans r1
      have s2 := ((bcell hb2).1 _ _ (World.block_lt_of_cell? _ _ s1)).trans s1
      have f2 := ((bcell hb2).2 _ _ (World.block_lt_of_cell? _ _ r1)).trans f1
      have g2 := ((bcell hb2).2 _ _ (World.block_lt_of_cell? _ _ s1)).trans g1
      clear hb2
      obtain ⟨t0, t1⟩ := set_two (v0 := .string ⟨#[]⟩) (v1 := .slice none 0 0) r2 s2
      go_wp2
      exact bodyPost_ret (v := .agg #[.string ⟨#[]⟩, .slice none 0 0]) (by simp [results, Tryz.results20, go_sem, t0, t1]) rfl ⟨_, rfl, ownEra_zero _ _, (hB2.setCell (show w.heap.size ≤ w.heap.size + 1 by omega) _).setCell (show w.heap.size ≤ w.heap.size + 1 by omega) _⟩
    · have hzok := rel_zoneok hr (List.mem_of_getElem? hz)
      have hel := m4 z (List.mem_of_getElem? hz)
      rw [zoneD_some hr hix hz]
      rw [hix] at hF
      simp only [ixI] at hF
      rw [hr] at hS
      clear hix hr
      obtain ⟨i0, hi, hz0, hz1, hz2⟩ := infoEra
      go_enter Tryz.func20, Tryz.ntmps20
      go_wp2_with fail
      refine (hF _ (hv.below hB0)).mono ?_
      rintro e w1 ⟨rfl, hb1⟩
      have hB1 := hB0.trans (hb1.mono hB0.size)
      have x1 := ((bcell hb1).1 _ _ (World.block_lt_of_cell? _ _ x0)).trans x0
      have y1 := ((bcell hb1).1 _ _ (World.block_lt_of_cell? _ _ y0)).trans y0
      have z1 := ((bcell hb1).1 _ _ (World.block_lt_of_cell? _ _ z0)).trans z0
      have r1 := ((bcell hb1).1 _ _ (World.block_lt_of_cell? _ _ r0)).trans r0
      have s1 := ((bcell hb1).1 _ _ (World.block_lt_of_cell? _ _ s0)).trans s0
      have f1 := ((bcell hb1).2 _ _ (World.block_lt_of_cell? _ _ r0)).trans f0
      have g1 := ((bcell hb1).2 _ _ (World.block_lt_of_cell? _ _ s0)).trans g0
      clear hb1
      go_wp2_with fail
      refine (hS _ (hv.below hB1)).mono ?_
      rintro e w2 ⟨rfl, hb2⟩
      have hB2 := hB1.trans (hb2.mono hB1.size)
      have x2 := ((bcell hb2).1 _ _ (World.block_lt_of_cell? _ _ x1)).trans x1
      have y2 := ((bcell hb2).1 _ _ (World.block_lt_of_cell? _ _ y1)).trans y1
      have z2 := ((bcell hb2).1 _ _ (World.block_lt_of_cell? _ _ z1)).trans z1
      have r2 := ((bcell hb2).1 _ _ (World.block_lt_of_cell? _ _ r1)).trans r1
      have s2 := ((bcell hb2).1 _ _ (World.block_lt_of_cell? _ _ s1)).trans s1
      have f2 := ((bcell hb2).2 _ _ (World.block_lt_of_cell? _ _ r1)).trans f1
      have g2 := ((bcell hb2).2 _ _ (World.block_lt_of_cell? _ _ s1)).trans g1
      clear hb2 hS hF
      obtain ⟨b', o', rfl, c0, u, c1, hu⟩ := (hAz.below hB2).at hz
      obtain ⟨ae, ce, rfl, hE⟩ := hu
      obtain ⟨e0, he0⟩ : ∃ e, z.eras[0]? = some e := ⟨_, List.getElem?_eq_getElem hzok.1⟩
      obtain ⟨be, oe, rfl, _⟩ := hE.at (i := 0) (r := e0.cs) (by rw [List.getElem?_map, he0]; rfl)
      have HC : Hid (∀ j u, (flatE z.eras)[j]? = some u → w2.cell? ⟨be, oe + j, none⟩ = some u) := flatE_cells hE
      have i1 : (0 : Int) ≤ (i : Int) := by omega
      have i2 : (i : Int) < (r.zones.length : Int) := by omega
      clear hE he0
      have hO : ((w2.alloc (.cells #[.string z.name, .slice (some ⟨be, oe, none⟩) z.eras.length ce] 49)).alloc (.cells #[] 55)).ownsRow (w2.heap.size + 1) 55 6 (.slice (some ⟨w2.heap.size + 1, 0, none⟩) 0 0) 0 [] := by have := ownE_empty (w2.alloc (.cells #[.string z.name, .slice (some ⟨be, oe, none⟩) z.eras.length ce] 49)) 55; simpa using this
      go_wp2_with (at_builtin; refine wpList_append_own _ rfl _ _ 47 rfl (w2.heap.size + 1) 55 i0 _ 6 72 Tryz.underlying47 hi hz0 hz1 hz2 rfl (by decide) _ _ _ rfl hO ⟨be, oe, none⟩ z.eras.length ce (flatE z.eras) rfl ?qc1 ?qc2 ?qc3 ?qc4 ?qc5 ?qc6 ?_)
      case qc1 => exact flatE_len _
      case qc2 =>
        intro j u hj
        rw [Addr.add_lit]
        exact Lib.cell?_alloc_some _ (Lib.cell?_alloc_some _ (HC.out j u hj))
      case qc3 => exact flatE_one
      case qc4 => unfold maxLen; omega
      case qc5 => omega
      case qc6 => simp
      intro v' w3 hown hgrow hnil
      have hbV : Below w2.heap.size w2 (w2.alloc (.cells #[.string z.name, .slice (some ⟨be, oe, none⟩) z.eras.length ce] 49)) := (Below.refl w2.heap.size w2).alloc (Nat.le_refl _) _
      have hb3 : Below (w2.heap.size + 1) (w2.alloc (.cells #[.string z.name, .slice (some ⟨be, oe, none⟩) z.eras.length ce] 49)) w3 := ((Below.refl _ _).alloc (by simp) _).grown hgrow (by simp) (by intro k hk; simp [Value.ownBlock] at hk; omega)
      have hb3' : Below (w2.alloc (.cells #[.string z.name, .slice (some ⟨be, oe, none⟩) z.eras.length ce] 49)).heap.size (w2.alloc (.cells #[.string z.name, .slice (some ⟨be, oe, none⟩) z.eras.length ce] 49)) w3 := by simpa using hb3
      have hOE := own_eras (by simpa using hown) hzok.1
      have hbw : Below w2.heap.size w2 w3 := hbV.trans (hb3.mono (by omega))
      have hB3 := hB2.trans (hbw.mono hB2.size)
      have k0 : w3.cell? ⟨w2.heap.size, 0, none⟩ = some (.string z.name) := ((bcell hb3').1 _ _ (by simp)).trans (by simp [go_sem])
      have k1 : w3.cell? ⟨w2.heap.size, 1, none⟩ = some (.slice (some ⟨be, oe, none⟩) z.eras.length ce) := ((bcell hb3').1 _ _ (by simp)).trans (by simp [go_sem])
      have kf : w3.frozen? ⟨w2.heap.size, 1, none⟩ = false := ((bcell hb3').2 _ _ (by simp)).trans (by simp [go_sem])
      have r3 := ((bcell hbw).1 _ _ (World.block_lt_of_cell? _ _ r2)).trans r2
      have s3 := ((bcell hbw).1 _ _ (World.block_lt_of_cell? _ _ s2)).trans s2
      have f3 := ((bcell hbw).2 _ _ (World.block_lt_of_cell? _ _ r2)).trans f2
      have g3 := ((bcell hbw).2 _ _ (World.block_lt_of_cell? _ _ s2)).trans g2
      have hsz2 : w.heap.size + 1 < w2.heap.size := World.block_lt_of_cell? _ _ r2
      clear hown hgrow hbV hb3 hb3' hbw HC x0 y0 z0 r0 s0 f0 g0 x1 y1 z1 r1 s1 f1 g1 x2 y2 z2 r2 s2 f2 g2 c0 c1
      rcases hOE with ⟨h0, _⟩ | ⟨g, cap, rfl, hg, hlg, hq1, hq2⟩
      · rw [h0] at hzok; simp at hzok
      have hOE : OwnEra w3 (w2.heap.size + 1) (.slice (some ⟨g, 0, none⟩) z.eras.length cap) z.eras := .inr ⟨g, cap, rfl, hg, hlg, hq1, hq2⟩
      clear hq1 hq2
      have K1 := World.cell?_setCell_same w3 _ (.slice (some ⟨g, 0, none⟩) z.eras.length cap) k1
      have K0 : (w3.setCell ⟨w2.heap.size, 1, none⟩ (.slice (some ⟨g, 0, none⟩) z.eras.length cap)).cell? ⟨w2.heap.size, 0, none⟩ = some (.string z.name) := by rw [World.cell?_setCell_other _ _ _ _ (by simp)]; exact k0
      have R4 : (w3.setCell ⟨w2.heap.size, 1, none⟩ (.slice (some ⟨g, 0, none⟩) z.eras.length cap)).cell? ⟨w.heap.size + 1, 0, none⟩ = some (.string ⟨#[]⟩) := by rw [World.cell?_setCell_other _ _ _ _ (ne_blk2 (by omega))]; exact r3
      have S4 : (w3.setCell ⟨w2.heap.size, 1, none⟩ (.slice (some ⟨g, 0, none⟩) z.eras.length cap)).cell? ⟨w.heap.size + 1, 1, none⟩ = some (.slice none 0 0) := by rw [World.cell?_setCell_other _ _ _ _ (ne_blk2 (by omega))]; exact s3
      obtain ⟨t0, t1⟩ := set_two (v0 := .string z.name) (v1 := .slice (some ⟨g, 0, none⟩) z.eras.length cap) R4 S4
      have hEnd := ((hOE.set (p := w2.heap.size) (i := 1) (by omega) (.slice (some ⟨g, 0, none⟩) z.eras.length cap)).set (p := w.heap.size + 1) (i := 0) (by omega) (.string z.name)).set (p := w.heap.size + 1) (i := 1) (by omega) (.slice (some ⟨g, 0, none⟩) z.eras.length cap)
      go_wp2
      exact bodyPost_ret (v := .agg #[.string z.name, .slice (some ⟨g, 0, none⟩) z.eras.length cap]) (by simp [results, Tryz.results20, go_sem, t0, t1]) rfl ⟨_, rfl, hEnd.mono (by omega), ((hB3.setCell (show w.heap.size ≤ w2.heap.size by omega) _).setCell (show w.heap.size ≤ w.heap.size + 1 by omega) _).setCell (show w.heap.size ≤ w.heap.size + 1 by omega) _⟩
end Go.Proofs.YtjdokmllidhapaaGreatDoor
namespace Go.Proofs.YtjdokmllidhapaaGreatDoor
open Go.RowKit Go.Sort

theorem impl_cloneEra2 (es : List EraD) (b o cap : Nat) (w : World) (hA : SeqAt w (some ⟨b, o, none⟩) 6 (es.map EraD.cs)) (hn : 0 < es.length) (hl : es.length ≤ 1048576) :
    Calls Tryz.prog 89 #[.slice (some ⟨b, o, none⟩) es.length cap] w fun e w' => ∃ g cap2, e = .returned (.slice (some ⟨g, 0, none⟩) es.length cap2) ∧ w.heap.size ≤ g ∧ OwnEra w' w.heap.size (.slice (some ⟨g, 0, none⟩) es.length cap2) es ∧ Below w.heap.size w w' := by
  refine (impl_cloneEra es b o cap w hA hn hl).mono ?_
  rintro e w' ⟨v', rfl, hO, hb⟩
  rcases hO with ⟨h0, _⟩ | ⟨g, cap2, rfl, hg, rest⟩
  · rw [h0] at hn; simp at hn
  · exact ⟨g, cap2, rfl, hg, .inr ⟨g, cap2, rfl, hg, rest⟩, hb⟩
set_option maxRecDepth 20000 in
set_option maxHeartbeats 8000000 in
theorem impl_ZoneOf (r : RelD) (v : Value) (nm : ByteArray) (w : World) (hEnv : EnvZ w) (hv : RelAt w v r) (ok : r.ok) (sm : r.small) (hon : ∀ x ∈ r.rules, x.on.size ≤ 1048576) :
    Calls Tryz.prog 30 #[v, .string nm] w fun e w' => ∃ v', e = .returned (.agg #[.string (zoneD r nm).name, v']) ∧ OwnEra w' w.heap.size v' (zoneD r nm).eras ∧ Below w.heap.size w w' := by
  obtain ⟨a, b, c, ca, cb, cc, hvv, _, hAz, hAl⟩ := hv.form
  have hI := fun w hE (h : RelAt w v r) => impl_ReleaseRight r v w hE h ok sm hon
  obtain ⟨m1, m2, m3, m4⟩ := sm
  subst hvv
  have hB0 := ((Below.refl w.heap.size w).alloc (Nat.le_refl _) (.cells #[.slice a r.rules.length ca, .slice b r.zones.length cb, .slice c r.links.length cc] 27)).alloc (by simp) (.cells #[.string ⟨#[]⟩, .slice none 0 0] 49)
  have x0 : (((w.alloc (.cells #[.slice a r.rules.length ca, .slice b r.zones.length cb, .slice c r.links.length cc] 27)).alloc (.cells #[.string ⟨#[]⟩, .slice none 0 0] 49))).cell? ⟨w.heap.size, 0, none⟩ = some (.slice a r.rules.length ca) := by simp [go_sem]
  have y0 : (((w.alloc (.cells #[.slice a r.rules.length ca, .slice b r.zones.length cb, .slice c r.links.length cc] 27)).alloc (.cells #[.string ⟨#[]⟩, .slice none 0 0] 49))).cell? ⟨w.heap.size, 1, none⟩ = some (.slice b r.zones.length cb) := by simp [go_sem]
  have z0 : (((w.alloc (.cells #[.slice a r.rules.length ca, .slice b r.zones.length cb, .slice c r.links.length cc] 27)).alloc (.cells #[.string ⟨#[]⟩, .slice none 0 0] 49))).cell? ⟨w.heap.size, 2, none⟩ = some (.slice c r.links.length cc) := by simp [go_sem]
  have r0 : (((w.alloc (.cells #[.slice a r.rules.length ca, .slice b r.zones.length cb, .slice c r.links.length cc] 27)).alloc (.cells #[.string ⟨#[]⟩, .slice none 0 0] 49))).cell? ⟨w.heap.size + 1, 0, none⟩ = some (.string ⟨#[]⟩) := by simp [go_sem]
  have s0 : (((w.alloc (.cells #[.slice a r.rules.length ca, .slice b r.zones.length cb, .slice c r.links.length cc] 27)).alloc (.cells #[.string ⟨#[]⟩, .slice none 0 0] 49))).cell? ⟨w.heap.size + 1, 1, none⟩ = some (.slice none 0 0) := by simp [go_sem]
  have f0 : (((w.alloc (.cells #[.slice a r.rules.length ca, .slice b r.zones.length cb, .slice c r.links.length cc] 27)).alloc (.cells #[.string ⟨#[]⟩, .slice none 0 0] 49))).frozen? ⟨w.heap.size + 1, 0, none⟩ = false := by simp [go_sem]
  have g0 : (((w.alloc (.cells #[.slice a r.rules.length ca, .slice b r.zones.length cb, .slice c r.links.length cc] 27)).alloc (.cells #[.string ⟨#[]⟩, .slice none 0 0] 49))).frozen? ⟨w.heap.size + 1, 1, none⟩ = false := by simp [go_sem]
  cases hrb : relB r
  · rw [zoneD_no hrb]
    rw [hrb] at hI
    clear hrb
    go_enter Tryz.func30, Tryz.ntmps30
    go_wp2_with fail
    refine (hI _ (hEnv.of_below hB0) (hv.below hB0)).mono ?_
    rintro e w1 ⟨rfl, hb1⟩
    have hB1 := hB0.trans (hb1.mono hB0.size)
    have y1 := ((bcell hb1).1 _ _ (World.block_lt_of_cell? _ _ y0)).trans y0
    have z1 := ((bcell hb1).1 _ _ (World.block_lt_of_cell? _ _ z0)).trans z0
    have r1 := ((bcell hb1).1 _ _ (World.block_lt_of_cell? _ _ r0)).trans r0
    have s1 := ((bcell hb1).1 _ _ (World.block_lt_of_cell? _ _ s0)).trans s0
    have f1 := ((bcell hb1).2 _ _ (World.block_lt_of_cell? _ _ r0)).trans f0
    have g1 := ((bcell hb1).2 _ _ (World.block_lt_of_cell? _ _ s0)).trans g0
    clear hb1
    obtain ⟨t0, t1⟩ := set_two (v0 := .string ⟨#[]⟩) (v1 := .slice none 0 0) r1 s1
    go_wp2
    exact bodyPost_ret (v := .agg #[.string ⟨#[]⟩, .slice none 0 0]) (by simp [results, Tryz.results30, go_sem, t0, t1]) rfl ⟨.slice none 0 0, rfl, ownEra_zero _ _, (hB1.setCell (show w.heap.size ≤ w.heap.size + 1 by omega) _).setCell (show w.heap.size ≤ w.heap.size + 1 by omega) _⟩
  have hr : Hid (relB r = true) := hrb
  rw [hrb] at hI
  clear hrb
  go_enter Tryz.func30, Tryz.ntmps30
  go_wp2_with fail
  refine (hI _ (hEnv.of_below hB0) (hv.below hB0)).mono ?_
  rintro e w1 ⟨rfl, hb1⟩
  have hB1 := hB0.trans (hb1.mono hB0.size)
  have y1 := ((bcell hb1).1 _ _ (World.block_lt_of_cell? _ _ y0)).trans y0
  have z1 := ((bcell hb1).1 _ _ (World.block_lt_of_cell? _ _ z0)).trans z0
  have r1 := ((bcell hb1).1 _ _ (World.block_lt_of_cell? _ _ r0)).trans r0
  have s1 := ((bcell hb1).1 _ _ (World.block_lt_of_cell? _ _ s0)).trans s0
  have f1 := ((bcell hb1).2 _ _ (World.block_lt_of_cell? _ _ r0)).trans f0
  have g1 := ((bcell hb1).2 _ _ (World.block_lt_of_cell? _ _ s0)).trans g0
  clear hb1 hI x0 y0 z0 r0 s0 f0 g0
  go_wp2
  go_loopw [1, 16] (fun s i wr => ∃ k : Nat, k ≤ r.links.length ∧ s = .string nm ∧ i = .int .i64 k ∧ Hid (∀ j, j < k → ∀ y, r.links[j]? = some y → (y.name.toList == nm.toList) = false) ∧ Below w1.heap.size w1 wr) (fun _ i _ => r.links.length - (intOf i).toNat)
  case atStart => exact ⟨0, by omega, rfl, rfl, fun j hj => by omega, Below.refl _ _⟩
  case round =>
    obtain ⟨k, hk, rfl, rfl, hall, hb2⟩ := hrel
    have hBw := hB1.trans (hb2.mono hB1.size)
    by_cases hlt : k < r.links.length
    · obtain ⟨x, hx⟩ : ∃ x, r.links[k]? = some x := ⟨_, List.getElem?_eq_getElem hlt⟩
      obtain ⟨b', o, rfl, hc⟩ := (hAl.below hBw).at (i := k) (r := x.cs) (by rw [List.getElem?_map, hx]; rfl)
      have c0 : wr.cell? ⟨b', o + k * 2, none⟩ = some (.string x.to_) := hc 0 _ rfl
      have c1 := hc 1 _ rfl
      clear hc
      have hbl : Below wr.heap.size wr (wr.alloc (.cells #[.string x.to_, .string x.name] 108)) := (Below.refl wr.heap.size wr).alloc (Nat.le_refl _) _
      have hb2' := hb2.trans (hbl.mono hb2.size)
      cases hb : (x.name.toList == nm.toList)
      · have HR : Hid (∀ j, j < k + 1 → ∀ y, r.links[j]? = some y → (y.name.toList == nm.toList) = false) := fun j hj y hy => by
          by_cases e : j = k
          · subst e; rw [hx] at hy; obtain rfl := Option.some.inj hy; exact hb
          · exact hall.out j (by omega) y hy
        go_wp2
        go_roundw
        case rel => exact ⟨k + 1, by omega, rfl, by go_num, HR, hb2'⟩
        case measure => simp [intOf]; omega
      · have HL : Hid (linkTo r.links nm = x.to_) := link_hit hx hb hall.out
        have hBC := hB1.trans (hb2'.mono hB1.size)
        have y2 := ((bcell hb2').1 _ _ (World.block_lt_of_cell? _ _ y1)).trans y1
        have z2 := ((bcell hb2').1 _ _ (World.block_lt_of_cell? _ _ z1)).trans z1
        have r2 := ((bcell hb2').1 _ _ (World.block_lt_of_cell? _ _ r1)).trans r1
        have s2 := ((bcell hb2').1 _ _ (World.block_lt_of_cell? _ _ s1)).trans s1
        have f2 := ((bcell hb2').2 _ _ (World.block_lt_of_cell? _ _ r1)).trans f1
        have g2 := ((bcell hb2').2 _ _ (World.block_lt_of_cell? _ _ s1)).trans g1
        clear hall y1 z1 r1 s1 f1 g1
        go_wp2
        clear hbl hb2 hBw hb2' c0 c1
        generalize (wr.alloc (.cells #[.string x.to_, .string x.name] 108)) = C at *
        go_loopw [30] (fun i wr => ∃ k : Nat, k ≤ r.zones.length ∧ i = .int .i64 k ∧ Hid (∀ j, j < k → ∀ y, r.zones[j]? = some y → (y.name.toList == x.to_.toList) = false) ∧ Below C.heap.size C wr) (fun i _ => r.zones.length - (intOf i).toNat)
        case atStart => exact ⟨0, by omega, rfl, fun j hj => by omega, Below.refl _ _⟩
        case round =>
          obtain ⟨k, hk, rfl, hall, hb3⟩ := hrel
          have hB3 := hBC.trans (hb3.mono hBC.size)
          have y3 := ((bcell hb3).1 _ _ (World.block_lt_of_cell? _ _ y2)).trans y2
          have z3 := ((bcell hb3).1 _ _ (World.block_lt_of_cell? _ _ z2)).trans z2
          have r3 := ((bcell hb3).1 _ _ (World.block_lt_of_cell? _ _ r2)).trans r2
          have s3 := ((bcell hb3).1 _ _ (World.block_lt_of_cell? _ _ s2)).trans s2
          have f3 := ((bcell hb3).2 _ _ (World.block_lt_of_cell? _ _ r2)).trans f2
          have g3 := ((bcell hb3).2 _ _ (World.block_lt_of_cell? _ _ s2)).trans g2
          by_cases hlt2 : k < r.zones.length
          · obtain ⟨z, hz⟩ : ∃ z, r.zones[k]? = some z := ⟨_, List.getElem?_eq_getElem hlt2⟩
            have hzok := rel_zoneok hr.out (List.mem_of_getElem? hz)
            have hel := m4 z (List.mem_of_getElem? hz)
            obtain ⟨b', o, rfl, c0, u, c1, hu⟩ := (hAz.below hB3).at hz
            obtain ⟨ae, ce, rfl, hE⟩ := hu
            obtain ⟨e0, he0⟩ : ∃ e, z.eras[0]? = some e := ⟨_, List.getElem?_eq_getElem hzok.1⟩
            obtain ⟨be, oe, rfl, _⟩ := hE.at (i := 0) (r := e0.cs) (by rw [List.getElem?_map, he0]; rfl)
            clear he0
            have hb4 : Below wr.heap.size wr (wr.alloc (.cells #[.string z.name, .slice (some ⟨be, oe, none⟩) z.eras.length ce] 49)) := (Below.refl wr.heap.size wr).alloc (Nat.le_refl _) _
            cases hb : (z.name.toList == x.to_.toList)
            · have HR : Hid (∀ j, j < k + 1 → ∀ y, r.zones[j]? = some y → (y.name.toList == x.to_.toList) = false) := fun j hj y hy => by
                by_cases e : j = k
                · subst e; rw [hz] at hy; obtain rfl := Option.some.inj hy; exact hb
                · exact hall.out j (by omega) y hy
              go_wp2
              go_roundw
              case rel => exact ⟨k + 1, by omega, by go_num, HR, hb3.trans (hb4.mono hb3.size)⟩
              case measure => simp [intOf]; omega
            · have HZ : Hid (zoneD r nm = z) := zoneD_some hr.out (by rw [HL.out]; exact zone_hit hz hb hall.out) hz
              have hB4 := hB3.trans (hb4.mono hB3.size)
              have y4 := ((bcell hb4).1 _ _ (World.block_lt_of_cell? _ _ y3)).trans y3
              have z4 := ((bcell hb4).1 _ _ (World.block_lt_of_cell? _ _ z3)).trans z3
              have r4 := ((bcell hb4).1 _ _ (World.block_lt_of_cell? _ _ r3)).trans r3
              have s4 := ((bcell hb4).1 _ _ (World.block_lt_of_cell? _ _ s3)).trans s3
              have f4 := ((bcell hb4).2 _ _ (World.block_lt_of_cell? _ _ r3)).trans f3
              have g4 := ((bcell hb4).2 _ _ (World.block_lt_of_cell? _ _ s3)).trans g3
              have hD : Below (wr.alloc (.cells #[.string z.name, .slice (some ⟨be, oe, none⟩) z.eras.length ce] 49)).heap.size (wr.alloc (.cells #[.string z.name, .slice (some ⟨be, oe, none⟩) z.eras.length ce] 49)) (wr.alloc (.cells #[.string z.name, .slice (some ⟨be, oe, none⟩) z.eras.length ce] 49)).drew := ⟨rfl, rfl, rfl, Nat.le_refl _, fun _ _ => rfl⟩
              have hBD := hB4.trans (hD.mono hB4.size)
              have k0 : (wr.alloc (.cells #[.string z.name, .slice (some ⟨be, oe, none⟩) z.eras.length ce] 49)).drew.cell? ⟨wr.heap.size, 0, none⟩ = some (.string z.name) := by simp [go_sem]
              have k1 : (wr.alloc (.cells #[.string z.name, .slice (some ⟨be, oe, none⟩) z.eras.length ce] 49)).drew.cell? ⟨wr.heap.size, 1, none⟩ = some (.slice (some ⟨be, oe, none⟩) z.eras.length ce) := by simp [go_sem]
              have r5 : (wr.alloc (.cells #[.string z.name, .slice (some ⟨be, oe, none⟩) z.eras.length ce] 49)).drew.cell? ⟨w.heap.size + 1, 0, none⟩ = some (.string ⟨#[]⟩) := r4
              have s5 : (wr.alloc (.cells #[.string z.name, .slice (some ⟨be, oe, none⟩) z.eras.length ce] 49)).drew.cell? ⟨w.heap.size + 1, 1, none⟩ = some (.slice none 0 0) := s4
              have f5 : (wr.alloc (.cells #[.string z.name, .slice (some ⟨be, oe, none⟩) z.eras.length ce] 49)).drew.frozen? ⟨w.heap.size + 1, 0, none⟩ = false := f4
              have g5 : (wr.alloc (.cells #[.string z.name, .slice (some ⟨be, oe, none⟩) z.eras.length ce] 49)).drew.frozen? ⟨w.heap.size + 1, 1, none⟩ = false := g4
              have hK := impl_cloneEra2 z.eras be oe ce (wr.alloc (.cells #[.string z.name, .slice (some ⟨be, oe, none⟩) z.eras.length ce] 49)).drew ((hE.below hb4).below hD) hzok.1 hel
              have hsz : w.heap.size + 1 < wr.heap.size := World.block_lt_of_cell? _ _ r3
              have hszD : (wr.alloc (.cells #[.string z.name, .slice (some ⟨be, oe, none⟩) z.eras.length ce] 49)).drew.heap.size = wr.heap.size + 1 := by show (wr.alloc (.cells #[.string z.name, .slice (some ⟨be, oe, none⟩) z.eras.length ce] 49)).heap.size = _; simp
              have hne : w.heap.size + 1 ≠ wr.heap.size := by omega
              have hne2 : wr.heap.size ≠ w.heap.size + 1 := by omega
              clear hE hall hb3 hB3 hB4 hb4
              go_wp2_with fail
              go_region_held3 (fun w' => w'.cell? ⟨wr.heap.size, 0, none⟩ = some (.string z.name) ∧ w'.cell? ⟨wr.heap.size, 1, none⟩ = some (.slice (some ⟨be, oe, none⟩) z.eras.length ce)) (go_keep) (first | (go_at_call 89; refine hK.mono ?_; rintro e w6 ⟨g, cap, rfl, hg, hOE, hb6⟩; have p0 := ((bcell hb6).1 _ _ (World.block_lt_of_cell? _ _ k0)).trans k0; have p1 := ((bcell hb6).1 _ _ (World.block_lt_of_cell? _ _ k1)).trans k1; have r6 := ((bcell hb6).1 _ _ (World.block_lt_of_cell? _ _ r5)).trans r5; have s6 := ((bcell hb6).1 _ _ (World.block_lt_of_cell? _ _ s5)).trans s5; have f6 := ((bcell hb6).2 _ _ (World.block_lt_of_cell? _ _ r5)).trans f5; have g6 := ((bcell hb6).2 _ _ (World.block_lt_of_cell? _ _ s5)).trans g5; have hB6 := hBD.trans (hb6.mono hBD.size)))
              obtain ⟨t0, t1⟩ := set_two (v0 := .string z.name) (v1 := .slice (some ⟨g, 0, none⟩) z.eras.length cap) r6 s6
              have hEnd := (hOE.set (p := w.heap.size + 1) (i := 0) (by omega) (.string z.name)).set (p := w.heap.size + 1) (i := 1) (by omega) (.slice (some ⟨g, 0, none⟩) z.eras.length cap)
              go_wp2
              exact bodyPost_ret (v := .agg #[.string z.name, .slice (some ⟨g, 0, none⟩) z.eras.length cap]) (by simp [results, Tryz.results30, go_sem, t0, t1]) rfl ⟨.slice (some ⟨g, 0, none⟩) z.eras.length cap, by rw [HZ.out], by rw [HZ.out]; exact hEnd.mono (by omega), (hB6.setCell (show w.heap.size ≤ w.heap.size + 1 by omega) _).setCell (show w.heap.size ≤ w.heap.size + 1 by omega) _⟩
          · have e : k = r.zones.length := by omega
            subst e
            have HZ : Hid (zoneD r nm = zeroZ) := zoneD_none (by rw [HL.out]; exact zone_none hall.out)
            obtain ⟨t0, t1⟩ := set_two (v0 := .string ⟨#[]⟩) (v1 := .slice none 0 0) r3 s3
            go_wp2
            exact bodyPost_ret (v := .agg #[.string ⟨#[]⟩, .slice none 0 0]) (by simp [results, Tryz.results30, go_sem, t0, t1]) rfl ⟨.slice none 0 0, by rw [HZ.out]; rfl, by rw [HZ.out]; exact ownEra_zero _ _, (hB3.setCell (show w.heap.size ≤ w.heap.size + 1 by omega) _).setCell (show w.heap.size ≤ w.heap.size + 1 by omega) _⟩
    · have e : k = r.links.length := by omega
      subst e
      have HL : Hid (linkTo r.links nm = nm) := link_none hall.out
      have hBC := hBw
      have y2 := ((bcell hb2).1 _ _ (World.block_lt_of_cell? _ _ y1)).trans y1
      have z2 := ((bcell hb2).1 _ _ (World.block_lt_of_cell? _ _ z1)).trans z1
      have r2 := ((bcell hb2).1 _ _ (World.block_lt_of_cell? _ _ r1)).trans r1
      have s2 := ((bcell hb2).1 _ _ (World.block_lt_of_cell? _ _ s1)).trans s1
      have f2 := ((bcell hb2).2 _ _ (World.block_lt_of_cell? _ _ r1)).trans f1
      have g2 := ((bcell hb2).2 _ _ (World.block_lt_of_cell? _ _ s1)).trans g1
      clear hall y1 z1 r1 s1 f1 g1 hBw
      go_wp2
      clear hb2
      obtain ⟨C, rfl⟩ : ∃ C, C = wr := ⟨_, rfl⟩
      go_loopw [30] (fun i wr => ∃ k : Nat, k ≤ r.zones.length ∧ i = .int .i64 k ∧ Hid (∀ j, j < k → ∀ y, r.zones[j]? = some y → (y.name.toList == nm.toList) = false) ∧ Below C.heap.size C wr) (fun i _ => r.zones.length - (intOf i).toNat)
      case atStart => exact ⟨0, by omega, rfl, fun j hj => by omega, Below.refl _ _⟩
      case round =>
        obtain ⟨k, hk, rfl, hall, hb3⟩ := hrel
        have hB3 := hBC.trans (hb3.mono hBC.size)
        have y3 := ((bcell hb3).1 _ _ (World.block_lt_of_cell? _ _ y2)).trans y2
        have z3 := ((bcell hb3).1 _ _ (World.block_lt_of_cell? _ _ z2)).trans z2
        have r3 := ((bcell hb3).1 _ _ (World.block_lt_of_cell? _ _ r2)).trans r2
        have s3 := ((bcell hb3).1 _ _ (World.block_lt_of_cell? _ _ s2)).trans s2
        have f3 := ((bcell hb3).2 _ _ (World.block_lt_of_cell? _ _ r2)).trans f2
        have g3 := ((bcell hb3).2 _ _ (World.block_lt_of_cell? _ _ s2)).trans g2
        by_cases hlt2 : k < r.zones.length
        · obtain ⟨z, hz⟩ : ∃ z, r.zones[k]? = some z := ⟨_, List.getElem?_eq_getElem hlt2⟩
          have hzok := rel_zoneok hr.out (List.mem_of_getElem? hz)
          have hel := m4 z (List.mem_of_getElem? hz)
          obtain ⟨b', o, rfl, c0, u, c1, hu⟩ := (hAz.below hB3).at hz
          obtain ⟨ae, ce, rfl, hE⟩ := hu
          obtain ⟨e0, he0⟩ : ∃ e, z.eras[0]? = some e := ⟨_, List.getElem?_eq_getElem hzok.1⟩
          obtain ⟨be, oe, rfl, _⟩ := hE.at (i := 0) (r := e0.cs) (by rw [List.getElem?_map, he0]; rfl)
          clear he0
          have hb4 : Below wr.heap.size wr (wr.alloc (.cells #[.string z.name, .slice (some ⟨be, oe, none⟩) z.eras.length ce] 49)) := (Below.refl wr.heap.size wr).alloc (Nat.le_refl _) _
          cases hb : (z.name.toList == nm.toList)
          · have HR : Hid (∀ j, j < k + 1 → ∀ y, r.zones[j]? = some y → (y.name.toList == nm.toList) = false) := fun j hj y hy => by
              by_cases e : j = k
              · subst e; rw [hz] at hy; obtain rfl := Option.some.inj hy; exact hb
              · exact hall.out j (by omega) y hy
            go_wp2
            go_roundw
            case rel => exact ⟨k + 1, by omega, by go_num, HR, hb3.trans (hb4.mono hb3.size)⟩
            case measure => simp [intOf]; omega
          · have HZ : Hid (zoneD r nm = z) := zoneD_some hr.out (by rw [HL.out]; exact zone_hit hz hb hall.out) hz
            have hB4 := hB3.trans (hb4.mono hB3.size)
            have y4 := ((bcell hb4).1 _ _ (World.block_lt_of_cell? _ _ y3)).trans y3
            have z4 := ((bcell hb4).1 _ _ (World.block_lt_of_cell? _ _ z3)).trans z3
            have r4 := ((bcell hb4).1 _ _ (World.block_lt_of_cell? _ _ r3)).trans r3
            have s4 := ((bcell hb4).1 _ _ (World.block_lt_of_cell? _ _ s3)).trans s3
            have f4 := ((bcell hb4).2 _ _ (World.block_lt_of_cell? _ _ r3)).trans f3
            have g4 := ((bcell hb4).2 _ _ (World.block_lt_of_cell? _ _ s3)).trans g3
            have hD : Below (wr.alloc (.cells #[.string z.name, .slice (some ⟨be, oe, none⟩) z.eras.length ce] 49)).heap.size (wr.alloc (.cells #[.string z.name, .slice (some ⟨be, oe, none⟩) z.eras.length ce] 49)) (wr.alloc (.cells #[.string z.name, .slice (some ⟨be, oe, none⟩) z.eras.length ce] 49)).drew := ⟨rfl, rfl, rfl, Nat.le_refl _, fun _ _ => rfl⟩
            have hBD := hB4.trans (hD.mono hB4.size)
            have k0 : (wr.alloc (.cells #[.string z.name, .slice (some ⟨be, oe, none⟩) z.eras.length ce] 49)).drew.cell? ⟨wr.heap.size, 0, none⟩ = some (.string z.name) := by simp [go_sem]
            have k1 : (wr.alloc (.cells #[.string z.name, .slice (some ⟨be, oe, none⟩) z.eras.length ce] 49)).drew.cell? ⟨wr.heap.size, 1, none⟩ = some (.slice (some ⟨be, oe, none⟩) z.eras.length ce) := by simp [go_sem]
            have r5 : (wr.alloc (.cells #[.string z.name, .slice (some ⟨be, oe, none⟩) z.eras.length ce] 49)).drew.cell? ⟨w.heap.size + 1, 0, none⟩ = some (.string ⟨#[]⟩) := r4
            have s5 : (wr.alloc (.cells #[.string z.name, .slice (some ⟨be, oe, none⟩) z.eras.length ce] 49)).drew.cell? ⟨w.heap.size + 1, 1, none⟩ = some (.slice none 0 0) := s4
            have f5 : (wr.alloc (.cells #[.string z.name, .slice (some ⟨be, oe, none⟩) z.eras.length ce] 49)).drew.frozen? ⟨w.heap.size + 1, 0, none⟩ = false := f4
            have g5 : (wr.alloc (.cells #[.string z.name, .slice (some ⟨be, oe, none⟩) z.eras.length ce] 49)).drew.frozen? ⟨w.heap.size + 1, 1, none⟩ = false := g4
            have hK := impl_cloneEra2 z.eras be oe ce (wr.alloc (.cells #[.string z.name, .slice (some ⟨be, oe, none⟩) z.eras.length ce] 49)).drew ((hE.below hb4).below hD) hzok.1 hel
            have hsz : w.heap.size + 1 < wr.heap.size := World.block_lt_of_cell? _ _ r3
            have hszD : (wr.alloc (.cells #[.string z.name, .slice (some ⟨be, oe, none⟩) z.eras.length ce] 49)).drew.heap.size = wr.heap.size + 1 := by show (wr.alloc (.cells #[.string z.name, .slice (some ⟨be, oe, none⟩) z.eras.length ce] 49)).heap.size = _; simp
            have hne : w.heap.size + 1 ≠ wr.heap.size := by omega
            have hne2 : wr.heap.size ≠ w.heap.size + 1 := by omega
            clear hE hall hb3 hB3 hB4 hb4
            go_wp2_with fail
            go_region_held3 (fun w' => w'.cell? ⟨wr.heap.size, 0, none⟩ = some (.string z.name) ∧ w'.cell? ⟨wr.heap.size, 1, none⟩ = some (.slice (some ⟨be, oe, none⟩) z.eras.length ce)) (go_keep) (first | (go_at_call 89; refine hK.mono ?_; rintro e w6 ⟨g, cap, rfl, hg, hOE, hb6⟩; have p0 := ((bcell hb6).1 _ _ (World.block_lt_of_cell? _ _ k0)).trans k0; have p1 := ((bcell hb6).1 _ _ (World.block_lt_of_cell? _ _ k1)).trans k1; have r6 := ((bcell hb6).1 _ _ (World.block_lt_of_cell? _ _ r5)).trans r5; have s6 := ((bcell hb6).1 _ _ (World.block_lt_of_cell? _ _ s5)).trans s5; have f6 := ((bcell hb6).2 _ _ (World.block_lt_of_cell? _ _ r5)).trans f5; have g6 := ((bcell hb6).2 _ _ (World.block_lt_of_cell? _ _ s5)).trans g5; have hB6 := hBD.trans (hb6.mono hBD.size)))
            obtain ⟨t0, t1⟩ := set_two (v0 := .string z.name) (v1 := .slice (some ⟨g, 0, none⟩) z.eras.length cap) r6 s6
            have hEnd := (hOE.set (p := w.heap.size + 1) (i := 0) (by omega) (.string z.name)).set (p := w.heap.size + 1) (i := 1) (by omega) (.slice (some ⟨g, 0, none⟩) z.eras.length cap)
            go_wp2
            exact bodyPost_ret (v := .agg #[.string z.name, .slice (some ⟨g, 0, none⟩) z.eras.length cap]) (by simp [results, Tryz.results30, go_sem, t0, t1]) rfl ⟨.slice (some ⟨g, 0, none⟩) z.eras.length cap, by rw [HZ.out], by rw [HZ.out]; exact hEnd.mono (by omega), (hB6.setCell (show w.heap.size ≤ w.heap.size + 1 by omega) _).setCell (show w.heap.size ≤ w.heap.size + 1 by omega) _⟩
        · have e : k = r.zones.length := by omega
          subst e
          have HZ : Hid (zoneD r nm = zeroZ) := zoneD_none (by rw [HL.out]; exact zone_none hall.out)
          obtain ⟨t0, t1⟩ := set_two (v0 := .string ⟨#[]⟩) (v1 := .slice none 0 0) r3 s3
          go_wp2
          exact bodyPost_ret (v := .agg #[.string ⟨#[]⟩, .slice none 0 0]) (by simp [results, Tryz.results30, go_sem, t0, t1]) rfl ⟨.slice none 0 0, by rw [HZ.out]; rfl, by rw [HZ.out]; exact ownEra_zero _ _, (hB3.setCell (show w.heap.size ≤ w.heap.size + 1 by omega) _).setCell (show w.heap.size ≤ w.heap.size + 1 by omega) _⟩
end Go.Proofs.YtjdokmllidhapaaGreatDoor
namespace Go.Proofs.YtjdokmllidhapaaGreatDoor
open Go.RowKit Go.Sort

theorem OwnRelU.below {w w' : World} {B U : Nat} {v : Value} {r : RelD} (h : OwnRelU w B U v r) (hb : Below w.heap.size w w') : OwnRelU w' B U v r := by
  obtain ⟨ka, kb, kc, k1, k2, k3, k4, k5, k6, k7, k8⟩ := h.form
  exact ⟨ka, kb, kc, k1, k2, k3, k4, k5.below hb, k6.below hb, k7.below hb, k8.below hb⟩
/-- a list of eras of one's own, between two blocks. -/
def OwnEraU (w : World) (B U : Nat) (v : Value) (es : List EraD) : Prop :=
  (es = [] ∧ v = .slice none 0 0) ∨ ∃ g cap, v = .slice (some ⟨g, 0, none⟩) es.length cap ∧ B ≤ g ∧ g < U ∧ SeqAt w (some ⟨g, 0, none⟩) 6 (es.map EraD.cs) ∧ Room w g (es.length * 6)
theorem OwnEra.upto {w : World} {B : Nat} {v : Value} {es : List EraD} (h : OwnEra w B v es) : OwnEraU w B w.heap.size v es := h
theorem OwnEraU.below {w w' : World} {B U : Nat} {v : Value} {es : List EraD} (h : OwnEraU w B U v es) (hb : Below w.heap.size w w') : OwnEraU w' B U v es := by
  rcases h with h | ⟨g, cap, hv, hg, hl, h1, h2⟩
  · exact .inl h
  · exact .inr ⟨g, cap, hv, hg, hl, h1.below hb, h2.below hb⟩
theorem OwnEraU.touch {S : Nat → Prop} {w w' : World} {B U : Nat} {v : Value} {es : List EraD} (h : OwnEraU w B U v es) (ht : Touch S w w') (hs : ∀ b, B ≤ b → b < U → ¬ S b) : OwnEraU w' B U v es := by
  rcases h with h | ⟨g, cap, hv, hg, hl, h1, h2⟩
  · exact .inl h
  · exact .inr ⟨g, cap, hv, hg, hl, h1.touch ht (hs g hg hl), h2.touch ht (hs g hg hl)⟩
theorem OwnEraU.sl {w : World} {B U : Nat} {v : Value} {es : List EraD} (h : OwnEraU w B U v es) : EraSl w v es := by
  rcases h with ⟨rfl, rfl⟩ | ⟨g, cap, hv, _, _, h1, _⟩
  · exact ⟨none, 0, rfl, .inl rfl⟩
  · exact ⟨_, _, hv, h1⟩
/-- a list that has been numbered. -/
def MarkedZ (w : World) (v : Value) (n : Nat) : Prop := ∃ a cap, v = .slice a n cap ∧ SeqAt w a 6 (mksEra 1 n)
theorem MarkedZ.below {w w' : World} {v : Value} {n : Nat} (h : MarkedZ w v n) (hb : Below w.heap.size w w') : MarkedZ w' v n := by
  obtain ⟨a, cap, hv, h1⟩ := h
  exact ⟨a, cap, hv, h1.below hb⟩
set_option maxHeartbeats 1000000 in
theorem laws_markEra0 (k : Nat) (w : World) :
    Calls Tryz.prog 94 #[.slice none 0 0, .int .i64 k] w fun e w' => e = .returned (.int .i64 (k : Int)) ∧ w' = w := by
  go_enter Tryz.func94, Tryz.ntmps94
  go_wp2
  go_loopw [1, 5] (fun s t wr => s = .int .i64 (k : Int) ∧ t = .int .i64 0 ∧ wr = w) (fun _ _ _ => 0)
  case atStart => exact ⟨rfl, rfl, rfl⟩
  case round =>
    obtain ⟨rfl, rfl, rfl⟩ := hrel
    go_wp2
    go_ret
    exact ⟨rfl, rfl⟩
set_option maxRecDepth 20000 in
set_option maxHeartbeats 1000000 in
theorem laws_markZone (nm : ByteArray) (es : List EraD) (a : Option Addr) (cap B U : Nat) (w : World) (hO : OwnEraU w B U (.slice a es.length cap) es) (hl : es.length ≤ 1048576) :
    Calls Tryz.prog 33 #[.agg #[.string nm, .slice a es.length cap], .int .i64 1] w fun e w' => e = .returned (.int .i64 ((1 + 6 * es.length : Nat) : Int)) ∧ MarkedZ w' (.slice a es.length cap) es.length ∧ Touch (fun b => B ≤ b ∧ b < U) w w' := by
  have hB0 := fun o => (Below.refl w.heap.size w).alloc (Nat.le_refl _) o
  rcases hO with ⟨rfl, he⟩ | ⟨g, cap', he, hg, hu, h1, h2⟩
  · injection he with e1 e2 e3
    subst e1 e3
    have hE := fun w => laws_markEra0 1 w
    simp only [List.length_nil]
    go_enter Tryz.func33, Tryz.ntmps33
    go_wp2_with fail
    refine (hE _).mono ?_
    rintro e w' ⟨rfl, rfl⟩
    go_wp2
    go_ret
    exact ⟨rfl, ⟨none, 0, rfl, .inl rfl⟩, Touch.of_below (hB0 _)⟩
  · injection he with e1 e2 e3
    subst e1 e3
    have hE := fun w (h : Room w g (es.length * 6)) => laws_markEraS es.length g cap 1 w h (by omega) (by omega)
    obtain ⟨n, hn⟩ : ∃ n, n = 1 + 6 * es.length := ⟨_, rfl⟩
    rw [← hn] at hE ⊢
    clear hn
    go_enter Tryz.func33, Tryz.ntmps33
    go_wp2_with fail
    refine (hE _ (h2.below (hB0 _))).mono ?_
    rintro e w1 ⟨rfl, hs, _, ht⟩
    go_wp2
    go_ret
    exact ⟨rfl, ⟨_, _, rfl, hs⟩, (Touch.of_below (hB0 _)).trans (ht.mono fun b _ hb => show B ≤ b ∧ b < U from by have : b = g := hb.1; omega)⟩
set_option maxRecDepth 20000 in
set_option maxHeartbeats 1000000 in
theorem laws_heldZone (nm : ByteArray) (n : Nat) (a : Option Addr) (cap : Nat) (w : World) (hM : MarkedZ w (.slice a n cap) n) (hl : n ≤ 1048576) :
    Calls Tryz.prog 34 #[.agg #[.string nm, .slice a n cap], .int .i64 1] w fun e w' => e = .returned (.int .i64 ((1 + 6 * n : Nat) : Int)) ∧ Below w.heap.size w w' := by
  obtain ⟨a', cap', he, hA⟩ := hM
  injection he with e1 _ e3
  subst e1 e3
  have hB0 := fun o => (Below.refl w.heap.size w).alloc (Nat.le_refl _) o
  have hE := fun w (h : SeqAt w a 6 (mksEra 1 n)) => laws_heldEraS n cap 1 a w h (by omega) (by omega)
  obtain ⟨m, hm⟩ : ∃ m, m = 1 + 6 * n := ⟨_, rfl⟩
  rw [← hm] at hE ⊢
  clear hm
  go_enter Tryz.func34, Tryz.ntmps34
  go_wp2_with fail
  refine (hE _ (hA.below (hB0 _))).mono ?_
  rintro e w1 ⟨rfl, hb⟩
  go_wp2
  go_ret
  exact ⟨rfl, (hB0 _).trans (hb.mono (by simp))⟩
end Go.Proofs.YtjdokmllidhapaaGreatDoor
