/- Packed. -/
import Derived.Test.YtgiieknbckhofaaGreatDoorRelPs
set_option maxRecDepth 20000
set_option maxHeartbeats 20000000
set_option linter.unusedSimpArgs false
namespace Go.Proofs.YtgiieknbckhofaaGreatDoor
section
open Go.RowKit
structure Zb (S : Nat -> Prop) (w w' : World) : Prop where
 os : w'.os = w.os
 tape : w'.tape = w.tape
 output : w'.output = w.output
 size : w.heap.size <= w'.heap.size
 block : ∀ b, b < w.heap.size -> ¬ S b -> w'.heap[b]? = w.heap[b]?
 room : ∀ g m, Ze w g m -> Ze w' g m
theorem Zb.refl (S : Nat -> Prop) (w : World) : Zb S w w := ⟨rfl, rfl, rfl, nlr _, fun _ _ _ => rfl, fun _ _ h => h⟩
theorem Zb.trans {S : Nat -> Prop} {w w1 w2 : World} (h : Zb S w w1) (h2 : Zb S w1 w2) : Zb S w w2 :=
 ⟨h2.os.trans h.os, h2.tape.trans h.tape, h2.output.trans h.output, Nat.le_trans h.size h2.size, fun b hb hs => (h2.block b (Nat.lt_of_lt_of_le hb h.size) hs).trans (h.block b hb hs), fun g m hr => h2.room g m (h.room g m hr)⟩
theorem Zb.mono {S S2 : Nat -> Prop} {w w' : World} (h : Zb S w w') (hs : ∀ b, b < w.heap.size -> S b -> S2 b) : Zb S2 w w' :=
 ⟨h.os, h.tape, h.output, h.size, fun b hb hn => h.block b hb fun hx => hn (hs b hb hx), h.room⟩
theorem Zb.of_below {S : Nat -> Prop} {w w' : World} (h : Bw w w') : Zb S w w' := ⟨h.os, h.tape, h.output, h.size, fun b hb _ => h.block b hb, fun _ _ hr => hr.below h⟩
theorem Zb.set {S : Nat -> Prop} {w w' : World} (h : Zb S w w') {g o : Nat} (hg : S g) (v : Value) : Zb S w (w'.setCell (ad g o) v) := by
 refine ⟨h.os, h.tape, h.output, by simpa using h.size, fun b hb hn => ?_, fun _ _ hr => (h.room _ _ hr).set _ _⟩
 rw [<- h.block b hb hn, Go.Sort.setCell_eq]
 have aC : g ≠ b := fun e => hn (e ▸ hg)
 simp [Go.Sort.mapBlock, Array.getElem?_modify, aC]
theorem Zb.below {S : Nat -> Prop} {w0 w w' : World} {B : Nat} (h : Zb S w w') (hS : ∀ b, S b -> B <= b) (hB : B <= w.heap.size) (hb : Below B w0 w) : Below B w0 w' :=
 ⟨h.os.trans hb.os, h.tape.trans hb.tape, h.output.trans hb.output, Nat.le_trans hb.size h.size, fun k hk => (h.block k (Nat.lt_of_lt_of_le hk hB) fun hs => by have := hS k hs; omega).trans (hb.block k hk)⟩
theorem Zb.cell {S : Nat -> Prop} {w w' : World} (h : Zb S w w') {b o : Nat} {v : Value} (hs : ¬ S b) (hc : w.cell? (ad b o) = some v) : w'.cell? (ad b o) = some v := by
 rw [World.cell?_of_block (h.block b (qbl hc) hs)]; exact hc
theorem Zb.frozen {S : Nat -> Prop} {w w' : World} (h : Zb S w w') {b o : Nat} (hb : b < w.heap.size) (hs : ¬ S b) : w'.frozen? (ad b o) = w.frozen? (ad b o) := World.frozen?_of_block (h.block b hb hs)
def Je (w : World) (g o : Nat) (eL : List Value) : Prop := ∀ j v, eL[j]? = some v -> w.cell? (ad g (o + j)) = some v
theorem Je.nil (w : World) (g o : Nat) : Je w g o [] := fun j v h => by simp at h
theorem Je.below {w w' : World} {g o : Nat} {eL : List Value} (h : Je w g o eL) (hb : Bw w w') : Je w' g o eL := fun j v hj => by
 have := h j v hj
 rw [(jag hb).1 _ _ (qbl this)]; exact this
theorem Je.store {w : World} {g o m : Nat} {eL : List Value} (h : Je w g o eL) (hR : Ze w g m) {n : Nat} (hn : eL.length = n) (hm : o + n < m) (v : Value) : Je (w.setCell (ad g (o + n)) v) g o (eL ++ [v]) := fun j u hj => by
 rcases Nat.lt_or_ge j eL.length with hl | hl
 ·rw [lgl hl] at hj
  rw [wco]
  ·exact h j u hj
  ·intro e; injection e with _ e2; omega
 ·rw [List.getElem?_append_right hl] at hj
  have e : j = eL.length := by
   rcases Nat.eq_or_lt_of_le hl with e | e
   ·exact e.symm
   ·rw [List.getElem?_eq_none (by simp; omega)] at hj; cases hj
  subst e
  simp at hj
  subst hj hn
  obtain ⟨⟨u, hu⟩, _⟩ := hR (o + eL.length) hm
  exact wcs _ _ _ hu
theorem Zc.store {w : World} {g q k : Nat} {rows : List (List Value)} (h : Zc w g q k rows) (au : ∀ r ∈ rows, r.length = q) (j : Nat) (v : Value) : Zc (w.setCell (ad g (k * q + j)) v) g q k rows := fun i l r c hi hr hc => by
 have hl : l < q := by
  have := au r (lmg hr)
  have := (lgs hc).1
  omega
 have pC : i * q + q <= k * q := by
  have : (i + 1) * q <= k * q := Nat.mul_le_mul_right q (by omega)
  rw [Nat.add_mul] at this; omega
 rw [wco]
 ·exact h i l r c hi hr hc
 ·intro e; injection e with _ e2; omega
theorem Zc.step {w : World} {g q k : Nat} {rows : List (List Value)} {row : List Value} (h : Zc w g q k rows) (hp : Je w g (k * q) row) (hr : rows[k]? = some row) : Zc w g q (k + 1) rows := fun i l r c hi mC hc => by
 by_cases e : i = k
 ·subst e
  rw [hr] at mC
  obtain rfl := osi mC
  exact hp l c hc
 ·exact h i l r c (by omega) mC hc
end
section
open Go.RowKit
def mtF : Nat → Nat → List UInt8 → List UInt8
 | 0, _, c => c
 | f + 1, k, c => if k = 0 then c else mtF f (k / 10) (UInt8.ofNat (48 + k % 10) :: c)
theorem mtF_any : ∀ {f g k : Nat} {c : List UInt8}, k ≤ f → k ≤ g → mtF f k c = mtF g k c
 | 0, 0, _, _, _, _ => rfl
 | 0, g + 1, k, c, h, _ => by rw [mtF, mtF, if_pos (by omega)]
 | f + 1, 0, k, c, _, h => by rw [mtF, mtF, if_pos (by omega)]
 | f + 1, g + 1, k, c, h, h2 => by
  rw [mtF, mtF]
  split
  · rfl
  · exact mtF_any (by omega) (by omega)
def mtGo (k : Nat) (oE : List UInt8) : List UInt8 := mtF k k oE
theorem jv7 (oE : List UInt8) : mtGo 0 oE = oE := rfl
theorem jzi {k : Nat} (h : 0 < k) (oE : List UInt8) : mtGo k oE = mtGo (k / 10) (UInt8.ofNat (48 + k % 10) :: oE) := by
 obtain ⟨f, rfl⟩ : ∃ f, k = f + 1 := ⟨k - 1, by omega⟩
 rw [mtGo, mtF, if_neg (by omega)]; exact mtF_any (by omega) (by omega)
theorem ret_strM {a b : ByteArray} (h : a = b) : Ending.returned (.string a) = .returned (.string b) := by rw [h]
def mtB (k : Nat) : ByteArray := ⟨(109 :: mtGo k []).toArray⟩
theorem jah (k : Nat) (w : World) (h0 : 0 < k) (h1 : k < 1000000000) :
  Cl 40 #[iv k] w fun e w' => e = .returned (.string (mtB k)) /\ Bw w w' := by
 go_enter Tryz.func40, Tryz.ntmps40
 go_wp2
 go_loopw [0, 3] (fun s o wr => ∃ (m : Nat) (l : List UInt8), s = iv m /\ o = .string ⟨l.toArray⟩ /\ l.length <= 9 /\ m < 10 ^ (9 - l.length) /\ Hid (mtGo m l = mtGo k []) /\ Bw w wr) (fun s _ _ => (intOf s).toNat)
 case atStart => exact ⟨k, [], rfl, rfl, by simp, by simpa using h1, rfl, brf _ _⟩
 case round =>
  obtain ⟨m, l, rfl, rfl, hl, hm, HG, hB⟩ := hrel
  by_cases nK : 0 < m
  ·have GR : l.length < 9 := by
    rcases Nat.lt_or_ge l.length 9 with h | h
    ·exact h
    ·have e : 9 - l.length = 0 := by omega
     rw [e] at hm; omega
   have HL : Hid (m / 10 < 10 ^ (9 - (l.length + 1))) := by
    simp only [Hid]
    rw [show 9 - l.length = (9 - (l.length + 1)) + 1 by omega, Nat.pow_succ] at hm
    omega
   have HR : Hid (mtGo (m / 10) (UInt8.ofNat (48 + m % 10) :: l) = mtGo k []) := by simp only [Hid]; rw [<- jzi nK]; exact HG.out
   have Pw : (m : Int) <= 1000000000 := by
    have := Nat.pow_le_pow_right (show 0 < 10 by omega) (show 9 - l.length <= 9 by omega)
    have h9 : 10 ^ 9 = 1000000000 := by decide
    omega
   clear hm
   have hu : (UInt8.ofNat (48 + m % 10)).toNat = 48 + m % 10 := UInt8.toNat_ofNat_of_lt' (by have : UInt8.size = 256 := rfl; omega)
   have kc : (convert 128 9 (.slice (some (ad wr.heap.size 0)) 1 1)).run Tryz.prog (wr.alloc (.cells #[.int .u8 (48 + (m : Int) % 10)] 5)) = .ok (.string ⟨#[UInt8.ofNat (48 + m % 10)]⟩) (wr.alloc (.cells #[.int .u8 (48 + (m : Int) % 10)] 5)) :=
    run_convert_bytes_back _ 128 9 5 (ad wr.heap.size 0) 1 [UInt8.ofNat (48 + m % 10)] Tryz.underlying128 Tryz.underlying5 Tryz.underlying9 (fun j hj => by
     have e : j = 0 := by simpa using hj
     subst e
     simp only [List.getElem_cons_zero, hu]
     simp [go_sem])
   have HC : Hid (∀ b : UInt8, ({ data := #[b] } : ByteArray) ++ ⟨l.toArray⟩ = ⟨(b :: l).toArray⟩) := fun b => by apply ByteArray.ext; simp
   generalize UInt8.ofNat (48 + m % 10) = c at *
   clear hu
   go_wp2
   go_roundw
   case rel => exact ⟨m / 10, c :: l, by go_num, by rw [HC.out], by simp; omega, by simpa using HL.out, HR, hB.alloc hB.size _⟩
   case measure => simp [intOf]; omega
  ·have e : m = 0 := by omega
   subst e
   have HR : Hid (({ data := #[109] } : ByteArray) ++ ⟨l.toArray⟩ = mtB k) := by
    simp only [Hid]
    have := HG.out
    rw [jv7] at this
    subst this
    unfold mtB
    apply ByteArray.ext
    simp
   clear HG
   go_wp2
   go_ret
   exact ⟨ret_strM HR.out, hB⟩
end
section
open Go.RowKit Go.Sort
def jwa (c : Nat) : List Value := [.string (mtB (c)), iv (c + 1 : Nat), iv (c + 2 : Nat), iv (c + 3 : Nat), .string (mtB (c + 4)), iv (c + 5 : Nat), .string (mtB (c + 6)), iv (c + 7 : Nat), .string (mtB (c + 8))]
def jdl (c n : Nat) : List (List Value) := (List.range n).map fun i => jwa (c + 9 * i)
theorem jtq {c n i : Nat} (h : i < n) : (jdl c n)[i]? = some (jwa (c + 9 * i)) := by unfold jdl; rw [lgm, List.getElem?_range h]; rfl
theorem mksRule_len {c n : Nat} : ∀ r ∈ jdl c n, r.length = 9 := fun r hr => by
 unfold jdl at hr
 obtain ⟨i, _, rfl⟩ := List.mem_map.mp hr
 rfl
theorem jj9 (n g cap k : Nat) (w : World) (bE : Ze w g (n * 9)) (h0 : 0 < k) (h1 : k + 9 * n < 1000000000) :
  Cl 76 #[.slice (some (ad g 0)) n cap, iv k] w fun e w' => e = .returned (iv ((k + 9 * n : Nat) : Int)) /\ Za w' (some (ad g 0)) 9 (jdl k n) /\ Ze w' g (n * 9) /\ Zb (fun b => b = g /\ 0 < n) w w' := by
 have au := @mksRule_len k n
 go_enter Tryz.func76, Tryz.ntmps76
 go_wp2
 go_loopw [1, 5] (fun s t wr => ∃ i : Nat, i <= n /\ t = iv i /\ s = iv ((k + 9 * i : Nat) : Int) /\ Ze wr g (n * 9) /\ Zc wr g 9 i (jdl k n) /\ Zb (fun b => b = g /\ 0 < n) w wr) (fun _ t _ => n - (intOf t).toNat)
 case atStart => exact ⟨0, by omega, rfl, rfl, bE, fun i j r c h => by omega, Zb.refl _ _⟩
 case round =>
  clear bE
  obtain ⟨i, hi, rfl, rfl, bE, dW, dk⟩ := hrel
  by_cases hlt : i < n
  ·have ao := jtq (c := k) hlt
   have HK : Hid (k + 9 * (i + 1) = (k + 9 * i) + 9) := by simp only [Hid]; omega
   have jF : 0 < k + 9 * i := by omega
   have aX : k + 9 * i + 9 < 1000000000 := by omega
   generalize k + 9 * i = c at *
   have jy : Je wr g (i * 9) [] := Je.nil _ _ _
   have dL := fun w => jah (c) w (by omega) (by omega)
   go_wp2_with fail
   refine (dL _).mono ?_
   rintro e w1 ⟨rfl, hb1⟩
   have im := bE.below hb1
   have qn := dW.below hb1
   have qy := jy.below hb1
   have qN := dk.trans (Zb.of_below (S := fun b => b = g /\ 0 < n) hb1)
   clear hb1 bE dW jy dk dL
   obtain ⟨⟨u0, iH⟩, gH⟩ := im (i * 9) (by omega)
   have cY : Ze (w1.setCell (ad g (i * 9)) (.string (mtB (c)))) g (n * 9) := im.set _ _
   have fN : Zc (w1.setCell (ad g (i * 9)) (.string (mtB (c)))) g 9 i (jdl k n) := by simpa using qn.store au 0 (.string (mtB (c)))
   have j7 : Je (w1.setCell (ad g (i * 9)) (.string (mtB (c)))) g (i * 9) [.string (mtB (c))] := by simpa using qy.store im (n := 0) rfl (by omega) (.string (mtB (c)))
   have dw : Zb (fun b => b = g /\ 0 < n) w (w1.setCell (ad g (i * 9)) (.string (mtB (c)))) := qN.set ⟨rfl, by omega⟩ _
   obtain ⟨⟨u1, lG⟩, de⟩ := cY (i * 9 + 1) (by omega)
   have aM := cY.set (ad g (i * 9 + 1)) (iv ((c : Int) + 1))
   have bZ := fN.store au 1 (iv ((c : Int) + 1))
   have gu := j7.store cY (n := 1) rfl (by omega) (iv ((c : Int) + 1))
   have eh := dw.set (o := i * 9 + 1) ⟨rfl, by omega⟩ (iv ((c : Int) + 1))
   obtain ⟨⟨u2, tA⟩, eF⟩ := aM (i * 9 + 2) (by omega)
   have io := aM.set (ad g (i * 9 + 2)) (iv ((c : Int) + 1 + 1))
   have eu := bZ.store au 2 (iv ((c : Int) + 1 + 1))
   have j8 := gu.store aM (n := 2) rfl (by omega) (iv ((c : Int) + 1 + 1))
   have ir := eh.set (o := i * 9 + 2) ⟨rfl, by omega⟩ (iv ((c : Int) + 1 + 1))
   obtain ⟨⟨u3, tC⟩, gI⟩ := io (i * 9 + 3) (by omega)
   have jz := io.set (ad g (i * 9 + 3)) (iv ((c : Int) + 1 + 1 + 1))
   have kP := eu.store au 3 (iv ((c : Int) + 1 + 1 + 1))
   have mY := j8.store io (n := 3) rfl (by omega) (iv ((c : Int) + 1 + 1 + 1))
   have ja := ir.set (o := i * 9 + 3) ⟨rfl, by omega⟩ (iv ((c : Int) + 1 + 1 + 1))
   have j4 := fun w => jah (c + 4) w (by omega) (by omega)
   rw [show ((c + 4 : Nat) : Int) = (c : Int) + 1 + 1 + 1 + 1 by omega] at j4
   go_wp2_with fail
   refine (j4 _).mono ?_
   rintro e w2 ⟨rfl, ac⟩
   have iq := jz.below ac
   have qp := kP.below ac
   have qB := mY.below ac
   have qP := ja.trans (Zb.of_below (S := fun b => b = g /\ 0 < n) ac)
   clear ac jz kP mY ja j4
   obtain ⟨⟨u4, tD⟩, nu⟩ := iq (i * 9 + 4) (by omega)
   have eO := iq.set (ad g (i * 9 + 4)) (.string (mtB (c + 4)))
   have iX := qp.store au 4 (.string (mtB (c + 4)))
   have k8 := qB.store iq (n := 4) rfl (by omega) (.string (mtB (c + 4)))
   have oX := qP.set (o := i * 9 + 4) ⟨rfl, by omega⟩ (.string (mtB (c + 4)))
   obtain ⟨⟨u5, tE⟩, th⟩ := eO (i * 9 + 5) (by omega)
   have mh := eO.set (ad g (i * 9 + 5)) (iv ((c : Int) + 1 + 1 + 1 + 1 + 1))
   have md := iX.store au 5 (iv ((c : Int) + 1 + 1 + 1 + 1 + 1))
   have il := k8.store eO (n := 5) rfl (by omega) (iv ((c : Int) + 1 + 1 + 1 + 1 + 1))
   have oY := oX.set (o := i * 9 + 5) ⟨rfl, by omega⟩ (iv ((c : Int) + 1 + 1 + 1 + 1 + 1))
   have Cr := fun w => jah (c + 6) w (by omega) (by omega)
   rw [show ((c + 6 : Nat) : Int) = (c : Int) + 1 + 1 + 1 + 1 + 1 + 1 by omega] at Cr
   go_wp2_with fail
   refine (Cr _).mono ?_
   rintro e w3 ⟨rfl, ar⟩
   have qF := mh.below ar
   have Cd := md.below ar
   have Cx := il.below ar
   have CD := oY.trans (Zb.of_below (S := fun b => b = g /\ 0 < n) ar)
   clear ar mh md il oY Cr
   obtain ⟨⟨u6, Dx⟩, CR⟩ := qF (i * 9 + 6) (by omega)
   have qG := qF.set (ad g (i * 9 + 6)) (.string (mtB (c + 6)))
   have Ce := Cd.store au 6 (.string (mtB (c + 6)))
   have fp := Cx.store qF (n := 6) rfl (by omega) (.string (mtB (c + 6)))
   have ka := CD.set (o := i * 9 + 6) ⟨rfl, by omega⟩ (.string (mtB (c + 6)))
   obtain ⟨⟨u7, Dy⟩, CT⟩ := qG (i * 9 + 7) (by omega)
   have yL := qG.set (ad g (i * 9 + 7)) (iv ((c : Int) + 1 + 1 + 1 + 1 + 1 + 1 + 1))
   have vh := Ce.store au 7 (iv ((c : Int) + 1 + 1 + 1 + 1 + 1 + 1 + 1))
   have vJ := fp.store qG (n := 7) rfl (by omega) (iv ((c : Int) + 1 + 1 + 1 + 1 + 1 + 1 + 1))
   have yQ := ka.set (o := i * 9 + 7) ⟨rfl, by omega⟩ (iv ((c : Int) + 1 + 1 + 1 + 1 + 1 + 1 + 1))
   have sU := fun w => jah (c + 8) w (by omega) (by omega)
   rw [show ((c + 8 : Nat) : Int) = (c : Int) + 1 + 1 + 1 + 1 + 1 + 1 + 1 + 1 by omega] at sU
   go_wp2_with fail
   refine (sU _).mono ?_
   rintro e w4 ⟨rfl, az⟩
   have qH := yL.below az
   have Cf := vh.below az
   have Cy := vJ.below az
   have CE := yQ.trans (Zb.of_below (S := fun b => b = g /\ 0 < n) az)
   clear az yL vh vJ yQ sU
   obtain ⟨⟨u8, M0⟩, Lm⟩ := qH (i * 9 + 8) (by omega)
   have L3 := qH.set (ad g (i * 9 + 8)) (.string (mtB (c + 8)))
   have G3 := Cf.store au 8 (.string (mtB (c + 8)))
   have qC := Cy.store qH (n := 8) rfl (by omega) (.string (mtB (c + 8)))
   have L6 := CE.set (o := i * 9 + 8) ⟨rfl, by omega⟩ (.string (mtB (c + 8)))
   have hF : Zc _ g 9 (i + 1) (jdl k n) := G3.step qC (by rw [ao]; simp [jwa, Int.add_assoc])
   clear G3 qC
   go_wp2
   go_roundw
   case rel => exact ⟨i + 1, by omega, by go_num, by rw [HK.out]; go_num, L3, hF, L6⟩
   case measure => simp [intOf]; omega
  ·have e : i = n := by omega
   subst e
   go_wp2
   go_ret
   exact ⟨rfl, Zc.seq (by unfold jdl; rw [llm, List.length_range]; exact dW), bE, dk⟩
end
section
open Go.RowKit Go.Sort
def j18 (c : Nat) : List Value := [iv (c : Nat), .string (mtB (c + 1)), iv (c + 2 : Nat), .string (mtB (c + 3)), iv (c + 4 : Nat), .string (mtB (c + 5))]
def jfq (c n : Nat) : List (List Value) := (List.range n).map fun i => j18 (c + 6 * i)
theorem jv9 {c n i : Nat} (h : i < n) : (jfq c n)[i]? = some (j18 (c + 6 * i)) := by unfold jfq; rw [lgm, List.getElem?_range h]; rfl
theorem mksEra_len {c n : Nat} : ∀ r ∈ jfq c n, r.length = 6 := fun r hr => by
 unfold jfq at hr
 obtain ⟨i, _, rfl⟩ := List.mem_map.mp hr
 rfl
theorem jmc (n g cap k : Nat) (w : World) (bE : Ze w g (n * 6)) (h0 : 0 < k) (h1 : k + 6 * n < 1000000000) :
  Cl 111 #[.slice (some (ad g 0)) n cap, iv k] w fun e w' => e = .returned (iv ((k + 6 * n : Nat) : Int)) /\ Za w' (some (ad g 0)) 6 (jfq k n) /\ Ze w' g (n * 6) /\ Zb (fun b => b = g /\ 0 < n) w w' := by
 have au := @mksEra_len k n
 go_enter Tryz.func111, Tryz.ntmps111
 go_wp2
 go_loopw [1, 5] (fun s t wr => ∃ i : Nat, i <= n /\ t = iv i /\ s = iv ((k + 6 * i : Nat) : Int) /\ Ze wr g (n * 6) /\ Zc wr g 6 i (jfq k n) /\ Zb (fun b => b = g /\ 0 < n) w wr) (fun _ t _ => n - (intOf t).toNat)
 case atStart => exact ⟨0, by omega, rfl, rfl, bE, fun i j r c h => by omega, Zb.refl _ _⟩
 case round =>
  clear bE
  obtain ⟨i, hi, rfl, rfl, bE, dW, dk⟩ := hrel
  by_cases hlt : i < n
  ·have ao := jv9 (c := k) hlt
   have HK : Hid (k + 6 * (i + 1) = (k + 6 * i) + 6) := by simp only [Hid]; omega
   have jF : 0 < k + 6 * i := by omega
   have aX : k + 6 * i + 6 < 1000000000 := by omega
   generalize k + 6 * i = c at *
   have jy : Je wr g (i * 6) [] := Je.nil _ _ _
   obtain ⟨⟨u0, iH⟩, gH⟩ := bE (i * 6) (by omega)
   have cY : Ze (wr.setCell (ad g (i * 6)) (iv (c : Int))) g (n * 6) := bE.set _ _
   have fN : Zc (wr.setCell (ad g (i * 6)) (iv (c : Int))) g 6 i (jfq k n) := by simpa using dW.store au 0 (iv (c : Int))
   have j7 : Je (wr.setCell (ad g (i * 6)) (iv (c : Int))) g (i * 6) [iv (c : Int)] := by simpa using jy.store bE (n := 0) rfl (by omega) (iv (c : Int))
   have dw : Zb (fun b => b = g /\ 0 < n) w (wr.setCell (ad g (i * 6)) (iv (c : Int))) := dk.set ⟨rfl, by omega⟩ _
   have ew := fun w => jah (c + 1) w (by omega) (by omega)
   rw [show ((c + 1 : Nat) : Int) = (c : Int) + 1 by omega] at ew
   go_wp2_with fail
   refine (ew _).mono ?_
   rintro e w1 ⟨rfl, hb1⟩
   have eC := cY.below hb1
   have kO := fN.below hb1
   have kY := j7.below hb1
   have l8 := dw.trans (Zb.of_below (S := fun b => b = g /\ 0 < n) hb1)
   clear hb1 cY fN j7 dw ew
   obtain ⟨⟨u1, lG⟩, de⟩ := eC (i * 6 + 1) (by omega)
   have aM := eC.set (ad g (i * 6 + 1)) (.string (mtB (c + 1)))
   have bZ := kO.store au 1 (.string (mtB (c + 1)))
   have gu := kY.store eC (n := 1) rfl (by omega) (.string (mtB (c + 1)))
   have eh := l8.set (o := i * 6 + 1) ⟨rfl, by omega⟩ (.string (mtB (c + 1)))
   obtain ⟨⟨u2, tA⟩, eF⟩ := aM (i * 6 + 2) (by omega)
   have io := aM.set (ad g (i * 6 + 2)) (iv ((c : Int) + 1 + 1))
   have eu := bZ.store au 2 (iv ((c : Int) + 1 + 1))
   have j8 := gu.store aM (n := 2) rfl (by omega) (iv ((c : Int) + 1 + 1))
   have ir := eh.set (o := i * 6 + 2) ⟨rfl, by omega⟩ (iv ((c : Int) + 1 + 1))
   have fo := fun w => jah (c + 3) w (by omega) (by omega)
   rw [show ((c + 3 : Nat) : Int) = (c : Int) + 1 + 1 + 1 by omega] at fo
   go_wp2_with fail
   refine (fo _).mono ?_
   rintro e w2 ⟨rfl, ac⟩
   have ip := io.below ac
   have qo := eu.below ac
   have qA := j8.below ac
   have qO := ir.trans (Zb.of_below (S := fun b => b = g /\ 0 < n) ac)
   clear ac io eu j8 ir fo
   obtain ⟨⟨u3, tC⟩, gI⟩ := ip (i * 6 + 3) (by omega)
   have jz := ip.set (ad g (i * 6 + 3)) (.string (mtB (c + 3)))
   have kP := qo.store au 3 (.string (mtB (c + 3)))
   have mY := qA.store ip (n := 3) rfl (by omega) (.string (mtB (c + 3)))
   have ja := qO.set (o := i * 6 + 3) ⟨rfl, by omega⟩ (.string (mtB (c + 3)))
   obtain ⟨⟨u4, tD⟩, nu⟩ := jz (i * 6 + 4) (by omega)
   have eO := jz.set (ad g (i * 6 + 4)) (iv ((c : Int) + 1 + 1 + 1 + 1))
   have iX := kP.store au 4 (iv ((c : Int) + 1 + 1 + 1 + 1))
   have k8 := mY.store jz (n := 4) rfl (by omega) (iv ((c : Int) + 1 + 1 + 1 + 1))
   have oX := ja.set (o := i * 6 + 4) ⟨rfl, by omega⟩ (iv ((c : Int) + 1 + 1 + 1 + 1))
   have sT := fun w => jah (c + 5) w (by omega) (by omega)
   rw [show ((c + 5 : Nat) : Int) = (c : Int) + 1 + 1 + 1 + 1 + 1 by omega] at sT
   go_wp2_with fail
   refine (sT _).mono ?_
   rintro e w3 ⟨rfl, ar⟩
   have qE := eO.below ar
   have Cc := iX.below ar
   have Cw := k8.below ar
   have CC := oX.trans (Zb.of_below (S := fun b => b = g /\ 0 < n) ar)
   clear ar eO iX k8 oX sT
   obtain ⟨⟨u5, tE⟩, th⟩ := qE (i * 6 + 5) (by omega)
   have mh := qE.set (ad g (i * 6 + 5)) (.string (mtB (c + 5)))
   have md := Cc.store au 5 (.string (mtB (c + 5)))
   have il := Cw.store qE (n := 5) rfl (by omega) (.string (mtB (c + 5)))
   have oY := CC.set (o := i * 6 + 5) ⟨rfl, by omega⟩ (.string (mtB (c + 5)))
   have hF : Zc _ g 6 (i + 1) (jfq k n) := md.step il (by rw [ao]; simp [j18, Int.add_assoc])
   clear md il
   go_wp2
   go_roundw
   case rel => exact ⟨i + 1, by omega, by go_num, by rw [HK.out]; go_num, mh, hF, oY⟩
   case measure => simp [intOf]; omega
  ·have e : i = n := by omega
   subst e
   go_wp2
   go_ret
   exact ⟨rfl, Zc.seq (by unfold jfq; rw [llm, List.length_range]; exact dW), bE, dk⟩
end
section
open Go.RowKit Go.Sort
def jwb (c : Nat) : List Value := [.string (mtB (c)), .string (mtB (c + 1))]
def jdm (c n : Nat) : List (List Value) := (List.range n).map fun i => jwb (c + 2 * i)
theorem jtr {c n i : Nat} (h : i < n) : (jdm c n)[i]? = some (jwb (c + 2 * i)) := by unfold jdm; rw [lgm, List.getElem?_range h]; rfl
theorem mksLink_len {c n : Nat} : ∀ r ∈ jdm c n, r.length = 2 := fun r hr => by
 unfold jdm at hr
 obtain ⟨i, _, rfl⟩ := List.mem_map.mp hr
 rfl
theorem jka (n g cap k : Nat) (w : World) (bE : Ze w g (n * 2)) (h0 : 0 < k) (h1 : k + 2 * n < 1000000000) :
  Cl 78 #[.slice (some (ad g 0)) n cap, iv k] w fun e w' => e = .returned (iv ((k + 2 * n : Nat) : Int)) /\ Za w' (some (ad g 0)) 2 (jdm k n) /\ Ze w' g (n * 2) /\ Zb (fun b => b = g /\ 0 < n) w w' := by
 have au := @mksLink_len k n
 go_enter Tryz.func78, Tryz.ntmps78
 go_wp2
 go_loopw [1, 5] (fun s t wr => ∃ i : Nat, i <= n /\ t = iv i /\ s = iv ((k + 2 * i : Nat) : Int) /\ Ze wr g (n * 2) /\ Zc wr g 2 i (jdm k n) /\ Zb (fun b => b = g /\ 0 < n) w wr) (fun _ t _ => n - (intOf t).toNat)
 case atStart => exact ⟨0, by omega, rfl, rfl, bE, fun i j r c h => by omega, Zb.refl _ _⟩
 case round =>
  clear bE
  obtain ⟨i, hi, rfl, rfl, bE, dW, dk⟩ := hrel
  by_cases hlt : i < n
  ·have ao := jtr (c := k) hlt
   have HK : Hid (k + 2 * (i + 1) = (k + 2 * i) + 2) := by simp only [Hid]; omega
   have jF : 0 < k + 2 * i := by omega
   have aX : k + 2 * i + 2 < 1000000000 := by omega
   generalize k + 2 * i = c at *
   have jy : Je wr g (i * 2) [] := Je.nil _ _ _
   have dL := fun w => jah (c) w (by omega) (by omega)
   go_wp2_with fail
   refine (dL _).mono ?_
   rintro e w1 ⟨rfl, hb1⟩
   have im := bE.below hb1
   have qn := dW.below hb1
   have qy := jy.below hb1
   have qN := dk.trans (Zb.of_below (S := fun b => b = g /\ 0 < n) hb1)
   clear hb1 bE dW jy dk dL
   obtain ⟨⟨u0, iH⟩, gH⟩ := im (i * 2) (by omega)
   have cY : Ze (w1.setCell (ad g (i * 2)) (.string (mtB (c)))) g (n * 2) := im.set _ _
   have fN : Zc (w1.setCell (ad g (i * 2)) (.string (mtB (c)))) g 2 i (jdm k n) := by simpa using qn.store au 0 (.string (mtB (c)))
   have j7 : Je (w1.setCell (ad g (i * 2)) (.string (mtB (c)))) g (i * 2) [.string (mtB (c))] := by simpa using qy.store im (n := 0) rfl (by omega) (.string (mtB (c)))
   have dw : Zb (fun b => b = g /\ 0 < n) w (w1.setCell (ad g (i * 2)) (.string (mtB (c)))) := qN.set ⟨rfl, by omega⟩ _
   have ew := fun w => jah (c + 1) w (by omega) (by omega)
   rw [show ((c + 1 : Nat) : Int) = (c : Int) + 1 by omega] at ew
   go_wp2_with fail
   refine (ew _).mono ?_
   rintro e w2 ⟨rfl, ac⟩
   have eC := cY.below ac
   have kO := fN.below ac
   have kY := j7.below ac
   have l8 := dw.trans (Zb.of_below (S := fun b => b = g /\ 0 < n) ac)
   clear ac cY fN j7 dw ew
   obtain ⟨⟨u1, lG⟩, de⟩ := eC (i * 2 + 1) (by omega)
   have aM := eC.set (ad g (i * 2 + 1)) (.string (mtB (c + 1)))
   have bZ := kO.store au 1 (.string (mtB (c + 1)))
   have gu := kY.store eC (n := 1) rfl (by omega) (.string (mtB (c + 1)))
   have eh := l8.set (o := i * 2 + 1) ⟨rfl, by omega⟩ (.string (mtB (c + 1)))
   have hF : Zc _ g 2 (i + 1) (jdm k n) := bZ.step gu (by rw [ao]; simp [jwb])
   clear bZ gu
   go_wp2
   go_roundw
   case rel => exact ⟨i + 1, by omega, by go_num, by rw [HK.out]; go_num, aM, hF, eh⟩
   case measure => simp [intOf]; omega
  ·have e : i = n := by omega
   subst e
   go_wp2
   go_ret
   exact ⟨rfl, Zc.seq (by unfold jdm; rw [llm, List.length_range]; exact dW), bE, dk⟩
end
section
open Go.RowKit Go.Sort
def zc (l : List ZoneD) : Nat := (l.map fun z => 1 + 6 * z.eras.length).sum
theorem j1j {l : List ZoneD} {k : Nat} {r : ZoneD} (h : l[k]? = some r) : zc (l.take (k + 1)) = zc (l.take k) + (1 + 6 * r.eras.length) := by
 unfold zc
 rw [List.take_add_one, h]
 simp
theorem zc_le (l : List ZoneD) (k : Nat) : zc (l.take k) <= zc l := by
 have := congrArg (fun l => (l.map fun z : ZoneD => 1 + 6 * z.eras.length).sum) (List.take_append_drop k l)
 simp only [lma, List.sum_append] at this
 unfold zc
 omega
theorem zc_sz (l : List ZoneD) : zc l <= 7 * (l.length + zsz l) := by
 unfold zc zsz
 induction l with
 | nil => simp
 | cons z l ih =>
  simp only [List.map_cons, List.sum_cons, List.length_cons]
  have : z.eras.length <= z.sz := by unfold ZoneD.sz; omega
  omega
def Jb (w : World) (g U : Nat) (zs : List ZoneD) : Prop := ∀ i z, zs[i]? = some z -> ∃ q, g < q /\ (0 < z.eras.length -> q < U) /\ w.cell? (ad g (i * 2 + 1)) = some (.slice (some (ad q 0)) z.eras.length z.eras.length) /\ Ze w q (z.eras.length * 6)
theorem Jb.below {w w' : World} {g U : Nat} {zs : List ZoneD} (h : Jb w g U zs) (hb : Bw w w') : Jb w' g U zs := fun i z hz => by
 obtain ⟨q, hq, hu, c1, hr⟩ := h i z hz
 exact ⟨q, hq, hu, by rw [(jag hb).1 _ _ (qbl c1)]; exact c1, hr.below hb⟩
theorem Jb.store {w : World} {g U : Nat} {zs : List ZoneD} (h : Jb w g U zs) (k : Nat) (v : Value) : Jb (w.setCell (ad g (k * 2)) v) g U zs := fun i z hz => by
 obtain ⟨q, hq, hu, c1, hr⟩ := h i z hz
 refine ⟨q, hq, hu, ?_, hr.set _ _⟩
 rw [wco]
 ·exact c1
 ·intro e; injection e with _ e2; omega
theorem Jb.touch {S : Nat -> Prop} {w w' : World} {g U : Nat} {zs : List ZoneD} (h : Jb w g U zs) (ht : Zb S w w') (hq : ¬ S g) : Jb w' g U zs := fun i z hz => by
 obtain ⟨q', Dn, hu, c1, hr⟩ := h i z hz
 exact ⟨q', Dn, hu, ht.cell hq c1, ht.room _ _ hr⟩
theorem Ze.lt {w : World} {g m : Nat} (h : Ze w g m) (hm : 0 < m) : g < w.heap.size := by
 obtain ⟨⟨v, hv⟩, _⟩ := h 0 hm
 exact qbl hv
theorem jj8 (zs : List ZoneD) (g cap k B U : Nat) (w : World) (bE : Ze w g (zs.length * 2)) (vU : Jb w g U zs) (hB : B <= g) (hU : 0 < zs.length -> g < U) (h0 : 0 < k) (h1 : k + zc zs < 900000000) (hn : zs.length <= 1048576) :
  Cl 77 #[.slice (some (ad g 0)) zs.length cap, iv k] w fun e w' => e = .returned (iv ((k + zc zs : Nat) : Int)) /\ Zb (fun b => B <= b /\ b < U) w w' := by
 go_enter Tryz.func77, Tryz.ntmps77
 go_wp2
 go_loopw [1, 5] (fun s t wr => ∃ i : Nat, i <= zs.length /\ t = iv i /\ s = iv ((k + zc (zs.take i) : Nat) : Int) /\ Ze wr g (zs.length * 2) /\ Jb wr g U zs /\ Zb (fun b => B <= b /\ b < U) w wr) (fun _ t _ => zs.length - (intOf t).toNat)
 case atStart => exact ⟨0, by omega, rfl, by simp [zc], bE, vU, Zb.refl _ _⟩
 case round =>
  clear bE vU
  obtain ⟨i, hi, rfl, rfl, bE, vU, dk⟩ := hrel
  by_cases hlt : i < zs.length
  ·obtain ⟨z, hz⟩ := qgg hlt
   have Lq := hU (by omega)
   have ht := j1j hz
   have cJ := zc_le zs (i + 1)
   have HK : Hid (k + zc (zs.take (i + 1)) = (k + zc (zs.take i)) + 1 + 6 * z.eras.length) := by simp only [Hid]; omega
   have jF : 0 < k + zc (zs.take i) := by omega
   have aX : k + zc (zs.take i) + 1 + 6 * z.eras.length < 900000000 := by omega
   generalize k + zc (zs.take i) = c at *
   clear ht cJ
   have hM := fun w => jah c w jF (by omega)
   go_wp2_with fail
   refine (hM _).mono ?_
   rintro e w1 ⟨rfl, hb1⟩
   have cY := bE.below hb1
   have jD := vU.below hb1
   have dw := dk.trans (Zb.of_below (S := fun b => B <= b /\ b < U) hb1)
   obtain ⟨⟨u0, iH⟩, gH⟩ := cY (i * 2) (by omega)
   have aM : Ze (w1.setCell (ad g (i * 2)) (.string (mtB c))) g (zs.length * 2) := cY.set _ _
   have Gv : Jb (w1.setCell (ad g (i * 2)) (.string (mtB c))) g U zs := jD.store i _
   have eh : Zb (fun b => B <= b /\ b < U) w (w1.setCell (ad g (i * 2)) (.string (mtB c))) := dw.set ⟨hB, Lq⟩ _
   clear hM hb1 bE vU dk cY jD dw
   obtain ⟨q, hq, LS, c1, hr⟩ := Gv i z hz
   have hE := jmc z.eras.length q z.eras.length (c + 1) (w1.setCell (ad g (i * 2)) (.string (mtB c))) hr (by omega) (by omega)
   rw [show ((c + 1 : Nat) : Int) = (c : Int) + 1 by omega] at hE
   go_wp2_with fail
   refine hE.mono ?_
   rintro e w3 ⟨rfl, _, _, Du⟩
   have io := Du.room _ _ aM
   have L9 := Gv.touch Du (fun h => by have : g = q := h.1; omega)
   have ir := eh.trans (Du.mono fun b _ hb => show B <= b /\ b < U from by
    have e1 : b = q := hb.1
    have e2 := LS hb.2
    omega)
   go_wp2
   go_roundw
   case rel => exact ⟨i + 1, by omega, by go_num, by rw [HK.out]; go_num, io, L9, ir⟩
   case measure => simp [intOf]; omega
  ·have e : i = zs.length := by omega
   subst e
   have HR : Hid (zc (zs.take zs.length) = zc zs) := by simp only [Hid]; rw [List.take_length]
   rw [HR.out]
   go_wp2
   go_ret
   exact ⟨rfl, dk⟩
structure Zp (w : World) (B U : Nat) (v : Value) (r : RelD) : Prop where
 form : ∃ a b c, v = .agg #[.slice (some (ad a 0)) r.rules.length r.rules.length, .slice (some (ad b 0)) r.zones.length r.zones.length, .slice (some (ad c 0)) r.links.length r.links.length] /\
  (B <= a /\ B <= b /\ B <= c) /\ ((0 < r.rules.length -> a < U) /\ (0 < r.zones.length -> b < U) /\ (0 < r.links.length -> c < U)) /\ (0 < r.rules.length -> 0 < r.zones.length -> a ≠ b) /\ Ze w a (r.rules.length * 9) /\ Ze w b (r.zones.length * 2) /\ Jb w b U r.zones /\ Ze w c (r.links.length * 2)
theorem Zr.upto {w w' : World} {B : Nat} {v : Value} {r : RelD} (h : Zr w B v r) (hb : Bw w w') : Zp w' B w.heap.size v r := by
 obtain ⟨a, b, c, hv, hB, ⟨oV, yM⟩, ⟨hZ, yN⟩, ⟨_, yO⟩⟩ := h.form
 have gE : 0 < r.rules.length -> 0 < r.zones.length -> a ≠ b := fun h1 h2 e => by
  subst e
  obtain ⟨x, hx⟩ := qgg h1
  obtain ⟨z, hz⟩ := qgg h2
  obtain ⟨b', o', he, hc⟩ := oV.at (i := 0) (r := x.cs) (by rw [lgm, hx]; rfl)
  injection he with he
  injection he with e1 e2
  subst e1 e2
  have p1 := hc 1 _ rfl
  obtain ⟨_, q, _, p2, _, _⟩ := hZ 0 z h2 hz
  rw [show 0 + 0 * 9 + 1 = 0 * 2 + 1 by omega, p2] at p1
  cases p1
 refine ⟨a, b, c, hv, hB, ⟨fun h => yM.lt (by omega), fun h => yN.lt (by omega), fun h => yO.lt (by omega)⟩, gE, yM.below hb, yN.below hb, Jb.below (fun i z hz => ?_) hb, yO.below hb⟩
 obtain ⟨_, q, hq, c1, _, hr⟩ := hZ i z (lgs hz).1 hz
 exact ⟨q, hq, fun h => hr.lt (by omega), c1, hr⟩
theorem jde (r : RelD) (v : Value) (k B U : Nat) (w : World) (hv : Zp w B U v r) (hU : U <= w.heap.size) (hsz : r.sz <= 1048576) (hk : 0 < k) (f8 : k <= 100000000) :
  Cl 38 #[v, iv (k : Int)] w fun e w' => (∃ K : Nat, e = .returned (iv (K : Int)) /\ k <= K /\ K <= k + 30000000) /\ Zb (fun b => B <= b /\ b < U) w w' := by
 obtain ⟨a, b, c, rfl, ⟨ha, hb, hc⟩, ⟨ua, ub, uc⟩, gE, yM, yN, hZ, yO⟩ := hv.form
 have PG := zc_sz r.zones
 unfold RelD.sz at hsz
 have h1 := fun w (h : Ze w a (r.rules.length * 9)) => jj9 r.rules.length a r.rules.length k w h (by omega) (by omega)
 have h2 := fun w (h : Ze w b (r.zones.length * 2)) (h2 : Jb w b U r.zones) => jj8 r.zones b r.zones.length (k + 9 * r.rules.length) B U w h h2 hb ub (by omega) (by omega) (by omega)
 have h3 := fun w (h : Ze w c (r.links.length * 2)) => jka r.links.length c r.links.length (k + 9 * r.rules.length + zc r.zones) w h (by omega) (by omega)
 have ag := qal w (.cells #[.slice (some (ad a 0)) r.rules.length r.rules.length, .slice (some (ad b 0)) r.zones.length r.zones.length, .slice (some (ad c 0)) r.links.length r.links.length] 38)
 obtain ⟨x1, x2⟩ : (fun z : World => z.cell? (ad w.heap.size 1) = some (.slice (some (ad b 0)) r.zones.length r.zones.length) /\ z.cell? (ad w.heap.size 2) = some (.slice (some (ad c 0)) r.links.length r.links.length)) (w.alloc (.cells #[.slice (some (ad a 0)) r.rules.length r.rules.length, .slice (some (ad b 0)) r.zones.length r.zones.length, .slice (some (ad c 0)) r.links.length r.links.length] 38)) := by simp [go_sem]
 have dk : Zb (fun b => B <= b /\ b < U) w (w.alloc (.cells #[.slice (some (ad a 0)) r.rules.length r.rules.length, .slice (some (ad b 0)) r.zones.length r.zones.length, .slice (some (ad c 0)) r.links.length r.links.length] 38)) := Zb.of_below ag
 have aC : ¬ (B <= w.heap.size /\ w.heap.size < U) := by omega
 have IJ : Hid (k <= k + 9 * r.rules.length + zc r.zones + 2 * r.links.length /\ k + 9 * r.rules.length + zc r.zones + 2 * r.links.length <= k + 30000000) := by simp only [Hid]; omega
 generalize nC : k + 9 * r.rules.length = k1 at *
 clear nC
 go_enter Tryz.func38, Tryz.ntmps38
 go_wp2_with fail
 refine (h1 _ (yM.below ag)).mono ?_
 rintro e w1 ⟨rfl, _, _, t1⟩
 have jU := t1.mono (S2 := fun b => B <= b /\ b < U) fun x _ hx => by have e1 : x = a := hx.1; have e2 := ua hx.2; show B <= x /\ x < U; omega
 have dw := dk.trans jU
 have y1 := jU.cell aC x1
 have y2 := jU.cell aC x2
 go_wp2_with fail
 refine (h2 _ (dw.room _ _ yN) ?_).mono ?_
 ·intro i z hz
  have hl := (lgs hz).1
  exact (hZ.below ag).touch t1 (fun h => gE h.2 (by omega) h.1.symm) i z hz
 rintro e w2 ⟨rfl, t2⟩
 have eh := dw.trans t2
 have z2 := t2.cell aC y2
 go_wp2_with fail
 refine (h3 _ (eh.room _ _ yO)).mono ?_
 rintro e w3 ⟨rfl, _, _, t3⟩
 have tY := t3.mono (S2 := fun b => B <= b /\ b < U) fun x _ hx => by have e1 : x = c := hx.1; have e2 := uc hx.2; show B <= x /\ x < U; omega
 go_wp2
 go_ret
 exact ⟨⟨_, rfl, IJ.out⟩, eh.trans tY⟩
end
section
open Go.RowKit Go.Sort
def mbB (c : Nat) : Bool := (c : Int) % 3 == 0
theorem mbB_at (c : Nat) : mbB (c + 1) = (((c : Int) + 1) % 3 == 0) := by unfold mbB; rw [show ((c + 1 : Nat) : Int) = (c : Int) + 1 by omega]
def jis (c : Nat) : List Value := [iv (c : Nat), .bool (mbB (c + 1)), iv (c + 2 : Nat), .string (mtB (c + 3)), .string (mtB (c + 4)), iv (c + 5 : Nat), iv (c + 6 : Nat), iv (c + 7 : Nat)]
def ja9 (c n : Nat) : List (List Value) := (List.range n).map fun i => jis (c + 8 * i)
theorem jfp {c n i : Nat} (h : i < n) : (ja9 c n)[i]? = some (jis (c + 8 * i)) := by unfold ja9; rw [lgm, List.getElem?_range h]; rfl
theorem mksVersion_len {c n : Nat} : ∀ r ∈ ja9 c n, r.length = 8 := fun r hr => by
 unfold ja9 at hr
 obtain ⟨i, _, rfl⟩ := List.mem_map.mp hr
 rfl
theorem jdd (n g cap k : Nat) (w : World) (bE : Ze w g (n * 8)) (h0 : 0 < k) (h1 : k + 8 * n < 1000000000) :
  Cl 23 #[.slice (some (ad g 0)) n cap, iv k] w fun e w' => e = .returned (iv ((k + 8 * n : Nat) : Int)) /\ Za w' (some (ad g 0)) 8 (ja9 k n) /\ Ze w' g (n * 8) /\ Zb (fun b => b = g /\ 0 < n) w w' := by
 have au := @mksVersion_len k n
 go_enter Tryz.func23, Tryz.ntmps23
 go_wp2
 go_loopw [1, 5] (fun s t wr => ∃ i : Nat, i <= n /\ t = iv i /\ s = iv ((k + 8 * i : Nat) : Int) /\ Ze wr g (n * 8) /\ Zc wr g 8 i (ja9 k n) /\ Zb (fun b => b = g /\ 0 < n) w wr) (fun _ t _ => n - (intOf t).toNat)
 case atStart => exact ⟨0, by omega, rfl, rfl, bE, fun i j r c h => by omega, Zb.refl _ _⟩
 case round =>
  clear bE
  obtain ⟨i, hi, rfl, rfl, bE, dW, dk⟩ := hrel
  by_cases hlt : i < n
  ·have ao := jfp (c := k) hlt
   have HK : Hid (k + 8 * (i + 1) = (k + 8 * i) + 8) := by simp only [Hid]; omega
   have jF : 0 < k + 8 * i := by omega
   have aX : k + 8 * i + 8 < 1000000000 := by omega
   generalize k + 8 * i = c at *
   have jy : Je wr g (i * 8) [] := Je.nil _ _ _
   obtain ⟨⟨u0, iH⟩, gH⟩ := bE (i * 8) (by omega)
   have cY : Ze (wr.setCell (ad g (i * 8)) (iv (c : Int))) g (n * 8) := bE.set _ _
   have fN : Zc (wr.setCell (ad g (i * 8)) (iv (c : Int))) g 8 i (ja9 k n) := by simpa using dW.store au 0 (iv (c : Int))
   have j7 : Je (wr.setCell (ad g (i * 8)) (iv (c : Int))) g (i * 8) [iv (c : Int)] := by simpa using jy.store bE (n := 0) rfl (by omega) (iv (c : Int))
   have dw : Zb (fun b => b = g /\ 0 < n) w (wr.setCell (ad g (i * 8)) (iv (c : Int))) := dk.set ⟨rfl, by omega⟩ _
   obtain ⟨⟨u1, lG⟩, de⟩ := cY (i * 8 + 1) (by omega)
   have aM := cY.set (ad g (i * 8 + 1)) (.bool (((c : Int) + 1) % 3 == 0))
   have bZ := fN.store au 1 (.bool (((c : Int) + 1) % 3 == 0))
   have gu := j7.store cY (n := 1) rfl (by omega) (.bool (((c : Int) + 1) % 3 == 0))
   have eh := dw.set (o := i * 8 + 1) ⟨rfl, by omega⟩ (.bool (((c : Int) + 1) % 3 == 0))
   obtain ⟨⟨u2, tA⟩, eF⟩ := aM (i * 8 + 2) (by omega)
   have io := aM.set (ad g (i * 8 + 2)) (iv ((c : Int) + 1 + 1))
   have eu := bZ.store au 2 (iv ((c : Int) + 1 + 1))
   have j8 := gu.store aM (n := 2) rfl (by omega) (iv ((c : Int) + 1 + 1))
   have ir := eh.set (o := i * 8 + 2) ⟨rfl, by omega⟩ (iv ((c : Int) + 1 + 1))
   have fo := fun w => jah (c + 3) w (by omega) (by omega)
   rw [show ((c + 3 : Nat) : Int) = (c : Int) + 1 + 1 + 1 by omega] at fo
   go_wp2_with fail
   refine (fo _).mono ?_
   rintro e w1 ⟨rfl, hb1⟩
   have ip := io.below hb1
   have qo := eu.below hb1
   have qA := j8.below hb1
   have qO := ir.trans (Zb.of_below (S := fun b => b = g /\ 0 < n) hb1)
   clear hb1 io eu j8 ir fo
   obtain ⟨⟨u3, tC⟩, gI⟩ := ip (i * 8 + 3) (by omega)
   have jz := ip.set (ad g (i * 8 + 3)) (.string (mtB (c + 3)))
   have kP := qo.store au 3 (.string (mtB (c + 3)))
   have mY := qA.store ip (n := 3) rfl (by omega) (.string (mtB (c + 3)))
   have ja := qO.set (o := i * 8 + 3) ⟨rfl, by omega⟩ (.string (mtB (c + 3)))
   have j4 := fun w => jah (c + 4) w (by omega) (by omega)
   rw [show ((c + 4 : Nat) : Int) = (c : Int) + 1 + 1 + 1 + 1 by omega] at j4
   go_wp2_with fail
   refine (j4 _).mono ?_
   rintro e w2 ⟨rfl, ac⟩
   have iq := jz.below ac
   have qp := kP.below ac
   have qB := mY.below ac
   have qP := ja.trans (Zb.of_below (S := fun b => b = g /\ 0 < n) ac)
   clear ac jz kP mY ja j4
   obtain ⟨⟨u4, tD⟩, nu⟩ := iq (i * 8 + 4) (by omega)
   have eO := iq.set (ad g (i * 8 + 4)) (.string (mtB (c + 4)))
   have iX := qp.store au 4 (.string (mtB (c + 4)))
   have k8 := qB.store iq (n := 4) rfl (by omega) (.string (mtB (c + 4)))
   have oX := qP.set (o := i * 8 + 4) ⟨rfl, by omega⟩ (.string (mtB (c + 4)))
   obtain ⟨⟨u5, tE⟩, th⟩ := eO (i * 8 + 5) (by omega)
   have mh := eO.set (ad g (i * 8 + 5)) (iv ((c : Int) + 1 + 1 + 1 + 1 + 1))
   have md := iX.store au 5 (iv ((c : Int) + 1 + 1 + 1 + 1 + 1))
   have il := k8.store eO (n := 5) rfl (by omega) (iv ((c : Int) + 1 + 1 + 1 + 1 + 1))
   have oY := oX.set (o := i * 8 + 5) ⟨rfl, by omega⟩ (iv ((c : Int) + 1 + 1 + 1 + 1 + 1))
   obtain ⟨⟨u6, Dx⟩, CR⟩ := mh (i * 8 + 6) (by omega)
   have qG := mh.set (ad g (i * 8 + 6)) (iv ((c : Int) + 1 + 1 + 1 + 1 + 1 + 1))
   have Ce := md.store au 6 (iv ((c : Int) + 1 + 1 + 1 + 1 + 1 + 1))
   have fp := il.store mh (n := 6) rfl (by omega) (iv ((c : Int) + 1 + 1 + 1 + 1 + 1 + 1))
   have ka := oY.set (o := i * 8 + 6) ⟨rfl, by omega⟩ (iv ((c : Int) + 1 + 1 + 1 + 1 + 1 + 1))
   obtain ⟨⟨u7, Dy⟩, CT⟩ := qG (i * 8 + 7) (by omega)
   have yL := qG.set (ad g (i * 8 + 7)) (iv ((c : Int) + 1 + 1 + 1 + 1 + 1 + 1 + 1))
   have vh := Ce.store au 7 (iv ((c : Int) + 1 + 1 + 1 + 1 + 1 + 1 + 1))
   have vJ := fp.store qG (n := 7) rfl (by omega) (iv ((c : Int) + 1 + 1 + 1 + 1 + 1 + 1 + 1))
   have yQ := ka.set (o := i * 8 + 7) ⟨rfl, by omega⟩ (iv ((c : Int) + 1 + 1 + 1 + 1 + 1 + 1 + 1))
   have hF : Zc _ g 8 (i + 1) (ja9 k n) := vh.step vJ (by rw [ao]; simp [jis, mbB_at, Int.add_assoc])
   clear vh vJ
   go_wp2
   go_roundw
   case rel => exact ⟨i + 1, by omega, by go_num, by rw [HK.out]; go_num, yL, hF, yQ⟩
   case measure => simp [intOf]; omega
  ·have e : i = n := by omega
   subst e
   go_wp2
   go_ret
   exact ⟨rfl, Zc.seq (by unfold ja9; rw [llm, List.length_range]; exact dW), bE, dk⟩
theorem jgc (n cap k : Nat) (a : Option Addr) (w : World) (hA : Za w a 8 (ja9 k n)) (h0 : 0 < k) (h1 : k + 8 * n < 1000000000) :
  Cl 24 #[.slice a n cap, iv k] w fun e w' => e = .returned (iv ((k + 8 * n : Nat) : Int)) /\ Bw w w' := by
 go_enter Tryz.func24, Tryz.ntmps24
 go_wp2
 go_loopw [1, 5] (fun s t wr => ∃ i : Nat, i <= n /\ t = iv i /\ s = iv ((k + 8 * i : Nat) : Int) /\ Bw w wr) (fun _ t _ => n - (intOf t).toNat)
 case atStart => exact ⟨0, by omega, rfl, rfl, brf _ _⟩
 case round =>
  obtain ⟨i, hi, rfl, rfl, ag⟩ := hrel
  by_cases hlt : i < n
  ·obtain ⟨b, o, rfl, hc⟩ := (hA.below ag).at (jfp (c := k) hlt)
   have HK : Hid (k + 8 * (i + 1) = (k + 8 * i) + 8) := by simp only [Hid]; omega
   have jF : 0 < k + 8 * i := by omega
   have aX : k + 8 * i + 8 < 1000000000 := by omega
   generalize k + 8 * i = c at *
   have MI : wr.cell? (ad b (o + i * 8)) = some (iv (c : Int)) := by simpa using hc 0 _ rfl
   have Ht : wr.cell? (ad b (o + i * 8 + 1)) = some (.bool (((c : Int) + 1) % 3 == 0)) := by have h := hc 1 _ rfl; rw [mbB_at] at h; exact h
   have Eb : wr.cell? (ad b (o + i * 8 + 2)) = some (iv ((c : Int) + 2)) := by simpa using hc 2 _ rfl
   have zy : wr.cell? (ad b (o + i * 8 + 3)) = some (.string (mtB (c + 3))) := by simpa using hc 3 _ rfl
   have xm : wr.cell? (ad b (o + i * 8 + 4)) = some (.string (mtB (c + 4))) := by simpa using hc 4 _ rfl
   have xq : wr.cell? (ad b (o + i * 8 + 5)) = some (iv ((c : Int) + 5)) := by simpa using hc 5 _ rfl
   have Hv : wr.cell? (ad b (o + i * 8 + 6)) = some (iv ((c : Int) + 6)) := by simpa using hc 6 _ rfl
   have Hx : wr.cell? (ad b (o + i * 8 + 7)) = some (iv ((c : Int) + 7)) := by simpa using hc 7 _ rfl
   clear hc
   have fo := fun w => jah (c + 3) w (by omega) (by omega)
   rw [show ((c + 3 : Nat) : Int) = (c : Int) + 3 by omega] at fo
   have FL : ∀ dd os, Cl _ _ (grow (redrawn wr dd) os) fun e bX => e = .returned (.string (mtB (c + 3))) /\ ∃ p : Regrown, bX = grow (redrawn wr p.d) p.os := fun _ _ => Calls.regrown_of (fo _)
   have wY := cell_regrown zy
   go_wp2_with fail
   refine wp_region_quiet_below (by kernel_rfl) (by kernel_rfl) ?_
   repeat (quiet_step ((go_at_call 40; exact FL _ _)))
   refine wpQuiet_nil ?_
   intro w1 bz
   obtain ⟨⟨AK, rG⟩, ry⟩ := bz
   have hb1 : Bw wr w1 := ry ▸ below_regrown wr AK rG
   have aj := qtr ag hb1
   have zz := qce hb1 xm xm
   have xt := qce hb1 xq xq
   have Hw := qce hb1 Hv Hv
   have Hy := qce hb1 Hx Hx
   clear ry wY FL fo hb1
   have j4 := fun w => jah (c + 4) w (by omega) (by omega)
   rw [show ((c + 4 : Nat) : Int) = (c : Int) + 4 by omega] at j4
   have FM : ∀ dd os, Cl _ _ (grow (redrawn w1 dd) os) fun e bX => e = .returned (.string (mtB (c + 4))) /\ ∃ p : Regrown, bX = grow (redrawn w1 p.d) p.os := fun _ _ => Calls.regrown_of (j4 _)
   have wZ := cell_regrown zz
   go_wp2_with fail
   refine wp_region_quiet_below (by kernel_rfl) (by kernel_rfl) ?_
   repeat (quiet_step ((go_at_call 40; exact FM _ _)))
   refine wpQuiet_nil ?_
   intro w2 bz
   obtain ⟨⟨AL, rH⟩, dO⟩ := bz
   have ac : Bw w1 w2 := dO ▸ below_regrown w1 AL rH
   have an := qtr aj ac
   have ML := qce ac xt xt
   have PV := qce ac Hw Hw
   have PW := qce ac Hy Hy
   clear dO wZ FM j4 ac
   go_wp2
   go_roundw
   case rel => exact ⟨i + 1, by omega, by go_num, by rw [HK.out]; go_num, an⟩
   case measure => simp [intOf]; omega
  ·have e : i = n := by omega
   subst e
   go_wp2
   go_ret
   exact ⟨rfl, ag⟩
end
section
open Go.RowKit Go.Sort
def jp9 (c : Nat) : List Value := [iv (c : Nat), iv (c + 1 : Nat)]
def jcq (c n : Nat) : List (List Value) := (List.range n).map fun i => jp9 (c + 2 * i)
theorem jp7 {c n i : Nat} (h : i < n) : (jcq c n)[i]? = some (jp9 (c + 2 * i)) := by unfold jcq; rw [lgm, List.getElem?_range h]; rfl
theorem mksEntry_len {c n : Nat} : ∀ r ∈ jcq c n, r.length = 2 := fun r hr => by
 unfold jcq at hr
 obtain ⟨i, _, rfl⟩ := List.mem_map.mp hr
 rfl
theorem ji2 (n g cap k : Nat) (w : World) (bE : Ze w g (n * 2)) (h0 : 0 < k) (h1 : k + 2 * n < 1000000000) :
  Cl 39 #[.slice (some (ad g 0)) n cap, iv k] w fun e w' => e = .returned (iv ((k + 2 * n : Nat) : Int)) /\ Za w' (some (ad g 0)) 2 (jcq k n) /\ Ze w' g (n * 2) /\ Zb (fun b => b = g /\ 0 < n) w w' := by
 have au := @mksEntry_len k n
 go_enter Tryz.func39, Tryz.ntmps39
 go_wp2
 go_loopw [1, 5] (fun s t wr => ∃ i : Nat, i <= n /\ t = iv i /\ s = iv ((k + 2 * i : Nat) : Int) /\ Ze wr g (n * 2) /\ Zc wr g 2 i (jcq k n) /\ Zb (fun b => b = g /\ 0 < n) w wr) (fun _ t _ => n - (intOf t).toNat)
 case atStart => exact ⟨0, by omega, rfl, rfl, bE, fun i j r c h => by omega, Zb.refl _ _⟩
 case round =>
  clear bE
  obtain ⟨i, hi, rfl, rfl, bE, dW, dk⟩ := hrel
  by_cases hlt : i < n
  ·have ao := jp7 (c := k) hlt
   have HK : Hid (k + 2 * (i + 1) = (k + 2 * i) + 2) := by simp only [Hid]; omega
   have jF : 0 < k + 2 * i := by omega
   have aX : k + 2 * i + 2 < 1000000000 := by omega
   generalize k + 2 * i = c at *
   have jy : Je wr g (i * 2) [] := Je.nil _ _ _
   obtain ⟨⟨u0, iH⟩, gH⟩ := bE (i * 2) (by omega)
   have cY : Ze (wr.setCell (ad g (i * 2)) (iv (c : Int))) g (n * 2) := bE.set _ _
   have fN : Zc (wr.setCell (ad g (i * 2)) (iv (c : Int))) g 2 i (jcq k n) := by simpa using dW.store au 0 (iv (c : Int))
   have j7 : Je (wr.setCell (ad g (i * 2)) (iv (c : Int))) g (i * 2) [iv (c : Int)] := by simpa using jy.store bE (n := 0) rfl (by omega) (iv (c : Int))
   have dw : Zb (fun b => b = g /\ 0 < n) w (wr.setCell (ad g (i * 2)) (iv (c : Int))) := dk.set ⟨rfl, by omega⟩ _
   obtain ⟨⟨u1, lG⟩, de⟩ := cY (i * 2 + 1) (by omega)
   have aM := cY.set (ad g (i * 2 + 1)) (iv ((c : Int) + 1))
   have bZ := fN.store au 1 (iv ((c : Int) + 1))
   have gu := j7.store cY (n := 1) rfl (by omega) (iv ((c : Int) + 1))
   have eh := dw.set (o := i * 2 + 1) ⟨rfl, by omega⟩ (iv ((c : Int) + 1))
   have hF : Zc _ g 2 (i + 1) (jcq k n) := bZ.step gu (by rw [ao]; simp [jp9])
   clear bZ gu
   go_wp2
   go_roundw
   case rel => exact ⟨i + 1, by omega, by go_num, by rw [HK.out]; go_num, aM, hF, eh⟩
   case measure => simp [intOf]; omega
  ·have e : i = n := by omega
   subst e
   go_wp2
   go_ret
   exact ⟨rfl, Zc.seq (by unfold jcq; rw [llm, List.length_range]; exact dW), bE, dk⟩
end
end Go.Proofs.YtgiieknbckhofaaGreatDoor
