/- Packed. -/
import Derived.Test.YtgiieknbckhofaaGreatDoorRelPu
set_option maxRecDepth 20000
set_option maxHeartbeats 20000000
set_option linter.unusedSimpArgs false
namespace Go.Proofs.YtgiieknbckhofaaGreatDoor
section
open Go.RowKit
structure Zb (S : Nat -> Prop) (w w' : World) : Prop where
 os : w'.os = w.os
 tape : w'.tape = w.tape
 output : w'.output = w.output
 size : w.heap.size <= w'.heap.size
 block : ∀ b, b < w.heap.size -> ¬ S b -> w'.heap[b]? = w.heap[b]?
 room : ∀ g m, Zf w g m -> Zf w' g m
theorem Zb.refl (S : Nat -> Prop) (w : World) : Zb S w w := ⟨rfl, rfl, rfl, nlr _, fun _ _ _ => rfl, fun _ _ h => h⟩
theorem Zb.trans {S : Nat -> Prop} {w w1 w2 : World} (h : Zb S w w1) (h2 : Zb S w1 w2) : Zb S w w2 :=
 ⟨h2.os.trans h.os, h2.tape.trans h.tape, h2.output.trans h.output, Nat.le_trans h.size h2.size, fun b hb hs => (h2.block b (Nat.lt_of_lt_of_le hb h.size) hs).trans (h.block b hb hs), fun g m hr => h2.room g m (h.room g m hr)⟩
theorem Zb.mono {S S2 : Nat -> Prop} {w w' : World} (h : Zb S w w') (hs : ∀ b, b < w.heap.size -> S b -> S2 b) : Zb S2 w w' :=
 ⟨h.os, h.tape, h.output, h.size, fun b hb hn => h.block b hb fun hx => hn (hs b hb hx), h.room⟩
theorem Zb.of_below {S : Nat -> Prop} {w w' : World} (h : Bw w w') : Zb S w w' := ⟨h.os, h.tape, h.output, h.size, fun b hb _ => h.block b hb, fun _ _ hr => hr.below h⟩
theorem Zb.set {S : Nat -> Prop} {w w' : World} (h : Zb S w w') {g o : Nat} (hg : S g) (v : Value) : Zb S w (w'.setCell (ad g o) v) := by
 refine ⟨h.os, h.tape, h.output, by simpa using h.size, fun b hb hn => ?_, fun _ _ hr => (h.room _ _ hr).set _ _⟩
 rw [<- h.block b hb hn, Go.Sort.setCell_eq]
 have az : g ≠ b := fun e => hn (e ▸ hg)
 simp [Go.Sort.mapBlock, Array.getElem?_modify, az]
theorem Zb.below {S : Nat -> Prop} {w0 w w' : World} {B : Nat} (h : Zb S w w') (hS : ∀ b, S b -> B <= b) (hB : B <= w.heap.size) (hb : Below B w0 w) : Below B w0 w' :=
 ⟨h.os.trans hb.os, h.tape.trans hb.tape, h.output.trans hb.output, Nat.le_trans hb.size h.size, fun k hk => (h.block k (Nat.lt_of_lt_of_le hk hB) fun hs => by have := hS k hs; omega).trans (hb.block k hk)⟩
theorem Zb.cell {S : Nat -> Prop} {w w' : World} (h : Zb S w w') {b o : Nat} {v : Value} (hs : ¬ S b) (hc : w.cell? (ad b o) = some v) : w'.cell? (ad b o) = some v := by
 rw [World.cell?_of_block (h.block b (qbl hc) hs)]; exact hc
theorem Zb.frozen {S : Nat -> Prop} {w w' : World} (h : Zb S w w') {b o : Nat} (hb : b < w.heap.size) (hs : ¬ S b) : w'.frozen? (ad b o) = w.frozen? (ad b o) := World.frozen?_of_block (h.block b hb hs)
def Jd (w : World) (g o : Nat) (eD : List Value) : Prop := ∀ j v, eD[j]? = some v -> w.cell? (ad g (o + j)) = some v
theorem Jd.nil (w : World) (g o : Nat) : Jd w g o [] := fun j v h => by simp at h
theorem Jd.below {w w' : World} {g o : Nat} {eD : List Value} (h : Jd w g o eD) (hb : Bw w w') : Jd w' g o eD := fun j v hj => by
 have := h j v hj
 rw [(jaf hb).1 _ _ (qbl this)]; exact this
theorem Jd.store {w : World} {g o m : Nat} {eD : List Value} (h : Jd w g o eD) (hR : Zf w g m) {n : Nat} (hn : eD.length = n) (hm : o + n < m) (v : Value) : Jd (w.setCell (ad g (o + n)) v) g o (eD ++ [v]) := fun j u hj => by
 rcases Nat.lt_or_ge j eD.length with hl | hl
 ·rw [lgl hl] at hj
  rw [wco]
  ·exact h j u hj
  ·intro e; injection e with _ e2; omega
 ·rw [List.getElem?_append_right hl] at hj
  have e : j = eD.length := by
   rcases Nat.eq_or_lt_of_le hl with e | e
   ·exact e.symm
   ·rw [List.getElem?_eq_none (by simp; omega)] at hj; cases hj
  subst e
  simp at hj
  subst hj hn
  obtain ⟨⟨u, hu⟩, _⟩ := hR (o + eD.length) hm
  exact wcs _ _ _ hu
theorem Zc.store {w : World} {g q k : Nat} {rows : List (List Value)} (h : Zc w g q k rows) (au : ∀ r ∈ rows, r.length = q) (j : Nat) (v : Value) : Zc (w.setCell (ad g (k * q + j)) v) g q k rows := fun i l r c hi hr hc => by
 have hl : l < q := by
  have := au r (lmg hr)
  have := (lgs hc).1
  omega
 have oJ : i * q + q <= k * q := by
  have : (i + 1) * q <= k * q := Nat.mul_le_mul_right q (by omega)
  rw [Nat.add_mul] at this; omega
 rw [wco]
 ·exact h i l r c hi hr hc
 ·intro e; injection e with _ e2; omega
theorem Zc.step {w : World} {g q k : Nat} {rows : List (List Value)} {row : List Value} (h : Zc w g q k rows) (hp : Jd w g (k * q) row) (hr : rows[k]? = some row) : Zc w g q (k + 1) rows := fun i l r c hi lK hc => by
 by_cases e : i = k
 ·subst e
  rw [hr] at lK
  obtain rfl := osi lK
  exact hp l c hc
 ·exact h i l r c (by omega) lK hc
end
section
open Go.RowKit
def mtF : Nat → Nat → List UInt8 → List UInt8
 | 0, _, c => c
 | f + 1, k, c => if k = 0 then c else mtF f (k / 10) (UInt8.ofNat (48 + k % 10) :: c)
theorem mtF_any : ∀ {f g k : Nat} {c : List UInt8}, k ≤ f → k ≤ g → mtF f k c = mtF g k c
 | 0, 0, _, _, _, _ => rfl
 | 0, g + 1, k, c, h, _ => by rw [mtF, mtF, if_pos (by omega)]
 | f + 1, 0, k, c, _, h => by rw [mtF, mtF, if_pos (by omega)]
 | f + 1, g + 1, k, c, h, h2 => by
  rw [mtF, mtF]
  split
  · rfl
  · exact mtF_any (by omega) (by omega)
def mtGo (k : Nat) (nP : List UInt8) : List UInt8 := mtF k k nP
theorem jv2 (nP : List UInt8) : mtGo 0 nP = nP := rfl
theorem jzi {k : Nat} (h : 0 < k) (nP : List UInt8) : mtGo k nP = mtGo (k / 10) (UInt8.ofNat (48 + k % 10) :: nP) := by
 obtain ⟨f, rfl⟩ : ∃ f, k = f + 1 := ⟨k - 1, by omega⟩
 rw [mtGo, mtF, if_neg (by omega)]; exact mtF_any (by omega) (by omega)
theorem ret_strM {a b : ByteArray} (h : a = b) : Ending.returned (.string a) = .returned (.string b) := by rw [h]
def mtB (k : Nat) : ByteArray := ⟨(109 :: mtGo k []).toArray⟩
theorem jaj (k : Nat) (w : World) (h0 : 0 < k) (h1 : k < 1000000000) :
  Cl 40 #[iv k] w fun e w' => e = .returned (.string (mtB k)) /\ Bw w w' := by
 go_enter Tryz.func40, Tryz.ntmps40
 go_wp2
 go_loopw [0, 3] (fun s o wr => ∃ (m : Nat) (l : List UInt8), s = iv m /\ o = .string ⟨l.toArray⟩ /\ l.length <= 9 /\ m < 10 ^ (9 - l.length) /\ Hid (mtGo m l = mtGo k []) /\ Bw w wr) (fun s _ _ => (intOf s).toNat)
 case atStart => exact ⟨k, [], rfl, rfl, by simp, by simpa using h1, rfl, brf _ _⟩
 case round =>
  obtain ⟨m, l, rfl, rfl, hl, hm, HG, hB⟩ := hrel
  by_cases mO : 0 < m
  ·have GC : l.length < 9 := by
    rcases Nat.lt_or_ge l.length 9 with h | h
    ·exact h
    ·have e : 9 - l.length = 0 := by omega
     rw [e] at hm; omega
   have HL : Hid (m / 10 < 10 ^ (9 - (l.length + 1))) := by
    simp only [Hid]
    rw [show 9 - l.length = (9 - (l.length + 1)) + 1 by omega, Nat.pow_succ] at hm
    omega
   have HR : Hid (mtGo (m / 10) (UInt8.ofNat (48 + m % 10) :: l) = mtGo k []) := by simp only [Hid]; rw [<- jzi mO]; exact HG.out
   have PJ : (m : Int) <= 1000000000 := by
    have := Nat.pow_le_pow_right (show 0 < 10 by omega) (show 9 - l.length <= 9 by omega)
    have h9 : 10 ^ 9 = 1000000000 := by decide
    omega
   clear hm
   have hu : (UInt8.ofNat (48 + m % 10)).toNat = 48 + m % 10 := UInt8.toNat_ofNat_of_lt' (by have : UInt8.size = 256 := rfl; omega)
   have kc : (convert 128 9 (.slice (some (ad wr.heap.size 0)) 1 1)).run Tryz.prog (wr.alloc (.cells #[.int .u8 (48 + (m : Int) % 10)] 5)) = .ok (.string ⟨#[UInt8.ofNat (48 + m % 10)]⟩) (wr.alloc (.cells #[.int .u8 (48 + (m : Int) % 10)] 5)) :=
    run_convert_bytes_back _ 128 9 5 (ad wr.heap.size 0) 1 [UInt8.ofNat (48 + m % 10)] Tryz.underlying128 Tryz.underlying5 Tryz.underlying9 (fun j hj => by
     have e : j = 0 := by simpa using hj
     subst e
     simp only [List.getElem_cons_zero, hu]
     simp [go_sem])
   have HC : Hid (∀ b : UInt8, ({ data := #[b] } : ByteArray) ++ ⟨l.toArray⟩ = ⟨(b :: l).toArray⟩) := fun b => by apply ByteArray.ext; simp
   generalize UInt8.ofNat (48 + m % 10) = c at *
   clear hu
   go_wp2
   go_roundw
   case rel => exact ⟨m / 10, c :: l, by go_num, by rw [HC.out], by simp; omega, by simpa using HL.out, HR, hB.alloc hB.size _⟩
   case measure => simp [intOf]; omega
  ·have e : m = 0 := by omega
   subst e
   have HR : Hid (({ data := #[109] } : ByteArray) ++ ⟨l.toArray⟩ = mtB k) := by
    simp only [Hid]
    have := HG.out
    rw [jv2] at this
    subst this
    unfold mtB
    apply ByteArray.ext
    simp
   clear HG
   go_wp2
   go_ret
   exact ⟨ret_strM HR.out, hB⟩
end
section
open Go.RowKit Go.Sort
def jv5 (c : Nat) : List Value := [.string (mtB (c)), iv (c + 1 : Nat), iv (c + 2 : Nat), iv (c + 3 : Nat), .string (mtB (c + 4)), iv (c + 5 : Nat), .string (mtB (c + 6)), iv (c + 7 : Nat), .string (mtB (c + 8))]
def jdm (c n : Nat) : List (List Value) := (List.range n).map fun i => jv5 (c + 9 * i)
theorem jtj {c n i : Nat} (h : i < n) : (jdm c n)[i]? = some (jv5 (c + 9 * i)) := by unfold jdm; rw [lgm, List.getElem?_range h]; rfl
theorem mksRule_len {c n : Nat} : ∀ r ∈ jdm c n, r.length = 9 := fun r hr => by
 unfold jdm at hr
 obtain ⟨i, _, rfl⟩ := List.mem_map.mp hr
 rfl
theorem jj6 (n g cap k : Nat) (w : World) (bC : Zf w g (n * 9)) (h0 : 0 < k) (h1 : k + 9 * n < 1000000000) :
  Cl 76 #[so g n cap, iv k] w fun e w' => e = .returned (iv ((k + 9 * n : Nat) : Int)) /\ Za w' (some (ad g 0)) 9 (jdm k n) /\ Zf w' g (n * 9) /\ Zb (fun b => b = g /\ 0 < n) w w' := by
 have au := @mksRule_len k n
 go_enter Tryz.func76, Tryz.ntmps76
 go_wp2
 go_loopw [1, 5] (fun s t wr => ∃ i : Nat, i <= n /\ t = iv i /\ s = iv ((k + 9 * i : Nat) : Int) /\ Zf wr g (n * 9) /\ Zc wr g 9 i (jdm k n) /\ Zb (fun b => b = g /\ 0 < n) w wr) (fun _ t _ => n - (intOf t).toNat)
 case atStart => exact ⟨0, by omega, rfl, rfl, bC, fun i j r c h => by omega, Zb.refl _ _⟩
 case round =>
  clear bC
  obtain ⟨i, hi, rfl, rfl, bC, dT, di⟩ := hrel
  by_cases hlt : i < n
  ·have ap := jtj (c := k) hlt
   have HK : Hid (k + 9 * (i + 1) = (k + 9 * i) + 9) := by simp only [Hid]; omega
   have jR : 0 < k + 9 * i := by omega
   have aY : k + 9 * i + 9 < 1000000000 := by omega
   generalize k + 9 * i = c at *
   have jk : Jd wr g (i * 9) [] := Jd.nil _ _ _
   have dH := fun w => jaj (c) w (by omega) (by omega)
   go_wp2_with fail
   refine (dH _).mono ?_
   rintro e w1 ⟨rfl, hb1⟩
   have i7 := bC.below hb1
   have pM := dT.below hb1
   have pY := jk.below hb1
   have ql := di.trans (Zb.of_below (S := fun b => b = g /\ 0 < n) hb1)
   clear hb1 bC dT jk di dH
   obtain ⟨⟨u0, iu⟩, gn⟩ := i7 (i * 9) (by omega)
   have cW : Zf (w1.setCell (ad g (i * 9)) (.string (mtB (c)))) g (n * 9) := i7.set _ _
   have fH : Zc (w1.setCell (ad g (i * 9)) (.string (mtB (c)))) g 9 i (jdm k n) := by simpa using pM.store au 0 (.string (mtB (c)))
   have iP : Jd (w1.setCell (ad g (i * 9)) (.string (mtB (c)))) g (i * 9) [.string (mtB (c))] := by simpa using pY.store i7 (n := 0) rfl (by omega) (.string (mtB (c)))
   have dt : Zb (fun b => b = g /\ 0 < n) w (w1.setCell (ad g (i * 9)) (.string (mtB (c)))) := ql.set ⟨rfl, by omega⟩ _
   obtain ⟨⟨u1, kS⟩, cZ⟩ := cW (i * 9 + 1) (by omega)
   have aN := cW.set (ad g (i * 9 + 1)) (iv ((c : Int) + 1))
   have bY := fH.store au 1 (iv ((c : Int) + 1))
   have gg := iP.store cW (n := 1) rfl (by omega) (iv ((c : Int) + 1))
   have dY := dt.set (o := i * 9 + 1) ⟨rfl, by omega⟩ (iv ((c : Int) + 1))
   obtain ⟨⟨u2, sQ⟩, ep⟩ := aN (i * 9 + 2) (by omega)
   have i8 := aN.set (ad g (i * 9 + 2)) (iv ((c : Int) + 1 + 1))
   have eh := bY.store au 2 (iv ((c : Int) + 1 + 1))
   have iQ := gg.store aN (n := 2) rfl (by omega) (iv ((c : Int) + 1 + 1))
   have ic := dY.set (o := i * 9 + 2) ⟨rfl, by omega⟩ (iv ((c : Int) + 1 + 1))
   obtain ⟨⟨u3, sR⟩, gp⟩ := i8 (i * 9 + 3) (by omega)
   have jl := i8.set (ad g (i * 9 + 3)) (iv ((c : Int) + 1 + 1 + 1))
   have kA := eh.store au 3 (iv ((c : Int) + 1 + 1 + 1))
   have mi := iQ.store i8 (n := 3) rfl (by omega) (iv ((c : Int) + 1 + 1 + 1))
   have iS := ic.set (o := i * 9 + 3) ⟨rfl, by omega⟩ (iv ((c : Int) + 1 + 1 + 1))
   have lz := fun w => jaj (c + 4) w (by omega) (by omega)
   rw [show ((c + 4 : Nat) : Int) = (c : Int) + 1 + 1 + 1 + 1 by omega] at lz
   go_wp2_with fail
   refine (lz _).mono ?_
   rintro e w2 ⟨rfl, ac⟩
   have ib := jl.below ac
   have pO := kA.below ac
   have q9 := mi.below ac
   have qn := iS.trans (Zb.of_below (S := fun b => b = g /\ 0 < n) ac)
   clear ac jl kA mi iS lz
   obtain ⟨⟨u4, sS⟩, mC⟩ := ib (i * 9 + 4) (by omega)
   have eG := ib.set (ad g (i * 9 + 4)) (.string (mtB (c + 4)))
   have iL := pO.store au 4 (.string (mtB (c + 4)))
   have jP := q9.store ib (n := 4) rfl (by omega) (.string (mtB (c + 4)))
   have ou := qn.set (o := i * 9 + 4) ⟨rfl, by omega⟩ (.string (mtB (c + 4)))
   obtain ⟨⟨u5, sT⟩, sF⟩ := eG (i * 9 + 5) (by omega)
   have lA := eG.set (ad g (i * 9 + 5)) (iv ((c : Int) + 1 + 1 + 1 + 1 + 1))
   have lr := iL.store au 5 (iv ((c : Int) + 1 + 1 + 1 + 1 + 1))
   have i6 := jP.store eG (n := 5) rfl (by omega) (iv ((c : Int) + 1 + 1 + 1 + 1 + 1))
   have ov := ou.set (o := i * 9 + 5) ⟨rfl, by omega⟩ (iv ((c : Int) + 1 + 1 + 1 + 1 + 1))
   have Bu := fun w => jaj (c + 6) w (by omega) (by omega)
   rw [show ((c + 6 : Nat) : Int) = (c : Int) + 1 + 1 + 1 + 1 + 1 + 1 by omega] at Bu
   go_wp2_with fail
   refine (Bu _).mono ?_
   rintro e w3 ⟨rfl, av⟩
   have qf := lA.below av
   have Bf := lr.below av
   have BF := i6.below av
   have BM := ov.trans (Zb.of_below (S := fun b => b = g /\ 0 < n) av)
   clear av lA lr i6 ov Bu
   obtain ⟨⟨u6, CJ⟩, C1⟩ := qf (i * 9 + 6) (by omega)
   have qg := qf.set (ad g (i * 9 + 6)) (.string (mtB (c + 6)))
   have Bg := Bf.store au 6 (.string (mtB (c + 6)))
   have fi := BF.store qf (n := 6) rfl (by omega) (.string (mtB (c + 6)))
   have ms := BM.set (o := i * 9 + 6) ⟨rfl, by omega⟩ (.string (mtB (c + 6)))
   obtain ⟨⟨u7, CK⟩, C4⟩ := qg (i * 9 + 7) (by omega)
   have xJ := qg.set (ad g (i * 9 + 7)) (iv ((c : Int) + 1 + 1 + 1 + 1 + 1 + 1 + 1))
   have un := Bg.store au 7 (iv ((c : Int) + 1 + 1 + 1 + 1 + 1 + 1 + 1))
   have uM := fi.store qg (n := 7) rfl (by omega) (iv ((c : Int) + 1 + 1 + 1 + 1 + 1 + 1 + 1))
   have xO := ms.set (o := i * 9 + 7) ⟨rfl, by omega⟩ (iv ((c : Int) + 1 + 1 + 1 + 1 + 1 + 1 + 1))
   have sl := fun w => jaj (c + 8) w (by omega) (by omega)
   rw [show ((c + 8 : Nat) : Int) = (c : Int) + 1 + 1 + 1 + 1 + 1 + 1 + 1 + 1 by omega] at sl
   go_wp2_with fail
   refine (sl _).mono ?_
   rintro e w4 ⟨rfl, aD⟩
   have qh := xJ.below aD
   have Bh := un.below aD
   have BG := uM.below aD
   have BN := xO.trans (Zb.of_below (S := fun b => b = g /\ 0 < n) aD)
   clear aD xJ un uM xO sl
   obtain ⟨⟨u8, Lr⟩, KH⟩ := qh (i * 9 + 8) (by omega)
   have Ko := qh.set (ad g (i * 9 + 8)) (.string (mtB (c + 8)))
   have FE := Bh.store au 8 (.string (mtB (c + 8)))
   have qa := BG.store qh (n := 8) rfl (by omega) (.string (mtB (c + 8)))
   have Ks := BN.set (o := i * 9 + 8) ⟨rfl, by omega⟩ (.string (mtB (c + 8)))
   have hF : Zc _ g 9 (i + 1) (jdm k n) := FE.step qa (by rw [ap]; simp [jv5, Int.add_assoc])
   clear FE qa
   go_wp2
   go_roundw
   case rel => exact ⟨i + 1, by omega, by go_num, by rw [HK.out]; go_num, Ko, hF, Ks⟩
   case measure => simp [intOf]; omega
  ·have e : i = n := by omega
   subst e
   go_wp2
   go_ret
   exact ⟨rfl, Zc.seq (by unfold jdm; rw [llm, List.length_range]; exact dT), bC, di⟩
end
section
open Go.RowKit Go.Sort
def j19 (c : Nat) : List Value := [iv (c : Nat), .string (mtB (c + 1)), iv (c + 2 : Nat), .string (mtB (c + 3)), iv (c + 4 : Nat), .string (mtB (c + 5))]
def jfl (c n : Nat) : List (List Value) := (List.range n).map fun i => j19 (c + 6 * i)
theorem jv4 {c n i : Nat} (h : i < n) : (jfl c n)[i]? = some (j19 (c + 6 * i)) := by unfold jfl; rw [lgm, List.getElem?_range h]; rfl
theorem mksEra_len {c n : Nat} : ∀ r ∈ jfl c n, r.length = 6 := fun r hr => by
 unfold jfl at hr
 obtain ⟨i, _, rfl⟩ := List.mem_map.mp hr
 rfl
theorem jl6 (n g cap k : Nat) (w : World) (bC : Zf w g (n * 6)) (h0 : 0 < k) (h1 : k + 6 * n < 1000000000) :
  Cl 111 #[so g n cap, iv k] w fun e w' => e = .returned (iv ((k + 6 * n : Nat) : Int)) /\ Za w' (some (ad g 0)) 6 (jfl k n) /\ Zf w' g (n * 6) /\ Zb (fun b => b = g /\ 0 < n) w w' := by
 have au := @mksEra_len k n
 go_enter Tryz.func111, Tryz.ntmps111
 go_wp2
 go_loopw [1, 5] (fun s t wr => ∃ i : Nat, i <= n /\ t = iv i /\ s = iv ((k + 6 * i : Nat) : Int) /\ Zf wr g (n * 6) /\ Zc wr g 6 i (jfl k n) /\ Zb (fun b => b = g /\ 0 < n) w wr) (fun _ t _ => n - (intOf t).toNat)
 case atStart => exact ⟨0, by omega, rfl, rfl, bC, fun i j r c h => by omega, Zb.refl _ _⟩
 case round =>
  clear bC
  obtain ⟨i, hi, rfl, rfl, bC, dT, di⟩ := hrel
  by_cases hlt : i < n
  ·have ap := jv4 (c := k) hlt
   have HK : Hid (k + 6 * (i + 1) = (k + 6 * i) + 6) := by simp only [Hid]; omega
   have jR : 0 < k + 6 * i := by omega
   have aY : k + 6 * i + 6 < 1000000000 := by omega
   generalize k + 6 * i = c at *
   have jk : Jd wr g (i * 6) [] := Jd.nil _ _ _
   obtain ⟨⟨u0, iu⟩, gn⟩ := bC (i * 6) (by omega)
   have cW : Zf (wr.setCell (ad g (i * 6)) (iv (c : Int))) g (n * 6) := bC.set _ _
   have fH : Zc (wr.setCell (ad g (i * 6)) (iv (c : Int))) g 6 i (jfl k n) := by simpa using dT.store au 0 (iv (c : Int))
   have iP : Jd (wr.setCell (ad g (i * 6)) (iv (c : Int))) g (i * 6) [iv (c : Int)] := by simpa using jk.store bC (n := 0) rfl (by omega) (iv (c : Int))
   have dt : Zb (fun b => b = g /\ 0 < n) w (wr.setCell (ad g (i * 6)) (iv (c : Int))) := di.set ⟨rfl, by omega⟩ _
   have ei := fun w => jaj (c + 1) w (by omega) (by omega)
   rw [show ((c + 1 : Nat) : Int) = (c : Int) + 1 by omega] at ei
   go_wp2_with fail
   refine (ei _).mono ?_
   rintro e w1 ⟨rfl, hb1⟩
   have el := cW.below hb1
   have kw := fH.below hb1
   have kE := iP.below hb1
   have kF := dt.trans (Zb.of_below (S := fun b => b = g /\ 0 < n) hb1)
   clear hb1 cW fH iP dt ei
   obtain ⟨⟨u1, kS⟩, cZ⟩ := el (i * 6 + 1) (by omega)
   have aN := el.set (ad g (i * 6 + 1)) (.string (mtB (c + 1)))
   have bY := kw.store au 1 (.string (mtB (c + 1)))
   have gg := kE.store el (n := 1) rfl (by omega) (.string (mtB (c + 1)))
   have dY := kF.set (o := i * 6 + 1) ⟨rfl, by omega⟩ (.string (mtB (c + 1)))
   obtain ⟨⟨u2, sQ⟩, ep⟩ := aN (i * 6 + 2) (by omega)
   have i8 := aN.set (ad g (i * 6 + 2)) (iv ((c : Int) + 1 + 1))
   have eh := bY.store au 2 (iv ((c : Int) + 1 + 1))
   have iQ := gg.store aN (n := 2) rfl (by omega) (iv ((c : Int) + 1 + 1))
   have ic := dY.set (o := i * 6 + 2) ⟨rfl, by omega⟩ (iv ((c : Int) + 1 + 1))
   have gY := fun w => jaj (c + 3) w (by omega) (by omega)
   rw [show ((c + 3 : Nat) : Int) = (c : Int) + 1 + 1 + 1 by omega] at gY
   go_wp2_with fail
   refine (gY _).mono ?_
   rintro e w2 ⟨rfl, ac⟩
   have i9 := i8.below ac
   have pN := eh.below ac
   have pZ := iQ.below ac
   have qm := ic.trans (Zb.of_below (S := fun b => b = g /\ 0 < n) ac)
   clear ac i8 eh iQ ic gY
   obtain ⟨⟨u3, sR⟩, gp⟩ := i9 (i * 6 + 3) (by omega)
   have jl := i9.set (ad g (i * 6 + 3)) (.string (mtB (c + 3)))
   have kA := pN.store au 3 (.string (mtB (c + 3)))
   have mi := pZ.store i9 (n := 3) rfl (by omega) (.string (mtB (c + 3)))
   have iS := qm.set (o := i * 6 + 3) ⟨rfl, by omega⟩ (.string (mtB (c + 3)))
   obtain ⟨⟨u4, sS⟩, mC⟩ := jl (i * 6 + 4) (by omega)
   have eG := jl.set (ad g (i * 6 + 4)) (iv ((c : Int) + 1 + 1 + 1 + 1))
   have iL := kA.store au 4 (iv ((c : Int) + 1 + 1 + 1 + 1))
   have jP := mi.store jl (n := 4) rfl (by omega) (iv ((c : Int) + 1 + 1 + 1 + 1))
   have ou := iS.set (o := i * 6 + 4) ⟨rfl, by omega⟩ (iv ((c : Int) + 1 + 1 + 1 + 1))
   have sk := fun w => jaj (c + 5) w (by omega) (by omega)
   rw [show ((c + 5 : Nat) : Int) = (c : Int) + 1 + 1 + 1 + 1 + 1 by omega] at sk
   go_wp2_with fail
   refine (sk _).mono ?_
   rintro e w3 ⟨rfl, av⟩
   have qd := eG.below av
   have Be := iL.below av
   have BE := jP.below av
   have BL := ou.trans (Zb.of_below (S := fun b => b = g /\ 0 < n) av)
   clear av eG iL jP ou sk
   obtain ⟨⟨u5, sT⟩, sF⟩ := qd (i * 6 + 5) (by omega)
   have lA := qd.set (ad g (i * 6 + 5)) (.string (mtB (c + 5)))
   have lr := Be.store au 5 (.string (mtB (c + 5)))
   have i6 := BE.store qd (n := 5) rfl (by omega) (.string (mtB (c + 5)))
   have ov := BL.set (o := i * 6 + 5) ⟨rfl, by omega⟩ (.string (mtB (c + 5)))
   have hF : Zc _ g 6 (i + 1) (jfl k n) := lr.step i6 (by rw [ap]; simp [j19, Int.add_assoc])
   clear lr i6
   go_wp2
   go_roundw
   case rel => exact ⟨i + 1, by omega, by go_num, by rw [HK.out]; go_num, lA, hF, ov⟩
   case measure => simp [intOf]; omega
  ·have e : i = n := by omega
   subst e
   go_wp2
   go_ret
   exact ⟨rfl, Zc.seq (by unfold jfl; rw [llm, List.length_range]; exact dT), bC, di⟩
end
section
open Go.RowKit Go.Sort
def jv6 (c : Nat) : List Value := [.string (mtB (c)), .string (mtB (c + 1))]
def jdn (c n : Nat) : List (List Value) := (List.range n).map fun i => jv6 (c + 2 * i)
theorem jtk {c n i : Nat} (h : i < n) : (jdn c n)[i]? = some (jv6 (c + 2 * i)) := by unfold jdn; rw [lgm, List.getElem?_range h]; rfl
theorem mksLink_len {c n : Nat} : ∀ r ∈ jdn c n, r.length = 2 := fun r hr => by
 unfold jdn at hr
 obtain ⟨i, _, rfl⟩ := List.mem_map.mp hr
 rfl
theorem jj7 (n g cap k : Nat) (w : World) (bC : Zf w g (n * 2)) (h0 : 0 < k) (h1 : k + 2 * n < 1000000000) :
  Cl 78 #[so g n cap, iv k] w fun e w' => e = .returned (iv ((k + 2 * n : Nat) : Int)) /\ Za w' (some (ad g 0)) 2 (jdn k n) /\ Zf w' g (n * 2) /\ Zb (fun b => b = g /\ 0 < n) w w' := by
 have au := @mksLink_len k n
 go_enter Tryz.func78, Tryz.ntmps78
 go_wp2
 go_loopw [1, 5] (fun s t wr => ∃ i : Nat, i <= n /\ t = iv i /\ s = iv ((k + 2 * i : Nat) : Int) /\ Zf wr g (n * 2) /\ Zc wr g 2 i (jdn k n) /\ Zb (fun b => b = g /\ 0 < n) w wr) (fun _ t _ => n - (intOf t).toNat)
 case atStart => exact ⟨0, by omega, rfl, rfl, bC, fun i j r c h => by omega, Zb.refl _ _⟩
 case round =>
  clear bC
  obtain ⟨i, hi, rfl, rfl, bC, dT, di⟩ := hrel
  by_cases hlt : i < n
  ·have ap := jtk (c := k) hlt
   have HK : Hid (k + 2 * (i + 1) = (k + 2 * i) + 2) := by simp only [Hid]; omega
   have jR : 0 < k + 2 * i := by omega
   have aY : k + 2 * i + 2 < 1000000000 := by omega
   generalize k + 2 * i = c at *
   have jk : Jd wr g (i * 2) [] := Jd.nil _ _ _
   have dH := fun w => jaj (c) w (by omega) (by omega)
   go_wp2_with fail
   refine (dH _).mono ?_
   rintro e w1 ⟨rfl, hb1⟩
   have i7 := bC.below hb1
   have pM := dT.below hb1
   have pY := jk.below hb1
   have ql := di.trans (Zb.of_below (S := fun b => b = g /\ 0 < n) hb1)
   clear hb1 bC dT jk di dH
   obtain ⟨⟨u0, iu⟩, gn⟩ := i7 (i * 2) (by omega)
   have cW : Zf (w1.setCell (ad g (i * 2)) (.string (mtB (c)))) g (n * 2) := i7.set _ _
   have fH : Zc (w1.setCell (ad g (i * 2)) (.string (mtB (c)))) g 2 i (jdn k n) := by simpa using pM.store au 0 (.string (mtB (c)))
   have iP : Jd (w1.setCell (ad g (i * 2)) (.string (mtB (c)))) g (i * 2) [.string (mtB (c))] := by simpa using pY.store i7 (n := 0) rfl (by omega) (.string (mtB (c)))
   have dt : Zb (fun b => b = g /\ 0 < n) w (w1.setCell (ad g (i * 2)) (.string (mtB (c)))) := ql.set ⟨rfl, by omega⟩ _
   have ei := fun w => jaj (c + 1) w (by omega) (by omega)
   rw [show ((c + 1 : Nat) : Int) = (c : Int) + 1 by omega] at ei
   go_wp2_with fail
   refine (ei _).mono ?_
   rintro e w2 ⟨rfl, ac⟩
   have el := cW.below ac
   have kw := fH.below ac
   have kE := iP.below ac
   have kF := dt.trans (Zb.of_below (S := fun b => b = g /\ 0 < n) ac)
   clear ac cW fH iP dt ei
   obtain ⟨⟨u1, kS⟩, cZ⟩ := el (i * 2 + 1) (by omega)
   have aN := el.set (ad g (i * 2 + 1)) (.string (mtB (c + 1)))
   have bY := kw.store au 1 (.string (mtB (c + 1)))
   have gg := kE.store el (n := 1) rfl (by omega) (.string (mtB (c + 1)))
   have dY := kF.set (o := i * 2 + 1) ⟨rfl, by omega⟩ (.string (mtB (c + 1)))
   have hF : Zc _ g 2 (i + 1) (jdn k n) := bY.step gg (by rw [ap]; simp [jv6])
   clear bY gg
   go_wp2
   go_roundw
   case rel => exact ⟨i + 1, by omega, by go_num, by rw [HK.out]; go_num, aN, hF, dY⟩
   case measure => simp [intOf]; omega
  ·have e : i = n := by omega
   subst e
   go_wp2
   go_ret
   exact ⟨rfl, Zc.seq (by unfold jdn; rw [llm, List.length_range]; exact dT), bC, di⟩
end
section
open Go.RowKit Go.Sort
def zc (l : List ZoneD) : Nat := (l.map fun z => 1 + 6 * z.eras.length).sum
theorem j1k {l : List ZoneD} {k : Nat} {r : ZoneD} (h : l[k]? = some r) : zc (l.take (k + 1)) = zc (l.take k) + (1 + 6 * r.eras.length) := by
 unfold zc
 rw [List.take_add_one, h]
 simp
theorem zc_le (l : List ZoneD) (k : Nat) : zc (l.take k) <= zc l := by
 have := congrArg (fun l => (l.map fun z : ZoneD => 1 + 6 * z.eras.length).sum) (List.take_append_drop k l)
 simp only [lma, List.sum_append] at this
 unfold zc
 omega
theorem zc_sz (l : List ZoneD) : zc l <= 7 * (l.length + zsz l) := by
 unfold zc zsz
 induction l with
 | nil => simp
 | cons z l ih =>
  simp only [List.map_cons, List.sum_cons, List.length_cons]
  have : z.eras.length <= z.sz := by unfold ZoneD.sz; omega
  omega
def Ja (w : World) (g U : Nat) (zs : List ZoneD) : Prop := ∀ i z, zs[i]? = some z -> ∃ q, g < q /\ (0 < z.eras.length -> q < U) /\ w.cell? (ad g (i * 2 + 1)) = some (so q z.eras.length z.eras.length) /\ Zf w q (z.eras.length * 6)
theorem Ja.below {w w' : World} {g U : Nat} {zs : List ZoneD} (h : Ja w g U zs) (hb : Bw w w') : Ja w' g U zs := fun i z hz => by
 obtain ⟨q, hq, hu, c1, hr⟩ := h i z hz
 exact ⟨q, hq, hu, by rw [(jaf hb).1 _ _ (qbl c1)]; exact c1, hr.below hb⟩
theorem Ja.store {w : World} {g U : Nat} {zs : List ZoneD} (h : Ja w g U zs) (k : Nat) (v : Value) : Ja (w.setCell (ad g (k * 2)) v) g U zs := fun i z hz => by
 obtain ⟨q, hq, hu, c1, hr⟩ := h i z hz
 refine ⟨q, hq, hu, ?_, hr.set _ _⟩
 rw [wco]
 ·exact c1
 ·intro e; injection e with _ e2; omega
theorem Ja.touch {S : Nat -> Prop} {w w' : World} {g U : Nat} {zs : List ZoneD} (h : Ja w g U zs) (ht : Zb S w w') (hq : ¬ S g) : Ja w' g U zs := fun i z hz => by
 obtain ⟨q', CC, hu, c1, hr⟩ := h i z hz
 exact ⟨q', CC, hu, ht.cell hq c1, ht.room _ _ hr⟩
theorem Zf.lt {w : World} {g m : Nat} (h : Zf w g m) (hm : 0 < m) : g < w.heap.size := by
 obtain ⟨⟨v, hv⟩, _⟩ := h 0 hm
 exact qbl hv
theorem jj4 (zs : List ZoneD) (g cap k B U : Nat) (w : World) (bC : Zf w g (zs.length * 2)) (uX : Ja w g U zs) (hB : B <= g) (hU : 0 < zs.length -> g < U) (h0 : 0 < k) (h1 : k + zc zs < 900000000) (hn : zs.length <= 1048576) :
  Cl 77 #[so g zs.length cap, iv k] w fun e w' => e = .returned (iv ((k + zc zs : Nat) : Int)) /\ Zb (fun b => B <= b /\ b < U) w w' := by
 go_enter Tryz.func77, Tryz.ntmps77
 go_wp2
 go_loopw [1, 5] (fun s t wr => ∃ i : Nat, i <= zs.length /\ t = iv i /\ s = iv ((k + zc (zs.take i) : Nat) : Int) /\ Zf wr g (zs.length * 2) /\ Ja wr g U zs /\ Zb (fun b => B <= b /\ b < U) w wr) (fun _ t _ => zs.length - (intOf t).toNat)
 case atStart => exact ⟨0, by omega, rfl, by simp [zc], bC, uX, Zb.refl _ _⟩
 case round =>
  clear bC uX
  obtain ⟨i, hi, rfl, rfl, bC, uX, di⟩ := hrel
  by_cases hlt : i < zs.length
  ·obtain ⟨z, hz⟩ := qgg hlt
   have KM := hU (by omega)
   have ht := j1k hz
   have bS := zc_le zs (i + 1)
   have HK : Hid (k + zc (zs.take (i + 1)) = (k + zc (zs.take i)) + 1 + 6 * z.eras.length) := by simp only [Hid]; omega
   have jR : 0 < k + zc (zs.take i) := by omega
   have aY : k + zc (zs.take i) + 1 + 6 * z.eras.length < 900000000 := by omega
   generalize k + zc (zs.take i) = c at *
   clear ht bS
   have hM := fun w => jaj c w jR (by omega)
   go_wp2_with fail
   refine (hM _).mono ?_
   rintro e w1 ⟨rfl, hb1⟩
   have cW := bC.below hb1
   have jp := uX.below hb1
   have dt := di.trans (Zb.of_below (S := fun b => B <= b /\ b < U) hb1)
   obtain ⟨⟨u0, iu⟩, gn⟩ := cW (i * 2) (by omega)
   have aN : Zf (w1.setCell (ad g (i * 2)) (.string (mtB c))) g (zs.length * 2) := cW.set _ _
   have Gf : Ja (w1.setCell (ad g (i * 2)) (.string (mtB c))) g U zs := jp.store i _
   have dY : Zb (fun b => B <= b /\ b < U) w (w1.setCell (ad g (i * 2)) (.string (mtB c))) := dt.set ⟨hB, KM⟩ _
   clear hM hb1 bC uX di cW jp dt
   obtain ⟨q, hq, Li, c1, hr⟩ := Gf i z hz
   have hE := jl6 z.eras.length q z.eras.length (c + 1) (w1.setCell (ad g (i * 2)) (.string (mtB c))) hr (by omega) (by omega)
   rw [show ((c + 1 : Nat) : Int) = (c : Int) + 1 by omega] at hE
   go_wp2_with fail
   refine hE.mono ?_
   rintro e w3 ⟨rfl, _, _, CG⟩
   have i8 := CG.room _ _ aN
   have Kv := Gf.touch CG (fun h => by have : g = q := h.1; omega)
   have ic := dY.trans (CG.mono fun b _ hb => show B <= b /\ b < U from by
    have e1 : b = q := hb.1
    have e2 := Li hb.2
    omega)
   go_wp2
   go_roundw
   case rel => exact ⟨i + 1, by omega, by go_num, by rw [HK.out]; go_num, i8, Kv, ic⟩
   case measure => simp [intOf]; omega
  ·have e : i = zs.length := by omega
   subst e
   have HR : Hid (zc (zs.take zs.length) = zc zs) := by simp only [Hid]; rw [List.take_length]
   rw [HR.out]
   go_wp2
   go_ret
   exact ⟨rfl, di⟩
structure Zp (w : World) (B U : Nat) (v : Value) (r : RelD) : Prop where
 form : ∃ a b c, v = .agg #[so a r.rules.length r.rules.length, so b r.zones.length r.zones.length, so c r.links.length r.links.length] /\
  (B <= a /\ B <= b /\ B <= c) /\ ((0 < r.rules.length -> a < U) /\ (0 < r.zones.length -> b < U) /\ (0 < r.links.length -> c < U)) /\ (0 < r.rules.length -> 0 < r.zones.length -> a ≠ b) /\ Zf w a (r.rules.length * 9) /\ Zf w b (r.zones.length * 2) /\ Ja w b U r.zones /\ Zf w c (r.links.length * 2)
theorem Zr.upto {w w' : World} {B : Nat} {v : Value} {r : RelD} (h : Zr w B v r) (hb : Bw w w') : Zp w' B w.heap.size v r := by
 obtain ⟨a, b, c, hv, hB, ⟨oq, xK⟩, ⟨hZ, xL⟩, ⟨_, xM⟩⟩ := h.form
 have gj : 0 < r.rules.length -> 0 < r.zones.length -> a ≠ b := fun h1 h2 e => by
  subst e
  obtain ⟨x, hx⟩ := qgg h1
  obtain ⟨z, hz⟩ := qgg h2
  obtain ⟨b', o', he, hc⟩ := oq.at (i := 0) (r := x.cs) (by rw [lgm, hx]; rfl)
  injection he with he
  injection he with e1 e2
  subst e1 e2
  have p1 := hc 1 _ rfl
  obtain ⟨_, q, _, p2, _, _⟩ := hZ 0 z h2 hz
  rw [show 0 + 0 * 9 + 1 = 0 * 2 + 1 by omega, p2] at p1
  cases p1
 refine ⟨a, b, c, hv, hB, ⟨fun h => xK.lt (by omega), fun h => xL.lt (by omega), fun h => xM.lt (by omega)⟩, gj, xK.below hb, xL.below hb, Ja.below (fun i z hz => ?_) hb, xM.below hb⟩
 obtain ⟨_, q, hq, c1, _, hr⟩ := hZ i z (lgs hz).1 hz
 exact ⟨q, hq, fun h => hr.lt (by omega), c1, hr⟩
theorem jdf (r : RelD) (v : Value) (k B U : Nat) (w : World) (hv : Zp w B U v r) (hU : U <= w.heap.size) (hsz : r.sz <= 1048576) (hk : 0 < k) (eU : k <= 100000000) :
  Cl 38 #[v, iv (k : Int)] w fun e w' => (∃ K : Nat, e = .returned (iv (K : Int)) /\ k <= K /\ K <= k + 30000000) /\ Zb (fun b => B <= b /\ b < U) w w' := by
 obtain ⟨a, b, c, rfl, ⟨ha, hb, hc⟩, ⟨ua, ub, uc⟩, gj, xK, xL, hZ, xM⟩ := hv.form
 have PU := zc_sz r.zones
 unfold RelD.sz at hsz
 have h1 := fun w (h : Zf w a (r.rules.length * 9)) => jj6 r.rules.length a r.rules.length k w h (by omega) (by omega)
 have h2 := fun w (h : Zf w b (r.zones.length * 2)) (h2 : Ja w b U r.zones) => jj4 r.zones b r.zones.length (k + 9 * r.rules.length) B U w h h2 hb ub (by omega) (by omega) (by omega)
 have h3 := fun w (h : Zf w c (r.links.length * 2)) => jj7 r.links.length c r.links.length (k + 9 * r.rules.length + zc r.zones) w h (by omega) (by omega)
 have ag := qal w (.cells #[so a r.rules.length r.rules.length, so b r.zones.length r.zones.length, so c r.links.length r.links.length] 38)
 obtain ⟨x1, x2⟩ : (fun z : World => z.cell? (ad w.heap.size 1) = some (so b r.zones.length r.zones.length) /\ z.cell? (ad w.heap.size 2) = some (so c r.links.length r.links.length)) (w.alloc (.cells #[so a r.rules.length r.rules.length, so b r.zones.length r.zones.length, so c r.links.length r.links.length] 38)) := by simp [go_sem]
 have di : Zb (fun b => B <= b /\ b < U) w (w.alloc (.cells #[so a r.rules.length r.rules.length, so b r.zones.length r.zones.length, so c r.links.length r.links.length] 38)) := Zb.of_below ag
 have az : ¬ (B <= w.heap.size /\ w.heap.size < U) := by omega
 have Il : Hid (k <= k + 9 * r.rules.length + zc r.zones + 2 * r.links.length /\ k + 9 * r.rules.length + zc r.zones + 2 * r.links.length <= k + 30000000) := by simp only [Hid]; omega
 generalize mG : k + 9 * r.rules.length = k1 at *
 clear mG
 go_enter Tryz.func38, Tryz.ntmps38
 go_wp2_with fail
 refine (h1 _ (xK.below ag)).mono ?_
 rintro e w1 ⟨rfl, _, _, t1⟩
 have jH := t1.mono (S2 := fun b => B <= b /\ b < U) fun x _ hx => by have e1 : x = a := hx.1; have e2 := ua hx.2; show B <= x /\ x < U; omega
 have dt := di.trans jH
 have y1 := jH.cell az x1
 have y2 := jH.cell az x2
 go_wp2_with fail
 refine (h2 _ (dt.room _ _ xL) ?_).mono ?_
 ·intro i z hz
  have hl := (lgs hz).1
  exact (hZ.below ag).touch t1 (fun h => gj h.2 (by omega) h.1.symm) i z hz
 rintro e w2 ⟨rfl, t2⟩
 have dY := dt.trans t2
 have z2 := t2.cell az y2
 go_wp2_with fail
 refine (h3 _ (dY.room _ _ xM)).mono ?_
 rintro e w3 ⟨rfl, _, _, t3⟩
 have th := t3.mono (S2 := fun b => B <= b /\ b < U) fun x _ hx => by have e1 : x = c := hx.1; have e2 := uc hx.2; show B <= x /\ x < U; omega
 go_wp2
 go_ret
 exact ⟨⟨_, rfl, Il.out⟩, dY.trans th⟩
end
section
open Go.RowKit Go.Sort
def mbB (c : Nat) : Bool := (c : Int) % 3 == 0
theorem mbB_at (c : Nat) : mbB (c + 1) = (((c : Int) + 1) % 3 == 0) := by unfold mbB; rw [show ((c + 1 : Nat) : Int) = (c : Int) + 1 by omega]
def jin (c : Nat) : List Value := [iv (c : Nat), .bool (mbB (c + 1)), iv (c + 2 : Nat), .string (mtB (c + 3)), .string (mtB (c + 4)), iv (c + 5 : Nat), iv (c + 6 : Nat), iv (c + 7 : Nat)]
def jbq (c n : Nat) : List (List Value) := (List.range n).map fun i => jin (c + 8 * i)
theorem jl1 {c n i : Nat} (h : i < n) : (jbq c n)[i]? = some (jin (c + 8 * i)) := by unfold jbq; rw [lgm, List.getElem?_range h]; rfl
theorem mksVersion_len {c n : Nat} : ∀ r ∈ jbq c n, r.length = 8 := fun r hr => by
 unfold jbq at hr
 obtain ⟨i, _, rfl⟩ := List.mem_map.mp hr
 rfl
theorem jf8 (n g cap k : Nat) (w : World) (bC : Zf w g (n * 8)) (h0 : 0 < k) (h1 : k + 8 * n < 1000000000) :
  Cl 23 #[so g n cap, iv k] w fun e w' => e = .returned (iv ((k + 8 * n : Nat) : Int)) /\ Za w' (some (ad g 0)) 8 (jbq k n) /\ Zf w' g (n * 8) /\ Zb (fun b => b = g /\ 0 < n) w w' := by
 have au := @mksVersion_len k n
 go_enter Tryz.func23, Tryz.ntmps23
 go_wp2
 go_loopw [1, 5] (fun s t wr => ∃ i : Nat, i <= n /\ t = iv i /\ s = iv ((k + 8 * i : Nat) : Int) /\ Zf wr g (n * 8) /\ Zc wr g 8 i (jbq k n) /\ Zb (fun b => b = g /\ 0 < n) w wr) (fun _ t _ => n - (intOf t).toNat)
 case atStart => exact ⟨0, by omega, rfl, rfl, bC, fun i j r c h => by omega, Zb.refl _ _⟩
 case round =>
  clear bC
  obtain ⟨i, hi, rfl, rfl, bC, dT, di⟩ := hrel
  by_cases hlt : i < n
  ·have ap := jl1 (c := k) hlt
   have HK : Hid (k + 8 * (i + 1) = (k + 8 * i) + 8) := by simp only [Hid]; omega
   have jR : 0 < k + 8 * i := by omega
   have aY : k + 8 * i + 8 < 1000000000 := by omega
   generalize k + 8 * i = c at *
   have jk : Jd wr g (i * 8) [] := Jd.nil _ _ _
   obtain ⟨⟨u0, iu⟩, gn⟩ := bC (i * 8) (by omega)
   have cW : Zf (wr.setCell (ad g (i * 8)) (iv (c : Int))) g (n * 8) := bC.set _ _
   have fH : Zc (wr.setCell (ad g (i * 8)) (iv (c : Int))) g 8 i (jbq k n) := by simpa using dT.store au 0 (iv (c : Int))
   have iP : Jd (wr.setCell (ad g (i * 8)) (iv (c : Int))) g (i * 8) [iv (c : Int)] := by simpa using jk.store bC (n := 0) rfl (by omega) (iv (c : Int))
   have dt : Zb (fun b => b = g /\ 0 < n) w (wr.setCell (ad g (i * 8)) (iv (c : Int))) := di.set ⟨rfl, by omega⟩ _
   obtain ⟨⟨u1, kS⟩, cZ⟩ := cW (i * 8 + 1) (by omega)
   have aN := cW.set (ad g (i * 8 + 1)) (.bool (((c : Int) + 1) % 3 == 0))
   have bY := fH.store au 1 (.bool (((c : Int) + 1) % 3 == 0))
   have gg := iP.store cW (n := 1) rfl (by omega) (.bool (((c : Int) + 1) % 3 == 0))
   have dY := dt.set (o := i * 8 + 1) ⟨rfl, by omega⟩ (.bool (((c : Int) + 1) % 3 == 0))
   obtain ⟨⟨u2, sQ⟩, ep⟩ := aN (i * 8 + 2) (by omega)
   have i8 := aN.set (ad g (i * 8 + 2)) (iv ((c : Int) + 1 + 1))
   have eh := bY.store au 2 (iv ((c : Int) + 1 + 1))
   have iQ := gg.store aN (n := 2) rfl (by omega) (iv ((c : Int) + 1 + 1))
   have ic := dY.set (o := i * 8 + 2) ⟨rfl, by omega⟩ (iv ((c : Int) + 1 + 1))
   have gY := fun w => jaj (c + 3) w (by omega) (by omega)
   rw [show ((c + 3 : Nat) : Int) = (c : Int) + 1 + 1 + 1 by omega] at gY
   go_wp2_with fail
   refine (gY _).mono ?_
   rintro e w1 ⟨rfl, hb1⟩
   have i9 := i8.below hb1
   have pN := eh.below hb1
   have pZ := iQ.below hb1
   have qm := ic.trans (Zb.of_below (S := fun b => b = g /\ 0 < n) hb1)
   clear hb1 i8 eh iQ ic gY
   obtain ⟨⟨u3, sR⟩, gp⟩ := i9 (i * 8 + 3) (by omega)
   have jl := i9.set (ad g (i * 8 + 3)) (.string (mtB (c + 3)))
   have kA := pN.store au 3 (.string (mtB (c + 3)))
   have mi := pZ.store i9 (n := 3) rfl (by omega) (.string (mtB (c + 3)))
   have iS := qm.set (o := i * 8 + 3) ⟨rfl, by omega⟩ (.string (mtB (c + 3)))
   have lz := fun w => jaj (c + 4) w (by omega) (by omega)
   rw [show ((c + 4 : Nat) : Int) = (c : Int) + 1 + 1 + 1 + 1 by omega] at lz
   go_wp2_with fail
   refine (lz _).mono ?_
   rintro e w2 ⟨rfl, ac⟩
   have ib := jl.below ac
   have pO := kA.below ac
   have q9 := mi.below ac
   have qn := iS.trans (Zb.of_below (S := fun b => b = g /\ 0 < n) ac)
   clear ac jl kA mi iS lz
   obtain ⟨⟨u4, sS⟩, mC⟩ := ib (i * 8 + 4) (by omega)
   have eG := ib.set (ad g (i * 8 + 4)) (.string (mtB (c + 4)))
   have iL := pO.store au 4 (.string (mtB (c + 4)))
   have jP := q9.store ib (n := 4) rfl (by omega) (.string (mtB (c + 4)))
   have ou := qn.set (o := i * 8 + 4) ⟨rfl, by omega⟩ (.string (mtB (c + 4)))
   obtain ⟨⟨u5, sT⟩, sF⟩ := eG (i * 8 + 5) (by omega)
   have lA := eG.set (ad g (i * 8 + 5)) (iv ((c : Int) + 1 + 1 + 1 + 1 + 1))
   have lr := iL.store au 5 (iv ((c : Int) + 1 + 1 + 1 + 1 + 1))
   have i6 := jP.store eG (n := 5) rfl (by omega) (iv ((c : Int) + 1 + 1 + 1 + 1 + 1))
   have ov := ou.set (o := i * 8 + 5) ⟨rfl, by omega⟩ (iv ((c : Int) + 1 + 1 + 1 + 1 + 1))
   obtain ⟨⟨u6, CJ⟩, C1⟩ := lA (i * 8 + 6) (by omega)
   have qg := lA.set (ad g (i * 8 + 6)) (iv ((c : Int) + 1 + 1 + 1 + 1 + 1 + 1))
   have Bg := lr.store au 6 (iv ((c : Int) + 1 + 1 + 1 + 1 + 1 + 1))
   have fi := i6.store lA (n := 6) rfl (by omega) (iv ((c : Int) + 1 + 1 + 1 + 1 + 1 + 1))
   have ms := ov.set (o := i * 8 + 6) ⟨rfl, by omega⟩ (iv ((c : Int) + 1 + 1 + 1 + 1 + 1 + 1))
   obtain ⟨⟨u7, CK⟩, C4⟩ := qg (i * 8 + 7) (by omega)
   have xJ := qg.set (ad g (i * 8 + 7)) (iv ((c : Int) + 1 + 1 + 1 + 1 + 1 + 1 + 1))
   have un := Bg.store au 7 (iv ((c : Int) + 1 + 1 + 1 + 1 + 1 + 1 + 1))
   have uM := fi.store qg (n := 7) rfl (by omega) (iv ((c : Int) + 1 + 1 + 1 + 1 + 1 + 1 + 1))
   have xO := ms.set (o := i * 8 + 7) ⟨rfl, by omega⟩ (iv ((c : Int) + 1 + 1 + 1 + 1 + 1 + 1 + 1))
   have hF : Zc _ g 8 (i + 1) (jbq k n) := un.step uM (by rw [ap]; simp [jin, mbB_at, Int.add_assoc])
   clear un uM
   go_wp2
   go_roundw
   case rel => exact ⟨i + 1, by omega, by go_num, by rw [HK.out]; go_num, xJ, hF, xO⟩
   case measure => simp [intOf]; omega
  ·have e : i = n := by omega
   subst e
   go_wp2
   go_ret
   exact ⟨rfl, Zc.seq (by unfold jbq; rw [llm, List.length_range]; exact dT), bC, di⟩
end
section
open Go.RowKit Go.Sort
def jp1 (c : Nat) : List Value := [iv (c : Nat), iv (c + 1 : Nat)]
def jcr (c n : Nat) : List (List Value) := (List.range n).map fun i => jp1 (c + 2 * i)
theorem jpz {c n i : Nat} (h : i < n) : (jcr c n)[i]? = some (jp1 (c + 2 * i)) := by unfold jcr; rw [lgm, List.getElem?_range h]; rfl
theorem mksEntry_len {c n : Nat} : ∀ r ∈ jcr c n, r.length = 2 := fun r hr => by
 unfold jcr at hr
 obtain ⟨i, _, rfl⟩ := List.mem_map.mp hr
 rfl
theorem jix (n g cap k : Nat) (w : World) (bC : Zf w g (n * 2)) (h0 : 0 < k) (h1 : k + 2 * n < 1000000000) :
  Cl 39 #[so g n cap, iv k] w fun e w' => e = .returned (iv ((k + 2 * n : Nat) : Int)) /\ Za w' (some (ad g 0)) 2 (jcr k n) /\ Zf w' g (n * 2) /\ Zb (fun b => b = g /\ 0 < n) w w' := by
 have au := @mksEntry_len k n
 go_enter Tryz.func39, Tryz.ntmps39
 go_wp2
 go_loopw [1, 5] (fun s t wr => ∃ i : Nat, i <= n /\ t = iv i /\ s = iv ((k + 2 * i : Nat) : Int) /\ Zf wr g (n * 2) /\ Zc wr g 2 i (jcr k n) /\ Zb (fun b => b = g /\ 0 < n) w wr) (fun _ t _ => n - (intOf t).toNat)
 case atStart => exact ⟨0, by omega, rfl, rfl, bC, fun i j r c h => by omega, Zb.refl _ _⟩
 case round =>
  clear bC
  obtain ⟨i, hi, rfl, rfl, bC, dT, di⟩ := hrel
  by_cases hlt : i < n
  ·have ap := jpz (c := k) hlt
   have HK : Hid (k + 2 * (i + 1) = (k + 2 * i) + 2) := by simp only [Hid]; omega
   have jR : 0 < k + 2 * i := by omega
   have aY : k + 2 * i + 2 < 1000000000 := by omega
   generalize k + 2 * i = c at *
   have jk : Jd wr g (i * 2) [] := Jd.nil _ _ _
   obtain ⟨⟨u0, iu⟩, gn⟩ := bC (i * 2) (by omega)
   have cW : Zf (wr.setCell (ad g (i * 2)) (iv (c : Int))) g (n * 2) := bC.set _ _
   have fH : Zc (wr.setCell (ad g (i * 2)) (iv (c : Int))) g 2 i (jcr k n) := by simpa using dT.store au 0 (iv (c : Int))
   have iP : Jd (wr.setCell (ad g (i * 2)) (iv (c : Int))) g (i * 2) [iv (c : Int)] := by simpa using jk.store bC (n := 0) rfl (by omega) (iv (c : Int))
   have dt : Zb (fun b => b = g /\ 0 < n) w (wr.setCell (ad g (i * 2)) (iv (c : Int))) := di.set ⟨rfl, by omega⟩ _
   obtain ⟨⟨u1, kS⟩, cZ⟩ := cW (i * 2 + 1) (by omega)
   have aN := cW.set (ad g (i * 2 + 1)) (iv ((c : Int) + 1))
   have bY := fH.store au 1 (iv ((c : Int) + 1))
   have gg := iP.store cW (n := 1) rfl (by omega) (iv ((c : Int) + 1))
   have dY := dt.set (o := i * 2 + 1) ⟨rfl, by omega⟩ (iv ((c : Int) + 1))
   have hF : Zc _ g 2 (i + 1) (jcr k n) := bY.step gg (by rw [ap]; simp [jp1])
   clear bY gg
   go_wp2
   go_roundw
   case rel => exact ⟨i + 1, by omega, by go_num, by rw [HK.out]; go_num, aN, hF, dY⟩
   case measure => simp [intOf]; omega
  ·have e : i = n := by omega
   subst e
   go_wp2
   go_ret
   exact ⟨rfl, Zc.seq (by unfold jcr; rw [llm, List.length_range]; exact dT), bC, di⟩
end
end Go.Proofs.YtgiieknbckhofaaGreatDoor
