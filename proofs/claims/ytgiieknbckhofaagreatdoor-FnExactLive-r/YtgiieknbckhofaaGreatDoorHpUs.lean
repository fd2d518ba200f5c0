/- Packed. -/
import Derived.Test.YtgiieknbckhofaaGreatDoorMarkPs
import Derived.Test.YtgiieknbckhofaaGreatDoorMapPs
import Derived.Test.YtgiieknbckhofaaGreatDoorHpRs
set_option maxHeartbeats 20000000
set_option linter.unusedSimpArgs false
namespace Go.Proofs.YtgiieknbckhofaaGreatDoor
section
open Go.RowKit
theorem jze {s : ByteArray} (h : onB s = true) : s.size <= 8000 := by
 have hy : ymB 2000 1 = true := by decide
 have h1 : moV 2000 1 s ≠ -1000000 := by
  unfold onB jbl at h
  rw [hy, if_pos rfl, jil hy] at h
  simpa using h
 have nb : ∀ t : ByteArray, nbV 2000 1 t ≠ -1000000 -> t.size <= 2 := fun t ht => by
  rcases Nat.lt_or_ge 2 t.size with e | e
  ·exact absurd (jl6 e) ht
  ·exact e
 unfold moV at h1
 split at h1
 ·rename_i hA
  have := hA.1
  unfold aB at this
  simp at this
  omega
 ·split at h1
  ·have := nb _ (jq9 h1).2
   simp [ByteArray.size_extract] at this
   omega
  ·split at h1
   ·have := nb _ (jln h1).2
    simp [ByteArray.size_extract] at this
    omega
   ·have := nb _ h1
    omega
end
section
open Go.RowKit
theorem Zy.seq {w : World} {base : Nat} {v : Value} {P : List HapD} (h : Zy w base v P) : ∃ a cap, v = .slice a P.length cap /\ Za w a 3 (P.map HapD.cs) := by
 obtain ⟨a, cap, h1, h2, h3⟩ := jbd (rows := P.map HapD.cs) (by rw [llm]; exact h) j2p
 rw [llm] at h1 h3
 exact ⟨a, cap, h1, h2⟩
end
section
open Go.RowKit
set_option maxRecDepth 20000 in
theorem jnh (r : RelD) (v : Value) (nm : ByteArray) (off : Int) (w : World) (hv : Zd w v r) (hr : ∀ x ∈ r.rules, jaw x = true) (hl : r.rules.length <= 40) (dr : ∀ x ∈ r.rules, x.on.size <= 1048576) (f1 : -86400 <= off) (f2 : off <= 86400) :
  Cl 192 #[v, .string nm, iv off] w fun e W' => ∃ v' H b, e = .returned (.tuple #[v', .bool b]) /\ Zy W' w.heap.size v' H /\ jx2 r nm off H b /\ Bw w W' := by
 obtain ⟨i0, hi, aG, aI, aF⟩ := info_parts jsg
 obtain ⟨a, b, c, ca, cb, cc, rfl, hA, mR, oI⟩ := hv.form
 have hv : Zd w (.agg #[.slice a r.rules.length ca, .slice b r.zones.length cb, .slice c r.links.length cc]) r := ⟨⟨a, b, c, ca, cb, cc, rfl, hA, mR, oI⟩⟩
 have vS := fun w (h : Zd w (.agg #[.slice a r.rules.length ca, .slice b r.zones.length cb, .slice c r.links.length cc]) r) => jlt r _ nm w h hr hl dr
 have jY : Hid (∀ x ∈ r.rules, Jp x) := fun x hx => jrr (hr x hx)
 clear hr dr mR oI
 have ff := qal w (.cells #[.slice a r.rules.length ca, .slice b r.zones.length cb, .slice c r.links.length cc] 38)
 have x0 : (w.alloc (.cells #[.slice a r.rules.length ca, .slice b r.zones.length cb, .slice c r.links.length cc] 38)).cell? (ad w.heap.size 0) = some (.slice a r.rules.length ca) := by simp [go_sem]
 go_enter Tryz.func192, Tryz.ntmps192
 go_wp2_with fail
 refine (vS _ (hv.below ff)).mono ?_
 rintro e w2 ⟨v2, s, ok, rfl, sX, aM, ac⟩
 have an := ff.trans (ac.mono (by simp))
 have x2 := jaa ac x0
 have j6 := jyd jY.out aM
 have m9 := hid aM
 have zU := hid j6.place
 have zV := hid j6.wall
 have jl := j6.len
 have J2 : Hid (∀ x ∈ r.rules, -7200 <= x.save /\ x.save <= 7200) := fun x hx => (jY.out x hx).save
 obtain ⟨a2, c2, rfl, cZ, mi⟩ := sX
 have PD : w.heap.size < w2.heap.size := qbl x2
 clear ac x0 ff vS aM j6 jY hv
 have hE : Zy (w2.alloc (.cells #[] 254)) w2.heap.size (.slice (some (ad w2.heap.size 0)) 0 0) (jbv r.rules off (s.take 0)).1 := jau w2 254 3
 go_wp2
 go_loopw [10, 11, 12] (fun xV MR rR wr => ∃ k : Nat, k <= s.length /\ rR = iv k /\ MR = iv (jbv r.rules off (s.take k)).2 /\ Zy wr w2.heap.size xV (jbv r.rules off (s.take k)).1 /\ Bw w2 wr) (fun _ _ rR _ => s.length - (intOf rR).toNat)
 case atStart => exact ⟨0, by omega, rfl, rfl, hE, qal _ _⟩
 case round =>
  clear hE
  obtain ⟨k, hk, rfl, rfl, ai, aH⟩ := hrel
  have dX := aH.size
  have eW := qtr an aH
  have xr := jaa aH x2
  obtain ⟨a6, m6, d6, rfl⟩ := jac ai
  by_cases hlt : k < s.length
  ·obtain ⟨m, hm⟩ := qgg hlt
   have gN := lmg hm
   have gP := zU.out m gN
   obtain ⟨Q8, Q9⟩ := zV.out m gN
   obtain ⟨x, hx⟩ : ∃ x, r.rules[m.place]? = some x := ⟨_, lgg gP⟩
   obtain ⟨bm, om, rfl, qZ⟩ := (mi.below aH).at (i := k) (r := m.cs) (by rw [lgm, hm]; rfl)
   have m0 : wr.cell? (ad bm (om + k * 2)) = some (iv m.wall) := qZ 0 _ rfl
   have m1 : wr.cell? (ad bm (om + k * 2 + 1)) = some (iv m.place) := qZ 1 _ rfl
   obtain ⟨b9, o9, rfl, hc⟩ := (hA.below eW).at (i := m.place) (r := x.cs) (by rw [lgm, hx]; rfl)
   have c0 : wr.cell? (ad b9 (o9 + m.place * 9)) = some (.string x.name) := hc 0 _ rfl
   have c1 : wr.cell? (ad b9 (o9 + m.place * 9 + 1)) = some (iv x.lo) := hc 1 _ rfl
   have JK : wr.cell? (ad b9 (o9 + m.place * 9 + 2)) = some (iv x.hi) := hc 2 _ rfl
   have c3 : wr.cell? (ad b9 (o9 + m.place * 9 + 3)) = some (iv x.month) := hc 3 _ rfl
   have c4 : wr.cell? (ad b9 (o9 + m.place * 9 + 4)) = some (.string x.on) := hc 4 _ rfl
   have c5 : wr.cell? (ad b9 (o9 + m.place * 9 + 5)) = some (iv x.at_) := hc 5 _ rfl
   have c6 : wr.cell? (ad b9 (o9 + m.place * 9 + 6)) = some (.string x.of) := hc 6 _ rfl
   have c7 : wr.cell? (ad b9 (o9 + m.place * 9 + 7)) = some (iv x.save) := hc 7 _ rfl
   have c8 : wr.cell? (ad b9 (o9 + m.place * 9 + 8)) = some (.string x.letter) := hc 8 _ rfl
   have hF := jgm (off := off) hm hx
   have jG := jo7 (off := off) zU.out k hk
   obtain ⟨sh, si⟩ := jlc (off := off) zU.out J2.out k hk
   have HF := hid hF
   obtain ⟨⟨X, sv⟩, hX⟩ := qeb (jbv r.rules off (s.take k))
   rw [hX] at HF ai jG sh si
   rw [hX]
   simp only at ai jG sh si
   clear hF hX hc qZ hm hx
   have jC : X.length <= 2000 := by omega
   have LO : (m.place : Int) < (r.rules.length : Int) := by omega
   have LN : (0 : Int) <= (m.place : Int) := by omega
   have D3 : (0 : Int) <= (k : Int) := by omega
   have nC : (k : Int) < (s.length : Int) := by omega
   clear jG
   cases hs : (x.of.toList == [115])
   ·cases hw : (x.of.toList == [119])
    ·have HP : Hid (jec x m.wall off sv = ⟨m.wall, x.save, x.letter⟩) := j2n hs hw
     go_wp2_with fail
     go_region_held3 (fun w' => w'.cell? (ad w.heap.size 0) = some (.slice (some (ad b9 o9)) r.rules.length ca) /\ w'.cell? (ad bm (om + k * 2 + 1)) = some (iv m.place) /\ w'.cell? (ad b9 (o9 + m.place * 9)) = some (.string x.name) /\ w'.cell? (ad b9 (o9 + m.place * 9 + 1)) = some (iv x.lo) /\ w'.cell? (ad b9 (o9 + m.place * 9 + 2)) = some (iv x.hi) /\ w'.cell? (ad b9 (o9 + m.place * 9 + 3)) = some (iv x.month) /\ w'.cell? (ad b9 (o9 + m.place * 9 + 4)) = some (.string x.on) /\ w'.cell? (ad b9 (o9 + m.place * 9 + 5)) = some (iv x.at_) /\ w'.cell? (ad b9 (o9 + m.place * 9 + 6)) = some (.string x.of) /\ w'.cell? (ad b9 (o9 + m.place * 9 + 7)) = some (iv x.save) /\ w'.cell? (ad b9 (o9 + m.place * 9 + 8)) = some (.string x.letter)) (go_keep) (fail)
     go_wp2_with (first
      | (at_builtin; refine wpList_append_own _ rfl _ _ 249 rfl w2.heap.size 254 i0 (.agg #[iv 0, iv 0, .string ⟨#[]⟩]) 3 32 Tryz.underlying249 hi aG aI aF rfl (by decide) _ _ _ rfl (woa (woa ai _) _) ⟨wr.heap.size + 1, 0, none⟩ 1 1 [iv (m.wall), iv x.save, .string x.letter] rfl rfl ?c1a ?c2a ?c3a ?c4a ?c5a ?_)
      | fail)
     case c1a => simpa using jaf (wr.alloc (.cells #[.string x.name, iv x.lo, iv x.hi, iv x.month, .string x.on, iv x.at_, .string x.of, iv x.save, .string x.letter] 142)) [iv (m.wall), iv x.save, .string x.letter] 254
     case c2a => intro u hu; simp at hu; rcases hu with rfl | rfl | rfl <;> rfl
     case c3a => unfold maxLen; omega
     case c4a => omega
     case c5a => simp; omega
     intro v' wn ap af _
     have bg := (aH.alloc (by omega) (.cells #[.string x.name, iv x.lo, iv x.hi, iv x.month, .string x.on, iv x.at_, .string x.of, iv x.save, .string x.letter] 142)).alloc (by simp; omega) (.cells #[iv (m.wall), iv x.save, .string x.letter] 254)
     have dz : Bw w2 wn := (bg.trans ((jab _).mono bg.size)).grown af (by simp; omega) (fun j hj => (ai.lt j hj).1)
     have HO : Hid (Zy wn w2.heap.size v' (X ++ [⟨m.wall, x.save, x.letter⟩])) := Zy.add (p := ⟨m.wall, x.save, x.letter⟩) ap
     obtain ⟨a7, m7, d7, rfl⟩ := jac ap
     clear af ap ai bg
     go_wp2
     go_roundw
     case rel => exact ⟨k + 1, by omega, by go_num, by rw [HF.out], by rw [HF.out]; simp only; rw [HP.out]; exact HO.out, dz⟩
     case measure => simp [intOf]; omega
    ·have HP : Hid (jec x m.wall off sv = ⟨m.wall - off - sv, x.save, x.letter⟩) := j2m hs hw
     go_wp2_with fail
     go_region_held3 (fun w' => w'.cell? (ad w.heap.size 0) = some (.slice (some (ad b9 o9)) r.rules.length ca) /\ w'.cell? (ad bm (om + k * 2 + 1)) = some (iv m.place) /\ w'.cell? (ad b9 (o9 + m.place * 9)) = some (.string x.name) /\ w'.cell? (ad b9 (o9 + m.place * 9 + 1)) = some (iv x.lo) /\ w'.cell? (ad b9 (o9 + m.place * 9 + 2)) = some (iv x.hi) /\ w'.cell? (ad b9 (o9 + m.place * 9 + 3)) = some (iv x.month) /\ w'.cell? (ad b9 (o9 + m.place * 9 + 4)) = some (.string x.on) /\ w'.cell? (ad b9 (o9 + m.place * 9 + 5)) = some (iv x.at_) /\ w'.cell? (ad b9 (o9 + m.place * 9 + 6)) = some (.string x.of) /\ w'.cell? (ad b9 (o9 + m.place * 9 + 7)) = some (iv x.save) /\ w'.cell? (ad b9 (o9 + m.place * 9 + 8)) = some (.string x.letter)) (go_keep) (fail)
     go_wp2_with (first
      | (at_builtin; refine wpList_append_own _ rfl _ _ 249 rfl w2.heap.size 254 i0 (.agg #[iv 0, iv 0, .string ⟨#[]⟩]) 3 32 Tryz.underlying249 hi aG aI aF rfl (by decide) _ _ _ rfl (woa (woa ai _) _) ⟨wr.heap.size + 1, 0, none⟩ 1 1 [iv (m.wall - off - sv), iv x.save, .string x.letter] rfl rfl ?c1b ?c2b ?c3b ?c4b ?c5b ?_)
      | fail)
     case c1b => simpa using jaf (wr.alloc (.cells #[.string x.name, iv x.lo, iv x.hi, iv x.month, .string x.on, iv x.at_, .string x.of, iv x.save, .string x.letter] 142)) [iv (m.wall - off - sv), iv x.save, .string x.letter] 254
     case c2b => intro u hu; simp at hu; rcases hu with rfl | rfl | rfl <;> rfl
     case c3b => unfold maxLen; omega
     case c4b => omega
     case c5b => simp; omega
     intro v' wn ap af _
     have bg := (aH.alloc (by omega) (.cells #[.string x.name, iv x.lo, iv x.hi, iv x.month, .string x.on, iv x.at_, .string x.of, iv x.save, .string x.letter] 142)).alloc (by simp; omega) (.cells #[iv (m.wall - off - sv), iv x.save, .string x.letter] 254)
     have dz : Bw w2 wn := (bg.trans ((jab _).mono bg.size)).grown af (by simp; omega) (fun j hj => (ai.lt j hj).1)
     have HO : Hid (Zy wn w2.heap.size v' (X ++ [⟨m.wall - off - sv, x.save, x.letter⟩])) := Zy.add (p := ⟨m.wall - off - sv, x.save, x.letter⟩) ap
     obtain ⟨a7, m7, d7, rfl⟩ := jac ap
     clear af ap ai bg
     go_wp2
     go_roundw
     case rel => exact ⟨k + 1, by omega, by go_num, by rw [HF.out], by rw [HF.out]; simp only; rw [HP.out]; exact HO.out, dz⟩
     case measure => simp [intOf]; omega
   ·have HP : Hid (jec x m.wall off sv = ⟨m.wall - off, x.save, x.letter⟩) := j2o hs
    go_wp2_with fail
    go_region_held3 (fun w' => w'.cell? (ad w.heap.size 0) = some (.slice (some (ad b9 o9)) r.rules.length ca) /\ w'.cell? (ad bm (om + k * 2 + 1)) = some (iv m.place) /\ w'.cell? (ad b9 (o9 + m.place * 9)) = some (.string x.name) /\ w'.cell? (ad b9 (o9 + m.place * 9 + 1)) = some (iv x.lo) /\ w'.cell? (ad b9 (o9 + m.place * 9 + 2)) = some (iv x.hi) /\ w'.cell? (ad b9 (o9 + m.place * 9 + 3)) = some (iv x.month) /\ w'.cell? (ad b9 (o9 + m.place * 9 + 4)) = some (.string x.on) /\ w'.cell? (ad b9 (o9 + m.place * 9 + 5)) = some (iv x.at_) /\ w'.cell? (ad b9 (o9 + m.place * 9 + 6)) = some (.string x.of) /\ w'.cell? (ad b9 (o9 + m.place * 9 + 7)) = some (iv x.save) /\ w'.cell? (ad b9 (o9 + m.place * 9 + 8)) = some (.string x.letter)) (go_keep) (fail)
    go_wp2_with (first
     | (at_builtin; refine wpList_append_own _ rfl _ _ 249 rfl w2.heap.size 254 i0 (.agg #[iv 0, iv 0, .string ⟨#[]⟩]) 3 32 Tryz.underlying249 hi aG aI aF rfl (by decide) _ _ _ rfl (woa (woa ai _) _) ⟨wr.heap.size + 1, 0, none⟩ 1 1 [iv (m.wall - off), iv x.save, .string x.letter] rfl rfl ?c1c ?c2c ?c3c ?c4c ?c5c ?_)
     | fail)
    case c1c => simpa using jaf (wr.alloc (.cells #[.string x.name, iv x.lo, iv x.hi, iv x.month, .string x.on, iv x.at_, .string x.of, iv x.save, .string x.letter] 142)) [iv (m.wall - off), iv x.save, .string x.letter] 254
    case c2c => intro u hu; simp at hu; rcases hu with rfl | rfl | rfl <;> rfl
    case c3c => unfold maxLen; omega
    case c4c => omega
    case c5c => simp; omega
    intro v' wn ap af _
    have bg := (aH.alloc (by omega) (.cells #[.string x.name, iv x.lo, iv x.hi, iv x.month, .string x.on, iv x.at_, .string x.of, iv x.save, .string x.letter] 142)).alloc (by simp; omega) (.cells #[iv (m.wall - off), iv x.save, .string x.letter] 254)
    have dz : Bw w2 wn := (bg.trans ((jab _).mono bg.size)).grown af (by simp; omega) (fun j hj => (ai.lt j hj).1)
    have HO : Hid (Zy wn w2.heap.size v' (X ++ [⟨m.wall - off, x.save, x.letter⟩])) := Zy.add (p := ⟨m.wall - off, x.save, x.letter⟩) ap
    obtain ⟨a7, m7, d7, rfl⟩ := jac ap
    clear af ap ai bg
    go_wp2
    go_roundw
    case rel => exact ⟨k + 1, by omega, by go_num, by rw [HF.out], by rw [HF.out]; simp only; rw [HP.out]; exact HO.out, dz⟩
    case measure => simp [intOf]; omega
  ·obtain rfl : k = s.length := by omega
   rw [List.take_length] at ai
   have HH : Hid (jx2 r nm off (jbv r.rules off s).1 ok) := ⟨s, m9.out, rfl⟩
   rw [List.take_length]
   go_wp2
   exact bodyPost_ret (v := .tuple #[.slice a6 m6 d6, .bool ok]) (by simp [results, Tryz.results192, go_sem]) rfl ⟨_, _, ok, rfl, jak ai an.size, HH.out, eW⟩
end
section
open Go.RowKit
theorem jii {r : RelD} (h : relB r = true) : r.rules.length <= 40 /\ ∀ x ∈ r.rules, jaw x = true := by
 unfold relB at h
 simp only [bat, decide_eq_true_eq, List.all_eq_true] at h
 exact ⟨h.1.1, h.2.1⟩
end
end Go.Proofs.YtgiieknbckhofaaGreatDoor
