/- Packed. -/
import Derived.Test.YtgiieknbckhofaaGreatDoorMarkPu
import Derived.Test.YtgiieknbckhofaaGreatDoorMapPu
import Derived.Test.YtgiieknbckhofaaGreatDoorHpRu
set_option maxHeartbeats 20000000
set_option linter.unusedSimpArgs false
namespace Go.Proofs.YtgiieknbckhofaaGreatDoor
section
open Go.RowKit
theorem jze {s : ByteArray} (h : onB s = true) : s.size <= 8000 := by
 have hy : ymB 2000 1 = true := by decide
 have h1 : moV 2000 1 s ≠ -1000000 := by
  unfold onB jbk at h
  rw [hy, if_pos rfl, jig hy] at h
  simpa using h
 have nb : ∀ t : ByteArray, nbV 2000 1 t ≠ -1000000 -> t.size <= 2 := fun t ht => by
  rcases Nat.lt_or_ge 2 t.size with e | e
  ·exact absurd (jl0 e) ht
  ·exact e
 unfold moV at h1
 split at h1
 ·rename_i hA
  have := hA.1
  unfold aB at this
  simp at this
  omega
 ·split at h1
  ·have := nb _ (jq0 h1).2
   simp [ByteArray.size_extract] at this
   omega
  ·split at h1
   ·have := nb _ (jlh h1).2
    simp [ByteArray.size_extract] at this
    omega
   ·have := nb _ h1
    omega
end
section
open Go.RowKit
theorem Zx.seq {w : World} {base : Nat} {v : Value} {P : List HapD} (h : Zx w base v P) : ∃ a cap, v = .slice a P.length cap /\ Za w a 3 (P.map HapD.cs) := by
 obtain ⟨a, cap, h1, h2, h3⟩ := jbc (rows := P.map HapD.cs) (by rw [llm]; exact h) j2p
 rw [llm] at h1 h3
 exact ⟨a, cap, h1, h2⟩
end
section
open Go.RowKit
set_option maxRecDepth 20000 in
theorem jnb (r : RelD) (v : Value) (nm : ByteArray) (off : Int) (w : World) (hv : Zd w v r) (hr : ∀ x ∈ r.rules, jav x = true) (hl : r.rules.length <= 40) (dn : ∀ x ∈ r.rules, x.on.size <= 1048576) (f1 : -86400 <= off) (f2 : off <= 86400) :
  Cl 192 #[v, .string nm, iv off] w fun e W' => ∃ v' H b, e = .returned (.tuple #[v', .bool b]) /\ Zx W' w.heap.size v' H /\ jx2 r nm off H b /\ Bw w W' := by
 obtain ⟨i0, hi, aH, aI, aG⟩ := info_parts jr8
 obtain ⟨a, b, c, ca, cb, cc, rfl, hA, lX, nU⟩ := hv.form
 have hv : Zd w (.agg #[.slice a r.rules.length ca, .slice b r.zones.length cb, .slice c r.links.length cc]) r := ⟨⟨a, b, c, ca, cb, cc, rfl, hA, lX, nU⟩⟩
 have uV := fun w (h : Zd w (.agg #[.slice a r.rules.length ca, .slice b r.zones.length cb, .slice c r.links.length cc]) r) => jln r _ nm w h hr hl dn
 have jM : Hid (∀ x ∈ r.rules, Jo x) := fun x hx => jrj (hr x hx)
 clear hr dn lX nU
 have f9 := qal w (.cells #[.slice a r.rules.length ca, .slice b r.zones.length cb, .slice c r.links.length cc] 38)
 have x0 : (w.alloc (.cells #[.slice a r.rules.length ca, .slice b r.zones.length cb, .slice c r.links.length cc] 38)).cell? (ad w.heap.size 0) = some (.slice a r.rules.length ca) := by simp [go_sem]
 go_enter Tryz.func192, Tryz.ntmps192
 go_wp2_with fail
 refine (uV _ (hv.below f9)).mono ?_
 rintro e w2 ⟨v2, s, ok, rfl, su, aN, ac⟩
 have ao := f9.trans (ac.mono (by simp))
 have x2 := jaa ac x0
 have iO := jyd jM.out aN
 have lj := hid aN
 have yP := hid iO.place
 have yQ := hid iO.wall
 have j8 := iO.len
 have IE : Hid (∀ x ∈ r.rules, -7200 <= x.save /\ x.save <= 7200) := fun x hx => (jM.out x hx).save
 obtain ⟨a2, c2, rfl, cY, qj⟩ := su
 have PR : w.heap.size < w2.heap.size := qbl x2
 clear ac x0 f9 uV aN iO jM hv
 have hE : Zx (w2.alloc (.cells #[] 254)) w2.heap.size (.slice (some (ad w2.heap.size 0)) 0 0) (jbx r.rules off (s.take 0)).1 := ja4 w2 254 3
 go_wp2
 go_loopw [10, 11, 12] (fun wj MK rf wr => ∃ k : Nat, k <= s.length /\ rf = iv k /\ MK = iv (jbx r.rules off (s.take k)).2 /\ Zx wr w2.heap.size wj (jbx r.rules off (s.take k)).1 /\ Bw w2 wr) (fun _ _ rf _ => s.length - (intOf rf).toNat)
 case atStart => exact ⟨0, by omega, rfl, rfl, hE, qal _ _⟩
 case round =>
  clear hE
  obtain ⟨k, hk, rfl, rfl, ai, aM⟩ := hrel
  have dB := aM.size
  have eP := qtr ao aM
  have xr := jaa aM x2
  obtain ⟨a6, m6, d6, rfl⟩ := jab ai
  by_cases hlt : k < s.length
  ·obtain ⟨m, hm⟩ := qgg hlt
   have gw := lmg hm
   have gE := yP.out m gw
   obtain ⟨Qw, Qx⟩ := yQ.out m gw
   obtain ⟨x, hx⟩ : ∃ x, r.rules[m.place]? = some x := ⟨_, lgg gE⟩
   obtain ⟨bm, om, rfl, qx⟩ := (qj.below aM).at (i := k) (r := m.cs) (by rw [lgm, hm]; rfl)
   have m0 : wr.cell? (ad bm (om + k * 2)) = some (iv m.wall) := qx 0 _ rfl
   have m1 : wr.cell? (ad bm (om + k * 2 + 1)) = some (iv m.place) := qx 1 _ rfl
   obtain ⟨b9, o9, rfl, hc⟩ := (hA.below eP).at (i := m.place) (r := x.cs) (by rw [lgm, hx]; rfl)
   have c0 : wr.cell? (ad b9 (o9 + m.place * 9)) = some (.string x.name) := hc 0 _ rfl
   have c1 : wr.cell? (ad b9 (o9 + m.place * 9 + 1)) = some (iv x.lo) := hc 1 _ rfl
   have IZ : wr.cell? (ad b9 (o9 + m.place * 9 + 2)) = some (iv x.hi) := hc 2 _ rfl
   have c3 : wr.cell? (ad b9 (o9 + m.place * 9 + 3)) = some (iv x.month) := hc 3 _ rfl
   have c4 : wr.cell? (ad b9 (o9 + m.place * 9 + 4)) = some (.string x.on) := hc 4 _ rfl
   have c5 : wr.cell? (ad b9 (o9 + m.place * 9 + 5)) = some (iv x.at_) := hc 5 _ rfl
   have c6 : wr.cell? (ad b9 (o9 + m.place * 9 + 6)) = some (.string x.of) := hc 6 _ rfl
   have c7 : wr.cell? (ad b9 (o9 + m.place * 9 + 7)) = some (iv x.save) := hc 7 _ rfl
   have c8 : wr.cell? (ad b9 (o9 + m.place * 9 + 8)) = some (.string x.letter) := hc 8 _ rfl
   have hF := jgh (off := off) hm hx
   have js := jo0 (off := off) yP.out k hk
   obtain ⟨rC, rD⟩ := jk6 (off := off) yP.out IE.out k hk
   have HF := hid hF
   obtain ⟨⟨X, sv⟩, hX⟩ := qeb (jbx r.rules off (s.take k))
   rw [hX] at HF ai js rC rD
   rw [hX]
   simp only at ai js rC rD
   clear hF hX hc qx hm hx
   have jo : X.length <= 2000 := by omega
   have Ld : (m.place : Int) < (r.rules.length : Int) := by omega
   have Lc : (0 : Int) <= (m.place : Int) := by omega
   have Cf : (0 : Int) <= (k : Int) := by omega
   have mG : (k : Int) < (s.length : Int) := by omega
   clear js
   cases hs : (x.of.toList == [115])
   ·cases hw : (x.of.toList == [119])
    ·have HP : Hid (jd9 x m.wall off sv = ⟨m.wall, x.save, x.letter⟩) := j2n hs hw
     go_wp2_with fail
     go_region_held3 (fun w' => w'.cell? (ad w.heap.size 0) = some (.slice (some (ad b9 o9)) r.rules.length ca) /\ w'.cell? (ad bm (om + k * 2 + 1)) = some (iv m.place) /\ w'.cell? (ad b9 (o9 + m.place * 9)) = some (.string x.name) /\ w'.cell? (ad b9 (o9 + m.place * 9 + 1)) = some (iv x.lo) /\ w'.cell? (ad b9 (o9 + m.place * 9 + 2)) = some (iv x.hi) /\ w'.cell? (ad b9 (o9 + m.place * 9 + 3)) = some (iv x.month) /\ w'.cell? (ad b9 (o9 + m.place * 9 + 4)) = some (.string x.on) /\ w'.cell? (ad b9 (o9 + m.place * 9 + 5)) = some (iv x.at_) /\ w'.cell? (ad b9 (o9 + m.place * 9 + 6)) = some (.string x.of) /\ w'.cell? (ad b9 (o9 + m.place * 9 + 7)) = some (iv x.save) /\ w'.cell? (ad b9 (o9 + m.place * 9 + 8)) = some (.string x.letter)) (go_keep) (fail)
     go_wp2_with (first
      | (at_builtin; refine wpList_append_own _ rfl _ _ 249 rfl w2.heap.size 254 i0 (.agg #[iv 0, iv 0, .string ⟨#[]⟩]) 3 32 Tryz.underlying249 hi aH aI aG rfl (by decide) _ _ _ rfl (woa (woa ai _) _) ⟨wr.heap.size + 1, 0, none⟩ 1 1 [iv (m.wall), iv x.save, .string x.letter] rfl rfl ?c1a ?c2a ?c3a ?c4a ?c5a ?_)
      | fail)
     case c1a => simpa using jag (wr.alloc (.cells #[.string x.name, iv x.lo, iv x.hi, iv x.month, .string x.on, iv x.at_, .string x.of, iv x.save, .string x.letter] 142)) [iv (m.wall), iv x.save, .string x.letter] 254
     case c2a => intro u hu; simp at hu; rcases hu with rfl | rfl | rfl <;> rfl
     case c3a => unfold maxLen; omega
     case c4a => omega
     case c5a => simp; omega
     intro v' wn ar af _
     have aX := (aM.alloc (by omega) (.cells #[.string x.name, iv x.lo, iv x.hi, iv x.month, .string x.on, iv x.at_, .string x.of, iv x.save, .string x.letter] 142)).alloc (by simp; omega) (.cells #[iv (m.wall), iv x.save, .string x.letter] 254)
     have dv : Bw w2 wn := (aX.trans ((jac _).mono aX.size)).grown af (by simp; omega) (fun j hj => (ai.lt j hj).1)
     have HO : Hid (Zx wn w2.heap.size v' (X ++ [⟨m.wall, x.save, x.letter⟩])) := Zx.add (p := ⟨m.wall, x.save, x.letter⟩) ar
     obtain ⟨a7, m7, d7, rfl⟩ := jab ar
     clear af ar ai aX
     go_wp2
     go_roundw
     case rel => exact ⟨k + 1, by omega, by go_num, by rw [HF.out], by rw [HF.out]; simp only; rw [HP.out]; exact HO.out, dv⟩
     case measure => simp [intOf]; omega
    ·have HP : Hid (jd9 x m.wall off sv = ⟨m.wall - off - sv, x.save, x.letter⟩) := j2m hs hw
     go_wp2_with fail
     go_region_held3 (fun w' => w'.cell? (ad w.heap.size 0) = some (.slice (some (ad b9 o9)) r.rules.length ca) /\ w'.cell? (ad bm (om + k * 2 + 1)) = some (iv m.place) /\ w'.cell? (ad b9 (o9 + m.place * 9)) = some (.string x.name) /\ w'.cell? (ad b9 (o9 + m.place * 9 + 1)) = some (iv x.lo) /\ w'.cell? (ad b9 (o9 + m.place * 9 + 2)) = some (iv x.hi) /\ w'.cell? (ad b9 (o9 + m.place * 9 + 3)) = some (iv x.month) /\ w'.cell? (ad b9 (o9 + m.place * 9 + 4)) = some (.string x.on) /\ w'.cell? (ad b9 (o9 + m.place * 9 + 5)) = some (iv x.at_) /\ w'.cell? (ad b9 (o9 + m.place * 9 + 6)) = some (.string x.of) /\ w'.cell? (ad b9 (o9 + m.place * 9 + 7)) = some (iv x.save) /\ w'.cell? (ad b9 (o9 + m.place * 9 + 8)) = some (.string x.letter)) (go_keep) (fail)
     go_wp2_with (first
      | (at_builtin; refine wpList_append_own _ rfl _ _ 249 rfl w2.heap.size 254 i0 (.agg #[iv 0, iv 0, .string ⟨#[]⟩]) 3 32 Tryz.underlying249 hi aH aI aG rfl (by decide) _ _ _ rfl (woa (woa ai _) _) ⟨wr.heap.size + 1, 0, none⟩ 1 1 [iv (m.wall - off - sv), iv x.save, .string x.letter] rfl rfl ?c1b ?c2b ?c3b ?c4b ?c5b ?_)
      | fail)
     case c1b => simpa using jag (wr.alloc (.cells #[.string x.name, iv x.lo, iv x.hi, iv x.month, .string x.on, iv x.at_, .string x.of, iv x.save, .string x.letter] 142)) [iv (m.wall - off - sv), iv x.save, .string x.letter] 254
     case c2b => intro u hu; simp at hu; rcases hu with rfl | rfl | rfl <;> rfl
     case c3b => unfold maxLen; omega
     case c4b => omega
     case c5b => simp; omega
     intro v' wn ar af _
     have aX := (aM.alloc (by omega) (.cells #[.string x.name, iv x.lo, iv x.hi, iv x.month, .string x.on, iv x.at_, .string x.of, iv x.save, .string x.letter] 142)).alloc (by simp; omega) (.cells #[iv (m.wall - off - sv), iv x.save, .string x.letter] 254)
     have dv : Bw w2 wn := (aX.trans ((jac _).mono aX.size)).grown af (by simp; omega) (fun j hj => (ai.lt j hj).1)
     have HO : Hid (Zx wn w2.heap.size v' (X ++ [⟨m.wall - off - sv, x.save, x.letter⟩])) := Zx.add (p := ⟨m.wall - off - sv, x.save, x.letter⟩) ar
     obtain ⟨a7, m7, d7, rfl⟩ := jab ar
     clear af ar ai aX
     go_wp2
     go_roundw
     case rel => exact ⟨k + 1, by omega, by go_num, by rw [HF.out], by rw [HF.out]; simp only; rw [HP.out]; exact HO.out, dv⟩
     case measure => simp [intOf]; omega
   ·have HP : Hid (jd9 x m.wall off sv = ⟨m.wall - off, x.save, x.letter⟩) := j2o hs
    go_wp2_with fail
    go_region_held3 (fun w' => w'.cell? (ad w.heap.size 0) = some (.slice (some (ad b9 o9)) r.rules.length ca) /\ w'.cell? (ad bm (om + k * 2 + 1)) = some (iv m.place) /\ w'.cell? (ad b9 (o9 + m.place * 9)) = some (.string x.name) /\ w'.cell? (ad b9 (o9 + m.place * 9 + 1)) = some (iv x.lo) /\ w'.cell? (ad b9 (o9 + m.place * 9 + 2)) = some (iv x.hi) /\ w'.cell? (ad b9 (o9 + m.place * 9 + 3)) = some (iv x.month) /\ w'.cell? (ad b9 (o9 + m.place * 9 + 4)) = some (.string x.on) /\ w'.cell? (ad b9 (o9 + m.place * 9 + 5)) = some (iv x.at_) /\ w'.cell? (ad b9 (o9 + m.place * 9 + 6)) = some (.string x.of) /\ w'.cell? (ad b9 (o9 + m.place * 9 + 7)) = some (iv x.save) /\ w'.cell? (ad b9 (o9 + m.place * 9 + 8)) = some (.string x.letter)) (go_keep) (fail)
    go_wp2_with (first
     | (at_builtin; refine wpList_append_own _ rfl _ _ 249 rfl w2.heap.size 254 i0 (.agg #[iv 0, iv 0, .string ⟨#[]⟩]) 3 32 Tryz.underlying249 hi aH aI aG rfl (by decide) _ _ _ rfl (woa (woa ai _) _) ⟨wr.heap.size + 1, 0, none⟩ 1 1 [iv (m.wall - off), iv x.save, .string x.letter] rfl rfl ?c1c ?c2c ?c3c ?c4c ?c5c ?_)
     | fail)
    case c1c => simpa using jag (wr.alloc (.cells #[.string x.name, iv x.lo, iv x.hi, iv x.month, .string x.on, iv x.at_, .string x.of, iv x.save, .string x.letter] 142)) [iv (m.wall - off), iv x.save, .string x.letter] 254
    case c2c => intro u hu; simp at hu; rcases hu with rfl | rfl | rfl <;> rfl
    case c3c => unfold maxLen; omega
    case c4c => omega
    case c5c => simp; omega
    intro v' wn ar af _
    have aX := (aM.alloc (by omega) (.cells #[.string x.name, iv x.lo, iv x.hi, iv x.month, .string x.on, iv x.at_, .string x.of, iv x.save, .string x.letter] 142)).alloc (by simp; omega) (.cells #[iv (m.wall - off), iv x.save, .string x.letter] 254)
    have dv : Bw w2 wn := (aX.trans ((jac _).mono aX.size)).grown af (by simp; omega) (fun j hj => (ai.lt j hj).1)
    have HO : Hid (Zx wn w2.heap.size v' (X ++ [⟨m.wall - off, x.save, x.letter⟩])) := Zx.add (p := ⟨m.wall - off, x.save, x.letter⟩) ar
    obtain ⟨a7, m7, d7, rfl⟩ := jab ar
    clear af ar ai aX
    go_wp2
    go_roundw
    case rel => exact ⟨k + 1, by omega, by go_num, by rw [HF.out], by rw [HF.out]; simp only; rw [HP.out]; exact HO.out, dv⟩
    case measure => simp [intOf]; omega
  ·obtain rfl : k = s.length := by omega
   rw [List.take_length] at ai
   have HH : Hid (jx2 r nm off (jbx r.rules off s).1 ok) := ⟨s, lj.out, rfl⟩
   rw [List.take_length]
   go_wp2
   exact bpr (v := .tuple #[.slice a6 m6 d6, .bool ok]) (by simp [results, Tryz.results192, go_sem]) rfl ⟨_, _, ok, rfl, jak ai ao.size, HH.out, eP⟩
end
section
open Go.RowKit
theorem jid {r : RelD} (h : relB r = true) : r.rules.length <= 40 /\ ∀ x ∈ r.rules, jav x = true := by
 unfold relB at h
 simp only [bat, decide_eq_true_eq, List.all_eq_true] at h
 exact ⟨h.1.1, h.2.1⟩
end
end Go.Proofs.YtgiieknbckhofaaGreatDoor
