/- What happens by the rules of a name, at an offset: the walk of the model's l03Haps. -/
import Derived.Test.YtbbhpfobcelbfaaGreatDoorHpQt
import Derived.Deep.RegionHeld3
namespace Go.Proofs.YtbbhpfobcelbfaaGreatDoor
open Go.RowKit

set_option maxRecDepth 20000 in
set_option maxHeartbeats 4000000 in
theorem spec_l03Haps (r : RelD) (v : Value) (nm : ByteArray) (off : Int) (w : World) (hv : RelAt w v r) (hr : ∀ x ∈ r.rules, ruleB x = true) (hl : r.rules.length ≤ 40) (hon : ∀ x ∈ r.rules, x.on.size ≤ 1048576) (f1 : -86400 ≤ off) (f2 : off ≤ 86400) :
    Calls Tryz.prog 39 #[v, .string nm, .int .i64 off] w fun e W' => ∃ v' H b, e = .returned (.tuple #[v', .bool b]) ∧ OwnsH W' w.heap.size v' H ∧ HapsR r nm off H b ∧ Below w.heap.size w W' := by
  obtain ⟨i0, hi, hz0, hz1, hz2⟩ := info_parts infoHap2
  obtain ⟨a, b, c, ca, cb, cc, rfl, hA, hAb, hAc⟩ := hv.form
  have hv : RelAt w (.agg #[.slice a r.rules.length ca, .slice b r.zones.length cb, .slice c r.links.length cc]) r := ⟨⟨a, b, c, ca, cb, cc, rfl, hA, hAb, hAc⟩⟩
  have hWl := fun w (h : RelAt w (.agg #[.slice a r.rules.length ca, .slice b r.zones.length cb, .slice c r.links.length cc]) r) => spec_l03Walls r _ nm w h hr hl hon
  have HRR : Hid (∀ x ∈ r.rules, RuleR x) := fun x hx => rule_r (hr x hx)
  clear hr hon hAb hAc
  have hBA := (Below.refl w.heap.size w).alloc (Nat.le_refl _) (.cells #[.slice a r.rules.length ca, .slice b r.zones.length cb, .slice c r.links.length cc] 27)
  have x0 : (w.alloc (.cells #[.slice a r.rules.length ca, .slice b r.zones.length cb, .slice c r.links.length cc] 27)).cell? ⟨w.heap.size, 0, none⟩ = some (.slice a r.rules.length ca) := by simp [go_sem]
  go_enter Tryz.func39, Tryz.ntmps39
  go_wp2_with fail
  refine (hWl _ (hv.below hBA)).mono ?_
  rintro e w2 ⟨v2, s, ok, rfl, hW2, hR2, hb2⟩
  have hB2 := hBA.trans (hb2.mono (by simp))
  have x2 := keepC hb2 x0
  have hOk := walls_ok HRR.out hR2
  have HR2 : Hid (WallsR r nm s ok) := hR2
  have HOp : Hid (∀ m ∈ s, m.place < r.rules.length) := hOk.place
  have HOw : Hid (∀ m ∈ s, -100000000000 ≤ m.wall ∧ m.wall ≤ 300000000000) := hOk.wall
  have hsl := hOk.len
  have HSv : Hid (∀ x ∈ r.rules, -7200 ≤ x.save ∧ x.save ≤ 7200) := fun x hx => (HRR.out x hx).save
  obtain ⟨a2, c2, rfl, hc2, hS2⟩ := hW2
  have hsw : w.heap.size < w2.heap.size := World.block_lt_of_cell? _ _ x2
  clear hb2 x0 hBA hWl hR2 hOk HRR hv
  have hE : OwnsH (w2.alloc (.cells #[] 36)) w2.heap.size (.slice (some ⟨w2.heap.size, 0, none⟩) 0 0) (foldH r.rules off (s.take 0)).1 := own_empty w2 36 3
  go_wp2
  go_loopw [10, 11, 12] (fun s10 s11 s12 wr => ∃ k : Nat, k ≤ s.length ∧ s12 = .int .i64 k ∧ s11 = .int .i64 (foldH r.rules off (s.take k)).2 ∧ OwnsH wr w2.heap.size s10 (foldH r.rules off (s.take k)).1 ∧ Below w2.heap.size w2 wr) (fun _ _ s12 _ => s.length - (intOf s12).toNat)
  case atStart => exact ⟨0, by omega, rfl, rfl, hE, (Below.refl _ _).alloc (Nat.le_refl _) _⟩
  case round =>
    clear hE
    obtain ⟨k, hk, rfl, rfl, hown, hBr⟩ := hrel
    have hsW := hBr.size
    have hBw := hB2.trans (hBr.mono hB2.size)
    have xr := keepC hBr x2
    obtain ⟨a6, m6, d6, rfl⟩ := row_shape3 hown
    by_cases hlt : k < s.length
    · obtain ⟨m, hm⟩ : ∃ m, s[k]? = some m := ⟨_, List.getElem?_eq_getElem hlt⟩
      have hmm := List.mem_of_getElem? hm
      have hpl := HOp.out m hmm
      obtain ⟨w1b, w2b⟩ := HOw.out m hmm
      obtain ⟨x, hx⟩ : ∃ x, r.rules[m.place]? = some x := ⟨_, List.getElem?_eq_getElem hpl⟩
      obtain ⟨bm, om, rfl, hcm⟩ := (hS2.below hBr).at (i := k) (r := m.cs) (by rw [List.getElem?_map, hm]; rfl)
      have m0 : wr.cell? ⟨bm, om + k * 2, none⟩ = some (.int .i64 m.wall) := hcm 0 _ rfl
      have m1 : wr.cell? ⟨bm, om + k * 2 + 1, none⟩ = some (.int .i64 m.place) := hcm 1 _ rfl
      obtain ⟨b9, o9, rfl, hc⟩ := (hA.below hBw).at (i := m.place) (r := x.cs) (by rw [List.getElem?_map, hx]; rfl)
      have c0 : wr.cell? ⟨b9, o9 + m.place * 9, none⟩ = some (.string x.name) := hc 0 _ rfl
      have c1 : wr.cell? ⟨b9, o9 + m.place * 9 + 1, none⟩ = some (.int .i64 x.lo) := hc 1 _ rfl
      have c2' : wr.cell? ⟨b9, o9 + m.place * 9 + 2, none⟩ = some (.int .i64 x.hi) := hc 2 _ rfl
      have c3 : wr.cell? ⟨b9, o9 + m.place * 9 + 3, none⟩ = some (.int .i64 x.month) := hc 3 _ rfl
      have c4 : wr.cell? ⟨b9, o9 + m.place * 9 + 4, none⟩ = some (.string x.on) := hc 4 _ rfl
      have c5 : wr.cell? ⟨b9, o9 + m.place * 9 + 5, none⟩ = some (.int .i64 x.at_) := hc 5 _ rfl
      have c6 : wr.cell? ⟨b9, o9 + m.place * 9 + 6, none⟩ = some (.string x.of) := hc 6 _ rfl
      have c7 : wr.cell? ⟨b9, o9 + m.place * 9 + 7, none⟩ = some (.int .i64 x.save) := hc 7 _ rfl
      have c8 : wr.cell? ⟨b9, o9 + m.place * 9 + 8, none⟩ = some (.string x.letter) := hc 8 _ rfl
      have hF := foldH_take (off := off) hm hx
      have hfl := foldH_len (off := off) HOp.out k hk
      obtain ⟨sv1, sv2⟩ := foldH_save (off := off) HOp.out HSv.out k hk
      have HF : Hid (foldH r.rules off (s.take (k + 1)) = ((foldH r.rules off (s.take k)).1 ++ [hapOf x m.wall off (foldH r.rules off (s.take k)).2], x.save)) := hF
      obtain ⟨⟨X, sv⟩, hX⟩ : ∃ R, foldH r.rules off (s.take k) = R := ⟨_, rfl⟩
      rw [hX] at HF hown hfl sv1 sv2
      rw [hX]
      simp only at hown hfl sv1 sv2
      clear hF hX hc hcm hm hx
      have hXl : X.length ≤ 2000 := by omega
      have hpl2 : (m.place : Int) < (r.rules.length : Int) := by omega
      have hpl0 : (0 : Int) ≤ (m.place : Int) := by omega
      have hk0 : (0 : Int) ≤ (k : Int) := by omega
      have hk1 : (k : Int) < (s.length : Int) := by omega
      clear hfl
      cases hs : (x.of.toList == [115])
      · cases hw : (x.of.toList == [119])
        · have HP : Hid (hapOf x m.wall off sv = ⟨m.wall, x.save, x.letter⟩) := hap_u hs hw
          go_wp2_with fail
          go_region_held3 (fun w' => w'.cell? ⟨w.heap.size, 0, none⟩ = some (.slice (some ⟨b9, o9, none⟩) r.rules.length ca) ∧ w'.cell? ⟨bm, om + k * 2 + 1, none⟩ = some (.int .i64 m.place) ∧ w'.cell? ⟨b9, o9 + m.place * 9, none⟩ = some (.string x.name) ∧ w'.cell? ⟨b9, o9 + m.place * 9 + 1, none⟩ = some (.int .i64 x.lo) ∧ w'.cell? ⟨b9, o9 + m.place * 9 + 2, none⟩ = some (.int .i64 x.hi) ∧ w'.cell? ⟨b9, o9 + m.place * 9 + 3, none⟩ = some (.int .i64 x.month) ∧ w'.cell? ⟨b9, o9 + m.place * 9 + 4, none⟩ = some (.string x.on) ∧ w'.cell? ⟨b9, o9 + m.place * 9 + 5, none⟩ = some (.int .i64 x.at_) ∧ w'.cell? ⟨b9, o9 + m.place * 9 + 6, none⟩ = some (.string x.of) ∧ w'.cell? ⟨b9, o9 + m.place * 9 + 7, none⟩ = some (.int .i64 x.save) ∧ w'.cell? ⟨b9, o9 + m.place * 9 + 8, none⟩ = some (.string x.letter)) (go_keep) (fail)
          go_wp2_with (first
            | (at_builtin; refine wpList_append_own _ rfl _ _ 30 rfl w2.heap.size 36 i0 (.agg #[.int .i64 0, .int .i64 0, .string ⟨#[]⟩]) 3 32 Tryz.underlying30 hi hz0 hz1 hz2 rfl (by decide) _ _ _ rfl (World.ownsRow.alloc (World.ownsRow.alloc hown _) _) ⟨wr.heap.size + 1, 0, none⟩ 1 1 [.int .i64 (m.wall), .int .i64 x.save, .string x.letter] rfl rfl ?c1a ?c2a ?c3a ?c4a ?c5a ?_)
            | fail)
          case c1a => simpa using cells_new (wr.alloc (.cells #[.string x.name, .int .i64 x.lo, .int .i64 x.hi, .int .i64 x.month, .string x.on, .int .i64 x.at_, .string x.of, .int .i64 x.save, .string x.letter] 120)) [.int .i64 (m.wall), .int .i64 x.save, .string x.letter] 36
          case c2a => intro u hu; simp at hu; rcases hu with rfl | rfl | rfl <;> rfl
          case c3a => unfold maxLen; omega
          case c4a => omega
          case c5a => simp; omega
          intro v' wn hown' hgrow _
          have hb0 := (hBr.alloc (by omega) (.cells #[.string x.name, .int .i64 x.lo, .int .i64 x.hi, .int .i64 x.month, .string x.on, .int .i64 x.at_, .string x.of, .int .i64 x.save, .string x.letter] 120)).alloc (by simp; omega) (.cells #[.int .i64 (m.wall), .int .i64 x.save, .string x.letter] 36)
          have hBn : Below w2.heap.size w2 wn := (hb0.trans ((below_drew _).mono hb0.size)).grown hgrow (by simp; omega) (fun j hj => (hown.lt j hj).1)
          have HO : Hid (OwnsH wn w2.heap.size v' (X ++ [⟨m.wall, x.save, x.letter⟩])) := OwnsH.add (p := ⟨m.wall, x.save, x.letter⟩) hown'
          obtain ⟨a7, m7, d7, rfl⟩ := row_shape3 hown'
          clear hgrow hown' hown hb0
          go_wp2
          go_roundw
          case rel => exact ⟨k + 1, by omega, by go_num, by rw [HF.out], by rw [HF.out]; simp only; rw [HP.out]; exact HO.out, hBn⟩
          case measure => simp [intOf]; omega
        · have HP : Hid (hapOf x m.wall off sv = ⟨m.wall - off - sv, x.save, x.letter⟩) := hap_w hs hw
          go_wp2_with fail
          go_region_held3 (fun w' => w'.cell? ⟨w.heap.size, 0, none⟩ = some (.slice (some ⟨b9, o9, none⟩) r.rules.length ca) ∧ w'.cell? ⟨bm, om + k * 2 + 1, none⟩ = some (.int .i64 m.place) ∧ w'.cell? ⟨b9, o9 + m.place * 9, none⟩ = some (.string x.name) ∧ w'.cell? ⟨b9, o9 + m.place * 9 + 1, none⟩ = some (.int .i64 x.lo) ∧ w'.cell? ⟨b9, o9 + m.place * 9 + 2, none⟩ = some (.int .i64 x.hi) ∧ w'.cell? ⟨b9, o9 + m.place * 9 + 3, none⟩ = some (.int .i64 x.month) ∧ w'.cell? ⟨b9, o9 + m.place * 9 + 4, none⟩ = some (.string x.on) ∧ w'.cell? ⟨b9, o9 + m.place * 9 + 5, none⟩ = some (.int .i64 x.at_) ∧ w'.cell? ⟨b9, o9 + m.place * 9 + 6, none⟩ = some (.string x.of) ∧ w'.cell? ⟨b9, o9 + m.place * 9 + 7, none⟩ = some (.int .i64 x.save) ∧ w'.cell? ⟨b9, o9 + m.place * 9 + 8, none⟩ = some (.string x.letter)) (go_keep) (fail)
          go_wp2_with (first
            | (at_builtin; refine wpList_append_own _ rfl _ _ 30 rfl w2.heap.size 36 i0 (.agg #[.int .i64 0, .int .i64 0, .string ⟨#[]⟩]) 3 32 Tryz.underlying30 hi hz0 hz1 hz2 rfl (by decide) _ _ _ rfl (World.ownsRow.alloc (World.ownsRow.alloc hown _) _) ⟨wr.heap.size + 1, 0, none⟩ 1 1 [.int .i64 (m.wall - off - sv), .int .i64 x.save, .string x.letter] rfl rfl ?c1b ?c2b ?c3b ?c4b ?c5b ?_)
            | fail)
          case c1b => simpa using cells_new (wr.alloc (.cells #[.string x.name, .int .i64 x.lo, .int .i64 x.hi, .int .i64 x.month, .string x.on, .int .i64 x.at_, .string x.of, .int .i64 x.save, .string x.letter] 120)) [.int .i64 (m.wall - off - sv), .int .i64 x.save, .string x.letter] 36
          case c2b => intro u hu; simp at hu; rcases hu with rfl | rfl | rfl <;> rfl
          case c3b => unfold maxLen; omega
          case c4b => omega
          case c5b => simp; omega
          intro v' wn hown' hgrow _
          have hb0 := (hBr.alloc (by omega) (.cells #[.string x.name, .int .i64 x.lo, .int .i64 x.hi, .int .i64 x.month, .string x.on, .int .i64 x.at_, .string x.of, .int .i64 x.save, .string x.letter] 120)).alloc (by simp; omega) (.cells #[.int .i64 (m.wall - off - sv), .int .i64 x.save, .string x.letter] 36)
          have hBn : Below w2.heap.size w2 wn := (hb0.trans ((below_drew _).mono hb0.size)).grown hgrow (by simp; omega) (fun j hj => (hown.lt j hj).1)
          have HO : Hid (OwnsH wn w2.heap.size v' (X ++ [⟨m.wall - off - sv, x.save, x.letter⟩])) := OwnsH.add (p := ⟨m.wall - off - sv, x.save, x.letter⟩) hown'
          obtain ⟨a7, m7, d7, rfl⟩ := row_shape3 hown'
          clear hgrow hown' hown hb0
          go_wp2
          go_roundw
          case rel => exact ⟨k + 1, by omega, by go_num, by rw [HF.out], by rw [HF.out]; simp only; rw [HP.out]; exact HO.out, hBn⟩
          case measure => simp [intOf]; omega
      · have HP : Hid (hapOf x m.wall off sv = ⟨m.wall - off, x.save, x.letter⟩) := hap_s hs
        go_wp2_with fail
        go_region_held3 (fun w' => w'.cell? ⟨w.heap.size, 0, none⟩ = some (.slice (some ⟨b9, o9, none⟩) r.rules.length ca) ∧ w'.cell? ⟨bm, om + k * 2 + 1, none⟩ = some (.int .i64 m.place) ∧ w'.cell? ⟨b9, o9 + m.place * 9, none⟩ = some (.string x.name) ∧ w'.cell? ⟨b9, o9 + m.place * 9 + 1, none⟩ = some (.int .i64 x.lo) ∧ w'.cell? ⟨b9, o9 + m.place * 9 + 2, none⟩ = some (.int .i64 x.hi) ∧ w'.cell? ⟨b9, o9 + m.place * 9 + 3, none⟩ = some (.int .i64 x.month) ∧ w'.cell? ⟨b9, o9 + m.place * 9 + 4, none⟩ = some (.string x.on) ∧ w'.cell? ⟨b9, o9 + m.place * 9 + 5, none⟩ = some (.int .i64 x.at_) ∧ w'.cell? ⟨b9, o9 + m.place * 9 + 6, none⟩ = some (.string x.of) ∧ w'.cell? ⟨b9, o9 + m.place * 9 + 7, none⟩ = some (.int .i64 x.save) ∧ w'.cell? ⟨b9, o9 + m.place * 9 + 8, none⟩ = some (.string x.letter)) (go_keep) (fail)
        go_wp2_with (first
          | (at_builtin; refine wpList_append_own _ rfl _ _ 30 rfl w2.heap.size 36 i0 (.agg #[.int .i64 0, .int .i64 0, .string ⟨#[]⟩]) 3 32 Tryz.underlying30 hi hz0 hz1 hz2 rfl (by decide) _ _ _ rfl (World.ownsRow.alloc (World.ownsRow.alloc hown _) _) ⟨wr.heap.size + 1, 0, none⟩ 1 1 [.int .i64 (m.wall - off), .int .i64 x.save, .string x.letter] rfl rfl ?c1c ?c2c ?c3c ?c4c ?c5c ?_)
          | fail)
        case c1c => simpa using cells_new (wr.alloc (.cells #[.string x.name, .int .i64 x.lo, .int .i64 x.hi, .int .i64 x.month, .string x.on, .int .i64 x.at_, .string x.of, .int .i64 x.save, .string x.letter] 120)) [.int .i64 (m.wall - off), .int .i64 x.save, .string x.letter] 36
        case c2c => intro u hu; simp at hu; rcases hu with rfl | rfl | rfl <;> rfl
        case c3c => unfold maxLen; omega
        case c4c => omega
        case c5c => simp; omega
        intro v' wn hown' hgrow _
        have hb0 := (hBr.alloc (by omega) (.cells #[.string x.name, .int .i64 x.lo, .int .i64 x.hi, .int .i64 x.month, .string x.on, .int .i64 x.at_, .string x.of, .int .i64 x.save, .string x.letter] 120)).alloc (by simp; omega) (.cells #[.int .i64 (m.wall - off), .int .i64 x.save, .string x.letter] 36)
        have hBn : Below w2.heap.size w2 wn := (hb0.trans ((below_drew _).mono hb0.size)).grown hgrow (by simp; omega) (fun j hj => (hown.lt j hj).1)
        have HO : Hid (OwnsH wn w2.heap.size v' (X ++ [⟨m.wall - off, x.save, x.letter⟩])) := OwnsH.add (p := ⟨m.wall - off, x.save, x.letter⟩) hown'
        obtain ⟨a7, m7, d7, rfl⟩ := row_shape3 hown'
        clear hgrow hown' hown hb0
        go_wp2
        go_roundw
        case rel => exact ⟨k + 1, by omega, by go_num, by rw [HF.out], by rw [HF.out]; simp only; rw [HP.out]; exact HO.out, hBn⟩
        case measure => simp [intOf]; omega
    · obtain rfl : k = s.length := by omega
      rw [List.take_length] at hown
      have HH : Hid (HapsR r nm off (foldH r.rules off s).1 ok) := ⟨s, HR2.out, rfl⟩
      rw [List.take_length]
      go_wp2
      exact bodyPost_ret (v := .tuple #[.slice a6 m6 d6, .bool ok]) (by simp [results, Tryz.results39, go_sem]) rfl ⟨_, _, ok, rfl, owns_mono hown hB2.size, HH.out, hBw⟩
end Go.Proofs.YtbbhpfobcelbfaaGreatDoor
