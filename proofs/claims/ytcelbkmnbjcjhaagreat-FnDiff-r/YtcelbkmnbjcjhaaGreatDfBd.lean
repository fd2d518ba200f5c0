/- Packed: Df3 Df4 Df5 Df6. -/
import Derived.Test.YtcelbkmnbjcjhaaGreatDf2d
import Derived.Test.YtcelbkmnbjcjhaaGreatDfAd
namespace Go.Proofs.YtcelbkmnbjcjhaaGreat
open Go.RowKit

set_option maxRecDepth 20000 in
theorem impl_turnInstants1 (l : List TurnD) (v : Value) (w : World) (hv : TabAt w v l) (hT : TabR l) :
  Calls Tryz.prog 40 #[v] w fun e W' => ∃ g cap, e = .returned (.slice (some ⟨g, 0, none⟩) l.length cap) ∧ g < W'.heap.size ∧ (∀ (i : Nat) x, (l.map TurnD.at_)[i]? = some x → W'.cell? ⟨g, i, none⟩ = some (.int .i64 x)) ∧ Below w.heap.size w W' := by
 have hl := hT.len
 refine (impl_turnInstants l v w hv (by omega)).mono ?_
 rintro e W' ⟨v', rfl, hown, hB⟩
 obtain ⟨n, hn⟩ : ∃ n, l.length = n + 1 := ⟨l.length - 1, by omega⟩
 obtain ⟨g, cap, rfl, hg, _, hc⟩ := row_open (L := l.map TurnD.at_) (n := n) (by simpa using hn) hown
 exact ⟨g, cap, by rw [hn], hg, hc, hB⟩
theorem infoPiece : (Tryz.prog.info? 69).map (fun i => (i.zero, i.size, i.bytes)) = some (some (.agg #[.int .i64 0, .int .i64 0, .bool false]), 3, 24) := by kernel_rfl
theorem piece_len {P : List PieceD} : ∀ r ∈ P.map PieceD.cs, r.length = 3 := fun r hr => by
 obtain ⟨x, _, rfl⟩ := List.mem_map.mp hr; rfl
def OwnsP (w : World) (base : Nat) (v : Value) (P : List PieceD) : Prop := w.ownsRow base 69 3 v P.length (P.map PieceD.cs).flatten
theorem OwnsP.add {w : World} {base : Nat} {v : Value} {P : List PieceD} {p : PieceD} (h : w.ownsRow base 69 3 v (P.length + 1) ((P.map PieceD.cs).flatten ++ p.cs)) : OwnsP w base v (P ++ [p]) := by
 unfold OwnsP
 rw [List.length_append, List.map_append, List.flatten_append]
 simpa using h
theorem OwnsM.seq {w : World} {base : Nat} {v : Value} {M : List MeetD} (h : OwnsM w base v M) : ∃ a cap, v = .slice a M.length cap ∧ SeqAt w a 3 (M.map MeetD.cs) := by
 obtain ⟨a, cap, h1, h2, _⟩ := seq_of_owns5 (rows := M.map MeetD.cs) (by rw [List.length_map]; exact h) meet_len
 exact ⟨a, cap, by rw [h1, List.length_map], h2⟩
set_option maxRecDepth 20000 in
set_option maxHeartbeats 8000000 in
theorem impl_piecesOf (la lb : List TurnD) (va vb : Value) (w : World) (hva : TabAt w va la) (hvb : TabAt w vb lb) (hTa : TabR la) (hTb : TabR lb) :
  Calls Tryz.prog 20 #[va, vb] w fun e W' => ∃ v', e = .returned v' ∧ OwnsP W' w.heap.size v' (piecesD la lb (uniT la lb)) ∧ Below w.heap.size w W' := by
 obtain ⟨i0, hi, hz0, hz1, hz2⟩ := info_parts infoPiece
 have lA := hTa.len
 have lB := hTb.len
 obtain ⟨fa, hfa⟩ : ∃ x, la[0]? = some x := ⟨_, List.getElem?_eq_getElem (by omega)⟩
 obtain ⟨fb, hfb⟩ : ∃ x, lb[0]? = some x := ⟨_, List.getElem?_eq_getElem (by omega)⟩
 obtain ⟨a, cap, rfl, hA⟩ := hva
 obtain ⟨b, capb, rfl, hAb⟩ := hvb
 obtain ⟨ba, oa, rfl, ca⟩ := hA.at (i := 0) (r := fa.cs) (by rw [List.getElem?_map, hfa]; rfl)
 obtain ⟨bb, ob, rfl, cb⟩ := hAb.at (i := 0) (r := fb.cs) (by rw [List.getElem?_map, hfb]; rfl)
 have hba : ba < w.heap.size := World.block_lt_of_cell? _ _ (ca 0 _ rfl)
 have hbb : bb < w.heap.size := World.block_lt_of_cell? _ _ (cb 0 _ rfl)
 have hva : TabAt w (.agg #[.slice (some ⟨ba, oa, none⟩) la.length cap]) la := ⟨_, cap, rfl, hA⟩
 have hvb : TabAt w (.agg #[.slice (some ⟨bb, ob, none⟩) lb.length capb]) lb := ⟨_, capb, rfl, hAb⟩
 have HCa : Hid (∀ (i : Nat) x, la[i]? = some x → w.cell? ⟨ba, oa + i * 4 + 1, none⟩ = some (.int .i64 x.offset)) := fun i x hx => by
  obtain ⟨b', o', e', h⟩ := hA.at (i := i) (r := x.cs) (by rw [List.getElem?_map, hx]; rfl)
  injection e' with e'
  injection e' with u1 u2
  subst u1 u2
  exact h 1 _ rfl
 have HCb : Hid (∀ (i : Nat) x, lb[i]? = some x → w.cell? ⟨bb, ob + i * 4 + 1, none⟩ = some (.int .i64 x.offset)) := fun i x hx => by
  obtain ⟨b', o', e', h⟩ := hAb.at (i := i) (r := x.cs) (by rw [List.getElem?_map, hx]; rfl)
  injection e' with e'
  injection e' with u1 u2
  subst u1 u2
  exact h 1 _ rfl
 have z0 : (la.map TurnD.at_)[0]? = some (-62135596800) := by rw [ats_at hfa, hTa.first fa hfa]
 have z1 : (lb.map TurnD.at_)[0]? = some (-62135596800) := by rw [ats_at hfb, hTb.first fb hfb]
 clear ca cb hfa hfb hA hAb
 have hIa := fun w (h : TabAt w (.agg #[.slice (some ⟨ba, oa, none⟩) la.length cap]) la) => impl_turnInstants1 la _ w h hTa
 have hIb := fun w (h : TabAt w (.agg #[.slice (some ⟨bb, ob, none⟩) lb.length capb]) lb) => impl_turnInstants1 lb _ w h hTb
 have hM := fun ga gb ca cb w h1 h2 h3 h4 => impl_meetings (la.map TurnD.at_) (lb.map TurnD.at_) ga gb ca cb w h1 h2 h3 h4 (ats_up hTa.up) (ats_up hTb.up) z0 z1 (by rw [List.length_map]; exact lA.2) (by rw [List.length_map]; exact lB.2)
 simp only [List.length_map] at hM
 clear z0 z1
 have hb0 := ((Below.refl w.heap.size w).alloc (Nat.le_refl _) (.cells #[.slice (some ⟨ba, oa, none⟩) la.length cap] 25)).alloc (by simp) (.cells #[.slice (some ⟨bb, ob, none⟩) lb.length capb] 25)
 have x0 : ((w.alloc (.cells #[.slice (some ⟨ba, oa, none⟩) la.length cap] 25)).alloc (.cells #[.slice (some ⟨bb, ob, none⟩) lb.length capb] 25)).cell? ⟨w.heap.size, 0, none⟩ = some (.slice (some ⟨ba, oa, none⟩) la.length cap) := by simp [go_sem]
 have y0 : ((w.alloc (.cells #[.slice (some ⟨ba, oa, none⟩) la.length cap] 25)).alloc (.cells #[.slice (some ⟨bb, ob, none⟩) lb.length capb] 25)).cell? ⟨w.heap.size + 1, 0, none⟩ = some (.slice (some ⟨bb, ob, none⟩) lb.length capb) := by simp [go_sem]
 go_enter Tryz.func20, Tryz.ntmps20
 go_wp2_with fail
 obtain ⟨wA, hwA⟩ : ∃ wA, ((w.alloc (.cells #[.slice (some ⟨ba, oa, none⟩) la.length cap] 25)).alloc (.cells #[.slice (some ⟨bb, ob, none⟩) lb.length capb] 25)) = wA := ⟨_, rfl⟩
 rw [hwA] at hb0 x0 y0 ⊢
 clear hwA
 have hBD : Below w.heap.size w wA.drew := hb0.trans ((below_drew5 wA).mono hb0.size)
 have xD : wA.drew.cell? ⟨w.heap.size, 0, none⟩ = some (.slice (some ⟨ba, oa, none⟩) la.length cap) := x0
 have yD : wA.drew.cell? ⟨w.heap.size + 1, 0, none⟩ = some (.slice (some ⟨bb, ob, none⟩) lb.length capb) := y0
 have vaD := hva.below hBD
 have vbD := hvb.below hBD
 clear x0 y0 hb0
 go_region_held3 (fun w' => w'.cell? ⟨w.heap.size, 0, none⟩ = some (.slice (some ⟨ba, oa, none⟩) la.length cap) ∧ w'.cell? ⟨w.heap.size + 1, 0, none⟩ = some (.slice (some ⟨bb, ob, none⟩) lb.length capb)) (go_keep) (first | (go_at_call 40; refine (hIb _ vb3).mono ?_; rintro e w4 ⟨g4, k4, rfl, l4, q4, hb4⟩; have x4 := keepC5 hb4 x3; have y4 := keepC5 hb4 y3; have q34 : ∀ (i : Nat) x, (la.map TurnD.at_)[i]? = some x → w4.cell? ⟨g3, i, none⟩ = some (.int .i64 x) := fun i x hx => keepC5 hb4 (q3 i x hx); have l34 := Nat.lt_of_lt_of_le l3 hb4.size) | (go_at_call 40; refine (hIa _ vaD).mono ?_; rintro e w3 ⟨g3, k3, rfl, l3, q3, hb3⟩; have x3 := keepC5 hb3 xD; have y3 := keepC5 hb3 yD; have vb3 := vbD.below hb3) | (go_at_call 39; refine (hM _ _ _ _ _ q34 q4 l34 l4).mono ?_; rintro e w5 ⟨v5, M, im, jm, rfl, hM5, hMet, eA, eB, hb5⟩; have x5 := keepC5 hb5 x4; have y5 := keepC5 hb5 y4; obtain ⟨a5, c5, rfl, hS5⟩ := hM5.seq; have HE : Hid (la.length = im + 1 ∧ lb.length = jm + 1) := ⟨eA, eB⟩; clear eA eB))
 have hB5 := hBD.trans ((hb3.trans ((hb4.trans (hb5.mono hb4.size)).mono hb3.size)).mono hBD.size)
 clear hb3 hb4 hb5 x3 y3 x4 y4 q3 q4 q34 l3 l4 l34 vb3 xD yD vaD vbD hBD hM hIa hIb hva hvb hM5
 have HU : Hid (M.map MeetD.at_ = uniT la lb) := hMet.done (by rw [List.length_map]; exact HE.out.1) (by rw [List.length_map]; exact HE.out.2)
 have HH : Hid (∀ m ∈ M, Here (la.map TurnD.at_) m.at_ m.i ∧ Here (lb.map TurnD.at_) m.at_ m.j) := hMet.here
 have hUl := uniT_len hTa hTb
 have hMl : M.length = (uniT la lb).length := by rw [← HU.out, List.length_map]
 rw [← hMl] at hUl
 have HM5 : Hid (M.length = (uniT la lb).length) := hMl
 have HLow : Hid (∀ (k : Nat) m, M[k]? = some m → -62135596800 ≤ m.at_ ∧ m.at_ ≤ 253402300799) := fun k m hm => uni_low hTa hTb (k := k) (by rw [← HU.out, List.getElem?_map, hm]; rfl)
 have HPt : Hid (∀ (k : Nat) m, M[k]? = some m → (piecesD la lb (uniT la lb)).take (k + 1) = (piecesD la lb (uniT la lb)).take k ++ [⟨m.at_, endOf (uniT la lb) k, offAt la m.at_ != offAt lb m.at_⟩]) := fun k m hm => pieces_take (by rw [← HU.out, List.getElem?_map, hm]; rfl)
 have HPe : Hid (∀ (k : Nat), (∀ m, M[k + 1]? = some m → endOf (uniT la lb) k = m.at_ - 1) ∧ (M[k + 1]? = none → endOf (uniT la lb) k = 253402300799)) := fun k => by
  unfold endOf
  rw [← HU.out, List.getElem?_map]
  exact ⟨fun m hm => by rw [hm]; rfl, fun hm => by rw [hm]; rfl⟩
 have HPl : Hid ((piecesD la lb (uniT la lb)).length = M.length) := by simp only [Hid]; rw [pieces_len]; exact hMl.symm
 have HOa : Hid (∀ n i x, Here (la.map TurnD.at_) n i → la[i]? = some x → offAt la n = x.offset) := fun n i x h hx => off_here hTa h hx
 have HOb : Hid (∀ n i x, Here (lb.map TurnD.at_) n i → lb[i]? = some x → offAt lb n = x.offset) := fun n i x h hx => off_here hTb h hx
 clear hMl HE hMet hTa hTb HU HM5
 obtain ⟨P, hP⟩ : ∃ P, piecesD la lb (uniT la lb) = P := ⟨_, rfl⟩
 have HPP : Hid (piecesD la lb (uniT la lb) = P) := hP
 rw [hP] at HPt HPl
 clear hP
 generalize hE : endOf (uniT la lb) = E at *
 clear hE
 have hsw : w.heap.size + 1 < w5.heap.size := World.block_lt_of_cell? _ _ y5
 go_wp2
 go_loopw [5, 18] (fun s5 s18 wr => ∃ k : Nat, k ≤ M.length ∧ s18 = .int .i64 k ∧ OwnsP wr w5.heap.size s5 (P.take k) ∧ Below w5.heap.size w5 wr) (fun _ s18 _ => M.length - (intOf s18).toNat)
 case atStart => exact ⟨0, by omega, rfl, World.ownsRow_nil _ _ _ _, Below.refl _ _⟩
 case round =>
  obtain ⟨k, hk, rfl, hown, hBr⟩ := hrel
  have hsW := hBr.size
  have hBw := hB5.trans (hBr.mono hB5.size)
  have xr := keepC5 hBr x5
  have yr := keepC5 hBr y5
  obtain ⟨ap, np, cp, rfl⟩ := row_shape35 hown
  have hPl : (P.take k).length ≤ 1200 := by have := HPl.out; rw [List.length_take]; omega
  by_cases hlt : k < M.length
  ·
   obtain ⟨m, hm⟩ : ∃ m, M[k]? = some m := ⟨_, List.getElem?_eq_getElem hlt⟩
   obtain ⟨bm, om, rfl, hc⟩ := (hS5.below hBr).at (i := k) (r := m.cs) (by rw [List.getElem?_map, hm]; rfl)
   have c0 : wr.cell? ⟨bm, om + k * 3, none⟩ = some (.int .i64 m.at_) := hc 0 _ rfl
   have c1 : wr.cell? ⟨bm, om + k * 3 + 1, none⟩ = some (.int .i64 m.i) := hc 1 _ rfl
   have c2 : wr.cell? ⟨bm, om + k * 3 + 2, none⟩ = some (.int .i64 m.j) := hc 2 _ rfl
   clear hc
   obtain ⟨hHa, hHb⟩ := HH.out m (List.mem_of_getElem? hm)
   obtain ⟨na, hna, _, _⟩ := id hHa
   obtain ⟨nb, hnb, _, _⟩ := id hHb
   obtain ⟨xa, hxa, _⟩ := ats_of hna
   obtain ⟨xb, hxb, _⟩ := ats_of hnb
   have ea := HOa.out _ _ _ hHa hxa
   have eb := HOb.out _ _ _ hHb hxb
   have ka := (hBw.cell (p := ⟨ba, oa + m.i * 4 + 1, none⟩) hba).trans (HCa.out _ _ hxa)
   have kb := (hBw.cell (p := ⟨bb, ob + m.j * 4 + 1, none⟩) hbb).trans (HCb.out _ _ hxb)
   have la1 : (m.i : Int) < (la.length : Int) := by have := (List.getElem?_eq_some_iff.mp hxa).1; omega
   have lb1 : (m.j : Int) < (lb.length : Int) := by have := (List.getElem?_eq_some_iff.mp hxb).1; omega
   have la0 : (0 : Int) ≤ (m.i : Int) := by omega
   have lb0 : (0 : Int) ≤ (m.j : Int) := by omega
   have hPT := HPt.out k m hm
   rw [ea, eb] at hPT
   have q0 : ∀ t, (wr.alloc (.cells #[.int .i64 m.at_, .int .i64 m.i, .int .i64 m.j] t)).cell? ⟨w.heap.size, 0, none⟩ = some (.slice (some ⟨ba, oa, none⟩) la.length cap) := fun t => keepC5 ((Below.refl _ wr).alloc (Nat.le_refl _) _) xr
   have q1 : ∀ t, (wr.alloc (.cells #[.int .i64 m.at_, .int .i64 m.i, .int .i64 m.j] t)).cell? ⟨w.heap.size + 1, 0, none⟩ = some (.slice (some ⟨bb, ob, none⟩) lb.length capb) := fun t => keepC5 ((Below.refl _ wr).alloc (Nat.le_refl _) _) yr
   have q2 : ∀ t, (wr.alloc (.cells #[.int .i64 m.at_, .int .i64 m.i, .int .i64 m.j] t)).cell? ⟨ba, oa + m.i * 4 + 1, none⟩ = some (.int .i64 xa.offset) := fun t => keepC5 ((Below.refl _ wr).alloc (Nat.le_refl _) _) ka
   have q3 : ∀ t, (wr.alloc (.cells #[.int .i64 m.at_, .int .i64 m.i, .int .i64 m.j] t)).cell? ⟨bb, ob + m.j * 4 + 1, none⟩ = some (.int .i64 xb.offset) := fun t => keepC5 ((Below.refl _ wr).alloc (Nat.le_refl _) _) kb
   obtain ⟨u, hu⟩ : ∃ u, (xa.offset != xb.offset) = u := ⟨_, rfl⟩
   rw [hu] at hPT
   obtain ⟨L, hL⟩ : ∃ L, P.take k = L := ⟨_, rfl⟩
   rw [hL] at hown hPl hPT
   by_cases hl2 : k + 1 < M.length
   ·
    obtain ⟨m2, hm2⟩ : ∃ m, M[k + 1]? = some m := ⟨_, List.getElem?_eq_getElem hl2⟩
    obtain ⟨b', o', he, hc⟩ := (hS5.below hBr).at (i := k + 1) (r := m2.cs) (by rw [List.getElem?_map, hm2]; rfl)
    injection he with he
    injection he with u1 u2
    subst u1 u2
    have c4 : wr.cell? ⟨bm, om + (k + 1) * 3, none⟩ = some (.int .i64 m2.at_) := hc 0 _ rfl
    have q4 : ∀ t, (wr.alloc (.cells #[.int .i64 m.at_, .int .i64 m.i, .int .i64 m.j] t)).cell? ⟨bm, om + (k + 1) * 3, none⟩ = some (.int .i64 m2.at_) := fun t => keepC5 ((Below.refl _ wr).alloc (Nat.le_refl _) _) c4
    obtain ⟨y1, y2⟩ := HLow.out (k + 1) m2 hm2
    rw [(HPe.out k).1 m2 hm2] at hPT
    have HT : Hid (P.take (k + 1) = L ++ [⟨m.at_, m2.at_ - 1, u⟩]) := hPT
    clear hPT hL hm HH HOa HOb HCa HCb hHa hHb hna hnb hxa hxb ea eb HPt HPe HLow hm2 hc
    go_wp2_with fail
    go_quiet (fail)
    go_wp2_with (first
     | (at_builtin; refine wpList_append_own _ rfl _ _ 48 rfl w5.heap.size 69 i0 (.agg #[.int .i64 0, .int .i64 0, .bool false]) 3 24 Tryz.underlying48 hi hz0 hz1 hz2 rfl (by decide) _ _ _ rfl (World.ownsRow.alloc (World.ownsRow.alloc hown _) _) ⟨wr.heap.size + 1, 0, none⟩ 1 1 [.int .i64 m.at_, .int .i64 (m2.at_ - 1), .bool u] rfl rfl ?c1a ?c2a ?c3a ?c4a ?c5a ?_)
     | fail)
    case c1a => simpa using cells_new5 ((wr.alloc (.cells #[.int .i64 m.at_, .int .i64 m.i, .int .i64 m.j] 75)).drewN nq) [.int .i64 m.at_, .int .i64 (m2.at_ - 1), .bool u] 69
    case c2a => intro u hu; simp at hu; rcases hu with rfl | rfl | rfl <;> rfl
    case c3a => unfold maxLen; omega
    case c4a => omega
    case c5a => simp; omega
    intro v' w1 hown' hgrow _
    have hB1 : Below w5.heap.size w5 w1 := Below.grown (Below.alloc (below_drewN (hBr.alloc hsW _) _) (by simp; omega) _) hgrow (by simp; omega) (fun j hj => (hown.lt j hj).1)
    have HO : Hid (OwnsP w1 w5.heap.size v' (P.take (k + 1))) := by simp only [Hid]; rw [HT.out]; exact OwnsP.add (p := ⟨m.at_, m2.at_ - 1, u⟩) hown'
    clear hgrow hown' hown q0 q1 q2 q3 ka kb c0 c1 c2 xr yr hu q4 c4
    go_wp2
    go_roundw
    case rel => exact ⟨k + 1, by omega, by go_num, HO.out, hB1⟩
    case measure => simp [intOf]; omega
   ·
    rw [(HPe.out k).2 (List.getElem?_eq_none (by omega))] at hPT
    have HT : Hid (P.take (k + 1) = L ++ [⟨m.at_, 253402300799, u⟩]) := hPT
    clear hPT hL hm HH HOa HOb HCa HCb hHa hHb hna hnb hxa hxb ea eb HPt HPe HLow
    go_wp2_with fail
    go_quiet (fail)
    go_wp2_with (first
     | (at_builtin; refine wpList_append_own _ rfl _ _ 48 rfl w5.heap.size 69 i0 (.agg #[.int .i64 0, .int .i64 0, .bool false]) 3 24 Tryz.underlying48 hi hz0 hz1 hz2 rfl (by decide) _ _ _ rfl (World.ownsRow.alloc (World.ownsRow.alloc hown _) _) ⟨wr.heap.size + 1, 0, none⟩ 1 1 [.int .i64 m.at_, .int .i64 (253402300799), .bool u] rfl rfl ?c1b ?c2b ?c3b ?c4b ?c5b ?_)
     | fail)
    case c1b => simpa using cells_new5 ((wr.alloc (.cells #[.int .i64 m.at_, .int .i64 m.i, .int .i64 m.j] 75)).drewN nq) [.int .i64 m.at_, .int .i64 (253402300799), .bool u] 69
    case c2b => intro u hu; simp at hu; rcases hu with rfl | rfl | rfl <;> rfl
    case c3b => unfold maxLen; omega
    case c4b => omega
    case c5b => simp; omega
    intro v' w1 hown' hgrow _
    have hB1 : Below w5.heap.size w5 w1 := Below.grown (Below.alloc (below_drewN (hBr.alloc hsW _) _) (by simp; omega) _) hgrow (by simp; omega) (fun j hj => (hown.lt j hj).1)
    have HO : Hid (OwnsP w1 w5.heap.size v' (P.take (k + 1))) := by simp only [Hid]; rw [HT.out]; exact OwnsP.add (p := ⟨m.at_, 253402300799, u⟩) hown'
    clear hgrow hown' hown q0 q1 q2 q3 ka kb c0 c1 c2 xr yr hu
    go_wp2
    go_roundw
    case rel => exact ⟨k + 1, by omega, by go_num, HO.out, hB1⟩
    case measure => simp [intOf]; omega
  ·
   obtain rfl : k = M.length := by omega
   have HR : Hid (P.take M.length = P) := by simp only [Hid]; rw [← HPl.out, List.take_length]
   rw [HR.out] at hown
   go_wp2
   go_ret
   exact ⟨_, rfl, by rw [HPP.out]; exact owns_monoS hown hB5.size, hBw⟩
end Go.Proofs.YtcelbkmnbjcjhaaGreat
namespace Go.Proofs.YtcelbkmnbjcjhaaGreat
open Go.RowKit

set_option maxRecDepth 20000 in
set_option maxHeartbeats 2000000 in
theorem impl_runLength (Q : List PieceD) (n cap : Nat) (a : Option Addr) (w : World) (hn : Q.length = n) (h0 : 0 < n) (h1 : n ≤ 1200) (hA : SeqAt w a 3 (Q.map PieceD.cs)) :
  Calls Tryz.prog 38 #[.slice a n cap] w fun e w' => ∃ m : Nat, e = .returned (.int .i64 (m + 1 : Nat)) ∧ RunN Q (m + 1) ∧ Below w.heap.size w w' := by
 obtain ⟨f, hf⟩ : ∃ f, Q[0]? = some f := ⟨_, List.getElem?_eq_getElem (by omega)⟩
 obtain ⟨b, o, rfl, hc⟩ := hA.at (i := 0) (r := f.cs) (by rw [List.getElem?_map, hf]; rfl)
 have c0 : w.cell? ⟨b, o + 2, none⟩ = some (.bool f.un) := by simpa using hc 2 _ rfl
 have HC : Hid (∀ (i : Nat) p, Q[i]? = some p → w.cell? ⟨b, o + i * 3 + 2, none⟩ = some (.bool p.un)) := fun i p hp => by
  obtain ⟨b', o', e', h⟩ := hA.at (i := i) (r := p.cs) (by rw [List.getElem?_map, hp]; rfl)
  injection e' with e'
  injection e' with u1 u2
  subst u1 u2
  exact h 2 _ rfl
 have HF : Hid (Q[0]? = some f) := hf
 have HQ : Hid (Q.length = n) := hn
 clear hc hA hf hn
 go_enter Tryz.func38, Tryz.ntmps38
 go_wp2
 go_loopw [3] (fun s wr => ∃ m : Nat, m + 1 ≤ n ∧ s = .int .i64 (m + 1 : Nat) ∧ Hid (∀ (t : Nat) p, t < m + 1 → Q[t]? = some p → p.un = f.un) ∧ Below w.heap.size w wr) (fun s _ => n - (intOf s).toNat)
 case atStart => exact ⟨0, by omega, rfl, fun t p ht hp => by obtain rfl : t = 0 := (by omega); rw [HF.out] at hp; obtain rfl := Option.some.inj hp; rfl, Below.refl _ _⟩
 case round =>
  obtain ⟨m, hm, rfl, HS, hB⟩ := hrel
  have k0 := keepC5 hB c0
  by_cases hlt : m + 1 < n
  ·
   obtain ⟨p, hp⟩ : ∃ p, Q[m + 1]? = some p := ⟨_, List.getElem?_eq_getElem (by rw [HQ.out]; omega)⟩
   have k1 := keepC5 hB (HC.out _ p hp)
   have dm : decide ((m : Int) + 1 < (n : Int)) = true := by simp; omega
   have bm : (0 : Int) ≤ (m : Int) + 1 := by omega
   have bm2 : (m : Int) + 1 < (n : Int) := by omega
   have tm : ((m : Int) + 1).toNat = m + 1 := by omega
   by_cases hu : p.un = f.un
   ·
    have HR : Hid (∀ (t : Nat) p, t < m + 1 + 1 → Q[t]? = some p → p.un = f.un) := fun t q ht hq => by
     by_cases e : t = m + 1
     ·
      subst e; rw [hp] at hq; obtain rfl := Option.some.inj hq; exact hu
     ·
      exact HS.out t q (by omega) hq
    rw [hu] at k1
    have de : (f.un == f.un) = true := by cases f.un <;> rfl
    clear HS hp HC hu
    generalize f.un = fu at *
    go_wp2_with fail
    go_quiet (fail)
    go_wp2
    go_roundw
    case rel => exact ⟨m + 1, by omega, by go_num, HR, below_drewN hB _⟩
    case measure => simp [intOf]; omega
   ·
    have HR : Hid (RunN Q (m + 1)) := ⟨by omega, by rw [HQ.out]; omega, fun g hg => by
     rw [HF.out] at hg
     obtain rfl := Option.some.inj hg
     exact ⟨HS.out, fun q hq => by rw [hp] at hq; obtain rfl := Option.some.inj hq; exact hu⟩⟩
    have de : (p.un == f.un) = false := by simpa using hu
    clear HS hp HC hu
    go_wp2_with fail
    go_quiet (fail)
    go_wp2
    go_ret
    exact ⟨m, rfl, HR.out, below_drewN hB _⟩
  ·
   have dm : decide ((m : Int) + 1 < (n : Int)) = false := by simp; omega
   have HR : Hid (RunN Q (m + 1)) := ⟨by omega, by rw [HQ.out]; omega, fun g hg => by
    rw [HF.out] at hg
    obtain rfl := Option.some.inj hg
    exact ⟨HS.out, fun q hq => by rw [List.getElem?_eq_none (by rw [HQ.out]; omega)] at hq; cases hq⟩⟩
   clear HS HC
   go_wp2_with fail
   go_quiet (fail)
   go_wp2
   go_ret
   exact ⟨m, rfl, HR.out, below_drewN hB _⟩
theorem infoSpan2 : (Tryz.prog.info? 31).map (fun i => (i.zero, i.size, i.bytes)) = some (some (.agg #[.int .i64 0, .int .i64 0]), 2, 16) := by kernel_rfl
theorem span_len {P : List SpanD} : ∀ r ∈ P.map SpanD.cs, r.length = 2 := fun r hr => by
 obtain ⟨x, _, rfl⟩ := List.mem_map.mp hr; rfl
def OwnsS (w : World) (base : Nat) (v : Value) (P : List SpanD) : Prop := w.ownsRow base 31 2 v P.length (P.map SpanD.cs).flatten
theorem OwnsS.add {w : World} {base : Nat} {v : Value} {P : List SpanD} {p : SpanD} (h : w.ownsRow base 31 2 v (P.length + 1) ((P.map SpanD.cs).flatten ++ p.cs)) : OwnsS w base v (P ++ [p]) := by
 unfold OwnsS
 rw [List.length_append, List.map_append, List.flatten_append]
 simpa using h
theorem seq_drop {w : World} {b o k m : Nat} {P : List PieceD} (h : SeqAt w (some ⟨b, o, none⟩) 3 ((P.drop k).map PieceD.cs)) : SeqAt w (some ⟨b, o + m * 3, none⟩) 3 ((P.drop (k + m)).map PieceD.cs) := by
 rcases h with h | ⟨b', o', e, h⟩
 ·
  left
  have h2 := congrArg List.length h
  apply List.length_eq_zero_iff.mp
  simp at h2 ⊢
  omega
 ·
  injection e with e
  injection e with u1 u2
  subst u1 u2
  refine .inr ⟨_, _, rfl, fun i j r c hi hj => ?_⟩
  rw [show o + m * 3 + i * 3 + j = o + (m + i) * 3 + j by rw [Nat.add_mul]; omega]
  refine h (m + i) j r c ?_ hj
  rw [List.getElem?_map, List.getElem?_drop] at hi ⊢
  rw [← Nat.add_assoc]
  exact hi
theorem seq_none {w : World} {a : Option Addr} {k : Nat} {P : List PieceD} (h : P.length ≤ k) : SeqAt w a 3 ((P.drop k).map PieceD.cs) := .inl (by rw [List.drop_eq_nil_of_le h]; rfl)
set_option maxRecDepth 20000 in
set_option maxHeartbeats 8000000 in
theorem impl_unlikeSpans (P : List PieceD) (a : Option Addr) (cap : Nat) (w : World) (hA : SeqAt w a 3 (P.map PieceD.cs)) (hcap : P.length ≤ cap) (hl : P.length ≤ 1200) :
  Calls Tryz.prog 19 #[.slice a P.length cap] w fun e W' => ∃ v', e = .returned v' ∧ OwnsS W' w.heap.size v' (foldS P).1 ∧ Below w.heap.size w W' := by
 obtain ⟨i0, hi, hz0, hz1, hz2⟩ := info_parts infoSpan2
 have HL0 : Hid (LeftS P 0 []) := left_begin P
 go_enter Tryz.func19, Tryz.ntmps19
 go_wp2
 go_loopw [0, 3] (fun s0 s3 wr => ∃ (k n c : Nat) (a : Option Addr) (X : List SpanD), P.length = k + n ∧ n ≤ c ∧ s0 = .slice a n c ∧ SeqAt w a 3 ((P.drop k).map PieceD.cs) ∧ OwnsS wr w.heap.size s3 X ∧ X.length ≤ k ∧ Hid (LeftS P k X) ∧ Below w.heap.size w wr) (fun s0 _ _ => match s0 with | .slice _ n _ => n | _ => 0)
 case atStart => exact ⟨0, P.length, cap, a, [], by omega, hcap, rfl, hA, World.ownsRow_nil _ _ _ _, by simp, HL0, Below.refl _ _⟩
 case round =>
  clear hA HL0
  obtain ⟨k, n, c, a, X, hkn, hnc, rfl, hA, hown, hXl, HL, hBw⟩ := hrel
  have hsW := hBw.size
  obtain ⟨ap, np, cp, rfl⟩ := row_shape35 hown
  have HKN : Hid (P.length = k + n) := hkn
  clear hkn
  by_cases h0 : 0 < n
  ·
   have hn12 : n ≤ 1200 := by have := HKN.out; omega
   have hXl2 : X.length ≤ 1200 := by have := HKN.out; omega
   obtain ⟨f, hf⟩ : ∃ f, P[k]? = some f := ⟨_, List.getElem?_eq_getElem (by rw [HKN.out]; omega)⟩
   obtain ⟨b, o, rfl, hc⟩ := hA.at (i := 0) (r := f.cs) (by rw [List.getElem?_map, List.getElem?_drop, Nat.add_zero, hf]; rfl)
   have c0 := keepC5 hBw (show w.cell? ⟨b, o, none⟩ = some (.int .i64 f.lo) by simpa using hc 0 _ rfl)
   have c2 := keepC5 hBw (show w.cell? ⟨b, o + 2, none⟩ = some (.bool f.un) by simpa using hc 2 _ rfl)
   clear hc
   have hbl : b < w.heap.size := by
    obtain ⟨b', o', e', h⟩ := hA.at (i := 0) (r := f.cs) (by rw [List.getElem?_map, List.getElem?_drop, Nat.add_zero, hf]; rfl)
    injection e' with e'
    injection e' with u1 u2
    subst u1 u2
    exact World.block_lt_of_cell? _ _ (h 0 _ rfl)
   have hR := impl_runLength (P.drop k) n c (some ⟨b, o, none⟩) wr (by rw [List.length_drop, HKN.out]; omega) h0 hn12 (hA.below hBw)
   go_wp2_with fail
   refine hR.mono ?_
   rintro e w2 ⟨m, rfl, hrun, hb2⟩
   clear hR
   have hB2 := hBw.trans (hb2.mono hBw.size)
   have hown2 : OwnsS w2 w.heap.size (.slice ap np cp) X := owns_below5 hown hb2
   have hs2 := hB2.size
   have d0 := keepC5 hb2 c0
   have d2 := keepC5 hb2 c2
   have hmn : m + 1 ≤ n := by have := hrun.2.1; rw [List.length_drop, HKN.out] at this; omega
   obtain ⟨z, hz⟩ : ∃ z, P[k + m]? = some z := ⟨_, List.getElem?_eq_getElem (by rw [HKN.out]; omega)⟩
   obtain ⟨b', o', he, hc⟩ := (hA.below hB2).at (i := m) (r := z.cs) (by rw [List.getElem?_map, List.getElem?_drop, hz]; rfl)
   injection he with he
   injection he with u1 u2
   subst u1 u2
   have d1 : w2.cell? ⟨b, o + m * 3 + 1, none⟩ = some (.int .i64 z.hi) := hc 1 _ rfl
   have HN : Hid (P.length = (k + (m + 1)) + (n - (m + 1))) := by have := HKN.out; simp only [Hid]; omega
   have hA2 : ∀ (o : Nat), SeqAt w (some ⟨b, o, none⟩) 3 ((P.drop (k + (m + 1))).map PieceD.cs) ∨ n ≠ m + 1 := fun o => by
    by_cases e : n = m + 1
    ·
     exact .inl (seq_none (by rw [HKN.out]; omega))
    ·
     exact .inr e
   have hA3 := seq_drop (m := m + 1) hA
   clear hc hown hb2 c0 c2 hBw hsW hA
   have tm : ((m : Int) + 1).toNat = m + 1 := by omega
   have bm : (0 : Int) ≤ (m : Int) + 1 := by omega
   have bm2 : (m : Int) + 1 ≤ (n : Int) := by omega
   have bm3 : (m : Int) + 1 ≤ (c : Int) := by omega
   have hw : IntKind.i64.wrap (m : Int) = m := wrap_small _ (by omega) (by omega)
   have hw1 : IntKind.i64.wrap ((m : Int) + 1 - 1) = m := by rw [show (m : Int) + 1 - 1 = m by omega]; exact hw
   have lm : (m : Int) < (m : Int) + 1 := by omega
   have lm0 : (0 : Int) ≤ (m : Int) := by omega
   by_cases hcm : c = m + 1
   ·
    have hA4 := (hA2 o).resolve_right (by omega)
    subst hcm
    obtain rfl : n = m + 1 := by omega
    cases hu : f.un
    ·
     have HL2 : Hid (LeftS P (k + (m + 1)) X) := left_no HL.out hrun hf hu
     rw [hu] at d2
     clear HL hrun hf hz hu hA2
     go_wp2
     go_roundw
     case rel => exact ⟨k + (m + 1), 0, _, _, X, by have := HN.out; omega, by omega, rfl, hA4, hown2, by omega, HL2, hB2⟩
     case measure => simp
    ·
     have HL2 : Hid (LeftS P (k + (m + 1)) (X ++ [⟨f.lo, z.hi⟩])) := left_yes HL.out hrun hf (by rw [Nat.add_sub_cancel]; exact hz) hu
     rw [hu] at d2
     have na : some b ≠ (Value.slice ap np cp).ownBlock := fun e => by have := (hown2.lt b e.symm).1; omega
     clear HL hrun hf hz hu hA2
     go_wp2_with fail
     go_region_held3 (fun w' => w'.cell? ⟨b, o, none⟩ = some (.int .i64 f.lo) ∧ w'.cell? ⟨b, o + m * 3 + 1, none⟩ = some (.int .i64 z.hi)) (go_keep) ((refine step_append_lies _ (by rfl) (.tmp 19) (.tmp 33) 28 (by rfl) w.heap.size 31 i0 (.agg #[.int .i64 0, .int .i64 0]) 2 16 Tryz.underlying28 hi hz0 hz1 hz2 rfl (by omega) (.slice ap np cp) X.length (X.map SpanD.cs).flatten (by rfl) (World.ownsRow.alloc (w := w2.drew) hown2 _) ⟨w2.heap.size, 0, none⟩ 1 1 [.int .i64 f.lo, .int .i64 z.hi] (by rfl) rfl (cells_new5 _ _ _) (by intro u hu; simp at hu; rcases hu with rfl | rfl <;> rfl) (by omega) (by unfold maxLen; omega) (by omega) (by simp; omega) _ rfl ?_; intro g1 cap1 w3 hown3 hgrow hat hlt; have n1 := hgrow.cell (a := ⟨b, o, none⟩) (keepC5 ((Below.refl _ w2.drew).alloc (Nat.le_refl _) _) d0) na; have n2 := hgrow.cell (a := ⟨b, o + m * 3 + 1, none⟩) (keepC5 ((Below.refl _ w2.drew).alloc (Nat.le_refl _) _) d1) na))
     have hB3 : Below w.heap.size w w3 := Below.grown (Below.alloc (below_drewN hB2 1) (by simp; omega) _) hgrow (by simp; omega) (fun k hk => (hown2.lt k hk).1)
     have HO : Hid (OwnsS w3 w.heap.size (.slice (some ⟨g1, 0, none⟩) (X.length + 1) cap1) (X ++ [⟨f.lo, z.hi⟩])) := OwnsS.add (by simpa [SpanD.cs] using hown3)
     clear hgrow hown3 hown2 n1 n2 hat hlt na d0 d1 d2
     go_wp2
     go_roundw
     case rel => exact ⟨k + (m + 1), 0, _, _, _, by have := HN.out; omega, by omega, rfl, hA4, HO.out, by simp; omega, HL2, hB3⟩
     case measure => simp
   ·
    cases hu : f.un
    ·
     have HL2 : Hid (LeftS P (k + (m + 1)) X) := left_no HL.out hrun hf hu
     rw [hu] at d2
     clear HL hrun hf hz hu hA2
     go_wp2
     go_roundw
     case rel => exact ⟨k + (m + 1), n - (m + 1), _, _, X, by have := HN.out; omega, by omega, rfl, hA3, hown2, by omega, HL2, hB2⟩
     case measure => simp; omega
    ·
     have HL2 : Hid (LeftS P (k + (m + 1)) (X ++ [⟨f.lo, z.hi⟩])) := left_yes HL.out hrun hf (by rw [Nat.add_sub_cancel]; exact hz) hu
     rw [hu] at d2
     have na : some b ≠ (Value.slice ap np cp).ownBlock := fun e => by have := (hown2.lt b e.symm).1; omega
     clear HL hrun hf hz hu hA2
     go_wp2_with fail
     go_region_held3 (fun w' => w'.cell? ⟨b, o, none⟩ = some (.int .i64 f.lo) ∧ w'.cell? ⟨b, o + m * 3 + 1, none⟩ = some (.int .i64 z.hi)) (go_keep) ((refine step_append_lies _ (by rfl) (.tmp 19) (.tmp 33) 28 (by rfl) w.heap.size 31 i0 (.agg #[.int .i64 0, .int .i64 0]) 2 16 Tryz.underlying28 hi hz0 hz1 hz2 rfl (by omega) (.slice ap np cp) X.length (X.map SpanD.cs).flatten (by rfl) (World.ownsRow.alloc (w := w2.drew) hown2 _) ⟨w2.heap.size, 0, none⟩ 1 1 [.int .i64 f.lo, .int .i64 z.hi] (by rfl) rfl (cells_new5 _ _ _) (by intro u hu; simp at hu; rcases hu with rfl | rfl <;> rfl) (by omega) (by unfold maxLen; omega) (by omega) (by simp; omega) _ rfl ?_; intro g1 cap1 w3 hown3 hgrow hat hlt; have n1 := hgrow.cell (a := ⟨b, o, none⟩) (keepC5 ((Below.refl _ w2.drew).alloc (Nat.le_refl _) _) d0) na; have n2 := hgrow.cell (a := ⟨b, o + m * 3 + 1, none⟩) (keepC5 ((Below.refl _ w2.drew).alloc (Nat.le_refl _) _) d1) na))
     have hB3 : Below w.heap.size w w3 := Below.grown (Below.alloc (below_drewN hB2 1) (by simp; omega) _) hgrow (by simp; omega) (fun k hk => (hown2.lt k hk).1)
     have HO : Hid (OwnsS w3 w.heap.size (.slice (some ⟨g1, 0, none⟩) (X.length + 1) cap1) (X ++ [⟨f.lo, z.hi⟩])) := OwnsS.add (by simpa [SpanD.cs] using hown3)
     clear hgrow hown3 hown2 n1 n2 hat hlt na d0 d1 d2
     go_wp2
     go_roundw
     case rel => exact ⟨k + (m + 1), n - (m + 1), _, _, _, by have := HN.out; omega, by omega, rfl, hA3, HO.out, by simp; omega, HL2, hB3⟩
     case measure => simp; omega
  ·
   obtain rfl : n = 0 := by omega
   have HR : Hid ((foldS P).1 = X) := left_end HL.out (by rw [HKN.out]; omega)
   go_wp2
   go_ret
   exact ⟨_, rfl, by rw [HR.out]; exact hown, hBw⟩
end Go.Proofs.YtcelbkmnbjcjhaaGreat
namespace Go.Proofs.YtcelbkmnbjcjhaaGreat
open Go.RowKit

theorem OwnsP.seq {w : World} {base : Nat} {v : Value} {P : List PieceD} (h : OwnsP w base v P) : ∃ a cap, v = .slice a P.length cap ∧ SeqAt w a 3 (P.map PieceD.cs) ∧ P.length ≤ cap := by
 obtain ⟨a, cap, h1, h2, h3⟩ := seq_of_owns5 (rows := P.map PieceD.cs) (by rw [List.length_map]; exact h) piece_len
 rw [List.length_map] at h1 h3
 exact ⟨a, cap, h1, h2, h3⟩
set_option maxRecDepth 20000 in
set_option maxHeartbeats 2000000 in
theorem impl_Diff (la lb : List TurnD) (va vb : Value) (w : World) (hva : TabAt w va la) (hvb : TabAt w vb lb) (oka : ∀ r ∈ la, r.ok) (okb : ∀ r ∈ lb, r.ok) (hla : la.length ≤ 1048576) (hlb : lb.length ≤ 1048576) :
  Calls Tryz.prog 5 #[va, vb] w fun e W' => ∃ v', e = .returned v' ∧ OwnsS W' w.heap.size v' (diffD la lb) ∧ Below w.heap.size w W' := by
 obtain ⟨a, cap, rfl, hA⟩ := hva
 obtain ⟨b, capb, rfl, hAb⟩ := hvb
 have hva : TabAt w (.agg #[.slice a la.length cap]) la := ⟨a, cap, rfl, hA⟩
 have hvb : TabAt w (.agg #[.slice b lb.length capb]) lb := ⟨b, capb, rfl, hAb⟩
 clear hA hAb
 have hB0 := fun o o2 => ((Below.refl w.heap.size w).alloc (Nat.le_refl _) o).alloc (by simp) o2
 have hRa := fun w (h : TabAt w (.agg #[.slice a la.length cap]) la) => impl_TableRight la _ w h oka hla
 have hRb := fun w (h : TabAt w (.agg #[.slice b lb.length capb]) lb) => impl_TableRight lb _ w h okb hlb
 have KEEP : ∀ w1, Below ((w.alloc (.cells #[.slice a la.length cap] 25)).alloc (.cells #[.slice b lb.length capb] 25)).heap.size ((w.alloc (.cells #[.slice a la.length cap] 25)).alloc (.cells #[.slice b lb.length capb] 25)) w1 →
   w1.cell? ⟨w.heap.size, 0, none⟩ = some (.slice a la.length cap) ∧ w1.cell? ⟨w.heap.size + 1, 0, none⟩ = some (.slice b lb.length capb) ∧ Below w.heap.size w w1 := fun w1 hb1 => by
  obtain ⟨hc1, hf1⟩ := bcell hb1
  exact ⟨(hc1 _ _ (by simp; omega)).trans (by simp [go_sem]), (hc1 _ _ (by simp)).trans (by simp [go_sem]), (hB0 _ _).trans (hb1.mono (by simp; omega))⟩
 cases ha : tabB la
 ·
  rw [diff_no1 ha]
  rw [ha] at hRa
  go_enter Tryz.func5, Tryz.ntmps5
  go_wp2_with fail
  refine (hRa _ (hva.below (hB0 _ _))).mono ?_
  rintro e w1 ⟨rfl, hb1⟩
  go_wp2
  go_ret
  exact ⟨_, rfl, World.ownsRow_nil _ _ _ _, (KEEP w1 hb1).2.2⟩
 rw [ha] at hRa
 cases hb : tabB lb
 ·
  rw [diff_no2 hb]
  rw [hb] at hRb
  go_enter Tryz.func5, Tryz.ntmps5
  go_wp2_with fail
  refine (hRa _ (hva.below (hB0 _ _))).mono ?_
  rintro e w1 ⟨rfl, hb1⟩
  obtain ⟨c0, c1, hB1⟩ := KEEP w1 hb1
  go_wp2_with fail
  refine (hRb _ (hvb.below hB1)).mono ?_
  rintro e w2 ⟨rfl, hb2⟩
  go_wp2
  go_ret
  exact ⟨_, rfl, World.ownsRow_nil _ _ _ _, hB1.trans (hb2.mono hB1.size)⟩
 rw [hb] at hRb
 rw [diff_yes ha hb]
 have hPl : (piecesD la lb (uniT la lb)).length ≤ 1200 := by rw [pieces_len]; exact uniT_len (tab_of ha) (tab_of hb)
 have hP := fun w h1 h2 => impl_piecesOf la lb (.agg #[.slice a la.length cap]) (.agg #[.slice b lb.length capb]) w h1 h2 (tab_of ha) (tab_of hb)
 have HD : Hid (diffR la lb = (foldS (piecesD la lb (uniT la lb))).1) := rfl
 clear ha hb
 generalize diffR la lb = D at *
 generalize piecesD la lb (uniT la lb) = P at *
 have hU := fun a c w h1 h2 => impl_unlikeSpans P a c w h1 h2 hPl
 go_enter Tryz.func5, Tryz.ntmps5
 go_wp2_with fail
 refine (hRa _ (hva.below (hB0 _ _))).mono ?_
 rintro e w1 ⟨rfl, hb1⟩
 obtain ⟨c0, c1, hB1⟩ := KEEP w1 hb1
 clear KEEP hb1
 go_wp2_with fail
 refine (hRb _ (hvb.below hB1)).mono ?_
 rintro e w2 ⟨rfl, hb2⟩
 have hB2 := hB1.trans (hb2.mono hB1.size)
 have d0 := keepC5 hb2 c0
 have d1 := keepC5 hb2 c1
 clear hb2 c0 c1 hB1 hRa hRb
 go_wp2_with fail
 refine (hP _ (hva.below hB2) (hvb.below hB2)).mono ?_
 rintro e w3 ⟨v3, rfl, hO3, hb3⟩
 have hB3 := hB2.trans (hb3.mono hB2.size)
 obtain ⟨a3, k3, rfl, hS3, hk3⟩ := hO3.seq
 clear hO3 hb3
 go_wp2_with fail
 refine (hU _ _ _ hS3 hk3).mono ?_
 rintro e w4 ⟨v4, rfl, hO4, hb4⟩
 have hB4 := hB3.trans (hb4.mono hB3.size)
 have HO : Hid (OwnsS w4 w.heap.size v4 D) := by simp only [Hid]; rw [HD.out]; exact owns_monoS hO4 hB3.size
 clear hO4 hb4
 go_wp2
 go_ret
 exact ⟨_, rfl, HO.out, hB4⟩
end Go.Proofs.YtcelbkmnbjcjhaaGreat
namespace Go.Proofs.YtcelbkmnbjcjhaaGreat
open Go.RowKit

theorem insI_end : ∀ {L : List Int} {n : Int}, (∀ x ∈ L, x < n) → insI L n = L ++ [n] := by
 intro L
 induction L with
 | nil => intro n _; rfl
 | cons x L ih =>
  intro n h
  unfold insI
  rw [if_pos (h x (by simp)), ih fun y hy => h y (List.mem_cons_of_mem _ hy)]
  rfl
theorem insI_here : ∀ {L : List Int} {n : Int} {k : Nat}, (∀ i x, i < k → L[i]? = some x → x < n) → L[k]? = some n → insI L n = L := by
 intro L
 induction L with
 | nil => intro n k _ h; simp at h
 | cons x L ih =>
  intro n k h hk
  cases k with
  | zero =>
   simp at hk
   subst hk
   unfold insI
   rw [if_neg (by omega), if_pos rfl]
  | succ k =>
   unfold insI
   rw [if_pos (h 0 x (by omega) rfl), ih (k := k) (fun i y hi hy => h (i + 1) y (by omega) (by simpa using hy)) (by simpa using hk)]
theorem insI_mid : ∀ {L : List Int} {n : Int} {k : Nat} {y : Int}, (∀ i x, i < k → L[i]? = some x → x < n) → L[k]? = some y → n < y → insI L n = (L.take k ++ [n]) ++ L.drop k := by
 intro L
 induction L with
 | nil => intro n k y _ h; simp at h
 | cons x L ih =>
  intro n k y h hk hy
  cases k with
  | zero =>
   simp at hk
   subst hk
   unfold insI
   rw [if_neg (by omega), if_neg (by omega)]
   rfl
  | succ k =>
   unfold insI
   rw [if_pos (h 0 x (by omega) rfl), ih (k := k) (y := y) (fun i z hi hz => h (i + 1) z (by omega) (by simpa using hz)) (by simpa using hk) hy]
   rfl
/-- a row of numbers of one's own. -/
def OwnsI5 (w : World) (base : Nat) (v : Value) (L : List Int) : Prop := w.ownsRow base 2 1 v L.length (L.map (Value.int .i64))
theorem OwnsI5.add {w : World} {base : Nat} {v : Value} {L M : List Int} (h : w.ownsRow base 2 1 v (L.length + M.length) (L.map (Value.int .i64) ++ M.map (Value.int .i64))) : OwnsI5 w base v (L ++ M) := by
 unfold OwnsI5
 rw [List.length_append, List.map_append]
 exact h
theorem OwnsI5.open {w : World} {base : Nat} {v : Value} {L : List Int} (h : OwnsI5 w base v L) (hn : 0 < L.length) : ∃ g cap, v = .slice (some ⟨g, 0, none⟩) L.length cap ∧ L.length ≤ cap ∧ g < w.heap.size ∧ base ≤ g ∧ ∀ (i : Nat) x, L[i]? = some x → w.cell? ⟨g, i, none⟩ = some (.int .i64 x) := by
 rcases h.2 with ⟨_, h0⟩ | ⟨g, cap, cur, hv, hb, hg, hc, _, _, _⟩
 ·
  omega
 ·
  refine ⟨g, cap, hv, hc, (Array.getElem?_eq_some_iff.1 hg).1, hb, fun i x hx => ?_⟩
  have h2 : w.ownsRow base 2 1 (.slice (some ⟨g, 0, none⟩) L.length cap) L.length (L.map (Value.int .i64)) := hv ▸ h
  rw [h2.cellAt i (by have := (List.getElem?_eq_some_iff.mp hx).1; omega), List.getElem?_map, hx]; rfl
set_option maxRecDepth 20000 in
set_option maxHeartbeats 4000000 in
theorem spec_l03Ahead5 (L : List Int) (v : Value) (n : Int) (base : Nat) (w : World) (hown : OwnsI5 w base v L) (hbw : base ≤ w.heap.size) (h0 : 0 < L.length) (h1 : L.length ≤ 1200) (hup : L.Pairwise (· < ·)) :
  Calls Tryz.prog 41 #[v, .int .i64 n] w fun e W' => ∃ v', e = .returned v' ∧ OwnsI5 W' base v' (insI L n) ∧ Below base w W' := by
 obtain ⟨i0, hi, hz0, hz1, hz2⟩ := info_parts info64
 obtain ⟨g, cap, rfl, hcap, hg, hgb, hcell⟩ := hown.open h0
 obtain ⟨q, hq⟩ : ∃ q, L.length = q + 1 := ⟨L.length - 1, by omega⟩
 obtain ⟨z, hz⟩ : ∃ z, L[q]? = some z := ⟨_, List.getElem?_eq_getElem (by omega)⟩
 have cz := hcell q z hz
 have HC : Hid (∀ (i : Nat) x, L[i]? = some x → w.cell? ⟨g, i, none⟩ = some (.int .i64 x)) := hcell
 have HQ : Hid (L.length = q + 1) := hq
 have hle : ∀ x ∈ L, x ≤ z := fun x hx => by
  obtain ⟨i, hi⟩ := List.getElem?_of_mem hx
  have hil := (List.getElem?_eq_some_iff.mp hi).1
  by_cases e : i = q
  ·
   subst e; rw [hz] at hi; obtain rfl := Option.some.inj hi; exact Int.le_refl _
  ·
   have := up_lt hup (show i < q by omega) hi hz; omega
 have hown1 := hown
 rw [hq] at hown1 hcap h1 ⊢
 clear hcell hq
 have bq : IntKind.i64.wrap ((q : Int) + 1 - 1) = q := by rw [show (q : Int) + 1 - 1 = q by omega]; exact wrap_small _ (by omega) (by omega)
 by_cases hzn : z < n
 ·
  have HE : Hid (insI L n = L ++ [n]) := insI_end fun x hx => by have := hle x hx; omega
  clear hle HC hup hz
  go_enter Tryz.func41, Tryz.ntmps41
  go_wp2_with (first
   | (at_builtin; refine wpList_append_own _ rfl _ _ 72 rfl base 2 i0 (.int .i64 0) 1 8 Tryz.underlying72 hi hz0 hz1 hz2 rfl (by decide) _ _ _ rfl (World.ownsRow.alloc hown1 _) ⟨w.heap.size, 0, none⟩ 1 1 [.int .i64 n] rfl rfl ?c1 ?c2 ?c3 ?c4 ?c5 ?_)
   | fail)
  case c1 => exact cell_one_new _ _ _
  case c2 => intro u hu; simp at hu; subst hu; rfl
  case c3 => have := HQ.out; unfold maxLen; omega
  case c4 => have := HQ.out; omega
  case c5 => simp; omega
  intro v' w1 hown' hgrow _
  have hB1 : Below base w w1 := ((Below.refl base w).alloc hbw _).grown hgrow (by simp; omega) (fun j hj => (hown1.lt j hj).1)
  have HO : Hid (OwnsI5 w1 base v' (insI L n)) := by simp only [Hid]; rw [HE.out]; exact OwnsI5.add (M := [n]) hown'
  clear hgrow hown' hown hown1
  go_wp2
  go_ret
  exact ⟨_, rfl, HO.out, hB1⟩
 ·
  have hnz : n ≤ z := by omega
  go_enter Tryz.func41, Tryz.ntmps41
  go_wp2
  go_loopw [5] (fun s wr => ∃ k : Nat, k ≤ q ∧ s = .int .i64 k ∧ Hid (∀ i x, i < k → L[i]? = some x → x < n) ∧ wr = w) (fun s _ => q + 1 - (intOf s).toNat)
  case atStart => exact ⟨0, by omega, rfl, fun i x hi => by omega, rfl⟩
  case round =>
   obtain ⟨k, hk, rfl, HS, hw⟩ := hrel
   have hw := hw.symm
   subst hw
   obtain ⟨y, hy⟩ : ∃ y, L[k]? = some y := ⟨_, List.getElem?_eq_getElem (by rw [HQ.out]; omega)⟩
   have cy := HC.out k y hy
   by_cases hyn : y < n
   ·
    have hkq : k < q := by
     by_cases e : k = q
     ·
      subst e; rw [hz] at hy; obtain rfl := Option.some.inj hy; omega
     ·
      omega
    have HR : Hid (∀ i x, i < k + 1 → L[i]? = some x → x < n) := fun i x hi hx => by
     by_cases e : i = k
     ·
      subst e; rw [hy] at hx; obtain rfl := Option.some.inj hx; exact hyn
     ·
      exact HS.out i x (by omega) hx
    clear HS hy hz HC
    go_wp2
    go_roundw
    case rel => exact ⟨k + 1, by omega, by go_num, HR, trivial⟩
    case measure => simp [intOf]; omega
   ·
    by_cases e : y = n
    ·
     subst e
     have HE : Hid (insI L y = L) := insI_here HS.out hy
     clear HS hy hz HC
     go_wp2
     go_ret
     exact ⟨_, rfl, by rw [HE.out]; exact hown1, Below.refl _ _⟩
    ·
     have HE : Hid (insI L n = (L.take k ++ [n]) ++ L.drop k) := insI_mid HS.out hy (by omega)
     have ey : (y == n) = false := by simpa using e
     have lk : (L.take k).length = k := by rw [List.length_take, HQ.out]; omega
     have ld : (L.drop k).length = q + 1 - k := by rw [List.length_drop, HQ.out]
     have n1 : ∀ j u, ((L.take k).map (Value.int .i64))[j]? = some u → (w.alloc (.cells #[] 2)).cell? ((⟨g, 0, none⟩ : Addr).add j) = some u := fun j u hj => by
      rw [List.getElem?_map] at hj
      obtain ⟨x, hx, rfl⟩ := Option.map_eq_some_iff.mp hj
      have hjk : j < k := by have := (List.getElem?_eq_some_iff.mp hx).1; omega
      rw [List.getElem?_take_of_lt hjk] at hx
      rw [addP5, Nat.zero_add]
      exact keepC5 ((Below.refl _ w).alloc (Nat.le_refl _) _) (HC.out j x hx)
     have HD : Hid (∀ w2, Below w.heap.size w w2 → ∀ j u, ((L.drop k).map (Value.int .i64))[j]? = some u → w2.cell? ((⟨g, k, none⟩ : Addr).add j) = some u) := fun w2 hb j u hj => by
      rw [List.getElem?_map] at hj
      obtain ⟨x, hx, rfl⟩ := Option.map_eq_some_iff.mp hj
      rw [List.getElem?_drop] at hx
      rw [addP5]
      exact keepC5 hb (HC.out (k + j) x hx)
     have o1 : ∀ u ∈ (L.take k).map (Value.int .i64), u.oneCell' = true := fun u hu => by obtain ⟨x, _, rfl⟩ := List.mem_map.mp hu; rfl
     have o2 : ∀ u ∈ (L.drop k).map (Value.int .i64), u.oneCell' = true := fun u hu => by obtain ⟨x, _, rfl⟩ := List.mem_map.mp hu; rfl
     have hE := own_emptyI w 2
     have t1 : ((L.take k).map (Value.int .i64)).length = k * 1 := by rw [List.length_map, lk]; omega
     have t2 : ((L.drop k).map (Value.int .i64)).length = (q + 1 - k) * 1 := by rw [List.length_map, ld]; omega
     have hck : ¬ cap = k := by omega
     have bk : (0 : Int) ≤ (k : Int) := by omega
     have bk2 : (k : Int) ≤ (cap : Int) := by omega
     have bk3 : (k : Int) ≤ (q : Int) + 1 := by omega
     clear HS hy hz HC
     go_wp2_with (first
      | (at_builtin; refine wpList_append_own _ rfl _ _ 72 rfl w.heap.size 2 i0 (.int .i64 0) 1 8 Tryz.underlying72 hi hz0 hz1 hz2 rfl (by decide) _ _ _ rfl hE ⟨g, 0, none⟩ k cap ((L.take k).map (Value.int .i64)) rfl t1 n1 o1 ?d3 ?d4 ?d5 ?_)
      | fail)
     case d3 => unfold maxLen; omega
     case d4 => omega
     intro v1 w1 hown2 hgrow1 _
     have hB1 : Below w.heap.size w w1 := ((Below.refl w.heap.size w).alloc (Nat.le_refl _) _).grown hgrow1 (by simp) (fun j hj => (hE.lt j hj).1)
     obtain ⟨a1, m1, c1, rfl⟩ := row_shape35 hown2
     have hs1 := hB1.size
     clear hgrow1 hE n1 o1
     go_wp2_with (first
      | (at_builtin; refine wpList_append_own _ rfl _ _ 72 rfl w.heap.size 2 i0 (.int .i64 0) 1 8 Tryz.underlying72 hi hz0 hz1 hz2 rfl (by decide) _ _ _ rfl (World.ownsRow.alloc hown2 _) ⟨w1.heap.size, 0, none⟩ 1 1 [.int .i64 n] rfl rfl ?e1 ?e2 ?e3 ?e4 ?e5 ?_)
      | fail)
     case e1 => exact cell_one_new _ _ _
     case e2 => intro u hu; simp at hu; subst hu; rfl
     case e3 => unfold maxLen; omega
     case e4 => omega
     case e5 => simp; omega
     intro v2 w2 hown3 hgrow2 _
     have hB2 : Below w.heap.size w w2 := (hB1.alloc hB1.size _).grown hgrow2 (by simp; omega) (fun j hj => (hown2.lt j hj).1)
     obtain ⟨a2, m2, c2, rfl⟩ := row_shape35 hown3
     have hs2 := hB2.size
     have n2 := HD.out w2 hB2
     clear hgrow2 hown2
     go_wp2_with (first
      | (at_builtin; refine wpList_append_own _ rfl _ _ 72 rfl w.heap.size 2 i0 (.int .i64 0) 1 8 Tryz.underlying72 hi hz0 hz1 hz2 rfl (by decide) _ _ _ rfl hown3 ⟨g, k, none⟩ (q + 1 - k) (cap - k) ((L.drop k).map (Value.int .i64)) rfl t2 n2 o2 ?f3 ?f4 ?f5 ?_)
      | fail)
     case f3 => unfold maxLen; omega
     case f4 => omega
     case f5 => omega
     intro v3 w3 hown4 hgrow3 _
     have hB3 : Below w.heap.size w w3 := hB2.grown hgrow3 (by omega) (fun j hj => (hown3.lt j hj).1)
     have HO : Hid (OwnsI5 w3 base v3 (insI L n)) := by
      simp only [Hid]
      rw [HE.out]
      refine owns_monoS (OwnsI5.add (base := w.heap.size) ?_) hbw
      rw [List.length_append, lk, ld, List.map_append]
      simpa using hown4
     clear hgrow3 hown4 hown3
     go_wp2
     go_ret
     exact ⟨_, rfl, HO.out, hB3.mono hbw⟩
end Go.Proofs.YtcelbkmnbjcjhaaGreat
