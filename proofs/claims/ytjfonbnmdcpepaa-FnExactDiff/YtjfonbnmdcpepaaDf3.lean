/- The pieces of time in which neither of two tables turns: the program's. -/
import Derived.Test.YtjfonbnmdcpepaaDf2
namespace Go.Proofs.Ytjfonbnmdcpepaa
open Go.RowKit

set_option maxRecDepth 20000 in
theorem impl_turnInstants1 (l : List TurnD) (v : Value) (w : World) (hv : TabAt w v l) (hT : TabR l) :
    Calls Try.prog 85 #[v] w fun e W' => ∃ g cap, e = .returned (.slice (some ⟨g, 0, none⟩) l.length cap) ∧ g < W'.heap.size ∧ (∀ (i : Nat) x, (l.map TurnD.at_)[i]? = some x → W'.cell? ⟨g, i, none⟩ = some (.int .i64 x)) ∧ Below w.heap.size w W' := by
  have hl := hT.len
  refine (impl_turnInstants l v w hv (by omega)).mono ?_
  rintro e W' ⟨v', rfl, hown, hB⟩
  obtain ⟨n, hn⟩ : ∃ n, l.length = n + 1 := ⟨l.length - 1, by omega⟩
  obtain ⟨g, cap, rfl, hg, _, hc⟩ := row_open (L := l.map TurnD.at_) (n := n) (by simpa using hn) hown
  exact ⟨g, cap, by rw [hn], hg, hc, hB⟩
theorem infoPiece : (Try.prog.info? 123).map (fun i => (i.zero, i.size, i.bytes)) = some (some (.agg #[.int .i64 0, .int .i64 0, .bool false]), 3, 24) := by kernel_rfl
theorem piece_len {P : List PieceD} : ∀ r ∈ P.map PieceD.cs, r.length = 3 := fun r hr => by
  obtain ⟨x, _, rfl⟩ := List.mem_map.mp hr; rfl
def OwnsP (w : World) (base : Nat) (v : Value) (P : List PieceD) : Prop := w.ownsRow base 123 3 v P.length (P.map PieceD.cs).flatten
theorem OwnsP.add {w : World} {base : Nat} {v : Value} {P : List PieceD} {p : PieceD} (h : w.ownsRow base 123 3 v (P.length + 1) ((P.map PieceD.cs).flatten ++ p.cs)) : OwnsP w base v (P ++ [p]) := by
  unfold OwnsP
  rw [List.length_append, List.map_append, List.flatten_append]
  simpa using h
theorem OwnsM.seq {w : World} {base : Nat} {v : Value} {M : List MeetD} (h : OwnsM w base v M) : ∃ a cap, v = .slice a M.length cap ∧ SeqAt w a 3 (M.map MeetD.cs) := by
  obtain ⟨a, cap, h1, h2, _⟩ := seq_of_owns (rows := M.map MeetD.cs) (by rw [List.length_map]; exact h) meet_len
  exact ⟨a, cap, by rw [h1, List.length_map], h2⟩
set_option maxRecDepth 20000 in
set_option maxHeartbeats 8000000 in
theorem impl_piecesOf (la lb : List TurnD) (va vb : Value) (w : World) (hva : TabAt w va la) (hvb : TabAt w vb lb) (hTa : TabR la) (hTb : TabR lb) :
    Calls Try.prog 65 #[va, vb] w fun e W' => ∃ v', e = .returned v' ∧ OwnsP W' w.heap.size v' (piecesD la lb (uniT la lb)) ∧ Below w.heap.size w W' := by
  obtain ⟨i0, hi, hz0, hz1, hz2⟩ := info_parts infoPiece
  have lA := hTa.len
  have lB := hTb.len
  obtain ⟨fa, hfa⟩ : ∃ x, la[0]? = some x := ⟨_, List.getElem?_eq_getElem (by omega)⟩
  obtain ⟨fb, hfb⟩ : ∃ x, lb[0]? = some x := ⟨_, List.getElem?_eq_getElem (by omega)⟩
  obtain ⟨a, cap, rfl, hA⟩ := hva
  obtain ⟨b, capb, rfl, hAb⟩ := hvb
  obtain ⟨ba, oa, rfl, ca⟩ := hA.at (i := 0) (r := fa.cs) (by rw [List.getElem?_map, hfa]; rfl)
  obtain ⟨bb, ob, rfl, cb⟩ := hAb.at (i := 0) (r := fb.cs) (by rw [List.getElem?_map, hfb]; rfl)
  have hba : ba < w.heap.size := World.block_lt_of_cell? _ _ (ca 0 _ rfl)
  have hbb : bb < w.heap.size := World.block_lt_of_cell? _ _ (cb 0 _ rfl)
  have hva : TabAt w (.agg #[.slice (some ⟨ba, oa, none⟩) la.length cap]) la := ⟨_, cap, rfl, hA⟩
  have hvb : TabAt w (.agg #[.slice (some ⟨bb, ob, none⟩) lb.length capb]) lb := ⟨_, capb, rfl, hAb⟩
  have HCa : Hid (∀ (i : Nat) x, la[i]? = some x → w.cell? ⟨ba, oa + i * 4 + 1, none⟩ = some (.int .i64 x.offset)) := fun i x hx => by
    obtain ⟨b', o', e', h⟩ := hA.at (i := i) (r := x.cs) (by rw [List.getElem?_map, hx]; rfl)
    injection e' with e'
    injection e' with u1 u2
    subst u1 u2
    exact h 1 _ rfl
  have HCb : Hid (∀ (i : Nat) x, lb[i]? = some x → w.cell? ⟨bb, ob + i * 4 + 1, none⟩ = some (.int .i64 x.offset)) := fun i x hx => by
    obtain ⟨b', o', e', h⟩ := hAb.at (i := i) (r := x.cs) (by rw [List.getElem?_map, hx]; rfl)
    injection e' with e'
    injection e' with u1 u2
    subst u1 u2
    exact h 1 _ rfl
  have z0 : (la.map TurnD.at_)[0]? = some (-62135596800) := by rw [ats_at hfa, hTa.first fa hfa]
  have z1 : (lb.map TurnD.at_)[0]? = some (-62135596800) := by rw [ats_at hfb, hTb.first fb hfb]
  clear ca cb hfa hfb hA hAb
  have hIa := fun w (h : TabAt w (.agg #[.slice (some ⟨ba, oa, none⟩) la.length cap]) la) => impl_turnInstants1 la _ w h hTa
  have hIb := fun w (h : TabAt w (.agg #[.slice (some ⟨bb, ob, none⟩) lb.length capb]) lb) => impl_turnInstants1 lb _ w h hTb
  have hM := fun ga gb ca cb w h1 h2 h3 h4 => impl_meetings (la.map TurnD.at_) (lb.map TurnD.at_) ga gb ca cb w h1 h2 h3 h4 (ats_up hTa.up) (ats_up hTb.up) z0 z1 (by rw [List.length_map]; exact lA.2) (by rw [List.length_map]; exact lB.2)
  simp only [List.length_map] at hM
  clear z0 z1
  have hb0 := ((Below.refl w.heap.size w).alloc (Nat.le_refl _) (.cells #[.slice (some ⟨ba, oa, none⟩) la.length cap] 25)).alloc (by simp) (.cells #[.slice (some ⟨bb, ob, none⟩) lb.length capb] 25)
  have x0 : ((w.alloc (.cells #[.slice (some ⟨ba, oa, none⟩) la.length cap] 25)).alloc (.cells #[.slice (some ⟨bb, ob, none⟩) lb.length capb] 25)).cell? ⟨w.heap.size, 0, none⟩ = some (.slice (some ⟨ba, oa, none⟩) la.length cap) := by simp [go_sem]
  have y0 : ((w.alloc (.cells #[.slice (some ⟨ba, oa, none⟩) la.length cap] 25)).alloc (.cells #[.slice (some ⟨bb, ob, none⟩) lb.length capb] 25)).cell? ⟨w.heap.size + 1, 0, none⟩ = some (.slice (some ⟨bb, ob, none⟩) lb.length capb) := by simp [go_sem]
  go_enter Try.func65, Try.ntmps65
  go_wp2_with fail
  obtain ⟨wA, hwA⟩ : ∃ wA, ((w.alloc (.cells #[.slice (some ⟨ba, oa, none⟩) la.length cap] 25)).alloc (.cells #[.slice (some ⟨bb, ob, none⟩) lb.length capb] 25)) = wA := ⟨_, rfl⟩
  rw [hwA] at hb0 x0 y0 ⊢
  clear hwA
  have hBD : Below w.heap.size w wA.drew := hb0.trans ((below_drew wA).mono hb0.size)
  have xD : wA.drew.cell? ⟨w.heap.size, 0, none⟩ = some (.slice (some ⟨ba, oa, none⟩) la.length cap) := x0
  have yD : wA.drew.cell? ⟨w.heap.size + 1, 0, none⟩ = some (.slice (some ⟨bb, ob, none⟩) lb.length capb) := y0
  have vaD := hva.below hBD
  have vbD := hvb.below hBD
  clear x0 y0 hb0
  go_region_held3 (fun w' => w'.cell? ⟨w.heap.size, 0, none⟩ = some (.slice (some ⟨ba, oa, none⟩) la.length cap) ∧ w'.cell? ⟨w.heap.size + 1, 0, none⟩ = some (.slice (some ⟨bb, ob, none⟩) lb.length capb)) (go_keep) (first | (go_at_call 85; refine (hIb _ vb3).mono ?_; rintro e w4 ⟨g4, k4, rfl, l4, q4, hb4⟩; have x4 := keepC hb4 x3; have y4 := keepC hb4 y3; have q34 : ∀ (i : Nat) x, (la.map TurnD.at_)[i]? = some x → w4.cell? ⟨g3, i, none⟩ = some (.int .i64 x) := fun i x hx => keepC hb4 (q3 i x hx); have l34 := Nat.lt_of_lt_of_le l3 hb4.size) | (go_at_call 85; refine (hIa _ vaD).mono ?_; rintro e w3 ⟨g3, k3, rfl, l3, q3, hb3⟩; have x3 := keepC hb3 xD; have y3 := keepC hb3 yD; have vb3 := vbD.below hb3) | (go_at_call 84; refine (hM _ _ _ _ _ q34 q4 l34 l4).mono ?_; rintro e w5 ⟨v5, M, im, jm, rfl, hM5, hMet, eA, eB, hb5⟩; have x5 := keepC hb5 x4; have y5 := keepC hb5 y4; obtain ⟨a5, c5, rfl, hS5⟩ := hM5.seq; have HE : Hid (la.length = im + 1 ∧ lb.length = jm + 1) := ⟨eA, eB⟩; clear eA eB))
  have hB5 := hBD.trans ((hb3.trans ((hb4.trans (hb5.mono hb4.size)).mono hb3.size)).mono hBD.size)
  clear hb3 hb4 hb5 x3 y3 x4 y4 q3 q4 q34 l3 l4 l34 vb3 xD yD vaD vbD hBD hM hIa hIb hva hvb hM5
  have HU : Hid (M.map MeetD.at_ = uniT la lb) := hMet.done (by rw [List.length_map]; exact HE.out.1) (by rw [List.length_map]; exact HE.out.2)
  have HH : Hid (∀ m ∈ M, Here (la.map TurnD.at_) m.at_ m.i ∧ Here (lb.map TurnD.at_) m.at_ m.j) := hMet.here
  have hUl := uniT_len hTa hTb
  have hMl : M.length = (uniT la lb).length := by rw [← HU.out, List.length_map]
  rw [← hMl] at hUl
  have HM5 : Hid (M.length = (uniT la lb).length) := hMl
  have HLow : Hid (∀ (k : Nat) m, M[k]? = some m → -62135596800 ≤ m.at_ ∧ m.at_ ≤ 253402300799) := fun k m hm => uni_low hTa hTb (k := k) (by rw [← HU.out, List.getElem?_map, hm]; rfl)
  have HPt : Hid (∀ (k : Nat) m, M[k]? = some m → (piecesD la lb (uniT la lb)).take (k + 1) = (piecesD la lb (uniT la lb)).take k ++ [⟨m.at_, endOf (uniT la lb) k, offAt la m.at_ != offAt lb m.at_⟩]) := fun k m hm => pieces_take (by rw [← HU.out, List.getElem?_map, hm]; rfl)
  have HPe : Hid (∀ (k : Nat), (∀ m, M[k + 1]? = some m → endOf (uniT la lb) k = m.at_ - 1) ∧ (M[k + 1]? = none → endOf (uniT la lb) k = 253402300799)) := fun k => by
    unfold endOf
    rw [← HU.out, List.getElem?_map]
    exact ⟨fun m hm => by rw [hm]; rfl, fun hm => by rw [hm]; rfl⟩
  have HPl : Hid ((piecesD la lb (uniT la lb)).length = M.length) := by simp only [Hid]; rw [pieces_len]; exact hMl.symm
  have HOa : Hid (∀ n i x, Here (la.map TurnD.at_) n i → la[i]? = some x → offAt la n = x.offset) := fun n i x h hx => off_here hTa h hx
  have HOb : Hid (∀ n i x, Here (lb.map TurnD.at_) n i → lb[i]? = some x → offAt lb n = x.offset) := fun n i x h hx => off_here hTb h hx
  clear hMl HE hMet hTa hTb HU HM5
  obtain ⟨P, hP⟩ : ∃ P, piecesD la lb (uniT la lb) = P := ⟨_, rfl⟩
  have HPP : Hid (piecesD la lb (uniT la lb) = P) := hP
  rw [hP] at HPt HPl
  clear hP
  generalize hE : endOf (uniT la lb) = E at *
  clear hE
  have hsw : w.heap.size + 1 < w5.heap.size := World.block_lt_of_cell? _ _ y5
  go_wp2
  go_loopw [5, 18] (fun s5 s18 wr => ∃ k : Nat, k ≤ M.length ∧ s18 = .int .i64 k ∧ OwnsP wr w5.heap.size s5 (P.take k) ∧ Below w5.heap.size w5 wr) (fun _ s18 _ => M.length - (intOf s18).toNat)
  case atStart => exact ⟨0, by omega, rfl, World.ownsRow_nil _ _ _ _, Below.refl _ _⟩
  case round =>
    obtain ⟨k, hk, rfl, hown, hBr⟩ := hrel
    have hsW := hBr.size
    have hBw := hB5.trans (hBr.mono hB5.size)
    have xr := keepC hBr x5
    have yr := keepC hBr y5
    obtain ⟨ap, np, cp, rfl⟩ := row_shape3 hown
    have hPl : (P.take k).length ≤ 1200 := by have := HPl.out; rw [List.length_take]; omega
    by_cases hlt : k < M.length
    · obtain ⟨m, hm⟩ : ∃ m, M[k]? = some m := ⟨_, List.getElem?_eq_getElem hlt⟩
      obtain ⟨bm, om, rfl, hc⟩ := (hS5.below hBr).at (i := k) (r := m.cs) (by rw [List.getElem?_map, hm]; rfl)
      have c0 : wr.cell? ⟨bm, om + k * 3, none⟩ = some (.int .i64 m.at_) := hc 0 _ rfl
      have c1 : wr.cell? ⟨bm, om + k * 3 + 1, none⟩ = some (.int .i64 m.i) := hc 1 _ rfl
      have c2 : wr.cell? ⟨bm, om + k * 3 + 2, none⟩ = some (.int .i64 m.j) := hc 2 _ rfl
      clear hc
      obtain ⟨hHa, hHb⟩ := HH.out m (List.mem_of_getElem? hm)
      obtain ⟨na, hna, _, _⟩ := id hHa
      obtain ⟨nb, hnb, _, _⟩ := id hHb
      obtain ⟨xa, hxa, _⟩ := ats_of hna
      obtain ⟨xb, hxb, _⟩ := ats_of hnb
      have ea := HOa.out _ _ _ hHa hxa
      have eb := HOb.out _ _ _ hHb hxb
      have ka := (hBw.cell (p := ⟨ba, oa + m.i * 4 + 1, none⟩) hba).trans (HCa.out _ _ hxa)
      have kb := (hBw.cell (p := ⟨bb, ob + m.j * 4 + 1, none⟩) hbb).trans (HCb.out _ _ hxb)
      have la1 : (m.i : Int) < (la.length : Int) := by have := (List.getElem?_eq_some_iff.mp hxa).1; omega
      have lb1 : (m.j : Int) < (lb.length : Int) := by have := (List.getElem?_eq_some_iff.mp hxb).1; omega
      have la0 : (0 : Int) ≤ (m.i : Int) := by omega
      have lb0 : (0 : Int) ≤ (m.j : Int) := by omega
      have hPT := HPt.out k m hm
      rw [ea, eb] at hPT
      have q0 : ∀ t, (wr.alloc (.cells #[.int .i64 m.at_, .int .i64 m.i, .int .i64 m.j] t)).cell? ⟨w.heap.size, 0, none⟩ = some (.slice (some ⟨ba, oa, none⟩) la.length cap) := fun t => keepC ((Below.refl _ wr).alloc (Nat.le_refl _) _) xr
      have q1 : ∀ t, (wr.alloc (.cells #[.int .i64 m.at_, .int .i64 m.i, .int .i64 m.j] t)).cell? ⟨w.heap.size + 1, 0, none⟩ = some (.slice (some ⟨bb, ob, none⟩) lb.length capb) := fun t => keepC ((Below.refl _ wr).alloc (Nat.le_refl _) _) yr
      have q2 : ∀ t, (wr.alloc (.cells #[.int .i64 m.at_, .int .i64 m.i, .int .i64 m.j] t)).cell? ⟨ba, oa + m.i * 4 + 1, none⟩ = some (.int .i64 xa.offset) := fun t => keepC ((Below.refl _ wr).alloc (Nat.le_refl _) _) ka
      have q3 : ∀ t, (wr.alloc (.cells #[.int .i64 m.at_, .int .i64 m.i, .int .i64 m.j] t)).cell? ⟨bb, ob + m.j * 4 + 1, none⟩ = some (.int .i64 xb.offset) := fun t => keepC ((Below.refl _ wr).alloc (Nat.le_refl _) _) kb
      obtain ⟨u, hu⟩ : ∃ u, (xa.offset != xb.offset) = u := ⟨_, rfl⟩
      rw [hu] at hPT
      obtain ⟨L, hL⟩ : ∃ L, P.take k = L := ⟨_, rfl⟩
      rw [hL] at hown hPl hPT
      by_cases hl2 : k + 1 < M.length
      · obtain ⟨m2, hm2⟩ : ∃ m, M[k + 1]? = some m := ⟨_, List.getElem?_eq_getElem hl2⟩
        obtain ⟨b', o', he, hc⟩ := (hS5.below hBr).at (i := k + 1) (r := m2.cs) (by rw [List.getElem?_map, hm2]; rfl)
        injection he with he
        injection he with u1 u2
        subst u1 u2
        have c4 : wr.cell? ⟨bm, om + (k + 1) * 3, none⟩ = some (.int .i64 m2.at_) := hc 0 _ rfl
        have q4 : ∀ t, (wr.alloc (.cells #[.int .i64 m.at_, .int .i64 m.i, .int .i64 m.j] t)).cell? ⟨bm, om + (k + 1) * 3, none⟩ = some (.int .i64 m2.at_) := fun t => keepC ((Below.refl _ wr).alloc (Nat.le_refl _) _) c4
        obtain ⟨y1, y2⟩ := HLow.out (k + 1) m2 hm2
        rw [(HPe.out k).1 m2 hm2] at hPT
        have HT : Hid (P.take (k + 1) = L ++ [⟨m.at_, m2.at_ - 1, u⟩]) := hPT
        clear hPT hL hm HH HOa HOb HCa HCb hHa hHb hna hnb hxa hxb ea eb HPt HPe HLow hm2 hc
        go_wp2_with fail
        go_quiet (fail)
        go_wp2_with (first
          | (at_builtin; refine wpList_append_own _ rfl _ _ 82 rfl w5.heap.size 123 i0 (.agg #[.int .i64 0, .int .i64 0, .bool false]) 3 24 Try.underlying82 hi hz0 hz1 hz2 rfl (by decide) _ _ _ rfl (World.ownsRow.alloc (World.ownsRow.alloc hown _) _) ⟨wr.heap.size + 1, 0, none⟩ 1 1 [.int .i64 m.at_, .int .i64 (m2.at_ - 1), .bool u] rfl rfl ?c1a ?c2a ?c3a ?c4a ?c5a ?_)
          | fail)
        case c1a => simpa using cells_new ((wr.alloc (.cells #[.int .i64 m.at_, .int .i64 m.i, .int .i64 m.j] 128)).drewN nq) [.int .i64 m.at_, .int .i64 (m2.at_ - 1), .bool u] 123
        case c2a => intro u hu; simp at hu; rcases hu with rfl | rfl | rfl <;> rfl
        case c3a => unfold maxLen; omega
        case c4a => omega
        case c5a => simp; omega
        intro v' w1 hown' hgrow _
        have hB1 : Below w5.heap.size w5 w1 := Below.grown (Below.alloc (below_drewN (hBr.alloc hsW _) _) (by simp; omega) _) hgrow (by simp; omega) (fun j hj => (hown.lt j hj).1)
        have HO : Hid (OwnsP w1 w5.heap.size v' (P.take (k + 1))) := by simp only [Hid]; rw [HT.out]; exact OwnsP.add (p := ⟨m.at_, m2.at_ - 1, u⟩) hown'
        clear hgrow hown' hown q0 q1 q2 q3 ka kb c0 c1 c2 xr yr hu q4 c4
        go_wp2
        go_roundw
        case rel => exact ⟨k + 1, by omega, by go_num, HO.out, hB1⟩
        case measure => simp [intOf]; omega
      · rw [(HPe.out k).2 (List.getElem?_eq_none (by omega))] at hPT
        have HT : Hid (P.take (k + 1) = L ++ [⟨m.at_, 253402300799, u⟩]) := hPT
        clear hPT hL hm HH HOa HOb HCa HCb hHa hHb hna hnb hxa hxb ea eb HPt HPe HLow
        go_wp2_with fail
        go_quiet (fail)
        go_wp2_with (first
          | (at_builtin; refine wpList_append_own _ rfl _ _ 82 rfl w5.heap.size 123 i0 (.agg #[.int .i64 0, .int .i64 0, .bool false]) 3 24 Try.underlying82 hi hz0 hz1 hz2 rfl (by decide) _ _ _ rfl (World.ownsRow.alloc (World.ownsRow.alloc hown _) _) ⟨wr.heap.size + 1, 0, none⟩ 1 1 [.int .i64 m.at_, .int .i64 (253402300799), .bool u] rfl rfl ?c1b ?c2b ?c3b ?c4b ?c5b ?_)
          | fail)
        case c1b => simpa using cells_new ((wr.alloc (.cells #[.int .i64 m.at_, .int .i64 m.i, .int .i64 m.j] 128)).drewN nq) [.int .i64 m.at_, .int .i64 (253402300799), .bool u] 123
        case c2b => intro u hu; simp at hu; rcases hu with rfl | rfl | rfl <;> rfl
        case c3b => unfold maxLen; omega
        case c4b => omega
        case c5b => simp; omega
        intro v' w1 hown' hgrow _
        have hB1 : Below w5.heap.size w5 w1 := Below.grown (Below.alloc (below_drewN (hBr.alloc hsW _) _) (by simp; omega) _) hgrow (by simp; omega) (fun j hj => (hown.lt j hj).1)
        have HO : Hid (OwnsP w1 w5.heap.size v' (P.take (k + 1))) := by simp only [Hid]; rw [HT.out]; exact OwnsP.add (p := ⟨m.at_, 253402300799, u⟩) hown'
        clear hgrow hown' hown q0 q1 q2 q3 ka kb c0 c1 c2 xr yr hu
        go_wp2
        go_roundw
        case rel => exact ⟨k + 1, by omega, by go_num, HO.out, hB1⟩
        case measure => simp [intOf]; omega
    · obtain rfl : k = M.length := by omega
      have HR : Hid (P.take M.length = P) := by simp only [Hid]; rw [← HPl.out, List.take_length]
      rw [HR.out] at hown
      go_wp2
      go_ret
      exact ⟨_, rfl, by rw [HPP.out]; exact owns_mono hown hB5.size, hBw⟩
end Go.Proofs.Ytjfonbnmdcpepaa
