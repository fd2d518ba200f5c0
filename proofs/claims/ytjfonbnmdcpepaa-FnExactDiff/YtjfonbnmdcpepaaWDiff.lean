/- The walk of the law FnExactDiff. -/
import Derived.Test.YtjfonbnmdcpepaaDf8
import Derived.Deep.RegionHeld3
namespace Go.Proofs.Ytjfonbnmdcpepaa.diff
open Go.RowKit

set_option maxRecDepth 20000 in
set_option maxHeartbeats 8000000 in
theorem walk (la : List TurnD) (va : Value) (lb : List TurnD) (vb : Value) (w : World) (hva : TabAt w va la) (hla : la.length ≤ maxLen) (oka : ∀ r ∈ la, r.ok) (hvb : TabAt w vb lb) (hlb : lb.length ≤ maxLen) (okb : ∀ r ∈ lb, r.ok) :
    Calls Try.prog 5 #[va, vb] w fun e w' => e = .returned (.bool true) ∧ Below w.heap.size w w' := by
  obtain ⟨a, cap, rfl, hA⟩ := hva
  obtain ⟨b, capb, rfl, hAb⟩ := hvb
  have hva : TabAt w (.agg #[.slice a la.length cap]) la := ⟨a, cap, rfl, hA⟩
  have hvb : TabAt w (.agg #[.slice b lb.length capb]) lb := ⟨b, capb, rfl, hAb⟩
  clear hA hAb
  have hB0 := ((Below.refl w.heap.size w).alloc (Nat.le_refl _) (.cells #[.slice a la.length cap] 45)).alloc (by simp) (.cells #[.slice b lb.length capb] 45)
  have x0 : ((w.alloc (.cells #[.slice a la.length cap] 45)).alloc (.cells #[.slice b lb.length capb] 45)).cell? ⟨w.heap.size, 0, none⟩ = some (.slice a la.length cap) := by simp [go_sem]
  have y0 : ((w.alloc (.cells #[.slice a la.length cap] 45)).alloc (.cells #[.slice b lb.length capb] 45)).cell? ⟨w.heap.size + 1, 0, none⟩ = some (.slice b lb.length capb) := by simp [go_sem]
  have hZ := fun w (h : TabAt w (.agg #[.slice a la.length cap]) la) => laws_szTable la _ 1048576 w h hla oka (by omega) (by omega)
  by_cases gz : 1048576 - ((la.length : Int) + tsz la) < 0
  · rw [clip_n gz] at hZ
    go_enter Try.func5, Try.ntmps5
    go_wp2_with fail
    refine (hZ _ (hva.below hB0)).mono ?_
    rintro e w1 ⟨rfl, hb1⟩
    go_wp2
    go_ret
    exact ⟨rfl, hB0.trans (hb1.mono (by simp; omega))⟩
  rw [clip_p (by omega)] at hZ
  have hl1 : la.length ≤ 1048576 := by omega
  have hZ2 := fun w (h : TabAt w (.agg #[.slice b lb.length capb]) lb) => laws_szTable lb _ (1048576 - ((la.length : Int) + tsz la)) w h hlb okb (by omega) (by omega)
  have g' : ¬ (1048576 - ((la.length : Int) + tsz la) < 0) := gz
  by_cases gz2 : 1048576 - ((la.length : Int) + tsz la) - ((lb.length : Int) + tsz lb) < 0
  · rw [clip_n gz2] at hZ2
    clear gz2 gz
    generalize 1048576 - ((la.length : Int) + tsz la) = sz at *
    go_enter Try.func5, Try.ntmps5
    go_wp2_with fail
    refine (hZ _ (hva.below hB0)).mono ?_
    rintro e w1 ⟨rfl, hb1⟩
    have hB1 := hB0.trans (hb1.mono (by simp; omega))
    have y1 := keepC hb1 y0
    go_wp2_with fail
    refine (hZ2 _ (hvb.below hB1)).mono ?_
    rintro e w2 ⟨rfl, hb2⟩
    go_wp2
    go_ret
    exact ⟨rfl, hB1.trans (hb2.mono hB1.size)⟩
  rw [clip_p (by omega)] at hZ2
  have hl2 : lb.length ≤ 1048576 := by omega
  have g2' : ¬ (1048576 - ((la.length : Int) + tsz la) - ((lb.length : Int) + tsz lb) < 0) := gz2
  have hTa := fun w (h : TabAt w (.agg #[.slice a la.length cap]) la) => laws_toTable la _ w h hl1
  have hTb := fun w (h : TabAt w (.agg #[.slice b lb.length capb]) lb) => laws_toTable lb _ w h hl2
  have hEa := fun v v2 w (h : TabAt w v la) (h2 : TabAt w v2 la) => laws_eqTable la v v2 w h h2 hl1
  have hEb := fun v v2 w (h : TabAt w v lb) (h2 : TabAt w v2 lb) => laws_eqTable lb v v2 w h h2 hl2
  have hI := fun va vb w (h : TabAt w va la) (h2 : TabAt w vb lb) => impl_Diff la lb va vb w h h2 oka okb hl1 hl2
  have hS := fun va vb w (h : TabAt w va la) (h2 : TabAt w vb lb) => spec_Diff la lb va vb w h h2 oka okb
  have hDl := diff_len la lb
  generalize diffD la lb = D at *
  have hEq := fun a a2 c c2 w (h : SeqAt w a 2 (D.map SpanD.cs)) (h2 : SeqAt w a2 2 (D.map SpanD.cs)) => laws_eqSpanS D a a2 c c2 w h h2 (by omega)
  clear gz gz2
  generalize 1048576 - ((la.length : Int) + tsz la) = sz at *
  generalize sz - ((lb.length : Int) + tsz lb) = sz2 at *
  go_enter Try.func5, Try.ntmps5
  go_wp2_with fail
  refine (hZ _ (hva.below hB0)).mono ?_
  rintro e w1 ⟨rfl, hb1⟩
  have hB1 := hB0.trans (hb1.mono (by simp; omega))
  have x1 := keepC hb1 x0
  have y1 := keepC hb1 y0
  clear hb1 hB0 x0 y0
  go_wp2_with fail
  refine (hZ2 _ (hvb.below hB1)).mono ?_
  rintro e w2 ⟨rfl, hb2⟩
  have hB2 := hB1.trans (hb2.mono hB1.size)
  have x2 := keepC hb2 x1
  have y2 := keepC hb2 y1
  clear hb2 hB1 x1 y1 hZ hZ2
  have hBD : Below w.heap.size w w2.drew := hB2.trans ((below_drew w2).mono hB2.size)
  have xD : w2.drew.cell? ⟨w.heap.size, 0, none⟩ = some (.slice a la.length cap) := x2
  have yD : w2.drew.cell? ⟨w.heap.size + 1, 0, none⟩ = some (.slice b lb.length capb) := y2
  have vaD := hva.below hBD
  have vbD := hvb.below hBD
  clear hB2 x2 y2
  go_wp2_with fail
  go_region_held3 (fun w' => w'.cell? ⟨w.heap.size, 0, none⟩ = some (.slice a la.length cap) ∧ w'.cell? ⟨w.heap.size + 1, 0, none⟩ = some (.slice b lb.length capb)) (go_keep) (first | (go_at_call 24; refine (hTb _ vb3).mono ?_; rintro e w4 ⟨v4, rfl, hO4, hb4⟩; have x4 := keepC hb4 x3; have y4 := keepC hb4 y3; have ta4 := ta3.below hb4; have tb4 := hO4.tab; obtain ⟨g4, rfl, _, _, _⟩ := hO4) | (go_at_call 24; refine (hTa _ vaD).mono ?_; rintro e w3 ⟨v3, rfl, hO3, hb3⟩; have x3 := keepC hb3 xD; have y3 := keepC hb3 yD; have ta3 := hO3.tab; have vb3 := vbD.below hb3; obtain ⟨g3, rfl, _, _, _⟩ := hO3) | (go_at_call 23; refine (hS _ _ _ ta4 tb4).mono ?_; rintro e w5 ⟨v5, rfl, hW5, hb5⟩; have x5 := keepC hb5 x4; have y5 := keepC hb5 y4; obtain ⟨aw, cw, rfl, sw5⟩ := hW5.seq))
  have hB5 := hBD.trans ((hb3.trans ((hb4.trans (hb5.mono hb4.size)).mono hb3.size)).mono hBD.size)
  have lw : ∀ g, (Value.slice aw D.length cw).ownBlock = some g → g < w5.heap.size := fun g hg => (hW5.lt g hg).2
  have hs5 : w.heap.size + 1 < w5.heap.size := World.block_lt_of_cell? _ _ y5
  clear hb3 hb4 hb5 x3 y3 x4 y4 ta3 ta4 tb4 vb3 xD yD vaD vbD hBD hW5 hS
  go_wp2_with fail
  refine (hTa _ (hva.below hB5)).mono ?_
  rintro e w6 ⟨v6, rfl, hO6, hb6⟩
  have hB6 := hB5.trans (hb6.mono hB5.size)
  have x6 := keepC hb6 x5
  have y6 := keepC hb6 y5
  have sw6 := sw5.below hb6
  have ta6 := hO6.tab
  have hs6 := hb6.size
  obtain ⟨g6, rfl, hg6, hSq6, hRm6⟩ := hO6
  have hg6' : 0 < la.length → g6 < w6.heap.size := fun h => by
    obtain ⟨z, hz⟩ : ∃ z, la[0]? = some z := ⟨_, List.getElem?_eq_getElem h⟩
    obtain ⟨b', o', e', hc'⟩ := hSq6.at (i := 0) (r := z.cs) (by rw [List.getElem?_map, hz]; rfl)
    injection e' with e'
    injection e' with u1 u2
    subst u1 u2
    exact World.block_lt_of_cell? _ _ (hc' 0 _ rfl)
  clear hb6 x5 y5 sw5 hB5 hSq6
  have hb7 : Below w6.heap.size w6 (w6.alloc (.cells #[.slice (some ⟨g6, 0, none⟩) la.length la.length] 25)) := (Below.refl w6.heap.size w6).alloc (Nat.le_refl _) _
  have hB7 := hB6.trans (hb7.mono hB6.size)
  have x7 := keepC hb7 x6
  have y7 := keepC hb7 y6
  have ta7 := ta6.below hb7
  have sw7 := sw6.below hb7
  have hRm7 := hRm6.below hb7
  have p7 : (w6.alloc (.cells #[.slice (some ⟨g6, 0, none⟩) la.length la.length] 25)).cell? ⟨w6.heap.size, 0, none⟩ = some (.slice (some ⟨g6, 0, none⟩) la.length la.length) := by simp [go_sem]
  have hs7 : (w6.alloc (.cells #[.slice (some ⟨g6, 0, none⟩) la.length la.length] 25)).heap.size = w6.heap.size + 1 := by simp
  clear hb7 x6 y6 ta6 sw6 hRm6
  go_wp2_with fail
  refine (hTb _ (hvb.below hB7)).mono ?_
  rintro e w8 ⟨v8, rfl, hO8, hb8⟩
  have hB8 := hB7.trans (hb8.mono hB7.size)
  have x8 := keepC hb8 x7
  have y8 := keepC hb8 y7
  have p8 := keepC hb8 p7
  have ta8 := ta7.below hb8
  have sw8 := sw7.below hb8
  have hRa8 := hRm7.below hb8
  have tb8 := hO8.tab
  have hs8 := hb8.size
  rw [hs7] at hs8 hO8
  obtain ⟨g8, rfl, hg8, hSq8, hRb8⟩ := hO8
  have hg8' : 0 < lb.length → g8 < w8.heap.size := fun h => by
    obtain ⟨z, hz⟩ : ∃ z, lb[0]? = some z := ⟨_, List.getElem?_eq_getElem h⟩
    obtain ⟨b', o', e', hc'⟩ := hSq8.at (i := 0) (r := z.cs) (by rw [List.getElem?_map, hz]; rfl)
    injection e' with e'
    injection e' with u1 u2
    subst u1 u2
    exact World.block_lt_of_cell? _ _ (hc' 0 _ rfl)
  clear hb8 x7 y7 p7 ta7 sw7 hRm7 hB6 hB7 hSq8 hs7
  generalize hb6e : w6.heap.size = b6 at *
  clear hb6e
  have hb9 : Below w8.heap.size w8 (w8.alloc (.cells #[.slice (some ⟨g8, 0, none⟩) lb.length lb.length] 25)) := (Below.refl w8.heap.size w8).alloc (Nat.le_refl _) _
  have hB9 := hB8.trans (hb9.mono hB8.size)
  have x9 := keepC hb9 x8
  have y9 := keepC hb9 y8
  have p9 := keepC hb9 p8
  have q9 : (w8.alloc (.cells #[.slice (some ⟨g8, 0, none⟩) lb.length lb.length] 25)).cell? ⟨w8.heap.size, 0, none⟩ = some (.slice (some ⟨g8, 0, none⟩) lb.length lb.length) := by simp [go_sem]
  have ta9 := ta8.below hb9
  have tb9 := tb8.below hb9
  have sw9 := sw8.below hb9
  have hRa9 := hRa8.below hb9
  have hRb9 := hRb8.below hb9
  have hs9 : (w8.alloc (.cells #[.slice (some ⟨g8, 0, none⟩) lb.length lb.length] 25)).heap.size = w8.heap.size + 1 := by simp
  clear hb9 x8 y8 p8 ta8 tb8 sw8 hRa8 hRb8 hB8
  go_wp2_with fail
  refine (hI _ _ _ ta9 tb9).mono ?_
  rintro e w10 ⟨v10, rfl, hG10, hb10⟩
  have hB10 := hB9.trans (hb10.mono hB9.size)
  have x10 := keepC hb10 x9
  have y10 := keepC hb10 y9
  have p10 := keepC hb10 p9
  have q10 := keepC hb10 q9
  have ta10 := ta9.below hb10
  have tb10 := tb9.below hb10
  have sw10 := sw9.below hb10
  have hRa10 := hRa9.below hb10
  have hRb10 := hRb9.below hb10
  rw [hs9] at hG10
  obtain ⟨ag, cg, rfl, sg10⟩ := hG10.seq
  have lg : ∀ g, (Value.slice ag D.length cg).ownBlock = some g → w8.heap.size + 1 ≤ g := fun g hg => (hG10.lt g hg).1
  clear hb10 x9 y9 p9 q9 ta9 tb9 sw9 hRa9 hRb9 hB9 hs9
  generalize hb8e : w8.heap.size = b8 at *
  clear hb8e
  go_wp2_with fail
  refine (hEq _ _ _ _ _ sg10 sw10).mono ?_
  rintro e w11 ⟨rfl, hb11⟩
  have hB11 := hB10.trans (hb11.mono hB10.size)
  have hGE := owns_below (owns_below hG10 hb11) (below_drew w11)
  have hBE : Below w.heap.size w w11.drew := hB11.trans ((below_drew w11).mono hB11.size)
  have xE : w11.drew.cell? ⟨w.heap.size, 0, none⟩ = some (.slice a la.length cap) := keepC hb11 x10
  have yE : w11.drew.cell? ⟨w.heap.size + 1, 0, none⟩ = some (.slice b lb.length capb) := keepC hb11 y10
  have pE : w11.drew.cell? ⟨b6, 0, none⟩ = some (.slice (some ⟨g6, 0, none⟩) la.length la.length) := keepC hb11 p10
  have qE : w11.drew.cell? ⟨b8, 0, none⟩ = some (.slice (some ⟨g8, 0, none⟩) lb.length lb.length) := keepC hb11 q10
  have taE := (ta10.below hb11).below (below_drew w11)
  have tbE := (tb10.below hb11).below (below_drew w11)
  have swE := (sw10.below hb11).below (below_drew w11)
  have hRaE := (hRa10.below hb11).below (below_drew w11)
  have hRbE := (hRb10.below hb11).below (below_drew w11)
  have vaE := hva.below hBE
  clear hb11 x10 y10 p10 q10 ta10 tb10 sw10 sg10 hRa10 hRb10 hG10 hB10 hB11
  go_wp2_with fail
  go_region_held3 (fun w' => w'.cell? ⟨b6, 0, none⟩ = some (.slice (some ⟨g6, 0, none⟩) la.length la.length) ∧ w'.cell? ⟨w.heap.size, 0, none⟩ = some (.slice a la.length cap)) (go_keep) (first | (go_at_call 24; refine (hTa _ vaE).mono ?_; rintro e w12 ⟨v12, rfl, hO12, hb12⟩; have p12 := keepC hb12 pE; have x12 := keepC hb12 xE; have ta12 := taE.below hb12; have tc12 := hO12.tab; obtain ⟨g12, rfl, _, _, _⟩ := hO12) | (go_at_call 27; refine (hEa _ _ _ ta12 tc12).mono ?_; rintro e w13 ⟨rfl, hb13⟩; have p13 := keepC hb13 p12; have x13 := keepC hb13 x12))
  have hb14 := hb12.trans (hb13.mono hb12.size)
  have hB13 := hBE.trans (hb14.mono hBE.size)
  have hb15 := hb14.trans ((below_drew w13).mono hb14.size)
  have hBF : Below w.heap.size w w13.drew := hBE.trans (hb15.mono hBE.size)
  have yF : w13.drew.cell? ⟨w.heap.size + 1, 0, none⟩ = some (.slice b lb.length capb) := keepC hb14 yE
  have qF : w13.drew.cell? ⟨b8, 0, none⟩ = some (.slice (some ⟨g8, 0, none⟩) lb.length lb.length) := keepC hb14 qE
  have xF : w13.drew.cell? ⟨w.heap.size, 0, none⟩ = some (.slice a la.length cap) := x13
  have pF : w13.drew.cell? ⟨b6, 0, none⟩ = some (.slice (some ⟨g6, 0, none⟩) la.length la.length) := p13
  have tbF := tbE.below hb15
  have swF := swE.below hb15
  have hGF := owns_below hGE hb15
  have hRaF := hRaE.below hb15
  have hRbF := hRbE.below hb15
  have vbF := hvb.below hBF
  clear hb12 hb13 hb14 hb15 p12 x12 ta12 tc12 xE yE pE qE taE tbE swE hGE hRaE hRbE vaE hBE p13 x13 hB13
  go_wp2_with fail
  go_region_held3 (fun w' => w'.cell? ⟨b8, 0, none⟩ = some (.slice (some ⟨g8, 0, none⟩) lb.length lb.length) ∧ w'.cell? ⟨w.heap.size + 1, 0, none⟩ = some (.slice b lb.length capb)) (go_keep) (first | (go_at_call 24; refine (hTb _ vbF).mono ?_; rintro e w14 ⟨v14, rfl, hO14, hb14⟩; have q14 := keepC hb14 qF; have y14 := keepC hb14 yF; have tb14 := tbF.below hb14; have tc14 := hO14.tab; obtain ⟨g14, rfl, _, _, _⟩ := hO14) | (go_at_call 27; refine (hEb _ _ _ tb14 tc14).mono ?_; rintro e w15 ⟨rfl, hb15⟩; have q15 := keepC hb15 q14; have y15 := keepC hb15 y14))
  have hb16 := hb14.trans (hb15.mono hb14.size)
  have hB15 := hBF.trans (hb16.mono hBF.size)
  have x15 := keepC hb16 xF
  have p15 := keepC hb16 pF
  have sw15 := swF.below hb16
  have hG15 := owns_below hGF hb16
  have hRa15 := hRaF.below hb16
  have hRb15 := hRbF.below hb16
  clear hb14 hb15 hb16 q14 y14 tb14 tc14 xF yF pF qF tbF swF hGF hRaF hRbF vbF hBF hEa hEb
  have hK := laws_markTable la.length g6 la.length 1 w15 hRa15 (by omega) (by omega)
  have hd1 : 0 < 1 + 4 * la.length := by omega
  have hd1' : (1 + 4 * la.length) + 4 * lb.length < 1000000000 := by omega
  generalize 1 + 4 * la.length = d1 at *
  have hsw := hB15.size
  have hq8 : b8 < w15.heap.size := World.block_lt_of_cell? _ _ q15
  go_wp2_with fail
  refine hK.mono ?_
  rintro e w16 ⟨rfl, ht16⟩
  have hB16 : Below w.heap.size w w16 := ht16.below (fun b hb => by have := hb.1; omega) hB15.size hB15
  have sw16 := sw15.touchA (n := D.length) (cap := cw) ht16 (fun b hb hs => by have := lw b hb; have := hs.1; omega)
  have hG16 := owns_touch hG15 ht16 (fun b hb hs => by have := lg b hb; have := hs.1; have := hg6' hs.2; omega)
  have hRb16 := ht16.room _ _ hRb15
  have x16 : w16.cell? ⟨w.heap.size, 0, none⟩ = some (.slice a la.length cap) := ht16.cell (fun hs => by have := hs.1; omega) x15
  have y16 : w16.cell? ⟨w.heap.size + 1, 0, none⟩ = some (.slice b lb.length capb) := ht16.cell (fun hs => by have := hs.1; omega) y15
  have q16 : w16.cell? ⟨b8, 0, none⟩ = some (.slice (some ⟨g8, 0, none⟩) lb.length lb.length) := ht16.cell (fun hs => by have := hs.1; have := hg6' hs.2; omega) q15
  have hK2 := laws_markTable lb.length g8 lb.length d1 w16 hRb16 hd1 hd1'
  clear ht16 sw15 hG15 hRa15 hRb15 x15 y15 p15 q15 hB15 hK
  have hd2 : (0 : Int) ≤ ((d1 + 4 * lb.length : Nat) : Int) := by omega
  generalize d1 + 4 * lb.length = d2 at *
  go_wp2_with fail
  refine hK2.mono ?_
  rintro e w17 ⟨rfl, ht17⟩
  have hB17 : Below w.heap.size w w17 := ht17.below (fun b hb => by have := hb.1; omega) hB16.size hB16
  have sw17 := sw16.touchA (n := D.length) (cap := cw) ht17 (fun b hb hs => by have := lw b hb; have := hs.1; omega)
  have hG17 := owns_touch hG16 ht17 (fun b hb hs => by have := lg b hb; have := hs.1; have := hg8' hs.2; omega)
  have x17 : w17.cell? ⟨w.heap.size, 0, none⟩ = some (.slice a la.length cap) := ht17.cell (fun hs => by have := hs.1; omega) x16
  have y17 : w17.cell? ⟨w.heap.size + 1, 0, none⟩ = some (.slice b lb.length capb) := ht17.cell (fun hs => by have := hs.1; omega) y16
  clear ht17 sw16 hG16 hRb16 x16 y16 q16 hB16 hK2
  obtain ⟨ag', cg', eg, sg17⟩ := OwnsS.seq hG17
  injection eg with eg1 eg2 eg3
  subst eg1 eg3
  go_wp2_with fail
  refine (hEq _ _ _ _ _ sg17 sw17).mono ?_
  rintro e w18 ⟨rfl, hb18⟩
  have hB18 := hB17.trans (hb18.mono hB17.size)
  have sw18 := sw17.below hb18
  have hG18 := owns_below hG17 hb18
  have x18 := keepC hb18 x17
  have y18 := keepC hb18 y17
  clear hb18 sw17 sg17 hG17 x17 y17 hB17
  have hK := mark_spans D _ _ 1 w18 hG18 (by omega) (by omega)
  have hH := fun w h => laws_heldSpanS D.length cg 1 ag w h (by omega) (by omega)
  have hd3 : (0 : Int) ≤ ((1 + 2 * D.length : Nat) : Int) := by omega
  have HK : Hid ((1 + 2 * D.length : Nat) = 1 + 2 * D.length) := rfl
  generalize hd4 : 1 + 2 * D.length = d3 at *
  clear hd4
  go_wp2_with fail
  refine hK.mono ?_
  rintro e w19 ⟨rfl, hsm, ht19⟩
  obtain ⟨am, cm, em, sm19⟩ := hsm
  injection em with em1 em2 em3
  subst em1 em3
  have hB19 : Below w.heap.size w w19 := ht19.below (fun b hb => by have := lg b hb; omega) hB18.size hB18
  have sw19 := sw18.touchA (n := D.length) (cap := cw) ht19 (fun b hb hs => by have := lw b hb; have := lg b hs; omega)
  have x19 : w19.cell? ⟨w.heap.size, 0, none⟩ = some (.slice a la.length cap) := ht19.cell (fun hs => by have := lg _ hs; omega) x18
  have y19 : w19.cell? ⟨w.heap.size + 1, 0, none⟩ = some (.slice b lb.length capb) := ht19.cell (fun hs => by have := lg _ hs; omega) y18
  clear ht19 sw18 hG18 x18 y18 hB18 hK
  go_wp2_with fail
  refine (hH _ sm19).mono ?_
  rintro e w20 ⟨rfl, hb20⟩
  have hB20 := hB19.trans (hb20.mono hB19.size)
  have hbG := hb20.trans ((below_drew w20).mono hb20.size)
  have hBG : Below w.heap.size w w20.drew := hB19.trans (hbG.mono hB19.size)
  have swG := sw19.below hbG
  have smG := sm19.below hbG
  have xG : w20.drew.cell? ⟨w.heap.size, 0, none⟩ = some (.slice a la.length cap) := keepC hb20 x19
  have yG : w20.drew.cell? ⟨w.heap.size + 1, 0, none⟩ = some (.slice b lb.length capb) := keepC hb20 y19
  have vaG := hva.below hBG
  have vbG := hvb.below hBG
  clear hb20 hbG sw19 sm19 x19 y19 hB19 hB20
  go_wp2_with fail
  go_region_held3 (fun w' => w'.cell? ⟨w.heap.size, 0, none⟩ = some (.slice a la.length cap) ∧ w'.cell? ⟨w.heap.size + 1, 0, none⟩ = some (.slice b lb.length capb)) (go_keep) (first | (go_at_call 24; refine (hTb _ vb21).mono ?_; rintro e w22 ⟨v22, rfl, hO22, hb22⟩; have x22 := keepC hb22 x21; have y22 := keepC hb22 y21; have ta22 := ta21.below hb22; have tb22 := hO22.tab; obtain ⟨g22, rfl, _, _, _⟩ := hO22) | (go_at_call 24; refine (hTa _ vaG).mono ?_; rintro e w21 ⟨v21, rfl, hO21, hb21⟩; have x21 := keepC hb21 xG; have y21 := keepC hb21 yG; have ta21 := hO21.tab; have vb21 := vbG.below hb21; obtain ⟨g21, rfl, _, _, _⟩ := hO21) | (go_at_call 25; refine (hI _ _ _ ta22 tb22).mono ?_; rintro e w23 ⟨v23, rfl, hH23, hb23⟩; have x23 := keepC hb23 x22; have y23 := keepC hb23 y22; obtain ⟨ah, ch, rfl, sh23⟩ := hH23.seq))
  have hb24 := hb21.trans ((hb22.trans (hb23.mono hb22.size)).mono hb21.size)
  have hB23 := hBG.trans (hb24.mono hBG.size)
  have sw23 := swG.below hb24
  have sm23 := smG.below hb24
  clear hb21 hb22 hb23 hb24 x21 y21 x22 y22 ta21 ta22 tb22 vb21 xG yG vaG vbG hBG hH23 swG smG x23 y23
  go_wp2_with fail
  refine (hEq _ _ _ _ _ sh23 sw23).mono ?_
  rintro e w24 ⟨rfl, hb24⟩
  have hB24 := hB23.trans (hb24.mono hB23.size)
  have sm24 := sm23.below hb24
  clear hb24 sw23 sm23 sh23 hB23
  go_wp2_with fail
  refine (hH _ sm24).mono ?_
  rintro e w25 ⟨rfl, hb25⟩
  go_wp2
  go_ret
  exact ⟨rfl, hB24.trans (hb25.mono hB24.size)⟩
end Go.Proofs.Ytjfonbnmdcpepaa.diff
