/- The walk of the law FnExactChanged. -/
import Derived.Test.YtjfonbnmdcpepaaChg2
import Derived.Test.YtjfonbnmdcpepaaTwo
import Derived.Deep.RegionHeld3
namespace Go.Proofs.Ytjfonbnmdcpepaa.changed
open Go.RowKit

set_option maxRecDepth 20000 in
set_option maxHeartbeats 8000000 in
theorem walk (la : List TurnD) (va : Value) (lb : List TurnD) (vb : Value) (n g f : Int) (w : World) (hva : TabAt w va la) (hla : la.length ≤ maxLen) (oka : ∀ r ∈ la, r.ok) (hvb : TabAt w vb lb) (hlb : lb.length ≤ maxLen) (okb : ∀ r ∈ lb, r.ok) :
    Calls Try.prog 7 #[va, vb, .int .i64 n, .int .i64 g, .int .i64 f] w fun e w' => e = .returned (.bool true) ∧ Below w.heap.size w w' := by
  obtain ⟨a, cap, rfl, hA⟩ := hva
  obtain ⟨b, capb, rfl, hAb⟩ := hvb
  have hva : TabAt w (.agg #[.slice a la.length cap]) la := ⟨a, cap, rfl, hA⟩
  have hvb : TabAt w (.agg #[.slice b lb.length capb]) lb := ⟨b, capb, rfl, hAb⟩
  clear hA hAb
  have hB0 := ((Below.refl w.heap.size w).alloc (Nat.le_refl _) (.cells #[.slice a la.length cap] 45)).alloc (by simp) (.cells #[.slice b lb.length capb] 45)
  have x0 : ((w.alloc (.cells #[.slice a la.length cap] 45)).alloc (.cells #[.slice b lb.length capb] 45)).cell? ⟨w.heap.size, 0, none⟩ = some (.slice a la.length cap) := by simp [go_sem]
  have y0 : ((w.alloc (.cells #[.slice a la.length cap] 45)).alloc (.cells #[.slice b lb.length capb] 45)).cell? ⟨w.heap.size + 1, 0, none⟩ = some (.slice b lb.length capb) := by simp [go_sem]
  have hZ := fun w (h : TabAt w (.agg #[.slice a la.length cap]) la) => laws_szTable la _ 1048576 w h hla oka (by omega) (by omega)
  by_cases gz : 1048576 - ((la.length : Int) + tsz la) < 0
  · rw [clip_n gz] at hZ
    go_enter Try.func7, Try.ntmps7
    go_wp2_with fail
    refine (hZ _ (hva.below hB0)).mono ?_
    rintro e w1 ⟨rfl, hb1⟩
    go_wp2
    go_ret
    exact ⟨rfl, hB0.trans (hb1.mono (by simp; omega))⟩
  rw [clip_p (by omega)] at hZ
  have hl1 : la.length ≤ 1048576 := by omega
  have hZ2 := fun w (h : TabAt w (.agg #[.slice b lb.length capb]) lb) => laws_szTable lb _ (1048576 - ((la.length : Int) + tsz la)) w h hlb okb (by omega) (by omega)
  have g' : ¬ (1048576 - ((la.length : Int) + tsz la) < 0) := gz
  by_cases gz2 : 1048576 - ((la.length : Int) + tsz la) - ((lb.length : Int) + tsz lb) < 0
  · rw [clip_n gz2] at hZ2
    clear gz2 gz
    generalize 1048576 - ((la.length : Int) + tsz la) = sz at *
    go_enter Try.func7, Try.ntmps7
    go_wp2_with fail
    refine (hZ _ (hva.below hB0)).mono ?_
    rintro e w1 ⟨rfl, hb1⟩
    have hB1 := hB0.trans (hb1.mono (by simp; omega))
    have y1 := keepC hb1 y0
    go_wp2_with fail
    refine (hZ2 _ (hvb.below hB1)).mono ?_
    rintro e w2 ⟨rfl, hb2⟩
    go_wp2
    go_ret
    exact ⟨rfl, hB1.trans (hb2.mono hB1.size)⟩
  rw [clip_p (by omega)] at hZ2
  have hl2 : lb.length ≤ 1048576 := by omega
  have g2' : ¬ (1048576 - ((la.length : Int) + tsz la) - ((lb.length : Int) + tsz lb) < 0) := gz2
  have hTa := fun w (h : TabAt w (.agg #[.slice a la.length cap]) la) => laws_toTable la _ w h hl1
  have hTb := fun w (h : TabAt w (.agg #[.slice b lb.length capb]) lb) => laws_toTable lb _ w h hl2
  have hEa := fun v v2 w (h : TabAt w v la) (h2 : TabAt w v2 la) => laws_eqTable la v v2 w h h2 hl1
  have hEb := fun v v2 w (h : TabAt w v lb) (h2 : TabAt w v2 lb) => laws_eqTable lb v v2 w h h2 hl2
  have hI := fun va vb w (h : TabAt w va la) (h2 : TabAt w vb lb) => impl_Changed la lb va vb n g f w h h2 oka okb hl1 hl2
  have hS := fun va vb w (h : TabAt w va la) (h2 : TabAt w vb lb) => spec_Changed la lb va vb n g f w h h2 oka okb
  generalize changedD la lb n g f = z at *
  clear gz gz2
  generalize 1048576 - ((la.length : Int) + tsz la) = sz at *
  generalize sz - ((lb.length : Int) + tsz lb) = sz2 at *
  go_enter Try.func7, Try.ntmps7
  go_wp2_with fail
  refine (hZ _ (hva.below hB0)).mono ?_
  rintro e w1 ⟨rfl, hb1⟩
  have hB1 := hB0.trans (hb1.mono (by simp; omega))
  have x1 := keepC hb1 x0
  have y1 := keepC hb1 y0
  clear hb1 hB0 x0 y0
  go_wp2_with fail
  refine (hZ2 _ (hvb.below hB1)).mono ?_
  rintro e w2 ⟨rfl, hb2⟩
  have hB2 := hB1.trans (hb2.mono hB1.size)
  have x2 := keepC hb2 x1
  have y2 := keepC hb2 y1
  clear hb2 hB1 x1 y1 hZ hZ2
  have hBD : Below w.heap.size w w2.drew := hB2.trans ((below_drew w2).mono hB2.size)
  have xD : w2.drew.cell? ⟨w.heap.size, 0, none⟩ = some (.slice a la.length cap) := x2
  have yD : w2.drew.cell? ⟨w.heap.size + 1, 0, none⟩ = some (.slice b lb.length capb) := y2
  have vaD := hva.below hBD
  have vbD := hvb.below hBD
  clear hB2 x2 y2
  go_wp2_with fail
  go_region_held3 (fun w' => w'.cell? ⟨w.heap.size, 0, none⟩ = some (.slice a la.length cap) ∧ w'.cell? ⟨w.heap.size + 1, 0, none⟩ = some (.slice b lb.length capb)) (go_keep) (first | (go_at_call 24; refine (hTb _ vb3).mono ?_; rintro e w4 ⟨v4, rfl, hO4, hb4⟩; have x4 := keepC hb4 x3; have y4 := keepC hb4 y3; have ta4 := ta3.below hb4; have tb4 := hO4.tab; obtain ⟨g4, rfl, _, _, _⟩ := hO4) | (go_at_call 24; refine (hTa _ vaD).mono ?_; rintro e w3 ⟨v3, rfl, hO3, hb3⟩; have x3 := keepC hb3 xD; have y3 := keepC hb3 yD; have ta3 := hO3.tab; have vb3 := vbD.below hb3; obtain ⟨g3, rfl, _, _, _⟩ := hO3) | (go_at_call 35; refine (hS _ _ _ ta4 tb4).mono ?_; rintro e w5 ⟨rfl, hb5⟩; have x5 := keepC hb5 x4; have y5 := keepC hb5 y4))
  have hB5 := hBD.trans ((hb3.trans ((hb4.trans (hb5.mono hb4.size)).mono hb3.size)).mono hBD.size)
  clear hb3 hb4 hb5 x3 y3 x4 y4 ta3 ta4 tb4 vb3 xD yD vaD vbD hBD
  go_wp2_with fail
  refine (hTa _ (hva.below hB5)).mono ?_
  rintro e w6 ⟨v6, rfl, hO6, hb6⟩
  have hB6 := hB5.trans (hb6.mono hB5.size)
  have x6 := keepC hb6 x5
  have y6 := keepC hb6 y5
  have ta6 := hO6.tab
  obtain ⟨g6, rfl, _, _, _⟩ := hO6
  clear hb6 x5 y5 hB5
  have hb7 : Below w6.heap.size w6 (w6.alloc (.cells #[.slice (some ⟨g6, 0, none⟩) la.length la.length] 25)) := (Below.refl w6.heap.size w6).alloc (Nat.le_refl _) _
  have hB7 := hB6.trans (hb7.mono hB6.size)
  have x7 := keepC hb7 x6
  have y7 := keepC hb7 y6
  have ta7 := ta6.below hb7
  have p7 : (w6.alloc (.cells #[.slice (some ⟨g6, 0, none⟩) la.length la.length] 25)).cell? ⟨w6.heap.size, 0, none⟩ = some (.slice (some ⟨g6, 0, none⟩) la.length la.length) := by simp [go_sem]
  clear hb7 x6 y6 ta6
  go_wp2_with fail
  refine (hTb _ (hvb.below hB7)).mono ?_
  rintro e w8 ⟨v8, rfl, hO8, hb8⟩
  have hB8 := hB7.trans (hb8.mono hB7.size)
  have x8 := keepC hb8 x7
  have y8 := keepC hb8 y7
  have p8 := keepC hb8 p7
  have ta8 := ta7.below hb8
  have tb8 := hO8.tab
  obtain ⟨g8, rfl, _, _, _⟩ := hO8
  clear hb8 x7 y7 p7 ta7 hB6 hB7
  generalize w6.heap.size = b6 at *
  have hb9 : Below w8.heap.size w8 (w8.alloc (.cells #[.slice (some ⟨g8, 0, none⟩) lb.length lb.length] 25)) := (Below.refl w8.heap.size w8).alloc (Nat.le_refl _) _
  have hB9 := hB8.trans (hb9.mono hB8.size)
  have x9 := keepC hb9 x8
  have y9 := keepC hb9 y8
  have p9 := keepC hb9 p8
  have q9 : (w8.alloc (.cells #[.slice (some ⟨g8, 0, none⟩) lb.length lb.length] 25)).cell? ⟨w8.heap.size, 0, none⟩ = some (.slice (some ⟨g8, 0, none⟩) lb.length lb.length) := by simp [go_sem]
  have ta9 := ta8.below hb9
  have tb9 := tb8.below hb9
  clear hb9 x8 y8 p8 ta8 tb8 hB8
  go_wp2_with fail
  refine (hI _ _ _ ta9 tb9).mono ?_
  rintro e w10 ⟨rfl, hb10⟩
  have hB10 := hB9.trans (hb10.mono hB9.size)
  have x10 := keepC hb10 x9
  have y10 := keepC hb10 y9
  have p10 := keepC hb10 p9
  have q10 := keepC hb10 q9
  have ta10 := ta9.below hb10
  have tb10 := tb9.below hb10
  clear hb10 x9 y9 p9 q9 ta9 tb9 hB9
  generalize w8.heap.size = b8 at *
  have gz0 : (z != z) = false := by cases z <;> rfl
  have hBE : Below w.heap.size w w10.drew := hB10.trans ((below_drew w10).mono hB10.size)
  have xE : w10.drew.cell? ⟨w.heap.size, 0, none⟩ = some (.slice a la.length cap) := x10
  have yE : w10.drew.cell? ⟨w.heap.size + 1, 0, none⟩ = some (.slice b lb.length capb) := y10
  have pE : w10.drew.cell? ⟨b6, 0, none⟩ = some (.slice (some ⟨g6, 0, none⟩) la.length la.length) := p10
  have qE : w10.drew.cell? ⟨b8, 0, none⟩ = some (.slice (some ⟨g8, 0, none⟩) lb.length lb.length) := q10
  have taE := ta10.below (below_drew w10)
  have tbE := tb10.below (below_drew w10)
  have vaE := hva.below hBE
  clear x10 y10 p10 q10 ta10 tb10 hB10 hI hS
  go_wp2_with fail
  go_region_held3 (fun w' => w'.cell? ⟨b6, 0, none⟩ = some (.slice (some ⟨g6, 0, none⟩) la.length la.length) ∧ w'.cell? ⟨w.heap.size, 0, none⟩ = some (.slice a la.length cap)) (go_keep) (first | (go_at_call 24; refine (hTa _ vaE).mono ?_; rintro e w11 ⟨v11, rfl, hO11, hb11⟩; have p11 := keepC hb11 pE; have x11 := keepC hb11 xE; have ta11 := taE.below hb11; have tc11 := hO11.tab; obtain ⟨g11, rfl, _, _, _⟩ := hO11) | (go_at_call 27; refine (hEa _ _ _ ta11 tc11).mono ?_; rintro e w12 ⟨rfl, hb12⟩; have p12 := keepC hb12 p11; have x12 := keepC hb12 x11))
  have hb13 := hb11.trans (hb12.mono hb11.size)
  have hB12 := hBE.trans (hb13.mono hBE.size)
  have y12 := keepC hb13 yE
  have q12 := keepC hb13 qE
  have tb12 := tbE.below hb13
  clear hb11 hb12 hb13 p11 x11 ta11 tc11 xE yE pE qE taE tbE vaE hBE p12 x12
  have hBF : Below w.heap.size w w12.drew := hB12.trans ((below_drew w12).mono hB12.size)
  have yF : w12.drew.cell? ⟨w.heap.size + 1, 0, none⟩ = some (.slice b lb.length capb) := y12
  have qF : w12.drew.cell? ⟨b8, 0, none⟩ = some (.slice (some ⟨g8, 0, none⟩) lb.length lb.length) := q12
  have tbF := tb12.below (below_drew w12)
  have vbF := hvb.below hBF
  clear y12 q12 tb12 hB12
  go_wp2_with fail
  go_region_held3 (fun w' => w'.cell? ⟨b8, 0, none⟩ = some (.slice (some ⟨g8, 0, none⟩) lb.length lb.length) ∧ w'.cell? ⟨w.heap.size + 1, 0, none⟩ = some (.slice b lb.length capb)) (go_keep) (first | (go_at_call 24; refine (hTb _ vbF).mono ?_; rintro e w13 ⟨v13, rfl, hO13, hb13⟩; have q13 := keepC hb13 qF; have y13 := keepC hb13 yF; have tb13 := tbF.below hb13; have tc13 := hO13.tab; obtain ⟨g13, rfl, _, _, _⟩ := hO13) | (go_at_call 27; refine (hEb _ _ _ tb13 tc13).mono ?_; rintro e w14 ⟨rfl, hb14⟩; have q14 := keepC hb14 q13; have y14 := keepC hb14 y13))
  go_wp2
  go_ret
  exact ⟨rfl, hBF.trans ((hb13.trans (hb14.mono hb13.size)).mono hBF.size)⟩
end Go.Proofs.Ytjfonbnmdcpepaa.changed
