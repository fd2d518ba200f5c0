/- The walk of the law FnExactInstantsOf. -/
import Derived.Test.YtjglkodenegcnaaInts2
import Derived.Deep.RegionHeld3
namespace Go.Proofs.Ytjglkodenegcnaa.instantsOf
open Go.RowKit

set_option maxRecDepth 20000 in
set_option maxHeartbeats 4000000 in
theorem walk (l : List TurnD) (v : Value) (n : Int) (w : World) (hv : TabAt w v l) (hl : l.length ≤ maxLen) (hok : ∀ r ∈ l, r.ok) :
    Calls Try.prog 7 #[v, .int .i64 n] w fun e w' => e = .returned (.bool true) ∧ Below w.heap.size w w' := by
  obtain ⟨a, cap, rfl, hA⟩ := hv
  have hv : TabAt w (.agg #[.slice a l.length cap]) l := ⟨a, cap, rfl, hA⟩
  have hB0 := (Below.refl w.heap.size w).alloc (Nat.le_refl _) (.cells #[.slice a l.length cap] 45)
  have hZ := fun w (h : TabAt w (.agg #[.slice a l.length cap]) l) => laws_szTable l _ 1048576 w h hl hok (by omega) (by omega)
  by_cases g : 1048576 - ((l.length : Int) + tsz l) < 0
  · rw [clip_n g] at hZ
    go_enter Try.func7, Try.ntmps7
    go_wp2_with fail
    refine (hZ _ (hv.below hB0)).mono ?_
    rintro e w1 ⟨rfl, hb1⟩
    go_wp2
    go_ret
    exact ⟨rfl, hB0.trans (hb1.mono (by simp))⟩
  rw [clip_p (by omega)] at hZ
  have hl1 : l.length ≤ 1048576 := by omega
  have hT := fun w (h : TabAt w (.agg #[.slice a l.length cap]) l) => laws_toTable l _ w h hl1
  have hI := fun v w (h : TabAt w v l) => impl_InstantsOf l v n w h hok hl1
  have hS := fun v w (h : TabAt w v l) => spec_InstantsOf l v n w h hok
  have hE := fun v v2 w (h : TabAt w v l) (h2 : TabAt w v2 l) => laws_eqTable l v v2 w h h2 hl1
  have hLL := instD_le l n
  generalize instD l n = L at *
  have hEq := fun v v2 w (h : RowAt w v L) (h2 : RowAt w v2 L) => laws_eqInt64S L v v2 w h h2 (by omega)
  have x0 : (w.alloc (.cells #[.slice a l.length cap] 45)).cell? ⟨w.heap.size, 0, none⟩ = some (.slice a l.length cap) := by simp [go_sem]
  have g' : ¬ (1048576 - ((l.length : Int) + tsz l) < 0) := g
  go_enter Try.func7, Try.ntmps7
  go_wp2_with fail
  refine (hZ _ (hv.below hB0)).mono ?_
  rintro e w1 ⟨rfl, hb1⟩
  have hB1 := hB0.trans (hb1.mono (by simp))
  have x1 : w1.cell? ⟨w.heap.size, 0, none⟩ = some (.slice a l.length cap) := ((bcell hb1).1 _ _ (World.block_lt_of_cell? _ _ x0)).trans x0
  generalize ((l.length : Int) + tsz l) = sz at *
  clear hb1
  go_wp2_with fail
  refine (hT _ (hv.below hB1)).mono ?_
  rintro e w2 ⟨v2, rfl, hO2, hb2⟩
  have hB2 := hB1.trans (hb2.mono hB1.size)
  have x2 : w2.cell? ⟨w.heap.size, 0, none⟩ = some (.slice a l.length cap) := ((bcell hb2).1 _ _ (World.block_lt_of_cell? _ _ x1)).trans x1
  have hA2 := hO2.tab
  clear hb2 hO2
  go_wp2_with fail
  refine (hS v2 _ hA2).mono ?_
  rintro e w3 ⟨vw, rfl, hW3, hb3⟩
  have hB3 := hB2.trans (hb3.mono hB2.size)
  have x3 : w3.cell? ⟨w.heap.size, 0, none⟩ = some (.slice a l.length cap) := ((bcell hb3).1 _ _ (World.block_lt_of_cell? _ _ x2)).trans x2
  have rw3 := RowAt.of_owns hW3
  have lw := hW3.lt
  obtain ⟨aw, cw, rfl⟩ := row_shape hW3
  clear hb3 hA2 hW3
  go_wp2_with fail
  refine (hT _ (hv.below hB3)).mono ?_
  rintro e w4 ⟨v4, rfl, hO4, hb4⟩
  have hB4 := hB3.trans (hb4.mono hB3.size)
  have hs34 := hb4.size
  have x4 : w4.cell? ⟨w.heap.size, 0, none⟩ = some (.slice a l.length cap) := ((bcell hb4).1 _ _ (World.block_lt_of_cell? _ _ x3)).trans x3
  have rw4 := rw3.below hb4
  have hA4 := hO4.tab
  obtain ⟨g4, rfl, hg4, hSq, hRm4⟩ := hO4
  have hgw : w.heap.size < g4 := by have : w.heap.size < w3.heap.size := World.block_lt_of_cell? _ _ x3; omega
  have hwb : w.heap.size < w4.heap.size := World.block_lt_of_cell? _ _ x4
  have hg44 : 0 < l.length → g4 < w4.heap.size := fun h => by
    obtain ⟨z, hz⟩ : ∃ z, l[0]? = some z := ⟨_, List.getElem?_eq_getElem h⟩
    obtain ⟨b', o', e', hc'⟩ := hSq.at (i := 0) (r := z.cs) (by rw [List.getElem?_map, hz]; rfl)
    injection e' with e'
    injection e' with u1 u2
    subst u1 u2
    exact World.block_lt_of_cell? _ _ (hc' 0 _ rfl)
  clear hSq
  clear hb4 rw3
  have hb5 : Below w4.heap.size w4 (w4.alloc (.cells #[.slice (some ⟨g4, 0, none⟩) l.length l.length] 25)) := (Below.refl w4.heap.size w4).alloc (Nat.le_refl _) _
  have hB5 := hB4.trans (hb5.mono hB4.size)
  have hA5 := hA4.below hb5
  have hRm5 := hRm4.below hb5
  have rw5 := rw4.below hb5
  have x5 := ((bcell hb5).1 _ _ (World.block_lt_of_cell? _ _ x4)).trans x4
  have y5 : (w4.alloc (.cells #[.slice (some ⟨g4, 0, none⟩) l.length l.length] 25)).cell? ⟨w4.heap.size, 0, none⟩ = some (.slice (some ⟨g4, 0, none⟩) l.length l.length) := by simp [go_sem]
  have hs5 : (w4.alloc (.cells #[.slice (some ⟨g4, 0, none⟩) l.length l.length] 25)).heap.size = w4.heap.size + 1 := by simp
  go_wp2_with fail
  refine (hI _ _ hA5).mono ?_
  rintro e w6 ⟨vg, rfl, hG6, hb6⟩
  have hB6 := hB5.trans (hb6.mono hB5.size)
  have x6 := ((bcell hb6).1 _ _ (World.block_lt_of_cell? _ _ x5)).trans x5
  have y6 := ((bcell hb6).1 _ _ (World.block_lt_of_cell? _ _ y5)).trans y5
  have rw6 := rw5.below hb6
  have rg6 := RowAt.of_owns hG6
  have lg := hG6.lt
  have hA6 := hA5.below hb6
  have hRm6 := hRm5.below hb6
  have hs6 := hb6.size
  rw [hs5] at lg hs6 hG6
  obtain ⟨ag, cg, rfl⟩ := row_shape hG6
  clear hb6 hb5 hA5 hA4 hRm5 hRm4 rw5 rw4 x0 x1 x2 x3 x4 x5 y5 hs5
  generalize hb4s : w4.heap.size = b4 at *
  go_wp2_with fail
  refine (hEq _ _ _ rg6 rw6).mono ?_
  rintro e w8 ⟨rfl, hb8⟩
  have hB8 := hB6.trans (hb8.mono hB6.size)
  have x8 := ((bcell hb8).1 _ _ (World.block_lt_of_cell? _ _ x6)).trans x6
  have y8 := ((bcell hb8).1 _ _ (World.block_lt_of_cell? _ _ y6)).trans y6
  have hA8 := hA6.below hb8
  have hRm8 := hRm6.below hb8
  have rw8 := rw6.below hb8
  have hG8 := owns_below hG6 hb8
  have hs8 := hb8.size
  clear hb8 hA6 hRm6 rw6 rg6 hG6 x6 y6
  have hD : Below w8.heap.size w8 w8.drew := ⟨rfl, rfl, rfl, Nat.le_refl _, fun _ _ => rfl⟩
  have hBD : Below w.heap.size w w8.drew := hB8.trans (hD.mono hB8.size)
  have hAD := hA8.below hD
  have xD : w8.drew.cell? ⟨w.heap.size, 0, none⟩ = some (.slice a l.length cap) := x8
  have yD : w8.drew.cell? ⟨b4, 0, none⟩ = some (.slice (some ⟨g4, 0, none⟩) l.length l.length) := y8
  have hvD := hv.below hBD
  have rwD := rw8.below hD
  have hRmD := hRm8.below hD
  have hGD := owns_below hG8 hD
  have hsD : w8.drew.heap.size = w8.heap.size := rfl
  clear hZ hB1 hB2 hB3 hB4 hB5 hB6 hB8 hD hA8 rw8 hRm8 hG8 x8 y8
  go_wp2_with fail
  go_region_held3 (fun w' => w'.cell? ⟨b4, 0, none⟩ = some (.slice (some ⟨g4, 0, none⟩) l.length l.length) ∧ w'.cell? ⟨w.heap.size, 0, none⟩ = some (.slice a l.length cap)) (go_keep) (first | (go_at_call 24; refine (hT _ hvD).mono ?_; rintro e w9 ⟨v9, rfl, hO9, hb9⟩; have c9 := ((bcell hb9).1 _ _ (World.block_lt_of_cell? _ _ yD)).trans yD; have d9 := ((bcell hb9).1 _ _ (World.block_lt_of_cell? _ _ xD)).trans xD; have hA9 := hAD.below hb9; have hT9 := hO9.tab; obtain ⟨g9, rfl, _, _, _⟩ := hO9) | (go_at_call 26; refine (hE _ _ _ hA9 hT9).mono ?_; rintro e w10 ⟨rfl, hb10⟩; have c10 := ((bcell hb10).1 _ _ (World.block_lt_of_cell? _ _ c9)).trans c9; have d10 := ((bcell hb10).1 _ _ (World.block_lt_of_cell? _ _ d9)).trans d9))
  have hbD := hb9.trans (hb10.mono hb9.size)
  have hB10 := hBD.trans (hbD.mono hBD.size)
  have rw10 := rwD.below hbD
  have hG10 := owns_below hGD hbD
  have hRm10 := hRmD.below hbD
  have hs10 := hbD.size
  rw [hsD] at hs10
  clear hb9 hb10 hbD hGD hRmD rwD hT9 hA9 hAD hvD xD yD c9 d9 hBD hsD
  have hK := laws_markTable l.length g4 l.length 1 w10 hRm10 (by omega) (by omega)
  have hd1 : (0 : Int) ≤ ((1 + 4 * l.length : Nat) : Int) := by omega
  generalize 1 + 4 * l.length = d at *
  have hgS := hB10.size
  go_wp2_with fail
  refine hK.mono ?_
  rintro e w11 ⟨rfl, ht11⟩
  have hB11 : Below w.heap.size w w11 := ht11.below (fun b hb => by have := hb.1; omega) hB10.size hB10
  have rw11 := rw10.touch ht11 (fun b hb hs => by have := (lw b hb).2; have := hs.1; omega)
  have hG11 := owns_touch hG10 ht11 (fun b hb hs => by have := (lg b hb).1; have := hs.1; have := hg44 hs.2; omega)
  have x11 : w11.cell? ⟨w.heap.size, 0, none⟩ = some (.slice a l.length cap) := ht11.cell (fun hs => by have := hs.1; have := hg44 hs.2; omega) d10
  have hs11 := ht11.size
  clear ht11 rw10 hG10 hRm10 c10 d10 hB10 hK
  go_wp2_with fail
  refine (hEq _ _ _ (RowAt.of_owns hG11) rw11).mono ?_
  rintro e w12 ⟨rfl, hb12⟩
  have hB12 := hB11.trans (hb12.mono hB11.size)
  have rw12 := rw11.below hb12
  have hG12 := owns_below hG11 hb12
  have x12 := ((bcell hb12).1 _ _ (World.block_lt_of_cell? _ _ x11)).trans x11
  have hs12 := hb12.size
  clear hb12 rw11 hG11 x11 hB11
  have hK := laws_markInt64S 1 L _ _ w12 hG12 (by omega)
  have hH := fun w h => laws_heldInt64S 1 L.length (.slice ag L.length cg) w h (by omega)
  have hd2 : (0 : Int) ≤ ((1 + L.length : Nat) : Int) := by omega
  generalize 1 + L.length = d2 at *
  go_wp2_with fail
  refine hK.mono ?_
  rintro e w13 ⟨rfl, hG13, ht13⟩
  have hB13 : Below w.heap.size w w13 := ht13.below (fun b hb => by have := (lg b hb).1; omega) hB12.size hB12
  have rw13 := rw12.touch ht13 (fun b hb hs => by have := (lw b hb).2; have := (lg b hs).1; omega)
  have x13 : w13.cell? ⟨w.heap.size, 0, none⟩ = some (.slice a l.length cap) := ht13.cell (fun hs => by have := (lg _ hs).1; omega) x12
  have rg13 : RowAt w13 (.slice ag L.length cg) (marksI 1 L.length) := RowAt.of_owns (by rw [marksI_len]; exact hG13)
  clear ht13 rw12 hG12 hG13 x12 hB12 hK
  go_wp2_with fail
  refine (hH _ rg13).mono ?_
  rintro e wM ⟨rfl, hwM⟩
  have hwM := hwM.symm
  subst hwM
  go_wp2_with fail
  refine (hT _ (hv.below hB13)).mono ?_
  rintro e w14 ⟨v14, rfl, hO14, hb14⟩
  have hB14 := hB13.trans (hb14.mono hB13.size)
  have rw14 := rw13.below hb14
  have rg14 := rg13.below hb14
  have hA14 := hO14.tab
  clear hO14 hb14 rw13 rg13 x13 hB13
  go_wp2_with fail
  refine (hI _ _ hA14).mono ?_
  rintro e w15 ⟨vh, rfl, hH15, hb15⟩
  have hB15 := hB14.trans (hb15.mono hB14.size)
  have rw15 := rw14.below hb15
  have rg15 := rg14.below hb15
  have rh15 := RowAt.of_owns hH15
  obtain ⟨ah, ch, rfl⟩ := row_shape hH15
  clear hb15 rw14 rg14 hA14 hB14 hH15
  go_wp2_with fail
  refine (hEq _ _ _ rh15 rw15).mono ?_
  rintro e w16 ⟨rfl, hb16⟩
  have hB16 := hB15.trans (hb16.mono hB15.size)
  have rg16 := rg15.below hb16
  clear hb16 rw15 rg15 rh15 hB15
  go_wp2_with fail
  refine (hH _ rg16).mono ?_
  rintro e wN ⟨rfl, hwN⟩
  have hwN := hwN.symm
  subst hwN
  go_wp2
  go_ret
  exact ⟨rfl, hB16⟩
end Go.Proofs.Ytjglkodenegcnaa.instantsOf
