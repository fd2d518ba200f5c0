/- The walk of the law FnExactTableRight. -/
import Derived.Test.YtckkicfblpbnhaaTabSpec
import Derived.Deep.RegionHeld3
namespace Go.Proofs.Ytckkicfblpbnhaa.tableRight
open Go.RowKit

set_option maxHeartbeats 2000000 in
theorem walk (l : List TurnD) (v : Value) (w : World) (hv : TabAt w v l) (hl : l.length ≤ maxLen) (hok : ∀ r ∈ l, r.ok) :
    Calls Try.prog 3 #[v] w fun e w' => e = .returned (.bool true) ∧ Below w.heap.size w w' := by
  obtain ⟨a, cap, rfl, hA⟩ := hv
  have hv : TabAt w (.agg #[.slice a l.length cap]) l := ⟨a, cap, rfl, hA⟩
  have hB0 := (Below.refl w.heap.size w).alloc (Nat.le_refl _) (.cells #[.slice a l.length cap] 24)
  have hZ := fun w (h : TabAt w (.agg #[.slice a l.length cap]) l) => laws_szTable l _ 1048576 w h hl hok (by omega) (by omega)
  by_cases g : 1048576 - ((l.length : Int) + tsz l) < 0
  · rw [clip_n g] at hZ
    go_enter Try.func3, Try.ntmps3
    go_wp2_with fail
    refine (hZ _ (hv.below hB0)).mono ?_
    rintro e w1 ⟨rfl, hb1⟩
    go_wp2
    go_ret
    exact ⟨rfl, hB0.trans (hb1.mono (by simp))⟩
  rw [clip_p (by omega)] at hZ
  have hl1 : l.length ≤ 1048576 := by omega
  have hT := fun w (h : TabAt w (.agg #[.slice a l.length cap]) l) => laws_toTable l _ w h hl1
  have hI := fun v w (h : TabAt w v l) => impl_TableRight l v w h hok hl1
  have hS := fun v w (h : TabAt w v l) => spec_TableRight l v w h hok
  have hE := fun v v2 w (h : TabAt w v l) (h2 : TabAt w v2 l) => laws_eqTable l v v2 w h h2 hl1
  generalize tabB l = tb at *
  have x0 : (w.alloc (.cells #[.slice a l.length cap] 24)).cell? ⟨w.heap.size, 0, none⟩ = some (.slice a l.length cap) := by simp [go_sem]
  have g' : ¬ (1048576 - ((l.length : Int) + tsz l) < 0) := g
  go_enter Try.func3, Try.ntmps3
  go_wp2_with fail
  refine (hZ _ (hv.below hB0)).mono ?_
  rintro e w1 ⟨rfl, hb1⟩
  have hB1 := hB0.trans (hb1.mono (by simp))
  have x1 : w1.cell? ⟨w.heap.size, 0, none⟩ = some (.slice a l.length cap) := ((bcell hb1).1 _ _ (World.block_lt_of_cell? _ _ x0)).trans x0
  generalize ((l.length : Int) + tsz l) = sz at *
  clear hb1
  go_wp2_with fail
  refine (hT _ (hv.below hB1)).mono ?_
  rintro e w2 ⟨v2, rfl, hO2, hb2⟩
  have hB2 := hB1.trans (hb2.mono hB1.size)
  have x2 : w2.cell? ⟨w.heap.size, 0, none⟩ = some (.slice a l.length cap) := ((bcell hb2).1 _ _ (World.block_lt_of_cell? _ _ x1)).trans x1
  have hA2 := hO2.tab
  clear hb2 hO2
  go_wp2_with fail
  refine (hS v2 _ hA2).mono ?_
  rintro e w3 ⟨rfl, hb3⟩
  have hB3 := hB2.trans (hb3.mono hB2.size)
  have x3 : w3.cell? ⟨w.heap.size, 0, none⟩ = some (.slice a l.length cap) := ((bcell hb3).1 _ _ (World.block_lt_of_cell? _ _ x2)).trans x2
  clear hb3 hA2
  go_wp2_with fail
  refine (hT _ (hv.below hB3)).mono ?_
  rintro e w4 ⟨v4, rfl, hO4, hb4⟩
  have hB4 := hB3.trans (hb4.mono hB3.size)
  have x4 : w4.cell? ⟨w.heap.size, 0, none⟩ = some (.slice a l.length cap) := ((bcell hb4).1 _ _ (World.block_lt_of_cell? _ _ x3)).trans x3
  have hA4 := hO4.tab
  obtain ⟨g4, rfl, _, _, _⟩ := hO4
  clear hb4
  have hB5 : Below w.heap.size w (w4.alloc (.cells #[.slice (some ⟨g4, 0, none⟩) l.length l.length] 29)) := hB4.alloc hB4.size _
  have hA5 := hA4.below ((Below.refl w4.heap.size w4).alloc (Nat.le_refl _) (.cells #[.slice (some ⟨g4, 0, none⟩) l.length l.length] 29))
  have x5 : (w4.alloc (.cells #[.slice (some ⟨g4, 0, none⟩) l.length l.length] 29)).cell? ⟨w.heap.size, 0, none⟩ = some (.slice a l.length cap) := ((bcell ((Below.refl w4.heap.size w4).alloc (Nat.le_refl _) _)).1 _ _ (World.block_lt_of_cell? _ _ x4)).trans x4
  have y5 : (w4.alloc (.cells #[.slice (some ⟨g4, 0, none⟩) l.length l.length] 29)).cell? ⟨w4.heap.size, 0, none⟩ = some (.slice (some ⟨g4, 0, none⟩) l.length l.length) := by simp [go_sem]
  go_wp2_with fail
  refine (hI _ _ hA5).mono ?_
  rintro e w6 ⟨rfl, hb6⟩
  have hB6 := hB5.trans (hb6.mono hB5.size)
  have x6 : w6.cell? ⟨w.heap.size, 0, none⟩ = some (.slice a l.length cap) := ((bcell hb6).1 _ _ (World.block_lt_of_cell? _ _ x5)).trans x5
  have y6 : w6.cell? ⟨w4.heap.size, 0, none⟩ = some (.slice (some ⟨g4, 0, none⟩) l.length l.length) := ((bcell hb6).1 _ _ (World.block_lt_of_cell? _ _ y5)).trans y5
  have hA6 := hA5.below hb6
  clear hb6 hA5 hA4 x0 x1 x2 x3 x4 x5 y5
  generalize w4.heap.size = b4 at *
  have hD : Below w6.heap.size w6 w6.drew := ⟨rfl, rfl, rfl, Nat.le_refl _, fun _ _ => rfl⟩
  have hBD : Below w.heap.size w w6.drew := hB6.trans (hD.mono hB6.size)
  have hAD := hA6.below hD
  have xD : w6.drew.cell? ⟨w.heap.size, 0, none⟩ = some (.slice a l.length cap) := x6
  have yD : w6.drew.cell? ⟨b4, 0, none⟩ = some (.slice (some ⟨g4, 0, none⟩) l.length l.length) := y6
  have hvD := hv.below hBD
  clear hI hS hZ hB1 hB2 hB3 hB4 hB5 hB6 hD hA6
  go_wp2_with fail
  go_region_held3 (fun w' => w'.cell? ⟨b4, 0, none⟩ = some (.slice (some ⟨g4, 0, none⟩) l.length l.length) ∧ w'.cell? ⟨w.heap.size, 0, none⟩ = some (.slice a l.length cap)) (go_keep) (first | (go_at_call 6; refine (hT _ hvD).mono ?_; rintro e w7 ⟨v7, rfl, hO7, hb7⟩; have c7 := ((bcell hb7).1 _ _ (World.block_lt_of_cell? _ _ yD)).trans yD; have d7 := ((bcell hb7).1 _ _ (World.block_lt_of_cell? _ _ xD)).trans xD; have hA7 := hAD.below hb7; have hT7 := hO7.tab; obtain ⟨g7, rfl, _, _, _⟩ := hO7) | (go_at_call 8; refine (hE _ _ _ hA7 hT7).mono ?_; rintro e w8 ⟨rfl, hb8⟩; have c8 := ((bcell hb8).1 _ _ (World.block_lt_of_cell? _ _ c7)).trans c7; have d8 := ((bcell hb8).1 _ _ (World.block_lt_of_cell? _ _ d7)).trans d7))
  go_wp2
  go_ret
  exact ⟨rfl, hBD.trans ((hb7.trans (hb8.mono hb7.size)).mono hBD.size)⟩
end Go.Proofs.Ytckkicfblpbnhaa.tableRight
