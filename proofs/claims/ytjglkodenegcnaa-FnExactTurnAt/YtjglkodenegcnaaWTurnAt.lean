/- The walk of the law FnExactTurnAt. -/
import Derived.Test.YtjglkodenegcnaaTabTurn2
namespace Go.Proofs.Ytjglkodenegcnaa.turnAt
open Go.RowKit

set_option maxHeartbeats 2000000 in
theorem walk (l : List TurnD) (v : Value) (n : Int) (w : World) (hv : TabAt w v l) (hl : l.length ≤ maxLen) (hok : ∀ r ∈ l, r.ok) :
    Calls Try.prog 5 #[v, .int .i64 n] w fun e w' => e = .returned (.bool true) ∧ Below w.heap.size w w' := by
  obtain ⟨a, cap, rfl, hA⟩ := hv
  have hv : TabAt w (.agg #[.slice a l.length cap]) l := ⟨a, cap, rfl, hA⟩
  have hB0 := (Below.refl w.heap.size w).alloc (Nat.le_refl _) (.cells #[.slice a l.length cap] 45)
  have hZ := fun w (h : TabAt w (.agg #[.slice a l.length cap]) l) => laws_szTable l _ 1048576 w h hl hok (by omega) (by omega)
  by_cases g : 1048576 - ((l.length : Int) + tsz l) < 0
  · rw [clip_n g] at hZ
    go_enter Try.func5, Try.ntmps5
    go_wp2_with fail
    refine (hZ _ (hv.below hB0)).mono ?_
    rintro e w1 ⟨rfl, hb1⟩
    go_wp2
    go_ret
    exact ⟨rfl, hB0.trans (hb1.mono (by simp))⟩
  rw [clip_p (by omega)] at hZ
  have hl1 : l.length ≤ 1048576 := by omega
  have hT := fun w (h : TabAt w (.agg #[.slice a l.length cap]) l) => laws_toTable l _ w h hl1
  have hI := fun v w (h : TabAt w v l) => impl_TurnAt l v n w h hok hl1
  have hS := fun v w (h : TabAt w v l) => spec_TurnAt l v n w h hok
  have hE := fun v v2 w (h : TabAt w v l) (h2 : TabAt w v2 l) => laws_eqTable l v v2 w h h2 hl1
  have hEq := fun w => laws_eqTurn (turnAtD l n) w
  generalize turnAtD l n = T at *
  obtain ⟨tA, tO, tS, tB⟩ := T
  simp only [TurnD.v] at hI hS hEq
  have x0 : (w.alloc (.cells #[.slice a l.length cap] 45)).cell? ⟨w.heap.size, 0, none⟩ = some (.slice a l.length cap) := by simp [go_sem]
  have g' : ¬ (1048576 - ((l.length : Int) + tsz l) < 0) := g
  go_enter Try.func5, Try.ntmps5
  go_wp2_with fail
  refine (hZ _ (hv.below hB0)).mono ?_
  rintro e w1 ⟨rfl, hb1⟩
  have hB1 := hB0.trans (hb1.mono (by simp))
  have x1 : w1.cell? ⟨w.heap.size, 0, none⟩ = some (.slice a l.length cap) := ((bcell hb1).1 _ _ (World.block_lt_of_cell? _ _ x0)).trans x0
  generalize ((l.length : Int) + tsz l) = sz at *
  clear hb1
  go_wp2_with fail
  refine (hT _ (hv.below hB1)).mono ?_
  rintro e w2 ⟨v2, rfl, hO2, hb2⟩
  have hB2 := hB1.trans (hb2.mono hB1.size)
  have x2 : w2.cell? ⟨w.heap.size, 0, none⟩ = some (.slice a l.length cap) := ((bcell hb2).1 _ _ (World.block_lt_of_cell? _ _ x1)).trans x1
  have hA2 := hO2.tab
  clear hb2 hO2
  go_wp2_with fail
  refine (hS v2 _ hA2).mono ?_
  rintro e w3 ⟨rfl, hb3⟩
  have hB3 := hB2.trans (hb3.mono hB2.size)
  have x3 : w3.cell? ⟨w.heap.size, 0, none⟩ = some (.slice a l.length cap) := ((bcell hb3).1 _ _ (World.block_lt_of_cell? _ _ x2)).trans x2
  clear hb3 hA2
  have hB3a : Below w.heap.size w (w3.alloc (.cells #[.int .i64 tA, .int .i64 tO, .int .i64 tS, .string tB] 32)) := hB3.alloc hB3.size _
  have x3a : (w3.alloc (.cells #[.int .i64 tA, .int .i64 tO, .int .i64 tS, .string tB] 32)).cell? ⟨w.heap.size, 0, none⟩ = some (.slice a l.length cap) := ((bcell ((Below.refl w3.heap.size w3).alloc (Nat.le_refl _) _)).1 _ _ (World.block_lt_of_cell? _ _ x3)).trans x3
  have p0 : (w3.alloc (.cells #[.int .i64 tA, .int .i64 tO, .int .i64 tS, .string tB] 32)).cell? ⟨w3.heap.size, 0, none⟩ = some (.int .i64 tA) := by simp [go_sem]
  have p1 : (w3.alloc (.cells #[.int .i64 tA, .int .i64 tO, .int .i64 tS, .string tB] 32)).cell? ⟨w3.heap.size, 1, none⟩ = some (.int .i64 tO) := by simp [go_sem]
  have p2 : (w3.alloc (.cells #[.int .i64 tA, .int .i64 tO, .int .i64 tS, .string tB] 32)).cell? ⟨w3.heap.size, 2, none⟩ = some (.int .i64 tS) := by simp [go_sem]
  have p3 : (w3.alloc (.cells #[.int .i64 tA, .int .i64 tO, .int .i64 tS, .string tB] 32)).cell? ⟨w3.heap.size, 3, none⟩ = some (.string tB) := by simp [go_sem]
  go_wp2_with fail
  refine (hT _ (hv.below hB3a)).mono ?_
  rintro e w4 ⟨v4, rfl, hO4, hb4⟩
  have hB4 := hB3a.trans (hb4.mono hB3a.size)
  have x4 : w4.cell? ⟨w.heap.size, 0, none⟩ = some (.slice a l.length cap) := ((bcell hb4).1 _ _ (World.block_lt_of_cell? _ _ x3a)).trans x3a
  have P0 := ((bcell hb4).1 _ _ (World.block_lt_of_cell? _ _ p0)).trans p0
  have P1 := ((bcell hb4).1 _ _ (World.block_lt_of_cell? _ _ p1)).trans p1
  have P2 := ((bcell hb4).1 _ _ (World.block_lt_of_cell? _ _ p2)).trans p2
  have P3 := ((bcell hb4).1 _ _ (World.block_lt_of_cell? _ _ p3)).trans p3
  have hA4 := hO4.tab
  obtain ⟨g4, rfl, _, _, _⟩ := hO4
  clear hb4
  have hB5 : Below w.heap.size w (w4.alloc (.cells #[.slice (some ⟨g4, 0, none⟩) l.length l.length] 25)) := hB4.alloc hB4.size _
  have hb5 : Below w4.heap.size w4 (w4.alloc (.cells #[.slice (some ⟨g4, 0, none⟩) l.length l.length] 25)) := (Below.refl w4.heap.size w4).alloc (Nat.le_refl _) _
  have hA5 := hA4.below hb5
  have x5 := ((bcell hb5).1 _ _ (World.block_lt_of_cell? _ _ x4)).trans x4
  have y5 : (w4.alloc (.cells #[.slice (some ⟨g4, 0, none⟩) l.length l.length] 25)).cell? ⟨w4.heap.size, 0, none⟩ = some (.slice (some ⟨g4, 0, none⟩) l.length l.length) := by simp [go_sem]
  have Q0 := ((bcell hb5).1 _ _ (World.block_lt_of_cell? _ _ P0)).trans P0
  have Q1 := ((bcell hb5).1 _ _ (World.block_lt_of_cell? _ _ P1)).trans P1
  have Q2 := ((bcell hb5).1 _ _ (World.block_lt_of_cell? _ _ P2)).trans P2
  have Q3 := ((bcell hb5).1 _ _ (World.block_lt_of_cell? _ _ P3)).trans P3
  go_wp2_with fail
  refine (hI _ _ hA5).mono ?_
  rintro e w6 ⟨rfl, hb6⟩
  have hB6' := hB5.trans (hb6.mono hB5.size)
  have x6' := ((bcell hb6).1 _ _ (World.block_lt_of_cell? _ _ x5)).trans x5
  have y6' := ((bcell hb6).1 _ _ (World.block_lt_of_cell? _ _ y5)).trans y5
  have R0' := ((bcell hb6).1 _ _ (World.block_lt_of_cell? _ _ Q0)).trans Q0
  have R1' := ((bcell hb6).1 _ _ (World.block_lt_of_cell? _ _ Q1)).trans Q1
  have R2' := ((bcell hb6).1 _ _ (World.block_lt_of_cell? _ _ Q2)).trans Q2
  have R3' := ((bcell hb6).1 _ _ (World.block_lt_of_cell? _ _ Q3)).trans Q3
  have hA6' := hA5.below hb6
  clear hb6 hA5 hA4 x0 x1 x2 x3 x4 x5 y5 P0 P1 P2 P3 Q0 Q1 Q2 Q3 p0 p1 p2 p3 x3a hb5
  generalize w4.heap.size = b4 at *
  generalize w3.heap.size = b3 at *
  have hb7 : Below w6.heap.size w6 (w6.alloc (.cells #[.int .i64 tA, .int .i64 tO, .int .i64 tS, .string tB] 32)) := (Below.refl w6.heap.size w6).alloc (Nat.le_refl _) _
  have hB7 := hB6'.trans (hb7.mono hB6'.size)
  have R0 := ((bcell hb7).1 _ _ (World.block_lt_of_cell? _ _ R0')).trans R0'
  have R1 := ((bcell hb7).1 _ _ (World.block_lt_of_cell? _ _ R1')).trans R1'
  have R2 := ((bcell hb7).1 _ _ (World.block_lt_of_cell? _ _ R2')).trans R2'
  have R3 := ((bcell hb7).1 _ _ (World.block_lt_of_cell? _ _ R3')).trans R3'
  have x7 := ((bcell hb7).1 _ _ (World.block_lt_of_cell? _ _ x6')).trans x6'
  have y7 := ((bcell hb7).1 _ _ (World.block_lt_of_cell? _ _ y6')).trans y6'
  have hA7 := hA6'.below hb7
  have k0 : (w6.alloc (.cells #[.int .i64 tA, .int .i64 tO, .int .i64 tS, .string tB] 32)).cell? ⟨w6.heap.size, 0, none⟩ = some (.int .i64 tA) := by simp [go_sem]
  have k1 : (w6.alloc (.cells #[.int .i64 tA, .int .i64 tO, .int .i64 tS, .string tB] 32)).cell? ⟨w6.heap.size, 1, none⟩ = some (.int .i64 tO) := by simp [go_sem]
  have k2 : (w6.alloc (.cells #[.int .i64 tA, .int .i64 tO, .int .i64 tS, .string tB] 32)).cell? ⟨w6.heap.size, 2, none⟩ = some (.int .i64 tS) := by simp [go_sem]
  have k3 : (w6.alloc (.cells #[.int .i64 tA, .int .i64 tO, .int .i64 tS, .string tB] 32)).cell? ⟨w6.heap.size, 3, none⟩ = some (.string tB) := by simp [go_sem]
  clear hb7 R0' R1' R2' R3' x6' y6' hA6'
  go_wp2_with fail
  refine (hEq _).mono ?_
  rintro e w8 ⟨rfl, hb8⟩
  have hB8 := hB7.trans (hb8.mono hB7.size)
  have x8 := ((bcell hb8).1 _ _ (World.block_lt_of_cell? _ _ x7)).trans x7
  have y8 := ((bcell hb8).1 _ _ (World.block_lt_of_cell? _ _ y7)).trans y7
  have hA8 := hA7.below hb8
  clear hb8 hA7 x7 y7 k0 k1 k2 k3 R0 R1 R2 R3
  have hD : Below w8.heap.size w8 w8.drew := ⟨rfl, rfl, rfl, Nat.le_refl _, fun _ _ => rfl⟩
  have hBD : Below w.heap.size w w8.drew := hB8.trans (hD.mono hB8.size)
  have hAD := hA8.below hD
  have xD : w8.drew.cell? ⟨w.heap.size, 0, none⟩ = some (.slice a l.length cap) := x8
  have yD : w8.drew.cell? ⟨b4, 0, none⟩ = some (.slice (some ⟨g4, 0, none⟩) l.length l.length) := y8
  have hvD := hv.below hBD
  clear hI hS hZ hB1 hB2 hB3 hB4 hB5 hB7 hB8 hD hA8 hEq
  go_wp2_with fail
  go_region_held3 (fun w' => w'.cell? ⟨b4, 0, none⟩ = some (.slice (some ⟨g4, 0, none⟩) l.length l.length) ∧ w'.cell? ⟨w.heap.size, 0, none⟩ = some (.slice a l.length cap)) (go_keep) (first | (go_at_call 24; refine (hT _ hvD).mono ?_; rintro e w9 ⟨v9, rfl, hO9, hb9⟩; have c9 := ((bcell hb9).1 _ _ (World.block_lt_of_cell? _ _ yD)).trans yD; have d9 := ((bcell hb9).1 _ _ (World.block_lt_of_cell? _ _ xD)).trans xD; have hA9 := hAD.below hb9; have hT9 := hO9.tab; obtain ⟨g9, rfl, _, _, _⟩ := hO9) | (go_at_call 26; refine (hE _ _ _ hA9 hT9).mono ?_; rintro e w10 ⟨rfl, hb10⟩; have c10 := ((bcell hb10).1 _ _ (World.block_lt_of_cell? _ _ c9)).trans c9; have d10 := ((bcell hb10).1 _ _ (World.block_lt_of_cell? _ _ d9)).trans d9))
  go_wp2
  go_ret
  exact ⟨rfl, hBD.trans ((hb9.trans (hb10.mono hb9.size)).mono hBD.size)⟩
end Go.Proofs.Ytjglkodenegcnaa.turnAt
