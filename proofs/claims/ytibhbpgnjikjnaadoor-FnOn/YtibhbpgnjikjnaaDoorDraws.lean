/- Contracts of the model's draws: whatever the bytes, each draw gives some number below its bound and writes into its own source alone. -/
import Derived.Test.YtibhbpgnjikjnaaDoorBasic
import Derived.RegionTactic
import Derived.BigRegion
import Derived.OpenShut
import Derived.Lib.BufferOwn
import Derived.Lib.HexFns2
import Derived.Deep.AppendLies
namespace Go.Proofs.YtibhbpgnjikjnaaDoor
open Go.RowKit

/-- a source of draws in block p, over a row of bytes that lies elsewhere. -/
def SrcAt (p : Nat) (a : Option Addr) (len cap : Nat) (zs : List Int) (w : World) : Prop :=
  ∃ (k : Nat) (mix sz : Int), k ≤ len ∧ (Lit.int .u64 mix).wf = true ∧ (Lit.int .i64 sz).wf = true ∧
    w.cell? ⟨p, 0, none⟩ = some (.slice a len cap) ∧ w.cell? ⟨p, 1, none⟩ = some (.int .i64 k) ∧ w.cell? ⟨p, 2, none⟩ = some (.int .u64 mix) ∧ w.cell? ⟨p, 3, none⟩ = some (.int .i64 sz) ∧
    (∀ i, i < 4 → w.frozen? ⟨p, i, none⟩ = false) ∧
    (len = 0 ∨ ∃ b o, a = some ⟨b, o, none⟩ ∧ b < p ∧ ∀ i, i < len → ∃ z : Int, w.cell? ⟨b, o + i, none⟩ = some (.int .u8 z) ∧ 0 ≤ z ∧ z ≤ 255) ∧ len ≤ 1048576 ∧ zs = []

theorem set_twice (w : World) (b o : Nat) (v v' : Value) : (w.setCell ⟨b, o, none⟩ v).setCell ⟨b, o, none⟩ v' = w.setCell ⟨b, o, none⟩ v' := by
  unfold World.setCell
  congr 1
  apply Array.ext_getElem?
  intro i
  simp only [Array.getElem?_modify]
  by_cases h : b = i
  · subst h
    simp only [if_true]
    cases w.heap[b]? with
    | none => rfl
    | some x => cases x <;> simp
  · simp [h]
/-- the end of a draw. -/
theorem src_end {p : Nat} {a : Option Addr} {len cap : Nat} {zs : List Int} {w W : World} {k : Nat} {mix sz : Int} (k1 : k ≤ len) (wm : (Lit.int .u64 mix).wf = true) (ws : (Lit.int .i64 sz).wf = true)
    (hg : w.grownBy W (some p)) (c0 : w.cell? ⟨p, 0, none⟩ = some (.slice a len cap)) (c3 : w.cell? ⟨p, 3, none⟩ = some (.int .i64 sz)) (hf : ∀ i, i < 4 → w.frozen? ⟨p, i, none⟩ = false)
    (hrow : len = 0 ∨ ∃ b o, a = some ⟨b, o, none⟩ ∧ b < p ∧ ∀ i, i < len → ∃ z : Int, w.cell? ⟨b, o + i, none⟩ = some (.int .u8 z) ∧ 0 ≤ z ∧ z ≤ 255) (hl : len ≤ 1048576) (hz : zs = [])
    (d0 : W.cell? ⟨p, 0, none⟩ = w.cell? ⟨p, 0, none⟩) (d1 : W.cell? ⟨p, 1, none⟩ = some (.int .i64 k)) (d2 : W.cell? ⟨p, 2, none⟩ = some (.int .u64 mix)) (d3 : W.cell? ⟨p, 3, none⟩ = w.cell? ⟨p, 3, none⟩)
    (df : ∀ i, W.frozen? ⟨p, i, none⟩ = w.frozen? ⟨p, i, none⟩) : SrcAt p a len cap zs W := by
  refine ⟨k, mix, sz, k1, wm, ws, by rw [d0, c0], d1, d2, by rw [d3, c3], fun i hi => by rw [df, hf i hi], ?_, hl, hz⟩
  rcases hrow with h | ⟨b, o, ha, hne, hc⟩
  · exact .inl h
  · refine .inr ⟨b, o, ha, hne, fun i hi => ?_⟩
    obtain ⟨z, h, z0, z1⟩ := hc i hi
    exact ⟨z, hg.cell h (by simp; omega), z0, z1⟩
theorem val_bd (x most : Int) (h : 1 < most) (h2 : most ≤ 4000000000) : 0 ≤ wrap64 ((IntKind.u64.wrap x).tmod most) ∧ wrap64 ((IntKind.u64.wrap x).tmod most) < most := by
  have ⟨a, _⟩ := bounds_u64 (wf_wrap .u64 x)
  rw [Int.tmod_eq_emod_of_nonneg a]
  have b := Int.emod_nonneg (IntKind.u64.wrap x) (b := most) (by omega)
  have c := Int.emod_lt_of_pos (IntKind.u64.wrap x) (b := most) (by omega)
  unfold wrap64
  omega
theorem ne_off {p i j : Nat} (h : i ≠ j) : (⟨p, i, none⟩ : Addr) ≠ ⟨p, j, none⟩ := fun e => h (by injection e)
theorem cell_heap {W w : World} (h : W.heap = w.heap) (x : Addr) : W.cell? x = w.cell? x := by unfold World.cell?; rw [h]
theorem frozen_heap {W w : World} (h : W.heap = w.heap) (x : Addr) : W.frozen? x = w.frozen? x := by unfold World.frozen?; rw [h]
/-- the end of a draw, in the world that the walk leaves. -/
theorem src_fin {p : Nat} {a : Option Addr} {len cap : Nat} {zs : List Int} {w w1 W : World} {k : Nat} {mix sz : Int} {u : Value} (k1 : k ≤ len) (wm : (Lit.int .u64 mix).wf = true) (ws : (Lit.int .i64 sz).wf = true)
    (hg : w.grownBy w1 (some p)) (c0 : w.cell? ⟨p, 0, none⟩ = some (.slice a len cap)) (c3 : w.cell? ⟨p, 3, none⟩ = some (.int .i64 sz)) (hf : ∀ i, i < 4 → w.frozen? ⟨p, i, none⟩ = false)
    (hrow : len = 0 ∨ ∃ b o, a = some ⟨b, o, none⟩ ∧ b < p ∧ ∀ i, i < len → ∃ z : Int, w.cell? ⟨b, o + i, none⟩ = some (.int .u8 z) ∧ 0 ≤ z ∧ z ≤ 255) (hl : len ≤ 1048576) (hz : zs = [])
    (d0 : w1.cell? ⟨p, 0, none⟩ = w.cell? ⟨p, 0, none⟩) (d1 : w1.cell? ⟨p, 1, none⟩ = some (.int .i64 k)) (d2 : w1.cell? ⟨p, 2, none⟩ = some u) (d3 : w1.cell? ⟨p, 3, none⟩ = w.cell? ⟨p, 3, none⟩)
    (df : ∀ i, w1.frozen? ⟨p, i, none⟩ = w.frozen? ⟨p, i, none⟩)
    (hh : W.heap = (w1.setCell ⟨p, 2, none⟩ (.int .u64 mix)).heap) (ho : W.os = w1.os) (ht : W.tape = w1.tape) (hp : W.output = w1.output) : SrcAt p a len cap zs W ∧ w.grownBy W (some p) := by
  have g2 := Lib.grownBy_setB hg 2 (.int .u64 mix)
  have gW : w.grownBy W (some p) := ⟨ho.trans hg.os, ht.trans hg.tape, hp.trans hg.output, by rw [hh]; exact g2.size, fun x hx hne => by rw [hh]; exact g2.block x hx hne⟩
  refine ⟨src_end k1 wm ws gW c0 c3 hf hrow hl hz ?_ ?_ ?_ ?_ ?_, gW⟩
  · rw [cell_heap hh, World.cell?_setCell_other _ _ _ _ (ne_off (by omega)), d0]
  · rw [cell_heap hh, World.cell?_setCell_other _ _ _ _ (ne_off (by omega)), d1]
  · rw [cell_heap hh, World.cell?_setCell_same _ _ _ d2]
  · rw [cell_heap hh, World.cell?_setCell_other _ _ _ _ (ne_off (by omega)), d3]
  · intro i
    rw [frozen_heap hh, World.frozen?_setCell, df]

set_option maxHeartbeats 1000000 in
theorem src_n (p : Nat) (a : Option Addr) (len cap : Nat) (zs : List Int) (most : Int) (w : World) (hS : SrcAt p a len cap zs w) (h1 : 1 ≤ most) (h2 : most ≤ 4000000000) :
    Calls Tryd.prog 69 #[.pointer (some ⟨p, 0, none⟩), .int .i64 most] w fun e w' => ∃ v : Int, e = .returned (.int .i64 v) ∧ 0 ≤ v ∧ v < most ∧ SrcAt p a len cap zs w' ∧ w.grownBy w' (some p) := by
  by_cases hm : most ≤ 1
  · go_enter Tryd.func69, Tryd.ntmps69
    go_wp2
    go_ret
    exact ⟨0, rfl, by omega, by omega, hS, World.grownBy.refl _ _⟩
  obtain ⟨k, mix, sz, k1, wm, ws, c0, c1, c2, c3, hf, hrow, hl, hz⟩ := hS
  have f1 := hf 1 (by omega)
  have f2 := hf 2 (by omega)
  have hss := fun (W : World) v v' => set_twice W p 2 v v'
  by_cases hlt : k < len
  · rcases hrow with h | ⟨b, o, rfl, hne, hc⟩
    · omega
    obtain ⟨z, hz1, z0, z1⟩ := hc k hlt
    have hne' : p ≠ b := by omega
    have hR : Hid (len = 0 ∨ ∃ b' o', some (⟨b, o, none⟩ : Addr) = some ⟨b', o', none⟩ ∧ b' < p ∧ ∀ i, i < len → ∃ z : Int, w.cell? ⟨b', o' + i, none⟩ = some (.int .u8 z) ∧ 0 ≤ z ∧ z ≤ 255) := .inr ⟨b, o, rfl, hne, hc⟩
    have HF : Hid (∀ i, i < 4 → w.frozen? ⟨p, i, none⟩ = false) := hf
    clear hc hf
    go_enter Tryd.func69, Tryd.ntmps69
    go_wp2
    go_quiet (fail)
    go_wp2
    go_quiet (fail)
    go_wp2
    go_region
    go_wp2
    go_region
    go_wp2
    go_region
    go_wp2
    go_ret
    refine ⟨_, rfl, (val_bd _ most hm h2).1, (val_bd _ most hm h2).2, ?_⟩
    exact src_fin (w := w) (w1 := w.setCell ⟨p, 1, none⟩ (.int .i64 ((k : Int) + 1))) (k := k + 1) (by omega) (wf_bits .xor .u64 _ _) ws (Lib.grownBy_setB (World.grownBy.refl w (some p)) 1 _) c0 c3 HF.out hR.out hl hz
      (World.cell?_setCell_other _ _ _ _ (ne_off (by omega))) (by rw [World.cell?_setCell_same _ _ _ c1]; rfl) ((World.cell?_setCell_other _ _ _ _ (ne_off (by omega))).trans c2) (World.cell?_setCell_other _ _ _ _ (ne_off (by omega))) (fun _ => World.frozen?_setCell _ _ _ _) rfl rfl rfl rfl
  · have hR : Hid (len = 0 ∨ ∃ b o, a = some ⟨b, o, none⟩ ∧ b < p ∧ ∀ i, i < len → ∃ z : Int, w.cell? ⟨b, o + i, none⟩ = some (.int .u8 z) ∧ 0 ≤ z ∧ z ≤ 255) := hrow
    have HF : Hid (∀ i, i < 4 → w.frozen? ⟨p, i, none⟩ = false) := hf
    clear hrow hf
    go_enter Tryd.func69, Tryd.ntmps69
    go_wp2
    go_quiet (fail)
    go_wp2
    go_region
    go_wp2
    go_region
    go_wp2
    go_region
    go_wp2
    go_ret
    refine ⟨_, rfl, (val_bd _ most hm h2).1, (val_bd _ most hm h2).2, ?_⟩
    exact src_fin k1 (wf_bits .xor .u64 _ _) ws (World.grownBy.refl w (some p)) c0 c3 HF.out hR.out hl hz rfl c1 c2 rfl (fun _ => rfl) rfl rfl rfl rfl
set_option maxHeartbeats 400000 in
theorem src_one (p : Nat) (a : Option Addr) (len cap : Nat) (zs : List Int) (most : Int) (w : World) (hS : SrcAt p a len cap zs w) (h1 : 1 ≤ most) (h2 : most ≤ 4000000000) :
    Calls Tryd.prog 67 #[.pointer (some ⟨p, 0, none⟩), .int .i64 most] w fun e w' => ∃ v : Bool, e = .returned (.bool v) ∧ SrcAt p a len cap zs w' ∧ w.grownBy w' (some p) := by
  go_enter Tryd.func67, Tryd.ntmps67
  go_wp2_with fail
  refine (src_n p a len cap zs most _ hS h1 h2).mono ?_
  rintro e w1 ⟨v, rfl, v0, v1, hS1, hg⟩
  go_wp2
  go_ret
  exact ⟨_, rfl, hS1, hg⟩
theorem SrcAt.grown {p : Nat} {a : Option Addr} {len cap : Nat} {zs : List Int} {w w' : World} (h : SrcAt p a len cap zs w) (hb : Below w.heap.size w w') : SrcAt p a len cap zs w' := by
  obtain ⟨k, mix, sz, k1, wm, ws, c0, c1, c2, c3, hf, hrow, hl, hz⟩ := h
  have hp : p < w.heap.size := World.block_lt_of_cell? _ _ c0
  refine ⟨k, mix, sz, k1, wm, ws, by rw [hb.cell hp]; exact c0, by rw [hb.cell hp]; exact c1, by rw [hb.cell hp]; exact c2, by rw [hb.cell hp]; exact c3, fun i hi => by rw [hb.frozen hp]; exact hf i hi, ?_, hl, hz⟩
  rcases hrow with h | ⟨b, o, ha, hne, hc⟩
  · exact .inl h
  · refine .inr ⟨b, o, ha, hne, fun i hi => ?_⟩
    obtain ⟨z, h, z0, z1⟩ := hc i hi
    exact ⟨z, by rw [hb.cell (World.block_lt_of_cell? _ _ h)]; exact h, z0, z1⟩
theorem SrcAt.alloc {p : Nat} {a : Option Addr} {len cap : Nat} {zs : List Int} {w : World} (h : SrcAt p a len cap zs w) (o : Obj) : SrcAt p a len cap zs (w.alloc o) := h.grown ((Below.refl _ _).alloc (Nat.le_refl _) o)
theorem SrcAt.lt {p : Nat} {a : Option Addr} {len cap : Nat} {zs : List Int} {w : World} (h : SrcAt p a len cap zs w) : p < w.heap.size := by
  obtain ⟨k, mix, sz, k1, wm, ws, c0, _⟩ := h
  exact World.block_lt_of_cell? _ _ c0
/-- what a growth by the source's block keeps: every other old cell. -/
theorem gcell {W w1 : World} {p : Nat} (hg : W.grownBy w1 (some p)) : (∀ b o, b < W.heap.size → b ≠ p → w1.cell? ⟨b, o, none⟩ = W.cell? ⟨b, o, none⟩) ∧ (∀ b o, b < W.heap.size → b ≠ p → w1.frozen? ⟨b, o, none⟩ = W.frozen? ⟨b, o, none⟩) :=
  ⟨fun b o h hne => hg.cell_far ⟨b, o, none⟩ h (by simpa using hne), fun b o h hne => hg.frozen_far ⟨b, o, none⟩ h (by simpa using hne)⟩

theorem pick_int (w : World) (T : TypeId) (l : List Int) (i : Nat) (hi : i < l.length) : (w.alloc (.cells (l.map (Value.int .i64)).toArray T)).cell? ⟨w.heap.size, i, none⟩ = some (.int .i64 (l.getD i 0)) := by
  simp [List.getD, hi]
/-- a list of numbers that was made ahead of a draw, asked behind it. -/
theorem pick_after {w w1 : World} {p : Nat} {T : TypeId} (l : List Int) (hp : p < w.heap.size) (hg : (w.alloc (.cells (l.map (Value.int .i64)).toArray T)).grownBy w1 (some p)) {v : Int} (v0 : 0 ≤ v) (v1 : v < l.length) :
    ∃ x : Int, w1.cell? ⟨w.heap.size, v.toNat, none⟩ = some (.int .i64 x) :=
  ⟨_, hg.cell (pick_int w T l v.toNat (by omega)) (by simp; omega)⟩
theorem gtrans_alloc {w w1 : World} {p : Nat} {o : Obj} (hg : (w.alloc o).grownBy w1 (some p)) : w.grownBy w1 (some p) := (World.grownBy_alloc w o (some p)).trans hg

set_option maxHeartbeats 1000000 in
theorem src_edge (p : Nat) (a : Option Addr) (len cap : Nat) (zs : List Int) (w : World) (hS : SrcAt p a len cap zs w) :
    Calls Tryd.prog 68 #[.pointer (some ⟨p, 0, none⟩)] w fun e w' => ∃ v : Int, e = .returned (.int .i64 v) ∧ SrcAt p a len cap zs w' ∧ w.grownBy w' (some p) := by
  have hp := hS.lt
  go_enter Tryd.func68, Tryd.ntmps68
  go_wp2_with fail
  refine (src_n p a len cap zs 14 _ (hS.alloc _) (by omega) (by omega)).mono ?_
  rintro e w1 ⟨v, rfl, v0, v1, hS1, hg⟩
  obtain ⟨x, hx⟩ := pick_after [0, 1, -1, 2, 1000, 1001, 2147483648, 2147483647, -2147483648, 4611686018427387904, 9223372036854775807, -9223372036854775808, 1000000, 1000001] hp hg v0 (by simpa using v1)
  have hG := gtrans_alloc hg
  clear hg
  go_wp2
  go_ret
  exact ⟨_, rfl, hS1, hG⟩

set_option maxHeartbeats 1000000 in
theorem src_dayNumber (p : Nat) (a : Option Addr) (len cap : Nat) (zs : List Int) (w : World) (hS : SrcAt p a len cap zs w) :
    Calls Tryd.prog 47 #[.pointer (some ⟨p, 0, none⟩)] w fun e w' => ∃ v : Int, e = .returned (.int .i64 v) ∧ SrcAt p a len cap zs w' ∧ w.grownBy w' (some p) := by
  go_enter Tryd.func47, Tryd.ntmps47
  go_wp2_with fail
  refine (src_one p a len cap zs 4 _ hS (by omega) (by omega)).mono ?_
  rintro e w1 ⟨v, rfl, hS1, hg1⟩
  cases v
  · go_wp2_with fail
    refine (src_n p a len cap zs 3650000 _ hS1 (by omega) (by omega)).mono ?_
    rintro e w2 ⟨v, rfl, v0, v1, hS2, hg2⟩
    go_wp2
    go_ret
    exact ⟨_, rfl, hS2, hg1.trans hg2⟩
  · go_wp2_with fail
    refine (src_edge p a len cap zs _ hS1).mono ?_
    rintro e w2 ⟨u, rfl, hS2, hg2⟩
    go_wp2_with fail
    refine (src_n p a len cap zs 6 _ (hS2.alloc _) (by omega) (by omega)).mono ?_
    rintro e w3 ⟨v, rfl, v0, v1, hS3, hg3⟩
    obtain ⟨x, hx⟩ := pick_after [-719162, -719163, 2932896, 2932897, 0, u] hS2.lt hg3 v0 (by simpa using v1)
    have hG := gtrans_alloc hg3
    clear hg3
    go_wp2
    go_ret
    exact ⟨_, rfl, hS3, hg1.trans (hg2.trans hG)⟩
/-- a row of bytes that came in. -/
def RowOf (w : World) (a : Option Addr) (len : Nat) : Prop := len = 0 ∨ ∃ b o, a = some ⟨b, o, none⟩ ∧ ∀ i, i < len → ∃ z : Int, w.cell? ⟨b, o + i, none⟩ = some (.int .u8 z) ∧ 0 ≤ z ∧ z ≤ 255
theorem RowOf.grown {w w' : World} {a : Option Addr} {len : Nat} (h : RowOf w a len) (hb : Below w.heap.size w w') : RowOf w' a len := by
  rcases h with h | ⟨b, o, ha, hc⟩
  · exact .inl h
  · refine .inr ⟨b, o, ha, fun i hi => ?_⟩
    obtain ⟨z, h, z0, z1⟩ := hc i hi
    exact ⟨z, by rw [hb.cell (World.block_lt_of_cell? _ _ h)]; exact h, z0, z1⟩
theorem src_mk {w : World} {a : Option Addr} {len cap : Nat} {mix sz : Int} (n : Nat) (h : RowOf w a len) (hl : len ≤ 1048576) (wm : (Lit.int .u64 mix).wf = true) (ws : (Lit.int .i64 sz).wf = true) :
    SrcAt w.heap.size a len cap [] ((w.alloc (.cells #[.slice a len cap, .int .i64 0, .int .u64 mix, .int .i64 sz] 82)).drewN n) ∧ Below w.heap.size w ((w.alloc (.cells #[.slice a len cap, .int .i64 0, .int .u64 mix, .int .i64 sz] 82)).drewN n) := by
  have hb := below1 w (.cells #[.slice a len cap, .int .i64 0, .int .u64 mix, .int .i64 sz] 82) n
  refine ⟨⟨0, mix, sz, by omega, wm, ws, by simp, by simp, by simp, by simp, fun i hi => by simp, ?_, hl, rfl⟩, hb⟩
  rcases h with h | ⟨b, o, ha, hc⟩
  · exact .inl h
  · by_cases h0 : len = 0
    · exact .inl h0
    · refine .inr ⟨b, o, ha, ?_, fun i hi => ?_⟩
      · obtain ⟨z, h, _⟩ := hc 0 (by omega)
        exact World.block_lt_of_cell? _ _ h
      · obtain ⟨z, h, z0, z1⟩ := hc i hi
        exact ⟨z, by rw [hb.cell (World.block_lt_of_cell? _ _ h)]; exact h, z0, z1⟩

theorem set_own (w : World) (c : Array Value) (t : TypeId) (m i : Nat) (v : Value) : ((w.alloc (.cells c t)).drewN m).setCell ⟨w.heap.size, i, none⟩ v = (w.alloc (.cells (c.setIfInBounds i v) t)).drewN m := by
  have : ((w.alloc (.cells c t)).drewN m).setCell ⟨w.heap.size, i, none⟩ v = ((w.alloc (.cells c t)).setCell ⟨w.heap.size, i, none⟩ v).drewN m := rfl
  rw [this, World.setCell_alloc_at _ _ _ _ _ rfl]
theorem wf_small (n : Int) (h0 : 0 ≤ n) (h1 : n ≤ 4000000000) : (Lit.int .i64 n).wf = true := by
  simp [Lit.wf, IntKind.min, IntKind.max, IntKind.signed, IntKind.bits]; omega
set_option maxHeartbeats 1000000 in
theorem src_source (a : Option Addr) (len cap : Nat) (w : World) (h : RowOf w a len) (hl : len ≤ 1048576) :
    Calls Tryd.prog 46 #[.slice a len cap] w fun e w' => e = .returned (.pointer (some ⟨w.heap.size, 0, none⟩)) ∧ SrcAt w.heap.size a len cap [] w' ∧ Below w.heap.size w w' := by
  have H : Hid (RowOf w a len) := h
  clear h
  go_enter Tryd.func46, Tryd.ntmps46
  go_wp2
  go_loopw [4] (fun i wr => ∃ (k n : Nat) (mix : Int), k ≤ len ∧ k ≤ 64 ∧ i = .int .i64 k ∧ (Lit.int .u64 mix).wf = true ∧ wr = (w.alloc (.cells #[.slice a len cap, .int .i64 0, .int .u64 mix, .int .i64 0] 82)).drewN n) (fun i _ => 64 - (intOf i).toNat)
  case atStart => exact ⟨0, 0, _, by omega, by omega, rfl, by decide, rfl⟩
  case round =>
    obtain ⟨k, n, mix, hk, hk2, rfl, wm, rfl⟩ := hrel
    by_cases hlt : k < len ∧ k < 64
    · obtain ⟨l1, l2⟩ := hlt
      rcases H.out with h0 | ⟨b, o, rfl, hc⟩
      · omega
      obtain ⟨z, hz, z0, z1⟩ := hc k l1
      have hbl := World.block_lt_of_cell? _ _ hz
      have hbl' : b ≠ w.heap.size := by simp at hbl; omega
      have hz' : ∀ ob, (w.alloc ob).cell? ⟨b, o + k, none⟩ = some (.int .u8 z) := fun ob => by rw [((Below.refl w.heap.size w).alloc (Nat.le_refl _) ob).cell hbl]; exact hz
      clear hc hz
      go_wp2
      go_region
      go_wp2
      go_roundw
      case rel => exact ⟨k + 1, n + 1, _, by omega, by omega, by go_num, wf_wrap .u64 _, set_own _ _ _ _ _ _⟩
      case measure => simp [intOf]; omega
    · have fin : ∀ (W : World) (sz : Int), (Lit.int .i64 sz).wf = true → W = (w.alloc (.cells #[.slice a len cap, .int .i64 0, .int .u64 mix, .int .i64 sz] 82)).drewN n → SrcAt w.heap.size a len cap [] W ∧ Below w.heap.size w W := fun W sz ws e => by
        subst e; exact src_mk n H.out hl wm ws
      have FIN : Hid (∀ (W : World) (sz : Int), (Lit.int .i64 sz).wf = true → W = (w.alloc (.cells #[.slice a len cap, .int .i64 0, .int .u64 mix, .int .i64 sz] 82)).drewN n → SrcAt w.heap.size a len cap [] W ∧ Below w.heap.size w W) := fin
      clear fin
      by_cases l1 : k < len
      · have l2 : ¬ k < 64 := by omega
        go_wp2
        all_goals go_ret
        · exact ⟨rfl, FIN.out _ 12 (by decide) (by rw [set_own, set_own]; rfl)⟩
        · exact ⟨rfl, FIN.out _ ((len : Int) / 20) (wf_small _ (by omega) (by omega)) (set_own _ _ _ _ _ _)⟩
      · go_wp2
        go_ret
        exact ⟨rfl, FIN.out _ ((len : Int) / 20) (wf_small _ (by omega) (by omega)) (set_own _ _ _ _ _ _)⟩

set_option maxHeartbeats 400000 in
theorem draw_DateOf (a : Option Addr) (len cap : Nat) (w : World) (h : RowOf w a len) (hl : len ≤ 1048576) :
    Calls Tryd.prog 14 #[.slice a len cap] w fun e w' => ∃ n : Int, e = .returned (.int .i64 n) ∧ Below w.heap.size w w' := by
  go_enter Tryd.func14, Tryd.ntmps14
  go_wp2_with fail
  refine (src_source a len cap _ h hl).mono ?_
  rintro e w1 ⟨rfl, hS, hb⟩
  go_wp2_with fail
  refine (src_dayNumber _ a len cap [] _ hS).mono ?_
  rintro e w2 ⟨n, rfl, hS2, hg⟩
  go_wp2
  go_ret
  exact ⟨_, rfl, hb.grown hg hb.size (fun k hk => by injection hk with hk; omega)⟩
end Go.Proofs.YtibhbpgnjikjnaaDoor
