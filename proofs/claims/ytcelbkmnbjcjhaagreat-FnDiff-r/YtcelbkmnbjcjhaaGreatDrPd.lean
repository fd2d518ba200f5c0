/- Packed: Dr0 RowKitP Dr1 Dr2. -/
import Derived.Test.YtcelbkmnbjcjhaaGreatBaseAd
import Derived.RegionTactic
import Derived.BigRegion
import Derived.OpenShut
import Derived.Lib.BufferOwn
import Derived.Lib.HexFns2
import Derived.Deep.AppendLies
namespace Go.Proofs.YtcelbkmnbjcjhaaGreat
open Go.RowKit

/-- a source of draws in block p, over a row of bytes that lies elsewhere. -/
def SrcAt (p : Nat) (a : Option Addr) (len cap : Nat) (zs : List Int) (w : World) : Prop :=
 ∃ (k : Nat) (mix sz : Int), k ≤ len ∧ (Lit.int .u64 mix).wf = true ∧ (Lit.int .i64 sz).wf = true ∧
  w.cell? ⟨p, 0, none⟩ = some (.slice a len cap) ∧ w.cell? ⟨p, 1, none⟩ = some (.int .i64 k) ∧ w.cell? ⟨p, 2, none⟩ = some (.int .u64 mix) ∧ w.cell? ⟨p, 3, none⟩ = some (.int .i64 sz) ∧
  (∀ i, i < 4 → w.frozen? ⟨p, i, none⟩ = false) ∧
  (len = 0 ∨ ∃ b o, a = some ⟨b, o, none⟩ ∧ b < p ∧ ∀ i, i < len → ∃ z : Int, w.cell? ⟨b, o + i, none⟩ = some (.int .u8 z) ∧ 0 ≤ z ∧ z ≤ 255) ∧ len ≤ 1048576 ∧ zs = []

theorem set_twice (w : World) (b o : Nat) (v v' : Value) : (w.setCell ⟨b, o, none⟩ v).setCell ⟨b, o, none⟩ v' = w.setCell ⟨b, o, none⟩ v' := by
 unfold World.setCell
 congr 1
 apply Array.ext_getElem?
 intro i
 simp only [Array.getElem?_modify]
 by_cases h : b = i
 ·
  subst h
  simp only [if_true]
  cases w.heap[b]? with
  | none => rfl
  | some x => cases x <;> simp
 ·
  simp [h]
/-- the end of a draw. -/
theorem src_end {p : Nat} {a : Option Addr} {len cap : Nat} {zs : List Int} {w W : World} {k : Nat} {mix sz : Int} (k1 : k ≤ len) (wm : (Lit.int .u64 mix).wf = true) (ws : (Lit.int .i64 sz).wf = true)
  (hg : w.grownBy W (some p)) (c0 : w.cell? ⟨p, 0, none⟩ = some (.slice a len cap)) (c3 : w.cell? ⟨p, 3, none⟩ = some (.int .i64 sz)) (hf : ∀ i, i < 4 → w.frozen? ⟨p, i, none⟩ = false)
  (hrow : len = 0 ∨ ∃ b o, a = some ⟨b, o, none⟩ ∧ b < p ∧ ∀ i, i < len → ∃ z : Int, w.cell? ⟨b, o + i, none⟩ = some (.int .u8 z) ∧ 0 ≤ z ∧ z ≤ 255) (hl : len ≤ 1048576) (hz : zs = [])
  (d0 : W.cell? ⟨p, 0, none⟩ = w.cell? ⟨p, 0, none⟩) (d1 : W.cell? ⟨p, 1, none⟩ = some (.int .i64 k)) (d2 : W.cell? ⟨p, 2, none⟩ = some (.int .u64 mix)) (d3 : W.cell? ⟨p, 3, none⟩ = w.cell? ⟨p, 3, none⟩)
  (df : ∀ i, W.frozen? ⟨p, i, none⟩ = w.frozen? ⟨p, i, none⟩) : SrcAt p a len cap zs W := by
 refine ⟨k, mix, sz, k1, wm, ws, by rw [d0, c0], d1, d2, by rw [d3, c3], fun i hi => by rw [df, hf i hi], ?_, hl, hz⟩
 rcases hrow with h | ⟨b, o, ha, hne, hc⟩
 ·
  exact .inl h
 ·
  refine .inr ⟨b, o, ha, hne, fun i hi => ?_⟩
  obtain ⟨z, h, z0, z1⟩ := hc i hi
  exact ⟨z, hg.cell h (by simp; omega), z0, z1⟩
theorem val_bd (x most : Int) (h : 1 < most) (h2 : most ≤ 4000000000) : 0 ≤ wrap64 ((IntKind.u64.wrap x).tmod most) ∧ wrap64 ((IntKind.u64.wrap x).tmod most) < most := by
 have ⟨a, _⟩ := bounds_u64 (wf_wrap .u64 x)
 rw [Int.tmod_eq_emod_of_nonneg a]
 have b := Int.emod_nonneg (IntKind.u64.wrap x) (b := most) (by omega)
 have c := Int.emod_lt_of_pos (IntKind.u64.wrap x) (b := most) (by omega)
 unfold wrap64
 omega
theorem ne_off {p i j : Nat} (h : i ≠ j) : (⟨p, i, none⟩ : Addr) ≠ ⟨p, j, none⟩ := fun e => h (by injection e)
theorem cell_heap {W w : World} (h : W.heap = w.heap) (x : Addr) : W.cell? x = w.cell? x := by unfold World.cell?; rw [h]
theorem frozen_heap {W w : World} (h : W.heap = w.heap) (x : Addr) : W.frozen? x = w.frozen? x := by unfold World.frozen?; rw [h]
/-- the end of a draw, in the world that the walk leaves. -/
theorem src_fin {p : Nat} {a : Option Addr} {len cap : Nat} {zs : List Int} {w w1 W : World} {k : Nat} {mix sz : Int} {u : Value} (k1 : k ≤ len) (wm : (Lit.int .u64 mix).wf = true) (ws : (Lit.int .i64 sz).wf = true)
  (hg : w.grownBy w1 (some p)) (c0 : w.cell? ⟨p, 0, none⟩ = some (.slice a len cap)) (c3 : w.cell? ⟨p, 3, none⟩ = some (.int .i64 sz)) (hf : ∀ i, i < 4 → w.frozen? ⟨p, i, none⟩ = false)
  (hrow : len = 0 ∨ ∃ b o, a = some ⟨b, o, none⟩ ∧ b < p ∧ ∀ i, i < len → ∃ z : Int, w.cell? ⟨b, o + i, none⟩ = some (.int .u8 z) ∧ 0 ≤ z ∧ z ≤ 255) (hl : len ≤ 1048576) (hz : zs = [])
  (d0 : w1.cell? ⟨p, 0, none⟩ = w.cell? ⟨p, 0, none⟩) (d1 : w1.cell? ⟨p, 1, none⟩ = some (.int .i64 k)) (d2 : w1.cell? ⟨p, 2, none⟩ = some u) (d3 : w1.cell? ⟨p, 3, none⟩ = w.cell? ⟨p, 3, none⟩)
  (df : ∀ i, w1.frozen? ⟨p, i, none⟩ = w.frozen? ⟨p, i, none⟩)
  (hh : W.heap = (w1.setCell ⟨p, 2, none⟩ (.int .u64 mix)).heap) (ho : W.os = w1.os) (ht : W.tape = w1.tape) (hp : W.output = w1.output) : SrcAt p a len cap zs W ∧ w.grownBy W (some p) := by
 have g2 := Lib.grownBy_setB hg 2 (.int .u64 mix)
 have gW : w.grownBy W (some p) := ⟨ho.trans hg.os, ht.trans hg.tape, hp.trans hg.output, by rw [hh]; exact g2.size, fun x hx hne => by rw [hh]; exact g2.block x hx hne⟩
 refine ⟨src_end k1 wm ws gW c0 c3 hf hrow hl hz ?_ ?_ ?_ ?_ ?_, gW⟩
 ·
  rw [cell_heap hh, World.cell?_setCell_other _ _ _ _ (ne_off (by omega)), d0]
 ·
  rw [cell_heap hh, World.cell?_setCell_other _ _ _ _ (ne_off (by omega)), d1]
 ·
  rw [cell_heap hh, World.cell?_setCell_same _ _ _ d2]
 ·
  rw [cell_heap hh, World.cell?_setCell_other _ _ _ _ (ne_off (by omega)), d3]
 ·
  intro i
  rw [frozen_heap hh, World.frozen?_setCell, df]

set_option maxHeartbeats 1000000 in
theorem src_n (p : Nat) (a : Option Addr) (len cap : Nat) (zs : List Int) (most : Int) (w : World) (hS : SrcAt p a len cap zs w) (h1 : 1 ≤ most) (h2 : most ≤ 4000000000) :
  Calls Tryz.prog 23 #[.pointer (some ⟨p, 0, none⟩), .int .i64 most] w fun e w' => ∃ v : Int, e = .returned (.int .i64 v) ∧ 0 ≤ v ∧ v < most ∧ SrcAt p a len cap zs w' ∧ w.grownBy w' (some p) := by
 by_cases hm : most ≤ 1
 ·
  go_enter Tryz.func23, Tryz.ntmps23
  go_wp2
  go_ret
  exact ⟨0, rfl, by omega, by omega, hS, World.grownBy.refl _ _⟩
 obtain ⟨k, mix, sz, k1, wm, ws, c0, c1, c2, c3, hf, hrow, hl, hz⟩ := hS
 have f1 := hf 1 (by omega)
 have f2 := hf 2 (by omega)
 have hss := fun (W : World) v v' => set_twice W p 2 v v'
 by_cases hlt : k < len
 ·
  rcases hrow with h | ⟨b, o, rfl, hne, hc⟩
  ·
   omega
  obtain ⟨z, hz1, z0, z1⟩ := hc k hlt
  have hne' : p ≠ b := by omega
  have hR : Hid (len = 0 ∨ ∃ b' o', some (⟨b, o, none⟩ : Addr) = some ⟨b', o', none⟩ ∧ b' < p ∧ ∀ i, i < len → ∃ z : Int, w.cell? ⟨b', o' + i, none⟩ = some (.int .u8 z) ∧ 0 ≤ z ∧ z ≤ 255) := .inr ⟨b, o, rfl, hne, hc⟩
  have HF : Hid (∀ i, i < 4 → w.frozen? ⟨p, i, none⟩ = false) := hf
  clear hc hf
  go_enter Tryz.func23, Tryz.ntmps23
  go_wp2
  go_quiet (fail)
  go_wp2
  go_quiet (fail)
  go_wp2
  go_region
  go_wp2
  go_region
  go_wp2
  go_region
  go_wp2
  go_ret
  refine ⟨_, rfl, (val_bd _ most hm h2).1, (val_bd _ most hm h2).2, ?_⟩
  exact src_fin (w := w) (w1 := w.setCell ⟨p, 1, none⟩ (.int .i64 ((k : Int) + 1))) (k := k + 1) (by omega) (wf_bits .xor .u64 _ _) ws (Lib.grownBy_setB (World.grownBy.refl w (some p)) 1 _) c0 c3 HF.out hR.out hl hz
   (World.cell?_setCell_other _ _ _ _ (ne_off (by omega))) (by rw [World.cell?_setCell_same _ _ _ c1]; rfl) ((World.cell?_setCell_other _ _ _ _ (ne_off (by omega))).trans c2) (World.cell?_setCell_other _ _ _ _ (ne_off (by omega))) (fun _ => World.frozen?_setCell _ _ _ _) rfl rfl rfl rfl
 ·
  have hR : Hid (len = 0 ∨ ∃ b o, a = some ⟨b, o, none⟩ ∧ b < p ∧ ∀ i, i < len → ∃ z : Int, w.cell? ⟨b, o + i, none⟩ = some (.int .u8 z) ∧ 0 ≤ z ∧ z ≤ 255) := hrow
  have HF : Hid (∀ i, i < 4 → w.frozen? ⟨p, i, none⟩ = false) := hf
  clear hrow hf
  go_enter Tryz.func23, Tryz.ntmps23
  go_wp2
  go_quiet (fail)
  go_wp2
  go_region
  go_wp2
  go_region
  go_wp2
  go_region
  go_wp2
  go_ret
  refine ⟨_, rfl, (val_bd _ most hm h2).1, (val_bd _ most hm h2).2, ?_⟩
  exact src_fin k1 (wf_bits .xor .u64 _ _) ws (World.grownBy.refl w (some p)) c0 c3 HF.out hR.out hl hz rfl c1 c2 rfl (fun _ => rfl) rfl rfl rfl rfl
set_option maxHeartbeats 400000 in
theorem src_one (p : Nat) (a : Option Addr) (len cap : Nat) (zs : List Int) (most : Int) (w : World) (hS : SrcAt p a len cap zs w) (h1 : 1 ≤ most) (h2 : most ≤ 4000000000) :
  Calls Tryz.prog 35 #[.pointer (some ⟨p, 0, none⟩), .int .i64 most] w fun e w' => ∃ v : Bool, e = .returned (.bool v) ∧ SrcAt p a len cap zs w' ∧ w.grownBy w' (some p) := by
 go_enter Tryz.func35, Tryz.ntmps35
 go_wp2_with fail
 refine (src_n p a len cap zs most _ hS h1 h2).mono ?_
 rintro e w1 ⟨v, rfl, v0, v1, hS1, hg⟩
 go_wp2
 go_ret
 exact ⟨_, rfl, hS1, hg⟩
theorem SrcAt.grown {p : Nat} {a : Option Addr} {len cap : Nat} {zs : List Int} {w w' : World} (h : SrcAt p a len cap zs w) (hb : Below w.heap.size w w') : SrcAt p a len cap zs w' := by
 obtain ⟨k, mix, sz, k1, wm, ws, c0, c1, c2, c3, hf, hrow, hl, hz⟩ := h
 have hp : p < w.heap.size := World.block_lt_of_cell? _ _ c0
 refine ⟨k, mix, sz, k1, wm, ws, by rw [hb.cell hp]; exact c0, by rw [hb.cell hp]; exact c1, by rw [hb.cell hp]; exact c2, by rw [hb.cell hp]; exact c3, fun i hi => by rw [hb.frozen hp]; exact hf i hi, ?_, hl, hz⟩
 rcases hrow with h | ⟨b, o, ha, hne, hc⟩
 ·
  exact .inl h
 ·
  refine .inr ⟨b, o, ha, hne, fun i hi => ?_⟩
  obtain ⟨z, h, z0, z1⟩ := hc i hi
  exact ⟨z, by rw [hb.cell (World.block_lt_of_cell? _ _ h)]; exact h, z0, z1⟩
theorem SrcAt.alloc {p : Nat} {a : Option Addr} {len cap : Nat} {zs : List Int} {w : World} (h : SrcAt p a len cap zs w) (o : Obj) : SrcAt p a len cap zs (w.alloc o) := h.grown ((Below.refl _ _).alloc (Nat.le_refl _) o)
theorem SrcAt.lt {p : Nat} {a : Option Addr} {len cap : Nat} {zs : List Int} {w : World} (h : SrcAt p a len cap zs w) : p < w.heap.size := by
 obtain ⟨k, mix, sz, k1, wm, ws, c0, _⟩ := h
 exact World.block_lt_of_cell? _ _ c0
theorem pick_int (w : World) (T : TypeId) (l : List Int) (i : Nat) (hi : i < l.length) : (w.alloc (.cells (l.map (Value.int .i64)).toArray T)).cell? ⟨w.heap.size, i, none⟩ = some (.int .i64 (l.getD i 0)) := by
 simp [List.getD, hi]
/-- a list of numbers that was made ahead of a draw, asked behind it. -/
theorem pick_after {w w1 : World} {p : Nat} {T : TypeId} (l : List Int) (hp : p < w.heap.size) (hg : (w.alloc (.cells (l.map (Value.int .i64)).toArray T)).grownBy w1 (some p)) {v : Int} (v0 : 0 ≤ v) (v1 : v < l.length) :
  ∃ x : Int, w1.cell? ⟨w.heap.size, v.toNat, none⟩ = some (.int .i64 x) :=
 ⟨_, hg.cell (pick_int w T l v.toNat (by omega)) (by simp; omega)⟩
theorem gtrans_alloc {w w1 : World} {p : Nat} {o : Obj} (hg : (w.alloc o).grownBy w1 (some p)) : w.grownBy w1 (some p) := (World.grownBy_alloc w o (some p)).trans hg

/-- a row of bytes that came in. -/
def RowOf (w : World) (a : Option Addr) (len : Nat) : Prop := len = 0 ∨ ∃ b o, a = some ⟨b, o, none⟩ ∧ ∀ i, i < len → ∃ z : Int, w.cell? ⟨b, o + i, none⟩ = some (.int .u8 z) ∧ 0 ≤ z ∧ z ≤ 255
theorem RowOf.grown {w w' : World} {a : Option Addr} {len : Nat} (h : RowOf w a len) (hb : Below w.heap.size w w') : RowOf w' a len := by
 rcases h with h | ⟨b, o, ha, hc⟩
 ·
  exact .inl h
 ·
  refine .inr ⟨b, o, ha, fun i hi => ?_⟩
  obtain ⟨z, h, z0, z1⟩ := hc i hi
  exact ⟨z, by rw [hb.cell (World.block_lt_of_cell? _ _ h)]; exact h, z0, z1⟩
theorem src_mk {w : World} {a : Option Addr} {len cap : Nat} {mix sz : Int} (n : Nat) (h : RowOf w a len) (hl : len ≤ 1048576) (wm : (Lit.int .u64 mix).wf = true) (ws : (Lit.int .i64 sz).wf = true) :
  SrcAt w.heap.size a len cap [] ((w.alloc (.cells #[.slice a len cap, .int .i64 0, .int .u64 mix, .int .i64 sz] 63)).drewN n) ∧ Below w.heap.size w ((w.alloc (.cells #[.slice a len cap, .int .i64 0, .int .u64 mix, .int .i64 sz] 63)).drewN n) := by
 have hb := below1 w (.cells #[.slice a len cap, .int .i64 0, .int .u64 mix, .int .i64 sz] 63) n
 refine ⟨⟨0, mix, sz, by omega, wm, ws, by simp, by simp, by simp, by simp, fun i hi => by simp, ?_, hl, rfl⟩, hb⟩
 rcases h with h | ⟨b, o, ha, hc⟩
 ·
  exact .inl h
 ·
  by_cases h0 : len = 0
  ·
   exact .inl h0
  ·
   refine .inr ⟨b, o, ha, ?_, fun i hi => ?_⟩
   ·
    obtain ⟨z, h, _⟩ := hc 0 (by omega)
    exact World.block_lt_of_cell? _ _ h
   ·
    obtain ⟨z, h, z0, z1⟩ := hc i hi
    exact ⟨z, by rw [hb.cell (World.block_lt_of_cell? _ _ h)]; exact h, z0, z1⟩

theorem set_own (w : World) (c : Array Value) (t : TypeId) (m i : Nat) (v : Value) : ((w.alloc (.cells c t)).drewN m).setCell ⟨w.heap.size, i, none⟩ v = (w.alloc (.cells (c.setIfInBounds i v) t)).drewN m := by
 have : ((w.alloc (.cells c t)).drewN m).setCell ⟨w.heap.size, i, none⟩ v = ((w.alloc (.cells c t)).setCell ⟨w.heap.size, i, none⟩ v).drewN m := rfl
 rw [this, World.setCell_alloc_at _ _ _ _ _ rfl]
theorem wf_small (n : Int) (h0 : 0 ≤ n) (h1 : n ≤ 4000000000) : (Lit.int .i64 n).wf = true := by
 simp [Lit.wf, IntKind.min, IntKind.max, IntKind.signed, IntKind.bits]; omega
set_option maxHeartbeats 1000000 in
theorem src_source (a : Option Addr) (len cap : Nat) (w : World) (h : RowOf w a len) (hl : len ≤ 1048576) :
  Calls Tryz.prog 16 #[.slice a len cap] w fun e w' => e = .returned (.pointer (some ⟨w.heap.size, 0, none⟩)) ∧ SrcAt w.heap.size a len cap [] w' ∧ Below w.heap.size w w' := by
 have H : Hid (RowOf w a len) := h
 clear h
 go_enter Tryz.func16, Tryz.ntmps16
 go_wp2
 go_loopw [4] (fun i wr => ∃ (k n : Nat) (mix : Int), k ≤ len ∧ k ≤ 64 ∧ i = .int .i64 k ∧ (Lit.int .u64 mix).wf = true ∧ wr = (w.alloc (.cells #[.slice a len cap, .int .i64 0, .int .u64 mix, .int .i64 0] 63)).drewN n) (fun i _ => 64 - (intOf i).toNat)
 case atStart => exact ⟨0, 0, _, by omega, by omega, rfl, by decide, rfl⟩
 case round =>
  obtain ⟨k, n, mix, hk, hk2, rfl, wm, rfl⟩ := hrel
  by_cases hlt : k < len ∧ k < 64
  ·
   obtain ⟨l1, l2⟩ := hlt
   rcases H.out with h0 | ⟨b, o, rfl, hc⟩
   ·
    omega
   obtain ⟨z, hz, z0, z1⟩ := hc k l1
   have hbl := World.block_lt_of_cell? _ _ hz
   have hbl' : b ≠ w.heap.size := by simp at hbl; omega
   have hz' : ∀ ob, (w.alloc ob).cell? ⟨b, o + k, none⟩ = some (.int .u8 z) := fun ob => by rw [((Below.refl w.heap.size w).alloc (Nat.le_refl _) ob).cell hbl]; exact hz
   clear hc hz
   go_wp2
   go_region
   go_wp2
   go_roundw
   case rel => exact ⟨k + 1, n + 1, _, by omega, by omega, by go_num, wf_wrap .u64 _, set_own _ _ _ _ _ _⟩
   case measure => simp [intOf]; omega
  ·
   have fin : ∀ (W : World) (sz : Int), (Lit.int .i64 sz).wf = true → W = (w.alloc (.cells #[.slice a len cap, .int .i64 0, .int .u64 mix, .int .i64 sz] 63)).drewN n → SrcAt w.heap.size a len cap [] W ∧ Below w.heap.size w W := fun W sz ws e => by
    subst e; exact src_mk n H.out hl wm ws
   have FIN : Hid (∀ (W : World) (sz : Int), (Lit.int .i64 sz).wf = true → W = (w.alloc (.cells #[.slice a len cap, .int .i64 0, .int .u64 mix, .int .i64 sz] 63)).drewN n → SrcAt w.heap.size a len cap [] W ∧ Below w.heap.size w W) := fin
   clear fin
   by_cases l1 : k < len
   ·
    have l2 : ¬ k < 64 := by omega
    go_wp2
    all_goals go_ret
    ·
     exact ⟨rfl, FIN.out _ 12 (by decide) (by rw [set_own, set_own]; rfl)⟩
    ·
     exact ⟨rfl, FIN.out _ ((len : Int) / 20) (wf_small _ (by omega) (by omega)) (set_own _ _ _ _ _ _)⟩
   ·
    go_wp2
    go_ret
    exact ⟨rfl, FIN.out _ ((len : Int) / 20) (wf_small _ (by omega) (by omega)) (set_own _ _ _ _ _ _)⟩

/-- a row of texts, none longer than K. -/
def StrRow (w : World) (b n K : Nat) : Prop := ∀ i, i < n → ∃ s : ByteArray, w.cell? ⟨b, i, none⟩ = some (.string s) ∧ s.size ≤ K
set_option maxHeartbeats 400000 in
theorem src_pick (p : Nat) (a : Option Addr) (len cap : Nat) (zs : List Int) (b n K : Nat) (w : World) (hS : SrcAt p a len cap zs w) (hR : StrRow w b n K) (hbp : b ≠ p) (h1 : 1 ≤ n) (h2 : n ≤ 1000) :
  Calls Tryz.prog 53 #[.pointer (some ⟨p, 0, none⟩), .slice (some ⟨b, 0, none⟩) n n] w fun e w' => ∃ s : ByteArray, e = .returned (.string s) ∧ s.size ≤ K ∧ SrcAt p a len cap zs w' ∧ w.grownBy w' (some p) := by
 go_enter Tryz.func53, Tryz.ntmps53
 go_wp2_with fail
 refine (src_n p a len cap zs n _ hS (by omega) (by omega)).mono ?_
 rintro e w1 ⟨v, rfl, v0, v1, hS1, hg⟩
 obtain ⟨s, hs, hz⟩ := hR v.toNat (by omega)
 have hx := hg.cell hs (by simp; omega)
 go_wp2
 go_ret
 exact ⟨_, rfl, hz, hS1, hg⟩

/-- a row of texts that was just made. -/
theorem str_row (w : World) (l : List ByteArray) (T : TypeId) (hl : ∀ s ∈ l, s.size ≤ 100) : StrRow (w.alloc (.cells (l.map Value.string).toArray T)) w.heap.size l.length 100 := fun i hi =>
 ⟨l[i], by simp [hi], hl _ (List.getElem_mem hi)⟩
end Go.Proofs.YtcelbkmnbjcjhaaGreat
namespace Go.Proofs.YtcelbkmnbjcjhaaGreat
open Go.ChangeShapes Go.WideShapes Go.ChangeAt Go.RowKit
theorem isRow_of {H : Type} {enc : TypeId × Value → H} {W : World} {a : Option Addr} {len cap : Nat} {d : DataW H} {p : List MemPlace}
  (h : DataW.Trod enc Tryz.prog W 0 (fun _ => true) true 22 (.slice a len cap) d p) : RowOf W a len := by
 obtain ⟨fuel, hf⟩ := h
 rcases open_ints Tryz.underlying22 Tryz.underlying5 (by kernel_rfl) hf with ⟨hcs, _⟩ | ⟨x, l, c, zs, hcs, _, hl, hm, hz, _, hcell, hwz⟩
 ·
  simp [Value.cells] at hcs
  obtain ⟨rfl, rfl, rfl⟩ := hcs
  exact .inl rfl
 ·
  simp [Value.cells] at hcs
  obtain ⟨rfl, rfl, rfl⟩ := hcs
  by_cases h0 : len = 0
  ·
   exact .inl h0
  ·
   obtain ⟨b, off, spot⟩ := x
   have hz' : zs.length = cap := by simpa using hz
   have hc0 := hcell 0 (by omega)
   have hspot : spot = none := by simpa [Addr.add] using World.cell?_spot hc0
   subst hspot
   refine .inr ⟨b, off, rfl, fun i hi => ⟨zs.getD i 0, ?_, ?_, ?_⟩⟩
   ·
    have := hcell i (by omega)
    have e : (⟨b, off, none⟩ : Addr).add i = ⟨b, off + i, none⟩ := by unfold Addr.add; split <;> simp_all
    rw [e] at this
    exact this
   ·
    have hw := hwz (zs.getD i 0) (by rw [List.getD_eq_getElem?_getD, List.getElem?_eq_getElem (by omega)]; simp)
    exact (bounds_u8 hw).1
   ·
    have hw := hwz (zs.getD i 0) (by rw [List.getD_eq_getElem?_getD, List.getElem?_eq_getElem (by omega)]; simp)
    exact (bounds_u8 hw).2
end Go.Proofs.YtcelbkmnbjcjhaaGreat
namespace Go.Proofs.YtcelbkmnbjcjhaaGreat
open Go.RowKit

theorem World.grownBy_of_below {w w' : World} (h : Below w.heap.size w w') (row : Option Nat) : w.grownBy w' row := ⟨h.os, h.tape, h.output, h.size, fun b hb _ => h.block b hb⟩
theorem dec_short (n : Int) (w : World) (h0 : 0 ≤ n) (h1 : n < 1000000) : Calls Tryz.prog 75 #[.int .i64 n] w fun e w' => ∃ s : ByteArray, e = .returned (.string s) ∧ s.size ≤ 20 ∧ Below w.heap.size w w' := by
 obtain ⟨m, rfl⟩ := Int.eq_ofNat_of_zero_le h0
 refine (spec_l01Dec m w (by omega)).mono ?_
 rintro e w' ⟨rfl, hb⟩
 exact ⟨_, rfl, by rw [S_size]; exact dd_len (by omega), hb⟩
theorem sz5 : ByteArray.size ⟨#[82, 117, 108, 101, 32]⟩ = 5 := rfl
theorem sz1 : ByteArray.size ⟨#[32]⟩ = 1 := rfl
theorem sz3 : ByteArray.size ⟨#[32, 45, 32]⟩ = 3 := rfl
theorem szn : ByteArray.size ⟨#[10]⟩ = 1 := rfl
theorem sz0 : ByteArray.size ⟨#[32, 48, 32]⟩ = 3 := rfl
set_option maxHeartbeats 1000000 in
theorem src_clock (p : Nat) (a : Option Addr) (len cap : Nat) (zs : List Int) (w : World) (hS : SrcAt p a len cap zs w) :
  Calls Tryz.prog 76 #[.pointer (some ⟨p, 0, none⟩)] w fun e w' => ∃ s : ByteArray, e = .returned (.string s) ∧ s.size ≤ 100 ∧ SrcAt p a len cap zs w' ∧ w.grownBy w' (some p) := by
 go_enter Tryz.func76, Tryz.ntmps76
 go_wp2_with fail
 refine (src_pick p a len cap zs w.heap.size 8 100 _ (hS.alloc _) (str_row w [⟨#[50, 58, 48, 48]⟩, ⟨#[50, 58, 48, 48, 115]⟩, ⟨#[49, 58, 48, 48, 117]⟩, ⟨#[48, 58, 48, 48]⟩, ⟨#[50, 52, 58, 48, 48]⟩, ⟨#[51, 58, 48, 48]⟩, ⟨#[48]⟩, ⟨#[50, 58, 51, 48, 58, 51, 48]⟩] _ (by decide)) (by have := hS.lt; omega) (by omega) (by omega)).mono ?_
 rintro e w1 ⟨s1, rfl, z1, S1, g1⟩
 have G1 := (World.grownBy.refl w (some p)).trans (gtrans_alloc g1)
 go_wp2
 go_ret
 exact ⟨_, rfl, z1, S1, G1⟩
set_option maxRecDepth 20000 in
set_option maxHeartbeats 4000000 in
theorem src_ruleLine (p : Nat) (a : Option Addr) (len cap : Nat) (zs : List Int) (nm : ByteArray) (w : World) (hS : SrcAt p a len cap zs w) (hn : nm.size ≤ 100) :
  Calls Tryz.prog 64 #[.pointer (some ⟨p, 0, none⟩), .string nm] w fun e w' => ∃ s : ByteArray, e = .returned (.string s) ∧ s.size ≤ 2000 ∧ SrcAt p a len cap zs w' ∧ w.grownBy w' (some p) := by
 go_enter Tryz.func64, Tryz.ntmps64
 go_wp2_with fail
 refine (src_n p a len cap zs 40 _ hS (by omega) (by omega)).mono ?_
 rintro e w1 ⟨y1, rfl, l1, u1, S1, g1⟩
 have G1 := (World.grownBy.refl w (some p)).trans g1
 go_wp2_with fail
 refine (src_n p a len cap zs 20 _ S1 (by omega) (by omega)).mono ?_
 rintro e w2 ⟨y2, rfl, l2, u2, S2, g2⟩
 have G2 := G1.trans g2
 have q1 : IntKind.i64.wrap (1970 + y1) = 1970 + y1 := by rw [IntKind.wrap_i64]; omega
 have q2 : IntKind.i64.wrap (1970 + y1 + y2) = 1970 + y1 + y2 := by rw [IntKind.wrap_i64]; omega
 go_wp2_with fail
 refine (dec_short (1970 + y1 + y2) _ (by omega) (by omega)).mono ?_
 rintro e w3 ⟨s3, rfl, z3, b3⟩
 have S3 := S2.grown b3
 have G3 := G2.trans (World.grownBy_of_below b3 (some p))
 go_wp2_with fail
 refine (src_pick p a len cap zs w3.heap.size 3 100 _ (S3.alloc _) (str_row w3 [⟨#[111, 110, 108, 121]⟩, ⟨#[109, 97, 120]⟩, s3] _ (by intro s hs; simp at hs; rcases hs with rfl | rfl | rfl <;> first | decide | omega)) (by have := S3.lt; omega) (by omega) (by omega)).mono ?_
 rintro e w4 ⟨s4, rfl, z4, S4, g4⟩
 have G4 := G3.trans (gtrans_alloc g4)
 go_wp2_with fail
 refine (src_one p a len cap zs 2 _ S4 (by omega) (by omega)).mono ?_
 rintro e w5 ⟨v5, rfl, S5, g5⟩
 have G5 := G4.trans g5
 cases v5 with
 | true =>
  go_wp2_with fail
  refine (dec_short (1970 + y1) _ (by omega) (by omega)).mono ?_
  rintro e w6 ⟨s6, rfl, z6, b6⟩
  have S6 := S5.grown b6
  have G6 := G5.trans (World.grownBy_of_below b6 (some p))
  go_wp2_with fail
  refine (src_pick p a len cap zs w6.heap.size 3 100 _ (S6.alloc _) (str_row w6 [⟨#[77, 97, 114]⟩, ⟨#[65, 112, 114]⟩, ⟨#[74, 97, 110]⟩] _ (by decide)) (by have := S6.lt; omega) (by omega) (by omega)).mono ?_
  rintro e w7 ⟨s7, rfl, z7, S7, g7⟩
  have G7 := G6.trans (gtrans_alloc g7)
  go_wp2_with fail
  refine (src_pick p a len cap zs w7.heap.size 4 100 _ (S7.alloc _) (str_row w7 [⟨#[108, 97, 115, 116, 83, 117, 110]⟩, ⟨#[83, 117, 110, 62, 61, 56]⟩, ⟨#[49]⟩, ⟨#[49, 53]⟩] _ (by decide)) (by have := S7.lt; omega) (by omega) (by omega)).mono ?_
  rintro e w8 ⟨s8, rfl, z8, S8, g8⟩
  have G8 := G7.trans (gtrans_alloc g8)
  go_wp2_with fail
  refine (src_clock p a len cap zs _ S8).mono ?_
  rintro e w9 ⟨s9, rfl, z9, S9, g9⟩
  have G9 := G8.trans g9
  go_wp2_with fail
  refine (src_pick p a len cap zs w9.heap.size 4 100 _ (S9.alloc _) (str_row w9 [⟨#[49, 58, 48, 48]⟩, ⟨#[48, 58, 51, 48]⟩, ⟨#[50, 58, 48, 48]⟩, ⟨#[45, 49, 58, 48, 48]⟩] _ (by decide)) (by have := S9.lt; omega) (by omega) (by omega)).mono ?_
  rintro e w10 ⟨s10, rfl, z10, S10, g10⟩
  have G10 := G9.trans (gtrans_alloc g10)
  go_wp2_with fail
  refine (src_pick p a len cap zs w10.heap.size 3 100 _ (S10.alloc _) (str_row w10 [⟨#[83]⟩, ⟨#[68]⟩, ⟨#[45]⟩] _ (by decide)) (by have := S10.lt; omega) (by omega) (by omega)).mono ?_
  rintro e w11 ⟨s11, rfl, z11, S11, g11⟩
  have G11 := G10.trans (gtrans_alloc g11)
  go_wp2
  go_ret
  exact ⟨_, rfl, by simp only [ByteArray.size_append, sz5, sz1, sz3, szn]; omega, S11, G11⟩
 | false =>
  go_wp2_with fail
  refine (dec_short (1970 + y1) _ (by omega) (by omega)).mono ?_
  rintro e w6 ⟨s6, rfl, z6, b6⟩
  have S6 := S5.grown b6
  have G6 := G5.trans (World.grownBy_of_below b6 (some p))
  go_wp2_with fail
  refine (src_pick p a len cap zs w6.heap.size 3 100 _ (S6.alloc _) (str_row w6 [⟨#[79, 99, 116]⟩, ⟨#[78, 111, 118]⟩, ⟨#[68, 101, 99]⟩] _ (by decide)) (by have := S6.lt; omega) (by omega) (by omega)).mono ?_
  rintro e w7 ⟨s7, rfl, z7, S7, g7⟩
  have G7 := G6.trans (gtrans_alloc g7)
  go_wp2_with fail
  refine (src_pick p a len cap zs w7.heap.size 3 100 _ (S7.alloc _) (str_row w7 [⟨#[108, 97, 115, 116, 83, 117, 110]⟩, ⟨#[83, 117, 110, 62, 61, 49]⟩, ⟨#[51, 49]⟩] _ (by decide)) (by have := S7.lt; omega) (by omega) (by omega)).mono ?_
  rintro e w8 ⟨s8, rfl, z8, S8, g8⟩
  have G8 := G7.trans (gtrans_alloc g8)
  go_wp2_with fail
  refine (src_clock p a len cap zs _ S8).mono ?_
  rintro e w9 ⟨s9, rfl, z9, S9, g9⟩
  have G9 := G8.trans g9
  go_wp2_with fail
  refine (src_pick p a len cap zs w9.heap.size 3 100 _ (S9.alloc _) (str_row w9 [⟨#[45]⟩, ⟨#[83]⟩, ⟨#[87]⟩] _ (by decide)) (by have := S9.lt; omega) (by omega) (by omega)).mono ?_
  rintro e w10 ⟨s10, rfl, z10, S10, g10⟩
  have G10 := G9.trans (gtrans_alloc g10)
  go_wp2
  go_ret
  exact ⟨_, rfl, by simp only [ByteArray.size_append, sz5, sz1, sz3, szn, sz0]; omega, S10, G10⟩
set_option maxRecDepth 20000 in
set_option maxHeartbeats 4000000 in
theorem src_eraLine (p : Nat) (a : Option Addr) (len cap : Nat) (zs : List Int) (la : Bool) (y : Int) (w : World) (hS : SrcAt p a len cap zs w) (h0 : 0 ≤ y) (h1 : y < 1000000) :
  Calls Tryz.prog 65 #[.pointer (some ⟨p, 0, none⟩), .bool la, .int .i64 y] w fun e w' => ∃ s : ByteArray, e = .returned (.string s) ∧ s.size ≤ 2000 ∧ SrcAt p a len cap zs w' ∧ w.grownBy w' (some p) := by
 cases la with
 | true =>
  go_enter Tryz.func65, Tryz.ntmps65
  go_wp2_with fail
  refine (src_pick p a len cap zs w.heap.size 6 100 _ (hS.alloc _) (str_row w [⟨#[49, 58, 48, 48]⟩, ⟨#[45, 53, 58, 48, 48]⟩, ⟨#[48, 58, 48, 48]⟩, ⟨#[45]⟩, ⟨#[53, 58, 51, 48]⟩, ⟨#[45, 48, 58, 48, 49, 58, 49, 53]⟩] _ (by decide)) (by have := hS.lt; omega) (by omega) (by omega)).mono ?_
  rintro e w1 ⟨s1, rfl, z1, S1, g1⟩
  have G1 := (World.grownBy.refl w (some p)).trans (gtrans_alloc g1)
  go_wp2_with fail
  refine (src_pick p a len cap zs w1.heap.size 6 100 _ (S1.alloc _) (str_row w1 [⟨#[69, 117]⟩, ⟨#[69, 117]⟩, ⟨#[85, 83]⟩, ⟨#[45]⟩, ⟨#[49, 58, 48, 48]⟩, ⟨#[45, 48, 58, 51, 48]⟩] _ (by decide)) (by have := S1.lt; omega) (by omega) (by omega)).mono ?_
  rintro e w2 ⟨s2, rfl, z2, S2, g2⟩
  have G2 := G1.trans (gtrans_alloc g2)
  go_wp2_with fail
  refine (src_pick p a len cap zs w2.heap.size 5 100 _ (S2.alloc _) (str_row w2 [⟨#[67, 69, 37, 115, 84]⟩, ⟨#[67, 69, 84, 47, 67, 69, 83, 84]⟩, ⟨#[76, 77, 84]⟩, ⟨#[43, 48, 53]⟩, ⟨#[69, 37, 115, 84]⟩] _ (by decide)) (by have := S2.lt; omega) (by omega) (by omega)).mono ?_
  rintro e w3 ⟨s3, rfl, z3, S3, g3⟩
  have G3 := G2.trans (gtrans_alloc g3)
  go_wp2
  go_ret
  exact ⟨_, rfl, by simp only [ByteArray.size_append, sz1, szn]; omega, S3, G3⟩
 | false =>
  go_enter Tryz.func65, Tryz.ntmps65
  go_wp2_with fail
  refine (src_pick p a len cap zs w.heap.size 6 100 _ (hS.alloc _) (str_row w [⟨#[49, 58, 48, 48]⟩, ⟨#[45, 53, 58, 48, 48]⟩, ⟨#[48, 58, 48, 48]⟩, ⟨#[45]⟩, ⟨#[53, 58, 51, 48]⟩, ⟨#[45, 48, 58, 48, 49, 58, 49, 53]⟩] _ (by decide)) (by have := hS.lt; omega) (by omega) (by omega)).mono ?_
  rintro e w1 ⟨s1, rfl, z1, S1, g1⟩
  have G1 := (World.grownBy.refl w (some p)).trans (gtrans_alloc g1)
  go_wp2_with fail
  refine (src_pick p a len cap zs w1.heap.size 6 100 _ (S1.alloc _) (str_row w1 [⟨#[69, 117]⟩, ⟨#[69, 117]⟩, ⟨#[85, 83]⟩, ⟨#[45]⟩, ⟨#[49, 58, 48, 48]⟩, ⟨#[45, 48, 58, 51, 48]⟩] _ (by decide)) (by have := S1.lt; omega) (by omega) (by omega)).mono ?_
  rintro e w2 ⟨s2, rfl, z2, S2, g2⟩
  have G2 := G1.trans (gtrans_alloc g2)
  go_wp2_with fail
  refine (src_pick p a len cap zs w2.heap.size 5 100 _ (S2.alloc _) (str_row w2 [⟨#[67, 69, 37, 115, 84]⟩, ⟨#[67, 69, 84, 47, 67, 69, 83, 84]⟩, ⟨#[76, 77, 84]⟩, ⟨#[43, 48, 53]⟩, ⟨#[69, 37, 115, 84]⟩] _ (by decide)) (by have := S2.lt; omega) (by omega) (by omega)).mono ?_
  rintro e w3 ⟨s3, rfl, z3, S3, g3⟩
  have G3 := G2.trans (gtrans_alloc g3)
  go_wp2_with fail
  refine (dec_short (y) _ (by omega) (by omega)).mono ?_
  rintro e w4 ⟨s4, rfl, z4, b4⟩
  have S4 := S3.grown b4
  have G4 := G3.trans (World.grownBy_of_below b4 (some p))
  go_wp2_with fail
  refine (src_pick p a len cap zs w4.heap.size 6 100 _ (S4.alloc _) (str_row w4 [⟨#[]⟩, ⟨#[32, 77, 97, 114]⟩, ⟨#[32, 65, 112, 114, 32, 53]⟩, ⟨#[32, 79, 99, 116, 32, 108, 97, 115, 116, 83, 117, 110, 32, 50, 58, 48, 48]⟩, ⟨#[32, 74, 97, 110, 32, 49, 32, 48, 58, 48, 48, 117]⟩, ⟨#[32, 74, 117, 110, 32, 49, 32, 49, 58, 48, 48, 115]⟩] _ (by decide)) (by have := S4.lt; omega) (by omega) (by omega)).mono ?_
  rintro e w5 ⟨s5, rfl, z5, S5, g5⟩
  have G5 := G4.trans (gtrans_alloc g5)
  go_wp2
  go_ret
  exact ⟨_, rfl, by simp only [ByteArray.size_append, sz1, szn]; omega, S5, G5⟩
end Go.Proofs.YtcelbkmnbjcjhaaGreat
namespace Go.Proofs.YtcelbkmnbjcjhaaGreat
open Go.RowKit

theorem StrRow.grown {w w' : World} {b n K p : Nat} (h : StrRow w b n K) (hg : w.grownBy w' (some p)) (hne : b ≠ p) : StrRow w' b n K := fun i hi => by
 obtain ⟨s, hs, hz⟩ := h i hi
 exact ⟨s, hg.cell hs (by simp; omega), hz⟩
theorem szZ : ByteArray.size ⟨#[90, 111, 110, 101, 32]⟩ = 5 := rfl
theorem szL : ByteArray.size ⟨#[76, 105, 110, 107, 32, 69, 117, 47, 65, 32, 65, 108, 105, 97, 115, 10]⟩ = 16 := rfl
set_option maxRecDepth 20000 in
set_option maxHeartbeats 4000000 in
theorem src_text (p : Nat) (a : Option Addr) (len cap : Nat) (zs : List Int) (w : World) (hS : SrcAt p a len cap zs w) :
  Calls Tryz.prog 52 #[.pointer (some ⟨p, 0, none⟩)] w fun e w' => ∃ s : ByteArray, e = .returned (.string s) ∧ s.size ≤ 50000 ∧ SrcAt p a len cap zs w' ∧ w.grownBy w' (some p) := by
 go_enter Tryz.func52, Tryz.ntmps52
 go_wp2_with fail
 refine (src_one p a len cap zs 3 _ hS (by omega) (by omega)).mono ?_
 rintro e w1 ⟨v1, rfl, S1, G1⟩
 cases v1
 all_goals
  go_wp2_with fail
  refine (src_n p a len cap zs 4 _ S1 (by omega) (by omega)).mono ?_
  rintro e w2 ⟨k2, rfl, l2, u2, S2, g2⟩
  have G2 := G1.trans g2
  go_wp2
  go_loopw [3, 4] (fun s3 s4 wr => ∃ (t : ByteArray) (k : Nat), s3 = .string t ∧ s4 = .int .i64 k ∧ k ≤ 3 ∧ t.size + 2000 * k ≤ 10000 ∧ SrcAt p a len cap zs wr ∧ w.grownBy wr (some p)) (fun _ s4 _ => (intOf s4).toNat)
  case atStart =>
   obtain ⟨m, rfl⟩ := Int.eq_ofNat_of_zero_le l2
   refine ⟨_, m, rfl, rfl, by omega, ?_, S2, G2⟩
   have h : ∀ t : ByteArray, t.size ≤ 300 → t.size + 2000 * m ≤ 10000 := fun t h => by omega
   exact h _ (by decide)
  case round =>
   obtain ⟨wa, hwa⟩ : ∃ x : World, x = wr := ⟨_, rfl⟩
   subst hwa
   obtain ⟨t, k, rfl, rfl, hk, ht, S3, G3⟩ := hrel
   by_cases hk0 : k = 0
   ·
    subst hk0
    have hk1 : ¬ (0 : Int) < ((0 : Nat) : Int) := by omega
    have hR4 : StrRow (wa.alloc (.cells (([⟨#[69, 117, 47, 65]⟩, ⟨#[69, 117, 47, 66]⟩, ⟨#[85, 83, 47, 67]⟩] : List ByteArray).map Value.string).toArray 9)) wa.heap.size 3 100 := str_row wa _ _ (by decide)
    have S4 := S3.alloc (.cells (([⟨#[69, 117, 47, 65]⟩, ⟨#[69, 117, 47, 66]⟩, ⟨#[85, 83, 47, 67]⟩] : List ByteArray).map Value.string).toArray 9)
    have G4 := G3.trans (World.grownBy_alloc wa (.cells (([⟨#[69, 117, 47, 65]⟩, ⟨#[69, 117, 47, 66]⟩, ⟨#[85, 83, 47, 67]⟩] : List ByteArray).map Value.string).toArray 9) (some p))
    have hpn : wa.heap.size ≠ p := by have := S3.lt; omega
    obtain ⟨bn, hbn⟩ : ∃ n, wa.heap.size = n := ⟨_, rfl⟩
    rw [hbn] at hR4 hpn
    have ht1 : t.size ≤ 10000 := by omega
    go_wp2
    clear hbn
    go_loopw [3, 6] (fun s3 s6 wr => ∃ (t : ByteArray) (i : Nat), s3 = .string t ∧ s6 = .int .i64 i ∧ i ≤ 3 ∧ t.size ≤ 10000 + 10000 * i ∧ StrRow wr bn 3 100 ∧ SrcAt p a len cap zs wr ∧ w.grownBy wr (some p)) (fun _ s6 _ => 3 - (intOf s6).toNat)
    case atStart => exact ⟨t, 0, rfl, rfl, by omega, by omega, hR4, S4, G4⟩
    case round =>
     obtain ⟨wb, hwb⟩ : ∃ x : World, x = wr := ⟨_, rfl⟩
     subst hwb
     obtain ⟨t, i, rfl, rfl, hi, ht, R5, S5, G5⟩ := hrel
     go_wp2_with fail
     refine (src_n p a len cap zs 3 _ S5 (by omega) (by omega)).mono ?_
     rintro e w6 ⟨n6, rfl, l6, u6, S6, g6⟩
     have G6 := G5.trans g6
     have R6 := R5.grown g6 hpn
     have q6 : IntKind.i64.wrap (1 + n6) = 1 + n6 := by rw [IntKind.wrap_i64]; omega
     by_cases hlt : (i : Int) < 1 + n6
     ·
      obtain ⟨s, hs, hz⟩ := R6 i (by omega)
      have hi3 : (i : Int) < 3 := by omega
      go_wp2_with fail
      refine (src_n p a len cap zs 3 _ S6 (by omega) (by omega)).mono ?_
      rintro e w7 ⟨k7, rfl, l7, u7, S7, g7⟩
      have G7 := G6.trans g7
      have R7 := R6.grown g7 hpn
      go_wp2
      go_loopw [3, 7, 8] (fun s3 s7 s8 wr => ∃ (t2 : ByteArray) (y k : Nat), s3 = .string t2 ∧ s7 = .int .i64 y ∧ s8 = .int .i64 k ∧ k ≤ 2 ∧ y + 40 * k ≤ 2100 ∧ t2.size + 2000 * k ≤ t.size + 5000 ∧ StrRow wr bn 3 100 ∧ SrcAt p a len cap zs wr ∧ w.grownBy wr (some p)) (fun _ _ s8 _ => (intOf s8).toNat)
      case atStart =>
       obtain ⟨m, rfl⟩ := Int.eq_ofNat_of_zero_le l7
       exact ⟨_, 1930, m, rfl, rfl, rfl, by omega, by omega, by simp only [ByteArray.size_append, szZ, sz1]; omega, R7, S7, G7⟩
      case round =>
       obtain ⟨wc, hwc⟩ : ∃ x : World, x = wr := ⟨_, rfl⟩
       subst hwc
       obtain ⟨t2, y, k, rfl, rfl, rfl, hk, hy, ht2, R8, S8, G8⟩ := hrel
       by_cases hk0 : k = 0
       ·
        subst hk0
        have hk1 : ¬ (0 : Int) < ((0 : Nat) : Int) := by omega
        go_wp2_with fail
        refine (src_eraLine p a len cap zs true 0 _ S8 (by omega) (by omega)).mono ?_
        rintro e w9 ⟨s9, rfl, z9, S9, g9⟩
        have G9 := G8.trans g9
        have R9 := R8.grown g9 hpn
        go_wp2
        go_roundw
        case rel => exact ⟨_, i + 1, rfl, by go_num, by omega, by simp only [ByteArray.size_append]; omega, R9, S9, G9⟩
        case measure => simp [intOf]; omega
       ·
        have hk1 : (0 : Int) < (k : Int) := by omega
        go_wp2_with fail
        refine (src_n p a len cap zs 35 _ S8 (by omega) (by omega)).mono ?_
        rintro e w9 ⟨n9, rfl, l9, u9, S9, g9⟩
        have G9 := G8.trans g9
        have R9 := R8.grown g9 hpn
        have q9 : IntKind.i64.wrap ((y : Int) + 1) = (y : Int) + 1 := by rw [IntKind.wrap_i64]; omega
        have q8 : IntKind.i64.wrap ((y : Int) + 1 + n9) = (y : Int) + 1 + n9 := by rw [IntKind.wrap_i64]; omega
        go_wp2_with fail
        refine (src_eraLine p a len cap zs false ((y : Int) + 1 + n9) _ S9 (by omega) (by omega)).mono ?_
        rintro e w10 ⟨s10, rfl, z10, S10, g10⟩
        have G10 := G9.trans g10
        have R10 := R9.grown g10 hpn
        obtain ⟨m, rfl⟩ := Int.eq_ofNat_of_zero_le l9
        go_wp2
        go_roundw
        case rel => exact ⟨_, y + 1 + m, k - 1, rfl, by go_num, by go_num, by omega, by omega, by simp only [ByteArray.size_append]; omega, R10, S10, G10⟩
        case measure => simp [intOf]; omega
     ·
      go_wp2_with fail
      refine (src_one p a len cap zs 2 _ S6 (by omega) (by omega)).mono ?_
      rintro e w7 ⟨v7, rfl, S7, g7⟩
      have G7 := G6.trans g7
      cases v7
      ·
       go_wp2
       go_ret
       exact ⟨_, rfl, by omega, S7, G7⟩
      ·
       go_wp2
       go_ret
       exact ⟨_, rfl, by simp only [ByteArray.size_append, szL]; omega, S7, G7⟩
   ·
    have hk1 : (0 : Int) < (k : Int) := by omega
    go_wp2_with fail
    refine (src_pick p a len cap zs wa.heap.size 2 100 _ (S3.alloc _) (str_row wa [⟨#[69, 117]⟩, ⟨#[85, 83]⟩] _ (by decide)) (by have := S3.lt; omega) (by omega) (by omega)).mono ?_
    rintro e w4 ⟨s4, rfl, z4, S4, g4⟩
    have G4 := G3.trans (gtrans_alloc g4)
    go_wp2_with fail
    refine (src_ruleLine p a len cap zs s4 _ S4 z4).mono ?_
    rintro e w5 ⟨s5, rfl, z5, S5, g5⟩
    have G5 := G4.trans g5
    go_wp2
    go_roundw
    case rel => exact ⟨_, k - 1, rfl, by go_num, by omega, by simp only [ByteArray.size_append]; omega, S5, G5⟩
    case measure => simp [intOf]; omega
end Go.Proofs.YtcelbkmnbjcjhaaGreat
