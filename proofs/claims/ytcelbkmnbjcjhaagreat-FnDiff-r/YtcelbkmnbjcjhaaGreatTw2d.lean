/- The model's drawing of two tables. -/
import Derived.Test.YtcelbkmnbjcjhaaGreatDwAd
import Derived.Test.YtcelbkmnbjcjhaaGreatSm2d
import Derived.Test.YtcelbkmnbjcjhaaGreatBaseAd
import Derived.Laws.AppendOwnNone
namespace Go.Proofs.YtcelbkmnbjcjhaaGreat
open Go.RowKit

structure TwoP (p : Nat) (a : Option Addr) (len cap : Nat) (zs : List Int) (w : World) (e : Ending) (w' : World) : Prop where
 ex : ∃ (tv bv : Value) (T U : List TurnD), e = .returned (.tuple #[.agg #[tv], .agg #[bv]]) ∧ OwnsT w' w.heap.size tv T ∧ OwnsT w' w.heap.size bv U ∧ T.length ≤ 2000 ∧ U.length ≤ 2000 ∧ (∀ t ∈ T, t.ok) ∧ (∀ t ∈ U, t.ok) ∧ SrcAt p a len cap zs w' ∧ w.grownBy w' (some p)
theorem TwAt.done {p : Nat} {a : Option Addr} {len cap : Nat} {zs : List Int} {w W : World} {b4 b5 E : Nat} {tv bv : Value} {T U : List TurnD} (h : TwAt p a len cap zs w b4 b5 E tv bv T U W) (hp : p < w.heap.size) : TwoP p a len cap zs w (.returned (.tuple #[.agg #[tv], .agg #[bv]])) ((W.setCell ⟨w.heap.size, 0, none⟩ tv).setCell ⟨w.heap.size + 1, 0, none⟩ bv) := by
 have g1 : W.grownBy (W.setCell ⟨w.heap.size, 0, none⟩ tv) (some w.heap.size) := Lib.grownBy_setB (World.grownBy.refl _ _) 0 tv
 have g2 : (W.setCell ⟨w.heap.size, 0, none⟩ tv).grownBy ((W.setCell ⟨w.heap.size, 0, none⟩ tv).setCell ⟨w.heap.size + 1, 0, none⟩ bv) (some (w.heap.size + 1)) := Lib.grownBy_setB (World.grownBy.refl _ _) 0 bv
 have hF : Fr (fun b => b = w.heap.size ∨ b = w.heap.size + 1) W ((W.setCell ⟨w.heap.size, 0, none⟩ tv).setCell ⟨w.heap.size + 1, 0, none⟩ bv) :=
  ((Fr.of_grown g1).mono fun b _ e => by injection e with e; omega).trans ((Fr.of_grown g2).mono fun b _ e => by injection e with e; omega)
 have o4 := h.o4
 have hgr := h.grow.size
 refine ⟨tv, bv, T, U, rfl, owns_mono (own_neW h.ot (fun g hg e => by have := (World.ownsRow.lt h.ot g hg).1; omega) hF) (by omega), owns_mono (own_neW h.ob (fun g hg e => by have := (World.ownsRow.lt h.ob g hg).1; omega) hF) (by omega), h.lT, h.lU, h.kT, h.kU, h.src.fr hF (fun b hb e => by omega), ?_⟩
 refine ⟨hF.os.trans h.grow.os, hF.tape.trans h.grow.tape, hF.output.trans h.grow.output, Nat.le_trans hgr hF.size, fun k hk hne => ?_⟩
 rw [hF.block k (by omega) (by omega)]
 exact h.grow.block k hk hne
/-- the two tables as they are laid. -/
theorem TwAt.lay {p : Nat} {a : Option Addr} {len cap : Nat} {zs : List Int} {w W3 w4 : World} {H : Nat} {tv bv : Value} {T U : List TurnD} (hp : p < w.heap.size) (hS : SrcAt p a len cap zs W3) (hG : w.grownBy W3 (some p)) (r1 : W3.cell? ⟨w.heap.size, 0, none⟩ = some (.slice none 0 0)) (q1 : W3.frozen? ⟨w.heap.size, 0, none⟩ = false) (r2 : W3.cell? ⟨w.heap.size + 1, 0, none⟩ = some (.slice none 0 0)) (q2 : W3.frozen? ⟨w.heap.size + 1, 0, none⟩ = false) (c4 : W3.cell? ⟨H, 0, none⟩ = some tv) (ot : OwnsT W3 (w.heap.size + 1 + 1) tv T) (lt : ∀ g, tv.ownBlock = some g → g < H) (hz : w.heap.size + 1 + 1 ≤ H) (hH : H + 1 < W3.heap.size) (hgrow : W3.grownBy w4 (some (H + 1))) (ob : OwnsT w4 (H + 1) bv U) (lT : T.length ≤ 2000) (lU : U.length ≤ 2000) (kT : ∀ t ∈ T, t.ok) (kU : ∀ t ∈ U, t.ok) :
  TwAt p a len cap zs w H w4.heap.size (H + 1) tv bv T U (w4.alloc (.cells #[bv] 25)) := by
 have hA : Below w4.heap.size w4 (w4.alloc (.cells #[bv] 25)) := (Below.refl _ w4).alloc (Nat.le_refl _) _
 have hF : Fr (fun b => b = H + 1) W3 (w4.alloc (.cells #[bv] 25)) := ((Fr.of_grown hgrow).mono fun b _ e => by injection e with e; exact e.symm).trans (Fr.of_below hA)
 have h4 := hgrow.size
 have l1 : w.heap.size < W3.heap.size := World.block_lt_of_cell? _ _ r1
 have l2 : w.heap.size + 1 < W3.heap.size := World.block_lt_of_cell? _ _ r2
 refine ⟨hS.fr hF (fun b hb e => by omega), ?_, hF.cell (by omega) r1, (hF.frozen l1 (by omega)).trans q1, hF.cell (by omega) r2, (hF.frozen l2 (by omega)).trans q2, hF.cell (by omega) c4, by simp [go_sem], by simp [go_sem], own_neW ot (fun g hg e => by have := lt g hg; omega) hF, fun g hg => ⟨by have := lt g hg; omega, by have := lt g hg; omega⟩, owns_below ob hA, fun e => by have := (World.ownsRow.lt ob _ e).2; omega, ⟨hz, by omega, by simp; omega⟩, ⟨by omega, by omega⟩, lT, lU, kT, kU⟩
 refine ⟨hF.os.trans hG.os, hF.tape.trans hG.tape, hF.output.trans hG.output, Nat.le_trans hG.size hF.size, fun k hk hne => ?_⟩
 rw [hF.block k (by omega) (by omega)]
 exact hG.block k hk hne
theorem flat_cell {U : List TurnD} {i j : Nat} {t t2 : TurnD} {u : Value} (hi : U[i]? = some t) (hj : j < 4) (ht : t2.cs = t.cs.set j u) : ((U.set i t2).map TurnD.cs).flatten = (U.map TurnD.cs).flatten.set (i * 4 + j) u := by
 induction U generalizing i with
 | nil => simp at hi
 | cons x U ih =>
  cases i with
  | zero =>
   simp at hi
   subst hi
   simp only [List.set_cons_zero, List.map_cons, List.flatten_cons, ht, Nat.zero_mul, Nat.zero_add]
   rw [List.set_append_left _ _ (by show j < x.cs.length; simp [TurnD.cs]; omega)]
  | succ i =>
   simp at hi
   simp only [List.set_cons_succ, List.map_cons, List.flatten_cons, ih hi]
   rw [List.set_append_right _ _ (by simp [TurnD.cs]; omega)]
   congr 2
   simp [TurnD.cs]
   omega
theorem ok_set {U : List TurnD} {i : Nat} {x : TurnD} (h : ∀ t ∈ U, t.ok) (hx : x.ok) : ∀ t ∈ U.set i x, t.ok := fun t ht => by
 rcases List.mem_or_eq_of_mem_set ht with h1 | h1
 ·
  exact h t h1
 ·
  subst h1; exact hx
set_option linter.unusedSimpArgs false in
set_option maxRecDepth 20000 in
set_option maxHeartbeats 8000000 in
theorem src_two {Rok : World → Value → Prop} (hC : SomeC Rok) (p : Nat) (a : Option Addr) (len cap : Nat) (zs : List Int) (w : World) (hS : SrcAt p a len cap zs w) :
  Calls Tryz.prog 17 #[.pointer (some ⟨p, 0, none⟩)] w (TwoP p a len cap zs w) := by
 obtain ⟨i0, hi, hz0, hz1, hz2⟩ := infoTurn
 have S0 := (hS.alloc (.cells #[.slice none 0 0] 25)).alloc (.cells #[.slice none 0 0] 25)
 have G0 : w.grownBy ((w.alloc (.cells #[.slice none 0 0] 25)).alloc (.cells #[.slice none 0 0] 25)) (some p) := (World.grownBy_alloc w _ _).trans (World.grownBy_alloc _ _ _)
 have r0 : ((w.alloc (.cells #[.slice none 0 0] 25)).alloc (.cells #[.slice none 0 0] 25)).cell? ⟨w.heap.size, 0, none⟩ = some (.slice none 0 0) := by simp [go_sem]
 have s0 : ((w.alloc (.cells #[.slice none 0 0] 25)).alloc (.cells #[.slice none 0 0] 25)).cell? ⟨w.heap.size + 1, 0, none⟩ = some (.slice none 0 0) := by simp [go_sem]
 have rf0 : ((w.alloc (.cells #[.slice none 0 0] 25)).alloc (.cells #[.slice none 0 0] 25)).frozen? ⟨w.heap.size, 0, none⟩ = false := by simp [go_sem]
 have sf0 : ((w.alloc (.cells #[.slice none 0 0] 25)).alloc (.cells #[.slice none 0 0] 25)).frozen? ⟨w.heap.size + 1, 0, none⟩ = false := by simp [go_sem]
 have hp := hS.lt
 clear hS
 go_enter Tryz.func17, Tryz.ntmps17
 go_wp2_with fail
 refine (src_some hC p a len cap zs _ S0).mono ?_
 intro e w1 hs
 obtain ⟨tv, T, rfl, O1, l1, k1, S1, g1⟩ := hs.ex
 simp only [World.size_alloc] at O1
 have G1 := G0.trans g1
 have z1 : w.heap.size + 1 + 1 ≤ w1.heap.size := by have := g1.size; simpa using this
 have r1 := g1.cell (a := ⟨w.heap.size, 0, none⟩) r0 (by simp; omega)
 have s1 := g1.cell (a := ⟨w.heap.size + 1, 0, none⟩) s0 (by simp; omega)
 have rf1 := (g1.frozen_far ⟨w.heap.size, 0, none⟩ (World.block_lt_of_cell? _ _ r0) (by simp; omega)).trans rf0
 have sf1 := (g1.frozen_far ⟨w.heap.size + 1, 0, none⟩ (World.block_lt_of_cell? _ _ s0) (by simp; omega)).trans sf0
 clear hs S0 G0 g1 r0 s0 rf0 sf0
 obtain ⟨bt, ct, rfl⟩ : ∃ b c, tv = .slice b T.length c := by obtain ⟨b, c, h, _⟩ := O1.seq; exact ⟨b, c, h⟩
 obtain ⟨n, hn⟩ : ∃ n, T.length = n := ⟨_, rfl⟩
 have HN : Hid (T.length = n) := hn
 rw [hn] at O1
 rw [hn]
 rw [hn] at l1
 clear hn
 have hA3 := ((Below.refl w1.heap.size w1).alloc (Nat.le_refl _) (.cells #[.slice bt n ct] 25)).alloc (by simp) (.cells #[] 38)
 have O3 : OwnsT ((w1.alloc (.cells #[.slice bt n ct] 25)).alloc (.cells #[] 38)) (w.heap.size + 1 + 1) (.slice bt n ct) T := owns_below O1 hA3
 have c3 : ((w1.alloc (.cells #[.slice bt n ct] 25)).alloc (.cells #[] 38)).cell? ⟨w1.heap.size, 0, none⟩ = some (.slice bt n ct) := by simp [go_sem]
 have E3 : ((w1.alloc (.cells #[.slice bt n ct] 25)).alloc (.cells #[] 38)).ownsRow (w1.heap.size + 1) 38 4 (.slice (some ⟨w1.heap.size + 1, 0, none⟩) 0 0) 0 [] := by
  have := own_empty (w1.alloc (.cells #[.slice bt n ct] 25)) 38 4
  simpa using this
 have S3 := S1.grown hA3
 have G3 := G1.trans (World.grownBy_of_below hA3 (some p))
 have r3 := keepC hA3 r1
 have s3 := keepC hA3 s1
 have rf3 := ((bcell hA3).2 w.heap.size 0 (by omega)).trans rf1
 have sf3 := ((bcell hA3).2 (w.heap.size + 1) 0 (by omega)).trans sf1
 have lt1 : ∀ g, (Value.slice bt n ct).ownBlock = some g → g < w1.heap.size := fun g hg => (World.ownsRow.lt O1 g hg).2
 clear S1 G1 r1 s1 rf1 sf1 O1 hA3
 by_cases h0 : n = 0
 ·
  subst h0
  obtain rfl : T = [] := List.eq_nil_of_length_eq_zero HN.out
  have O3n : ((w1.alloc (.cells #[.slice bt 0 ct] 25)).alloc (.cells #[] 38)).ownsRow (w.heap.size + 1 + 1) 38 4 (.slice bt 0 ct) 0 [] := O3
  rcases O3n.2 with ⟨hv, _⟩ | ⟨g, cp, cur, hv, _⟩
  ·
   injection hv with hv1 _ hv3
   subst hv1 hv3
   go_wp2_with (first | (at_builtin; refine wpList_append_own_none rfl _ _ 23 rfl (w1.heap.size + 1) 38 i0 4 Tryz.underlying23 hi (.slice (some ⟨w1.heap.size + 1, 0, none⟩) 0 0) 0 [] rfl E3 rfl ?_) | fail)
   have HT := TwAt.lay (H := w1.heap.size) (W3 := ((w1.alloc (.cells #[.slice none 0 0] 25)).alloc (.cells #[] 38))) (w4 := ((w1.alloc (.cells #[.slice none 0 0] 25)).alloc (.cells #[] 38))) (tv := .slice none 0 0) (bv := .slice (some ⟨w1.heap.size + 1, 0, none⟩) 0 0) (T := []) (U := []) hp S3 G3 r3 rf3 s3 sf3 c3 O3 lt1 z1 (by simp) (World.grownBy.refl _ _) E3 (by simp) (by simp) k1 k1
   simp only [World.size_alloc] at HT
   clear O3 c3 E3 S3 G3 r3 s3 rf3 sf3 lt1
   go_wp2_with fail
   refine (src_n p a len cap zs 3 _ HT.src (by omega) (by omega)).mono ?_
   rintro e w5 ⟨k5, rfl, l5, u5, S5, g5⟩
   have A5 := HT.drawn hp S5 g5
   clear HT S5 g5
   go_wp2
   go_loopw [6] (fun s wr => ∃ (k : Nat) (U : List TurnD), k ≤ 2 ∧ s = .int .i64 k ∧ U.length = 0 ∧ TwAt p a len cap zs w w1.heap.size (w1.heap.size + 1 + 1) (w1.heap.size + 1) (.slice none 0 0) (.slice (some ⟨w1.heap.size + 1, 0, none⟩) 0 0) [] U wr) (fun s _ => (intOf s).toNat)
   case atStart =>
    obtain ⟨m, rfl⟩ := Int.eq_ofNat_of_zero_le l5
    exact ⟨m, _, by omega, rfl, HN.out, A5⟩
   case round =>
    obtain ⟨wa, hwa⟩ : ∃ x : World, x = wr := ⟨_, rfl⟩
    subst hwa
    clear A5
    obtain ⟨k, U, hk, rfl, hU, A⟩ := hrel
    have HU : Hid (U.length = 0) := hU
    clear hU
    have c5 := A.c5
    by_cases hk0 : 0 < k
    ·
     have q1 : (0 : Int) < (k : Int) := by omega
     go_wp2_with fail
     refine (src_one p a len cap zs 8 _ A.src (by omega) (by omega)).mono ?_
     rintro e w6 ⟨v6, rfl, S6, g6⟩
     have A6 := A.drawn hp S6 g6
     clear A S6 g6 c5
     cases v6 with
     | true =>
      have A6s := A6.src
      have c6 := A6.c5
      have f6 := A6.f5
      go_wp2_with fail
      refine (src_some hC p a len cap zs _ A6s).mono ?_
      intro e w7 hs
      obtain ⟨bv, U7, rfl, O7, l7, k7, S7, g7⟩ := hs.ex
      obtain ⟨b7, d7, e7⟩ : ∃ b c, bv = .slice b U7.length c := by obtain ⟨b, c, h, _⟩ := O7.seq; exact ⟨b, c, h⟩
      generalize hm7 : U7.length = m7 at e7
      subst e7
      clear hm7
      have A7 := (A6.other hp S7 g7 O7 l7 k7).drew
      have c7 := (A6.drawn hp S7 g7).c5
      have f7 := (A6.drawn hp S7 g7).f5
      clear A6 A6s c6 f6 hs O7 S7 g7
      have r8 : ((w7.setCell ⟨(w1.heap.size + 1 + 1), 0, none⟩ (.slice b7 m7 d7))).cell? ⟨w.heap.size, 0, none⟩ = _ := A7.r1
      have q8 : ((w7.setCell ⟨(w1.heap.size + 1 + 1), 0, none⟩ (.slice b7 m7 d7))).frozen? ⟨w.heap.size, 0, none⟩ = _ := A7.q1
      have r9 : ((w7.setCell ⟨(w1.heap.size + 1 + 1), 0, none⟩ (.slice b7 m7 d7))).cell? ⟨w.heap.size + 1, 0, none⟩ = _ := A7.r2
      have q9 : ((w7.setCell ⟨(w1.heap.size + 1 + 1), 0, none⟩ (.slice b7 m7 d7))).frozen? ⟨w.heap.size + 1, 0, none⟩ = _ := A7.q2
      have d4 := A7.c4
      have d5 := A7.c5
      have HD : Hid (TwoP p a len cap zs w (.returned (.tuple #[.agg #[(.slice none 0 0)], .agg #[(.slice b7 m7 d7)]])) ((((w7.setCell ⟨(w1.heap.size + 1 + 1), 0, none⟩ (.slice b7 m7 d7))).drew.setCell ⟨w.heap.size, 0, none⟩ (.slice none 0 0)).setCell ⟨w.heap.size + 1, 0, none⟩ (.slice b7 m7 d7))) := A7.done hp
      have o4 := A7.o4
      have o5 := A7.o5
      clear A7
      have d42 : (((w7.setCell ⟨(w1.heap.size + 1 + 1), 0, none⟩ (.slice b7 m7 d7))).drew.setCell ⟨w.heap.size, 0, none⟩ (.slice none 0 0)).cell? ⟨w1.heap.size, 0, none⟩ = some (.slice none 0 0) := by rw [World.cell?_setCell_other _ _ _ _ (by intro e; injection e with e; omega)]; exact d4
      have d52 : (((w7.setCell ⟨(w1.heap.size + 1 + 1), 0, none⟩ (.slice b7 m7 d7))).drew.setCell ⟨w.heap.size, 0, none⟩ (.slice none 0 0)).cell? ⟨(w1.heap.size + 1 + 1), 0, none⟩ = some (.slice b7 m7 d7) := by rw [World.cell?_setCell_other _ _ _ _ (by intro e; injection e with e; omega)]; exact d5
      have r92 : (((w7.setCell ⟨(w1.heap.size + 1 + 1), 0, none⟩ (.slice b7 m7 d7))).drew.setCell ⟨w.heap.size, 0, none⟩ (.slice none 0 0)).cell? ⟨w.heap.size + 1, 0, none⟩ = some (.slice none 0 0) := by rw [World.cell?_setCell_other _ _ _ _ (by intro e; injection e with e; omega)]; exact r9
      have q92 : (((w7.setCell ⟨(w1.heap.size + 1 + 1), 0, none⟩ (.slice b7 m7 d7))).drew.setCell ⟨w.heap.size, 0, none⟩ (.slice none 0 0)).frozen? ⟨w.heap.size + 1, 0, none⟩ = false := by rw [World.frozen?_setCell]; exact q9
      have d43 : ((((w7.setCell ⟨(w1.heap.size + 1 + 1), 0, none⟩ (.slice b7 m7 d7))).drew.setCell ⟨w.heap.size, 0, none⟩ (.slice none 0 0)).setCell ⟨w.heap.size + 1, 0, none⟩ (.slice b7 m7 d7)).cell? ⟨w1.heap.size, 0, none⟩ = some (.slice none 0 0) := by rw [World.cell?_setCell_other _ _ _ _ (by intro e; injection e with e; omega)]; exact d42
      have d53 : ((((w7.setCell ⟨(w1.heap.size + 1 + 1), 0, none⟩ (.slice b7 m7 d7))).drew.setCell ⟨w.heap.size, 0, none⟩ (.slice none 0 0)).setCell ⟨w.heap.size + 1, 0, none⟩ (.slice b7 m7 d7)).cell? ⟨(w1.heap.size + 1 + 1), 0, none⟩ = some (.slice b7 m7 d7) := by rw [World.cell?_setCell_other _ _ _ _ (by intro e; injection e with e; omega)]; exact d52
      have t1 : ((((w7.setCell ⟨(w1.heap.size + 1 + 1), 0, none⟩ (.slice b7 m7 d7))).drew.setCell ⟨w.heap.size, 0, none⟩ (.slice none 0 0)).setCell ⟨w.heap.size + 1, 0, none⟩ (.slice b7 m7 d7)).cell? ⟨w.heap.size, 0, none⟩ = some (.slice none 0 0) := by rw [World.cell?_setCell_other _ _ _ _ (by intro e; injection e with e; omega)]; exact World.cell?_setCell_same _ _ _ r8
      have t2 : ((((w7.setCell ⟨(w1.heap.size + 1 + 1), 0, none⟩ (.slice b7 m7 d7))).drew.setCell ⟨w.heap.size, 0, none⟩ (.slice none 0 0)).setCell ⟨w.heap.size + 1, 0, none⟩ (.slice b7 m7 d7)).cell? ⟨w.heap.size + 1, 0, none⟩ = some (.slice b7 m7 d7) := World.cell?_setCell_same _ _ _ r92
      have t3 : (((w7.setCell ⟨(w1.heap.size + 1 + 1), 0, none⟩ (.slice b7 m7 d7))).setCell ⟨w.heap.size, 0, none⟩ (.slice none 0 0)).cell? ⟨w.heap.size, 0, none⟩ = some (.slice none 0 0) := World.cell?_setCell_same _ _ _ r8
      have t4 : ((((w7.setCell ⟨(w1.heap.size + 1 + 1), 0, none⟩ (.slice b7 m7 d7))).setCell ⟨w.heap.size, 0, none⟩ (.slice none 0 0)).setCell ⟨w.heap.size + 1, 0, none⟩ (.slice b7 m7 d7)).cell? ⟨w.heap.size + 1, 0, none⟩ = some (.slice b7 m7 d7) := World.cell?_setCell_same _ _ _ r92
      go_wp2_with fail
      refine wp_region_noPanic ?_
      refine wp_region_held_drew (S := fun w' => w'.cell? ⟨w1.heap.size, 0, none⟩ = some ((.slice none 0 0)) ∧ w'.cell? ⟨(w1.heap.size + 1 + 1), 0, none⟩ = some ((.slice b7 m7 d7))) (by kernel_rfl) ⟨(show ((w7.setCell ⟨(w1.heap.size + 1 + 1), 0, none⟩ (.slice b7 m7 d7))).drew.cell? ⟨w1.heap.size, 0, none⟩ = _ from d4), (show ((w7.setCell ⟨(w1.heap.size + 1 + 1), 0, none⟩ (.slice b7 m7 d7))).drew.cell? ⟨(w1.heap.size + 1 + 1), 0, none⟩ = _ from d5)⟩ (fun hHeld => ?_)
      refine wpAnyH_take (i := 0) (v := ?v31) rfl (by kernel_rfl) (by kernel_rfl) (by kernel_rfl) (fun _ _ _ h => h) (Or.inl ⟨by kernel_rfl, ?y31⟩) hHeld ?z31
      case y31 => (intro wq hSw; (try dsimp only at hSw); go_simp; try with_reducible rfl)
      try simp only [Act.put, List.setIfInBounds_toArray, List.set_cons_zero, List.set_cons_succ]
      refine wpAnyH_take (i := 1) (v := ?v32) rfl (by kernel_rfl) (by kernel_rfl) (by kernel_rfl) (fun _ _ _ h => h) (Or.inl ⟨by kernel_rfl, ?y32⟩) hHeld ?z32
      case y32 => (intro wq hSw; (try dsimp only at hSw); go_simp; try with_reducible rfl)
      try simp only [Act.put, List.setIfInBounds_toArray, List.set_cons_zero, List.set_cons_succ]
      refine wpAnyH_ready (rs := [2]) (by kernel_rfl) (by simp) ?_
      refine AllReadyH.cons rfl (fun K hK => ?_) AllReadyH.nil
      go_simp
      refine hK.out _ _ ⟨d42, d52⟩ (fun hHeld => ?_)
      clear hK K
      try simp only [Act.put, List.setIfInBounds_toArray, List.set_cons_zero, List.set_cons_succ]
      refine wpAnyH_ready (rs := [3]) (by kernel_rfl) (by simp) ?_
      refine AllReadyH.cons rfl (fun K hK => ?_) AllReadyH.nil
      go_simp
      refine hK.out _ _ ⟨d43, d53⟩ (fun hHeld => ?_)
      clear hK K
      try simp only [Act.put, List.setIfInBounds_toArray, List.set_cons_zero, List.set_cons_succ]
      try simp only [Act.put, List.getElem_toArray, List.getElem_cons_succ, List.getElem_cons_zero, List.setIfInBounds_toArray, List.set_cons_zero, List.set_cons_succ]
      refine wpAnyH_done (by kernel_rfl) ?_ _
      refine NoPanic.normal ?_
      clear hHeld
      go_wp2
      exact bodyPost_ret (v := .tuple #[.agg #[(.slice none 0 0)], .agg #[(.slice b7 m7 d7)]]) (by simp [results, Tryz.results17, go_sem, t1, t2, t3, t4]) rfl HD.out
     | false =>
      have A7 := A6.drew
      have c7 := A6.c5
      clear A6
      have r8 : (w6).cell? ⟨w.heap.size, 0, none⟩ = _ := A7.r1
      have q8 : (w6).frozen? ⟨w.heap.size, 0, none⟩ = _ := A7.q1
      have r9 : (w6).cell? ⟨w.heap.size + 1, 0, none⟩ = _ := A7.r2
      have q9 : (w6).frozen? ⟨w.heap.size + 1, 0, none⟩ = _ := A7.q2
      have d4 := A7.c4
      have d5 := A7.c5
      have HD : Hid (TwoP p a len cap zs w (.returned (.tuple #[.agg #[(.slice none 0 0)], .agg #[(.slice (some ⟨w1.heap.size + 1, 0, none⟩) 0 0)]])) (((w6).drew.setCell ⟨w.heap.size, 0, none⟩ (.slice none 0 0)).setCell ⟨w.heap.size + 1, 0, none⟩ (.slice (some ⟨w1.heap.size + 1, 0, none⟩) 0 0))) := A7.done hp
      have o4 := A7.o4
      have o5 := A7.o5
      clear A7
      have d42 : ((w6).drew.setCell ⟨w.heap.size, 0, none⟩ (.slice none 0 0)).cell? ⟨w1.heap.size, 0, none⟩ = some (.slice none 0 0) := by rw [World.cell?_setCell_other _ _ _ _ (by intro e; injection e with e; omega)]; exact d4
      have d52 : ((w6).drew.setCell ⟨w.heap.size, 0, none⟩ (.slice none 0 0)).cell? ⟨(w1.heap.size + 1 + 1), 0, none⟩ = some (.slice (some ⟨w1.heap.size + 1, 0, none⟩) 0 0) := by rw [World.cell?_setCell_other _ _ _ _ (by intro e; injection e with e; omega)]; exact d5
      have r92 : ((w6).drew.setCell ⟨w.heap.size, 0, none⟩ (.slice none 0 0)).cell? ⟨w.heap.size + 1, 0, none⟩ = some (.slice none 0 0) := by rw [World.cell?_setCell_other _ _ _ _ (by intro e; injection e with e; omega)]; exact r9
      have q92 : ((w6).drew.setCell ⟨w.heap.size, 0, none⟩ (.slice none 0 0)).frozen? ⟨w.heap.size + 1, 0, none⟩ = false := by rw [World.frozen?_setCell]; exact q9
      have d43 : (((w6).drew.setCell ⟨w.heap.size, 0, none⟩ (.slice none 0 0)).setCell ⟨w.heap.size + 1, 0, none⟩ (.slice (some ⟨w1.heap.size + 1, 0, none⟩) 0 0)).cell? ⟨w1.heap.size, 0, none⟩ = some (.slice none 0 0) := by rw [World.cell?_setCell_other _ _ _ _ (by intro e; injection e with e; omega)]; exact d42
      have d53 : (((w6).drew.setCell ⟨w.heap.size, 0, none⟩ (.slice none 0 0)).setCell ⟨w.heap.size + 1, 0, none⟩ (.slice (some ⟨w1.heap.size + 1, 0, none⟩) 0 0)).cell? ⟨(w1.heap.size + 1 + 1), 0, none⟩ = some (.slice (some ⟨w1.heap.size + 1, 0, none⟩) 0 0) := by rw [World.cell?_setCell_other _ _ _ _ (by intro e; injection e with e; omega)]; exact d52
      have t1 : (((w6).drew.setCell ⟨w.heap.size, 0, none⟩ (.slice none 0 0)).setCell ⟨w.heap.size + 1, 0, none⟩ (.slice (some ⟨w1.heap.size + 1, 0, none⟩) 0 0)).cell? ⟨w.heap.size, 0, none⟩ = some (.slice none 0 0) := by rw [World.cell?_setCell_other _ _ _ _ (by intro e; injection e with e; omega)]; exact World.cell?_setCell_same _ _ _ r8
      have t2 : (((w6).drew.setCell ⟨w.heap.size, 0, none⟩ (.slice none 0 0)).setCell ⟨w.heap.size + 1, 0, none⟩ (.slice (some ⟨w1.heap.size + 1, 0, none⟩) 0 0)).cell? ⟨w.heap.size + 1, 0, none⟩ = some (.slice (some ⟨w1.heap.size + 1, 0, none⟩) 0 0) := World.cell?_setCell_same _ _ _ r92
      have t3 : ((w6).setCell ⟨w.heap.size, 0, none⟩ (.slice none 0 0)).cell? ⟨w.heap.size, 0, none⟩ = some (.slice none 0 0) := World.cell?_setCell_same _ _ _ r8
      have t4 : (((w6).setCell ⟨w.heap.size, 0, none⟩ (.slice none 0 0)).setCell ⟨w.heap.size + 1, 0, none⟩ (.slice (some ⟨w1.heap.size + 1, 0, none⟩) 0 0)).cell? ⟨w.heap.size + 1, 0, none⟩ = some (.slice (some ⟨w1.heap.size + 1, 0, none⟩) 0 0) := World.cell?_setCell_same _ _ _ r92
      go_wp2_with fail
      refine wp_region_noPanic ?_
      refine wp_region_held_drew (S := fun w' => w'.cell? ⟨w1.heap.size, 0, none⟩ = some ((.slice none 0 0)) ∧ w'.cell? ⟨(w1.heap.size + 1 + 1), 0, none⟩ = some ((.slice (some ⟨w1.heap.size + 1, 0, none⟩) 0 0))) (by kernel_rfl) ⟨(show (w6).drew.cell? ⟨w1.heap.size, 0, none⟩ = _ from d4), (show (w6).drew.cell? ⟨(w1.heap.size + 1 + 1), 0, none⟩ = _ from d5)⟩ (fun hHeld => ?_)
      refine wpAnyH_take (i := 0) (v := ?v33) rfl (by kernel_rfl) (by kernel_rfl) (by kernel_rfl) (fun _ _ _ h => h) (Or.inl ⟨by kernel_rfl, ?y33⟩) hHeld ?z33
      case y33 => (intro wq hSw; (try dsimp only at hSw); go_simp; try with_reducible rfl)
      try simp only [Act.put, List.setIfInBounds_toArray, List.set_cons_zero, List.set_cons_succ]
      refine wpAnyH_take (i := 1) (v := ?v34) rfl (by kernel_rfl) (by kernel_rfl) (by kernel_rfl) (fun _ _ _ h => h) (Or.inl ⟨by kernel_rfl, ?y34⟩) hHeld ?z34
      case y34 => (intro wq hSw; (try dsimp only at hSw); go_simp; try with_reducible rfl)
      try simp only [Act.put, List.setIfInBounds_toArray, List.set_cons_zero, List.set_cons_succ]
      refine wpAnyH_ready (rs := [2]) (by kernel_rfl) (by simp) ?_
      refine AllReadyH.cons rfl (fun K hK => ?_) AllReadyH.nil
      go_simp
      refine hK.out _ _ ⟨d42, d52⟩ (fun hHeld => ?_)
      clear hK K
      try simp only [Act.put, List.setIfInBounds_toArray, List.set_cons_zero, List.set_cons_succ]
      refine wpAnyH_ready (rs := [3]) (by kernel_rfl) (by simp) ?_
      refine AllReadyH.cons rfl (fun K hK => ?_) AllReadyH.nil
      go_simp
      refine hK.out _ _ ⟨d43, d53⟩ (fun hHeld => ?_)
      clear hK K
      try simp only [Act.put, List.setIfInBounds_toArray, List.set_cons_zero, List.set_cons_succ]
      try simp only [Act.put, List.getElem_toArray, List.getElem_cons_succ, List.getElem_cons_zero, List.setIfInBounds_toArray, List.set_cons_zero, List.set_cons_succ]
      refine wpAnyH_done (by kernel_rfl) ?_ _
      refine NoPanic.normal ?_
      clear hHeld
      go_wp2
      exact bodyPost_ret (v := .tuple #[.agg #[(.slice none 0 0)], .agg #[(.slice (some ⟨w1.heap.size + 1, 0, none⟩) 0 0)]]) (by simp [results, Tryz.results17, go_sem, t1, t2, t3, t4]) rfl HD.out
    ·
     have q1 : ¬ (0 : Int) < (k : Int) := by omega
     go_wp2_with fail
     refine (src_one p a len cap zs 8 _ A.src (by omega) (by omega)).mono ?_
     rintro e w6 ⟨v6, rfl, S6, g6⟩
     have A6 := A.drawn hp S6 g6
     clear A S6 g6 c5
     cases v6 with
     | true =>
      have A6s := A6.src
      have c6 := A6.c5
      have f6 := A6.f5
      go_wp2_with fail
      refine (src_some hC p a len cap zs _ A6s).mono ?_
      intro e w7 hs
      obtain ⟨bv, U7, rfl, O7, l7, k7, S7, g7⟩ := hs.ex
      obtain ⟨b7, d7, e7⟩ : ∃ b c, bv = .slice b U7.length c := by obtain ⟨b, c, h, _⟩ := O7.seq; exact ⟨b, c, h⟩
      generalize hm7 : U7.length = m7 at e7
      subst e7
      clear hm7
      have A7 := (A6.other hp S7 g7 O7 l7 k7).drew
      have c7 := (A6.drawn hp S7 g7).c5
      have f7 := (A6.drawn hp S7 g7).f5
      clear A6 A6s c6 f6 hs O7 S7 g7
      have r8 : ((w7.setCell ⟨(w1.heap.size + 1 + 1), 0, none⟩ (.slice b7 m7 d7))).cell? ⟨w.heap.size, 0, none⟩ = _ := A7.r1
      have q8 : ((w7.setCell ⟨(w1.heap.size + 1 + 1), 0, none⟩ (.slice b7 m7 d7))).frozen? ⟨w.heap.size, 0, none⟩ = _ := A7.q1
      have r9 : ((w7.setCell ⟨(w1.heap.size + 1 + 1), 0, none⟩ (.slice b7 m7 d7))).cell? ⟨w.heap.size + 1, 0, none⟩ = _ := A7.r2
      have q9 : ((w7.setCell ⟨(w1.heap.size + 1 + 1), 0, none⟩ (.slice b7 m7 d7))).frozen? ⟨w.heap.size + 1, 0, none⟩ = _ := A7.q2
      have d4 := A7.c4
      have d5 := A7.c5
      have HD : Hid (TwoP p a len cap zs w (.returned (.tuple #[.agg #[(.slice none 0 0)], .agg #[(.slice b7 m7 d7)]])) ((((w7.setCell ⟨(w1.heap.size + 1 + 1), 0, none⟩ (.slice b7 m7 d7))).drew.setCell ⟨w.heap.size, 0, none⟩ (.slice none 0 0)).setCell ⟨w.heap.size + 1, 0, none⟩ (.slice b7 m7 d7))) := A7.done hp
      have o4 := A7.o4
      have o5 := A7.o5
      clear A7
      have d42 : (((w7.setCell ⟨(w1.heap.size + 1 + 1), 0, none⟩ (.slice b7 m7 d7))).drew.setCell ⟨w.heap.size, 0, none⟩ (.slice none 0 0)).cell? ⟨w1.heap.size, 0, none⟩ = some (.slice none 0 0) := by rw [World.cell?_setCell_other _ _ _ _ (by intro e; injection e with e; omega)]; exact d4
      have d52 : (((w7.setCell ⟨(w1.heap.size + 1 + 1), 0, none⟩ (.slice b7 m7 d7))).drew.setCell ⟨w.heap.size, 0, none⟩ (.slice none 0 0)).cell? ⟨(w1.heap.size + 1 + 1), 0, none⟩ = some (.slice b7 m7 d7) := by rw [World.cell?_setCell_other _ _ _ _ (by intro e; injection e with e; omega)]; exact d5
      have r92 : (((w7.setCell ⟨(w1.heap.size + 1 + 1), 0, none⟩ (.slice b7 m7 d7))).drew.setCell ⟨w.heap.size, 0, none⟩ (.slice none 0 0)).cell? ⟨w.heap.size + 1, 0, none⟩ = some (.slice none 0 0) := by rw [World.cell?_setCell_other _ _ _ _ (by intro e; injection e with e; omega)]; exact r9
      have q92 : (((w7.setCell ⟨(w1.heap.size + 1 + 1), 0, none⟩ (.slice b7 m7 d7))).drew.setCell ⟨w.heap.size, 0, none⟩ (.slice none 0 0)).frozen? ⟨w.heap.size + 1, 0, none⟩ = false := by rw [World.frozen?_setCell]; exact q9
      have d43 : ((((w7.setCell ⟨(w1.heap.size + 1 + 1), 0, none⟩ (.slice b7 m7 d7))).drew.setCell ⟨w.heap.size, 0, none⟩ (.slice none 0 0)).setCell ⟨w.heap.size + 1, 0, none⟩ (.slice b7 m7 d7)).cell? ⟨w1.heap.size, 0, none⟩ = some (.slice none 0 0) := by rw [World.cell?_setCell_other _ _ _ _ (by intro e; injection e with e; omega)]; exact d42
      have d53 : ((((w7.setCell ⟨(w1.heap.size + 1 + 1), 0, none⟩ (.slice b7 m7 d7))).drew.setCell ⟨w.heap.size, 0, none⟩ (.slice none 0 0)).setCell ⟨w.heap.size + 1, 0, none⟩ (.slice b7 m7 d7)).cell? ⟨(w1.heap.size + 1 + 1), 0, none⟩ = some (.slice b7 m7 d7) := by rw [World.cell?_setCell_other _ _ _ _ (by intro e; injection e with e; omega)]; exact d52
      have t1 : ((((w7.setCell ⟨(w1.heap.size + 1 + 1), 0, none⟩ (.slice b7 m7 d7))).drew.setCell ⟨w.heap.size, 0, none⟩ (.slice none 0 0)).setCell ⟨w.heap.size + 1, 0, none⟩ (.slice b7 m7 d7)).cell? ⟨w.heap.size, 0, none⟩ = some (.slice none 0 0) := by rw [World.cell?_setCell_other _ _ _ _ (by intro e; injection e with e; omega)]; exact World.cell?_setCell_same _ _ _ r8
      have t2 : ((((w7.setCell ⟨(w1.heap.size + 1 + 1), 0, none⟩ (.slice b7 m7 d7))).drew.setCell ⟨w.heap.size, 0, none⟩ (.slice none 0 0)).setCell ⟨w.heap.size + 1, 0, none⟩ (.slice b7 m7 d7)).cell? ⟨w.heap.size + 1, 0, none⟩ = some (.slice b7 m7 d7) := World.cell?_setCell_same _ _ _ r92
      have t3 : (((w7.setCell ⟨(w1.heap.size + 1 + 1), 0, none⟩ (.slice b7 m7 d7))).setCell ⟨w.heap.size, 0, none⟩ (.slice none 0 0)).cell? ⟨w.heap.size, 0, none⟩ = some (.slice none 0 0) := World.cell?_setCell_same _ _ _ r8
      have t4 : ((((w7.setCell ⟨(w1.heap.size + 1 + 1), 0, none⟩ (.slice b7 m7 d7))).setCell ⟨w.heap.size, 0, none⟩ (.slice none 0 0)).setCell ⟨w.heap.size + 1, 0, none⟩ (.slice b7 m7 d7)).cell? ⟨w.heap.size + 1, 0, none⟩ = some (.slice b7 m7 d7) := World.cell?_setCell_same _ _ _ r92
      go_wp2_with fail
      refine wp_region_noPanic ?_
      refine wp_region_held_drew (S := fun w' => w'.cell? ⟨w1.heap.size, 0, none⟩ = some ((.slice none 0 0)) ∧ w'.cell? ⟨(w1.heap.size + 1 + 1), 0, none⟩ = some ((.slice b7 m7 d7))) (by kernel_rfl) ⟨(show ((w7.setCell ⟨(w1.heap.size + 1 + 1), 0, none⟩ (.slice b7 m7 d7))).drew.cell? ⟨w1.heap.size, 0, none⟩ = _ from d4), (show ((w7.setCell ⟨(w1.heap.size + 1 + 1), 0, none⟩ (.slice b7 m7 d7))).drew.cell? ⟨(w1.heap.size + 1 + 1), 0, none⟩ = _ from d5)⟩ (fun hHeld => ?_)
      refine wpAnyH_take (i := 0) (v := ?v35) rfl (by kernel_rfl) (by kernel_rfl) (by kernel_rfl) (fun _ _ _ h => h) (Or.inl ⟨by kernel_rfl, ?y35⟩) hHeld ?z35
      case y35 => (intro wq hSw; (try dsimp only at hSw); go_simp; try with_reducible rfl)
      try simp only [Act.put, List.setIfInBounds_toArray, List.set_cons_zero, List.set_cons_succ]
      refine wpAnyH_take (i := 1) (v := ?v36) rfl (by kernel_rfl) (by kernel_rfl) (by kernel_rfl) (fun _ _ _ h => h) (Or.inl ⟨by kernel_rfl, ?y36⟩) hHeld ?z36
      case y36 => (intro wq hSw; (try dsimp only at hSw); go_simp; try with_reducible rfl)
      try simp only [Act.put, List.setIfInBounds_toArray, List.set_cons_zero, List.set_cons_succ]
      refine wpAnyH_ready (rs := [2]) (by kernel_rfl) (by simp) ?_
      refine AllReadyH.cons rfl (fun K hK => ?_) AllReadyH.nil
      go_simp
      refine hK.out _ _ ⟨d42, d52⟩ (fun hHeld => ?_)
      clear hK K
      try simp only [Act.put, List.setIfInBounds_toArray, List.set_cons_zero, List.set_cons_succ]
      refine wpAnyH_ready (rs := [3]) (by kernel_rfl) (by simp) ?_
      refine AllReadyH.cons rfl (fun K hK => ?_) AllReadyH.nil
      go_simp
      refine hK.out _ _ ⟨d43, d53⟩ (fun hHeld => ?_)
      clear hK K
      try simp only [Act.put, List.setIfInBounds_toArray, List.set_cons_zero, List.set_cons_succ]
      try simp only [Act.put, List.getElem_toArray, List.getElem_cons_succ, List.getElem_cons_zero, List.setIfInBounds_toArray, List.set_cons_zero, List.set_cons_succ]
      refine wpAnyH_done (by kernel_rfl) ?_ _
      refine NoPanic.normal ?_
      clear hHeld
      go_wp2
      exact bodyPost_ret (v := .tuple #[.agg #[(.slice none 0 0)], .agg #[(.slice b7 m7 d7)]]) (by simp [results, Tryz.results17, go_sem, t1, t2, t3, t4]) rfl HD.out
     | false =>
      have A7 := A6.drew
      have c7 := A6.c5
      clear A6
      have r8 : (w6).cell? ⟨w.heap.size, 0, none⟩ = _ := A7.r1
      have q8 : (w6).frozen? ⟨w.heap.size, 0, none⟩ = _ := A7.q1
      have r9 : (w6).cell? ⟨w.heap.size + 1, 0, none⟩ = _ := A7.r2
      have q9 : (w6).frozen? ⟨w.heap.size + 1, 0, none⟩ = _ := A7.q2
      have d4 := A7.c4
      have d5 := A7.c5
      have HD : Hid (TwoP p a len cap zs w (.returned (.tuple #[.agg #[(.slice none 0 0)], .agg #[(.slice (some ⟨w1.heap.size + 1, 0, none⟩) 0 0)]])) (((w6).drew.setCell ⟨w.heap.size, 0, none⟩ (.slice none 0 0)).setCell ⟨w.heap.size + 1, 0, none⟩ (.slice (some ⟨w1.heap.size + 1, 0, none⟩) 0 0))) := A7.done hp
      have o4 := A7.o4
      have o5 := A7.o5
      clear A7
      have d42 : ((w6).drew.setCell ⟨w.heap.size, 0, none⟩ (.slice none 0 0)).cell? ⟨w1.heap.size, 0, none⟩ = some (.slice none 0 0) := by rw [World.cell?_setCell_other _ _ _ _ (by intro e; injection e with e; omega)]; exact d4
      have d52 : ((w6).drew.setCell ⟨w.heap.size, 0, none⟩ (.slice none 0 0)).cell? ⟨(w1.heap.size + 1 + 1), 0, none⟩ = some (.slice (some ⟨w1.heap.size + 1, 0, none⟩) 0 0) := by rw [World.cell?_setCell_other _ _ _ _ (by intro e; injection e with e; omega)]; exact d5
      have r92 : ((w6).drew.setCell ⟨w.heap.size, 0, none⟩ (.slice none 0 0)).cell? ⟨w.heap.size + 1, 0, none⟩ = some (.slice none 0 0) := by rw [World.cell?_setCell_other _ _ _ _ (by intro e; injection e with e; omega)]; exact r9
      have q92 : ((w6).drew.setCell ⟨w.heap.size, 0, none⟩ (.slice none 0 0)).frozen? ⟨w.heap.size + 1, 0, none⟩ = false := by rw [World.frozen?_setCell]; exact q9
      have d43 : (((w6).drew.setCell ⟨w.heap.size, 0, none⟩ (.slice none 0 0)).setCell ⟨w.heap.size + 1, 0, none⟩ (.slice (some ⟨w1.heap.size + 1, 0, none⟩) 0 0)).cell? ⟨w1.heap.size, 0, none⟩ = some (.slice none 0 0) := by rw [World.cell?_setCell_other _ _ _ _ (by intro e; injection e with e; omega)]; exact d42
      have d53 : (((w6).drew.setCell ⟨w.heap.size, 0, none⟩ (.slice none 0 0)).setCell ⟨w.heap.size + 1, 0, none⟩ (.slice (some ⟨w1.heap.size + 1, 0, none⟩) 0 0)).cell? ⟨(w1.heap.size + 1 + 1), 0, none⟩ = some (.slice (some ⟨w1.heap.size + 1, 0, none⟩) 0 0) := by rw [World.cell?_setCell_other _ _ _ _ (by intro e; injection e with e; omega)]; exact d52
      have t1 : (((w6).drew.setCell ⟨w.heap.size, 0, none⟩ (.slice none 0 0)).setCell ⟨w.heap.size + 1, 0, none⟩ (.slice (some ⟨w1.heap.size + 1, 0, none⟩) 0 0)).cell? ⟨w.heap.size, 0, none⟩ = some (.slice none 0 0) := by rw [World.cell?_setCell_other _ _ _ _ (by intro e; injection e with e; omega)]; exact World.cell?_setCell_same _ _ _ r8
      have t2 : (((w6).drew.setCell ⟨w.heap.size, 0, none⟩ (.slice none 0 0)).setCell ⟨w.heap.size + 1, 0, none⟩ (.slice (some ⟨w1.heap.size + 1, 0, none⟩) 0 0)).cell? ⟨w.heap.size + 1, 0, none⟩ = some (.slice (some ⟨w1.heap.size + 1, 0, none⟩) 0 0) := World.cell?_setCell_same _ _ _ r92
      have t3 : ((w6).setCell ⟨w.heap.size, 0, none⟩ (.slice none 0 0)).cell? ⟨w.heap.size, 0, none⟩ = some (.slice none 0 0) := World.cell?_setCell_same _ _ _ r8
      have t4 : (((w6).setCell ⟨w.heap.size, 0, none⟩ (.slice none 0 0)).setCell ⟨w.heap.size + 1, 0, none⟩ (.slice (some ⟨w1.heap.size + 1, 0, none⟩) 0 0)).cell? ⟨w.heap.size + 1, 0, none⟩ = some (.slice (some ⟨w1.heap.size + 1, 0, none⟩) 0 0) := World.cell?_setCell_same _ _ _ r92
      go_wp2_with fail
      refine wp_region_noPanic ?_
      refine wp_region_held_drew (S := fun w' => w'.cell? ⟨w1.heap.size, 0, none⟩ = some ((.slice none 0 0)) ∧ w'.cell? ⟨(w1.heap.size + 1 + 1), 0, none⟩ = some ((.slice (some ⟨w1.heap.size + 1, 0, none⟩) 0 0))) (by kernel_rfl) ⟨(show (w6).drew.cell? ⟨w1.heap.size, 0, none⟩ = _ from d4), (show (w6).drew.cell? ⟨(w1.heap.size + 1 + 1), 0, none⟩ = _ from d5)⟩ (fun hHeld => ?_)
      refine wpAnyH_take (i := 0) (v := ?v37) rfl (by kernel_rfl) (by kernel_rfl) (by kernel_rfl) (fun _ _ _ h => h) (Or.inl ⟨by kernel_rfl, ?y37⟩) hHeld ?z37
      case y37 => (intro wq hSw; (try dsimp only at hSw); go_simp; try with_reducible rfl)
      try simp only [Act.put, List.setIfInBounds_toArray, List.set_cons_zero, List.set_cons_succ]
      refine wpAnyH_take (i := 1) (v := ?v38) rfl (by kernel_rfl) (by kernel_rfl) (by kernel_rfl) (fun _ _ _ h => h) (Or.inl ⟨by kernel_rfl, ?y38⟩) hHeld ?z38
      case y38 => (intro wq hSw; (try dsimp only at hSw); go_simp; try with_reducible rfl)
      try simp only [Act.put, List.setIfInBounds_toArray, List.set_cons_zero, List.set_cons_succ]
      refine wpAnyH_ready (rs := [2]) (by kernel_rfl) (by simp) ?_
      refine AllReadyH.cons rfl (fun K hK => ?_) AllReadyH.nil
      go_simp
      refine hK.out _ _ ⟨d42, d52⟩ (fun hHeld => ?_)
      clear hK K
      try simp only [Act.put, List.setIfInBounds_toArray, List.set_cons_zero, List.set_cons_succ]
      refine wpAnyH_ready (rs := [3]) (by kernel_rfl) (by simp) ?_
      refine AllReadyH.cons rfl (fun K hK => ?_) AllReadyH.nil
      go_simp
      refine hK.out _ _ ⟨d43, d53⟩ (fun hHeld => ?_)
      clear hK K
      try simp only [Act.put, List.setIfInBounds_toArray, List.set_cons_zero, List.set_cons_succ]
      try simp only [Act.put, List.getElem_toArray, List.getElem_cons_succ, List.getElem_cons_zero, List.setIfInBounds_toArray, List.set_cons_zero, List.set_cons_succ]
      refine wpAnyH_done (by kernel_rfl) ?_ _
      refine NoPanic.normal ?_
      clear hHeld
      go_wp2
      exact bodyPost_ret (v := .tuple #[.agg #[(.slice none 0 0)], .agg #[(.slice (some ⟨w1.heap.size + 1, 0, none⟩) 0 0)]]) (by simp [results, Tryz.results17, go_sem, t1, t2, t3, t4]) rfl HD.out
  ·
   injection hv with hv1 _ hv3
   subst hv1 hv3
   go_wp2_with (first | (at_builtin; refine wpList_append_own _ rfl _ _ 23 rfl (w1.heap.size + 1) 38 i0 (.agg #[.int .i64 0, .int .i64 0, .int .i64 0, .string ⟨#[]⟩]) 4 40 Tryz.underlying23 hi hz0 hz1 hz2 rfl (by omega) (.slice (some ⟨w1.heap.size + 1, 0, none⟩) 0 0) 0 [] rfl E3 ⟨g, 0, none⟩ 0 ct [] rfl rfl (fun j u hu => by simp at hu) (by simp) (by unfold maxLen; omega) (by omega) (by simp) ?_) | fail)
   intro v9 w9 hown9 hgrow9 _
   have hown9' : OwnsT w9 (w1.heap.size + 1) v9 [] := hown9
   obtain ⟨b9, d9, e9⟩ : ∃ b c, v9 = .slice b 0 c := by obtain ⟨b, c, h, _⟩ := hown9'.seq; exact ⟨b, c, h⟩
   subst e9
   have HT := TwAt.lay (H := w1.heap.size) (W3 := ((w1.alloc (.cells #[.slice (some ⟨g, 0, none⟩) 0 ct] 25)).alloc (.cells #[] 38))) (w4 := w9) (tv := .slice (some ⟨g, 0, none⟩) 0 ct) (bv := .slice b9 0 d9) (T := []) (U := []) hp S3 G3 r3 rf3 s3 sf3 c3 O3 lt1 z1 (by simp) hgrow9 hown9' (by simp) (by simp) k1 k1
   clear hown9 hown9' hgrow9
   clear O3 c3 E3 S3 G3 r3 s3 rf3 sf3 lt1
   go_wp2_with fail
   refine (src_n p a len cap zs 3 _ HT.src (by omega) (by omega)).mono ?_
   rintro e w5 ⟨k5, rfl, l5, u5, S5, g5⟩
   have A5 := HT.drawn hp S5 g5
   clear HT S5 g5
   go_wp2
   go_loopw [6] (fun s wr => ∃ (k : Nat) (U : List TurnD), k ≤ 2 ∧ s = .int .i64 k ∧ U.length = 0 ∧ TwAt p a len cap zs w w1.heap.size w9.heap.size (w1.heap.size + 1) (.slice (some ⟨g, 0, none⟩) 0 ct) (.slice b9 0 d9) [] U wr) (fun s _ => (intOf s).toNat)
   case atStart =>
    obtain ⟨m, rfl⟩ := Int.eq_ofNat_of_zero_le l5
    exact ⟨m, _, by omega, rfl, HN.out, A5⟩
   case round =>
    obtain ⟨wa, hwa⟩ : ∃ x : World, x = wr := ⟨_, rfl⟩
    subst hwa
    clear A5
    obtain ⟨k, U, hk, rfl, hU, A⟩ := hrel
    have HU : Hid (U.length = 0) := hU
    clear hU
    have c5 := A.c5
    by_cases hk0 : 0 < k
    ·
     have q1 : (0 : Int) < (k : Int) := by omega
     go_wp2_with fail
     refine (src_one p a len cap zs 8 _ A.src (by omega) (by omega)).mono ?_
     rintro e w6 ⟨v6, rfl, S6, g6⟩
     have A6 := A.drawn hp S6 g6
     clear A S6 g6 c5
     cases v6 with
     | true =>
      have A6s := A6.src
      have c6 := A6.c5
      have f6 := A6.f5
      go_wp2_with fail
      refine (src_some hC p a len cap zs _ A6s).mono ?_
      intro e w7 hs
      obtain ⟨bv, U7, rfl, O7, l7, k7, S7, g7⟩ := hs.ex
      obtain ⟨b7, d7, e7⟩ : ∃ b c, bv = .slice b U7.length c := by obtain ⟨b, c, h, _⟩ := O7.seq; exact ⟨b, c, h⟩
      generalize hm7 : U7.length = m7 at e7
      subst e7
      clear hm7
      have A7 := (A6.other hp S7 g7 O7 l7 k7).drew
      have c7 := (A6.drawn hp S7 g7).c5
      have f7 := (A6.drawn hp S7 g7).f5
      clear A6 A6s c6 f6 hs O7 S7 g7
      have r8 : ((w7.setCell ⟨w9.heap.size, 0, none⟩ (.slice b7 m7 d7))).cell? ⟨w.heap.size, 0, none⟩ = _ := A7.r1
      have q8 : ((w7.setCell ⟨w9.heap.size, 0, none⟩ (.slice b7 m7 d7))).frozen? ⟨w.heap.size, 0, none⟩ = _ := A7.q1
      have r9 : ((w7.setCell ⟨w9.heap.size, 0, none⟩ (.slice b7 m7 d7))).cell? ⟨w.heap.size + 1, 0, none⟩ = _ := A7.r2
      have q9 : ((w7.setCell ⟨w9.heap.size, 0, none⟩ (.slice b7 m7 d7))).frozen? ⟨w.heap.size + 1, 0, none⟩ = _ := A7.q2
      have d4 := A7.c4
      have d5 := A7.c5
      have HD : Hid (TwoP p a len cap zs w (.returned (.tuple #[.agg #[(.slice (some ⟨g, 0, none⟩) 0 ct)], .agg #[(.slice b7 m7 d7)]])) ((((w7.setCell ⟨w9.heap.size, 0, none⟩ (.slice b7 m7 d7))).drew.setCell ⟨w.heap.size, 0, none⟩ (.slice (some ⟨g, 0, none⟩) 0 ct)).setCell ⟨w.heap.size + 1, 0, none⟩ (.slice b7 m7 d7))) := A7.done hp
      have o4 := A7.o4
      have o5 := A7.o5
      clear A7
      have d42 : (((w7.setCell ⟨w9.heap.size, 0, none⟩ (.slice b7 m7 d7))).drew.setCell ⟨w.heap.size, 0, none⟩ (.slice (some ⟨g, 0, none⟩) 0 ct)).cell? ⟨w1.heap.size, 0, none⟩ = some (.slice (some ⟨g, 0, none⟩) 0 ct) := by rw [World.cell?_setCell_other _ _ _ _ (by intro e; injection e with e; omega)]; exact d4
      have d52 : (((w7.setCell ⟨w9.heap.size, 0, none⟩ (.slice b7 m7 d7))).drew.setCell ⟨w.heap.size, 0, none⟩ (.slice (some ⟨g, 0, none⟩) 0 ct)).cell? ⟨w9.heap.size, 0, none⟩ = some (.slice b7 m7 d7) := by rw [World.cell?_setCell_other _ _ _ _ (by intro e; injection e with e; omega)]; exact d5
      have r92 : (((w7.setCell ⟨w9.heap.size, 0, none⟩ (.slice b7 m7 d7))).drew.setCell ⟨w.heap.size, 0, none⟩ (.slice (some ⟨g, 0, none⟩) 0 ct)).cell? ⟨w.heap.size + 1, 0, none⟩ = some (.slice none 0 0) := by rw [World.cell?_setCell_other _ _ _ _ (by intro e; injection e with e; omega)]; exact r9
      have q92 : (((w7.setCell ⟨w9.heap.size, 0, none⟩ (.slice b7 m7 d7))).drew.setCell ⟨w.heap.size, 0, none⟩ (.slice (some ⟨g, 0, none⟩) 0 ct)).frozen? ⟨w.heap.size + 1, 0, none⟩ = false := by rw [World.frozen?_setCell]; exact q9
      have d43 : ((((w7.setCell ⟨w9.heap.size, 0, none⟩ (.slice b7 m7 d7))).drew.setCell ⟨w.heap.size, 0, none⟩ (.slice (some ⟨g, 0, none⟩) 0 ct)).setCell ⟨w.heap.size + 1, 0, none⟩ (.slice b7 m7 d7)).cell? ⟨w1.heap.size, 0, none⟩ = some (.slice (some ⟨g, 0, none⟩) 0 ct) := by rw [World.cell?_setCell_other _ _ _ _ (by intro e; injection e with e; omega)]; exact d42
      have d53 : ((((w7.setCell ⟨w9.heap.size, 0, none⟩ (.slice b7 m7 d7))).drew.setCell ⟨w.heap.size, 0, none⟩ (.slice (some ⟨g, 0, none⟩) 0 ct)).setCell ⟨w.heap.size + 1, 0, none⟩ (.slice b7 m7 d7)).cell? ⟨w9.heap.size, 0, none⟩ = some (.slice b7 m7 d7) := by rw [World.cell?_setCell_other _ _ _ _ (by intro e; injection e with e; omega)]; exact d52
      have t1 : ((((w7.setCell ⟨w9.heap.size, 0, none⟩ (.slice b7 m7 d7))).drew.setCell ⟨w.heap.size, 0, none⟩ (.slice (some ⟨g, 0, none⟩) 0 ct)).setCell ⟨w.heap.size + 1, 0, none⟩ (.slice b7 m7 d7)).cell? ⟨w.heap.size, 0, none⟩ = some (.slice (some ⟨g, 0, none⟩) 0 ct) := by rw [World.cell?_setCell_other _ _ _ _ (by intro e; injection e with e; omega)]; exact World.cell?_setCell_same _ _ _ r8
      have t2 : ((((w7.setCell ⟨w9.heap.size, 0, none⟩ (.slice b7 m7 d7))).drew.setCell ⟨w.heap.size, 0, none⟩ (.slice (some ⟨g, 0, none⟩) 0 ct)).setCell ⟨w.heap.size + 1, 0, none⟩ (.slice b7 m7 d7)).cell? ⟨w.heap.size + 1, 0, none⟩ = some (.slice b7 m7 d7) := World.cell?_setCell_same _ _ _ r92
      have t3 : (((w7.setCell ⟨w9.heap.size, 0, none⟩ (.slice b7 m7 d7))).setCell ⟨w.heap.size, 0, none⟩ (.slice (some ⟨g, 0, none⟩) 0 ct)).cell? ⟨w.heap.size, 0, none⟩ = some (.slice (some ⟨g, 0, none⟩) 0 ct) := World.cell?_setCell_same _ _ _ r8
      have t4 : ((((w7.setCell ⟨w9.heap.size, 0, none⟩ (.slice b7 m7 d7))).setCell ⟨w.heap.size, 0, none⟩ (.slice (some ⟨g, 0, none⟩) 0 ct)).setCell ⟨w.heap.size + 1, 0, none⟩ (.slice b7 m7 d7)).cell? ⟨w.heap.size + 1, 0, none⟩ = some (.slice b7 m7 d7) := World.cell?_setCell_same _ _ _ r92
      go_wp2_with fail
      refine wp_region_noPanic ?_
      refine wp_region_held_drew (S := fun w' => w'.cell? ⟨w1.heap.size, 0, none⟩ = some ((.slice (some ⟨g, 0, none⟩) 0 ct)) ∧ w'.cell? ⟨w9.heap.size, 0, none⟩ = some ((.slice b7 m7 d7))) (by kernel_rfl) ⟨(show ((w7.setCell ⟨w9.heap.size, 0, none⟩ (.slice b7 m7 d7))).drew.cell? ⟨w1.heap.size, 0, none⟩ = _ from d4), (show ((w7.setCell ⟨w9.heap.size, 0, none⟩ (.slice b7 m7 d7))).drew.cell? ⟨w9.heap.size, 0, none⟩ = _ from d5)⟩ (fun hHeld => ?_)
      refine wpAnyH_take (i := 0) (v := ?v39) rfl (by kernel_rfl) (by kernel_rfl) (by kernel_rfl) (fun _ _ _ h => h) (Or.inl ⟨by kernel_rfl, ?y39⟩) hHeld ?z39
      case y39 => (intro wq hSw; (try dsimp only at hSw); go_simp; try with_reducible rfl)
      try simp only [Act.put, List.setIfInBounds_toArray, List.set_cons_zero, List.set_cons_succ]
      refine wpAnyH_take (i := 1) (v := ?v40) rfl (by kernel_rfl) (by kernel_rfl) (by kernel_rfl) (fun _ _ _ h => h) (Or.inl ⟨by kernel_rfl, ?y40⟩) hHeld ?z40
      case y40 => (intro wq hSw; (try dsimp only at hSw); go_simp; try with_reducible rfl)
      try simp only [Act.put, List.setIfInBounds_toArray, List.set_cons_zero, List.set_cons_succ]
      refine wpAnyH_ready (rs := [2]) (by kernel_rfl) (by simp) ?_
      refine AllReadyH.cons rfl (fun K hK => ?_) AllReadyH.nil
      go_simp
      refine hK.out _ _ ⟨d42, d52⟩ (fun hHeld => ?_)
      clear hK K
      try simp only [Act.put, List.setIfInBounds_toArray, List.set_cons_zero, List.set_cons_succ]
      refine wpAnyH_ready (rs := [3]) (by kernel_rfl) (by simp) ?_
      refine AllReadyH.cons rfl (fun K hK => ?_) AllReadyH.nil
      go_simp
      refine hK.out _ _ ⟨d43, d53⟩ (fun hHeld => ?_)
      clear hK K
      try simp only [Act.put, List.setIfInBounds_toArray, List.set_cons_zero, List.set_cons_succ]
      try simp only [Act.put, List.getElem_toArray, List.getElem_cons_succ, List.getElem_cons_zero, List.setIfInBounds_toArray, List.set_cons_zero, List.set_cons_succ]
      refine wpAnyH_done (by kernel_rfl) ?_ _
      refine NoPanic.normal ?_
      clear hHeld
      go_wp2
      exact bodyPost_ret (v := .tuple #[.agg #[(.slice (some ⟨g, 0, none⟩) 0 ct)], .agg #[(.slice b7 m7 d7)]]) (by simp [results, Tryz.results17, go_sem, t1, t2, t3, t4]) rfl HD.out
     | false =>
      have A7 := A6.drew
      have c7 := A6.c5
      clear A6
      have r8 : (w6).cell? ⟨w.heap.size, 0, none⟩ = _ := A7.r1
      have q8 : (w6).frozen? ⟨w.heap.size, 0, none⟩ = _ := A7.q1
      have r9 : (w6).cell? ⟨w.heap.size + 1, 0, none⟩ = _ := A7.r2
      have q9 : (w6).frozen? ⟨w.heap.size + 1, 0, none⟩ = _ := A7.q2
      have d4 := A7.c4
      have d5 := A7.c5
      have HD : Hid (TwoP p a len cap zs w (.returned (.tuple #[.agg #[(.slice (some ⟨g, 0, none⟩) 0 ct)], .agg #[(.slice b9 0 d9)]])) (((w6).drew.setCell ⟨w.heap.size, 0, none⟩ (.slice (some ⟨g, 0, none⟩) 0 ct)).setCell ⟨w.heap.size + 1, 0, none⟩ (.slice b9 0 d9))) := A7.done hp
      have o4 := A7.o4
      have o5 := A7.o5
      clear A7
      have d42 : ((w6).drew.setCell ⟨w.heap.size, 0, none⟩ (.slice (some ⟨g, 0, none⟩) 0 ct)).cell? ⟨w1.heap.size, 0, none⟩ = some (.slice (some ⟨g, 0, none⟩) 0 ct) := by rw [World.cell?_setCell_other _ _ _ _ (by intro e; injection e with e; omega)]; exact d4
      have d52 : ((w6).drew.setCell ⟨w.heap.size, 0, none⟩ (.slice (some ⟨g, 0, none⟩) 0 ct)).cell? ⟨w9.heap.size, 0, none⟩ = some (.slice b9 0 d9) := by rw [World.cell?_setCell_other _ _ _ _ (by intro e; injection e with e; omega)]; exact d5
      have r92 : ((w6).drew.setCell ⟨w.heap.size, 0, none⟩ (.slice (some ⟨g, 0, none⟩) 0 ct)).cell? ⟨w.heap.size + 1, 0, none⟩ = some (.slice none 0 0) := by rw [World.cell?_setCell_other _ _ _ _ (by intro e; injection e with e; omega)]; exact r9
      have q92 : ((w6).drew.setCell ⟨w.heap.size, 0, none⟩ (.slice (some ⟨g, 0, none⟩) 0 ct)).frozen? ⟨w.heap.size + 1, 0, none⟩ = false := by rw [World.frozen?_setCell]; exact q9
      have d43 : (((w6).drew.setCell ⟨w.heap.size, 0, none⟩ (.slice (some ⟨g, 0, none⟩) 0 ct)).setCell ⟨w.heap.size + 1, 0, none⟩ (.slice b9 0 d9)).cell? ⟨w1.heap.size, 0, none⟩ = some (.slice (some ⟨g, 0, none⟩) 0 ct) := by rw [World.cell?_setCell_other _ _ _ _ (by intro e; injection e with e; omega)]; exact d42
      have d53 : (((w6).drew.setCell ⟨w.heap.size, 0, none⟩ (.slice (some ⟨g, 0, none⟩) 0 ct)).setCell ⟨w.heap.size + 1, 0, none⟩ (.slice b9 0 d9)).cell? ⟨w9.heap.size, 0, none⟩ = some (.slice b9 0 d9) := by rw [World.cell?_setCell_other _ _ _ _ (by intro e; injection e with e; omega)]; exact d52
      have t1 : (((w6).drew.setCell ⟨w.heap.size, 0, none⟩ (.slice (some ⟨g, 0, none⟩) 0 ct)).setCell ⟨w.heap.size + 1, 0, none⟩ (.slice b9 0 d9)).cell? ⟨w.heap.size, 0, none⟩ = some (.slice (some ⟨g, 0, none⟩) 0 ct) := by rw [World.cell?_setCell_other _ _ _ _ (by intro e; injection e with e; omega)]; exact World.cell?_setCell_same _ _ _ r8
      have t2 : (((w6).drew.setCell ⟨w.heap.size, 0, none⟩ (.slice (some ⟨g, 0, none⟩) 0 ct)).setCell ⟨w.heap.size + 1, 0, none⟩ (.slice b9 0 d9)).cell? ⟨w.heap.size + 1, 0, none⟩ = some (.slice b9 0 d9) := World.cell?_setCell_same _ _ _ r92
      have t3 : ((w6).setCell ⟨w.heap.size, 0, none⟩ (.slice (some ⟨g, 0, none⟩) 0 ct)).cell? ⟨w.heap.size, 0, none⟩ = some (.slice (some ⟨g, 0, none⟩) 0 ct) := World.cell?_setCell_same _ _ _ r8
      have t4 : (((w6).setCell ⟨w.heap.size, 0, none⟩ (.slice (some ⟨g, 0, none⟩) 0 ct)).setCell ⟨w.heap.size + 1, 0, none⟩ (.slice b9 0 d9)).cell? ⟨w.heap.size + 1, 0, none⟩ = some (.slice b9 0 d9) := World.cell?_setCell_same _ _ _ r92
      go_wp2_with fail
      refine wp_region_noPanic ?_
      refine wp_region_held_drew (S := fun w' => w'.cell? ⟨w1.heap.size, 0, none⟩ = some ((.slice (some ⟨g, 0, none⟩) 0 ct)) ∧ w'.cell? ⟨w9.heap.size, 0, none⟩ = some ((.slice b9 0 d9))) (by kernel_rfl) ⟨(show (w6).drew.cell? ⟨w1.heap.size, 0, none⟩ = _ from d4), (show (w6).drew.cell? ⟨w9.heap.size, 0, none⟩ = _ from d5)⟩ (fun hHeld => ?_)
      refine wpAnyH_take (i := 0) (v := ?v41) rfl (by kernel_rfl) (by kernel_rfl) (by kernel_rfl) (fun _ _ _ h => h) (Or.inl ⟨by kernel_rfl, ?y41⟩) hHeld ?z41
      case y41 => (intro wq hSw; (try dsimp only at hSw); go_simp; try with_reducible rfl)
      try simp only [Act.put, List.setIfInBounds_toArray, List.set_cons_zero, List.set_cons_succ]
      refine wpAnyH_take (i := 1) (v := ?v42) rfl (by kernel_rfl) (by kernel_rfl) (by kernel_rfl) (fun _ _ _ h => h) (Or.inl ⟨by kernel_rfl, ?y42⟩) hHeld ?z42
      case y42 => (intro wq hSw; (try dsimp only at hSw); go_simp; try with_reducible rfl)
      try simp only [Act.put, List.setIfInBounds_toArray, List.set_cons_zero, List.set_cons_succ]
      refine wpAnyH_ready (rs := [2]) (by kernel_rfl) (by simp) ?_
      refine AllReadyH.cons rfl (fun K hK => ?_) AllReadyH.nil
      go_simp
      refine hK.out _ _ ⟨d42, d52⟩ (fun hHeld => ?_)
      clear hK K
      try simp only [Act.put, List.setIfInBounds_toArray, List.set_cons_zero, List.set_cons_succ]
      refine wpAnyH_ready (rs := [3]) (by kernel_rfl) (by simp) ?_
      refine AllReadyH.cons rfl (fun K hK => ?_) AllReadyH.nil
      go_simp
      refine hK.out _ _ ⟨d43, d53⟩ (fun hHeld => ?_)
      clear hK K
      try simp only [Act.put, List.setIfInBounds_toArray, List.set_cons_zero, List.set_cons_succ]
      try simp only [Act.put, List.getElem_toArray, List.getElem_cons_succ, List.getElem_cons_zero, List.setIfInBounds_toArray, List.set_cons_zero, List.set_cons_succ]
      refine wpAnyH_done (by kernel_rfl) ?_ _
      refine NoPanic.normal ?_
      clear hHeld
      go_wp2
      exact bodyPost_ret (v := .tuple #[.agg #[(.slice (some ⟨g, 0, none⟩) 0 ct)], .agg #[(.slice b9 0 d9)]]) (by simp [results, Tryz.results17, go_sem, t1, t2, t3, t4]) rfl HD.out
    ·
     have q1 : ¬ (0 : Int) < (k : Int) := by omega
     go_wp2_with fail
     refine (src_one p a len cap zs 8 _ A.src (by omega) (by omega)).mono ?_
     rintro e w6 ⟨v6, rfl, S6, g6⟩
     have A6 := A.drawn hp S6 g6
     clear A S6 g6 c5
     cases v6 with
     | true =>
      have A6s := A6.src
      have c6 := A6.c5
      have f6 := A6.f5
      go_wp2_with fail
      refine (src_some hC p a len cap zs _ A6s).mono ?_
      intro e w7 hs
      obtain ⟨bv, U7, rfl, O7, l7, k7, S7, g7⟩ := hs.ex
      obtain ⟨b7, d7, e7⟩ : ∃ b c, bv = .slice b U7.length c := by obtain ⟨b, c, h, _⟩ := O7.seq; exact ⟨b, c, h⟩
      generalize hm7 : U7.length = m7 at e7
      subst e7
      clear hm7
      have A7 := (A6.other hp S7 g7 O7 l7 k7).drew
      have c7 := (A6.drawn hp S7 g7).c5
      have f7 := (A6.drawn hp S7 g7).f5
      clear A6 A6s c6 f6 hs O7 S7 g7
      have r8 : ((w7.setCell ⟨w9.heap.size, 0, none⟩ (.slice b7 m7 d7))).cell? ⟨w.heap.size, 0, none⟩ = _ := A7.r1
      have q8 : ((w7.setCell ⟨w9.heap.size, 0, none⟩ (.slice b7 m7 d7))).frozen? ⟨w.heap.size, 0, none⟩ = _ := A7.q1
      have r9 : ((w7.setCell ⟨w9.heap.size, 0, none⟩ (.slice b7 m7 d7))).cell? ⟨w.heap.size + 1, 0, none⟩ = _ := A7.r2
      have q9 : ((w7.setCell ⟨w9.heap.size, 0, none⟩ (.slice b7 m7 d7))).frozen? ⟨w.heap.size + 1, 0, none⟩ = _ := A7.q2
      have d4 := A7.c4
      have d5 := A7.c5
      have HD : Hid (TwoP p a len cap zs w (.returned (.tuple #[.agg #[(.slice (some ⟨g, 0, none⟩) 0 ct)], .agg #[(.slice b7 m7 d7)]])) ((((w7.setCell ⟨w9.heap.size, 0, none⟩ (.slice b7 m7 d7))).drew.setCell ⟨w.heap.size, 0, none⟩ (.slice (some ⟨g, 0, none⟩) 0 ct)).setCell ⟨w.heap.size + 1, 0, none⟩ (.slice b7 m7 d7))) := A7.done hp
      have o4 := A7.o4
      have o5 := A7.o5
      clear A7
      have d42 : (((w7.setCell ⟨w9.heap.size, 0, none⟩ (.slice b7 m7 d7))).drew.setCell ⟨w.heap.size, 0, none⟩ (.slice (some ⟨g, 0, none⟩) 0 ct)).cell? ⟨w1.heap.size, 0, none⟩ = some (.slice (some ⟨g, 0, none⟩) 0 ct) := by rw [World.cell?_setCell_other _ _ _ _ (by intro e; injection e with e; omega)]; exact d4
      have d52 : (((w7.setCell ⟨w9.heap.size, 0, none⟩ (.slice b7 m7 d7))).drew.setCell ⟨w.heap.size, 0, none⟩ (.slice (some ⟨g, 0, none⟩) 0 ct)).cell? ⟨w9.heap.size, 0, none⟩ = some (.slice b7 m7 d7) := by rw [World.cell?_setCell_other _ _ _ _ (by intro e; injection e with e; omega)]; exact d5
      have r92 : (((w7.setCell ⟨w9.heap.size, 0, none⟩ (.slice b7 m7 d7))).drew.setCell ⟨w.heap.size, 0, none⟩ (.slice (some ⟨g, 0, none⟩) 0 ct)).cell? ⟨w.heap.size + 1, 0, none⟩ = some (.slice none 0 0) := by rw [World.cell?_setCell_other _ _ _ _ (by intro e; injection e with e; omega)]; exact r9
      have q92 : (((w7.setCell ⟨w9.heap.size, 0, none⟩ (.slice b7 m7 d7))).drew.setCell ⟨w.heap.size, 0, none⟩ (.slice (some ⟨g, 0, none⟩) 0 ct)).frozen? ⟨w.heap.size + 1, 0, none⟩ = false := by rw [World.frozen?_setCell]; exact q9
      have d43 : ((((w7.setCell ⟨w9.heap.size, 0, none⟩ (.slice b7 m7 d7))).drew.setCell ⟨w.heap.size, 0, none⟩ (.slice (some ⟨g, 0, none⟩) 0 ct)).setCell ⟨w.heap.size + 1, 0, none⟩ (.slice b7 m7 d7)).cell? ⟨w1.heap.size, 0, none⟩ = some (.slice (some ⟨g, 0, none⟩) 0 ct) := by rw [World.cell?_setCell_other _ _ _ _ (by intro e; injection e with e; omega)]; exact d42
      have d53 : ((((w7.setCell ⟨w9.heap.size, 0, none⟩ (.slice b7 m7 d7))).drew.setCell ⟨w.heap.size, 0, none⟩ (.slice (some ⟨g, 0, none⟩) 0 ct)).setCell ⟨w.heap.size + 1, 0, none⟩ (.slice b7 m7 d7)).cell? ⟨w9.heap.size, 0, none⟩ = some (.slice b7 m7 d7) := by rw [World.cell?_setCell_other _ _ _ _ (by intro e; injection e with e; omega)]; exact d52
      have t1 : ((((w7.setCell ⟨w9.heap.size, 0, none⟩ (.slice b7 m7 d7))).drew.setCell ⟨w.heap.size, 0, none⟩ (.slice (some ⟨g, 0, none⟩) 0 ct)).setCell ⟨w.heap.size + 1, 0, none⟩ (.slice b7 m7 d7)).cell? ⟨w.heap.size, 0, none⟩ = some (.slice (some ⟨g, 0, none⟩) 0 ct) := by rw [World.cell?_setCell_other _ _ _ _ (by intro e; injection e with e; omega)]; exact World.cell?_setCell_same _ _ _ r8
      have t2 : ((((w7.setCell ⟨w9.heap.size, 0, none⟩ (.slice b7 m7 d7))).drew.setCell ⟨w.heap.size, 0, none⟩ (.slice (some ⟨g, 0, none⟩) 0 ct)).setCell ⟨w.heap.size + 1, 0, none⟩ (.slice b7 m7 d7)).cell? ⟨w.heap.size + 1, 0, none⟩ = some (.slice b7 m7 d7) := World.cell?_setCell_same _ _ _ r92
      have t3 : (((w7.setCell ⟨w9.heap.size, 0, none⟩ (.slice b7 m7 d7))).setCell ⟨w.heap.size, 0, none⟩ (.slice (some ⟨g, 0, none⟩) 0 ct)).cell? ⟨w.heap.size, 0, none⟩ = some (.slice (some ⟨g, 0, none⟩) 0 ct) := World.cell?_setCell_same _ _ _ r8
      have t4 : ((((w7.setCell ⟨w9.heap.size, 0, none⟩ (.slice b7 m7 d7))).setCell ⟨w.heap.size, 0, none⟩ (.slice (some ⟨g, 0, none⟩) 0 ct)).setCell ⟨w.heap.size + 1, 0, none⟩ (.slice b7 m7 d7)).cell? ⟨w.heap.size + 1, 0, none⟩ = some (.slice b7 m7 d7) := World.cell?_setCell_same _ _ _ r92
      go_wp2_with fail
      refine wp_region_noPanic ?_
      refine wp_region_held_drew (S := fun w' => w'.cell? ⟨w1.heap.size, 0, none⟩ = some ((.slice (some ⟨g, 0, none⟩) 0 ct)) ∧ w'.cell? ⟨w9.heap.size, 0, none⟩ = some ((.slice b7 m7 d7))) (by kernel_rfl) ⟨(show ((w7.setCell ⟨w9.heap.size, 0, none⟩ (.slice b7 m7 d7))).drew.cell? ⟨w1.heap.size, 0, none⟩ = _ from d4), (show ((w7.setCell ⟨w9.heap.size, 0, none⟩ (.slice b7 m7 d7))).drew.cell? ⟨w9.heap.size, 0, none⟩ = _ from d5)⟩ (fun hHeld => ?_)
      refine wpAnyH_take (i := 0) (v := ?v43) rfl (by kernel_rfl) (by kernel_rfl) (by kernel_rfl) (fun _ _ _ h => h) (Or.inl ⟨by kernel_rfl, ?y43⟩) hHeld ?z43
      case y43 => (intro wq hSw; (try dsimp only at hSw); go_simp; try with_reducible rfl)
      try simp only [Act.put, List.setIfInBounds_toArray, List.set_cons_zero, List.set_cons_succ]
      refine wpAnyH_take (i := 1) (v := ?v44) rfl (by kernel_rfl) (by kernel_rfl) (by kernel_rfl) (fun _ _ _ h => h) (Or.inl ⟨by kernel_rfl, ?y44⟩) hHeld ?z44
      case y44 => (intro wq hSw; (try dsimp only at hSw); go_simp; try with_reducible rfl)
      try simp only [Act.put, List.setIfInBounds_toArray, List.set_cons_zero, List.set_cons_succ]
      refine wpAnyH_ready (rs := [2]) (by kernel_rfl) (by simp) ?_
      refine AllReadyH.cons rfl (fun K hK => ?_) AllReadyH.nil
      go_simp
      refine hK.out _ _ ⟨d42, d52⟩ (fun hHeld => ?_)
      clear hK K
      try simp only [Act.put, List.setIfInBounds_toArray, List.set_cons_zero, List.set_cons_succ]
      refine wpAnyH_ready (rs := [3]) (by kernel_rfl) (by simp) ?_
      refine AllReadyH.cons rfl (fun K hK => ?_) AllReadyH.nil
      go_simp
      refine hK.out _ _ ⟨d43, d53⟩ (fun hHeld => ?_)
      clear hK K
      try simp only [Act.put, List.setIfInBounds_toArray, List.set_cons_zero, List.set_cons_succ]
      try simp only [Act.put, List.getElem_toArray, List.getElem_cons_succ, List.getElem_cons_zero, List.setIfInBounds_toArray, List.set_cons_zero, List.set_cons_succ]
      refine wpAnyH_done (by kernel_rfl) ?_ _
      refine NoPanic.normal ?_
      clear hHeld
      go_wp2
      exact bodyPost_ret (v := .tuple #[.agg #[(.slice (some ⟨g, 0, none⟩) 0 ct)], .agg #[(.slice b7 m7 d7)]]) (by simp [results, Tryz.results17, go_sem, t1, t2, t3, t4]) rfl HD.out
     | false =>
      have A7 := A6.drew
      have c7 := A6.c5
      clear A6
      have r8 : (w6).cell? ⟨w.heap.size, 0, none⟩ = _ := A7.r1
      have q8 : (w6).frozen? ⟨w.heap.size, 0, none⟩ = _ := A7.q1
      have r9 : (w6).cell? ⟨w.heap.size + 1, 0, none⟩ = _ := A7.r2
      have q9 : (w6).frozen? ⟨w.heap.size + 1, 0, none⟩ = _ := A7.q2
      have d4 := A7.c4
      have d5 := A7.c5
      have HD : Hid (TwoP p a len cap zs w (.returned (.tuple #[.agg #[(.slice (some ⟨g, 0, none⟩) 0 ct)], .agg #[(.slice b9 0 d9)]])) (((w6).drew.setCell ⟨w.heap.size, 0, none⟩ (.slice (some ⟨g, 0, none⟩) 0 ct)).setCell ⟨w.heap.size + 1, 0, none⟩ (.slice b9 0 d9))) := A7.done hp
      have o4 := A7.o4
      have o5 := A7.o5
      clear A7
      have d42 : ((w6).drew.setCell ⟨w.heap.size, 0, none⟩ (.slice (some ⟨g, 0, none⟩) 0 ct)).cell? ⟨w1.heap.size, 0, none⟩ = some (.slice (some ⟨g, 0, none⟩) 0 ct) := by rw [World.cell?_setCell_other _ _ _ _ (by intro e; injection e with e; omega)]; exact d4
      have d52 : ((w6).drew.setCell ⟨w.heap.size, 0, none⟩ (.slice (some ⟨g, 0, none⟩) 0 ct)).cell? ⟨w9.heap.size, 0, none⟩ = some (.slice b9 0 d9) := by rw [World.cell?_setCell_other _ _ _ _ (by intro e; injection e with e; omega)]; exact d5
      have r92 : ((w6).drew.setCell ⟨w.heap.size, 0, none⟩ (.slice (some ⟨g, 0, none⟩) 0 ct)).cell? ⟨w.heap.size + 1, 0, none⟩ = some (.slice none 0 0) := by rw [World.cell?_setCell_other _ _ _ _ (by intro e; injection e with e; omega)]; exact r9
      have q92 : ((w6).drew.setCell ⟨w.heap.size, 0, none⟩ (.slice (some ⟨g, 0, none⟩) 0 ct)).frozen? ⟨w.heap.size + 1, 0, none⟩ = false := by rw [World.frozen?_setCell]; exact q9
      have d43 : (((w6).drew.setCell ⟨w.heap.size, 0, none⟩ (.slice (some ⟨g, 0, none⟩) 0 ct)).setCell ⟨w.heap.size + 1, 0, none⟩ (.slice b9 0 d9)).cell? ⟨w1.heap.size, 0, none⟩ = some (.slice (some ⟨g, 0, none⟩) 0 ct) := by rw [World.cell?_setCell_other _ _ _ _ (by intro e; injection e with e; omega)]; exact d42
      have d53 : (((w6).drew.setCell ⟨w.heap.size, 0, none⟩ (.slice (some ⟨g, 0, none⟩) 0 ct)).setCell ⟨w.heap.size + 1, 0, none⟩ (.slice b9 0 d9)).cell? ⟨w9.heap.size, 0, none⟩ = some (.slice b9 0 d9) := by rw [World.cell?_setCell_other _ _ _ _ (by intro e; injection e with e; omega)]; exact d52
      have t1 : (((w6).drew.setCell ⟨w.heap.size, 0, none⟩ (.slice (some ⟨g, 0, none⟩) 0 ct)).setCell ⟨w.heap.size + 1, 0, none⟩ (.slice b9 0 d9)).cell? ⟨w.heap.size, 0, none⟩ = some (.slice (some ⟨g, 0, none⟩) 0 ct) := by rw [World.cell?_setCell_other _ _ _ _ (by intro e; injection e with e; omega)]; exact World.cell?_setCell_same _ _ _ r8
      have t2 : (((w6).drew.setCell ⟨w.heap.size, 0, none⟩ (.slice (some ⟨g, 0, none⟩) 0 ct)).setCell ⟨w.heap.size + 1, 0, none⟩ (.slice b9 0 d9)).cell? ⟨w.heap.size + 1, 0, none⟩ = some (.slice b9 0 d9) := World.cell?_setCell_same _ _ _ r92
      have t3 : ((w6).setCell ⟨w.heap.size, 0, none⟩ (.slice (some ⟨g, 0, none⟩) 0 ct)).cell? ⟨w.heap.size, 0, none⟩ = some (.slice (some ⟨g, 0, none⟩) 0 ct) := World.cell?_setCell_same _ _ _ r8
      have t4 : (((w6).setCell ⟨w.heap.size, 0, none⟩ (.slice (some ⟨g, 0, none⟩) 0 ct)).setCell ⟨w.heap.size + 1, 0, none⟩ (.slice b9 0 d9)).cell? ⟨w.heap.size + 1, 0, none⟩ = some (.slice b9 0 d9) := World.cell?_setCell_same _ _ _ r92
      go_wp2_with fail
      refine wp_region_noPanic ?_
      refine wp_region_held_drew (S := fun w' => w'.cell? ⟨w1.heap.size, 0, none⟩ = some ((.slice (some ⟨g, 0, none⟩) 0 ct)) ∧ w'.cell? ⟨w9.heap.size, 0, none⟩ = some ((.slice b9 0 d9))) (by kernel_rfl) ⟨(show (w6).drew.cell? ⟨w1.heap.size, 0, none⟩ = _ from d4), (show (w6).drew.cell? ⟨w9.heap.size, 0, none⟩ = _ from d5)⟩ (fun hHeld => ?_)
      refine wpAnyH_take (i := 0) (v := ?v45) rfl (by kernel_rfl) (by kernel_rfl) (by kernel_rfl) (fun _ _ _ h => h) (Or.inl ⟨by kernel_rfl, ?y45⟩) hHeld ?z45
      case y45 => (intro wq hSw; (try dsimp only at hSw); go_simp; try with_reducible rfl)
      try simp only [Act.put, List.setIfInBounds_toArray, List.set_cons_zero, List.set_cons_succ]
      refine wpAnyH_take (i := 1) (v := ?v46) rfl (by kernel_rfl) (by kernel_rfl) (by kernel_rfl) (fun _ _ _ h => h) (Or.inl ⟨by kernel_rfl, ?y46⟩) hHeld ?z46
      case y46 => (intro wq hSw; (try dsimp only at hSw); go_simp; try with_reducible rfl)
      try simp only [Act.put, List.setIfInBounds_toArray, List.set_cons_zero, List.set_cons_succ]
      refine wpAnyH_ready (rs := [2]) (by kernel_rfl) (by simp) ?_
      refine AllReadyH.cons rfl (fun K hK => ?_) AllReadyH.nil
      go_simp
      refine hK.out _ _ ⟨d42, d52⟩ (fun hHeld => ?_)
      clear hK K
      try simp only [Act.put, List.setIfInBounds_toArray, List.set_cons_zero, List.set_cons_succ]
      refine wpAnyH_ready (rs := [3]) (by kernel_rfl) (by simp) ?_
      refine AllReadyH.cons rfl (fun K hK => ?_) AllReadyH.nil
      go_simp
      refine hK.out _ _ ⟨d43, d53⟩ (fun hHeld => ?_)
      clear hK K
      try simp only [Act.put, List.setIfInBounds_toArray, List.set_cons_zero, List.set_cons_succ]
      try simp only [Act.put, List.getElem_toArray, List.getElem_cons_succ, List.getElem_cons_zero, List.setIfInBounds_toArray, List.set_cons_zero, List.set_cons_succ]
      refine wpAnyH_done (by kernel_rfl) ?_ _
      refine NoPanic.normal ?_
      clear hHeld
      go_wp2
      exact bodyPost_ret (v := .tuple #[.agg #[(.slice (some ⟨g, 0, none⟩) 0 ct)], .agg #[(.slice b9 0 d9)]]) (by simp [results, Tryz.results17, go_sem, t1, t2, t3, t4]) rfl HD.out
 obtain ⟨gT, hgT⟩ : ∃ g, bt = some ⟨g, 0, none⟩ := by
  have h' : ((w1.alloc (.cells #[.slice bt n ct] 25)).alloc (.cells #[] 38)).ownsRow (w.heap.size + 1 + 1) 38 4 (.slice bt n ct) T.length (T.map TurnD.cs).flatten := O3
  rcases h'.2 with ⟨_, h1⟩ | ⟨g, c, cur, hv, _⟩
  ·
   have := HN.out; omega
  ·
   injection hv with hv _ _; exact ⟨g, hv⟩
 subst hgT
 have O3n : ((w1.alloc (.cells #[.slice (some ⟨gT, 0, none⟩) n ct] 25)).alloc (.cells #[] 38)).ownsRow (w.heap.size + 1 + 1) 38 4 (.slice (some ⟨gT, 0, none⟩) n ct) n (T.map TurnD.cs).flatten := by have := O3; unfold OwnsT at this; rw [HN.out] at this; exact this
 go_wp2_with (first | (at_builtin; refine wpList_append_lies _ rfl _ _ 23 rfl (w1.heap.size + 1) 38 i0 (.agg #[.int .i64 0, .int .i64 0, .int .i64 0, .string ⟨#[]⟩]) 4 40 Tryz.underlying23 hi hz0 hz1 hz2 rfl (by omega) (.slice (some ⟨w1.heap.size + 1, 0, none⟩) 0 0) 0 [] rfl E3 ⟨gT, 0, none⟩ n ct (T.map TurnD.cs).flatten rfl O3n.1 (own_cells O3n) turns_one (by omega) (by unfold maxLen; omega) (by omega) (by simp) _ rfl ?_) | fail)
 intro g9 cap9 w4 hown4 hgrow4 hat4 hlt4
 have HT := TwAt.lay (H := w1.heap.size) (W3 := ((w1.alloc (.cells #[.slice (some ⟨gT, 0, none⟩) n ct] 25)).alloc (.cells #[] 38))) (w4 := w4) (tv := .slice (some ⟨gT, 0, none⟩) n ct) (bv := .slice (some ⟨g9, 0, none⟩) n cap9) (T := T) (U := T) hp S3 G3 r3 rf3 s3 sf3 c3 O3 lt1 z1 (by simp) hgrow4 (by unfold OwnsT; rw [HN.out]; exact hown4) (by rw [HN.out]; exact l1) (by rw [HN.out]; exact l1) k1 k1
 clear hown4 hgrow4 hat4 hlt4 O3n
 clear O3 c3 E3 S3 G3 r3 s3 rf3 sf3 lt1
 go_wp2_with fail
 refine (src_n p a len cap zs 3 _ HT.src (by omega) (by omega)).mono ?_
 rintro e w5 ⟨k5, rfl, l5, u5, S5, g5⟩
 have A5 := HT.drawn hp S5 g5
 clear HT S5 g5
 go_wp2
 go_loopw [6] (fun s wr => ∃ (k : Nat) (U : List TurnD), k ≤ 2 ∧ s = .int .i64 k ∧ U.length = n ∧ TwAt p a len cap zs w w1.heap.size w4.heap.size (w1.heap.size + 1) (.slice (some ⟨gT, 0, none⟩) n ct) (.slice (some ⟨g9, 0, none⟩) n cap9) T U wr) (fun s _ => (intOf s).toNat)
 case atStart =>
  obtain ⟨m, rfl⟩ := Int.eq_ofNat_of_zero_le l5
  exact ⟨m, _, by omega, rfl, HN.out, A5⟩
 case round =>
  obtain ⟨wa, hwa⟩ : ∃ x : World, x = wr := ⟨_, rfl⟩
  subst hwa
  clear A5
  obtain ⟨k, U, hk, rfl, hU, A⟩ := hrel
  have HU : Hid (U.length = n) := hU
  clear hU
  have c5 := A.c5
  by_cases hk0 : 0 < k
  ·
   have q1 : (0 : Int) < (k : Int) := by omega
   have q2 : (0 : Int) < (n : Int) := by omega
   go_wp2_with fail
   refine (src_n p a len cap zs n _ A.src (by omega) (by omega)).mono ?_
   rintro e w6 ⟨iz, rfl, l6, u6, S6, g6⟩
   have A6 := A.drawn hp S6 g6
   clear A S6 g6 c5
   obtain ⟨i, rfl⟩ := Int.eq_ofNat_of_zero_le l6
   go_wp2_with fail
   refine (src_one p a len cap zs 2 _ A6.src (by omega) (by omega)).mono ?_
   rintro e w7 ⟨v7, rfl, S7, g7⟩
   have A7 := A6.drawn hp S7 g7
   have c8 : w7.cell? ⟨w4.heap.size, 0, none⟩ = _ := A7.c5
   clear A6 S7 g7
   obtain ⟨g, c, t, hv, ht, hB, hgl, ca, co⟩ := A7.ob.get (k := i) (by have := HU.out; omega)
   injection hv with hv1 hv2 hv3
   injection hv1 with hv1
   injection hv1 with hv1 hv4 hv5
   subst hv1
   clear hv2 hv3 hv4 hv5
   have fz : ∀ j, w7.frozen? ⟨g9, j, none⟩ = false := fun j => World.ownsRow.frozenAt (show w7.ownsRow (w1.heap.size + 1) 38 4 (.slice (some ⟨g9, 0, none⟩) n cap9) n (U.map TurnD.cs).flatten by have := A7.ob; unfold OwnsT at this; rw [HU.out] at this; exact this) j
   have oB := A7.o5
   have nB := A7.nb
   cases v7 with
   | true =>
    obtain ⟨x8, hx8⟩ : ∃ x, IntKind.i64.wrap (t.offset + 1800) = x := ⟨_, rfl⟩
    have A8 := A7.drew.put hp HU.out (i * 4 + 1) (.int .i64 x8) (U' := U.set i ⟨t.at_, x8, t.save, t.abbr⟩) (flat_cell ht (by omega) rfl) (by rw [List.length_set]; exact HU.out) (ok_set A7.kU (A7.kU t (List.mem_of_getElem? ht)))
    have HL : Hid ((U.set i ⟨t.at_, x8, t.save, t.abbr⟩).length = n) := (by rw [Hid, List.length_set]; exact HU.out)
    generalize U.set i ⟨t.at_, x8, t.save, t.abbr⟩ = U8 at *
    have f8 := fz (i * 4 + 1)
    clear A7 fz ca ht
    generalize t.offset = to_ at *
    go_wp2_with fail
    refine wp_region_noPanic ?_
    refine wp_region_held_drew (S := fun w' => w'.cell? ⟨w4.heap.size, 0, none⟩ = some ((.slice (some ⟨g9, 0, none⟩) n cap9))) (by kernel_rfl) (show w7.drew.cell? ⟨w4.heap.size, 0, none⟩ = _ from c8) (fun hHeld => ?_)
    refine wpAnyH_take (i := 0) (v := ?v1) rfl (by kernel_rfl) (by kernel_rfl) (by kernel_rfl) (fun _ _ _ h => h) (Or.inl ⟨by kernel_rfl, ?y1⟩) hHeld ?z1
    case y1 => (intro wq hSw; (try dsimp only at hSw); go_simp; try with_reducible rfl)
    try simp only [Act.put, List.setIfInBounds_toArray, List.set_cons_zero, List.set_cons_succ]
    refine wpAnyH_take (i := 1) (v := ?v2) rfl (by kernel_rfl) (by kernel_rfl) (by kernel_rfl) (fun _ _ _ h => h) (Or.inl ⟨by kernel_rfl, ?y2⟩) hHeld ?z2
    case y2 => (intro wq hSw; (try dsimp only at hSw); go_simp; try with_reducible rfl)
    try simp only [Act.put, List.setIfInBounds_toArray, List.set_cons_zero, List.set_cons_succ]
    refine wpAnyH_take (i := 2) (v := ?v3) rfl (by kernel_rfl) (by kernel_rfl) (by kernel_rfl) (fun _ _ _ h => h) (Or.inl ⟨by kernel_rfl, ?y3⟩) hHeld ?z3
    case y3 => (intro wq hSw; (try dsimp only at hSw); go_simp; try with_reducible rfl)
    try simp only [Act.put, List.setIfInBounds_toArray, List.set_cons_zero, List.set_cons_succ]
    refine wpAnyH_take (i := 3) (v := ?v4) rfl (by kernel_rfl) (by kernel_rfl) (by kernel_rfl) (fun _ _ _ h => h) (Or.inl ⟨by kernel_rfl, ?y4⟩) hHeld ?z4
    case y4 => (intro wq hSw; (try dsimp only at hSw); go_simp; try with_reducible rfl)
    try simp only [Act.put, List.setIfInBounds_toArray, List.set_cons_zero, List.set_cons_succ]
    refine wpAnyH_take (i := 4) (v := ?v5) rfl (by kernel_rfl) (by kernel_rfl) (by kernel_rfl) (fun _ _ _ h => h) (Or.inl ⟨by kernel_rfl, ?y5⟩) hHeld ?z5
    case y5 => (intro wq hSw; (try dsimp only at hSw); go_simp; try with_reducible rfl)
    try simp only [Act.put, List.setIfInBounds_toArray, List.set_cons_zero, List.set_cons_succ]
    refine wpAnyH_take (i := 5) (v := ?v6) rfl (by kernel_rfl) (by kernel_rfl) (by kernel_rfl) (fun _ _ _ h => h) (Or.inl ⟨by kernel_rfl, ?y6⟩) hHeld ?z6
    case y6 => (intro wq hSw; (try dsimp only at hSw); go_simp; try with_reducible rfl)
    try simp only [Act.put, List.setIfInBounds_toArray, List.set_cons_zero, List.set_cons_succ]
    refine wpAnyH_take (i := 6) (v := ?v7) rfl (by kernel_rfl) (by kernel_rfl) (by kernel_rfl) (fun _ _ _ h => h) (Or.inl ⟨by kernel_rfl, ?y7⟩) hHeld ?z7
    case y7 => (intro wq hSw; (try dsimp only at hSw); go_simp; try with_reducible rfl)
    try simp only [Act.put, List.setIfInBounds_toArray, List.set_cons_zero, List.set_cons_succ]
    refine wpAnyH_take (i := 7) (v := ?v8) rfl (by kernel_rfl) (by kernel_rfl) (by kernel_rfl) (fun _ _ _ h => h) (Or.inl ⟨by kernel_rfl, ?y8⟩) hHeld ?z8
    case y8 => (intro wq hSw; (try dsimp only at hSw); go_simp; try with_reducible rfl)
    try simp only [Act.put, List.setIfInBounds_toArray, List.set_cons_zero, List.set_cons_succ]
    refine wpAnyH_ready (rs := [8]) (by kernel_rfl) (by simp) ?_
    refine AllReadyH.cons rfl (fun K hK => ?_) AllReadyH.nil
    go_simp
    refine hK.out _ _ (show w7.drew.cell? _ = _ from c8) (fun hHeld => ?_)
    clear hK K
    try simp only [Act.put, List.setIfInBounds_toArray, List.set_cons_zero, List.set_cons_succ]
    refine wpAnyH_take (i := 9) (v := ?v9) rfl (by kernel_rfl) (by kernel_rfl) (by kernel_rfl) (fun _ _ _ h => h) (Or.inl ⟨by kernel_rfl, ?y9⟩) hHeld ?z9
    case y9 => (intro wq hSw; (try dsimp only at hSw); go_simp; try with_reducible rfl)
    try simp only [Act.put, List.setIfInBounds_toArray, List.set_cons_zero, List.set_cons_succ]
    refine wpAnyH_take (i := 10) (v := ?v10) rfl (by kernel_rfl) (by kernel_rfl) (by kernel_rfl) (fun _ _ _ h => h) (Or.inl ⟨by kernel_rfl, ?y10⟩) hHeld ?z10
    case y10 => (intro wq hSw; (try dsimp only at hSw); go_simp; try with_reducible rfl)
    try simp only [Act.put, List.setIfInBounds_toArray, List.set_cons_zero, List.set_cons_succ]
    refine wpAnyH_take (i := 11) (v := ?v11) rfl (by kernel_rfl) (by kernel_rfl) (by kernel_rfl) (fun _ _ _ h => h) (Or.inl ⟨by kernel_rfl, ?y11⟩) hHeld ?z11
    case y11 => (intro wq hSw; (try dsimp only at hSw); go_simp; try with_reducible rfl)
    try simp only [Act.put, List.setIfInBounds_toArray, List.set_cons_zero, List.set_cons_succ]
    refine wpAnyH_ready (rs := [12]) (by kernel_rfl) (by simp) ?_
    refine AllReadyH.cons rfl (fun K hK => ?_) AllReadyH.nil
    go_simp
    refine hK.out _ _ A8.c5 (fun hHeld => ?_)
    clear hK K
    try simp only [Act.put, List.setIfInBounds_toArray, List.set_cons_zero, List.set_cons_succ]
    try simp only [Act.put, List.getElem_toArray, List.getElem_cons_succ, List.getElem_cons_zero, List.setIfInBounds_toArray, List.set_cons_zero, List.set_cons_succ]
    refine wpAnyH_done (by kernel_rfl) ?_ _
    refine NoPanic.normal ?_
    clear hHeld
    go_wp2
    go_roundw
    case rel => exact ⟨k - 1, U8, by omega, by go_num, HL.out, A8⟩
    case measure => simp [intOf]; omega
   | false =>
    clear co
    by_cases hi0 : i = 0
    ·
     have q3 : ¬ (0 : Int) < (i : Int) := by omega
     clear ca
     go_wp2
     go_roundw
     case rel => exact ⟨k - 1, U, by omega, by go_num, HU.out, A7⟩
     case measure => simp [intOf]; omega
    ·
     have q3 : (0 : Int) < (i : Int) := by omega
     have A7 := A7.drew
     go_wp2_with fail
     refine wp_region_noPanic ?_
     refine wp_region_held_drew (S := fun w' => w'.cell? ⟨w4.heap.size, 0, none⟩ = some ((.slice (some ⟨g9, 0, none⟩) n cap9))) (by kernel_rfl) (show w7.drew.cell? ⟨w4.heap.size, 0, none⟩ = _ from c8) (fun hHeld => ?_)
     refine wpAnyH_take (i := 0) (v := ?v12) rfl (by kernel_rfl) (by kernel_rfl) (by kernel_rfl) (fun _ _ _ h => h) (Or.inl ⟨by kernel_rfl, ?y12⟩) hHeld ?z12
     case y12 => (intro wq hSw; (try dsimp only at hSw); go_simp; try with_reducible rfl)
     try simp only [Act.put, List.setIfInBounds_toArray, List.set_cons_zero, List.set_cons_succ]
     refine wpAnyH_take (i := 1) (v := ?v13) rfl (by kernel_rfl) (by kernel_rfl) (by kernel_rfl) (fun _ _ _ h => h) (Or.inl ⟨by kernel_rfl, ?y13⟩) hHeld ?z13
     case y13 => (intro wq hSw; (try dsimp only at hSw); go_simp; try with_reducible rfl)
     try simp only [Act.put, List.setIfInBounds_toArray, List.set_cons_zero, List.set_cons_succ]
     refine wpAnyH_take (i := 2) (v := ?v14) rfl (by kernel_rfl) (by kernel_rfl) (by kernel_rfl) (fun _ _ _ h => h) (Or.inl ⟨by kernel_rfl, ?y14⟩) hHeld ?z14
     case y14 => (intro wq hSw; (try dsimp only at hSw); go_simp; try with_reducible rfl)
     try simp only [Act.put, List.setIfInBounds_toArray, List.set_cons_zero, List.set_cons_succ]
     refine wpAnyH_take (i := 3) (v := ?v15) rfl (by kernel_rfl) (by kernel_rfl) (by kernel_rfl) (fun _ _ _ h => h) (Or.inl ⟨by kernel_rfl, ?y15⟩) hHeld ?z15
     case y15 => (intro wq hSw; (try dsimp only at hSw); go_simp; try with_reducible rfl)
     try simp only [Act.put, List.setIfInBounds_toArray, List.set_cons_zero, List.set_cons_succ]
     refine wpAnyH_take (i := 4) (v := ?v16) rfl (by kernel_rfl) (by kernel_rfl) (by kernel_rfl) (fun _ _ _ h => h) (Or.inl ⟨by kernel_rfl, ?y16⟩) hHeld ?z16
     case y16 => (intro wq hSw; (try dsimp only at hSw); go_simp; try with_reducible rfl)
     try simp only [Act.put, List.setIfInBounds_toArray, List.set_cons_zero, List.set_cons_succ]
     refine wpAnyH_take (i := 5) (v := ?v17) rfl (by kernel_rfl) (by kernel_rfl) (by kernel_rfl) (fun _ _ _ h => h) (Or.inl ⟨by kernel_rfl, ?y17⟩) hHeld ?z17
     case y17 => (intro wq hSw; (try dsimp only at hSw); go_simp; try with_reducible rfl)
     try simp only [Act.put, List.setIfInBounds_toArray, List.set_cons_zero, List.set_cons_succ]
     refine wpAnyH_take (i := 6) (v := ?v18) rfl (by kernel_rfl) (by kernel_rfl) (by kernel_rfl) (fun _ _ _ h => h) (Or.inl ⟨by kernel_rfl, ?y18⟩) hHeld ?z18
     case y18 => (intro wq hSw; (try dsimp only at hSw); go_simp; try with_reducible rfl)
     try simp only [Act.put, List.setIfInBounds_toArray, List.set_cons_zero, List.set_cons_succ]
     refine wpAnyH_take (i := 7) (v := ?v19) rfl (by kernel_rfl) (by kernel_rfl) (by kernel_rfl) (fun _ _ _ h => h) (Or.inl ⟨by kernel_rfl, ?y19⟩) hHeld ?z19
     case y19 => (intro wq hSw; (try dsimp only at hSw); go_simp; try with_reducible rfl)
     try simp only [Act.put, List.setIfInBounds_toArray, List.set_cons_zero, List.set_cons_succ]
     refine wpAnyH_take (i := 9) (v := ?v20) rfl (by kernel_rfl) (by kernel_rfl) (by kernel_rfl) (fun _ _ _ h => h) (Or.inl ⟨by kernel_rfl, ?y20⟩) hHeld ?z20
     case y20 => (intro wq hSw; (try dsimp only at hSw); go_simp; try with_reducible rfl)
     try simp only [Act.put, List.setIfInBounds_toArray, List.set_cons_zero, List.set_cons_succ]
     refine wpAnyH_ready (rs := [8, 10]) (by kernel_rfl) (by simp) ?_
     refine AllReadyH.cons rfl (fun K hK => ?_) (AllReadyH.cons rfl (fun K hK => ?_) AllReadyH.nil)
     ·
      go_simp
      refine hK.out _ _ (show w7.drew.cell? _ = _ from c8) (fun hHeld => ?_)
      clear hK K
      try simp only [Act.put, List.setIfInBounds_toArray, List.set_cons_zero, List.set_cons_succ]
      refine wpAnyH_ready (rs := [10]) (by kernel_rfl) (by simp) ?_
      refine AllReadyH.cons rfl (fun K hK => ?_) AllReadyH.nil
      go_simp
      refine (src_n p a len cap zs 5 _ A7.src (by omega) (by omega)).mono ?_
      rintro e w9 ⟨y, rfl, l9, u9, S9, h9⟩
      have A9 := A7.drawn hp S9 h9
      clear A7 S9 h9 ca fz
      obtain ⟨g', c', t', hv, ht', hB, hgl, ca, co⟩ := A9.ob.get (k := i) (by have := HU.out; omega)
      injection hv with hv1 hv2 hv3
      injection hv1 with hv1
      injection hv1 with hv1 hv4 hv5
      subst hv1
      rw [ht] at ht'
      injection ht' with ht'
      subst ht'
      clear hv2 hv3 hv4 hv5 co
      have fz : ∀ j, w9.frozen? ⟨g9, j, none⟩ = false := fun j => World.ownsRow.frozenAt (show w9.ownsRow (w1.heap.size + 1) 38 4 (.slice (some ⟨g9, 0, none⟩) n cap9) n (U.map TurnD.cs).flatten by have := A9.ob; unfold OwnsT at this; rw [HU.out] at this; exact this) j
      obtain ⟨x8, hx8⟩ : ∃ x, IntKind.i64.wrap (t.at_ + y) = x := ⟨_, rfl⟩
      have A8 := A9.put hp HU.out (i * 4) (.int .i64 x8) (U' := U.set i ⟨x8, t.offset, t.save, t.abbr⟩) (flat_cell (j := 0) ht (by omega) rfl) (by rw [List.length_set]; exact HU.out) (ok_set A9.kU (A9.kU t (List.mem_of_getElem? ht)))
      have HL : Hid ((U.set i ⟨x8, t.offset, t.save, t.abbr⟩).length = n) := (by rw [Hid, List.length_set]; exact HU.out)
      generalize U.set i ⟨x8, t.offset, t.save, t.abbr⟩ = U8 at *
      have f8 := fz (i * 4)
      have c9 := A9.c5
      clear A9 fz ht
      generalize t.at_ = ta at *
      go_wp2_with fail
      refine hK.out _ _ c9 (fun hHeld => ?_)
      clear hK K
      try simp only [Act.put, List.setIfInBounds_toArray, List.set_cons_zero, List.set_cons_succ]
      refine wpAnyH_take (i := 11) (v := ?v21) rfl (by kernel_rfl) (by kernel_rfl) (by kernel_rfl) (fun _ _ _ h => h) (Or.inl ⟨by kernel_rfl, ?y21⟩) hHeld ?z21
      case y21 => (intro wq hSw; (try dsimp only at hSw); go_simp; try with_reducible rfl)
      try simp only [Act.put, List.setIfInBounds_toArray, List.set_cons_zero, List.set_cons_succ]
      refine wpAnyH_take (i := 12) (v := ?v22) rfl (by kernel_rfl) (by kernel_rfl) (by kernel_rfl) (fun _ _ _ h => h) (Or.inl ⟨by kernel_rfl, ?y22⟩) hHeld ?z22
      case y22 => (intro wq hSw; (try dsimp only at hSw); go_simp; try with_reducible rfl)
      try simp only [Act.put, List.setIfInBounds_toArray, List.set_cons_zero, List.set_cons_succ]
      refine wpAnyH_take (i := 13) (v := ?v23) rfl (by kernel_rfl) (by kernel_rfl) (by kernel_rfl) (fun _ _ _ h => h) (Or.inl ⟨by kernel_rfl, ?y23⟩) hHeld ?z23
      case y23 => (intro wq hSw; (try dsimp only at hSw); go_simp; try with_reducible rfl)
      try simp only [Act.put, List.setIfInBounds_toArray, List.set_cons_zero, List.set_cons_succ]
      refine wpAnyH_ready (rs := [14]) (by kernel_rfl) (by simp) ?_
      refine AllReadyH.cons rfl (fun K hK => ?_) AllReadyH.nil
      go_simp
      refine hK.out _ _ A8.c5 (fun hHeld => ?_)
      clear hK K
      try simp only [Act.put, List.setIfInBounds_toArray, List.set_cons_zero, List.set_cons_succ]
      try simp only [Act.put, List.getElem_toArray, List.getElem_cons_succ, List.getElem_cons_zero, List.setIfInBounds_toArray, List.set_cons_zero, List.set_cons_succ]
      refine wpAnyH_done (by kernel_rfl) ?_ _
      refine NoPanic.normal ?_
      clear hHeld
      go_wp2
      go_roundw
      case rel => exact ⟨k - 1, U8, by omega, by go_num, HL.out, A8⟩
      case measure => simp [intOf]; omega
     ·
      skip
      go_simp
      refine (src_n p a len cap zs 5 _ A7.src (by omega) (by omega)).mono ?_
      rintro e w9 ⟨y, rfl, l9, u9, S9, h9⟩
      have A9 := A7.drawn hp S9 h9
      clear A7 S9 h9 ca fz
      obtain ⟨g', c', t', hv, ht', hB, hgl, ca, co⟩ := A9.ob.get (k := i) (by have := HU.out; omega)
      injection hv with hv1 hv2 hv3
      injection hv1 with hv1
      injection hv1 with hv1 hv4 hv5
      subst hv1
      rw [ht] at ht'
      injection ht' with ht'
      subst ht'
      clear hv2 hv3 hv4 hv5 co
      have fz : ∀ j, w9.frozen? ⟨g9, j, none⟩ = false := fun j => World.ownsRow.frozenAt (show w9.ownsRow (w1.heap.size + 1) 38 4 (.slice (some ⟨g9, 0, none⟩) n cap9) n (U.map TurnD.cs).flatten by have := A9.ob; unfold OwnsT at this; rw [HU.out] at this; exact this) j
      obtain ⟨x8, hx8⟩ : ∃ x, IntKind.i64.wrap (t.at_ + y) = x := ⟨_, rfl⟩
      have A8 := A9.put hp HU.out (i * 4) (.int .i64 x8) (U' := U.set i ⟨x8, t.offset, t.save, t.abbr⟩) (flat_cell (j := 0) ht (by omega) rfl) (by rw [List.length_set]; exact HU.out) (ok_set A9.kU (A9.kU t (List.mem_of_getElem? ht)))
      have HL : Hid ((U.set i ⟨x8, t.offset, t.save, t.abbr⟩).length = n) := (by rw [Hid, List.length_set]; exact HU.out)
      generalize U.set i ⟨x8, t.offset, t.save, t.abbr⟩ = U8 at *
      have f8 := fz (i * 4)
      have c9 := A9.c5
      clear A9 fz ht
      generalize t.at_ = ta at *
      go_wp2_with fail
      refine hK.out _ _ c9 (fun hHeld => ?_)
      clear hK K
      try simp only [Act.put, List.setIfInBounds_toArray, List.set_cons_zero, List.set_cons_succ]
      refine wpAnyH_ready (rs := [8]) (by kernel_rfl) (by simp) ?_
      refine AllReadyH.cons rfl (fun K hK => ?_) AllReadyH.nil
      go_simp
      refine hK.out _ _ c9 (fun hHeld => ?_)
      clear hK K
      try simp only [Act.put, List.setIfInBounds_toArray, List.set_cons_zero, List.set_cons_succ]
      refine wpAnyH_take (i := 11) (v := ?v24) rfl (by kernel_rfl) (by kernel_rfl) (by kernel_rfl) (fun _ _ _ h => h) (Or.inl ⟨by kernel_rfl, ?y24⟩) hHeld ?z24
      case y24 => (intro wq hSw; (try dsimp only at hSw); go_simp; try with_reducible rfl)
      try simp only [Act.put, List.setIfInBounds_toArray, List.set_cons_zero, List.set_cons_succ]
      refine wpAnyH_take (i := 12) (v := ?v25) rfl (by kernel_rfl) (by kernel_rfl) (by kernel_rfl) (fun _ _ _ h => h) (Or.inl ⟨by kernel_rfl, ?y25⟩) hHeld ?z25
      case y25 => (intro wq hSw; (try dsimp only at hSw); go_simp; try with_reducible rfl)
      try simp only [Act.put, List.setIfInBounds_toArray, List.set_cons_zero, List.set_cons_succ]
      refine wpAnyH_take (i := 13) (v := ?v26) rfl (by kernel_rfl) (by kernel_rfl) (by kernel_rfl) (fun _ _ _ h => h) (Or.inl ⟨by kernel_rfl, ?y26⟩) hHeld ?z26
      case y26 => (intro wq hSw; (try dsimp only at hSw); go_simp; try with_reducible rfl)
      try simp only [Act.put, List.setIfInBounds_toArray, List.set_cons_zero, List.set_cons_succ]
      refine wpAnyH_ready (rs := [14]) (by kernel_rfl) (by simp) ?_
      refine AllReadyH.cons rfl (fun K hK => ?_) AllReadyH.nil
      go_simp
      refine hK.out _ _ A8.c5 (fun hHeld => ?_)
      clear hK K
      try simp only [Act.put, List.setIfInBounds_toArray, List.set_cons_zero, List.set_cons_succ]
      try simp only [Act.put, List.getElem_toArray, List.getElem_cons_succ, List.getElem_cons_zero, List.setIfInBounds_toArray, List.set_cons_zero, List.set_cons_succ]
      refine wpAnyH_done (by kernel_rfl) ?_ _
      refine NoPanic.normal ?_
      clear hHeld
      go_wp2
      go_roundw
      case rel => exact ⟨k - 1, U8, by omega, by go_num, HL.out, A8⟩
      case measure => simp [intOf]; omega
  ·
   have q1 : ¬ (0 : Int) < (k : Int) := by omega
   go_wp2_with fail
   refine (src_one p a len cap zs 8 _ A.src (by omega) (by omega)).mono ?_
   rintro e w6 ⟨v6, rfl, S6, g6⟩
   have A6 := A.drawn hp S6 g6
   clear A S6 g6 c5
   cases v6 with
   | true =>
    have A6s := A6.src
    have c6 := A6.c5
    have f6 := A6.f5
    go_wp2_with fail
    refine (src_some hC p a len cap zs _ A6s).mono ?_
    intro e w7 hs
    obtain ⟨bv, U7, rfl, O7, l7, k7, S7, g7⟩ := hs.ex
    obtain ⟨b7, d7, e7⟩ : ∃ b c, bv = .slice b U7.length c := by obtain ⟨b, c, h, _⟩ := O7.seq; exact ⟨b, c, h⟩
    generalize hm7 : U7.length = m7 at e7
    subst e7
    clear hm7
    have A7 := (A6.other hp S7 g7 O7 l7 k7).drew
    have c7 := (A6.drawn hp S7 g7).c5
    have f7 := (A6.drawn hp S7 g7).f5
    clear A6 A6s c6 f6 hs O7 S7 g7
    have r8 : ((w7.setCell ⟨w4.heap.size, 0, none⟩ (.slice b7 m7 d7))).cell? ⟨w.heap.size, 0, none⟩ = _ := A7.r1
    have q8 : ((w7.setCell ⟨w4.heap.size, 0, none⟩ (.slice b7 m7 d7))).frozen? ⟨w.heap.size, 0, none⟩ = _ := A7.q1
    have r9 : ((w7.setCell ⟨w4.heap.size, 0, none⟩ (.slice b7 m7 d7))).cell? ⟨w.heap.size + 1, 0, none⟩ = _ := A7.r2
    have q9 : ((w7.setCell ⟨w4.heap.size, 0, none⟩ (.slice b7 m7 d7))).frozen? ⟨w.heap.size + 1, 0, none⟩ = _ := A7.q2
    have d4 := A7.c4
    have d5 := A7.c5
    have HD : Hid (TwoP p a len cap zs w (.returned (.tuple #[.agg #[(.slice (some ⟨gT, 0, none⟩) n ct)], .agg #[(.slice b7 m7 d7)]])) ((((w7.setCell ⟨w4.heap.size, 0, none⟩ (.slice b7 m7 d7))).drew.setCell ⟨w.heap.size, 0, none⟩ (.slice (some ⟨gT, 0, none⟩) n ct)).setCell ⟨w.heap.size + 1, 0, none⟩ (.slice b7 m7 d7))) := A7.done hp
    have o4 := A7.o4
    have o5 := A7.o5
    clear A7
    have d42 : (((w7.setCell ⟨w4.heap.size, 0, none⟩ (.slice b7 m7 d7))).drew.setCell ⟨w.heap.size, 0, none⟩ (.slice (some ⟨gT, 0, none⟩) n ct)).cell? ⟨w1.heap.size, 0, none⟩ = some (.slice (some ⟨gT, 0, none⟩) n ct) := by rw [World.cell?_setCell_other _ _ _ _ (by intro e; injection e with e; omega)]; exact d4
    have d52 : (((w7.setCell ⟨w4.heap.size, 0, none⟩ (.slice b7 m7 d7))).drew.setCell ⟨w.heap.size, 0, none⟩ (.slice (some ⟨gT, 0, none⟩) n ct)).cell? ⟨w4.heap.size, 0, none⟩ = some (.slice b7 m7 d7) := by rw [World.cell?_setCell_other _ _ _ _ (by intro e; injection e with e; omega)]; exact d5
    have r92 : (((w7.setCell ⟨w4.heap.size, 0, none⟩ (.slice b7 m7 d7))).drew.setCell ⟨w.heap.size, 0, none⟩ (.slice (some ⟨gT, 0, none⟩) n ct)).cell? ⟨w.heap.size + 1, 0, none⟩ = some (.slice none 0 0) := by rw [World.cell?_setCell_other _ _ _ _ (by intro e; injection e with e; omega)]; exact r9
    have q92 : (((w7.setCell ⟨w4.heap.size, 0, none⟩ (.slice b7 m7 d7))).drew.setCell ⟨w.heap.size, 0, none⟩ (.slice (some ⟨gT, 0, none⟩) n ct)).frozen? ⟨w.heap.size + 1, 0, none⟩ = false := by rw [World.frozen?_setCell]; exact q9
    have d43 : ((((w7.setCell ⟨w4.heap.size, 0, none⟩ (.slice b7 m7 d7))).drew.setCell ⟨w.heap.size, 0, none⟩ (.slice (some ⟨gT, 0, none⟩) n ct)).setCell ⟨w.heap.size + 1, 0, none⟩ (.slice b7 m7 d7)).cell? ⟨w1.heap.size, 0, none⟩ = some (.slice (some ⟨gT, 0, none⟩) n ct) := by rw [World.cell?_setCell_other _ _ _ _ (by intro e; injection e with e; omega)]; exact d42
    have d53 : ((((w7.setCell ⟨w4.heap.size, 0, none⟩ (.slice b7 m7 d7))).drew.setCell ⟨w.heap.size, 0, none⟩ (.slice (some ⟨gT, 0, none⟩) n ct)).setCell ⟨w.heap.size + 1, 0, none⟩ (.slice b7 m7 d7)).cell? ⟨w4.heap.size, 0, none⟩ = some (.slice b7 m7 d7) := by rw [World.cell?_setCell_other _ _ _ _ (by intro e; injection e with e; omega)]; exact d52
    have t1 : ((((w7.setCell ⟨w4.heap.size, 0, none⟩ (.slice b7 m7 d7))).drew.setCell ⟨w.heap.size, 0, none⟩ (.slice (some ⟨gT, 0, none⟩) n ct)).setCell ⟨w.heap.size + 1, 0, none⟩ (.slice b7 m7 d7)).cell? ⟨w.heap.size, 0, none⟩ = some (.slice (some ⟨gT, 0, none⟩) n ct) := by rw [World.cell?_setCell_other _ _ _ _ (by intro e; injection e with e; omega)]; exact World.cell?_setCell_same _ _ _ r8
    have t2 : ((((w7.setCell ⟨w4.heap.size, 0, none⟩ (.slice b7 m7 d7))).drew.setCell ⟨w.heap.size, 0, none⟩ (.slice (some ⟨gT, 0, none⟩) n ct)).setCell ⟨w.heap.size + 1, 0, none⟩ (.slice b7 m7 d7)).cell? ⟨w.heap.size + 1, 0, none⟩ = some (.slice b7 m7 d7) := World.cell?_setCell_same _ _ _ r92
    have t3 : (((w7.setCell ⟨w4.heap.size, 0, none⟩ (.slice b7 m7 d7))).setCell ⟨w.heap.size, 0, none⟩ (.slice (some ⟨gT, 0, none⟩) n ct)).cell? ⟨w.heap.size, 0, none⟩ = some (.slice (some ⟨gT, 0, none⟩) n ct) := World.cell?_setCell_same _ _ _ r8
    have t4 : ((((w7.setCell ⟨w4.heap.size, 0, none⟩ (.slice b7 m7 d7))).setCell ⟨w.heap.size, 0, none⟩ (.slice (some ⟨gT, 0, none⟩) n ct)).setCell ⟨w.heap.size + 1, 0, none⟩ (.slice b7 m7 d7)).cell? ⟨w.heap.size + 1, 0, none⟩ = some (.slice b7 m7 d7) := World.cell?_setCell_same _ _ _ r92
    go_wp2_with fail
    refine wp_region_noPanic ?_
    refine wp_region_held_drew (S := fun w' => w'.cell? ⟨w1.heap.size, 0, none⟩ = some ((.slice (some ⟨gT, 0, none⟩) n ct)) ∧ w'.cell? ⟨w4.heap.size, 0, none⟩ = some ((.slice b7 m7 d7))) (by kernel_rfl) ⟨(show ((w7.setCell ⟨w4.heap.size, 0, none⟩ (.slice b7 m7 d7))).drew.cell? ⟨w1.heap.size, 0, none⟩ = _ from d4), (show ((w7.setCell ⟨w4.heap.size, 0, none⟩ (.slice b7 m7 d7))).drew.cell? ⟨w4.heap.size, 0, none⟩ = _ from d5)⟩ (fun hHeld => ?_)
    refine wpAnyH_take (i := 0) (v := ?v27) rfl (by kernel_rfl) (by kernel_rfl) (by kernel_rfl) (fun _ _ _ h => h) (Or.inl ⟨by kernel_rfl, ?y27⟩) hHeld ?z27
    case y27 => (intro wq hSw; (try dsimp only at hSw); go_simp; try with_reducible rfl)
    try simp only [Act.put, List.setIfInBounds_toArray, List.set_cons_zero, List.set_cons_succ]
    refine wpAnyH_take (i := 1) (v := ?v28) rfl (by kernel_rfl) (by kernel_rfl) (by kernel_rfl) (fun _ _ _ h => h) (Or.inl ⟨by kernel_rfl, ?y28⟩) hHeld ?z28
    case y28 => (intro wq hSw; (try dsimp only at hSw); go_simp; try with_reducible rfl)
    try simp only [Act.put, List.setIfInBounds_toArray, List.set_cons_zero, List.set_cons_succ]
    refine wpAnyH_ready (rs := [2]) (by kernel_rfl) (by simp) ?_
    refine AllReadyH.cons rfl (fun K hK => ?_) AllReadyH.nil
    go_simp
    refine hK.out _ _ ⟨d42, d52⟩ (fun hHeld => ?_)
    clear hK K
    try simp only [Act.put, List.setIfInBounds_toArray, List.set_cons_zero, List.set_cons_succ]
    refine wpAnyH_ready (rs := [3]) (by kernel_rfl) (by simp) ?_
    refine AllReadyH.cons rfl (fun K hK => ?_) AllReadyH.nil
    go_simp
    refine hK.out _ _ ⟨d43, d53⟩ (fun hHeld => ?_)
    clear hK K
    try simp only [Act.put, List.setIfInBounds_toArray, List.set_cons_zero, List.set_cons_succ]
    try simp only [Act.put, List.getElem_toArray, List.getElem_cons_succ, List.getElem_cons_zero, List.setIfInBounds_toArray, List.set_cons_zero, List.set_cons_succ]
    refine wpAnyH_done (by kernel_rfl) ?_ _
    refine NoPanic.normal ?_
    clear hHeld
    go_wp2
    exact bodyPost_ret (v := .tuple #[.agg #[(.slice (some ⟨gT, 0, none⟩) n ct)], .agg #[(.slice b7 m7 d7)]]) (by simp [results, Tryz.results17, go_sem, t1, t2, t3, t4]) rfl HD.out
   | false =>
    have A7 := A6.drew
    have c7 := A6.c5
    clear A6
    have r8 : (w6).cell? ⟨w.heap.size, 0, none⟩ = _ := A7.r1
    have q8 : (w6).frozen? ⟨w.heap.size, 0, none⟩ = _ := A7.q1
    have r9 : (w6).cell? ⟨w.heap.size + 1, 0, none⟩ = _ := A7.r2
    have q9 : (w6).frozen? ⟨w.heap.size + 1, 0, none⟩ = _ := A7.q2
    have d4 := A7.c4
    have d5 := A7.c5
    have HD : Hid (TwoP p a len cap zs w (.returned (.tuple #[.agg #[(.slice (some ⟨gT, 0, none⟩) n ct)], .agg #[(.slice (some ⟨g9, 0, none⟩) n cap9)]])) (((w6).drew.setCell ⟨w.heap.size, 0, none⟩ (.slice (some ⟨gT, 0, none⟩) n ct)).setCell ⟨w.heap.size + 1, 0, none⟩ (.slice (some ⟨g9, 0, none⟩) n cap9))) := A7.done hp
    have o4 := A7.o4
    have o5 := A7.o5
    clear A7
    have d42 : ((w6).drew.setCell ⟨w.heap.size, 0, none⟩ (.slice (some ⟨gT, 0, none⟩) n ct)).cell? ⟨w1.heap.size, 0, none⟩ = some (.slice (some ⟨gT, 0, none⟩) n ct) := by rw [World.cell?_setCell_other _ _ _ _ (by intro e; injection e with e; omega)]; exact d4
    have d52 : ((w6).drew.setCell ⟨w.heap.size, 0, none⟩ (.slice (some ⟨gT, 0, none⟩) n ct)).cell? ⟨w4.heap.size, 0, none⟩ = some (.slice (some ⟨g9, 0, none⟩) n cap9) := by rw [World.cell?_setCell_other _ _ _ _ (by intro e; injection e with e; omega)]; exact d5
    have r92 : ((w6).drew.setCell ⟨w.heap.size, 0, none⟩ (.slice (some ⟨gT, 0, none⟩) n ct)).cell? ⟨w.heap.size + 1, 0, none⟩ = some (.slice none 0 0) := by rw [World.cell?_setCell_other _ _ _ _ (by intro e; injection e with e; omega)]; exact r9
    have q92 : ((w6).drew.setCell ⟨w.heap.size, 0, none⟩ (.slice (some ⟨gT, 0, none⟩) n ct)).frozen? ⟨w.heap.size + 1, 0, none⟩ = false := by rw [World.frozen?_setCell]; exact q9
    have d43 : (((w6).drew.setCell ⟨w.heap.size, 0, none⟩ (.slice (some ⟨gT, 0, none⟩) n ct)).setCell ⟨w.heap.size + 1, 0, none⟩ (.slice (some ⟨g9, 0, none⟩) n cap9)).cell? ⟨w1.heap.size, 0, none⟩ = some (.slice (some ⟨gT, 0, none⟩) n ct) := by rw [World.cell?_setCell_other _ _ _ _ (by intro e; injection e with e; omega)]; exact d42
    have d53 : (((w6).drew.setCell ⟨w.heap.size, 0, none⟩ (.slice (some ⟨gT, 0, none⟩) n ct)).setCell ⟨w.heap.size + 1, 0, none⟩ (.slice (some ⟨g9, 0, none⟩) n cap9)).cell? ⟨w4.heap.size, 0, none⟩ = some (.slice (some ⟨g9, 0, none⟩) n cap9) := by rw [World.cell?_setCell_other _ _ _ _ (by intro e; injection e with e; omega)]; exact d52
    have t1 : (((w6).drew.setCell ⟨w.heap.size, 0, none⟩ (.slice (some ⟨gT, 0, none⟩) n ct)).setCell ⟨w.heap.size + 1, 0, none⟩ (.slice (some ⟨g9, 0, none⟩) n cap9)).cell? ⟨w.heap.size, 0, none⟩ = some (.slice (some ⟨gT, 0, none⟩) n ct) := by rw [World.cell?_setCell_other _ _ _ _ (by intro e; injection e with e; omega)]; exact World.cell?_setCell_same _ _ _ r8
    have t2 : (((w6).drew.setCell ⟨w.heap.size, 0, none⟩ (.slice (some ⟨gT, 0, none⟩) n ct)).setCell ⟨w.heap.size + 1, 0, none⟩ (.slice (some ⟨g9, 0, none⟩) n cap9)).cell? ⟨w.heap.size + 1, 0, none⟩ = some (.slice (some ⟨g9, 0, none⟩) n cap9) := World.cell?_setCell_same _ _ _ r92
    have t3 : ((w6).setCell ⟨w.heap.size, 0, none⟩ (.slice (some ⟨gT, 0, none⟩) n ct)).cell? ⟨w.heap.size, 0, none⟩ = some (.slice (some ⟨gT, 0, none⟩) n ct) := World.cell?_setCell_same _ _ _ r8
    have t4 : (((w6).setCell ⟨w.heap.size, 0, none⟩ (.slice (some ⟨gT, 0, none⟩) n ct)).setCell ⟨w.heap.size + 1, 0, none⟩ (.slice (some ⟨g9, 0, none⟩) n cap9)).cell? ⟨w.heap.size + 1, 0, none⟩ = some (.slice (some ⟨g9, 0, none⟩) n cap9) := World.cell?_setCell_same _ _ _ r92
    go_wp2_with fail
    refine wp_region_noPanic ?_
    refine wp_region_held_drew (S := fun w' => w'.cell? ⟨w1.heap.size, 0, none⟩ = some ((.slice (some ⟨gT, 0, none⟩) n ct)) ∧ w'.cell? ⟨w4.heap.size, 0, none⟩ = some ((.slice (some ⟨g9, 0, none⟩) n cap9))) (by kernel_rfl) ⟨(show (w6).drew.cell? ⟨w1.heap.size, 0, none⟩ = _ from d4), (show (w6).drew.cell? ⟨w4.heap.size, 0, none⟩ = _ from d5)⟩ (fun hHeld => ?_)
    refine wpAnyH_take (i := 0) (v := ?v29) rfl (by kernel_rfl) (by kernel_rfl) (by kernel_rfl) (fun _ _ _ h => h) (Or.inl ⟨by kernel_rfl, ?y29⟩) hHeld ?z29
    case y29 => (intro wq hSw; (try dsimp only at hSw); go_simp; try with_reducible rfl)
    try simp only [Act.put, List.setIfInBounds_toArray, List.set_cons_zero, List.set_cons_succ]
    refine wpAnyH_take (i := 1) (v := ?v30) rfl (by kernel_rfl) (by kernel_rfl) (by kernel_rfl) (fun _ _ _ h => h) (Or.inl ⟨by kernel_rfl, ?y30⟩) hHeld ?z30
    case y30 => (intro wq hSw; (try dsimp only at hSw); go_simp; try with_reducible rfl)
    try simp only [Act.put, List.setIfInBounds_toArray, List.set_cons_zero, List.set_cons_succ]
    refine wpAnyH_ready (rs := [2]) (by kernel_rfl) (by simp) ?_
    refine AllReadyH.cons rfl (fun K hK => ?_) AllReadyH.nil
    go_simp
    refine hK.out _ _ ⟨d42, d52⟩ (fun hHeld => ?_)
    clear hK K
    try simp only [Act.put, List.setIfInBounds_toArray, List.set_cons_zero, List.set_cons_succ]
    refine wpAnyH_ready (rs := [3]) (by kernel_rfl) (by simp) ?_
    refine AllReadyH.cons rfl (fun K hK => ?_) AllReadyH.nil
    go_simp
    refine hK.out _ _ ⟨d43, d53⟩ (fun hHeld => ?_)
    clear hK K
    try simp only [Act.put, List.setIfInBounds_toArray, List.set_cons_zero, List.set_cons_succ]
    try simp only [Act.put, List.getElem_toArray, List.getElem_cons_succ, List.getElem_cons_zero, List.setIfInBounds_toArray, List.set_cons_zero, List.set_cons_succ]
    refine wpAnyH_done (by kernel_rfl) ?_ _
    refine NoPanic.normal ?_
    clear hHeld
    go_wp2
    exact bodyPost_ret (v := .tuple #[.agg #[(.slice (some ⟨gT, 0, none⟩) n ct)], .agg #[(.slice (some ⟨g9, 0, none⟩) n cap9)]]) (by simp [results, Tryz.results17, go_sem, t1, t2, t3, t4]) rfl HD.out
end Go.Proofs.YtcelbkmnbjcjhaaGreat
