/- Packed: Di2 WDiffL. -/
import Derived.Test.YtcelbkmnbjcjhaaGreatDiPd
namespace Go.Proofs.YtcelbkmnbjcjhaaGreat
open Go.RowKit

theorem OwnsT.tabD {w : World} {B n : Nat} {v : Value} {T : List TurnD} (h : OwnsT w B v T) (hn : T.length = n) : ∃ a c, v = .slice a n c := by
 obtain ⟨a, c, h1, h2⟩ := h.seq
 exact ⟨a, c, by rw [h1, hn]⟩
theorem OwnsT.tab {w : World} {B : Nat} {v : Value} {T : List TurnD} (h : OwnsT w B v T) : TabAt w (.agg #[v]) T := by
 obtain ⟨a, c, rfl, h2⟩ := h.seq
 exact ⟨a, c, rfl, h2⟩
theorem own_touched {w : World} {B m cl : Nat} {al : Option Addr} {D : List SpanD} (h : OwnsS w B (.slice al m cl) D) (hm : D.length = m) (hl : m ≤ 1048576) (f t : Int) : Calls Tryz.prog 10 #[.slice al m cl, .int .i64 f, .int .i64 t] w (fun e w' => e = .returned (.bool (touchD D f t)) ∧ Below w.heap.size w w') := by
 subst hm
 obtain ⟨a, c, e, hq⟩ := h.seq
 injection e with e1 e2 e3
 subst e1 e3
 exact impl_Touched D al cl f t w hq hl
theorem own_touchedS {w : World} {B m cl : Nat} {al : Option Addr} {D : List SpanD} (h : OwnsS w B (.slice al m cl) D) (hm : D.length = m) (hl : m ≤ 1048576) (f t : Int) : Calls Tryz.prog 15 #[.slice al m cl, .int .i64 f, .int .i64 t] w (fun e w' => e = .returned (.bool (touchD D f t)) ∧ Below w.heap.size w w') := by
 subst hm
 obtain ⟨a, c, e, hq⟩ := h.seq
 injection e with e1 e2 e3
 subst e1 e3
 exact spec_Touched D al cl f t w hq hl
theorem tab_low {l : List TurnD} (h : tabB l = true) {k : Nat} {x : TurnD} (hx : l[k]? = some x) : -62135596800 ≤ x.at_ ∧ x.at_ ≤ 253402300799 := by
 have hR := tab_of h
 obtain ⟨a, ha⟩ : ∃ a, l[0]? = some a := ⟨_, List.getElem?_eq_getElem (by have := hR.len; omega)⟩
 have h1 := hR.first a ha
 have h2 := upT_le2 hR.up (Nat.zero_le k) ha hx
 exact ⟨by omega, hR.top k x hx⟩
/-- what is there between the questions: two tables, and the row of the second code. -/
structure DM (b5 b6 : Nat) (tv bv : Value) (T U : List TurnD) (a1 : Option Addr) (len1 : Nat) (w wx : World) : Prop where
 c : wx.cell? ⟨b5, 0, none⟩ = some tv
 d : wx.cell? ⟨b6, 0, none⟩ = some bv
 ot : OwnsT wx w.heap.size tv T
 ou : OwnsT wx w.heap.size bv U
 r : RowOf wx a1 len1
 b : Below w.heap.size w wx
theorem DM.below {b5 b6 : Nat} {tv bv : Value} {T U : List TurnD} {a1 : Option Addr} {len1 : Nat} {w wx wy : World} (h : DM b5 b6 tv bv T U a1 len1 w wx) (hb : Below wx.heap.size wx wy) : DM b5 b6 tv bv T U a1 len1 w wy :=
 ⟨keepC hb h.c, keepC hb h.d, owns_below h.ot hb, owns_below h.ou hb, h.r.grown hb, h.b.trans (hb.mono h.b.size)⟩
set_option linter.unusedSimpArgs false in
set_option maxRecDepth 100000 in
set_option maxHeartbeats 8000000 in
theorem diff_walk (a0 : Option Addr) (len0 cap0 : Nat) (a1 : Option Addr) (len1 cap1 : Nat) (w : World) (h0 : len0 ≤ 1048576) (h1 : len1 ≤ 1048576) (r0 : RowOf w a0 len0) (r1 : RowOf w a1 len1) :
  Calls Tryz.prog 3 #[.slice a0 len0 cap0, .slice a1 len1 cap1] w fun e w' => e = .returned (.bool true) ∧ Below w.heap.size w w' := by
 have g0 : ¬ (1048576 : Int) < (len0 : Int) := by omega
 have g1 : ¬ (1048576 : Int) < (len1 : Int) := by omega
 have hneq := fun p q w => neq_spanE p q w
 have hgo := fun op x y v1 v2 w => guard_spanE op x y v1 v2 w
 go_enter Tryz.func3, Tryz.ntmps3
 go_wp2_with fail
 refine (draw_Diff someC a0 len0 cap0 _ r0 h0).mono ?_
 intro e w1 hd
 obtain ⟨tv, bv, T, U, rfl, OT, OU, lT, lU, kT, kU, B1⟩ := hd.ex
 clear hd r0
 have R1 := r1.grown B1
 obtain ⟨nT, hn⟩ : ∃ n, T.length = n := ⟨_, rfl⟩
 have HNT : Hid (T.length = nT) := hn
 obtain ⟨nU, hu⟩ : ∃ n, U.length = n := ⟨_, rfl⟩
 have HNU : Hid (U.length = nU) := hu
 obtain ⟨bt, ct, rfl⟩ := OT.tabD hn
 obtain ⟨bu, cu, rfl⟩ := OU.tabD hu
 have hA : Below w1.heap.size w1 ((w1.alloc (.cells #[.slice bt nT ct] 25)).alloc (.cells #[.slice bu nU cu] 25)) := ((Below.refl _ w1).alloc (Nat.le_refl _) _).alloc (by simp) _
 have M2 : DM w1.heap.size (w1.heap.size + 1) (.slice bt nT ct) (.slice bu nU cu) T U a1 len1 w ((w1.alloc (.cells #[.slice bt nT ct] 25)).alloc (.cells #[.slice bu nU cu] 25)) := ⟨by simp [go_sem], by simp [go_sem], owns_below OT hA, owns_below OU hA, R1.grown hA, B1.trans (hA.mono B1.size)⟩
 clear hn hu OT OU R1 r1 hA
 go_wp2_with fail
 refine (impl_Diff T U _ _ _ M2.ot.tab M2.ou.tab kT kU (by omega) (by omega)).mono ?_
 rintro e w3 ⟨v3, rfl, L3, hb3⟩
 have M3 := M2.below hb3
 have c3 := M3.c
 have d3 := M3.d
 clear M2 hb3
 go_wp2_with fail
 refine (spec_Diff T U _ _ _ M3.ot.tab M3.ou.tab kT kU).mono ?_
 rintro e w4 ⟨v4, rfl, L4, hb4⟩
 have M4 := M3.below hb4
 have L3 : OwnsS w4 ((w1.alloc (.cells #[.slice bt nT ct] 25)).alloc (.cells #[.slice bu nU cu] 25)).heap.size v3 (diffD T U) := owns_below L3 hb4
 have HD1 : Hid (∀ (i : Nat) (s : SpanD), (diffD T U)[i]? = some s → s.lo ≤ s.hi ∧ -62135596800 ≤ s.lo ∧ s.hi ≤ 253402300799) := fun i s h => diff_one h
 have HD2 : Hid (∀ (i : Nat) (s t : SpanD), (diffD T U)[i]? = some s → (diffD T U)[i + 1]? = some t → s.hi + 1 < t.lo) := fun i s t h h2 => diff_two h h2
 obtain ⟨D, hD⟩ : ∃ D, diffD T U = D := ⟨_, rfl⟩
 have HD : Hid (diffD T U = D) := hD
 rw [hD] at L3 L4 HD1 HD2
 have hml : D.length ≤ 1200 := hD ▸ diff_len T U
 clear hD c3 d3 M3 hb4
 obtain ⟨m, hm⟩ : ∃ m, D.length = m := ⟨_, rfl⟩
 have HM : Hid (D.length = m) := hm
 obtain ⟨al, cl, rfl⟩ : ∃ b c, v3 = .slice b m c := by obtain ⟨b, c, h, _⟩ := L3.seq; exact ⟨b, c, by rw [h, hm]⟩
 obtain ⟨aw, cw, rfl⟩ : ∃ b c, v4 = .slice b m c := by obtain ⟨b, c, h, _⟩ := L4.seq; exact ⟨b, c, by rw [h, hm]⟩
 rw [hm] at hml
 have hmm : ((m : Int) != (m : Int)) = false := by simp
 clear hm
 go_wp2
 go_loopw [9] (fun s wr => ∃ i : Nat, i ≤ m ∧ s = .int .i64 i ∧ Below w4.heap.size w4 wr) (fun s _ => m - (intOf s).toNat)
 case atStart => exact ⟨0, by omega, rfl, Below.refl _ _⟩
 case round =>
  obtain ⟨wa, hwa⟩ : ∃ x : World, x = wr := ⟨_, rfl⟩
  subst hwa
  obtain ⟨i, hi, rfl, hBr⟩ := hrel
  have M5 := M4.below hBr
  have L5 : OwnsS wa _ (.slice al m cl) D := owns_below L3 hBr
  have L6 : OwnsS wa _ (.slice aw m cw) D := owns_below L4 hBr
  clear M4 L3 L4
  by_cases him : i < m
  ·
   have q1 : (i : Int) < (m : Int) := by omega
   have q0 : (0 : Int) ≤ (i : Int) := by omega
   obtain ⟨s, hs⟩ : ∃ s, D[i]? = some s := ⟨_, List.getElem?_eq_getElem (by have := HM.out; omega)⟩
   obtain ⟨g7, c7, e7, x1, x2⟩ := L5.get hs
   obtain ⟨g8, c8, e8, y1, y2⟩ := L6.get hs
   injection e7 with e7 k1 k2
   clear k1 k2
   subst e7
   injection e8 with e8 k1 k2
   clear k1 k2
   subst e8
   obtain ⟨o1, o2, o3⟩ := HD1.out i s hs
   have hle : ¬ s.hi < s.lo := by omega
   by_cases hi0 : i = 0
   ·
    subst hi0
    generalize s.lo = lo at *
    generalize s.hi = hi_ at *
    clear L5 L6 M5 HD1 HD2
    go_wp2_with fail
    refine wp_region_noPanic ?_
    refine wp_region_held_drew (S := fun w' => w'.cell? ⟨g7, 0 * 2, none⟩ = some (.int .i64 lo) ∧ w'.cell? ⟨g7, 0 * 2 + 1, none⟩ = some (.int .i64 hi_) ∧ w'.cell? ⟨g8, 0 * 2, none⟩ = some (.int .i64 lo) ∧ w'.cell? ⟨g8, 0 * 2 + 1, none⟩ = some (.int .i64 hi_)) (by kernel_rfl) ⟨(show wa.drew.cell? ⟨g7, 0 * 2, none⟩ = _ from x1), (show wa.drew.cell? ⟨g7, 0 * 2 + 1, none⟩ = _ from x2), (show wa.drew.cell? ⟨g8, 0 * 2, none⟩ = _ from y1), (show wa.drew.cell? ⟨g8, 0 * 2 + 1, none⟩ = _ from y2)⟩ (fun hHeld => ?_)
    refine wpAnyH_take (i := 0) (v := ?v1) rfl (by kernel_rfl) (by kernel_rfl) (by kernel_rfl) (fun _ _ _ h => h) (Or.inl ⟨by kernel_rfl, ?y1⟩) hHeld ?z1
    case y1 => (intro wq hSw; (try dsimp only at hSw); go_simp; try with_reducible rfl)
    try simp only [Act.put, List.setIfInBounds_toArray, List.set_cons_zero, List.set_cons_succ]
    refine wpAnyH_take (i := 1) (v := ?v2) rfl (by kernel_rfl) (by kernel_rfl) (by kernel_rfl) (fun _ _ _ h => h) (Or.inl ⟨by kernel_rfl, ?y2⟩) hHeld ?z2
    case y2 => (intro wq hSw; (try dsimp only at hSw); go_simp; try with_reducible rfl)
    try simp only [Act.put, List.setIfInBounds_toArray, List.set_cons_zero, List.set_cons_succ]
    refine wpAnyH_take (i := 2) (v := ?v3) rfl (by kernel_rfl) (by kernel_rfl) (by kernel_rfl) (fun _ _ _ h => h) (Or.inl ⟨by kernel_rfl, ?y3⟩) hHeld ?z3
    case y3 => (intro wq hSw; (try dsimp only at hSw); go_simp; try with_reducible rfl)
    try simp only [Act.put, List.setIfInBounds_toArray, List.set_cons_zero, List.set_cons_succ]
    refine wpAnyH_take (i := 3) (v := ?v4) rfl (by kernel_rfl) (by kernel_rfl) (by kernel_rfl) (fun _ _ _ h => h) (Or.inl ⟨by kernel_rfl, ?y4⟩) hHeld ?z4
    case y4 => (intro wq hSw; (try dsimp only at hSw); go_simp; try with_reducible rfl)
    try simp only [Act.put, List.setIfInBounds_toArray, List.set_cons_zero, List.set_cons_succ]
    refine wpAnyH_take (i := 4) (v := ?v5) rfl (by kernel_rfl) (by kernel_rfl) (by kernel_rfl) (fun _ _ _ h => h) (Or.inl ⟨by kernel_rfl, ?y5⟩) hHeld ?z5
    case y5 => (intro wq hSw; (try dsimp only at hSw); go_simp; try with_reducible rfl)
    try simp only [Act.put, List.setIfInBounds_toArray, List.set_cons_zero, List.set_cons_succ]
    refine wpAnyH_take (i := 5) (v := ?v6) rfl (by kernel_rfl) (by kernel_rfl) (by kernel_rfl) (fun _ _ _ h => h) (Or.inl ⟨by kernel_rfl, ?y6⟩) hHeld ?z6
    case y6 => (intro wq hSw; (try dsimp only at hSw); go_simp; try with_reducible rfl)
    try simp only [Act.put, List.setIfInBounds_toArray, List.set_cons_zero, List.set_cons_succ]
    refine wpAnyH_take (i := 6) (v := ?v7) rfl (by kernel_rfl) (by kernel_rfl) (by kernel_rfl) (fun _ _ _ h => h) (Or.inl ⟨by kernel_rfl, ?y7⟩) hHeld ?z7
    case y7 => (intro wq hSw; (try dsimp only at hSw); go_simp; try with_reducible rfl)
    try simp only [Act.put, List.setIfInBounds_toArray, List.set_cons_zero, List.set_cons_succ]
    refine wpAnyH_take (i := 7) (v := ?v8) rfl (by kernel_rfl) (by kernel_rfl) (by kernel_rfl) (fun _ _ _ h => h) (Or.inl ⟨by kernel_rfl, ?y8⟩) hHeld ?z8
    case y8 => (intro wq hSw; (try dsimp only at hSw); go_simp; try with_reducible rfl)
    try simp only [Act.put, List.setIfInBounds_toArray, List.set_cons_zero, List.set_cons_succ]
    refine wpAnyH_take (i := 8) (v := .bool false) rfl (by kernel_rfl) (by kernel_rfl) (by kernel_rfl) (fun _ _ _ h => h) (Or.inl ⟨by kernel_rfl, ?y9⟩) hHeld ?z9
    case y9 => (intro wq hSw; (try dsimp only at hSw); go_simp)
    try simp only [Act.put, List.setIfInBounds_toArray, List.set_cons_zero, List.set_cons_succ]
    refine wpAnyH_take (i := 9) (v := ?v10) rfl (by kernel_rfl) (by kernel_rfl) (by kernel_rfl) (fun _ _ _ h => h) (Or.inl ⟨by kernel_rfl, ?y10⟩) hHeld ?z10
    case y10 => (intro wq hSw; (try dsimp only at hSw); go_simp; try with_reducible rfl)
    try simp only [Act.put, List.setIfInBounds_toArray, List.set_cons_zero, List.set_cons_succ]
    refine wpAnyH_take (i := 10) (v := ?v11) rfl (by kernel_rfl) (by kernel_rfl) (by kernel_rfl) (fun _ _ _ h => h) (Or.inl ⟨by kernel_rfl, ?y11⟩) hHeld ?z11
    case y11 => (intro wq hSw; (try dsimp only at hSw); go_simp; try with_reducible rfl)
    try simp only [Act.put, List.setIfInBounds_toArray, List.set_cons_zero, List.set_cons_succ]
    refine wpAnyH_take (i := 11) (v := ?v12) rfl (by kernel_rfl) (by kernel_rfl) (by kernel_rfl) (fun _ _ _ h => h) (Or.inl ⟨by kernel_rfl, ?y12⟩) hHeld ?z12
    case y12 => (intro wq hSw; (try dsimp only at hSw); go_simp; try with_reducible rfl)
    try simp only [Act.put, List.setIfInBounds_toArray, List.set_cons_zero, List.set_cons_succ]
    refine wpAnyH_take (i := 12) (v := ?v13) rfl (by kernel_rfl) (by kernel_rfl) (by kernel_rfl) (fun _ _ _ h => h) (Or.inl ⟨by kernel_rfl, ?y13⟩) hHeld ?z13
    case y13 => (intro wq hSw; (try dsimp only at hSw); go_simp; try with_reducible rfl)
    try simp only [Act.put, List.setIfInBounds_toArray, List.set_cons_zero, List.set_cons_succ]
    refine wpAnyH_take (i := 13) (v := ?v14) rfl (by kernel_rfl) (by kernel_rfl) (by kernel_rfl) (fun _ _ _ h => h) (Or.inl ⟨by kernel_rfl, ?y14⟩) hHeld ?z14
    case y14 => (intro wq hSw; (try dsimp only at hSw); go_simp; try with_reducible rfl)
    try simp only [Act.put, List.setIfInBounds_toArray, List.set_cons_zero, List.set_cons_succ]
    refine wpAnyH_take (i := 14) (v := ?v15) rfl (by kernel_rfl) (by kernel_rfl) (by kernel_rfl) (fun _ _ _ h => h) (Or.inl ⟨by kernel_rfl, ?y15⟩) hHeld ?z15
    case y15 => (intro wq hSw; (try dsimp only at hSw); go_simp; try with_reducible rfl)
    try simp only [Act.put, List.setIfInBounds_toArray, List.set_cons_zero, List.set_cons_succ]
    refine wpAnyH_take (i := 15) (v := ?v16) rfl (by kernel_rfl) (by kernel_rfl) (by kernel_rfl) (fun _ _ _ h => h) (Or.inl ⟨by kernel_rfl, ?y16⟩) hHeld ?z16
    case y16 => (intro wq hSw; (try dsimp only at hSw); go_simp; try with_reducible rfl)
    try simp only [Act.put, List.setIfInBounds_toArray, List.set_cons_zero, List.set_cons_succ]
    refine wpAnyH_take (i := 16) (v := ?v17) rfl (by kernel_rfl) (by kernel_rfl) (by kernel_rfl) (fun _ _ _ h => h) (Or.inl ⟨by kernel_rfl, ?y17⟩) hHeld ?z17
    case y17 => (intro wq hSw; (try dsimp only at hSw); go_simp; try with_reducible rfl)
    try simp only [Act.put, List.setIfInBounds_toArray, List.set_cons_zero, List.set_cons_succ]
    refine wpAnyH_take (i := 17) (v := ?v18) rfl (by kernel_rfl) (by kernel_rfl) (by kernel_rfl) (fun _ _ _ h => h) (Or.inl ⟨by kernel_rfl, ?y18⟩) hHeld ?z18
    case y18 => (intro wq hSw; (try dsimp only at hSw); go_simp; try with_reducible rfl)
    try simp only [Act.put, List.setIfInBounds_toArray, List.set_cons_zero, List.set_cons_succ]
    refine wpAnyH_take (i := 18) (v := ?v19) rfl (by kernel_rfl) (by kernel_rfl) (by kernel_rfl) (fun _ _ _ h => h) (Or.inl ⟨by kernel_rfl, ?y19⟩) hHeld ?z19
    case y19 => (intro wq hSw; (try dsimp only at hSw); go_simp; try with_reducible rfl)
    try simp only [Act.put, List.setIfInBounds_toArray, List.set_cons_zero, List.set_cons_succ]
    refine wpAnyH_take (i := 19) (v := ?v20) rfl (by kernel_rfl) (by kernel_rfl) (by kernel_rfl) (fun _ _ _ h => h) (Or.inl ⟨by kernel_rfl, ?y20⟩) hHeld ?z20
    case y20 => (intro wq hSw; (try dsimp only at hSw); go_simp; try with_reducible rfl)
    try simp only [Act.put, List.setIfInBounds_toArray, List.set_cons_zero, List.set_cons_succ]
    refine wpAnyH_take (i := 20) (v := .bool false) rfl (by kernel_rfl) (by kernel_rfl) (by kernel_rfl) (fun _ _ _ h => h) (Or.inl ⟨by kernel_rfl, ?y21⟩) hHeld ?z21
    case y21 => (intro wq hSw; (try dsimp only at hSw); go_simp)
    try simp only [Act.put, List.setIfInBounds_toArray, List.set_cons_zero, List.set_cons_succ]
    refine wpAnyH_take (i := 21) (v := .bool false) rfl (by kernel_rfl) (by kernel_rfl) (by kernel_rfl) (fun _ _ _ h => h) (Or.inl ⟨by kernel_rfl, ?y22⟩) hHeld ?z22
    case y22 => (intro wq hSw; (try dsimp only at hSw); go_simp)
    try simp only [Act.put, List.setIfInBounds_toArray, List.set_cons_zero, List.set_cons_succ]
    refine wpAnyH_take (i := 22) (v := .bool false) rfl (by kernel_rfl) (by kernel_rfl) (by kernel_rfl) (fun _ _ _ h => h) (Or.inl ⟨by kernel_rfl, ?y23⟩) hHeld ?z23
    case y23 => (intro wq hSw; (try dsimp only at hSw); go_simp)
    try simp only [Act.put, List.setIfInBounds_toArray, List.set_cons_zero, List.set_cons_succ]
    refine wpAnyH_take (i := 23) (v := ?v24) rfl (by kernel_rfl) (by kernel_rfl) (by kernel_rfl) (fun _ _ _ h => h) (Or.inl ⟨by kernel_rfl, ?y24⟩) hHeld ?z24
    case y24 => (intro wq hSw; (try dsimp only at hSw); go_simp; try with_reducible rfl)
    try simp only [Act.put, List.setIfInBounds_toArray, List.set_cons_zero, List.set_cons_succ]
    refine wpAnyH_take (i := 24) (v := .bool false) rfl (by kernel_rfl) (by kernel_rfl) (by kernel_rfl) (fun _ _ _ h => h) (Or.inl ⟨by kernel_rfl, ?y25⟩) hHeld ?z25
    case y25 => (intro wq hSw; (try dsimp only at hSw); go_simp)
    try simp only [Act.put, List.setIfInBounds_toArray, List.set_cons_zero, List.set_cons_succ]
    refine wpAnyH_take (i := 25) (v := .bool false) rfl (by kernel_rfl) (by kernel_rfl) (by kernel_rfl) (fun _ _ _ h => h) (Or.inl ⟨by kernel_rfl, ?y26⟩) hHeld ?z26
    case y26 => (intro wq hSw; (try dsimp only at hSw); go_simp)
    try simp only [Act.put, List.setIfInBounds_toArray, List.set_cons_zero, List.set_cons_succ]
    refine wpAnyH_take (i := 26) (v := undef) rfl (by kernel_rfl) (by kernel_rfl) (by kernel_rfl) (fun _ _ _ h => h) (Or.inr ⟨by kernel_rfl, rfl⟩) hHeld ?z27
    try simp only [Act.put, List.setIfInBounds_toArray, List.set_cons_zero, List.set_cons_succ]
    refine wpAnyH_take (i := 27) (v := undef) rfl (by kernel_rfl) (by kernel_rfl) (by kernel_rfl) (fun _ _ _ h => h) (Or.inr ⟨by kernel_rfl, rfl⟩) hHeld ?z28
    try simp only [Act.put, List.setIfInBounds_toArray, List.set_cons_zero, List.set_cons_succ]
    refine wpAnyH_take (i := 28) (v := undef) rfl (by kernel_rfl) (by kernel_rfl) (by kernel_rfl) (fun _ _ _ h => h) (Or.inr ⟨by kernel_rfl, rfl⟩) hHeld ?z29
    try simp only [Act.put, List.setIfInBounds_toArray, List.set_cons_zero, List.set_cons_succ]
    refine wpAnyH_take (i := 29) (v := undef) rfl (by kernel_rfl) (by kernel_rfl) (by kernel_rfl) (fun _ _ _ h => h) (Or.inr ⟨by kernel_rfl, rfl⟩) hHeld ?z30
    try simp only [Act.put, List.setIfInBounds_toArray, List.set_cons_zero, List.set_cons_succ]
    refine wpAnyH_take (i := 30) (v := undef) rfl (by kernel_rfl) (by kernel_rfl) (by kernel_rfl) (fun _ _ _ h => h) (Or.inr ⟨by kernel_rfl, rfl⟩) hHeld ?z31
    try simp only [Act.put, List.setIfInBounds_toArray, List.set_cons_zero, List.set_cons_succ]
    refine wpAnyH_take (i := 31) (v := undef) rfl (by kernel_rfl) (by kernel_rfl) (by kernel_rfl) (fun _ _ _ h => h) (Or.inr ⟨by kernel_rfl, rfl⟩) hHeld ?z32
    try simp only [Act.put, List.setIfInBounds_toArray, List.set_cons_zero, List.set_cons_succ]
    refine wpAnyH_take (i := 32) (v := undef) rfl (by kernel_rfl) (by kernel_rfl) (by kernel_rfl) (fun _ _ _ h => h) (Or.inr ⟨by kernel_rfl, rfl⟩) hHeld ?z33
    try simp only [Act.put, List.setIfInBounds_toArray, List.set_cons_zero, List.set_cons_succ]
    refine wpAnyH_take (i := 33) (v := undef) rfl (by kernel_rfl) (by kernel_rfl) (by kernel_rfl) (fun _ _ _ h => h) (Or.inr ⟨by kernel_rfl, rfl⟩) hHeld ?z34
    try simp only [Act.put, List.setIfInBounds_toArray, List.set_cons_zero, List.set_cons_succ]
    refine wpAnyH_take (i := 34) (v := undef) rfl (by kernel_rfl) (by kernel_rfl) (by kernel_rfl) (fun _ _ _ h => h) (Or.inr ⟨by kernel_rfl, rfl⟩) hHeld ?z35
    try simp only [Act.put, List.setIfInBounds_toArray, List.set_cons_zero, List.set_cons_succ]
    refine wpAnyH_take (i := 35) (v := undef) rfl (by kernel_rfl) (by kernel_rfl) (by kernel_rfl) (fun _ _ _ h => h) (Or.inr ⟨by kernel_rfl, rfl⟩) hHeld ?z36
    try simp only [Act.put, List.setIfInBounds_toArray, List.set_cons_zero, List.set_cons_succ]
    refine wpAnyH_take (i := 36) (v := undef) rfl (by kernel_rfl) (by kernel_rfl) (by kernel_rfl) (fun _ _ _ h => h) (Or.inr ⟨by kernel_rfl, rfl⟩) hHeld ?z37
    try simp only [Act.put, List.setIfInBounds_toArray, List.set_cons_zero, List.set_cons_succ]
    refine wpAnyH_take (i := 37) (v := undef) rfl (by kernel_rfl) (by kernel_rfl) (by kernel_rfl) (fun _ _ _ h => h) (Or.inr ⟨by kernel_rfl, rfl⟩) hHeld ?z38
    try simp only [Act.put, List.setIfInBounds_toArray, List.set_cons_zero, List.set_cons_succ]
    refine wpAnyH_take (i := 38) (v := undef) rfl (by kernel_rfl) (by kernel_rfl) (by kernel_rfl) (fun _ _ _ h => h) (Or.inr ⟨by kernel_rfl, rfl⟩) hHeld ?z39
    try simp only [Act.put, List.setIfInBounds_toArray, List.set_cons_zero, List.set_cons_succ]
    refine wpAnyH_take (i := 39) (v := .bool false) rfl (by kernel_rfl) (by kernel_rfl) (by kernel_rfl) (fun _ _ _ h => h) (Or.inl ⟨by kernel_rfl, ?y40⟩) hHeld ?z40
    case y40 => (intro wq hSw; (try dsimp only at hSw); go_simp)
    try simp only [Act.put, List.setIfInBounds_toArray, List.set_cons_zero, List.set_cons_succ]
    refine wpAnyH_take (i := 40) (v := .bool false) rfl (by kernel_rfl) (by kernel_rfl) (by kernel_rfl) (fun _ _ _ h => h) (Or.inl ⟨by kernel_rfl, ?y41⟩) hHeld ?z41
    case y41 => (intro wq hSw; (try dsimp only at hSw); go_simp)
    try simp only [Act.put, List.setIfInBounds_toArray, List.set_cons_zero, List.set_cons_succ]
    try simp only [Act.put, List.getElem_toArray, List.getElem_cons_succ, List.getElem_cons_zero, List.setIfInBounds_toArray, List.set_cons_zero, List.set_cons_succ]
    refine wpAnyH_done (by kernel_rfl) ?_ _
    refine NoPanic.normal ?_
    clear hHeld
    go_wp2
    go_roundw
    case rel => exact ⟨1, by omega, by go_num, hBr.trans ((below_drew wa).mono hBr.size)⟩
    case measure => simp [intOf]; omega
   ·
    obtain ⟨j, hj⟩ : ∃ j, i = j + 1 := ⟨i - 1, by omega⟩
    obtain ⟨t, ht⟩ : ∃ t, D[j]? = some t := ⟨_, List.getElem?_eq_getElem (by have := HM.out; omega)⟩
    obtain ⟨g9, c9, e9, z1, z2⟩ := L5.get ht
    injection e9 with e9 k1 k2
    injection e9 with e9
    injection e9 with e9 k3 k4
    clear k1 k2 k3 k4
    subst e9
    have ot := HD1.out j t ht
    have o4 := HD2.out j t s ht (by rw [← hj]; exact hs)
    have qj : IntKind.i64.wrap ((i : Int) - 1) = (j : Int) := by rw [IntKind.wrap_i64]; omega
    have qh : IntKind.i64.wrap (t.hi + 1) = t.hi + 1 := by rw [IntKind.wrap_i64]; omega
    have hlt : ¬ s.lo ≤ t.hi + 1 := by omega
    have qi : (0 : Int) < (i : Int) := by omega
    have qj0 : (0 : Int) ≤ (j : Int) := by omega
    have qjm : (j : Int) < (m : Int) := by omega
    generalize s.lo = lo at *
    generalize s.hi = hi_ at *
    generalize t.hi = ph at *
    clear L5 L6 M5 HD1 HD2 z1 hj
    go_wp2_with fail
    refine wp_region_noPanic ?_
    refine wp_region_held_drew (S := fun w' => w'.cell? ⟨g7, i * 2, none⟩ = some (.int .i64 lo) ∧ w'.cell? ⟨g7, i * 2 + 1, none⟩ = some (.int .i64 hi_) ∧ w'.cell? ⟨g8, i * 2, none⟩ = some (.int .i64 lo) ∧ w'.cell? ⟨g8, i * 2 + 1, none⟩ = some (.int .i64 hi_) ∧ w'.cell? ⟨g7, j * 2 + 1, none⟩ = some (.int .i64 ph)) (by kernel_rfl) ⟨(show wa.drew.cell? ⟨g7, i * 2, none⟩ = _ from x1), (show wa.drew.cell? ⟨g7, i * 2 + 1, none⟩ = _ from x2), (show wa.drew.cell? ⟨g8, i * 2, none⟩ = _ from y1), (show wa.drew.cell? ⟨g8, i * 2 + 1, none⟩ = _ from y2), (show wa.drew.cell? ⟨g7, j * 2 + 1, none⟩ = _ from z2)⟩ (fun hHeld => ?_)
    refine wpAnyH_take (i := 0) (v := ?v42) rfl (by kernel_rfl) (by kernel_rfl) (by kernel_rfl) (fun _ _ _ h => h) (Or.inl ⟨by kernel_rfl, ?y42⟩) hHeld ?z42
    case y42 => (intro wq hSw; (try dsimp only at hSw); go_simp; try with_reducible rfl)
    try simp only [Act.put, List.setIfInBounds_toArray, List.set_cons_zero, List.set_cons_succ]
    refine wpAnyH_take (i := 1) (v := ?v43) rfl (by kernel_rfl) (by kernel_rfl) (by kernel_rfl) (fun _ _ _ h => h) (Or.inl ⟨by kernel_rfl, ?y43⟩) hHeld ?z43
    case y43 => (intro wq hSw; (try dsimp only at hSw); go_simp; try with_reducible rfl)
    try simp only [Act.put, List.setIfInBounds_toArray, List.set_cons_zero, List.set_cons_succ]
    refine wpAnyH_take (i := 2) (v := ?v44) rfl (by kernel_rfl) (by kernel_rfl) (by kernel_rfl) (fun _ _ _ h => h) (Or.inl ⟨by kernel_rfl, ?y44⟩) hHeld ?z44
    case y44 => (intro wq hSw; (try dsimp only at hSw); go_simp; try with_reducible rfl)
    try simp only [Act.put, List.setIfInBounds_toArray, List.set_cons_zero, List.set_cons_succ]
    refine wpAnyH_take (i := 3) (v := ?v45) rfl (by kernel_rfl) (by kernel_rfl) (by kernel_rfl) (fun _ _ _ h => h) (Or.inl ⟨by kernel_rfl, ?y45⟩) hHeld ?z45
    case y45 => (intro wq hSw; (try dsimp only at hSw); go_simp; try with_reducible rfl)
    try simp only [Act.put, List.setIfInBounds_toArray, List.set_cons_zero, List.set_cons_succ]
    refine wpAnyH_take (i := 4) (v := ?v46) rfl (by kernel_rfl) (by kernel_rfl) (by kernel_rfl) (fun _ _ _ h => h) (Or.inl ⟨by kernel_rfl, ?y46⟩) hHeld ?z46
    case y46 => (intro wq hSw; (try dsimp only at hSw); go_simp; try with_reducible rfl)
    try simp only [Act.put, List.setIfInBounds_toArray, List.set_cons_zero, List.set_cons_succ]
    refine wpAnyH_take (i := 5) (v := ?v47) rfl (by kernel_rfl) (by kernel_rfl) (by kernel_rfl) (fun _ _ _ h => h) (Or.inl ⟨by kernel_rfl, ?y47⟩) hHeld ?z47
    case y47 => (intro wq hSw; (try dsimp only at hSw); go_simp; try with_reducible rfl)
    try simp only [Act.put, List.setIfInBounds_toArray, List.set_cons_zero, List.set_cons_succ]
    refine wpAnyH_take (i := 6) (v := ?v48) rfl (by kernel_rfl) (by kernel_rfl) (by kernel_rfl) (fun _ _ _ h => h) (Or.inl ⟨by kernel_rfl, ?y48⟩) hHeld ?z48
    case y48 => (intro wq hSw; (try dsimp only at hSw); go_simp; try with_reducible rfl)
    try simp only [Act.put, List.setIfInBounds_toArray, List.set_cons_zero, List.set_cons_succ]
    refine wpAnyH_take (i := 7) (v := ?v49) rfl (by kernel_rfl) (by kernel_rfl) (by kernel_rfl) (fun _ _ _ h => h) (Or.inl ⟨by kernel_rfl, ?y49⟩) hHeld ?z49
    case y49 => (intro wq hSw; (try dsimp only at hSw); go_simp; try with_reducible rfl)
    try simp only [Act.put, List.setIfInBounds_toArray, List.set_cons_zero, List.set_cons_succ]
    refine wpAnyH_take (i := 8) (v := .bool false) rfl (by kernel_rfl) (by kernel_rfl) (by kernel_rfl) (fun _ _ _ h => h) (Or.inl ⟨by kernel_rfl, ?y50⟩) hHeld ?z50
    case y50 => (intro wq hSw; (try dsimp only at hSw); go_simp)
    try simp only [Act.put, List.setIfInBounds_toArray, List.set_cons_zero, List.set_cons_succ]
    refine wpAnyH_take (i := 9) (v := ?v51) rfl (by kernel_rfl) (by kernel_rfl) (by kernel_rfl) (fun _ _ _ h => h) (Or.inl ⟨by kernel_rfl, ?y51⟩) hHeld ?z51
    case y51 => (intro wq hSw; (try dsimp only at hSw); go_simp; try with_reducible rfl)
    try simp only [Act.put, List.setIfInBounds_toArray, List.set_cons_zero, List.set_cons_succ]
    refine wpAnyH_take (i := 10) (v := ?v52) rfl (by kernel_rfl) (by kernel_rfl) (by kernel_rfl) (fun _ _ _ h => h) (Or.inl ⟨by kernel_rfl, ?y52⟩) hHeld ?z52
    case y52 => (intro wq hSw; (try dsimp only at hSw); go_simp; try with_reducible rfl)
    try simp only [Act.put, List.setIfInBounds_toArray, List.set_cons_zero, List.set_cons_succ]
    refine wpAnyH_take (i := 11) (v := ?v53) rfl (by kernel_rfl) (by kernel_rfl) (by kernel_rfl) (fun _ _ _ h => h) (Or.inl ⟨by kernel_rfl, ?y53⟩) hHeld ?z53
    case y53 => (intro wq hSw; (try dsimp only at hSw); go_simp; try with_reducible rfl)
    try simp only [Act.put, List.setIfInBounds_toArray, List.set_cons_zero, List.set_cons_succ]
    refine wpAnyH_take (i := 12) (v := ?v54) rfl (by kernel_rfl) (by kernel_rfl) (by kernel_rfl) (fun _ _ _ h => h) (Or.inl ⟨by kernel_rfl, ?y54⟩) hHeld ?z54
    case y54 => (intro wq hSw; (try dsimp only at hSw); go_simp; try with_reducible rfl)
    try simp only [Act.put, List.setIfInBounds_toArray, List.set_cons_zero, List.set_cons_succ]
    refine wpAnyH_take (i := 13) (v := ?v55) rfl (by kernel_rfl) (by kernel_rfl) (by kernel_rfl) (fun _ _ _ h => h) (Or.inl ⟨by kernel_rfl, ?y55⟩) hHeld ?z55
    case y55 => (intro wq hSw; (try dsimp only at hSw); go_simp; try with_reducible rfl)
    try simp only [Act.put, List.setIfInBounds_toArray, List.set_cons_zero, List.set_cons_succ]
    refine wpAnyH_take (i := 14) (v := ?v56) rfl (by kernel_rfl) (by kernel_rfl) (by kernel_rfl) (fun _ _ _ h => h) (Or.inl ⟨by kernel_rfl, ?y56⟩) hHeld ?z56
    case y56 => (intro wq hSw; (try dsimp only at hSw); go_simp; try with_reducible rfl)
    try simp only [Act.put, List.setIfInBounds_toArray, List.set_cons_zero, List.set_cons_succ]
    refine wpAnyH_take (i := 15) (v := ?v57) rfl (by kernel_rfl) (by kernel_rfl) (by kernel_rfl) (fun _ _ _ h => h) (Or.inl ⟨by kernel_rfl, ?y57⟩) hHeld ?z57
    case y57 => (intro wq hSw; (try dsimp only at hSw); go_simp; try with_reducible rfl)
    try simp only [Act.put, List.setIfInBounds_toArray, List.set_cons_zero, List.set_cons_succ]
    refine wpAnyH_take (i := 16) (v := ?v58) rfl (by kernel_rfl) (by kernel_rfl) (by kernel_rfl) (fun _ _ _ h => h) (Or.inl ⟨by kernel_rfl, ?y58⟩) hHeld ?z58
    case y58 => (intro wq hSw; (try dsimp only at hSw); go_simp; try with_reducible rfl)
    try simp only [Act.put, List.setIfInBounds_toArray, List.set_cons_zero, List.set_cons_succ]
    refine wpAnyH_take (i := 17) (v := ?v59) rfl (by kernel_rfl) (by kernel_rfl) (by kernel_rfl) (fun _ _ _ h => h) (Or.inl ⟨by kernel_rfl, ?y59⟩) hHeld ?z59
    case y59 => (intro wq hSw; (try dsimp only at hSw); go_simp; try with_reducible rfl)
    try simp only [Act.put, List.setIfInBounds_toArray, List.set_cons_zero, List.set_cons_succ]
    refine wpAnyH_take (i := 18) (v := ?v60) rfl (by kernel_rfl) (by kernel_rfl) (by kernel_rfl) (fun _ _ _ h => h) (Or.inl ⟨by kernel_rfl, ?y60⟩) hHeld ?z60
    case y60 => (intro wq hSw; (try dsimp only at hSw); go_simp; try with_reducible rfl)
    try simp only [Act.put, List.setIfInBounds_toArray, List.set_cons_zero, List.set_cons_succ]
    refine wpAnyH_take (i := 19) (v := ?v61) rfl (by kernel_rfl) (by kernel_rfl) (by kernel_rfl) (fun _ _ _ h => h) (Or.inl ⟨by kernel_rfl, ?y61⟩) hHeld ?z61
    case y61 => (intro wq hSw; (try dsimp only at hSw); go_simp; try with_reducible rfl)
    try simp only [Act.put, List.setIfInBounds_toArray, List.set_cons_zero, List.set_cons_succ]
    refine wpAnyH_take (i := 20) (v := .bool false) rfl (by kernel_rfl) (by kernel_rfl) (by kernel_rfl) (fun _ _ _ h => h) (Or.inl ⟨by kernel_rfl, ?y62⟩) hHeld ?z62
    case y62 => (intro wq hSw; (try dsimp only at hSw); go_simp)
    try simp only [Act.put, List.setIfInBounds_toArray, List.set_cons_zero, List.set_cons_succ]
    refine wpAnyH_take (i := 21) (v := .bool false) rfl (by kernel_rfl) (by kernel_rfl) (by kernel_rfl) (fun _ _ _ h => h) (Or.inl ⟨by kernel_rfl, ?y63⟩) hHeld ?z63
    case y63 => (intro wq hSw; (try dsimp only at hSw); go_simp)
    try simp only [Act.put, List.setIfInBounds_toArray, List.set_cons_zero, List.set_cons_succ]
    refine wpAnyH_take (i := 22) (v := .bool false) rfl (by kernel_rfl) (by kernel_rfl) (by kernel_rfl) (fun _ _ _ h => h) (Or.inl ⟨by kernel_rfl, ?y64⟩) hHeld ?z64
    case y64 => (intro wq hSw; (try dsimp only at hSw); go_simp)
    try simp only [Act.put, List.setIfInBounds_toArray, List.set_cons_zero, List.set_cons_succ]
    refine wpAnyH_take (i := 23) (v := ?v65) rfl (by kernel_rfl) (by kernel_rfl) (by kernel_rfl) (fun _ _ _ h => h) (Or.inl ⟨by kernel_rfl, ?y65⟩) hHeld ?z65
    case y65 => (intro wq hSw; (try dsimp only at hSw); go_simp; try with_reducible rfl)
    try simp only [Act.put, List.setIfInBounds_toArray, List.set_cons_zero, List.set_cons_succ]
    refine wpAnyH_take (i := 24) (v := .bool true) rfl (by kernel_rfl) (by kernel_rfl) (by kernel_rfl) (fun _ _ _ h => h) (Or.inl ⟨by kernel_rfl, ?y66⟩) hHeld ?z66
    case y66 => (intro wq hSw; (try dsimp only at hSw); go_simp; omega)
    try simp only [Act.put, List.setIfInBounds_toArray, List.set_cons_zero, List.set_cons_succ]
    refine wpAnyH_take (i := 25) (v := .bool true) rfl (by kernel_rfl) (by kernel_rfl) (by kernel_rfl) (fun _ _ _ h => h) (Or.inl ⟨by kernel_rfl, ?y67⟩) hHeld ?z67
    case y67 => (intro wq hSw; (try dsimp only at hSw); go_simp)
    try simp only [Act.put, List.setIfInBounds_toArray, List.set_cons_zero, List.set_cons_succ]
    refine wpAnyH_take (i := 26) (v := ?v68) rfl (by kernel_rfl) (by kernel_rfl) (by kernel_rfl) (fun _ _ _ h => h) (Or.inl ⟨by kernel_rfl, ?y68⟩) hHeld ?z68
    case y68 => (intro wq hSw; (try dsimp only at hSw); go_simp; try with_reducible rfl)
    try simp only [Act.put, List.setIfInBounds_toArray, List.set_cons_zero, List.set_cons_succ]
    refine wpAnyH_take (i := 27) (v := ?v69) rfl (by kernel_rfl) (by kernel_rfl) (by kernel_rfl) (fun _ _ _ h => h) (Or.inl ⟨by kernel_rfl, ?y69⟩) hHeld ?z69
    case y69 => (intro wq hSw; (try dsimp only at hSw); go_simp; try with_reducible rfl)
    try simp only [Act.put, List.setIfInBounds_toArray, List.set_cons_zero, List.set_cons_succ]
    refine wpAnyH_take (i := 28) (v := ?v70) rfl (by kernel_rfl) (by kernel_rfl) (by kernel_rfl) (fun _ _ _ h => h) (Or.inl ⟨by kernel_rfl, ?y70⟩) hHeld ?z70
    case y70 => (intro wq hSw; (try dsimp only at hSw); go_simp; try with_reducible rfl)
    try simp only [Act.put, List.setIfInBounds_toArray, List.set_cons_zero, List.set_cons_succ]
    refine wpAnyH_take (i := 29) (v := ?v71) rfl (by kernel_rfl) (by kernel_rfl) (by kernel_rfl) (fun _ _ _ h => h) (Or.inl ⟨by kernel_rfl, ?y71⟩) hHeld ?z71
    case y71 => (intro wq hSw; (try dsimp only at hSw); go_simp; try with_reducible rfl)
    try simp only [Act.put, List.setIfInBounds_toArray, List.set_cons_zero, List.set_cons_succ]
    refine wpAnyH_take (i := 30) (v := ?v72) rfl (by kernel_rfl) (by kernel_rfl) (by kernel_rfl) (fun _ _ _ h => h) (Or.inl ⟨by kernel_rfl, ?y72⟩) hHeld ?z72
    case y72 => (intro wq hSw; (try dsimp only at hSw); go_simp; try with_reducible rfl)
    try simp only [Act.put, List.setIfInBounds_toArray, List.set_cons_zero, List.set_cons_succ]
    refine wpAnyH_take (i := 31) (v := ?v73) rfl (by kernel_rfl) (by kernel_rfl) (by kernel_rfl) (fun _ _ _ h => h) (Or.inl ⟨by kernel_rfl, ?y73⟩) hHeld ?z73
    case y73 => (intro wq hSw; (try dsimp only at hSw); go_simp; try with_reducible rfl)
    try simp only [Act.put, List.setIfInBounds_toArray, List.set_cons_zero, List.set_cons_succ]
    refine wpAnyH_take (i := 32) (v := ?v74) rfl (by kernel_rfl) (by kernel_rfl) (by kernel_rfl) (fun _ _ _ h => h) (Or.inl ⟨by kernel_rfl, ?y74⟩) hHeld ?z74
    case y74 => (intro wq hSw; (try dsimp only at hSw); go_simp; try with_reducible rfl)
    try simp only [Act.put, List.setIfInBounds_toArray, List.set_cons_zero, List.set_cons_succ]
    refine wpAnyH_take (i := 33) (v := ?v75) rfl (by kernel_rfl) (by kernel_rfl) (by kernel_rfl) (fun _ _ _ h => h) (Or.inl ⟨by kernel_rfl, ?y75⟩) hHeld ?z75
    case y75 => (intro wq hSw; (try dsimp only at hSw); go_simp; try with_reducible rfl)
    try simp only [Act.put, List.setIfInBounds_toArray, List.set_cons_zero, List.set_cons_succ]
    refine wpAnyH_take (i := 34) (v := ?v76) rfl (by kernel_rfl) (by kernel_rfl) (by kernel_rfl) (fun _ _ _ h => h) (Or.inl ⟨by kernel_rfl, ?y76⟩) hHeld ?z76
    case y76 => (intro wq hSw; (try dsimp only at hSw); go_simp; try with_reducible rfl)
    try simp only [Act.put, List.setIfInBounds_toArray, List.set_cons_zero, List.set_cons_succ]
    refine wpAnyH_take (i := 35) (v := ?v77) rfl (by kernel_rfl) (by kernel_rfl) (by kernel_rfl) (fun _ _ _ h => h) (Or.inl ⟨by kernel_rfl, ?y77⟩) hHeld ?z77
    case y77 => (intro wq hSw; (try dsimp only at hSw); go_simp; try with_reducible rfl)
    try simp only [Act.put, List.setIfInBounds_toArray, List.set_cons_zero, List.set_cons_succ]
    refine wpAnyH_take (i := 36) (v := ?v78) rfl (by kernel_rfl) (by kernel_rfl) (by kernel_rfl) (fun _ _ _ h => h) (Or.inl ⟨by kernel_rfl, ?y78⟩) hHeld ?z78
    case y78 => (intro wq hSw; (try dsimp only at hSw); go_simp; try with_reducible rfl)
    try simp only [Act.put, List.setIfInBounds_toArray, List.set_cons_zero, List.set_cons_succ]
    refine wpAnyH_take (i := 37) (v := ?v79) rfl (by kernel_rfl) (by kernel_rfl) (by kernel_rfl) (fun _ _ _ h => h) (Or.inl ⟨by kernel_rfl, ?y79⟩) hHeld ?z79
    case y79 => (intro wq hSw; (try dsimp only at hSw); go_simp; try with_reducible rfl)
    try simp only [Act.put, List.setIfInBounds_toArray, List.set_cons_zero, List.set_cons_succ]
    refine wpAnyH_take (i := 38) (v := .bool false) rfl (by kernel_rfl) (by kernel_rfl) (by kernel_rfl) (fun _ _ _ h => h) (Or.inl ⟨by kernel_rfl, ?y80⟩) hHeld ?z80
    case y80 => (intro wq hSw; (try dsimp only at hSw); go_simp)
    try simp only [Act.put, List.setIfInBounds_toArray, List.set_cons_zero, List.set_cons_succ]
    refine wpAnyH_take (i := 39) (v := .bool false) rfl (by kernel_rfl) (by kernel_rfl) (by kernel_rfl) (fun _ _ _ h => h) (Or.inl ⟨by kernel_rfl, ?y81⟩) hHeld ?z81
    case y81 => (intro wq hSw; (try dsimp only at hSw); go_simp)
    try simp only [Act.put, List.setIfInBounds_toArray, List.set_cons_zero, List.set_cons_succ]
    refine wpAnyH_take (i := 40) (v := .bool false) rfl (by kernel_rfl) (by kernel_rfl) (by kernel_rfl) (fun _ _ _ h => h) (Or.inl ⟨by kernel_rfl, ?y82⟩) hHeld ?z82
    case y82 => (intro wq hSw; (try dsimp only at hSw); go_simp)
    try simp only [Act.put, List.setIfInBounds_toArray, List.set_cons_zero, List.set_cons_succ]
    try simp only [Act.put, List.getElem_toArray, List.getElem_cons_succ, List.getElem_cons_zero, List.setIfInBounds_toArray, List.set_cons_zero, List.set_cons_succ]
    refine wpAnyH_done (by kernel_rfl) ?_ _
    refine NoPanic.normal ?_
    clear hHeld
    go_wp2
    go_roundw
    case rel => exact ⟨i + 1, by omega, by go_num, hBr.trans ((below_drew wa).mono hBr.size)⟩
    case measure => simp [intOf]; omega
  ·
   have him1 : ¬ (i : Int) < (m : Int) := by omega
   go_wp2_with fail
   refine (draw_Changed someC a1 len1 cap1 _ M5.r h1).mono ?_
   intro e w5 hd
   obtain ⟨cv, ev, C, E, x, g, f, rfl, OC, OE, lC, lE, kC, kE, B5⟩ := hd.ex
   clear hd
   have M6 := M5.below B5
   have L7 : OwnsS w5 _ (.slice al m cl) D := owns_below L5 B5
   have hsz := M5.b.size
   clear M5 L5 L6 hBr
   obtain ⟨nA, hA⟩ : ∃ n, C.length = n := ⟨_, rfl⟩
   have HNA : Hid (C.length = nA) := hA
   obtain ⟨nE, hE⟩ : ∃ n, E.length = n := ⟨_, rfl⟩
   have HNE : Hid (E.length = nE) := hE
   obtain ⟨ba, ca, rfl⟩ := OC.tabD hA
   obtain ⟨be, ce, rfl⟩ := OE.tabD hE
   have hB : Below w5.heap.size w5 ((w5.alloc (.cells #[.slice ba nA ca] 25)).alloc (.cells #[.slice be nE ce] 25)) := ((Below.refl _ w5).alloc (Nat.le_refl _) _).alloc (by simp) _
   have N7 : DM w5.heap.size (w5.heap.size + 1) (.slice ba nA ca) (.slice be nE ce) C E a1 len1 w ((w5.alloc (.cells #[.slice ba nA ca] 25)).alloc (.cells #[.slice be nE ce] 25)) := ⟨by simp [go_sem], by simp [go_sem], owns_below (owns_mono OC hsz) hB, owns_below (owns_mono OE hsz) hB, M6.r.grown hB, M6.b.trans (hB.mono M6.b.size)⟩
   have M7 := M6.below hB
   have L8 : OwnsS ((w5.alloc (.cells #[.slice ba nA ca] 25)).alloc (.cells #[.slice be nE ce] 25)) _ (.slice al m cl) D := owns_below L7 hB
   clear M6 L7 hB OC OE hA hE B5
   have c7 := N7.c
   have d7 := N7.d
   obtain ⟨ch, hch⟩ : ∃ b, changedD C E x g f = b := ⟨_, rfl⟩
   have hI : ∀ w, TabAt w (.agg #[(.slice ba nA ca)]) C → TabAt w (.agg #[(.slice be nE ce)]) E → Calls Tryz.prog 8 #[.agg #[(.slice ba nA ca)], .agg #[(.slice be nE ce)], .int .i64 x, .int .i64 g, .int .i64 f] w (fun e w' => e = .returned (.bool ch) ∧ Below w.heap.size w w') := fun w h1 h2 => by have := impl_Changed C E _ _ x g f w h1 h2 kC kE (by omega) (by omega); rw [hch] at this; exact this
   have hSp : ∀ w, TabAt w (.agg #[(.slice ba nA ca)]) C → TabAt w (.agg #[(.slice be nE ce)]) E → Calls Tryz.prog 9 #[.agg #[(.slice ba nA ca)], .agg #[(.slice be nE ce)], .int .i64 x, .int .i64 g, .int .i64 f] w (fun e w' => e = .returned (.bool ch) ∧ Below w.heap.size w w') := fun w h1 h2 => by have := spec_Changed C E _ _ x g f w h1 h2 kC kE; rw [hch] at this; exact this
   have HCH : Hid (changedD C E x g f = ch) := hch
   clear hch
   go_wp2_with fail
   refine wp_region_noPanic ?_
   refine wp_region_held_drew (S := fun w' => w'.cell? ⟨w5.heap.size, 0, none⟩ = some (.slice ba nA ca) ∧ w'.cell? ⟨w5.heap.size + 1, 0, none⟩ = some (.slice be nE ce)) (by kernel_rfl) ⟨(show ((w5.alloc (.cells #[.slice ba nA ca] 25)).alloc (.cells #[.slice be nE ce] 25)).drew.cell? ⟨w5.heap.size, 0, none⟩ = _ from c7), (show ((w5.alloc (.cells #[.slice ba nA ca] 25)).alloc (.cells #[.slice be nE ce] 25)).drew.cell? ⟨w5.heap.size + 1, 0, none⟩ = _ from d7)⟩ (fun hHeld => ?_)
   have N8 := N7.below (below_drew _)
   have M8 := M7.below (below_drew _)
   have L9 : OwnsS ((w5.alloc (.cells #[.slice ba nA ca] 25)).alloc (.cells #[.slice be nE ce] 25)).drew _ (.slice al m cl) D := owns_below L8 (below_drew _)
   clear N7 M7 L8 c7 d7
   refine wpAnyH_take (i := 0) (v := ?v83) rfl (by kernel_rfl) (by kernel_rfl) (by kernel_rfl) (fun _ _ _ h => h) (Or.inl ⟨by kernel_rfl, ?y83⟩) hHeld ?z83
   case y83 => (intro wq hSw; (try dsimp only at hSw); go_simp; try with_reducible rfl)
   try simp only [Act.put, List.setIfInBounds_toArray, List.set_cons_zero, List.set_cons_succ]
   refine wpAnyH_take (i := 1) (v := ?v84) rfl (by kernel_rfl) (by kernel_rfl) (by kernel_rfl) (fun _ _ _ h => h) (Or.inl ⟨by kernel_rfl, ?y84⟩) hHeld ?z84
   case y84 => (intro wq hSw; (try dsimp only at hSw); go_simp; try with_reducible rfl)
   try simp only [Act.put, List.setIfInBounds_toArray, List.set_cons_zero, List.set_cons_succ]
   refine wpAnyH_take (i := 2) (v := ?v85) rfl (by kernel_rfl) (by kernel_rfl) (by kernel_rfl) (fun _ _ _ h => h) (Or.inl ⟨by kernel_rfl, ?y85⟩) hHeld ?z85
   case y85 => (intro wq hSw; (try dsimp only at hSw); go_simp; try with_reducible rfl)
   try simp only [Act.put, List.setIfInBounds_toArray, List.set_cons_zero, List.set_cons_succ]
   refine wpAnyH_take (i := 3) (v := ?v86) rfl (by kernel_rfl) (by kernel_rfl) (by kernel_rfl) (fun _ _ _ h => h) (Or.inl ⟨by kernel_rfl, ?y86⟩) hHeld ?z86
   case y86 => (intro wq hSw; (try dsimp only at hSw); go_simp; try with_reducible rfl)
   try simp only [Act.put, List.setIfInBounds_toArray, List.set_cons_zero, List.set_cons_succ]
   refine wpAnyH_take (i := 4) (v := ?v87) rfl (by kernel_rfl) (by kernel_rfl) (by kernel_rfl) (fun _ _ _ h => h) (Or.inl ⟨by kernel_rfl, ?y87⟩) hHeld ?z87
   case y87 => (intro wq hSw; (try dsimp only at hSw); go_simp; try with_reducible rfl)
   try simp only [Act.put, List.setIfInBounds_toArray, List.set_cons_zero, List.set_cons_succ]
   refine wpAnyH_take (i := 6) (v := ?v88) rfl (by kernel_rfl) (by kernel_rfl) (by kernel_rfl) (fun _ _ _ h => h) (Or.inl ⟨by kernel_rfl, ?y88⟩) hHeld ?z88
   case y88 => (intro wq hSw; (try dsimp only at hSw); go_simp; try with_reducible rfl)
   try simp only [Act.put, List.setIfInBounds_toArray, List.set_cons_zero, List.set_cons_succ]
   refine wpAnyH_take (i := 7) (v := ?v89) rfl (by kernel_rfl) (by kernel_rfl) (by kernel_rfl) (fun _ _ _ h => h) (Or.inl ⟨by kernel_rfl, ?y89⟩) hHeld ?z89
   case y89 => (intro wq hSw; (try dsimp only at hSw); go_simp; try with_reducible rfl)
   try simp only [Act.put, List.setIfInBounds_toArray, List.set_cons_zero, List.set_cons_succ]
   refine wpAnyH_take (i := 8) (v := ?v90) rfl (by kernel_rfl) (by kernel_rfl) (by kernel_rfl) (fun _ _ _ h => h) (Or.inl ⟨by kernel_rfl, ?y90⟩) hHeld ?z90
   case y90 => (intro wq hSw; (try dsimp only at hSw); go_simp; try with_reducible rfl)
   try simp only [Act.put, List.setIfInBounds_toArray, List.set_cons_zero, List.set_cons_succ]
   refine wpAnyH_take (i := 9) (v := ?v91) rfl (by kernel_rfl) (by kernel_rfl) (by kernel_rfl) (fun _ _ _ h => h) (Or.inl ⟨by kernel_rfl, ?y91⟩) hHeld ?z91
   case y91 => (intro wq hSw; (try dsimp only at hSw); go_simp; try with_reducible rfl)
   try simp only [Act.put, List.setIfInBounds_toArray, List.set_cons_zero, List.set_cons_succ]
   refine wpAnyH_take (i := 10) (v := ?v92) rfl (by kernel_rfl) (by kernel_rfl) (by kernel_rfl) (fun _ _ _ h => h) (Or.inl ⟨by kernel_rfl, ?y92⟩) hHeld ?z92
   case y92 => (intro wq hSw; (try dsimp only at hSw); go_simp; try with_reducible rfl)
   try simp only [Act.put, List.setIfInBounds_toArray, List.set_cons_zero, List.set_cons_succ]
   refine wpAnyH_ready (rs := [5]) (by kernel_rfl) (by simp) ?_
   refine AllReadyH.cons rfl (fun K hK => ?_) AllReadyH.nil
   go_simp
   refine (hI _ N8.ot.tab N8.ou.tab).mono ?_
   rintro e w8 ⟨rfl, hb⟩
   have hH2 : (fun w' => w'.cell? ⟨w5.heap.size, 0, none⟩ = some (.slice ba nA ca) ∧ w'.cell? ⟨w5.heap.size + 1, 0, none⟩ = some (.slice be nE ce)) w8 := ⟨keepC hb hHeld.1, keepC hb hHeld.2⟩
   have N9 := N8.below hb
   have M9 := M8.below hb
   have LA : OwnsS w8 _ (.slice al m cl) D := owns_below L9 hb
   clear hb N8 M8 L9
   go_wp2_with fail
   refine hK.out _ _ hH2 (fun hHeld => ?_)
   clear hK K hH2
   try simp only [Act.put, List.setIfInBounds_toArray, List.set_cons_zero, List.set_cons_succ]
   refine wpAnyH_ready (rs := [11]) (by kernel_rfl) (by simp) ?_
   refine AllReadyH.cons rfl (fun K hK => ?_) AllReadyH.nil
   go_simp
   refine (hSp _ N9.ot.tab N9.ou.tab).mono ?_
   rintro e w9 ⟨rfl, hb⟩
   have hH2 : (fun w' => w'.cell? ⟨w5.heap.size, 0, none⟩ = some (.slice ba nA ca) ∧ w'.cell? ⟨w5.heap.size + 1, 0, none⟩ = some (.slice be nE ce)) w9 := ⟨keepC hb hHeld.1, keepC hb hHeld.2⟩
   have NA := N9.below hb
   have MA := M9.below hb
   have LB : OwnsS w9 _ (.slice al m cl) D := owns_below LA hb
   clear hb N9 M9 LA
   go_wp2_with fail
   refine hK.out _ _ hH2 (fun hHeld => ?_)
   clear hK K hH2
   try simp only [Act.put, List.setIfInBounds_toArray, List.set_cons_zero, List.set_cons_succ]
   refine wpAnyH_take (i := 12) (v := .bool false) rfl (by kernel_rfl) (by kernel_rfl) (by kernel_rfl) (fun _ _ _ h => h) (Or.inl ⟨by kernel_rfl, ?y93⟩) hHeld ?z93
   case y93 => (intro wq hSw; (try dsimp only at hSw); go_simp)
   try simp only [Act.put, List.setIfInBounds_toArray, List.set_cons_zero, List.set_cons_succ]
   try simp only [Act.put, List.getElem_toArray, List.getElem_cons_succ, List.getElem_cons_zero, List.setIfInBounds_toArray, List.set_cons_zero, List.set_cons_succ]
   refine wpAnyH_done (by kernel_rfl) ?_ _
   refine NoPanic.normal ?_
   clear hHeld
   have cA := NA.c
   have dA := NA.d
   go_upto_region 16 with fail
   go_cut [135] from 112 to 135 (fun x wx => x = .bool false ∧ DM w1.heap.size (w1.heap.size + 1) (.slice bt nT ct) (.slice bu nU cu) T U a1 len1 w wx ∧ OwnsS wx ((w1.alloc (.cells #[.slice bt nT ct] 25)).alloc (.cells #[.slice bu nU cu] 25)).heap.size (.slice al m cl) D)
   case first =>
    go_wp2_with fail
    refine (hI _ NA.ot.tab NA.ou.tab).mono ?_
    rintro e wA ⟨rfl, hb⟩
    have NB := NA.below hb
    have MB := MA.below hb
    have LC : OwnsS wA _ (.slice al m cl) D := owns_below LB hb
    clear hb NA MA LB cA dA
    cases ch with
    | false =>
     go_wp2_with fail
     go_meet
     exact ⟨rfl, MB, LC⟩
    | true =>
     have cB := NB.c
     have dB := NB.d
     have hin := changed_in HCH.out
     have qx1 : IntKind.i64.wrap (x - 100000) = x - 100000 := by rw [IntKind.wrap_i64]; omega
     have qx2 : IntKind.i64.wrap (x + 100000) = x + 100000 := by rw [IntKind.wrap_i64]; omega
     have HTO : Hid ((diffD C E).length ≤ 400 → touchD (diffD C E) (x - 100000) (x + 100000) = true) := fun h => by have := changed_touch HCH.out h; rw [qx1, qx2] at this; exact this
     go_wp2_with fail
     refine (impl_Diff C E _ _ _ NB.ot.tab NB.ou.tab kC kE (by omega) (by omega)).mono ?_
     rintro e wB ⟨vB, rfl, XB, hb⟩
     have NC := NB.below hb
     have MC := MB.below hb
     have LD : OwnsS wB _ (.slice al m cl) D := owns_below LC hb
     clear hb NB MB LC cB dB
     obtain ⟨ax, cx, rfl, XQ⟩ := XB.seq
     go_wp2_with fail
     refine (impl_Touched (diffD C E) ax cx _ _ _ XQ (by have := diff_len C E; omega)).mono ?_
     rintro e wC ⟨rfl, hb⟩
     have ND := NC.below hb
     have MD := MC.below hb
     have LE : OwnsS wC _ (.slice al m cl) D := owns_below LD hb
     clear hb NC MC LD XB XQ
     by_cases hx : (diffD C E).length ≤ 400
     ·
      have hto := HTO.out hx
      rw [hto]
      go_wp2_with fail
      go_meet
      exact ⟨rfl, MD, LE⟩
     ·
      have hto := touch_no (f := x - 100000) (t := x + 100000) hx
      rw [hto]
      have cD := ND.c
      have dD := ND.d
      go_wp2_with fail
      refine (impl_Diff C E _ _ _ ND.ot.tab ND.ou.tab kC kE (by omega) (by omega)).mono ?_
      rintro e wD ⟨vD, rfl, XD, hb⟩
      have NE := ND.below hb
      have ME := MD.below hb
      have LF : OwnsS wD _ (.slice al m cl) D := owns_below LE hb
      obtain ⟨ay, cy, rfl, XR⟩ := XD.seq
      have hx2 : ¬ ((diffD C E).length : Int) ≤ 400 := by omega
      clear hb ND MD LE XD XR cD dD
      go_wp2_with fail
      go_meet
      exact ⟨by rw [decide_eq_false (by omega)], ME, LF⟩
   case rest =>
    obtain ⟨rfl, M1, LX⟩ := hcut
    obtain ⟨v6, hv6⟩ : ∃ x : World, x = wc := ⟨_, rfl⟩
    subst hv6
    clear NA MA LB cA dA hI hSp HCH
    have cX := M1.c
    have dX := M1.d
    go_wp2_with fail
    refine (spec_TableRight T _ _ M1.ot.tab kT).mono ?_
    rintro e wE ⟨rfl, hb⟩
    have M2 := M1.below hb
    have LY : OwnsS wE _ (.slice al m cl) D := owns_below LX hb
    clear hb M1 LX
    have cY := M2.c
    have dY := M2.d
    clear cX dX
    cases hT : tabB T with
    | false =>
     have hm0 : m = 0 := by rw [← HM.out, ← HD.out, diff_no1 hT]; rfl
     have hm1 : ((m : Int) == 0) = true := by simp [hm0]
     have hBE := M2.b
     clear hm0
     go_wp2
     go_ret
     exact ⟨rfl, hBE⟩
    | true =>
     go_wp2_with fail
     refine (spec_TableRight U _ _ M2.ou.tab kU).mono ?_
     rintro e wF ⟨rfl, hb⟩
     have M3 := M2.below hb
     have LZ : OwnsS wF _ (.slice al m cl) D := owns_below LY hb
     clear hb M2 LY
     clear cY dY
     cases hU : tabB U with
     | false =>
      have hm0 : m = 0 := by rw [← HM.out, ← HD.out, diff_no2 hU]; rfl
      have hm1 : ((m : Int) == 0) = true := by simp [hm0]
      have hBE := M3.b
      clear hm0
      go_wp2
      go_ret
      exact ⟨rfl, hBE⟩
     | true =>
      by_cases h4 : 400 < m
      ·
       have h4a : (400 : Int) < (m : Int) := by omega
       have h4b : ((m : Int) == 0) = false := by simp; omega
       have hBE := M3.b
       go_wp2
       go_ret
       exact ⟨rfl, hBE⟩
      ·
       have h4a : ¬ (400 : Int) < (m : Int) := by omega
       have HTA : Hid (∀ a : Int, -62135596800 ≤ a → a ≤ 253402300799 → touchD D a a = ((turnAtD T a).offset != (turnAtD U a).offset)) := fun a k1 k2 => by rw [← HD.out]; exact touch_at hT hU (by rw [HD.out, HM.out]; omega) k1 k2
       have HTL : Hid (∀ (k : Nat) (x : TurnD), T[k]? = some x → -62135596800 ≤ x.at_ ∧ x.at_ ≤ 253402300799) := fun k x hx => tab_low hT hx
       have cZ := M3.c
       have dZ := M3.d
       have hnT : nT ≤ 2000 := by have := HNT.out; omega
       clear hT hU h4
       go_wp2
       go_loopw [15, 16] (fun s _ wr => ∃ i : Nat, i ≤ nT ∧ s = .int .i64 i ∧ Below wF.heap.size wF wr) (fun s _ _ => nT - (intOf s).toNat)
       case atStart => exact ⟨0, by omega, rfl, Below.refl _ _⟩
       case round =>
        obtain ⟨wb, hwb⟩ : ∃ x : World, x = wr := ⟨_, rfl⟩
        subst hwb
        obtain ⟨i, hi, rfl, hBr⟩ := hrel
        have M4 := M3.below hBr
        have L0 : OwnsS wb _ (.slice al m cl) D := owns_below LZ hBr
        have c4 := M4.c
        have d4 := M4.d
        clear M3 LZ cZ dZ
        by_cases him : i < nT
        ·
         have q1 : (i : Int) < (nT : Int) := by omega
         have q0 : (0 : Int) ≤ (i : Int) := by omega
         obtain ⟨g, c, t, e1, e2, _, _, k0, _⟩ := M4.ot.get (k := i) (by have := HNT.out; omega)
         injection e1 with e1 j1 j2
         clear j1 j2
         subst e1
         obtain ⟨b1, b2⟩ := HTL.out i t e2
         generalize t.at_ = ta at *
         clear e2
         go_wp2_with fail
         refine wp_region_noPanic ?_
         refine wp_region_held_drew (S := fun w' => w'.cell? ⟨w1.heap.size, 0, none⟩ = some (.slice (some ⟨g, 0, none⟩) nT ct) ∧ w'.cell? ⟨g, i * 4, none⟩ = some (.int .i64 ta)) (by kernel_rfl) ⟨(show wb.drew.cell? ⟨w1.heap.size, 0, none⟩ = _ from c4), (show wb.drew.cell? ⟨g, i * 4, none⟩ = _ from k0)⟩ (fun hHeld => ?_)
         have M5 := M4.below (below_drew _)
         have L1 : OwnsS wb.drew _ (.slice al m cl) D := owns_below L0 (below_drew _)
         clear M4 L0 c4 d4 k0
         refine wpAnyH_take (i := 0) (v := ?v94) rfl (by kernel_rfl) (by kernel_rfl) (by kernel_rfl) (fun _ _ _ h => h) (Or.inl ⟨by kernel_rfl, ?y94⟩) hHeld ?z94
         case y94 => (intro wq hSw; (try dsimp only at hSw); go_simp; try with_reducible rfl)
         try simp only [Act.put, List.setIfInBounds_toArray, List.set_cons_zero, List.set_cons_succ]
         refine wpAnyH_take (i := 1) (v := ?v95) rfl (by kernel_rfl) (by kernel_rfl) (by kernel_rfl) (fun _ _ _ h => h) (Or.inl ⟨by kernel_rfl, ?y95⟩) hHeld ?z95
         case y95 => (intro wq hSw; (try dsimp only at hSw); go_simp; try with_reducible rfl)
         try simp only [Act.put, List.setIfInBounds_toArray, List.set_cons_zero, List.set_cons_succ]
         refine wpAnyH_take (i := 2) (v := ?v96) rfl (by kernel_rfl) (by kernel_rfl) (by kernel_rfl) (fun _ _ _ h => h) (Or.inl ⟨by kernel_rfl, ?y96⟩) hHeld ?z96
         case y96 => (intro wq hSw; (try dsimp only at hSw); go_simp; try with_reducible rfl)
         try simp only [Act.put, List.setIfInBounds_toArray, List.set_cons_zero, List.set_cons_succ]
         refine wpAnyH_take (i := 3) (v := ?v97) rfl (by kernel_rfl) (by kernel_rfl) (by kernel_rfl) (fun _ _ _ h => h) (Or.inl ⟨by kernel_rfl, ?y97⟩) hHeld ?z97
         case y97 => (intro wq hSw; (try dsimp only at hSw); go_simp; try with_reducible rfl)
         try simp only [Act.put, List.setIfInBounds_toArray, List.set_cons_zero, List.set_cons_succ]
         refine wpAnyH_take (i := 4) (v := ?v98) rfl (by kernel_rfl) (by kernel_rfl) (by kernel_rfl) (fun _ _ _ h => h) (Or.inl ⟨by kernel_rfl, ?y98⟩) hHeld ?z98
         case y98 => (intro wq hSw; (try dsimp only at hSw); go_simp; try with_reducible rfl)
         try simp only [Act.put, List.setIfInBounds_toArray, List.set_cons_zero, List.set_cons_succ]
         refine wpAnyH_take (i := 5) (v := ?v99) rfl (by kernel_rfl) (by kernel_rfl) (by kernel_rfl) (fun _ _ _ h => h) (Or.inl ⟨by kernel_rfl, ?y99⟩) hHeld ?z99
         case y99 => (intro wq hSw; (try dsimp only at hSw); go_simp; try with_reducible rfl)
         try simp only [Act.put, List.setIfInBounds_toArray, List.set_cons_zero, List.set_cons_succ]
         refine wpAnyH_take (i := 6) (v := ?v100) rfl (by kernel_rfl) (by kernel_rfl) (by kernel_rfl) (fun _ _ _ h => h) (Or.inl ⟨by kernel_rfl, ?y100⟩) hHeld ?z100
         case y100 => (intro wq hSw; (try dsimp only at hSw); go_simp; try with_reducible rfl)
         try simp only [Act.put, List.setIfInBounds_toArray, List.set_cons_zero, List.set_cons_succ]
         refine wpAnyH_ready (rs := [7]) (by kernel_rfl) (by simp) ?_
         refine AllReadyH.cons rfl (fun K hK => ?_) AllReadyH.nil
         go_simp
         refine (laws_lwAt a1 len1 cap1 _ M5.r h1).mono ?_
         rintro e wG ⟨x, rfl, x0, x1, hb⟩
         have hH2 : (fun w' => w'.cell? ⟨w1.heap.size, 0, none⟩ = some (.slice (some ⟨g, 0, none⟩) nT ct) ∧ w'.cell? ⟨g, i * 4, none⟩ = some (.int .i64 ta)) wG := ⟨keepC hb hHeld.1, keepC hb hHeld.2⟩
         have M6 := M5.below hb
         have L2 : OwnsS wG _ (.slice al m cl) D := owns_below L1 hb
         have qa : IntKind.i64.wrap (ta - x) = ta - x := by rw [IntKind.wrap_i64]; omega
         have hBG : Below wF.heap.size wF wG := (hBr.trans ((below_drew wb).mono hBr.size)).trans (hb.mono hBr.size)
         clear hb M5 L1 hBr
         go_wp2_with fail
         refine hK.out _ _ hH2 (fun hHeld => ?_)
         clear hK K hH2
         try simp only [Act.put, List.setIfInBounds_toArray, List.set_cons_zero, List.set_cons_succ]
         refine wpAnyH_take (i := 8) (v := ?v101) rfl (by kernel_rfl) (by kernel_rfl) (by kernel_rfl) (fun _ _ _ h => h) (Or.inl ⟨by kernel_rfl, ?y101⟩) hHeld ?z101
         case y101 => (intro wq hSw; (try dsimp only at hSw); go_simp; try with_reducible rfl)
         try simp only [Act.put, List.setIfInBounds_toArray, List.set_cons_zero, List.set_cons_succ]
         refine wpAnyH_take (i := 9) (v := ?v102) rfl (by kernel_rfl) (by kernel_rfl) (by kernel_rfl) (fun _ _ _ h => h) (Or.inl ⟨by kernel_rfl, ?y102⟩) hHeld ?z102
         case y102 => (intro wq hSw; (try dsimp only at hSw); go_simp; try with_reducible rfl)
         try simp only [Act.put, List.setIfInBounds_toArray, List.set_cons_zero, List.set_cons_succ]
         try simp only [Act.put, List.getElem_toArray, List.getElem_cons_succ, List.getElem_cons_zero, List.setIfInBounds_toArray, List.set_cons_zero, List.set_cons_succ]
         refine wpAnyH_done (by kernel_rfl) ?_ _
         refine NoPanic.normal ?_
         clear hHeld
         obtain ⟨at_, hat⟩ : ∃ y, ta - x = y := ⟨_, rfl⟩
         have hat2 : at_ ≤ 253402300799 := by omega
         try rw [hat]
         clear qa hat
         by_cases hge : -62135596800 ≤ at_
         ·
          have htb := HTA.out at_ hge hat2
          have c5 := M6.c
          have d5 := M6.d
          obtain ⟨tA, htA⟩ : ∃ y, turnAtD T at_ = y := ⟨_, rfl⟩
          obtain ⟨tB, htB⟩ : ∃ y, turnAtD U at_ = y := ⟨_, rfl⟩
          rw [htA, htB] at htb
          have hTo : ∀ w B, OwnsS w B (.slice al m cl) D → Calls Tryz.prog 10 #[.slice al m cl, .int .i64 at_, .int .i64 at_] w (fun e w' => e = .returned (.bool (tA.offset != tB.offset)) ∧ Below w.heap.size w w') := fun w B h => by have := own_touched h HM.out (by omega) at_ at_; rw [htb] at this; exact this
          have hA : ∀ w, TabAt w (.agg #[(.slice (some ⟨g, 0, none⟩) nT ct)]) T → Calls Tryz.prog 13 #[.agg #[(.slice (some ⟨g, 0, none⟩) nT ct)], .int .i64 at_] w (fun e w' => e = .returned tA.v ∧ Below w.heap.size w w') := fun w h => by have := impl_TurnAt T _ at_ w h kT (by have := HNT.out; omega); rw [htA] at this; exact this
          have hB : ∀ w, TabAt w (.agg #[(.slice bu nU cu)]) U → Calls Tryz.prog 13 #[.agg #[(.slice bu nU cu)], .int .i64 at_] w (fun e w' => e = .returned tB.v ∧ Below w.heap.size w w') := fun w h => by have := impl_TurnAt U _ at_ w h kU (by have := HNU.out; omega); rw [htB] at this; exact this
          obtain ⟨pa, oa, sa, ba⟩ := tA
          obtain ⟨pb, ob, sb, bb⟩ := tB
          simp only [TurnD.v] at hTo hA hB
          clear htA htB htb hat2
          have hfa : ∀ w : World, (Instr.field 38 (.agg #[.int .i64 pa, .int .i64 oa, .int .i64 sa, .string ba]) 1).run Tryz.prog w = .ok (.int .i64 oa) w := fun _ => by kernel_rfl
          have hfb : ∀ w : World, (Instr.field 38 (.agg #[.int .i64 pb, .int .i64 ob, .int .i64 sb, .string bb]) 1).run Tryz.prog w = .ok (.int .i64 ob) w := fun _ => by kernel_rfl
          go_wp2_with fail
          refine wp_region_noPanic ?_
          refine wp_region_held_drew (S := fun w' => w'.cell? ⟨w1.heap.size, 0, none⟩ = some (.slice (some ⟨g, 0, none⟩) nT ct) ∧ w'.cell? ⟨w1.heap.size + 1, 0, none⟩ = some (.slice bu nU cu)) (by kernel_rfl) ⟨(show wG.drew.cell? ⟨w1.heap.size, 0, none⟩ = _ from c5), (show wG.drew.cell? ⟨w1.heap.size + 1, 0, none⟩ = _ from d5)⟩ (fun hHeld => ?_)
          have M7 := M6.below (below_drew _)
          have L3 : OwnsS wG.drew _ (.slice al m cl) D := owns_below L2 (below_drew _)
          have hB7 : Below wF.heap.size wF wG.drew := hBG.trans ((below_drew wG).mono hBG.size)
          clear M6 L2 c5 d5 hBG
          refine wpAnyH_take (i := 0) (v := ?v103) rfl (by kernel_rfl) (by kernel_rfl) (by kernel_rfl) (fun _ _ _ h => h) (Or.inl ⟨by kernel_rfl, ?y103⟩) hHeld ?z103
          case y103 => (intro wq hSw; (try dsimp only at hSw); go_simp; try with_reducible rfl)
          try simp only [Act.put, List.setIfInBounds_toArray, List.set_cons_zero, List.set_cons_succ]
          refine wpAnyH_take (i := 1) (v := .bool true) rfl (by kernel_rfl) (by kernel_rfl) (by kernel_rfl) (fun _ _ _ h => h) (Or.inl ⟨by kernel_rfl, ?y104⟩) hHeld ?z104
          case y104 => (intro wq hSw; (try dsimp only at hSw); go_simp)
          try simp only [Act.put, List.setIfInBounds_toArray, List.set_cons_zero, List.set_cons_succ]
          refine wpAnyH_take (i := 2) (v := .bool true) rfl (by kernel_rfl) (by kernel_rfl) (by kernel_rfl) (fun _ _ _ h => h) (Or.inl ⟨by kernel_rfl, ?y105⟩) hHeld ?z105
          case y105 => (intro wq hSw; (try dsimp only at hSw); go_simp)
          try simp only [Act.put, List.setIfInBounds_toArray, List.set_cons_zero, List.set_cons_succ]
          refine wpAnyH_take (i := 3) (v := ?v106) rfl (by kernel_rfl) (by kernel_rfl) (by kernel_rfl) (fun _ _ _ h => h) (Or.inl ⟨by kernel_rfl, ?y106⟩) hHeld ?z106
          case y106 => (intro wq hSw; (try dsimp only at hSw); go_simp; try with_reducible rfl)
          try simp only [Act.put, List.setIfInBounds_toArray, List.set_cons_zero, List.set_cons_succ]
          refine wpAnyH_take (i := 4) (v := ?v107) rfl (by kernel_rfl) (by kernel_rfl) (by kernel_rfl) (fun _ _ _ h => h) (Or.inl ⟨by kernel_rfl, ?y107⟩) hHeld ?z107
          case y107 => (intro wq hSw; (try dsimp only at hSw); go_simp; try with_reducible rfl)
          try simp only [Act.put, List.setIfInBounds_toArray, List.set_cons_zero, List.set_cons_succ]
          refine wpAnyH_take (i := 5) (v := ?v108) rfl (by kernel_rfl) (by kernel_rfl) (by kernel_rfl) (fun _ _ _ h => h) (Or.inl ⟨by kernel_rfl, ?y108⟩) hHeld ?z108
          case y108 => (intro wq hSw; (try dsimp only at hSw); go_simp; try with_reducible rfl)
          try simp only [Act.put, List.setIfInBounds_toArray, List.set_cons_zero, List.set_cons_succ]
          refine wpAnyH_take (i := 7) (v := ?v109) rfl (by kernel_rfl) (by kernel_rfl) (by kernel_rfl) (fun _ _ _ h => h) (Or.inl ⟨by kernel_rfl, ?y109⟩) hHeld ?z109
          case y109 => (intro wq hSw; (try dsimp only at hSw); go_simp; try with_reducible rfl)
          try simp only [Act.put, List.setIfInBounds_toArray, List.set_cons_zero, List.set_cons_succ]
          refine wpAnyH_take (i := 8) (v := ?v110) rfl (by kernel_rfl) (by kernel_rfl) (by kernel_rfl) (fun _ _ _ h => h) (Or.inl ⟨by kernel_rfl, ?y110⟩) hHeld ?z110
          case y110 => (intro wq hSw; (try dsimp only at hSw); go_simp; try with_reducible rfl)
          try simp only [Act.put, List.setIfInBounds_toArray, List.set_cons_zero, List.set_cons_succ]
          refine wpAnyH_take (i := 11) (v := ?v111) rfl (by kernel_rfl) (by kernel_rfl) (by kernel_rfl) (fun _ _ _ h => h) (Or.inl ⟨by kernel_rfl, ?y111⟩) hHeld ?z111
          case y111 => (intro wq hSw; (try dsimp only at hSw); go_simp; try with_reducible rfl)
          try simp only [Act.put, List.setIfInBounds_toArray, List.set_cons_zero, List.set_cons_succ]
          refine wpAnyH_take (i := 12) (v := ?v112) rfl (by kernel_rfl) (by kernel_rfl) (by kernel_rfl) (fun _ _ _ h => h) (Or.inl ⟨by kernel_rfl, ?y112⟩) hHeld ?z112
          case y112 => (intro wq hSw; (try dsimp only at hSw); go_simp; try with_reducible rfl)
          try simp only [Act.put, List.setIfInBounds_toArray, List.set_cons_zero, List.set_cons_succ]
          refine wpAnyH_ready (rs := [6]) (by kernel_rfl) (by simp) ?_
          refine AllReadyH.cons rfl (fun K hK => ?_) AllReadyH.nil
          go_simp
          refine (hTo _ _ L3).mono ?_
          rintro e wH ⟨rfl, hb⟩
          have hH2 : (fun w' => w'.cell? ⟨w1.heap.size, 0, none⟩ = some (.slice (some ⟨g, 0, none⟩) nT ct) ∧ w'.cell? ⟨w1.heap.size + 1, 0, none⟩ = some (.slice bu nU cu)) wH := ⟨keepC hb hHeld.1, keepC hb hHeld.2⟩
          have M8 := M7.below hb
          have L4 : OwnsS wH _ (.slice al m cl) D := owns_below L3 hb
          have hB8 : Below wF.heap.size wF wH := hB7.trans (hb.mono hB7.size)
          clear hb M7 L3 hB7
          go_wp2_with fail
          refine hK.out _ _ hH2 (fun hHeld => ?_)
          clear hK K hH2
          try simp only [Act.put, List.setIfInBounds_toArray, List.set_cons_zero, List.set_cons_succ]
          refine wpAnyH_ready (rs := [9]) (by kernel_rfl) (by simp) ?_
          refine AllReadyH.cons rfl (fun K hK => ?_) AllReadyH.nil
          go_simp
          refine (hA _ M8.ot.tab).mono ?_
          rintro e wI ⟨rfl, hb⟩
          have hH2 : (fun w' => w'.cell? ⟨w1.heap.size, 0, none⟩ = some (.slice (some ⟨g, 0, none⟩) nT ct) ∧ w'.cell? ⟨w1.heap.size + 1, 0, none⟩ = some (.slice bu nU cu)) wI := ⟨keepC hb hHeld.1, keepC hb hHeld.2⟩
          have M9 := M8.below hb
          have L5 : OwnsS wI _ (.slice al m cl) D := owns_below L4 hb
          have hB9 : Below wF.heap.size wF wI := hB8.trans (hb.mono hB8.size)
          clear hb M8 L4 hB8
          go_wp2_with fail
          refine hK.out _ _ hH2 (fun hHeld => ?_)
          clear hK K hH2
          try simp only [Act.put, List.setIfInBounds_toArray, List.set_cons_zero, List.set_cons_succ]
          refine wpAnyH_take (i := 10) (v := .int .i64 oa) rfl (by kernel_rfl) (by kernel_rfl) (by kernel_rfl) (fun _ _ _ h => h) (Or.inl ⟨by kernel_rfl, ?y113⟩) hHeld ?z113
          case y113 => (intro wq hSw; (try dsimp only at hSw); go_simp)
          try simp only [Act.put, List.setIfInBounds_toArray, List.set_cons_zero, List.set_cons_succ]
          refine wpAnyH_ready (rs := [13]) (by kernel_rfl) (by simp) ?_
          refine AllReadyH.cons rfl (fun K hK => ?_) AllReadyH.nil
          go_simp
          refine (hB _ M9.ou.tab).mono ?_
          rintro e wJ ⟨rfl, hb⟩
          have hH2 : (fun w' => w'.cell? ⟨w1.heap.size, 0, none⟩ = some (.slice (some ⟨g, 0, none⟩) nT ct) ∧ w'.cell? ⟨w1.heap.size + 1, 0, none⟩ = some (.slice bu nU cu)) wJ := ⟨keepC hb hHeld.1, keepC hb hHeld.2⟩
          have M10 := M9.below hb
          have L6 : OwnsS wJ _ (.slice al m cl) D := owns_below L5 hb
          have hB10 : Below wF.heap.size wF wJ := hB9.trans (hb.mono hB9.size)
          clear hb M9 L5 hB9
          go_wp2_with fail
          refine hK.out _ _ hH2 (fun hHeld => ?_)
          clear hK K hH2
          try simp only [Act.put, List.setIfInBounds_toArray, List.set_cons_zero, List.set_cons_succ]
          refine wpAnyH_take (i := 14) (v := .int .i64 ob) rfl (by kernel_rfl) (by kernel_rfl) (by kernel_rfl) (fun _ _ _ h => h) (Or.inl ⟨by kernel_rfl, ?y114⟩) hHeld ?z114
          case y114 => (intro wq hSw; (try dsimp only at hSw); go_simp)
          try simp only [Act.put, List.setIfInBounds_toArray, List.set_cons_zero, List.set_cons_succ]
          refine wpAnyH_take (i := 15) (v := .bool (oa != ob)) rfl (by kernel_rfl) (by kernel_rfl) (by kernel_rfl) (fun _ _ _ h => h) (Or.inl ⟨by kernel_rfl, ?y115⟩) hHeld ?z115
          case y115 => (intro wq hSw; (try dsimp only at hSw); go_simp)
          try simp only [Act.put, List.setIfInBounds_toArray, List.set_cons_zero, List.set_cons_succ]
          refine wpAnyH_take (i := 16) (v := .bool false) rfl (by kernel_rfl) (by kernel_rfl) (by kernel_rfl) (fun _ _ _ h => h) (Or.inl ⟨by kernel_rfl, ?y116⟩) hHeld ?z116
          case y116 => (intro wq hSw; (try dsimp only at hSw); go_simp)
          try simp only [Act.put, List.setIfInBounds_toArray, List.set_cons_zero, List.set_cons_succ]
          refine wpAnyH_take (i := 17) (v := .bool false) rfl (by kernel_rfl) (by kernel_rfl) (by kernel_rfl) (fun _ _ _ h => h) (Or.inl ⟨by kernel_rfl, ?y117⟩) hHeld ?z117
          case y117 => (intro wq hSw; (try dsimp only at hSw); go_simp)
          try simp only [Act.put, List.setIfInBounds_toArray, List.set_cons_zero, List.set_cons_succ]
          try simp only [Act.put, List.getElem_toArray, List.getElem_cons_succ, List.getElem_cons_zero, List.setIfInBounds_toArray, List.set_cons_zero, List.set_cons_succ]
          refine wpAnyH_done (by kernel_rfl) ?_ _
          refine NoPanic.normal ?_
          clear hHeld
          clear hTo hA hB hfa hfb
          go_wp2
          go_roundw
          case rel => exact ⟨i + 1, by omega, by go_num, hB10⟩
          case measure => simp [intOf]; omega
         ·
          have c5 := M6.c
          have d5 := M6.d
          go_wp2_with fail
          refine wp_region_noPanic ?_
          refine wp_region_held_drew (S := fun w' => w'.cell? ⟨w1.heap.size, 0, none⟩ = some (.slice (some ⟨g, 0, none⟩) nT ct) ∧ w'.cell? ⟨w1.heap.size + 1, 0, none⟩ = some (.slice bu nU cu)) (by kernel_rfl) ⟨(show wG.drew.cell? ⟨w1.heap.size, 0, none⟩ = _ from c5), (show wG.drew.cell? ⟨w1.heap.size + 1, 0, none⟩ = _ from d5)⟩ (fun hHeld => ?_)
          have hB7 : Below wF.heap.size wF wG.drew := hBG.trans ((below_drew wG).mono hBG.size)
          clear M6 L2 c5 d5 hBG
          refine wpAnyH_take (i := 0) (v := ?v118) rfl (by kernel_rfl) (by kernel_rfl) (by kernel_rfl) (fun _ _ _ h => h) (Or.inl ⟨by kernel_rfl, ?y118⟩) hHeld ?z118
          case y118 => (intro wq hSw; (try dsimp only at hSw); go_simp; try with_reducible rfl)
          try simp only [Act.put, List.setIfInBounds_toArray, List.set_cons_zero, List.set_cons_succ]
          refine wpAnyH_take (i := 1) (v := .bool false) rfl (by kernel_rfl) (by kernel_rfl) (by kernel_rfl) (fun _ _ _ h => h) (Or.inl ⟨by kernel_rfl, ?y119⟩) hHeld ?z119
          case y119 => (intro wq hSw; (try dsimp only at hSw); go_simp)
          try simp only [Act.put, List.setIfInBounds_toArray, List.set_cons_zero, List.set_cons_succ]
          refine wpAnyH_take (i := 2) (v := .bool false) rfl (by kernel_rfl) (by kernel_rfl) (by kernel_rfl) (fun _ _ _ h => h) (Or.inl ⟨by kernel_rfl, ?y120⟩) hHeld ?z120
          case y120 => (intro wq hSw; (try dsimp only at hSw); go_simp)
          try simp only [Act.put, List.setIfInBounds_toArray, List.set_cons_zero, List.set_cons_succ]
          refine wpAnyH_take (i := 3) (v := undef) rfl (by kernel_rfl) (by kernel_rfl) (by kernel_rfl) (fun _ _ _ h => h) (Or.inr ⟨by kernel_rfl, rfl⟩) hHeld ?z121
          try simp only [Act.put, List.setIfInBounds_toArray, List.set_cons_zero, List.set_cons_succ]
          refine wpAnyH_take (i := 4) (v := undef) rfl (by kernel_rfl) (by kernel_rfl) (by kernel_rfl) (fun _ _ _ h => h) (Or.inr ⟨by kernel_rfl, rfl⟩) hHeld ?z122
          try simp only [Act.put, List.setIfInBounds_toArray, List.set_cons_zero, List.set_cons_succ]
          refine wpAnyH_take (i := 5) (v := undef) rfl (by kernel_rfl) (by kernel_rfl) (by kernel_rfl) (fun _ _ _ h => h) (Or.inr ⟨by kernel_rfl, rfl⟩) hHeld ?z123
          try simp only [Act.put, List.setIfInBounds_toArray, List.set_cons_zero, List.set_cons_succ]
          refine wpAnyH_take (i := 6) (v := undef) rfl (by kernel_rfl) (by kernel_rfl) (by kernel_rfl) (fun _ _ _ h => h) (Or.inr ⟨by kernel_rfl, rfl⟩) hHeld ?z124
          try simp only [Act.put, List.setIfInBounds_toArray, List.set_cons_zero, List.set_cons_succ]
          refine wpAnyH_take (i := 7) (v := undef) rfl (by kernel_rfl) (by kernel_rfl) (by kernel_rfl) (fun _ _ _ h => h) (Or.inr ⟨by kernel_rfl, rfl⟩) hHeld ?z125
          try simp only [Act.put, List.setIfInBounds_toArray, List.set_cons_zero, List.set_cons_succ]
          refine wpAnyH_take (i := 8) (v := undef) rfl (by kernel_rfl) (by kernel_rfl) (by kernel_rfl) (fun _ _ _ h => h) (Or.inr ⟨by kernel_rfl, rfl⟩) hHeld ?z126
          try simp only [Act.put, List.setIfInBounds_toArray, List.set_cons_zero, List.set_cons_succ]
          refine wpAnyH_take (i := 9) (v := undef) rfl (by kernel_rfl) (by kernel_rfl) (by kernel_rfl) (fun _ _ _ h => h) (Or.inr ⟨by kernel_rfl, rfl⟩) hHeld ?z127
          try simp only [Act.put, List.setIfInBounds_toArray, List.set_cons_zero, List.set_cons_succ]
          refine wpAnyH_take (i := 10) (v := undef) rfl (by kernel_rfl) (by kernel_rfl) (by kernel_rfl) (fun _ _ _ h => h) (Or.inr ⟨by kernel_rfl, rfl⟩) hHeld ?z128
          try simp only [Act.put, List.setIfInBounds_toArray, List.set_cons_zero, List.set_cons_succ]
          refine wpAnyH_take (i := 11) (v := undef) rfl (by kernel_rfl) (by kernel_rfl) (by kernel_rfl) (fun _ _ _ h => h) (Or.inr ⟨by kernel_rfl, rfl⟩) hHeld ?z129
          try simp only [Act.put, List.setIfInBounds_toArray, List.set_cons_zero, List.set_cons_succ]
          refine wpAnyH_take (i := 12) (v := undef) rfl (by kernel_rfl) (by kernel_rfl) (by kernel_rfl) (fun _ _ _ h => h) (Or.inr ⟨by kernel_rfl, rfl⟩) hHeld ?z130
          try simp only [Act.put, List.setIfInBounds_toArray, List.set_cons_zero, List.set_cons_succ]
          refine wpAnyH_take (i := 13) (v := undef) rfl (by kernel_rfl) (by kernel_rfl) (by kernel_rfl) (fun _ _ _ h => h) (Or.inr ⟨by kernel_rfl, rfl⟩) hHeld ?z131
          try simp only [Act.put, List.setIfInBounds_toArray, List.set_cons_zero, List.set_cons_succ]
          refine wpAnyH_take (i := 14) (v := undef) rfl (by kernel_rfl) (by kernel_rfl) (by kernel_rfl) (fun _ _ _ h => h) (Or.inr ⟨by kernel_rfl, rfl⟩) hHeld ?z132
          try simp only [Act.put, List.setIfInBounds_toArray, List.set_cons_zero, List.set_cons_succ]
          refine wpAnyH_take (i := 15) (v := undef) rfl (by kernel_rfl) (by kernel_rfl) (by kernel_rfl) (fun _ _ _ h => h) (Or.inr ⟨by kernel_rfl, rfl⟩) hHeld ?z133
          try simp only [Act.put, List.setIfInBounds_toArray, List.set_cons_zero, List.set_cons_succ]
          refine wpAnyH_take (i := 16) (v := undef) rfl (by kernel_rfl) (by kernel_rfl) (by kernel_rfl) (fun _ _ _ h => h) (Or.inr ⟨by kernel_rfl, rfl⟩) hHeld ?z134
          try simp only [Act.put, List.setIfInBounds_toArray, List.set_cons_zero, List.set_cons_succ]
          refine wpAnyH_take (i := 17) (v := .bool false) rfl (by kernel_rfl) (by kernel_rfl) (by kernel_rfl) (fun _ _ _ h => h) (Or.inl ⟨by kernel_rfl, ?y135⟩) hHeld ?z135
          case y135 => (intro wq hSw; (try dsimp only at hSw); go_simp)
          try simp only [Act.put, List.setIfInBounds_toArray, List.set_cons_zero, List.set_cons_succ]
          try simp only [Act.put, List.getElem_toArray, List.getElem_cons_succ, List.getElem_cons_zero, List.setIfInBounds_toArray, List.set_cons_zero, List.set_cons_succ]
          refine wpAnyH_done (by kernel_rfl) ?_ _
          refine NoPanic.normal ?_
          clear hHeld
          go_wp2
          go_roundw
          case rel => exact ⟨i + 1, by omega, by go_num, hB7⟩
          case measure => simp [intOf]; omega
        ·
         have him1 : ¬ (i : Int) < (nT : Int) := by omega
         go_wp2_with fail
         refine (draw_Touched a1 len1 cap1 _ M4.r h1).mono ?_
         intro e wK hd
         obtain ⟨sv, P, f, t, rfl, OP, lP, hb⟩ := hd.ex
         have M5 := M4.below hb
         clear hd hb M4 L0 c4 d4 hBr
         obtain ⟨np, hnp⟩ : ∃ n, P.length = n := ⟨_, rfl⟩
         have OP : OwnsS wK _ sv P := OP
         obtain ⟨ap, cp, rfl⟩ : ∃ b c, sv = .slice b np c := by obtain ⟨b, c, h, _⟩ := OP.seq; exact ⟨b, c, by rw [h, hnp]⟩
         have HNP : Hid (P.length = np) := hnp
         rw [hnp] at lP
         clear hnp
         go_wp2_with fail
         refine (own_touched OP HNP.out (by omega) f t).mono ?_
         rintro e wL ⟨rfl, hb⟩
         have OQ : OwnsS wL _ (.slice ap np cp) P := owns_below OP hb
         have M6 := M5.below hb
         clear hb OP M5
         go_wp2_with fail
         refine (own_touchedS OQ HNP.out (by omega) f t).mono ?_
         rintro e wM ⟨rfl, hb⟩
         have hBE := (M6.below hb).b
         clear hb OQ M6
         generalize touchD P f t = tb
         have htt : (tb == tb) = true := by simp
         go_wp2
         go_ret
         exact ⟨rfl, hBE⟩
end Go.Proofs.YtcelbkmnbjcjhaaGreat
namespace Go.Proofs.YtcelbkmnbjcjhaaGreat.diffL
open Go.RowKit

set_option maxRecDepth 100000 in
set_option maxHeartbeats 1000000 in
theorem walk (a0 : Option Addr) (len0 cap0 : Nat) (a1 : Option Addr) (len1 cap1 : Nat) (w : World) (r0 : RowOf w a0 len0) (r1 : RowOf w a1 len1) :
  Calls Tryz.prog 3 #[.slice a0 len0 cap0, .slice a1 len1 cap1] w fun e w' => e = .returned (.bool true) ∧ Below w.heap.size w w' := by
 by_cases h0 : 1048576 < len0
 ·
  have g0 : (1048576 : Int) < (len0 : Int) := by omega
  clear h0 r0 r1
  go_enter Tryz.func3, Tryz.ntmps3
  go_wp2
  go_ret
  exact ⟨rfl, Below.refl _ _⟩
 by_cases h1 : 1048576 < len1
 ·
  have g0 : ¬ (1048576 : Int) < (len0 : Int) := by omega
  have g1 : (1048576 : Int) < (len1 : Int) := by omega
  clear h0 h1 r0 r1
  go_enter Tryz.func3, Tryz.ntmps3
  go_wp2
  go_ret
  exact ⟨rfl, Below.refl _ _⟩
 exact diff_walk a0 len0 cap0 a1 len1 cap1 w (by omega) (by omega) r0 r1
end Go.Proofs.YtcelbkmnbjcjhaaGreat.diffL
