/- Packed: Hk2 WHaps. -/
import Derived.Test.YtcelbkmnbjcjhaaGreatDoorHkPh
import Derived.Test.YtcelbkmnbjcjhaaGreatDoorRl4h
import Derived.Test.YtcelbkmnbjcjhaaGreatDoorAbbrPh
namespace Go.Proofs.YtcelbkmnbjcjhaaGreatDoor
open Go.RowKit

structure HM (br : Nat) (rv zv lv : Value) (R : RelD) (a1 : Option Addr) (len1 : Nat) (w wx : World) : Prop where
 c0 : wx.cell? ⟨br, 0, none⟩ = some rv
 c1 : wx.cell? ⟨br, 1, none⟩ = some zv
 c2 : wx.cell? ⟨br, 2, none⟩ = some lv
 g : RelG wx (.agg #[rv, zv, lv]) R
 r : RowOf wx a1 len1
 b : Below w.heap.size w wx
 e : EnvZ wx
theorem HM.below {br : Nat} {rv zv lv : Value} {R : RelD} {a1 : Option Addr} {len1 : Nat} {w wx wy : World} (h : HM br rv zv lv R a1 len1 w wx) (hb : Below wx.heap.size wx wy) : HM br rv zv lv R a1 len1 w wy :=
 ⟨keepC hb h.c0, keepC hb h.c1, keepC hb h.c2, h.g.below hb, h.r.grown hb, h.b.trans (hb.mono h.b.size), h.e.of_below hb⟩
set_option linter.unusedSimpArgs false in
set_option maxRecDepth 100000 in
set_option maxHeartbeats 8000000 in
theorem haps_walk (a0 : Option Addr) (len0 cap0 : Nat) (a1 : Option Addr) (len1 cap1 : Nat) (w : World) (h0 : len0 ≤ 1048576) (h1 : len1 ≤ 1048576) (r0 : RowOf w a0 len0) (r1 : RowOf w a1 len1) (hEnv : EnvZ w) :
  Calls Tryz.prog 3 #[.slice a0 len0 cap0, .slice a1 len1 cap1] w fun e w' => e = .returned (.bool true) ∧ Below w.heap.size w w' := by
 have g0 : ¬ (1048576 : Int) < (len0 : Int) := by omega
 have g1 : ¬ (1048576 : Int) < (len1 : Int) := by omega
 have hneq := fun t s b w => neq_hapF t s b w
 have hgo := fun op x y v1 v2 w => guard_hapF op x y v1 v2 w
 go_enter Tryz.func3, Tryz.ntmps3
 go_wp2_with fail
 refine (draw_HapsOf a0 len0 cap0 _ r0 h0).mono ?_
 intro e w1 hd
 obtain ⟨rv, zv, lv, R, evs, nm, off, rfl, L1, hnm, f1, f2, B1⟩ := hd.ex
 clear hd r0
 obtain ⟨ra, cr, nr, rfl⟩ : ∃ b c n, rv = .slice b n c := by obtain ⟨b, c, h⟩ := own_shape L1.rr; exact ⟨b, c, _, h⟩
 obtain ⟨za, cz, nz, rfl⟩ : ∃ b c n, zv = .slice b n c := by obtain ⟨b, c, h⟩ := own_shape L1.zz; exact ⟨b, c, _, h⟩
 obtain ⟨la, cl, nl, rfl⟩ : ∃ b c n, lv = .slice b n c := by obtain ⟨b, c, h⟩ := own_shape L1.ll; exact ⟨b, c, _, h⟩
 have b2 : Below w1.heap.size w1 (w1.alloc (.cells #[.slice ra nr cr, .slice za nz cz, .slice la nl cl] 27)) := (Below.refl _ _).alloc (Nat.le_refl _) _
 have M2 : HM w1.heap.size (.slice ra nr cr) (.slice za nz cz) (.slice la nl cl) R a1 len1 w (w1.alloc (.cells #[.slice ra nr cr, .slice za nz cz, .slice la nl cl] 27)) := ⟨by simp [go_sem], by simp [go_sem], by simp [go_sem], L1.good.below b2, (r1.grown B1).grown b2, B1.trans (b2.mono B1.size), (hEnv.of_below B1).of_below b2⟩
 have hnm' : nm.size ≤ maxLen := by unfold maxLen; omega
 clear L1 b2 B1 r1 hEnv
 obtain ⟨n, hn⟩ : ∃ n, (hapsD R nm off).length = n := ⟨_, rfl⟩
 have HN : Hid ((hapsD R nm off).length = n) := hn
 have hn2 : n ≤ 2000 := hn ▸ hapsD_len R nm off
 clear hn
 have HLo : Hid (∀ h ∈ hapsD R nm off, -200000000000 ≤ h.at_ ∧ h.at_ ≤ 253402300799) := hapsD_low
 have HHr : Hid (off ≤ 82800 → (hapsD R nm off).length = (hapsD R nm (off + 3600)).length ∧ ∀ (i : Nat) a b, (hapsD R nm off)[i]? = some a → (hapsD R nm (off + 3600))[i]? = some b → hourB a b) := fun h => hapsD_hour f1 h
 go_wp2_with fail
 refine (impl_HapsD R _ nm off _ M2.e M2.g.at_ M2.g.ok M2.g.small M2.g.on hnm').mono ?_
 rintro e w3 ⟨v3, rfl, O3, hb⟩
 have M3 := M2.below hb
 clear M2 hb
 obtain ⟨l3, d3, rfl⟩ : ∃ a c, v3 = .slice a n c := by obtain ⟨a, c, h⟩ := O3.sl; exact ⟨a, c, by rw [h, HN.out]⟩
 have c0 := M3.c0
 have c1 := M3.c1
 have c2 := M3.c2
 go_wp2_with fail
 refine (spec_HapsD R _ nm off _ M3.g.at_ M3.g.ok M3.g.small M3.g.on hnm').mono ?_
 rintro e w4 ⟨v4, rfl, O4, hb⟩
 have M4 := M3.below hb
 have P3 : OwnsH w4 _ (.slice l3 n d3) (hapsD R nm off) := owns_below O3 hb
 clear M3 hb c0 c1 c2 O3
 obtain ⟨l4, d4, rfl⟩ : ∃ a c, v4 = .slice a n c := by obtain ⟨a, c, h⟩ := O4.sl; exact ⟨a, c, by rw [h, HN.out]⟩
 go_wp2_with fail
 refine (draw_AbbrOf a1 len1 cap1 _ M4.r h1).mono ?_
 intro e w5 hd
 obtain ⟨f, c, s, rfl, zf, zc, hb⟩ := hd.ex
 have M5 := M4.below hb
 have P5 : OwnsH w5 _ (.slice l3 n d3) (hapsD R nm off) := owns_below P3 hb
 have Q5 : OwnsH w5 _ (.slice l4 n d4) (hapsD R nm off) := owns_below O4 hb
 clear hd hb M4 P3 O4
 have hnn : ((n : Int) != (n : Int)) = false := by simp
 go_wp2_with fail
 refine (impl_AbbrOf f c s _ M5.e.2 (by omega) (by omega)).mono ?_
 rintro e w6 ⟨rfl, hb⟩
 have M6 := M5.below hb
 have P6 : OwnsH w6 _ (.slice l3 n d3) (hapsD R nm off) := owns_below P5 hb
 have Q6 : OwnsH w6 _ (.slice l4 n d4) (hapsD R nm off) := owns_below Q5 hb
 clear hb M5 P5 Q5
 go_wp2_with fail
 refine (spec_AbbrOf f c s _ (by omega) (by omega)).mono ?_
 rintro e w7 ⟨rfl, hb⟩
 have M7 := M6.below hb
 have P7 : OwnsH w7 _ (.slice l3 n d3) (hapsD R nm off) := owns_below P6 hb
 have Q7 : OwnsH w7 _ (.slice l4 n d4) (hapsD R nm off) := owns_below Q6 hb
 clear hb M6 P6 Q6
 generalize abbrD f c s = ab at *
 go_wp2
 go_loopw [13] (fun s wr => ∃ i : Nat, i ≤ n ∧ s = .int .i64 i ∧ Below w7.heap.size w7 wr) (fun s _ => n - (intOf s).toNat)
 case atStart => exact ⟨0, by omega, rfl, Below.refl _ _⟩
 case round =>
  obtain ⟨wa, hwa⟩ : ∃ x : World, x = wr := ⟨_, rfl⟩
  subst hwa
  obtain ⟨i, hi, rfl, hBr⟩ := hrel
  have M8 := M7.below hBr
  have P8 : OwnsH wa _ (.slice l3 n d3) (hapsD R nm off) := owns_below P7 hBr
  have Q8 : OwnsH wa _ (.slice l4 n d4) (hapsD R nm off) := owns_below Q7 hBr
  clear M7 P7 Q7
  by_cases him : i < n
  ·
   have q1 : (i : Int) < (n : Int) := by omega
   have q0 : (0 : Int) ≤ (i : Int) := by omega
   obtain ⟨x, hx⟩ : ∃ x, (hapsD R nm off)[i]? = some x := ⟨_, List.getElem?_eq_getElem (by have := HN.out; omega)⟩
   obtain ⟨g3, rfl, u0, u1x, u2⟩ := P8.get hx
   obtain ⟨g4, rfl, v0, v1, v2⟩ := Q8.get hx
   obtain ⟨xa, xs, xl⟩ := x
   simp only at u0 u1x u2 v0 v1 v2
   clear hx P8 Q8 M8
   go_wp2_with fail
   refine wp_region_noPanic ?_
   refine wp_region_held_drew (S := fun w' => w'.cell? ⟨g3, i * 3, none⟩ = some (.int .i64 xa) ∧ w'.cell? ⟨g3, i * 3 + 1, none⟩ = some (.int .i64 xs) ∧ w'.cell? ⟨g3, i * 3 + 2, none⟩ = some (.string xl) ∧ w'.cell? ⟨g4, i * 3, none⟩ = some (.int .i64 xa) ∧ w'.cell? ⟨g4, i * 3 + 1, none⟩ = some (.int .i64 xs) ∧ w'.cell? ⟨g4, i * 3 + 2, none⟩ = some (.string xl)) (by kernel_rfl) ⟨(show wa.drew.cell? ⟨g3, i * 3, none⟩ = _ from u0), (show wa.drew.cell? ⟨g3, i * 3 + 1, none⟩ = _ from u1x), (show wa.drew.cell? ⟨g3, i * 3 + 2, none⟩ = _ from u2), (show wa.drew.cell? ⟨g4, i * 3, none⟩ = _ from v0), (show wa.drew.cell? ⟨g4, i * 3 + 1, none⟩ = _ from v1), (show wa.drew.cell? ⟨g4, i * 3 + 2, none⟩ = _ from v2)⟩ (fun hHeld => ?_)
   refine wpAnyH_take (i := 0) (v := ?v1) rfl (by kernel_rfl) (by kernel_rfl) (by kernel_rfl) (fun _ _ _ h => h) (Or.inl ⟨by kernel_rfl, ?y1⟩) hHeld ?z1
   case y1 => (intro wq hSw; (try dsimp only at hSw); go_simp; try with_reducible rfl)
   try simp only [Act.put, qq1, qq2, qq3]
   refine wpAnyH_take (i := 1) (v := ?v2) rfl (by kernel_rfl) (by kernel_rfl) (by kernel_rfl) (fun _ _ _ h => h) (Or.inl ⟨by kernel_rfl, ?y2⟩) hHeld ?z2
   case y2 => (intro wq hSw; (try dsimp only at hSw); go_simp; try with_reducible rfl)
   try simp only [Act.put, qq1, qq2, qq3]
   refine wpAnyH_take (i := 2) (v := ?v3) rfl (by kernel_rfl) (by kernel_rfl) (by kernel_rfl) (fun _ _ _ h => h) (Or.inl ⟨by kernel_rfl, ?y3⟩) hHeld ?z3
   case y3 => (intro wq hSw; (try dsimp only at hSw); go_simp; try with_reducible rfl)
   try simp only [Act.put, qq1, qq2, qq3]
   refine wpAnyH_take (i := 3) (v := ?v4) rfl (by kernel_rfl) (by kernel_rfl) (by kernel_rfl) (fun _ _ _ h => h) (Or.inl ⟨by kernel_rfl, ?y4⟩) hHeld ?z4
   case y4 => (intro wq hSw; (try dsimp only at hSw); go_simp; try with_reducible rfl)
   try simp only [Act.put, qq1, qq2, qq3]
   refine wpAnyH_take (i := 4) (v := ?v5) rfl (by kernel_rfl) (by kernel_rfl) (by kernel_rfl) (fun _ _ _ h => h) (Or.inl ⟨by kernel_rfl, ?y5⟩) hHeld ?z5
   case y5 => (intro wq hSw; (try dsimp only at hSw); go_simp; try with_reducible rfl)
   try simp only [Act.put, qq1, qq2, qq3]
   refine wpAnyH_take (i := 5) (v := ?v6) rfl (by kernel_rfl) (by kernel_rfl) (by kernel_rfl) (fun _ _ _ h => h) (Or.inl ⟨by kernel_rfl, ?y6⟩) hHeld ?z6
   case y6 => (intro wq hSw; (try dsimp only at hSw); go_simp; try with_reducible rfl)
   try simp only [Act.put, qq1, qq2, qq3]
   refine wpAnyH_take (i := 6) (v := ?v7) rfl (by kernel_rfl) (by kernel_rfl) (by kernel_rfl) (fun _ _ _ h => h) (Or.inl ⟨by kernel_rfl, ?y7⟩) hHeld ?z7
   case y7 => (intro wq hSw; (try dsimp only at hSw); go_simp; try with_reducible rfl)
   try simp only [Act.put, qq1, qq2, qq3]
   refine wpAnyH_take (i := 7) (v := ?v8) rfl (by kernel_rfl) (by kernel_rfl) (by kernel_rfl) (fun _ _ _ h => h) (Or.inl ⟨by kernel_rfl, ?y8⟩) hHeld ?z8
   case y8 => (intro wq hSw; (try dsimp only at hSw); go_simp; try with_reducible rfl)
   try simp only [Act.put, qq1, qq2, qq3]
   refine wpAnyH_take (i := 8) (v := .bool false) rfl (by kernel_rfl) (by kernel_rfl) (by kernel_rfl) (fun _ _ _ h => h) (Or.inl ⟨by kernel_rfl, ?y9⟩) hHeld ?z9
   case y9 => (intro wq hSw; (try dsimp only at hSw); go_simp)
   try simp only [Act.put, qq1, qq2, qq3]
   try simp only [Act.put, List.getElem_toArray, List.getElem_cons_succ, List.getElem_cons_zero, qq1, qq2, qq3]
   refine wpAnyH_done (by kernel_rfl) ?_ _
   refine NoPanic.normal ?_
   clear hHeld
   go_wp2
   go_roundw
   case rel => exact ⟨i + 1, by omega, by go_num, hBr.trans ((below_drew wa).mono hBr.size)⟩
   case measure => simp [intOf]; omega
  ·
   have him1 : ¬ (i : Int) < (n : Int) := by omega
   by_cases ho : 82800 < off
   ·
    have hE := M8.b
    clear M8 P8 Q8
    go_wp2
    go_ret
    exact ⟨rfl, hE⟩
   have ho2 : off ≤ 82800 := by omega
   obtain ⟨hlen, hhr⟩ := HHr.out ho2
   have qo : IntKind.i64.wrap (off + 3600) = off + 3600 := by rw [IntKind.wrap_i64]; omega
   have HM2 : Hid ((hapsD R nm (off + 3600)).length = n) := by rw [← hlen]; exact HN.out
   have HH : Hid (∀ (i : Nat) a b, (hapsD R nm off)[i]? = some a → (hapsD R nm (off + 3600))[i]? = some b → hourB a b) := hhr
   clear hlen hhr Q8 HHr
   have c0 := M8.c0
   have c1 := M8.c1
   have c2 := M8.c2
   go_wp2_with fail
   refine (impl_HapsD R _ nm (off + 3600) _ M8.e M8.g.at_ M8.g.ok M8.g.small M8.g.on hnm').mono ?_
   rintro e wB ⟨v9, rfl, O9, hb⟩
   have hE9 := (M8.below hb).b
   have P9 : OwnsH wB _ (.slice l3 n d3) (hapsD R nm off) := owns_below P8 hb
   clear hb M8 P8 c0 c1 c2 hBr
   obtain ⟨l9, d9, rfl⟩ : ∃ a c, v9 = .slice a n c := by obtain ⟨a, c, h⟩ := O9.sl; exact ⟨a, c, by rw [h, HM2.out]⟩
   go_wp2
   go_loopw [15] (fun s wr => ∃ i : Nat, i ≤ n ∧ s = .int .i64 i ∧ Below wB.heap.size wB wr) (fun s _ => n - (intOf s).toNat)
   case atStart => exact ⟨0, by omega, rfl, Below.refl _ _⟩
   case round =>
    obtain ⟨wc, hwc⟩ : ∃ x : World, x = wr := ⟨_, rfl⟩
    subst hwc
    obtain ⟨k, hk, rfl, hBr⟩ := hrel
    have PA : OwnsH wc _ (.slice l3 n d3) (hapsD R nm off) := owns_below P9 hBr
    have QA : OwnsH wc _ (.slice l9 n d9) (hapsD R nm (off + 3600)) := owns_below O9 hBr
    clear P9 O9
    by_cases hkm : k < n
    ·
     have q1 : (k : Int) < (n : Int) := by omega
     have q0 : (0 : Int) ≤ (k : Int) := by omega
     obtain ⟨x, hx⟩ : ∃ x, (hapsD R nm off)[k]? = some x := ⟨_, List.getElem?_eq_getElem (by have := HN.out; omega)⟩
     obtain ⟨y, hy⟩ : ∃ y, (hapsD R nm (off + 3600))[k]? = some y := ⟨_, List.getElem?_eq_getElem (by have := HM2.out; omega)⟩
     obtain ⟨hs1, hs2, hs3⟩ := HH.out k x y hx hy
     obtain ⟨z1, z2⟩ := HLo.out x (List.mem_of_getElem? hx)
     obtain ⟨g3, rfl, u0, u1x, u2⟩ := PA.get hx
     obtain ⟨g9, rfl, v0, v1, v2⟩ := QA.get hy
     obtain ⟨xa, xs, xl⟩ := x
     obtain ⟨ya, ys, yl⟩ := y
     simp only at u0 u1x u2 v0 v1 v2 hs1 hs2 hs3 z1 z2
     subst hs1 hs2
     clear hx hy PA QA
     have qx : IntKind.i64.wrap (xa - 3600) = xa - 3600 := by rw [IntKind.wrap_i64]; omega
     by_cases he : ya = xa
     ·
      obtain rfl := he.symm
      clear hs3
      go_wp2_with fail
      refine wp_region_noPanic ?_
      refine wp_region_held_drew (S := fun w' => w'.cell? ⟨g3, k * 3, none⟩ = some (.int .i64 xa) ∧ w'.cell? ⟨g3, k * 3 + 1, none⟩ = some (.int .i64 ys) ∧ w'.cell? ⟨g3, k * 3 + 2, none⟩ = some (.string yl) ∧ w'.cell? ⟨g9, k * 3, none⟩ = some (.int .i64 xa) ∧ w'.cell? ⟨g9, k * 3 + 1, none⟩ = some (.int .i64 ys) ∧ w'.cell? ⟨g9, k * 3 + 2, none⟩ = some (.string yl)) (by kernel_rfl) ⟨(show wc.drew.cell? ⟨g3, k * 3, none⟩ = _ from u0), (show wc.drew.cell? ⟨g3, k * 3 + 1, none⟩ = _ from u1x), (show wc.drew.cell? ⟨g3, k * 3 + 2, none⟩ = _ from u2), (show wc.drew.cell? ⟨g9, k * 3, none⟩ = _ from v0), (show wc.drew.cell? ⟨g9, k * 3 + 1, none⟩ = _ from v1), (show wc.drew.cell? ⟨g9, k * 3 + 2, none⟩ = _ from v2)⟩ (fun hHeld => ?_)
      refine wpAnyH_take (i := 0) (v := ?v10) rfl (by kernel_rfl) (by kernel_rfl) (by kernel_rfl) (fun _ _ _ h => h) (Or.inl ⟨by kernel_rfl, ?y10⟩) hHeld ?z10
      case y10 => (intro wq hSw; (try dsimp only at hSw); go_simp; try with_reducible rfl)
      try simp only [Act.put, qq1, qq2, qq3]
      refine wpAnyH_take (i := 1) (v := ?v11) rfl (by kernel_rfl) (by kernel_rfl) (by kernel_rfl) (fun _ _ _ h => h) (Or.inl ⟨by kernel_rfl, ?y11⟩) hHeld ?z11
      case y11 => (intro wq hSw; (try dsimp only at hSw); go_simp; try with_reducible rfl)
      try simp only [Act.put, qq1, qq2, qq3]
      refine wpAnyH_take (i := 2) (v := ?v12) rfl (by kernel_rfl) (by kernel_rfl) (by kernel_rfl) (fun _ _ _ h => h) (Or.inl ⟨by kernel_rfl, ?y12⟩) hHeld ?z12
      case y12 => (intro wq hSw; (try dsimp only at hSw); go_simp; try with_reducible rfl)
      try simp only [Act.put, qq1, qq2, qq3]
      refine wpAnyH_take (i := 3) (v := ?v13) rfl (by kernel_rfl) (by kernel_rfl) (by kernel_rfl) (fun _ _ _ h => h) (Or.inl ⟨by kernel_rfl, ?y13⟩) hHeld ?z13
      case y13 => (intro wq hSw; (try dsimp only at hSw); go_simp; try with_reducible rfl)
      try simp only [Act.put, qq1, qq2, qq3]
      refine wpAnyH_take (i := 4) (v := ?v14) rfl (by kernel_rfl) (by kernel_rfl) (by kernel_rfl) (fun _ _ _ h => h) (Or.inl ⟨by kernel_rfl, ?y14⟩) hHeld ?z14
      case y14 => (intro wq hSw; (try dsimp only at hSw); go_simp; try with_reducible rfl)
      try simp only [Act.put, qq1, qq2, qq3]
      refine wpAnyH_take (i := 5) (v := ?v15) rfl (by kernel_rfl) (by kernel_rfl) (by kernel_rfl) (fun _ _ _ h => h) (Or.inl ⟨by kernel_rfl, ?y15⟩) hHeld ?z15
      case y15 => (intro wq hSw; (try dsimp only at hSw); go_simp; try with_reducible rfl)
      try simp only [Act.put, qq1, qq2, qq3]
      refine wpAnyH_take (i := 6) (v := ?v16) rfl (by kernel_rfl) (by kernel_rfl) (by kernel_rfl) (fun _ _ _ h => h) (Or.inl ⟨by kernel_rfl, ?y16⟩) hHeld ?z16
      case y16 => (intro wq hSw; (try dsimp only at hSw); go_simp; try with_reducible rfl)
      try simp only [Act.put, qq1, qq2, qq3]
      refine wpAnyH_take (i := 7) (v := ?v17) rfl (by kernel_rfl) (by kernel_rfl) (by kernel_rfl) (fun _ _ _ h => h) (Or.inl ⟨by kernel_rfl, ?y17⟩) hHeld ?z17
      case y17 => (intro wq hSw; (try dsimp only at hSw); go_simp; try with_reducible rfl)
      try simp only [Act.put, qq1, qq2, qq3]
      refine wpAnyH_take (i := 8) (v := ?v18) rfl (by kernel_rfl) (by kernel_rfl) (by kernel_rfl) (fun _ _ _ h => h) (Or.inl ⟨by kernel_rfl, ?y18⟩) hHeld ?z18
      case y18 => (intro wq hSw; (try dsimp only at hSw); go_simp; try with_reducible rfl)
      try simp only [Act.put, qq1, qq2, qq3]
      refine wpAnyH_take (i := 9) (v := ?v19) rfl (by kernel_rfl) (by kernel_rfl) (by kernel_rfl) (fun _ _ _ h => h) (Or.inl ⟨by kernel_rfl, ?y19⟩) hHeld ?z19
      case y19 => (intro wq hSw; (try dsimp only at hSw); go_simp; try with_reducible rfl)
      try simp only [Act.put, qq1, qq2, qq3]
      refine wpAnyH_take (i := 10) (v := .bool false) rfl (by kernel_rfl) (by kernel_rfl) (by kernel_rfl) (fun _ _ _ h => h) (Or.inl ⟨by kernel_rfl, ?y20⟩) hHeld ?z20
      case y20 => (intro wq hSw; (try dsimp only at hSw); go_simp)
      try simp only [Act.put, qq1, qq2, qq3]
      refine wpAnyH_take (i := 11) (v := .bool false) rfl (by kernel_rfl) (by kernel_rfl) (by kernel_rfl) (fun _ _ _ h => h) (Or.inl ⟨by kernel_rfl, ?y21⟩) hHeld ?z21
      case y21 => (intro wq hSw; (try dsimp only at hSw); go_simp)
      try simp only [Act.put, qq1, qq2, qq3]
      refine wpAnyH_take (i := 12) (v := ?v22) rfl (by kernel_rfl) (by kernel_rfl) (by kernel_rfl) (fun _ _ _ h => h) (Or.inl ⟨by kernel_rfl, ?y22⟩) hHeld ?z22
      case y22 => (intro wq hSw; (try dsimp only at hSw); go_simp; try with_reducible rfl)
      try simp only [Act.put, qq1, qq2, qq3]
      refine wpAnyH_take (i := 13) (v := ?v23) rfl (by kernel_rfl) (by kernel_rfl) (by kernel_rfl) (fun _ _ _ h => h) (Or.inl ⟨by kernel_rfl, ?y23⟩) hHeld ?z23
      case y23 => (intro wq hSw; (try dsimp only at hSw); go_simp; try with_reducible rfl)
      try simp only [Act.put, qq1, qq2, qq3]
      refine wpAnyH_take (i := 14) (v := ?v24) rfl (by kernel_rfl) (by kernel_rfl) (by kernel_rfl) (fun _ _ _ h => h) (Or.inl ⟨by kernel_rfl, ?y24⟩) hHeld ?z24
      case y24 => (intro wq hSw; (try dsimp only at hSw); go_simp; try with_reducible rfl)
      try simp only [Act.put, qq1, qq2, qq3]
      refine wpAnyH_take (i := 15) (v := ?v25) rfl (by kernel_rfl) (by kernel_rfl) (by kernel_rfl) (fun _ _ _ h => h) (Or.inl ⟨by kernel_rfl, ?y25⟩) hHeld ?z25
      case y25 => (intro wq hSw; (try dsimp only at hSw); go_simp; try with_reducible rfl)
      try simp only [Act.put, qq1, qq2, qq3]
      refine wpAnyH_take (i := 16) (v := ?v26) rfl (by kernel_rfl) (by kernel_rfl) (by kernel_rfl) (fun _ _ _ h => h) (Or.inl ⟨by kernel_rfl, ?y26⟩) hHeld ?z26
      case y26 => (intro wq hSw; (try dsimp only at hSw); go_simp; try with_reducible rfl)
      try simp only [Act.put, qq1, qq2, qq3]
      refine wpAnyH_take (i := 17) (v := ?v27) rfl (by kernel_rfl) (by kernel_rfl) (by kernel_rfl) (fun _ _ _ h => h) (Or.inl ⟨by kernel_rfl, ?y27⟩) hHeld ?z27
      case y27 => (intro wq hSw; (try dsimp only at hSw); go_simp; try with_reducible rfl)
      try simp only [Act.put, qq1, qq2, qq3]
      refine wpAnyH_take (i := 18) (v := ?v28) rfl (by kernel_rfl) (by kernel_rfl) (by kernel_rfl) (fun _ _ _ h => h) (Or.inl ⟨by kernel_rfl, ?y28⟩) hHeld ?z28
      case y28 => (intro wq hSw; (try dsimp only at hSw); go_simp; try with_reducible rfl)
      try simp only [Act.put, qq1, qq2, qq3]
      refine wpAnyH_take (i := 19) (v := ?v29) rfl (by kernel_rfl) (by kernel_rfl) (by kernel_rfl) (fun _ _ _ h => h) (Or.inl ⟨by kernel_rfl, ?y29⟩) hHeld ?z29
      case y29 => (intro wq hSw; (try dsimp only at hSw); go_simp; try with_reducible rfl)
      try simp only [Act.put, qq1, qq2, qq3]
      refine wpAnyH_take (i := 20) (v := ?v30) rfl (by kernel_rfl) (by kernel_rfl) (by kernel_rfl) (fun _ _ _ h => h) (Or.inl ⟨by kernel_rfl, ?y30⟩) hHeld ?z30
      case y30 => (intro wq hSw; (try dsimp only at hSw); go_simp; try with_reducible rfl)
      try simp only [Act.put, qq1, qq2, qq3]
      refine wpAnyH_take (i := 21) (v := ?v31) rfl (by kernel_rfl) (by kernel_rfl) (by kernel_rfl) (fun _ _ _ h => h) (Or.inl ⟨by kernel_rfl, ?y31⟩) hHeld ?z31
      case y31 => (intro wq hSw; (try dsimp only at hSw); go_simp; try with_reducible rfl)
      try simp only [Act.put, qq1, qq2, qq3]
      refine wpAnyH_take (i := 22) (v := .bool false) rfl (by kernel_rfl) (by kernel_rfl) (by kernel_rfl) (fun _ _ _ h => h) (Or.inl ⟨by kernel_rfl, ?y32⟩) hHeld ?z32
      case y32 => (intro wq hSw; (try dsimp only at hSw); go_simp)
      try simp only [Act.put, qq1, qq2, qq3]
      refine wpAnyH_take (i := 23) (v := .bool false) rfl (by kernel_rfl) (by kernel_rfl) (by kernel_rfl) (fun _ _ _ h => h) (Or.inl ⟨by kernel_rfl, ?y33⟩) hHeld ?z33
      case y33 => (intro wq hSw; (try dsimp only at hSw); go_simp)
      try simp only [Act.put, qq1, qq2, qq3]
      refine wpAnyH_take (i := 24) (v := .bool false) rfl (by kernel_rfl) (by kernel_rfl) (by kernel_rfl) (fun _ _ _ h => h) (Or.inl ⟨by kernel_rfl, ?y34⟩) hHeld ?z34
      case y34 => (intro wq hSw; (try dsimp only at hSw); go_simp)
      try simp only [Act.put, qq1, qq2, qq3]
      refine wpAnyH_take (i := 25) (v := ?v35) rfl (by kernel_rfl) (by kernel_rfl) (by kernel_rfl) (fun _ _ _ h => h) (Or.inl ⟨by kernel_rfl, ?y35⟩) hHeld ?z35
      case y35 => (intro wq hSw; (try dsimp only at hSw); go_simp; try with_reducible rfl)
      try simp only [Act.put, qq1, qq2, qq3]
      refine wpAnyH_take (i := 26) (v := ?v36) rfl (by kernel_rfl) (by kernel_rfl) (by kernel_rfl) (fun _ _ _ h => h) (Or.inl ⟨by kernel_rfl, ?y36⟩) hHeld ?z36
      case y36 => (intro wq hSw; (try dsimp only at hSw); go_simp; try with_reducible rfl)
      try simp only [Act.put, qq1, qq2, qq3]
      refine wpAnyH_take (i := 27) (v := ?v37) rfl (by kernel_rfl) (by kernel_rfl) (by kernel_rfl) (fun _ _ _ h => h) (Or.inl ⟨by kernel_rfl, ?y37⟩) hHeld ?z37
      case y37 => (intro wq hSw; (try dsimp only at hSw); go_simp; try with_reducible rfl)
      try simp only [Act.put, qq1, qq2, qq3]
      refine wpAnyH_take (i := 28) (v := ?v38) rfl (by kernel_rfl) (by kernel_rfl) (by kernel_rfl) (fun _ _ _ h => h) (Or.inl ⟨by kernel_rfl, ?y38⟩) hHeld ?z38
      case y38 => (intro wq hSw; (try dsimp only at hSw); go_simp; try with_reducible rfl)
      try simp only [Act.put, qq1, qq2, qq3]
      refine wpAnyH_take (i := 29) (v := ?v39) rfl (by kernel_rfl) (by kernel_rfl) (by kernel_rfl) (fun _ _ _ h => h) (Or.inl ⟨by kernel_rfl, ?y39⟩) hHeld ?z39
      case y39 => (intro wq hSw; (try dsimp only at hSw); go_simp; try with_reducible rfl)
      try simp only [Act.put, qq1, qq2, qq3]
      refine wpAnyH_take (i := 30) (v := ?v40) rfl (by kernel_rfl) (by kernel_rfl) (by kernel_rfl) (fun _ _ _ h => h) (Or.inl ⟨by kernel_rfl, ?y40⟩) hHeld ?z40
      case y40 => (intro wq hSw; (try dsimp only at hSw); go_simp; try with_reducible rfl)
      try simp only [Act.put, qq1, qq2, qq3]
      refine wpAnyH_take (i := 31) (v := ?v41) rfl (by kernel_rfl) (by kernel_rfl) (by kernel_rfl) (fun _ _ _ h => h) (Or.inl ⟨by kernel_rfl, ?y41⟩) hHeld ?z41
      case y41 => (intro wq hSw; (try dsimp only at hSw); go_simp; try with_reducible rfl)
      try simp only [Act.put, qq1, qq2, qq3]
      refine wpAnyH_take (i := 32) (v := ?v42) rfl (by kernel_rfl) (by kernel_rfl) (by kernel_rfl) (fun _ _ _ h => h) (Or.inl ⟨by kernel_rfl, ?y42⟩) hHeld ?z42
      case y42 => (intro wq hSw; (try dsimp only at hSw); go_simp; try with_reducible rfl)
      try simp only [Act.put, qq1, qq2, qq3]
      refine wpAnyH_take (i := 33) (v := ?v43) rfl (by kernel_rfl) (by kernel_rfl) (by kernel_rfl) (fun _ _ _ h => h) (Or.inl ⟨by kernel_rfl, ?y43⟩) hHeld ?z43
      case y43 => (intro wq hSw; (try dsimp only at hSw); go_simp; try with_reducible rfl)
      try simp only [Act.put, qq1, qq2, qq3]
      refine wpAnyH_take (i := 34) (v := ?v44) rfl (by kernel_rfl) (by kernel_rfl) (by kernel_rfl) (fun _ _ _ h => h) (Or.inl ⟨by kernel_rfl, ?y44⟩) hHeld ?z44
      case y44 => (intro wq hSw; (try dsimp only at hSw); go_simp; try with_reducible rfl)
      try simp only [Act.put, qq1, qq2, qq3]
      refine wpAnyH_take (i := 35) (v := .bool false) rfl (by kernel_rfl) (by kernel_rfl) (by kernel_rfl) (fun _ _ _ h => h) (Or.inl ⟨by kernel_rfl, ?y45⟩) hHeld ?z45
      case y45 => (intro wq hSw; (try dsimp only at hSw); go_simp)
      try simp only [Act.put, qq1, qq2, qq3]
      refine wpAnyH_take (i := 36) (v := .bool false) rfl (by kernel_rfl) (by kernel_rfl) (by kernel_rfl) (fun _ _ _ h => h) (Or.inl ⟨by kernel_rfl, ?y46⟩) hHeld ?z46
      case y46 => (intro wq hSw; (try dsimp only at hSw); go_simp)
      try simp only [Act.put, qq1, qq2, qq3]
      refine wpAnyH_take (i := 37) (v := undef) rfl (by kernel_rfl) (by kernel_rfl) (by kernel_rfl) (fun _ _ _ h => h) (Or.inr ⟨by kernel_rfl, rfl⟩) hHeld ?z47
      try simp only [Act.put, qq1, qq2, qq3]
      refine wpAnyH_take (i := 38) (v := undef) rfl (by kernel_rfl) (by kernel_rfl) (by kernel_rfl) (fun _ _ _ h => h) (Or.inr ⟨by kernel_rfl, rfl⟩) hHeld ?z48
      try simp only [Act.put, qq1, qq2, qq3]
      refine wpAnyH_take (i := 39) (v := undef) rfl (by kernel_rfl) (by kernel_rfl) (by kernel_rfl) (fun _ _ _ h => h) (Or.inr ⟨by kernel_rfl, rfl⟩) hHeld ?z49
      try simp only [Act.put, qq1, qq2, qq3]
      refine wpAnyH_take (i := 40) (v := undef) rfl (by kernel_rfl) (by kernel_rfl) (by kernel_rfl) (fun _ _ _ h => h) (Or.inr ⟨by kernel_rfl, rfl⟩) hHeld ?z50
      try simp only [Act.put, qq1, qq2, qq3]
      refine wpAnyH_take (i := 41) (v := undef) rfl (by kernel_rfl) (by kernel_rfl) (by kernel_rfl) (fun _ _ _ h => h) (Or.inr ⟨by kernel_rfl, rfl⟩) hHeld ?z51
      try simp only [Act.put, qq1, qq2, qq3]
      refine wpAnyH_take (i := 42) (v := undef) rfl (by kernel_rfl) (by kernel_rfl) (by kernel_rfl) (fun _ _ _ h => h) (Or.inr ⟨by kernel_rfl, rfl⟩) hHeld ?z52
      try simp only [Act.put, qq1, qq2, qq3]
      refine wpAnyH_take (i := 43) (v := undef) rfl (by kernel_rfl) (by kernel_rfl) (by kernel_rfl) (fun _ _ _ h => h) (Or.inr ⟨by kernel_rfl, rfl⟩) hHeld ?z53
      try simp only [Act.put, qq1, qq2, qq3]
      refine wpAnyH_take (i := 44) (v := undef) rfl (by kernel_rfl) (by kernel_rfl) (by kernel_rfl) (fun _ _ _ h => h) (Or.inr ⟨by kernel_rfl, rfl⟩) hHeld ?z54
      try simp only [Act.put, qq1, qq2, qq3]
      refine wpAnyH_take (i := 45) (v := undef) rfl (by kernel_rfl) (by kernel_rfl) (by kernel_rfl) (fun _ _ _ h => h) (Or.inr ⟨by kernel_rfl, rfl⟩) hHeld ?z55
      try simp only [Act.put, qq1, qq2, qq3]
      refine wpAnyH_take (i := 46) (v := undef) rfl (by kernel_rfl) (by kernel_rfl) (by kernel_rfl) (fun _ _ _ h => h) (Or.inr ⟨by kernel_rfl, rfl⟩) hHeld ?z56
      try simp only [Act.put, qq1, qq2, qq3]
      refine wpAnyH_take (i := 47) (v := undef) rfl (by kernel_rfl) (by kernel_rfl) (by kernel_rfl) (fun _ _ _ h => h) (Or.inr ⟨by kernel_rfl, rfl⟩) hHeld ?z57
      try simp only [Act.put, qq1, qq2, qq3]
      refine wpAnyH_take (i := 48) (v := undef) rfl (by kernel_rfl) (by kernel_rfl) (by kernel_rfl) (fun _ _ _ h => h) (Or.inr ⟨by kernel_rfl, rfl⟩) hHeld ?z58
      try simp only [Act.put, qq1, qq2, qq3]
      refine wpAnyH_take (i := 49) (v := .bool false) rfl (by kernel_rfl) (by kernel_rfl) (by kernel_rfl) (fun _ _ _ h => h) (Or.inl ⟨by kernel_rfl, ?y59⟩) hHeld ?z59
      case y59 => (intro wq hSw; (try dsimp only at hSw); go_simp)
      try simp only [Act.put, qq1, qq2, qq3]
      refine wpAnyH_take (i := 50) (v := .bool false) rfl (by kernel_rfl) (by kernel_rfl) (by kernel_rfl) (fun _ _ _ h => h) (Or.inl ⟨by kernel_rfl, ?y60⟩) hHeld ?z60
      case y60 => (intro wq hSw; (try dsimp only at hSw); go_simp)
      try simp only [Act.put, qq1, qq2, qq3]
      try simp only [Act.put, List.getElem_toArray, List.getElem_cons_succ, List.getElem_cons_zero, qq1, qq2, qq3]
      refine wpAnyH_done (by kernel_rfl) ?_ _
      refine NoPanic.normal ?_
      clear hHeld
      go_wp2
      go_roundw
      case rel => exact ⟨k + 1, by omega, by go_num, hBr.trans ((below_drew wc).mono hBr.size)⟩
      case measure => simp [intOf]; omega
     ·
      obtain rfl : ya = xa - 3600 := by omega
      clear hs3 he
      go_wp2_with fail
      refine wp_region_noPanic ?_
      refine wp_region_held_drew (S := fun w' => w'.cell? ⟨g3, k * 3, none⟩ = some (.int .i64 xa) ∧ w'.cell? ⟨g3, k * 3 + 1, none⟩ = some (.int .i64 ys) ∧ w'.cell? ⟨g3, k * 3 + 2, none⟩ = some (.string yl) ∧ w'.cell? ⟨g9, k * 3, none⟩ = some (.int .i64 (xa - 3600)) ∧ w'.cell? ⟨g9, k * 3 + 1, none⟩ = some (.int .i64 ys) ∧ w'.cell? ⟨g9, k * 3 + 2, none⟩ = some (.string yl)) (by kernel_rfl) ⟨(show wc.drew.cell? ⟨g3, k * 3, none⟩ = _ from u0), (show wc.drew.cell? ⟨g3, k * 3 + 1, none⟩ = _ from u1x), (show wc.drew.cell? ⟨g3, k * 3 + 2, none⟩ = _ from u2), (show wc.drew.cell? ⟨g9, k * 3, none⟩ = _ from v0), (show wc.drew.cell? ⟨g9, k * 3 + 1, none⟩ = _ from v1), (show wc.drew.cell? ⟨g9, k * 3 + 2, none⟩ = _ from v2)⟩ (fun hHeld => ?_)
      refine wpAnyH_take (i := 0) (v := ?v61) rfl (by kernel_rfl) (by kernel_rfl) (by kernel_rfl) (fun _ _ _ h => h) (Or.inl ⟨by kernel_rfl, ?y61⟩) hHeld ?z61
      case y61 => (intro wq hSw; (try dsimp only at hSw); go_simp; try with_reducible rfl)
      try simp only [Act.put, qq1, qq2, qq3]
      refine wpAnyH_take (i := 1) (v := ?v62) rfl (by kernel_rfl) (by kernel_rfl) (by kernel_rfl) (fun _ _ _ h => h) (Or.inl ⟨by kernel_rfl, ?y62⟩) hHeld ?z62
      case y62 => (intro wq hSw; (try dsimp only at hSw); go_simp; try with_reducible rfl)
      try simp only [Act.put, qq1, qq2, qq3]
      refine wpAnyH_take (i := 2) (v := ?v63) rfl (by kernel_rfl) (by kernel_rfl) (by kernel_rfl) (fun _ _ _ h => h) (Or.inl ⟨by kernel_rfl, ?y63⟩) hHeld ?z63
      case y63 => (intro wq hSw; (try dsimp only at hSw); go_simp; try with_reducible rfl)
      try simp only [Act.put, qq1, qq2, qq3]
      refine wpAnyH_take (i := 3) (v := ?v64) rfl (by kernel_rfl) (by kernel_rfl) (by kernel_rfl) (fun _ _ _ h => h) (Or.inl ⟨by kernel_rfl, ?y64⟩) hHeld ?z64
      case y64 => (intro wq hSw; (try dsimp only at hSw); go_simp; try with_reducible rfl)
      try simp only [Act.put, qq1, qq2, qq3]
      refine wpAnyH_take (i := 4) (v := ?v65) rfl (by kernel_rfl) (by kernel_rfl) (by kernel_rfl) (fun _ _ _ h => h) (Or.inl ⟨by kernel_rfl, ?y65⟩) hHeld ?z65
      case y65 => (intro wq hSw; (try dsimp only at hSw); go_simp; try with_reducible rfl)
      try simp only [Act.put, qq1, qq2, qq3]
      refine wpAnyH_take (i := 5) (v := ?v66) rfl (by kernel_rfl) (by kernel_rfl) (by kernel_rfl) (fun _ _ _ h => h) (Or.inl ⟨by kernel_rfl, ?y66⟩) hHeld ?z66
      case y66 => (intro wq hSw; (try dsimp only at hSw); go_simp; try with_reducible rfl)
      try simp only [Act.put, qq1, qq2, qq3]
      refine wpAnyH_take (i := 6) (v := ?v67) rfl (by kernel_rfl) (by kernel_rfl) (by kernel_rfl) (fun _ _ _ h => h) (Or.inl ⟨by kernel_rfl, ?y67⟩) hHeld ?z67
      case y67 => (intro wq hSw; (try dsimp only at hSw); go_simp; try with_reducible rfl)
      try simp only [Act.put, qq1, qq2, qq3]
      refine wpAnyH_take (i := 7) (v := ?v68) rfl (by kernel_rfl) (by kernel_rfl) (by kernel_rfl) (fun _ _ _ h => h) (Or.inl ⟨by kernel_rfl, ?y68⟩) hHeld ?z68
      case y68 => (intro wq hSw; (try dsimp only at hSw); go_simp; try with_reducible rfl)
      try simp only [Act.put, qq1, qq2, qq3]
      refine wpAnyH_take (i := 8) (v := ?v69) rfl (by kernel_rfl) (by kernel_rfl) (by kernel_rfl) (fun _ _ _ h => h) (Or.inl ⟨by kernel_rfl, ?y69⟩) hHeld ?z69
      case y69 => (intro wq hSw; (try dsimp only at hSw); go_simp; try with_reducible rfl)
      try simp only [Act.put, qq1, qq2, qq3]
      refine wpAnyH_take (i := 9) (v := ?v70) rfl (by kernel_rfl) (by kernel_rfl) (by kernel_rfl) (fun _ _ _ h => h) (Or.inl ⟨by kernel_rfl, ?y70⟩) hHeld ?z70
      case y70 => (intro wq hSw; (try dsimp only at hSw); go_simp; try with_reducible rfl)
      try simp only [Act.put, qq1, qq2, qq3]
      refine wpAnyH_take (i := 10) (v := .bool false) rfl (by kernel_rfl) (by kernel_rfl) (by kernel_rfl) (fun _ _ _ h => h) (Or.inl ⟨by kernel_rfl, ?y71⟩) hHeld ?z71
      case y71 => (intro wq hSw; (try dsimp only at hSw); go_simp)
      try simp only [Act.put, qq1, qq2, qq3]
      refine wpAnyH_take (i := 11) (v := .bool false) rfl (by kernel_rfl) (by kernel_rfl) (by kernel_rfl) (fun _ _ _ h => h) (Or.inl ⟨by kernel_rfl, ?y72⟩) hHeld ?z72
      case y72 => (intro wq hSw; (try dsimp only at hSw); go_simp)
      try simp only [Act.put, qq1, qq2, qq3]
      refine wpAnyH_take (i := 12) (v := ?v73) rfl (by kernel_rfl) (by kernel_rfl) (by kernel_rfl) (fun _ _ _ h => h) (Or.inl ⟨by kernel_rfl, ?y73⟩) hHeld ?z73
      case y73 => (intro wq hSw; (try dsimp only at hSw); go_simp; try with_reducible rfl)
      try simp only [Act.put, qq1, qq2, qq3]
      refine wpAnyH_take (i := 13) (v := ?v74) rfl (by kernel_rfl) (by kernel_rfl) (by kernel_rfl) (fun _ _ _ h => h) (Or.inl ⟨by kernel_rfl, ?y74⟩) hHeld ?z74
      case y74 => (intro wq hSw; (try dsimp only at hSw); go_simp; try with_reducible rfl)
      try simp only [Act.put, qq1, qq2, qq3]
      refine wpAnyH_take (i := 14) (v := ?v75) rfl (by kernel_rfl) (by kernel_rfl) (by kernel_rfl) (fun _ _ _ h => h) (Or.inl ⟨by kernel_rfl, ?y75⟩) hHeld ?z75
      case y75 => (intro wq hSw; (try dsimp only at hSw); go_simp; try with_reducible rfl)
      try simp only [Act.put, qq1, qq2, qq3]
      refine wpAnyH_take (i := 15) (v := ?v76) rfl (by kernel_rfl) (by kernel_rfl) (by kernel_rfl) (fun _ _ _ h => h) (Or.inl ⟨by kernel_rfl, ?y76⟩) hHeld ?z76
      case y76 => (intro wq hSw; (try dsimp only at hSw); go_simp; try with_reducible rfl)
      try simp only [Act.put, qq1, qq2, qq3]
      refine wpAnyH_take (i := 16) (v := ?v77) rfl (by kernel_rfl) (by kernel_rfl) (by kernel_rfl) (fun _ _ _ h => h) (Or.inl ⟨by kernel_rfl, ?y77⟩) hHeld ?z77
      case y77 => (intro wq hSw; (try dsimp only at hSw); go_simp; try with_reducible rfl)
      try simp only [Act.put, qq1, qq2, qq3]
      refine wpAnyH_take (i := 17) (v := ?v78) rfl (by kernel_rfl) (by kernel_rfl) (by kernel_rfl) (fun _ _ _ h => h) (Or.inl ⟨by kernel_rfl, ?y78⟩) hHeld ?z78
      case y78 => (intro wq hSw; (try dsimp only at hSw); go_simp; try with_reducible rfl)
      try simp only [Act.put, qq1, qq2, qq3]
      refine wpAnyH_take (i := 18) (v := ?v79) rfl (by kernel_rfl) (by kernel_rfl) (by kernel_rfl) (fun _ _ _ h => h) (Or.inl ⟨by kernel_rfl, ?y79⟩) hHeld ?z79
      case y79 => (intro wq hSw; (try dsimp only at hSw); go_simp; try with_reducible rfl)
      try simp only [Act.put, qq1, qq2, qq3]
      refine wpAnyH_take (i := 19) (v := ?v80) rfl (by kernel_rfl) (by kernel_rfl) (by kernel_rfl) (fun _ _ _ h => h) (Or.inl ⟨by kernel_rfl, ?y80⟩) hHeld ?z80
      case y80 => (intro wq hSw; (try dsimp only at hSw); go_simp; try with_reducible rfl)
      try simp only [Act.put, qq1, qq2, qq3]
      refine wpAnyH_take (i := 20) (v := ?v81) rfl (by kernel_rfl) (by kernel_rfl) (by kernel_rfl) (fun _ _ _ h => h) (Or.inl ⟨by kernel_rfl, ?y81⟩) hHeld ?z81
      case y81 => (intro wq hSw; (try dsimp only at hSw); go_simp; try with_reducible rfl)
      try simp only [Act.put, qq1, qq2, qq3]
      refine wpAnyH_take (i := 21) (v := ?v82) rfl (by kernel_rfl) (by kernel_rfl) (by kernel_rfl) (fun _ _ _ h => h) (Or.inl ⟨by kernel_rfl, ?y82⟩) hHeld ?z82
      case y82 => (intro wq hSw; (try dsimp only at hSw); go_simp; try with_reducible rfl)
      try simp only [Act.put, qq1, qq2, qq3]
      refine wpAnyH_take (i := 22) (v := .bool false) rfl (by kernel_rfl) (by kernel_rfl) (by kernel_rfl) (fun _ _ _ h => h) (Or.inl ⟨by kernel_rfl, ?y83⟩) hHeld ?z83
      case y83 => (intro wq hSw; (try dsimp only at hSw); go_simp)
      try simp only [Act.put, qq1, qq2, qq3]
      refine wpAnyH_take (i := 23) (v := .bool false) rfl (by kernel_rfl) (by kernel_rfl) (by kernel_rfl) (fun _ _ _ h => h) (Or.inl ⟨by kernel_rfl, ?y84⟩) hHeld ?z84
      case y84 => (intro wq hSw; (try dsimp only at hSw); go_simp)
      try simp only [Act.put, qq1, qq2, qq3]
      refine wpAnyH_take (i := 24) (v := .bool false) rfl (by kernel_rfl) (by kernel_rfl) (by kernel_rfl) (fun _ _ _ h => h) (Or.inl ⟨by kernel_rfl, ?y85⟩) hHeld ?z85
      case y85 => (intro wq hSw; (try dsimp only at hSw); go_simp)
      try simp only [Act.put, qq1, qq2, qq3]
      refine wpAnyH_take (i := 25) (v := ?v86) rfl (by kernel_rfl) (by kernel_rfl) (by kernel_rfl) (fun _ _ _ h => h) (Or.inl ⟨by kernel_rfl, ?y86⟩) hHeld ?z86
      case y86 => (intro wq hSw; (try dsimp only at hSw); go_simp; try with_reducible rfl)
      try simp only [Act.put, qq1, qq2, qq3]
      refine wpAnyH_take (i := 26) (v := ?v87) rfl (by kernel_rfl) (by kernel_rfl) (by kernel_rfl) (fun _ _ _ h => h) (Or.inl ⟨by kernel_rfl, ?y87⟩) hHeld ?z87
      case y87 => (intro wq hSw; (try dsimp only at hSw); go_simp; try with_reducible rfl)
      try simp only [Act.put, qq1, qq2, qq3]
      refine wpAnyH_take (i := 27) (v := ?v88) rfl (by kernel_rfl) (by kernel_rfl) (by kernel_rfl) (fun _ _ _ h => h) (Or.inl ⟨by kernel_rfl, ?y88⟩) hHeld ?z88
      case y88 => (intro wq hSw; (try dsimp only at hSw); go_simp; try with_reducible rfl)
      try simp only [Act.put, qq1, qq2, qq3]
      refine wpAnyH_take (i := 28) (v := ?v89) rfl (by kernel_rfl) (by kernel_rfl) (by kernel_rfl) (fun _ _ _ h => h) (Or.inl ⟨by kernel_rfl, ?y89⟩) hHeld ?z89
      case y89 => (intro wq hSw; (try dsimp only at hSw); go_simp; try with_reducible rfl)
      try simp only [Act.put, qq1, qq2, qq3]
      refine wpAnyH_take (i := 29) (v := ?v90) rfl (by kernel_rfl) (by kernel_rfl) (by kernel_rfl) (fun _ _ _ h => h) (Or.inl ⟨by kernel_rfl, ?y90⟩) hHeld ?z90
      case y90 => (intro wq hSw; (try dsimp only at hSw); go_simp; try with_reducible rfl)
      try simp only [Act.put, qq1, qq2, qq3]
      refine wpAnyH_take (i := 30) (v := ?v91) rfl (by kernel_rfl) (by kernel_rfl) (by kernel_rfl) (fun _ _ _ h => h) (Or.inl ⟨by kernel_rfl, ?y91⟩) hHeld ?z91
      case y91 => (intro wq hSw; (try dsimp only at hSw); go_simp; try with_reducible rfl)
      try simp only [Act.put, qq1, qq2, qq3]
      refine wpAnyH_take (i := 31) (v := ?v92) rfl (by kernel_rfl) (by kernel_rfl) (by kernel_rfl) (fun _ _ _ h => h) (Or.inl ⟨by kernel_rfl, ?y92⟩) hHeld ?z92
      case y92 => (intro wq hSw; (try dsimp only at hSw); go_simp; try with_reducible rfl)
      try simp only [Act.put, qq1, qq2, qq3]
      refine wpAnyH_take (i := 32) (v := ?v93) rfl (by kernel_rfl) (by kernel_rfl) (by kernel_rfl) (fun _ _ _ h => h) (Or.inl ⟨by kernel_rfl, ?y93⟩) hHeld ?z93
      case y93 => (intro wq hSw; (try dsimp only at hSw); go_simp; try with_reducible rfl)
      try simp only [Act.put, qq1, qq2, qq3]
      refine wpAnyH_take (i := 33) (v := ?v94) rfl (by kernel_rfl) (by kernel_rfl) (by kernel_rfl) (fun _ _ _ h => h) (Or.inl ⟨by kernel_rfl, ?y94⟩) hHeld ?z94
      case y94 => (intro wq hSw; (try dsimp only at hSw); go_simp; try with_reducible rfl)
      try simp only [Act.put, qq1, qq2, qq3]
      refine wpAnyH_take (i := 34) (v := ?v95) rfl (by kernel_rfl) (by kernel_rfl) (by kernel_rfl) (fun _ _ _ h => h) (Or.inl ⟨by kernel_rfl, ?y95⟩) hHeld ?z95
      case y95 => (intro wq hSw; (try dsimp only at hSw); go_simp; try with_reducible rfl)
      try simp only [Act.put, qq1, qq2, qq3]
      refine wpAnyH_take (i := 35) (v := .bool true) rfl (by kernel_rfl) (by kernel_rfl) (by kernel_rfl) (fun _ _ _ h => h) (Or.inl ⟨by kernel_rfl, ?y96⟩) hHeld ?z96
      case y96 => (intro wq hSw; (try dsimp only at hSw); go_simp; omega)
      try simp only [Act.put, qq1, qq2, qq3]
      refine wpAnyH_take (i := 36) (v := .bool true) rfl (by kernel_rfl) (by kernel_rfl) (by kernel_rfl) (fun _ _ _ h => h) (Or.inl ⟨by kernel_rfl, ?y97⟩) hHeld ?z97
      case y97 => (intro wq hSw; (try dsimp only at hSw); go_simp)
      try simp only [Act.put, qq1, qq2, qq3]
      refine wpAnyH_take (i := 37) (v := ?v98) rfl (by kernel_rfl) (by kernel_rfl) (by kernel_rfl) (fun _ _ _ h => h) (Or.inl ⟨by kernel_rfl, ?y98⟩) hHeld ?z98
      case y98 => (intro wq hSw; (try dsimp only at hSw); go_simp; try with_reducible rfl)
      try simp only [Act.put, qq1, qq2, qq3]
      refine wpAnyH_take (i := 38) (v := ?v99) rfl (by kernel_rfl) (by kernel_rfl) (by kernel_rfl) (fun _ _ _ h => h) (Or.inl ⟨by kernel_rfl, ?y99⟩) hHeld ?z99
      case y99 => (intro wq hSw; (try dsimp only at hSw); go_simp; try with_reducible rfl)
      try simp only [Act.put, qq1, qq2, qq3]
      refine wpAnyH_take (i := 39) (v := ?v100) rfl (by kernel_rfl) (by kernel_rfl) (by kernel_rfl) (fun _ _ _ h => h) (Or.inl ⟨by kernel_rfl, ?y100⟩) hHeld ?z100
      case y100 => (intro wq hSw; (try dsimp only at hSw); go_simp; try with_reducible rfl)
      try simp only [Act.put, qq1, qq2, qq3]
      refine wpAnyH_take (i := 40) (v := ?v101) rfl (by kernel_rfl) (by kernel_rfl) (by kernel_rfl) (fun _ _ _ h => h) (Or.inl ⟨by kernel_rfl, ?y101⟩) hHeld ?z101
      case y101 => (intro wq hSw; (try dsimp only at hSw); go_simp; try with_reducible rfl)
      try simp only [Act.put, qq1, qq2, qq3]
      refine wpAnyH_take (i := 41) (v := ?v102) rfl (by kernel_rfl) (by kernel_rfl) (by kernel_rfl) (fun _ _ _ h => h) (Or.inl ⟨by kernel_rfl, ?y102⟩) hHeld ?z102
      case y102 => (intro wq hSw; (try dsimp only at hSw); go_simp; try with_reducible rfl)
      try simp only [Act.put, qq1, qq2, qq3]
      refine wpAnyH_take (i := 42) (v := ?v103) rfl (by kernel_rfl) (by kernel_rfl) (by kernel_rfl) (fun _ _ _ h => h) (Or.inl ⟨by kernel_rfl, ?y103⟩) hHeld ?z103
      case y103 => (intro wq hSw; (try dsimp only at hSw); go_simp; try with_reducible rfl)
      try simp only [Act.put, qq1, qq2, qq3]
      refine wpAnyH_take (i := 43) (v := ?v104) rfl (by kernel_rfl) (by kernel_rfl) (by kernel_rfl) (fun _ _ _ h => h) (Or.inl ⟨by kernel_rfl, ?y104⟩) hHeld ?z104
      case y104 => (intro wq hSw; (try dsimp only at hSw); go_simp; try with_reducible rfl)
      try simp only [Act.put, qq1, qq2, qq3]
      refine wpAnyH_take (i := 44) (v := ?v105) rfl (by kernel_rfl) (by kernel_rfl) (by kernel_rfl) (fun _ _ _ h => h) (Or.inl ⟨by kernel_rfl, ?y105⟩) hHeld ?z105
      case y105 => (intro wq hSw; (try dsimp only at hSw); go_simp; try with_reducible rfl)
      try simp only [Act.put, qq1, qq2, qq3]
      refine wpAnyH_take (i := 45) (v := ?v106) rfl (by kernel_rfl) (by kernel_rfl) (by kernel_rfl) (fun _ _ _ h => h) (Or.inl ⟨by kernel_rfl, ?y106⟩) hHeld ?z106
      case y106 => (intro wq hSw; (try dsimp only at hSw); go_simp; try with_reducible rfl)
      try simp only [Act.put, qq1, qq2, qq3]
      refine wpAnyH_take (i := 46) (v := ?v107) rfl (by kernel_rfl) (by kernel_rfl) (by kernel_rfl) (fun _ _ _ h => h) (Or.inl ⟨by kernel_rfl, ?y107⟩) hHeld ?z107
      case y107 => (intro wq hSw; (try dsimp only at hSw); go_simp; try with_reducible rfl)
      try simp only [Act.put, qq1, qq2, qq3]
      refine wpAnyH_take (i := 47) (v := ?v108) rfl (by kernel_rfl) (by kernel_rfl) (by kernel_rfl) (fun _ _ _ h => h) (Or.inl ⟨by kernel_rfl, ?y108⟩) hHeld ?z108
      case y108 => (intro wq hSw; (try dsimp only at hSw); go_simp; try with_reducible rfl)
      try simp only [Act.put, qq1, qq2, qq3]
      refine wpAnyH_take (i := 48) (v := .bool false) rfl (by kernel_rfl) (by kernel_rfl) (by kernel_rfl) (fun _ _ _ h => h) (Or.inl ⟨by kernel_rfl, ?y109⟩) hHeld ?z109
      case y109 => (intro wq hSw; (try dsimp only at hSw); go_simp)
      try simp only [Act.put, qq1, qq2, qq3]
      refine wpAnyH_take (i := 49) (v := .bool false) rfl (by kernel_rfl) (by kernel_rfl) (by kernel_rfl) (fun _ _ _ h => h) (Or.inl ⟨by kernel_rfl, ?y110⟩) hHeld ?z110
      case y110 => (intro wq hSw; (try dsimp only at hSw); go_simp)
      try simp only [Act.put, qq1, qq2, qq3]
      refine wpAnyH_take (i := 50) (v := .bool false) rfl (by kernel_rfl) (by kernel_rfl) (by kernel_rfl) (fun _ _ _ h => h) (Or.inl ⟨by kernel_rfl, ?y111⟩) hHeld ?z111
      case y111 => (intro wq hSw; (try dsimp only at hSw); go_simp)
      try simp only [Act.put, qq1, qq2, qq3]
      try simp only [Act.put, List.getElem_toArray, List.getElem_cons_succ, List.getElem_cons_zero, qq1, qq2, qq3]
      refine wpAnyH_done (by kernel_rfl) ?_ _
      refine NoPanic.normal ?_
      clear hHeld
      go_wp2
      go_roundw
      case rel => exact ⟨k + 1, by omega, by go_num, hBr.trans ((below_drew wc).mono hBr.size)⟩
      case measure => simp [intOf]; omega
    ·
     have hkm1 : ¬ (k : Int) < (n : Int) := by omega
     have hE := hE9.trans (hBr.mono hE9.size)
     clear PA QA
     go_wp2
     go_ret
     exact ⟨rfl, hE⟩
end Go.Proofs.YtcelbkmnbjcjhaaGreatDoor
namespace Go.Proofs.YtcelbkmnbjcjhaaGreatDoor.haps
open Go.RowKit

set_option maxRecDepth 100000 in
set_option maxHeartbeats 1000000 in
theorem walk (a0 : Option Addr) (len0 cap0 : Nat) (a1 : Option Addr) (len1 cap1 : Nat) (w : World) (r0 : RowOf w a0 len0) (r1 : RowOf w a1 len1) (hT : Tab w) (hMx : Mx w) :
  Calls Tryz.prog 3 #[.slice a0 len0 cap0, .slice a1 len1 cap1] w fun e w' => e = .returned (.bool true) ∧ Below w.heap.size w w' := by
 by_cases h0 : 1048576 < len0
 ·
  have g0 : (1048576 : Int) < (len0 : Int) := by omega
  clear h0 r0 r1
  go_enter Tryz.func3, Tryz.ntmps3
  go_wp2
  go_ret
  exact ⟨rfl, Below.refl _ _⟩
 by_cases h1 : 1048576 < len1
 ·
  have g0 : ¬ (1048576 : Int) < (len0 : Int) := by omega
  have g1 : (1048576 : Int) < (len1 : Int) := by omega
  clear h0 h1 r0 r1
  go_enter Tryz.func3, Tryz.ntmps3
  go_wp2
  go_ret
  exact ⟨rfl, Below.refl _ _⟩
 exact haps_walk a0 len0 cap0 a1 len1 cap1 w (by omega) (by omega) r0 r1 ⟨hT, hMx⟩
end Go.Proofs.YtcelbkmnbjcjhaaGreatDoor.haps
