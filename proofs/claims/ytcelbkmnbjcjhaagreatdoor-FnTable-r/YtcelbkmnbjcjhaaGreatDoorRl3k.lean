/- The model's drawing of a release. -/
import Derived.Test.YtcelbkmnbjcjhaaGreatDoorRlPk
import Derived.Test.YtcelbkmnbjcjhaaGreatDoorRdFk
import Derived.Test.YtcelbkmnbjcjhaaGreatDoorHeldPk
import Derived.Deep.AppendLies
namespace Go.Proofs.YtcelbkmnbjcjhaaGreatDoor
open Go.RowKit Go.Sort

theorem zrows_cons (z : ZoneD) (zs : List ZoneD) (ev : Value) (es : List Value) : (zrows (z :: zs) (ev :: es)).flatten = .string z.name :: ev :: (zrows zs es).flatten := rfl
set_option linter.unusedSimpArgs false in
set_option maxRecDepth 20000 in
set_option maxHeartbeats 8000000 in
theorem src_release (p : Nat) (a : Option Addr) (len cap : Nat) (zs : List Int) (w : World) (hS : SrcAt p a len cap zs w) :
  Calls Tryz.prog 19 #[.pointer (some ⟨p, 0, none⟩)] w fun e w' => RlP p a len cap zs w e w' := by
 obtain ⟨iL, hiL, hL0, hL1, hL2⟩ := infoLink
 obtain ⟨iZ, hiZ, hZ0, hZ1, hZ2⟩ := infoZone
 have S0 := hS.alloc (.cells #[.slice none 0 0, .slice none 0 0, .slice none 0 0] 27)
 go_enter Tryz.func19, Tryz.ntmps19
 go_wp2_with fail
 refine (src_text p a len cap zs _ S0).mono ?_
 rintro e w1 ⟨s, rfl, hs, S1, g1⟩
 clear S0
 go_wp2_with fail
 refine (rd_ReleaseRead s _ (by omega)).mono ?_
 intro e w2 hr
 obtain ⟨rv, zv, lv, ln, cd, R, evs, B, rfl, b2, hB, hW, hR, hnd, n1, n2, n3⟩ := hr.rl
 obtain ⟨Rs, Zs, Ls⟩ := R
 have n1 : Rs.length ≤ 8001 := n1
 have n2 : Zs.length ≤ 8001 := n2
 have n3 : Ls.length ≤ 8001 := n3
 obtain ⟨nr, hnr⟩ : ∃ n, Rs.length = n := ⟨_, rfl⟩
 obtain ⟨nz, hnz⟩ : ∃ n, Zs.length = n := ⟨_, rfl⟩
 obtain ⟨nl, hnl⟩ : ∃ n, Ls.length = n := ⟨_, rfl⟩
 obtain ⟨ra, cr, rfl⟩ : ∃ b c, rv = .slice b nr c := by obtain ⟨b, c, h⟩ := own_shape hR.rr; exact ⟨b, c, by rw [h]; show Value.slice b Rs.length c = _; rw [hnr]⟩
 obtain ⟨za, cz, rfl⟩ : ∃ b c, zv = .slice b nz c := by obtain ⟨b, c, h⟩ := own_shape hR.zz; exact ⟨b, c, by rw [h]; show Value.slice b Zs.length c = _; rw [hnz]⟩
 obtain ⟨la, cl, rfl⟩ : ∃ b c, lv = .slice b nl c := by obtain ⟨b, c, h⟩ := own_shape hR.ll; exact ⟨b, c, by rw [h]; show Value.slice b Ls.length c = _; rw [hnl]⟩
 have HNR : Hid (Rs.length = nr) := hnr
 have HNZ : Hid (Zs.length = nz) := hnz
 have HNL : Hid (Ls.length = nl) := hnl
 rw [hnr] at n1
 rw [hnz] at n2
 rw [hnl] at n3
 have HND : Hid (∀ (i j : Nat) ev ev', evs[i]? = some ev → evs[j]? = some ev' → ev.ownBlock = ev'.ownBlock → i = j) := hnd
 have A3 := RlAt.start hS S1 g1 b2 hB hW hR
 clear hr hnr hnz hnl hnd hS S1 g1 b2 hB hW hR hs
 have hf1 : ∀ w : World, (Instr.field 84 (.agg #[.slice ra nr cr, .slice za nz cz, .slice la nl cl, .int .i64 ln, .int .i64 cd]) 0).run Tryz.prog w = .ok (.agg #[.slice ra nr cr, .slice za nz cz, .slice la nl cl]) w := fun _ => by kernel_rfl
 go_wp2_with fail
 refine (src_one p a len cap zs 15 _ A3.src (by omega) (by omega)).mono ?_
 rintro e w5 ⟨v5, rfl, S5, g5⟩
 have A5 := A3.drawn S5 g5
 clear A3 S5 g5 hf1
 cases v5 with
 | false =>
  have c0 := A5.c0
  have c1 := A5.c1
  have c2 := A5.c2
  have r0 := A5.r0
  have r1 := A5.r1
  have r2 := A5.r2
  have f0 := fz_of A5.rt 0
  have f1 := fz_of A5.rt 1
  have f2 := fz_of A5.rt 2
  obtain ⟨hd, t0, t1, t2⟩ := A5.done
  have HD : Hid (RlP p a len cap zs w (.returned (.agg #[(.slice ra nr cr), (.slice za nz cz), (.slice la nl cl)])) (((w5.setCell ⟨w.heap.size, 0, none⟩ (.slice ra nr cr)).setCell ⟨w.heap.size, 1, none⟩ (.slice za nz cz)).setCell ⟨w.heap.size, 2, none⟩ (.slice la nl cl))) := hd
  clear hd A5
  go_wp2
  exact bodyPost_ret (v := .agg #[(.slice ra nr cr), (.slice za nz cz), (.slice la nl cl)]) (by simp [results, Tryz.results19, go_sem, t0, t1, t2]) rfl HD.out
 | true =>
  go_wp2_with fail
  refine (src_n p a len cap zs 6 _ A5.src (by omega) (by omega)).mono ?_
  rintro e w6 ⟨q6, rfl, l6, u6x, S6, g6⟩
  have A6 := A5.drawn S6 g6
  clear A5 S6 g6
  rcases (show q6 = 0 ∨ q6 = 1 ∨ q6 = 2 ∨ q6 = 3 ∨ q6 = 4 ∨ q6 = 5 by omega) with rfl | rfl | rfl | rfl | rfl | rfl
  ·
   clear l6 u6x
   have c2 := A6.c2
   have f2 := fz_of A6.tp 2
   have hb6 := A6.hW
   have hRR : w6.ownsRow B 88 2 (.slice la nl cl) nl (Ls.map LinkD.cs).flatten := by have h : w6.ownsRow B 88 2 (.slice la nl cl) Ls.length (Ls.map LinkD.cs).flatten := A6.rl.ll; rw [HNL.out] at h; exact h
   have hne : some w2.heap.size ≠ (Value.slice la nl cl).ownBlock := sepT hRR A6.tp tneR.2.1
   go_wp2_with (first | (at_builtin; refine wpList_append_lies _ rfl _ _ 25 rfl B 88 iL (.agg #[.string ⟨#[]⟩, .string ⟨#[]⟩]) 2 32 Tryz.underlying25 hiL hL0 hL1 hL2 rfl (by decide) _ _ _ rfl (World.ownsRow.alloc hRR _) ⟨w6.heap.size, 0, none⟩ 1 1 [.string ⟨#[78, 111, 110, 101]⟩, .string ⟨#[76]⟩] rfl rfl ?d1 ?d2 (by omega) ?d3 ?d4 ?d5 _ rfl ?_) | fail)
   case d1 => exact cells_new _ [.string ⟨#[78, 111, 110, 101]⟩, .string ⟨#[76]⟩] _
   case d2 => intro u hu; simp at hu; rcases hu with rfl | rfl <;> rfl
   case d3 => unfold maxLen; omega
   case d4 => omega
   case d5 => simp; omega
   intro g9 cap9 w9 hown9 hgrow9 hat9 hlt9
   have B6 := A6.alloc (.cells #[.string ⟨#[78, 111, 110, 101]⟩, .string ⟨#[76]⟩] 88)
   have A9 := B6.cell (j := 2) (u := .slice (some ⟨g9, 0, none⟩) (nl + 1) cap9) hgrow9 (fun g e => B6.rowNe (World.ownsRow.alloc hRR _) tneR.2.1 e) (B6.rl.link (x := ⟨⟨#[78, 111, 110, 101]⟩, ⟨#[76]⟩⟩) (by show Ls.length < 9001; have := HNL.out; omega) hgrow9 (by show w9.ownsRow B _ 2 _ (Ls.length + 1) _; rw [HNL.out]; exact hown9) ⟨by decide, by decide⟩) (.inr ⟨rfl, rfl, rfl, rfl⟩)
   have c9 := hgrow9.cell (a := ⟨w2.heap.size, 2, none⟩) B6.c2 hne
   have f9 : w9.frozen? ⟨w2.heap.size, 2, none⟩ = false := by have := fz_of A9.tp 2; rw [World.frozen?_setCell] at this; exact this
   clear hown9 hgrow9 hat9 hlt9 A6 B6 c2 f2 hRR
   have c0 := A9.c0
   have c1 := A9.c1
   have c2 := A9.c2
   have r0 := A9.r0
   have r1 := A9.r1
   have r2 := A9.r2
   have f0 := fz_of A9.rt 0
   have f1 := fz_of A9.rt 1
   have f2 := fz_of A9.rt 2
   obtain ⟨hd, t0, t1, t2⟩ := A9.done
   have HD : Hid (RlP p a len cap zs w (.returned (.agg #[(.slice ra nr cr), (.slice za nz cz), (.slice (some ⟨g9, 0, none⟩) (nl + 1) cap9)])) ((((w9.setCell ⟨w2.heap.size, 2, none⟩ (.slice (some ⟨g9, 0, none⟩) (nl + 1) cap9)).setCell ⟨w.heap.size, 0, none⟩ (.slice ra nr cr)).setCell ⟨w.heap.size, 1, none⟩ (.slice za nz cz)).setCell ⟨w.heap.size, 2, none⟩ (.slice (some ⟨g9, 0, none⟩) (nl + 1) cap9))) := hd
   clear hd A9
   go_wp2
   exact bodyPost_ret (v := .agg #[(.slice ra nr cr), (.slice za nz cz), (.slice (some ⟨g9, 0, none⟩) (nl + 1) cap9)]) (by simp [results, Tryz.results19, go_sem, t0, t1, t2]) rfl HD.out
  ·
   clear l6 u6x
   by_cases h0 : nr = 0
   ·
    have h0' : ¬ (0 : Int) < (nr : Int) := by omega
    clear h0
    have c0x := A6.c0
    have c0 := A6.c0
    have c1 := A6.c1
    have c2 := A6.c2
    have r0 := A6.r0
    have r1 := A6.r1
    have r2 := A6.r2
    have f0 := fz_of A6.rt 0
    have f1 := fz_of A6.rt 1
    have f2 := fz_of A6.rt 2
    obtain ⟨hd, t0, t1, t2⟩ := A6.done
    have HD : Hid (RlP p a len cap zs w (.returned (.agg #[(.slice ra nr cr), (.slice za nz cz), (.slice la nl cl)])) (((w6.setCell ⟨w.heap.size, 0, none⟩ (.slice ra nr cr)).setCell ⟨w.heap.size, 1, none⟩ (.slice za nz cz)).setCell ⟨w.heap.size, 2, none⟩ (.slice la nl cl))) := hd
    clear hd A6
    go_wp2
    exact bodyPost_ret (v := .agg #[(.slice ra nr cr), (.slice za nz cz), (.slice la nl cl)]) (by simp [results, Tryz.results19, go_sem, t0, t1, t2]) rfl HD.out
   ·
    have h0' : (0 : Int) < (nr : Int) := by omega
    obtain ⟨x, Rt, rfl⟩ : ∃ x l, Rs = x :: l := by cases Rs with | nil => exact absurd HNR.out (by simp; omega) | cons x l => exact ⟨x, l, rfl⟩
    have hRR : w6.ownsRow B 90 9 (.slice ra nr cr) nr ((x :: Rt).map RuleD.cs).flatten := by have h : w6.ownsRow B 90 9 (.slice ra nr cr) (x :: Rt).length ((x :: Rt).map RuleD.cs).flatten := A6.rl.rr; rw [HNR.out] at h; exact h
    obtain ⟨g, cg, hv, hgB, hgl⟩ := owns_some hRR (by omega)
    injection hv with hv1 _ hv3
    subst hv1 hv3
    have hgq := (A6.rowNe hRR tneR.1 rfl).2
    have HR2 : Hid (nr = Rt.length + 1) := by have := HNR.out; simp at this; exact this.symm
    have c0x := A6.c0
    go_wp2_with fail
    refine wp_region_noPanic ?_
    refine wp_region_held_drew (S := fun w' => w'.cell? ⟨w2.heap.size, 0, none⟩ = some (.slice (some ⟨g, 0, none⟩) nr cr)) (by kernel_rfl) (show w6.drew.cell? ⟨w2.heap.size, 0, none⟩ = _ from c0x) (fun hHeld => ?_)
    have A7a := A6.drew
    clear A6 c0x hRR
    refine wpAnyH_take (i := 0) (v := ?v1) rfl (by kernel_rfl) (by kernel_rfl) (by kernel_rfl) (fun _ _ _ h => h) (Or.inl ⟨by kernel_rfl, ?y1⟩) hHeld ?z1
    case y1 => (intro wq hSw; (try dsimp only at hSw); go_simp; try with_reducible rfl)
    try simp only [Act.put, qq1, qq2, qq3]
    refine wpAnyH_take (i := 1) (v := ?v2) rfl (by kernel_rfl) (by kernel_rfl) (by kernel_rfl) (fun _ _ _ h => h) (Or.inl ⟨by kernel_rfl, ?y2⟩) hHeld ?z2
    case y2 => (intro wq hSw; (try dsimp only at hSw); go_simp; try with_reducible rfl)
    try simp only [Act.put, qq1, qq2, qq3]
    refine wpAnyH_take (i := 2) (v := ?v3) rfl (by kernel_rfl) (by kernel_rfl) (by kernel_rfl) (fun _ _ _ h => h) (Or.inl ⟨by kernel_rfl, ?y3⟩) hHeld ?z3
    case y3 => (intro wq hSw; (try dsimp only at hSw); go_simp; try with_reducible rfl)
    try simp only [Act.put, qq1, qq2, qq3]
    refine wpAnyH_ready (rs := [3]) (by kernel_rfl) (by simp) ?_
    refine AllReadyH.cons rfl (fun K hK => ?_) AllReadyH.nil
    go_simp
    refine (src_n p a len cap zs 2000 _ A7a.src (by omega) (by omega)).mono ?_
    rintro e w7 ⟨x7, rfl, l7, u7x, S7, g7⟩
    have A7 := A7a.drawn S7 g7
    clear S7 g7 A7a hHeld
    have c7 := A7.c0
    have hR7 : w7.ownsRow B 90 9 (.slice (some ⟨g, 0, none⟩) nr cr) nr ((x :: Rt).map RuleD.cs).flatten := by have h : w7.ownsRow B 90 9 (.slice (some ⟨g, 0, none⟩) nr cr) (x :: Rt).length ((x :: Rt).map RuleD.cs).flatten := A7.rl.rr; rw [HNR.out] at h; exact h
    have k7 : w7.cell? ⟨g, 2, none⟩ = some (.int .i64 x.hi) := by rw [hR7.cellAt 2 (by omega)]; rfl
    have z7 := hR7.frozenAt 2
    have A8 := A7.row (World.ownsRow.stored hR7 2 (.int .i64 x7)).2 hgB hgq (A7.rl.rule0 (j := 2) (u := .int .i64 x7) (x' := ⟨x.name, x.lo, x7, x.month, x.on, x.at_, x.of, x.save, x.letter⟩) HR2.out (by omega) rfl (A7.rl.sm.1 x (by simp)))
    go_wp2_with fail
    refine hK.out _ _ c7 (fun hHeld => ?_)
    clear hK K
    try simp only [Act.put, qq1, qq2, qq3]
    refine wpAnyH_take (i := 4) (v := ?v4) rfl (by kernel_rfl) (by kernel_rfl) (by kernel_rfl) (fun _ _ _ h => h) (Or.inl ⟨by kernel_rfl, ?y4⟩) hHeld ?z4
    case y4 => (intro wq hSw; (try dsimp only at hSw); go_simp; try with_reducible rfl)
    try simp only [Act.put, qq1, qq2, qq3]
    refine wpAnyH_take (i := 5) (v := ?v5) rfl (by kernel_rfl) (by kernel_rfl) (by kernel_rfl) (fun _ _ _ h => h) (Or.inl ⟨by kernel_rfl, ?y5⟩) hHeld ?z5
    case y5 => (intro wq hSw; (try dsimp only at hSw); go_simp; try with_reducible rfl)
    try simp only [Act.put, qq1, qq2, qq3]
    refine wpAnyH_ready (rs := [6]) (by kernel_rfl) (by simp) ?_
    refine AllReadyH.cons rfl (fun K hK => ?_) AllReadyH.nil
    go_simp
    refine hK.out _ _ A8.c0 (fun hHeld => ?_)
    clear hK K hHeld A7 hR7 k7 z7 c7
    try simp only [Act.put, qq1, qq2, qq3]
    refine wpAnyH_done (by kernel_rfl) ?_ _
    refine NoPanic.normal ?_
    have c0 := A8.c0
    have c1 := A8.c1
    have c2 := A8.c2
    have r0 := A8.r0
    have r1 := A8.r1
    have r2 := A8.r2
    have f0 := fz_of A8.rt 0
    have f1 := fz_of A8.rt 1
    have f2 := fz_of A8.rt 2
    obtain ⟨hd, t0, t1, t2⟩ := A8.done
    have HD : Hid (RlP p a len cap zs w (.returned (.agg #[(.slice (some ⟨g, 0, none⟩) nr cr), (.slice za nz cz), (.slice la nl cl)])) ((((w7.setCell ⟨g, 2, none⟩ (.int .i64 x7)).setCell ⟨w.heap.size, 0, none⟩ (.slice (some ⟨g, 0, none⟩) nr cr)).setCell ⟨w.heap.size, 1, none⟩ (.slice za nz cz)).setCell ⟨w.heap.size, 2, none⟩ (.slice la nl cl))) := hd
    clear hd A8
    go_wp2
    exact bodyPost_ret (v := .agg #[(.slice (some ⟨g, 0, none⟩) nr cr), (.slice za nz cz), (.slice la nl cl)]) (by simp [results, Tryz.results19, go_sem, t0, t1, t2]) rfl HD.out
  ·
   clear l6 u6x
   by_cases h0 : nz = 0
   ·
    have h0' : ¬ (0 : Int) < (nz : Int) := by omega
    clear h0
    have c1x := A6.c1
    have c0 := A6.c0
    have c1 := A6.c1
    have c2 := A6.c2
    have r0 := A6.r0
    have r1 := A6.r1
    have r2 := A6.r2
    have f0 := fz_of A6.rt 0
    have f1 := fz_of A6.rt 1
    have f2 := fz_of A6.rt 2
    obtain ⟨hd, t0, t1, t2⟩ := A6.done
    have HD : Hid (RlP p a len cap zs w (.returned (.agg #[(.slice ra nr cr), (.slice za nz cz), (.slice la nl cl)])) (((w6.setCell ⟨w.heap.size, 0, none⟩ (.slice ra nr cr)).setCell ⟨w.heap.size, 1, none⟩ (.slice za nz cz)).setCell ⟨w.heap.size, 2, none⟩ (.slice la nl cl))) := hd
    clear hd A6
    go_wp2
    exact bodyPost_ret (v := .agg #[(.slice ra nr cr), (.slice za nz cz), (.slice la nl cl)]) (by simp [results, Tryz.results19, go_sem, t0, t1, t2]) rfl HD.out
   ·
    have h0' : (0 : Int) < (nz : Int) := by omega
    obtain ⟨z, Zt, rfl⟩ : ∃ x l, Zs = x :: l := by cases Zs with | nil => exact absurd HNZ.out (by simp; omega) | cons x l => exact ⟨x, l, rfl⟩
    obtain ⟨ev, Et, rfl⟩ : ∃ x l, evs = x :: l := by cases evs with | nil => exact absurd A6.rl.el (by simp) | cons x l => exact ⟨x, l, rfl⟩
    have hZZ : w6.ownsRow B 49 2 (.slice za nz cz) nz (zrows (z :: Zt) (ev :: Et)).flatten := by have h : w6.ownsRow B 49 2 (.slice za nz cz) (z :: Zt).length (zrows (z :: Zt) (ev :: Et)).flatten := A6.rl.zz; rw [HNZ.out] at h; exact h
    obtain ⟨gz, cg, hv, hgB, hgl⟩ := owns_some hZZ (by omega)
    injection hv with hv1 _ hv3
    subst hv1 hv3
    have hgq := (A6.rowNe hZZ tneR.2.2.1 rfl).2
    have HZ2 : Hid (nz = Zt.length + 1) := by have := HNZ.out; simp at this; exact this.symm
    have kz0 : w6.cell? ⟨gz, 0, none⟩ = some (.string z.name) := by rw [hZZ.cellAt 0 (by omega), zrows_cons]; rfl
    have kz1 : w6.cell? ⟨gz, 1, none⟩ = some ev := by rw [hZZ.cellAt 1 (by omega), zrows_cons]; rfl
    obtain ⟨nm, es⟩ := z
    have kz0 : w6.cell? ⟨gz, 0, none⟩ = some (.string nm) := kz0
    obtain ⟨ae, ce, ne, rfl⟩ : ∃ b c n, ev = .slice b n c := by obtain ⟨b, c, h⟩ := own_shape (A6.rl.ee 0 ⟨nm, es⟩ ev rfl rfl).1; exact ⟨b, c, _, h⟩
    have c1x := A6.c1
    have f1x := fz_of A6.tp 1
    have hb6 := A6.hW
    have hlt := A6.lt
    have hne : some w2.heap.size ≠ (Value.slice (some ⟨gz, 0, none⟩) nz cz).ownBlock := sepT hZZ A6.tp tneR.2.2.1
    have c1a : (w6.alloc (.cells #[.string nm, (.slice ae ne ce)] 49)).cell? ⟨w2.heap.size, 1, none⟩ = some (.slice (some ⟨gz, 0, none⟩) nz cz) := keepC ((Below.refl _ w6).alloc (Nat.le_refl _) _) c1x
    have ba : ∀ o, Below w6.heap.size w6 (w6.drew.alloc o) := fun o => (show Below w6.heap.size w6 w6.drew from below_drew w6).alloc (Nat.le_refl _) o
    have HA6 : Hid (RlAt p a len cap zs w w2.heap.size B (.slice ra nr cr) (.slice (some ⟨gz, 0, none⟩) nz cz) (.slice la nl cl) ⟨Rs, ⟨nm, es⟩ :: Zt, Ls⟩ ((.slice ae ne ce) :: Et) w6) := A6
    clear A6
    go_upto_region 13 with fail
    go_region_law (refine step_append_lies _ (by rfl) (.tmp 55) (.tmp 60) 24 (by rfl) B 49 iZ (.agg #[.string ⟨#[]⟩, .slice none 0 0]) 2 40 Tryz.underlying24 hiZ hZ0 hZ1 hZ2 rfl (by omega) (.slice (some ⟨gz, 0, none⟩) nz cz) nz (zrows (⟨nm, es⟩ :: Zt) ((.slice ae ne ce) :: Et)).flatten (by rfl) (World.ownsRow.alloc (w := w6.drew) hZZ _) ⟨w6.heap.size, 0, none⟩ 1 1 [.string nm, (.slice ae ne ce)] (by rfl) rfl (cells_new _ _ _) (by intro u hu; simp at hu; rcases hu with rfl | rfl <;> rfl) (by omega) (by unfold maxLen; omega) (by omega) (by simp; omega) _ rfl ?_; intro g9 cap9 w9 hown9 hgrow9 hat9 hlt9; have x1 := hgrow9.cell (a := ⟨w2.heap.size, 1, none⟩) (bkeep (w1 := w6) c1x (ba _)) hne; have x2 := (hgrow9.frozen_far ⟨w2.heap.size, 1, none⟩ (by simp; omega) hne).trans (((bcell (ba _)).2 _ _ hlt).trans f1x))
    all_goals
     have B6 := HA6.out.below (ba (.cells #[.string nm, (.slice ae ne ce)] 49))
     have A9 := B6.cell (j := 1) (u := .slice (some ⟨g9, 0, none⟩) (nz + 1) cap9) hgrow9 (fun g e => B6.rowNe (World.ownsRow.alloc (w := w6.drew) hZZ _) tneR.2.2.1 e) (B6.rl.zone (by have := HZ2.out; omega) hgrow9 (by rw [← HZ2.out]; exact hown9)) (.inl ⟨rfl, rfl, rfl, rfl⟩)
     clear hown9 hgrow9 hat9 hlt9 B6 x1 x2 HA6 c1x f1x c1a kz0 kz1 hZZ
     have c0 := A9.c0
     have c1 := A9.c1
     have c2 := A9.c2
     have r0 := A9.r0
     have r1 := A9.r1
     have r2 := A9.r2
     have f0 := fz_of A9.rt 0
     have f1 := fz_of A9.rt 1
     have f2 := fz_of A9.rt 2
     obtain ⟨hd, t0, t1, t2⟩ := A9.done
     have HD : Hid (RlP p a len cap zs w (.returned (.agg #[(.slice ra nr cr), (.slice (some ⟨g9, 0, none⟩) (nz + 1) cap9), (.slice la nl cl)])) ((((w9.setCell ⟨w2.heap.size, 1, none⟩ (.slice (some ⟨g9, 0, none⟩) (nz + 1) cap9)).setCell ⟨w.heap.size, 0, none⟩ (.slice ra nr cr)).setCell ⟨w.heap.size, 1, none⟩ (.slice (some ⟨g9, 0, none⟩) (nz + 1) cap9)).setCell ⟨w.heap.size, 2, none⟩ (.slice la nl cl))) := hd
     clear hd A9
     go_wp2
     exact bodyPost_ret (v := .agg #[(.slice ra nr cr), (.slice (some ⟨g9, 0, none⟩) (nz + 1) cap9), (.slice la nl cl)]) (by simp [results, Tryz.results19, go_sem, t0, t1, t2]) rfl HD.out
  ·
   clear l6 u6x
   by_cases h0 : nz = 0
   ·
    have h0' : ¬ (0 : Int) < (nz : Int) := by omega
    clear h0
    have c1x := A6.c1
    have c0 := A6.c0
    have c1 := A6.c1
    have c2 := A6.c2
    have r0 := A6.r0
    have r1 := A6.r1
    have r2 := A6.r2
    have f0 := fz_of A6.rt 0
    have f1 := fz_of A6.rt 1
    have f2 := fz_of A6.rt 2
    obtain ⟨hd, t0, t1, t2⟩ := A6.done
    have HD : Hid (RlP p a len cap zs w (.returned (.agg #[(.slice ra nr cr), (.slice za nz cz), (.slice la nl cl)])) (((w6.setCell ⟨w.heap.size, 0, none⟩ (.slice ra nr cr)).setCell ⟨w.heap.size, 1, none⟩ (.slice za nz cz)).setCell ⟨w.heap.size, 2, none⟩ (.slice la nl cl))) := hd
    clear hd A6
    go_wp2
    exact bodyPost_ret (v := .agg #[(.slice ra nr cr), (.slice za nz cz), (.slice la nl cl)]) (by simp [results, Tryz.results19, go_sem, t0, t1, t2]) rfl HD.out
   ·
    have h0' : (0 : Int) < (nz : Int) := by omega
    obtain ⟨z, Zt, rfl⟩ : ∃ x l, Zs = x :: l := by cases Zs with | nil => exact absurd HNZ.out (by simp; omega) | cons x l => exact ⟨x, l, rfl⟩
    obtain ⟨ev, Et, rfl⟩ : ∃ x l, evs = x :: l := by cases evs with | nil => exact absurd A6.rl.el (by simp) | cons x l => exact ⟨x, l, rfl⟩
    have hZZ : w6.ownsRow B 49 2 (.slice za nz cz) nz (zrows (z :: Zt) (ev :: Et)).flatten := by have h : w6.ownsRow B 49 2 (.slice za nz cz) (z :: Zt).length (zrows (z :: Zt) (ev :: Et)).flatten := A6.rl.zz; rw [HNZ.out] at h; exact h
    obtain ⟨gz, cg, hv, hgB, hgl⟩ := owns_some hZZ (by omega)
    injection hv with hv1 _ hv3
    subst hv1 hv3
    have hgq := (A6.rowNe hZZ tneR.2.2.1 rfl).2
    have HZ2 : Hid (nz = Zt.length + 1) := by have := HNZ.out; simp at this; exact this.symm
    have kz0 : w6.cell? ⟨gz, 0, none⟩ = some (.string z.name) := by rw [hZZ.cellAt 0 (by omega), zrows_cons]; rfl
    have kz1 : w6.cell? ⟨gz, 1, none⟩ = some ev := by rw [hZZ.cellAt 1 (by omega), zrows_cons]; rfl
    obtain ⟨nm, es⟩ := z
    obtain ⟨o6, o7, o8⟩ := A6.rl.ee 0 ⟨nm, es⟩ ev rfl rfl
    obtain ⟨x, Et0, rfl⟩ : ∃ x l, es = x :: l := by cases es with | nil => simp at o7 | cons x l => exact ⟨x, l, rfl⟩
    obtain ⟨ge, ce, hv, hgeB, hgel⟩ := owns_some o6 (by simp)
    subst hv
    have hgeq := (A6.rowNe o6 tneR.2.2.2 rfl).2
    have hgez : ge ≠ gz := fun e => by rcases sep2 o6 hZZ (Ne.symm tne0) with h | h; cases h; exact h (by simp [Value.ownBlock, e])
    obtain ⟨ne, hne⟩ : ∃ n, (x :: Et0).length = n := ⟨_, rfl⟩
    have HNE : Hid (ne = Et0.length + 1) := by rw [← hne]; rfl
    have hnp : 0 < ne := by rw [← hne]; simp
    have kz1 : w6.cell? ⟨gz, 1, none⟩ = some (.slice (some ⟨ge, 0, none⟩) ne ce) := by rw [← hne]; exact kz1
    have hnp2 : (0 : Int) < (ne : Int) := by omega
    have A6 : RlAt p a len cap zs w w2.heap.size B (.slice ra nr cr) (.slice (some ⟨gz, 0, none⟩) nz cz) (.slice la nl cl) ⟨Rs, ⟨nm, x :: Et0⟩ :: Zt, Ls⟩ ((.slice (some ⟨ge, 0, none⟩) ne ce) :: Et) w6 := by rw [← hne]; exact A6
    have HND : Hid (∀ (i j : Nat) ev ev', ((.slice (some ⟨ge, 0, none⟩) ne ce) :: Et)[i]? = some ev → ((.slice (some ⟨ge, 0, none⟩) ne ce) :: Et)[j]? = some ev' → ev.ownBlock = ev'.ownBlock → i = j) := by rw [← hne]; exact HND
    clear o6 o7 o8 hne
    have c1x := A6.c1
    go_wp2_with fail
    refine wp_region_noPanic ?_
    refine wp_region_held_drew (S := fun w' => w'.cell? ⟨w2.heap.size, 1, none⟩ = some (.slice (some ⟨gz, 0, none⟩) nz cz) ∧ w'.cell? ⟨gz, 1, none⟩ = some (.slice (some ⟨ge, 0, none⟩) ne ce)) (by kernel_rfl) ⟨(show w6.drew.cell? ⟨w2.heap.size, 1, none⟩ = _ from c1x), (show w6.drew.cell? ⟨gz, 1, none⟩ = _ from kz1)⟩ (fun hHeld => ?_)
    have A7a := A6.drew
    clear A6 c1x kz0 kz1 hZZ
    refine wpAnyH_take (i := 0) (v := ?v6) rfl (by kernel_rfl) (by kernel_rfl) (by kernel_rfl) (fun _ _ _ h => h) (Or.inl ⟨by kernel_rfl, ?y6⟩) hHeld ?z6
    case y6 => (intro wq hSw; (try dsimp only at hSw); go_simp; try with_reducible rfl)
    try simp only [Act.put, qq1, qq2, qq3]
    refine wpAnyH_take (i := 1) (v := ?v7) rfl (by kernel_rfl) (by kernel_rfl) (by kernel_rfl) (fun _ _ _ h => h) (Or.inl ⟨by kernel_rfl, ?y7⟩) hHeld ?z7
    case y7 => (intro wq hSw; (try dsimp only at hSw); go_simp; try with_reducible rfl)
    try simp only [Act.put, qq1, qq2, qq3]
    refine wpAnyH_take (i := 2) (v := ?v8) rfl (by kernel_rfl) (by kernel_rfl) (by kernel_rfl) (fun _ _ _ h => h) (Or.inl ⟨by kernel_rfl, ?y8⟩) hHeld ?z8
    case y8 => (intro wq hSw; (try dsimp only at hSw); go_simp; try with_reducible rfl)
    try simp only [Act.put, qq1, qq2, qq3]
    refine wpAnyH_take (i := 3) (v := ?v9) rfl (by kernel_rfl) (by kernel_rfl) (by kernel_rfl) (fun _ _ _ h => h) (Or.inl ⟨by kernel_rfl, ?y9⟩) hHeld ?z9
    case y9 => (intro wq hSw; (try dsimp only at hSw); go_simp; try with_reducible rfl)
    try simp only [Act.put, qq1, qq2, qq3]
    refine wpAnyH_take (i := 4) (v := ?v10) rfl (by kernel_rfl) (by kernel_rfl) (by kernel_rfl) (fun _ _ _ h => h) (Or.inl ⟨by kernel_rfl, ?y10⟩) hHeld ?z10
    case y10 => (intro wq hSw; (try dsimp only at hSw); go_simp; try with_reducible rfl)
    try simp only [Act.put, qq1, qq2, qq3]
    refine wpAnyH_take (i := 6) (v := ?v11) rfl (by kernel_rfl) (by kernel_rfl) (by kernel_rfl) (fun _ _ _ h => h) (Or.inl ⟨by kernel_rfl, ?y11⟩) hHeld ?z11
    case y11 => (intro wq hSw; (try dsimp only at hSw); go_simp; try with_reducible rfl)
    try simp only [Act.put, qq1, qq2, qq3]
    refine wpAnyH_ready (rs := [5, 7]) (by kernel_rfl) (by simp) ?_
    refine AllReadyH.cons rfl (fun K hK => ?_) (AllReadyH.cons rfl (fun K hK => ?_) AllReadyH.nil)
    ·
     skip
     go_simp
     have A7b := A7a.alloc (.cells (([253402300799, 5, -62135596801] : List Int).map (Value.int .i64)).toArray 2)
     refine hK.out _ _ ⟨keepC ((Below.refl _ w6.drew).alloc (Nat.le_refl _) _) hHeld.1, keepC ((Below.refl _ w6.drew).alloc (Nat.le_refl _) _) hHeld.2⟩ (fun hHeld => ?_)
     clear hK K
     try simp only [Act.put, qq1, qq2, qq3]
     refine wpAnyH_ready (rs := [7]) (by kernel_rfl) (by simp) ?_
     refine AllReadyH.cons rfl (fun K hK => ?_) AllReadyH.nil
     go_simp
     refine (src_n p a len cap zs 3 _ A7b.src (by omega) (by omega)).mono ?_
     rintro e w7 ⟨m7, rfl, l7, u7x, S7, g7⟩
     have A7 := A7b.drawn S7 g7
     obtain ⟨y, cx⟩ := pick_after ([253402300799, 5, -62135596801] : List Int) A7a.src.lt g7 l7 (by simpa using u7x)
     obtain ⟨m, rfl⟩ := Int.eq_ofNat_of_zero_le l7
     simp only [Int.toNat_natCast] at cx
     have hH2 : (fun w' => w'.cell? ⟨w2.heap.size, 1, none⟩ = some (.slice (some ⟨gz, 0, none⟩) nz cz) ∧ w'.cell? ⟨gz, 1, none⟩ = some (.slice (some ⟨ge, 0, none⟩) ne ce)) w7 := ⟨A7.c1, g7.cell (a := ⟨gz, 1, none⟩) hHeld.2 (by have := A7.hp; have := A7.hB; simp; omega)⟩
     clear S7 g7 A7a A7b l7 hHeld
     go_wp2_with fail
     refine hK.out _ _ hH2 (fun hHeld => ?_)
     clear hK K hH2
     try simp only [Act.put, qq1, qq2, qq3]
     have hE7 : w7.ownsRow B 55 6 (.slice (some ⟨ge, 0, none⟩) ne ce) ne ((x :: Et0).map EraD.cs).flatten := by have h := (A7.rl.ee 0 ⟨nm, x :: Et0⟩ _ rfl rfl).1; rw [show (⟨nm, x :: Et0⟩ : ZoneD).eras.length = ne from HNE.out.symm] at h; exact h
     have k7 : w7.cell? ⟨ge, 4, none⟩ = some (.int .i64 x.until_) := by rw [hE7.cellAt 4 (by omega)]; rfl
     have z7 := hE7.frozenAt 4
     have A8 := A7.row (World.ownsRow.stored hE7 4 (.int .i64 y)).2 hgeB hgeq (A7.rl.era0 (j := 4) (u := .int .i64 y) (x' := ⟨x.offset, x.rules, x.save, x.format, y, x.of⟩) HND.out HNE.out (by omega) rfl ((A7.rl.sm.2.1 ⟨nm, x :: Et0⟩ (by simp)).2 x (by simp)))
     refine wpAnyH_sub (S2 := fun w' => w'.cell? ⟨w2.heap.size, 1, none⟩ = some (.slice (some ⟨gz, 0, none⟩) nz cz) ∧ w'.cell? ⟨gz, 1, none⟩ = some (.slice (some ⟨ge, 0, none⟩) ne ce) ∧ w'.cell? ⟨w6.heap.size, m, none⟩ = some (.int .i64 y)) (fun _ h => ⟨h.1, h.2.1⟩) _ _ _ _ ?_
     have hHeld : (fun w' => w'.cell? ⟨w2.heap.size, 1, none⟩ = some (.slice (some ⟨gz, 0, none⟩) nz cz) ∧ w'.cell? ⟨gz, 1, none⟩ = some (.slice (some ⟨ge, 0, none⟩) ne ce) ∧ w'.cell? ⟨w6.heap.size, m, none⟩ = some (.int .i64 y)) w7 := ⟨hHeld.1, hHeld.2, cx⟩
     refine wpAnyH_take (i := 8) (v := ?v12) rfl (by kernel_rfl) (by kernel_rfl) (by kernel_rfl) (fun _ _ _ h => h) (Or.inl ⟨by kernel_rfl, ?y12⟩) hHeld ?z12
     case y12 => (intro wq hSw; (try dsimp only at hSw); go_simp; try with_reducible rfl)
     try simp only [Act.put, qq1, qq2, qq3]
     refine wpAnyH_take (i := 9) (v := ?v13) rfl (by kernel_rfl) (by kernel_rfl) (by kernel_rfl) (fun _ _ _ h => h) (Or.inl ⟨by kernel_rfl, ?y13⟩) hHeld ?z13
     case y13 => (intro wq hSw; (try dsimp only at hSw); go_simp; try with_reducible rfl)
     try simp only [Act.put, qq1, qq2, qq3]
     refine wpAnyH_take (i := 10) (v := ?v14) rfl (by kernel_rfl) (by kernel_rfl) (by kernel_rfl) (fun _ _ _ h => h) (Or.inl ⟨by kernel_rfl, ?y14⟩) hHeld ?z14
     case y14 => (intro wq hSw; (try dsimp only at hSw); go_simp; try with_reducible rfl)
     try simp only [Act.put, qq1, qq2, qq3]
     refine wpAnyH_take (i := 11) (v := ?v15) rfl (by kernel_rfl) (by kernel_rfl) (by kernel_rfl) (fun _ _ _ h => h) (Or.inl ⟨by kernel_rfl, ?y15⟩) hHeld ?z15
     case y15 => (intro wq hSw; (try dsimp only at hSw); go_simp; try with_reducible rfl)
     try simp only [Act.put, qq1, qq2, qq3]
     refine wpAnyH_ready (rs := [12]) (by kernel_rfl) (by simp) ?_
     refine AllReadyH.cons rfl (fun K hK => ?_) AllReadyH.nil
     have hH3 : (fun w' => w'.cell? ⟨w2.heap.size, 1, none⟩ = some (.slice (some ⟨gz, 0, none⟩) nz cz) ∧ w'.cell? ⟨gz, 1, none⟩ = some (.slice (some ⟨ge, 0, none⟩) ne ce) ∧ w'.cell? ⟨w6.heap.size, m, none⟩ = some (.int .i64 y)) (w7.setCell ⟨ge, 4, none⟩ (.int .i64 y)) := ⟨A8.c1, by rw [World.cell?_setCell_other _ _ _ _ (by intro e; injection e with e; omega)]; exact hHeld.2.1, by rw [World.cell?_setCell_other _ _ _ _ (by intro e; injection e with e; omega)]; exact cx⟩
     go_simp
     refine hK.out _ _ hH3 (fun hHeld => ?_)
     clear hK K hHeld hH3 A7 hE7 k7 z7 cx
     try simp only [Act.put, qq1, qq2, qq3]
     refine wpAnyH_done (by kernel_rfl) ?_ _
     refine NoPanic.normal ?_
     have c0 := A8.c0
     have c1 := A8.c1
     have c2 := A8.c2
     have r0 := A8.r0
     have r1 := A8.r1
     have r2 := A8.r2
     have f0 := fz_of A8.rt 0
     have f1 := fz_of A8.rt 1
     have f2 := fz_of A8.rt 2
     obtain ⟨hd, t0, t1, t2⟩ := A8.done
     have HD : Hid (RlP p a len cap zs w (.returned (.agg #[(.slice ra nr cr), (.slice (some ⟨gz, 0, none⟩) nz cz), (.slice la nl cl)])) ((((w7.setCell ⟨ge, 4, none⟩ (.int .i64 y)).setCell ⟨w.heap.size, 0, none⟩ (.slice ra nr cr)).setCell ⟨w.heap.size, 1, none⟩ (.slice (some ⟨gz, 0, none⟩) nz cz)).setCell ⟨w.heap.size, 2, none⟩ (.slice la nl cl))) := hd
     clear hd A8
     go_wp2
     exact bodyPost_ret (v := .agg #[(.slice ra nr cr), (.slice (some ⟨gz, 0, none⟩) nz cz), (.slice la nl cl)]) (by simp [results, Tryz.results19, go_sem, t0, t1, t2]) rfl HD.out
    ·
     skip
     go_simp
     refine (src_n p a len cap zs 3 _ A7a.src (by omega) (by omega)).mono ?_
     rintro e w7 ⟨m7, rfl, l7, u7x, S7, g7⟩
     have A7b := A7a.drawn S7 g7
     have hz7 : ge < w7.heap.size := by have := g7.size; simp at this; omega
     have hH2 : (fun w' => w'.cell? ⟨w2.heap.size, 1, none⟩ = some (.slice (some ⟨gz, 0, none⟩) nz cz) ∧ w'.cell? ⟨gz, 1, none⟩ = some (.slice (some ⟨ge, 0, none⟩) ne ce)) w7 := ⟨A7b.c1, g7.cell (a := ⟨gz, 1, none⟩) hHeld.2 (by have := A7b.hp; have := A7b.hB; simp; omega)⟩
     clear S7 g7 A7a hHeld
     go_wp2_with fail
     refine hK.out _ _ hH2 (fun hHeld => ?_)
     clear hK K hH2
     try simp only [Act.put, qq1, qq2, qq3]
     refine wpAnyH_ready (rs := [5]) (by kernel_rfl) (by simp) ?_
     refine AllReadyH.cons rfl (fun K hK => ?_) AllReadyH.nil
     have A7 := A7b.alloc (.cells #[.int .i64 253402300799, .int .i64 5, .int .i64 (-62135596801)] 2)
     obtain ⟨m, rfl⟩ := Int.eq_ofNat_of_zero_le l7
     obtain ⟨y, cx⟩ : ∃ x : Int, (w7.alloc (.cells #[.int .i64 253402300799, .int .i64 5, .int .i64 (-62135596801)] 2)).cell? ⟨w7.heap.size, m, none⟩ = some (.int .i64 x) := ⟨_, pick_int w7 2 ([253402300799, 5, -62135596801] : List Int) m (by simp; omega)⟩
     clear l7 A7b
     go_simp
     refine hK.out _ _ ⟨keepC ((Below.refl _ w7).alloc (Nat.le_refl _) _) hHeld.1, keepC ((Below.refl _ w7).alloc (Nat.le_refl _) _) hHeld.2⟩ (fun hHeld => ?_)
     clear hK K
     try simp only [Act.put, qq1, qq2, qq3]
     generalize (w7.alloc (.cells #[.int .i64 253402300799, .int .i64 5, .int .i64 (-62135596801)] 2)) = wv at *
     have hE7 : wv.ownsRow B 55 6 (.slice (some ⟨ge, 0, none⟩) ne ce) ne ((x :: Et0).map EraD.cs).flatten := by have h := (A7.rl.ee 0 ⟨nm, x :: Et0⟩ _ rfl rfl).1; rw [show (⟨nm, x :: Et0⟩ : ZoneD).eras.length = ne from HNE.out.symm] at h; exact h
     have k7 : wv.cell? ⟨ge, 4, none⟩ = some (.int .i64 x.until_) := by rw [hE7.cellAt 4 (by omega)]; rfl
     have z7 := hE7.frozenAt 4
     have A8 := A7.row (World.ownsRow.stored hE7 4 (.int .i64 y)).2 hgeB hgeq (A7.rl.era0 (j := 4) (u := .int .i64 y) (x' := ⟨x.offset, x.rules, x.save, x.format, y, x.of⟩) HND.out HNE.out (by omega) rfl ((A7.rl.sm.2.1 ⟨nm, x :: Et0⟩ (by simp)).2 x (by simp)))
     refine wpAnyH_sub (S2 := fun w' => w'.cell? ⟨w2.heap.size, 1, none⟩ = some (.slice (some ⟨gz, 0, none⟩) nz cz) ∧ w'.cell? ⟨gz, 1, none⟩ = some (.slice (some ⟨ge, 0, none⟩) ne ce) ∧ w'.cell? ⟨w7.heap.size, m, none⟩ = some (.int .i64 y)) (fun _ h => ⟨h.1, h.2.1⟩) _ _ _ _ ?_
     have hHeld : (fun w' => w'.cell? ⟨w2.heap.size, 1, none⟩ = some (.slice (some ⟨gz, 0, none⟩) nz cz) ∧ w'.cell? ⟨gz, 1, none⟩ = some (.slice (some ⟨ge, 0, none⟩) ne ce) ∧ w'.cell? ⟨w7.heap.size, m, none⟩ = some (.int .i64 y)) wv := ⟨hHeld.1, hHeld.2, cx⟩
     refine wpAnyH_take (i := 8) (v := ?v16) rfl (by kernel_rfl) (by kernel_rfl) (by kernel_rfl) (fun _ _ _ h => h) (Or.inl ⟨by kernel_rfl, ?y16⟩) hHeld ?z16
     case y16 => (intro wq hSw; (try dsimp only at hSw); go_simp; try with_reducible rfl)
     try simp only [Act.put, qq1, qq2, qq3]
     refine wpAnyH_take (i := 9) (v := ?v17) rfl (by kernel_rfl) (by kernel_rfl) (by kernel_rfl) (fun _ _ _ h => h) (Or.inl ⟨by kernel_rfl, ?y17⟩) hHeld ?z17
     case y17 => (intro wq hSw; (try dsimp only at hSw); go_simp; try with_reducible rfl)
     try simp only [Act.put, qq1, qq2, qq3]
     refine wpAnyH_take (i := 10) (v := ?v18) rfl (by kernel_rfl) (by kernel_rfl) (by kernel_rfl) (fun _ _ _ h => h) (Or.inl ⟨by kernel_rfl, ?y18⟩) hHeld ?z18
     case y18 => (intro wq hSw; (try dsimp only at hSw); go_simp; try with_reducible rfl)
     try simp only [Act.put, qq1, qq2, qq3]
     refine wpAnyH_take (i := 11) (v := ?v19) rfl (by kernel_rfl) (by kernel_rfl) (by kernel_rfl) (fun _ _ _ h => h) (Or.inl ⟨by kernel_rfl, ?y19⟩) hHeld ?z19
     case y19 => (intro wq hSw; (try dsimp only at hSw); go_simp; try with_reducible rfl)
     try simp only [Act.put, qq1, qq2, qq3]
     refine wpAnyH_ready (rs := [12]) (by kernel_rfl) (by simp) ?_
     refine AllReadyH.cons rfl (fun K hK => ?_) AllReadyH.nil
     have hH3 : (fun w' => w'.cell? ⟨w2.heap.size, 1, none⟩ = some (.slice (some ⟨gz, 0, none⟩) nz cz) ∧ w'.cell? ⟨gz, 1, none⟩ = some (.slice (some ⟨ge, 0, none⟩) ne ce) ∧ w'.cell? ⟨w7.heap.size, m, none⟩ = some (.int .i64 y)) (wv.setCell ⟨ge, 4, none⟩ (.int .i64 y)) := ⟨A8.c1, by rw [World.cell?_setCell_other _ _ _ _ (by intro e; injection e with e; omega)]; exact hHeld.2.1, by rw [World.cell?_setCell_other _ _ _ _ (by intro e; injection e with e; omega)]; exact cx⟩
     go_simp
     refine hK.out _ _ hH3 (fun hHeld => ?_)
     clear hK K hHeld hH3 A7 hE7 k7 z7 cx
     try simp only [Act.put, qq1, qq2, qq3]
     refine wpAnyH_done (by kernel_rfl) ?_ _
     refine NoPanic.normal ?_
     have c0 := A8.c0
     have c1 := A8.c1
     have c2 := A8.c2
     have r0 := A8.r0
     have r1 := A8.r1
     have r2 := A8.r2
     have f0 := fz_of A8.rt 0
     have f1 := fz_of A8.rt 1
     have f2 := fz_of A8.rt 2
     obtain ⟨hd, t0, t1, t2⟩ := A8.done
     have HD : Hid (RlP p a len cap zs w (.returned (.agg #[(.slice ra nr cr), (.slice (some ⟨gz, 0, none⟩) nz cz), (.slice la nl cl)])) ((((wv.setCell ⟨ge, 4, none⟩ (.int .i64 y)).setCell ⟨w.heap.size, 0, none⟩ (.slice ra nr cr)).setCell ⟨w.heap.size, 1, none⟩ (.slice (some ⟨gz, 0, none⟩) nz cz)).setCell ⟨w.heap.size, 2, none⟩ (.slice la nl cl))) := hd
     clear hd A8
     go_wp2
     exact bodyPost_ret (v := .agg #[(.slice ra nr cr), (.slice (some ⟨gz, 0, none⟩) nz cz), (.slice la nl cl)]) (by simp [results, Tryz.results19, go_sem, t0, t1, t2]) rfl HD.out
  ·
   clear l6 u6x
   by_cases h0 : nr = 0
   ·
    have h0' : ¬ (0 : Int) < (nr : Int) := by omega
    clear h0
    have c0x := A6.c0
    have c0 := A6.c0
    have c1 := A6.c1
    have c2 := A6.c2
    have r0 := A6.r0
    have r1 := A6.r1
    have r2 := A6.r2
    have f0 := fz_of A6.rt 0
    have f1 := fz_of A6.rt 1
    have f2 := fz_of A6.rt 2
    obtain ⟨hd, t0, t1, t2⟩ := A6.done
    have HD : Hid (RlP p a len cap zs w (.returned (.agg #[(.slice ra nr cr), (.slice za nz cz), (.slice la nl cl)])) (((w6.setCell ⟨w.heap.size, 0, none⟩ (.slice ra nr cr)).setCell ⟨w.heap.size, 1, none⟩ (.slice za nz cz)).setCell ⟨w.heap.size, 2, none⟩ (.slice la nl cl))) := hd
    clear hd A6
    go_wp2
    exact bodyPost_ret (v := .agg #[(.slice ra nr cr), (.slice za nz cz), (.slice la nl cl)]) (by simp [results, Tryz.results19, go_sem, t0, t1, t2]) rfl HD.out
   ·
    have h0' : (0 : Int) < (nr : Int) := by omega
    obtain ⟨x, Rt, rfl⟩ : ∃ x l, Rs = x :: l := by cases Rs with | nil => exact absurd HNR.out (by simp; omega) | cons x l => exact ⟨x, l, rfl⟩
    have hRR : w6.ownsRow B 90 9 (.slice ra nr cr) nr ((x :: Rt).map RuleD.cs).flatten := by have h : w6.ownsRow B 90 9 (.slice ra nr cr) (x :: Rt).length ((x :: Rt).map RuleD.cs).flatten := A6.rl.rr; rw [HNR.out] at h; exact h
    obtain ⟨g, cg, hv, hgB, hgl⟩ := owns_some hRR (by omega)
    injection hv with hv1 _ hv3
    subst hv1 hv3
    have hgq := (A6.rowNe hRR tneR.1 rfl).2
    have HR2 : Hid (nr = Rt.length + 1) := by have := HNR.out; simp at this; exact this.symm
    have c0x := A6.c0
    go_wp2_with fail
    refine wp_region_noPanic ?_
    refine wp_region_held_drew (S := fun w' => w'.cell? ⟨w2.heap.size, 0, none⟩ = some (.slice (some ⟨g, 0, none⟩) nr cr)) (by kernel_rfl) (show w6.drew.cell? ⟨w2.heap.size, 0, none⟩ = _ from c0x) (fun hHeld => ?_)
    have A7a := A6.drew
    clear A6 c0x hRR
    refine wpAnyH_take (i := 0) (v := ?v20) rfl (by kernel_rfl) (by kernel_rfl) (by kernel_rfl) (fun _ _ _ h => h) (Or.inl ⟨by kernel_rfl, ?y20⟩) hHeld ?z20
    case y20 => (intro wq hSw; (try dsimp only at hSw); go_simp; try with_reducible rfl)
    try simp only [Act.put, qq1, qq2, qq3]
    refine wpAnyH_take (i := 1) (v := ?v21) rfl (by kernel_rfl) (by kernel_rfl) (by kernel_rfl) (fun _ _ _ h => h) (Or.inl ⟨by kernel_rfl, ?y21⟩) hHeld ?z21
    case y21 => (intro wq hSw; (try dsimp only at hSw); go_simp; try with_reducible rfl)
    try simp only [Act.put, qq1, qq2, qq3]
    refine wpAnyH_take (i := 2) (v := ?v22) rfl (by kernel_rfl) (by kernel_rfl) (by kernel_rfl) (fun _ _ _ h => h) (Or.inl ⟨by kernel_rfl, ?y22⟩) hHeld ?z22
    case y22 => (intro wq hSw; (try dsimp only at hSw); go_simp; try with_reducible rfl)
    try simp only [Act.put, qq1, qq2, qq3]
    refine wpAnyH_ready (rs := [3]) (by kernel_rfl) (by simp) ?_
    refine AllReadyH.cons rfl (fun K hK => ?_) AllReadyH.nil
    go_simp
    have A7b := A7a.alloc (.cells (([⟨#[45]⟩, ⟨#[97, 98, 99, 100, 101, 102, 103]⟩, ⟨#[97, 32, 98]⟩] : List ByteArray).map Value.string).toArray 9)
    have R7 : StrRow (w6.drew.alloc (.cells (([⟨#[45]⟩, ⟨#[97, 98, 99, 100, 101, 102, 103]⟩, ⟨#[97, 32, 98]⟩] : List ByteArray).map Value.string).toArray 9)) w6.heap.size 3 100 := str_row w6.drew [⟨#[45]⟩, ⟨#[97, 98, 99, 100, 101, 102, 103]⟩, ⟨#[97, 32, 98]⟩] 9 (by decide)
    have bb : w6.heap.size ≠ p := by have : p < w6.heap.size := A7a.src.lt; omega
    have cc := A7b.c0
    obtain ⟨bn, hbn⟩ : ∃ n, w6.heap.size = n := ⟨_, rfl⟩
    rw [hbn] at R7 bb ⊢
    refine hK.out _ _ cc (fun hHeld => ?_)
    clear hK K hHeld cc
    try simp only [Act.put, qq1, qq2, qq3]
    refine wpAnyH_ready (rs := [4]) (by kernel_rfl) (by simp) ?_
    refine AllReadyH.cons rfl (fun K hK => ?_) AllReadyH.nil
    go_simp
    refine (src_pick p a len cap zs bn 3 100 _ A7b.src R7 bb (by omega) (by omega)).mono ?_
    rintro e w7 ⟨s7, rfl, z7s, S7, g7⟩
    have A7 := A7b.drawn S7 g7
    clear S7 g7 A7a A7b R7
    have c7 := A7.c0
    have hR7 : w7.ownsRow B 90 9 (.slice (some ⟨g, 0, none⟩) nr cr) nr ((x :: Rt).map RuleD.cs).flatten := by have h : w7.ownsRow B 90 9 (.slice (some ⟨g, 0, none⟩) nr cr) (x :: Rt).length ((x :: Rt).map RuleD.cs).flatten := A7.rl.rr; rw [HNR.out] at h; exact h
    have k7 : w7.cell? ⟨g, 8, none⟩ = some (.string x.letter) := by rw [hR7.cellAt 8 (by omega)]; rfl
    have z7 := hR7.frozenAt 8
    have A8 := A7.row (World.ownsRow.stored hR7 8 (.string s7)).2 hgB hgq (A7.rl.rule0 (j := 8) (u := .string s7) (x' := ⟨x.name, x.lo, x.hi, x.month, x.on, x.at_, x.of, x.save, s7⟩) HR2.out (by omega) rfl (by have := A7.rl.sm.1 x (by simp); exact ⟨this.1, this.2.1, this.2.2.1, by show s7.size ≤ 8000; omega⟩))
    go_wp2_with fail
    refine hK.out _ _ c7 (fun hHeld => ?_)
    clear hK K
    try simp only [Act.put, qq1, qq2, qq3]
    refine wpAnyH_take (i := 5) (v := ?v23) rfl (by kernel_rfl) (by kernel_rfl) (by kernel_rfl) (fun _ _ _ h => h) (Or.inl ⟨by kernel_rfl, ?y23⟩) hHeld ?z23
    case y23 => (intro wq hSw; (try dsimp only at hSw); go_simp; try with_reducible rfl)
    try simp only [Act.put, qq1, qq2, qq3]
    refine wpAnyH_take (i := 6) (v := ?v24) rfl (by kernel_rfl) (by kernel_rfl) (by kernel_rfl) (fun _ _ _ h => h) (Or.inl ⟨by kernel_rfl, ?y24⟩) hHeld ?z24
    case y24 => (intro wq hSw; (try dsimp only at hSw); go_simp; try with_reducible rfl)
    try simp only [Act.put, qq1, qq2, qq3]
    refine wpAnyH_ready (rs := [7]) (by kernel_rfl) (by simp) ?_
    refine AllReadyH.cons rfl (fun K hK => ?_) AllReadyH.nil
    go_simp
    refine hK.out _ _ A8.c0 (fun hHeld => ?_)
    clear hK K hHeld A7 hR7 k7 z7 c7
    try simp only [Act.put, qq1, qq2, qq3]
    refine wpAnyH_done (by kernel_rfl) ?_ _
    refine NoPanic.normal ?_
    have c0 := A8.c0
    have c1 := A8.c1
    have c2 := A8.c2
    have r0 := A8.r0
    have r1 := A8.r1
    have r2 := A8.r2
    have f0 := fz_of A8.rt 0
    have f1 := fz_of A8.rt 1
    have f2 := fz_of A8.rt 2
    obtain ⟨hd, t0, t1, t2⟩ := A8.done
    have HD : Hid (RlP p a len cap zs w (.returned (.agg #[(.slice (some ⟨g, 0, none⟩) nr cr), (.slice za nz cz), (.slice la nl cl)])) ((((w7.setCell ⟨g, 8, none⟩ (.string s7)).setCell ⟨w.heap.size, 0, none⟩ (.slice (some ⟨g, 0, none⟩) nr cr)).setCell ⟨w.heap.size, 1, none⟩ (.slice za nz cz)).setCell ⟨w.heap.size, 2, none⟩ (.slice la nl cl))) := hd
    clear hd A8
    go_wp2
    exact bodyPost_ret (v := .agg #[(.slice (some ⟨g, 0, none⟩) nr cr), (.slice za nz cz), (.slice la nl cl)]) (by simp [results, Tryz.results19, go_sem, t0, t1, t2]) rfl HD.out
  ·
   clear l6 u6x
   by_cases h0 : nz = 0
   ·
    have h0' : ¬ (0 : Int) < (nz : Int) := by omega
    clear h0
    have c1x := A6.c1
    have c0 := A6.c0
    have c1 := A6.c1
    have c2 := A6.c2
    have r0 := A6.r0
    have r1 := A6.r1
    have r2 := A6.r2
    have f0 := fz_of A6.rt 0
    have f1 := fz_of A6.rt 1
    have f2 := fz_of A6.rt 2
    obtain ⟨hd, t0, t1, t2⟩ := A6.done
    have HD : Hid (RlP p a len cap zs w (.returned (.agg #[(.slice ra nr cr), (.slice za nz cz), (.slice la nl cl)])) (((w6.setCell ⟨w.heap.size, 0, none⟩ (.slice ra nr cr)).setCell ⟨w.heap.size, 1, none⟩ (.slice za nz cz)).setCell ⟨w.heap.size, 2, none⟩ (.slice la nl cl))) := hd
    clear hd A6
    go_wp2
    exact bodyPost_ret (v := .agg #[(.slice ra nr cr), (.slice za nz cz), (.slice la nl cl)]) (by simp [results, Tryz.results19, go_sem, t0, t1, t2]) rfl HD.out
   ·
    have h0' : (0 : Int) < (nz : Int) := by omega
    obtain ⟨z, Zt, rfl⟩ : ∃ x l, Zs = x :: l := by cases Zs with | nil => exact absurd HNZ.out (by simp; omega) | cons x l => exact ⟨x, l, rfl⟩
    obtain ⟨ev, Et, rfl⟩ : ∃ x l, evs = x :: l := by cases evs with | nil => exact absurd A6.rl.el (by simp) | cons x l => exact ⟨x, l, rfl⟩
    have hZZ : w6.ownsRow B 49 2 (.slice za nz cz) nz (zrows (z :: Zt) (ev :: Et)).flatten := by have h : w6.ownsRow B 49 2 (.slice za nz cz) (z :: Zt).length (zrows (z :: Zt) (ev :: Et)).flatten := A6.rl.zz; rw [HNZ.out] at h; exact h
    obtain ⟨gz, cg, hv, hgB, hgl⟩ := owns_some hZZ (by omega)
    injection hv with hv1 _ hv3
    subst hv1 hv3
    have hgq := (A6.rowNe hZZ tneR.2.2.1 rfl).2
    have HZ2 : Hid (nz = Zt.length + 1) := by have := HNZ.out; simp at this; exact this.symm
    have kz0 : w6.cell? ⟨gz, 0, none⟩ = some (.string z.name) := by rw [hZZ.cellAt 0 (by omega), zrows_cons]; rfl
    have kz1 : w6.cell? ⟨gz, 1, none⟩ = some ev := by rw [hZZ.cellAt 1 (by omega), zrows_cons]; rfl
    obtain ⟨nm, es⟩ := z
    obtain ⟨o6, o7, o8⟩ := A6.rl.ee 0 ⟨nm, es⟩ ev rfl rfl
    obtain ⟨x, Et0, rfl⟩ : ∃ x l, es = x :: l := by cases es with | nil => simp at o7 | cons x l => exact ⟨x, l, rfl⟩
    obtain ⟨ge, ce, hv, hgeB, hgel⟩ := owns_some o6 (by simp)
    subst hv
    have hgeq := (A6.rowNe o6 tneR.2.2.2 rfl).2
    have hgez : ge ≠ gz := fun e => by rcases sep2 o6 hZZ (Ne.symm tne0) with h | h; cases h; exact h (by simp [Value.ownBlock, e])
    obtain ⟨ne, hne⟩ : ∃ n, (x :: Et0).length = n := ⟨_, rfl⟩
    have HNE : Hid (ne = Et0.length + 1) := by rw [← hne]; rfl
    have hnp : 0 < ne := by rw [← hne]; simp
    have kz1 : w6.cell? ⟨gz, 1, none⟩ = some (.slice (some ⟨ge, 0, none⟩) ne ce) := by rw [← hne]; exact kz1
    have hnp2 : (0 : Int) < (ne : Int) := by omega
    have A6 : RlAt p a len cap zs w w2.heap.size B (.slice ra nr cr) (.slice (some ⟨gz, 0, none⟩) nz cz) (.slice la nl cl) ⟨Rs, ⟨nm, x :: Et0⟩ :: Zt, Ls⟩ ((.slice (some ⟨ge, 0, none⟩) ne ce) :: Et) w6 := by rw [← hne]; exact A6
    have HND : Hid (∀ (i j : Nat) ev ev', ((.slice (some ⟨ge, 0, none⟩) ne ce) :: Et)[i]? = some ev → ((.slice (some ⟨ge, 0, none⟩) ne ce) :: Et)[j]? = some ev' → ev.ownBlock = ev'.ownBlock → i = j) := by rw [← hne]; exact HND
    clear o6 o7 o8 hne
    have c1x := A6.c1
    go_wp2_with fail
    refine wp_region_noPanic ?_
    refine wp_region_held_drew (S := fun w' => w'.cell? ⟨w2.heap.size, 1, none⟩ = some (.slice (some ⟨gz, 0, none⟩) nz cz) ∧ w'.cell? ⟨gz, 1, none⟩ = some (.slice (some ⟨ge, 0, none⟩) ne ce)) (by kernel_rfl) ⟨(show w6.drew.cell? ⟨w2.heap.size, 1, none⟩ = _ from c1x), (show w6.drew.cell? ⟨gz, 1, none⟩ = _ from kz1)⟩ (fun hHeld => ?_)
    have A7a := A6.drew
    clear A6 c1x kz0 kz1 hZZ
    refine wpAnyH_take (i := 0) (v := ?v25) rfl (by kernel_rfl) (by kernel_rfl) (by kernel_rfl) (fun _ _ _ h => h) (Or.inl ⟨by kernel_rfl, ?y25⟩) hHeld ?z25
    case y25 => (intro wq hSw; (try dsimp only at hSw); go_simp; try with_reducible rfl)
    try simp only [Act.put, qq1, qq2, qq3]
    refine wpAnyH_take (i := 1) (v := ?v26) rfl (by kernel_rfl) (by kernel_rfl) (by kernel_rfl) (fun _ _ _ h => h) (Or.inl ⟨by kernel_rfl, ?y26⟩) hHeld ?z26
    case y26 => (intro wq hSw; (try dsimp only at hSw); go_simp; try with_reducible rfl)
    try simp only [Act.put, qq1, qq2, qq3]
    refine wpAnyH_take (i := 2) (v := ?v27) rfl (by kernel_rfl) (by kernel_rfl) (by kernel_rfl) (fun _ _ _ h => h) (Or.inl ⟨by kernel_rfl, ?y27⟩) hHeld ?z27
    case y27 => (intro wq hSw; (try dsimp only at hSw); go_simp; try with_reducible rfl)
    try simp only [Act.put, qq1, qq2, qq3]
    refine wpAnyH_take (i := 3) (v := ?v28) rfl (by kernel_rfl) (by kernel_rfl) (by kernel_rfl) (fun _ _ _ h => h) (Or.inl ⟨by kernel_rfl, ?y28⟩) hHeld ?z28
    case y28 => (intro wq hSw; (try dsimp only at hSw); go_simp; try with_reducible rfl)
    try simp only [Act.put, qq1, qq2, qq3]
    refine wpAnyH_take (i := 4) (v := ?v29) rfl (by kernel_rfl) (by kernel_rfl) (by kernel_rfl) (fun _ _ _ h => h) (Or.inl ⟨by kernel_rfl, ?y29⟩) hHeld ?z29
    case y29 => (intro wq hSw; (try dsimp only at hSw); go_simp; try with_reducible rfl)
    try simp only [Act.put, qq1, qq2, qq3]
    refine wpAnyH_take (i := 6) (v := ?v30) rfl (by kernel_rfl) (by kernel_rfl) (by kernel_rfl) (fun _ _ _ h => h) (Or.inl ⟨by kernel_rfl, ?y30⟩) hHeld ?z30
    case y30 => (intro wq hSw; (try dsimp only at hSw); go_simp; try with_reducible rfl)
    try simp only [Act.put, qq1, qq2, qq3]
    refine wpAnyH_ready (rs := [5, 7]) (by kernel_rfl) (by simp) ?_
    refine AllReadyH.cons rfl (fun K hK => ?_) (AllReadyH.cons rfl (fun K hK => ?_) AllReadyH.nil)
    ·
     skip
     go_simp
     have A7b := A7a.alloc (.cells (([86400, 86401, -86400] : List Int).map (Value.int .i64)).toArray 2)
     refine hK.out _ _ ⟨keepC ((Below.refl _ w6.drew).alloc (Nat.le_refl _) _) hHeld.1, keepC ((Below.refl _ w6.drew).alloc (Nat.le_refl _) _) hHeld.2⟩ (fun hHeld => ?_)
     clear hK K
     try simp only [Act.put, qq1, qq2, qq3]
     refine wpAnyH_ready (rs := [7]) (by kernel_rfl) (by simp) ?_
     refine AllReadyH.cons rfl (fun K hK => ?_) AllReadyH.nil
     go_simp
     refine (src_n p a len cap zs 3 _ A7b.src (by omega) (by omega)).mono ?_
     rintro e w7 ⟨m7, rfl, l7, u7x, S7, g7⟩
     have A7 := A7b.drawn S7 g7
     obtain ⟨y, cx⟩ := pick_after ([86400, 86401, -86400] : List Int) A7a.src.lt g7 l7 (by simpa using u7x)
     obtain ⟨m, rfl⟩ := Int.eq_ofNat_of_zero_le l7
     simp only [Int.toNat_natCast] at cx
     have hH2 : (fun w' => w'.cell? ⟨w2.heap.size, 1, none⟩ = some (.slice (some ⟨gz, 0, none⟩) nz cz) ∧ w'.cell? ⟨gz, 1, none⟩ = some (.slice (some ⟨ge, 0, none⟩) ne ce)) w7 := ⟨A7.c1, g7.cell (a := ⟨gz, 1, none⟩) hHeld.2 (by have := A7.hp; have := A7.hB; simp; omega)⟩
     clear S7 g7 A7a A7b l7 hHeld
     go_wp2_with fail
     refine hK.out _ _ hH2 (fun hHeld => ?_)
     clear hK K hH2
     try simp only [Act.put, qq1, qq2, qq3]
     have hE7 : w7.ownsRow B 55 6 (.slice (some ⟨ge, 0, none⟩) ne ce) ne ((x :: Et0).map EraD.cs).flatten := by have h := (A7.rl.ee 0 ⟨nm, x :: Et0⟩ _ rfl rfl).1; rw [show (⟨nm, x :: Et0⟩ : ZoneD).eras.length = ne from HNE.out.symm] at h; exact h
     have k7 : w7.cell? ⟨ge, 0, none⟩ = some (.int .i64 x.offset) := by rw [hE7.cellAt 0 (by omega)]; rfl
     have z7 := hE7.frozenAt 0
     have A8 := A7.row (World.ownsRow.stored hE7 0 (.int .i64 y)).2 hgeB hgeq (A7.rl.era0 (j := 0) (u := .int .i64 y) (x' := ⟨y, x.rules, x.save, x.format, x.until_, x.of⟩) HND.out HNE.out (by omega) rfl ((A7.rl.sm.2.1 ⟨nm, x :: Et0⟩ (by simp)).2 x (by simp)))
     refine wpAnyH_sub (S2 := fun w' => w'.cell? ⟨w2.heap.size, 1, none⟩ = some (.slice (some ⟨gz, 0, none⟩) nz cz) ∧ w'.cell? ⟨gz, 1, none⟩ = some (.slice (some ⟨ge, 0, none⟩) ne ce) ∧ w'.cell? ⟨w6.heap.size, m, none⟩ = some (.int .i64 y)) (fun _ h => ⟨h.1, h.2.1⟩) _ _ _ _ ?_
     have hHeld : (fun w' => w'.cell? ⟨w2.heap.size, 1, none⟩ = some (.slice (some ⟨gz, 0, none⟩) nz cz) ∧ w'.cell? ⟨gz, 1, none⟩ = some (.slice (some ⟨ge, 0, none⟩) ne ce) ∧ w'.cell? ⟨w6.heap.size, m, none⟩ = some (.int .i64 y)) w7 := ⟨hHeld.1, hHeld.2, cx⟩
     refine wpAnyH_take (i := 8) (v := ?v31) rfl (by kernel_rfl) (by kernel_rfl) (by kernel_rfl) (fun _ _ _ h => h) (Or.inl ⟨by kernel_rfl, ?y31⟩) hHeld ?z31
     case y31 => (intro wq hSw; (try dsimp only at hSw); go_simp; try with_reducible rfl)
     try simp only [Act.put, qq1, qq2, qq3]
     refine wpAnyH_take (i := 9) (v := ?v32) rfl (by kernel_rfl) (by kernel_rfl) (by kernel_rfl) (fun _ _ _ h => h) (Or.inl ⟨by kernel_rfl, ?y32⟩) hHeld ?z32
     case y32 => (intro wq hSw; (try dsimp only at hSw); go_simp; try with_reducible rfl)
     try simp only [Act.put, qq1, qq2, qq3]
     refine wpAnyH_take (i := 10) (v := ?v33) rfl (by kernel_rfl) (by kernel_rfl) (by kernel_rfl) (fun _ _ _ h => h) (Or.inl ⟨by kernel_rfl, ?y33⟩) hHeld ?z33
     case y33 => (intro wq hSw; (try dsimp only at hSw); go_simp; try with_reducible rfl)
     try simp only [Act.put, qq1, qq2, qq3]
     refine wpAnyH_take (i := 11) (v := ?v34) rfl (by kernel_rfl) (by kernel_rfl) (by kernel_rfl) (fun _ _ _ h => h) (Or.inl ⟨by kernel_rfl, ?y34⟩) hHeld ?z34
     case y34 => (intro wq hSw; (try dsimp only at hSw); go_simp; try with_reducible rfl)
     try simp only [Act.put, qq1, qq2, qq3]
     refine wpAnyH_ready (rs := [12]) (by kernel_rfl) (by simp) ?_
     refine AllReadyH.cons rfl (fun K hK => ?_) AllReadyH.nil
     have hH3 : (fun w' => w'.cell? ⟨w2.heap.size, 1, none⟩ = some (.slice (some ⟨gz, 0, none⟩) nz cz) ∧ w'.cell? ⟨gz, 1, none⟩ = some (.slice (some ⟨ge, 0, none⟩) ne ce) ∧ w'.cell? ⟨w6.heap.size, m, none⟩ = some (.int .i64 y)) (w7.setCell ⟨ge, 0, none⟩ (.int .i64 y)) := ⟨A8.c1, by rw [World.cell?_setCell_other _ _ _ _ (by intro e; injection e with e; omega)]; exact hHeld.2.1, by rw [World.cell?_setCell_other _ _ _ _ (by intro e; injection e with e; omega)]; exact cx⟩
     go_simp
     refine hK.out _ _ hH3 (fun hHeld => ?_)
     clear hK K hHeld hH3 A7 hE7 k7 z7 cx
     try simp only [Act.put, qq1, qq2, qq3]
     refine wpAnyH_done (by kernel_rfl) ?_ _
     refine NoPanic.normal ?_
     have c0 := A8.c0
     have c1 := A8.c1
     have c2 := A8.c2
     have r0 := A8.r0
     have r1 := A8.r1
     have r2 := A8.r2
     have f0 := fz_of A8.rt 0
     have f1 := fz_of A8.rt 1
     have f2 := fz_of A8.rt 2
     obtain ⟨hd, t0, t1, t2⟩ := A8.done
     have HD : Hid (RlP p a len cap zs w (.returned (.agg #[(.slice ra nr cr), (.slice (some ⟨gz, 0, none⟩) nz cz), (.slice la nl cl)])) ((((w7.setCell ⟨ge, 0, none⟩ (.int .i64 y)).setCell ⟨w.heap.size, 0, none⟩ (.slice ra nr cr)).setCell ⟨w.heap.size, 1, none⟩ (.slice (some ⟨gz, 0, none⟩) nz cz)).setCell ⟨w.heap.size, 2, none⟩ (.slice la nl cl))) := hd
     clear hd A8
     go_wp2
     exact bodyPost_ret (v := .agg #[(.slice ra nr cr), (.slice (some ⟨gz, 0, none⟩) nz cz), (.slice la nl cl)]) (by simp [results, Tryz.results19, go_sem, t0, t1, t2]) rfl HD.out
    ·
     skip
     go_simp
     refine (src_n p a len cap zs 3 _ A7a.src (by omega) (by omega)).mono ?_
     rintro e w7 ⟨m7, rfl, l7, u7x, S7, g7⟩
     have A7b := A7a.drawn S7 g7
     have hz7 : ge < w7.heap.size := by have := g7.size; simp at this; omega
     have hH2 : (fun w' => w'.cell? ⟨w2.heap.size, 1, none⟩ = some (.slice (some ⟨gz, 0, none⟩) nz cz) ∧ w'.cell? ⟨gz, 1, none⟩ = some (.slice (some ⟨ge, 0, none⟩) ne ce)) w7 := ⟨A7b.c1, g7.cell (a := ⟨gz, 1, none⟩) hHeld.2 (by have := A7b.hp; have := A7b.hB; simp; omega)⟩
     clear S7 g7 A7a hHeld
     go_wp2_with fail
     refine hK.out _ _ hH2 (fun hHeld => ?_)
     clear hK K hH2
     try simp only [Act.put, qq1, qq2, qq3]
     refine wpAnyH_ready (rs := [5]) (by kernel_rfl) (by simp) ?_
     refine AllReadyH.cons rfl (fun K hK => ?_) AllReadyH.nil
     have A7 := A7b.alloc (.cells #[.int .i64 86400, .int .i64 86401, .int .i64 (-86400)] 2)
     obtain ⟨m, rfl⟩ := Int.eq_ofNat_of_zero_le l7
     obtain ⟨y, cx⟩ : ∃ x : Int, (w7.alloc (.cells #[.int .i64 86400, .int .i64 86401, .int .i64 (-86400)] 2)).cell? ⟨w7.heap.size, m, none⟩ = some (.int .i64 x) := ⟨_, pick_int w7 2 ([86400, 86401, -86400] : List Int) m (by simp; omega)⟩
     clear l7 A7b
     go_simp
     refine hK.out _ _ ⟨keepC ((Below.refl _ w7).alloc (Nat.le_refl _) _) hHeld.1, keepC ((Below.refl _ w7).alloc (Nat.le_refl _) _) hHeld.2⟩ (fun hHeld => ?_)
     clear hK K
     try simp only [Act.put, qq1, qq2, qq3]
     generalize (w7.alloc (.cells #[.int .i64 86400, .int .i64 86401, .int .i64 (-86400)] 2)) = wv at *
     have hE7 : wv.ownsRow B 55 6 (.slice (some ⟨ge, 0, none⟩) ne ce) ne ((x :: Et0).map EraD.cs).flatten := by have h := (A7.rl.ee 0 ⟨nm, x :: Et0⟩ _ rfl rfl).1; rw [show (⟨nm, x :: Et0⟩ : ZoneD).eras.length = ne from HNE.out.symm] at h; exact h
     have k7 : wv.cell? ⟨ge, 0, none⟩ = some (.int .i64 x.offset) := by rw [hE7.cellAt 0 (by omega)]; rfl
     have z7 := hE7.frozenAt 0
     have A8 := A7.row (World.ownsRow.stored hE7 0 (.int .i64 y)).2 hgeB hgeq (A7.rl.era0 (j := 0) (u := .int .i64 y) (x' := ⟨y, x.rules, x.save, x.format, x.until_, x.of⟩) HND.out HNE.out (by omega) rfl ((A7.rl.sm.2.1 ⟨nm, x :: Et0⟩ (by simp)).2 x (by simp)))
     refine wpAnyH_sub (S2 := fun w' => w'.cell? ⟨w2.heap.size, 1, none⟩ = some (.slice (some ⟨gz, 0, none⟩) nz cz) ∧ w'.cell? ⟨gz, 1, none⟩ = some (.slice (some ⟨ge, 0, none⟩) ne ce) ∧ w'.cell? ⟨w7.heap.size, m, none⟩ = some (.int .i64 y)) (fun _ h => ⟨h.1, h.2.1⟩) _ _ _ _ ?_
     have hHeld : (fun w' => w'.cell? ⟨w2.heap.size, 1, none⟩ = some (.slice (some ⟨gz, 0, none⟩) nz cz) ∧ w'.cell? ⟨gz, 1, none⟩ = some (.slice (some ⟨ge, 0, none⟩) ne ce) ∧ w'.cell? ⟨w7.heap.size, m, none⟩ = some (.int .i64 y)) wv := ⟨hHeld.1, hHeld.2, cx⟩
     refine wpAnyH_take (i := 8) (v := ?v35) rfl (by kernel_rfl) (by kernel_rfl) (by kernel_rfl) (fun _ _ _ h => h) (Or.inl ⟨by kernel_rfl, ?y35⟩) hHeld ?z35
     case y35 => (intro wq hSw; (try dsimp only at hSw); go_simp; try with_reducible rfl)
     try simp only [Act.put, qq1, qq2, qq3]
     refine wpAnyH_take (i := 9) (v := ?v36) rfl (by kernel_rfl) (by kernel_rfl) (by kernel_rfl) (fun _ _ _ h => h) (Or.inl ⟨by kernel_rfl, ?y36⟩) hHeld ?z36
     case y36 => (intro wq hSw; (try dsimp only at hSw); go_simp; try with_reducible rfl)
     try simp only [Act.put, qq1, qq2, qq3]
     refine wpAnyH_take (i := 10) (v := ?v37) rfl (by kernel_rfl) (by kernel_rfl) (by kernel_rfl) (fun _ _ _ h => h) (Or.inl ⟨by kernel_rfl, ?y37⟩) hHeld ?z37
     case y37 => (intro wq hSw; (try dsimp only at hSw); go_simp; try with_reducible rfl)
     try simp only [Act.put, qq1, qq2, qq3]
     refine wpAnyH_take (i := 11) (v := ?v38) rfl (by kernel_rfl) (by kernel_rfl) (by kernel_rfl) (fun _ _ _ h => h) (Or.inl ⟨by kernel_rfl, ?y38⟩) hHeld ?z38
     case y38 => (intro wq hSw; (try dsimp only at hSw); go_simp; try with_reducible rfl)
     try simp only [Act.put, qq1, qq2, qq3]
     refine wpAnyH_ready (rs := [12]) (by kernel_rfl) (by simp) ?_
     refine AllReadyH.cons rfl (fun K hK => ?_) AllReadyH.nil
     have hH3 : (fun w' => w'.cell? ⟨w2.heap.size, 1, none⟩ = some (.slice (some ⟨gz, 0, none⟩) nz cz) ∧ w'.cell? ⟨gz, 1, none⟩ = some (.slice (some ⟨ge, 0, none⟩) ne ce) ∧ w'.cell? ⟨w7.heap.size, m, none⟩ = some (.int .i64 y)) (wv.setCell ⟨ge, 0, none⟩ (.int .i64 y)) := ⟨A8.c1, by rw [World.cell?_setCell_other _ _ _ _ (by intro e; injection e with e; omega)]; exact hHeld.2.1, by rw [World.cell?_setCell_other _ _ _ _ (by intro e; injection e with e; omega)]; exact cx⟩
     go_simp
     refine hK.out _ _ hH3 (fun hHeld => ?_)
     clear hK K hHeld hH3 A7 hE7 k7 z7 cx
     try simp only [Act.put, qq1, qq2, qq3]
     refine wpAnyH_done (by kernel_rfl) ?_ _
     refine NoPanic.normal ?_
     have c0 := A8.c0
     have c1 := A8.c1
     have c2 := A8.c2
     have r0 := A8.r0
     have r1 := A8.r1
     have r2 := A8.r2
     have f0 := fz_of A8.rt 0
     have f1 := fz_of A8.rt 1
     have f2 := fz_of A8.rt 2
     obtain ⟨hd, t0, t1, t2⟩ := A8.done
     have HD : Hid (RlP p a len cap zs w (.returned (.agg #[(.slice ra nr cr), (.slice (some ⟨gz, 0, none⟩) nz cz), (.slice la nl cl)])) ((((wv.setCell ⟨ge, 0, none⟩ (.int .i64 y)).setCell ⟨w.heap.size, 0, none⟩ (.slice ra nr cr)).setCell ⟨w.heap.size, 1, none⟩ (.slice (some ⟨gz, 0, none⟩) nz cz)).setCell ⟨w.heap.size, 2, none⟩ (.slice la nl cl))) := hd
     clear hd A8
     go_wp2
     exact bodyPost_ret (v := .agg #[(.slice ra nr cr), (.slice (some ⟨gz, 0, none⟩) nz cz), (.slice la nl cl)]) (by simp [results, Tryz.results19, go_sem, t0, t1, t2]) rfl HD.out
end Go.Proofs.YtcelbkmnbjcjhaaGreatDoor
