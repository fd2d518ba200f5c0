/- Packed. -/
import Derived.Test.YtgiieknbckhofaaGreatDoorMarkStores
import Derived.Test.YtgiieknbckhofaaGreatDoorLVs
import Derived.Test.YtgiieknbckhofaaGreatDoorSJs
set_option maxRecDepth 20000
set_option maxHeartbeats 20000000
set_option linter.unusedSimpArgs false
namespace Go.Proofs.YtgiieknbckhofaaGreatDoor
section
open Go.RowKit Go.Sort
def jp8 (c : Nat) : List Value := [iv (c : Nat), .string (mtB (c + 1)), .string (mtB (c + 2)), iv (c + 3 : Nat), iv (c + 4 : Nat), iv (c + 5 : Nat)]
def jb5 (c n : Nat) : List (List Value) := (List.range n).map fun i => jp8 (c + 6 * i)
theorem jir {c n i : Nat} (h : i < n) : (jb5 c n)[i]? = some (jp8 (c + 6 * i)) := by unfold jb5; rw [lgm, List.getElem?_range h]; rfl
theorem mksEvent_len {c n : Nat} : ∀ r ∈ jb5 c n, r.length = 6 := fun r hr => by
 unfold jb5 at hr
 obtain ⟨i, _, rfl⟩ := List.mem_map.mp hr
 rfl
theorem ji0 (n g cap k : Nat) (w : World) (bE : Ze w g (n * 6)) (h0 : 0 < k) (h1 : k + 6 * n < 1000000000) :
  Cl 13 #[.slice (some ⟨g, 0, none⟩) n cap, iv k] w fun e w' => e = .returned (iv ((k + 6 * n : Nat) : Int)) /\ Za w' (some ⟨g, 0, none⟩) 6 (jb5 k n) /\ Ze w' g (n * 6) /\ Zb (fun b => b = g /\ 0 < n) w w' := by
 have au := @mksEvent_len k n
 go_enter Tryz.func13, Tryz.ntmps13
 go_wp2
 go_loopw [1, 5] (fun s t wr => ∃ i : Nat, i <= n /\ t = iv i /\ s = iv ((k + 6 * i : Nat) : Int) /\ Ze wr g (n * 6) /\ Zc wr g 6 i (jb5 k n) /\ Zb (fun b => b = g /\ 0 < n) w wr) (fun _ t _ => n - (intOf t).toNat)
 case atStart => exact ⟨0, by omega, rfl, rfl, bE, fun i j r c h => by omega, Zb.refl _ _⟩
 case round =>
  clear bE
  obtain ⟨i, hi, rfl, rfl, bE, dW, dk⟩ := hrel
  by_cases hlt : i < n
  ·have ao := jir (c := k) hlt
   have HK : Hid (k + 6 * (i + 1) = (k + 6 * i) + 6) := by simp only [Hid]; omega
   have jF : 0 < k + 6 * i := by omega
   have aX : k + 6 * i + 6 < 1000000000 := by omega
   generalize k + 6 * i = c at *
   have jy : Je wr g (i * 6) [] := Je.nil _ _ _
   obtain ⟨⟨u0, iH⟩, gH⟩ := bE (i * 6) (by omega)
   have cY : Ze (wr.setCell ⟨g, i * 6, none⟩ (iv (c : Int))) g (n * 6) := bE.set _ _
   have fN : Zc (wr.setCell ⟨g, i * 6, none⟩ (iv (c : Int))) g 6 i (jb5 k n) := by simpa using dW.store au 0 (iv (c : Int))
   have j7 : Je (wr.setCell ⟨g, i * 6, none⟩ (iv (c : Int))) g (i * 6) [iv (c : Int)] := by simpa using jy.store bE (n := 0) rfl (by omega) (iv (c : Int))
   have dw : Zb (fun b => b = g /\ 0 < n) w (wr.setCell ⟨g, i * 6, none⟩ (iv (c : Int))) := dk.set ⟨rfl, by omega⟩ _
   have ew := fun w => jah (c + 1) w (by omega) (by omega)
   rw [show ((c + 1 : Nat) : Int) = (c : Int) + 1 by omega] at ew
   go_wp2_with fail
   refine (ew _).mono ?_
   rintro e w1 ⟨rfl, hb1⟩
   have eC := cY.below hb1
   have kO := fN.below hb1
   have kY := j7.below hb1
   have l8 := dw.trans (Zb.of_below (S := fun b => b = g /\ 0 < n) hb1)
   clear hb1 cY fN j7 dw ew
   obtain ⟨⟨u1, lG⟩, de⟩ := eC (i * 6 + 1) (by omega)
   have aM := eC.set ⟨g, i * 6 + 1, none⟩ (.string (mtB (c + 1)))
   have bZ := kO.store au 1 (.string (mtB (c + 1)))
   have gu := kY.store eC (n := 1) rfl (by omega) (.string (mtB (c + 1)))
   have eh := l8.set (o := i * 6 + 1) ⟨rfl, by omega⟩ (.string (mtB (c + 1)))
   have eB := fun w => jah (c + 2) w (by omega) (by omega)
   rw [show ((c + 2 : Nat) : Int) = (c : Int) + 1 + 1 by omega] at eB
   go_wp2_with fail
   refine (eB _).mono ?_
   rintro e w2 ⟨rfl, ac⟩
   have qD := aM.below ac
   have Cb := bZ.below ac
   have Cv := gu.below ac
   have CB := eh.trans (Zb.of_below (S := fun b => b = g /\ 0 < n) ac)
   clear ac aM bZ gu eh eB
   obtain ⟨⟨u2, tA⟩, eF⟩ := qD (i * 6 + 2) (by omega)
   have io := qD.set ⟨g, i * 6 + 2, none⟩ (.string (mtB (c + 2)))
   have eu := Cb.store au 2 (.string (mtB (c + 2)))
   have j8 := Cv.store qD (n := 2) rfl (by omega) (.string (mtB (c + 2)))
   have ir := CB.set (o := i * 6 + 2) ⟨rfl, by omega⟩ (.string (mtB (c + 2)))
   obtain ⟨⟨u3, tC⟩, gI⟩ := io (i * 6 + 3) (by omega)
   have jz := io.set ⟨g, i * 6 + 3, none⟩ (iv ((c : Int) + 1 + 1 + 1))
   have kP := eu.store au 3 (iv ((c : Int) + 1 + 1 + 1))
   have mY := j8.store io (n := 3) rfl (by omega) (iv ((c : Int) + 1 + 1 + 1))
   have ja := ir.set (o := i * 6 + 3) ⟨rfl, by omega⟩ (iv ((c : Int) + 1 + 1 + 1))
   obtain ⟨⟨u4, tD⟩, nu⟩ := jz (i * 6 + 4) (by omega)
   have eO := jz.set ⟨g, i * 6 + 4, none⟩ (iv ((c : Int) + 1 + 1 + 1 + 1))
   have iX := kP.store au 4 (iv ((c : Int) + 1 + 1 + 1 + 1))
   have k8 := mY.store jz (n := 4) rfl (by omega) (iv ((c : Int) + 1 + 1 + 1 + 1))
   have oX := ja.set (o := i * 6 + 4) ⟨rfl, by omega⟩ (iv ((c : Int) + 1 + 1 + 1 + 1))
   obtain ⟨⟨u5, tE⟩, th⟩ := eO (i * 6 + 5) (by omega)
   have mh := eO.set ⟨g, i * 6 + 5, none⟩ (iv ((c : Int) + 1 + 1 + 1 + 1 + 1))
   have md := iX.store au 5 (iv ((c : Int) + 1 + 1 + 1 + 1 + 1))
   have il := k8.store eO (n := 5) rfl (by omega) (iv ((c : Int) + 1 + 1 + 1 + 1 + 1))
   have oY := oX.set (o := i * 6 + 5) ⟨rfl, by omega⟩ (iv ((c : Int) + 1 + 1 + 1 + 1 + 1))
   have hF : Zc _ g 6 (i + 1) (jb5 k n) := md.step il (by rw [ao]; simp [jp8, Int.add_assoc])
   clear md il
   go_wp2
   go_roundw
   case rel => exact ⟨i + 1, by omega, by go_num, by rw [HK.out]; go_num, mh, hF, oY⟩
   case measure => simp [intOf]; omega
  ·have e : i = n := by omega
   subst e
   go_wp2
   go_ret
   exact ⟨rfl, Zc.seq (by unfold jb5; rw [llm, List.length_range]; exact dW), bE, dk⟩
theorem ji3 (n cap k : Nat) (a : Option Addr) (w : World) (hA : Za w a 6 (jb5 k n)) (h0 : 0 < k) (h1 : k + 6 * n < 1000000000) :
  Cl 14 #[.slice a n cap, iv k] w fun e w' => e = .returned (iv ((k + 6 * n : Nat) : Int)) /\ Bw w w' := by
 go_enter Tryz.func14, Tryz.ntmps14
 go_wp2
 go_loopw [1, 5] (fun s t wr => ∃ i : Nat, i <= n /\ t = iv i /\ s = iv ((k + 6 * i : Nat) : Int) /\ Bw w wr) (fun _ t _ => n - (intOf t).toNat)
 case atStart => exact ⟨0, by omega, rfl, rfl, brf _ _⟩
 case round =>
  obtain ⟨i, hi, rfl, rfl, ag⟩ := hrel
  by_cases hlt : i < n
  ·obtain ⟨b, o, rfl, hc⟩ := (hA.below ag).at (jir (c := k) hlt)
   have HK : Hid (k + 6 * (i + 1) = (k + 6 * i) + 6) := by simp only [Hid]; omega
   have jF : 0 < k + 6 * i := by omega
   have aX : k + 6 * i + 6 < 1000000000 := by omega
   generalize k + 6 * i = c at *
   have MI : wr.cell? ⟨b, o + i * 6, none⟩ = some (iv (c : Int)) := by simpa using hc 0 _ rfl
   have Ht : wr.cell? ⟨b, o + i * 6 + 1, none⟩ = some (.string (mtB (c + 1))) := by simpa using hc 1 _ rfl
   have Eb : wr.cell? ⟨b, o + i * 6 + 2, none⟩ = some (.string (mtB (c + 2))) := by simpa using hc 2 _ rfl
   have zy : wr.cell? ⟨b, o + i * 6 + 3, none⟩ = some (iv ((c : Int) + 3)) := by simpa using hc 3 _ rfl
   have xm : wr.cell? ⟨b, o + i * 6 + 4, none⟩ = some (iv ((c : Int) + 4)) := by simpa using hc 4 _ rfl
   have xq : wr.cell? ⟨b, o + i * 6 + 5, none⟩ = some (iv ((c : Int) + 5)) := by simpa using hc 5 _ rfl
   clear hc
   have ew := fun w => jah (c + 1) w (by omega) (by omega)
   rw [show ((c + 1 : Nat) : Int) = (c : Int) + 1 by omega] at ew
   have FJ : ∀ dd os, Cl _ _ (grow (redrawn wr dd) os) fun e bX => e = .returned (.string (mtB (c + 1))) /\ ∃ p : Regrown, bX = grow (redrawn wr p.d) p.os := fun _ _ => Calls.regrown_of (ew _)
   have mE := cell_regrown Ht
   go_wp2_with fail
   refine wp_region_quiet_below (by kernel_rfl) (by kernel_rfl) ?_
   repeat (quiet_step ((go_at_call 40; exact FJ _ _)))
   refine wpQuiet_nil ?_
   intro w1 bz
   obtain ⟨⟨AK, rG⟩, ry⟩ := bz
   have hb1 : Bw wr w1 := ry ▸ below_regrown wr AK rG
   have aj := qtr ag hb1
   have MK := qce hb1 Eb Eb
   have Hu := qce hb1 zy zy
   have zz := qce hb1 xm xm
   have xt := qce hb1 xq xq
   clear ry mE FJ ew hb1
   have eB := fun w => jah (c + 2) w (by omega) (by omega)
   rw [show ((c + 2 : Nat) : Int) = (c : Int) + 2 by omega] at eB
   have FK : ∀ dd os, Cl _ _ (grow (redrawn w1 dd) os) fun e bX => e = .returned (.string (mtB (c + 2))) /\ ∃ p : Regrown, bX = grow (redrawn w1 p.d) p.os := fun _ _ => Calls.regrown_of (eB _)
   have wX := cell_regrown MK
   go_wp2_with fail
   refine wp_region_quiet_below (by kernel_rfl) (by kernel_rfl) ?_
   repeat (quiet_step ((go_at_call 40; exact FK _ _)))
   refine wpQuiet_nil ?_
   intro w2 bz
   obtain ⟨⟨AL, rH⟩, dO⟩ := bz
   have ac : Bw w1 w2 := dO ▸ below_regrown w1 AL rH
   have an := qtr aj ac
   have PT := qce ac Hu Hu
   have PU := qce ac zz zz
   have ML := qce ac xt xt
   clear dO wX FK eB ac
   go_wp2
   go_roundw
   case rel => exact ⟨i + 1, by omega, by go_num, by rw [HK.out]; go_num, an⟩
   case measure => simp [intOf]; omega
  ·have e : i = n := by omega
   subst e
   go_wp2
   go_ret
   exact ⟨rfl, ag⟩
end
section
open Go.RowKit
theorem Zn.below {w w' : World} {base : Nat} {v : Value} {L : List EventD} (h : Zn w base v L) (hb : Bw w w') : Zn w' base v L := jad h hb
theorem Zn.seq {w : World} {base : Nat} {v : Value} {P : List EventD} (h : Zn w base v P) : ∃ a cap, v = .slice a P.length cap /\ Za w a 6 (P.map EventD.cs) := by
 obtain ⟨a, cap, h1, h2, h3⟩ := jbd (rows := P.map EventD.cs) (by rw [llm]; exact h) jbg
 rw [llm] at h1 h3
 exact ⟨a, cap, h1, h2⟩
theorem ji1 (a : Option Addr) (cap k : Nat) (w : World) : Cl 13 #[.slice a 0 cap, iv k] w fun e w' => e = .returned (iv k) /\ w' = w := by
 go_enter Tryz.func13, Tryz.ntmps13
 go_wp2
 go_loopw [1, 5] (fun s t wr => t = iv 0 /\ s = iv k /\ wr = w) (fun _ _ _ => 0)
 case atStart => exact ⟨rfl, rfl, rfl⟩
 case round =>
  obtain ⟨rfl, rfl, hw⟩ := hrel
  have hw := hw.symm
  subst hw
  go_wp2
  go_ret
  exact ⟨rfl, rfl⟩
theorem jqa (X : List EventD) (v : Value) (base k : Nat) (w : World) (h : Zn w base v X) (h0 : 0 < k) (h1 : k + 6 * X.length < 1000000000) :
  Cl 13 #[v, iv k] w fun e w' => e = .returned (iv ((k + 6 * X.length : Nat) : Int)) /\ (∃ a cap, v = .slice a X.length cap /\ Za w' a 6 (jb5 k X.length)) /\ Zb (fun b => v.ownBlock = some b) w w' := by
 rcases h.2 with ⟨hv, hn⟩ | ⟨g, cap, cur, hv, _⟩
 ·subst hv
  rw [hn]
  refine (ji1 none 0 k w).mono ?_
  rintro e w' ⟨rfl, rfl⟩
  exact ⟨rfl, ⟨_, _, rfl, .inl rfl⟩, Zb.refl _ _⟩
 ·subst hv
  refine (ji0 X.length g cap k w (jgy h) h0 h1).mono ?_
  rintro e w' ⟨rfl, hS, _, ht⟩
  exact ⟨rfl, ⟨_, _, rfl, hS⟩, ht.mono fun b _ hb => by rw [hb.1]; rfl⟩
theorem Za.touchV {S : Nat -> Prop} {w w' : World} {a : Option Addr} {n cap k : Nat} {rows : List (List Value)} (h : Za w a k rows) (ht : Zb S w w') (hs : ∀ g, (Value.slice a n cap).ownBlock = some g -> ¬ S g) : Za w' a k rows := by
 rcases h with h | ⟨b, o, rfl, h⟩
 ·exact .inl h
 ·exact .inr ⟨b, o, rfl, fun i j r c hi hj => ht.cell (hs b rfl) (h i j r c hi hj)⟩
end
section
open Go.RowKit Go.Sort
theorem Zn.touch {S : Nat -> Prop} {w w' : World} {base : Nat} {v : Value} {L : List EventD} (h : Zn w base v L) (ht : Zb S w w') (hs : ∀ g, v.ownBlock = some g -> ¬ S g) : Zn w' base v L := by
 refine ⟨h.1, ?_⟩
 rcases h.2 with h | ⟨g, cap, cur, rfl, h1, h2, h3⟩
 ·exact .inl h
 ·refine .inr ⟨g, cap, cur, rfl, h1, ?_, h3⟩
  have hl : g < w.heap.size := (Array.getElem?_eq_some_iff.mp h2).1
  exact (ht.block g hl (hs g rfl)).trans h2
theorem walkL (s : StoreD) (H : List EventD) (v : Value) (w : World) (hv : Zx w v s) (nQ : s.ok) (bT : Zz w) (hH : H.length <= s.vs.length) (hI : Zt s -> ∀ v w, Zz w -> Zx w v s -> Cl 9 #[v] w fun e w' => ∃ x, e = .returned x /\ Zn w' w.heap.size x H /\ Bw w w') (hS : Zt s -> ∀ v w, Zx w v s -> Cl 7 #[v] w fun e w' => ∃ x, e = .returned x /\ Zn w' w.heap.size x H /\ Bw w w') :
  Cl 3 #[v] w fun e w' => e = .returned (.bool true) /\ Bw w w' := by
 have cC := hv
 obtain ⟨a, b, c, d, e, f, va, ia, ca, cb, cc, cd, ce, cf, cv, ci, rfl, _, _, _, _, _, _⟩ := hv.form
 have ag := qal w (.cells #[iv s.tx, .slice a s.now.rules.length ca, .slice b s.now.zones.length cb, .slice c s.now.links.length cc, .slice d s.was.rules.length cd, .slice e s.was.zones.length ce, .slice f s.was.links.length cf, iv s.cur, .slice va s.vs.length cv, .slice ia s.ix.length ci] 30)
 have A0 := Zg.new w [iv s.tx, .slice a s.now.rules.length ca, .slice b s.now.zones.length cb, .slice c s.now.links.length cc, .slice d s.was.rules.length cd, .slice e s.was.zones.length ce, .slice f s.was.links.length cf, iv s.cur, .slice va s.vs.length cv, .slice ia s.ix.length ci] 30
 have hZ := jg2 s _ 1048576 _ (cC.below ag) nQ (by omega) (by omega)
 obtain ⟨x0, x1, x2, x3, x4, x5, x6, x7, x8, x9⟩ := A0.ten
 by_cases g : 1048576 - (s.sz : Int) < 0
 ·rw [jal g] at hZ
  clear g
  go_enter Tryz.func3, Tryz.ntmps3
  go_wp2_with fail
  refine hZ.mono ?_
  rintro e1 w1 ⟨rfl, hb1⟩
  go_wp2
  go_ret
  exact ⟨rfl, (qtr ag hb1)⟩
 rw [ja7 (by omega)] at hZ
 have ok := nQ.store (by omega)
 have hsz : s.now.sz <= 1048576 /\ s.was.sz <= 1048576 := by unfold StoreD.sz at g; omega
 have iu := fun w h => jg1 s (.agg #[iv s.tx, .slice a s.now.rules.length ca, .slice b s.now.zones.length cb, .slice c s.now.links.length cc, .slice d s.was.rules.length cd, .slice e s.was.zones.length ce, .slice f s.was.links.length cf, iv s.cur, .slice va s.vs.length cv, .slice ia s.ix.length ci]) w h ok
 have vo := fun v w hE h => hI ok v w hE h
 have Cz := fun v w h => hS ok v w h
 have Ca := fun v v2 w h h2 => jg3 s v v2 w h h2 ok
 have vx := fun v B U w h hU => jey s v B U w h hU hsz.1 hsz.2 ok.vl ok.xl
 have iY := Nat.le_trans hH ok.vl
 have hQ := fun a a2 c c2 w h h2 => jmd H a a2 c c2 w h h2 iY
 have g2 : ¬ (1048576 - (s.sz : Int) < 0) := g
 clear g hI hS hsz
 generalize (s.sz : Int) = sz at *
 go_enter Tryz.func3, Tryz.ntmps3
 go_wp2_with fail
 refine hZ.mono ?_
 rintro e1 w1 ⟨rfl, hb1⟩
 have aj := qtr ag hb1
 have A1 := A0.below hb1
 clear x0 x1 x2 x3 x4 x5 x6 x7 x8 x9 hb1 A0 ag hZ
 obtain ⟨x0, x1, x2, x3, x4, x5, x6, x7, x8, x9⟩ := A1.ten
 go_wp2_with fail
 refine (iu _ (cC.below aj)).mono ?_
 rintro e2 w2 ⟨v2, rfl, bC, ac⟩
 have an := qtr aj ac
 have A2 := A1.below ac
 have mi := bC.st
 clear x0 x1 x2 x3 x4 x5 x6 x7 x8 x9 ac A1 aj bC
 go_wp2_with fail
 refine (Cz v2 _ mi).mono ?_
 rintro e3 w3 ⟨x3, rfl, kd, ar⟩
 have ay := qtr an ar
 have A3 := A2.below ar
 have l3 := ar.size
 have lw : ∀ g, x3.ownBlock = some g -> g < w3.heap.size := fun g hg => (kd.lt g hg).2
 have Ab := hid kd
 obtain ⟨p3, c3, ej, jk⟩ := kd.seq
 subst ej
 clear ar A2 an mi kd
 obtain ⟨x0, x1, x2, x3, x4, x5, x6, x7, x8, x9⟩ := A3.ten
 have la : w.heap.size < w3.heap.size := qbl x0
 go_wp2_with fail
 refine (iu _ (cC.below ay)).mono ?_
 rintro e4 w4 ⟨v4, rfl, dC, az⟩
 have aR := qtr ay az
 have A4 := A3.below az
 have oT := dC.st
 have kh := jk.below az
 have l4 := az.size
 obtain ⟨ga, gb, gc, gd, ge, gf, gv, gx, Dz, _⟩ := dC.form
 subst Dz
 have ul := hid dC
 clear x0 x1 x2 x3 x4 x5 x6 x7 x8 x9 az A3 ay dC jk
 have b5 := qal w4 (.cells #[iv s.tx, .slice (some ⟨ga, 0, none⟩) s.now.rules.length s.now.rules.length, .slice (some ⟨gb, 0, none⟩) s.now.zones.length s.now.zones.length, .slice (some ⟨gc, 0, none⟩) s.now.links.length s.now.links.length, .slice (some ⟨gd, 0, none⟩) s.was.rules.length s.was.rules.length, .slice (some ⟨ge, 0, none⟩) s.was.zones.length s.was.zones.length, .slice (some ⟨gf, 0, none⟩) s.was.links.length s.was.links.length, iv s.cur, .slice (some ⟨gv, 0, none⟩) s.vs.length s.vs.length, .slice (some ⟨gx, 0, none⟩) s.ix.length s.ix.length] 42)
 have bG := qtr aR b5
 have A5 := A4.below b5
 have mj := oT.below b5
 have fy := kh.below b5
 have X5 := Zg.new w4 [iv s.tx, .slice (some ⟨ga, 0, none⟩) s.now.rules.length s.now.rules.length, .slice (some ⟨gb, 0, none⟩) s.now.zones.length s.now.zones.length, .slice (some ⟨gc, 0, none⟩) s.now.links.length s.now.links.length, .slice (some ⟨gd, 0, none⟩) s.was.rules.length s.was.rules.length, .slice (some ⟨ge, 0, none⟩) s.was.zones.length s.was.zones.length, .slice (some ⟨gf, 0, none⟩) s.was.links.length s.was.links.length, iv s.cur, .slice (some ⟨gv, 0, none⟩) s.vs.length s.vs.length, .slice (some ⟨gx, 0, none⟩) s.ix.length s.ix.length] 42
 have z5 : (w4.alloc (.cells #[iv s.tx, .slice (some ⟨ga, 0, none⟩) s.now.rules.length s.now.rules.length, .slice (some ⟨gb, 0, none⟩) s.now.zones.length s.now.zones.length, .slice (some ⟨gc, 0, none⟩) s.now.links.length s.now.links.length, .slice (some ⟨gd, 0, none⟩) s.was.rules.length s.was.rules.length, .slice (some ⟨ge, 0, none⟩) s.was.zones.length s.was.zones.length, .slice (some ⟨gf, 0, none⟩) s.was.links.length s.was.links.length, iv s.cur, .slice (some ⟨gv, 0, none⟩) s.vs.length s.vs.length, .slice (some ⟨gx, 0, none⟩) s.ix.length s.ix.length] 42)).heap.size = w4.heap.size + 1 := by simp
 obtain ⟨y0, y1, y2, y3, y4, y5, y6, y7, y8, y9⟩ := X5.ten
 clear A4 aR oT kh
 go_wp2_with fail
 refine (vo _ _ (bT.of_below bG) mj).mono ?_
 rintro e6 w6 ⟨x6, rfl, kT, hb6⟩
 rw [z5] at kT
 have ck := qtr bG hb6
 have A6 := A5.below hb6
 have X6 := X5.below hb6
 have qJ := mj.below hb6
 have uy := qtr b5 hb6
 have lC := fy.below hb6
 have lg : ∀ g, x6.ownBlock = some g -> w4.heap.size + 1 <= g := fun g hg => (kT.lt g hg).1
 obtain ⟨p6, c6, zp, xY⟩ := kT.seq
 subst zp
 clear y0 y1 y2 y3 y4 y5 y6 y7 y8 y9 hb6 A5 X5 bG mj b5 fy z5
 go_wp2_with fail
 refine (hQ _ _ _ _ _ xY lC).mono ?_
 rintro e7 w7 ⟨rfl, ax⟩
 have bD := jab w7
 have fW := qtr ax bD
 have gU : Hid (Bw w w7.drew) := qtr ck fW
 have AD := A6.below fW
 have XD := X6.below fW
 have uh := hid AD
 have ut := hid XD
 have uo : Hid (Zx w7.drew (.agg #[iv s.tx, .slice (some ⟨ga, 0, none⟩) s.now.rules.length s.now.rules.length, .slice (some ⟨gb, 0, none⟩) s.now.zones.length s.now.zones.length, .slice (some ⟨gc, 0, none⟩) s.now.links.length s.now.links.length, .slice (some ⟨gd, 0, none⟩) s.was.rules.length s.was.rules.length, .slice (some ⟨ge, 0, none⟩) s.was.zones.length s.was.zones.length, .slice (some ⟨gf, 0, none⟩) s.was.links.length s.was.links.length, iv s.cur, .slice (some ⟨gv, 0, none⟩) s.vs.length s.vs.length, .slice (some ⟨gx, 0, none⟩) s.ix.length s.ix.length]) s) := qJ.below fW
 have mI : Hid (Zn w7.drew (w4.heap.size + 1) (.slice p6 H.length c6) H) := kT.below fW
 have us : Hid (Za w7.drew p3 6 (H.map EventD.cs)) := lC.below fW
 have ug : Hid (Bw w4 w7.drew) := qtr uy fW
 obtain ⟨x0, x1, x2, x3, x4, x5, x6, x7, x8, x9⟩ := AD.ten
 obtain ⟨y0, y1, y2, y3, y4, y5, y6, y7, y8, y9⟩ := XD.ten
 have ka := iu w7.drew (cC.below gU.out)
 clear A6 X6 AD XD qJ bD fW ax ck uy kT xY lC
 go_wp2_with fail
 go_region_held3 (fun w' => w'.cell? ⟨w.heap.size, 0, none⟩ = some (iv s.tx) /\ w'.cell? ⟨w.heap.size, 1, none⟩ = some (.slice a s.now.rules.length ca) /\ w'.cell? ⟨w.heap.size, 2, none⟩ = some (.slice b s.now.zones.length cb) /\ w'.cell? ⟨w.heap.size, 3, none⟩ = some (.slice c s.now.links.length cc) /\ w'.cell? ⟨w.heap.size, 4, none⟩ = some (.slice d s.was.rules.length cd) /\ w'.cell? ⟨w.heap.size, 5, none⟩ = some (.slice e s.was.zones.length ce) /\ w'.cell? ⟨w.heap.size, 6, none⟩ = some (.slice f s.was.links.length cf) /\ w'.cell? ⟨w.heap.size, 7, none⟩ = some (iv s.cur) /\ w'.cell? ⟨w.heap.size, 8, none⟩ = some (.slice va s.vs.length cv) /\ w'.cell? ⟨w.heap.size, 9, none⟩ = some (.slice ia s.ix.length ci) /\ w'.cell? ⟨w4.heap.size, 0, none⟩ = some (iv s.tx) /\ w'.cell? ⟨w4.heap.size, 1, none⟩ = some (.slice (some ⟨ga, 0, none⟩) s.now.rules.length s.now.rules.length) /\ w'.cell? ⟨w4.heap.size, 2, none⟩ = some (.slice (some ⟨gb, 0, none⟩) s.now.zones.length s.now.zones.length) /\ w'.cell? ⟨w4.heap.size, 3, none⟩ = some (.slice (some ⟨gc, 0, none⟩) s.now.links.length s.now.links.length) /\ w'.cell? ⟨w4.heap.size, 4, none⟩ = some (.slice (some ⟨gd, 0, none⟩) s.was.rules.length s.was.rules.length) /\ w'.cell? ⟨w4.heap.size, 5, none⟩ = some (.slice (some ⟨ge, 0, none⟩) s.was.zones.length s.was.zones.length) /\ w'.cell? ⟨w4.heap.size, 6, none⟩ = some (.slice (some ⟨gf, 0, none⟩) s.was.links.length s.was.links.length) /\ w'.cell? ⟨w4.heap.size, 7, none⟩ = some (iv s.cur) /\ w'.cell? ⟨w4.heap.size, 8, none⟩ = some (.slice (some ⟨gv, 0, none⟩) s.vs.length s.vs.length) /\ w'.cell? ⟨w4.heap.size, 9, none⟩ = some (.slice (some ⟨gx, 0, none⟩) s.ix.length s.ix.length)) (go_keep) (first | (go_at_call 8; refine ka.mono ?_; rintro e8 w8 ⟨v8, rfl, dv, bR⟩; have qK := dv.st; clear dv; have xg := jaa bR x0; have xh := jaa bR x1; have xj := jaa bR x2; have xk := jaa bR x3; have xn := jaa bR x4; have xu := jaa bR x5; have xy := jaa bR x6; have xA := jaa bR x7; have xB := jaa bR x8; have xC := jaa bR x9; have xD := jaa bR y0; have xF := jaa bR y1; have xG := jaa bR y2; have xH := jaa bR y3; have xI := jaa bR y4; have xJ := jaa bR y5; have xK := jaa bR y6; have xL := jaa bR y7; have xM := jaa bR y8; have xN := jaa bR y9; have C8 := Ca _ v8 w8 (uo.out.below bR) qK; obtain ⟨a7, b7, c7, d7, e7, f7, Nl, Mg, JM, JP, JQ, JR, JS, JT, JW, JU, DA, _⟩ := qK.form; subst DA; clear qK) | (go_at_call 11; refine C8.mono ?_; rintro e9 w9 ⟨rfl, aT⟩; have lL := jaa aT xg; have nU := jaa aT xh; have Ej := jaa aT xj; have Ek := jaa aT xk; have El := jaa aT xn; have Em := jaa aT xu; have En := jaa aT xy; have Eo := jaa aT xA; have Ep := jaa aT xB; have Eq := jaa aT xC; have tO := jaa aT xD; have tP := jaa aT xF; have tQ := jaa aT xG; have tR := jaa aT xH; have tS := jaa aT xI; have tT := jaa aT xJ; have tU := jaa aT xK; have tV := jaa aT xL; have tW := jaa aT xM; have tX := jaa aT xN))
 have i7 := qtr bR aT
 have eU := qtr gU.out i7
 have A9 := uh.out.below i7
 have X9 := ut.out.below i7
 have vk := mI.out.below i7
 have pG := us.out.below i7
 have pS := qtr ug.out i7
 have vQ := ul.out.upto l4 pS
 have xd := pS.size
 clear x0 x1 x2 x3 x4 x5 x6 x7 x8 x9 y0 y1 y2 y3 y4 y5 y6 y7 y8 y9 xg xh xj xk xn xu xy xA xB xC xD xF xG xH xI xJ xK xL xM xN
 clear lL nU Ej Ek El Em En Eo Ep Eq tO tP tQ tR tS tT tU tV tW tX
 clear gU uh ut mI us ug ul uo Ab bR aT i7 pS ka
 obtain ⟨y0, y1, y2, y3, y4, y5, y6, y7, y8, y9⟩ := X9.ten
 go_wp2_with fail
 refine (vx _ _ _ _ vQ xd).mono ?_
 rintro K7 In ⟨⟨K, rfl⟩, lW⟩
 have ib := lW.below (fun x hx => by have : w3.heap.size <= x /\ x < w4.heap.size := hx; omega) eU.size eU
 have u9 := A9.touch lW (show ¬ (w3.heap.size <= w.heap.size /\ w.heap.size < w4.heap.size) by omega)
 have ii := vk.touch lW (fun g hg => by show ¬ (w3.heap.size <= g /\ g < w4.heap.size); have := lg g hg; omega)
 have iG := pG.touchV (n := H.length) (cap := c3) lW (fun g hg => by show ¬ (w3.heap.size <= g /\ g < w4.heap.size); have := lw g hg; omega)
 obtain ⟨pq, cq, hp, lR⟩ := ii.seq
 injection hp with e1 e2 e3
 subst e1 e3
 have kk : ¬ ((K : Int) < 0) := by omega
 clear lW vk pG A9 X9 eU vQ vx xd e2 y0 y1 y2 y3 y4 y5 y6 y7 y8 y9
 go_wp2_with fail
 refine (hQ _ _ _ _ _ lR iG).mono ?_
 rintro K9 EH ⟨rfl, eD⟩
 have ic := qtr ib eD
 have ud := u9.below eD
 have kR := ii.below eD
 have lx := iG.below eD
 clear eD ib u9 ii iG lR
 have hK := jqa H _ _ 1 EH kR (by omega) (by omega)
 have vm := fun w h => ji3 H.length c6 1 p6 w h (by omega) (by omega)
 have Lj : (0 : Int) <= ((1 + 6 * H.length : Nat) : Int) := by omega
 generalize hd4 : 1 + 6 * H.length = d3 at *
 clear hd4
 go_wp2_with fail
 refine hK.mono ?_
 rintro Ka Nn ⟨rfl, Dq, oc⟩
 obtain ⟨am, cm, em, iS⟩ := Dq
 injection em with m1 m2 m3
 subst m1 m3
 have kL := oc.below (fun x hx => by have := lg x hx; omega) ic.size ic
 have ue := ud.touch oc (fun h => by have := lg _ h; omega)
 have ly := lx.touchV (n := H.length) (cap := c3) oc (fun g hg h => by have := lg _ h; have := lw g hg; omega)
 clear oc kR lx ud ic hK m2
 have dd : ¬ ((d3 : Int) < 0) := by omega
 go_wp2_with fail
 refine (vm _ iS).mono ?_
 rintro Kb Np ⟨rfl, eE⟩
 have ie := qtr kL eE
 have uf := ue.below eE
 have lT := iS.below eE
 have lz := ly.below eE
 clear eE kL ue iS ly
 obtain ⟨x0, x1, x2, x3, x4, x5, x6, x7, x8, x9⟩ := uf.ten
 go_wp2_with fail
 refine (iu _ (cC.below ie)).mono ?_
 rintro Kc Nq ⟨Nk, rfl, kX, ft⟩
 have ig := qtr ie ft
 have lU := lT.below ft
 have lA := lz.below ft
 have kZ := kX.st
 clear ft ie uf lT lz kX x0 x1 x2 x3 x4 x5 x6 x7 x8 x9
 go_wp2_with fail
 refine (vo _ _ (bT.of_below ig) kZ).mono ?_
 rintro Kd Nr ⟨zC, rfl, kS, fu⟩
 have kM := qtr ig fu
 have lV := lU.below fu
 have lB := lA.below fu
 obtain ⟨MJ, JJ, rD, lS⟩ := kS.seq
 subst rD
 clear fu ig lU lA kZ kS
 go_wp2_with fail
 refine (hQ _ _ _ _ _ lS lB).mono ?_
 rintro Ke Ns ⟨rfl, iy⟩
 have qf := qtr kM iy
 have sg := lV.below iy
 clear iy kM lV lB lS
 go_wp2_with fail
 refine (vm _ sg).mono ?_
 rintro Kf Nt ⟨rfl, qU⟩
 go_wp2
 go_ret
 exact ⟨rfl, (qtr qf qU)⟩
end
section
open Go.RowKit Go.Sort
theorem jzq (s : StoreD) : (if storeI s = true then ja5 s.vs else []).length <= s.vs.length := by
 split
 ·exact jn2 _ _
 ·simp
theorem j2q {s : StoreD} (h : storeI s = true) : s.vs.length <= 60 := by
 unfold storeI jo5 txB at h
 simp only [bat, decide_eq_true_eq] at h
 exact h.1.2.1.1
theorem jwy (hS : SortC) (s : StoreD) (v : Value) (w : World) (hE : Zz w) (hv : Zx w v s) (ok : Zt s) :
  Cl 9 #[v] w fun e w' => ∃ x, e = .returned x /\ Zn w' w.heap.size x (if storeI s = true then ja5 s.vs else []) /\ Bw w w' := by
 have cC := hv
 obtain ⟨a, b, c, d, e, f, va, ia, ca, cb, cc, cd, ce, cf, cv, ci, rfl, _, _, hV, _, _, _⟩ := hv.form
 have ag := qal w (.cells #[iv s.tx, .slice a s.now.rules.length ca, .slice b s.now.zones.length cb, .slice c s.now.links.length cc, .slice d s.was.rules.length cd, .slice e s.was.zones.length ce, .slice f s.was.links.length cf, iv s.cur, .slice va s.vs.length cv, .slice ia s.ix.length ci] 42)
 have A0 := Zg.new w [iv s.tx, .slice a s.now.rules.length ca, .slice b s.now.zones.length cb, .slice c s.now.links.length cc, .slice d s.was.rules.length cd, .slice e s.was.zones.length ce, .slice f s.was.links.length cf, iv s.cur, .slice va s.vs.length cv, .slice ia s.ix.length ci] 42
 have hO := jjd hS s _ _ (hE.of_below ag) (cC.below ag) ok
 obtain ⟨x0, x1, x2, x3, x4, x5, x6, x7, x8, x9⟩ := A0.ten
 obtain ⟨tb, fU⟩ := qeb (storeI s)
 have HT := hid fU
 rw [fU]
 clear hV hv cC fU
 go_enter Tryz.func9, Tryz.ntmps9
 go_wp2_with fail
 refine hO.mono ?_
 rintro e1 w1 hP
 obtain ⟨x, ms, hx⟩ := hP.ex
 rw [HT.out] at ms hx
 subst ms
 have aj := ag.trans (hP.bel.mono ag.size)
 clear hP x0 x1 x2 x3 x4 x5 x6 x7 x8 x9 A0 hO
 cases tb
 ·clear hx
  go_wp2
  go_ret
  exact ⟨_, rfl, World.ownsRow_nil _ _ _ _, aj⟩
 ·obtain ⟨bb, lb, n, rfl, hl, hM⟩ := hx rfl
  have hC := jwx lb n (jcr s.vs) (ja5 s.vs) w1 hM (jf9 s.vs) (jl9 s.vs.length) (Nat.le_trans (jn2 _ _) ok.vl)
  clear hx
  go_wp2_with fail
  refine hC.mono ?_
  rintro e2 w2 ⟨v2, rfl, bC, ac⟩
  obtain ⟨p, m, c2, rfl⟩ := jac bC
  have an := qtr aj ac
  go_wp2
  go_ret
  exact ⟨_, rfl, jak bC aj.size, an⟩
theorem jvj (s : StoreD) (v : Value) (w : World) (hv : Zx w v s) (oU : ∀ w, Zx w v s -> Cl 28 #[v] w fun e w' => e = .returned (.bool (storeI s)) /\ Bw w w') :
  Cl 7 #[v] w fun e w' => ∃ x, e = .returned x /\ Zn w' w.heap.size x (if storeI s = true then ja5 s.vs else []) /\ Bw w w' := by
 have cC := hv
 obtain ⟨a, b, c, d, e, f, va, ia, ca, cb, cc, cd, ce, cf, cv, ci, rfl, _, _, hV, _, _, _⟩ := hv.form
 have ag := qal w (.cells #[iv s.tx, .slice a s.now.rules.length ca, .slice b s.now.zones.length cb, .slice c s.now.links.length cc, .slice d s.was.rules.length cd, .slice e s.was.zones.length ce, .slice f s.was.links.length cf, iv s.cur, .slice va s.vs.length cv, .slice ia s.ix.length ci] 42)
 have A0 := Zg.new w [iv s.tx, .slice a s.now.rules.length ca, .slice b s.now.zones.length cb, .slice c s.now.links.length cc, .slice d s.was.rules.length cd, .slice e s.was.zones.length ce, .slice f s.was.links.length cf, iv s.cur, .slice va s.vs.length cv, .slice ia s.ix.length ci] 42
 have hS := oU _ (cC.below ag)
 obtain ⟨x0, x1, x2, x3, x4, x5, x6, x7, x8, x9⟩ := A0.ten
 have HV := hid hV
 obtain ⟨tb, fU⟩ := qeb (storeI s)
 have HT := hid fU
 rw [fU] at hS ⊢
 clear hV hv cC oU fU
 go_enter Tryz.func7, Tryz.ntmps7
 go_wp2_with fail
 refine hS.mono ?_
 rintro e1 w1 ⟨rfl, hb1⟩
 have aj := qtr ag hb1
 have A1 := A0.below hb1
 clear hb1 x0 x1 x2 x3 x4 x5 x6 x7 x8 x9 A0 hS
 cases tb
 ·have hO := jau w1 79 6
  have ac := qal w1 (.cells #[] 79)
  go_wp2
  go_ret
  exact ⟨_, rfl, jak hO aj.size, (qtr aj ac)⟩
 ·have hC := jd2 s.vs va s.vs.length cv w1 (HV.out.below aj) rfl (Nat.le_trans (j2q HT.out) (by omega))
  have x8 := A1.c 8 rfl
  go_wp2_with fail
  refine hC.mono ?_
  rintro e2 w2 ⟨v2, rfl, bC, ac⟩
  obtain ⟨p, m, c2, rfl⟩ := jac bC
  have an := qtr aj ac
  go_wp2
  go_ret
  exact ⟨_, rfl, jak bC aj.size, an⟩
end
end Go.Proofs.YtgiieknbckhofaaGreatDoor
