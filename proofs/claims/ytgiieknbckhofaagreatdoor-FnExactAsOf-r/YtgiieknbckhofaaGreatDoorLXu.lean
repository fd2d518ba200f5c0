/- Packed. -/
import Derived.Test.YtgiieknbckhofaaGreatDoorMarkStoreu
import Derived.Test.YtgiieknbckhofaaGreatDoorLVu
import Derived.Test.YtgiieknbckhofaaGreatDoorSJu
set_option maxRecDepth 20000
set_option maxHeartbeats 20000000
set_option linter.unusedSimpArgs false
namespace Go.Proofs.YtgiieknbckhofaaGreatDoor
section
open Go.RowKit Go.Sort
def jp0 (c : Nat) : List Value := [iv (c : Nat), .string (mtB (c + 1)), .string (mtB (c + 2)), iv (c + 3 : Nat), iv (c + 4 : Nat), iv (c + 5 : Nat)]
def jbr (c n : Nat) : List (List Value) := (List.range n).map fun i => jp0 (c + 6 * i)
theorem jim {c n i : Nat} (h : i < n) : (jbr c n)[i]? = some (jp0 (c + 6 * i)) := by unfold jbr; rw [lgm, List.getElem?_range h]; rfl
theorem mksEvent_len {c n : Nat} : ∀ r ∈ jbr c n, r.length = 6 := fun r hr => by
 unfold jbr at hr
 obtain ⟨i, _, rfl⟩ := List.mem_map.mp hr
 rfl
theorem jiv (n g cap k : Nat) (w : World) (bC : Zf w g (n * 6)) (h0 : 0 < k) (h1 : k + 6 * n < 1000000000) :
  Cl 13 #[so g n cap, iv k] w fun e w' => e = .returned (iv ((k + 6 * n : Nat) : Int)) /\ Za w' (some (ad g 0)) 6 (jbr k n) /\ Zf w' g (n * 6) /\ Zb (fun b => b = g /\ 0 < n) w w' := by
 have au := @mksEvent_len k n
 go_enter Tryz.func13, Tryz.ntmps13
 go_wp2
 go_loopw [1, 5] (fun s t wr => ∃ i : Nat, i <= n /\ t = iv i /\ s = iv ((k + 6 * i : Nat) : Int) /\ Zf wr g (n * 6) /\ Zc wr g 6 i (jbr k n) /\ Zb (fun b => b = g /\ 0 < n) w wr) (fun _ t _ => n - (intOf t).toNat)
 case atStart => exact ⟨0, by omega, rfl, rfl, bC, fun i j r c h => by omega, Zb.refl _ _⟩
 case round =>
  clear bC
  obtain ⟨i, hi, rfl, rfl, bC, dT, di⟩ := hrel
  by_cases hlt : i < n
  ·have ap := jim (c := k) hlt
   have HK : Hid (k + 6 * (i + 1) = (k + 6 * i) + 6) := by simp only [Hid]; omega
   have jR : 0 < k + 6 * i := by omega
   have aY : k + 6 * i + 6 < 1000000000 := by omega
   generalize k + 6 * i = c at *
   have jk : Jd wr g (i * 6) [] := Jd.nil _ _ _
   obtain ⟨⟨u0, iu⟩, gn⟩ := bC (i * 6) (by omega)
   have cW : Zf (wr.setCell (ad g (i * 6)) (iv (c : Int))) g (n * 6) := bC.set _ _
   have fH : Zc (wr.setCell (ad g (i * 6)) (iv (c : Int))) g 6 i (jbr k n) := by simpa using dT.store au 0 (iv (c : Int))
   have iP : Jd (wr.setCell (ad g (i * 6)) (iv (c : Int))) g (i * 6) [iv (c : Int)] := by simpa using jk.store bC (n := 0) rfl (by omega) (iv (c : Int))
   have dt : Zb (fun b => b = g /\ 0 < n) w (wr.setCell (ad g (i * 6)) (iv (c : Int))) := di.set ⟨rfl, by omega⟩ _
   have ei := fun w => jaj (c + 1) w (by omega) (by omega)
   rw [show ((c + 1 : Nat) : Int) = (c : Int) + 1 by omega] at ei
   go_wp2_with fail
   refine (ei _).mono ?_
   rintro e w1 ⟨rfl, hb1⟩
   have el := cW.below hb1
   have kw := fH.below hb1
   have kE := iP.below hb1
   have kF := dt.trans (Zb.of_below (S := fun b => b = g /\ 0 < n) hb1)
   clear hb1 cW fH iP dt ei
   obtain ⟨⟨u1, kS⟩, cZ⟩ := el (i * 6 + 1) (by omega)
   have aN := el.set (ad g (i * 6 + 1)) (.string (mtB (c + 1)))
   have bY := kw.store au 1 (.string (mtB (c + 1)))
   have gg := kE.store el (n := 1) rfl (by omega) (.string (mtB (c + 1)))
   have dY := kF.set (o := i * 6 + 1) ⟨rfl, by omega⟩ (.string (mtB (c + 1)))
   have ej := fun w => jaj (c + 2) w (by omega) (by omega)
   rw [show ((c + 2 : Nat) : Int) = (c : Int) + 1 + 1 by omega] at ej
   go_wp2_with fail
   refine (ej _).mono ?_
   rintro e w2 ⟨rfl, ac⟩
   have qc := aN.below ac
   have Bd := bY.below ac
   have BC := gg.below ac
   have BK := dY.trans (Zb.of_below (S := fun b => b = g /\ 0 < n) ac)
   clear ac aN bY gg dY ej
   obtain ⟨⟨u2, sQ⟩, ep⟩ := qc (i * 6 + 2) (by omega)
   have i8 := qc.set (ad g (i * 6 + 2)) (.string (mtB (c + 2)))
   have eh := Bd.store au 2 (.string (mtB (c + 2)))
   have iQ := BC.store qc (n := 2) rfl (by omega) (.string (mtB (c + 2)))
   have ic := BK.set (o := i * 6 + 2) ⟨rfl, by omega⟩ (.string (mtB (c + 2)))
   obtain ⟨⟨u3, sR⟩, gp⟩ := i8 (i * 6 + 3) (by omega)
   have jl := i8.set (ad g (i * 6 + 3)) (iv ((c : Int) + 1 + 1 + 1))
   have kA := eh.store au 3 (iv ((c : Int) + 1 + 1 + 1))
   have mi := iQ.store i8 (n := 3) rfl (by omega) (iv ((c : Int) + 1 + 1 + 1))
   have iS := ic.set (o := i * 6 + 3) ⟨rfl, by omega⟩ (iv ((c : Int) + 1 + 1 + 1))
   obtain ⟨⟨u4, sS⟩, mC⟩ := jl (i * 6 + 4) (by omega)
   have eG := jl.set (ad g (i * 6 + 4)) (iv ((c : Int) + 1 + 1 + 1 + 1))
   have iL := kA.store au 4 (iv ((c : Int) + 1 + 1 + 1 + 1))
   have jP := mi.store jl (n := 4) rfl (by omega) (iv ((c : Int) + 1 + 1 + 1 + 1))
   have ou := iS.set (o := i * 6 + 4) ⟨rfl, by omega⟩ (iv ((c : Int) + 1 + 1 + 1 + 1))
   obtain ⟨⟨u5, sT⟩, sF⟩ := eG (i * 6 + 5) (by omega)
   have lA := eG.set (ad g (i * 6 + 5)) (iv ((c : Int) + 1 + 1 + 1 + 1 + 1))
   have lr := iL.store au 5 (iv ((c : Int) + 1 + 1 + 1 + 1 + 1))
   have i6 := jP.store eG (n := 5) rfl (by omega) (iv ((c : Int) + 1 + 1 + 1 + 1 + 1))
   have ov := ou.set (o := i * 6 + 5) ⟨rfl, by omega⟩ (iv ((c : Int) + 1 + 1 + 1 + 1 + 1))
   have hF : Zc _ g 6 (i + 1) (jbr k n) := lr.step i6 (by rw [ap]; simp [jp0, Int.add_assoc])
   clear lr i6
   go_wp2
   go_roundw
   case rel => exact ⟨i + 1, by omega, by go_num, by rw [HK.out]; go_num, lA, hF, ov⟩
   case measure => simp [intOf]; omega
  ·have e : i = n := by omega
   subst e
   go_wp2
   go_ret
   exact ⟨rfl, Zc.seq (by unfold jbr; rw [llm, List.length_range]; exact dT), bC, di⟩
theorem jiy (n cap k : Nat) (a : Option Addr) (w : World) (hA : Za w a 6 (jbr k n)) (h0 : 0 < k) (h1 : k + 6 * n < 1000000000) :
  Cl 14 #[.slice a n cap, iv k] w fun e w' => e = .returned (iv ((k + 6 * n : Nat) : Int)) /\ Bw w w' := by
 go_enter Tryz.func14, Tryz.ntmps14
 go_wp2
 go_loopw [1, 5] (fun s t wr => ∃ i : Nat, i <= n /\ t = iv i /\ s = iv ((k + 6 * i : Nat) : Int) /\ Bw w wr) (fun _ t _ => n - (intOf t).toNat)
 case atStart => exact ⟨0, by omega, rfl, rfl, brf _ _⟩
 case round =>
  obtain ⟨i, hi, rfl, rfl, ag⟩ := hrel
  by_cases hlt : i < n
  ·obtain ⟨b, o, rfl, hc⟩ := (hA.below ag).at (jim (c := k) hlt)
   have HK : Hid (k + 6 * (i + 1) = (k + 6 * i) + 6) := by simp only [Hid]; omega
   have jR : 0 < k + 6 * i := by omega
   have aY : k + 6 * i + 6 < 1000000000 := by omega
   generalize k + 6 * i = c at *
   have Qc : wr.cell? (ad b (o + i * 6)) = some (iv (c : Int)) := by simpa using hc 0 _ rfl
   have Mb : wr.cell? (ad b (o + i * 6 + 1)) = some (.string (mtB (c + 1))) := by simpa using hc 1 _ rfl
   have Hh : wr.cell? (ad b (o + i * 6 + 2)) = some (.string (mtB (c + 2))) := by simpa using hc 2 _ rfl
   have Hi : wr.cell? (ad b (o + i * 6 + 3)) = some (iv ((c : Int) + 3)) := by simpa using hc 3 _ rfl
   have Hk : wr.cell? (ad b (o + i * 6 + 4)) = some (iv ((c : Int) + 4)) := by simpa using hc 4 _ rfl
   have Hm : wr.cell? (ad b (o + i * 6 + 5)) = some (iv ((c : Int) + 5)) := by simpa using hc 5 _ rfl
   clear hc
   have ei := fun w => jaj (c + 1) w (by omega) (by omega)
   rw [show ((c + 1 : Nat) : Int) = (c : Int) + 1 by omega] at ei
   have Fk : ∀ dd os, Cl _ _ (grow (redrawn wr dd) os) fun e cr => e = .returned (.string (mtB (c + 1))) /\ ∃ p : Regrown, cr = grow (redrawn wr p.d) p.os := fun _ _ => Calls.regrown_of (ei _)
   have lM := cell_regrown Mb
   go_wp2_with fail
   refine wp_region_quiet_below (by kernel_rfl) (by kernel_rfl) ?_
   repeat (quiet_step ((go_at_call 40; exact Fk _ _)))
   refine wpQuiet_nil ?_
   intro w1 bL
   obtain ⟨⟨J9, Dj⟩, yk⟩ := bL
   have hb1 : Bw wr w1 := yk ▸ below_regrown wr J9 Dj
   have aj := qtr ag hb1
   have Md := qce hb1 Hh Hh
   have Hj := qce hb1 Hi Hi
   have Hl := qce hb1 Hk Hk
   have Hn := qce hb1 Hm Hm
   clear yk lM Fk ei hb1
   have ej := fun w => jaj (c + 2) w (by omega) (by omega)
   rw [show ((c + 2 : Nat) : Int) = (c : Int) + 2 by omega] at ej
   have Fl : ∀ dd os, Cl _ _ (grow (redrawn w1 dd) os) fun e cr => e = .returned (.string (mtB (c + 2))) /\ ∃ p : Regrown, cr = grow (redrawn w1 p.d) p.os := fun _ _ => Calls.regrown_of (ej _)
   have vS := cell_regrown Md
   go_wp2_with fail
   refine wp_region_quiet_below (by kernel_rfl) (by kernel_rfl) ?_
   repeat (quiet_step ((go_at_call 40; exact Fl _ _)))
   refine wpQuiet_nil ?_
   intro w2 bL
   obtain ⟨⟨Jv, Dk⟩, ew⟩ := bL
   have ac : Bw w1 w2 := ew ▸ below_regrown w1 Jv Dk
   have ao := qtr aj ac
   have Qd := qce ac Hj Hj
   have Qe := qce ac Hl Hl
   have Qf := qce ac Hn Hn
   clear ew vS Fl ej ac
   go_wp2
   go_roundw
   case rel => exact ⟨i + 1, by omega, by go_num, by rw [HK.out]; go_num, ao⟩
   case measure => simp [intOf]; omega
  ·have e : i = n := by omega
   subst e
   go_wp2
   go_ret
   exact ⟨rfl, ag⟩
end
section
open Go.RowKit
theorem Zm.below {w w' : World} {base : Nat} {v : Value} {L : List EventD} (h : Zm w base v L) (hb : Bw w w') : Zm w' base v L := jad h hb
theorem Zm.seq {w : World} {base : Nat} {v : Value} {P : List EventD} (h : Zm w base v P) : ∃ a cap, v = .slice a P.length cap /\ Za w a 6 (P.map EventD.cs) := by
 obtain ⟨a, cap, h1, h2, h3⟩ := jbc (rows := P.map EventD.cs) (by rw [llm]; exact h) jbf
 rw [llm] at h1 h3
 exact ⟨a, cap, h1, h2⟩
theorem jiw (a : Option Addr) (cap k : Nat) (w : World) : Cl 13 #[.slice a 0 cap, iv k] w fun e w' => e = .returned (iv k) /\ w' = w := by
 go_enter Tryz.func13, Tryz.ntmps13
 go_wp2
 go_loopw [1, 5] (fun s t wr => t = iv 0 /\ s = iv k /\ wr = w) (fun _ _ _ => 0)
 case atStart => exact ⟨rfl, rfl, rfl⟩
 case round =>
  obtain ⟨rfl, rfl, hw⟩ := hrel
  have hw := hw.symm
  subst hw
  go_wp2
  go_ret
  exact ⟨rfl, rfl⟩
theorem jp2 (X : List EventD) (v : Value) (base k : Nat) (w : World) (h : Zm w base v X) (h0 : 0 < k) (h1 : k + 6 * X.length < 1000000000) :
  Cl 13 #[v, iv k] w fun e w' => e = .returned (iv ((k + 6 * X.length : Nat) : Int)) /\ (∃ a cap, v = .slice a X.length cap /\ Za w' a 6 (jbr k X.length)) /\ Zb (fun b => v.ownBlock = some b) w w' := by
 rcases h.2 with ⟨hv, hn⟩ | ⟨g, cap, cur, hv, _⟩
 ·subst hv
  rw [hn]
  refine (jiw none 0 k w).mono ?_
  rintro e w' ⟨rfl, rfl⟩
  exact ⟨rfl, ⟨_, _, rfl, .inl rfl⟩, Zb.refl _ _⟩
 ·subst hv
  refine (jiv X.length g cap k w (jnj h) h0 h1).mono ?_
  rintro e w' ⟨rfl, hS, _, ht⟩
  exact ⟨rfl, ⟨_, _, rfl, hS⟩, ht.mono fun b _ hb => by rw [hb.1]; rfl⟩
theorem Za.touchV {S : Nat -> Prop} {w w' : World} {a : Option Addr} {n cap k : Nat} {rows : List (List Value)} (h : Za w a k rows) (ht : Zb S w w') (hs : ∀ g, (Value.slice a n cap).ownBlock = some g -> ¬ S g) : Za w' a k rows := by
 rcases h with h | ⟨b, o, rfl, h⟩
 ·exact .inl h
 ·exact .inr ⟨b, o, rfl, fun i j r c hi hj => ht.cell (hs b rfl) (h i j r c hi hj)⟩
end
section
open Go.RowKit Go.Sort
theorem Zm.touch {S : Nat -> Prop} {w w' : World} {base : Nat} {v : Value} {L : List EventD} (h : Zm w base v L) (ht : Zb S w w') (hs : ∀ g, v.ownBlock = some g -> ¬ S g) : Zm w' base v L := by
 refine ⟨h.1, ?_⟩
 rcases h.2 with h | ⟨g, cap, cur, rfl, h1, h2, h3⟩
 ·exact .inl h
 ·refine .inr ⟨g, cap, cur, rfl, h1, ?_, h3⟩
  have hl : g < w.heap.size := (Array.getElem?_eq_some_iff.mp h2).1
  exact (ht.block g hl (hs g rfl)).trans h2
end
section
open Go.RowKit Go.Sort
theorem jhb (X : List EventD) (a a2 : Option Addr) (c c2 : Nat) (C : Int) (w : World) (h : Za w a 6 (X.map EventD.cs)) (h2 : Za w a2 6 (X.map EventD.cs)) (hl : X.length <= 1048576) :
  Cl 17 #[.agg #[.slice a X.length c, iv C], .agg #[.slice a2 X.length c2, iv C]] w fun e w' => e = .returned (.bool true) /\ Bw w w' := by
 have b1 := qal w (.cells #[.slice a X.length c, iv C] 50)
 have b2 := (brf (w.alloc (.cells #[.slice a X.length c, iv C] 50)).heap.size (w.alloc (.cells #[.slice a X.length c, iv C] 50))).alloc (nlr _) (.cells #[.slice a2 X.length c2, iv C] 50)
 have hB := qtr b1 b2
 have A := (Ze.new w [.slice a X.length c, iv C] 50).below b2
 have B := Ze.new (w.alloc (.cells #[.slice a X.length c, iv C] 50)) [.slice a2 X.length c2, iv C] 50
 rw [World.size_alloc] at B
 have hQ := jl7 X a a2 c c2 _ (h.below hB) (h2.below hB) hl
 have x0 := A.c 0 rfl
 have x1 := A.c 1 rfl
 have y0 := B.c 0 rfl
 have y1 := B.c 1 rfl
 clear b1 b2
 generalize X.length = n at *
 go_enter Tryz.func17, Tryz.ntmps17
 go_wp2_with fail
 refine hQ.mono ?_
 rintro e w1 ⟨rfl, hb⟩
 have A1 := A.below hb
 have B1 := B.below hb
 clear x0 x1 y0 y1 A B hQ
 have x1 := A1.c 1 rfl
 have y1 := B1.c 1 rfl
 go_wp2
 go_ret
 exact ⟨rfl, (qtr hB hb)⟩
theorem jfo (X : List EventD) (v : Value) (C : Int) (base k : Nat) (w : World) (h : Zm w base v X) (h0 : 0 < k) (h1 : k + 6 * X.length < 1000000000) :
  Cl 18 #[.agg #[v, iv C], iv k] w fun e w' => e = .returned (iv ((k + 6 * X.length : Nat) : Int)) /\ (∃ a cap, v = .slice a X.length cap /\ Za w' a 6 (jbr k X.length)) /\ Zb (fun b => v.ownBlock = some b) w w' := by
 obtain ⟨p, m, c, rfl⟩ := jab h
 have b1 := qal w (.cells #[.slice p m c, iv C] 50)
 have A := Ze.new w [.slice p m c, iv C] 50
 have hM := jp2 X _ base k _ (h.below b1) h0 h1
 have x0 := A.c 0 rfl
 have x1 := A.c 1 rfl
 generalize ((k + 6 * X.length : Nat) : Int) = K at *
 go_enter Tryz.func18, Tryz.ntmps18
 go_wp2_with fail
 refine hM.mono ?_
 rintro e w1 ⟨rfl, hs, ht⟩
 clear x0 x1 A hM
 go_wp2
 go_ret
 exact ⟨rfl, hs, (Zb.of_below b1).trans ht⟩
theorem jfp (n cap k : Nat) (a : Option Addr) (C : Int) (w : World) (hA : Za w a 6 (jbr k n)) (h0 : 0 < k) (h1 : k + 6 * n < 1000000000) :
  Cl 19 #[.agg #[.slice a n cap, iv C], iv k] w fun e w' => e = .returned (iv ((k + 6 * n : Nat) : Int)) /\ Bw w w' := by
 have b1 := qal w (.cells #[.slice a n cap, iv C] 50)
 have A := Ze.new w [.slice a n cap, iv C] 50
 have hM := jiy n cap k a _ (hA.below b1) h0 h1
 have x0 := A.c 0 rfl
 have x1 := A.c 1 rfl
 have hK : ¬ (((k + 6 * n : Nat) : Int) < 0) := by omega
 generalize ((k + 6 * n : Nat) : Int) = K at *
 go_enter Tryz.func19, Tryz.ntmps19
 go_wp2_with fail
 refine hM.mono ?_
 rintro e w1 ⟨rfl, hb⟩
 clear x0 x1 A hM
 go_wp2
 go_ret
 exact ⟨rfl, (qtr b1 hb)⟩
end
section
open Go.RowKit Go.Sort
theorem walkA (s : StoreD) (H : List EventD) (C tx : Int) (v : Value) (w : World) (hv : Je w v s) (yr : s.ok) (cp : Zy w) (hH : H.length <= s.vs.length) (hI : Zv s -> ∀ v w, Zy w -> Je w v s -> Cl 16 #[v, iv tx] w fun e w' => ∃ x, e = .returned (.agg #[x, iv C]) /\ Zm w' w.heap.size x H /\ Bw w w') (hS : Zv s -> ∀ v w, Je w v s -> Cl 15 #[v, iv tx] w fun e w' => ∃ x, e = .returned (.agg #[x, iv C]) /\ Zm w' w.heap.size x H /\ Bw w w') :
  Cl 4 #[v, iv tx] w fun e w' => e = .returned (.bool true) /\ Bw w w' := by
 have dR := hv
 obtain ⟨a, b, c, d, e, f, va, ia, ca, cb, cc, cd, ce, cf, cv, ci, rfl, _, _, _, _, _, _⟩ := hv.form
 have ag := qal w (.cells (stA s a b c d e f va ia ca cb cc cd ce cf cv ci).toArray 30)
 have A0 := Ze.new w (stA s a b c d e f va ia ca cb cc cd ce cf cv ci) 30
 have hZ := jn3 s _ 1048576 _ (dR.below ag) yr (by omega) (by omega)
 obtain ⟨x0, x1, x2, x3, x4, x5, x6, x7, x8, x9⟩ := A0.ten
 by_cases g : 1048576 - (s.sz : Int) < 0
 ·rw [jal g] at hZ
  clear g
  go_enter Tryz.func4, Tryz.ntmps4
  go_wp2_with fail
  refine hZ.mono ?_
  rintro e1 w1 ⟨rfl, hb1⟩
  go_wp2
  go_ret
  exact ⟨rfl, (qtr ag hb1)⟩
 rw [ja9 (by omega)] at hZ
 have ok := yr.store (by omega)
 have hsz : s.now.sz <= 1048576 /\ s.was.sz <= 1048576 := by unfold StoreD.sz at g; omega
 have lC := fun w h => jnx s (.agg (stA s a b c d e f va ia ca cb cc cd ce cf cv ci).toArray) w h ok
 have FK := fun v w hE h => hI ok v w hE h
 have Kq := fun v w h => hS ok v w h
 have Kd := fun v v2 w h h2 => jn8 s v v2 w h h2 ok
 have FN := fun v B U w h hU => jj5 s v B U w h hU hsz.1 hsz.2 ok.vl ok.xl
 have jO := Nat.le_trans hH ok.vl
 have hQ := fun a a2 c c2 w h h2 => jhb H a a2 c c2 C w h h2 jO
 have g2 : ¬ (1048576 - (s.sz : Int) < 0) := g
 clear g hI hS hsz
 generalize (s.sz : Int) = sz at *
 go_enter Tryz.func4, Tryz.ntmps4
 go_wp2_with fail
 refine hZ.mono ?_
 rintro e1 w1 ⟨rfl, hb1⟩
 have aj := qtr ag hb1
 have A1 := A0.below hb1
 clear x0 x1 x2 x3 x4 x5 x6 x7 x8 x9 hb1 A0 ag hZ
 obtain ⟨x0, x1, x2, x3, x4, x5, x6, x7, x8, x9⟩ := A1.ten
 go_wp2_with fail
 refine (lC _ (dR.below aj)).mono ?_
 rintro e2 w2 ⟨v2, rfl, br, ac⟩
 have ao := qtr aj ac
 have A2 := A1.below ac
 have qj := br.st
 clear x0 x1 x2 x3 x4 x5 x6 x7 x8 x9 ac A1 aj br
 go_wp2_with fail
 refine (Kq v2 _ qj).mono ?_
 rintro e3 wa ⟨x3, rfl, sw, av⟩
 have lw : ∀ g, x3.ownBlock = some g -> g < wa.heap.size := fun g hg => (sw.lt g hg).2
 obtain ⟨p3, c3, eJ, j7⟩ := sw.seq
 subst eJ
 have ba := qal wa (.cells #[.slice p3 H.length c3, iv C] 50)
 have V3 := Ze.new wa [.slice p3 H.length c3, iv C] 50
 have ay := qtr ao av
 have ay := qtr ay ba
 have A3 := A2.below av
 have la : w.heap.size < wa.heap.size := qbl (A3.c 0 rfl)
 have A3 := A3.below ba
 have j7 := j7.below ba
 have z3 : (wa.alloc (.cells #[.slice p3 H.length c3, iv C] 50)).heap.size = wa.heap.size + 1 := by simp
 obtain ⟨w3, Fq⟩ := qeb (wa.alloc (.cells #[.slice p3 H.length c3, iv C] 50))
 obtain ⟨pw, CB⟩ := qeb wa.heap.size
 rw [Fq] at V3 ay A3 j7 z3
 rw [CB] at V3 z3 lw la
 clear av A2 ao qj sw ba
 obtain ⟨x0, x1, x2, x3, x4, x5, x6, x7, x8, x9⟩ := A3.ten
 go_wp2_with fail
 clear Fq CB
 refine (lC _ (dR.below ay)).mono ?_
 rintro e4 w4 ⟨v4, rfl, dX, aD⟩
 have aS := qtr ay aD
 have A4 := A3.below aD
 have uR := dX.st
 have mP := j7.below aD
 have V4 := V3.below aD
 have l4 := aD.size
 obtain ⟨ga, gb, gc, gd, ge, gf, gv, gx, Lt, _⟩ := dX.form
 subst Lt
 have EN := hid dX
 clear x0 x1 x2 x3 x4 x5 x6 x7 x8 x9 aD A3 ay dX j7 V3
 have b5 := qal w4 (.cells (stA s (some (ad ga 0)) (some (ad gb 0)) (some (ad gc 0)) (some (ad gd 0)) (some (ad ge 0)) (some (ad gf 0)) (some (ad gv 0)) (some (ad gx 0)) s.now.rules.length s.now.zones.length s.now.links.length s.was.rules.length s.was.zones.length s.was.links.length s.vs.length s.ix.length).toArray 42)
 have bQ := qtr aS b5
 have A5 := A4.below b5
 have sq := uR.below b5
 have gP := mP.below b5
 have V5 := V4.below b5
 have X5 := Ze.new w4 (stA s (some (ad ga 0)) (some (ad gb 0)) (some (ad gc 0)) (some (ad gd 0)) (some (ad ge 0)) (some (ad gf 0)) (some (ad gv 0)) (some (ad gx 0)) s.now.rules.length s.now.zones.length s.now.links.length s.was.rules.length s.was.zones.length s.was.links.length s.vs.length s.ix.length) 42
 have z5 : (w4.alloc (.cells (stA s (some (ad ga 0)) (some (ad gb 0)) (some (ad gc 0)) (some (ad gd 0)) (some (ad ge 0)) (some (ad gf 0)) (some (ad gv 0)) (some (ad gx 0)) s.now.rules.length s.now.zones.length s.now.links.length s.was.rules.length s.was.zones.length s.was.links.length s.vs.length s.ix.length).toArray 42)).heap.size = w4.heap.size + 1 := by simp
 obtain ⟨y0, y1, y2, y3, y4, y5, y6, y7, y8, y9⟩ := X5.ten
 clear A4 aS uR mP V4
 go_wp2_with fail
 refine (FK _ _ (cp.of_below bQ) sq).mono ?_
 rintro e6 wb ⟨x6, rfl, me, hb6⟩
 rw [z5] at me
 have lg : ∀ g, x6.ownBlock = some g -> w4.heap.size + 1 <= g := fun g hg => (me.lt g hg).1
 have Ha : ∀ g, x6.ownBlock = some g -> g < wb.heap.size := fun g hg => (me.lt g hg).2
 have l6 := hb6.size
 rw [z5] at l6
 obtain ⟨p6, c6, GW, wu⟩ := me.seq
 subst GW
 have bz := qal wb (.cells #[.slice p6 H.length c6, iv C] 50)
 have hb6 := qtr hb6 bz
 have G6 := Ze.new wb [.slice p6 H.length c6, iv C] 50
 have cG := qtr bQ hb6
 have A6 := A5.below hb6
 have X6 := X5.below hb6
 have uS := sq.below hb6
 have za := qtr b5 hb6
 have oN := gP.below hb6
 have V6 := V5.below hb6
 have me := me.below bz
 have wu := wu.below bz
 obtain ⟨w6, Fs⟩ := qeb (wb.alloc (.cells #[.slice p6 H.length c6, iv C] 50))
 obtain ⟨pg, GO⟩ := qeb wb.heap.size
 rw [Fs] at G6 cG A6 X6 uS za oN V6 me wu
 rw [GO] at G6 Ha l6
 clear y0 y1 y2 y3 y4 y5 y6 y7 y8 y9 hb6 A5 X5 bQ sq b5 gP z5 V5 bz
 have g0 := G6.c 0 rfl
 have g1 := G6.c 1 rfl
 have v0 := V6.c 0 rfl
 have v1 := V6.c 1 rfl
 go_wp2_with fail
 clear Fs GO g0 g1 v0 v1
 refine (hQ _ _ _ _ _ wu oN).mono ?_
 rintro e7 w7 ⟨rfl, aC⟩
 have bD := jac w7
 have lq := qtr aC bD
 have jJ : Hid (Bw w w7.drew) := qtr cG lq
 have AD := A6.below lq
 have XD := X6.below lq
 have wZ := hid AD
 have xq := hid XD
 have ET : Hid (Je w7.drew (.agg (stA s (some (ad ga 0)) (some (ad gb 0)) (some (ad gc 0)) (some (ad gd 0)) (some (ad ge 0)) (some (ad gf 0)) (some (ad gv 0)) (some (ad gx 0)) s.now.rules.length s.now.zones.length s.now.links.length s.was.rules.length s.was.zones.length s.was.links.length s.vs.length s.ix.length).toArray) s) := uS.below lq
 have rO : Hid (Zm w7.drew (w4.heap.size + 1) (.slice p6 H.length c6) H) := me.below lq
 have EG : Hid (Ze w7.drew pg [.slice p6 H.length c6, iv C]) := G6.below lq
 have EW : Hid (Ze w7.drew pw [.slice p3 H.length c3, iv C]) := V6.below lq
 have EX : Hid (Za w7.drew p3 6 (H.map EventD.cs)) := oN.below lq
 have Eo : Hid (Bw w4 w7.drew) := qtr za lq
 obtain ⟨x0, x1, x2, x3, x4, x5, x6, x7, x8, x9⟩ := AD.ten
 obtain ⟨y0, y1, y2, y3, y4, y5, y6, y7, y8, y9⟩ := XD.ten
 have ms := lC w7.drew (dR.below jJ.out)
 clear A6 X6 AD XD uS bD lq aC cG za me wu oN G6 V6
 go_wp2_with fail
 go_region_held3 (fun w' => w'.cell? (ad w.heap.size 0) = some (iv s.tx) /\ w'.cell? (ad w.heap.size 1) = some (.slice a s.now.rules.length ca) /\ w'.cell? (ad w.heap.size 2) = some (.slice b s.now.zones.length cb) /\ w'.cell? (ad w.heap.size 3) = some (.slice c s.now.links.length cc) /\ w'.cell? (ad w.heap.size 4) = some (.slice d s.was.rules.length cd) /\ w'.cell? (ad w.heap.size 5) = some (.slice e s.was.zones.length ce) /\ w'.cell? (ad w.heap.size 6) = some (.slice f s.was.links.length cf) /\ w'.cell? (ad w.heap.size 7) = some (iv s.cur) /\ w'.cell? (ad w.heap.size 8) = some (.slice va s.vs.length cv) /\ w'.cell? (ad w.heap.size 9) = some (.slice ia s.ix.length ci) /\ w'.cell? (ad w4.heap.size 0) = some (iv s.tx) /\ w'.cell? (ad w4.heap.size 1) = some (so ga s.now.rules.length s.now.rules.length) /\ w'.cell? (ad w4.heap.size 2) = some (so gb s.now.zones.length s.now.zones.length) /\ w'.cell? (ad w4.heap.size 3) = some (so gc s.now.links.length s.now.links.length) /\ w'.cell? (ad w4.heap.size 4) = some (so gd s.was.rules.length s.was.rules.length) /\ w'.cell? (ad w4.heap.size 5) = some (so ge s.was.zones.length s.was.zones.length) /\ w'.cell? (ad w4.heap.size 6) = some (so gf s.was.links.length s.was.links.length) /\ w'.cell? (ad w4.heap.size 7) = some (iv s.cur) /\ w'.cell? (ad w4.heap.size 8) = some (so gv s.vs.length s.vs.length) /\ w'.cell? (ad w4.heap.size 9) = some (so gx s.ix.length s.ix.length)) (go_keep) (first | (go_at_call 8; refine ms.mono ?_; rintro e8 w8 ⟨v8, rfl, dI, qs⟩; have BH := dI.st; clear dI; obtain ⟨Ma, Mc, Me, Mf, Mg, Mh, Mi, Mj, Mk, Ml⟩ := (wZ.out.below qs).ten; obtain ⟨Mp, Mq, Ms, Mu, Mv, Mw, My, Mz, MA, MB⟩ := (xq.out.below qs).ten; have Kc := Kd _ v8 w8 (ET.out.below qs) BH; obtain ⟨a7, b7, c7, d7, e7, f7, Qn, Q1, ON, OP, OR, OS, OT, OU, OW, OV, Lu, _⟩ := BH.form; subst Lu; clear BH) | (go_at_call 11; refine Kc.mono ?_; rintro e9 w9 ⟨rfl, cj⟩; obtain ⟨mW, r9, MC, MD, ME, MF, MG, MH, MI, MJ⟩ := ((wZ.out.below qs).below cj).ten; obtain ⟨Dt, Dx, Dz, DB, DD, DF, DH, DI, DJ, DK⟩ := ((xq.out.below qs).below cj).ten))
 have lU := qtr qs cj
 have fX := qtr jJ.out lU
 have A9 := wZ.out.below lU
 have X9 := xq.out.below lU
 have FF := rO.out.below lU
 have vI := EX.out.below lU
 have G9 := EG.out.below lU
 have V9 := EW.out.below lU
 have zd := qtr Eo.out lU
 have G4 := EN.out.upto l4 zd
 have H9 := zd.size
 clear x0 x1 x2 x3 x4 x5 x6 x7 x8 x9 y0 y1 y2 y3 y4 y5 y6 y7 y8 y9 Ma Mc Me Mf Mg Mh Mi Mj Mk Ml Mp Mq Ms Mu Mv Mw My Mz MA MB
 clear mW r9 MC MD ME MF MG MH MI MJ Dt Dx Dz DB DD DF DH DI DJ DK
 clear jJ wZ xq rO EX Eo EN ET EG EW qs cj lU zd ms
 obtain ⟨y0, y1, y2, y3, y4, y5, y6, y7, y8, y9⟩ := X9.ten
 go_wp2_with fail
 refine (FN _ _ _ _ G4 H9).mono ?_
 rintro P8 Np ⟨⟨K, rfl⟩, rF⟩
 have lY := rF.below (fun x hx => by have : w3.heap.size <= x /\ x < w4.heap.size := hx; omega) fX.size fX
 have Eh := A9.touch rF (show ¬ (w3.heap.size <= w.heap.size /\ w.heap.size < w4.heap.size) by omega)
 have pP := FF.touch rF (fun g hg => by show ¬ (w3.heap.size <= g /\ g < w4.heap.size); have := lg g hg; omega)
 have qM := vI.touchV (n := H.length) (cap := c3) rF (fun g hg => by show ¬ (w3.heap.size <= g /\ g < w4.heap.size); have := lw g hg; omega)
 have wW := G9.touch rF (show ¬ (w3.heap.size <= pg /\ pg < w4.heap.size) by omega)
 have xu := V9.touch rF (show ¬ (w3.heap.size <= pw /\ pw < w4.heap.size) by omega)
 obtain ⟨pq, cq, hp, ws⟩ := pP.seq
 injection hp with e1 e2 e3
 subst e1 e3
 have kk : ¬ ((K : Int) < 0) := by omega
 clear rF FF vI A9 X9 fX G4 FN H9 e2 y0 y1 y2 y3 y4 y5 y6 y7 y8 y9 G9 V9
 have g0 := wW.c 0 rfl
 have g1 := wW.c 1 rfl
 have v0 := xu.c 0 rfl
 have v1 := xu.c 1 rfl
 go_wp2_with fail
 clear g0 g1 v0 v1
 refine (hQ _ _ _ _ _ ws qM).mono ?_
 rintro P9 Nq ⟨rfl, ii⟩
 have pB := qtr lY ii
 have Ei := Eh.below ii
 have ur := pP.below ii
 have vD := qM.below ii
 have wX := wW.below ii
 have F7 := xu.below ii
 clear ii lY Eh pP qM ws wW xu
 have g0 := wX.c 0 rfl
 have g1 := wX.c 1 rfl
 have hK := jfo H _ C _ 1 Nq ur (by omega) (by omega)
 have FH := fun w h => jfp H.length c6 1 p6 C w h (by omega) (by omega)
 have PC : (0 : Int) <= ((1 + 6 * H.length : Nat) : Int) := by omega
 generalize hd4 : 1 + 6 * H.length = d3 at *
 clear hd4
 go_wp2_with fail
 clear g0 g1
 refine hK.mono ?_
 rintro Pa Qq ⟨rfl, Ll, tg⟩
 obtain ⟨am, cm, em, rA⟩ := Ll
 injection em with m1 m2 m3
 subst m1 m3
 have ue := tg.below (fun x hx => by have := lg x hx; omega) pB.size pB
 have Ej := Ei.touch tg (fun h => by have := lg _ h; omega)
 have vE := vD.touchV (n := H.length) (cap := c3) tg (fun g hg h => by have := lg _ h; have := lw g hg; omega)
 have wY := wX.touch tg (fun h => by have := Ha _ h; omega)
 have F8 := F7.touch tg (fun h => by have := lg _ h; omega)
 clear tg ur vD Ei pB hK m2 wX F7
 have g0 := wY.c 0 rfl
 have g1 := wY.c 1 rfl
 have dd : ¬ ((d3 : Int) < 0) := by omega
 go_wp2_with fail
 clear g0 g1
 refine (FH _ rA).mono ?_
 rintro Pb Qr ⟨rfl, ij⟩
 have pC := qtr ue ij
 have Ek := Ej.below ij
 have ww := rA.below ij
 have vF := vE.below ij
 have El := wY.below ij
 have F9 := F8.below ij
 clear ij ue Ej rA vE wY F8
 obtain ⟨x0, x1, x2, x3, x4, x5, x6, x7, x8, x9⟩ := Ek.ten
 go_wp2_with fail
 refine (lC _ (dR.below pC)).mono ?_
 rintro Pc Qs ⟨Qm, rfl, uG, jq⟩
 have pD := qtr pC jq
 have wG := ww.below jq
 have vG := vF.below jq
 have Em := El.below jq
 have Fa := F9.below jq
 have uQ := uG.st
 clear jq pC Ek ww vF uG El F9 x0 x1 x2 x3 x4 x5 x6 x7 x8 x9
 go_wp2_with fail
 refine (FK _ _ (cp.of_below pD) uQ).mono ?_
 rintro Pd wc ⟨DT, rfl, us, gk⟩
 obtain ⟨Dl, zf, CQ, l9⟩ := us.seq
 subst CQ
 have bz := qal wc (.cells #[.slice Dl H.length zf, iv C] 50)
 have gk := qtr gk bz
 have tj := Ze.new wc [.slice Dl H.length zf, iv C] 50
 have pE := qtr pD gk
 have rB := wG.below gk
 have qN := vG.below gk
 have yx := Em.below gk
 have xy := Fa.below gk
 have l9 := l9.below bz
 obtain ⟨Qt, tX⟩ := qeb (wc.alloc (.cells #[.slice Dl H.length zf, iv C] 50))
 obtain ⟨ph, lJ⟩ := qeb wc.heap.size
 rw [tX] at tj pE rB qN yx xy l9
 rw [lJ] at tj
 clear gk pD wG vG uQ us Em Fa bz
 have g0 := tj.c 0 rfl
 have g1 := tj.c 1 rfl
 have v0 := xy.c 0 rfl
 have v1 := xy.c 1 rfl
 go_wp2_with fail
 clear tX lJ g0 g1 v0 v1
 refine (hQ _ _ _ _ _ l9 qN).mono ?_
 rintro Pe Qu ⟨rfl, mu⟩
 have AW := qtr pE mu
 have DM := rB.below mu
 have En := yx.below mu
 clear mu pE rB qN l9 yx xy tj
 have g0 := En.c 0 rfl
 have g1 := En.c 1 rfl
 go_wp2_with fail
 refine (FH _ DM).mono ?_
 rintro Ph Qv ⟨rfl, BS⟩
 go_wp2
 go_ret
 exact ⟨rfl, (qtr AW BS)⟩
end
section
open Go.RowKit Go.Sort
theorem j2q {s : StoreD} (h : storeI s = true) : s.vs.length <= 60 := by
 unfold storeI jmj txB at h
 simp only [bat, decide_eq_true_eq] at h
 exact h.1.2.1.1
end
section
open Go.RowKit
def cutN (l : List VersionD) (tx : Int) : Nat := (l.takeWhile fun v => decide (v.tx <= tx)).length
theorem jq5 {tx : Int} : ∀ {l : List VersionD} {k : Nat}, k <= l.length -> (∀ j v, j < k -> l[j]? = some v -> v.tx <= tx) -> (∀ v, l[k]? = some v -> ¬ v.tx <= tx) -> cutN l tx = k
 | [], k, h, _, _ => by
  simp only [List.length_nil, Nat.le_zero_eq] at h
  subst h
  rfl
 | x :: l, 0, _, _, h3 => by
  have h := h3 x rfl
  unfold cutN
  rw [List.takeWhile_cons_of_neg (by simpa using h)]
  rfl
 | x :: l, k + 1, h1, h2, h3 => by
  have h := h2 0 x (by omega) rfl
  have ih := jq5 (l := l) (k := k) (by simpa using h1) (fun j v hj hv => h2 (j + 1) v (by omega) (by simpa using hv)) (fun v hv => h3 v (by simpa using hv))
  unfold cutN at *
  rw [List.takeWhile_cons_of_pos (by simpa using h), List.length_cons, ih]
theorem jt3 {l : List VersionD} {m k : Nat} {v : VersionD} (h : k <= m) : jc3 (l.take m) k v = jc3 l k v := by
 unfold jc3
 rw [List.take_take, Nat.min_eq_left h]
theorem jk4 {l : List VersionD} {m : Nat} : ∀ {k : Nat}, k <= m -> jb7 (l.take m) k = jb7 l k
 | 0, _ => rfl
 | k + 1, h => by
  unfold jb7
  rw [jk4 (k := k) (by omega), List.getElem?_take, if_pos (by omega)]
  cases l[k]? with
  | none => rfl
  | some v => simp only; rw [jt3 (by omega)]
theorem jt2 {l : List VersionD} {k n : Nat} (h : jb7 l n = true) (hk : k <= n) : jb7 l k = true := by
 induction n with
 | zero =>
  obtain rfl : k = 0 := by omega
  exact h
 | succ n ih =>
  by_cases e : k = n + 1
  ·rw [e]; exact h
  ·unfold jb7 at h
   rw [bat] at h
   exact ih h.1 (by omega)
def asB (s : StoreD) (tx : Int) : Bool := decide (0 <= tx) && decide (tx <= s.tx)
def asL (s : StoreD) (tx : Int) : List EventD := if asB s tx = true then ja1 (s.vs.take (cutN s.vs tx)) else []
def asC (s : StoreD) (tx : Int) : Int := if asB s tx = true then 0 else 4
theorem j1j {s : StoreD} {tx : Int} (h : tx < 0 \/ s.tx < tx) : asL s tx = [] /\ asC s tx = 4 := by
 have e : asB s tx = false := by
  unfold asB
  rcases h with h | h
  ·rw [dfe (by omega)]; rfl
  ·rw [dfe (p := tx <= s.tx) (by omega)]; simp
 unfold asL asC
 rw [e]
 exact ⟨rfl, rfl⟩
theorem jx0 {s : StoreD} {tx : Int} (h1 : 0 <= tx) (h2 : tx <= s.tx) : asL s tx = ja1 (s.vs.take (cutN s.vs tx)) /\ asC s tx = 0 := by
 have e : asB s tx = true := by unfold asB; rw [dte h1, dte h2]; rfl
 unfold asL asC
 rw [e]
 exact ⟨rfl, rfl⟩
end
section
open Go.RowKit Go.Sort
def AsP (C : Int) (X : List EventD) (w : World) (q : Ending) (W' : World) : Prop := ∃ x, q = .returned (.agg #[x, iv C]) /\ Zm W' w.heap.size x X /\ Bw w W'
theorem jgi {C : Int} {X : List EventD} {w w1 : World} {b base : Nat} {x : Value} (hO : Zm w1 base x X) (hb : w.heap.size <= b) (mw : b < base) (hB : Bw w w1) : AsP C X w (.returned (.agg #[x, iv C])) ((w1.setCell (ad b 0) x).setCell (ad b 1) (iv C)) := by
 have az : x.ownBlock = none \/ x.ownBlock ≠ some b := by
  cases hv : x.ownBlock with
  | none => exact .inl rfl
  | some g => exact .inr fun e => by have := (World.ownsRow.lt hO g hv).1; injection e with e; omega
 exact ⟨x, rfl, World.ownsRow.kept (World.ownsRow.kept (jak hO (by omega)) (jbw w1 _ 0 _) az) (jbw _ _ 1 _) az, (hB.setCell hb _).setCell hb _⟩
theorem jwv (s : StoreD) (bb : Nat) (a8 : Option Addr) (c8 : Nat) (tx : Int) (w : World) (c0 : w.cell? (ad bb 0) = some (iv s.tx)) (c1 : w.cell? (ad bb 8) = some (.slice a8 s.vs.length c8)) (hA : Za w a8 8 (s.vs.map VersionD.cs)) (lE : s.vs.length <= c8) (hi : ∀ v ∈ s.vs, 1 <= v.id /\ v.id <= 1000000) (hg : jb7 s.vs s.vs.length = true) (hl : s.vs.length <= 1048576) :
  Cl 42 #[.pointer (some (ad bb 0)), iv tx] w (AsP (asC s tx) (asL s tx) w) := by
 have ag : Bw w (w.alloc (.cells #[nS, iv 0] 50)) := qal _ _
 have A0 := Ze.new w [nS, iv 0] 50
 have r0 := A0.c 0 rfl
 have r1 := A0.c 1 rfl
 have nc := A0.f 0 rfl
 have nh := A0.f 1 rfl
 have d0 := jaa ag c0
 have d1 := jaa ag c1
 have HA := hid hA
 have HI := hid hi
 have HG := hid hg
 clear c0 c1 hA hi hg A0
 by_cases t : tx < 0 \/ s.tx < tx
 ·obtain ⟨e1, e2⟩ := j1j t
  rw [e1, e2]
  have HP : Hid (AsP 4 [] w (.returned (.agg #[nS, iv 4])) (w.alloc (.cells #[nS, iv 4] 50))) := ⟨_, rfl, World.ownsRow_nil _ _ _ _, qal _ _⟩
  by_cases h0 : tx < 0
  ·clear t
   go_enter Tryz.func42, Tryz.ntmps42
   go_wp2
   exact bpr (v := .agg #[nS, iv 4]) (by simp [results, Tryz.results42, go_sem]) rfl HP.out
  ·have h1 : s.tx < tx := by omega
   clear t
   go_enter Tryz.func42, Tryz.ntmps42
   go_wp2
   exact bpr (v := .agg #[nS, iv 4]) (by simp [results, Tryz.results42, go_sem]) rfl HP.out
 have h0 : ¬ tx < 0 := by omega
 have h1 : ¬ s.tx < tx := by omega
 obtain ⟨e1, e2⟩ := jx0 (s := s) (tx := tx) (by omega) (by omega)
 rw [e1, e2]
 clear t e1 e2
 obtain ⟨n, hn⟩ := qeb s.vs.length
 have HN := hid hn
 simp only [hn] at d1 lE hl
 clear hn
 obtain ⟨W, hW⟩ := qeb ((w.alloc (.cells #[nS, iv 0] 50)))
 rw [hW] at ag r0 r1 nc nh d0 d1
 have dB : W.heap.size = w.heap.size + 1 := by rw [<- hW]; simp
 go_enter Tryz.func42, Tryz.ntmps42
 go_wp2_with fail
 clear hW
 go_loopw [5] (fun t wr => ∃ k : Nat, t = iv k /\ k <= n /\ wr = W /\ Hid (∀ j v, j < k -> s.vs[j]? = some v -> v.tx <= tx)) (fun t _ => n - (intOf t).toNat)
 case atStart => exact ⟨0, rfl, by omega, rfl, fun j v hj => by omega⟩
 case round =>
  obtain ⟨k, rfl, hk, hw, HK⟩ := hrel
  have hw := hw.symm
  subst hw
  have hA := HA.out.below ag
  by_cases iX : ∃ v, s.vs[k]? = some v /\ v.tx <= tx
  ·obtain ⟨v, hv, vK⟩ := iX
   have hlt : k < n := by have := (lgs hv).1; have := HN.out; omega
   have eK : Hid (∀ j u, j < k + 1 -> s.vs[j]? = some u -> u.tx <= tx) := fun j u hj hu => by
    by_cases e : j = k
    ·subst e; rw [hv] at hu; obtain rfl := osi hu; exact vK
    ·exact HK.out j u (by omega) hu
   obtain ⟨b, o, rfl, hc⟩ := hA.at (i := k) (r := v.cs) (by rw [lgm, hv]; rfl)
   have c0 : W.cell? (ad b (o + k * 8)) = some (iv v.tx) := hc 0 _ rfl
   clear hc hv HK hA
   go_wp2
   go_roundw
   case rel => exact ⟨k + 1, by go_num, by omega, trivial, eK⟩
   case measure => simp [intOf]; omega
  ·have hcut : cutN s.vs tx = k := jq5 (by rw [HN.out]; exact hk) HK.out fun v hv bS => iX ⟨v, hv, bS⟩
   have HC : Hid (s.vs.take (cutN s.vs tx) = s.vs.take k) := by rw [hcut]; rfl
   have au : (s.vs.take k).length = k := by rw [List.length_take, HN.out]; omega
   have hL := jjb (s.vs.take k) a8 k c8 W (by rw [List.map_take]; exact hA.take k) (fun v hv => HI.out v (List.mem_of_mem_take hv)) au (by omega)
   have gK : Hid (jb7 (s.vs.take k) (s.vs.take k).length = true) := by simp only [Hid]; rw [au, jk4 (nlr _)]; exact jt2 HG.out (by rw [HN.out]; exact hk)
   have HL : Hid ((ja1 (s.vs.take k)).length <= 1048576) := by simp only [Hid]; refine Nat.le_trans (jnu _ _) ?_; omega
   have HE : Hid (k = n \/ ∃ v, s.vs[k]? = some v /\ ¬ v.tx <= tx) := by
    simp only [Hid]
    by_cases e : k < n
    ·obtain ⟨v, hv⟩ : ∃ v, s.vs[k]? = some v := ⟨_, lgg (by rw [HN.out]; exact e)⟩
     exact .inr ⟨v, hv, fun bS => iX ⟨v, hv, bS⟩⟩
    ·exact .inl (by omega)
   generalize hT : s.vs.take k = T at *
   clear hT hcut iX au
   have fc : (k : Int) <= c8 := by omega
   rcases HE.out with e | ⟨v, hv, vK⟩
   all_goals
    first
    | (subst e; clear HE HK HI HG hA; go_wp2_with fail)
    | (have hlt : k < n := (by have := (lgs hv).1; have := HN.out; omega); obtain ⟨b, o, rfl, hc⟩ := hA.at (i := k) (r := v.cs) (by rw [lgm, hv]; rfl); have c0 : W.cell? ⟨b, o + k * 8, none⟩ = some (iv v.tx) := hc 0 _ rfl; clear HE HK HI HG hA hc hv; go_wp2_with fail)
    refine hL.mono ?_
    rintro q w1 hP
    have hb1 := hP.bel
    rcases hP.end_ with ⟨_, hq, hM⟩ | ⟨jA, _⟩
    case inr => rw [gK.out] at jA; cases jA
    subst hq
    have aj := qtr ag hb1
    have u0 := jaa hb1 r0
    have u1 := jaa hb1 r1
    have hY := jwu W.heap.size T.length (jcs T) (ja1 T) w1 hM (jf6 T) (jl3 T.length) HL.out
    rw [dB] at hY
    clear hP hM gK HL hL r0 r1 d0 d1
    go_wp2_with fail
    refine hY.mono ?_
    rintro q w2 ⟨v2, rfl, br, ac⟩
    obtain ⟨p2, m2, k2, rfl⟩ := jab br
    have ao := qtr aj ac
    have y0 := jaa ac u0
    have y1 := jaa ac u1
    have y2 := ((jaf ac).2 _ _ (qbl u0)).trans (((jaf hb1).2 _ _ (by rw [dB]; simp)).trans nc)
    have y3 := ((jaf ac).2 _ _ (qbl u1)).trans (((jaf hb1).2 _ _ (by rw [dB]; simp)).trans nh)
    have HP : Hid (AsP 0 (ja1 T) w (.returned (.agg #[.slice p2 m2 k2, iv 0])) ((w2.setCell (ad w.heap.size 0) (.slice p2 m2 k2)).setCell (ad w.heap.size 1) (iv 0))) := jgi br (nlr _) (by have := hb1.size; omega) ao
    obtain ⟨t0, t1⟩ := jam (v0 := .slice p2 m2 k2) (v1 := iv 0) y0 y1
    clear br hb1 ac hY u0 u1
    go_wp2
    exact bpr (v := .agg #[.slice p2 m2 k2, iv 0]) (by simp [results, Tryz.results42, go_sem, t0, t1]) rfl (by rw [HC.out]; exact HP.out)
end
section
open Go.RowKit Go.Sort
def aoC (s : StoreD) (tx : Int) : Int := if storeI s = true then asC s tx else 1
def aoL (s : StoreD) (tx : Int) : List EventD := if storeI s = true then asL s tx else []
theorem j32 (s : StoreD) (tx : Int) : (aoL s tx).length <= s.vs.length := by
 unfold aoL asL
 split
 ·split
  ·exact Nat.le_trans (jnu _ _) (List.length_take_le' ..)
  ·simp
 ·simp
theorem jw3 {s : StoreD} (h : storeI s = true) : txB s.vs s.tx = true /\ jb7 s.vs s.vs.length = true := by
 unfold storeI jmj at h
 simp only [bat] at h
 exact ⟨h.1.2.1, h.1.2.2.1⟩
theorem jwx (hS : SortC) (s : StoreD) (v : Value) (tx : Int) (w : World) (hE : Zy w) (hv : Je w v s) (ok : Zv s) :
  Cl 16 #[v, iv tx] w (AsP (aoC s tx) (aoL s tx) w) := by
 have dR := hv
 obtain ⟨a, b, c, d, e, f, va, ia, ca, cb, cc, cd, ce, cf, cv, ci, rfl, _, _, hV, _, lE, _⟩ := hv.form
 have aX := qal w (.cells (stA s a b c d e f va ia ca cb cc cd ce cf cv ci).toArray 42)
 have eQ := (brf (w.alloc (.cells (stA s a b c d e f va ia ca cb cc cd ce cf cv ci).toArray 42)).heap.size (w.alloc (.cells (stA s a b c d e f va ia ca cb cc cd ce cf cv ci).toArray 42))).alloc (nlr _) (.cells #[nS, iv 0] 50)
 have ag := qtr aX eQ
 have A0 := (Ze.new w (stA s a b c d e f va ia ca cb cc cd ce cf cv ci) 42).below eQ
 have R0 := Ze.new (w.alloc (.cells (stA s a b c d e f va ia ca cb cc cd ce cf cv ci).toArray 42)) [nS, iv 0] 50
 have hz : (w.alloc (.cells (stA s a b c d e f va ia ca cb cc cd ce cf cv ci).toArray 42)).heap.size = w.heap.size + 1 := by simp
 rw [hz] at R0
 have HV : Hid (Za w va 8 (s.vs.map VersionD.cs) /\ s.vs.length <= cv) := ⟨hV, lE⟩
 obtain ⟨tb, gG⟩ := qeb (storeI s)
 have HT := hid gG
 obtain ⟨x0, x1, x2, x3, x4, x5, x6, x7, x8, x9⟩ := A0.ten
 have hO := ji9 hS s _ _ (hE.of_below ag) (dR.below ag) ok
 have q0 := R0.c 0 rfl
 have q1 := R0.c 1 rfl
 clear hV hv dR gG hz aX eQ
 go_enter Tryz.func16, Tryz.ntmps16
 go_wp2_with fail
 refine hO.mono ?_
 rintro e1 w1 hP
 obtain ⟨x, lF, hx⟩ := hP.ex
 rw [HT.out] at lF hx
 subst lF
 have aj := ag.trans (hP.bel.mono ag.size)
 have R1 := R0.below hP.bel
 have lw : w.heap.size + 1 < w1.heap.size := qbl (R1.c 0 rfl)
 clear hP x0 x1 x2 x3 x4 x5 x6 x7 x8 x9 A0 hO R0 q0 q1 ag
 have r0 := R1.c 0 rfl
 have r1 := R1.c 1 rfl
 have nc := R1.f 0 rfl
 have nh := R1.f 1 rfl
 cases tb
 ·clear hx
  have HP : Hid (AsP (aoC s tx) (aoL s tx) w (.returned (.agg #[nS, iv 1])) ((w1.setCell (ad (w.heap.size + 1) 0) nS).setCell (ad (w.heap.size + 1) 1) (iv 1))) := by
   simp only [Hid, aoC, aoL, HT.out]
   exact jgi (base := w1.heap.size) (World.ownsRow_nil _ _ _ _) (by omega) lw aj
  obtain ⟨t0, t1⟩ := jam (v0 := nS) (v1 := iv 1) r0 r1
  go_wp2
  exact bpr (v := .agg #[nS, iv 1]) (by simp [results, Tryz.results16, go_sem, t0, t1]) rfl HP.out
 ·obtain ⟨bb, lb, n, a8, c8, rfl, hl, hM, m0, m8, vH, sC⟩ := hx rfl
  obtain ⟨g1, g2⟩ := jw3 HT.out
  have hC := jwv s bb a8 c8 tx w1 m0 m8 vH sC (j01 g1) g2 ok.vl
  clear hx hl hM m0 m8 vH sC g1 g2
  go_wp2_with fail
  refine hC.mono ?_
  rintro e2 w2 ⟨v2, rfl, br, ac⟩
  obtain ⟨p, m, c2, rfl⟩ := jab br
  have ao := qtr aj ac
  have R2 := R1.below ac
  have u0 := R2.c 0 rfl
  have u1 := R2.c 1 rfl
  have Nn := R2.f 0 rfl
  have No := R2.f 1 rfl
  have HP : Hid (AsP (aoC s tx) (aoL s tx) w (.returned (.agg #[.slice p m c2, iv (asC s tx)])) ((w2.setCell (ad (w.heap.size + 1) 0) (.slice p m c2)).setCell (ad (w.heap.size + 1) 1) (iv (asC s tx)))) := by
   simp only [Hid, aoC, aoL, HT.out]
   exact jgi br (by omega) lw ao
  obtain ⟨t0, t1⟩ := jam (v0 := .slice p m c2) (v1 := iv (asC s tx)) u0 u1
  generalize asC s tx = C at *
  clear br ac hC R1 R2 r0 r1 nc nh
  go_wp2
  exact bpr (v := .agg #[.slice p m c2, iv C]) (by simp [results, Tryz.results16, go_sem, t0, t1]) rfl HP.out
end
section
open Go.RowKit Go.Sort
theorem jvf (s : StoreD) (v : Value) (tx : Int) (w : World) (hv : Je w v s) (FV : ∀ w, Je w v s -> Cl 28 #[v] w fun e w' => e = .returned (.bool (storeI s)) /\ Bw w w') :
  Cl 15 #[v, iv tx] w (AsP (aoC s tx) (aoL s tx) w) := by
 have dR := hv
 obtain ⟨a, b, c, d, e, f, va, ia, ca, cb, cc, cd, ce, cf, cv, ci, rfl, _, _, hV, _, lE, _⟩ := hv.form
 have aX := qal w (.cells (stA s a b c d e f va ia ca cb cc cd ce cf cv ci).toArray 42)
 have eQ := (brf (w.alloc (.cells (stA s a b c d e f va ia ca cb cc cd ce cf cv ci).toArray 42)).heap.size (w.alloc (.cells (stA s a b c d e f va ia ca cb cc cd ce cf cv ci).toArray 42))).alloc (nlr _) (.cells #[nS, iv 0] 50)
 have ag := qtr aX eQ
 have A0 := (Ze.new w (stA s a b c d e f va ia ca cb cc cd ce cf cv ci) 42).below eQ
 have R0 := Ze.new (w.alloc (.cells (stA s a b c d e f va ia ca cb cc cd ce cf cv ci).toArray 42)) [nS, iv 0] 50
 have hz : (w.alloc (.cells (stA s a b c d e f va ia ca cb cc cd ce cf cv ci).toArray 42)).heap.size = w.heap.size + 1 := by simp
 rw [hz] at R0
 have HV : Hid (Za w va 8 (s.vs.map VersionD.cs) /\ s.vs.length <= cv) := ⟨hV, lE⟩
 obtain ⟨tb, gG⟩ := qeb (storeI s)
 have HT := hid gG
 obtain ⟨x0, x1, x2, x3, x4, x5, x6, x7, x8, x9⟩ := A0.ten
 have hS := FV _ (dR.below ag)
 rw [gG] at hS
 have q0 := R0.c 0 rfl
 have q1 := R0.c 1 rfl
 clear hV hv dR gG hz aX eQ FV lE
 go_enter Tryz.func15, Tryz.ntmps15
 go_wp2_with fail
 refine hS.mono ?_
 rintro e1 w1 ⟨rfl, hb1⟩
 have aj := qtr ag hb1
 have R1 := R0.below hb1
 have A1 := A0.below hb1
 have lw : w.heap.size + 1 < w1.heap.size := qbl (R1.c 0 rfl)
 clear x0 x1 x2 x3 x4 x5 x6 x7 x8 x9 A0 hS R0 q0 q1 ag hb1
 have r0 := R1.c 0 rfl
 have r1 := R1.c 1 rfl
 have nc := R1.f 0 rfl
 have nh := R1.f 1 rfl
 have z0 := A1.c 0 rfl
 have z8 := A1.c 8 rfl
 cases tb
 ·have HP : Hid (AsP (aoC s tx) (aoL s tx) w (.returned (.agg #[nS, iv 1])) ((w1.setCell (ad (w.heap.size + 1) 0) nS).setCell (ad (w.heap.size + 1) 1) (iv 1))) := by
   simp only [Hid, aoC, aoL, HT.out]
   exact jgi (base := w1.heap.size) (World.ownsRow_nil _ _ _ _) (by omega) lw aj
  obtain ⟨t0, t1⟩ := jam (v0 := nS) (v1 := iv 1) r0 r1
  go_wp2
  exact bpr (v := .agg #[nS, iv 1]) (by simp [results, Tryz.results15, go_sem, t0, t1]) rfl HP.out
 by_cases t : tx < 0 \/ s.tx < tx
 ·have HP : Hid (AsP (aoC s tx) (aoL s tx) w (.returned (.agg #[nS, iv 4])) ((w1.setCell (ad (w.heap.size + 1) 0) nS).setCell (ad (w.heap.size + 1) 1) (iv 4))) := by
   obtain ⟨e1, e2⟩ := j1j t
   simp only [Hid, aoC, aoL, HT.out, e1, e2]
   exact jgi (base := w1.heap.size) (World.ownsRow_nil _ _ _ _) (by omega) lw aj
  obtain ⟨t0, t1⟩ := jam (v0 := nS) (v1 := iv 4) r0 r1
  have hI := jgt tx 0 s.tx w1 t
  clear t
  go_wp2_with fail
  refine hI.mono ?_
  rintro q wq ⟨rfl, rfl⟩
  go_wp2
  exact bpr (v := .agg #[nS, iv 4]) (by simp [results, Tryz.results15, go_sem, t0, t1]) rfl HP.out
 have hI := jgs tx 0 s.tx w1 (by omega) (by omega)
 have HX : Hid (aoC s tx = 0 /\ aoL s tx = ja1 (s.vs.take (cutN s.vs tx))) := by
  obtain ⟨e1, e2⟩ := jx0 (s := s) (tx := tx) (by omega) (by omega)
  simp only [Hid, aoC, aoL, HT.out, e1, e2]
  exact ⟨rfl, rfl⟩
 have Ep : Hid (s.vs.length <= 60) := j2q HT.out
 clear t
 obtain ⟨n, hn⟩ := qeb s.vs.length
 have HN := hid hn
 simp only [hn] at z8
 have L5 : n <= 60 := by rw [<- hn]; exact Ep.out
 have lE : n <= cv := by rw [<- hn]; exact HV.out.2
 clear hn Ep A1
 go_wp2_with fail
 refine hI.mono ?_
 rintro q wq ⟨rfl, rfl⟩
 go_wp2_with fail
 go_loopw [5] (fun t wr => ∃ k : Nat, t = iv k /\ k <= n /\ wr = wq /\ Hid (∀ j v, j < k -> s.vs[j]? = some v -> v.tx <= tx)) (fun t _ => n - (intOf t).toNat)
 case atStart => exact ⟨0, rfl, by omega, rfl, fun j v hj => by omega⟩
 case round =>
  obtain ⟨k, rfl, hk, hw, HK⟩ := hrel
  have hw := hw.symm
  subst hw
  have hA := HV.out.1.below aj
  by_cases iX : ∃ v, s.vs[k]? = some v /\ v.tx <= tx
  ·obtain ⟨v, hv, vK⟩ := iX
   have hlt : k < n := by have := (lgs hv).1; have := HN.out; omega
   have eK : Hid (∀ j u, j < k + 1 -> s.vs[j]? = some u -> u.tx <= tx) := fun j u hj hu => by
    by_cases e : j = k
    ·subst e; rw [hv] at hu; obtain rfl := osi hu; exact vK
    ·exact HK.out j u (by omega) hu
   obtain ⟨b9, o9, rfl, hc⟩ := hA.at (i := k) (r := v.cs) (by rw [lgm, hv]; rfl)
   have c0 : wq.cell? (ad b9 (o9 + k * 8)) = some (iv v.tx) := hc 0 _ rfl
   clear hc hv HK hA
   go_wp2
   go_roundw
   case rel => exact ⟨k + 1, by go_num, by omega, trivial, eK⟩
   case measure => simp [intOf]; omega
  ·have hcut : cutN s.vs tx = k := jq5 (by rw [HN.out]; exact hk) HK.out fun v hv bS => iX ⟨v, hv, bS⟩
   have HC : Hid (s.vs.take (cutN s.vs tx) = s.vs.take k) := by rw [hcut]; rfl
   have au : (s.vs.take k).length = k := by rw [List.length_take, HN.out]; omega
   have hC := jd1 (s.vs.take k) va k cv wq (by rw [List.map_take]; exact hA.take k) au (by omega)
   have HE : Hid (k = n \/ ∃ v, s.vs[k]? = some v /\ ¬ v.tx <= tx) := by
    simp only [Hid]
    by_cases e : k < n
    ·obtain ⟨v, hv⟩ : ∃ v, s.vs[k]? = some v := ⟨_, lgg (by rw [HN.out]; exact e)⟩
     exact .inr ⟨v, hv, fun bS => iX ⟨v, hv, bS⟩⟩
    ·exact .inl (by omega)
   generalize hT : s.vs.take k = T at *
   clear hT hcut iX au
   have fc : (k : Int) <= cv := by omega
   rcases HE.out with e | ⟨v, hv, vK⟩
   all_goals
    first
    | (subst e; clear HE HK hA; go_wp2_with fail)
    | (have hlt : k < n := (by have := (lgs hv).1; have := HN.out; omega); obtain ⟨b9, o9, rfl, hc⟩ := hA.at (i := k) (r := v.cs) (by rw [lgm, hv]; rfl); have c0 : wq.cell? ⟨b9, o9 + k * 8, none⟩ = some (iv v.tx) := hc 0 _ rfl; clear HE HK hA hc hv; go_wp2_with fail)
    refine hC.mono ?_
    rintro q w2 ⟨v2, rfl, br, ac⟩
    obtain ⟨p2, m2, k2, rfl⟩ := jab br
    have ao := qtr aj ac
    have R2 := R1.below ac
    have u0 := R2.c 0 rfl
    have u1 := R2.c 1 rfl
    have Nn := R2.f 0 rfl
    have No := R2.f 1 rfl
    have HP : Hid (AsP (aoC s tx) (aoL s tx) w (.returned (.agg #[.slice p2 m2 k2, iv 0])) ((w2.setCell (ad (w.heap.size + 1) 0) (.slice p2 m2 k2)).setCell (ad (w.heap.size + 1) 1) (iv 0))) := by
     have h := HX.out
     simp only [Hid]
     rw [h.1, h.2, HC.out]
     exact jgi br (by omega) lw ao
    obtain ⟨t0, t1⟩ := jam (v0 := .slice p2 m2 k2) (v1 := iv 0) u0 u1
    clear br ac hC R1 R2 r0 r1 nc nh z0 z8
    go_wp2
    exact bpr (v := .agg #[.slice p2 m2 k2, iv 0]) (by simp [results, Tryz.results15, go_sem, t0, t1]) rfl HP.out
end
end Go.Proofs.YtgiieknbckhofaaGreatDoor
