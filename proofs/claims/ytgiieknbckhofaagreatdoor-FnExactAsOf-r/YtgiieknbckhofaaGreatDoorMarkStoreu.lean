/- A store numbered: what is written lies in its own blocks. -/
import Derived.Test.YtgiieknbckhofaaGreatDoorSLu
set_option maxHeartbeats 20000000
set_option linter.unusedSimpArgs false
namespace Go.Proofs.YtgiieknbckhofaaGreatDoor
open Go.RowKit Go.Sort
theorem Zp.clip {w : World} {B M : Nat} {v : Value} {r : RelD} (h : Zp w B M v r) : Zp w B (max B (min M w.heap.size)) v r := by
 obtain ⟨a, b, c, hv, hB, ⟨u1, u2, u3⟩, gj, h1, h2, h3, h4⟩ := h.form
 refine ⟨a, b, c, hv, hB, ⟨fun h => by have := u1 h; have := h1.lt (by omega); omega, fun h => by have := u2 h; have := h2.lt (by omega); omega, fun h => by have := u3 h; have := h4.lt (by omega); omega⟩, gj, h1, h2, fun i z hz => ?_, h4⟩
 obtain ⟨q, hq, hu, c1, hr⟩ := h3 i z hz
 exact ⟨q, hq, fun h => by have := hu h; have := hr.lt (by omega); omega, c1, hr⟩
theorem Zr.rise {w : World} {B M d e f : Nat} {r : RelD} (h : Zr w B (.agg #[so d r.rules.length r.rules.length, so e r.zones.length r.zones.length, so f r.links.length r.links.length]) r) (h1 : M <= d) (h2 : M <= e) (h3 : M <= f) :
  Zr w M (.agg #[so d r.rules.length r.rules.length, so e r.zones.length r.zones.length, so f r.links.length r.links.length]) r := by
 obtain ⟨a, b, c, hv, _, k⟩ := h.form
 simp at hv
 obtain ⟨rfl, rfl, rfl⟩ := hv
 exact ⟨_, _, _, rfl, ⟨h1, h2, h3⟩, k⟩
theorem Zp.touch {S : Nat -> Prop} {w w' : World} {B U : Nat} {v : Value} {r : RelD} (h : Zp w B U v r) (ht : Zb S w w') (hS : ∀ b, B <= b -> ¬ S b) : Zp w' B U v r := by
 obtain ⟨a, b, c, hv, hB, hU, gj, h1, h2, h3, h4⟩ := h.form
 exact ⟨a, b, c, hv, hB, hU, gj, ht.room _ _ h1, ht.room _ _ h2, h3.touch ht (hS _ hB.2.1), ht.room _ _ h4⟩
theorem Ze.touch {S : Nat -> Prop} {w w' : World} {b : Nat} {l : List Value} (h : Ze w b l) (ht : Zb S w w') (hs : ¬ S b) : Ze w' b l := fun i u hu =>
 have h1 := h i u hu
 ⟨ht.cell hs h1.1, (ht.frozen (qbl h1.1) hs).trans h1.2⟩
structure OwnStU (w : World) (B U : Nat) (v : Value) (s : StoreD) : Prop where
 form : ∃ a b c d e f va ia, v = .agg #[iv s.tx, so a s.now.rules.length s.now.rules.length, so b s.now.zones.length s.now.zones.length, so c s.now.links.length s.now.links.length, so d s.was.rules.length s.was.rules.length, so e s.was.zones.length s.was.zones.length, so f s.was.links.length s.was.links.length, iv s.cur, so va s.vs.length s.vs.length, so ia s.ix.length s.ix.length] /\
  ∃ M, B <= M /\ M <= U /\ Zp w B M (.agg #[so a s.now.rules.length s.now.rules.length, so b s.now.zones.length s.now.zones.length, so c s.now.links.length s.now.links.length]) s.now /\
   Zp w M U (.agg #[so d s.was.rules.length s.was.rules.length, so e s.was.zones.length s.was.zones.length, so f s.was.links.length s.was.links.length]) s.was /\
   (B <= va /\ (0 < s.vs.length -> va < U) /\ Zf w va (s.vs.length * 8)) /\ (B <= ia /\ (0 < s.ix.length -> ia < U) /\ Zf w ia (s.ix.length * 2))
theorem OwnSt.upto {w w' : World} {B : Nat} {v : Value} {s : StoreD} (h : OwnSt w B v s) (hB : B <= w.heap.size) (hb : Bw w w') : OwnStU w' B w.heap.size v s := by
 obtain ⟨a, b, c, d, e, f, va, ia, hv, h1, h2, ⟨b3, h3, r3⟩, ⟨b4, h4, r4⟩, M, hM, m1, m2, m3⟩ := h.form
 have k2 := h2
 obtain ⟨a', b', c', eu, ao, _⟩ := k2.form
 simp at eu
 obtain ⟨rfl, rfl, rfl⟩ := eu
 exact ⟨a, b, c, d, e, f, va, ia, hv, _, by omega, by omega, hM.clip.below hb, (h2.rise (M := max B (min M w.heap.size)) (by omega) (by omega) (by omega)).upto hb, ⟨b3, fun h => r3.lt (by omega), r3.below hb⟩, ⟨b4, fun h => r4.lt (by omega), r4.below hb⟩⟩
set_option maxRecDepth 20000 in
theorem jj5 (s : StoreD) (v : Value) (B U : Nat) (w : World) (hv : OwnStU w B U v s) (hU : U <= w.heap.size) (h1 : s.now.sz <= 1048576) (h2 : s.was.sz <= 1048576) (CN : s.vs.length <= 1048576) (dk : s.ix.length <= 1048576) :
  Cl 12 #[v, iv 1] w fun e w' => (∃ K : Nat, e = .returned (iv (K : Int))) /\ Zb (fun b => B <= b /\ b < U) w w' := by
 obtain ⟨a, b, c, d, e, f, va, ia, rfl, M, Pv, Py, hN, hW, ⟨bv, uv, rv⟩, ⟨bx, ux, rx⟩⟩ := hv.form
 have ag := qal w (.cells (stA s (some (ad a 0)) (some (ad b 0)) (some (ad c 0)) (some (ad d 0)) (some (ad e 0)) (some (ad f 0)) (some (ad va 0)) (some (ad ia 0)) s.now.rules.length s.now.zones.length s.now.links.length s.was.rules.length s.was.zones.length s.was.links.length s.vs.length s.ix.length).toArray 42)
 have A0 := Ze.new w (stA s (some (ad a 0)) (some (ad b 0)) (some (ad c 0)) (some (ad d 0)) (some (ad e 0)) (some (ad f 0)) (some (ad va 0)) (some (ad ia 0)) s.now.rules.length s.now.zones.length s.now.links.length s.was.rules.length s.was.zones.length s.was.links.length s.vs.length s.ix.length) 42
 have az : ¬ (B <= w.heap.size /\ w.heap.size < U) := by omega
 have q1 := fun w h hU => jdf s.now (.agg #[so a s.now.rules.length s.now.rules.length, so b s.now.zones.length s.now.zones.length, so c s.now.links.length s.now.links.length]) 1 B M w h hU h1 (by omega) (by omega)
 have q2 := fun k w h hU hk eU => jdf s.was (.agg #[so d s.was.rules.length s.was.rules.length, so e s.was.zones.length s.was.zones.length, so f s.was.links.length s.was.links.length]) k M U w h hU h2 hk eU
 have q3 := fun k w h h0 h1 => jf8 s.vs.length va s.vs.length k w h h0 h1
 have q4 := fun k w h h0 h1 => jix s.ix.length ia s.ix.length k w h h0 h1
 have HN := hid hN
 have HW := hid hW
 have T0 : Zb (fun b => B <= b /\ b < U) w _ := Zb.of_below ag
 have x1 := A0.c 1 rfl
 have x2 := A0.c 2 rfl
 have x3 := A0.c 3 rfl
 clear hN hW hv h1 h2
 go_enter Tryz.func12, Tryz.ntmps12
 go_wp2_with fail
 refine (q1 _ (HN.out.below ag) (by simp; omega)).mono ?_
 rintro e1 w1 ⟨⟨K1, rfl, k1, k2⟩, t1⟩
 have T1 := T0.trans (t1.mono (S2 := fun b => B <= b /\ b < U) fun x _ hx => ⟨hx.1, by have := hx.2; omega⟩)
 have A1 := A0.touch t1 (fun h => az ⟨h.1, by have := h.2; omega⟩)
 have W1 := (HW.out.below ag).touch t1 (fun x hx h => by have := h.2; omega)
 have V1 := T1.room _ _ rv
 have X1 := T1.room _ _ rx
 have s1 := T1.size
 clear x1 x2 x3 A0 T0 t1 q1 HN HW ag
 have x4 := A1.c 4 rfl
 have x5 := A1.c 5 rfl
 have x6 := A1.c 6 rfl
 go_wp2_with fail
 refine (q2 K1 _ W1 (by omega) (by omega) (by omega)).mono ?_
 rintro e2 w2 ⟨⟨K2, rfl, k3, k4⟩, t2⟩
 have wK := t2.mono (S2 := fun b => B <= b /\ b < U) fun x _ hx => ⟨by have := hx.1; omega, hx.2⟩
 have T2 := T1.trans wK
 have A2 := A1.touch wK az
 have V2 := wK.room _ _ V1
 have X2 := wK.room _ _ X1
 clear x4 x5 x6 A1 T1 t2 wK q2 W1 V1 X1
 have x8 := A2.c 8 rfl
 go_wp2_with fail
 refine (q3 K2 _ V2 (by omega) (by omega)).mono ?_
 rintro e3 w3 ⟨rfl, _, _, t3⟩
 have th := t3.mono (S2 := fun b => B <= b /\ b < U) fun x _ hx => by have e1 : x = va := hx.1; have e2 := uv hx.2; show B <= x /\ x < U; omega
 have T3 := T2.trans th
 have A3 := A2.touch th az
 have X3 := th.room _ _ X2
 clear x8 A2 T2 t3 th q3 V2 X2
 have x9 := A3.c 9 rfl
 go_wp2_with fail
 refine (q4 (K2 + 8 * s.vs.length) _ X3 (by omega) (by omega)).mono ?_
 rintro e4 w4 ⟨rfl, _, _, t4⟩
 have MW := t4.mono (S2 := fun b => B <= b /\ b < U) fun x _ hx => by have e1 : x = ia := hx.1; have e2 := ux hx.2; show B <= x /\ x < U; omega
 have T4 := T3.trans MW
 go_wp2
 go_ret
 exact ⟨⟨_, rfl⟩, T4⟩
end Go.Proofs.YtgiieknbckhofaaGreatDoor
