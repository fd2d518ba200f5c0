/- Packed. -/
import Derived.Test.YtgiieknbckhofaaGreatDoorSDu
import Derived.Sort.MapsRangeIn
import Derived.Test.YtgiieknbckhofaaGreatDoorSEu
import Derived.Test.YtgiieknbckhofaaGreatDoorShelfY
set_option maxRecDepth 100000
set_option maxHeartbeats 20000000
set_option linter.unusedSimpArgs false
namespace Go.Proofs.YtgiieknbckhofaaGreatDoor
section
open Go.RowKit Go.Shelf Go.ChangeMaps Go.MapKept
attribute [local go_sem] Oper.semAt_some
structure GotE (f : Int -> Option EventD) (left : Lit -> Bool) (P : List EventD) : Prop where
 nd : P.Nodup
 mem : ∀ x, x ∈ P ↔ f x.id = some x /\ left (.int .i64 x.id) = false
theorem GotE.step {f : Int -> Option EventD} {left : Lit -> Bool} {P : List EventD} {c : EventD} (h : GotE f left P) (hc : f c.id = some c) (hl : left (.int .i64 c.id) = true) : GotE f (fun z => left z && !Lit.sameKey z (.int .i64 c.id)) (P ++ [c]) := by
 refine ⟨List.nodup_append.mpr ⟨h.nd, by simp, fun x hx y hy e => ?_⟩, fun x => ?_⟩
 ·simp only [List.mem_singleton] at hy
  subst hy e
  rw [((h.mem x).mp hx).2] at hl
  cases hl
 ·rw [List.mem_append, List.mem_singleton, h.mem]
  constructor
  ·rintro (⟨h1, h2⟩ | rfl)
   ·exact ⟨h1, by simp only [h2, Bool.false_and]⟩
   ·have hk : WideAt.IsKeyLit (.int .i64 x.id) := trivial
    exact ⟨hc, by rw [WideAt.sameKey_self hk]; simp⟩
  ·rintro ⟨h1, h2⟩
   rcases jfn h2 with h | h
   ·exact .inl ⟨h1, h⟩
   ·rw [h, hc] at h1
    exact .inr (osi h1).symm
theorem GotE.done {f : Int -> Option EventD} {left : Lit -> Bool} {P L : List EventD} (h : GotE f left P) (hl : ∀ kl, left kl = false) (hT : Jk f L) (hL : L.Pairwise fun x y => x.id < y.id) : P.Perm L :=
 (List.perm_ext_iff_of_nodup h.nd (hL.imp fun {x y} fu e => by subst e; omega)).mpr fun x => by rw [h.mem, hT.mem, hl]; simp
theorem jss (F : Fence) (n : Nat) (h8 : F.fn 106) (fL : F.round = none) (hn : 1 <= n) (l Bm b nn : Nat) (f : Int -> Option EventD) (L : List EventD) (J Jx : List EventD -> World -> Prop)
  (hY : ∀ aZ x W, J aZ W -> aZ.length < L.length -> YieldAt F (n - 1) Tryz.prog l #[x.v] W fun e W' =>
   (e = .returned (.bool true) /\ J (aZ ++ [x]) W' /\ KeepsWalks W W') \/ (e = .returned (.bool false) /\ Jx (aZ ++ [x]) W'))
  (W : World) (hJ : AbidesFrom W.heap.size J) (hm : W.cell? (ad Bm 0) = some (.map (some b))) (hM : Zj W b nn f) (hT : Jk f L) (hL : L.Pairwise fun x y => x.id < y.id) (h0 : J [] W) :
  CallsIn F n Tryz.prog 106 #[.func (.yield l) #[] #[], .pointer (some (ad Bm 0))] W fun e W' => (∃ v, e = .returned v) /\
   ((∃ xs, xs.Perm L /\ J xs W') \/ (∃ aZ, True /\ Jx aZ W')) := by
 obtain ⟨D, ai, hD⟩ := hM.own
 have hsz : Maps.size D = L.length := jfi ai hD hT hL
 have HT := hid hT
 have HD := hid hD
 have HU := hid hL
 clear hT hD hL hM
 refine callsIn_of_wp Tryz.func106 rfl h8 ?_ fL
 simp only [Tryz.ntmps106, List.size_toArray, List.length_cons, List.length_nil, Nat.reduceAdd, Nat.reduceSub, Array.replicate_succ, Array.replicate_zero, List.push_toArray, List.append_toArray, List.nil_append, List.cons_append]
 gi_wp2_with (first
  | (gi_at_range; refine wpListIn_range_own _ rfl _ 70 rfl 2 79 (Maps.int_keyed keyT) mapT jb9 b nn D rfl ai ?_; intro w0 ip jt aH)
  | gi_in)
 go_frame
 gi_loopw [4] (fun _ wr => ∃ (left : Lit -> Bool) (fQ : Nat) (ps : List EventD), wr.ranges Tryz.prog 2 jb9 b W.heap.size nn D left fQ /\ ps.length + fQ <= L.length /\ Hid (GotE f left ps) /\ J ps wr)
  (fun _ wr => wr.rangeLeft b W.heap.size)
 case atStart =>
  exact ⟨_, _, [], ip, by rw [hsz]; simp, ⟨List.nodup_nil, fun x => ⟨fun h => by simp at h, fun ⟨h1, h2⟩ => by rw [jf7 HD.out h1] at h2; cases h2⟩⟩, hJ [] W w0 none h0 jt (fun r e => by cases e)⟩
 case round =>
  obtain ⟨left, fQ, ps, jS, oF, HG, uw⟩ := hrel
  gi_wp2_with (first
   | (gi_at_next; refine wpListIn_next_ranges _ rfl _ rfl 2 (Maps.int_keyed keyT) jb9 (Value.int .i64) (fun c : EventD => Value.agg #[.int .i64 c.id, .string c.name, .string c.zone, .int .i64 c.wall, .int .i64 c.gap, .int .i64 c.fold]) (fun key kl bK => by (obtain ⟨x, rfl, _⟩ := Maps.keyOf_int_inv keyT bK; exact ⟨x, rfl⟩)) (fun v y hv => by (obtain ⟨c, rfl, _⟩ := jcf hv; exact ⟨c, rfl⟩)) b W.heap.size nn D left fQ rfl jS ?_ ?_)
   | gi_in)
  ·intro _ hl0
   gi_wp2
   go_end0
   exact ⟨⟨_, rfl⟩, .inl ⟨_, HG.out.done hl0 HT.out HU.out, uw⟩⟩
  ·intro x c kl y ys w2 zh bK gr dC bF hrg2 hlt bU et fd
   have HF : Hid (f x = some c /\ c.id = x /\ kl = .int .i64 x) := by
    obtain ⟨x', ex, rfl, _⟩ := Maps.keyOf_int_inv keyT bK
    cases ex
    obtain ⟨c', ec, ez⟩ := jcf dC
    simp only [Prod.mk.injEq] at ez
    obtain ⟨rfl, _⟩ := ez
    have : c' = c := by cases c; cases c'; simp only [EventD.v, Value.agg.injEq] at ec; simp_all
    subst this
    have h1 := jp3 HD.out bF
    exact ⟨h1, HT.out.id _ _ h1, rfl⟩
   have Kh : J ps w2 := hJ _ wr w2 (some W.heap.size) uw bU (fun r e => by cases e; exact ⟨nlr _, jS.iter_walk⟩)
   have iq := hrg2.alloc (.cells #[iv c.id, .string c.name, .string c.zone, iv c.wall, iv c.gap, iv c.fold] 79)
   have lL := hY ps c (w2.alloc (.cells #[iv c.id, .string c.name, .string c.zone, iv c.wall, iv c.gap, iv c.fold] 79)) (jg7 hJ Kh _) (by omega)
   obtain ⟨e0, e1, e2, e3, e4, e5⟩ : (fun z : World => z.cell? (ad w2.heap.size 0) = some (iv c.id) /\ z.cell? (ad w2.heap.size 1) = some (.string c.name) /\ z.cell? (ad w2.heap.size 2) = some (.string c.zone) /\ z.cell? (ad w2.heap.size 3) = some (iv c.wall) /\ z.cell? (ad w2.heap.size 4) = some (iv c.gap) /\ z.cell? (ad w2.heap.size 5) = some (iv c.fold)) (w2.alloc (.cells #[iv c.id, .string c.name, .string c.zone, iv c.wall, iv c.gap, iv c.fold] 79)) := by simp [go_sem]
   simp only [EventD.v] at lL
   obtain ⟨fn, tmps, assign, body, hy, hR⟩ := lL
   have gK : Hid (GotE f (fun z => left z && !Lit.sameKey z kl) (ps ++ [c])) := by
    have h := HF.out
    rw [h.2.2, <- h.2.1]
    exact HG.out.step (by rw [h.2.1]; exact h.1) (by rw [h.2.1, <- h.2.2]; exact gr)
   clear et dC bF bK hY
   gi_wp2
   refine hR.mono ?_
   rintro e W3 (⟨rfl, uu, lG⟩ | ⟨rfl, kC⟩)
   ·gi_wp2
    have ir := iq.of_walks lG
    go_roundw
    case rel => exact ⟨_, zh, ps ++ [c], ir, by simp; omega, gK, uu⟩
    case measure => rw [ir.left_eq, jS.left_eq]; exact hlt
   ·gi_wp2
    refine bpr (results_none rfl _ _ _) rfl ?_
    exact ⟨⟨_, rfl⟩, .inr ⟨_, trivial, kC⟩⟩
theorem jm4 (F : Fence) (n : Nat) (h8 : F.fn 106) (fL : F.round = none) (hn : 1 <= n) (Bm b nn : Nat) (f : Int -> Option EventD) (L : List EventD) (w : World) (eO : Bm < w.heap.size) (hm : w.cell? (ad Bm 0) = some (.map (some b))) (hM : Zj w b nn f) (hT : Jk f L) (hL : L.Pairwise fun x y => x.id < y.id) :
  SeqStopsK F n Tryz.prog 106 #[.pointer (some (ad Bm 0))] (fun x : EventD => #[x.v]) KeepsWalks (fun xs => xs.Perm L) (fun _ => True) L.length w := fun l J Jx W hW hJ _ hY h0 =>
 jss F n h8 fL hn l Bm b nn f L J Jx hY W hJ ((hW.cell (p := (ad Bm 0)) eO).trans hm) (hM.below hW) hT hL h0
theorem jqp (b : Nat) (w : World) :
  Cl 69 #[.map (some b)] w fun e w' => e = .returned (.func (.func 106) #[] #[.pointer (some (ad w.heap.size 0))]) /\ w' = w.alloc (.cells #[.map (some b)] 70) := by
 go_enter Tryz.func69, Tryz.ntmps69
 go_wp2
 go_ret
 exact ⟨rfl, rfl⟩
end
section
open Go.RowKit Go.Sort Go.Lib
theorem j2v (x y : EventD) (w : World) : Cl 70 #[x.v, y.v] w fun e w' => e = .returned (iv (cmpI x.id y.id)) /\ ∃ n os, w' = Go.Sort.grow (w.drewN n) os := by
 obtain ⟨x0, x1, x2, x3, x4, x5⟩ := x
 obtain ⟨y0, y1, y2, y3, y4, y5⟩ := y
 simp only [EventD.v]
 have h1 := fun x y w => jjt x y w
 go_enter Tryz.func70, Tryz.ntmps70
 go_wp2_with fail
 refine (h1 _ _ _).mono ?_
 rintro e w3 ⟨rfl, rfl⟩
 go_wp2
 go_ret
 exact ⟨rfl, 0, #[_, _], by rw [Go.Sort.alloc_eq_grow, Go.Sort.alloc_eq_grow, Go.Sort.grow_grow]; rfl⟩
abbrev InE (P : List EventD) := { x : EventD // x ∈ P }
def cfE {P : List EventD} (x y : InE P) : Int := cmpI x.1.id y.1.id
theorem ltE {P : List EventD} (x y : InE P) : ltOf cfE x y = decide (x.1.id < y.1.id) := by
 unfold ltOf cfE cmpI
 by_cases h : x.1.id < y.1.id
 ·simp [h]
 ·by_cases h2 : y.1.id < x.1.id <;> simp [h, h2]
theorem swoE (P : List EventD) : SWO (ltOf (cfE (P := P))) where
 irrefl x := by rw [ltE]; simp
 trans x y z h1 h2 := by rw [ltE] at *; simp only [decide_eq_true_eq] at *; omega
 ntrans x y z h1 h2 := by rw [ltE] at *; simp only [decide_eq_false_iff_not] at *; omega
theorem sortE (P : List EventD) (base : Nat) (v : Value) (w : World) (hO : Zm w base v P) (hd : ∀ x ∈ P, ∀ y ∈ P, x.id = y.id -> x = y) (hl : P.length <= 1048576) :
  Cl 105 #[v, .func (.func 70) #[] #[]] w fun e w' => e = .returned (.tuple #[]) /\ ∃ Q : List EventD, Q.Perm P /\ (Q.Pairwise fun x y => x.id <= y.id) /\ Zm w' base v Q /\ w.grownBy w' v.ownBlock := by
 rcases hO.2 with ⟨rfl, h0⟩ | ⟨g, cap, cur, rfl, hb, hh, _⟩
 ·have hP : P = [] := List.length_eq_zero_iff.mp h0
  subst hP
  refine (Tryz.sortFuncY_none none 0 _ w).mono ?_
  rintro e w' ⟨rfl, rfl⟩
  exact ⟨rfl, [], .refl _, .nil, hO, ⟨rfl, rfl, rfl, nlr _, fun _ _ _ => rfl⟩⟩
 ·cases hP : P with
  | nil =>
   subst hP
   refine (Tryz.sortFuncY_none (some (ad g 0)) cap _ w).mono ?_
   rintro e w' ⟨rfl, rfl⟩
   exact ⟨rfl, [], .refl _, .nil, hO, ⟨rfl, rfl, rfl, nlr _, fun _ _ _ => rfl⟩⟩
  | cons z zs =>
  rw [<- hP]
  haveI : Inhabited (InE P) := ⟨⟨z, by rw [hP]; exact List.mem_cons_self ..⟩⟩
  have hk : ∀ x : InE P, x.1.cs.length = 6 := fun _ => rfl
  have hm : P.attach.map (fun x : InE P => x.1.cs) = P.map EventD.cs := by rw [List.attach_map_val]
  have hA : w.ownsRow base 79 6 (so g P.length cap) P.attach.length (P.attach.map fun x : InE P => x.1.cs).flatten := by rw [hm, List.length_attach]; exact hO
  obtain ⟨hH, hlt, _⟩ := j1f hk (by decide) hA
  have hC := Tryz.sortFuncY_total 6 Tryz.isAgg79 Tryz.sizeOf79 (fun x : InE P => x.1.cs) hk (fun x v hv => by simp [EventD.cs] at hv; rcases hv with rfl | rfl | rfl | rfl | rfl | rfl <;> rfl) cfE (swoE P) 70 #[] g 0 cap P.attach.toArray w (fun _ _ => by kernel_rfl) (fun _ _ _ _ x y => j2v x.1 y.1 _) hH hlt (by simp; omega) (fun x y h1 h2 => by
   rw [ltE] at h1 h2
   simp only [decide_eq_false_iff_not] at h1 h2
   exact Subtype.ext (hd _ x.2 _ y.2 (by omega)))
  refine Calls.mono (by simpa using hC) ?_
  rintro e w' ⟨rfl, q, os, rfl⟩
  generalize hQ : (P.attach.toArray.toList.mergeSort fun x y => !(ltOf cfE) y x) = Q
  have hp : Q.Perm P.attach := by rw [<- hQ]; exact List.mergeSort_perm _ _
  have hs : Q.Pairwise fun x y => x.1.id <= y.1.id := by
   rw [<- hQ]
   refine (List.pairwise_mergeSort (fun a b c h1 h2 => ?_) (fun a b => ?_) _).imp fun {x y} h => ?_
   ·rw [ltE] at *; simp at *; omega
   ·rw [ltE, ltE]; simp; omega
   ·rw [ltE] at h; simpa using h
  have h := putG hk (by decide) (q := q) (os := os) (Q := Q) hA hp.length_eq
  refine ⟨rfl, Q.map Subtype.val, ?_, List.pairwise_map.mpr hs, ?_, h.2⟩
  ·have := hp.map Subtype.val
   rwa [List.attach_map_subtype_val] at this
  ·show World.ownsRow _ _ _ _ _ _ _
   rw [llm, List.map_map]
   exact h.1
theorem j15 {L P Q : List EventD} (hL : L.Pairwise fun x y => x.id < y.id) (hP : P.Perm L) (hQ : Q.Perm P) (hs : Q.Pairwise fun x y => x.id <= y.id) : Q = L := by
 have hq := hQ.trans hP
 have hn : Q.Pairwise fun x y => x.id ≠ y.id := hq.symm.pairwise (hL.imp fun {x y} h => by omega) fun {x y} h => Ne.symm h
 exact j23 ((List.pairwise_and_iff.mpr ⟨hs, hn⟩).imp fun {x y} h => by have := h.1; have := h.2; omega) hL fun e => hq.mem_iff
theorem jy8 {L P : List EventD} (hL : L.Pairwise fun x y => x.id < y.id) (hP : P.Perm L) : ∀ x ∈ P, ∀ y ∈ P, x.id = y.id -> x = y := fun x hx y hy e => by
 obtain ⟨i, hi⟩ := lgo (hP.mem_iff.mp hx)
 obtain ⟨j, hj⟩ := lgo (hP.mem_iff.mp hy)
 obtain ⟨Gx, yb⟩ := lgs hi
 obtain ⟨sI, qD⟩ := lgs hj
 have hp := List.pairwise_iff_getElem.mp hL
 rcases Nat.lt_trichotomy i j with h | h | h
 ·have := hp i j Gx sI h; rw [yb, qD] at this; omega
 ·subst h; rw [<- yb, <- qD]
 ·have := hp j i sI Gx h; rw [yb, qD] at this; omega
end
section
open Go.RowKit Go.Shelf
attribute [local go_sem] Oper.semAt_some
theorem jpg (F : Fence) (n : Nat) (JZ : F.fn 146) (h8 : F.fn 106) (fL : F.round = none) (hn : 3 <= n) (Bm b nn : Nat) (f : Int -> Option EventD) (L : List EventD) (w : World) (eO : Bm < w.heap.size) (hm : w.cell? (ad Bm 0) = some (.map (some b))) (hM : Zj w b nn f) (hT : Jk f L) (hL : L.Pairwise fun x y => x.id < y.id) (hl : L.length <= 1048576) :
  CallsIn F n Tryz.prog 146 #[nS, .func (.func 106) #[] #[.pointer (some (ad Bm 0))]] w fun e w' => ∃ v xs, e = .returned v /\ xs.Perm L /\ Zm w' w.heap.size v xs /\ Bw w w' := by
 have h1 : 1 <= n := by omega
 obtain ⟨i0, hi, aH, aI, aG⟩ := jk0
 refine callsIn_of_wp_marks Tryz.func146 rfl JZ ?_ fL
 simp only [Tryz.ntmps146, List.size_toArray, List.length_cons, List.length_nil, Nat.reduceAdd, Nat.reduceSub, Array.replicate_succ, Array.replicate_zero, List.push_toArray, List.append_toArray, List.nil_append, List.cons_append]
 gi_wp2
 have bO := Boxed.new w 32 nS
 have ag : Bw w (w.alloc (.cells #[nS] 32)) := qal w _
 have dK : (w.alloc (.cells #[nS] 32)).heap.size = w.heap.size + 1 := by simp
 refine wpIn_rangeFunc_ownH fL h1 (gf := 106) (lb := #[.pointer (some (ad Bm 0))]) rfl h8 (enters_of Tryz.func106 (by kernel_rfl) rfl)
  (jm4 F (n - 1) h8 fL (by omega) Bm b nn f L _ (by simp; omega) (jaa ag hm) (hM.below ag) hT hL) walksK_t walksK_b (brf _ _) (fun _ => rfl)
  (fun aZ W => (∃ v, Boxed W w.heap.size 32 v /\ W.ownsRow w.heap.size 79 6 v aZ.length (aZ.map EventD.cs).flatten /\ True) /\ Bw w W)
  (fun _ _ _ => False)
  (OwnFrom.and (Own.from (holdsRow_own w.heap.size w.heap.size 32 79 6 (fun aZ => aZ.length) (fun aZ : List EventD => (aZ.map EventD.cs).flatten) (fun _ _ => True)) _) (ownFrom_below (nlr _) (by simp)))
  (fun _ _ _ _ _ hs _ _ => hs)
  ⟨⟨_, bO, World.ownsRow_nil _ _ _ _, trivial⟩, ag⟩
  (fun x a' W => ∃ Bx, W.heap[Bx]? = some (.cells #[iv x.id, .string x.name, .string x.zone, iv x.wall, iv x.gap, iv x.fold] 79 (0, 0)) /\ a' = { tmps := #[nS, .func (.func 106) #[] #[.pointer (some (ad Bm 0))], .pointer (some (ad w.heap.size 0)), undef, nS, .pointer (some (ad Bx 0)), .func (.func 106) #[] #[.pointer (some (ad Bm 0))], x.v, undef, undef, undef, undef, undef], defers := [] })
  (fun x a' _ X Y row hs hg hr => by
   obtain ⟨Bx, k1, k2⟩ := hs
   refine ⟨Bx, (hg.block Bx (Array.getElem?_eq_some_iff.1 k1).1 (fun e => ?_)).trans k1, k2⟩
   obtain ⟨_, oo, ho, hc⟩ := hr Bx e.symm
   rw [k1] at ho
   cases ho
   cases hc)
  ?assign ?body ?done ?stop
 case assign =>
  rintro q aZ ⟨x0, x1, x2, x3, x4, x5⟩ W K ⟨⟨v, hv, ap, _⟩, hB⟩ hK
  simp only [EventD.v] at *
  gi_wp2
  exact hK _ _ ((KeepsOthers.alloc _ _).from _) (KeepsOthers.alloc _ _).walks ⟨⟨v, hv.alloc _, ap.alloc _, trivial⟩, hB.alloc hB.size _⟩ ⟨W.heap.size, World.alloc_heap_new W _, rfl⟩
 case body =>
  rintro q aZ ⟨x0, x1, x2, x3, x4, x5⟩ a' W hq ⟨r, hr⟩ ⟨⟨v, hv, ap, _⟩, hB⟩ ⟨Bx, ck, rfl⟩ hlt
  have hc := hv.cell
  have dB := hB.size
  have e0 : W.cell? (ad Bx 0) = some (iv x0) := by simp [World.cell?, ck]
  have e1 : W.cell? (ad Bx 1) = some (.string x1) := by simp [World.cell?, ck]
  have e2 : W.cell? (ad Bx 2) = some (.string x2) := by simp [World.cell?, ck]
  have e3 : W.cell? (ad Bx 3) = some (iv x3) := by simp [World.cell?, ck]
  have e4 : W.cell? (ad Bx 4) = some (iv x4) := by simp [World.cell?, ck]
  have e5 : W.cell? (ad Bx 5) = some (iv x5) := by simp [World.cell?, ck]
  simp only [EventD.v] at *
  clear ck hq hr
  gi_wp2_with (gi_at_builtin; refine wpListIn_append_own _ rfl _ _ 32 rfl w.heap.size 79 i0 (.agg #[iv 0, .string ⟨#[]⟩, .string ⟨#[]⟩, iv 0, iv 0, iv 0]) 6 64 Tryz.underlying32 hi aH aI aG rfl (by decide) _ _ _ rfl (ap.alloc _) (ad W.heap.size 0) 1 1 [iv x0, .string x1, .string x2, iv x3, iv x4, iv x5] rfl rfl (by have h := jag W [iv x0, .string x1, .string x2, iv x3, iv x4, iv x5] 79; simpa using h) (by intro u hu; simp at hu; rcases hu with rfl | rfl | rfl | rfl | rfl | rfl <;> rfl) (by unfold maxLen; omega) (by omega) (by simp; omega) ?_; intro v' w1 ar af _; obtain ⟨g', fO, rfl⟩ := ownsRow_succ ar; obtain ⟨dC, eu, dA, eU, ac⟩ := hv.appended (by decide) ap hB.size (nlr _) ar af; have aY := dC.cell; have cZ := dC.frozen)
  exact ⟨eU.from _, eU.walks, ⟨_, eu, by simpa [EventD.cs] using dA, trivial⟩, hB.trans ac⟩
 case done =>
  rintro D ys W hD hp ⟨⟨v, hv, ap, _⟩, hB⟩ hK
  have hc := hv.cell
  gi_wp2
  refine ⟨by simp, .inl ⟨_, _, rfl, run_takeDeferred hK, ?_⟩⟩
  exact ⟨_, results_tmp rfl _ _ _, v, ys, rfl, hp, ownsRow_putObj ap (.deferred none) hK rfl, hB.trans (belowK_b (w := w) (nlr _) W D _ _ (by simp at hD; omega) hK rfl rfl)⟩
 case stop =>
  rintro D c aZ W _ _ h _
  exact h.elim
theorem joq (Bm b nn : Nat) (f : Int -> Option EventD) (L : List EventD) (w : World) (eO : Bm < w.heap.size) (hm : w.cell? (ad Bm 0) = some (.map (some b))) (hM : Zj w b nn f) (hT : Jk f L) (hL : L.Pairwise fun x y => x.id < y.id) (hl : L.length <= 1048576) :
  Cl 104 #[.func (.func 106) #[] #[.pointer (some (ad Bm 0))]] w fun e w' => ∃ v xs, e = .returned v /\ xs.Perm L /\ Zm w' w.heap.size v xs /\ Bw w w' := by
 have hA : Cl 146 #[nS, .func (.func 106) #[] #[.pointer (some (ad Bm 0))]] w _ := (callsIn_wide (n := 3)).1 (jpg Fence.wide 3 trivial trivial rfl (by omega) Bm b nn f L w eO hm hM hT hL hl)
 go_enter Tryz.func104, Tryz.ntmps104
 go_wp2_with fail
 refine hA.mono ?_
 rintro e w1 ⟨v, xs, rfl, hp, hO, hb⟩
 obtain ⟨p, m, c, rfl⟩ := jab hO
 go_wp2
 go_ret
 exact ⟨_, xs, rfl, hp, hO, hb⟩
theorem jwu (b nn : Nat) (f : Int -> Option EventD) (L : List EventD) (w : World) (hM : Zj w b nn f) (hT : Jk f L) (hL : L.Pairwise fun x y => x.id < y.id) (hl : L.length <= 1048576) :
  Cl 34 #[.map (some b)] w fun e w' => ∃ v, e = .returned v /\ Zm w' w.heap.size v L /\ Bw w w' := by
 have hV := jqp b w
 have ag : Bw w (w.alloc (.cells #[.map (some b)] 70)) := qal w _
 have hC := joq w.heap.size b nn f L (w.alloc (.cells #[.map (some b)] 70)) (by simp) (by simp [go_sem]) (hM.below ag) hT hL hl
 have Kp : Cl 68 #[.func (.func 106) #[] #[.pointer (some (ad w.heap.size 0))], .func (.func 70) #[] #[]] (w.alloc (.cells #[.map (some b)] 70)) fun e w' => ∃ v, e = .returned v /\ Zm w' w.heap.size v L /\ Bw w w' := by
  go_enter Tryz.func68, Tryz.ntmps68
  go_wp2_with fail
  refine hC.mono ?_
  rintro e w1 ⟨v, xs, rfl, hp, hO, hb⟩
  have hS := sortE xs _ v w1 hO (jy8 hL hp) (by rw [hp.length_eq]; exact hl)
  obtain ⟨p, m, c, rfl⟩ := jab hO
  have aj := qtr ag hb
  go_wp2_with fail
  refine hS.mono ?_
  rintro e w2 ⟨rfl, Q, hQ, hs, br, hg⟩
  have ao : Bw w w2 := aj.grown hg aj.size (fun k hk => by have := (World.ownsRow.lt hO k hk).1; simp at this; omega)
  obtain rfl := j15 hL hp hQ hs
  go_wp2
  go_ret
  exact ⟨_, rfl, jak br (by simp), ao⟩
 go_enter Tryz.func34, Tryz.ntmps34
 go_wp2_with fail
 refine hV.mono ?_
 rintro e w1 ⟨rfl, rfl⟩
 go_wp2_with fail
 refine Kp.mono ?_
 rintro e w2 ⟨v, rfl, hO, hb⟩
 obtain ⟨p, m, c, rfl⟩ := jab hO
 go_wp2
 go_ret
 exact ⟨_, rfl, hO, hb⟩
end
end Go.Proofs.YtgiieknbckhofaaGreatDoor
