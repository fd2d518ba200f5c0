/- Packed. -/
import Derived.Test.YtgiieknbckhofaaGreatDoorTabPu
import Derived.RangeFuncNested
import Derived.RangeFuncBound
import Derived.Shelf.RegionOpen
import Derived.OwnWalkIn
import Derived.LoopNIn
import Derived.LoopIn
set_option maxRecDepth 100000
set_option maxHeartbeats 20000000
set_option linter.unusedSimpArgs false
namespace Go.Proofs.YtgiieknbckhofaaGreatDoor
section
open Go.RowKit Go.Shelf
attribute [local go_sem] Oper.semAt_some
structure StrD where
 first : Int
 last : Int
 ahead : Int
 own : Int
def StrD.v (s : StrD) : Value := .agg #[iv s.first, iv s.last, iv s.ahead, iv s.own]
def StrD.ok (s : StrD) : Bool := isB s.first (-62135596800) 253402300799 && (isB s.last (-62135596801) 253402300799 && (isB s.ahead (-100000) 100000 && isB s.own (-100000) 100000))
abbrev StrK := { s : StrD // s.ok = true }
def jh3 (l : List TurnD) (k : Nat) : StrD := ⟨(l[k]?.getD jmz).at_, (match l[k + 1]? with | some t => t.at_ - 1 | none => 253402300799), (l[k - 1]?.getD jmz).offset, (l[k]?.getD jmz).offset⟩
def strK (l : List TurnD) (k : Nat) : StrK := if h : (jh3 l k).ok = true then ⟨jh3 l k, h⟩ else ⟨⟨0, 0, 0, 0⟩, by decide⟩
theorem jnp {l : List TurnD} (hT : Js l) {x : TurnD} (hx : x ∈ l) : isB x.offset (-100000) 100000 = true := by
 have := hT.one x hx
 unfold jca at this
 rw [bat] at this
 exact this.1
theorem jpf {l : List TurnD} (hT : Js l) {k : Nat} {x : TurnD} (hx : l[k]? = some x) : -62135596800 <= x.at_ := by
 have hl := hT.len
 obtain ⟨f, hf⟩ : ∃ r, l[0]? = some r := ⟨_, lgg (by omega)⟩
 have := jpl hT.up (Nat.zero_le k) hf hx
 rw [hT.first f hf] at this
 exact this
theorem jyp {l : List TurnD} (hT : Js l) {k : Nat} (hk : k < l.length) : (jh3 l k).ok = true := by
 obtain ⟨x, hx⟩ := qgg hk
 obtain ⟨p, hp⟩ : ∃ x, l[k - 1]? = some x := ⟨_, lgg (by omega)⟩
 have h1 := jnp hT (lmg hx)
 have h2 := jnp hT (lmg hp)
 have h3 := hT.top k x hx
 have h4 := jpf hT hx
 unfold StrD.ok jh3
 rw [hx, hp]
 simp only [Option.getD_some, h1, h2, Bool.and_true]
 rw [jma h4 h3, Bool.true_and]
 cases hy : l[k + 1]? with
 | none => exact jma (by show (-62135596801 : Int) <= 253402300799; omega) (by show (253402300799 : Int) <= 253402300799; omega)
 | some y => exact jma (by have := jpf hT hy; simp only; omega) (by have := hT.top _ y hy; simp only; omega)
theorem jdj {l : List TurnD} (hT : Js l) {k : Nat} (hk : k < l.length) : (strK l k).1 = jh3 l k := by
 unfold strK
 rw [dif_pos (jyp hT hk)]
def jat (l : List TurnD) (k : Nat) : List StrK := (List.range k).map (strK l)
theorem uptoS_succ (l : List TurnD) (k : Nat) : jat l (k + 1) = jat l k ++ [strK l k] := by simp [jat, List.range_succ]
theorem jd0 (l : List TurnD) (k : Nat) : (jat l k).length = k := by simp [jat]
def Zw (W W' : World) : Prop := ∀ (k : Nat) (t : TypeId) (cs : Array Value), (t = 183 \/ t = 220) -> W.heap[k]? = some (.cells cs t (0, 0)) -> W'.heap[k]? = some (.cells cs t (0, 0))
def KpS (n₀ : Nat) (W W' : World) : Prop := Below n₀ W W' /\ Zw W W'
theorem j33 {n₀ : Nat} {A B C : World} (h : KpS n₀ A B) (k : KpS n₀ B C) : KpS n₀ A C := ⟨h.1.trans k.1, fun i t cs ht hi => k.2 i t cs ht (h.2 i t cs ht hi)⟩
theorem j34 {n₀ : Nat} {w : World} (hn : n₀ <= w.heap.size) (W : World) (l : Nat) (o o' : Obj) (hl : w.heap.size <= l) (h : W.heap[l]? = some o) (hc : o.isCells = false) (hw : o.isWalk = false) : KpS n₀ W (W.putObj l o') :=
 ⟨belowK_b hn W l o o' hl h hc hw, fun k t cs _ hk => by
  refine (World.putObj_heap_other fun e => ?_).trans hk
  subst e
  rw [h] at hk
  cases hk
  cases hc⟩
theorem Zw.refl (W : World) : Zw W W := fun _ _ _ _ h => h
theorem Zw.alloc (W : World) (o : Obj) : Zw W (W.alloc o) := fun k _ _ _ h => (Below.heap_alloc W o k (Array.getElem?_eq_some_iff.1 h).1).trans h
theorem Zw.trans {A B C : World} (h : Zw A B) (k : Zw B C) : Zw A C := fun i t cs ht hi => k i t cs ht (h i t cs ht hi)
theorem Zw.set {W : World} {b : Nat} {tI : Array Value} {t0 : TypeId} (hb : W.heap[b]? = some (.cells tI t0 (0, 0))) (h1 : t0 ≠ 183) (h2 : t0 ≠ 220) (i : Nat) (v : Value) : Zw W (W.setCell (ad b i) v) := fun k t cs ht hk => by
 refine (Below.heap_setCell W (ad b i) v k fun e => ?_).trans hk
 have e : k = b := by first | exact e | exact e.symm
 subst e
 rw [hb] at hk
 cases hk
 rcases ht with h | h
 ·exact h1 h
 ·exact h2 h
theorem jgj (F : Fence) (n : Nat) (h : F.fn 254) (fL : F.round = none) (a : Option Addr) (len cap : Nat) (w : World) :
  CallsIn F n Tryz.prog 254 #[.agg #[.slice a len cap]] w fun e w' => e = .returned (.func (.func 282) #[] #[.pointer (some (ad w.heap.size 0))]) /\ w' = w.alloc (.cells #[.slice a len cap] 183) := by
 refine callsIn_of_wp Tryz.func254 rfl h ?_ fL
 simp only [Tryz.ntmps254, List.size_toArray, List.length_cons, List.length_nil, Nat.reduceAdd, Nat.reduceSub, Array.replicate_succ, Array.replicate_zero, List.push_toArray, List.append_toArray, List.nil_append, List.cons_append]
 gi_wp2
 go_ret
 exact ⟨rfl, rfl⟩
end
section
open Go.RowKit Go.Shelf
attribute [local go_sem] Oper.semAt_some
theorem jg7 {β : Type} {B : Nat} {J : β -> World -> Prop} (h : AbidesFrom B J) {s : β} {W : World} (hs : J s W) (o : Obj) : J s (W.alloc o) :=
 h s W _ none hs (World.grownBy_alloc W o none) (fun r e => by cases e)
theorem j10 (F : Fence) (n : Nat) (h : F.fn 282) (fL : F.round = none) (hn : 1 <= n) (q Bs n₀ b o cap : Nat) (l : List TurnD) (hT : Js l) (hb : b < n₀) (J Jx : List StrK -> World -> Prop) (W : World) (Bp : AbidesFrom W.heap.size J) (GJ : n₀ <= W.heap.size)
  (hY : ∀ aZ x W, J aZ W -> aZ.length < l.length -> YieldAt F (n - 1) Tryz.prog q #[x.1.v] W fun e W' =>
   (e = .returned (.bool true) /\ J (aZ ++ [x]) W' /\ KpS n₀ W W') \/ (e = .returned (.bool false) /\ Jx (aZ ++ [x]) W'))
  (m9 : W.heap[Bs]? = some (.cells #[.slice (some (ad b o)) l.length cap] 183 (0, 0))) (hA : Za W (some (ad b o)) 4 (l.map TurnD.cs)) (h0 : J [] W) :
  CallsIn F n Tryz.prog 282 #[.func (.yield q) #[] #[], .pointer (some (ad Bs 0))] W fun e W' => (∃ v, e = .returned v) /\
   ((∃ ys, ys = jat l l.length /\ J ys W') \/ (∃ aZ, (∃ k, k <= l.length /\ aZ = jat l k) /\ Jx aZ W')) := by
 have au := hT.len
 obtain ⟨f, hf⟩ : ∃ x, l[0]? = some x := ⟨_, lgg (by omega)⟩
 have tI : ∀ (wr : World), wr.heap[Bs]? = some (.cells #[.slice (some (ad b o)) l.length cap] 183 (0, 0)) -> wr.cell? (ad Bs 0) = some (.slice (some (ad b o)) l.length cap) := fun wr h => by simp [World.cell?, h]
 have aU : ∀ (wr : World), Below n₀ W wr -> ∀ (k : Nat) (x : TurnD), l[k]? = some x -> wr.cell? (ad b (o + k * 4)) = some (iv x.at_) /\ wr.cell? (ad b (o + k * 4 + 1)) = some (iv x.offset) /\ wr.cell? (ad b (o + k * 4 + 2)) = some (iv x.save) /\ wr.cell? (ad b (o + k * 4 + 3)) = some (.string x.abbr) := fun wr hB k x hx => by
  obtain ⟨b', o', he, hc⟩ := hA.at (i := k) (r := x.cs) (by rw [lgm, hx]; rfl)
  injection he with he
  injection he with u1 u2
  subst u1 u2
  exact ⟨(hB.cell (p := (ad b _)) hb).trans (hc 0 _ rfl), (hB.cell (p := (ad b _)) hb).trans (hc 1 _ rfl), (hB.cell (p := (ad b _)) hb).trans (hc 2 _ rfl), (hB.cell (p := (ad b _)) hb).trans (hc 3 _ rfl)⟩
 have cZ : W.cell? (ad b (o + 1)) = some (iv f.offset) := by simpa using (aU W (brf _ _) 0 f hf).2.1
 have cB := tI W m9
 refine callsIn_of_wp Tryz.func282 rfl h ?_ fL
 simp only [Tryz.ntmps282, List.size_toArray, List.length_cons, List.length_nil, Nat.reduceAdd, Nat.reduceSub, Array.replicate_succ, Array.replicate_zero, List.push_toArray, List.append_toArray, List.nil_append, List.cons_append]
 gi_wp2
 clear cZ cB
 gi_loopw [3, 15] (fun s3 rg wr => ∃ k : Nat, k <= l.length /\ rg = iv k /\ s3 = iv (l[k - 1]?.getD jmz).offset /\ J (jat l k) wr /\ Below n₀ W wr /\ wr.heap[Bs]? = some (.cells #[.slice (some (ad b o)) l.length cap] 183 (0, 0)))
  (fun _ rg _ => l.length - (intOf rg).toNat)
 case atStart => exact ⟨0, Nat.zero_le _, rfl, by rw [hf]; rfl, h0, brf _ _, m9⟩
 case round =>
  obtain ⟨k, hk, rfl, rfl, uw, hB, aM⟩ := hrel
  have cB := tI wr aM
  by_cases hlt : k < l.length
  ·obtain ⟨x, hx⟩ := qgg hlt
   obtain ⟨c0, c1, c2, c3⟩ := aU wr hB k x hx
   have PN := hB.size
   have hsz : n₀ <= wr.heap.size := by omega
   have oO := jdj hT hlt
   have qt := uptoS_succ l k
   have Kg := jg7 Bp uw (.cells #[iv x.at_, iv x.offset, iv x.save, .string x.abbr] 220)
   have lL := hY _ (strK l k) _ Kg (by rw [jd0]; exact hlt)
   rw [oO] at lL
   unfold jh3 StrD.v at lL
   simp only [hx, Option.getD_some] at lL
   have hH : (wr.alloc (.cells #[iv x.at_, iv x.offset, iv x.save, .string x.abbr] 220)).heap[wr.heap.size]? = some (.cells #[iv x.at_, iv x.offset, iv x.save, .string x.abbr] 220 (0, 0)) := World.alloc_heap_new wr _
   have iK : Below n₀ W (wr.alloc (.cells #[iv x.at_, iv x.offset, iv x.save, .string x.abbr] 220)) := hB.alloc hsz _
   have pG := Zw.alloc wr (.cells #[iv x.at_, iv x.offset, iv x.save, .string x.abbr] 220) Bs 183 _ (.inl rfl) aM
   have OK := tI _ pG
   generalize eM : (l[k - 1]?.getD jmz).offset = ah at *
   have HX : Hid ((l[k + 1 - 1]?.getD jmz).offset = x.offset) := by simp only [Hid]; rw [Nat.add_sub_cancel, hx]; rfl
   by_cases hlt2 : k + 1 < l.length
   ·obtain ⟨y, hy⟩ : ∃ y, l[k + 1]? = some y := ⟨_, lgg hlt2⟩
    have d0 := (aU _ iK (k + 1) y hy).1
    have y1 := hT.top _ y hy
    have y2 := jpf hT hy
    simp only [hy] at lL
    obtain ⟨fn, tmps, assign, body, LC, hR⟩ := lL
    clear eM hx hy hf aU hY oO
    gi_wp2
    refine hR.mono ?_
    rintro e W3 (⟨rfl, uu, lG⟩ | ⟨rfl, kC⟩)
    ·have Bk := lG.2 _ _ _ (.inr rfl) hH
     have g1 : W3.cell? (ad wr.heap.size 1) = some (iv x.offset) := by simp [World.cell?, Bk]
     have ay := iK.trans lG.1
     have pF := lG.2 _ _ _ (.inl rfl) pG
     gi_wp2
     go_roundw
     case rel => exact ⟨k + 1, by omega, by go_num, by rw [HX.out], by rw [qt]; exact uu, ay, pF⟩
     case measure => simp [intOf]; omega
    ·gi_wp2
     refine bpr (results_none rfl _ _ _) rfl ?_
     exact ⟨⟨_, rfl⟩, .inr ⟨_, ⟨k + 1, by omega, qt.symm⟩, kC⟩⟩
   ·have hy : l[k + 1]? = none := List.getElem?_eq_none (by omega)
    simp only [hy] at lL
    obtain ⟨fn, tmps, assign, body, LC, hR⟩ := lL
    clear eM hx hy hf aU hY oO
    gi_wp2
    refine hR.mono ?_
    rintro e W3 (⟨rfl, uu, lG⟩ | ⟨rfl, kC⟩)
    ·have Bk := lG.2 _ _ _ (.inr rfl) hH
     have g1 : W3.cell? (ad wr.heap.size 1) = some (iv x.offset) := by simp [World.cell?, Bk]
     have ay := iK.trans lG.1
     have pF := lG.2 _ _ _ (.inl rfl) pG
     gi_wp2
     go_roundw
     case rel => exact ⟨k + 1, by omega, by go_num, by rw [HX.out], by rw [qt]; exact uu, ay, pF⟩
     case measure => simp [intOf]; omega
    ·gi_wp2
     refine bpr (results_none rfl _ _ _) rfl ?_
     exact ⟨⟨_, rfl⟩, .inr ⟨_, ⟨k + 1, by omega, qt.symm⟩, kC⟩⟩
  ·obtain rfl : k = l.length := by omega
   gi_wp2
   go_end0
   exact ⟨⟨_, rfl⟩, .inl ⟨_, rfl, uw⟩⟩
theorem jm7 (F : Fence) (n : Nat) (h : F.fn 282) (fL : F.round = none) (hn : 1 <= n) (Bs n₀ b o cap : Nat) (l : List TurnD) (hT : Js l) (hb : b < n₀) (w : World) (GJ : n₀ <= w.heap.size)
  (hc : w.heap[Bs]? = some (.cells #[.slice (some (ad b o)) l.length cap] 183 (0, 0))) (hA : Za w (some (ad b o)) 4 (l.map TurnD.cs)) :
  SeqStopsK F n Tryz.prog 282 #[.pointer (some (ad Bs 0))] (fun x : StrK => #[x.1.v]) (KpS n₀) (fun ys => ys = jat l l.length) (fun aZ => ∃ k, k <= l.length /\ aZ = jat l k) l.length w := fun q J Jx W hW Bp _ hY h0 =>
 j10 F n h fL hn q Bs n₀ b o cap l hT hb J Jx W Bp (Nat.le_trans GJ hW.size) hY ((hW.block Bs (Array.getElem?_eq_some_iff.1 hc).1).trans hc) (hA.below hW) h0
end
section
open Go.RowKit Go.Shelf
attribute [local go_sem] Oper.semAt_some
def shownB (n : Int) (s : StrK) : Bool := decide (s.1.first <= n - s.1.own) && decide (n - s.1.own <= s.1.last)
def jar (n : Int) (l : List StrK) : List Int := (l.filter (shownB n)).map fun s => n - s.1.own
theorem shownL_hit {n : Int} {l : List StrK} {s : StrK} (h1 : s.1.first <= n - s.1.own) (h2 : n - s.1.own <= s.1.last) : jar n (l ++ [s]) = jar n l ++ [n - s.1.own] := by simp [jar, shownB, h1, h2]
theorem shownL_miss1 {n : Int} {l : List StrK} {s : StrK} (h1 : ¬ s.1.first <= n - s.1.own) : jar n (l ++ [s]) = jar n l := by
 unfold jar
 rw [List.filter_append, show [s].filter (shownB n) = [] by simp [shownB, h1], List.append_nil]
theorem shownL_miss2 {n : Int} {l : List StrK} {s : StrK} (h2 : ¬ n - s.1.own <= s.1.last) : jar n (l ++ [s]) = jar n l := by
 unfold jar
 rw [List.filter_append, show [s].filter (shownB n) = [] by simp [shownB, h2], List.append_nil]
theorem jib (n : Int) (l : List StrK) : (jar n l).length <= l.length := by unfold jar; rw [llm]; exact List.length_filter_le _ _
def jdq (l : List TurnD) (n : Int) : List Int := jar n (jat l l.length)
theorem j1e : (Tryz.prog.info? 2).map (fun i => (i.zero, i.size, i.bytes)) = some (some (iv 0), 1, 8) := by kernel_rfl
theorem Zw.appended {W w1 : World} {n₀ B : Nat} {v v' : Value} {k : Nat} {xs : List Value} {tmp : Obj} (ap : W.ownsRow n₀ 2 1 v k xs) (dC : Boxed w1 B 217 v) (af : (W.alloc tmp).grownBy w1 v.ownBlock) : Zw W (w1.setCell (ad B 0) v') := by
 refine Zw.trans ?_ (Zw.set dC (by decide) (by decide) 0 v')
 intro i t cs ht hi
 have hlt := (Array.getElem?_eq_some_iff.1 hi).1
 refine (af.block i (by simp; omega) ?_).trans ((Below.heap_alloc W tmp i hlt).trans hi)
 rcases ap.2 with ⟨rfl, _⟩ | ⟨g, cap, cur, rfl, _, oG, _⟩
 ·simp [Value.ownBlock]
 ·intro e
  have e : i = g := by simpa [Value.ownBlock] using e
  subst e
  rw [oG] at hi
  cases hi
  rcases ht with h | h <;> exact absurd h (by decide)
theorem js5 (F : Fence) (n : Nat) (K3 : F.fn 216) (u9 : F.fn 254) (Ft : F.fn 282) (fL : F.round = none) (hn : 3 <= n) (l : List TurnD) (v : Value) (m : Int) (hT : Js l) (m1 : -62135596800 <= m) (m2 : m <= 253402300799) (w : World) (hv : Zz w v l) :
  CallsIn F n Tryz.prog 216 #[v, iv m] w fun e W' => ∃ v', e = .returned v' /\ W'.ownsRow w.heap.size 2 1 v' (jdq l m).length ((jdq l m).map (Value.int .i64)) /\ Bw w W' := by
 have h1 : 1 <= n := by omega
 have au := hT.len
 obtain ⟨i0, hi, aH, aI, aG⟩ := info_parts j1e
 obtain ⟨a, cap, rfl, hA⟩ := hv
 obtain ⟨f, hf⟩ : ∃ x, l[0]? = some x := ⟨_, lgg (by omega)⟩
 obtain ⟨b, o, rfl, hd⟩ := hA.at (i := 0) (r := f.cs) (by rw [lgm, hf]; rfl)
 have mB : b < w.heap.size := qbl (hd 0 _ rfl)
 clear hd hf
 refine callsIn_of_wp_marks Tryz.func216 rfl K3 ?_ fL
 simp only [Tryz.ntmps216, List.size_toArray, List.length_cons, List.length_nil, Nat.reduceAdd, Nat.reduceSub, Array.replicate_succ, Array.replicate_zero, List.push_toArray, List.append_toArray, List.nil_append, List.cons_append]
 gi_wp2_with (gi_at_call 254; refine (jgj F (n - 1) u9 fL _ _ _ _).mono ?_; rintro e w' ⟨rfl, rfl⟩)
 obtain ⟨wA, df⟩ := qeb (((w.alloc (.cells #[.slice (some (ad b o)) l.length cap] 183)).alloc (.cells #[iv m] 2)))
 have jB : wA.heap.size = w.heap.size + 1 + 1 := by rw [<- df]; simp
 have f9 : Bw w wA := by rw [<- df]; exact (qal w _).alloc (by simp) _
 have cM : wA.cell? (ad (w.heap.size + 1) 0) = some (iv m) := by rw [<- df]; simp [go_sem]
 have bO := Boxed.new wA 217 nS
 have bN := Boxed.new (wA.alloc (.cells #[nS] 217)) 183 (.slice (some (ad b o)) l.length cap)
 rw [World.size_alloc, jB] at bN
 rw [jB] at bO
 have ag : Below (w.heap.size + 1 + 1) wA ((wA.alloc (.cells #[nS] 217)).alloc (.cells #[.slice (some (ad b o)) l.length cap] 183)) := ((brf _ wA).alloc (by omega) _).alloc (by simp; omega) _
 have eM := hA.below (f9.trans (ag.mono (by omega)))
 rw [df]
 refine wpIn_rangeFunc_ownH fL h1 (gf := 282) (lb := #[.pointer (some (ad (w.heap.size + 1 + 1 + 1) 0))]) rfl Ft (enters_of Tryz.func282 (by kernel_rfl) rfl)
  (jm7 F (n - 1) Ft fL (by omega) (w.heap.size + 1 + 1 + 1) (w.heap.size + 1 + 1) b o cap l hT (by omega) _ (by simp; omega) bN eM) j33 (j34 (by simp; omega)) (brf _ _) (fun _ => rfl)
  (fun aZ W => (∃ v, Boxed W (w.heap.size + 1 + 1) 217 v /\ W.ownsRow (w.heap.size + 1 + 1) 2 1 v (jar m aZ).length ((jar m aZ).map (Value.int .i64)) /\ True) /\ Below (w.heap.size + 1 + 1) wA W)
  (fun _ _ _ => False)
  (OwnFrom.and (Own.from (holdsRow_own (w.heap.size + 1 + 1) (w.heap.size + 1 + 1) 217 2 1 (fun aZ => (jar m aZ).length) (fun aZ => (jar m aZ).map (Value.int .i64)) (fun _ _ => True)) _) (ownFrom_below (by omega) (by simp; omega)))
  (fun _ _ _ _ _ hs _ _ => hs)
  ⟨⟨_, bO.alloc _, World.ownsRow_nil _ _ _ _, trivial⟩, ag⟩
  (fun x a' W => ∃ Bx, W.heap[Bx]? = some (.cells #[iv x.1.first, iv x.1.last, iv x.1.ahead, iv x.1.own] 309 (0, 0)) /\ a' = { tmps := #[.agg #[.slice (some (ad b o)) l.length cap], iv m, .pointer (some (ad w.heap.size 0)), .pointer (some (ad (w.heap.size + 1) 0)), nS, .pointer (some (ad (w.heap.size + 1 + 1) 0)), .pointer (some (ad Bx 0)), undef, .agg #[.slice (some (ad b o)) l.length cap], .func (.func 282) #[] #[.pointer (some (ad (w.heap.size + 1 + 1 + 1) 0))], x.1.v, undef, undef, undef, undef, undef, undef, undef, undef, undef, undef, undef, undef, undef, undef, undef, undef, undef, undef, undef], defers := [] })
  (fun x a' _ X Y row hs hg hr => by
   obtain ⟨Bx, k1, k2⟩ := hs
   refine ⟨Bx, (hg.block Bx (Array.getElem?_eq_some_iff.1 k1).1 (fun e => ?_)).trans k1, k2⟩
   obtain ⟨_, oo, ho, hc⟩ := hr Bx e.symm
   rw [k1] at ho
   cases ho
   cases hc)
  ?assign ?body ?done ?stop
 case assign =>
  rintro q aZ ⟨⟨x0, x1, x2, x3⟩, hx⟩ W K ⟨⟨v, hv, ap, _⟩, hB⟩ hK
  simp only [StrD.v] at *
  gi_wp2
  exact hK _ _ ((KeepsOthers.alloc _ _).from _) ⟨(brf _ W).alloc (by have := hB.size; omega) _, Zw.alloc _ _⟩ ⟨⟨v, hv.alloc _, ap.alloc _, trivial⟩, hB.alloc (by have := hB.size; omega) _⟩ ⟨W.heap.size, World.alloc_heap_new W _, rfl⟩
 case body =>
  rintro q aZ ⟨⟨x0, x1, x2, x3⟩, hx⟩ a' W hq ⟨r, hr⟩ ⟨⟨v, hv, ap, _⟩, hB⟩ ⟨Bx, ck, rfl⟩ hlt
  have sH := @shownL_hit m aZ ⟨⟨x0, x1, x2, x3⟩, hx⟩
  have yn := @shownL_miss1 m aZ ⟨⟨x0, x1, x2, x3⟩, hx⟩
  have yo := @shownL_miss2 m aZ ⟨⟨x0, x1, x2, x3⟩, hx⟩
  have j8 := jib m aZ
  have hc := hv.cell
  have dB := hB.size
  have J0 : W.cell? (ad (w.heap.size + 1) 0) = some (iv m) := (hB.cell (p := (ad (w.heap.size + 1) 0)) (show w.heap.size + 1 < w.heap.size + 1 + 1 by omega)).trans cM
  have e0 : W.cell? (ad Bx 0) = some (iv x0) := by simp [World.cell?, ck]
  have e1 : W.cell? (ad Bx 1) = some (iv x1) := by simp [World.cell?, ck]
  have e3 : W.cell? (ad Bx 3) = some (iv x3) := by simp [World.cell?, ck]
  obtain ⟨j1, j2⟩ : -100000 <= x3 /\ x3 <= 100000 := by
   have ft := hx
   unfold StrD.ok at ft
   simp only [bat] at ft
   exact jaw ft.2.2.2
  simp only [StrD.v] at *
  clear ck hq hr
  by_cases g1 : x0 <= m - x3
  ·by_cases g2 : m - x3 <= x1
   ·have ht := sH g1 g2
    clear sH yn yo
    gi_wp2_with (gi_at_builtin; refine wpListIn_append_own _ rfl _ _ 217 rfl (w.heap.size + 1 + 1) 2 i0 (iv 0) 1 8 Tryz.underlying217 hi aH aI aG rfl (by decide) _ _ _ rfl (ap.alloc _) (ad W.heap.size 0) 1 1 [iv (m - x3)] rfl rfl (cell_one_new _ _ _) (by simp [Value.oneCell']) (by unfold maxLen; omega) (by omega) (by simp; omega) ?_; intro v' w1 ar af _; obtain ⟨g', fO, rfl⟩ := ownsRow_succ ar; obtain ⟨dC, eu, dA, eU, ac⟩ := hv.appended (by decide) ap (by omega) (nlr _) ar af; have sP := Zw.appended (v' := so g' ((jar m aZ).length + 1) fO) ap dC af; have aY := dC.cell; have cZ := dC.frozen)
    exact ⟨eU.from _, ⟨ac, sP⟩, ⟨_, eu, by rw [ht]; simpa using dA, trivial⟩, hB.trans ac⟩
   ·have ht := yo g2
    clear sH yn yo
    gi_wp2
    exact ⟨KeepsFrom.refl _ _, ⟨brf _ _, Zw.refl _⟩, ⟨v, hv, by rw [ht]; exact ap⟩, hB⟩
  ·have ht := yn g1
   clear sH yn yo
   gi_wp2
   exact ⟨KeepsFrom.refl _ _, ⟨brf _ _, Zw.refl _⟩, ⟨v, hv, by rw [ht]; exact ap⟩, hB⟩
 case done =>
  rintro D ys W hD rfl ⟨⟨v, hv, ap, _⟩, hB⟩ hK
  have hc := hv.cell
  gi_wp2
  refine ⟨by simp, .inl ⟨_, _, rfl, run_takeDeferred hK, ?_⟩⟩
  refine ⟨_, results_tmp rfl _ _ _, v, rfl, ?_, (f9.trans (hB.mono (by omega))).trans (belowK_b (w := w) (nlr _) W D _ _ (by simp at hD; omega) hK rfl rfl)⟩
  have hr := ownsRow_putObj ap (.deferred none) hK rfl
  refine ⟨hr.1, ?_⟩
  rcases hr.2 with h | ⟨g, cap, cur, e1, e2, e3⟩
  ·exact .inl h
  ·exact .inr ⟨g, cap, cur, e1, by omega, e3⟩
 case stop =>
  rintro D c aZ W _ _ h _
  exact h.elim
theorem jol (l : List TurnD) (v : Value) (m : Int) (hT : Js l) (m1 : -62135596800 <= m) (m2 : m <= 253402300799) (w : World) (hv : Zz w v l) :
  Cl 216 #[v, iv m] w fun e W' => ∃ v', e = .returned v' /\ W'.ownsRow w.heap.size 2 1 v' (jdq l m).length ((jdq l m).map (Value.int .i64)) /\ Bw w W' :=
 (callsIn_wide (n := 3)).1 (js5 Fence.wide 3 trivial trivial trivial rfl (by omega) l v m hT m1 m2 w hv)
end
end Go.Proofs.YtgiieknbckhofaaGreatDoor
