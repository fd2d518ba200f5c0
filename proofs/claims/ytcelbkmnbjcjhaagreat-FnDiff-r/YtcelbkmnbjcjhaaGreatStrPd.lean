/- Packed: Str1 Str2 Str3 Str4 Str5 Str6 Str7 WlMath. -/
import Derived.Test.YtcelbkmnbjcjhaaGreatTabPd
import Derived.RangeFuncNested
import Derived.RangeFuncBound
import Derived.RangeFuncCalls
import Derived.RangeFuncLeaves
import Derived.RangeFuncBox
import Derived.Shelf.Abstract
import Derived.Shelf.RegionOpen
import Derived.WalkKit
import Derived.OwnWalkIn
import Derived.TacticsInMore
import Derived.LoopNIn
import Derived.LoopIn
import Derived.Maps.AppendAt
import Derived.WalkMore
namespace Go.Proofs.YtcelbkmnbjcjhaaGreat
open Go.RowKit Go.Shelf
attribute [local go_sem] Oper.semAt_some

/-- a stretch: its first instant and its last one, the offset ahead of it, its own. -/
structure StrD where
 first : Int
 last : Int
 ahead : Int
 own : Int
def StrD.v (s : StrD) : Value := .agg #[.int .i64 s.first, .int .i64 s.last, .int .i64 s.ahead, .int .i64 s.own]
def StrD.ok (s : StrD) : Bool := isB s.first (-62135596800) 253402300799 && (isB s.last (-62135596801) 253402300799 && (isB s.ahead (-100000) 100000 && isB s.own (-100000) 100000))
abbrev StrK := { s : StrD // s.ok = true }
def strAt (l : List TurnD) (k : Nat) : StrD := ⟨(l[k]?.getD zeroT).at_, (match l[k + 1]? with | some t => t.at_ - 1 | none => 253402300799), (l[k - 1]?.getD zeroT).offset, (l[k]?.getD zeroT).offset⟩
def strK (l : List TurnD) (k : Nat) : StrK := if h : (strAt l k).ok = true then ⟨strAt l k, h⟩ else ⟨⟨0, 0, 0, 0⟩, by decide⟩
theorem off_of {l : List TurnD} (hT : TabR l) {x : TurnD} (hx : x ∈ l) : isB x.offset (-100000) 100000 = true := by
 have := hT.one x hx
 unfold turnB at this
 rw [Bool.and_eq_true] at this
 exact this.1
theorem at_low {l : List TurnD} (hT : TabR l) {k : Nat} {x : TurnD} (hx : l[k]? = some x) : -62135596800 ≤ x.at_ := by
 have hl := hT.len
 obtain ⟨f, hf⟩ : ∃ r, l[0]? = some r := ⟨_, List.getElem?_eq_getElem (by omega)⟩
 have := upT_le2 hT.up (Nat.zero_le k) hf hx
 rw [hT.first f hf] at this
 exact this
theorem strAt_ok {l : List TurnD} (hT : TabR l) {k : Nat} (hk : k < l.length) : (strAt l k).ok = true := by
 obtain ⟨x, hx⟩ : ∃ x, l[k]? = some x := ⟨_, List.getElem?_eq_getElem hk⟩
 obtain ⟨p, hp⟩ : ∃ x, l[k - 1]? = some x := ⟨_, List.getElem?_eq_getElem (by omega)⟩
 have h1 := off_of hT (List.mem_of_getElem? hx)
 have h2 := off_of hT (List.mem_of_getElem? hp)
 have h3 := hT.top k x hx
 have h4 := at_low hT hx
 unfold StrD.ok strAt
 rw [hx, hp]
 simp only [Option.getD_some, h1, h2, Bool.and_true]
 rw [isB_t h4 h3, Bool.true_and]
 cases hy : l[k + 1]? with
 | none => exact isB_t (by show (-62135596801 : Int) ≤ 253402300799; omega) (by show (253402300799 : Int) ≤ 253402300799; omega)
 | some y => exact isB_t (by have := at_low hT hy; simp only; omega) (by have := hT.top _ y hy; simp only; omega)
theorem strK_val {l : List TurnD} (hT : TabR l) {k : Nat} (hk : k < l.length) : (strK l k).1 = strAt l k := by
 unfold strK
 rw [dif_pos (strAt_ok hT hk)]
/-- what has come when k rounds are over. -/
def uptoS (l : List TurnD) (k : Nat) : List StrK := (List.range k).map (strK l)
theorem uptoS_succ (l : List TurnD) (k : Nat) : uptoS l (k + 1) = uptoS l k ++ [strK l k] := by simp [uptoS, List.range_succ]
theorem uptoS_length (l : List TurnD) (k : Nat) : (uptoS l k).length = k := by simp [uptoS]
/-- what a round keeps: what lay below, and each block of a table or a turn. -/
def TKeep (W W' : World) : Prop := ∀ (k : Nat) (t : TypeId) (cs : Array Value), (t = 25 ∨ t = 38) → W.heap[k]? = some (.cells cs t (0, 0)) → W'.heap[k]? = some (.cells cs t (0, 0))
def KpS (n₀ : Nat) (W W' : World) : Prop := Below n₀ W W' ∧ TKeep W W'
theorem KpS_t {n₀ : Nat} {A B C : World} (h : KpS n₀ A B) (k : KpS n₀ B C) : KpS n₀ A C := ⟨h.1.trans k.1, fun i t cs ht hi => k.2 i t cs ht (h.2 i t cs ht hi)⟩
theorem KpS_b {n₀ : Nat} {w : World} (hn : n₀ ≤ w.heap.size) (W : World) (l : Nat) (o o' : Obj) (hl : w.heap.size ≤ l) (h : W.heap[l]? = some o) (hc : o.isCells = false) (hw : o.isWalk = false) : KpS n₀ W (W.putObj l o') :=
 ⟨belowK_b hn W l o o' hl h hc hw, fun k t cs _ hk => by
  refine (World.putObj_heap_other fun e => ?_).trans hk
  subst e
  rw [h] at hk
  cases hk
  cases hc⟩
theorem TKeep.refl (W : World) : TKeep W W := fun _ _ _ _ h => h
theorem TKeep.alloc (W : World) (o : Obj) : TKeep W (W.alloc o) := fun k _ _ _ h => (Below.heap_alloc W o k (Array.getElem?_eq_some_iff.1 h).1).trans h
theorem TKeep.trans {A B C : World} (h : TKeep A B) (k : TKeep B C) : TKeep A C := fun i t cs ht hi => k i t cs ht (h i t cs ht hi)
theorem TKeep.set {W : World} {b : Nat} {cs0 : Array Value} {t0 : TypeId} (hb : W.heap[b]? = some (.cells cs0 t0 (0, 0))) (h1 : t0 ≠ 25) (h2 : t0 ≠ 38) (i : Nat) (v : Value) : TKeep W (W.setCell ⟨b, i, none⟩ v) := fun k t cs ht hk => by
 refine (Below.heap_setCell W ⟨b, i, none⟩ v k fun e => ?_).trans hk
 have e : k = b := by first | exact e | exact e.symm
 subst e
 rw [hb] at hk
 cases hk
 rcases ht with h | h
 ·
  exact h1 h
 ·
  exact h2 h
set_option maxHeartbeats 1000000 in
theorem stretches_in (F : Fence) (n : Nat) (h : F.fn 56) (hro : F.round = none) (a : Option Addr) (len cap : Nat) (w : World) :
  CallsIn F n Tryz.prog 56 #[.agg #[.slice a len cap]] w fun e w' => e = .returned (.func (.func 66) #[] #[.pointer (some ⟨w.heap.size, 0, none⟩)]) ∧ w' = w.alloc (.cells #[.slice a len cap] 25) := by
 refine callsIn_of_wp Tryz.func56 rfl h ?_ hro
 simp only [Tryz.ntmps56, List.size_toArray, List.length_cons, List.length_nil, Nat.reduceAdd, Nat.reduceSub, Array.replicate_succ, Array.replicate_zero, List.push_toArray, List.append_toArray, List.nil_append, List.cons_append]
 gi_wp2
 go_ret
 exact ⟨rfl, rfl⟩
end Go.Proofs.YtcelbkmnbjcjhaaGreat
namespace Go.Proofs.YtcelbkmnbjcjhaaGreat
open Go.RowKit Go.Shelf
attribute [local go_sem] Oper.semAt_some

theorem abides_alloc {β : Type} {B : Nat} {J : β → World → Prop} (h : AbidesFrom B J) {s : β} {W : World} (hs : J s W) (o : Obj) : J s (W.alloc o) :=
 h s W _ none hs (World.grownBy_alloc W o none) (fun r e => by cases e)
set_option maxRecDepth 100000 in
set_option maxHeartbeats 4000000 in
/-- for every loop's body that keeps what lay below, and the blocks of tables and turns. -/
theorem str1_in (F : Fence) (n : Nat) (h : F.fn 66) (hro : F.round = none) (hn : 1 ≤ n) (q Bs n₀ b o cap : Nat) (l : List TurnD) (hT : TabR l) (hb : b < n₀) (J Jx : List StrK → World → Prop) (W : World) (hJa : AbidesFrom W.heap.size J) (hn₀ : n₀ ≤ W.heap.size)
  (hY : ∀ pre x W, J pre W → pre.length < l.length → YieldAt F (n - 1) Tryz.prog q #[x.1.v] W fun e W' =>
   (e = .returned (.bool true) ∧ J (pre ++ [x]) W' ∧ KpS n₀ W W') ∨ (e = .returned (.bool false) ∧ Jx (pre ++ [x]) W'))
  (hBs : W.heap[Bs]? = some (.cells #[.slice (some ⟨b, o, none⟩) l.length cap] 25 (0, 0))) (hA : SeqAt W (some ⟨b, o, none⟩) 4 (l.map TurnD.cs)) (h0 : J [] W) :
  CallsIn F n Tryz.prog 66 #[.func (.yield q) #[] #[], .pointer (some ⟨Bs, 0, none⟩)] W fun e W' => (∃ v, e = .returned v) ∧
   ((∃ ys, ys = uptoS l l.length ∧ J ys W') ∨ (∃ pre, (∃ k, k ≤ l.length ∧ pre = uptoS l k) ∧ Jx pre W')) := by
 have hlen := hT.len
 obtain ⟨f, hf⟩ : ∃ x, l[0]? = some x := ⟨_, List.getElem?_eq_getElem (by omega)⟩
 have cs0 : ∀ (wr : World), wr.heap[Bs]? = some (.cells #[.slice (some ⟨b, o, none⟩) l.length cap] 25 (0, 0)) → wr.cell? ⟨Bs, 0, none⟩ = some (.slice (some ⟨b, o, none⟩) l.length cap) := fun wr h => by simp [World.cell?, h]
 have hcells : ∀ (wr : World), Below n₀ W wr → ∀ (k : Nat) (x : TurnD), l[k]? = some x → wr.cell? ⟨b, o + k * 4, none⟩ = some (.int .i64 x.at_) ∧ wr.cell? ⟨b, o + k * 4 + 1, none⟩ = some (.int .i64 x.offset) ∧ wr.cell? ⟨b, o + k * 4 + 2, none⟩ = some (.int .i64 x.save) ∧ wr.cell? ⟨b, o + k * 4 + 3, none⟩ = some (.string x.abbr) := fun wr hB k x hx => by
  obtain ⟨b', o', he, hc⟩ := hA.at (i := k) (r := x.cs) (by rw [List.getElem?_map, hx]; rfl)
  injection he with he
  injection he with u1 u2
  subst u1 u2
  exact ⟨(hB.cell (p := ⟨b, _, none⟩) hb).trans (hc 0 _ rfl), (hB.cell (p := ⟨b, _, none⟩) hb).trans (hc 1 _ rfl), (hB.cell (p := ⟨b, _, none⟩) hb).trans (hc 2 _ rfl), (hB.cell (p := ⟨b, _, none⟩) hb).trans (hc 3 _ rfl)⟩
 have hf1 : W.cell? ⟨b, o + 1, none⟩ = some (.int .i64 f.offset) := by simpa using (hcells W (Below.refl _ _) 0 f hf).2.1
 have cB := cs0 W hBs
 refine callsIn_of_wp Tryz.func66 rfl h ?_ hro
 simp only [Tryz.ntmps66, List.size_toArray, List.length_cons, List.length_nil, Nat.reduceAdd, Nat.reduceSub, Array.replicate_succ, Array.replicate_zero, List.push_toArray, List.append_toArray, List.nil_append, List.cons_append]
 gi_wp2
 clear hf1 cB
 gi_loopw [3, 15] (fun s3 s15 wr => ∃ k : Nat, k ≤ l.length ∧ s15 = .int .i64 k ∧ s3 = .int .i64 (l[k - 1]?.getD zeroT).offset ∧ J (uptoS l k) wr ∧ Below n₀ W wr ∧ wr.heap[Bs]? = some (.cells #[.slice (some ⟨b, o, none⟩) l.length cap] 25 (0, 0)))
  (fun _ s15 _ => l.length - (intOf s15).toNat)
 case atStart => exact ⟨0, Nat.zero_le _, rfl, by rw [hf]; rfl, h0, Below.refl _ _, hBs⟩
 case round =>
  obtain ⟨k, hk, rfl, rfl, hJs, hB, hBr⟩ := hrel
  have cB := cs0 wr hBr
  by_cases hlt : k < l.length
  ·
   obtain ⟨x, hx⟩ : ∃ x, l[k]? = some x := ⟨_, List.getElem?_eq_getElem hlt⟩
   obtain ⟨c0, c1, c2, c3⟩ := hcells wr hB k x hx
   have hnw := hB.size
   have hsz : n₀ ≤ wr.heap.size := by omega
   have hsv := strK_val hT hlt
   have hbk := uptoS_succ l k
   have hJ' := abides_alloc hJa hJs (.cells #[.int .i64 x.at_, .int .i64 x.offset, .int .i64 x.save, .string x.abbr] 38)
   have hyy := hY _ (strK l k) _ hJ' (by rw [uptoS_length]; exact hlt)
   rw [hsv] at hyy
   unfold strAt StrD.v at hyy
   simp only [hx, Option.getD_some] at hyy
   have hH : (wr.alloc (.cells #[.int .i64 x.at_, .int .i64 x.offset, .int .i64 x.save, .string x.abbr] 38)).heap[wr.heap.size]? = some (.cells #[.int .i64 x.at_, .int .i64 x.offset, .int .i64 x.save, .string x.abbr] 38 (0, 0)) := World.alloc_heap_new wr _
   have hBa : Below n₀ W (wr.alloc (.cells #[.int .i64 x.at_, .int .i64 x.offset, .int .i64 x.save, .string x.abbr] 38)) := hB.alloc hsz _
   have hBra := TKeep.alloc wr (.cells #[.int .i64 x.at_, .int .i64 x.offset, .int .i64 x.save, .string x.abbr] 38) Bs 25 _ (.inl rfl) hBr
   have cBa := cs0 _ hBra
   generalize hA0 : (l[k - 1]?.getD zeroT).offset = ah at *
   have HX : Hid ((l[k + 1 - 1]?.getD zeroT).offset = x.offset) := by simp only [Hid]; rw [Nat.add_sub_cancel, hx]; rfl
   by_cases hlt2 : k + 1 < l.length
   ·
    obtain ⟨y, hy⟩ : ∃ y, l[k + 1]? = some y := ⟨_, List.getElem?_eq_getElem hlt2⟩
    have d0 := (hcells _ hBa (k + 1) y hy).1
    have y1 := hT.top _ y hy
    have y2 := at_low hT hy
    simp only [hy] at hyy
    obtain ⟨fn, tmps, assign, body, hy1, hR⟩ := hyy
    clear hA0 hx hy hf hcells hY hsv
    gi_wp2
    refine hR.mono ?_
    rintro e W3 (⟨rfl, hJ3, hk3⟩ | ⟨rfl, hJx3⟩)
    ·
     have hH3 := hk3.2 _ _ _ (.inr rfl) hH
     have g1 : W3.cell? ⟨wr.heap.size, 1, none⟩ = some (.int .i64 x.offset) := by simp [World.cell?, hH3]
     have hB3 := hBa.trans hk3.1
     have hBr3 := hk3.2 _ _ _ (.inl rfl) hBra
     gi_wp2
     go_roundw
     case rel => exact ⟨k + 1, by omega, by go_num, by rw [HX.out], by rw [hbk]; exact hJ3, hB3, hBr3⟩
     case measure => simp [intOf]; omega
    ·
     gi_wp2
     refine bodyPost_ret (results_none rfl _ _ _) rfl ?_
     exact ⟨⟨_, rfl⟩, .inr ⟨_, ⟨k + 1, by omega, hbk.symm⟩, hJx3⟩⟩
   ·
    have hy : l[k + 1]? = none := List.getElem?_eq_none (by omega)
    simp only [hy] at hyy
    obtain ⟨fn, tmps, assign, body, hy1, hR⟩ := hyy
    clear hA0 hx hy hf hcells hY hsv
    gi_wp2
    refine hR.mono ?_
    rintro e W3 (⟨rfl, hJ3, hk3⟩ | ⟨rfl, hJx3⟩)
    ·
     have hH3 := hk3.2 _ _ _ (.inr rfl) hH
     have g1 : W3.cell? ⟨wr.heap.size, 1, none⟩ = some (.int .i64 x.offset) := by simp [World.cell?, hH3]
     have hB3 := hBa.trans hk3.1
     have hBr3 := hk3.2 _ _ _ (.inl rfl) hBra
     gi_wp2
     go_roundw
     case rel => exact ⟨k + 1, by omega, by go_num, by rw [HX.out], by rw [hbk]; exact hJ3, hB3, hBr3⟩
     case measure => simp [intOf]; omega
    ·
     gi_wp2
     refine bodyPost_ret (results_none rfl _ _ _) rfl ?_
     exact ⟨⟨_, rfl⟩, .inr ⟨_, ⟨k + 1, by omega, hbk.symm⟩, hJx3⟩⟩
  ·
   obtain rfl : k = l.length := by omega
   gi_wp2
   go_end0
   exact ⟨⟨_, rfl⟩, .inl ⟨_, rfl, hJs⟩⟩
theorem str_stops (F : Fence) (n : Nat) (h : F.fn 66) (hro : F.round = none) (hn : 1 ≤ n) (Bs n₀ b o cap : Nat) (l : List TurnD) (hT : TabR l) (hb : b < n₀) (w : World) (hn₀ : n₀ ≤ w.heap.size)
  (hc : w.heap[Bs]? = some (.cells #[.slice (some ⟨b, o, none⟩) l.length cap] 25 (0, 0))) (hA : SeqAt w (some ⟨b, o, none⟩) 4 (l.map TurnD.cs)) :
  SeqStopsK F n Tryz.prog 66 #[.pointer (some ⟨Bs, 0, none⟩)] (fun x : StrK => #[x.1.v]) (KpS n₀) (fun ys => ys = uptoS l l.length) (fun pre => ∃ k, k ≤ l.length ∧ pre = uptoS l k) l.length w := fun q J Jx W hW hJa _ hY h0 =>
 str1_in F n h hro hn q Bs n₀ b o cap l hT hb J Jx W hJa (Nat.le_trans hn₀ hW.size) hY ((hW.block Bs (Array.getElem?_eq_some_iff.1 hc).1).trans hc) (hA.below hW) h0
end Go.Proofs.YtcelbkmnbjcjhaaGreat
namespace Go.Proofs.YtcelbkmnbjcjhaaGreat
open Go.RowKit Go.Shelf
attribute [local go_sem] Oper.semAt_some

/-- the instant of a stretch that shows a wall time, if there is one. -/
def shownB (n : Int) (s : StrK) : Bool := decide (s.1.first ≤ n - s.1.own) && decide (n - s.1.own ≤ s.1.last)
def shownL (n : Int) (l : List StrK) : List Int := (l.filter (shownB n)).map fun s => n - s.1.own
theorem shownL_hit {n : Int} {l : List StrK} {s : StrK} (h1 : s.1.first ≤ n - s.1.own) (h2 : n - s.1.own ≤ s.1.last) : shownL n (l ++ [s]) = shownL n l ++ [n - s.1.own] := by simp [shownL, shownB, h1, h2]
theorem shownL_miss1 {n : Int} {l : List StrK} {s : StrK} (h1 : ¬ s.1.first ≤ n - s.1.own) : shownL n (l ++ [s]) = shownL n l := by
 unfold shownL
 rw [List.filter_append, show [s].filter (shownB n) = [] by simp [shownB, h1], List.append_nil]
theorem shownL_miss2 {n : Int} {l : List StrK} {s : StrK} (h2 : ¬ n - s.1.own ≤ s.1.last) : shownL n (l ++ [s]) = shownL n l := by
 unfold shownL
 rw [List.filter_append, show [s].filter (shownB n) = [] by simp [shownB, h2], List.append_nil]
theorem shownL_le (n : Int) (l : List StrK) : (shownL n l).length ≤ l.length := by unfold shownL; rw [List.length_map]; exact List.length_filter_le _ _
def instL (l : List TurnD) (n : Int) : List Int := shownL n (uptoS l l.length)
theorem info64 : (Tryz.prog.info? 2).map (fun i => (i.zero, i.size, i.bytes)) = some (some (.int .i64 0), 1, 8) := by kernel_rfl
theorem TKeep.appended {W w1 : World} {n₀ B : Nat} {v v' : Value} {k : Nat} {xs : List Value} {tmp : Obj} (hrow : W.ownsRow n₀ 2 1 v k xs) (hv1 : Boxed w1 B 72 v) (hgrow : (W.alloc tmp).grownBy w1 v.ownBlock) : TKeep W (w1.setCell ⟨B, 0, none⟩ v') := by
 refine TKeep.trans ?_ (TKeep.set hv1 (by decide) (by decide) 0 v')
 intro i t cs ht hi
 have hlt := (Array.getElem?_eq_some_iff.1 hi).1
 refine (hgrow.block i (by simp; omega) ?_).trans ((Below.heap_alloc W tmp i hlt).trans hi)
 rcases hrow.2 with ⟨rfl, _⟩ | ⟨g, cap, cur, rfl, _, hgb, _⟩
 ·
  simp [Value.ownBlock]
 ·
  intro e
  have e : i = g := by simpa [Value.ownBlock] using e
  subst e
  rw [hgb] at hi
  cases hi
  rcases ht with h | h <;> exact absurd h (by decide)
set_option maxRecDepth 100000 in
set_option maxHeartbeats 4000000 in
theorem shownAt_in (F : Fence) (n : Nat) (h45 : F.fn 45) (h67 : F.fn 56) (h79 : F.fn 66) (hro : F.round = none) (hn : 3 ≤ n) (l : List TurnD) (v : Value) (m : Int) (hT : TabR l) (m1 : -62135596800 ≤ m) (m2 : m ≤ 253402300799) (w : World) (hv : TabAt w v l) :
  CallsIn F n Tryz.prog 45 #[v, .int .i64 m] w fun e W' => ∃ v', e = .returned v' ∧ W'.ownsRow w.heap.size 2 1 v' (instL l m).length ((instL l m).map (Value.int .i64)) ∧ Below w.heap.size w W' := by
 have h1 : 1 ≤ n := by omega
 have hlen := hT.len
 obtain ⟨i0, hi, hz0, hz1, hz2⟩ := info_parts info64
 obtain ⟨a, cap, rfl, hA⟩ := hv
 obtain ⟨f, hf⟩ : ∃ x, l[0]? = some x := ⟨_, List.getElem?_eq_getElem (by omega)⟩
 obtain ⟨b, o, rfl, hd⟩ := hA.at (i := 0) (r := f.cs) (by rw [List.getElem?_map, hf]; rfl)
 have hbl : b < w.heap.size := World.block_lt_of_cell? _ _ (hd 0 _ rfl)
 clear hd hf
 refine callsIn_of_wp_marks Tryz.func45 rfl h45 ?_ hro
 simp only [Tryz.ntmps45, List.size_toArray, List.length_cons, List.length_nil, Nat.reduceAdd, Nat.reduceSub, Array.replicate_succ, Array.replicate_zero, List.push_toArray, List.append_toArray, List.nil_append, List.cons_append]
 gi_wp2_with (gi_at_call 56; refine (stretches_in F (n - 1) h67 hro _ _ _ _).mono ?_; rintro e w' ⟨rfl, rfl⟩)
 obtain ⟨wA, hwA⟩ : ∃ wA, ((w.alloc (.cells #[.slice (some ⟨b, o, none⟩) l.length cap] 25)).alloc (.cells #[.int .i64 m] 2)) = wA := ⟨_, rfl⟩
 have hsA : wA.heap.size = w.heap.size + 1 + 1 := by rw [← hwA]; simp
 have hBA : Below w.heap.size w wA := by rw [← hwA]; exact ((Below.refl _ w).alloc (Nat.le_refl _) _).alloc (by simp) _
 have cM : wA.cell? ⟨w.heap.size + 1, 0, none⟩ = some (.int .i64 m) := by rw [← hwA]; simp [go_sem]
 have bO := Boxed.new wA 72 (.slice none 0 0)
 have bN := Boxed.new (wA.alloc (.cells #[.slice none 0 0] 72)) 25 (.slice (some ⟨b, o, none⟩) l.length cap)
 rw [World.size_alloc, hsA] at bN
 rw [hsA] at bO
 have hB0 : Below (w.heap.size + 1 + 1) wA ((wA.alloc (.cells #[.slice none 0 0] 72)).alloc (.cells #[.slice (some ⟨b, o, none⟩) l.length cap] 25)) := ((Below.refl _ wA).alloc (by omega) _).alloc (by simp; omega) _
 have hA0 := hA.below (hBA.trans (hB0.mono (by omega)))
 rw [hwA]
 refine wpIn_rangeFunc_ownH hro h1 (gf := 66) (lb := #[.pointer (some ⟨w.heap.size + 1 + 1 + 1, 0, none⟩)]) rfl h79 (enters_of Tryz.func66 (by kernel_rfl) rfl)
  (str_stops F (n - 1) h79 hro (by omega) (w.heap.size + 1 + 1 + 1) (w.heap.size + 1 + 1) b o cap l hT (by omega) _ (by simp; omega) bN hA0) KpS_t (KpS_b (by simp; omega)) (Below.refl _ _) (fun _ => rfl)
  (fun pre W => (∃ v, Boxed W (w.heap.size + 1 + 1) 72 v ∧ W.ownsRow (w.heap.size + 1 + 1) 2 1 v (shownL m pre).length ((shownL m pre).map (Value.int .i64)) ∧ True) ∧ Below (w.heap.size + 1 + 1) wA W)
  (fun _ _ _ => False)
  (OwnFrom.and (Own.from (holdsRow_own (w.heap.size + 1 + 1) (w.heap.size + 1 + 1) 72 2 1 (fun pre => (shownL m pre).length) (fun pre => (shownL m pre).map (Value.int .i64)) (fun _ _ => True)) _) (ownFrom_below (by omega) (by simp; omega)))
  (fun _ _ _ _ _ hs _ _ => hs)
  ⟨⟨_, bO.alloc _, World.ownsRow_nil _ _ _ _, trivial⟩, hB0⟩
  (fun x a' W => ∃ Bx, W.heap[Bx]? = some (.cells #[.int .i64 x.1.first, .int .i64 x.1.last, .int .i64 x.1.ahead, .int .i64 x.1.own] 101 (0, 0)) ∧ a' = { tmps := #[.agg #[.slice (some ⟨b, o, none⟩) l.length cap], .int .i64 m, .pointer (some ⟨w.heap.size, 0, none⟩), .pointer (some ⟨w.heap.size + 1, 0, none⟩), .slice none 0 0, .pointer (some ⟨w.heap.size + 1 + 1, 0, none⟩), .pointer (some ⟨Bx, 0, none⟩), undef, .agg #[.slice (some ⟨b, o, none⟩) l.length cap], .func (.func 66) #[] #[.pointer (some ⟨w.heap.size + 1 + 1 + 1, 0, none⟩)], x.1.v, undef, undef, undef, undef, undef, undef, undef, undef, undef, undef, undef, undef, undef, undef, undef, undef, undef, undef, undef], defers := [] })
  (fun x a' _ X Y row hs hg hr => by
   obtain ⟨Bx, k1, k2⟩ := hs
   refine ⟨Bx, (hg.block Bx (Array.getElem?_eq_some_iff.1 k1).1 (fun e => ?_)).trans k1, k2⟩
   obtain ⟨_, oo, ho, hc⟩ := hr Bx e.symm
   rw [k1] at ho
   cases ho
   cases hc)
  ?assign ?body ?done ?stop
 case assign =>
  rintro q pre ⟨⟨x0, x1, x2, x3⟩, hx⟩ W K ⟨⟨v, hv, hrow, _⟩, hB⟩ hK
  simp only [StrD.v] at *
  gi_wp2
  exact hK _ _ ((KeepsOthers.alloc _ _).from _) ⟨(Below.refl _ W).alloc (by have := hB.size; omega) _, TKeep.alloc _ _⟩ ⟨⟨v, hv.alloc _, hrow.alloc _, trivial⟩, hB.alloc (by have := hB.size; omega) _⟩ ⟨W.heap.size, World.alloc_heap_new W _, rfl⟩
 case body =>
  rintro q pre ⟨⟨x0, x1, x2, x3⟩, hx⟩ a' W hq ⟨r, hr⟩ ⟨⟨v, hv, hrow, _⟩, hB⟩ ⟨Bx, hBx, rfl⟩ hlt
  have hit := @shownL_hit m pre ⟨⟨x0, x1, x2, x3⟩, hx⟩
  have ms1 := @shownL_miss1 m pre ⟨⟨x0, x1, x2, x3⟩, hx⟩
  have ms2 := @shownL_miss2 m pre ⟨⟨x0, x1, x2, x3⟩, hx⟩
  have hsl := shownL_le m pre
  have hc := hv.cell
  have hsW := hB.size
  have cM1 : W.cell? ⟨w.heap.size + 1, 0, none⟩ = some (.int .i64 m) := (hB.cell (p := ⟨w.heap.size + 1, 0, none⟩) (show w.heap.size + 1 < w.heap.size + 1 + 1 by omega)).trans cM
  have e0 : W.cell? ⟨Bx, 0, none⟩ = some (.int .i64 x0) := by simp [World.cell?, hBx]
  have e1 : W.cell? ⟨Bx, 1, none⟩ = some (.int .i64 x1) := by simp [World.cell?, hBx]
  have e3 : W.cell? ⟨Bx, 3, none⟩ = some (.int .i64 x3) := by simp [World.cell?, hBx]
  obtain ⟨j1, j2⟩ : -100000 ≤ x3 ∧ x3 ≤ 100000 := by
   have hx' := hx
   unfold StrD.ok at hx'
   simp only [Bool.and_eq_true] at hx'
   exact isB_of_t hx'.2.2.2
  simp only [StrD.v] at *
  clear hBx hq hr
  by_cases g1 : x0 ≤ m - x3
  ·
   by_cases g2 : m - x3 ≤ x1
   ·
    have ht := hit g1 g2
    clear hit ms1 ms2
    gi_wp2_with (gi_at_builtin; refine wpListIn_append_own _ rfl _ _ 72 rfl (w.heap.size + 1 + 1) 2 i0 (.int .i64 0) 1 8 Tryz.underlying72 hi hz0 hz1 hz2 rfl (by decide) _ _ _ rfl (hrow.alloc _) ⟨W.heap.size, 0, none⟩ 1 1 [.int .i64 (m - x3)] rfl rfl (cell_one_new _ _ _) (by simp [Value.oneCell']) (by unfold maxLen; omega) (by omega) (by simp; omega) ?_; intro v' w1 hown' hgrow _; obtain ⟨g', cap', rfl⟩ := ownsRow_succ hown'; obtain ⟨hv1, hv2, hr2, hk2, hb2⟩ := hv.appended (by decide) hrow (by omega) (Nat.le_refl _) hown' hgrow; have htk := TKeep.appended (v' := .slice (some ⟨g', 0, none⟩) ((shownL m pre).length + 1) cap') hrow hv1 hgrow; have hc1 := hv1.cell; have hf1 := hv1.frozen)
    exact ⟨hk2.from _, ⟨hb2, htk⟩, ⟨_, hv2, by rw [ht]; simpa using hr2, trivial⟩, hB.trans hb2⟩
   ·
    have ht := ms2 g2
    clear hit ms1 ms2
    gi_wp2
    exact ⟨KeepsFrom.refl _ _, ⟨Below.refl _ _, TKeep.refl _⟩, ⟨v, hv, by rw [ht]; exact hrow⟩, hB⟩
  ·
   have ht := ms1 g1
   clear hit ms1 ms2
   gi_wp2
   exact ⟨KeepsFrom.refl _ _, ⟨Below.refl _ _, TKeep.refl _⟩, ⟨v, hv, by rw [ht]; exact hrow⟩, hB⟩
 case done =>
  rintro D ys W hD rfl ⟨⟨v, hv, hrow, _⟩, hB⟩ hK
  have hc := hv.cell
  gi_wp2
  refine ⟨by simp, .inl ⟨_, _, rfl, run_takeDeferred hK, ?_⟩⟩
  refine ⟨_, results_tmp rfl _ _ _, v, rfl, ?_, (hBA.trans (hB.mono (by omega))).trans (belowK_b (w := w) (Nat.le_refl _) W D _ _ (by simp at hD; omega) hK rfl rfl)⟩
  have hr := ownsRow_putObj hrow (.deferred none) hK rfl
  refine ⟨hr.1, ?_⟩
  rcases hr.2 with h | ⟨g, cap, cur, e1, e2, e3⟩
  ·
   exact .inl h
  ·
   exact .inr ⟨g, cap, cur, e1, by omega, e3⟩
 case stop =>
  rintro D c pre W _ _ h _
  exact h.elim
theorem impl_shownAt (l : List TurnD) (v : Value) (m : Int) (hT : TabR l) (m1 : -62135596800 ≤ m) (m2 : m ≤ 253402300799) (w : World) (hv : TabAt w v l) :
  Calls Tryz.prog 45 #[v, .int .i64 m] w fun e W' => ∃ v', e = .returned v' ∧ W'.ownsRow w.heap.size 2 1 v' (instL l m).length ((instL l m).map (Value.int .i64)) ∧ Below w.heap.size w W' :=
 (callsIn_wide (n := 3)).1 (shownAt_in Fence.wide 3 trivial trivial trivial rfl (by omega) l v m hT m1 m2 w hv)
end Go.Proofs.YtcelbkmnbjcjhaaGreat
namespace Go.Proofs.YtcelbkmnbjcjhaaGreat
open Go.RowKit Go.Shelf
attribute [local go_sem] Oper.semAt_some

/-- does a clock leap over a wall time where a stretch begins? -/
def gapB (n : Int) (s : StrK) : Bool := decide (s.1.first + s.1.ahead ≤ n) && decide (n < s.1.first + s.1.own)
theorem gapB_t {n : Int} {s : StrK} (h1 : s.1.first + s.1.ahead ≤ n) (h2 : n < s.1.first + s.1.own) : gapB n s = true := by simp [gapB, h1, h2]
theorem gapB_f1 {n : Int} {s : StrK} (h1 : ¬ s.1.first + s.1.ahead ≤ n) : gapB n s = false := by simp [gapB, h1]
theorem gapB_f2 {n : Int} {s : StrK} (h2 : ¬ n < s.1.first + s.1.own) : gapB n s = false := by simp [gapB, h2]
def gapD (l : List TurnD) (n : Int) : Option StrK := (uptoS l l.length).find? (gapB n)
def gapS : Option StrK → StrD
 | some s => s.1
 | none => ⟨0, 0, 0, 0⟩
theorem uptoS_more (l : List TurnD) (k : Nat) : ∀ d, ∃ bs, uptoS l (k + d) = uptoS l k ++ bs := by
 intro d
 induction d with
 | zero => exact ⟨[], by simp⟩
 | succ d ih =>
  obtain ⟨bs, h⟩ := ih
  exact ⟨bs ++ [strK l (k + d)], by rw [← Nat.add_assoc, uptoS_succ, h, List.append_assoc]⟩
theorem mem_uptoS {l : List TurnD} {k : Nat} {s : StrK} (h : s ∈ uptoS l k) : ∃ j, j < k ∧ s = strK l j := by
 unfold uptoS at h
 rw [List.mem_map] at h
 obtain ⟨j, hj, rfl⟩ := h
 exact ⟨j, List.mem_range.mp hj, rfl⟩
theorem gapD_some {l : List TurnD} {n : Int} {k : Nat} (hk : k < l.length) (h0 : ∀ t ∈ uptoS l k, gapB n t = false) (h1 : gapB n (strK l k) = true) : gapD l n = some (strK l k) := by
 unfold gapD
 rw [List.find?_eq_some_iff_append]
 obtain ⟨bs, hb⟩ := uptoS_more l (k + 1) (l.length - (k + 1))
 rw [show k + 1 + (l.length - (k + 1)) = l.length by omega, uptoS_succ, List.append_assoc] at hb
 exact ⟨h1, uptoS l k, bs, hb, fun a ha => by rw [h0 a ha]; rfl⟩
theorem gapD_none {l : List TurnD} {n : Int} (h0 : ∀ t ∈ uptoS l l.length, gapB n t = false) : gapD l n = none := by
 unfold gapD
 rw [List.find?_eq_none]
 intro x hx
 rw [h0 x hx]
 simp
theorem strAt_first {l : List TurnD} {k : Nat} {x : TurnD} (h : l[k]? = some x) : (strAt l k).first = x.at_ := by unfold strAt; rw [h]; rfl
theorem gapD_cut {l : List TurnD} (hT : TabR l) {n : Int} {k : Nat} (hk : k < l.length) (h0 : ∀ t ∈ uptoS l k, gapB n t = false) (h1 : n < (strK l k).1.first - 100000) : gapD l n = none := by
 refine gapD_none fun t ht => ?_
 obtain ⟨j, hj, rfl⟩ := mem_uptoS ht
 by_cases hjk : j < k
 ·
  exact h0 _ (by unfold uptoS; rw [List.mem_map]; exact ⟨j, List.mem_range.mpr hjk, rfl⟩)
 ·
  have ok := (strK l j).2
  unfold StrD.ok at ok
  simp only [Bool.and_eq_true] at ok
  have ha := isB_of_t ok.2.2.1
  refine gapB_f1 ?_
  obtain ⟨x, hx⟩ : ∃ x, l[k]? = some x := ⟨_, List.getElem?_eq_getElem hk⟩
  obtain ⟨y, hy⟩ : ∃ x, l[j]? = some x := ⟨_, List.getElem?_eq_getElem hj⟩
  have hu := upT_le2 hT.up (show k ≤ j by omega) hx hy
  rw [strK_val hT hk, strAt_first hx] at h1
  rw [strK_val hT hj] at ha ⊢
  rw [strAt_first hy]
  omega
/-- a stretch lies in a block. -/
structure StrIn (W : World) (B : Nat) (s : StrD) : Prop where
 c0 : W.cell? ⟨B, 0, none⟩ = some (.int .i64 s.first)
 c1 : W.cell? ⟨B, 1, none⟩ = some (.int .i64 s.last)
 c2 : W.cell? ⟨B, 2, none⟩ = some (.int .i64 s.ahead)
 c3 : W.cell? ⟨B, 3, none⟩ = some (.int .i64 s.own)
theorem StrIn.kept {W W' : World} {B : Nat} {s : StrD} {row : Option Nat} (h : StrIn W B s) (hg : W.grownBy W' row) (hr : ∀ r, row = some r → ∃ o : Obj, W.heap[r]? = some o ∧ o.isCells = false) : StrIn W' B s :=
 ⟨cell_kept h.c0 hg hr, cell_kept h.c1 hg hr, cell_kept h.c2 hg hr, cell_kept h.c3 hg hr⟩
theorem strIn_of {W : World} {B : Nat} {x0 x1 x2 x3 : Int} (h : W.heap[B]? = some (.cells #[.int .i64 x0, .int .i64 x1, .int .i64 x2, .int .i64 x3] 101 (0, 0))) : StrIn W B ⟨x0, x1, x2, x3⟩ ∧ ∀ i, W.frozen? ⟨B, i, none⟩ = false :=
 ⟨⟨by simp [World.cell?, h], by simp [World.cell?, h], by simp [World.cell?, h], by simp [World.cell?, h]⟩, fun i => by simp [World.frozen?, h]⟩
theorem heap_kept {W W' : World} {row : Option Nat} {B : Nat} {cs : Array Value} {t : TypeId} (h : W.heap[B]? = some (.cells cs t (0, 0))) (hg : W.grownBy W' row) (hr : ∀ r, row = some r → ∃ o : Obj, W.heap[r]? = some o ∧ o.isCells = false) : W'.heap[B]? = some (.cells cs t (0, 0)) := by
 refine (hg.block B (Array.getElem?_eq_some_iff.1 h).1 (fun e => ?_)).trans h
 obtain ⟨o, ho, hc⟩ := hr B e.symm
 rw [h] at ho
 cases ho
 cases hc
theorem set_str {W : World} {B : Nat} {x y : StrD} (h : StrIn W B x) : StrIn ((((W.setCell ⟨B, 0, none⟩ (.int .i64 y.first)).setCell ⟨B, 1, none⟩ (.int .i64 y.last)).setCell ⟨B, 2, none⟩ (.int .i64 y.ahead)).setCell ⟨B, 3, none⟩ (.int .i64 y.own)) B y := by
 obtain ⟨s0, s1, s2, s3⟩ := set_four (v0 := .int .i64 y.first) (v1 := .int .i64 y.last) (v2 := .int .i64 y.ahead) (v3 := .int .i64 y.own) h.c0 h.c1 h.c2 h.c3
 exact ⟨s0, s1, s2, s3⟩
theorem keeps_four (W : World) (B : Nat) (v0 v1 v2 v3 : Value) : KeepsOthers W ((((W.setCell ⟨B, 0, none⟩ v0).setCell ⟨B, 1, none⟩ v1).setCell ⟨B, 2, none⟩ v2).setCell ⟨B, 3, none⟩ v3) :=
 (((KeepsOthers.setCell W _ v0).trans (KeepsOthers.setCell _ _ v1)).trans (KeepsOthers.setCell _ _ v2)).trans (KeepsOthers.setCell _ _ v3)
theorem below_four {n₀ : Nat} {A W : World} (h : Below n₀ A W) (B : Nat) (hB : n₀ ≤ B) (v0 v1 v2 v3 : Value) : Below n₀ A ((((W.setCell ⟨B, 0, none⟩ v0).setCell ⟨B, 1, none⟩ v1).setCell ⟨B, 2, none⟩ v2).setCell ⟨B, 3, none⟩ v3) :=
 (((h.setCell (p := ⟨B, 0, none⟩) hB v0).setCell (p := ⟨B, 1, none⟩) hB v1).setCell (p := ⟨B, 2, none⟩) hB v2).setCell (p := ⟨B, 3, none⟩) hB v3
/-- the end of the search: what was found is handed back. -/
def gapTail (w wA : World) (s : StrD) (t : Bool) (W : World) : Prop := StrIn W (w.heap.size + 1 + 1 + 1) s ∧ W.cell? ⟨w.heap.size + 1 + 1 + 1 + 1, 0, none⟩ = some (.bool t) ∧ Below (w.heap.size + 1 + 1 + 1) wA W
theorem gapTail_own (w wA : World) (s : StrD) (t : Bool) (hs : wA.heap.size = w.heap.size + 1 + 1 + 1) (B : Nat) (hB : w.heap.size + 1 + 1 + 1 ≤ B) {β : Type} : OwnFrom B (fun (_ : β) W => gapTail w wA s t W) := fun x X Y row hx hg hr =>
 ⟨hx.1.kept hg (fun r e => (hr r e).2), cell_kept hx.2.1 hg (fun r e => (hr r e).2), ownFrom_below (β := β) (by omega) hB x X Y row hx.2.2 hg hr⟩
def noGap (m : Int) (pre : List StrK) : Prop := ∀ t ∈ pre, gapB m t = false
theorem noGap_snoc {m : Int} {pre : List StrK} {s : StrK} (h : noGap m pre) (hs : gapB m s = false) : noGap m (pre ++ [s]) := fun t ht => (List.mem_append.1 ht).elim (h t) (fun e => by rw [List.mem_singleton] at e; subst e; exact hs)
/-- how the search is left. -/
def gapOut (m : Int) (w wA : World) (pre : List StrK) (W : World) : Prop := ∃ ini s, pre = ini ++ [s] ∧ noGap m ini ∧ ((m < s.1.first - 100000 ∧ gapTail w wA ⟨0, 0, 0, 0⟩ false W) ∨ (gapB m s = true ∧ gapTail w wA s.1 true W))
theorem gapOut_1 {m : Int} {w wA W : World} {pre : List StrK} {s : StrK} (h : noGap m pre) (h1 : m < s.1.first - 100000) (h2 : gapTail w wA ⟨0, 0, 0, 0⟩ false W) : gapOut m w wA (pre ++ [s]) W := ⟨pre, s, rfl, h, .inl ⟨h1, h2⟩⟩
theorem gapOut_2 {m : Int} {w wA W : World} {pre : List StrK} {s : StrK} (h : noGap m pre) (h1 : gapB m s = true) (h2 : gapTail w wA s.1 true W) : gapOut m w wA (pre ++ [s]) W := ⟨pre, s, rfl, h, .inr ⟨h1, h2⟩⟩
set_option maxRecDepth 100000 in
set_option maxHeartbeats 4000000 in
theorem impl_gapOf (l : List TurnD) (v : Value) (m : Int) (hT : TabR l) (m1 : -62135596800 ≤ m) (m2 : m ≤ 253402300799) (w : World) (hv : TabAt w v l) :
  Calls Tryz.prog 57 #[v, .int .i64 m] w fun e W' => e = .returned (.tuple #[(gapS (gapD l m)).v, .bool (gapD l m).isSome]) ∧ Below w.heap.size w W' := by
 refine (callsIn_wide (n := 3)).1 ?_
 have h1 : 1 ≤ 3 := by omega
 have hlen := hT.len
 obtain ⟨a, cap, rfl, hA⟩ := hv
 obtain ⟨f, hf⟩ : ∃ x, l[0]? = some x := ⟨_, List.getElem?_eq_getElem (by omega)⟩
 obtain ⟨b, o, rfl, hd⟩ := hA.at (i := 0) (r := f.cs) (by rw [List.getElem?_map, hf]; rfl)
 have hbl : b < w.heap.size := World.block_lt_of_cell? _ _ (hd 0 _ rfl)
 clear hd hf
 have HS := fun k (hk : k < l.length) (h0 : ∀ t ∈ uptoS l k, gapB m t = false) (h1 : gapB m (strK l k) = true) => gapD_some hk h0 h1
 have HN := fun (h0 : ∀ t ∈ uptoS l l.length, gapB m t = false) => gapD_none h0
 have HC := fun k (hk : k < l.length) (h0 : ∀ t ∈ uptoS l k, gapB m t = false) (h1 : m < (strK l k).1.first - 100000) => gapD_cut hT hk h0 h1
 generalize gapD l m = G at *
 refine callsIn_of_wp_marks Tryz.func57 rfl trivial ?_ rfl
 simp only [Tryz.ntmps57, List.size_toArray, List.length_cons, List.length_nil, Nat.reduceAdd, Nat.reduceSub, Array.replicate_succ, Array.replicate_zero, List.push_toArray, List.append_toArray, List.nil_append, List.cons_append]
 gi_wp2
 refine wpIn_wide.2 (wp_scope_straight ((wpIn_wide (n := 3)).1 ?_))
 gi_wp2
 apply wpIn_label
 gi_wp2_with (refine ⟨trivial, ?_⟩; gi_at_call 56; refine (stretches_in Fence.wide 2 trivial rfl _ _ _ _).mono ?_; rintro e w' ⟨rfl, rfl⟩)
 obtain ⟨wA, hwA⟩ : ∃ wA, (((w.alloc (.cells #[.slice (some ⟨b, o, none⟩) l.length cap] 25)).alloc (.cells #[.int .i64 m] 2)).alloc (.cells #[.int .i64 0, .int .i64 0, .int .i64 0, .int .i64 0] 101)) = wA := ⟨_, rfl⟩
 have hsA : wA.heap.size = w.heap.size + 1 + 1 + 1 := by rw [← hwA]; simp
 have hBA : Below w.heap.size w wA := by rw [← hwA]; exact (((Below.refl _ w).alloc (Nat.le_refl _) _).alloc (by simp) _).alloc (by simp; omega) _
 have cM : wA.cell? ⟨w.heap.size + 1, 0, none⟩ = some (.int .i64 m) := by rw [← hwA]; simp [go_sem]
 have hR : wA.heap[w.heap.size + 1 + 1]? = some (.cells #[.int .i64 0, .int .i64 0, .int .i64 0, .int .i64 0] 101 (0, 0)) := by
  rw [← hwA]
  have := World.alloc_heap_new ((w.alloc (.cells #[.slice (some ⟨b, o, none⟩) l.length cap] 25)).alloc (.cells #[.int .i64 m] 2)) (.cells #[.int .i64 0, .int .i64 0, .int .i64 0, .int .i64 0] 101)
  rw [World.size_alloc, World.size_alloc] at this
  exact this
 rw [hwA]
 obtain ⟨wF, hwF⟩ : ∃ wF, wA.alloc (.cells #[.int .i64 0, .int .i64 0, .int .i64 0, .int .i64 0] 101) = wF := ⟨_, rfl⟩
 have hF : wF.heap[w.heap.size + 1 + 1 + 1]? = some (.cells #[.int .i64 0, .int .i64 0, .int .i64 0, .int .i64 0] 101 (0, 0)) := by
  rw [← hwF]
  have := World.alloc_heap_new wA (.cells #[.int .i64 0, .int .i64 0, .int .i64 0, .int .i64 0] 101)
  rw [hsA] at this
  exact this
 have hsF : wF.heap.size = w.heap.size + 1 + 1 + 1 + 1 := by rw [← hwF]; simp; omega
 have hBF : Below (w.heap.size + 1 + 1 + 1) wA wF := by rw [← hwF]; exact (Below.refl _ wA).alloc (by omega) _
 rw [hwF]
 have bH := Boxed.new wF 4 (.bool false)
 have bN := Boxed.new (wF.alloc (.cells #[.bool false] 4)) 25 (.slice (some ⟨b, o, none⟩) l.length cap)
 rw [World.size_alloc, hsF] at bN
 rw [hsF] at bH
 have hB0 : Below (w.heap.size + 1 + 1 + 1) wA ((wF.alloc (.cells #[.bool false] 4)).alloc (.cells #[.slice (some ⟨b, o, none⟩) l.length cap] 25)) := (hBF.alloc (by omega) _).alloc (by simp; omega) _
 have hF0 : ((wF.alloc (.cells #[.bool false] 4)).alloc (.cells #[.slice (some ⟨b, o, none⟩) l.length cap] 25)).heap[w.heap.size + 1 + 1 + 1]? = some (.cells #[.int .i64 0, .int .i64 0, .int .i64 0, .int .i64 0] 101 (0, 0)) :=
  (Below.heap_alloc _ _ _ (by simp; omega)).trans ((Below.heap_alloc _ _ _ (by omega)).trans hF)
 have hA0 := hA.below (hBA.trans (hB0.mono (by omega)))
 refine wpIn_rangeFunc_ownH rfl h1 (gf := 66) (lb := #[.pointer (some ⟨w.heap.size + 1 + 1 + 1 + 1 + 1, 0, none⟩)]) rfl trivial (enters_of Tryz.func66 (by kernel_rfl) rfl)
  (str_stops Fence.wide 2 trivial rfl (by omega) (w.heap.size + 1 + 1 + 1 + 1 + 1) (w.heap.size + 1 + 1 + 1) b o cap l hT (by omega) _ (by simp; omega) bN hA0) KpS_t (KpS_b (by simp; omega)) (Below.refl _ _) (fun _ => rfl)
  (fun pre W => W.heap[w.heap.size + 1 + 1 + 1]? = some (.cells #[.int .i64 0, .int .i64 0, .int .i64 0, .int .i64 0] 101 (0, 0)) ∧ Boxed W (w.heap.size + 1 + 1 + 1 + 1) 4 (.bool false) ∧ Below (w.heap.size + 1 + 1 + 1) wA W ∧ noGap m pre)
  (fun c pre W => c = .exit 0 ∧ gapOut m w wA pre W)
  (fun s X Y row hs hg hr => ⟨heap_kept hs.1 hg (fun r e => (hr r e).2), boxed_own _ _ (fun (_ : Unit) => .bool false) () X Y row hs.2.1 hg (fun r e => (hr r e).2), ownFrom_below (β := Unit) (by omega) (by simp; omega) () X Y row hs.2.2.1 hg hr, hs.2.2.2⟩)
  (fun c s X Y row hs hg hr => by
   obtain ⟨hc, ini, t, e1, e2, e3⟩ := hs
   refine ⟨hc, ini, t, e1, e2, ?_⟩
   rcases e3 with ⟨e3, e4⟩ | ⟨e3, e4⟩
   ·
    exact .inl ⟨e3, gapTail_own w wA _ _ hsA _ (by simp; omega) (β := Unit) () X Y row e4 hg hr⟩
   ·
    exact .inr ⟨e3, gapTail_own w wA _ _ hsA _ (by simp; omega) (β := Unit) () X Y row e4 hg hr⟩)
  ⟨hF0, bH.alloc _, hB0, fun t ht => by simp at ht⟩
  (fun x a' W => ∃ Bx, W.heap[Bx]? = some (.cells #[.int .i64 x.1.first, .int .i64 x.1.last, .int .i64 x.1.ahead, .int .i64 x.1.own] 101 (0, 0)) ∧ w.heap.size + 1 + 1 + 1 + 1 < Bx ∧ a' = { tmps := #[.agg #[.slice (some ⟨b, o, none⟩) l.length cap], .int .i64 m, .pointer (some ⟨w.heap.size, 0, none⟩), .pointer (some ⟨w.heap.size + 1, 0, none⟩), .pointer (some ⟨w.heap.size + 1 + 1, 0, none⟩), .bool false, .pointer (some ⟨w.heap.size + 1 + 1 + 1, 0, none⟩), .pointer (some ⟨w.heap.size + 1 + 1 + 1 + 1, 0, none⟩), .pointer (some ⟨Bx, 0, none⟩), .agg #[.slice (some ⟨b, o, none⟩) l.length cap], .func (.func 66) #[] #[.pointer (some ⟨w.heap.size + 1 + 1 + 1 + 1 + 1, 0, none⟩)], x.1.v, undef, undef, undef, undef, undef, undef, undef, undef, undef, undef, undef, undef, undef, undef, undef, undef, undef, undef, undef, undef, undef, undef, undef, undef, undef, undef], defers := [] })
  (fun x a' _ X Y row hs hg hr => by
   obtain ⟨Bx, k1, k2, k3⟩ := hs
   exact ⟨Bx, heap_kept k1 hg (fun r e => (hr r e).2), k2, k3⟩)
  ?assign ?body ?done ?stop
 case assign =>
  rintro q pre ⟨⟨x0, x1, x2, x3⟩, hx⟩ W K ⟨hH, hv, hB, hp⟩ hK
  simp only [StrD.v] at *
  have hlt := hv.lt
  gi_wp2
  exact hK _ _ ((KeepsOthers.alloc _ _).from _) ⟨(Below.refl _ W).alloc (by have := hB.size; omega) _, TKeep.alloc _ _⟩ ⟨(Below.heap_alloc _ _ _ (by omega)).trans hH, hv.alloc _, hB.alloc (by have := hB.size; omega) _, hp⟩ ⟨W.heap.size, World.alloc_heap_new W _, by omega, rfl⟩
 case body =>
  rintro q pre ⟨⟨x0, x1, x2, x3⟩, hx⟩ a' W hq ⟨r, hr⟩ ⟨hH, hv, hB, hp⟩ ⟨Bx, hBx, hbx, rfl⟩ hlt
  have gt := @gapB_t m ⟨⟨x0, x1, x2, x3⟩, hx⟩
  have gf1 := @gapB_f1 m ⟨⟨x0, x1, x2, x3⟩, hx⟩
  have gf2 := @gapB_f2 m ⟨⟨x0, x1, x2, x3⟩, hx⟩
  have hc := hv.cell
  have hcf := hv.frozen
  have hsW := hB.size
  have cM1 : W.cell? ⟨w.heap.size + 1, 0, none⟩ = some (.int .i64 m) := (hB.cell (p := ⟨w.heap.size + 1, 0, none⟩) (show w.heap.size + 1 < w.heap.size + 1 + 1 + 1 by omega)).trans cM
  obtain ⟨⟨e0, e1, e2, e3⟩, _⟩ := strIn_of hBx
  obtain ⟨hFI, hFf⟩ := strIn_of hH
  obtain ⟨f0, f1, f2, f3⟩ := hFI
  have ff0 := hFf 0
  have ff1 := hFf 1
  have ff2 := hFf 2
  have ff3 := hFf 3
  obtain ⟨i1, i2, i3, i4⟩ : (-62135596800 ≤ x0 ∧ x0 ≤ 253402300799) ∧ (-62135596801 ≤ x1 ∧ x1 ≤ 253402300799) ∧ (-100000 ≤ x2 ∧ x2 ≤ 100000) ∧ (-100000 ≤ x3 ∧ x3 ≤ 100000) := by
   have hx' := hx
   unfold StrD.ok at hx'
   simp only [Bool.and_eq_true] at hx'
   exact ⟨isB_of_t hx'.1, isB_of_t hx'.2.1, isB_of_t hx'.2.2.1, isB_of_t hx'.2.2.2⟩
  obtain ⟨i11, i12⟩ := i1
  obtain ⟨i31, i32⟩ := i3
  obtain ⟨i41, i42⟩ := i4
  simp only [StrD.v] at *
  have hK4 := keeps_four W (w.heap.size + 1 + 1 + 1) (.int .i64 x0) (.int .i64 x1) (.int .i64 x2) (.int .i64 x3)
  have hB4 := below_four hB (w.heap.size + 1 + 1 + 1) (by omega) (.int .i64 x0) (.int .i64 x1) (.int .i64 x2) (.int .i64 x3)
  obtain ⟨s0, s1, s2, s3⟩ := set_str (x := ⟨0, 0, 0, 0⟩) (y := ⟨x0, x1, x2, x3⟩) ⟨f0, f1, f2, f3⟩
  simp only at s0 s1 s2 s3
  have hne : w.heap.size + 1 + 1 + 1 + 1 ≠ w.heap.size + 1 + 1 + 1 := by omega
  clear hq hr hFf
  by_cases g0 : m < x0 - 100000
  ·
   clear gt gf1 gf2 hK4 hB4 s0 s1 s2 s3
   gi_wp2
   exact ⟨KeepsFrom.refl _ _, rfl, gapOut_1 (s := ⟨⟨x0, x1, x2, x3⟩, hx⟩) hp g0 ⟨⟨f0, f1, f2, f3⟩, hc, hB⟩⟩
  ·
   by_cases g1 : x0 + x2 ≤ m
   ·
    by_cases g2 : m < x0 + x3
    ·
     have ht := gt g1 g2
     clear gt gf1 gf2
     gi_wp2
     refine ⟨(hK4.trans (KeepsOthers.setCell _ _ _)).from _, rfl, gapOut_2 hp ht ⟨⟨?_, ?_, ?_, ?_⟩, ?_, hB4.setCell (p := ⟨w.heap.size + 1 + 1 + 1 + 1, 0, none⟩) (show w.heap.size + 1 + 1 + 1 ≤ w.heap.size + 1 + 1 + 1 + 1 by omega) _⟩⟩
     ·
      rw [World.cell?_setCell_other _ _ _ _ (ne_blk2T (by omega))]; exact s0
     ·
      rw [World.cell?_setCell_other _ _ _ _ (ne_blk2T (by omega))]; exact s1
     ·
      rw [World.cell?_setCell_other _ _ _ _ (ne_blk2T (by omega))]; exact s2
     ·
      rw [World.cell?_setCell_other _ _ _ _ (ne_blk2T (by omega))]; exact s3
     ·
      refine World.cell?_setCell_same _ _ _ (u := .bool false) ?_
      rw [World.cell?_setCell_other _ _ _ _ (ne_blk2T (by omega)), World.cell?_setCell_other _ _ _ _ (ne_blk2T (by omega)), World.cell?_setCell_other _ _ _ _ (ne_blk2T (by omega)), World.cell?_setCell_other _ _ _ _ (ne_blk2T (by omega))]
      exact hc
    ·
     have ht := gf2 g2
     clear gt gf1 gf2 hK4 hB4 s0 s1 s2 s3
     gi_wp2
     exact ⟨KeepsFrom.refl _ _, ⟨Below.refl _ _, TKeep.refl _⟩, hH, hv, hB, noGap_snoc hp ht⟩
   ·
    have ht := gf1 g1
    clear gt gf1 gf2 hK4 hB4 s0 s1 s2 s3
    gi_wp2
    exact ⟨KeepsFrom.refl _ _, ⟨Below.refl _ _, TKeep.refl _⟩, hH, hv, hB, noGap_snoc hp ht⟩
 case done =>
  rintro D ys W hD rfl ⟨hH, hv, hB, hp⟩ hK
  obtain rfl := HN hp
  obtain ⟨⟨f0, f1, f2, f3⟩, _⟩ := strIn_of hH
  have hc := hv.cell
  clear HS HN HC
  have hRW := (hB.block (w.heap.size + 1 + 1) (by omega)).trans hR
  obtain ⟨⟨r0, r1, r2, r3⟩, hRf⟩ := strIn_of hRW
  have rf0 := hRf 0
  have rf1 := hRf 1
  have rf2 := hRf 2
  have rf3 := hRf 3
  have hK4 := keeps_four W (w.heap.size + 1 + 1) (.int .i64 0) (.int .i64 0) (.int .i64 0) (.int .i64 0)
  have hB4 := below_four (hBA.trans (hB.mono (by omega))) (w.heap.size + 1 + 1) (by omega) (.int .i64 0) (.int .i64 0) (.int .i64 0) (.int .i64 0)
  obtain ⟨s0, s1, s2, s3⟩ := set_str (x := ⟨0, 0, 0, 0⟩) (y := ⟨0, 0, 0, 0⟩) ⟨r0, r1, r2, r3⟩
  have hn1 : w.heap.size + 1 + 1 + 1 ≠ w.heap.size + 1 + 1 := by omega
  have hn2 : w.heap.size + 1 + 1 + 1 + 1 ≠ w.heap.size + 1 + 1 := by omega
  clear hRf hwA hwF
  simp only at r0 r1 r2 r3 s0 s1 s2 s3 f0 f1 f2 f3
  gi_wp2
  refine wpIn_wide.2 ?_
  go_region
  gi_wp2
  have hK' := (hK4.trans (KeepsOthers.drew _)).same D _ hK rfl
  obtain ⟨WD, hWD⟩ : ∃ WD, (((((W.setCell ⟨w.heap.size + 1 + 1, 0, none⟩ (.int .i64 0)).setCell ⟨w.heap.size + 1 + 1, 1, none⟩ (.int .i64 0)).setCell ⟨w.heap.size + 1 + 1, 2, none⟩ (.int .i64 0)).setCell ⟨w.heap.size + 1 + 1, 3, none⟩ (.int .i64 0)).drew) = WD := ⟨_, rfl⟩
  rw [← cell_drew_own] at s0 s1 s2 s3
  rw [hWD] at s0 s1 s2 s3 hK' ⊢
  have hP := grownBy_putObj' WD D (.deferred none)
  have hPr : ∀ r, some D = some r → ∃ o : Obj, WD.heap[r]? = some o ∧ o.isCells = false := fun r e => by cases e; exact ⟨_, hK', rfl⟩
  have q0 := cell_kept (W := WD) s0 hP hPr
  have q1 := cell_kept (W := WD) s1 hP hPr
  have q2 := cell_kept (W := WD) s2 hP hPr
  have q3 := cell_kept (W := WD) s3 hP hPr
  refine ⟨by simp, .inl ⟨_, _, rfl, run_takeDeferred hK', ?_⟩⟩
  refine ⟨.tuple #[.agg #[.int .i64 0, .int .i64 0, .int .i64 0, .int .i64 0], .bool false], ?_, rfl, (hB4.trans (by rw [← hWD]; exact ⟨rfl, rfl, rfl, Nat.le_refl _, fun _ _ => rfl⟩)).trans (belowK_b (w := w) (Nat.le_refl _) _ D _ _ (by simp at hD; omega) hK' rfl rfl)⟩
  simp [results, Tryz.results57, go_sem, q0, q1, q2, q3]
 case stop =>
  rintro D c pre W hD ⟨k, hk, rfl⟩ ⟨rfl, ini, s, e1, e2, e3⟩ hK
  obtain ⟨k', rfl⟩ : ∃ k', k = k' + 1 := by
   cases k with
   | zero => simp [uptoS] at e1
   | succ k' => exact ⟨k', rfl⟩
  rw [uptoS_succ] at e1
  obtain ⟨rfl, e5⟩ := List.append_inj' e1 rfl
  have e5 : strK l k' = s := by simpa using e5
  rcases e3 with ⟨e3, hFI, hc, hB⟩ | ⟨e3, hFI, hc, hB⟩
  ·
   obtain rfl := HC k' (by omega) e2 (by rw [e5]; exact e3)
   obtain ⟨f0, f1, f2, f3⟩ := hFI
   clear HS HN HC e1 e2 e3 e5
   have hRW := (hB.block (w.heap.size + 1 + 1) (by omega)).trans hR
   obtain ⟨⟨r0, r1, r2, r3⟩, hRf⟩ := strIn_of hRW
   have rf0 := hRf 0
   have rf1 := hRf 1
   have rf2 := hRf 2
   have rf3 := hRf 3
   have hK4 := keeps_four W (w.heap.size + 1 + 1) (.int .i64 0) (.int .i64 0) (.int .i64 0) (.int .i64 0)
   have hB4 := below_four (hBA.trans (hB.mono (by omega))) (w.heap.size + 1 + 1) (by omega) (.int .i64 0) (.int .i64 0) (.int .i64 0) (.int .i64 0)
   obtain ⟨s0, s1, s2, s3⟩ := set_str (x := ⟨0, 0, 0, 0⟩) (y := ⟨0, 0, 0, 0⟩) ⟨r0, r1, r2, r3⟩
   have hn1 : w.heap.size + 1 + 1 + 1 ≠ w.heap.size + 1 + 1 := by omega
   have hn2 : w.heap.size + 1 + 1 + 1 + 1 ≠ w.heap.size + 1 + 1 := by omega
   clear hRf hwA hwF
   simp only at r0 r1 r2 r3 s0 s1 s2 s3 f0 f1 f2 f3
   gi_wp2
   refine wpIn_wide.2 ?_
   go_region
   gi_wp2
   have hK' := (hK4.trans (KeepsOthers.drew _)).same D _ hK rfl
   obtain ⟨WD, hWD⟩ : ∃ WD, (((((W.setCell ⟨w.heap.size + 1 + 1, 0, none⟩ (.int .i64 0)).setCell ⟨w.heap.size + 1 + 1, 1, none⟩ (.int .i64 0)).setCell ⟨w.heap.size + 1 + 1, 2, none⟩ (.int .i64 0)).setCell ⟨w.heap.size + 1 + 1, 3, none⟩ (.int .i64 0)).drew) = WD := ⟨_, rfl⟩
   rw [← cell_drew_own] at s0 s1 s2 s3
   rw [hWD] at s0 s1 s2 s3 hK' ⊢
   have hP := grownBy_putObj' WD D (.deferred none)
   have hPr : ∀ r, some D = some r → ∃ o : Obj, WD.heap[r]? = some o ∧ o.isCells = false := fun r e => by cases e; exact ⟨_, hK', rfl⟩
   have q0 := cell_kept (W := WD) s0 hP hPr
   have q1 := cell_kept (W := WD) s1 hP hPr
   have q2 := cell_kept (W := WD) s2 hP hPr
   have q3 := cell_kept (W := WD) s3 hP hPr
   refine ⟨by simp, .inl ⟨_, _, rfl, run_takeDeferred hK', ?_⟩⟩
   refine ⟨.tuple #[.agg #[.int .i64 0, .int .i64 0, .int .i64 0, .int .i64 0], .bool false], ?_, rfl, (hB4.trans (by rw [← hWD]; exact ⟨rfl, rfl, rfl, Nat.le_refl _, fun _ _ => rfl⟩)).trans (belowK_b (w := w) (Nat.le_refl _) _ D _ _ (by simp at hD; omega) hK' rfl rfl)⟩
   simp [results, Tryz.results57, go_sem, q0, q1, q2, q3]
  ·
   have hG := HS k' (by omega) e2 (by rw [e5]; exact e3)
   rw [e5] at hG
   obtain rfl := hG
   clear HS HN HC e1 e2 e3 e5
   obtain ⟨⟨y0, y1, y2, y3⟩, hy⟩ := s
   obtain ⟨f0, f1, f2, f3⟩ := hFI
   have hRW := (hB.block (w.heap.size + 1 + 1) (by omega)).trans hR
   obtain ⟨⟨r0, r1, r2, r3⟩, hRf⟩ := strIn_of hRW
   have rf0 := hRf 0
   have rf1 := hRf 1
   have rf2 := hRf 2
   have rf3 := hRf 3
   have hK4 := keeps_four W (w.heap.size + 1 + 1) (.int .i64 y0) (.int .i64 y1) (.int .i64 y2) (.int .i64 y3)
   have hB4 := below_four (hBA.trans (hB.mono (by omega))) (w.heap.size + 1 + 1) (by omega) (.int .i64 y0) (.int .i64 y1) (.int .i64 y2) (.int .i64 y3)
   obtain ⟨s0, s1, s2, s3⟩ := set_str (x := ⟨0, 0, 0, 0⟩) (y := ⟨y0, y1, y2, y3⟩) ⟨r0, r1, r2, r3⟩
   have hn1 : w.heap.size + 1 + 1 + 1 ≠ w.heap.size + 1 + 1 := by omega
   have hn2 : w.heap.size + 1 + 1 + 1 + 1 ≠ w.heap.size + 1 + 1 := by omega
   clear hRf hwA hwF
   simp only at r0 r1 r2 r3 s0 s1 s2 s3 f0 f1 f2 f3
   gi_wp2
   refine wpIn_wide.2 ?_
   go_region
   gi_wp2
   have hK' := (hK4.trans (KeepsOthers.drew _)).same D _ hK rfl
   obtain ⟨WD, hWD⟩ : ∃ WD, (((((W.setCell ⟨w.heap.size + 1 + 1, 0, none⟩ (.int .i64 y0)).setCell ⟨w.heap.size + 1 + 1, 1, none⟩ (.int .i64 y1)).setCell ⟨w.heap.size + 1 + 1, 2, none⟩ (.int .i64 y2)).setCell ⟨w.heap.size + 1 + 1, 3, none⟩ (.int .i64 y3)).drew) = WD := ⟨_, rfl⟩
   rw [← cell_drew_own] at s0 s1 s2 s3
   rw [hWD] at s0 s1 s2 s3 hK' ⊢
   have hP := grownBy_putObj' WD D (.deferred none)
   have hPr : ∀ r, some D = some r → ∃ o : Obj, WD.heap[r]? = some o ∧ o.isCells = false := fun r e => by cases e; exact ⟨_, hK', rfl⟩
   have q0 := cell_kept (W := WD) s0 hP hPr
   have q1 := cell_kept (W := WD) s1 hP hPr
   have q2 := cell_kept (W := WD) s2 hP hPr
   have q3 := cell_kept (W := WD) s3 hP hPr
   refine ⟨by simp, .inl ⟨_, _, rfl, run_takeDeferred hK', ?_⟩⟩
   refine ⟨.tuple #[.agg #[.int .i64 y0, .int .i64 y1, .int .i64 y2, .int .i64 y3], .bool true], ?_, rfl, (hB4.trans (by rw [← hWD]; exact ⟨rfl, rfl, rfl, Nat.le_refl _, fun _ _ => rfl⟩)).trans (belowK_b (w := w) (Nat.le_refl _) _ D _ _ (by simp at hD; omega) hK' rfl rfl)⟩
   simp [results, Tryz.results57, go_sem, q0, q1, q2, q3]
end Go.Proofs.YtcelbkmnbjcjhaaGreat
namespace Go.Proofs.YtcelbkmnbjcjhaaGreat
open Go.RowKit

theorem own_emptyI (w : World) (t : TypeId) : (w.alloc (.cells #[] t)).ownsRow w.heap.size t 1 (.slice (some ⟨w.heap.size, 0, none⟩) 0 0) 0 [] :=
 ⟨rfl, .inr ⟨w.heap.size, 0, #[], rfl, Nat.le_refl _, World.alloc_heap_new w _, Nat.le_refl _, by unfold maxLen; omega, rfl, rfl⟩⟩
theorem owns_monoS {w : World} {base base' : Nat} {e : TypeId} {size : Nat} {v : Value} {n : Nat} {xs : List Value} (h : w.ownsRow base e size v n xs) (hb : base' ≤ base) : w.ownsRow base' e size v n xs := by
 refine ⟨h.1, ?_⟩
 rcases h.2 with h | ⟨g, cap, cur, e1, e2, e3⟩
 ·
  exact .inl h
 ·
  exact .inr ⟨g, cap, cur, e1, by omega, e3⟩
set_option maxRecDepth 20000 in
set_option maxHeartbeats 4000000 in
theorem spec_l04Instants (l : List TurnD) (v : Value) (m : Int) (hT : TabR l) (m1 : -62135596800 ≤ m) (m2 : m ≤ 253402300799) (w : World) (hv : TabAt w v l) :
  Calls Tryz.prog 49 #[v, .int .i64 m] w fun e W' => ∃ v', e = .returned v' ∧ W'.ownsRow w.heap.size 2 1 v' (instL l m).length ((instL l m).map (Value.int .i64)) ∧ Below w.heap.size w W' := by
 have hlen := hT.len
 obtain ⟨i0, hi, hz0, hz1, hz2⟩ := info_parts info64
 obtain ⟨a, cap, rfl, hA⟩ := hv
 obtain ⟨f, hf⟩ : ∃ x, l[0]? = some x := ⟨_, List.getElem?_eq_getElem (by omega)⟩
 obtain ⟨b, o, rfl, hd⟩ := hA.at (i := 0) (r := f.cs) (by rw [List.getElem?_map, hf]; rfl)
 have hbl : b < w.heap.size := World.block_lt_of_cell? _ _ (hd 0 _ rfl)
 clear hd hf
 have hcells : ∀ (wr : World), Below w.heap.size w wr → ∀ (k : Nat) (x : TurnD), l[k]? = some x → wr.cell? ⟨b, o + k * 4, none⟩ = some (.int .i64 x.at_) ∧ wr.cell? ⟨b, o + k * 4 + 1, none⟩ = some (.int .i64 x.offset) := fun wr hB k x hx => by
  obtain ⟨b', o', he, hc⟩ := hA.at (i := k) (r := x.cs) (by rw [List.getElem?_map, hx]; rfl)
  injection he with he
  injection he with u1 u2
  subst u1 u2
  exact ⟨(hB.cell (p := ⟨b, _, none⟩) hbl).trans (hc 0 _ rfl), (hB.cell (p := ⟨b, _, none⟩) hbl).trans (hc 1 _ rfl)⟩
 have HI : Hid (instL l m = shownL m (uptoS l l.length)) := rfl
 go_enter Tryz.func49, Tryz.ntmps49
 go_wp2
 obtain ⟨wA, hwA⟩ : ∃ wA, (w.alloc (.cells #[.slice (some ⟨b, o, none⟩) l.length cap] 25)) = wA := ⟨_, rfl⟩
 have hsA : wA.heap.size = w.heap.size + 1 := by rw [← hwA]; simp
 have hBA : Below w.heap.size w wA := by rw [← hwA]; exact (Below.refl _ w).alloc (Nat.le_refl _) _
 have cB : wA.cell? ⟨w.heap.size, 0, none⟩ = some (.slice (some ⟨b, o, none⟩) l.length cap) := by rw [← hwA]; simp [go_sem]
 have hE := own_emptyI wA 2
 rw [hsA] at hE
 rw [hwA]
 go_loopw [5, 6] (fun s5 s6 wr => ∃ k : Nat, k ≤ l.length ∧ s6 = .int .i64 k ∧ wr.ownsRow (w.heap.size + 1) 2 1 s5 (shownL m (uptoS l k)).length ((shownL m (uptoS l k)).map (Value.int .i64)) ∧ Below (w.heap.size + 1) wA wr) (fun _ s6 _ => l.length - (intOf s6).toNat)
 case atStart => exact ⟨0, by omega, rfl, hE, (Below.refl _ _).alloc (by omega) _⟩
 case round =>
  obtain ⟨k, hk, rfl, hown, hB⟩ := hrel
  have hsW := hB.size
  have hBw := hBA.trans (hB.mono (show w.heap.size ≤ w.heap.size + 1 by omega))
  have cBr : wr.cell? ⟨w.heap.size, 0, none⟩ = some (.slice (some ⟨b, o, none⟩) l.length cap) := (hB.cell (p := ⟨w.heap.size, 0, none⟩) (show w.heap.size < w.heap.size + 1 by omega)).trans cB
  have hsl := shownL_le m (uptoS l k)
  rw [uptoS_length] at hsl
  by_cases hlt : k < l.length
  ·
   obtain ⟨x, hx⟩ : ∃ x, l[k]? = some x := ⟨_, List.getElem?_eq_getElem hlt⟩
   obtain ⟨c0, c1⟩ := hcells wr hBw k x hx
   obtain ⟨z1, z2⟩ := isB_of_t (off_of hT (List.mem_of_getElem? hx))
   by_cases hlt2 : k + 1 < l.length
   ·
    obtain ⟨y, hy⟩ : ∃ y, l[k + 1]? = some y := ⟨_, List.getElem?_eq_getElem hlt2⟩
    have d0 := (hcells wr hBw (k + 1) y hy).1
    have y1 := hT.top _ y hy
    have y2 := at_low hT hy
    have HV : Hid ((strK l k).1.first = x.at_ ∧ (strK l k).1.last = y.at_ - 1 ∧ (strK l k).1.own = x.offset) := by
     simp only [Hid]; rw [strK_val hT hlt]; unfold strAt; rw [hx, hy]; exact ⟨rfl, rfl, rfl⟩
    clear hx hy hcells
    by_cases g1 : x.at_ ≤ m - x.offset
    ·
     by_cases g2 : m - x.offset ≤ y.at_ - 1
     ·
      have HS : Hid (shownL m (uptoS l (k + 1)) = shownL m (uptoS l k) ++ [m - x.offset]) := by simp only [Hid]; rw [uptoS_succ]; exact (shownL_hit (by rw [HV.out.1, HV.out.2.2]; exact g1) (by rw [HV.out.2.1, HV.out.2.2]; exact g2)).trans (by rw [HV.out.2.2])
      have HE1 : Hid (shownL m (uptoS l (k + 1)) = shownL m (uptoS l (k + 1))) := rfl
      obtain ⟨o, ho⟩ : ∃ o, shownL m (uptoS l k) = o := ⟨_, rfl⟩
      rw [ho] at hown HS hsl
      clear HE1 HV ho
      go_wp2_with (first
       | (at_builtin; refine wpList_append_own _ rfl _ _ 72 rfl (w.heap.size + 1) 2 i0 (.int .i64 0) 1 8 Tryz.underlying72 hi hz0 hz1 hz2 rfl (by decide) _ _ _ rfl (hown.alloc _) ⟨wr.heap.size, 0, none⟩ 1 1 [.int .i64 (m - x.offset)] rfl rfl ?c1 ?c2 ?c3 ?c4 ?c5 ?_)
       | fail)
      case c1 => exact cell_one_new _ _ _
      case c2 => intro u hu; simp at hu; subst hu; rfl
      case c3 => unfold maxLen; omega
      case c4 => omega
      case c5 => simp; omega
      ·
       intro v' w1 hown' hgrow _
       have hB1 : Below (w.heap.size + 1) wA w1 := (hB.alloc (by omega) _).grown hgrow (by simp; omega) (fun j hj => (hown.lt j hj).1)
       have HO : Hid (w1.ownsRow (w.heap.size + 1) 2 1 v' (o ++ [m - x.offset]).length ((o ++ [m - x.offset]).map (Value.int .i64))) := by simpa [Hid] using hown'
       clear hgrow hown' hown
       go_wp2
       go_roundw
       case rel => exact ⟨k + 1, by omega, by go_num, by rw [HS.out]; exact HO.out, hB1⟩
       case measure => simp [intOf]; omega
     ·
      have HS : Hid (shownL m (uptoS l (k + 1)) = shownL m (uptoS l k)) := by simp only [Hid]; rw [uptoS_succ]; exact (shownL_miss2 (by rw [HV.out.2.1, HV.out.2.2]; exact g2))
      clear HV
      go_wp2
      go_roundw
      case rel => exact ⟨k + 1, by omega, by go_num, by rw [HS.out]; exact hown, hB⟩
      case measure => simp [intOf]; omega
    ·
     have HS : Hid (shownL m (uptoS l (k + 1)) = shownL m (uptoS l k)) := by simp only [Hid]; rw [uptoS_succ]; exact (shownL_miss1 (by rw [HV.out.1, HV.out.2.2]; exact g1))
     clear HV
     go_wp2
     go_roundw
     case rel => exact ⟨k + 1, by omega, by go_num, by rw [HS.out]; exact hown, hB⟩
     case measure => simp [intOf]; omega
   ·
    have hy : l[k + 1]? = none := List.getElem?_eq_none (by omega)
    have HV : Hid ((strK l k).1.first = x.at_ ∧ (strK l k).1.last = 253402300799 ∧ (strK l k).1.own = x.offset) := by
     simp only [Hid]; rw [strK_val hT hlt]; unfold strAt; rw [hx, hy]; exact ⟨rfl, rfl, rfl⟩
    clear hx hy hcells
    by_cases g1 : x.at_ ≤ m - x.offset
    ·
     by_cases g2 : m - x.offset ≤ 253402300799
     ·
      have HS : Hid (shownL m (uptoS l (k + 1)) = shownL m (uptoS l k) ++ [m - x.offset]) := by simp only [Hid]; rw [uptoS_succ]; exact (shownL_hit (by rw [HV.out.1, HV.out.2.2]; exact g1) (by rw [HV.out.2.1, HV.out.2.2]; exact g2)).trans (by rw [HV.out.2.2])
      have HE1 : Hid (shownL m (uptoS l (k + 1)) = shownL m (uptoS l (k + 1))) := rfl
      obtain ⟨o, ho⟩ : ∃ o, shownL m (uptoS l k) = o := ⟨_, rfl⟩
      rw [ho] at hown HS hsl
      clear HE1 HV ho
      go_wp2_with (first
       | (at_builtin; refine wpList_append_own _ rfl _ _ 72 rfl (w.heap.size + 1) 2 i0 (.int .i64 0) 1 8 Tryz.underlying72 hi hz0 hz1 hz2 rfl (by decide) _ _ _ rfl (hown.alloc _) ⟨wr.heap.size, 0, none⟩ 1 1 [.int .i64 (m - x.offset)] rfl rfl ?d1 ?d2 ?d3 ?d4 ?d5 ?_)
       | fail)
      case d1 => exact cell_one_new _ _ _
      case d2 => intro u hu; simp at hu; subst hu; rfl
      case d3 => unfold maxLen; omega
      case d4 => omega
      case d5 => simp; omega
      ·
       intro v' w1 hown' hgrow _
       have hB1 : Below (w.heap.size + 1) wA w1 := (hB.alloc (by omega) _).grown hgrow (by simp; omega) (fun j hj => (hown.lt j hj).1)
       have HO : Hid (w1.ownsRow (w.heap.size + 1) 2 1 v' (o ++ [m - x.offset]).length ((o ++ [m - x.offset]).map (Value.int .i64))) := by simpa [Hid] using hown'
       clear hgrow hown' hown
       go_wp2
       go_roundw
       case rel => exact ⟨k + 1, by omega, by go_num, by rw [HS.out]; exact HO.out, hB1⟩
       case measure => simp [intOf]; omega
     ·
      have HS : Hid (shownL m (uptoS l (k + 1)) = shownL m (uptoS l k)) := by simp only [Hid]; rw [uptoS_succ]; exact (shownL_miss2 (by rw [HV.out.2.1, HV.out.2.2]; exact g2))
      clear HV
      go_wp2
      go_roundw
      case rel => exact ⟨k + 1, by omega, by go_num, by rw [HS.out]; exact hown, hB⟩
      case measure => simp [intOf]; omega
    ·
     have HS : Hid (shownL m (uptoS l (k + 1)) = shownL m (uptoS l k)) := by simp only [Hid]; rw [uptoS_succ]; exact (shownL_miss1 (by rw [HV.out.1, HV.out.2.2]; exact g1))
     clear HV
     go_wp2
     go_roundw
     case rel => exact ⟨k + 1, by omega, by go_num, by rw [HS.out]; exact hown, hB⟩
     case measure => simp [intOf]; omega
  ·
   obtain rfl : k = l.length := by omega
   go_wp2
   go_ret
   exact ⟨_, rfl, by rw [HI.out]; exact owns_monoS hown (by omega), hBw⟩
end Go.Proofs.YtcelbkmnbjcjhaaGreat
namespace Go.Proofs.YtcelbkmnbjcjhaaGreat
open Go.RowKit

def foldD (L : List Int) (f : Int) : Int × Int := if 1 < L.length ∧ f = 0 then (0, 9) else (L[if f = 2 then L.length - 1 else 0]?.getD 0, 0)
theorem foldD_no {L : List Int} {f : Int} (h1 : 1 < L.length) (h2 : f = 0) : foldD L f = (0, 9) := by unfold foldD; rw [if_pos ⟨h1, h2⟩]
theorem foldD_last {L : List Int} {f : Int} (h2 : f = 2) {x : Int} (hx : L[L.length - 1]? = some x) : foldD L f = (x, 0) := by unfold foldD; rw [if_neg (by omega), if_pos h2, hx]; rfl
theorem foldD_first {L : List Int} {f : Int} (h : ¬ (1 < L.length ∧ f = 0)) (h2 : f ≠ 2) {x : Int} (hx : L[0]? = some x) : foldD L f = (x, 0) := by unfold foldD; rw [if_neg h, if_neg h2, hx]; rfl
def gapR (G : Option StrK) (n g : Int) : Int × Int := match G with
 | none => (0, 4)
 | some s => if g = 0 then (0, 8) else if g = 1 then timeD (n - s.1.ahead) else timeD (n - s.1.own)
def resR (l : List TurnD) (n g f : Int) : Int × Int := if (instL l n).length = 0 then gapR (gapD l n) n g else foldD (instL l n) f
def resD (l : List TurnD) (n g f : Int) : Int × Int := if tabB l = true ∧ isB n (-62135596800) 253402300799 = true ∧ isB g 0 2 = true ∧ isB f 0 2 = true then resR l n g f else (0, 1)
theorem resD_no1 {l : List TurnD} {n g f : Int} (h : tabB l = false) : resD l n g f = (0, 1) := by unfold resD; rw [if_neg (by rw [h]; simp)]
theorem resD_no2 {l : List TurnD} {n g f : Int} (h : isB n (-62135596800) 253402300799 = false) : resD l n g f = (0, 1) := by unfold resD; rw [if_neg (by rw [h]; simp)]
theorem resD_no3 {l : List TurnD} {n g f : Int} (h : isB g 0 2 = false) : resD l n g f = (0, 1) := by unfold resD; rw [if_neg (by rw [h]; simp)]
theorem resD_no4 {l : List TurnD} {n g f : Int} (h : isB f 0 2 = false) : resD l n g f = (0, 1) := by unfold resD; rw [if_neg (by rw [h]; simp)]
theorem resD_yes {l : List TurnD} {n g f : Int} (h1 : tabB l = true) (h2 : isB n (-62135596800) 253402300799 = true) (h3 : isB g 0 2 = true) (h4 : isB f 0 2 = true) : resD l n g f = resR l n g f := by unfold resD; rw [if_pos ⟨h1, h2, h3, h4⟩]
set_option maxHeartbeats 400000 in
theorem impl_choiceRight (n : Int) (w : World) :
  Calls Tryz.prog 44 #[.int .i64 n] w fun e w' => e = .returned (.bool (isB n 0 2)) ∧ w' = w := by
 by_cases h : 0 ≤ n
 ·
  go_enter Tryz.func44, Tryz.ntmps44
  go_wp2
  go_ret
  exact ⟨ret_bool (by unfold isB; simp [h]), rfl⟩
 ·
  go_enter Tryz.func44, Tryz.ntmps44
  go_wp2
  go_ret
  exact ⟨ret_bool (isB_f (by omega)).symm, rfl⟩
/-- what a row of numbers holds. -/
theorem row_open {w : World} {base : Nat} {v : Value} {L : List Int} {n : Nat} (hn : L.length = n + 1) (h : w.ownsRow base 2 1 v L.length (L.map (Value.int .i64))) : ∃ g cap, v = .slice (some ⟨g, 0, none⟩) (n + 1) cap ∧ g < w.heap.size ∧ base ≤ g ∧ ∀ i x, L[i]? = some x → w.cell? ⟨g, i, none⟩ = some (.int .i64 x) := by
 rw [hn] at h
 obtain ⟨g, cap, rfl⟩ := ownsRow_succ h
 have hg := h.lt g rfl
 refine ⟨g, cap, rfl, hg.2, hg.1, fun i x hx => ?_⟩
 have hi := (List.getElem?_eq_some_iff.mp hx).1
 rw [h.cellAt i (by omega), List.getElem?_map, hx]
 rfl
set_option maxHeartbeats 2000000 in
theorem impl_foldResolved (L : List Int) (v : Value) (f : Int) (w : World) (base : Nat) (hL : 0 < L.length) (hm : L.length ≤ 600) (h : w.ownsRow base 2 1 v L.length (L.map (Value.int .i64))) :
  Calls Tryz.prog 47 #[v, .int .i64 f] w fun e w' => e = .returned (outV (foldD L f)) ∧ Below w.heap.size w w' := by
 obtain ⟨n, hn⟩ : ∃ n, L.length = n + 1 := ⟨L.length - 1, by omega⟩
 obtain ⟨g, cap, rfl, hg, _, hc⟩ := row_open hn h
 obtain ⟨x, hx⟩ : ∃ x, L[0]? = some x := ⟨_, List.getElem?_eq_getElem (by omega)⟩
 obtain ⟨y, hy⟩ : ∃ y, L[n]? = some y := ⟨_, List.getElem?_eq_getElem (by omega)⟩
 have c0 := hc 0 x hx
 have c1 := hc n y hy
 have hB0 := fun o => (Below.refl w.heap.size w).alloc (Nat.le_refl _) o
 have F1 := fun h1 h2 => @foldD_no L f h1 h2
 have F2 := fun h2 => @foldD_last L f h2 y (by rw [hn]; exact hy)
 have F3 := fun h1 h2 => @foldD_first L f h1 h2 x hx
 rw [hn] at F1 F3 hm
 generalize foldD L f = R at *
 have hne : g ≠ w.heap.size := by omega
 clear hc hx hy h hn hL
 by_cases h1 : 0 < n
 ·
  by_cases h2 : f = 0
  ·
   obtain rfl := F1 (by omega) h2
   subst h2
   clear F1 F2 F3
   go_enter Tryz.func47, Tryz.ntmps47
   go_wp2
   exact bodyPost_ret (v := outV (0, 9)) (by simp [results, Tryz.results47, go_sem, outV]) rfl ⟨rfl, hB0 _⟩
  ·
   by_cases h3 : f = 2
   ·
    obtain rfl := F2 h3
    subst h3
    clear F1 F2 F3
    go_enter Tryz.func47, Tryz.ntmps47
    go_wp2
    exact bodyPost_ret (v := outV (y, 0)) (by simp [results, Tryz.results47, go_sem, outV]) rfl ⟨rfl, hB0 _⟩
   ·
    obtain rfl := F3 (by omega) h3
    have e1 : (f == 0) = false := by simp [h2]
    have e2 : (f == 2) = false := by simp [h3]
    clear F1 F2 F3
    go_enter Tryz.func47, Tryz.ntmps47
    go_wp2
    exact bodyPost_ret (v := outV (x, 0)) (by simp [results, Tryz.results47, go_sem, outV]) rfl ⟨rfl, hB0 _⟩
 ·
  obtain rfl : n = 0 := by omega
  by_cases h3 : f = 2
  ·
   obtain rfl := F2 h3
   subst h3
   clear F1 F2 F3 c0
   go_enter Tryz.func47, Tryz.ntmps47
   go_wp2
   exact bodyPost_ret (v := outV (y, 0)) (by simp [results, Tryz.results47, go_sem, outV]) rfl ⟨rfl, hB0 _⟩
  ·
   obtain rfl := F3 (by omega) h3
   have e2 : (f == 2) = false := by simp [h3]
   clear F1 F2 F3 c1
   go_enter Tryz.func47, Tryz.ntmps47
   go_wp2
   exact bodyPost_ret (v := outV (x, 0)) (by simp [results, Tryz.results47, go_sem, outV]) rfl ⟨rfl, hB0 _⟩
theorem gapR_none (n g : Int) : gapR none n g = (0, 4) := rfl
theorem gapR_0 (s : StrK) (n : Int) : gapR (some s) n 0 = (0, 8) := rfl
theorem gapR_1 (s : StrK) (n : Int) : gapR (some s) n 1 = timeD (n - s.1.ahead) := rfl
theorem gapR_2 (s : StrK) {n g : Int} (h0 : g ≠ 0) (h1 : g ≠ 1) : gapR (some s) n g = timeD (n - s.1.own) := by unfold gapR; simp only; rw [if_neg h0, if_neg h1]
theorem str_ok (s : StrK) : (-100000 ≤ s.1.ahead ∧ s.1.ahead ≤ 100000) ∧ (-100000 ≤ s.1.own ∧ s.1.own ≤ 100000) := by
 have hx' := s.2
 unfold StrD.ok at hx'
 simp only [Bool.and_eq_true] at hx'
 exact ⟨isB_of_t hx'.2.2.1, isB_of_t hx'.2.2.2⟩
set_option maxRecDepth 20000 in
set_option maxHeartbeats 2000000 in
theorem impl_gapResolved (l : List TurnD) (v : Value) (m g : Int) (hT : TabR l) (m1 : -62135596800 ≤ m) (m2 : m ≤ 253402300799) (w : World) (hv : TabAt w v l) :
  Calls Tryz.prog 46 #[v, .int .i64 m, .int .i64 g] w fun e w' => e = .returned (outV (gapR (gapD l m) m g)) ∧ Below w.heap.size w w' := by
 have hG := fun v w h => impl_gapOf l v m hT m1 m2 w h
 generalize gapD l m = G at *
 obtain ⟨a, cap, rfl, hA⟩ := hv
 have hv : TabAt w (.agg #[.slice a l.length cap]) l := ⟨a, cap, rfl, hA⟩
 have hB0 := fun o o2 => ((Below.refl w.heap.size w).alloc (Nat.le_refl _) o).alloc (by simp) o2
 have KEEP : ∀ w1, Below ((w.alloc (.cells #[.slice a l.length cap] 25)).alloc (.cells #[.int .i64 0, .int .i64 0] 53)).heap.size ((w.alloc (.cells #[.slice a l.length cap] 25)).alloc (.cells #[.int .i64 0, .int .i64 0] 53)) w1 →
   (w1.cell? ⟨w.heap.size + 1, 0, none⟩ = some (.int .i64 0) ∧ w1.cell? ⟨w.heap.size + 1, 1, none⟩ = some (.int .i64 0)) ∧ (∀ i, w1.frozen? ⟨w.heap.size + 1, i, none⟩ = false) ∧ w1.cell? ⟨w.heap.size, 0, none⟩ = some (.slice a l.length cap) ∧ Below w.heap.size w w1 := fun w1 hb1 => by
  obtain ⟨hc1, hf1⟩ := bcell hb1
  exact ⟨⟨(hc1 _ _ (by simp)).trans (by simp [go_sem]), (hc1 _ _ (by simp)).trans (by simp [go_sem])⟩, fun i => (hf1 _ _ (by simp)).trans (by simp [go_sem]), (hc1 _ _ (by simp; omega)).trans (by simp [go_sem]), (hB0 _ _).trans (hb1.mono (by simp; omega))⟩
 have KEEP2 : ∀ (w1 : World) (P : Int × Int) o, (w1.cell? ⟨w.heap.size + 1, 0, none⟩ = some (.int .i64 0) ∧ w1.cell? ⟨w.heap.size + 1, 1, none⟩ = some (.int .i64 0)) → (∀ i, w1.frozen? ⟨w.heap.size + 1, i, none⟩ = false) → Below w.heap.size w w1 → ∀ w2, Below (w1.alloc o).heap.size (w1.alloc o) w2 → (w2.cell? ⟨w.heap.size + 1, 0, none⟩ = some (.int .i64 0) ∧ w2.cell? ⟨w.heap.size + 1, 1, none⟩ = some (.int .i64 0)) ∧ (w2.frozen? ⟨w.heap.size + 1, 0, none⟩ = false ∧ w2.frozen? ⟨w.heap.size + 1, 1, none⟩ = false) ∧ Below w.heap.size w w2 := fun w1 P o h1 h2 hB w2 hb2 => by
  have ha : Below w1.heap.size w1 w2 := ((Below.refl w1.heap.size w1).alloc (Nat.le_refl _) o).trans (hb2.mono (by simp))
  obtain ⟨hc1, hf1⟩ := bcell ha
  have hlt := World.block_lt_of_cell? _ _ h1.1
  exact ⟨⟨(hc1 _ _ hlt).trans h1.1, (hc1 _ _ hlt).trans h1.2⟩, ⟨(hf1 _ _ hlt).trans (h2 0), (hf1 _ _ hlt).trans (h2 1)⟩, hB.trans (ha.mono hB.size)⟩
 cases G with
 | none =>
  rw [gapR_none]
  simp only [gapS, StrD.v, Option.isSome] at hG
  go_enter Tryz.func46, Tryz.ntmps46
  go_wp2_with fail
  refine (hG _ _ (hv.below (hB0 _ _))).mono ?_
  rintro e w1 ⟨rfl, hb1⟩
  obtain ⟨⟨r0, r1⟩, f, t0, hB1⟩ := KEEP w1 hb1
  have f0 := f 0
  have f1 := f 1
  have hne : w.heap.size + 1 ≠ w1.heap.size := by have := World.block_lt_of_cell? _ _ r0; simp at this; omega
  obtain ⟨⟨q0, q1⟩, ⟨g0, g1⟩, hBz⟩ := KEEP2 w1 (0, 0) (.cells #[.int .i64 0, .int .i64 0, .int .i64 0, .int .i64 0] 101) ⟨r0, r1⟩ f hB1 _ (Below.refl _ _)
  obtain ⟨s0, s1⟩ := set_twoW (v0 := .int .i64 0) (v1 := .int .i64 4) q0 q1
  clear f KEEP KEEP2 hb1
  go_wp2
  exact bodyPost_ret (v := outV (0, 4)) (by simp [results, Tryz.results46, go_sem, outV, s0, s1]) rfl ⟨rfl, (hBz.setCell (show w.heap.size ≤ w.heap.size + 1 by omega) _).setCell (show w.heap.size ≤ w.heap.size + 1 by omega) _⟩
 | some s =>
  obtain ⟨⟨a1, a2⟩, o1, o2⟩ := str_ok s
  have R0 := gapR_0 s m
  have R1 := gapR_1 s m
  have R2 := fun h0 h1 => @gapR_2 s m g h0 h1
  simp only [gapS, StrD.v, Option.isSome] at hG
  obtain ⟨⟨x0, x1, x2, x3⟩, hx⟩ := s
  simp only at hG a1 a2 o1 o2 R1 R2
  have hTA := fun w => impl_timeOrRange (m - x2) w
  have hTO := fun w => impl_timeOrRange (m - x3) w
  generalize timeD (m - x2) = P1 at *
  generalize timeD (m - x3) = P2 at *
  obtain ⟨p1, p2⟩ := P1
  obtain ⟨p3, p4⟩ := P2
  unfold outV at hTA hTO ⊢
  by_cases h0 : g = 0
  ·
   subst h0
   rw [R0]
   clear R0 R1 R2
   go_enter Tryz.func46, Tryz.ntmps46
   go_wp2_with fail
   refine (hG _ _ (hv.below (hB0 _ _))).mono ?_
   rintro e w1 ⟨rfl, hb1⟩
   obtain ⟨⟨r0, r1⟩, f, t0, hB1⟩ := KEEP w1 hb1
   have f0 := f 0
   have f1 := f 1
   have hne : w.heap.size + 1 ≠ w1.heap.size := by have := World.block_lt_of_cell? _ _ r0; simp at this; omega
   obtain ⟨⟨q0, q1⟩, ⟨g0, g1⟩, hBz⟩ := KEEP2 w1 (0, 0) (.cells #[.int .i64 x0, .int .i64 x1, .int .i64 x2, .int .i64 x3] 101) ⟨r0, r1⟩ f hB1 _ (Below.refl _ _)
   obtain ⟨s0, s1⟩ := set_twoW (v0 := .int .i64 0) (v1 := .int .i64 8) q0 q1
   clear f KEEP KEEP2 hb1
   go_wp2
   exact bodyPost_ret (v := outV (0, 8)) (by simp [results, Tryz.results46, go_sem, outV, s0, s1]) rfl ⟨rfl, (hBz.setCell (show w.heap.size ≤ w.heap.size + 1 by omega) _).setCell (show w.heap.size ≤ w.heap.size + 1 by omega) _⟩
  ·
   have e0 : (g == 0) = false := by simp [h0]
   by_cases h1 : g = 1
   ·
    subst h1
    rw [R1]
    clear R0 R1 R2 e0
    go_enter Tryz.func46, Tryz.ntmps46
    go_wp2_with fail
    refine (hG _ _ (hv.below (hB0 _ _))).mono ?_
    rintro e w1 ⟨rfl, hb1⟩
    obtain ⟨⟨r0, r1⟩, f, t0, hB1⟩ := KEEP w1 hb1
    have KK := KEEP2 w1 (0, 0) (.cells #[.int .i64 x0, .int .i64 x1, .int .i64 x2, .int .i64 x3] 101) ⟨r0, r1⟩ f hB1
    clear f KEEP KEEP2 hb1
    go_wp2_with fail
    refine (hTA _).mono ?_
    rintro e w2 ⟨rfl, hb2⟩
    obtain ⟨⟨q0, q1⟩, ⟨g0, g1⟩, hBz⟩ := KK w2 hb2
    obtain ⟨s0, s1⟩ := set_twoW (v0 := .int .i64 p1) (v1 := .int .i64 p2) q0 q1
    clear KK hb2
    go_wp2
    exact bodyPost_ret (v := .agg #[.int .i64 p1, .int .i64 p2]) (by simp [results, Tryz.results46, go_sem, s0, s1]) rfl ⟨rfl, (hBz.setCell (show w.heap.size ≤ w.heap.size + 1 by omega) _).setCell (show w.heap.size ≤ w.heap.size + 1 by omega) _⟩
   ·
    have e1 : (g == 1) = false := by simp [h1]
    rw [R2 h0 h1]
    clear R0 R1 R2
    go_enter Tryz.func46, Tryz.ntmps46
    go_wp2_with fail
    refine (hG _ _ (hv.below (hB0 _ _))).mono ?_
    rintro e w1 ⟨rfl, hb1⟩
    obtain ⟨⟨r0, r1⟩, f, t0, hB1⟩ := KEEP w1 hb1
    have KK := KEEP2 w1 (0, 0) (.cells #[.int .i64 x0, .int .i64 x1, .int .i64 x2, .int .i64 x3] 101) ⟨r0, r1⟩ f hB1
    clear f KEEP KEEP2 hb1
    go_wp2_with fail
    refine (hTO _).mono ?_
    rintro e w2 ⟨rfl, hb2⟩
    obtain ⟨⟨q0, q1⟩, ⟨g0, g1⟩, hBz⟩ := KK w2 hb2
    obtain ⟨s0, s1⟩ := set_twoW (v0 := .int .i64 p3) (v1 := .int .i64 p4) q0 q1
    clear KK hb2
    go_wp2
    exact bodyPost_ret (v := .agg #[.int .i64 p3, .int .i64 p4]) (by simp [results, Tryz.results46, go_sem, s0, s1]) rfl ⟨rfl, (hBz.setCell (show w.heap.size ≤ w.heap.size + 1 by omega) _).setCell (show w.heap.size ≤ w.heap.size + 1 by omega) _⟩
end Go.Proofs.YtcelbkmnbjcjhaaGreat
namespace Go.Proofs.YtcelbkmnbjcjhaaGreat
open Go.RowKit

theorem row_shape {w : World} {base : Nat} {e : TypeId} {size : Nat} {v : Value} {n : Nat} {xs : List Value} (h : w.ownsRow base e size v n xs) : ∃ a c, v = .slice a n c := by
 rcases h.2 with ⟨rfl, rfl⟩ | ⟨g, cap, cur, rfl, _⟩
 ·
  exact ⟨_, _, rfl⟩
 ·
  exact ⟨_, _, rfl⟩
theorem inst_le (l : List TurnD) (n : Int) : (instL l n).length ≤ l.length := by
 have := shownL_le n (uptoS l l.length)
 rw [uptoS_length] at this
 exact this
theorem resR_gap {l : List TurnD} {n g f : Int} (h : (instL l n).length = 0) : resR l n g f = gapR (gapD l n) n g := by unfold resR; rw [if_pos h]
theorem resR_fold {l : List TurnD} {n g f : Int} (h : (instL l n).length ≠ 0) : resR l n g f = foldD (instL l n) f := by unfold resR; rw [if_neg h]
set_option maxRecDepth 20000 in
set_option maxHeartbeats 4000000 in
theorem impl_Resolve (l : List TurnD) (v : Value) (n g f : Int) (w : World) (hv : TabAt w v l) (hok : ∀ r ∈ l, r.ok) (hl : l.length ≤ 1048576) :
  Calls Tryz.prog 24 #[v, .int .i64 n, .int .i64 g, .int .i64 f] w fun e w' => e = .returned (outV (resD l n g f)) ∧ Below w.heap.size w w' := by
 obtain ⟨a, cap, rfl, hA⟩ := hv
 have hv : TabAt w (.agg #[.slice a l.length cap]) l := ⟨a, cap, rfl, hA⟩
 have hB0 := fun o o2 => ((Below.refl w.heap.size w).alloc (Nat.le_refl _) o).alloc (by simp) o2
 have KEEP : ∀ w1, Below ((w.alloc (.cells #[.slice a l.length cap] 25)).alloc (.cells #[.int .i64 0, .int .i64 0] 53)).heap.size ((w.alloc (.cells #[.slice a l.length cap] 25)).alloc (.cells #[.int .i64 0, .int .i64 0] 53)) w1 →
   (w1.cell? ⟨w.heap.size + 1, 0, none⟩ = some (.int .i64 0) ∧ w1.cell? ⟨w.heap.size + 1, 1, none⟩ = some (.int .i64 0)) ∧ (∀ i, w1.frozen? ⟨w.heap.size + 1, i, none⟩ = false) ∧ w1.cell? ⟨w.heap.size, 0, none⟩ = some (.slice a l.length cap) ∧ Below w.heap.size w w1 := fun w1 hb1 => by
  obtain ⟨hc1, hf1⟩ := bcell hb1
  exact ⟨⟨(hc1 _ _ (by simp)).trans (by simp [go_sem]), (hc1 _ _ (by simp)).trans (by simp [go_sem])⟩, fun i => (hf1 _ _ (by simp)).trans (by simp [go_sem]), (hc1 _ _ (by simp; omega)).trans (by simp [go_sem]), (hB0 _ _).trans (hb1.mono (by simp; omega))⟩
 have hM := fun w => impl_isTimeT n w
 have hG := fun w => impl_choiceRight g w
 have hF := fun w => impl_choiceRight f w
 have hI := fun w (h : TabAt w (.agg #[.slice a l.length cap]) l) => impl_TableRight l _ w h hok hl
 cases hn : isB n (-62135596800) 253402300799
 ·
  rw [resD_no2 hn]
  rw [hn] at hM
  clear hn hG hF hI
  go_enter Tryz.func24, Tryz.ntmps24
  go_wp2_with fail
  refine (hM _).mono ?_
  rintro e wM ⟨rfl, rfl⟩
  go_wp2
  exact bodyPost_ret (v := outV (0, 1)) (by simp [results, Tryz.results24, go_sem, outV]) rfl ⟨rfl, hB0 _ _⟩
 rw [hn] at hM
 cases hg : isB g 0 2
 ·
  rw [resD_no3 hg]
  rw [hg] at hG
  clear hn hg hF hI
  go_enter Tryz.func24, Tryz.ntmps24
  go_wp2_with fail
  refine (hM _).mono ?_
  rintro e wM ⟨rfl, rfl⟩
  go_wp2_with fail
  refine (hG _).mono ?_
  rintro e wM ⟨rfl, rfl⟩
  go_wp2
  exact bodyPost_ret (v := outV (0, 1)) (by simp [results, Tryz.results24, go_sem, outV]) rfl ⟨rfl, hB0 _ _⟩
 rw [hg] at hG
 cases hf : isB f 0 2
 ·
  rw [resD_no4 hf]
  rw [hf] at hF
  clear hn hg hf hI
  go_enter Tryz.func24, Tryz.ntmps24
  go_wp2_with fail
  refine (hM _).mono ?_
  rintro e wM ⟨rfl, rfl⟩
  go_wp2_with fail
  refine (hG _).mono ?_
  rintro e wM ⟨rfl, rfl⟩
  go_wp2_with fail
  refine (hF _).mono ?_
  rintro e wM ⟨rfl, rfl⟩
  go_wp2
  exact bodyPost_ret (v := outV (0, 1)) (by simp [results, Tryz.results24, go_sem, outV]) rfl ⟨rfl, hB0 _ _⟩
 rw [hf] at hF
 cases ht : tabB l
 ·
  rw [resD_no1 ht]
  rw [ht] at hI
  clear hn hg hf ht
  go_enter Tryz.func24, Tryz.ntmps24
  go_wp2_with fail
  refine (hM _).mono ?_
  rintro e wM ⟨rfl, rfl⟩
  go_wp2_with fail
  refine (hG _).mono ?_
  rintro e wM ⟨rfl, rfl⟩
  go_wp2_with fail
  refine (hF _).mono ?_
  rintro e wM ⟨rfl, rfl⟩
  go_wp2_with fail
  refine (hI _ (hv.below (hB0 _ _))).mono ?_
  rintro e w1 ⟨rfl, hb1⟩
  obtain ⟨⟨r0, r1⟩, fz, t0, hB1⟩ := KEEP w1 hb1
  have f0 := fz 0
  have f1 := fz 1
  obtain ⟨s0, s1⟩ := set_twoW (v0 := .int .i64 0) (v1 := .int .i64 1) r0 r1
  clear fz KEEP hb1
  go_wp2
  exact bodyPost_ret (v := outV (0, 1)) (by simp [results, Tryz.results24, go_sem, outV, s0, s1]) rfl ⟨rfl, (hB1.setCell (show w.heap.size ≤ w.heap.size + 1 by omega) _).setCell (show w.heap.size ≤ w.heap.size + 1 by omega) _⟩
 rw [resD_yes ht hn hg hf]
 rw [ht] at hI
 have hR := tab_of ht
 obtain ⟨n1, n2⟩ := isB_of_t hn
 have hlen := hR.len
 have hil := inst_le l n
 have hS := fun w (h : TabAt w (.agg #[.slice a l.length cap]) l) => impl_shownAt l _ n hR n1 n2 w h
 have hP := fun w (h : TabAt w (.agg #[.slice a l.length cap]) l) => impl_gapResolved l _ n g hR n1 n2 w h
 have hD := fun v w base h1 h2 h3 => impl_foldResolved (instL l n) v f w base h1 h2 h3
 have E1 := @resR_gap l n g f
 have E2 := @resR_fold l n g f
 clear hn hg hf ht
 generalize instL l n = L at *
 generalize gapR (gapD l n) n g = Pg at *
 generalize foldD L f = Pf at *
 generalize resR l n g f = R at *
 by_cases hL : L.length = 0
 ·
  obtain rfl := E1 hL
  obtain ⟨p1, p2⟩ := R
  rw [hL] at hS
  unfold outV at hP ⊢
  clear E1 E2 hD
  go_enter Tryz.func24, Tryz.ntmps24
  go_wp2_with fail
  refine (hM _).mono ?_
  rintro e wM ⟨rfl, rfl⟩
  go_wp2_with fail
  refine (hG _).mono ?_
  rintro e wM ⟨rfl, rfl⟩
  go_wp2_with fail
  refine (hF _).mono ?_
  rintro e wM ⟨rfl, rfl⟩
  go_wp2_with fail
  refine (hI _ (hv.below (hB0 _ _))).mono ?_
  rintro e w1 ⟨rfl, hb1⟩
  obtain ⟨⟨r0, r1⟩, fz, t0, hB1⟩ := KEEP w1 hb1
  clear KEEP hb1
  go_wp2_with fail
  refine (hS _ (hv.below hB1)).mono ?_
  rintro e w2 ⟨v2, rfl, hrow, hb2⟩
  obtain ⟨a2, c2, rfl⟩ := row_shape hrow
  obtain ⟨hc2, hf2⟩ := bcell hb2
  have hB2 := hB1.trans (hb2.mono hB1.size)
  have q0 := (hc2 _ _ (World.block_lt_of_cell? _ _ r0)).trans r0
  have q1 := (hc2 _ _ (World.block_lt_of_cell? _ _ r1)).trans r1
  have e0 := (hf2 _ _ (World.block_lt_of_cell? _ _ r0)).trans (fz 0)
  have e1 := (hf2 _ _ (World.block_lt_of_cell? _ _ r1)).trans (fz 1)
  have u0 := (hc2 _ _ (World.block_lt_of_cell? _ _ t0)).trans t0
  clear hc2 hf2 hb2 hrow r0 r1 fz t0
  go_wp2_with fail
  refine (hP _ (hv.below hB2)).mono ?_
  rintro e w3 ⟨rfl, hb3⟩
  obtain ⟨hc3, hf3⟩ := bcell hb3
  have hB3 := hB2.trans (hb3.mono hB2.size)
  have k0 := (hc3 _ _ (World.block_lt_of_cell? _ _ q0)).trans q0
  have k1 := (hc3 _ _ (World.block_lt_of_cell? _ _ q1)).trans q1
  have g0 := (hf3 _ _ (World.block_lt_of_cell? _ _ q0)).trans e0
  have g1 := (hf3 _ _ (World.block_lt_of_cell? _ _ q1)).trans e1
  obtain ⟨s0, s1⟩ := set_twoW (v0 := .int .i64 p1) (v1 := .int .i64 p2) k0 k1
  clear hc3 hf3 hb3 q0 q1 e0 e1 u0
  go_wp2
  exact bodyPost_ret (v := .agg #[.int .i64 p1, .int .i64 p2]) (by simp [results, Tryz.results24, go_sem, s0, s1]) rfl ⟨rfl, (hB3.setCell (show w.heap.size ≤ w.heap.size + 1 by omega) _).setCell (show w.heap.size ≤ w.heap.size + 1 by omega) _⟩
 ·
  obtain rfl := E2 hL
  obtain ⟨p1, p2⟩ := R
  have hne : ((L.length : Int) == 0) = false := beq_eq_false_iff_ne.mpr (by omega)
  unfold outV at hD ⊢
  clear E1 E2 hP
  go_enter Tryz.func24, Tryz.ntmps24
  go_wp2_with fail
  refine (hM _).mono ?_
  rintro e wM ⟨rfl, rfl⟩
  go_wp2_with fail
  refine (hG _).mono ?_
  rintro e wM ⟨rfl, rfl⟩
  go_wp2_with fail
  refine (hF _).mono ?_
  rintro e wM ⟨rfl, rfl⟩
  go_wp2_with fail
  refine (hI _ (hv.below (hB0 _ _))).mono ?_
  rintro e w1 ⟨rfl, hb1⟩
  obtain ⟨⟨r0, r1⟩, fz, t0, hB1⟩ := KEEP w1 hb1
  clear KEEP hb1
  go_wp2_with fail
  refine (hS _ (hv.below hB1)).mono ?_
  rintro e w2 ⟨v2, rfl, hrow, hb2⟩
  have hD2 := hD _ _ _ (by omega) (by omega) hrow
  obtain ⟨a2, c2, rfl⟩ := row_shape hrow
  obtain ⟨hc2, hf2⟩ := bcell hb2
  have hB2 := hB1.trans (hb2.mono hB1.size)
  have q0 := (hc2 _ _ (World.block_lt_of_cell? _ _ r0)).trans r0
  have q1 := (hc2 _ _ (World.block_lt_of_cell? _ _ r1)).trans r1
  have e0 := (hf2 _ _ (World.block_lt_of_cell? _ _ r0)).trans (fz 0)
  have e1 := (hf2 _ _ (World.block_lt_of_cell? _ _ r1)).trans (fz 1)
  clear hc2 hf2 hb2 hrow r0 r1 fz t0 hD
  go_wp2_with fail
  refine hD2.mono ?_
  rintro e w3 ⟨rfl, hb3⟩
  obtain ⟨hc3, hf3⟩ := bcell hb3
  have hB3 := hB2.trans (hb3.mono hB2.size)
  have k0 := (hc3 _ _ (World.block_lt_of_cell? _ _ q0)).trans q0
  have k1 := (hc3 _ _ (World.block_lt_of_cell? _ _ q1)).trans q1
  have g0 := (hf3 _ _ (World.block_lt_of_cell? _ _ q0)).trans e0
  have g1 := (hf3 _ _ (World.block_lt_of_cell? _ _ q1)).trans e1
  obtain ⟨s0, s1⟩ := set_twoW (v0 := .int .i64 p1) (v1 := .int .i64 p2) k0 k1
  clear hc3 hf3 hb3 q0 q1 e0 e1
  go_wp2
  exact bodyPost_ret (v := .agg #[.int .i64 p1, .int .i64 p2]) (by simp [results, Tryz.results24, go_sem, s0, s1]) rfl ⟨rfl, (hB3.setCell (show w.heap.size ≤ w.heap.size + 1 by omega) _).setCell (show w.heap.size ≤ w.heap.size + 1 by omega) _⟩
/-- the instants, of any arguments. -/
def instD (l : List TurnD) (n : Int) : List Int := if tabB l = true ∧ isB n (-62135596800) 253402300799 = true then instL l n else []
theorem instD_yes {l : List TurnD} {n : Int} (h : tabB l = true) (h2 : isB n (-62135596800) 253402300799 = true) : instD l n = instL l n := by unfold instD; rw [if_pos ⟨h, h2⟩]
end Go.Proofs.YtcelbkmnbjcjhaaGreat
namespace Go.Proofs.YtcelbkmnbjcjhaaGreat
open Go.RowKit

/-- the turn in force at an instant. -/
structure InF (l : List TurnD) (n : Int) (k : Nat) (x : TurnD) : Prop where
 at_ : l[k]? = some x
 lo : x.at_ ≤ n
 hi : ∀ y, l[k + 1]? = some y → n < y.at_
theorem inf_from {l : List TurnD} {n : Int} : ∀ (d k : Nat) (x : TurnD), l[k]? = some x → x.at_ ≤ n → l.length - k ≤ d + 1 → ∃ k x, InF l n k x
 | 0, k, x, h, h1, hd => ⟨k, x, h, h1, fun y hy => by have := (List.getElem?_eq_some_iff.1 hy).1; omega⟩
 | d + 1, k, x, h, h1, hd => by
  cases hy : l[k + 1]? with
  | none => exact ⟨k, x, h, h1, fun y h2 => by rw [hy] at h2; cases h2⟩
  | some y =>
   by_cases hn : y.at_ ≤ n
   ·
    exact inf_from d (k + 1) y hy hn (by omega)
   ·
    exact ⟨k, x, h, h1, fun z h2 => by rw [hy] at h2; obtain rfl := Option.some.inj h2; omega⟩
theorem inf_ex {l : List TurnD} (hT : TabR l) {n : Int} (h : -62135596800 ≤ n) : ∃ k x, InF l n k x := by
 obtain ⟨a, ha⟩ : ∃ a, l[0]? = some a := ⟨_, List.getElem?_eq_getElem (by have := hT.len; omega)⟩
 exact inf_from l.length 0 a ha (by rw [hT.first a ha]; exact h) (by omega)
theorem tim_of {n : Int} (h : isB n (-62135596800) 253402300799 = true) : -62135596800 ≤ n ∧ n ≤ 253402300799 := isB_of_t h
theorem str_last {l : List TurnD} {k : Nat} {y : TurnD} (h : l[k + 1]? = some y) : (strAt l k).last = y.at_ - 1 := by unfold strAt; simp only [h]
theorem str_lastN {l : List TurnD} {k : Nat} (h : l[k + 1]? = none) : (strAt l k).last = 253402300799 := by unfold strAt; simp only [h]
theorem str_own {l : List TurnD} {k : Nat} {x : TurnD} (h : l[k]? = some x) : (strAt l k).own = x.offset := by unfold strAt; simp only [h]; rfl
theorem lt_of_get {l : List TurnD} {k : Nat} {x : TurnD} (h : l[k]? = some x) : k < l.length := (List.getElem?_eq_some_iff.1 h).1
/-- an instant that lies in a stretch. -/
theorem inf_of_str {l : List TurnD} {k : Nat} {x : TurnD} {a : Int} (hx : l[k]? = some x) (h1 : (strAt l k).first ≤ a) (h2 : a ≤ (strAt l k).last) : InF l a k x := by
 rw [strAt_first hx] at h1
 refine ⟨hx, h1, fun y hy => ?_⟩
 rw [str_last hy] at h2
 omega
theorem str_of_inf {l : List TurnD} {k : Nat} {x : TurnD} {a : Int} (h : InF l a k x) (ha : a ≤ 253402300799) : (strAt l k).first ≤ a ∧ a ≤ (strAt l k).last := by
 refine ⟨by rw [strAt_first h.at_]; exact h.lo, ?_⟩
 cases hy : l[k + 1]? with
 | none => rw [str_lastN hy]; exact ha
 | some y => rw [str_last hy]; have := h.hi y hy; omega
theorem mem_inst {l : List TurnD} (hT : TabR l) {m a : Int} : a ∈ instL l m ↔ ∃ k x, l[k]? = some x ∧ a = m - x.offset ∧ (strAt l k).first ≤ a ∧ a ≤ (strAt l k).last := by
 unfold instL shownL
 rw [List.mem_map]
 constructor
 ·
  rintro ⟨s, hs, rfl⟩
  rw [List.mem_filter] at hs
  obtain ⟨j, hj, rfl⟩ := mem_uptoS hs.1
  obtain ⟨x, hx⟩ : ∃ x, l[j]? = some x := ⟨_, List.getElem?_eq_getElem hj⟩
  have hv := strK_val hT hj
  have h2 := hs.2
  unfold shownB at h2
  rw [Bool.and_eq_true, decide_eq_true_iff, decide_eq_true_iff, hv, str_own hx] at h2
  refine ⟨j, x, hx, by rw [hv, str_own hx], ?_, ?_⟩
  ·
   rw [hv, str_own hx]; exact h2.1
  ·
   rw [hv, str_own hx]; exact h2.2
 ·
  rintro ⟨k, x, hx, rfl, h1, h2⟩
  have hk := lt_of_get hx
  have hv := strK_val hT hk
  refine ⟨strK l k, ?_, by rw [hv, str_own hx]⟩
  rw [List.mem_filter]
  refine ⟨?_, ?_⟩
  ·
   unfold uptoS; rw [List.mem_map]; exact ⟨k, List.mem_range.2 hk, rfl⟩
  ·
   unfold shownB
   rw [Bool.and_eq_true, decide_eq_true_iff, decide_eq_true_iff, hv, str_own hx]
   exact ⟨h1, h2⟩
theorem str_bd {l : List TurnD} (hT : TabR l) {k : Nat} (hk : k < l.length) : -62135596800 ≤ (strAt l k).first ∧ (strAt l k).last ≤ 253402300799 := by
 have := strAt_ok hT hk
 unfold StrD.ok at this
 simp only [Bool.and_eq_true] at this
 exact ⟨(isB_of_t this.1).1, (isB_of_t this.2.1).2⟩
theorem inst_up {l : List TurnD} (m : Int) : (instD l m).Pairwise (· < ·) := by
 unfold instD
 split
 ·
  rename_i hh
  have hT := tab_of hh.1
  unfold instL shownL
  have h1 : (uptoS l l.length).Pairwise fun s t => s.1.last < t.1.first := by
   unfold uptoS
   rw [List.pairwise_map]
   refine List.Pairwise.imp_of_mem ?_ List.pairwise_lt_range
   intro i j hi hj hij
   rw [List.mem_range] at hi hj
   rw [strK_val hT hi, strK_val hT hj]
   obtain ⟨y, hy⟩ : ∃ y, l[i + 1]? = some y := ⟨_, List.getElem?_eq_getElem (by omega)⟩
   obtain ⟨z, hz⟩ : ∃ z, l[j]? = some z := ⟨_, List.getElem?_eq_getElem hj⟩
   rw [str_last hy, strAt_first hz]
   have := upT_le2 hT.up (show i + 1 ≤ j by omega) hy hz
   omega
  rw [List.pairwise_map]
  refine List.Pairwise.imp_of_mem ?_ (h1.filter _)
  intro s t hs ht hst
  have a1 := (List.mem_filter.1 hs).2
  have a2 := (List.mem_filter.1 ht).2
  unfold shownB at a1 a2
  rw [Bool.and_eq_true, decide_eq_true_iff, decide_eq_true_iff] at a1 a2
  omega
 ·
  exact List.Pairwise.nil
end Go.Proofs.YtcelbkmnbjcjhaaGreat
