/- The stretches of a right table: the iterator's contract. -/
import Derived.Test.YtjfonbnmdcpepaaWall1
import Derived.RangeFuncNested
import Derived.RangeFuncBound
import Derived.RangeFuncCalls
import Derived.RangeFuncLeaves
import Derived.RangeFuncBox
import Derived.Shelf.Abstract
import Derived.Shelf.RegionOpen
import Derived.WalkKit
import Derived.OwnWalkIn
import Derived.TacticsInMore
import Derived.LoopNIn
import Derived.LoopIn
import Derived.Maps.AppendAt
namespace Go.Proofs.Ytjfonbnmdcpepaa
open Go.RowKit Go.Shelf
attribute [local go_sem] Oper.semAt_some

/-- a stretch: its first instant and its last one, the offset ahead of it, its own. -/
structure StrD where
  first : Int
  last : Int
  ahead : Int
  own : Int
def StrD.v (s : StrD) : Value := .agg #[.int .i64 s.first, .int .i64 s.last, .int .i64 s.ahead, .int .i64 s.own]
def StrD.ok (s : StrD) : Bool := isB s.first (-62135596800) 253402300799 && (isB s.last (-62135596801) 253402300799 && (isB s.ahead (-100000) 100000 && isB s.own (-100000) 100000))
abbrev StrK := { s : StrD // s.ok = true }
def strAt (l : List TurnD) (k : Nat) : StrD := ⟨(l[k]?.getD zeroT).at_, (match l[k + 1]? with | some t => t.at_ - 1 | none => 253402300799), (l[k - 1]?.getD zeroT).offset, (l[k]?.getD zeroT).offset⟩
def strK (l : List TurnD) (k : Nat) : StrK := if h : (strAt l k).ok = true then ⟨strAt l k, h⟩ else ⟨⟨0, 0, 0, 0⟩, by decide⟩
theorem off_of {l : List TurnD} (hT : TabR l) {x : TurnD} (hx : x ∈ l) : isB x.offset (-100000) 100000 = true := by
  have := hT.one x hx
  unfold turnB at this
  rw [Bool.and_eq_true] at this
  exact this.1
theorem at_low {l : List TurnD} (hT : TabR l) {k : Nat} {x : TurnD} (hx : l[k]? = some x) : -62135596800 ≤ x.at_ := by
  have hl := hT.len
  obtain ⟨f, hf⟩ : ∃ r, l[0]? = some r := ⟨_, List.getElem?_eq_getElem (by omega)⟩
  have := upT_le2 hT.up (Nat.zero_le k) hf hx
  rw [hT.first f hf] at this
  exact this
theorem strAt_ok {l : List TurnD} (hT : TabR l) {k : Nat} (hk : k < l.length) : (strAt l k).ok = true := by
  obtain ⟨x, hx⟩ : ∃ x, l[k]? = some x := ⟨_, List.getElem?_eq_getElem hk⟩
  obtain ⟨p, hp⟩ : ∃ x, l[k - 1]? = some x := ⟨_, List.getElem?_eq_getElem (by omega)⟩
  have h1 := off_of hT (List.mem_of_getElem? hx)
  have h2 := off_of hT (List.mem_of_getElem? hp)
  have h3 := hT.top k x hx
  have h4 := at_low hT hx
  unfold StrD.ok strAt
  rw [hx, hp]
  simp only [Option.getD_some, h1, h2, Bool.and_true]
  rw [isB_t h4 h3, Bool.true_and]
  cases hy : l[k + 1]? with
  | none => exact isB_t (by show (-62135596801 : Int) ≤ 253402300799; omega) (by show (253402300799 : Int) ≤ 253402300799; omega)
  | some y => exact isB_t (by have := at_low hT hy; simp only; omega) (by have := hT.top _ y hy; simp only; omega)
theorem strK_val {l : List TurnD} (hT : TabR l) {k : Nat} (hk : k < l.length) : (strK l k).1 = strAt l k := by
  unfold strK
  rw [dif_pos (strAt_ok hT hk)]
/-- what has come when k rounds are over. -/
def uptoS (l : List TurnD) (k : Nat) : List StrK := (List.range k).map (strK l)
theorem uptoS_succ (l : List TurnD) (k : Nat) : uptoS l (k + 1) = uptoS l k ++ [strK l k] := by simp [uptoS, List.range_succ]
theorem uptoS_length (l : List TurnD) (k : Nat) : (uptoS l k).length = k := by simp [uptoS]
/-- what a round keeps: what lay below, and each block of a table or a turn. -/
def TKeep (W W' : World) : Prop := ∀ (k : Nat) (t : TypeId) (cs : Array Value), (t = 25 ∨ t = 32) → W.heap[k]? = some (.cells cs t (0, 0)) → W'.heap[k]? = some (.cells cs t (0, 0))
def KpS (n₀ : Nat) (W W' : World) : Prop := Below n₀ W W' ∧ TKeep W W'
theorem KpS_t {n₀ : Nat} {A B C : World} (h : KpS n₀ A B) (k : KpS n₀ B C) : KpS n₀ A C := ⟨h.1.trans k.1, fun i t cs ht hi => k.2 i t cs ht (h.2 i t cs ht hi)⟩
theorem KpS_b {n₀ : Nat} {w : World} (hn : n₀ ≤ w.heap.size) (W : World) (l : Nat) (o o' : Obj) (hl : w.heap.size ≤ l) (h : W.heap[l]? = some o) (hc : o.isCells = false) (hw : o.isWalk = false) : KpS n₀ W (W.putObj l o') :=
  ⟨belowK_b hn W l o o' hl h hc hw, fun k t cs _ hk => by
    refine (World.putObj_heap_other fun e => ?_).trans hk
    subst e
    rw [h] at hk
    cases hk
    cases hc⟩
theorem TKeep.refl (W : World) : TKeep W W := fun _ _ _ _ h => h
theorem TKeep.alloc (W : World) (o : Obj) : TKeep W (W.alloc o) := fun k _ _ _ h => (Below.heap_alloc W o k (Array.getElem?_eq_some_iff.1 h).1).trans h
theorem TKeep.trans {A B C : World} (h : TKeep A B) (k : TKeep B C) : TKeep A C := fun i t cs ht hi => k i t cs ht (h i t cs ht hi)
theorem TKeep.set {W : World} {b : Nat} {cs0 : Array Value} {t0 : TypeId} (hb : W.heap[b]? = some (.cells cs0 t0 (0, 0))) (h1 : t0 ≠ 25) (h2 : t0 ≠ 32) (i : Nat) (v : Value) : TKeep W (W.setCell ⟨b, i, none⟩ v) := fun k t cs ht hk => by
  refine (Below.heap_setCell W ⟨b, i, none⟩ v k fun e => ?_).trans hk
  have e : k = b := by first | exact e | exact e.symm
  subst e
  rw [hb] at hk
  cases hk
  rcases ht with h | h
  · exact h1 h
  · exact h2 h
set_option maxHeartbeats 1000000 in
theorem stretches_in (F : Fence) (n : Nat) (h : F.fn 78) (hro : F.round = none) (a : Option Addr) (len cap : Nat) (w : World) :
    CallsIn F n Try.prog 78 #[.agg #[.slice a len cap]] w fun e w' => e = .returned (.func (.func 95) #[] #[.pointer (some ⟨w.heap.size, 0, none⟩)]) ∧ w' = w.alloc (.cells #[.slice a len cap] 25) := by
  refine callsIn_of_wp Try.func78 rfl h ?_ hro
  simp only [Try.ntmps78, List.size_toArray, List.length_cons, List.length_nil, Nat.reduceAdd, Nat.reduceSub, Array.replicate_succ, Array.replicate_zero, List.push_toArray, List.append_toArray, List.nil_append, List.cons_append]
  gi_wp2
  go_ret
  exact ⟨rfl, rfl⟩
end Go.Proofs.Ytjfonbnmdcpepaa
