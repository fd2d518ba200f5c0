/- Releases in memory; how much they hold. -/
import Derived.Test.YtjfonbnmdcpepaaBasic
namespace Go.Proofs.Ytjfonbnmdcpepaa
open Go.RowKit

/-- a rule. -/
structure RuleD where
  name : ByteArray
  lo : Int
  hi : Int
  month : Int
  on : ByteArray
  at_ : Int
  of : ByteArray
  save : Int
  letter : ByteArray
def RuleD.cs (r : RuleD) : List Value := [.string r.name, .int .i64 r.lo, .int .i64 r.hi, .int .i64 r.month, .string r.on, .int .i64 r.at_, .string r.of, .int .i64 r.save, .string r.letter]
def RuleD.v (r : RuleD) : Value := .agg #[.string r.name, .int .i64 r.lo, .int .i64 r.hi, .int .i64 r.month, .string r.on, .int .i64 r.at_, .string r.of, .int .i64 r.save, .string r.letter]
/-- how many letters it holds. -/
def RuleD.sz (r : RuleD) : Nat := r.name.size + r.on.size + r.of.size + r.letter.size
/-- a list in memory: k cells each. -/
def SeqAt (w : World) (a : Option Addr) (k : Nat) (rows : List (List Value)) : Prop :=
  rows = [] ∨ ∃ b o, a = some ⟨b, o, none⟩ ∧ ∀ i j r c, rows[i]? = some r → r[j]? = some c → w.cell? ⟨b, o + i * k + j, none⟩ = some c
/-- what is left. -/
def clip (x : Int) : Int := if x < 0 then -1 else x
theorem clip_n {x : Int} (h : x < 0) : clip x = -1 := if_pos h
theorem clip_p {x : Int} (h : 0 ≤ x) : clip x = x := if_neg (by omega)
def rsz (l : List RuleD) : Nat := (l.map RuleD.sz).sum
theorem rsz_take {l : List RuleD} {k : Nat} {r : RuleD} (h : l[k]? = some r) : rsz (l.take (k + 1)) = rsz (l.take k) + r.sz := by
  unfold rsz
  rw [List.take_add_one, h]
  simp
theorem rsz_le (l : List RuleD) (k : Nat) : rsz (l.take k) ≤ rsz l := by
  have := congrArg (fun l => (l.map RuleD.sz).sum) (List.take_append_drop k l)
  simp only [List.map_append, List.sum_append] at this
  unfold rsz
  omega
/-- no text is too long for the machine. -/
def RuleD.ok (r : RuleD) : Prop := r.name.size ≤ maxLen ∧ r.on.size ≤ maxLen ∧ r.of.size ≤ maxLen ∧ r.letter.size ≤ maxLen
/-- the cells of a rule of a list. -/
theorem SeqAt.at {w : World} {a : Option Addr} {k : Nat} {rows : List (List Value)} (h : SeqAt w a k rows) {i : Nat} {r : List Value} (hi : rows[i]? = some r) : ∃ b o, a = some ⟨b, o, none⟩ ∧ ∀ j c, r[j]? = some c → w.cell? ⟨b, o + i * k + j, none⟩ = some c := by
  rcases h with rfl | ⟨b, o, ha, hc⟩
  · simp at hi
  · exact ⟨b, o, ha, fun j c hj => hc i j r c hi hj⟩
theorem SeqAt.below {w w' : World} {a : Option Addr} {k : Nat} {rows : List (List Value)} (h : SeqAt w a k rows) (hb : Below w.heap.size w w') : SeqAt w' a k rows := by
  rcases h with h | ⟨b, o, ha, hc⟩
  · exact .inl h
  · exact .inr ⟨b, o, ha, fun i j r c hi hj => by
      have := hc i j r c hi hj
      rw [(bcell hb).1 _ _ (World.block_lt_of_cell? _ _ this)]; exact this⟩
end Go.Proofs.Ytjfonbnmdcpepaa
