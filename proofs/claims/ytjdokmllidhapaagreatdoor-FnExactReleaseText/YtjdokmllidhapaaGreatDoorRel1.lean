/- Releases in memory; how much they hold. -/
import Derived.Test.YtjdokmllidhapaaGreatDoorBasic
namespace Go.Proofs.YtjdokmllidhapaaGreatDoor
open Go.RowKit

/-- a rule. -/
structure RuleD where
  name : ByteArray
  lo : Int
  hi : Int
  month : Int
  on : ByteArray
  at_ : Int
  of : ByteArray
  save : Int
  letter : ByteArray
def RuleD.cs (r : RuleD) : List Value := [.string r.name, .int .i64 r.lo, .int .i64 r.hi, .int .i64 r.month, .string r.on, .int .i64 r.at_, .string r.of, .int .i64 r.save, .string r.letter]
def RuleD.v (r : RuleD) : Value := .agg #[.string r.name, .int .i64 r.lo, .int .i64 r.hi, .int .i64 r.month, .string r.on, .int .i64 r.at_, .string r.of, .int .i64 r.save, .string r.letter]
/-- how many letters it holds. -/
def RuleD.sz (r : RuleD) : Nat := r.name.size + r.on.size + r.of.size + r.letter.size
/-- a list in memory: k cells each. -/
def SeqAt (w : World) (a : Option Addr) (k : Nat) (rows : List (List Value)) : Prop :=
  rows = [] ∨ ∃ b o, a = some ⟨b, o, none⟩ ∧ ∀ i j r c, rows[i]? = some r → r[j]? = some c → w.cell? ⟨b, o + i * k + j, none⟩ = some c
/-- what is left. -/
def clip (x : Int) : Int := if x < 0 then -1 else x
theorem clip_n {x : Int} (h : x < 0) : clip x = -1 := if_pos h
theorem clip_p {x : Int} (h : 0 ≤ x) : clip x = x := if_neg (by omega)
set_option maxHeartbeats 1000000 in
theorem laws_szRule (r : RuleD) (n : Int) (w : World) (h0 : 0 ≤ n) (h1 : n ≤ 1048576) (m1 : r.name.size ≤ maxLen) (m2 : r.on.size ≤ maxLen) (m3 : r.of.size ≤ maxLen) (m4 : r.letter.size ≤ maxLen) :
    Calls Tryz.prog 120 #[r.v, .int .i64 n] w fun e w' => e = .returned (.int .i64 (clip (n - r.sz))) ∧ Below w.heap.size w w' := by
  unfold maxLen at *
  obtain ⟨name, lo, hi, month, on, at_, of, save, letter⟩ := r
  simp only [RuleD.v, RuleD.sz] at *
  by_cases g1 : n < name.size
  · have HR : Hid (clip (n - ↑(name.size + on.size + of.size + letter.size)) = -1) := clip_n (by omega)
    go_enter Tryz.func120, Tryz.ntmps120
    go_wp2
    go_ret
    exact ⟨ret_int HR.out.symm, (Below.refl _ _).alloc (Nat.le_refl _) _⟩
  by_cases g2 : n < name.size + on.size
  · have HR : Hid (clip (n - ↑(name.size + on.size + of.size + letter.size)) = -1) := clip_n (by omega)
    go_enter Tryz.func120, Tryz.ntmps120
    go_wp2
    go_ret
    exact ⟨ret_int HR.out.symm, (Below.refl _ _).alloc (Nat.le_refl _) _⟩
  by_cases g3 : n < name.size + on.size + of.size
  · have HR : Hid (clip (n - ↑(name.size + on.size + of.size + letter.size)) = -1) := clip_n (by omega)
    go_enter Tryz.func120, Tryz.ntmps120
    go_wp2
    go_ret
    exact ⟨ret_int HR.out.symm, (Below.refl _ _).alloc (Nat.le_refl _) _⟩
  by_cases g4 : n < name.size + on.size + of.size + letter.size
  · have HR : Hid (clip (n - ↑(name.size + on.size + of.size + letter.size)) = -1) := clip_n (by omega)
    go_enter Tryz.func120, Tryz.ntmps120
    go_wp2
    go_ret
    exact ⟨ret_int HR.out.symm, (Below.refl _ _).alloc (Nat.le_refl _) _⟩
  · go_enter Tryz.func120, Tryz.ntmps120
    go_wp2
    go_ret
    exact ⟨ret_int (by rw [clip_p (by omega)]; omega), (Below.refl _ _).alloc (Nat.le_refl _) _⟩
def rsz (l : List RuleD) : Nat := (l.map RuleD.sz).sum
theorem rsz_take {l : List RuleD} {k : Nat} {r : RuleD} (h : l[k]? = some r) : rsz (l.take (k + 1)) = rsz (l.take k) + r.sz := by
  unfold rsz
  rw [List.take_add_one, h]
  simp
theorem rsz_le (l : List RuleD) (k : Nat) : rsz (l.take k) ≤ rsz l := by
  have := congrArg (fun l => (l.map RuleD.sz).sum) (List.take_append_drop k l)
  simp only [List.map_append, List.sum_append] at this
  unfold rsz
  omega
/-- no text is too long for the machine. -/
def RuleD.ok (r : RuleD) : Prop := r.name.size ≤ maxLen ∧ r.on.size ≤ maxLen ∧ r.of.size ≤ maxLen ∧ r.letter.size ≤ maxLen
/-- the cells of a rule of a list. -/
theorem SeqAt.at {w : World} {a : Option Addr} {k : Nat} {rows : List (List Value)} (h : SeqAt w a k rows) {i : Nat} {r : List Value} (hi : rows[i]? = some r) : ∃ b o, a = some ⟨b, o, none⟩ ∧ ∀ j c, r[j]? = some c → w.cell? ⟨b, o + i * k + j, none⟩ = some c := by
  rcases h with rfl | ⟨b, o, ha, hc⟩
  · simp at hi
  · exact ⟨b, o, ha, fun j c hj => hc i j r c hi hj⟩
theorem SeqAt.below {w w' : World} {a : Option Addr} {k : Nat} {rows : List (List Value)} (h : SeqAt w a k rows) (hb : Below w.heap.size w w') : SeqAt w' a k rows := by
  rcases h with h | ⟨b, o, ha, hc⟩
  · exact .inl h
  · exact .inr ⟨b, o, ha, fun i j r c hi hj => by
      have := hc i j r c hi hj
      rw [(bcell hb).1 _ _ (World.block_lt_of_cell? _ _ this)]; exact this⟩
set_option maxHeartbeats 2000000 in
theorem laws_szRuleS (l : List RuleD) (a : Option Addr) (cap : Nat) (n : Int) (w : World) (hA : SeqAt w a 9 (l.map RuleD.cs)) (hok : ∀ r ∈ l, r.ok) (hl : l.length ≤ maxLen) (h0 : 0 ≤ n) (h1 : n ≤ 1048576) :
    Calls Tryz.prog 59 #[.slice a l.length cap, .int .i64 n] w fun e w' => e = .returned (.int .i64 (clip (n - (l.length + rsz l)))) ∧ Below w.heap.size w w' := by
  unfold maxLen at hl
  by_cases g0 : n < l.length
  · have HR : Hid (clip (n - (l.length + rsz l)) = -1) := clip_n (by omega)
    go_enter Tryz.func59, Tryz.ntmps59
    go_wp2
    go_ret
    exact ⟨ret_int HR.out.symm, Below.refl _ _⟩
  go_enter Tryz.func59, Tryz.ntmps59
  go_wp2
  go_loopw [1, 5] (fun x i wr => ∃ k : Nat, k ≤ l.length ∧ i = .int .i64 k ∧ x = .int .i64 (n - l.length - rsz (l.take k)) ∧ Hid (0 ≤ n - l.length - rsz (l.take k)) ∧ Below w.heap.size w wr) (fun _ i _ => l.length - (intOf i).toNat)
  case atStart => exact ⟨0, by omega, rfl, by simp [rsz], by simp [rsz, Hid]; omega, Below.refl _ _⟩
  case round =>
    obtain ⟨k, hk, rfl, rfl, hp, hB⟩ := hrel
    by_cases hlt : k < l.length
    · obtain ⟨r, hr⟩ : ∃ r, l[k]? = some r := ⟨_, List.getElem?_eq_getElem hlt⟩
      obtain ⟨b, o, rfl, hc⟩ := (hA.below hB).at (i := k) (r := r.cs) (by rw [List.getElem?_map, hr]; rfl)
      have ok := hok r (List.mem_of_getElem? hr)
      have hp' := hp.out
      have ht := rsz_take hr
      have hle := rsz_le l (k + 1)
      have hS := fun w => laws_szRule r (n - l.length - rsz (l.take k)) w (by omega) (by omega) ok.1 ok.2.1 ok.2.2.1 ok.2.2.2
      have c0 : wr.cell? ⟨b, o + k * 9, none⟩ = some (.string r.name) := hc 0 _ rfl
      have c1 := hc 1 _ rfl
      have c2 := hc 2 _ rfl
      have c3 := hc 3 _ rfl
      have c4 := hc 4 _ rfl
      have c5 := hc 5 _ rfl
      have c6 := hc 6 _ rfl
      have c7 := hc 7 _ rfl
      have c8 := hc 8 _ rfl
      clear hc
      unfold RuleD.v at hS
      by_cases g : n - l.length - rsz (l.take k) - r.sz < 0
      · have HR : Hid (clip (n - (l.length + rsz l)) = -1) := clip_n (by omega)
        rw [clip_n g] at hS
        go_wp2_with fail
        refine (hS _).mono ?_
        rintro e w2 ⟨rfl, hb2⟩
        go_wp2
        go_ret
        exact ⟨ret_int HR.out.symm, hB.trans (hb2.mono hB.size)⟩
      · rw [clip_p (by omega)] at hS
        have HN : Hid (n - l.length - rsz (l.take k) - r.sz = n - l.length - rsz (l.take (k + 1))) := by simp only [Hid]; omega
        go_wp2_with fail
        refine (hS _).mono ?_
        rintro e w2 ⟨rfl, hb2⟩
        go_wp2
        go_roundw
        case rel => exact ⟨k + 1, by omega, by go_num, by rw [HN.out], by have := HN.out; simp only [Hid]; omega, hB.trans (hb2.mono hB.size)⟩
        case measure => simp [intOf]; omega
    · have e : k = l.length := by omega
      subst e
      have HR : Hid (clip (n - (l.length + rsz l)) = n - l.length - rsz (l.take l.length)) := by
        have := hp.out
        simp only [Hid]
        rw [List.take_length] at this ⊢
        rw [clip_p (by omega)]; omega
      go_wp2
      go_ret
      exact ⟨ret_int HR.out.symm, hB⟩
end Go.Proofs.YtjdokmllidhapaaGreatDoor
