/- Packed: Rel1 Rel2 RelEra RelZone RelZone2 RelRule RelLink RelRel RelRel2. -/
import Derived.Test.YtbbhpfobcelbfaaGreatDoorBasePt
import Derived.Laws.OwnMore
import Derived.Lib.QuietBelow
namespace Go.Proofs.YtbbhpfobcelbfaaGreatDoor
open Go.RowKit

/-- a rule. -/
structure RuleD where
  name : ByteArray
  lo : Int
  hi : Int
  month : Int
  on : ByteArray
  at_ : Int
  of : ByteArray
  save : Int
  letter : ByteArray
def RuleD.cs (r : RuleD) : List Value := [.string r.name, .int .i64 r.lo, .int .i64 r.hi, .int .i64 r.month, .string r.on, .int .i64 r.at_, .string r.of, .int .i64 r.save, .string r.letter]
def RuleD.v (r : RuleD) : Value := .agg #[.string r.name, .int .i64 r.lo, .int .i64 r.hi, .int .i64 r.month, .string r.on, .int .i64 r.at_, .string r.of, .int .i64 r.save, .string r.letter]
/-- how many letters it holds. -/
def RuleD.sz (r : RuleD) : Nat := r.name.size + r.on.size + r.of.size + r.letter.size
/-- a list in memory: k cells each. -/
def SeqAt (w : World) (a : Option Addr) (k : Nat) (rows : List (List Value)) : Prop :=
  rows = [] ∨ ∃ b o, a = some ⟨b, o, none⟩ ∧ ∀ i j r c, rows[i]? = some r → r[j]? = some c → w.cell? ⟨b, o + i * k + j, none⟩ = some c
/-- what is left. -/
def clip (x : Int) : Int := if x < 0 then -1 else x
theorem clip_n {x : Int} (h : x < 0) : clip x = -1 := if_pos h
theorem clip_p {x : Int} (h : 0 ≤ x) : clip x = x := if_neg (by omega)
set_option maxHeartbeats 1000000 in
theorem laws_szRule (r : RuleD) (n : Int) (w : World) (h0 : 0 ≤ n) (h1 : n ≤ 1048576) (m1 : r.name.size ≤ maxLen) (m2 : r.on.size ≤ maxLen) (m3 : r.of.size ≤ maxLen) (m4 : r.letter.size ≤ maxLen) :
    Calls Tryz.prog 103 #[r.v, .int .i64 n] w fun e w' => e = .returned (.int .i64 (clip (n - r.sz))) ∧ Below w.heap.size w w' := by
  unfold maxLen at *
  obtain ⟨name, lo, hi, month, on, at_, of, save, letter⟩ := r
  simp only [RuleD.v, RuleD.sz] at *
  by_cases g1 : n < name.size
  · have HR : Hid (clip (n - ↑(name.size + on.size + of.size + letter.size)) = -1) := clip_n (by omega)
    go_enter Tryz.func103, Tryz.ntmps103
    go_wp2
    go_ret
    exact ⟨ret_int HR.out.symm, (Below.refl _ _).alloc (Nat.le_refl _) _⟩
  by_cases g2 : n < name.size + on.size
  · have HR : Hid (clip (n - ↑(name.size + on.size + of.size + letter.size)) = -1) := clip_n (by omega)
    go_enter Tryz.func103, Tryz.ntmps103
    go_wp2
    go_ret
    exact ⟨ret_int HR.out.symm, (Below.refl _ _).alloc (Nat.le_refl _) _⟩
  by_cases g3 : n < name.size + on.size + of.size
  · have HR : Hid (clip (n - ↑(name.size + on.size + of.size + letter.size)) = -1) := clip_n (by omega)
    go_enter Tryz.func103, Tryz.ntmps103
    go_wp2
    go_ret
    exact ⟨ret_int HR.out.symm, (Below.refl _ _).alloc (Nat.le_refl _) _⟩
  by_cases g4 : n < name.size + on.size + of.size + letter.size
  · have HR : Hid (clip (n - ↑(name.size + on.size + of.size + letter.size)) = -1) := clip_n (by omega)
    go_enter Tryz.func103, Tryz.ntmps103
    go_wp2
    go_ret
    exact ⟨ret_int HR.out.symm, (Below.refl _ _).alloc (Nat.le_refl _) _⟩
  · go_enter Tryz.func103, Tryz.ntmps103
    go_wp2
    go_ret
    exact ⟨ret_int (by rw [clip_p (by omega)]; omega), (Below.refl _ _).alloc (Nat.le_refl _) _⟩
def rsz (l : List RuleD) : Nat := (l.map RuleD.sz).sum
theorem rsz_take {l : List RuleD} {k : Nat} {r : RuleD} (h : l[k]? = some r) : rsz (l.take (k + 1)) = rsz (l.take k) + r.sz := by
  unfold rsz
  rw [List.take_add_one, h]
  simp
theorem rsz_le (l : List RuleD) (k : Nat) : rsz (l.take k) ≤ rsz l := by
  have := congrArg (fun l => (l.map RuleD.sz).sum) (List.take_append_drop k l)
  simp only [List.map_append, List.sum_append] at this
  unfold rsz
  omega
/-- no text is too long for the machine. -/
def RuleD.ok (r : RuleD) : Prop := r.name.size ≤ maxLen ∧ r.on.size ≤ maxLen ∧ r.of.size ≤ maxLen ∧ r.letter.size ≤ maxLen
/-- the cells of a rule of a list. -/
theorem SeqAt.at {w : World} {a : Option Addr} {k : Nat} {rows : List (List Value)} (h : SeqAt w a k rows) {i : Nat} {r : List Value} (hi : rows[i]? = some r) : ∃ b o, a = some ⟨b, o, none⟩ ∧ ∀ j c, r[j]? = some c → w.cell? ⟨b, o + i * k + j, none⟩ = some c := by
  rcases h with rfl | ⟨b, o, ha, hc⟩
  · simp at hi
  · exact ⟨b, o, ha, fun j c hj => hc i j r c hi hj⟩
theorem SeqAt.below {w w' : World} {a : Option Addr} {k : Nat} {rows : List (List Value)} (h : SeqAt w a k rows) (hb : Below w.heap.size w w') : SeqAt w' a k rows := by
  rcases h with h | ⟨b, o, ha, hc⟩
  · exact .inl h
  · exact .inr ⟨b, o, ha, fun i j r c hi hj => by
      have := hc i j r c hi hj
      rw [(bcell hb).1 _ _ (World.block_lt_of_cell? _ _ this)]; exact this⟩
set_option maxHeartbeats 2000000 in
theorem laws_szRuleS (l : List RuleD) (a : Option Addr) (cap : Nat) (n : Int) (w : World) (hA : SeqAt w a 9 (l.map RuleD.cs)) (hok : ∀ r ∈ l, r.ok) (hl : l.length ≤ maxLen) (h0 : 0 ≤ n) (h1 : n ≤ 1048576) :
    Calls Tryz.prog 51 #[.slice a l.length cap, .int .i64 n] w fun e w' => e = .returned (.int .i64 (clip (n - (l.length + rsz l)))) ∧ Below w.heap.size w w' := by
  unfold maxLen at hl
  by_cases g0 : n < l.length
  · have HR : Hid (clip (n - (l.length + rsz l)) = -1) := clip_n (by omega)
    go_enter Tryz.func51, Tryz.ntmps51
    go_wp2
    go_ret
    exact ⟨ret_int HR.out.symm, Below.refl _ _⟩
  go_enter Tryz.func51, Tryz.ntmps51
  go_wp2
  go_loopw [1, 5] (fun x i wr => ∃ k : Nat, k ≤ l.length ∧ i = .int .i64 k ∧ x = .int .i64 (n - l.length - rsz (l.take k)) ∧ Hid (0 ≤ n - l.length - rsz (l.take k)) ∧ Below w.heap.size w wr) (fun _ i _ => l.length - (intOf i).toNat)
  case atStart => exact ⟨0, by omega, rfl, by simp [rsz], by simp [rsz, Hid]; omega, Below.refl _ _⟩
  case round =>
    obtain ⟨k, hk, rfl, rfl, hp, hB⟩ := hrel
    by_cases hlt : k < l.length
    · obtain ⟨r, hr⟩ : ∃ r, l[k]? = some r := ⟨_, List.getElem?_eq_getElem hlt⟩
      obtain ⟨b, o, rfl, hc⟩ := (hA.below hB).at (i := k) (r := r.cs) (by rw [List.getElem?_map, hr]; rfl)
      have ok := hok r (List.mem_of_getElem? hr)
      have hp' := hp.out
      have ht := rsz_take hr
      have hle := rsz_le l (k + 1)
      have hS := fun w => laws_szRule r (n - l.length - rsz (l.take k)) w (by omega) (by omega) ok.1 ok.2.1 ok.2.2.1 ok.2.2.2
      have c0 : wr.cell? ⟨b, o + k * 9, none⟩ = some (.string r.name) := hc 0 _ rfl
      have c1 := hc 1 _ rfl
      have c2 := hc 2 _ rfl
      have c3 := hc 3 _ rfl
      have c4 := hc 4 _ rfl
      have c5 := hc 5 _ rfl
      have c6 := hc 6 _ rfl
      have c7 := hc 7 _ rfl
      have c8 := hc 8 _ rfl
      clear hc
      unfold RuleD.v at hS
      by_cases g : n - l.length - rsz (l.take k) - r.sz < 0
      · have HR : Hid (clip (n - (l.length + rsz l)) = -1) := clip_n (by omega)
        rw [clip_n g] at hS
        go_wp2_with fail
        refine (hS _).mono ?_
        rintro e w2 ⟨rfl, hb2⟩
        go_wp2
        go_ret
        exact ⟨ret_int HR.out.symm, hB.trans (hb2.mono hB.size)⟩
      · rw [clip_p (by omega)] at hS
        have HN : Hid (n - l.length - rsz (l.take k) - r.sz = n - l.length - rsz (l.take (k + 1))) := by simp only [Hid]; omega
        go_wp2_with fail
        refine (hS _).mono ?_
        rintro e w2 ⟨rfl, hb2⟩
        go_wp2
        go_roundw
        case rel => exact ⟨k + 1, by omega, by go_num, by rw [HN.out], by have := HN.out; simp only [Hid]; omega, hB.trans (hb2.mono hB.size)⟩
        case measure => simp [intOf]; omega
    · have e : k = l.length := by omega
      subst e
      have HR : Hid (clip (n - (l.length + rsz l)) = n - l.length - rsz (l.take l.length)) := by
        have := hp.out
        simp only [Hid]
        rw [List.take_length] at this ⊢
        rw [clip_p (by omega)]; omega
      go_wp2
      go_ret
      exact ⟨ret_int HR.out.symm, hB⟩
end Go.Proofs.YtbbhpfobcelbfaaGreatDoor
namespace Go.Proofs.YtbbhpfobcelbfaaGreatDoor
open Go.RowKit

/-- a block with m cells that may be written. -/
def Room (w : World) (g m : Nat) : Prop := ∀ x, x < m → (∃ v, w.cell? ⟨g, x, none⟩ = some v) ∧ w.frozen? ⟨g, x, none⟩ = false
theorem Room.below {w w' : World} {g m : Nat} (h : Room w g m) (hb : Below w.heap.size w w') : Room w' g m := fun x hx => by
  obtain ⟨⟨v, hv⟩, hf⟩ := h x hx
  have hlt := World.block_lt_of_cell? _ _ hv
  exact ⟨⟨v, by rw [(bcell hb).1 _ _ hlt]; exact hv⟩, by rw [(bcell hb).2 _ _ hlt]; exact hf⟩
theorem Room.set {w : World} {g m : Nat} (h : Room w g m) (a : Addr) (v : Value) : Room (w.setCell a v) g m := fun x hx => by
  obtain ⟨⟨u, hu⟩, hf⟩ := h x hx
  exact ⟨cell?_setCell_some hu, by rw [World.frozen?_setCell]; exact hf⟩
/-- cells stored one behind the other. -/
def putAll (w : World) (g o : Nat) : List Value → World
  | [] => w
  | c :: cs => putAll (w.setCell ⟨g, o, none⟩ c) g (o + 1) cs
theorem putAll_room {g m : Nat} {cs : List Value} : ∀ {w : World} {o : Nat}, Room w g m → Room (putAll w g o cs) g m := by
  induction cs with
  | nil => intro w o h; exact h
  | cons c cs ih => intro w o h; exact ih (h.set _ _)
theorem putAll_far {cs : List Value} : ∀ {w : World} {g o : Nat} {b x : Nat}, (b ≠ g ∨ x < o ∨ o + cs.length ≤ x) → (putAll w g o cs).cell? ⟨b, x, none⟩ = w.cell? ⟨b, x, none⟩ := by
  induction cs with
  | nil => intros; rfl
  | cons c cs ih =>
    intro w g o b x h
    have hl : (c :: cs).length = cs.length + 1 := rfl
    rw [putAll, ih (by omega), World.cell?_setCell_other]
    intro e
    injection e with e1 e2
    omega
theorem putAll_at {cs : List Value} : ∀ {w : World} {g o m : Nat} {j : Nat} {c : Value}, Room w g m → o + cs.length ≤ m → cs[j]? = some c → (putAll w g o cs).cell? ⟨g, o + j, none⟩ = some c := by
  induction cs with
  | nil => intro w g o m j c _ _ h; simp at h
  | cons d cs ih =>
    intro w g o m j c hR hm h
    have hl : (d :: cs).length = cs.length + 1 := rfl
    cases j with
    | zero =>
      simp at h
      subst h
      rw [putAll, putAll_far (by omega)]
      obtain ⟨⟨u, hu⟩, _⟩ := hR o (by omega)
      exact World.cell?_setCell_same _ _ _ hu
    | succ j =>
      have := ih (w := w.setCell ⟨g, o, none⟩ d) (g := g) (o := o + 1) (m := m) (j := j) (c := c) (hR.set _ _) (by omega) (by simpa using h)
      rw [putAll, show o + (j + 1) = o + 1 + j by omega]
      exact this
theorem putAll_below {cs : List Value} : ∀ {w0 w : World} {n g o : Nat}, Below n w0 w → n ≤ g → Below n w0 (putAll w g o cs) := by
  induction cs with
  | nil => intro w0 w n g o h _; exact h
  | cons c cs ih => intro w0 w n g o h hg; exact ih (h.setCell hg _) hg
/-- the first k rows stand there. -/
def Filled (w : World) (g q k : Nat) (rows : List (List Value)) : Prop := ∀ i j r c, i < k → rows[i]? = some r → r[j]? = some c → w.cell? ⟨g, i * q + j, none⟩ = some c
theorem Filled.below {w w' : World} {g q k : Nat} {rows : List (List Value)} (h : Filled w g q k rows) (hb : Below w.heap.size w w') : Filled w' g q k rows := fun i j r c hi hr hc => by
  have := h i j r c hi hr hc
  rw [(bcell hb).1 _ _ (World.block_lt_of_cell? _ _ this)]; exact this
theorem Filled.put {w : World} {g q k m : Nat} {rows : List (List Value)} {r : List Value} (h : Filled w g q k rows) (hR : Room w g m) (hr : rows[k]? = some r) (hq : r.length = q) (hm : k * q + q ≤ m) (hlen : ∀ r ∈ rows, r.length = q) : Filled (putAll w g (k * q) r) g q (k + 1) rows := fun i j r' c hi hr' hc => by
  by_cases e : i = k
  · subst e
    rw [hr] at hr'
    obtain rfl := Option.some.inj hr'
    exact putAll_at hR (by omega) hc
  · have hj : j < q := by
      have := hlen r' (List.mem_of_getElem? hr')
      have := (List.getElem?_eq_some_iff.mp hc).1
      omega
    have hik : i * q + q ≤ k * q := by
      have : (i + 1) * q ≤ k * q := Nat.mul_le_mul_right q (by omega)
      rw [Nat.add_mul] at this; omega
    rw [putAll_far (by omega)]
    exact h i j r' c (by omega) hr' hc
theorem Filled.seq {w : World} {g q : Nat} {rows : List (List Value)} (h : Filled w g q rows.length rows) : SeqAt w (some ⟨g, 0, none⟩) q rows :=
  .inr ⟨g, 0, rfl, fun i j r c hr hc => by rw [show 0 + i * q + j = i * q + j by omega]; exact h i j r c (List.getElem?_eq_some_iff.mp hr).1 hr hc⟩
/-- the block that a make gives. -/
theorem room_of {w : World} {base g n q : Nat} {e : TypeId} {xs : List Value} (h : w.ownsRow base e q (.slice (some ⟨g, 0, none⟩) n n) n xs) : Room w g (n * q) := by
  rcases h.2 with ⟨h0, _⟩ | ⟨g', cap, cur, h1, _, hh, _, _, hs, _⟩
  · cases h0
  · injection h1 with h1 h2 h3
    injection h1 with h1
    injection h1 with h1
    subst h1 h3
    intro x hx
    have hx' : x < cur.size := by omega
    exact ⟨⟨cur[x], by simp [World.cell?, hh, hx']⟩, by simp [World.frozen?, hh]⟩
end Go.Proofs.YtbbhpfobcelbfaaGreatDoor
namespace Go.Proofs.YtbbhpfobcelbfaaGreatDoor
open Go.RowKit Go.Sort

structure EraD where
  offset : Int
  rules : ByteArray
  save : Int
  format : ByteArray
  until_ : Int
  of : ByteArray
def EraD.cs (r : EraD) : List Value := [.int .i64 r.offset, .string r.rules, .int .i64 r.save, .string r.format, .int .i64 r.until_, .string r.of]
def EraD.v (r : EraD) : Value := .agg #[.int .i64 r.offset, .string r.rules, .int .i64 r.save, .string r.format, .int .i64 r.until_, .string r.of]
def EraD.sz (r : EraD) : Nat := r.rules.size + r.format.size + r.of.size
def EraD.ok (r : EraD) : Prop := r.rules.size ≤ maxLen ∧ r.format.size ≤ maxLen ∧ r.of.size ≤ maxLen
set_option maxHeartbeats 1000000 in
theorem laws_szEra (r : EraD) (n : Int) (w : World) (h0 : 0 ≤ n) (h1 : n ≤ 1048576) (hm : r.ok) :
    Calls Tryz.prog 202 #[r.v, .int .i64 n] w fun e w' => e = .returned (.int .i64 (clip (n - r.sz))) ∧ Below w.heap.size w w' := by
  obtain ⟨offset, rules, save, format, until_, of⟩ := r
  simp only [EraD.v, EraD.sz, EraD.ok] at *
  unfold maxLen at *
  by_cases g1 : n < rules.size
  · have HR : Hid (clip (n - ↑(rules.size + format.size + of.size)) = -1) := clip_n (by omega)
    go_enter Tryz.func202, Tryz.ntmps202
    go_wp2
    go_ret
    exact ⟨ret_int HR.out.symm, (Below.refl _ _).alloc (Nat.le_refl _) _⟩
  by_cases g2 : n < rules.size + format.size
  · have HR : Hid (clip (n - ↑(rules.size + format.size + of.size)) = -1) := clip_n (by omega)
    go_enter Tryz.func202, Tryz.ntmps202
    go_wp2
    go_ret
    exact ⟨ret_int HR.out.symm, (Below.refl _ _).alloc (Nat.le_refl _) _⟩
  by_cases g3 : n < rules.size + format.size + of.size
  · have HR : Hid (clip (n - ↑(rules.size + format.size + of.size)) = -1) := clip_n (by omega)
    go_enter Tryz.func202, Tryz.ntmps202
    go_wp2
    go_ret
    exact ⟨ret_int HR.out.symm, (Below.refl _ _).alloc (Nat.le_refl _) _⟩
  go_enter Tryz.func202, Tryz.ntmps202
  go_wp2
  go_ret
  exact ⟨ret_int (by rw [clip_p (by omega)]; try omega), (Below.refl _ _).alloc (Nat.le_refl _) _⟩
def esz (l : List EraD) : Nat := (l.map EraD.sz).sum
theorem esz_take {l : List EraD} {k : Nat} {r : EraD} (h : l[k]? = some r) : esz (l.take (k + 1)) = esz (l.take k) + r.sz := by
  unfold esz
  rw [List.take_add_one, h]
  simp
theorem esz_le (l : List EraD) (k : Nat) : esz (l.take k) ≤ esz l := by
  have := congrArg (fun l => (l.map EraD.sz).sum) (List.take_append_drop k l)
  simp only [List.map_append, List.sum_append] at this
  unfold esz
  omega
set_option maxHeartbeats 2000000 in
theorem laws_szEraS (l : List EraD) (a : Option Addr) (cap : Nat) (n : Int) (w : World) (hA : SeqAt w a 6 (l.map EraD.cs)) (hok : ∀ r ∈ l, r.ok) (hl : l.length ≤ maxLen) (h0 : 0 ≤ n) (h1 : n ≤ 1048576) :
    Calls Tryz.prog 168 #[.slice a l.length cap, .int .i64 n] w fun e w' => e = .returned (.int .i64 (clip (n - (l.length + esz l)))) ∧ Below w.heap.size w w' := by
  unfold maxLen at hl
  by_cases g0 : n < l.length
  · have HR : Hid (clip (n - (l.length + esz l)) = -1) := clip_n (by omega)
    go_enter Tryz.func168, Tryz.ntmps168
    go_wp2
    go_ret
    exact ⟨ret_int HR.out.symm, Below.refl _ _⟩
  go_enter Tryz.func168, Tryz.ntmps168
  go_wp2
  go_loopw [1, 5] (fun x i wr => ∃ k : Nat, k ≤ l.length ∧ i = .int .i64 k ∧ x = .int .i64 (n - l.length - esz (l.take k)) ∧ Hid (0 ≤ n - l.length - esz (l.take k)) ∧ Below w.heap.size w wr) (fun _ i _ => l.length - (intOf i).toNat)
  case atStart => exact ⟨0, by omega, rfl, by simp [esz], by simp [esz, Hid]; omega, Below.refl _ _⟩
  case round =>
    obtain ⟨k, hk, rfl, rfl, hp, hB⟩ := hrel
    by_cases hlt : k < l.length
    · obtain ⟨r, hr⟩ : ∃ r, l[k]? = some r := ⟨_, List.getElem?_eq_getElem hlt⟩
      obtain ⟨b, o, rfl, hc⟩ := (hA.below hB).at (i := k) (r := r.cs) (by rw [List.getElem?_map, hr]; rfl)
      have ok := hok r (List.mem_of_getElem? hr)
      have hp' := hp.out
      have ht := esz_take hr
      have hle := esz_le l (k + 1)
      have hS := fun w => laws_szEra r (n - l.length - esz (l.take k)) w (by omega) (by omega) ok
      have c0 : wr.cell? ⟨b, o + k * 6, none⟩ = some (.int .i64 r.offset) := hc 0 _ rfl
      have c1 := hc 1 _ rfl
      have c2 := hc 2 _ rfl
      have c3 := hc 3 _ rfl
      have c4 := hc 4 _ rfl
      have c5 := hc 5 _ rfl
      clear hc
      unfold EraD.v at hS
      by_cases g : n - l.length - esz (l.take k) - r.sz < 0
      · have HR : Hid (clip (n - (l.length + esz l)) = -1) := clip_n (by omega)
        rw [clip_n g] at hS
        go_wp2_with fail
        refine (hS _).mono ?_
        rintro e w2 ⟨rfl, hb2⟩
        go_wp2
        go_ret
        exact ⟨ret_int HR.out.symm, hB.trans (hb2.mono hB.size)⟩
      · rw [clip_p (by omega)] at hS
        have HN : Hid (n - l.length - esz (l.take k) - r.sz = n - l.length - esz (l.take (k + 1))) := by simp only [Hid]; omega
        go_wp2_with fail
        refine (hS _).mono ?_
        rintro e w2 ⟨rfl, hb2⟩
        go_wp2
        go_roundw
        case rel => exact ⟨k + 1, by omega, by go_num, by rw [HN.out], by have := HN.out; simp only [Hid]; omega, hB.trans (hb2.mono hB.size)⟩
        case measure => simp [intOf]; omega
    · have e : k = l.length := by omega
      subst e
      have HR : Hid (clip (n - (l.length + esz l)) = n - l.length - esz (l.take l.length)) := by
        have := hp.out
        simp only [Hid]
        rw [List.take_length] at this ⊢
        rw [clip_p (by omega)]; omega
      go_wp2
      go_ret
      exact ⟨ret_int HR.out.symm, hB⟩
set_option maxHeartbeats 1000000 in
theorem laws_toEra (r : EraD) (w : World) :
    Calls Tryz.prog 203 #[r.v] w fun e w' => e = .returned r.v ∧ Below w.heap.size w w' := by
  obtain ⟨offset, rules, save, format, until_, of⟩ := r
  simp only [EraD.v] at *
  go_enter Tryz.func203, Tryz.ntmps203
  go_wp2
  exact bodyPost_ret (v := .agg #[.int .i64 offset, .string rules, .int .i64 save, .string format, .int .i64 until_, .string of]) (by simp [results, Tryz.results203, go_sem]) rfl ⟨rfl, (((Below.refl _ _).alloc (Nat.le_refl _) _).alloc (by simp) _).alloc (by simp; omega) _⟩
set_option maxRecDepth 100000 in
theorem infoEra : ∃ i : TypeInfo, Tryz.prog.info? 55 = some i ∧ i.zero = some (.agg #[.int .i64 0, .string ⟨#[]⟩, .int .i64 0, .string ⟨#[]⟩, .int .i64 0, .string ⟨#[]⟩]) ∧ i.size = 6 ∧ i.bytes = 72 := ⟨_, rfl, rfl, rfl, rfl⟩
theorem EraD.len (r : EraD) : r.cs.length = 6 := rfl
set_option maxHeartbeats 2000000 in
theorem laws_toEraS (l : List EraD) (a : Option Addr) (cap : Nat) (w : World) (hA : SeqAt w a 6 (l.map EraD.cs)) (hl : l.length ≤ 1048576) :
    Calls Tryz.prog 169 #[.slice a l.length cap] w fun e w' => e = .returned (.slice (some ⟨w.heap.size, 0, none⟩) l.length l.length) ∧ SeqAt w' (some ⟨w.heap.size, 0, none⟩) 6 (l.map EraD.cs) ∧ Room w' w.heap.size (l.length * 6) ∧ Below w.heap.size w w' := by
  obtain ⟨i0, hi, hz0, hz1, hz2⟩ := infoEra
  obtain ⟨w1, hrun, hown, hgr⟩ := run_make_full (P := Tryz.prog) w w.heap.size 47 55 i0 _ 6 Tryz.underlying47 hi hz0 hz1 .i64 .i64 l.length (by rw [hz2]; omega) (by unfold maxLen; omega) (Nat.le_refl _)
  have hR := room_of hown
  have hB : Below w.heap.size w w1 := (Below.refl _ _).grown hgr (Nat.le_refl _) (fun k hk => by cases hk)
  have hrl : (l.map EraD.cs).length = l.length := by simp
  have hlen : ∀ r ∈ l.map EraD.cs, r.length = 6 := fun r hr => by
    obtain ⟨x, _, rfl⟩ := List.mem_map.mp hr; rfl
  clear hi hz0 hz1 hz2 hown hgr
  go_enter Tryz.func169, Tryz.ntmps169
  go_wp2
  go_loopw [4] (fun i wr => ∃ k : Nat, k ≤ l.length ∧ i = .int .i64 k ∧ Room wr w.heap.size (l.length * 6) ∧ Filled wr w.heap.size 6 k (l.map EraD.cs) ∧ Below w.heap.size w wr) (fun i _ => l.length - (intOf i).toNat)
  case atStart => exact ⟨0, by omega, rfl, hR, fun i j r c h => by omega, hB⟩
  case round =>
    clear hR hB hrun
    obtain ⟨k, hk, rfl, hR, hF, hB⟩ := hrel
    by_cases hlt : k < l.length
    · obtain ⟨r, hr⟩ : ∃ r, l[k]? = some r := ⟨_, List.getElem?_eq_getElem hlt⟩
      have hrow : (l.map EraD.cs)[k]? = some r.cs := by rw [List.getElem?_map, hr]; rfl
      obtain ⟨b, o, rfl, hc⟩ := (hA.below hB).at (i := k) hrow
      have hS := fun w => laws_toEra r w
      have c0 : wr.cell? ⟨b, o + k * 6, none⟩ = some (.int .i64 r.offset) := hc 0 _ rfl
      have c1 := hc 1 _ rfl
      have c2 := hc 2 _ rfl
      have c3 := hc 3 _ rfl
      have c4 := hc 4 _ rfl
      have c5 := hc 5 _ rfl
      clear hc
      unfold EraD.v at hS
      go_wp2_with fail
      refine (hS _).mono ?_
      rintro e w2 ⟨rfl, hb2⟩
      have hR2 := hR.below hb2
      have hF2 := hF.below hb2
      have hB2 := hB.trans (hb2.mono hB.size)
      have hkm : k * 6 + 6 ≤ l.length * 6 := by omega
      obtain ⟨⟨u0, hu0⟩, hf0⟩ := hR2 (k * 6) (by omega)
      obtain ⟨⟨u1, hu1⟩, hf1⟩ := hR2 (k * 6 + 1) (by omega)
      obtain ⟨⟨u2, hu2⟩, hf2⟩ := hR2 (k * 6 + 2) (by omega)
      obtain ⟨⟨u3, hu3⟩, hf3⟩ := hR2 (k * 6 + 3) (by omega)
      obtain ⟨⟨u4, hu4⟩, hf4⟩ := hR2 (k * 6 + 4) (by omega)
      obtain ⟨⟨u5, hu5⟩, hf5⟩ := hR2 (k * 6 + 5) (by omega)
      have hW : putAll w2 w.heap.size (k * 6) r.cs = ((((((w2.setCell ⟨w.heap.size, k * 6, none⟩ (.int .i64 r.offset)).setCell ⟨w.heap.size, k * 6 + 1, none⟩ (.string r.rules)).setCell ⟨w.heap.size, k * 6 + 2, none⟩ (.int .i64 r.save)).setCell ⟨w.heap.size, k * 6 + 3, none⟩ (.string r.format)).setCell ⟨w.heap.size, k * 6 + 4, none⟩ (.int .i64 r.until_)).setCell ⟨w.heap.size, k * 6 + 5, none⟩ (.string r.of)) := by simp only [putAll, EraD.cs, Nat.add_assoc, Nat.reduceAdd]
      have R3 := putAll_room (cs := r.cs) (o := k * 6) hR2
      have F3 := hF2.put hR2 hrow rfl hkm hlen
      have B3 := putAll_below (cs := r.cs) (o := k * 6) hB2 (Nat.le_refl _)
      rw [hW] at R3 F3 B3
      clear hW hR2 hF2 hB2
      go_wp2
      go_roundw
      case rel => exact ⟨k + 1, by omega, by go_num, R3, F3, B3⟩
      case measure => simp [intOf]; omega
    · have e : k = l.length := by omega
      subst e
      go_wp2
      go_ret
      exact ⟨rfl, Filled.seq (by rw [hrl]; exact hF), hR, hB⟩
set_option maxHeartbeats 1000000 in
theorem laws_eqEra (r : EraD) (w : World) :
    Calls Tryz.prog 204 #[r.v, r.v] w fun e w' => e = .returned (.bool true) ∧ Below w.heap.size w w' := by
  obtain ⟨offset, rules, save, format, until_, of⟩ := r
  simp only [EraD.v] at *
  go_enter Tryz.func204, Tryz.ntmps204
  go_wp2
  go_ret
  exact ⟨rfl, ((Below.refl _ _).alloc (Nat.le_refl _) _).alloc (by simp) _⟩
set_option maxHeartbeats 2000000 in
theorem laws_eqEraS (l : List EraD) (a a2 : Option Addr) (cap cap2 : Nat) (w : World) (hA : SeqAt w a 6 (l.map EraD.cs)) (hA2 : SeqAt w a2 6 (l.map EraD.cs)) (hl : l.length ≤ 1048576) :
    Calls Tryz.prog 170 #[.slice a l.length cap, .slice a2 l.length cap2] w fun e w' => e = .returned (.bool true) ∧ Below w.heap.size w w' := by
  go_enter Tryz.func170, Tryz.ntmps170
  go_wp2
  go_loopw [5] (fun i wr => ∃ k : Nat, k ≤ l.length ∧ i = .int .i64 k ∧ Below w.heap.size w wr) (fun i _ => l.length - (intOf i).toNat)
  case atStart => exact ⟨0, by omega, rfl, Below.refl _ _⟩
  case round =>
    obtain ⟨k, hk, rfl, hB⟩ := hrel
    by_cases hlt : k < l.length
    · obtain ⟨r, hr⟩ : ∃ r, l[k]? = some r := ⟨_, List.getElem?_eq_getElem hlt⟩
      have hrow : (l.map EraD.cs)[k]? = some r.cs := by rw [List.getElem?_map, hr]; rfl
      obtain ⟨b, o, rfl, hc⟩ := (hA.below hB).at (i := k) hrow
      obtain ⟨b2, o2, rfl, hd⟩ := (hA2.below hB).at (i := k) hrow
      have hS := fun w => laws_eqEra r w
      have c0 : wr.cell? ⟨b, o + k * 6, none⟩ = some (.int .i64 r.offset) := hc 0 _ rfl
      have d0 : wr.cell? ⟨b2, o2 + k * 6, none⟩ = some (.int .i64 r.offset) := hd 0 _ rfl
      have c1 := hc 1 _ rfl
      have d1 := hd 1 _ rfl
      have c2 := hc 2 _ rfl
      have d2 := hd 2 _ rfl
      have c3 := hc 3 _ rfl
      have d3 := hd 3 _ rfl
      have c4 := hc 4 _ rfl
      have d4 := hd 4 _ rfl
      have c5 := hc 5 _ rfl
      have d5 := hd 5 _ rfl
      clear hc hd
      unfold EraD.v at hS
      have cE : ∀ dd os, Calls Tryz.prog _ _ (grow (redrawn wr dd) os) fun e w'' => e = .returned (.bool true) ∧ ∃ p : Regrown, w'' = grow (redrawn wr p.d) p.os := fun _ _ => Calls.regrown_of (hS _)
      have kc0 := cell_regrown c0
      have kd0 := cell_regrown d0
      have kc1 := cell_regrown c1
      have kd1 := cell_regrown d1
      have kc2 := cell_regrown c2
      have kd2 := cell_regrown d2
      have kc3 := cell_regrown c3
      have kd3 := cell_regrown d3
      have kc4 := cell_regrown c4
      have kd4 := cell_regrown d4
      have kc5 := cell_regrown c5
      have kd5 := cell_regrown d5
      go_wp2_with fail
      refine wp_region_quiet_below (by kernel_rfl) (by kernel_rfl) ?_
      repeat (quiet_step ((go_at_call 204; exact cE _ _)))
      refine wpQuiet_nil ?_
      intro _ hw'
      obtain ⟨⟨dq, osq⟩, hw''⟩ := hw'
      subst hw''
      have hb2 := below_regrown wr dq osq
      go_wp2
      go_roundw
      case rel => exact ⟨k + 1, by omega, by go_num, hB.trans (hb2.mono hB.size)⟩
      case measure => simp [intOf]; omega
    · have e : k = l.length := by omega
      subst e
      go_wp2
      go_ret
      exact ⟨rfl, hB⟩
end Go.Proofs.YtbbhpfobcelbfaaGreatDoor
namespace Go.Proofs.YtbbhpfobcelbfaaGreatDoor
open Go.RowKit Go.Sort

structure ZoneD where
  name : ByteArray
  eras : List EraD
def ZoneD.sz (z : ZoneD) : Nat := z.name.size + (z.eras.length + esz z.eras)
def ZoneD.ok (z : ZoneD) : Prop := z.name.size ≤ maxLen ∧ z.eras.length ≤ maxLen ∧ ∀ r ∈ z.eras, r.ok
/-- a list of eras in memory. -/
def EraSl (w : World) (v : Value) (es : List EraD) : Prop := ∃ a cap, v = .slice a es.length cap ∧ SeqAt w a 6 (es.map EraD.cs)
theorem EraSl.below {w w' : World} {v : Value} {es : List EraD} (h : EraSl w v es) (hb : Below w.heap.size w w') : EraSl w' v es := by
  obtain ⟨a, cap, rfl, hA⟩ := h
  exact ⟨a, cap, rfl, hA.below hb⟩
/-- a list of zones in memory: at each place a name and a list's value. -/
def ZonesAt (w : World) (a : Option Addr) (zs : List ZoneD) : Prop :=
  zs = [] ∨ ∃ b o, a = some ⟨b, o, none⟩ ∧ ∀ i z, zs[i]? = some z → w.cell? ⟨b, o + i * 2, none⟩ = some (.string z.name) ∧ ∃ v, w.cell? ⟨b, o + i * 2 + 1, none⟩ = some v ∧ EraSl w v z.eras
theorem ZonesAt.below {w w' : World} {a : Option Addr} {zs : List ZoneD} (h : ZonesAt w a zs) (hb : Below w.heap.size w w') : ZonesAt w' a zs := by
  rcases h with h | ⟨b, o, ha, hc⟩
  · exact .inl h
  · refine .inr ⟨b, o, ha, fun i z hi => ?_⟩
    obtain ⟨c0, v, c1, he⟩ := hc i z hi
    have hlt := World.block_lt_of_cell? _ _ c0
    exact ⟨by rw [(bcell hb).1 _ _ hlt]; exact c0, v, by rw [(bcell hb).1 _ _ hlt]; exact c1, he.below hb⟩
theorem ZonesAt.at {w : World} {a : Option Addr} {zs : List ZoneD} (h : ZonesAt w a zs) {i : Nat} {z : ZoneD} (hi : zs[i]? = some z) : ∃ b o, a = some ⟨b, o, none⟩ ∧ w.cell? ⟨b, o + i * 2, none⟩ = some (.string z.name) ∧ ∃ v, w.cell? ⟨b, o + i * 2 + 1, none⟩ = some v ∧ EraSl w v z.eras := by
  rcases h with rfl | ⟨b, o, ha, hc⟩
  · simp at hi
  · exact ⟨b, o, ha, hc i z hi⟩
set_option maxHeartbeats 1000000 in
theorem laws_szZone (z : ZoneD) (v : Value) (n : Int) (w : World) (hv : EraSl w v z.eras) (hm : z.ok) (h0 : 0 ≤ n) (h1 : n ≤ 1048576) :
    Calls Tryz.prog 104 #[.agg #[.string z.name, v], .int .i64 n] w fun e w' => e = .returned (.int .i64 (clip (n - z.sz))) ∧ Below w.heap.size w w' := by
  obtain ⟨a, cap, rfl, hA⟩ := hv
  obtain ⟨name, es⟩ := z
  obtain ⟨m1, m2, m3⟩ := hm
  simp only [ZoneD.sz] at *
  by_cases g1 : n < name.size
  · unfold maxLen at m1
    have HR : Hid (clip (n - ↑(name.size + (es.length + esz es))) = -1) := clip_n (by omega)
    go_enter Tryz.func104, Tryz.ntmps104
    go_wp2
    go_ret
    exact ⟨ret_int HR.out.symm, (Below.refl _ _).alloc (Nat.le_refl _) _⟩
  have hE := fun w (h : SeqAt w a 6 (es.map EraD.cs)) => laws_szEraS es a cap (n - name.size) w h m3 m2 (by omega) (by omega)
  unfold maxLen at m1
  by_cases g2 : n - name.size - (es.length + esz es) < 0
  · have HR : Hid (clip (n - ↑(name.size + (es.length + esz es))) = -1) := clip_n (by omega)
    rw [clip_n g2] at hE
    go_enter Tryz.func104, Tryz.ntmps104
    go_wp2_with fail
    refine (hE _ (hA.below ((Below.refl _ _).alloc (Nat.le_refl _) _))).mono ?_
    rintro e w1 ⟨rfl, hb⟩
    go_wp2
    go_ret
    exact ⟨ret_int HR.out.symm, ((Below.refl _ _).alloc (Nat.le_refl _) _).trans (hb.mono (by simp))⟩
  · have HR : Hid (clip (n - ↑(name.size + (es.length + esz es))) = n - name.size - (es.length + esz es)) := by
      simp only [Hid]; rw [clip_p (by omega)]; omega
    rw [clip_p (by omega)] at hE
    go_enter Tryz.func104, Tryz.ntmps104
    go_wp2_with fail
    refine (hE _ (hA.below ((Below.refl _ _).alloc (Nat.le_refl _) _))).mono ?_
    rintro e w1 ⟨rfl, hb⟩
    go_wp2
    go_ret
    exact ⟨ret_int HR.out.symm, ((Below.refl _ _).alloc (Nat.le_refl _) _).trans (hb.mono (by simp))⟩
def zsz (l : List ZoneD) : Nat := (l.map ZoneD.sz).sum
theorem zsz_take {l : List ZoneD} {k : Nat} {r : ZoneD} (h : l[k]? = some r) : zsz (l.take (k + 1)) = zsz (l.take k) + r.sz := by
  unfold zsz
  rw [List.take_add_one, h]
  simp
theorem zsz_le (l : List ZoneD) (k : Nat) : zsz (l.take k) ≤ zsz l := by
  have := congrArg (fun l => (l.map ZoneD.sz).sum) (List.take_append_drop k l)
  simp only [List.map_append, List.sum_append] at this
  unfold zsz
  omega
set_option maxHeartbeats 2000000 in
theorem laws_szZoneS (l : List ZoneD) (a : Option Addr) (cap : Nat) (n : Int) (w : World) (hA : ZonesAt w a l) (hok : ∀ r ∈ l, r.ok) (hl : l.length ≤ maxLen) (h0 : 0 ≤ n) (h1 : n ≤ 1048576) :
    Calls Tryz.prog 52 #[.slice a l.length cap, .int .i64 n] w fun e w' => e = .returned (.int .i64 (clip (n - (l.length + zsz l)))) ∧ Below w.heap.size w w' := by
  unfold maxLen at hl
  by_cases g0 : n < l.length
  · have HR : Hid (clip (n - (l.length + zsz l)) = -1) := clip_n (by omega)
    go_enter Tryz.func52, Tryz.ntmps52
    go_wp2
    go_ret
    exact ⟨ret_int HR.out.symm, Below.refl _ _⟩
  go_enter Tryz.func52, Tryz.ntmps52
  go_wp2
  go_loopw [1, 5] (fun x i wr => ∃ k : Nat, k ≤ l.length ∧ i = .int .i64 k ∧ x = .int .i64 (n - l.length - zsz (l.take k)) ∧ Hid (0 ≤ n - l.length - zsz (l.take k)) ∧ Below w.heap.size w wr) (fun _ i _ => l.length - (intOf i).toNat)
  case atStart => exact ⟨0, by omega, rfl, by simp [zsz], by simp [zsz, Hid]; omega, Below.refl _ _⟩
  case round =>
    obtain ⟨k, hk, rfl, rfl, hp, hB⟩ := hrel
    by_cases hlt : k < l.length
    · obtain ⟨r, hr⟩ : ∃ r, l[k]? = some r := ⟨_, List.getElem?_eq_getElem hlt⟩
      obtain ⟨b, o, rfl, c0, v, c1, hv⟩ := (hA.below hB).at hr
      have ok := hok r (List.mem_of_getElem? hr)
      have hp' := hp.out
      have ht := zsz_take hr
      have hle := zsz_le l (k + 1)
      have hS := laws_szZone r v (n - l.length - zsz (l.take k)) wr hv ok (by omega) (by omega)
      by_cases g : n - l.length - zsz (l.take k) - r.sz < 0
      · have HR : Hid (clip (n - (l.length + zsz l)) = -1) := clip_n (by omega)
        rw [clip_n g] at hS
        go_wp2_with fail
        refine hS.mono ?_
        rintro e w2 ⟨rfl, hb2⟩
        go_wp2
        go_ret
        exact ⟨ret_int HR.out.symm, hB.trans (hb2.mono hB.size)⟩
      · rw [clip_p (by omega)] at hS
        have HN : Hid (n - l.length - zsz (l.take k) - r.sz = n - l.length - zsz (l.take (k + 1))) := by simp only [Hid]; omega
        go_wp2_with fail
        refine hS.mono ?_
        rintro e w2 ⟨rfl, hb2⟩
        go_wp2
        go_roundw
        case rel => exact ⟨k + 1, by omega, by go_num, by rw [HN.out], by have := HN.out; simp only [Hid]; omega, hB.trans (hb2.mono hB.size)⟩
        case measure => simp [intOf]; omega
    · have e : k = l.length := by omega
      subst e
      have HR : Hid (clip (n - (l.length + zsz l)) = n - l.length - zsz (l.take l.length)) := by
        have := hp.out
        simp only [Hid]
        rw [List.take_length] at this ⊢
        rw [clip_p (by omega)]; omega
      go_wp2
      go_ret
      exact ⟨ret_int HR.out.symm, hB⟩
end Go.Proofs.YtbbhpfobcelbfaaGreatDoor
namespace Go.Proofs.YtbbhpfobcelbfaaGreatDoor
open Go.RowKit Go.Sort

theorem SeqAt.keep {w w' : World} {g k : Nat} {rows : List (List Value)} (h : SeqAt w (some ⟨g, 0, none⟩) k rows) (hk : ∀ x, w'.cell? ⟨g, x, none⟩ = w.cell? ⟨g, x, none⟩) : SeqAt w' (some ⟨g, 0, none⟩) k rows := by
  rcases h with h | ⟨b, o, ha, hc⟩
  · exact .inl h
  · injection ha with ha
    injection ha with h1 h2
    subst h1 h2
    exact .inr ⟨g, 0, rfl, fun i j r c hi hj => by rw [hk]; exact hc i j r c hi hj⟩
theorem Room.keep {w w' : World} {g m : Nat} (h : Room w g m) (hk : ∀ x, w'.cell? ⟨g, x, none⟩ = w.cell? ⟨g, x, none⟩) (hf : ∀ x, w'.frozen? ⟨g, x, none⟩ = w.frozen? ⟨g, x, none⟩) : Room w' g m := fun x hx => by
  rw [hk, hf]; exact h x hx
theorem below_three (w : World) (a b c : Obj) : Below w.heap.size w (((w.alloc a).alloc b).alloc c) := (((Below.refl _ _).alloc (Nat.le_refl _) a).alloc (by simp) b).alloc (by simp; omega) c
theorem heap3 (w : World) (a b c : Obj) : (((w.alloc a).alloc b).alloc c).heap.size = w.heap.size + 1 + 1 + 1 := by simp
theorem ne_blk2 {p q i j : Nat} (h : q ≠ p) : (⟨q, i, none⟩ : Addr) ≠ ⟨p, j, none⟩ := fun e => h (by injection e)
theorem set_two {w : World} {b : Nat} {x0 x1 v0 v1 : Value} (h0 : w.cell? ⟨b, 0, none⟩ = some x0) (h1 : w.cell? ⟨b, 1, none⟩ = some x1) :
    ((w.setCell ⟨b, 0, none⟩ v0).setCell ⟨b, 1, none⟩ v1).cell? ⟨b, 0, none⟩ = some v0 ∧ ((w.setCell ⟨b, 0, none⟩ v0).setCell ⟨b, 1, none⟩ v1).cell? ⟨b, 1, none⟩ = some v1 := by
  refine ⟨?_, ?_⟩
  · rw [World.cell?_setCell_other _ _ _ _ (by simp), World.cell?_setCell_same _ _ _ h0]
  · refine World.cell?_setCell_same _ _ _ (u := x1) ?_
    rw [World.cell?_setCell_other _ _ _ _ (by simp)]; exact h1
set_option maxHeartbeats 1000000 in
theorem laws_toZone (z : ZoneD) (v : Value) (w : World) (hv : EraSl w v z.eras) (hl : z.eras.length ≤ 1048576) :
    Calls Tryz.prog 107 #[.agg #[.string z.name, v]] w fun e w' => ∃ g, e = .returned (.agg #[.string z.name, .slice (some ⟨g, 0, none⟩) z.eras.length z.eras.length]) ∧ w.heap.size ≤ g ∧ SeqAt w' (some ⟨g, 0, none⟩) 6 (z.eras.map EraD.cs) ∧ Room w' g (z.eras.length * 6) ∧ Below w.heap.size w w' := by
  obtain ⟨a, cap, rfl, hA⟩ := hv
  obtain ⟨name, es⟩ := z
  simp only at *
  have hE := fun w (h : SeqAt w a 6 (es.map EraD.cs)) => laws_toEraS es a cap w h hl
  go_enter Tryz.func107, Tryz.ntmps107
  go_wp2_with fail
  refine (hE _ (hA.below (below_three _ _ _ _))).mono ?_
  rintro e w1 ⟨rfl, hq, hR, hb⟩
  obtain ⟨hc, hf⟩ := bcell hb
  have hB : Below w.heap.size w w1 := (below_three w _ _ _).trans (hb.mono (by simp; omega))
  have h0 : w1.cell? ⟨w.heap.size + 1, 0, none⟩ = some (.string ⟨#[]⟩) := (hc _ _ (by simp)).trans (by simp [go_sem])
  have h1 : w1.cell? ⟨w.heap.size + 1, 1, none⟩ = some (.slice none 0 0) := (hc _ _ (by simp)).trans (by simp [go_sem])
  simp only [heap3] at hq hR
  go_wp2_with fail
  generalize hg : w.heap.size + 1 + 1 + 1 = g at *
  obtain ⟨r0, r1⟩ := set_two (w := w1.setCell ⟨w.heap.size + 1 + 1, 1, none⟩ (.slice (some ⟨g, 0, none⟩) es.length es.length)) (b := w.heap.size + 1) (v0 := .string name) (v1 := .slice (some ⟨g, 0, none⟩) es.length es.length) (by rw [World.cell?_setCell_other _ _ _ _ (ne_blk2 (by omega))]; exact h0) (by rw [World.cell?_setCell_other _ _ _ _ (ne_blk2 (by omega))]; exact h1)
  refine bodyPost_ret (v := .agg #[.string name, .slice (some ⟨g, 0, none⟩) es.length es.length]) (by simp [results, Tryz.results107, go_sem, r0, r1]) rfl ⟨g, rfl, by omega, hq.keep fun x => ?_, hR.keep (fun x => ?_) (fun x => by simp), ((hB.setCell (show w.heap.size ≤ w.heap.size + 1 + 1 by omega) _).setCell (show w.heap.size ≤ w.heap.size + 1 by omega) _).setCell (show w.heap.size ≤ w.heap.size + 1 by omega) _⟩
  all_goals rw [World.cell?_setCell_other _ _ _ _ (ne_blk2 (by omega)), World.cell?_setCell_other _ _ _ _ (ne_blk2 (by omega)), World.cell?_setCell_other _ _ _ _ (ne_blk2 (by omega))]
/-- the first k zones stand there. -/
def ZFilled (w : World) (g k : Nat) (zs : List ZoneD) : Prop := ∀ i z, i < k → zs[i]? = some z → w.cell? ⟨g, i * 2, none⟩ = some (.string z.name) ∧ ∃ q, g < q ∧ w.cell? ⟨g, i * 2 + 1, none⟩ = some (.slice (some ⟨q, 0, none⟩) z.eras.length z.eras.length) ∧ SeqAt w (some ⟨q, 0, none⟩) 6 (z.eras.map EraD.cs) ∧ Room w q (z.eras.length * 6)
theorem ZFilled.below {w w' : World} {g k : Nat} {zs : List ZoneD} (h : ZFilled w g k zs) (hb : Below w.heap.size w w') : ZFilled w' g k zs := fun i z hi hz => by
  obtain ⟨c0, q, hq, c1, hs, hr⟩ := h i z hi hz
  have hlt := World.block_lt_of_cell? _ _ c0
  exact ⟨by rw [(bcell hb).1 _ _ hlt]; exact c0, q, hq, by rw [(bcell hb).1 _ _ hlt]; exact c1, hs.below hb, hr.below hb⟩
theorem ZFilled.put {w : World} {g k m q : Nat} {zs : List ZoneD} {z : ZoneD} (h : ZFilled w g k zs) (hR : Room w g m) (hz : zs[k]? = some z) (hm : k * 2 + 2 ≤ m) (hq : g < q) (hs : SeqAt w (some ⟨q, 0, none⟩) 6 (z.eras.map EraD.cs)) (hr : Room w q (z.eras.length * 6)) : ZFilled (putAll w g (k * 2) [.string z.name, .slice (some ⟨q, 0, none⟩) z.eras.length z.eras.length]) g (k + 1) zs := fun i z' hi hz' => by
  by_cases e : i = k
  · subst e
    rw [hz] at hz'
    obtain rfl := Option.some.inj hz'
    have a0 := putAll_at (cs := [.string z.name, .slice (some ⟨q, 0, none⟩) z.eras.length z.eras.length]) (o := i * 2) (j := 0) hR (by simpa using hm) rfl
    have a1 := putAll_at (cs := [.string z.name, .slice (some ⟨q, 0, none⟩) z.eras.length z.eras.length]) (o := i * 2) (j := 1) hR (by simpa using hm) rfl
    exact ⟨a0, q, hq, a1, hs.keep fun x => putAll_far (.inl (by omega)), hr.keep (fun x => putAll_far (.inl (by omega))) (fun x => by simp [putAll])⟩
  · obtain ⟨c0, q', hq', c1, hs', hr'⟩ := h i z' (by omega) hz'
    exact ⟨by rw [putAll_far (by omega)]; exact c0, q', hq', by rw [putAll_far (by omega)]; exact c1, hs'.keep fun x => putAll_far (.inl (by omega)), hr'.keep (fun x => putAll_far (.inl (by omega))) (fun x => by simp [putAll])⟩
theorem ZFilled.zones {w : World} {g : Nat} {zs : List ZoneD} (h : ZFilled w g zs.length zs) : ZonesAt w (some ⟨g, 0, none⟩) zs :=
  .inr ⟨g, 0, rfl, fun i z hz => by
    obtain ⟨c0, q, _, c1, hs, _⟩ := h i z (List.getElem?_eq_some_iff.mp hz).1 hz
    rw [show 0 + i * 2 = i * 2 by omega]
    exact ⟨c0, _, c1, _, _, rfl, hs⟩⟩
set_option maxRecDepth 100000 in
theorem infoZone : ∃ i : TypeInfo, Tryz.prog.info? 49 = some i ∧ i.zero = some (.agg #[.string ⟨#[]⟩, .slice none 0 0]) ∧ i.size = 2 ∧ i.bytes = 40 := ⟨_, rfl, rfl, rfl, rfl⟩
set_option maxHeartbeats 2000000 in
theorem laws_toZoneS (l : List ZoneD) (a : Option Addr) (cap : Nat) (w : World) (hA : ZonesAt w a l) (hl : l.length ≤ 1048576) (hle : ∀ z ∈ l, z.eras.length ≤ 1048576) :
    Calls Tryz.prog 55 #[.slice a l.length cap] w fun e w' => e = .returned (.slice (some ⟨w.heap.size, 0, none⟩) l.length l.length) ∧ ZFilled w' w.heap.size l.length l ∧ Room w' w.heap.size (l.length * 2) ∧ Below w.heap.size w w' := by
  obtain ⟨i0, hi, hz0, hz1, hz2⟩ := infoZone
  obtain ⟨w1, hrun, hown, hgr⟩ := run_make_full (P := Tryz.prog) w w.heap.size 24 49 i0 _ 2 Tryz.underlying24 hi hz0 hz1 .i64 .i64 l.length (by rw [hz2]; omega) (by unfold maxLen; omega) (Nat.le_refl _)
  have hR := room_of hown
  have hB : Below w.heap.size w w1 := (Below.refl _ _).grown hgr (Nat.le_refl _) (fun k hk => by cases hk)
  have hlt1 : w.heap.size < w1.heap.size := by
    rcases hown.2 with ⟨h0, _⟩ | ⟨g', c, cur, h1, _, hh, _⟩
    · cases h0
    · injection h1 with h1 h2 h3
      injection h1 with h1
      injection h1 with h1
      subst h1
      exact (Array.getElem?_eq_some_iff.mp hh).1
  clear hi hz0 hz1 hz2 hown hgr
  go_enter Tryz.func55, Tryz.ntmps55
  go_wp2
  go_loopw [4] (fun i wr => ∃ k : Nat, k ≤ l.length ∧ i = .int .i64 k ∧ Room wr w.heap.size (l.length * 2) ∧ ZFilled wr w.heap.size k l ∧ Below w.heap.size w wr ∧ w.heap.size < wr.heap.size) (fun i _ => l.length - (intOf i).toNat)
  case atStart => exact ⟨0, by omega, rfl, hR, fun i z h => by omega, hB, hlt1⟩
  case round =>
    clear hR hB hrun hlt1
    obtain ⟨k, hk, rfl, hR, hF, hB, hgt⟩ := hrel
    by_cases hlt : k < l.length
    · obtain ⟨r, hr⟩ : ∃ r, l[k]? = some r := ⟨_, List.getElem?_eq_getElem hlt⟩
      obtain ⟨b, o, rfl, c0, v, c1, hv⟩ := (hA.below hB).at hr
      have hS := laws_toZone r v wr hv (hle r (List.mem_of_getElem? hr))
      go_wp2_with fail
      refine hS.mono ?_
      rintro e w2 ⟨q, rfl, hq, hs2, hr2, hb2⟩
      have hR2 := hR.below hb2
      have hF2 := hF.below hb2
      have hB2 := hB.trans (hb2.mono hB.size)
      have hkm : k * 2 + 2 ≤ l.length * 2 := by omega
      obtain ⟨⟨u0, hu0⟩, hf0⟩ := hR2 (k * 2) (by omega)
      obtain ⟨⟨u1, hu1⟩, hf1⟩ := hR2 (k * 2 + 1) (by omega)
      have R3 := putAll_room (cs := [.string r.name, .slice (some ⟨q, 0, none⟩) r.eras.length r.eras.length]) (o := k * 2) hR2
      have F3 := hF2.put hR2 hr hkm (by omega) hs2 hr2
      have B3 := putAll_below (cs := [.string r.name, .slice (some ⟨q, 0, none⟩) r.eras.length r.eras.length]) (o := k * 2) hB2 (Nat.le_refl _)
      simp only [putAll] at R3 F3 B3
      have hz3 : w.heap.size < w2.heap.size := by have := hb2.size; omega
      clear hR2 hF2 hB2
      go_wp2
      go_roundw
      case rel => exact ⟨k + 1, by omega, by go_num, R3, F3, B3, by simpa using hz3⟩
      case measure => simp [intOf]; omega
    · have e : k = l.length := by omega
      subst e
      go_wp2
      go_ret
      exact ⟨rfl, hF, hR, hB⟩
end Go.Proofs.YtbbhpfobcelbfaaGreatDoor
namespace Go.Proofs.YtbbhpfobcelbfaaGreatDoor
open Go.RowKit Go.Sort

set_option maxHeartbeats 1000000 in
theorem laws_toRule (r : RuleD) (w : World) :
    Calls Tryz.prog 106 #[r.v] w fun e w' => e = .returned r.v ∧ Below w.heap.size w w' := by
  obtain ⟨name, lo, hi, month, on, at_, of, save, letter⟩ := r
  simp only [RuleD.v] at *
  go_enter Tryz.func106, Tryz.ntmps106
  go_wp2
  exact bodyPost_ret (v := .agg #[.string name, .int .i64 lo, .int .i64 hi, .int .i64 month, .string on, .int .i64 at_, .string of, .int .i64 save, .string letter]) (by simp [results, Tryz.results106, go_sem]) rfl ⟨rfl, (((Below.refl _ _).alloc (Nat.le_refl _) _).alloc (by simp) _).alloc (by simp; omega) _⟩
set_option maxRecDepth 100000 in
theorem infoRule : ∃ i : TypeInfo, Tryz.prog.info? 120 = some i ∧ i.zero = some (.agg #[.string ⟨#[]⟩, .int .i64 0, .int .i64 0, .int .i64 0, .string ⟨#[]⟩, .int .i64 0, .string ⟨#[]⟩, .int .i64 0, .string ⟨#[]⟩]) ∧ i.size = 9 ∧ i.bytes = 104 := ⟨_, rfl, rfl, rfl, rfl⟩
theorem RuleD.len (r : RuleD) : r.cs.length = 9 := rfl
set_option maxHeartbeats 2000000 in
theorem laws_toRuleS (l : List RuleD) (a : Option Addr) (cap : Nat) (w : World) (hA : SeqAt w a 9 (l.map RuleD.cs)) (hl : l.length ≤ 1048576) :
    Calls Tryz.prog 54 #[.slice a l.length cap] w fun e w' => e = .returned (.slice (some ⟨w.heap.size, 0, none⟩) l.length l.length) ∧ SeqAt w' (some ⟨w.heap.size, 0, none⟩) 9 (l.map RuleD.cs) ∧ Room w' w.heap.size (l.length * 9) ∧ Below w.heap.size w w' := by
  obtain ⟨i0, hi, hz0, hz1, hz2⟩ := infoRule
  obtain ⟨w1, hrun, hown, hgr⟩ := run_make_full (P := Tryz.prog) w w.heap.size 23 120 i0 _ 9 Tryz.underlying23 hi hz0 hz1 .i64 .i64 l.length (by rw [hz2]; omega) (by unfold maxLen; omega) (Nat.le_refl _)
  have hR := room_of hown
  have hB : Below w.heap.size w w1 := (Below.refl _ _).grown hgr (Nat.le_refl _) (fun k hk => by cases hk)
  have hrl : (l.map RuleD.cs).length = l.length := by simp
  have hlen : ∀ r ∈ l.map RuleD.cs, r.length = 9 := fun r hr => by
    obtain ⟨x, _, rfl⟩ := List.mem_map.mp hr; rfl
  clear hi hz0 hz1 hz2 hown hgr
  go_enter Tryz.func54, Tryz.ntmps54
  go_wp2
  go_loopw [4] (fun i wr => ∃ k : Nat, k ≤ l.length ∧ i = .int .i64 k ∧ Room wr w.heap.size (l.length * 9) ∧ Filled wr w.heap.size 9 k (l.map RuleD.cs) ∧ Below w.heap.size w wr) (fun i _ => l.length - (intOf i).toNat)
  case atStart => exact ⟨0, by omega, rfl, hR, fun i j r c h => by omega, hB⟩
  case round =>
    clear hR hB hrun
    obtain ⟨k, hk, rfl, hR, hF, hB⟩ := hrel
    by_cases hlt : k < l.length
    · obtain ⟨r, hr⟩ : ∃ r, l[k]? = some r := ⟨_, List.getElem?_eq_getElem hlt⟩
      have hrow : (l.map RuleD.cs)[k]? = some r.cs := by rw [List.getElem?_map, hr]; rfl
      obtain ⟨b, o, rfl, hc⟩ := (hA.below hB).at (i := k) hrow
      have hS := fun w => laws_toRule r w
      have c0 : wr.cell? ⟨b, o + k * 9, none⟩ = some (.string r.name) := hc 0 _ rfl
      have c1 := hc 1 _ rfl
      have c2 := hc 2 _ rfl
      have c3 := hc 3 _ rfl
      have c4 := hc 4 _ rfl
      have c5 := hc 5 _ rfl
      have c6 := hc 6 _ rfl
      have c7 := hc 7 _ rfl
      have c8 := hc 8 _ rfl
      clear hc
      unfold RuleD.v at hS
      go_wp2_with fail
      refine (hS _).mono ?_
      rintro e w2 ⟨rfl, hb2⟩
      have hR2 := hR.below hb2
      have hF2 := hF.below hb2
      have hB2 := hB.trans (hb2.mono hB.size)
      have hkm : k * 9 + 9 ≤ l.length * 9 := by omega
      obtain ⟨⟨u0, hu0⟩, hf0⟩ := hR2 (k * 9) (by omega)
      obtain ⟨⟨u1, hu1⟩, hf1⟩ := hR2 (k * 9 + 1) (by omega)
      obtain ⟨⟨u2, hu2⟩, hf2⟩ := hR2 (k * 9 + 2) (by omega)
      obtain ⟨⟨u3, hu3⟩, hf3⟩ := hR2 (k * 9 + 3) (by omega)
      obtain ⟨⟨u4, hu4⟩, hf4⟩ := hR2 (k * 9 + 4) (by omega)
      obtain ⟨⟨u5, hu5⟩, hf5⟩ := hR2 (k * 9 + 5) (by omega)
      obtain ⟨⟨u6, hu6⟩, hf6⟩ := hR2 (k * 9 + 6) (by omega)
      obtain ⟨⟨u7, hu7⟩, hf7⟩ := hR2 (k * 9 + 7) (by omega)
      obtain ⟨⟨u8, hu8⟩, hf8⟩ := hR2 (k * 9 + 8) (by omega)
      have hW : putAll w2 w.heap.size (k * 9) r.cs = (((((((((w2.setCell ⟨w.heap.size, k * 9, none⟩ (.string r.name)).setCell ⟨w.heap.size, k * 9 + 1, none⟩ (.int .i64 r.lo)).setCell ⟨w.heap.size, k * 9 + 2, none⟩ (.int .i64 r.hi)).setCell ⟨w.heap.size, k * 9 + 3, none⟩ (.int .i64 r.month)).setCell ⟨w.heap.size, k * 9 + 4, none⟩ (.string r.on)).setCell ⟨w.heap.size, k * 9 + 5, none⟩ (.int .i64 r.at_)).setCell ⟨w.heap.size, k * 9 + 6, none⟩ (.string r.of)).setCell ⟨w.heap.size, k * 9 + 7, none⟩ (.int .i64 r.save)).setCell ⟨w.heap.size, k * 9 + 8, none⟩ (.string r.letter)) := by simp only [putAll, RuleD.cs, Nat.add_assoc, Nat.reduceAdd]
      have R3 := putAll_room (cs := r.cs) (o := k * 9) hR2
      have F3 := hF2.put hR2 hrow rfl hkm hlen
      have B3 := putAll_below (cs := r.cs) (o := k * 9) hB2 (Nat.le_refl _)
      rw [hW] at R3 F3 B3
      clear hW hR2 hF2 hB2
      go_wp2
      go_roundw
      case rel => exact ⟨k + 1, by omega, by go_num, R3, F3, B3⟩
      case measure => simp [intOf]; omega
    · have e : k = l.length := by omega
      subst e
      go_wp2
      go_ret
      exact ⟨rfl, Filled.seq (by rw [hrl]; exact hF), hR, hB⟩
set_option maxHeartbeats 1000000 in
theorem laws_eqRule (r : RuleD) (w : World) :
    Calls Tryz.prog 109 #[r.v, r.v] w fun e w' => e = .returned (.bool true) ∧ Below w.heap.size w w' := by
  obtain ⟨name, lo, hi, month, on, at_, of, save, letter⟩ := r
  simp only [RuleD.v] at *
  go_enter Tryz.func109, Tryz.ntmps109
  go_wp2
  go_ret
  exact ⟨rfl, ((Below.refl _ _).alloc (Nat.le_refl _) _).alloc (by simp) _⟩
set_option maxHeartbeats 2000000 in
theorem laws_eqRuleS (l : List RuleD) (a a2 : Option Addr) (cap cap2 : Nat) (w : World) (hA : SeqAt w a 9 (l.map RuleD.cs)) (hA2 : SeqAt w a2 9 (l.map RuleD.cs)) (hl : l.length ≤ 1048576) :
    Calls Tryz.prog 58 #[.slice a l.length cap, .slice a2 l.length cap2] w fun e w' => e = .returned (.bool true) ∧ Below w.heap.size w w' := by
  go_enter Tryz.func58, Tryz.ntmps58
  go_wp2
  go_loopw [5] (fun i wr => ∃ k : Nat, k ≤ l.length ∧ i = .int .i64 k ∧ Below w.heap.size w wr) (fun i _ => l.length - (intOf i).toNat)
  case atStart => exact ⟨0, by omega, rfl, Below.refl _ _⟩
  case round =>
    obtain ⟨k, hk, rfl, hB⟩ := hrel
    by_cases hlt : k < l.length
    · obtain ⟨r, hr⟩ : ∃ r, l[k]? = some r := ⟨_, List.getElem?_eq_getElem hlt⟩
      have hrow : (l.map RuleD.cs)[k]? = some r.cs := by rw [List.getElem?_map, hr]; rfl
      obtain ⟨b, o, rfl, hc⟩ := (hA.below hB).at (i := k) hrow
      obtain ⟨b2, o2, rfl, hd⟩ := (hA2.below hB).at (i := k) hrow
      have hS := fun w => laws_eqRule r w
      have c0 : wr.cell? ⟨b, o + k * 9, none⟩ = some (.string r.name) := hc 0 _ rfl
      have d0 : wr.cell? ⟨b2, o2 + k * 9, none⟩ = some (.string r.name) := hd 0 _ rfl
      have c1 := hc 1 _ rfl
      have d1 := hd 1 _ rfl
      have c2 := hc 2 _ rfl
      have d2 := hd 2 _ rfl
      have c3 := hc 3 _ rfl
      have d3 := hd 3 _ rfl
      have c4 := hc 4 _ rfl
      have d4 := hd 4 _ rfl
      have c5 := hc 5 _ rfl
      have d5 := hd 5 _ rfl
      have c6 := hc 6 _ rfl
      have d6 := hd 6 _ rfl
      have c7 := hc 7 _ rfl
      have d7 := hd 7 _ rfl
      have c8 := hc 8 _ rfl
      have d8 := hd 8 _ rfl
      clear hc hd
      unfold RuleD.v at hS
      have cE : ∀ dd os, Calls Tryz.prog _ _ (grow (redrawn wr dd) os) fun e w'' => e = .returned (.bool true) ∧ ∃ p : Regrown, w'' = grow (redrawn wr p.d) p.os := fun _ _ => Calls.regrown_of (hS _)
      have kc0 := cell_regrown c0
      have kd0 := cell_regrown d0
      have kc1 := cell_regrown c1
      have kd1 := cell_regrown d1
      have kc2 := cell_regrown c2
      have kd2 := cell_regrown d2
      have kc3 := cell_regrown c3
      have kd3 := cell_regrown d3
      have kc4 := cell_regrown c4
      have kd4 := cell_regrown d4
      have kc5 := cell_regrown c5
      have kd5 := cell_regrown d5
      have kc6 := cell_regrown c6
      have kd6 := cell_regrown d6
      have kc7 := cell_regrown c7
      have kd7 := cell_regrown d7
      have kc8 := cell_regrown c8
      have kd8 := cell_regrown d8
      go_wp2_with fail
      refine wp_region_quiet_below (by kernel_rfl) (by kernel_rfl) ?_
      repeat (quiet_step ((go_at_call 109; exact cE _ _)))
      refine wpQuiet_nil ?_
      intro _ hw'
      obtain ⟨⟨dq, osq⟩, hw''⟩ := hw'
      subst hw''
      have hb2 := below_regrown wr dq osq
      go_wp2
      go_roundw
      case rel => exact ⟨k + 1, by omega, by go_num, hB.trans (hb2.mono hB.size)⟩
      case measure => simp [intOf]; omega
    · have e : k = l.length := by omega
      subst e
      go_wp2
      go_ret
      exact ⟨rfl, hB⟩
end Go.Proofs.YtbbhpfobcelbfaaGreatDoor
namespace Go.Proofs.YtbbhpfobcelbfaaGreatDoor
open Go.RowKit Go.Sort

structure LinkD where
  to_ : ByteArray
  name : ByteArray
def LinkD.cs (r : LinkD) : List Value := [.string r.to_, .string r.name]
def LinkD.v (r : LinkD) : Value := .agg #[.string r.to_, .string r.name]
def LinkD.sz (r : LinkD) : Nat := r.to_.size + r.name.size
def LinkD.ok (r : LinkD) : Prop := r.to_.size ≤ maxLen ∧ r.name.size ≤ maxLen
set_option maxHeartbeats 1000000 in
theorem laws_szLink (r : LinkD) (n : Int) (w : World) (h0 : 0 ≤ n) (h1 : n ≤ 1048576) (hm : r.ok) :
    Calls Tryz.prog 105 #[r.v, .int .i64 n] w fun e w' => e = .returned (.int .i64 (clip (n - r.sz))) ∧ Below w.heap.size w w' := by
  obtain ⟨to_, name⟩ := r
  simp only [LinkD.v, LinkD.sz, LinkD.ok] at *
  unfold maxLen at *
  by_cases g1 : n < to_.size
  · have HR : Hid (clip (n - ↑(to_.size + name.size)) = -1) := clip_n (by omega)
    go_enter Tryz.func105, Tryz.ntmps105
    go_wp2
    go_ret
    exact ⟨ret_int HR.out.symm, (Below.refl _ _).alloc (Nat.le_refl _) _⟩
  by_cases g2 : n < to_.size + name.size
  · have HR : Hid (clip (n - ↑(to_.size + name.size)) = -1) := clip_n (by omega)
    go_enter Tryz.func105, Tryz.ntmps105
    go_wp2
    go_ret
    exact ⟨ret_int HR.out.symm, (Below.refl _ _).alloc (Nat.le_refl _) _⟩
  go_enter Tryz.func105, Tryz.ntmps105
  go_wp2
  go_ret
  exact ⟨ret_int (by rw [clip_p (by omega)]; try omega), (Below.refl _ _).alloc (Nat.le_refl _) _⟩
def lsz (l : List LinkD) : Nat := (l.map LinkD.sz).sum
theorem lsz_take {l : List LinkD} {k : Nat} {r : LinkD} (h : l[k]? = some r) : lsz (l.take (k + 1)) = lsz (l.take k) + r.sz := by
  unfold lsz
  rw [List.take_add_one, h]
  simp
theorem lsz_le (l : List LinkD) (k : Nat) : lsz (l.take k) ≤ lsz l := by
  have := congrArg (fun l => (l.map LinkD.sz).sum) (List.take_append_drop k l)
  simp only [List.map_append, List.sum_append] at this
  unfold lsz
  omega
set_option maxHeartbeats 2000000 in
theorem laws_szLinkS (l : List LinkD) (a : Option Addr) (cap : Nat) (n : Int) (w : World) (hA : SeqAt w a 2 (l.map LinkD.cs)) (hok : ∀ r ∈ l, r.ok) (hl : l.length ≤ maxLen) (h0 : 0 ≤ n) (h1 : n ≤ 1048576) :
    Calls Tryz.prog 53 #[.slice a l.length cap, .int .i64 n] w fun e w' => e = .returned (.int .i64 (clip (n - (l.length + lsz l)))) ∧ Below w.heap.size w w' := by
  unfold maxLen at hl
  by_cases g0 : n < l.length
  · have HR : Hid (clip (n - (l.length + lsz l)) = -1) := clip_n (by omega)
    go_enter Tryz.func53, Tryz.ntmps53
    go_wp2
    go_ret
    exact ⟨ret_int HR.out.symm, Below.refl _ _⟩
  go_enter Tryz.func53, Tryz.ntmps53
  go_wp2
  go_loopw [1, 5] (fun x i wr => ∃ k : Nat, k ≤ l.length ∧ i = .int .i64 k ∧ x = .int .i64 (n - l.length - lsz (l.take k)) ∧ Hid (0 ≤ n - l.length - lsz (l.take k)) ∧ Below w.heap.size w wr) (fun _ i _ => l.length - (intOf i).toNat)
  case atStart => exact ⟨0, by omega, rfl, by simp [lsz], by simp [lsz, Hid]; omega, Below.refl _ _⟩
  case round =>
    obtain ⟨k, hk, rfl, rfl, hp, hB⟩ := hrel
    by_cases hlt : k < l.length
    · obtain ⟨r, hr⟩ : ∃ r, l[k]? = some r := ⟨_, List.getElem?_eq_getElem hlt⟩
      obtain ⟨b, o, rfl, hc⟩ := (hA.below hB).at (i := k) (r := r.cs) (by rw [List.getElem?_map, hr]; rfl)
      have ok := hok r (List.mem_of_getElem? hr)
      have hp' := hp.out
      have ht := lsz_take hr
      have hle := lsz_le l (k + 1)
      have hS := fun w => laws_szLink r (n - l.length - lsz (l.take k)) w (by omega) (by omega) ok
      have c0 : wr.cell? ⟨b, o + k * 2, none⟩ = some (.string r.to_) := hc 0 _ rfl
      have c1 := hc 1 _ rfl
      clear hc
      unfold LinkD.v at hS
      by_cases g : n - l.length - lsz (l.take k) - r.sz < 0
      · have HR : Hid (clip (n - (l.length + lsz l)) = -1) := clip_n (by omega)
        rw [clip_n g] at hS
        go_wp2_with fail
        refine (hS _).mono ?_
        rintro e w2 ⟨rfl, hb2⟩
        go_wp2
        go_ret
        exact ⟨ret_int HR.out.symm, hB.trans (hb2.mono hB.size)⟩
      · rw [clip_p (by omega)] at hS
        have HN : Hid (n - l.length - lsz (l.take k) - r.sz = n - l.length - lsz (l.take (k + 1))) := by simp only [Hid]; omega
        go_wp2_with fail
        refine (hS _).mono ?_
        rintro e w2 ⟨rfl, hb2⟩
        go_wp2
        go_roundw
        case rel => exact ⟨k + 1, by omega, by go_num, by rw [HN.out], by have := HN.out; simp only [Hid]; omega, hB.trans (hb2.mono hB.size)⟩
        case measure => simp [intOf]; omega
    · have e : k = l.length := by omega
      subst e
      have HR : Hid (clip (n - (l.length + lsz l)) = n - l.length - lsz (l.take l.length)) := by
        have := hp.out
        simp only [Hid]
        rw [List.take_length] at this ⊢
        rw [clip_p (by omega)]; omega
      go_wp2
      go_ret
      exact ⟨ret_int HR.out.symm, hB⟩
set_option maxHeartbeats 1000000 in
theorem laws_toLink (r : LinkD) (w : World) :
    Calls Tryz.prog 108 #[r.v] w fun e w' => e = .returned r.v ∧ Below w.heap.size w w' := by
  obtain ⟨to_, name⟩ := r
  simp only [LinkD.v] at *
  go_enter Tryz.func108, Tryz.ntmps108
  go_wp2
  exact bodyPost_ret (v := .agg #[.string to_, .string name]) (by simp [results, Tryz.results108, go_sem]) rfl ⟨rfl, (((Below.refl _ _).alloc (Nat.le_refl _) _).alloc (by simp) _).alloc (by simp; omega) _⟩
set_option maxRecDepth 100000 in
theorem infoLink : ∃ i : TypeInfo, Tryz.prog.info? 118 = some i ∧ i.zero = some (.agg #[.string ⟨#[]⟩, .string ⟨#[]⟩]) ∧ i.size = 2 ∧ i.bytes = 32 := ⟨_, rfl, rfl, rfl, rfl⟩
theorem LinkD.len (r : LinkD) : r.cs.length = 2 := rfl
set_option maxHeartbeats 2000000 in
theorem laws_toLinkS (l : List LinkD) (a : Option Addr) (cap : Nat) (w : World) (hA : SeqAt w a 2 (l.map LinkD.cs)) (hl : l.length ≤ 1048576) :
    Calls Tryz.prog 56 #[.slice a l.length cap] w fun e w' => e = .returned (.slice (some ⟨w.heap.size, 0, none⟩) l.length l.length) ∧ SeqAt w' (some ⟨w.heap.size, 0, none⟩) 2 (l.map LinkD.cs) ∧ Room w' w.heap.size (l.length * 2) ∧ Below w.heap.size w w' := by
  obtain ⟨i0, hi, hz0, hz1, hz2⟩ := infoLink
  obtain ⟨w1, hrun, hown, hgr⟩ := run_make_full (P := Tryz.prog) w w.heap.size 25 118 i0 _ 2 Tryz.underlying25 hi hz0 hz1 .i64 .i64 l.length (by rw [hz2]; omega) (by unfold maxLen; omega) (Nat.le_refl _)
  have hR := room_of hown
  have hB : Below w.heap.size w w1 := (Below.refl _ _).grown hgr (Nat.le_refl _) (fun k hk => by cases hk)
  have hrl : (l.map LinkD.cs).length = l.length := by simp
  have hlen : ∀ r ∈ l.map LinkD.cs, r.length = 2 := fun r hr => by
    obtain ⟨x, _, rfl⟩ := List.mem_map.mp hr; rfl
  clear hi hz0 hz1 hz2 hown hgr
  go_enter Tryz.func56, Tryz.ntmps56
  go_wp2
  go_loopw [4] (fun i wr => ∃ k : Nat, k ≤ l.length ∧ i = .int .i64 k ∧ Room wr w.heap.size (l.length * 2) ∧ Filled wr w.heap.size 2 k (l.map LinkD.cs) ∧ Below w.heap.size w wr) (fun i _ => l.length - (intOf i).toNat)
  case atStart => exact ⟨0, by omega, rfl, hR, fun i j r c h => by omega, hB⟩
  case round =>
    clear hR hB hrun
    obtain ⟨k, hk, rfl, hR, hF, hB⟩ := hrel
    by_cases hlt : k < l.length
    · obtain ⟨r, hr⟩ : ∃ r, l[k]? = some r := ⟨_, List.getElem?_eq_getElem hlt⟩
      have hrow : (l.map LinkD.cs)[k]? = some r.cs := by rw [List.getElem?_map, hr]; rfl
      obtain ⟨b, o, rfl, hc⟩ := (hA.below hB).at (i := k) hrow
      have hS := fun w => laws_toLink r w
      have c0 : wr.cell? ⟨b, o + k * 2, none⟩ = some (.string r.to_) := hc 0 _ rfl
      have c1 := hc 1 _ rfl
      clear hc
      unfold LinkD.v at hS
      go_wp2_with fail
      refine (hS _).mono ?_
      rintro e w2 ⟨rfl, hb2⟩
      have hR2 := hR.below hb2
      have hF2 := hF.below hb2
      have hB2 := hB.trans (hb2.mono hB.size)
      have hkm : k * 2 + 2 ≤ l.length * 2 := by omega
      obtain ⟨⟨u0, hu0⟩, hf0⟩ := hR2 (k * 2) (by omega)
      obtain ⟨⟨u1, hu1⟩, hf1⟩ := hR2 (k * 2 + 1) (by omega)
      have hW : putAll w2 w.heap.size (k * 2) r.cs = ((w2.setCell ⟨w.heap.size, k * 2, none⟩ (.string r.to_)).setCell ⟨w.heap.size, k * 2 + 1, none⟩ (.string r.name)) := by simp only [putAll, LinkD.cs]
      have R3 := putAll_room (cs := r.cs) (o := k * 2) hR2
      have F3 := hF2.put hR2 hrow rfl hkm hlen
      have B3 := putAll_below (cs := r.cs) (o := k * 2) hB2 (Nat.le_refl _)
      rw [hW] at R3 F3 B3
      clear hW hR2 hF2 hB2
      go_wp2
      go_roundw
      case rel => exact ⟨k + 1, by omega, by go_num, R3, F3, B3⟩
      case measure => simp [intOf]; omega
    · have e : k = l.length := by omega
      subst e
      go_wp2
      go_ret
      exact ⟨rfl, Filled.seq (by rw [hrl]; exact hF), hR, hB⟩
set_option maxHeartbeats 1000000 in
theorem laws_eqLink (r : LinkD) (w : World) :
    Calls Tryz.prog 111 #[r.v, r.v] w fun e w' => e = .returned (.bool true) ∧ Below w.heap.size w w' := by
  obtain ⟨to_, name⟩ := r
  simp only [LinkD.v] at *
  go_enter Tryz.func111, Tryz.ntmps111
  go_wp2
  go_ret
  exact ⟨rfl, ((Below.refl _ _).alloc (Nat.le_refl _) _).alloc (by simp) _⟩
set_option maxHeartbeats 2000000 in
theorem laws_eqLinkS (l : List LinkD) (a a2 : Option Addr) (cap cap2 : Nat) (w : World) (hA : SeqAt w a 2 (l.map LinkD.cs)) (hA2 : SeqAt w a2 2 (l.map LinkD.cs)) (hl : l.length ≤ 1048576) :
    Calls Tryz.prog 60 #[.slice a l.length cap, .slice a2 l.length cap2] w fun e w' => e = .returned (.bool true) ∧ Below w.heap.size w w' := by
  go_enter Tryz.func60, Tryz.ntmps60
  go_wp2
  go_loopw [5] (fun i wr => ∃ k : Nat, k ≤ l.length ∧ i = .int .i64 k ∧ Below w.heap.size w wr) (fun i _ => l.length - (intOf i).toNat)
  case atStart => exact ⟨0, by omega, rfl, Below.refl _ _⟩
  case round =>
    obtain ⟨k, hk, rfl, hB⟩ := hrel
    by_cases hlt : k < l.length
    · obtain ⟨r, hr⟩ : ∃ r, l[k]? = some r := ⟨_, List.getElem?_eq_getElem hlt⟩
      have hrow : (l.map LinkD.cs)[k]? = some r.cs := by rw [List.getElem?_map, hr]; rfl
      obtain ⟨b, o, rfl, hc⟩ := (hA.below hB).at (i := k) hrow
      obtain ⟨b2, o2, rfl, hd⟩ := (hA2.below hB).at (i := k) hrow
      have hS := fun w => laws_eqLink r w
      have c0 : wr.cell? ⟨b, o + k * 2, none⟩ = some (.string r.to_) := hc 0 _ rfl
      have d0 : wr.cell? ⟨b2, o2 + k * 2, none⟩ = some (.string r.to_) := hd 0 _ rfl
      have c1 := hc 1 _ rfl
      have d1 := hd 1 _ rfl
      clear hc hd
      unfold LinkD.v at hS
      have cE : ∀ dd os, Calls Tryz.prog _ _ (grow (redrawn wr dd) os) fun e w'' => e = .returned (.bool true) ∧ ∃ p : Regrown, w'' = grow (redrawn wr p.d) p.os := fun _ _ => Calls.regrown_of (hS _)
      have kc0 := cell_regrown c0
      have kd0 := cell_regrown d0
      have kc1 := cell_regrown c1
      have kd1 := cell_regrown d1
      go_wp2_with fail
      refine wp_region_quiet_below (by kernel_rfl) (by kernel_rfl) ?_
      repeat (quiet_step ((go_at_call 111; exact cE _ _)))
      refine wpQuiet_nil ?_
      intro _ hw'
      obtain ⟨⟨dq, osq⟩, hw''⟩ := hw'
      subst hw''
      have hb2 := below_regrown wr dq osq
      go_wp2
      go_roundw
      case rel => exact ⟨k + 1, by omega, by go_num, hB.trans (hb2.mono hB.size)⟩
      case measure => simp [intOf]; omega
    · have e : k = l.length := by omega
      subst e
      go_wp2
      go_ret
      exact ⟨rfl, hB⟩
end Go.Proofs.YtbbhpfobcelbfaaGreatDoor
namespace Go.Proofs.YtbbhpfobcelbfaaGreatDoor
open Go.RowKit Go.Sort

set_option maxHeartbeats 1000000 in
theorem laws_eqZone (z : ZoneD) (v v2 : Value) (w : World) (hv : EraSl w v z.eras) (hv2 : EraSl w v2 z.eras) (hl : z.eras.length ≤ 1048576) :
    Calls Tryz.prog 110 #[.agg #[.string z.name, v], .agg #[.string z.name, v2]] w fun e w' => e = .returned (.bool true) ∧ Below w.heap.size w w' := by
  obtain ⟨a, cap, rfl, hA⟩ := hv
  obtain ⟨a2, cap2, rfl, hA2⟩ := hv2
  obtain ⟨name, es⟩ := z
  simp only at *
  have hE := fun w (h : SeqAt w a 6 (es.map EraD.cs)) (h2 : SeqAt w a2 6 (es.map EraD.cs)) => laws_eqEraS es a a2 cap cap2 w h h2 hl
  have hb0 : ∀ o o2, Below w.heap.size w ((w.alloc o).alloc o2) := fun o o2 => ((Below.refl _ _).alloc (Nat.le_refl _) o).alloc (by simp) o2
  go_enter Tryz.func110, Tryz.ntmps110
  go_wp2_with fail
  refine (hE _ (hA.below (hb0 _ _)) (hA2.below (hb0 _ _))).mono ?_
  rintro e w1 ⟨rfl, hb⟩
  go_wp2
  go_ret
  exact ⟨rfl, (hb0 _ _).trans (hb.mono (by simp; omega))⟩
set_option maxHeartbeats 2000000 in
theorem laws_eqZoneS (l : List ZoneD) (a a2 : Option Addr) (cap cap2 : Nat) (w : World) (hA : ZonesAt w a l) (hA2 : ZonesAt w a2 l) (hl : l.length ≤ 1048576) (hle : ∀ z ∈ l, z.eras.length ≤ 1048576) :
    Calls Tryz.prog 59 #[.slice a l.length cap, .slice a2 l.length cap2] w fun e w' => e = .returned (.bool true) ∧ Below w.heap.size w w' := by
  go_enter Tryz.func59, Tryz.ntmps59
  go_wp2
  go_loopw [5] (fun i wr => ∃ k : Nat, k ≤ l.length ∧ i = .int .i64 k ∧ Below w.heap.size w wr) (fun i _ => l.length - (intOf i).toNat)
  case atStart => exact ⟨0, by omega, rfl, Below.refl _ _⟩
  case round =>
    obtain ⟨k, hk, rfl, hB⟩ := hrel
    by_cases hlt : k < l.length
    · obtain ⟨r, hr⟩ : ∃ r, l[k]? = some r := ⟨_, List.getElem?_eq_getElem hlt⟩
      obtain ⟨b, o, rfl, c0, v, c1, hv⟩ := (hA.below hB).at hr
      obtain ⟨b2, o2, rfl, d0, v2, d1, hv2⟩ := (hA2.below hB).at hr
      have hrl := hle r (List.mem_of_getElem? hr)
      have cE : ∀ dd os, Calls Tryz.prog 110 #[.agg #[.string r.name, v], .agg #[.string r.name, v2]] (grow (redrawn wr dd) os) fun e w'' => e = .returned (.bool true) ∧ ∃ p : Regrown, w'' = grow (redrawn wr p.d) p.os := fun dd os => Calls.regrown_of (laws_eqZone r v v2 _ (hv.below (below_regrown wr dd os)) (hv2.below (below_regrown wr dd os)) hrl)
      have kc0 := cell_regrown c0
      have kc1 := cell_regrown c1
      have kd0 := cell_regrown d0
      have kd1 := cell_regrown d1
      go_wp2_with fail
      refine wp_region_quiet_below (by kernel_rfl) (by kernel_rfl) ?_
      repeat (quiet_step ((go_at_call 110; exact cE _ _)))
      refine wpQuiet_nil ?_
      intro _ hw'
      obtain ⟨⟨dq, osq⟩, hw''⟩ := hw'
      subst hw''
      have hb2 := below_regrown wr dq osq
      go_wp2
      go_roundw
      case rel => exact ⟨k + 1, by omega, by go_num, hB.trans (hb2.mono hB.size)⟩
      case measure => simp [intOf]; omega
    · have e : k = l.length := by omega
      subst e
      go_wp2
      go_ret
      exact ⟨rfl, hB⟩
/-- a release. -/
structure RelD where
  rules : List RuleD
  zones : List ZoneD
  links : List LinkD
def RelD.ok (r : RelD) : Prop := (r.rules.length ≤ maxLen ∧ ∀ x ∈ r.rules, x.ok) ∧ (r.zones.length ≤ maxLen ∧ ∀ x ∈ r.zones, x.ok) ∧ (r.links.length ≤ maxLen ∧ ∀ x ∈ r.links, x.ok)
def RelD.sz (r : RelD) : Nat := (r.rules.length + rsz r.rules) + (r.zones.length + zsz r.zones) + (r.links.length + lsz r.links)
/-- a release in memory: three lists. -/
structure RelAt (w : World) (v : Value) (r : RelD) : Prop where
  form : ∃ a b c ca cb cc, v = .agg #[.slice a r.rules.length ca, .slice b r.zones.length cb, .slice c r.links.length cc] ∧ SeqAt w a 9 (r.rules.map RuleD.cs) ∧ ZonesAt w b r.zones ∧ SeqAt w c 2 (r.links.map LinkD.cs)
theorem RelAt.below {w w' : World} {v : Value} {r : RelD} (h : RelAt w v r) (hb : Below w.heap.size w w') : RelAt w' v r := by
  obtain ⟨a, b, c, ca, cb, cc, hv, h1, h2, h3⟩ := h.form
  exact ⟨a, b, c, ca, cb, cc, hv, h1.below hb, h2.below hb, h3.below hb⟩
set_option maxHeartbeats 1000000 in
theorem laws_szRelease (r : RelD) (v : Value) (n : Int) (w : World) (hv : RelAt w v r) (hm : r.ok) (h0 : 0 ≤ n) (h1 : n ≤ 1048576) :
    Calls Tryz.prog 20 #[v, .int .i64 n] w fun e w' => e = .returned (.int .i64 (clip (n - r.sz))) ∧ Below w.heap.size w w' := by
  obtain ⟨a, b, c, ca, cb, cc, rfl, hA, hB, hC⟩ := hv.form
  obtain ⟨⟨p1, p2⟩, ⟨q1, q2⟩, ⟨s1, s2⟩⟩ := hm
  obtain ⟨rs, zs, ls⟩ := r
  simp only [RelD.sz] at *
  have hb0 : ∀ o, Below w.heap.size w (w.alloc o) := fun o => (Below.refl _ _).alloc (Nat.le_refl _) o
  have hR := fun w (h : SeqAt w a 9 (rs.map RuleD.cs)) => laws_szRuleS rs a ca n w h p2 p1 h0 h1
  by_cases g1 : n - (rs.length + rsz rs) < 0
  · have HR : Hid (clip (n - ↑(rs.length + rsz rs + (zs.length + zsz zs) + (ls.length + lsz ls))) = -1) := clip_n (by omega)
    rw [clip_n g1] at hR
    go_enter Tryz.func20, Tryz.ntmps20
    go_wp2_with fail
    refine (hR _ (hA.below (hb0 _))).mono ?_
    rintro e w1 ⟨rfl, hb1⟩
    go_wp2
    go_ret
    exact ⟨ret_int HR.out.symm, (hb0 _).trans (hb1.mono (by simp))⟩
  rw [clip_p (by omega)] at hR
  have hZ := fun w (h : ZonesAt w b zs) => laws_szZoneS zs b cb (n - (rs.length + rsz rs)) w h q2 q1 (by omega) (by omega)
  by_cases g2 : n - (rs.length + rsz rs) - (zs.length + zsz zs) < 0
  · have HR : Hid (clip (n - ↑(rs.length + rsz rs + (zs.length + zsz zs) + (ls.length + lsz ls))) = -1) := clip_n (by omega)
    rw [clip_n g2] at hZ
    go_enter Tryz.func20, Tryz.ntmps20
    go_wp2_with fail
    refine (hR _ (hA.below (hb0 _))).mono ?_
    rintro e w1 ⟨rfl, hb1⟩
    have hB1 := (hb0 _).trans (hb1.mono (by simp))
    obtain ⟨hc, _⟩ := bcell hb1
    have hlt : w.heap.size < w1.heap.size := by have := hb1.size; simp at this; omega
    go_wp2_with fail
    refine (hZ _ (hB.below hB1)).mono ?_
    rintro e w2 ⟨rfl, hb2⟩
    go_wp2
    go_ret
    exact ⟨ret_int HR.out.symm, hB1.trans (hb2.mono hB1.size)⟩
  rw [clip_p (by omega)] at hZ
  have hL := fun w (h : SeqAt w c 2 (ls.map LinkD.cs)) => laws_szLinkS ls c cc (n - (rs.length + rsz rs) - (zs.length + zsz zs)) w h s2 s1 (by omega) (by omega)
  have tail : ∀ m, clip (n - (rs.length + rsz rs) - (zs.length + zsz zs) - (ls.length + lsz ls)) = m → clip (n - ↑(rs.length + rsz rs + (zs.length + zsz zs) + (ls.length + lsz ls))) = m := fun m h => by rw [← h]; congr 1; omega
  by_cases g3 : n - (rs.length + rsz rs) - (zs.length + zsz zs) - (ls.length + lsz ls) < 0
  · have HR : Hid (clip (n - ↑(rs.length + rsz rs + (zs.length + zsz zs) + (ls.length + lsz ls))) = -1) := tail _ (clip_n g3)
    rw [clip_n g3] at hL
    clear tail
    go_enter Tryz.func20, Tryz.ntmps20
    go_wp2_with fail
    refine (hR _ (hA.below (hb0 _))).mono ?_
    rintro e w1 ⟨rfl, hb1⟩
    have hB1 := (hb0 _).trans (hb1.mono (by simp))
    obtain ⟨hc, _⟩ := bcell hb1
    have hlt : w.heap.size < w1.heap.size := by have := hb1.size; simp at this; omega
    go_wp2_with fail
    refine (hZ _ (hB.below hB1)).mono ?_
    rintro e w2 ⟨rfl, hb2⟩
    have hB2 := hB1.trans (hb2.mono hB1.size)
    obtain ⟨hc2, _⟩ := bcell hb2
    go_wp2_with fail
    refine (hL _ (hC.below hB2)).mono ?_
    rintro e w3 ⟨rfl, hb3⟩
    go_wp2
    go_ret
    exact ⟨ret_int HR.out.symm, hB2.trans (hb3.mono hB2.size)⟩
  · have HR : Hid (clip (n - ↑(rs.length + rsz rs + (zs.length + zsz zs) + (ls.length + lsz ls))) = n - (rs.length + rsz rs) - (zs.length + zsz zs) - (ls.length + lsz ls)) := tail _ (clip_p (by omega))
    rw [clip_p (by omega)] at hL
    clear tail
    go_enter Tryz.func20, Tryz.ntmps20
    go_wp2_with fail
    refine (hR _ (hA.below (hb0 _))).mono ?_
    rintro e w1 ⟨rfl, hb1⟩
    have hB1 := (hb0 _).trans (hb1.mono (by simp))
    obtain ⟨hc, _⟩ := bcell hb1
    have hlt : w.heap.size < w1.heap.size := by have := hb1.size; simp at this; omega
    go_wp2_with fail
    refine (hZ _ (hB.below hB1)).mono ?_
    rintro e w2 ⟨rfl, hb2⟩
    have hB2 := hB1.trans (hb2.mono hB1.size)
    obtain ⟨hc2, _⟩ := bcell hb2
    go_wp2_with fail
    refine (hL _ (hC.below hB2)).mono ?_
    rintro e w3 ⟨rfl, hb3⟩
    go_wp2
    go_ret
    exact ⟨ret_int HR.out.symm, hB2.trans (hb3.mono hB2.size)⟩
end Go.Proofs.YtbbhpfobcelbfaaGreatDoor
namespace Go.Proofs.YtbbhpfobcelbfaaGreatDoor
open Go.RowKit Go.Sort

/-- from a block on nothing has changed. -/
def From (B : Nat) (w w' : World) : Prop := ∀ g x, B ≤ g → w'.cell? ⟨g, x, none⟩ = w.cell? ⟨g, x, none⟩ ∧ w'.frozen? ⟨g, x, none⟩ = w.frozen? ⟨g, x, none⟩
theorem From.set {B : Nat} {w w' : World} (h : From B w w') {p i : Nat} (hp : p < B) (v : Value) : From B w (w'.setCell ⟨p, i, none⟩ v) := fun g x hg =>
  ⟨by rw [World.cell?_setCell_other _ _ _ _ (ne_blk2 (by omega))]; exact (h g x hg).1, by rw [World.frozen?_setCell]; exact (h g x hg).2⟩
theorem From.refl (B : Nat) (w : World) : From B w w := fun _ _ _ => ⟨rfl, rfl⟩
theorem SeqAt.from {B g k : Nat} {w w' : World} {rows : List (List Value)} (h : SeqAt w (some ⟨g, 0, none⟩) k rows) (hf : From B w w') (hg : B ≤ g) : SeqAt w' (some ⟨g, 0, none⟩) k rows := h.keep fun x => (hf g x hg).1
theorem Room.from {B g m : Nat} {w w' : World} (h : Room w g m) (hf : From B w w') (hg : B ≤ g) : Room w' g m := h.keep (fun x => (hf g x hg).1) (fun x => (hf g x hg).2)
theorem ZFilled.from {B g k : Nat} {w w' : World} {zs : List ZoneD} (h : ZFilled w g k zs) (hf : From B w w') (hg : B ≤ g) : ZFilled w' g k zs := fun i z hi hz => by
  obtain ⟨c0, q, hq, c1, hs, hr⟩ := h i z hi hz
  exact ⟨by rw [(hf g _ hg).1]; exact c0, q, hq, by rw [(hf g _ hg).1]; exact c1, hs.from hf (by omega), hr.from hf (by omega)⟩
/-- a release of one's own memory, from a block on. -/
structure OwnRel (w : World) (B : Nat) (v : Value) (r : RelD) : Prop where
  form : ∃ a b c, v = .agg #[.slice (some ⟨a, 0, none⟩) r.rules.length r.rules.length, .slice (some ⟨b, 0, none⟩) r.zones.length r.zones.length, .slice (some ⟨c, 0, none⟩) r.links.length r.links.length] ∧
    (B ≤ a ∧ B ≤ b ∧ B ≤ c) ∧ (SeqAt w (some ⟨a, 0, none⟩) 9 (r.rules.map RuleD.cs) ∧ Room w a (r.rules.length * 9)) ∧ (ZFilled w b r.zones.length r.zones ∧ Room w b (r.zones.length * 2)) ∧ (SeqAt w (some ⟨c, 0, none⟩) 2 (r.links.map LinkD.cs) ∧ Room w c (r.links.length * 2))
theorem OwnRel.rel {w : World} {B : Nat} {v : Value} {r : RelD} (h : OwnRel w B v r) : RelAt w v r := by
  obtain ⟨a, b, c, hv, _, ⟨h1, _⟩, ⟨h2, _⟩, ⟨h3, _⟩⟩ := h.form
  exact ⟨_, _, _, _, _, _, hv, h1, h2.zones, h3⟩
theorem OwnRel.below {w w' : World} {B : Nat} {v : Value} {r : RelD} (h : OwnRel w B v r) (hb : Below w.heap.size w w') : OwnRel w' B v r := by
  obtain ⟨a, b, c, hv, hB, ⟨h1, k1⟩, ⟨h2, k2⟩, ⟨h3, k3⟩⟩ := h.form
  exact ⟨a, b, c, hv, hB, ⟨h1.below hb, k1.below hb⟩, ⟨h2.below hb, k2.below hb⟩, ⟨h3.below hb, k3.below hb⟩⟩
theorem set_three {w : World} {b : Nat} {x0 x1 x2 v0 v1 v2 : Value} (h0 : w.cell? ⟨b, 0, none⟩ = some x0) (h1 : w.cell? ⟨b, 1, none⟩ = some x1) (h2 : w.cell? ⟨b, 2, none⟩ = some x2) :
    (((w.setCell ⟨b, 0, none⟩ v0).setCell ⟨b, 1, none⟩ v1).setCell ⟨b, 2, none⟩ v2).cell? ⟨b, 0, none⟩ = some v0 ∧ (((w.setCell ⟨b, 0, none⟩ v0).setCell ⟨b, 1, none⟩ v1).setCell ⟨b, 2, none⟩ v2).cell? ⟨b, 1, none⟩ = some v1 ∧ (((w.setCell ⟨b, 0, none⟩ v0).setCell ⟨b, 1, none⟩ v1).setCell ⟨b, 2, none⟩ v2).cell? ⟨b, 2, none⟩ = some v2 := by
  refine ⟨?_, ?_, ?_⟩
  · rw [World.cell?_setCell_other _ _ _ _ (by simp), World.cell?_setCell_other _ _ _ _ (by simp), World.cell?_setCell_same _ _ _ h0]
  · rw [World.cell?_setCell_other _ _ _ _ (by simp)]
    refine World.cell?_setCell_same _ _ _ (u := x1) ?_
    rw [World.cell?_setCell_other _ _ _ _ (by simp)]; exact h1
  · refine World.cell?_setCell_same _ _ _ (u := x2) ?_
    rw [World.cell?_setCell_other _ _ _ _ (by simp), World.cell?_setCell_other _ _ _ _ (by simp)]; exact h2
def RelD.small (r : RelD) : Prop := r.rules.length ≤ 1048576 ∧ r.zones.length ≤ 1048576 ∧ r.links.length ≤ 1048576 ∧ ∀ z ∈ r.zones, z.eras.length ≤ 1048576
set_option maxHeartbeats 2000000 in
theorem laws_toRelease (r : RelD) (v : Value) (w : World) (hv : RelAt w v r) (hm : r.small) :
    Calls Tryz.prog 21 #[v] w fun e w' => ∃ v', e = .returned v' ∧ OwnRel w' w.heap.size v' r ∧ Below w.heap.size w w' := by
  obtain ⟨a, b, c, ca, cb, cc, rfl, hA, hB, hC⟩ := hv.form
  obtain ⟨m1, m2, m3, m4⟩ := hm
  obtain ⟨rs, zs, ls⟩ := r
  simp only at *
  have hR := fun w (h : SeqAt w a 9 (rs.map RuleD.cs)) => laws_toRuleS rs a ca w h m1
  have hZ := fun w (h : ZonesAt w b zs) => laws_toZoneS zs b cb w h m2 m4
  have hL := fun w (h : SeqAt w c 2 (ls.map LinkD.cs)) => laws_toLinkS ls c cc w h m3
  go_enter Tryz.func21, Tryz.ntmps21
  go_wp2_with fail
  refine (hR _ (hA.below (below_three _ _ _ _))).mono ?_
  rintro e w1 ⟨rfl, q1, k1, hb1⟩
  obtain ⟨hc1, hf1⟩ := bcell hb1
  have hB1 : Below w.heap.size w w1 := (below_three w _ _ _).trans (hb1.mono (by simp; omega))
  have hz1 : w.heap.size + 3 ≤ w1.heap.size := by have := hb1.size; simp at this; omega
  simp only [heap3] at q1 k1
  have x1 : w1.cell? ⟨w.heap.size, 1, none⟩ = some (.slice b zs.length cb) := (hc1 _ _ (by simp; omega)).trans (by simp [go_sem])
  have x2 : w1.cell? ⟨w.heap.size, 2, none⟩ = some (.slice c ls.length cc) := (hc1 _ _ (by simp; omega)).trans (by simp [go_sem])
  have o0 : w1.cell? ⟨w.heap.size + 1 + 1, 0, none⟩ = some (.slice none 0 0) := (hc1 _ _ (by simp)).trans (by simp [go_sem])
  have o1 : w1.cell? ⟨w.heap.size + 1 + 1, 1, none⟩ = some (.slice none 0 0) := (hc1 _ _ (by simp)).trans (by simp [go_sem])
  have o2 : w1.cell? ⟨w.heap.size + 1 + 1, 2, none⟩ = some (.slice none 0 0) := (hc1 _ _ (by simp)).trans (by simp [go_sem])
  have s0 : w1.cell? ⟨w.heap.size + 1, 0, none⟩ = some (.slice none 0 0) := (hc1 _ _ (by simp)).trans (by simp [go_sem])
  have s1 : w1.cell? ⟨w.heap.size + 1, 1, none⟩ = some (.slice none 0 0) := (hc1 _ _ (by simp)).trans (by simp [go_sem])
  have s2 : w1.cell? ⟨w.heap.size + 1, 2, none⟩ = some (.slice none 0 0) := (hc1 _ _ (by simp)).trans (by simp [go_sem])
  have f2 : ∀ i, w1.frozen? ⟨w.heap.size + 1 + 1, i, none⟩ = false := fun i => (hf1 _ _ (by simp)).trans (by simp [go_sem])
  have f1 : ∀ i, w1.frozen? ⟨w.heap.size + 1, i, none⟩ = false := fun i => (hf1 _ _ (by simp)).trans (by simp [go_sem])
  clear hc1 hf1 hb1
  generalize hg1 : w.heap.size + 1 + 1 + 1 = g1 at *
  go_wp2_with fail
  have hBs : Below w.heap.size w (w1.setCell ⟨w.heap.size + 1 + 1, 0, none⟩ (.slice (some ⟨g1, 0, none⟩) rs.length rs.length)) := hB1.setCell (show w.heap.size ≤ w.heap.size + 1 + 1 by omega) _
  refine (hZ _ (hB.below hBs)).mono ?_
  rintro e w2 ⟨rfl, q2, k2, hb2⟩
  obtain ⟨hc2, hf2⟩ := bcell hb2
  have hB2 := hBs.trans (hb2.mono hBs.size)
  have hsz : (w1.setCell ⟨w.heap.size + 1 + 1, 0, none⟩ (.slice (some ⟨g1, 0, none⟩) rs.length rs.length)).heap.size = w1.heap.size := by simp
  have hF1 : From g1 w1 (w1.setCell ⟨w.heap.size + 1 + 1, 0, none⟩ (.slice (some ⟨g1, 0, none⟩) rs.length rs.length)) := (From.refl g1 w1).set (by omega) _
  have q1a := (q1.from hF1 (Nat.le_refl _)).below hb2
  have k1a := (k1.from hF1 (Nat.le_refl _)).below hb2
  have C2 : ∀ p i, p < w1.heap.size → (p, i) ≠ (w.heap.size + 1 + 1, 0) → w2.cell? ⟨p, i, none⟩ = w1.cell? ⟨p, i, none⟩ := fun p i hp hne => by
    rw [hc2 _ _ (by rw [hsz]; exact hp), World.cell?_setCell_other]
    intro e; injection e with e1 e2; subst e1 e2; exact hne rfl
  have F2 : ∀ p i, p < w1.heap.size → w2.frozen? ⟨p, i, none⟩ = w1.frozen? ⟨p, i, none⟩ := fun p i hp => by
    rw [hf2 _ _ (by rw [hsz]; exact hp), World.frozen?_setCell]
  have y2 : w2.cell? ⟨w.heap.size, 2, none⟩ = some (.slice c ls.length cc) := (C2 _ _ (by omega) (by simp)).trans x2
  have O0 : w2.cell? ⟨w.heap.size + 1 + 1, 0, none⟩ = some (.slice (some ⟨g1, 0, none⟩) rs.length rs.length) := (hc2 _ _ (by rw [hsz]; omega)).trans (World.cell?_setCell_same _ _ _ o0)
  have O1 : w2.cell? ⟨w.heap.size + 1 + 1, 1, none⟩ = some (.slice none 0 0) := (C2 _ _ (by omega) (by simp)).trans o1
  have O2 : w2.cell? ⟨w.heap.size + 1 + 1, 2, none⟩ = some (.slice none 0 0) := (C2 _ _ (by omega) (by simp)).trans o2
  have S0 : w2.cell? ⟨w.heap.size + 1, 0, none⟩ = some (.slice none 0 0) := (C2 _ _ (by omega) (by simp)).trans s0
  have S1 : w2.cell? ⟨w.heap.size + 1, 1, none⟩ = some (.slice none 0 0) := (C2 _ _ (by omega) (by simp)).trans s1
  have S2 : w2.cell? ⟨w.heap.size + 1, 2, none⟩ = some (.slice none 0 0) := (C2 _ _ (by omega) (by simp)).trans s2
  have f4 : ∀ i, w2.frozen? ⟨w.heap.size + 1 + 1, i, none⟩ = false := fun i => (F2 _ _ (by omega)).trans (f2 i)
  have f3 : ∀ i, w2.frozen? ⟨w.heap.size + 1, i, none⟩ = false := fun i => (F2 _ _ (by omega)).trans (f1 i)
  rw [hsz] at q2 k2
  have hz2 : w1.heap.size ≤ w2.heap.size := by have := hb2.size; rw [hsz] at this; exact this
  clear hc2 hf2 hb2 C2 F2 x1 x2 o0 o1 o2 s0 s1 s2 f1 f2 hF1 q1 k1 hBs
  generalize hg2 : w1.heap.size = g2 at *
  have f41 := f4 1
  have f42 := f4 2
  go_wp2_with fail
  have hBt : Below w.heap.size w (w2.setCell ⟨w.heap.size + 1 + 1, 1, none⟩ (.slice (some ⟨g2, 0, none⟩) zs.length zs.length)) := hB2.setCell (show w.heap.size ≤ w.heap.size + 1 + 1 by omega) _
  refine (hL _ (hC.below hBt)).mono ?_
  rintro e w3 ⟨rfl, q3, k3, hb3⟩
  obtain ⟨hc3, hf3⟩ := bcell hb3
  have hB3 := hBt.trans (hb3.mono hBt.size)
  have hsz2 : (w2.setCell ⟨w.heap.size + 1 + 1, 1, none⟩ (.slice (some ⟨g2, 0, none⟩) zs.length zs.length)).heap.size = w2.heap.size := by simp
  have hF2 : From g1 w2 (w2.setCell ⟨w.heap.size + 1 + 1, 1, none⟩ (.slice (some ⟨g2, 0, none⟩) zs.length zs.length)) := (From.refl g1 w2).set (by omega) _
  have q1b := (q1a.from hF2 (Nat.le_refl _)).below hb3
  have k1b := (k1a.from hF2 (Nat.le_refl _)).below hb3
  have q2b := (q2.from hF2 (by omega)).below hb3
  have k2b := (k2.from hF2 (by omega)).below hb3
  have C3 : ∀ p i, p < w2.heap.size → (p, i) ≠ (w.heap.size + 1 + 1, 1) → w3.cell? ⟨p, i, none⟩ = w2.cell? ⟨p, i, none⟩ := fun p i hp hne => by
    rw [hc3 _ _ (by rw [hsz2]; exact hp), World.cell?_setCell_other]
    intro e; injection e with e1 e2; subst e1 e2; exact hne rfl
  have F3 : ∀ p i, p < w2.heap.size → w3.frozen? ⟨p, i, none⟩ = w2.frozen? ⟨p, i, none⟩ := fun p i hp => by
    rw [hf3 _ _ (by rw [hsz2]; exact hp), World.frozen?_setCell]
  have P0 : w3.cell? ⟨w.heap.size + 1 + 1, 0, none⟩ = some (.slice (some ⟨g1, 0, none⟩) rs.length rs.length) := (C3 _ _ (by omega) (by simp)).trans O0
  have P1 : w3.cell? ⟨w.heap.size + 1 + 1, 1, none⟩ = some (.slice (some ⟨g2, 0, none⟩) zs.length zs.length) := (hc3 _ _ (by rw [hsz2]; omega)).trans (World.cell?_setCell_same _ _ _ O1)
  have P2 : w3.cell? ⟨w.heap.size + 1 + 1, 2, none⟩ = some (.slice none 0 0) := (C3 _ _ (by omega) (by simp)).trans O2
  have T0 : w3.cell? ⟨w.heap.size + 1, 0, none⟩ = some (.slice none 0 0) := (C3 _ _ (by omega) (by simp)).trans S0
  have T1 : w3.cell? ⟨w.heap.size + 1, 1, none⟩ = some (.slice none 0 0) := (C3 _ _ (by omega) (by simp)).trans S1
  have T2 : w3.cell? ⟨w.heap.size + 1, 2, none⟩ = some (.slice none 0 0) := (C3 _ _ (by omega) (by simp)).trans S2
  have e2 : w3.frozen? ⟨w.heap.size + 1 + 1, 2, none⟩ = false := (F3 _ _ (by omega)).trans (f4 2)
  have e30 : w3.frozen? ⟨w.heap.size + 1, 0, none⟩ = false := (F3 _ _ (by omega)).trans (f3 0)
  have e31 : w3.frozen? ⟨w.heap.size + 1, 1, none⟩ = false := (F3 _ _ (by omega)).trans (f3 1)
  have e32 : w3.frozen? ⟨w.heap.size + 1, 2, none⟩ = false := (F3 _ _ (by omega)).trans (f3 2)
  rw [hsz2] at q3 k3
  clear hc3 hf3 hb3 C3 F3 O0 O1 O2 S0 S1 S2 f3 f4 f41 f42 y2 hF2 q1a k1a q2 k2 hBt hB2
  have hz3 : g2 ≤ w2.heap.size := hz2
  generalize hg3 : w2.heap.size = g3 at *
  have X0 : (w3.setCell ⟨w.heap.size + 1 + 1, 2, none⟩ (.slice (some ⟨g3, 0, none⟩) ls.length ls.length)).cell? ⟨w.heap.size + 1, 0, none⟩ = some (.slice none 0 0) := by rw [World.cell?_setCell_other _ _ _ _ (ne_blk2 (by omega))]; exact T0
  have X1 : (w3.setCell ⟨w.heap.size + 1 + 1, 2, none⟩ (.slice (some ⟨g3, 0, none⟩) ls.length ls.length)).cell? ⟨w.heap.size + 1, 1, none⟩ = some (.slice none 0 0) := by rw [World.cell?_setCell_other _ _ _ _ (ne_blk2 (by omega))]; exact T1
  have X2 : (w3.setCell ⟨w.heap.size + 1 + 1, 2, none⟩ (.slice (some ⟨g3, 0, none⟩) ls.length ls.length)).cell? ⟨w.heap.size + 1, 2, none⟩ = some (.slice none 0 0) := by rw [World.cell?_setCell_other _ _ _ _ (ne_blk2 (by omega))]; exact T2
  obtain ⟨r0, r1, r2⟩ := set_three (v0 := .slice (some ⟨g1, 0, none⟩) rs.length rs.length) (v1 := .slice (some ⟨g2, 0, none⟩) zs.length zs.length) (v2 := .slice (some ⟨g3, 0, none⟩) ls.length ls.length) X0 X1 X2
  have hF3 : From g1 w3 ((((w3.setCell ⟨w.heap.size + 1 + 1, 2, none⟩ (.slice (some ⟨g3, 0, none⟩) ls.length ls.length)).setCell ⟨w.heap.size + 1, 0, none⟩ (.slice (some ⟨g1, 0, none⟩) rs.length rs.length)).setCell ⟨w.heap.size + 1, 1, none⟩ (.slice (some ⟨g2, 0, none⟩) zs.length zs.length)).setCell ⟨w.heap.size + 1, 2, none⟩ (.slice (some ⟨g3, 0, none⟩) ls.length ls.length)) :=
    ((((From.refl g1 w3).set (by omega) _).set (by omega) _).set (by omega) _).set (by omega) _
  go_wp2
  refine bodyPost_ret (v := .agg #[.slice (some ⟨g1, 0, none⟩) rs.length rs.length, .slice (some ⟨g2, 0, none⟩) zs.length zs.length, .slice (some ⟨g3, 0, none⟩) ls.length ls.length]) (by simp [results, Tryz.results21, go_sem, r0, r1, r2]) rfl ⟨_, rfl, ⟨g1, g2, g3, rfl, ⟨by omega, by omega, by omega⟩, ⟨q1b.from hF3 (Nat.le_refl _), k1b.from hF3 (Nat.le_refl _)⟩, ⟨q2b.from hF3 (by omega), k2b.from hF3 (by omega)⟩, ⟨q3.from hF3 (by omega), k3.from hF3 (by omega)⟩⟩, (((hB3.setCell (show w.heap.size ≤ w.heap.size + 1 + 1 by omega) _).setCell (show w.heap.size ≤ w.heap.size + 1 by omega) _).setCell (show w.heap.size ≤ w.heap.size + 1 by omega) _).setCell (show w.heap.size ≤ w.heap.size + 1 by omega) _⟩
set_option maxHeartbeats 1000000 in
theorem laws_eqRelease (r : RelD) (v v2 : Value) (w : World) (hv : RelAt w v r) (hv2 : RelAt w v2 r) (hm : r.small) :
    Calls Tryz.prog 23 #[v, v2] w fun e w' => e = .returned (.bool true) ∧ Below w.heap.size w w' := by
  obtain ⟨a, b, c, ca, cb, cc, rfl, hA, hB, hC⟩ := hv.form
  obtain ⟨a2, b2, c2, ca2, cb2, cc2, rfl, hA2, hB2, hC2⟩ := hv2.form
  obtain ⟨m1, m2, m3, m4⟩ := hm
  obtain ⟨rs, zs, ls⟩ := r
  simp only at *
  have hR := fun w (h : SeqAt w a 9 (rs.map RuleD.cs)) (h2 : SeqAt w a2 9 (rs.map RuleD.cs)) => laws_eqRuleS rs a a2 ca ca2 w h h2 m1
  have hZ := fun w (h : ZonesAt w b zs) (h2 : ZonesAt w b2 zs) => laws_eqZoneS zs b b2 cb cb2 w h h2 m2 m4
  have hL := fun w (h : SeqAt w c 2 (ls.map LinkD.cs)) (h2 : SeqAt w c2 2 (ls.map LinkD.cs)) => laws_eqLinkS ls c c2 cc cc2 w h h2 m3
  have hb0 : ∀ o o2, Below w.heap.size w ((w.alloc o).alloc o2) := fun o o2 => ((Below.refl _ _).alloc (Nat.le_refl _) o).alloc (by simp) o2
  clear hv hv2
  go_enter Tryz.func23, Tryz.ntmps23
  go_wp2_with fail
  refine (hR _ (hA.below (hb0 _ _)) (hA2.below (hb0 _ _))).mono ?_
  rintro e w1 ⟨rfl, hb1⟩
  obtain ⟨hc1, _⟩ := bcell hb1
  have hB1 := (hb0 _ _).trans (hb1.mono (by simp; omega))
  have hz1 : w.heap.size + 1 < w1.heap.size := by have := hb1.size; simp at this; omega
  have hz0 : w.heap.size < w1.heap.size := by omega
  go_wp2_with fail
  refine (hZ _ (hB.below hB1) (hB2.below hB1)).mono ?_
  rintro e w2 ⟨rfl, hb2⟩
  obtain ⟨hc2, _⟩ := bcell hb2
  have hBB := hB1.trans (hb2.mono hB1.size)
  go_wp2_with fail
  refine (hL _ (hC.below hBB) (hC2.below hBB)).mono ?_
  rintro e w3 ⟨rfl, hb3⟩
  go_wp2
  go_ret
  exact ⟨rfl, hBB.trans (hb3.mono hBB.size)⟩
end Go.Proofs.YtbbhpfobcelbfaaGreatDoor
