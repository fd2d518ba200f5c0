/- Packed: Rel1 Rel2 RelHap RelEra RelTurn Own1 RelZone RelZone2 RelRule RelLink RelRel RelRel2 Map1 Map2 Touch Mark0 MarkHap MarkTurn MarkRule MarkEra MarkLink MarkRel. -/
import Derived.Test.YtcelbkmnbjcjhaaBaseAw
import Derived.Laws.OwnMore
import Derived.Lib.QuietBelow
import Derived.Laws.AppendOwn
import Derived.Deep.AppendLies
import Derived.OwnWalk
import Derived.Maps.Own
import Derived.BigRegion
import Derived.Deep.RegionLaw
import Derived.Deep.RegionHeld3
import Derived.Sort.Row
import Derived.Laws.IdiomStrings
namespace Go.Proofs.Ytcelbkmnbjcjhaa
open Go.RowKit

/-- a rule. -/
structure RuleD where
  name : ByteArray
  lo : Int
  hi : Int
  month : Int
  on : ByteArray
  at_ : Int
  of : ByteArray
  save : Int
  letter : ByteArray
def RuleD.cs (r : RuleD) : List Value := [.string r.name, .int .i64 r.lo, .int .i64 r.hi, .int .i64 r.month, .string r.on, .int .i64 r.at_, .string r.of, .int .i64 r.save, .string r.letter]
def RuleD.v (r : RuleD) : Value := .agg #[.string r.name, .int .i64 r.lo, .int .i64 r.hi, .int .i64 r.month, .string r.on, .int .i64 r.at_, .string r.of, .int .i64 r.save, .string r.letter]
/-- how many letters it holds. -/
def RuleD.sz (r : RuleD) : Nat := r.name.size + r.on.size + r.of.size + r.letter.size
/-- a list in memory: k cells each. -/
def SeqAt (w : World) (a : Option Addr) (k : Nat) (rows : List (List Value)) : Prop :=
  rows = [] ∨ ∃ b o, a = some ⟨b, o, none⟩ ∧ ∀ i j r c, rows[i]? = some r → r[j]? = some c → w.cell? ⟨b, o + i * k + j, none⟩ = some c
/-- what is left. -/
def clip (x : Int) : Int := if x < 0 then -1 else x
theorem clip_n {x : Int} (h : x < 0) : clip x = -1 := if_pos h
theorem clip_p {x : Int} (h : 0 ≤ x) : clip x = x := if_neg (by omega)
def rsz (l : List RuleD) : Nat := (l.map RuleD.sz).sum
theorem rsz_take {l : List RuleD} {k : Nat} {r : RuleD} (h : l[k]? = some r) : rsz (l.take (k + 1)) = rsz (l.take k) + r.sz := by
  unfold rsz
  rw [List.take_add_one, h]
  simp
theorem rsz_le (l : List RuleD) (k : Nat) : rsz (l.take k) ≤ rsz l := by
  have := congrArg (fun l => (l.map RuleD.sz).sum) (List.take_append_drop k l)
  simp only [List.map_append, List.sum_append] at this
  unfold rsz
  omega
/-- no text is too long for the machine. -/
def RuleD.ok (r : RuleD) : Prop := r.name.size ≤ maxLen ∧ r.on.size ≤ maxLen ∧ r.of.size ≤ maxLen ∧ r.letter.size ≤ maxLen
/-- the cells of a rule of a list. -/
theorem SeqAt.at {w : World} {a : Option Addr} {k : Nat} {rows : List (List Value)} (h : SeqAt w a k rows) {i : Nat} {r : List Value} (hi : rows[i]? = some r) : ∃ b o, a = some ⟨b, o, none⟩ ∧ ∀ j c, r[j]? = some c → w.cell? ⟨b, o + i * k + j, none⟩ = some c := by
  rcases h with rfl | ⟨b, o, ha, hc⟩
  · simp at hi
  · exact ⟨b, o, ha, fun j c hj => hc i j r c hi hj⟩
theorem SeqAt.below {w w' : World} {a : Option Addr} {k : Nat} {rows : List (List Value)} (h : SeqAt w a k rows) (hb : Below w.heap.size w w') : SeqAt w' a k rows := by
  rcases h with h | ⟨b, o, ha, hc⟩
  · exact .inl h
  · exact .inr ⟨b, o, ha, fun i j r c hi hj => by
      have := hc i j r c hi hj
      rw [(bcell hb).1 _ _ (World.block_lt_of_cell? _ _ this)]; exact this⟩
end Go.Proofs.Ytcelbkmnbjcjhaa
namespace Go.Proofs.Ytcelbkmnbjcjhaa
open Go.RowKit

/-- a block with m cells that may be written. -/
def Room (w : World) (g m : Nat) : Prop := ∀ x, x < m → (∃ v, w.cell? ⟨g, x, none⟩ = some v) ∧ w.frozen? ⟨g, x, none⟩ = false
theorem Room.below {w w' : World} {g m : Nat} (h : Room w g m) (hb : Below w.heap.size w w') : Room w' g m := fun x hx => by
  obtain ⟨⟨v, hv⟩, hf⟩ := h x hx
  have hlt := World.block_lt_of_cell? _ _ hv
  exact ⟨⟨v, by rw [(bcell hb).1 _ _ hlt]; exact hv⟩, by rw [(bcell hb).2 _ _ hlt]; exact hf⟩
theorem Room.set {w : World} {g m : Nat} (h : Room w g m) (a : Addr) (v : Value) : Room (w.setCell a v) g m := fun x hx => by
  obtain ⟨⟨u, hu⟩, hf⟩ := h x hx
  exact ⟨cell?_setCell_some hu, by rw [World.frozen?_setCell]; exact hf⟩
/-- cells stored one behind the other. -/
def putAll (w : World) (g o : Nat) : List Value → World
  | [] => w
  | c :: cs => putAll (w.setCell ⟨g, o, none⟩ c) g (o + 1) cs
theorem putAll_room {g m : Nat} {cs : List Value} : ∀ {w : World} {o : Nat}, Room w g m → Room (putAll w g o cs) g m := by
  induction cs with
  | nil => intro w o h; exact h
  | cons c cs ih => intro w o h; exact ih (h.set _ _)
theorem putAll_far {cs : List Value} : ∀ {w : World} {g o : Nat} {b x : Nat}, (b ≠ g ∨ x < o ∨ o + cs.length ≤ x) → (putAll w g o cs).cell? ⟨b, x, none⟩ = w.cell? ⟨b, x, none⟩ := by
  induction cs with
  | nil => intros; rfl
  | cons c cs ih =>
    intro w g o b x h
    have hl : (c :: cs).length = cs.length + 1 := rfl
    rw [putAll, ih (by omega), World.cell?_setCell_other]
    intro e
    injection e with e1 e2
    omega
theorem putAll_at {cs : List Value} : ∀ {w : World} {g o m : Nat} {j : Nat} {c : Value}, Room w g m → o + cs.length ≤ m → cs[j]? = some c → (putAll w g o cs).cell? ⟨g, o + j, none⟩ = some c := by
  induction cs with
  | nil => intro w g o m j c _ _ h; simp at h
  | cons d cs ih =>
    intro w g o m j c hR hm h
    have hl : (d :: cs).length = cs.length + 1 := rfl
    cases j with
    | zero =>
      simp at h
      subst h
      rw [putAll, putAll_far (by omega)]
      obtain ⟨⟨u, hu⟩, _⟩ := hR o (by omega)
      exact World.cell?_setCell_same _ _ _ hu
    | succ j =>
      have := ih (w := w.setCell ⟨g, o, none⟩ d) (g := g) (o := o + 1) (m := m) (j := j) (c := c) (hR.set _ _) (by omega) (by simpa using h)
      rw [putAll, show o + (j + 1) = o + 1 + j by omega]
      exact this
theorem putAll_below {cs : List Value} : ∀ {w0 w : World} {n g o : Nat}, Below n w0 w → n ≤ g → Below n w0 (putAll w g o cs) := by
  induction cs with
  | nil => intro w0 w n g o h _; exact h
  | cons c cs ih => intro w0 w n g o h hg; exact ih (h.setCell hg _) hg
/-- the first k rows stand there. -/
def Filled (w : World) (g q k : Nat) (rows : List (List Value)) : Prop := ∀ i j r c, i < k → rows[i]? = some r → r[j]? = some c → w.cell? ⟨g, i * q + j, none⟩ = some c
theorem Filled.below {w w' : World} {g q k : Nat} {rows : List (List Value)} (h : Filled w g q k rows) (hb : Below w.heap.size w w') : Filled w' g q k rows := fun i j r c hi hr hc => by
  have := h i j r c hi hr hc
  rw [(bcell hb).1 _ _ (World.block_lt_of_cell? _ _ this)]; exact this
theorem Filled.put {w : World} {g q k m : Nat} {rows : List (List Value)} {r : List Value} (h : Filled w g q k rows) (hR : Room w g m) (hr : rows[k]? = some r) (hq : r.length = q) (hm : k * q + q ≤ m) (hlen : ∀ r ∈ rows, r.length = q) : Filled (putAll w g (k * q) r) g q (k + 1) rows := fun i j r' c hi hr' hc => by
  by_cases e : i = k
  · subst e
    rw [hr] at hr'
    obtain rfl := Option.some.inj hr'
    exact putAll_at hR (by omega) hc
  · have hj : j < q := by
      have := hlen r' (List.mem_of_getElem? hr')
      have := (List.getElem?_eq_some_iff.mp hc).1
      omega
    have hik : i * q + q ≤ k * q := by
      have : (i + 1) * q ≤ k * q := Nat.mul_le_mul_right q (by omega)
      rw [Nat.add_mul] at this; omega
    rw [putAll_far (by omega)]
    exact h i j r' c (by omega) hr' hc
theorem Filled.seq {w : World} {g q : Nat} {rows : List (List Value)} (h : Filled w g q rows.length rows) : SeqAt w (some ⟨g, 0, none⟩) q rows :=
  .inr ⟨g, 0, rfl, fun i j r c hr hc => by rw [show 0 + i * q + j = i * q + j by omega]; exact h i j r c (List.getElem?_eq_some_iff.mp hr).1 hr hc⟩
/-- the block that a make gives. -/
theorem room_of {w : World} {base g n q : Nat} {e : TypeId} {xs : List Value} (h : w.ownsRow base e q (.slice (some ⟨g, 0, none⟩) n n) n xs) : Room w g (n * q) := by
  rcases h.2 with ⟨h0, _⟩ | ⟨g', cap, cur, h1, _, hh, _, _, hs, _⟩
  · cases h0
  · injection h1 with h1 h2 h3
    injection h1 with h1
    injection h1 with h1
    subst h1 h3
    intro x hx
    have hx' : x < cur.size := by omega
    exact ⟨⟨cur[x], by simp [World.cell?, hh, hx']⟩, by simp [World.frozen?, hh]⟩
end Go.Proofs.Ytcelbkmnbjcjhaa
namespace Go.Proofs.Ytcelbkmnbjcjhaa
open Go.RowKit Go.Sort

structure HapD where
  at_ : Int
  save : Int
  letter : ByteArray
def HapD.cs (r : HapD) : List Value := [.int .i64 r.at_, .int .i64 r.save, .string r.letter]
def HapD.v (r : HapD) : Value := .agg #[.int .i64 r.at_, .int .i64 r.save, .string r.letter]
def HapD.sz (r : HapD) : Nat := r.letter.size
def HapD.ok (r : HapD) : Prop := r.letter.size ≤ maxLen
def hsz (l : List HapD) : Nat := (l.map HapD.sz).sum
theorem hsz_take {l : List HapD} {k : Nat} {r : HapD} (h : l[k]? = some r) : hsz (l.take (k + 1)) = hsz (l.take k) + r.sz := by
  unfold hsz
  rw [List.take_add_one, h]
  simp
theorem hsz_le (l : List HapD) (k : Nat) : hsz (l.take k) ≤ hsz l := by
  have := congrArg (fun l => (l.map HapD.sz).sum) (List.take_append_drop k l)
  simp only [List.map_append, List.sum_append] at this
  unfold hsz
  omega
set_option maxRecDepth 100000 in
theorem infoHap : ∃ i : TypeInfo, Try.prog.info? 124 = some i ∧ i.zero = some (.agg #[.int .i64 0, .int .i64 0, .string ⟨#[]⟩]) ∧ i.size = 3 ∧ i.bytes = 32 := ⟨_, rfl, rfl, rfl, rfl⟩
theorem HapD.len (r : HapD) : r.cs.length = 3 := rfl
end Go.Proofs.Ytcelbkmnbjcjhaa
namespace Go.Proofs.Ytcelbkmnbjcjhaa
open Go.RowKit Go.Sort

structure EraD where
  offset : Int
  rules : ByteArray
  save : Int
  format : ByteArray
  until_ : Int
  of : ByteArray
def EraD.cs (r : EraD) : List Value := [.int .i64 r.offset, .string r.rules, .int .i64 r.save, .string r.format, .int .i64 r.until_, .string r.of]
def EraD.v (r : EraD) : Value := .agg #[.int .i64 r.offset, .string r.rules, .int .i64 r.save, .string r.format, .int .i64 r.until_, .string r.of]
def EraD.sz (r : EraD) : Nat := r.rules.size + r.format.size + r.of.size
def EraD.ok (r : EraD) : Prop := r.rules.size ≤ maxLen ∧ r.format.size ≤ maxLen ∧ r.of.size ≤ maxLen
def esz (l : List EraD) : Nat := (l.map EraD.sz).sum
theorem esz_take {l : List EraD} {k : Nat} {r : EraD} (h : l[k]? = some r) : esz (l.take (k + 1)) = esz (l.take k) + r.sz := by
  unfold esz
  rw [List.take_add_one, h]
  simp
theorem esz_le (l : List EraD) (k : Nat) : esz (l.take k) ≤ esz l := by
  have := congrArg (fun l => (l.map EraD.sz).sum) (List.take_append_drop k l)
  simp only [List.map_append, List.sum_append] at this
  unfold esz
  omega
set_option maxRecDepth 100000 in
theorem infoEra : ∃ i : TypeInfo, Try.prog.info? 111 = some i ∧ i.zero = some (.agg #[.int .i64 0, .string ⟨#[]⟩, .int .i64 0, .string ⟨#[]⟩, .int .i64 0, .string ⟨#[]⟩]) ∧ i.size = 6 ∧ i.bytes = 72 := ⟨_, rfl, rfl, rfl, rfl⟩
theorem EraD.len (r : EraD) : r.cs.length = 6 := rfl
end Go.Proofs.Ytcelbkmnbjcjhaa
namespace Go.Proofs.Ytcelbkmnbjcjhaa
open Go.RowKit Go.Sort

structure TurnD where
  at_ : Int
  offset : Int
  save : Int
  abbr : ByteArray
def TurnD.cs (r : TurnD) : List Value := [.int .i64 r.at_, .int .i64 r.offset, .int .i64 r.save, .string r.abbr]
def TurnD.v (r : TurnD) : Value := .agg #[.int .i64 r.at_, .int .i64 r.offset, .int .i64 r.save, .string r.abbr]
def TurnD.sz (r : TurnD) : Nat := r.abbr.size
def TurnD.ok (r : TurnD) : Prop := r.abbr.size ≤ maxLen
def tsz (l : List TurnD) : Nat := (l.map TurnD.sz).sum
theorem tsz_take {l : List TurnD} {k : Nat} {r : TurnD} (h : l[k]? = some r) : tsz (l.take (k + 1)) = tsz (l.take k) + r.sz := by
  unfold tsz
  rw [List.take_add_one, h]
  simp
theorem tsz_le (l : List TurnD) (k : Nat) : tsz (l.take k) ≤ tsz l := by
  have := congrArg (fun l => (l.map TurnD.sz).sum) (List.take_append_drop k l)
  simp only [List.map_append, List.sum_append] at this
  unfold tsz
  omega
set_option maxRecDepth 100000 in
theorem infoTurn : ∃ i : TypeInfo, Try.prog.info? 32 = some i ∧ i.zero = some (.agg #[.int .i64 0, .int .i64 0, .int .i64 0, .string ⟨#[]⟩]) ∧ i.size = 4 ∧ i.bytes = 40 := ⟨_, rfl, rfl, rfl, rfl⟩
theorem TurnD.len (r : TurnD) : r.cs.length = 4 := rfl
end Go.Proofs.Ytcelbkmnbjcjhaa
namespace Go.Proofs.Ytcelbkmnbjcjhaa
open Go.RowKit

theorem flat_at {q : Nat} : ∀ {rows : List (List Value)}, (∀ r ∈ rows, r.length = q) → ∀ {i j : Nat} {r : List Value} {c : Value}, rows[i]? = some r → r[j]? = some c → rows.flatten[i * q + j]? = some c := by
  intro rows
  induction rows with
  | nil => intro _ i j r c h; simp at h
  | cons x rows ih =>
    intro hq i j r c hi hj
    have hx := hq x (by simp)
    cases i with
    | zero =>
      simp at hi
      subst hi
      rw [List.flatten_cons, Nat.zero_mul, Nat.zero_add, List.getElem?_append_left (List.getElem?_eq_some_iff.mp hj).1]
      exact hj
    | succ i =>
      rw [List.flatten_cons, List.getElem?_append_right (by rw [hx, Nat.add_mul]; omega), hx]
      rw [show (i + 1) * q + j - q = i * q + j by rw [Nat.add_mul]; omega]
      exact ih (fun y hy => hq y (List.mem_cons_of_mem _ hy)) (by simpa using hi) hj
theorem flat_len {q : Nat} : ∀ {rows : List (List Value)}, (∀ r ∈ rows, r.length = q) → rows.flatten.length = rows.length * q := by
  intro rows
  induction rows with
  | nil => intro _; simp
  | cons x rows ih =>
    intro hq
    rw [List.flatten_cons, List.length_append, hq x (by simp), ih fun y hy => hq y (List.mem_cons_of_mem _ hy), List.length_cons, Nat.add_mul]
    omega
/-- a row of structs in memory of one's own. -/
theorem seq_of_owns {w : World} {base : Nat} {e : TypeId} {q : Nat} {v : Value} {rows : List (List Value)} (h : w.ownsRow base e q v rows.length rows.flatten) (hq : ∀ r ∈ rows, r.length = q) : ∃ a cap, v = .slice a rows.length cap ∧ SeqAt w a q rows ∧ rows.length ≤ cap := by
  rcases h.2 with ⟨hv, h0⟩ | ⟨g, cap, cur, hv, hb, hg, hc, _, _, _⟩
  · exact ⟨none, 0, by rw [hv, h0], .inl (List.length_eq_zero_iff.mp h0), by omega⟩
  · refine ⟨_, cap, hv, .inr ⟨g, 0, rfl, fun i j r c hi hj => ?_⟩, hc⟩
    rw [hv] at h
    have hl := flat_at hq hi hj
    have hlt := (List.getElem?_eq_some_iff.mp hl).1
    rw [flat_len hq] at hlt
    rw [Nat.zero_add, h.cellAt _ hlt, hl]
theorem room_of_owns {w : World} {base : Nat} {e : TypeId} {q : Nat} {g n cap : Nat} {xs : List Value} (h : w.ownsRow base e q (.slice (some ⟨g, 0, none⟩) n cap) n xs) : Room w g (n * q) := fun x hx => by
  refine ⟨?_, h.frozenAt x⟩
  have h1 := h.cellAt x hx
  have h2 := h.1
  exact ⟨_, h1.trans (List.getElem?_eq_getElem (by rw [h2]; exact hx))⟩
theorem cells_new (w : World) (cs : List Value) (t : TypeId) : ∀ j u, cs[j]? = some u → (w.alloc (.cells cs.toArray t)).cell? ((⟨w.heap.size, 0, none⟩ : Addr).add j) = some u := fun j u h => World.news_of_block (heap_alloc_new w _) j u (by simpa using h)
/-- a cell is as it was. -/
theorem keepC {w w' : World} (hb : Below w.heap.size w w') {b o : Nat} {v : Value} (h : w.cell? ⟨b, o, none⟩ = some v) : w'.cell? ⟨b, o, none⟩ = some v := ((bcell hb).1 _ _ (World.block_lt_of_cell? _ _ h)).trans h
theorem below_drew (w : World) : Below w.heap.size w w.drew := ⟨rfl, rfl, rfl, Nat.le_refl _, fun _ _ => rfl⟩
theorem addP (b o j : Nat) : (⟨b, o, none⟩ : Addr).add j = ⟨b, o + j, none⟩ := by unfold Addr.add; split <;> simp_all
theorem row_shape3 {w : World} {base : Nat} {e : TypeId} {size : Nat} {v : Value} {n : Nat} {xs : List Value} (h : w.ownsRow base e size v n xs) : ∃ a m c, v = .slice a m c := by
  rcases h.2 with ⟨hv, _⟩ | ⟨g, cap, cur, hv, _⟩
  · exact ⟨_, _, _, hv⟩
  · exact ⟨_, _, _, hv⟩
theorem owns_mono {w : World} {base base' : Nat} {e : TypeId} {size : Nat} {v : Value} {n : Nat} {xs : List Value} (h : w.ownsRow base e size v n xs) (hb : base' ≤ base) : w.ownsRow base' e size v n xs := by
  refine ⟨h.1, ?_⟩
  rcases h.2 with h | ⟨g, cap, cur, e1, e2, e3⟩
  · exact .inl h
  · exact .inr ⟨g, cap, cur, e1, by omega, e3⟩
theorem owns_below {w w' : World} {base : Nat} {e : TypeId} {size : Nat} {v : Value} {n : Nat} {xs : List Value} (h : w.ownsRow base e size v n xs) (hb : Below w.heap.size w w') : w'.ownsRow base e size v n xs := by
  refine ⟨h.1, ?_⟩
  rcases h.2 with h | ⟨g, cap, cur, e1, e2, e3, e4⟩
  · exact .inl h
  · exact .inr ⟨g, cap, cur, e1, e2, (hb.block g (Array.getElem?_eq_some_iff.1 e3).1).trans e3, e4⟩
theorem own_empty (w : World) (t : TypeId) (q : Nat) : (w.alloc (.cells #[] t)).ownsRow w.heap.size t q (.slice (some ⟨w.heap.size, 0, none⟩) 0 0) 0 [] :=
  ⟨by simp, .inr ⟨w.heap.size, 0, #[], rfl, Nat.le_refl _, heap_alloc_new w _, Nat.le_refl _, by unfold maxLen; omega, by simp, by simp⟩⟩
/-- rows of a list, some of them: the first ones dropped. -/
theorem SeqAt.drop {w : World} {b o k m : Nat} {rows : List (List Value)} (h : SeqAt w (some ⟨b, o, none⟩) k rows) : SeqAt w (some ⟨b, o + m * k, none⟩) k (rows.drop m) := by
  rcases h with h | ⟨b', o', e, h⟩
  · exact .inl (by rw [h]; simp)
  · injection e with e
    injection e with u1 u2
    subst u1 u2
    refine .inr ⟨_, _, rfl, fun i j r c hi hj => ?_⟩
    rw [show o + m * k + i * k + j = o + (m + i) * k + j by rw [Nat.add_mul]; omega]
    exact h (m + i) j r c (by rw [← List.getElem?_drop]; exact hi) hj
theorem SeqAt.take {w : World} {a : Option Addr} {k : Nat} {rows : List (List Value)} (h : SeqAt w a k rows) (m : Nat) : SeqAt w a k (rows.take m) := by
  rcases h with h | ⟨b, o, rfl, h⟩
  · exact .inl (by rw [h]; simp)
  · refine .inr ⟨b, o, rfl, fun i j r c hi hj => ?_⟩
    rw [List.getElem?_take] at hi
    split at hi
    · exact h i j r c hi hj
    · cases hi
/-- the cells of rows, one behind the other. -/
theorem SeqAt.flat {w : World} {b o q : Nat} {rows : List (List Value)} (h : SeqAt w (some ⟨b, o, none⟩) q rows) (hq : ∀ r ∈ rows, r.length = q) : ∀ j u, rows.flatten[j]? = some u → w.cell? ((⟨b, o, none⟩ : Addr).add j) = some u := fun j u hj => by
  have hlt := (List.getElem?_eq_some_iff.mp hj).1
  rw [flat_len hq] at hlt
  have hq0 : 0 < q := by
    rcases Nat.eq_zero_or_pos q with e | e
    · subst e; simp at hlt
    · exact e
  have hi : j / q < rows.length := Nat.div_lt_of_lt_mul (by rw [Nat.mul_comm]; exact hlt)
  obtain ⟨r, hr⟩ : ∃ r, rows[j / q]? = some r := ⟨_, List.getElem?_eq_getElem hi⟩
  have hrl := hq r (List.mem_of_getElem? hr)
  obtain ⟨c, hc⟩ : ∃ c, r[j % q]? = some c := ⟨_, List.getElem?_eq_getElem (by rw [hrl]; exact Nat.mod_lt _ hq0)⟩
  have e1 := flat_at hq hr hc
  rw [show j / q * q + j % q = j by rw [Nat.mul_comm]; exact Nat.div_add_mod j q] at e1
  rw [hj] at e1
  obtain rfl := Option.some.inj e1
  rw [addP]
  rcases h with h | ⟨b', o', e, h⟩
  · rw [h] at hr; simp at hr
  · injection e with e
    injection e with u1 u2
    subst u1 u2
    have := h (j / q) (j % q) r u hr hc
    rw [show o + j / q * q + j % q = o + j by have := Nat.div_add_mod j q; rw [Nat.mul_comm] at this; omega] at this
    exact this
end Go.Proofs.Ytcelbkmnbjcjhaa
namespace Go.Proofs.Ytcelbkmnbjcjhaa
open Go.RowKit Go.Sort

structure ZoneD where
  name : ByteArray
  eras : List EraD
def ZoneD.sz (z : ZoneD) : Nat := z.name.size + (z.eras.length + esz z.eras)
def ZoneD.ok (z : ZoneD) : Prop := z.name.size ≤ maxLen ∧ z.eras.length ≤ maxLen ∧ ∀ r ∈ z.eras, r.ok
/-- a list of eras in memory. -/
def EraSl (w : World) (v : Value) (es : List EraD) : Prop := ∃ a cap, v = .slice a es.length cap ∧ SeqAt w a 6 (es.map EraD.cs)
theorem EraSl.below {w w' : World} {v : Value} {es : List EraD} (h : EraSl w v es) (hb : Below w.heap.size w w') : EraSl w' v es := by
  obtain ⟨a, cap, rfl, hA⟩ := h
  exact ⟨a, cap, rfl, hA.below hb⟩
/-- a list of zones in memory: at each place a name and a list's value. -/
def ZonesAt (w : World) (a : Option Addr) (zs : List ZoneD) : Prop :=
  zs = [] ∨ ∃ b o, a = some ⟨b, o, none⟩ ∧ ∀ i z, zs[i]? = some z → w.cell? ⟨b, o + i * 2, none⟩ = some (.string z.name) ∧ ∃ v, w.cell? ⟨b, o + i * 2 + 1, none⟩ = some v ∧ EraSl w v z.eras
theorem ZonesAt.below {w w' : World} {a : Option Addr} {zs : List ZoneD} (h : ZonesAt w a zs) (hb : Below w.heap.size w w') : ZonesAt w' a zs := by
  rcases h with h | ⟨b, o, ha, hc⟩
  · exact .inl h
  · refine .inr ⟨b, o, ha, fun i z hi => ?_⟩
    obtain ⟨c0, v, c1, he⟩ := hc i z hi
    have hlt := World.block_lt_of_cell? _ _ c0
    exact ⟨by rw [(bcell hb).1 _ _ hlt]; exact c0, v, by rw [(bcell hb).1 _ _ hlt]; exact c1, he.below hb⟩
theorem ZonesAt.at {w : World} {a : Option Addr} {zs : List ZoneD} (h : ZonesAt w a zs) {i : Nat} {z : ZoneD} (hi : zs[i]? = some z) : ∃ b o, a = some ⟨b, o, none⟩ ∧ w.cell? ⟨b, o + i * 2, none⟩ = some (.string z.name) ∧ ∃ v, w.cell? ⟨b, o + i * 2 + 1, none⟩ = some v ∧ EraSl w v z.eras := by
  rcases h with rfl | ⟨b, o, ha, hc⟩
  · simp at hi
  · exact ⟨b, o, ha, hc i z hi⟩
def zsz (l : List ZoneD) : Nat := (l.map ZoneD.sz).sum
theorem zsz_take {l : List ZoneD} {k : Nat} {r : ZoneD} (h : l[k]? = some r) : zsz (l.take (k + 1)) = zsz (l.take k) + r.sz := by
  unfold zsz
  rw [List.take_add_one, h]
  simp
theorem zsz_le (l : List ZoneD) (k : Nat) : zsz (l.take k) ≤ zsz l := by
  have := congrArg (fun l => (l.map ZoneD.sz).sum) (List.take_append_drop k l)
  simp only [List.map_append, List.sum_append] at this
  unfold zsz
  omega
end Go.Proofs.Ytcelbkmnbjcjhaa
namespace Go.Proofs.Ytcelbkmnbjcjhaa
open Go.RowKit Go.Sort

theorem SeqAt.keep {w w' : World} {g k : Nat} {rows : List (List Value)} (h : SeqAt w (some ⟨g, 0, none⟩) k rows) (hk : ∀ x, w'.cell? ⟨g, x, none⟩ = w.cell? ⟨g, x, none⟩) : SeqAt w' (some ⟨g, 0, none⟩) k rows := by
  rcases h with h | ⟨b, o, ha, hc⟩
  · exact .inl h
  · injection ha with ha
    injection ha with h1 h2
    subst h1 h2
    exact .inr ⟨g, 0, rfl, fun i j r c hi hj => by rw [hk]; exact hc i j r c hi hj⟩
theorem Room.keep {w w' : World} {g m : Nat} (h : Room w g m) (hk : ∀ x, w'.cell? ⟨g, x, none⟩ = w.cell? ⟨g, x, none⟩) (hf : ∀ x, w'.frozen? ⟨g, x, none⟩ = w.frozen? ⟨g, x, none⟩) : Room w' g m := fun x hx => by
  rw [hk, hf]; exact h x hx
theorem below_three (w : World) (a b c : Obj) : Below w.heap.size w (((w.alloc a).alloc b).alloc c) := (((Below.refl _ _).alloc (Nat.le_refl _) a).alloc (by simp) b).alloc (by simp; omega) c
theorem heap3 (w : World) (a b c : Obj) : (((w.alloc a).alloc b).alloc c).heap.size = w.heap.size + 1 + 1 + 1 := by simp
theorem ne_blk2 {p q i j : Nat} (h : q ≠ p) : (⟨q, i, none⟩ : Addr) ≠ ⟨p, j, none⟩ := fun e => h (by injection e)
theorem set_two {w : World} {b : Nat} {x0 x1 v0 v1 : Value} (h0 : w.cell? ⟨b, 0, none⟩ = some x0) (h1 : w.cell? ⟨b, 1, none⟩ = some x1) :
    ((w.setCell ⟨b, 0, none⟩ v0).setCell ⟨b, 1, none⟩ v1).cell? ⟨b, 0, none⟩ = some v0 ∧ ((w.setCell ⟨b, 0, none⟩ v0).setCell ⟨b, 1, none⟩ v1).cell? ⟨b, 1, none⟩ = some v1 := by
  refine ⟨?_, ?_⟩
  · rw [World.cell?_setCell_other _ _ _ _ (by simp), World.cell?_setCell_same _ _ _ h0]
  · refine World.cell?_setCell_same _ _ _ (u := x1) ?_
    rw [World.cell?_setCell_other _ _ _ _ (by simp)]; exact h1
/-- the first k zones stand there. -/
def ZFilled (w : World) (g k : Nat) (zs : List ZoneD) : Prop := ∀ i z, i < k → zs[i]? = some z → w.cell? ⟨g, i * 2, none⟩ = some (.string z.name) ∧ ∃ q, g < q ∧ w.cell? ⟨g, i * 2 + 1, none⟩ = some (.slice (some ⟨q, 0, none⟩) z.eras.length z.eras.length) ∧ SeqAt w (some ⟨q, 0, none⟩) 6 (z.eras.map EraD.cs) ∧ Room w q (z.eras.length * 6)
theorem ZFilled.below {w w' : World} {g k : Nat} {zs : List ZoneD} (h : ZFilled w g k zs) (hb : Below w.heap.size w w') : ZFilled w' g k zs := fun i z hi hz => by
  obtain ⟨c0, q, hq, c1, hs, hr⟩ := h i z hi hz
  have hlt := World.block_lt_of_cell? _ _ c0
  exact ⟨by rw [(bcell hb).1 _ _ hlt]; exact c0, q, hq, by rw [(bcell hb).1 _ _ hlt]; exact c1, hs.below hb, hr.below hb⟩
theorem ZFilled.put {w : World} {g k m q : Nat} {zs : List ZoneD} {z : ZoneD} (h : ZFilled w g k zs) (hR : Room w g m) (hz : zs[k]? = some z) (hm : k * 2 + 2 ≤ m) (hq : g < q) (hs : SeqAt w (some ⟨q, 0, none⟩) 6 (z.eras.map EraD.cs)) (hr : Room w q (z.eras.length * 6)) : ZFilled (putAll w g (k * 2) [.string z.name, .slice (some ⟨q, 0, none⟩) z.eras.length z.eras.length]) g (k + 1) zs := fun i z' hi hz' => by
  by_cases e : i = k
  · subst e
    rw [hz] at hz'
    obtain rfl := Option.some.inj hz'
    have a0 := putAll_at (cs := [.string z.name, .slice (some ⟨q, 0, none⟩) z.eras.length z.eras.length]) (o := i * 2) (j := 0) hR (by simpa using hm) rfl
    have a1 := putAll_at (cs := [.string z.name, .slice (some ⟨q, 0, none⟩) z.eras.length z.eras.length]) (o := i * 2) (j := 1) hR (by simpa using hm) rfl
    exact ⟨a0, q, hq, a1, hs.keep fun x => putAll_far (.inl (by omega)), hr.keep (fun x => putAll_far (.inl (by omega))) (fun x => by simp [putAll])⟩
  · obtain ⟨c0, q', hq', c1, hs', hr'⟩ := h i z' (by omega) hz'
    exact ⟨by rw [putAll_far (by omega)]; exact c0, q', hq', by rw [putAll_far (by omega)]; exact c1, hs'.keep fun x => putAll_far (.inl (by omega)), hr'.keep (fun x => putAll_far (.inl (by omega))) (fun x => by simp [putAll])⟩
theorem ZFilled.zones {w : World} {g : Nat} {zs : List ZoneD} (h : ZFilled w g zs.length zs) : ZonesAt w (some ⟨g, 0, none⟩) zs :=
  .inr ⟨g, 0, rfl, fun i z hz => by
    obtain ⟨c0, q, _, c1, hs, _⟩ := h i z (List.getElem?_eq_some_iff.mp hz).1 hz
    rw [show 0 + i * 2 = i * 2 by omega]
    exact ⟨c0, _, c1, _, _, rfl, hs⟩⟩
set_option maxRecDepth 100000 in
theorem infoZone : ∃ i : TypeInfo, Try.prog.info? 102 = some i ∧ i.zero = some (.agg #[.string ⟨#[]⟩, .slice none 0 0]) ∧ i.size = 2 ∧ i.bytes = 40 := ⟨_, rfl, rfl, rfl, rfl⟩
end Go.Proofs.Ytcelbkmnbjcjhaa
namespace Go.Proofs.Ytcelbkmnbjcjhaa
open Go.RowKit Go.Sort

set_option maxRecDepth 100000 in
theorem infoRule : ∃ i : TypeInfo, Try.prog.info? 98 = some i ∧ i.zero = some (.agg #[.string ⟨#[]⟩, .int .i64 0, .int .i64 0, .int .i64 0, .string ⟨#[]⟩, .int .i64 0, .string ⟨#[]⟩, .int .i64 0, .string ⟨#[]⟩]) ∧ i.size = 9 ∧ i.bytes = 104 := ⟨_, rfl, rfl, rfl, rfl⟩
theorem RuleD.len (r : RuleD) : r.cs.length = 9 := rfl
end Go.Proofs.Ytcelbkmnbjcjhaa
namespace Go.Proofs.Ytcelbkmnbjcjhaa
open Go.RowKit Go.Sort

structure LinkD where
  to_ : ByteArray
  name : ByteArray
def LinkD.cs (r : LinkD) : List Value := [.string r.to_, .string r.name]
def LinkD.v (r : LinkD) : Value := .agg #[.string r.to_, .string r.name]
def LinkD.sz (r : LinkD) : Nat := r.to_.size + r.name.size
def LinkD.ok (r : LinkD) : Prop := r.to_.size ≤ maxLen ∧ r.name.size ≤ maxLen
def lsz (l : List LinkD) : Nat := (l.map LinkD.sz).sum
theorem lsz_take {l : List LinkD} {k : Nat} {r : LinkD} (h : l[k]? = some r) : lsz (l.take (k + 1)) = lsz (l.take k) + r.sz := by
  unfold lsz
  rw [List.take_add_one, h]
  simp
theorem lsz_le (l : List LinkD) (k : Nat) : lsz (l.take k) ≤ lsz l := by
  have := congrArg (fun l => (l.map LinkD.sz).sum) (List.take_append_drop k l)
  simp only [List.map_append, List.sum_append] at this
  unfold lsz
  omega
set_option maxRecDepth 100000 in
theorem infoLink : ∃ i : TypeInfo, Try.prog.info? 105 = some i ∧ i.zero = some (.agg #[.string ⟨#[]⟩, .string ⟨#[]⟩]) ∧ i.size = 2 ∧ i.bytes = 32 := ⟨_, rfl, rfl, rfl, rfl⟩
theorem LinkD.len (r : LinkD) : r.cs.length = 2 := rfl
end Go.Proofs.Ytcelbkmnbjcjhaa
namespace Go.Proofs.Ytcelbkmnbjcjhaa
open Go.RowKit Go.Sort

/-- a release. -/
structure RelD where
  rules : List RuleD
  zones : List ZoneD
  links : List LinkD
def RelD.ok (r : RelD) : Prop := (r.rules.length ≤ maxLen ∧ ∀ x ∈ r.rules, x.ok) ∧ (r.zones.length ≤ maxLen ∧ ∀ x ∈ r.zones, x.ok) ∧ (r.links.length ≤ maxLen ∧ ∀ x ∈ r.links, x.ok)
def RelD.sz (r : RelD) : Nat := (r.rules.length + rsz r.rules) + (r.zones.length + zsz r.zones) + (r.links.length + lsz r.links)
/-- a release in memory: three lists. -/
structure RelAt (w : World) (v : Value) (r : RelD) : Prop where
  form : ∃ a b c ca cb cc, v = .agg #[.slice a r.rules.length ca, .slice b r.zones.length cb, .slice c r.links.length cc] ∧ SeqAt w a 9 (r.rules.map RuleD.cs) ∧ ZonesAt w b r.zones ∧ SeqAt w c 2 (r.links.map LinkD.cs)
theorem RelAt.below {w w' : World} {v : Value} {r : RelD} (h : RelAt w v r) (hb : Below w.heap.size w w') : RelAt w' v r := by
  obtain ⟨a, b, c, ca, cb, cc, hv, h1, h2, h3⟩ := h.form
  exact ⟨a, b, c, ca, cb, cc, hv, h1.below hb, h2.below hb, h3.below hb⟩
end Go.Proofs.Ytcelbkmnbjcjhaa
namespace Go.Proofs.Ytcelbkmnbjcjhaa
open Go.RowKit Go.Sort

/-- from a block on nothing has changed. -/
def From (B : Nat) (w w' : World) : Prop := ∀ g x, B ≤ g → w'.cell? ⟨g, x, none⟩ = w.cell? ⟨g, x, none⟩ ∧ w'.frozen? ⟨g, x, none⟩ = w.frozen? ⟨g, x, none⟩
theorem From.set {B : Nat} {w w' : World} (h : From B w w') {p i : Nat} (hp : p < B) (v : Value) : From B w (w'.setCell ⟨p, i, none⟩ v) := fun g x hg =>
  ⟨by rw [World.cell?_setCell_other _ _ _ _ (ne_blk2 (by omega))]; exact (h g x hg).1, by rw [World.frozen?_setCell]; exact (h g x hg).2⟩
theorem From.refl (B : Nat) (w : World) : From B w w := fun _ _ _ => ⟨rfl, rfl⟩
theorem SeqAt.from {B g k : Nat} {w w' : World} {rows : List (List Value)} (h : SeqAt w (some ⟨g, 0, none⟩) k rows) (hf : From B w w') (hg : B ≤ g) : SeqAt w' (some ⟨g, 0, none⟩) k rows := h.keep fun x => (hf g x hg).1
theorem Room.from {B g m : Nat} {w w' : World} (h : Room w g m) (hf : From B w w') (hg : B ≤ g) : Room w' g m := h.keep (fun x => (hf g x hg).1) (fun x => (hf g x hg).2)
theorem ZFilled.from {B g k : Nat} {w w' : World} {zs : List ZoneD} (h : ZFilled w g k zs) (hf : From B w w') (hg : B ≤ g) : ZFilled w' g k zs := fun i z hi hz => by
  obtain ⟨c0, q, hq, c1, hs, hr⟩ := h i z hi hz
  exact ⟨by rw [(hf g _ hg).1]; exact c0, q, hq, by rw [(hf g _ hg).1]; exact c1, hs.from hf (by omega), hr.from hf (by omega)⟩
/-- a release of one's own memory, from a block on. -/
structure OwnRel (w : World) (B : Nat) (v : Value) (r : RelD) : Prop where
  form : ∃ a b c, v = .agg #[.slice (some ⟨a, 0, none⟩) r.rules.length r.rules.length, .slice (some ⟨b, 0, none⟩) r.zones.length r.zones.length, .slice (some ⟨c, 0, none⟩) r.links.length r.links.length] ∧
    (B ≤ a ∧ B ≤ b ∧ B ≤ c) ∧ (SeqAt w (some ⟨a, 0, none⟩) 9 (r.rules.map RuleD.cs) ∧ Room w a (r.rules.length * 9)) ∧ (ZFilled w b r.zones.length r.zones ∧ Room w b (r.zones.length * 2)) ∧ (SeqAt w (some ⟨c, 0, none⟩) 2 (r.links.map LinkD.cs) ∧ Room w c (r.links.length * 2))
theorem OwnRel.rel {w : World} {B : Nat} {v : Value} {r : RelD} (h : OwnRel w B v r) : RelAt w v r := by
  obtain ⟨a, b, c, hv, _, ⟨h1, _⟩, ⟨h2, _⟩, ⟨h3, _⟩⟩ := h.form
  exact ⟨_, _, _, _, _, _, hv, h1, h2.zones, h3⟩
theorem OwnRel.below {w w' : World} {B : Nat} {v : Value} {r : RelD} (h : OwnRel w B v r) (hb : Below w.heap.size w w') : OwnRel w' B v r := by
  obtain ⟨a, b, c, hv, hB, ⟨h1, k1⟩, ⟨h2, k2⟩, ⟨h3, k3⟩⟩ := h.form
  exact ⟨a, b, c, hv, hB, ⟨h1.below hb, k1.below hb⟩, ⟨h2.below hb, k2.below hb⟩, ⟨h3.below hb, k3.below hb⟩⟩
theorem set_three {w : World} {b : Nat} {x0 x1 x2 v0 v1 v2 : Value} (h0 : w.cell? ⟨b, 0, none⟩ = some x0) (h1 : w.cell? ⟨b, 1, none⟩ = some x1) (h2 : w.cell? ⟨b, 2, none⟩ = some x2) :
    (((w.setCell ⟨b, 0, none⟩ v0).setCell ⟨b, 1, none⟩ v1).setCell ⟨b, 2, none⟩ v2).cell? ⟨b, 0, none⟩ = some v0 ∧ (((w.setCell ⟨b, 0, none⟩ v0).setCell ⟨b, 1, none⟩ v1).setCell ⟨b, 2, none⟩ v2).cell? ⟨b, 1, none⟩ = some v1 ∧ (((w.setCell ⟨b, 0, none⟩ v0).setCell ⟨b, 1, none⟩ v1).setCell ⟨b, 2, none⟩ v2).cell? ⟨b, 2, none⟩ = some v2 := by
  refine ⟨?_, ?_, ?_⟩
  · rw [World.cell?_setCell_other _ _ _ _ (by simp), World.cell?_setCell_other _ _ _ _ (by simp), World.cell?_setCell_same _ _ _ h0]
  · rw [World.cell?_setCell_other _ _ _ _ (by simp)]
    refine World.cell?_setCell_same _ _ _ (u := x1) ?_
    rw [World.cell?_setCell_other _ _ _ _ (by simp)]; exact h1
  · refine World.cell?_setCell_same _ _ _ (u := x2) ?_
    rw [World.cell?_setCell_other _ _ _ _ (by simp), World.cell?_setCell_other _ _ _ _ (by simp)]; exact h2
def RelD.small (r : RelD) : Prop := r.rules.length ≤ 1048576 ∧ r.zones.length ≤ 1048576 ∧ r.links.length ≤ 1048576 ∧ ∀ z ∈ r.zones, z.eras.length ≤ 1048576
end Go.Proofs.Ytcelbkmnbjcjhaa
namespace Go.Proofs.Ytcelbkmnbjcjhaa
open Go.RowKit Go.ChangeMaps Go.MapKept Go.WideMaps

theorem toList_injM {s t : ByteArray} (h : s.toList = t.toList) : s = t := by
  rw [ByteArray.toList_eq, ByteArray.toList_eq] at h
  cases s; cases t; congr; exact Array.toList_inj.mp h
def OwnsRl (w : World) (base : Nat) (v : Value) (l : List RuleD) : Prop := w.ownsRow base 98 9 v l.length (l.map RuleD.cs).flatten
def ofName (l : List RuleD) (nm : ByteArray) : List RuleD := l.filter fun x => x.name.toList == nm.toList
theorem ofName_same (l : List RuleD) (x : RuleD) : ofName (l ++ [x]) x.name = ofName l x.name ++ [x] := by
  unfold ofName
  rw [List.filter_append]
  simp
theorem ofName_other {l : List RuleD} {x : RuleD} {nm : ByteArray} (h : nm ≠ x.name) : ofName (l ++ [x]) nm = ofName l nm := by
  unfold ofName
  rw [List.filter_append]
  have e : (x.name.toList == nm.toList) = false := by
    rw [beq_eq_false_iff_ne]
    exact fun e => h (toList_injM e).symm
  simp [e]
/-- entries: by each name its rules, in rows of their own. -/
structure MapE (w : World) (base : Nat) (l : List RuleD) (es : List MapEntry) : Prop where
  each : ∀ x ∈ es, ∃ nm, x.key = .string nm ∧ nm.size ≤ maxLen ∧ OwnsRl w base x.val (ofName l nm)
  none : ∀ nm, (∀ x ∈ es, x.key ≠ .string nm) → ofName l nm = []
  apart : ∀ (i j : Nat) (x y : MapEntry), i ≠ j → es[i]? = some x → es[j]? = some y → x.key ≠ y.key ∧ (x.val.ownBlock = .none ∨ x.val.ownBlock ≠ y.val.ownBlock)
/-- a block that is a map of rules by their names. -/
def MapR (w : World) (base b : Nat) (l : List RuleD) : Prop := ∃ es clock, w.heap[b]? = some (.map es clock) ∧ b < base ∧ MapE w base l es.toList
theorem mapR_made (w : World) : MapR (w.alloc (.map #[] 0)) (w.heap.size + 1) w.heap.size [] :=
  ⟨#[], 0, (MapKept.heap_alloc w _).1, Nat.lt_succ_self _, ⟨fun x hx => by simp at hx, fun _ _ => rfl, fun i j x y _ hx => by simp at hx⟩⟩
theorem MapR.lt {w : World} {base b : Nat} {l : List RuleD} (h : MapR w base b l) : b < w.heap.size := by
  obtain ⟨es, clock, hb, _⟩ := h
  exact (Array.getElem?_eq_some_iff.1 hb).1
theorem MapR.kept {w w' : World} {base b : Nat} {l : List RuleD} (h : MapR w base b l) (hg : w.grownBy w' none) : MapR w' base b l := by
  have hlt := h.lt
  obtain ⟨es, clock, hb, hbb, hE⟩ := h
  refine ⟨es, clock, (hg.block b hlt (by simp)).trans hb, hbb, ⟨fun x hx => ?_, hE.none, hE.apart⟩⟩
  obtain ⟨nm, h1, h2, h3⟩ := hE.each x hx
  exact ⟨nm, h1, h2, h3.kept hg (by cases x.val.ownBlock <;> simp)⟩
theorem MapR.below {w w' : World} {base b : Nat} {l : List RuleD} (h : MapR w base b l) (hb : Below w.heap.size w w') : MapR w' base b l := h.kept ⟨hb.os, hb.tape, hb.output, hb.size, fun k hk _ => hb.block k hk⟩
theorem mapE_put {w w1 w2 : World} {base b : Nat} {l : List RuleD} {es es' : List MapEntry} {x : RuleD} {v v' : Value} {j : Nat} {e' : MapEntry} (hE : MapE w base l es) (hbb : b < base)
    (hg : w.grownBy w1 v.ownBlock) (hg2 : w1.grownBy w2 (some b)) (hn : x.name.size ≤ maxLen) (hv' : OwnsRl w1 base v' (ofName l x.name ++ [x])) (hloc : v'.ownBlock = v.ownBlock ∨ ∃ g, v'.ownBlock = some g ∧ w.heap.size ≤ g)
    (h1 : es'[j]? = some e') (hk : e'.key = .string x.name) (hval : e'.val = v') (h2 : ∀ i, i ≠ j → es'[i]? = es[i]?) (h3 : ∀ i y, i ≠ j → es[i]? = some y → y.key ≠ .string x.name ∧ (y.val.ownBlock = none ∨ y.val.ownBlock ≠ v.ownBlock))
    (h4 : ∀ y, es[j]? = some y → y.key = .string x.name) : MapE w2 base (l ++ [x]) es' := by
  have nb : ∀ {u : Value} {z : List RuleD}, OwnsRl w1 base u z → u.ownBlock = none ∨ u.ownBlock ≠ some b := fun {u z} ho => by
    cases hu : u.ownBlock with
    | none => exact .inl rfl
    | some g =>
      refine .inr fun e => ?_
      have := (World.ownsRow.lt ho g hu).1
      cases e
      omega
  have old : ∀ i y, i ≠ j → es[i]? = some y → y.val.ownBlock = none ∨ y.val.ownBlock ≠ v'.ownBlock := fun i y hi hy => by
    rcases hloc with e | ⟨g, e, hge⟩
    · rw [e]; exact (h3 i y hi hy).2
    · cases hyb : y.val.ownBlock with
      | none => exact .inl rfl
      | some gy =>
        obtain ⟨nm, _, _, ho⟩ := hE.each y (List.mem_of_getElem? hy)
        have := (World.ownsRow.lt ho gy hyb).2
        refine .inr fun e1 => ?_
        rw [e] at e1
        cases e1
        omega
  refine ⟨fun y hy => ?_, fun nm hnm => ?_, fun i k p q hik hp hq => ?_⟩
  · obtain ⟨i, hi⟩ := List.getElem?_of_mem hy
    by_cases hij : i = j
    · subst hij
      rw [h1] at hi
      cases hi
      exact ⟨x.name, hk, hn, by rw [ofName_same, hval]; exact World.ownsRow.kept hv' hg2 (nb hv')⟩
    · rw [h2 i hij] at hi
      obtain ⟨nm, c1, c2, c3⟩ := hE.each y (List.mem_of_getElem? hi)
      obtain ⟨d1, d2⟩ := h3 i y hij hi
      have hne : nm ≠ x.name := fun e => d1 (by rw [c1, e])
      have c4 : OwnsRl w1 base y.val (ofName l nm) := World.ownsRow.kept c3 hg d2
      exact ⟨nm, c1, c2, by rw [ofName_other hne]; exact World.ownsRow.kept c4 hg2 (nb c4)⟩
  · have hne : nm ≠ x.name := fun e => hnm e' (List.mem_of_getElem? h1) (by rw [hk, e])
    rw [ofName_other hne]
    refine hE.none nm fun y hy => ?_
    obtain ⟨i, hi⟩ := List.getElem?_of_mem hy
    by_cases hij : i = j
    · subst hij
      rw [h4 y hi]
      exact fun e => hne (by injection e with e; exact e.symm)
    · exact hnm y (List.mem_of_getElem? (by rw [h2 i hij]; exact hi))
  · by_cases hij : i = j
    · subst hij
      rw [h1] at hp
      cases hp
      rw [h2 k (Ne.symm hik)] at hq
      obtain ⟨d1, _⟩ := h3 k q (Ne.symm hik) hq
      refine ⟨by rw [hk]; exact Ne.symm d1, ?_⟩
      rw [hval]
      rcases old k q (Ne.symm hik) hq with e | e
      · rw [e]
        cases v'.ownBlock <;> simp
      · exact .inr (Ne.symm e)
    · rw [h2 i hij] at hp
      by_cases hkj : k = j
      · subst hkj
        rw [h1] at hq
        cases hq
        exact ⟨by rw [hk]; exact (h3 i p hij hp).1, by rw [hval]; exact old i p hij hp⟩
      · rw [h2 k hkj] at hq
        exact hE.apart i k p q hik hp hq
/-- a store at that name, whatever was done to its row and to new blocks. -/
def BackR (P : Program) (T : TypeId) (w : World) (base b : Nat) (l : List RuleD) (nm : ByteArray) (v : Value) : Prop :=
  ∀ (w1 : World) (v' : Value) (x : RuleD), x.name = nm → w.grownBy w1 v.ownBlock → OwnsRl w1 base v' (ofName l nm ++ [x]) → (v'.ownBlock = v.ownBlock ∨ ∃ g, v'.ownBlock = some g ∧ w.heap.size ≤ g) →
    ∃ w2, (Instr.mapUpdate T (.map (some b)) (.string nm) v').run P w1 = .ok () w2 ∧ MapR w2 base b (l ++ [x]) ∧ w1.grownBy w2 (some b)
theorem mapR_at {P : Program} {T K E : TypeId} {w : World} {base b : Nat} {l : List RuleD} (h : MapR w base b l) (hT : P.underlying T = some (.map K E)) (hK : P.underlying K = some .string) (hz : ∀ W, (zeroValue E).run P W = .ok (.slice none 0 0) W) (nm : ByteArray) (hn : nm.size ≤ maxLen) :
    ∃ v, (∀ W : World, W.heap[b]? = w.heap[b]? → (Instr.lookup T (.map (some b)) (.string nm) false).run P W = .ok v W) ∧ OwnsRl w base v (ofName l nm) ∧ BackR P T w base b l nm v := by
  have KK := Maps.string_keyed hK
  have hlt := h.lt
  obtain ⟨es, clock, hb, hbb, hE⟩ := h
  have hkey := keyOf_string_mk hK hn
  have hks : ∀ e ∈ es.toList, ∃ l, keyOf P K e.key = some l := fun e he => by
    obtain ⟨s, h1, h2, _⟩ := hE.each e he
    exact ⟨_, by rw [h1]; exact keyOf_string_mk hK h2⟩
  have set2 : ∀ {w1 : World} {es' : Array MapEntry} {c' : Nat}, w1.heap[b]? = some (.map es clock) → w1.grownBy (setBlock w1 b (.map es' c')) (some b) := fun {w1 es' c'} hb1 => ⟨rfl, rfl, rfl, by simp [setBlock], fun i _ hi => heap_setBlock_other hb1 _ (fun e1 => hi (by rw [e1]))⟩
  rcases KK.find w hkey es.toList hks with ⟨f1, f2⟩ | ⟨j, e0, f1, f2, f3⟩
  · refine ⟨.slice none 0 0, fun W hW => ?_, by rw [hE.none nm f2]; exact World.ownsRow_nil _ _ _ _, ?_⟩
    · have hbW := hW.trans hb
      rcases KK.find W hkey es.toList hks with ⟨g1, _⟩ | ⟨j, e0, _, g2, g3⟩
      · simp [Instr.lookup, run_underlying hT, MapKept.run_getObj_map hbW, KK.check W _ hkey, g1, hz, Result.andThen]
      · exact absurd g3 (f2 e0 (List.mem_of_getElem? g2))
    intro w1 v' x hx hg hv' hloc
    subst hx
    have hb1 : w1.heap[b]? = some (.map es clock) := (hg.block b hlt (by simp [Value.ownBlock])).trans hb
    rcases KK.find w1 hkey es.toList hks with ⟨g1, _⟩ | ⟨j, e0, _, g2, g3⟩
    · refine ⟨setBlock w1 b (.map (es.push ⟨.string x.name, v', clock⟩) (clock + 1)), by simp [Instr.mapUpdate, run_underlying hT, MapKept.run_getObj_map hb1, KK.check w1 false hkey, g1, MapKept.run_setObj_map _ hb1, Result.andThen, setBlock], ⟨_, _, heap_setBlock_same hb1 _, hbb, ?_⟩, set2 hb1⟩
      refine mapE_put (j := es.toList.length) (e' := ⟨.string x.name, v', clock⟩) hE hbb hg (set2 hb1) hn hv' hloc ?_ rfl rfl (fun i hi => ?_) (fun i y _ hy => ⟨f2 y (List.mem_of_getElem? hy), ?_⟩) (fun y hy => ?_)
      · rw [Array.toList_push, List.getElem?_append_right (Nat.le_refl _)]; simp
      · rw [Array.toList_push]
        by_cases hlt : i < es.toList.length
        · rw [List.getElem?_append_left hlt]
        · rw [List.getElem?_eq_none (by simp at *; omega), List.getElem?_eq_none (by omega)]
      · cases y.val.ownBlock <;> simp [Value.ownBlock]
      · rw [List.getElem?_eq_none (Nat.le_refl _)] at hy; cases hy
    · exact absurd g3 (f2 e0 (List.mem_of_getElem? g2))
  · obtain ⟨s0, k1, _, k3⟩ := hE.each e0 (List.mem_of_getElem? f2)
    have hs0 : s0 = nm := by rw [k1] at f3; injection f3
    subst hs0
    have hvb : e0.val.ownBlock ≠ some b := fun e => by
      have := (World.ownsRow.lt k3 b e).1
      omega
    refine ⟨e0.val, fun W hW => ?_, k3, ?_⟩
    · have hbW := hW.trans hb
      rcases KK.find W hkey es.toList hks with ⟨_, g2⟩ | ⟨j1, e1, g1, g2, g3⟩
      · exact absurd f3 (g2 e0 (List.mem_of_getElem? f2))
      · have hj : j1 = j := by
          by_cases hne : j1 = j
          · exact hne
          · exact absurd (g3.trans f3.symm) (hE.apart j1 j e1 e0 hne g2 f2).1
        subst hj
        have he : e1 = e0 := by rw [g2] at f2; cases f2; rfl
        subst he
        simp [Instr.lookup, run_underlying hT, MapKept.run_getObj_map hbW, KK.check W _ hkey, g1, Result.andThen]
    intro w1 v' x hx hg hv' hloc
    subst hx
    have hb1 : w1.heap[b]? = some (.map es clock) := (hg.block b hlt (fun e => hvb e.symm)).trans hb
    rcases KK.find w1 hkey es.toList hks with ⟨_, g2⟩ | ⟨j1, e1, g1, g2, g3⟩
    · exact absurd f3 (g2 e0 (List.mem_of_getElem? f2))
    · have hj : j1 = j := by
        by_cases hne : j1 = j
        · exact hne
        · exact absurd (g3.trans f3.symm) (hE.apart j1 j e1 e0 hne g2 f2).1
      subst hj
      have he : e1 = e0 := by rw [g2] at f2; cases f2; rfl
      subst he
      have hja : es[j1]? = some e1 := by simpa using g2
      have hlist : (es.modify j1 (fun e' => { e' with key := .string x.name, val := v' })).toList = es.toList.set j1 { e1 with key := .string x.name, val := v' } := by rw [Array.toList_modify, modify_eq_set _ _ _ _ g2]
      refine ⟨setBlock w1 b (.map (es.modify j1 (fun e' => { e' with key := .string x.name, val := v' })) clock), by simp [Instr.mapUpdate, run_underlying hT, MapKept.run_getObj_map hb1, KK.check w1 false hkey, g1, hja, g3, KK.stays w1 hkey, MapKept.run_setObj_map _ hb1, Result.andThen, setBlock], ⟨_, _, heap_setBlock_same hb1 _, hbb, ?_⟩, set2 hb1⟩
      rw [hlist]
      have hjl : j1 < es.toList.length := (List.getElem?_eq_some_iff.1 g2).1
      refine mapE_put (j := j1) (e' := { e1 with key := .string x.name, val := v' }) hE hbb hg (set2 hb1) hn hv' hloc ?_ rfl rfl (fun i hi => ?_) (fun i y hi hy => ⟨?_, ?_⟩) (fun y hy => ?_)
      · rw [List.getElem?_set_self hjl]
      · rw [List.getElem?_set_ne (Ne.symm hi)]
      · have := (hE.apart i j1 y e1 hi hy g2).1
        rw [g3] at this
        exact this
      · exact (hE.apart i j1 y e1 hi hy g2).2
      · rw [g2] at hy; cases hy; exact g3
end Go.Proofs.Ytcelbkmnbjcjhaa
namespace Go.Proofs.Ytcelbkmnbjcjhaa
open Go.RowKit

theorem infoRul : (Try.prog.info? 98).map (fun i => (i.zero, i.size, i.bytes)) = some (some (.agg #[.string ⟨#[]⟩, .int .i64 0, .int .i64 0, .int .i64 0, .string ⟨#[]⟩, .int .i64 0, .string ⟨#[]⟩, .int .i64 0, .string ⟨#[]⟩]), 9, 104) := by kernel_rfl
theorem zeroRules (w : World) : (zeroValue 66).run Try.prog w = .ok (.slice none 0 0) w := by kernel_rfl
theorem OwnsRl.add {w : World} {base : Nat} {v : Value} {l : List RuleD} {x : RuleD} (h : w.ownsRow base 98 9 v (l.length + 1) ((l.map RuleD.cs).flatten ++ x.cs)) : OwnsRl w base v (l ++ [x]) := by
  unfold OwnsRl
  rw [List.length_append, List.map_append, List.flatten_append]
  simpa using h
theorem take_snoc {l : List RuleD} {k : Nat} {x : RuleD} (h : l[k]? = some x) : l.take (k + 1) = l.take k ++ [x] := by rw [List.take_add_one, h]; rfl
end Go.Proofs.Ytcelbkmnbjcjhaa
namespace Go.Proofs.Ytcelbkmnbjcjhaa
open Go.RowKit

/-- of what was there only the blocks of S have turned. -/
structure Touch (S : Nat → Prop) (w w' : World) : Prop where
  os : w'.os = w.os
  tape : w'.tape = w.tape
  output : w'.output = w.output
  size : w.heap.size ≤ w'.heap.size
  block : ∀ b, b < w.heap.size → ¬ S b → w'.heap[b]? = w.heap[b]?
  room : ∀ g m, Room w g m → Room w' g m
theorem Touch.refl (S : Nat → Prop) (w : World) : Touch S w w := ⟨rfl, rfl, rfl, Nat.le_refl _, fun _ _ _ => rfl, fun _ _ h => h⟩
theorem Touch.trans {S : Nat → Prop} {w w1 w2 : World} (h : Touch S w w1) (h2 : Touch S w1 w2) : Touch S w w2 :=
  ⟨h2.os.trans h.os, h2.tape.trans h.tape, h2.output.trans h.output, Nat.le_trans h.size h2.size, fun b hb hs => (h2.block b (Nat.lt_of_lt_of_le hb h.size) hs).trans (h.block b hb hs), fun g m hr => h2.room g m (h.room g m hr)⟩
theorem Touch.mono {S S2 : Nat → Prop} {w w' : World} (h : Touch S w w') (hs : ∀ b, b < w.heap.size → S b → S2 b) : Touch S2 w w' :=
  ⟨h.os, h.tape, h.output, h.size, fun b hb hn => h.block b hb fun hx => hn (hs b hb hx), h.room⟩
theorem Touch.of_below {S : Nat → Prop} {w w' : World} (h : Below w.heap.size w w') : Touch S w w' := ⟨h.os, h.tape, h.output, h.size, fun b hb _ => h.block b hb, fun _ _ hr => hr.below h⟩
theorem Touch.set {S : Nat → Prop} {w w' : World} (h : Touch S w w') {g o : Nat} (hg : S g) (v : Value) : Touch S w (w'.setCell ⟨g, o, none⟩ v) := by
  refine ⟨h.os, h.tape, h.output, by simpa using h.size, fun b hb hn => ?_, fun _ _ hr => (h.room _ _ hr).set _ _⟩
  rw [← h.block b hb hn, Go.Sort.setCell_eq]
  have hne : g ≠ b := fun e => hn (e ▸ hg)
  simp [Go.Sort.mapBlock, Array.getElem?_modify, hne]
theorem Touch.below {S : Nat → Prop} {w0 w w' : World} {B : Nat} (h : Touch S w w') (hS : ∀ b, S b → B ≤ b) (hB : B ≤ w.heap.size) (hb : Below B w0 w) : Below B w0 w' :=
  ⟨h.os.trans hb.os, h.tape.trans hb.tape, h.output.trans hb.output, Nat.le_trans hb.size h.size, fun k hk => (h.block k (Nat.lt_of_lt_of_le hk hB) fun hs => by have := hS k hs; omega).trans (hb.block k hk)⟩
theorem Touch.cell {S : Nat → Prop} {w w' : World} (h : Touch S w w') {b o : Nat} {v : Value} (hs : ¬ S b) (hc : w.cell? ⟨b, o, none⟩ = some v) : w'.cell? ⟨b, o, none⟩ = some v := by
  rw [World.cell?_of_block (h.block b (World.block_lt_of_cell? _ _ hc) hs)]; exact hc
theorem Touch.frozen {S : Nat → Prop} {w w' : World} (h : Touch S w w') {b o : Nat} (hb : b < w.heap.size) (hs : ¬ S b) : w'.frozen? ⟨b, o, none⟩ = w.frozen? ⟨b, o, none⟩ := World.frozen?_of_block (h.block b hb hs)
theorem SeqAt.touch {S : Nat → Prop} {w w' : World} {g o k : Nat} {rows : List (List Value)} (h : SeqAt w (some ⟨g, o, none⟩) k rows) (ht : Touch S w w') (hs : ¬ S g) : SeqAt w' (some ⟨g, o, none⟩) k rows := by
  rcases h with h | ⟨b, o', ha, hc⟩
  · exact .inl h
  · injection ha with ha
    injection ha with h1 h2
    subst h1 h2
    exact .inr ⟨_, _, rfl, fun i j r c hi hj => ht.cell hs (hc i j r c hi hj)⟩
theorem Room.touch {S : Nat → Prop} {w w' : World} {g m : Nat} (h : Room w g m) (ht : Touch S w w') (hs : ¬ S g) : Room w' g m := fun x hx => by
  obtain ⟨⟨v, hv⟩, hf⟩ := h x hx
  exact ⟨⟨v, ht.cell hs hv⟩, (ht.frozen (World.block_lt_of_cell? _ _ hv) hs).trans hf⟩
/-- cells one behind the other. -/
def Part (w : World) (g o : Nat) (vals : List Value) : Prop := ∀ j v, vals[j]? = some v → w.cell? ⟨g, o + j, none⟩ = some v
theorem Part.nil (w : World) (g o : Nat) : Part w g o [] := fun j v h => by simp at h
theorem Part.below {w w' : World} {g o : Nat} {vals : List Value} (h : Part w g o vals) (hb : Below w.heap.size w w') : Part w' g o vals := fun j v hj => by
  have := h j v hj
  rw [(bcell hb).1 _ _ (World.block_lt_of_cell? _ _ this)]; exact this
theorem Part.store {w : World} {g o m : Nat} {vals : List Value} (h : Part w g o vals) (hR : Room w g m) {n : Nat} (hn : vals.length = n) (hm : o + n < m) (v : Value) : Part (w.setCell ⟨g, o + n, none⟩ v) g o (vals ++ [v]) := fun j u hj => by
  rcases Nat.lt_or_ge j vals.length with hl | hl
  · rw [List.getElem?_append_left hl] at hj
    rw [World.cell?_setCell_other]
    · exact h j u hj
    · intro e; injection e with _ e2; omega
  · rw [List.getElem?_append_right hl] at hj
    have e : j = vals.length := by
      rcases Nat.eq_or_lt_of_le hl with e | e
      · exact e.symm
      · rw [List.getElem?_eq_none (by simp; omega)] at hj; cases hj
    subst e
    simp at hj
    subst hj hn
    obtain ⟨⟨u, hu⟩, _⟩ := hR (o + vals.length) hm
    exact World.cell?_setCell_same _ _ _ hu
theorem Filled.store {w : World} {g q k : Nat} {rows : List (List Value)} (h : Filled w g q k rows) (hlen : ∀ r ∈ rows, r.length = q) (j : Nat) (v : Value) : Filled (w.setCell ⟨g, k * q + j, none⟩ v) g q k rows := fun i l r c hi hr hc => by
  have hl : l < q := by
    have := hlen r (List.mem_of_getElem? hr)
    have := (List.getElem?_eq_some_iff.mp hc).1
    omega
  have hik : i * q + q ≤ k * q := by
    have : (i + 1) * q ≤ k * q := Nat.mul_le_mul_right q (by omega)
    rw [Nat.add_mul] at this; omega
  rw [World.cell?_setCell_other]
  · exact h i l r c hi hr hc
  · intro e; injection e with _ e2; omega
theorem Filled.step {w : World} {g q k : Nat} {rows : List (List Value)} {row : List Value} (h : Filled w g q k rows) (hp : Part w g (k * q) row) (hr : rows[k]? = some row) : Filled w g q (k + 1) rows := fun i l r c hi hr' hc => by
  by_cases e : i = k
  · subst e
    rw [hr] at hr'
    obtain rfl := Option.some.inj hr'
    exact hp l c hc
  · exact h i l r c (by omega) hr' hc
end Go.Proofs.Ytcelbkmnbjcjhaa
namespace Go.Proofs.Ytcelbkmnbjcjhaa
open Go.RowKit

def mtF : Nat → Nat → List UInt8 → List UInt8
 | 0, _, c => c
 | f + 1, k, c => if k = 0 then c else mtF f (k / 10) (UInt8.ofNat (48 + k % 10) :: c)
theorem mtF_any : ∀ {f g k : Nat} {c : List UInt8}, k ≤ f → k ≤ g → mtF f k c = mtF g k c
 | 0, 0, _, _, _, _ => rfl
 | 0, g + 1, k, c, h, _ => by rw [mtF, mtF, if_pos (by omega)]
 | f + 1, 0, k, c, _, h => by rw [mtF, mtF, if_pos (by omega)]
 | f + 1, g + 1, k, c, h, h2 => by
  rw [mtF, mtF]
  split
  · rfl
  · exact mtF_any (by omega) (by omega)
def mtGo (k : Nat) (acc : List UInt8) : List UInt8 := mtF k k acc
theorem mtGo_zero (acc : List UInt8) : mtGo 0 acc = acc := rfl
theorem mtGo_pos {k : Nat} (h : 0 < k) (acc : List UInt8) : mtGo k acc = mtGo (k / 10) (UInt8.ofNat (48 + k % 10) :: acc) := by
 obtain ⟨f, rfl⟩ : ∃ f, k = f + 1 := ⟨k - 1, by omega⟩
 rw [mtGo, mtF, if_neg (by omega)]; exact mtF_any (by omega) (by omega)
theorem ret_strM {a b : ByteArray} (h : a = b) : Ending.returned (.string a) = .returned (.string b) := by rw [h]
/-- the text of a number. -/
def mtB (k : Nat) : ByteArray := ⟨(109 :: mtGo k []).toArray⟩
end Go.Proofs.Ytcelbkmnbjcjhaa
namespace Go.Proofs.Ytcelbkmnbjcjhaa
open Go.RowKit Go.Sort

def mkHap (c : Nat) : List Value := [.int .i64 (c : Nat), .int .i64 (c + 1 : Nat), .string (mtB (c + 2))]
def mksHap (c n : Nat) : List (List Value) := (List.range n).map fun i => mkHap (c + 3 * i)
theorem mksHap_at {c n i : Nat} (h : i < n) : (mksHap c n)[i]? = some (mkHap (c + 3 * i)) := by unfold mksHap; rw [List.getElem?_map, List.getElem?_range h]; rfl
theorem mksHap_len {c n : Nat} : ∀ r ∈ mksHap c n, r.length = 3 := fun r hr => by
  unfold mksHap at hr
  obtain ⟨i, _, rfl⟩ := List.mem_map.mp hr
  rfl
end Go.Proofs.Ytcelbkmnbjcjhaa
namespace Go.Proofs.Ytcelbkmnbjcjhaa
open Go.RowKit Go.Sort

def mkTurn (c : Nat) : List Value := [.int .i64 (c : Nat), .int .i64 (c + 1 : Nat), .int .i64 (c + 2 : Nat), .string (mtB (c + 3))]
def mksTurn (c n : Nat) : List (List Value) := (List.range n).map fun i => mkTurn (c + 4 * i)
theorem mksTurn_at {c n i : Nat} (h : i < n) : (mksTurn c n)[i]? = some (mkTurn (c + 4 * i)) := by unfold mksTurn; rw [List.getElem?_map, List.getElem?_range h]; rfl
theorem mksTurn_len {c n : Nat} : ∀ r ∈ mksTurn c n, r.length = 4 := fun r hr => by
  unfold mksTurn at hr
  obtain ⟨i, _, rfl⟩ := List.mem_map.mp hr
  rfl
end Go.Proofs.Ytcelbkmnbjcjhaa
namespace Go.Proofs.Ytcelbkmnbjcjhaa
open Go.RowKit Go.Sort

def mkRule (c : Nat) : List Value := [.string (mtB (c)), .int .i64 (c + 1 : Nat), .int .i64 (c + 2 : Nat), .int .i64 (c + 3 : Nat), .string (mtB (c + 4)), .int .i64 (c + 5 : Nat), .string (mtB (c + 6)), .int .i64 (c + 7 : Nat), .string (mtB (c + 8))]
def mksRule (c n : Nat) : List (List Value) := (List.range n).map fun i => mkRule (c + 9 * i)
theorem mksRule_at {c n i : Nat} (h : i < n) : (mksRule c n)[i]? = some (mkRule (c + 9 * i)) := by unfold mksRule; rw [List.getElem?_map, List.getElem?_range h]; rfl
theorem mksRule_len {c n : Nat} : ∀ r ∈ mksRule c n, r.length = 9 := fun r hr => by
  unfold mksRule at hr
  obtain ⟨i, _, rfl⟩ := List.mem_map.mp hr
  rfl
end Go.Proofs.Ytcelbkmnbjcjhaa
namespace Go.Proofs.Ytcelbkmnbjcjhaa
open Go.RowKit Go.Sort

def mkEra (c : Nat) : List Value := [.int .i64 (c : Nat), .string (mtB (c + 1)), .int .i64 (c + 2 : Nat), .string (mtB (c + 3)), .int .i64 (c + 4 : Nat), .string (mtB (c + 5))]
def mksEra (c n : Nat) : List (List Value) := (List.range n).map fun i => mkEra (c + 6 * i)
theorem mksEra_at {c n i : Nat} (h : i < n) : (mksEra c n)[i]? = some (mkEra (c + 6 * i)) := by unfold mksEra; rw [List.getElem?_map, List.getElem?_range h]; rfl
theorem mksEra_len {c n : Nat} : ∀ r ∈ mksEra c n, r.length = 6 := fun r hr => by
  unfold mksEra at hr
  obtain ⟨i, _, rfl⟩ := List.mem_map.mp hr
  rfl
end Go.Proofs.Ytcelbkmnbjcjhaa
namespace Go.Proofs.Ytcelbkmnbjcjhaa
open Go.RowKit Go.Sort

def mkLink (c : Nat) : List Value := [.string (mtB (c)), .string (mtB (c + 1))]
def mksLink (c n : Nat) : List (List Value) := (List.range n).map fun i => mkLink (c + 2 * i)
theorem mksLink_at {c n i : Nat} (h : i < n) : (mksLink c n)[i]? = some (mkLink (c + 2 * i)) := by unfold mksLink; rw [List.getElem?_map, List.getElem?_range h]; rfl
theorem mksLink_len {c n : Nat} : ∀ r ∈ mksLink c n, r.length = 2 := fun r hr => by
  unfold mksLink at hr
  obtain ⟨i, _, rfl⟩ := List.mem_map.mp hr
  rfl
end Go.Proofs.Ytcelbkmnbjcjhaa
namespace Go.Proofs.Ytcelbkmnbjcjhaa
open Go.RowKit Go.Sort

/-- how many numbers the zones take. -/
def zc (l : List ZoneD) : Nat := (l.map fun z => 1 + 6 * z.eras.length).sum
theorem zc_take {l : List ZoneD} {k : Nat} {r : ZoneD} (h : l[k]? = some r) : zc (l.take (k + 1)) = zc (l.take k) + (1 + 6 * r.eras.length) := by
  unfold zc
  rw [List.take_add_one, h]
  simp
theorem zc_le (l : List ZoneD) (k : Nat) : zc (l.take k) ≤ zc l := by
  have := congrArg (fun l => (l.map fun z : ZoneD => 1 + 6 * z.eras.length).sum) (List.take_append_drop k l)
  simp only [List.map_append, List.sum_append] at this
  unfold zc
  omega
theorem zc_sz (l : List ZoneD) : zc l ≤ 7 * (l.length + zsz l) := by
  unfold zc zsz
  induction l with
  | nil => simp
  | cons z l ih =>
    simp only [List.map_cons, List.sum_cons, List.length_cons]
    have : z.eras.length ≤ z.sz := by unfold ZoneD.sz; omega
    omega
/-- zones whose lists of eras may be written, ahead of a block. -/
def ZRoom (w : World) (g U : Nat) (zs : List ZoneD) : Prop := ∀ i z, zs[i]? = some z → ∃ q, g < q ∧ (0 < z.eras.length → q < U) ∧ w.cell? ⟨g, i * 2 + 1, none⟩ = some (.slice (some ⟨q, 0, none⟩) z.eras.length z.eras.length) ∧ Room w q (z.eras.length * 6)
theorem ZRoom.below {w w' : World} {g U : Nat} {zs : List ZoneD} (h : ZRoom w g U zs) (hb : Below w.heap.size w w') : ZRoom w' g U zs := fun i z hz => by
  obtain ⟨q, hq, hu, c1, hr⟩ := h i z hz
  exact ⟨q, hq, hu, by rw [(bcell hb).1 _ _ (World.block_lt_of_cell? _ _ c1)]; exact c1, hr.below hb⟩
theorem ZRoom.store {w : World} {g U : Nat} {zs : List ZoneD} (h : ZRoom w g U zs) (k : Nat) (v : Value) : ZRoom (w.setCell ⟨g, k * 2, none⟩ v) g U zs := fun i z hz => by
  obtain ⟨q, hq, hu, c1, hr⟩ := h i z hz
  refine ⟨q, hq, hu, ?_, hr.set _ _⟩
  rw [World.cell?_setCell_other]
  · exact c1
  · intro e; injection e with _ e2; omega
theorem ZRoom.touch {S : Nat → Prop} {w w' : World} {g U : Nat} {zs : List ZoneD} (h : ZRoom w g U zs) (ht : Touch S w w') (hq : ¬ S g) : ZRoom w' g U zs := fun i z hz => by
  obtain ⟨q', hq', hu, c1, hr⟩ := h i z hz
  exact ⟨q', hq', hu, ht.cell hq c1, ht.room _ _ hr⟩
theorem Room.lt {w : World} {g m : Nat} (h : Room w g m) (hm : 0 < m) : g < w.heap.size := by
  obtain ⟨⟨v, hv⟩, _⟩ := h 0 hm
  exact World.block_lt_of_cell? _ _ hv
/-- a release of one's own memory, between two blocks. -/
structure OwnRelU (w : World) (B U : Nat) (v : Value) (r : RelD) : Prop where
  form : ∃ a b c, v = .agg #[.slice (some ⟨a, 0, none⟩) r.rules.length r.rules.length, .slice (some ⟨b, 0, none⟩) r.zones.length r.zones.length, .slice (some ⟨c, 0, none⟩) r.links.length r.links.length] ∧
    (B ≤ a ∧ B ≤ b ∧ B ≤ c) ∧ ((0 < r.rules.length → a < U) ∧ (0 < r.zones.length → b < U) ∧ (0 < r.links.length → c < U)) ∧ (0 < r.rules.length → 0 < r.zones.length → a ≠ b) ∧ Room w a (r.rules.length * 9) ∧ Room w b (r.zones.length * 2) ∧ ZRoom w b U r.zones ∧ Room w c (r.links.length * 2)
theorem OwnRel.upto {w w' : World} {B : Nat} {v : Value} {r : RelD} (h : OwnRel w B v r) (hb : Below w.heap.size w w') : OwnRelU w' B w.heap.size v r := by
  obtain ⟨a, b, c, hv, hB, ⟨hSa, hRa⟩, ⟨hZ, hRb⟩, ⟨_, hRc⟩⟩ := h.form
  have hab : 0 < r.rules.length → 0 < r.zones.length → a ≠ b := fun h1 h2 e => by
    subst e
    obtain ⟨x, hx⟩ : ∃ x, r.rules[0]? = some x := ⟨_, List.getElem?_eq_getElem h1⟩
    obtain ⟨z, hz⟩ : ∃ z, r.zones[0]? = some z := ⟨_, List.getElem?_eq_getElem h2⟩
    obtain ⟨b', o', he, hc⟩ := hSa.at (i := 0) (r := x.cs) (by rw [List.getElem?_map, hx]; rfl)
    injection he with he
    injection he with e1 e2
    subst e1 e2
    have p1 := hc 1 _ rfl
    obtain ⟨_, q, _, p2, _, _⟩ := hZ 0 z h2 hz
    rw [show 0 + 0 * 9 + 1 = 0 * 2 + 1 by omega, p2] at p1
    cases p1
  refine ⟨a, b, c, hv, hB, ⟨fun h => hRa.lt (by omega), fun h => hRb.lt (by omega), fun h => hRc.lt (by omega)⟩, hab, hRa.below hb, hRb.below hb, ZRoom.below (fun i z hz => ?_) hb, hRc.below hb⟩
  obtain ⟨_, q, hq, c1, _, hr⟩ := hZ i z (List.getElem?_eq_some_iff.mp hz).1 hz
  exact ⟨q, hq, fun h => hr.lt (by omega), c1, hr⟩
end Go.Proofs.Ytcelbkmnbjcjhaa
