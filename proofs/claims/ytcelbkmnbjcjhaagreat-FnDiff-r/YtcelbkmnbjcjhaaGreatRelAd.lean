/- Packed: Rel1 Rel2 RelHap RelEra RelTurn Own1 RelSpan RelZone RelZone2 RelRule RelLink RelRel RelRel2 Map1 Map2 Touch Mark0 MarkHap MarkTurn MarkRule MarkEra MarkLink MarkRel MarkSpan. -/
import Derived.Test.YtcelbkmnbjcjhaaGreatBaseAd
import Derived.Laws.OwnMore
import Derived.Lib.QuietBelow
import Derived.Laws.AppendOwn
import Derived.Deep.AppendLies
import Derived.OwnWalk
import Derived.Maps.Own
import Derived.BigRegion
import Derived.Deep.RegionLaw
import Derived.Deep.RegionHeld3
import Derived.Sort.Row
import Derived.Laws.IdiomStrings
namespace Go.Proofs.YtcelbkmnbjcjhaaGreat
open Go.RowKit

/-- a rule. -/
structure RuleD where
 name : ByteArray
 lo : Int
 hi : Int
 month : Int
 on : ByteArray
 at_ : Int
 of : ByteArray
 save : Int
 letter : ByteArray
def RuleD.cs (r : RuleD) : List Value := [.string r.name, .int .i64 r.lo, .int .i64 r.hi, .int .i64 r.month, .string r.on, .int .i64 r.at_, .string r.of, .int .i64 r.save, .string r.letter]
def RuleD.v (r : RuleD) : Value := .agg #[.string r.name, .int .i64 r.lo, .int .i64 r.hi, .int .i64 r.month, .string r.on, .int .i64 r.at_, .string r.of, .int .i64 r.save, .string r.letter]
/-- a list in memory: k cells each. -/
def SeqAt (w : World) (a : Option Addr) (k : Nat) (rows : List (List Value)) : Prop :=
 rows = [] ∨ ∃ b o, a = some ⟨b, o, none⟩ ∧ ∀ i j r c, rows[i]? = some r → r[j]? = some c → w.cell? ⟨b, o + i * k + j, none⟩ = some c
/-- no text is too long for the machine. -/
def RuleD.ok (r : RuleD) : Prop := r.name.size ≤ maxLen ∧ r.on.size ≤ maxLen ∧ r.of.size ≤ maxLen ∧ r.letter.size ≤ maxLen
/-- the cells of a rule of a list. -/
theorem SeqAt.at {w : World} {a : Option Addr} {k : Nat} {rows : List (List Value)} (h : SeqAt w a k rows) {i : Nat} {r : List Value} (hi : rows[i]? = some r) : ∃ b o, a = some ⟨b, o, none⟩ ∧ ∀ j c, r[j]? = some c → w.cell? ⟨b, o + i * k + j, none⟩ = some c := by
 rcases h with rfl | ⟨b, o, ha, hc⟩
 ·
  simp at hi
 ·
  exact ⟨b, o, ha, fun j c hj => hc i j r c hi hj⟩
theorem SeqAt.below {w w' : World} {a : Option Addr} {k : Nat} {rows : List (List Value)} (h : SeqAt w a k rows) (hb : Below w.heap.size w w') : SeqAt w' a k rows := by
 rcases h with h | ⟨b, o, ha, hc⟩
 ·
  exact .inl h
 ·
  exact .inr ⟨b, o, ha, fun i j r c hi hj => by
   have := hc i j r c hi hj
   rw [(bcell hb).1 _ _ (World.block_lt_of_cell? _ _ this)]; exact this⟩
end Go.Proofs.YtcelbkmnbjcjhaaGreat
namespace Go.Proofs.YtcelbkmnbjcjhaaGreat
open Go.RowKit

/-- a block with m cells that may be written. -/
def Room (w : World) (g m : Nat) : Prop := ∀ x, x < m → (∃ v, w.cell? ⟨g, x, none⟩ = some v) ∧ w.frozen? ⟨g, x, none⟩ = false
theorem Room.below {w w' : World} {g m : Nat} (h : Room w g m) (hb : Below w.heap.size w w') : Room w' g m := fun x hx => by
 obtain ⟨⟨v, hv⟩, hf⟩ := h x hx
 have hlt := World.block_lt_of_cell? _ _ hv
 exact ⟨⟨v, by rw [(bcell hb).1 _ _ hlt]; exact hv⟩, by rw [(bcell hb).2 _ _ hlt]; exact hf⟩
theorem Room.set {w : World} {g m : Nat} (h : Room w g m) (a : Addr) (v : Value) : Room (w.setCell a v) g m := fun x hx => by
 obtain ⟨⟨u, hu⟩, hf⟩ := h x hx
 exact ⟨cell?_setCell_some hu, by rw [World.frozen?_setCell]; exact hf⟩
/-- the block that a make gives. -/
theorem room_of {w : World} {base g n q : Nat} {e : TypeId} {xs : List Value} (h : w.ownsRow base e q (.slice (some ⟨g, 0, none⟩) n n) n xs) : Room w g (n * q) := by
 rcases h.2 with ⟨h0, _⟩ | ⟨g', cap, cur, h1, _, hh, _, _, hs, _⟩
 ·
  cases h0
 ·
  injection h1 with h1 h2 h3
  injection h1 with h1
  injection h1 with h1
  subst h1 h3
  intro x hx
  have hx' : x < cur.size := by omega
  exact ⟨⟨cur[x], by simp [World.cell?, hh, hx']⟩, by simp [World.frozen?, hh]⟩
end Go.Proofs.YtcelbkmnbjcjhaaGreat
namespace Go.Proofs.YtcelbkmnbjcjhaaGreat
open Go.RowKit Go.Sort

structure HapD where
 at_ : Int
 save : Int
 letter : ByteArray
def HapD.cs (r : HapD) : List Value := [.int .i64 r.at_, .int .i64 r.save, .string r.letter]
def HapD.v (r : HapD) : Value := .agg #[.int .i64 r.at_, .int .i64 r.save, .string r.letter]
def HapD.sz (r : HapD) : Nat := r.letter.size
def hsz (l : List HapD) : Nat := (l.map HapD.sz).sum
end Go.Proofs.YtcelbkmnbjcjhaaGreat
namespace Go.Proofs.YtcelbkmnbjcjhaaGreat
open Go.RowKit Go.Sort

structure EraD where
 offset : Int
 rules : ByteArray
 save : Int
 format : ByteArray
 until_ : Int
 of : ByteArray
def EraD.cs (r : EraD) : List Value := [.int .i64 r.offset, .string r.rules, .int .i64 r.save, .string r.format, .int .i64 r.until_, .string r.of]
def EraD.v (r : EraD) : Value := .agg #[.int .i64 r.offset, .string r.rules, .int .i64 r.save, .string r.format, .int .i64 r.until_, .string r.of]
def EraD.ok (r : EraD) : Prop := r.rules.size ≤ maxLen ∧ r.format.size ≤ maxLen ∧ r.of.size ≤ maxLen
set_option maxRecDepth 100000 in
theorem infoEra : ∃ i : TypeInfo, Tryz.prog.info? 130 = some i ∧ i.zero = some (.agg #[.int .i64 0, .string ⟨#[]⟩, .int .i64 0, .string ⟨#[]⟩, .int .i64 0, .string ⟨#[]⟩]) ∧ i.size = 6 ∧ i.bytes = 72 := ⟨_, rfl, rfl, rfl, rfl⟩
end Go.Proofs.YtcelbkmnbjcjhaaGreat
namespace Go.Proofs.YtcelbkmnbjcjhaaGreat
open Go.RowKit Go.Sort

structure TurnD where
 at_ : Int
 offset : Int
 save : Int
 abbr : ByteArray
def TurnD.cs (r : TurnD) : List Value := [.int .i64 r.at_, .int .i64 r.offset, .int .i64 r.save, .string r.abbr]
def TurnD.v (r : TurnD) : Value := .agg #[.int .i64 r.at_, .int .i64 r.offset, .int .i64 r.save, .string r.abbr]
def TurnD.ok (r : TurnD) : Prop := r.abbr.size ≤ maxLen
set_option maxRecDepth 100000 in
theorem infoTurn : ∃ i : TypeInfo, Tryz.prog.info? 38 = some i ∧ i.zero = some (.agg #[.int .i64 0, .int .i64 0, .int .i64 0, .string ⟨#[]⟩]) ∧ i.size = 4 ∧ i.bytes = 40 := ⟨_, rfl, rfl, rfl, rfl⟩
end Go.Proofs.YtcelbkmnbjcjhaaGreat
namespace Go.Proofs.YtcelbkmnbjcjhaaGreat
open Go.RowKit

theorem flat_at {q : Nat} : ∀ {rows : List (List Value)}, (∀ r ∈ rows, r.length = q) → ∀ {i j : Nat} {r : List Value} {c : Value}, rows[i]? = some r → r[j]? = some c → rows.flatten[i * q + j]? = some c := by
 intro rows
 induction rows with
 | nil => intro _ i j r c h; simp at h
 | cons x rows ih =>
  intro hq i j r c hi hj
  have hx := hq x (by simp)
  cases i with
  | zero =>
   simp at hi
   subst hi
   rw [List.flatten_cons, Nat.zero_mul, Nat.zero_add, List.getElem?_append_left (List.getElem?_eq_some_iff.mp hj).1]
   exact hj
  | succ i =>
   rw [List.flatten_cons, List.getElem?_append_right (by rw [hx, Nat.add_mul]; omega), hx]
   rw [show (i + 1) * q + j - q = i * q + j by rw [Nat.add_mul]; omega]
   exact ih (fun y hy => hq y (List.mem_cons_of_mem _ hy)) (by simpa using hi) hj
theorem flat_len {q : Nat} : ∀ {rows : List (List Value)}, (∀ r ∈ rows, r.length = q) → rows.flatten.length = rows.length * q := by
 intro rows
 induction rows with
 | nil => intro _; simp
 | cons x rows ih =>
  intro hq
  rw [List.flatten_cons, List.length_append, hq x (by simp), ih fun y hy => hq y (List.mem_cons_of_mem _ hy), List.length_cons, Nat.add_mul]
  omega
/-- a row of structs in memory of one's own. -/
theorem seq_of_owns {w : World} {base : Nat} {e : TypeId} {q : Nat} {v : Value} {rows : List (List Value)} (h : w.ownsRow base e q v rows.length rows.flatten) (hq : ∀ r ∈ rows, r.length = q) : ∃ a cap, v = .slice a rows.length cap ∧ SeqAt w a q rows ∧ rows.length ≤ cap := by
 rcases h.2 with ⟨hv, h0⟩ | ⟨g, cap, cur, hv, hb, hg, hc, _, _, _⟩
 ·
  exact ⟨none, 0, by rw [hv, h0], .inl (List.length_eq_zero_iff.mp h0), by omega⟩
 ·
  refine ⟨_, cap, hv, .inr ⟨g, 0, rfl, fun i j r c hi hj => ?_⟩, hc⟩
  rw [hv] at h
  have hl := flat_at hq hi hj
  have hlt := (List.getElem?_eq_some_iff.mp hl).1
  rw [flat_len hq] at hlt
  rw [Nat.zero_add, h.cellAt _ hlt, hl]
theorem cells_new (w : World) (cs : List Value) (t : TypeId) : ∀ j u, cs[j]? = some u → (w.alloc (.cells cs.toArray t)).cell? ((⟨w.heap.size, 0, none⟩ : Addr).add j) = some u := fun j u h => World.news_of_block (heap_alloc_new w _) j u (by simpa using h)
/-- a cell is as it was. -/
theorem keepC {w w' : World} (hb : Below w.heap.size w w') {b o : Nat} {v : Value} (h : w.cell? ⟨b, o, none⟩ = some v) : w'.cell? ⟨b, o, none⟩ = some v := ((bcell hb).1 _ _ (World.block_lt_of_cell? _ _ h)).trans h
theorem below_drew (w : World) : Below w.heap.size w w.drew := ⟨rfl, rfl, rfl, Nat.le_refl _, fun _ _ => rfl⟩
theorem addP (b o j : Nat) : (⟨b, o, none⟩ : Addr).add j = ⟨b, o + j, none⟩ := by unfold Addr.add; split <;> simp_all
theorem row_shape3 {w : World} {base : Nat} {e : TypeId} {size : Nat} {v : Value} {n : Nat} {xs : List Value} (h : w.ownsRow base e size v n xs) : ∃ a m c, v = .slice a m c := by
 rcases h.2 with ⟨hv, _⟩ | ⟨g, cap, cur, hv, _⟩
 ·
  exact ⟨_, _, _, hv⟩
 ·
  exact ⟨_, _, _, hv⟩
theorem owns_mono {w : World} {base base' : Nat} {e : TypeId} {size : Nat} {v : Value} {n : Nat} {xs : List Value} (h : w.ownsRow base e size v n xs) (hb : base' ≤ base) : w.ownsRow base' e size v n xs := by
 refine ⟨h.1, ?_⟩
 rcases h.2 with h | ⟨g, cap, cur, e1, e2, e3⟩
 ·
  exact .inl h
 ·
  exact .inr ⟨g, cap, cur, e1, by omega, e3⟩
theorem owns_below {w w' : World} {base : Nat} {e : TypeId} {size : Nat} {v : Value} {n : Nat} {xs : List Value} (h : w.ownsRow base e size v n xs) (hb : Below w.heap.size w w') : w'.ownsRow base e size v n xs := by
 refine ⟨h.1, ?_⟩
 rcases h.2 with h | ⟨g, cap, cur, e1, e2, e3, e4⟩
 ·
  exact .inl h
 ·
  exact .inr ⟨g, cap, cur, e1, e2, (hb.block g (Array.getElem?_eq_some_iff.1 e3).1).trans e3, e4⟩
theorem own_empty (w : World) (t : TypeId) (q : Nat) : (w.alloc (.cells #[] t)).ownsRow w.heap.size t q (.slice (some ⟨w.heap.size, 0, none⟩) 0 0) 0 [] :=
 ⟨by simp, .inr ⟨w.heap.size, 0, #[], rfl, Nat.le_refl _, heap_alloc_new w _, Nat.le_refl _, by unfold maxLen; omega, by simp, by simp⟩⟩
/-- rows of a list, some of them: the first ones dropped. -/
theorem SeqAt.drop {w : World} {b o k m : Nat} {rows : List (List Value)} (h : SeqAt w (some ⟨b, o, none⟩) k rows) : SeqAt w (some ⟨b, o + m * k, none⟩) k (rows.drop m) := by
 rcases h with h | ⟨b', o', e, h⟩
 ·
  exact .inl (by rw [h]; simp)
 ·
  injection e with e
  injection e with u1 u2
  subst u1 u2
  refine .inr ⟨_, _, rfl, fun i j r c hi hj => ?_⟩
  rw [show o + m * k + i * k + j = o + (m + i) * k + j by rw [Nat.add_mul]; omega]
  exact h (m + i) j r c (by rw [← List.getElem?_drop]; exact hi) hj
theorem SeqAt.take {w : World} {a : Option Addr} {k : Nat} {rows : List (List Value)} (h : SeqAt w a k rows) (m : Nat) : SeqAt w a k (rows.take m) := by
 rcases h with h | ⟨b, o, rfl, h⟩
 ·
  exact .inl (by rw [h]; simp)
 ·
  refine .inr ⟨b, o, rfl, fun i j r c hi hj => ?_⟩
  rw [List.getElem?_take] at hi
  split at hi
  ·
   exact h i j r c hi hj
  ·
   cases hi
/-- the cells of rows, one behind the other. -/
theorem SeqAt.flat {w : World} {b o q : Nat} {rows : List (List Value)} (h : SeqAt w (some ⟨b, o, none⟩) q rows) (hq : ∀ r ∈ rows, r.length = q) : ∀ j u, rows.flatten[j]? = some u → w.cell? ((⟨b, o, none⟩ : Addr).add j) = some u := fun j u hj => by
 have hlt := (List.getElem?_eq_some_iff.mp hj).1
 rw [flat_len hq] at hlt
 have hq0 : 0 < q := by
  rcases Nat.eq_zero_or_pos q with e | e
  ·
   subst e; simp at hlt
  ·
   exact e
 have hi : j / q < rows.length := Nat.div_lt_of_lt_mul (by rw [Nat.mul_comm]; exact hlt)
 obtain ⟨r, hr⟩ : ∃ r, rows[j / q]? = some r := ⟨_, List.getElem?_eq_getElem hi⟩
 have hrl := hq r (List.mem_of_getElem? hr)
 obtain ⟨c, hc⟩ : ∃ c, r[j % q]? = some c := ⟨_, List.getElem?_eq_getElem (by rw [hrl]; exact Nat.mod_lt _ hq0)⟩
 have e1 := flat_at hq hr hc
 rw [show j / q * q + j % q = j by rw [Nat.mul_comm]; exact Nat.div_add_mod j q] at e1
 rw [hj] at e1
 obtain rfl := Option.some.inj e1
 rw [addP]
 rcases h with h | ⟨b', o', e, h⟩
 ·
  rw [h] at hr; simp at hr
 ·
  injection e with e
  injection e with u1 u2
  subst u1 u2
  have := h (j / q) (j % q) r u hr hc
  rw [show o + j / q * q + j % q = o + j by have := Nat.div_add_mod j q; rw [Nat.mul_comm] at this; omega] at this
  exact this
end Go.Proofs.YtcelbkmnbjcjhaaGreat
namespace Go.Proofs.YtcelbkmnbjcjhaaGreat
open Go.RowKit Go.Sort

structure SpanD where
 lo : Int
 hi : Int
def SpanD.cs (r : SpanD) : List Value := [.int .i64 r.lo, .int .i64 r.hi]
end Go.Proofs.YtcelbkmnbjcjhaaGreat
namespace Go.Proofs.YtcelbkmnbjcjhaaGreat
open Go.RowKit Go.Sort

structure ZoneD where
 name : ByteArray
 eras : List EraD
def ZoneD.ok (z : ZoneD) : Prop := z.name.size ≤ maxLen ∧ z.eras.length ≤ maxLen ∧ ∀ r ∈ z.eras, r.ok
/-- a list of eras in memory. -/
def EraSl (w : World) (v : Value) (es : List EraD) : Prop := ∃ a cap, v = .slice a es.length cap ∧ SeqAt w a 6 (es.map EraD.cs)
theorem EraSl.below {w w' : World} {v : Value} {es : List EraD} (h : EraSl w v es) (hb : Below w.heap.size w w') : EraSl w' v es := by
 obtain ⟨a, cap, rfl, hA⟩ := h
 exact ⟨a, cap, rfl, hA.below hb⟩
/-- a list of zones in memory: at each place a name and a list's value. -/
def ZonesAt (w : World) (a : Option Addr) (zs : List ZoneD) : Prop :=
 zs = [] ∨ ∃ b o, a = some ⟨b, o, none⟩ ∧ ∀ i z, zs[i]? = some z → w.cell? ⟨b, o + i * 2, none⟩ = some (.string z.name) ∧ ∃ v, w.cell? ⟨b, o + i * 2 + 1, none⟩ = some v ∧ EraSl w v z.eras
theorem ZonesAt.below {w w' : World} {a : Option Addr} {zs : List ZoneD} (h : ZonesAt w a zs) (hb : Below w.heap.size w w') : ZonesAt w' a zs := by
 rcases h with h | ⟨b, o, ha, hc⟩
 ·
  exact .inl h
 ·
  refine .inr ⟨b, o, ha, fun i z hi => ?_⟩
  obtain ⟨c0, v, c1, he⟩ := hc i z hi
  have hlt := World.block_lt_of_cell? _ _ c0
  exact ⟨by rw [(bcell hb).1 _ _ hlt]; exact c0, v, by rw [(bcell hb).1 _ _ hlt]; exact c1, he.below hb⟩
theorem ZonesAt.at {w : World} {a : Option Addr} {zs : List ZoneD} (h : ZonesAt w a zs) {i : Nat} {z : ZoneD} (hi : zs[i]? = some z) : ∃ b o, a = some ⟨b, o, none⟩ ∧ w.cell? ⟨b, o + i * 2, none⟩ = some (.string z.name) ∧ ∃ v, w.cell? ⟨b, o + i * 2 + 1, none⟩ = some v ∧ EraSl w v z.eras := by
 rcases h with rfl | ⟨b, o, ha, hc⟩
 ·
  simp at hi
 ·
  exact ⟨b, o, ha, hc i z hi⟩
end Go.Proofs.YtcelbkmnbjcjhaaGreat
namespace Go.Proofs.YtcelbkmnbjcjhaaGreat
open Go.RowKit Go.Sort

set_option maxRecDepth 100000 in
theorem infoZone : ∃ i : TypeInfo, Tryz.prog.info? 121 = some i ∧ i.zero = some (.agg #[.string ⟨#[]⟩, .slice none 0 0]) ∧ i.size = 2 ∧ i.bytes = 40 := ⟨_, rfl, rfl, rfl, rfl⟩
end Go.Proofs.YtcelbkmnbjcjhaaGreat
namespace Go.Proofs.YtcelbkmnbjcjhaaGreat
open Go.RowKit Go.Sort

set_option maxRecDepth 100000 in
theorem infoRule : ∃ i : TypeInfo, Tryz.prog.info? 117 = some i ∧ i.zero = some (.agg #[.string ⟨#[]⟩, .int .i64 0, .int .i64 0, .int .i64 0, .string ⟨#[]⟩, .int .i64 0, .string ⟨#[]⟩, .int .i64 0, .string ⟨#[]⟩]) ∧ i.size = 9 ∧ i.bytes = 104 := ⟨_, rfl, rfl, rfl, rfl⟩
end Go.Proofs.YtcelbkmnbjcjhaaGreat
namespace Go.Proofs.YtcelbkmnbjcjhaaGreat
open Go.RowKit Go.Sort

structure LinkD where
 to_ : ByteArray
 name : ByteArray
def LinkD.cs (r : LinkD) : List Value := [.string r.to_, .string r.name]
def LinkD.ok (r : LinkD) : Prop := r.to_.size ≤ maxLen ∧ r.name.size ≤ maxLen
set_option maxRecDepth 100000 in
theorem infoLink : ∃ i : TypeInfo, Tryz.prog.info? 124 = some i ∧ i.zero = some (.agg #[.string ⟨#[]⟩, .string ⟨#[]⟩]) ∧ i.size = 2 ∧ i.bytes = 32 := ⟨_, rfl, rfl, rfl, rfl⟩
end Go.Proofs.YtcelbkmnbjcjhaaGreat
namespace Go.Proofs.YtcelbkmnbjcjhaaGreat
open Go.RowKit Go.Sort

/-- a release. -/
structure RelD where
 rules : List RuleD
 zones : List ZoneD
 links : List LinkD
def RelD.ok (r : RelD) : Prop := (r.rules.length ≤ maxLen ∧ ∀ x ∈ r.rules, x.ok) ∧ (r.zones.length ≤ maxLen ∧ ∀ x ∈ r.zones, x.ok) ∧ (r.links.length ≤ maxLen ∧ ∀ x ∈ r.links, x.ok)
/-- a release in memory: three lists. -/
structure RelAt (w : World) (v : Value) (r : RelD) : Prop where
 form : ∃ a b c ca cb cc, v = .agg #[.slice a r.rules.length ca, .slice b r.zones.length cb, .slice c r.links.length cc] ∧ SeqAt w a 9 (r.rules.map RuleD.cs) ∧ ZonesAt w b r.zones ∧ SeqAt w c 2 (r.links.map LinkD.cs)
theorem RelAt.below {w w' : World} {v : Value} {r : RelD} (h : RelAt w v r) (hb : Below w.heap.size w w') : RelAt w' v r := by
 obtain ⟨a, b, c, ca, cb, cc, hv, h1, h2, h3⟩ := h.form
 exact ⟨a, b, c, ca, cb, cc, hv, h1.below hb, h2.below hb, h3.below hb⟩
end Go.Proofs.YtcelbkmnbjcjhaaGreat
namespace Go.Proofs.YtcelbkmnbjcjhaaGreat
open Go.RowKit Go.Sort

/-- from a block on nothing has changed. -/
def From (B : Nat) (w w' : World) : Prop := ∀ g x, B ≤ g → w'.cell? ⟨g, x, none⟩ = w.cell? ⟨g, x, none⟩ ∧ w'.frozen? ⟨g, x, none⟩ = w.frozen? ⟨g, x, none⟩
def RelD.small (r : RelD) : Prop := r.rules.length ≤ 1048576 ∧ r.zones.length ≤ 1048576 ∧ r.links.length ≤ 1048576 ∧ ∀ z ∈ r.zones, z.eras.length ≤ 1048576
end Go.Proofs.YtcelbkmnbjcjhaaGreat
namespace Go.Proofs.YtcelbkmnbjcjhaaGreat
open Go.RowKit Go.ChangeMaps Go.MapKept Go.WideMaps

theorem toList_injM {s t : ByteArray} (h : s.toList = t.toList) : s = t := by
 rw [ByteArray.toList_eq, ByteArray.toList_eq] at h
 cases s; cases t; congr; exact Array.toList_inj.mp h
end Go.Proofs.YtcelbkmnbjcjhaaGreat
namespace Go.Proofs.YtcelbkmnbjcjhaaGreat
open Go.RowKit

end Go.Proofs.YtcelbkmnbjcjhaaGreat
namespace Go.Proofs.YtcelbkmnbjcjhaaGreat
open Go.RowKit

/-- of what was there only the blocks of S have turned. -/
structure Touch (S : Nat → Prop) (w w' : World) : Prop where
 os : w'.os = w.os
 tape : w'.tape = w.tape
 output : w'.output = w.output
 size : w.heap.size ≤ w'.heap.size
 block : ∀ b, b < w.heap.size → ¬ S b → w'.heap[b]? = w.heap[b]?
 room : ∀ g m, Room w g m → Room w' g m
theorem Touch.of_below {S : Nat → Prop} {w w' : World} (h : Below w.heap.size w w') : Touch S w w' := ⟨h.os, h.tape, h.output, h.size, fun b hb _ => h.block b hb, fun _ _ hr => hr.below h⟩
end Go.Proofs.YtcelbkmnbjcjhaaGreat
namespace Go.Proofs.YtcelbkmnbjcjhaaGreat
open Go.RowKit

end Go.Proofs.YtcelbkmnbjcjhaaGreat
namespace Go.Proofs.YtcelbkmnbjcjhaaGreat
open Go.RowKit Go.Sort

end Go.Proofs.YtcelbkmnbjcjhaaGreat
namespace Go.Proofs.YtcelbkmnbjcjhaaGreat
open Go.RowKit Go.Sort

end Go.Proofs.YtcelbkmnbjcjhaaGreat
namespace Go.Proofs.YtcelbkmnbjcjhaaGreat
open Go.RowKit Go.Sort

end Go.Proofs.YtcelbkmnbjcjhaaGreat
namespace Go.Proofs.YtcelbkmnbjcjhaaGreat
open Go.RowKit Go.Sort

end Go.Proofs.YtcelbkmnbjcjhaaGreat
namespace Go.Proofs.YtcelbkmnbjcjhaaGreat
open Go.RowKit Go.Sort

end Go.Proofs.YtcelbkmnbjcjhaaGreat
namespace Go.Proofs.YtcelbkmnbjcjhaaGreat
open Go.RowKit Go.Sort

/-- how many numbers the zones take. -/
def zc (l : List ZoneD) : Nat := (l.map fun z => 1 + 6 * z.eras.length).sum
end Go.Proofs.YtcelbkmnbjcjhaaGreat
namespace Go.Proofs.YtcelbkmnbjcjhaaGreat
open Go.RowKit Go.Sort

end Go.Proofs.YtcelbkmnbjcjhaaGreat
