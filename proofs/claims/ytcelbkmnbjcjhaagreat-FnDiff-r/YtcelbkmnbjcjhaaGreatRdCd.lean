/- Packed: Rd9 Rd13. -/
import Derived.Test.YtcelbkmnbjcjhaaGreatRdBd
import Derived.Test.YtcelbkmnbjcjhaaGreatRelAd
import Derived.Test.YtcelbkmnbjcjhaaGreatHpAd
import Derived.Laws.OwnMore
namespace Go.Proofs.YtcelbkmnbjcjhaaGreat
open Go.RowKit Go.Sort

def zrows (zs : List ZoneD) (evs : List Value) : List (List Value) := List.zipWith (fun z ev => [Value.string z.name, ev]) zs evs
/-- the reader behind the pointer p, all of one's own (from the block B on), at most K of each kind. -/
structure RdV (w : World) (B p : Nat) (rv zv lv : Value) (more : Bool) (R : RelD) (evs : List Value) (K : Nat) : Prop where
 c0 : w.cell? ⟨p, 0, none⟩ = some rv
 c1 : w.cell? ⟨p, 1, none⟩ = some zv
 c2 : w.cell? ⟨p, 2, none⟩ = some lv
 c3 : w.cell? ⟨p, 3, none⟩ = some (.bool more)
 tp : ∃ cs, w.heap[p]? = some (.cells cs 109 (0, 0))
 hp : B ≤ p
 rr : w.ownsRow B 117 9 rv R.rules.length (R.rules.map RuleD.cs).flatten
 ll : w.ownsRow B 124 2 lv R.links.length (R.links.map LinkD.cs).flatten
 zz : w.ownsRow B 121 2 zv R.zones.length (zrows R.zones evs).flatten
 el : evs.length = R.zones.length
 ee : ∀ (i : Nat) z ev, R.zones[i]? = some z → evs[i]? = some ev → w.ownsRow B 130 6 ev z.eras.length (z.eras.map EraD.cs).flatten ∧ 1 ≤ z.eras.length ∧ z.eras.length ≤ K
 nd : ∀ (i j : Nat) ev ev', evs[i]? = some ev → evs[j]? = some ev' → ev.ownBlock = ev'.ownBlock → i = j
 mo : more = true → 1 ≤ R.zones.length
 sz : R.rules.length ≤ K ∧ R.zones.length ≤ K ∧ R.links.length ≤ K
 sm : (∀ x ∈ R.rules, R8 x) ∧ (∀ z ∈ R.zones, z.name.size ≤ 8000 ∧ ∀ e ∈ z.eras, E8 e) ∧ ∀ l ∈ R.links, l.to_.size ≤ 8000 ∧ l.name.size ≤ 8000

theorem own_at {w : World} {base : Nat} {e : TypeId} {size : Nat} {v : Value} {n : Nat} {xs : List Value} {g : Nat} (h : w.ownsRow base e size v n xs) (hg : v.ownBlock = some g) : ∃ cur, w.heap[g]? = some (.cells cur e (0, 0)) := by
 rcases h.2 with ⟨rfl, _⟩ | ⟨g', cap, cur, rfl, _, hc, _⟩
 ·
  cases hg
 ·
  simp [Value.ownBlock] at hg; subst hg; exact ⟨cur, hc⟩
/-- a row lies in no block of another type. -/
theorem sepT {w : World} {base p : Nat} {e t : TypeId} {size : Nat} {v : Value} {n : Nat} {xs : List Value} (h : w.ownsRow base e size v n xs) (hp : ∃ cs, w.heap[p]? = some (.cells cs t (0, 0))) (hne : e ≠ t) : some p ≠ v.ownBlock := by
 intro hg
 obtain ⟨cur, h1⟩ := own_at h hg.symm
 obtain ⟨cs, h2⟩ := hp
 rw [h1] at h2
 injection h2 with h2
 injection h2 with _ h3
 exact hne h3
theorem sep2 {w : World} {b1 b2 : Nat} {e1 e2 : TypeId} {s1 s2 : Nat} {v1 v2 : Value} {n1 n2 : Nat} {x1 x2 : List Value} (h1 : w.ownsRow b1 e1 s1 v1 n1 x1) (h2 : w.ownsRow b2 e2 s2 v2 n2 x2) (hne : e1 ≠ e2) : v1.ownBlock = none ∨ v1.ownBlock ≠ v2.ownBlock := by
 cases hv : v1.ownBlock with
 | none => exact .inl rfl
 | some g => exact .inr fun e => sepT h2 (own_at h1 hv) (Ne.symm hne) e
theorem RdV.below {w w' : World} {B p : Nat} {rv zv lv : Value} {more : Bool} {R : RelD} {evs : List Value} {K : Nat} (h : RdV w B p rv zv lv more R evs K) (hb : Below w.heap.size w w') : RdV w' B p rv zv lv more R evs K where
 c0 := bkeep h.c0 hb
 c1 := bkeep h.c1 hb
 c2 := bkeep h.c2 hb
 c3 := bkeep h.c3 hb
 tp := by obtain ⟨cs, hc⟩ := h.tp; exact ⟨cs, (hb.block p (World.block_lt_of_cell? _ _ h.c0)).trans hc⟩
 hp := h.hp
 rr := owns_below h.rr hb
 ll := owns_below h.ll hb
 zz := owns_below h.zz hb
 el := h.el
 ee i z ev h1 h2 := by obtain ⟨a, b⟩ := h.ee i z ev h1 h2; exact ⟨owns_below a hb, b⟩
 nd := h.nd
 mo := h.mo
 sz := h.sz
 sm := h.sm
/-- what grows but for one row, not the reader's block: the reader's own cells are as they were. -/
theorem RdV.cells {w w1 : World} {B p : Nat} {rv zv lv : Value} {more : Bool} {R : RelD} {evs : List Value} {K : Nat} {row : Option Nat} (h : RdV w B p rv zv lv more R evs K) (hg : w.grownBy w1 row) (hne : some p ≠ row) :
  w1.cell? ⟨p, 0, none⟩ = some rv ∧ w1.cell? ⟨p, 1, none⟩ = some zv ∧ w1.cell? ⟨p, 2, none⟩ = some lv ∧ w1.cell? ⟨p, 3, none⟩ = some (.bool more) ∧ ∃ cs, w1.heap[p]? = some (.cells cs 109 (0, 0)) := by
 refine ⟨hg.cell (a := ⟨p, 0, none⟩) h.c0 hne, hg.cell (a := ⟨p, 1, none⟩) h.c1 hne, hg.cell (a := ⟨p, 2, none⟩) h.c2 hne, hg.cell (a := ⟨p, 3, none⟩) h.c3 hne, ?_⟩
 obtain ⟨cs, hc⟩ := h.tp
 exact ⟨cs, (hg.5 p (World.block_lt_of_cell? _ _ h.c0) hne).trans hc⟩
theorem fz_of {w : World} {p : Nat} {t : TypeId} (h : ∃ cs, w.heap[p]? = some (.cells cs t (0, 0))) (i : Nat) : w.frozen? ⟨p, i, none⟩ = false := by
 obtain ⟨cs, hc⟩ := h
 simp [World.frozen?, hc]
theorem tp_set {w : World} {p o : Nat} {t : TypeId} {v : Value} (h : ∃ cs, w.heap[p]? = some (.cells cs t (0, 0))) : ∃ cs, (w.setCell ⟨p, o, none⟩ v).heap[p]? = some (.cells cs t (0, 0)) := by
 obtain ⟨cs, hc⟩ := h
 exact ⟨_, heap_setCell_same w p o cs t v hc⟩
theorem kept_set {w : World} {base : Nat} {e : TypeId} {size : Nat} {v : Value} {n : Nat} {xs : List Value} {p o : Nat} {u : Value} (h : w.ownsRow base e size v n xs) (hne : some p ≠ v.ownBlock) : (w.setCell ⟨p, o, none⟩ u).ownsRow base e size v n xs :=
 World.ownsRow.kept h (grown_set w p o u) (.inr (Ne.symm hne))
theorem tne1 : (117 : TypeId) ≠ 109 := by decide
theorem tne2 : (124 : TypeId) ≠ 109 := by decide
theorem tne3 : (121 : TypeId) ≠ 109 := by decide
theorem tne4 : (130 : TypeId) ≠ 109 := by decide
theorem tne5 : (117 : TypeId) ≠ 121 := by decide
theorem tne6 : (117 : TypeId) ≠ 124 := by decide
theorem tne7 : (117 : TypeId) ≠ 130 := by decide
theorem tne8 : (124 : TypeId) ≠ 121 := by decide
theorem tne9 : (124 : TypeId) ≠ 130 := by decide
theorem tne0 : (121 : TypeId) ≠ 130 := by decide
theorem tp_ne {w : World} {p q : Nat} {s t : TypeId} (h : ∃ cs, w.heap[p]? = some (.cells cs s (0, 0))) (h2 : ∃ cs, w.heap[q]? = some (.cells cs t (0, 0))) (hne : s ≠ t) : p ≠ q := by
 rintro rfl
 obtain ⟨c1, h1⟩ := h
 obtain ⟨c2, h2⟩ := h2
 rw [h1] at h2
 injection h2 with h2
 injection h2 with _ h3
 exact hne h3
theorem RdV.more {w : World} {B p : Nat} {rv zv lv : Value} {more : Bool} {R : RelD} {evs : List Value} {K : Nat} (h : RdV w B p rv zv lv more R evs K) : RdV w B p rv zv lv more R evs (K + 1) :=
 { h with ee := fun i z ev h1 h2 => by obtain ⟨a, b, c⟩ := h.ee i z ev h1 h2; exact ⟨a, b, by omega⟩, sz := by have := h.sz; omega }
/-- a rule put behind the others: w1 is behind the append, then the reader's cell is laid. -/
theorem RdV.addRule {w w1 : World} {B p : Nat} {rv zv lv rv' : Value} {more : Bool} {R : RelD} {evs : List Value} {K : Nat} {x : RuleD} (h : RdV w B p rv zv lv more R evs K) (hg : w.grownBy w1 rv.ownBlock)
  (hown : w1.ownsRow B 117 9 rv' (R.rules.length + 1) ((R.rules.map RuleD.cs).flatten ++ x.cs)) (hx : R8 x) : RdV (w1.setCell ⟨p, 0, none⟩ rv') B p rv' zv lv more ⟨R.rules ++ [x], R.zones, R.links⟩ evs (K + 1) := by
 have hpr := sepT h.rr h.tp tne1
 obtain ⟨d0, d1, d2, d3, dt⟩ := h.cells hg hpr
 have hown' : w1.ownsRow B 117 9 rv' (R.rules ++ [x]).length ((R.rules ++ [x]).map RuleD.cs).flatten := by
  rw [List.length_append, List.map_append, List.flatten_append]; simpa using hown
 have kl := World.ownsRow.kept h.ll hg (sep2 h.ll h.rr (Ne.symm tne6))
 have kz := World.ownsRow.kept h.zz hg (sep2 h.zz h.rr (Ne.symm tne5))
 exact {
  c0 := World.cell?_setCell_same _ _ _ d0
  c1 := by rw [World.cell?_setCell_other _ _ _ _ (by simp)]; exact d1
  c2 := by rw [World.cell?_setCell_other _ _ _ _ (by simp)]; exact d2
  c3 := by rw [World.cell?_setCell_other _ _ _ _ (by simp)]; exact d3
  tp := tp_set dt
  hp := h.hp
  rr := kept_set hown' (sepT hown' dt tne1)
  ll := kept_set kl (sepT kl dt tne2)
  zz := kept_set kz (sepT kz dt tne3)
  el := h.el
  ee := fun i z ev h1 h2 => by
   obtain ⟨a, b, c⟩ := h.ee i z ev h1 h2
   have ka := World.ownsRow.kept a hg (sep2 a h.rr (Ne.symm tne7))
   exact ⟨kept_set ka (sepT ka dt tne4), b, by omega⟩
  nd := h.nd
  mo := h.mo
  sz := by have := h.sz; simp only [List.length_append, List.length_cons, List.length_nil]; omega
  sm := ⟨fun y hy => by
   rcases List.mem_append.1 hy with hy | hy
   ·
    exact h.sm.1 y hy
   ·
    simp at hy; subst hy; exact hx, h.sm.2⟩ }
/-- a link put behind the others. -/
theorem RdV.addLink {w w1 : World} {B p : Nat} {rv zv lv lv' : Value} {more : Bool} {R : RelD} {evs : List Value} {K : Nat} {x : LinkD} (h : RdV w B p rv zv lv more R evs K) (hg : w.grownBy w1 lv.ownBlock)
  (hown : w1.ownsRow B 124 2 lv' (R.links.length + 1) ((R.links.map LinkD.cs).flatten ++ x.cs)) (hx : x.to_.size ≤ 8000 ∧ x.name.size ≤ 8000) : RdV (w1.setCell ⟨p, 2, none⟩ lv') B p rv zv lv' more ⟨R.rules, R.zones, R.links ++ [x]⟩ evs (K + 1) := by
 have hpr := sepT h.ll h.tp tne2
 obtain ⟨d0, d1, d2, d3, dt⟩ := h.cells hg hpr
 have hown' : w1.ownsRow B 124 2 lv' (R.links ++ [x]).length ((R.links ++ [x]).map LinkD.cs).flatten := by
  rw [List.length_append, List.map_append, List.flatten_append]; simpa using hown
 have kr := World.ownsRow.kept h.rr hg (sep2 h.rr h.ll tne6)
 have kz := World.ownsRow.kept h.zz hg (sep2 h.zz h.ll (Ne.symm tne8))
 exact {
  c0 := by rw [World.cell?_setCell_other _ _ _ _ (by simp)]; exact d0
  c1 := by rw [World.cell?_setCell_other _ _ _ _ (by simp)]; exact d1
  c2 := World.cell?_setCell_same _ _ _ d2
  c3 := by rw [World.cell?_setCell_other _ _ _ _ (by simp)]; exact d3
  tp := tp_set dt
  hp := h.hp
  rr := kept_set kr (sepT kr dt tne1)
  ll := kept_set hown' (sepT hown' dt tne2)
  zz := kept_set kz (sepT kz dt tne3)
  el := h.el
  ee := fun i z ev h1 h2 => by
   obtain ⟨a, b, c⟩ := h.ee i z ev h1 h2
   have ka := World.ownsRow.kept a hg (sep2 a h.ll (Ne.symm tne9))
   exact ⟨kept_set ka (sepT ka dt tne4), b, by omega⟩
  nd := h.nd
  mo := h.mo
  sz := by have := h.sz; simp only [List.length_append, List.length_cons, List.length_nil]; omega
  sm := ⟨h.sm.1, h.sm.2.1, fun y hy => by
   rcases List.mem_append.1 hy with hy | hy
   ·
    exact h.sm.2.2 y hy
   ·
    simp at hy; subst hy; exact hx⟩ }
theorem zrows_snoc {zs : List ZoneD} {evs : List Value} {z : ZoneD} {ev : Value} (h : evs.length = zs.length) : zrows (zs ++ [z]) (evs ++ [ev]) = zrows zs evs ++ [[.string z.name, ev]] := by
 unfold zrows
 rw [List.zipWith_append h.symm]; rfl
/-- a zone with one era put behind the others: W is where the era's row is made, w1 behind the append. -/
theorem RdV.addZone {w w1 : World} {B p ge : Nat} {rv zv lv zv' : Value} {more m2 : Bool} {R : RelD} {evs : List Value} {K : Nat} {nm : ByteArray} {E : EraD} (h : RdV w B p rv zv lv more R evs K) (hE : w.ownsRow B 130 6 (.slice (some ⟨ge, 0, none⟩) 1 1) 1 E.cs) (hfr : ∀ (i : Nat) ev, evs[i]? = some ev → ev.ownBlock ≠ some ge) (hg : w.grownBy w1 zv.ownBlock)
  (hown : w1.ownsRow B 121 2 zv' (R.zones.length + 1) ((zrows R.zones evs).flatten ++ [.string nm, .slice (some ⟨ge, 0, none⟩) 1 1])) (hx : nm.size ≤ 8000) (hE8 : E8 E) : RdV ((w1.setCell ⟨p, 1, none⟩ zv').setCell ⟨p, 3, none⟩ (.bool m2)) B p rv zv' lv m2 ⟨R.rules, R.zones ++ [⟨nm, [E]⟩], R.links⟩ (evs ++ [.slice (some ⟨ge, 0, none⟩) 1 1]) (K + 1) := by
 have hpr := sepT h.zz h.tp tne3
 obtain ⟨d0, d1, d2, d3, dt⟩ := h.cells hg hpr
 have hown' : w1.ownsRow B 121 2 zv' (R.zones ++ [(⟨nm, [E]⟩ : ZoneD)]).length (zrows (R.zones ++ [⟨nm, [E]⟩]) (evs ++ [.slice (some ⟨ge, 0, none⟩) 1 1])).flatten := by
  rw [List.length_append, zrows_snoc h.el, List.flatten_append]; simpa using hown
 have kr := World.ownsRow.kept h.rr hg (sep2 h.rr h.zz tne5)
 have kl := World.ownsRow.kept h.ll hg (sep2 h.ll h.zz tne8)
 have kE := World.ownsRow.kept hE hg (sep2 hE h.zz (Ne.symm tne0))
 have dt1 := tp_set (o := 1) (v := zv') dt
 have dt2 := tp_set (o := 3) (v := .bool m2) dt1
 have s2 : ∀ {e : TypeId} {size : Nat} {v : Value} {n : Nat} {xs : List Value}, w1.ownsRow B e size v n xs → e ≠ 109 → ((w1.setCell ⟨p, 1, none⟩ zv').setCell ⟨p, 3, none⟩ (.bool m2)).ownsRow B e size v n xs := fun hh he => kept_set (kept_set hh (sepT hh dt he)) (sepT hh dt he)
 exact {
  c0 := by rw [World.cell?_setCell_other _ _ _ _ (by simp), World.cell?_setCell_other _ _ _ _ (by simp)]; exact d0
  c1 := by rw [World.cell?_setCell_other _ _ _ _ (by simp)]; exact World.cell?_setCell_same _ _ _ d1
  c2 := by rw [World.cell?_setCell_other _ _ _ _ (by simp), World.cell?_setCell_other _ _ _ _ (by simp)]; exact d2
  c3 := World.cell?_setCell_same _ _ _ (u := .bool more) (by rw [World.cell?_setCell_other _ _ _ _ (by simp)]; exact d3)
  tp := dt2
  hp := h.hp
  rr := s2 kr tne1
  ll := s2 kl tne2
  zz := s2 hown' tne3
  el := by simp [h.el]
  ee := fun i z ev h1 h2 => by
   by_cases hi : i < R.zones.length
   ·
    rw [List.getElem?_append_left hi] at h1
    rw [List.getElem?_append_left (by rw [h.el]; exact hi)] at h2
    obtain ⟨a, b, c⟩ := h.ee i z ev h1 h2
    exact ⟨s2 (World.ownsRow.kept a hg (sep2 a h.zz (Ne.symm tne0))) tne4, b, by omega⟩
   ·
    have hl := (List.getElem?_eq_some_iff.mp h1).1
    simp at hl
    obtain rfl : i = R.zones.length := by omega
    rw [List.getElem?_append_right (Nat.le_refl _)] at h1
    rw [List.getElem?_append_right (by rw [h.el]; exact Nat.le_refl _), h.el] at h2
    simp at h1 h2
    subst h1 h2
    exact ⟨by simpa using s2 kE tne4, by simp, by simp⟩
  nd := fun i j ev ev' h1 h2 he => by
   have l1 := (List.getElem?_eq_some_iff.mp h1).1
   have l2 := (List.getElem?_eq_some_iff.mp h2).1
   simp at l1 l2
   by_cases hi : i < evs.length
   ·
    rw [List.getElem?_append_left hi] at h1
    by_cases hj : j < evs.length
    ·
     rw [List.getElem?_append_left hj] at h2
     exact h.nd i j ev ev' h1 h2 he
    ·
     rw [List.getElem?_append_right (by omega)] at h2
     rw [show j - evs.length = 0 by omega] at h2
     simp at h2
     subst h2
     exact absurd he (by simpa [Value.ownBlock] using hfr i ev h1)
   ·
    by_cases hj : j < evs.length
    ·
     rw [List.getElem?_append_left hj] at h2
     rw [List.getElem?_append_right (by omega), show i - evs.length = 0 by omega] at h1
     simp at h1
     subst h1
     exact absurd he.symm (by simpa [Value.ownBlock] using hfr j ev' h2)
    ·
     omega
  mo := fun _ => by simp
  sz := by have := h.sz; simp only [List.length_append, List.length_cons, List.length_nil]; omega
  sm := ⟨h.sm.1, fun z hz => by
   rcases List.mem_append.1 hz with hz | hz
   ·
    exact h.sm.2.1 z hz
   ·
    simp at hz; subst hz; exact ⟨hx, fun e he => by simp at he; subst he; exact hE8⟩, h.sm.2.2⟩ }
end Go.Proofs.YtcelbkmnbjcjhaaGreat
namespace Go.Proofs.YtcelbkmnbjcjhaaGreat
open Go.RowKit Go.Sort

theorem zrows_len : ∀ (zs : List ZoneD) (evs : List Value), evs.length = zs.length → (zrows zs evs).flatten.length = zs.length * 2
 | [], [], _ => rfl
 | z :: zs, e :: es, h => by
  have ih := zrows_len zs es (by simpa using h)
  unfold zrows at *
  simp only [List.zipWith_cons_cons, List.flatten_cons, List.length_append, List.length_cons, List.length_nil, ih]
  omega
 | [], _ :: _, h => by simp at h
 | _ :: _, [], h => by simp at h
theorem zrows_set {zs : List ZoneD} {evs : List Value} {z z' : ZoneD} {ev ev' : Value} (h : evs.length = zs.length) (hn : z'.name = z.name) : (zrows (zs ++ [z]) (evs ++ [ev])).flatten.set (zs.length * 2 + 1) ev' = (zrows (zs ++ [z']) (evs ++ [ev'])).flatten := by
 rw [zrows_snoc h, zrows_snoc h, List.flatten_append, List.flatten_append, hn]
 have hl := zrows_len zs evs h
 rw [List.set_append_right _ _ (by omega), hl, show zs.length * 2 + 1 - zs.length * 2 = 1 by omega]
 rfl
theorem RdV.addEra {w w1 : World} {B p gz cz g1 cap1 H : Nat} {rv lv ev : Value} {more m2 : Bool} {Rs : List RuleD} {Zs : List ZoneD} {Ls : List LinkD} {z : ZoneD} {Es : List Value} {K : Nat} {E : EraD} (h : RdV w B p rv (.slice (some ⟨gz, 0, none⟩) (Zs.length + 1) cz) lv more ⟨Rs, Zs ++ [z], Ls⟩ (Es ++ [ev]) K) (hel : Es.length = Zs.length) (hg : w.grownBy w1 ev.ownBlock)
  (hown : w1.ownsRow B 130 6 (.slice (some ⟨g1, 0, none⟩) (z.eras.length + 1) cap1) (z.eras.length + 1) ((z.eras.map EraD.cs).flatten ++ E.cs)) (hat : ev.ownBlock = some g1 ∨ g1 = H) (hH : w.heap.size = H) (hE8 : E8 E) :
  RdV ((w1.setCell ⟨gz, Zs.length * 2 + 1, none⟩ (.slice (some ⟨g1, 0, none⟩) (z.eras.length + 1) cap1)).setCell ⟨p, 3, none⟩ (.bool m2)) B p rv (.slice (some ⟨gz, 0, none⟩) (Zs.length + 1) cz) lv m2 ⟨Rs, Zs ++ [⟨z.name, z.eras ++ [E]⟩], Ls⟩ (Es ++ [.slice (some ⟨g1, 0, none⟩) (z.eras.length + 1) cap1]) (K + 1) := by
 have hzl : (Zs ++ [z])[Zs.length]? = some z := by simp
 have hel2 : (Es ++ [ev])[Zs.length]? = some ev := by rw [← hel]; simp
 obtain ⟨hev, hev1, hevK⟩ := h.ee Zs.length z ev hzl hel2
 have hpr := sepT hev h.tp tne4
 obtain ⟨d0, d1, d2, d3, dt⟩ := h.cells hg hpr
 have hown' : w1.ownsRow B 130 6 (.slice (some ⟨g1, 0, none⟩) (z.eras.length + 1) cap1) (z.eras ++ [E]).length ((z.eras ++ [E]).map EraD.cs).flatten := by
  rw [List.length_append, List.map_append, List.flatten_append]; simpa using hown
 have hzz : w.ownsRow B 121 2 (.slice (some ⟨gz, 0, none⟩) (Zs.length + 1) cz) (Zs.length + 1) (zrows (Zs ++ [z]) (Es ++ [ev])).flatten := by have := h.zz; simpa using this
 have kr := World.ownsRow.kept h.rr hg (sep2 h.rr hev tne7)
 have kl := World.ownsRow.kept h.ll hg (sep2 h.ll hev tne9)
 have kz := World.ownsRow.kept hzz hg (sep2 hzz hev tne0)
 have hgz : ∃ cur, w1.heap[gz]? = some (.cells cur 121 (0, 0)) := own_at kz rfl
 have hpg : p ≠ gz := tp_ne dt hgz (Ne.symm tne3)
 have kz2 := (World.ownsRow.stored kz (Zs.length * 2 + 1) (.slice (some ⟨g1, 0, none⟩) (z.eras.length + 1) cap1)).1
 rw [zrows_set (z := z) (z' := ⟨z.name, z.eras ++ [E]⟩) hel rfl] at kz2
 have dt1 : ∃ cs, (w1.setCell ⟨gz, Zs.length * 2 + 1, none⟩ (.slice (some ⟨g1, 0, none⟩) (z.eras.length + 1) cap1)).heap[p]? = some (.cells cs 109 (0, 0)) := by
  obtain ⟨cs, hc⟩ := dt
  exact ⟨cs, (heap_setCell_other _ _ p _ (by simpa using hpg)).trans hc⟩
 have s2 : ∀ {e : TypeId} {size : Nat} {v : Value} {n : Nat} {xs : List Value}, w1.ownsRow B e size v n xs → e ≠ 109 → e ≠ 121 → ((w1.setCell ⟨gz, Zs.length * 2 + 1, none⟩ (.slice (some ⟨g1, 0, none⟩) (z.eras.length + 1) cap1)).setCell ⟨p, 3, none⟩ (.bool m2)).ownsRow B e size v n xs := fun hh he hz => kept_set (kept_set hh (sepT hh hgz hz)) (sepT hh dt he)
 have ho : ∀ j x, w1.cell? ⟨p, j, none⟩ = some x → (w1.setCell ⟨gz, Zs.length * 2 + 1, none⟩ (.slice (some ⟨g1, 0, none⟩) (z.eras.length + 1) cap1)).cell? ⟨p, j, none⟩ = some x := fun j x hx => by rw [World.cell?_setCell_other _ _ _ _ (by simp <;> omega)]; exact hx
 have hlast : ∀ (i : Nat) v, Es[i]? = some v → v.ownBlock ≠ some g1 := fun i v hv he => by
  have hl := (List.getElem?_eq_some_iff.mp hv).1
  have hv2 : (Es ++ [ev])[i]? = some v := by rw [List.getElem?_append_left hl]; exact hv
  rcases hat with hh | hh
  ·
   have := h.nd i Zs.length v ev hv2 hel2 (he.trans hh.symm)
   omega
  ·
   have hzi : (Zs ++ [z])[i]? = some Zs[i] := by rw [List.getElem?_append_left (by omega)]; exact List.getElem?_eq_getElem (by omega)
   have := World.ownsRow.lt (h.ee i _ v hzi hv2).1 _ he
   omega
 exact {
  c0 := by rw [World.cell?_setCell_other _ _ _ _ (by simp)]; exact ho 0 _ d0
  c1 := by rw [World.cell?_setCell_other _ _ _ _ (by simp)]; exact ho 1 _ d1
  c2 := by rw [World.cell?_setCell_other _ _ _ _ (by simp)]; exact ho 2 _ d2
  c3 := World.cell?_setCell_same _ _ _ (u := .bool more) (ho 3 _ d3)
  tp := tp_set dt1
  hp := h.hp
  rr := s2 kr tne1 tne5
  ll := s2 kl tne2 tne8
  zz := by have := kept_set (p := p) (o := 3) (u := .bool m2) kz2 (sepT kz2 dt1 tne3); simpa using this
  el := by simp [hel]
  ee := fun i y v h1 h2 => by
   by_cases hi : i < Zs.length
   ·
    have h1' : (Zs ++ [z])[i]? = some y := by rw [List.getElem?_append_left hi] at h1 ⊢; exact h1
    have h2' : (Es ++ [ev])[i]? = some v := by rw [List.getElem?_append_left (by omega)] at h2 ⊢; exact h2
    obtain ⟨a, b, c⟩ := h.ee i y v h1' h2'
    have hne : v.ownBlock ≠ ev.ownBlock := fun e => by have := h.nd i Zs.length v ev h2' hel2 e; omega
    exact ⟨s2 (World.ownsRow.kept a hg (.inr hne)) tne4 (Ne.symm tne0), b, by omega⟩
   ·
    have hl := (List.getElem?_eq_some_iff.mp h1).1
    simp at hl
    obtain rfl : i = Zs.length := by omega
    rw [List.getElem?_append_right (Nat.le_refl _)] at h1
    rw [List.getElem?_append_right (by omega), hel] at h2
    simp at h1 h2
    subst h1 h2
    exact ⟨s2 hown' tne4 (Ne.symm tne0), by simp, by simp; omega⟩
  nd := fun i j v v' h1 h2 he => by
   have l1 := (List.getElem?_eq_some_iff.mp h1).1
   have l2 := (List.getElem?_eq_some_iff.mp h2).1
   simp at l1 l2
   by_cases hi : i < Es.length
   ·
    rw [List.getElem?_append_left hi] at h1
    by_cases hj : j < Es.length
    ·
     rw [List.getElem?_append_left hj] at h2
     exact h.nd i j v v' (by rw [List.getElem?_append_left hi]; exact h1) (by rw [List.getElem?_append_left hj]; exact h2) he
    ·
     rw [List.getElem?_append_right (by omega), show j - Es.length = 0 by omega] at h2
     simp at h2
     subst h2
     exact absurd he (by simpa [Value.ownBlock] using hlast i v h1)
   ·
    by_cases hj : j < Es.length
    ·
     rw [List.getElem?_append_left hj] at h2
     rw [List.getElem?_append_right (by omega), show i - Es.length = 0 by omega] at h1
     simp at h1
     subst h1
     exact absurd he.symm (by simpa [Value.ownBlock] using hlast j v' h2)
    ·
     omega
  mo := fun _ => by simp
  sz := by have := h.sz; simp only [List.length_append, List.length_cons, List.length_nil] at this ⊢; omega
  sm := ⟨h.sm.1, fun y hy => by
   rcases List.mem_append.1 hy with hy | hy
   ·
    exact h.sm.2.1 y (List.mem_append_left _ hy)
   ·
    simp at hy
    subst hy
    have := h.sm.2.1 z (by simp)
    exact ⟨this.1, fun e he => by
     rcases List.mem_append.1 he with he | he
     ·
      exact this.2 e he
     ·
      simp at he; subst he; exact hE8⟩, h.sm.2.2⟩ }
end Go.Proofs.YtcelbkmnbjcjhaaGreat
