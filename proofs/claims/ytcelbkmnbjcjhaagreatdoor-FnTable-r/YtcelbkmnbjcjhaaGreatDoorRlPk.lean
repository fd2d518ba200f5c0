/- Packed: Rl1 Sm1 Rl2. -/
import Derived.Test.YtcelbkmnbjcjhaaGreatDoorRdGk
import Derived.Test.YtcelbkmnbjcjhaaGreatDoorRdCk
import Derived.Test.YtcelbkmnbjcjhaaGreatDoorDrPk
import Derived.Test.YtcelbkmnbjcjhaaGreatDoorTbQk
import Derived.Test.YtcelbkmnbjcjhaaGreatDoorHeldPk
namespace Go.Proofs.YtcelbkmnbjcjhaaGreatDoor
open Go.RowKit Go.Sort

structure RlV (w : World) (B : Nat) (rv zv lv : Value) (R : RelD) (evs : List Value) : Prop where
 rr : w.ownsRow B 90 9 rv R.rules.length (R.rules.map RuleD.cs).flatten
 ll : w.ownsRow B 88 2 lv R.links.length (R.links.map LinkD.cs).flatten
 zz : w.ownsRow B 49 2 zv R.zones.length (zrows R.zones evs).flatten
 el : evs.length = R.zones.length
 ee : ∀ (i : Nat) z ev, R.zones[i]? = some z → evs[i]? = some ev → w.ownsRow B 55 6 ev z.eras.length (z.eras.map EraD.cs).flatten ∧ 1 ≤ z.eras.length ∧ z.eras.length ≤ 9000
 sz : R.rules.length ≤ 9001 ∧ R.zones.length ≤ 9001 ∧ R.links.length ≤ 9001
 sm : (∀ x ∈ R.rules, R8 x) ∧ (∀ z ∈ R.zones, z.name.size ≤ 8000 ∧ ∀ e ∈ z.eras, E8 e) ∧ ∀ l ∈ R.links, l.to_.size ≤ 8000 ∧ l.name.size ≤ 8000
structure RelG (w : World) (v : Value) (R : RelD) : Prop where
 at_ : RelAt w v R
 ok : R.ok
 small : R.small
 on : ∀ x ∈ R.rules, x.on.size ≤ 1048576
theorem RelG.below {w w' : World} {v : Value} {R : RelD} (h : RelG w v R) (hb : Below w.heap.size w w') : RelG w' v R := ⟨h.at_.below hb, h.ok, h.small, h.on⟩
section
variable {w w1 : World} {B : Nat} {rv zv lv : Value} {R : RelD} {evs : List Value}

theorem RdV.rl {p : Nat} {more : Bool} {K : Nat} (h : RdV w B p rv zv lv more R evs K) (hK : K ≤ 8001) : RlV w B rv zv lv R evs :=
 ⟨h.rr, h.ll, h.zz, h.el, fun i z ev h1 h2 => by obtain ⟨a, b, c⟩ := h.ee i z ev h1 h2; exact ⟨a, b, by omega⟩, by have := h.sz; omega, h.sm⟩
theorem rl_nil (w : World) (B : Nat) : RlV w B (.slice none 0 0) (.slice none 0 0) (.slice none 0 0) ⟨[], [], []⟩ [] :=
 ⟨World.ownsRow_nil _ _ _ _, World.ownsRow_nil _ _ _ _, World.ownsRow_nil _ _ _ _, rfl, fun i z ev h1 h2 => by simp at h1, ⟨Nat.zero_le _, Nat.zero_le _, Nat.zero_le _⟩, ⟨fun x hx => by simp at hx, fun x hx => by simp at hx, fun x hx => by simp at hx⟩⟩
theorem rel_parts (rr : w.ownsRow B 90 9 rv R.rules.length (R.rules.map RuleD.cs).flatten) (ll : w.ownsRow B 88 2 lv R.links.length (R.links.map LinkD.cs).flatten) (zz : w.ownsRow B 49 2 zv R.zones.length (zrows R.zones evs).flatten) (el : evs.length = R.zones.length)
  (ee : ∀ (i : Nat) z ev, R.zones[i]? = some z → evs[i]? = some ev → w.ownsRow B 55 6 ev z.eras.length (z.eras.map EraD.cs).flatten ∧ 1 ≤ z.eras.length ∧ z.eras.length ≤ 9000) (sz : R.rules.length ≤ 9001 ∧ R.zones.length ≤ 9001 ∧ R.links.length ≤ 9001)
  (sm : (∀ x ∈ R.rules, R8 x) ∧ (∀ z ∈ R.zones, z.name.size ≤ 8000 ∧ ∀ e ∈ z.eras, E8 e) ∧ ∀ l ∈ R.links, l.to_.size ≤ 8000 ∧ l.name.size ≤ 8000) : RelG w (.agg #[rv, zv, lv]) R := by
 have hE : ∀ z ∈ R.zones, z.eras.length ≤ 9000 := fun z hz => by
  obtain ⟨i, hi⟩ := List.getElem?_of_mem hz
  obtain ⟨ev, hev⟩ : ∃ ev, evs[i]? = some ev := ⟨_, List.getElem?_eq_getElem (by rw [el]; exact (List.getElem?_eq_some_iff.mp hi).1)⟩
  exact (ee i z ev hi hev).2.2
 refine ⟨?_, ⟨⟨by unfold maxLen; omega, fun x hx => (sm.1 x hx).ok⟩, ⟨by unfold maxLen; omega, fun z hz => ?_⟩, ⟨by unfold maxLen; omega, fun l hl => ?_⟩⟩, ⟨by omega, by omega, by omega, fun z hz => by have := hE z hz; omega⟩, fun x hx => by have := (sm.1 x hx).2.1; omega⟩
 ·
  obtain ⟨a, ca, rfl, hA, _⟩ := seq_of_owns (rows := R.rules.map RuleD.cs) (by simpa using rr) (rule_lens _)
  obtain ⟨c, cc, rfl, hC, _⟩ := seq_of_owns (rows := R.links.map LinkD.cs) (by simpa using ll) (link_lens _)
  obtain ⟨b, cb, rfl, hZ, _⟩ := seq_of_owns (rows := zrows R.zones evs) (by rw [zrows_count _ _ el]; exact zz) (zrows_lens _ _)
  refine ⟨⟨a, b, c, ca, cb, cc, by simp [zrows_count _ _ el], hA, ?_, hC⟩⟩
  rcases hZ with h0 | ⟨g, o, hb, hc⟩
  ·
   left
   have := zrows_count R.zones evs el
   rw [h0] at this
   exact List.eq_nil_of_length_eq_zero this.symm
  ·
   right
   refine ⟨g, o, hb, fun i z hz => ?_⟩
   have hl := (List.getElem?_eq_some_iff.mp hz).1
   obtain ⟨ev, hev⟩ : ∃ ev, evs[i]? = some ev := ⟨_, List.getElem?_eq_getElem (by rw [el]; exact hl)⟩
   have hrow := zrows_get hz hev
   obtain ⟨he, _, _⟩ := ee i z ev hz hev
   obtain ⟨ae, ce, rfl, hE, _⟩ := seq_of_owns (rows := z.eras.map EraD.cs) (by simpa using he) (era_lens _)
   refine ⟨hc i 0 _ _ hrow rfl, _, hc i 1 _ _ hrow rfl, ae, ce, by simp, hE⟩
 ·
  obtain ⟨n1, n2⟩ := sm.2.1 z hz
  have := hE z hz
  refine ⟨by unfold maxLen; omega, by unfold maxLen; omega, fun e he => ?_⟩
  obtain ⟨q1, q2, q3⟩ := n2 e he
  unfold EraD.ok maxLen; omega
 ·
  obtain ⟨n1, n2⟩ := sm.2.2 l hl
  unfold LinkD.ok maxLen; omega
theorem RlV.good (h : RlV w B rv zv lv R evs) : RelG w (.agg #[rv, zv, lv]) R := rel_parts h.rr h.ll h.zz h.el h.ee h.sz h.sm
theorem RlV.with {w' : World} (h : RlV w B rv zv lv R evs) (hk : ∀ {e : TypeId} {size : Nat} {v : Value} {n : Nat} {xs : List Value}, w.ownsRow B e size v n xs → w'.ownsRow B e size v n xs) : RlV w' B rv zv lv R evs :=
 ⟨hk h.rr, hk h.ll, hk h.zz, h.el, fun i z ev h1 h2 => by obtain ⟨a, b⟩ := h.ee i z ev h1 h2; exact ⟨hk a, b⟩, h.sz, h.sm⟩
theorem RlV.below (h : RlV w B rv zv lv R evs) (hb : Below w.heap.size w w1) : RlV w1 B rv zv lv R evs := h.with fun hh => owns_below hh hb
theorem sep_low {p : Nat} {e : TypeId} {size : Nat} {v : Value} {n : Nat} {xs : List Value} (h : w.ownsRow B e size v n xs) (hp : p < B) : v.ownBlock = none ∨ v.ownBlock ≠ some p := by
 cases e : v.ownBlock with
 | none => exact .inl rfl
 | some g => right; intro e2; have := (World.ownsRow.lt h g e).1; injection e2 with e2; omega
theorem RlV.grown {p : Nat} (h : RlV w B rv zv lv R evs) (hg : w.grownBy w1 (some p)) (hp : p < B) : RlV w1 B rv zv lv R evs := h.with fun hh => World.ownsRow.kept hh hg (sep_low hh hp)
theorem RlV.setLow {r j : Nat} {u : Value} (h : RlV w B rv zv lv R evs) (hr : r < B) : RlV (w.setCell ⟨r, j, none⟩ u) B rv zv lv R evs := h.grown (grown_set w r j u) hr
theorem RlV.mono {C : Nat} (h : RlV w B rv zv lv R evs) (hC : C ≤ B) : RlV w C rv zv lv R evs :=
 ⟨owns_mono h.rr hC, owns_mono h.ll hC, owns_mono h.zz hC, h.el, fun i z ev h1 h2 => by obtain ⟨a, b⟩ := h.ee i z ev h1 h2; exact ⟨owns_mono a hC, b⟩, h.sz, h.sm⟩
theorem owns_some {e : TypeId} {size : Nat} {v : Value} {n : Nat} {xs : List Value} (h : w.ownsRow B e size v n xs) (hn : 0 < n) : ∃ g c, v = .slice (some ⟨g, 0, none⟩) n c ∧ B ≤ g ∧ g < w.heap.size := by
 rcases h.2 with ⟨_, h0⟩ | ⟨g, c, cur, hv, hb, hg, _⟩
 ·
  omega
 ·
  exact ⟨g, c, hv, hb, (Array.getElem?_eq_some_iff.1 hg).1⟩
theorem RlV.rule0 {g n c j : Nat} {x x' : RuleD} {rs : List RuleD} {zs : List ZoneD} {ls : List LinkD} {u : Value} (h : RlV w B (.slice (some ⟨g, 0, none⟩) n c) zv lv ⟨x :: rs, zs, ls⟩ evs) (hn : n = rs.length + 1) (hj : j < 9) (hx : x.cs.set j u = x'.cs) (h8 : R8 x') :
  RlV (w.setCell ⟨g, j, none⟩ u) B (.slice (some ⟨g, 0, none⟩) n c) zv lv ⟨x' :: rs, zs, ls⟩ evs := by
 subst hn
 have h0 : w.ownsRow B 90 9 (.slice (some ⟨g, 0, none⟩) (rs.length + 1) c) (rs.length + 1) ((x :: rs).map RuleD.cs).flatten := h.rr
 obtain ⟨s1, hg⟩ := World.ownsRow.stored h0 j u
 have hg' : w.grownBy (w.setCell ⟨g, j, none⟩ u) (Value.slice (some ⟨g, 0, none⟩) (rs.length + 1) c).ownBlock := hg
 refine ⟨?_, World.ownsRow.kept h.ll hg' (sep2 h.ll h0 (Ne.symm tne6)), World.ownsRow.kept h.zz hg' (sep2 h.zz h0 (Ne.symm tne5)), h.el, fun i z ev h1 h2 => ?_, h.sz, ⟨fun y hy => ?_, h.sm.2⟩⟩
 ·
  have e1 : (((x :: rs).map RuleD.cs).flatten).set j u = ((x' :: rs).map RuleD.cs).flatten := by
   simp only [List.map_cons, List.flatten_cons]
   rw [List.set_append_left _ _ (by show j < 9; exact hj), hx]
  rw [e1] at s1
  exact s1
 ·
  obtain ⟨a, b⟩ := h.ee i z ev h1 h2
  exact ⟨World.ownsRow.kept a hg' (sep2 a h0 (Ne.symm tne7)), b⟩
 ·
  rcases List.mem_cons.1 hy with rfl | hy
  ·
   exact h8
  ·
   exact h.sm.1 y (List.mem_cons_of_mem _ hy)
theorem RlV.era0 {g n c j : Nat} {x x' : EraD} {es : List EraD} {nm : ByteArray} {rs : List RuleD} {zs : List ZoneD} {ls : List LinkD} {es' : List Value} {u : Value} (h : RlV w B rv zv lv ⟨rs, ⟨nm, x :: es⟩ :: zs, ls⟩ (.slice (some ⟨g, 0, none⟩) n c :: es')) (nd : ∀ (i j : Nat) ev ev', (.slice (some ⟨g, 0, none⟩) n c :: es')[i]? = some ev → (.slice (some ⟨g, 0, none⟩) n c :: es')[j]? = some ev' → ev.ownBlock = ev'.ownBlock → i = j) (hn : n = es.length + 1) (hj : j < 6) (hx : x.cs.set j u = x'.cs) (h8 : E8 x') :
  RlV (w.setCell ⟨g, j, none⟩ u) B rv zv lv ⟨rs, ⟨nm, x' :: es⟩ :: zs, ls⟩ (.slice (some ⟨g, 0, none⟩) n c :: es') := by
 subst hn
 obtain ⟨h0, _, hle⟩ := h.ee 0 ⟨nm, x :: es⟩ _ rfl rfl
 have h0 : w.ownsRow B 55 6 (.slice (some ⟨g, 0, none⟩) (es.length + 1) c) (es.length + 1) ((x :: es).map EraD.cs).flatten := h0
 obtain ⟨s1, hg⟩ := World.ownsRow.stored h0 j u
 have hg' : w.grownBy (w.setCell ⟨g, j, none⟩ u) (Value.slice (some ⟨g, 0, none⟩) (es.length + 1) c).ownBlock := hg
 refine ⟨World.ownsRow.kept h.rr hg' (sep2 h.rr h0 tne7), World.ownsRow.kept h.ll hg' (sep2 h.ll h0 tne9), World.ownsRow.kept h.zz hg' (sep2 h.zz h0 tne0), h.el, fun i z ev h1 h2 => ?_, h.sz, ⟨h.sm.1, fun z hz => ?_, h.sm.2.2⟩⟩
 ·
  cases i with
  | zero =>
   simp at h1 h2
   subst h1 h2
   have e1 : (((x :: es).map EraD.cs).flatten).set j u = ((x' :: es).map EraD.cs).flatten := by
    simp only [List.map_cons, List.flatten_cons]
    rw [List.set_append_left _ _ (by show j < 6; exact hj), hx]
   rw [e1] at s1
   exact ⟨s1, by simp, hle⟩
  | succ i =>
   obtain ⟨a, b⟩ := h.ee (i + 1) z ev (by simpa using h1) (by simpa using h2)
   refine ⟨World.ownsRow.kept a hg' (.inr fun e => ?_), b⟩
   have := nd (i + 1) 0 ev _ (by simpa using h2) rfl e
   omega
 ·
  rcases List.mem_cons.1 hz with rfl | hz
  ·
   obtain ⟨a, b⟩ := h.sm.2.1 ⟨nm, x :: es⟩ (by simp)
   refine ⟨a, fun e he => ?_⟩
   rcases List.mem_cons.1 he with rfl | he
   ·
    exact h8
   ·
    exact b e (List.mem_cons_of_mem _ he)
  ·
   exact h.sm.2.1 z (List.mem_cons_of_mem _ hz)
theorem RlV.link {lv' : Value} {x : LinkD} (h : RlV w B rv zv lv R evs) (hl : R.links.length < 9001) (hg : w.grownBy w1 lv.ownBlock) (hown : w1.ownsRow B 88 2 lv' (R.links.length + 1) ((R.links.map LinkD.cs).flatten ++ x.cs)) (hx : x.to_.size ≤ 8000 ∧ x.name.size ≤ 8000) :
  RlV w1 B rv zv lv' ⟨R.rules, R.zones, R.links ++ [x]⟩ evs := by
 refine ⟨World.ownsRow.kept h.rr hg (sep2 h.rr h.ll tne6), ?_, World.ownsRow.kept h.zz hg (sep2 h.zz h.ll (Ne.symm tne8)), h.el, fun i z ev h1 h2 => ?_, ?_, ⟨h.sm.1, h.sm.2.1, fun y hy => ?_⟩⟩
 ·
  show w1.ownsRow B 88 2 lv' (R.links ++ [x]).length ((R.links ++ [x]).map LinkD.cs).flatten
  rw [List.length_append, List.map_append, List.flatten_append]; simpa using hown
 ·
  obtain ⟨a, b⟩ := h.ee i z ev h1 h2
  exact ⟨World.ownsRow.kept a hg (sep2 a h.ll (Ne.symm tne9)), b⟩
 ·
  have := h.sz
  simp only [List.length_append, List.length_cons, List.length_nil]
  omega
 ·
  rcases List.mem_append.1 hy with hy | hy
  ·
   exact h.sm.2.2 y hy
  ·
   simp at hy; subst hy; exact hx
theorem RlV.zone {zv' ev : Value} {z : ZoneD} {rs : List RuleD} {zs : List ZoneD} {ls : List LinkD} {es' : List Value} (h : RlV w B rv zv lv ⟨rs, z :: zs, ls⟩ (ev :: es')) (hl : zs.length + 1 < 9001) (hg : w.grownBy w1 zv.ownBlock) (hown : w1.ownsRow B 49 2 zv' (zs.length + 1 + 1) ((zrows (z :: zs) (ev :: es')).flatten ++ [.string z.name, ev])) :
  RlV w1 B rv zv' lv ⟨rs, z :: zs ++ [z], ls⟩ (ev :: es' ++ [ev]) := by
 have hel := h.el
 have hel2 : es'.length = zs.length := by simpa using hel
 refine ⟨World.ownsRow.kept h.rr hg (sep2 h.rr h.zz tne5), World.ownsRow.kept h.ll hg (sep2 h.ll h.zz tne8), ?_, by simp [hel2], fun i y e h1 h2 => ?_, ?_, ⟨h.sm.1, fun y hy => ?_, h.sm.2.2⟩⟩
 ·
  show w1.ownsRow B 49 2 zv' (z :: zs ++ [z]).length (zrows (z :: zs ++ [z]) (ev :: es' ++ [ev])).flatten
  rw [zrows_snoc hel, List.flatten_append, List.length_append]
  simpa using hown
 ·
  have hk : ∀ (k : Nat) q f, (z :: zs)[k]? = some q → (ev :: es')[k]? = some f → w1.ownsRow B 55 6 f q.eras.length (q.eras.map EraD.cs).flatten ∧ 1 ≤ q.eras.length ∧ q.eras.length ≤ 9000 := fun k q f hq hf => by
   obtain ⟨a, b⟩ := h.ee k q f hq hf
   exact ⟨World.ownsRow.kept a hg (sep2 a h.zz (Ne.symm tne0)), b⟩
  have h1 : (z :: zs ++ [z])[i]? = some y := h1
  by_cases hi : i < (z :: zs).length
  ·
   rw [List.getElem?_append_left hi] at h1
   rw [List.getElem?_append_left (by rw [hel]; exact hi)] at h2
   exact hk i y e h1 h2
  ·
   have hl := (List.getElem?_eq_some_iff.mp h1).1
   rw [List.length_append] at hl
   have e0 : i = (z :: zs).length := by simp only [List.length_cons, List.length_nil] at hl hi ⊢; omega
   rw [e0, List.getElem?_append_right (Nat.le_refl _)] at h1
   rw [e0, List.getElem?_append_right (by rw [hel]; exact Nat.le_refl _), hel] at h2
   simp at h1 h2
   subst h1 h2
   exact hk 0 z ev rfl rfl
 ·
  have := h.sz
  simp only [List.length_append, List.length_cons, List.length_nil] at this ⊢
  omega
 ·
  have hy : y ∈ z :: zs ++ [z] := hy
  rcases List.mem_append.1 hy with hy | hy
  ·
   exact h.sm.2.1 y hy
  ·
   simp at hy; subst hy; exact h.sm.2.1 y (by simp)
end
theorem RelP.rl {w w' : World} {e : Ending} (h : RelP w e w') : ∃ (rv zv lv : Value) (ln cd : Int) (R : RelD) (evs : List Value) (B : Nat), e = .returned (.agg #[rv, zv, lv, .int .i64 ln, .int .i64 cd]) ∧ Below w.heap.size w w' ∧ w.heap.size ≤ B ∧ B ≤ w'.heap.size ∧ RlV w' B rv zv lv R evs ∧ (∀ (i j : Nat) ev ev', evs[i]? = some ev → evs[j]? = some ev' → ev.ownBlock = ev'.ownBlock → i = j) ∧ R.rules.length ≤ 8001 ∧ R.zones.length ≤ 8001 ∧ R.links.length ≤ 8001 := by
 obtain ⟨rv, zv, lv, ln, cd, he, hb, h⟩ := h.ex
 rcases h with ⟨rfl, rfl, rfl⟩ | ⟨B, p, more, R, evs, K, hB, hR, _, hK⟩
 ·
  exact ⟨_, _, _, ln, cd, ⟨[], [], []⟩, [], w.heap.size, he, hb, Nat.le_refl _, hb.size, rl_nil _ _, fun i j ev ev' h1 => by simp at h1, Nat.zero_le _, Nat.zero_le _, Nat.zero_le _⟩
 ·
  have := hR.sz
  exact ⟨rv, zv, lv, ln, cd, R, evs, B, he, hb, hB, Nat.le_of_lt (Nat.lt_of_le_of_lt hR.hp (World.block_lt_of_cell? _ _ hR.c0)), hR.rl hK, hR.nd, by omega, by omega, by omega⟩
end Go.Proofs.YtcelbkmnbjcjhaaGreatDoor
namespace Go.Proofs.YtcelbkmnbjcjhaaGreatDoor
open Go.RowKit

section
variable {p : Nat} {a : Option Addr} {len cap : Nat} {zs : List Int} {w W W1 : World} {N : Nat} {tv : Value} {T : List TurnD}

theorem SrcAt.fr {S : Nat → Prop} (h : SrcAt p a len cap zs W) (hF : Fr S W W1) (hS : ∀ b, b ≤ p → ¬ S b) : SrcAt p a len cap zs W1 := by
 have hp := h.lt
 obtain ⟨k, mix, sz, k1, wm, ws, c0, c1, c2, c3, hf, hrow, hl, hz⟩ := h
 have np := hS p (Nat.le_refl _)
 refine ⟨k, mix, sz, k1, wm, ws, hF.cell np c0, hF.cell np c1, hF.cell np c2, hF.cell np c3, fun i hi => by rw [hF.frozen hp np]; exact hf i hi, ?_, hl, hz⟩
 rcases hrow with h | ⟨b, o, ha, hne, hc⟩
 ·
  exact .inl h
 ·
  refine .inr ⟨b, o, ha, hne, fun i hi => ?_⟩
  obtain ⟨z, h, z0, z1⟩ := hc i hi
  exact ⟨z, hF.cell (hS b (by omega)) h, z0, z1⟩
end
end Go.Proofs.YtcelbkmnbjcjhaaGreatDoor
namespace Go.Proofs.YtcelbkmnbjcjhaaGreatDoor
open Go.RowKit Go.Sort

theorem tneR : (90 : TypeId) ≠ 27 ∧ (88 : TypeId) ≠ 27 ∧ (49 : TypeId) ≠ 27 ∧ (55 : TypeId) ≠ 27 := by decide
structure RlAt (p : Nat) (a : Option Addr) (len cap : Nat) (zs : List Int) (w : World) (q B : Nat) (rv zv lv : Value) (R : RelD) (evs : List Value) (W : World) : Prop where
 src : SrcAt p a len cap zs W
 grow : w.grownBy W (some p)
 c0 : W.cell? ⟨q, 0, none⟩ = some rv
 c1 : W.cell? ⟨q, 1, none⟩ = some zv
 c2 : W.cell? ⟨q, 2, none⟩ = some lv
 tp : ∃ cs, W.heap[q]? = some (.cells cs 27 (0, 0))
 r0 : W.cell? ⟨w.heap.size, 0, none⟩ = some (.slice none 0 0)
 r1 : W.cell? ⟨w.heap.size, 1, none⟩ = some (.slice none 0 0)
 r2 : W.cell? ⟨w.heap.size, 2, none⟩ = some (.slice none 0 0)
 rt : ∃ cs, W.heap[w.heap.size]? = some (.cells cs 27 (0, 0))
 rl : RlV W B rv zv lv R evs
 hB : w.heap.size < B
 hq : w.heap.size < q
 hp : p < w.heap.size
 hW : B ≤ W.heap.size
structure RlP (p : Nat) (a : Option Addr) (len cap : Nat) (zs : List Int) (w : World) (e : Ending) (w' : World) : Prop where
 ex : ∃ (rv zv lv : Value) (R : RelD) (evs : List Value), e = .returned (.agg #[rv, zv, lv]) ∧ RlV w' (w.heap.size + 1) rv zv lv R evs ∧ SrcAt p a len cap zs w' ∧ w.grownBy w' (some p)
section
variable {p : Nat} {a : Option Addr} {len cap : Nat} {zs : List Int} {w W W1 : World} {q B : Nat} {rv zv lv : Value} {R : RelD} {evs : List Value}

theorem RlAt.lt (h : RlAt p a len cap zs w q B rv zv lv R evs W) : q < W.heap.size := World.block_lt_of_cell? _ _ h.c0
theorem RlAt.far {row : Option Nat} (h : RlAt p a len cap zs w q B rv zv lv R evs W) (hS : SrcAt p a len cap zs W1) (hg : W.grownBy W1 row) (h1 : row ≠ some q) (h2 : row ≠ some w.heap.size) (h3 : ∀ k, k < w.heap.size → some k ≠ some p → row ≠ some k) {R' : RelD} {evs' : List Value} {rv' zv' lv' : Value} (rl : RlV W1 B rv' zv' lv' R' evs') :
  SrcAt p a len cap zs W1 ∧ w.grownBy W1 (some p) ∧ W1.cell? ⟨q, 0, none⟩ = some rv ∧ W1.cell? ⟨q, 1, none⟩ = some zv ∧ W1.cell? ⟨q, 2, none⟩ = some lv ∧ (∃ cs, W1.heap[q]? = some (.cells cs 27 (0, 0))) ∧ W1.cell? ⟨w.heap.size, 0, none⟩ = some (.slice none 0 0) ∧ W1.cell? ⟨w.heap.size, 1, none⟩ = some (.slice none 0 0) ∧ W1.cell? ⟨w.heap.size, 2, none⟩ = some (.slice none 0 0) ∧ (∃ cs, W1.heap[w.heap.size]? = some (.cells cs 27 (0, 0))) ∧ RlV W1 B rv' zv' lv' R' evs' := by
 have hlt := h.lt
 have hq := h.hq
 refine ⟨hS, ?_, hg.cell (a := ⟨q, 0, none⟩) h.c0 (Ne.symm h1), hg.cell (a := ⟨q, 1, none⟩) h.c1 (Ne.symm h1), hg.cell (a := ⟨q, 2, none⟩) h.c2 (Ne.symm h1), ?_, hg.cell (a := ⟨w.heap.size, 0, none⟩) h.r0 (Ne.symm h2), hg.cell (a := ⟨w.heap.size, 1, none⟩) h.r1 (Ne.symm h2), hg.cell (a := ⟨w.heap.size, 2, none⟩) h.r2 (Ne.symm h2), ?_, rl⟩
 ·
  refine ⟨hg.os.trans h.grow.os, hg.tape.trans h.grow.tape, hg.output.trans h.grow.output, Nat.le_trans h.grow.size hg.size, fun k hk hne => ?_⟩
  rw [hg.block k (by omega) (Ne.symm (h3 k hk hne))]
  exact h.grow.block k hk hne
 ·
  obtain ⟨cs, hc⟩ := h.tp
  exact ⟨cs, (hg.block q hlt (Ne.symm h1)).trans hc⟩
 ·
  obtain ⟨cs, hc⟩ := h.rt
  exact ⟨cs, (hg.block w.heap.size (by omega) (Ne.symm h2)).trans hc⟩
theorem RlAt.drawn (h : RlAt p a len cap zs w q B rv zv lv R evs W) (hS : SrcAt p a len cap zs W1) (hg : W.grownBy W1 (some p)) : RlAt p a len cap zs w q B rv zv lv R evs W1 := by
 have hp := h.hp
 have hq := h.hq
 have hB := h.hB
 obtain ⟨a1, _, a3, a4, a5, a6, a7, a8, a9, b1, b2⟩ := h.far hS hg (by intro e; injection e with e; omega) (by intro e; injection e with e; omega) (fun k _ hne => Ne.symm hne) (h.rl.grown hg (by omega))
 exact ⟨a1, h.grow.trans hg, a3, a4, a5, a6, a7, a8, a9, b1, b2, hB, hq, hp, Nat.le_trans h.hW hg.size⟩
theorem RlAt.below (h : RlAt p a len cap zs w q B rv zv lv R evs W) (hb : Below W.heap.size W W1) : RlAt p a len cap zs w q B rv zv lv R evs W1 := by
 have hg := World.grownBy_of_below hb none
 obtain ⟨a1, a2, a3, a4, a5, a6, a7, a8, a9, b1, b2⟩ := h.far (h.src.grown hb) hg (by simp) (by simp) (fun _ _ _ => by simp) (h.rl.below hb)
 exact ⟨a1, a2, a3, a4, a5, a6, a7, a8, a9, b1, b2, h.hB, h.hq, h.hp, Nat.le_trans h.hW hg.size⟩
theorem RlAt.alloc (h : RlAt p a len cap zs w q B rv zv lv R evs W) (o : Obj) : RlAt p a len cap zs w q B rv zv lv R evs (W.alloc o) := h.below ((Below.refl _ _).alloc (Nat.le_refl _) o)
theorem RlAt.drew (h : RlAt p a len cap zs w q B rv zv lv R evs W) : RlAt p a len cap zs w q B rv zv lv R evs W.drew := h.below (below_drew W)
theorem RlAt.srcFar {row : Option Nat} (h : RlAt p a len cap zs w q B rv zv lv R evs W) (hg : W.grownBy W1 row) (hr : ∀ g, row = some g → B ≤ g) : SrcAt p a len cap zs W1 :=
 h.src.fr (Fr.of_grown hg) fun b hb e => by have := hr b e; have := h.hB; have := h.hp; omega
theorem RlAt.row {g : Nat} (h : RlAt p a len cap zs w q B rv zv lv R evs W) (hg : W.grownBy W1 (some g)) (hgB : B ≤ g) (hgq : g ≠ q) {R' : RelD} (rl : RlV W1 B rv zv lv R' evs) : RlAt p a len cap zs w q B rv zv lv R' evs W1 := by
 have hB := h.hB
 obtain ⟨a1, a2, a3, a4, a5, a6, a7, a8, a9, b1, b2⟩ := h.far (h.srcFar hg fun k e => by injection e with e; omega) hg (by intro e; injection e with e; omega) (by intro e; injection e with e; omega) (fun k hk _ e => by injection e with e; omega) rl
 exact ⟨a1, a2, a3, a4, a5, a6, a7, a8, a9, b1, b2, h.hB, h.hq, h.hp, Nat.le_trans h.hW hg.size⟩
theorem RlAt.rowNe {e : TypeId} {size g : Nat} {v : Value} {n : Nat} {xs : List Value} (h : RlAt p a len cap zs w q B rv zv lv R evs W) (ho : W.ownsRow B e size v n xs) (he : e ≠ 27) (hv : v.ownBlock = some g) : B ≤ g ∧ g ≠ q := by
 refine ⟨(World.ownsRow.lt ho g hv).1, fun e1 => ?_⟩
 subst e1
 exact sepT ho h.tp he hv.symm
theorem RlAt.cell {row : Option Nat} {j : Nat} {u : Value} (h : RlAt p a len cap zs w q B rv zv lv R evs W) (hg : W.grownBy W1 row) (hr : ∀ g, row = some g → B ≤ g ∧ g ≠ q) {R' : RelD} {evs' : List Value} {rv' zv' lv' : Value} (rl : RlV W1 B rv' zv' lv' R' evs')
  (hj : (j = 1 ∧ rv' = rv ∧ zv' = u ∧ lv' = lv) ∨ (j = 2 ∧ rv' = rv ∧ zv' = zv ∧ lv' = u)) : RlAt p a len cap zs w q B rv' zv' lv' R' evs' (W1.setCell ⟨q, j, none⟩ u) := by
 have hB := h.hB
 have hp := h.hp
 have hq := h.hq
 obtain ⟨a1, a2, a3, a4, a5, a6, a7, a8, a9, b1, b2⟩ := h.far (h.srcFar hg fun k e => (hr k e).1) hg (fun e => (hr q e).2 rfl) (fun e => by have := (hr _ e).1; omega) (fun k hk _ e => by have := (hr _ e).1; omega) rl
 have hs := grown_set W1 q j u
 have hk : ∀ {e : TypeId} {size : Nat} {v : Value} {n : Nat} {xs : List Value}, W1.ownsRow B e size v n xs → e ≠ 27 → (W1.setCell ⟨q, j, none⟩ u).ownsRow B e size v n xs := fun hh he => kept_set hh (sepT hh a6 he)
 have hlow : ∀ i x, W1.cell? ⟨w.heap.size, i, none⟩ = some x → (W1.setCell ⟨q, j, none⟩ u).cell? ⟨w.heap.size, i, none⟩ = some x := fun i x hx => hs.cell (a := ⟨w.heap.size, i, none⟩) hx (by intro e; injection e with e; simp at e; omega)
 refine ⟨a1.fr (Fr.of_grown hs) fun b hb e => by injection e with e; omega, ?_, ?_, ?_, ?_, tp_set a6, hlow 0 _ a7, hlow 1 _ a8, hlow 2 _ a9, ?_, ?_, hB, hq, hp, Nat.le_trans h.hW (Nat.le_trans hg.size hs.size)⟩
 ·
  refine ⟨hs.os.trans a2.os, hs.tape.trans a2.tape, hs.output.trans a2.output, Nat.le_trans a2.size hs.size, fun k hk hne => ?_⟩
  rw [hs.block k (Nat.lt_of_lt_of_le hk a2.size) (by intro e; injection e with e; omega)]
  exact a2.block k hk hne
 ·
  rcases hj with ⟨rfl, e1, e2, e3⟩ | ⟨rfl, e1, e2, e3⟩ <;> (rw [World.cell?_setCell_other _ _ _ _ (by simp), e1]; exact a3)
 ·
  rcases hj with ⟨rfl, e1, e2, e3⟩ | ⟨rfl, e1, e2, e3⟩
  ·
   rw [e2]; exact World.cell?_setCell_same _ _ _ a4
  ·
   rw [World.cell?_setCell_other _ _ _ _ (by simp), e2]; exact a4
 ·
  rcases hj with ⟨rfl, e1, e2, e3⟩ | ⟨rfl, e1, e2, e3⟩
  ·
   rw [World.cell?_setCell_other _ _ _ _ (by simp), e3]; exact a5
  ·
   rw [e3]; exact World.cell?_setCell_same _ _ _ a5
 ·
  obtain ⟨cs, hc⟩ := b1
  exact ⟨cs, (heap_setCell_other _ _ w.heap.size _ (by simp; omega)).trans hc⟩
 ·
  exact ⟨hk b2.rr tneR.1, hk b2.ll tneR.2.1, hk b2.zz tneR.2.2.1, b2.el, fun i z ev h1 h2 => by obtain ⟨x, y⟩ := b2.ee i z ev h1 h2; exact ⟨hk x tneR.2.2.2, y⟩, b2.sz, b2.sm⟩
theorem RlAt.done (h : RlAt p a len cap zs w q B rv zv lv R evs W) : RlP p a len cap zs w (.returned (.agg #[rv, zv, lv])) (((W.setCell ⟨w.heap.size, 0, none⟩ rv).setCell ⟨w.heap.size, 1, none⟩ zv).setCell ⟨w.heap.size, 2, none⟩ lv) ∧
  (((W.setCell ⟨w.heap.size, 0, none⟩ rv).setCell ⟨w.heap.size, 1, none⟩ zv).setCell ⟨w.heap.size, 2, none⟩ lv).cell? ⟨w.heap.size, 0, none⟩ = some rv ∧ (((W.setCell ⟨w.heap.size, 0, none⟩ rv).setCell ⟨w.heap.size, 1, none⟩ zv).setCell ⟨w.heap.size, 2, none⟩ lv).cell? ⟨w.heap.size, 1, none⟩ = some zv ∧ (((W.setCell ⟨w.heap.size, 0, none⟩ rv).setCell ⟨w.heap.size, 1, none⟩ zv).setCell ⟨w.heap.size, 2, none⟩ lv).cell? ⟨w.heap.size, 2, none⟩ = some lv := by
 have hB := h.hB
 have hp := h.hp
 have s0 : W.grownBy (W.setCell ⟨w.heap.size, 0, none⟩ rv) (some w.heap.size) := grown_set W w.heap.size 0 rv
 have s1 : (W.setCell ⟨w.heap.size, 0, none⟩ rv).grownBy ((W.setCell ⟨w.heap.size, 0, none⟩ rv).setCell ⟨w.heap.size, 1, none⟩ zv) (some w.heap.size) := grown_set _ w.heap.size 1 zv
 have s2 : ((W.setCell ⟨w.heap.size, 0, none⟩ rv).setCell ⟨w.heap.size, 1, none⟩ zv).grownBy (((W.setCell ⟨w.heap.size, 0, none⟩ rv).setCell ⟨w.heap.size, 1, none⟩ zv).setCell ⟨w.heap.size, 2, none⟩ lv) (some w.heap.size) := grown_set _ w.heap.size 2 lv
 have s3 := (s0.trans s1).trans s2
 refine ⟨⟨rv, zv, lv, R, evs, rfl, (h.rl.grown s3 hB).mono hB, h.src.fr (Fr.of_grown s3) (fun b hb e => by injection e with e; omega), ?_⟩, ?_, ?_, ?_⟩
 ·
  refine ⟨s3.os.trans h.grow.os, s3.tape.trans h.grow.tape, s3.output.trans h.grow.output, Nat.le_trans h.grow.size s3.size, fun k hk hne => ?_⟩
  rw [s3.block k (Nat.lt_of_lt_of_le hk h.grow.size) (by intro e; injection e with e; omega)]
  exact h.grow.block k hk hne
 ·
  rw [World.cell?_setCell_other _ _ _ _ (by simp), World.cell?_setCell_other _ _ _ _ (by simp)]; exact World.cell?_setCell_same _ _ _ h.r0
 ·
  rw [World.cell?_setCell_other _ _ _ _ (by simp)]; refine World.cell?_setCell_same _ _ _ (u := .slice none 0 0) ?_; rw [World.cell?_setCell_other _ _ _ _ (by simp)]; exact h.r1
 ·
  refine World.cell?_setCell_same _ _ _ (u := .slice none 0 0) ?_; rw [World.cell?_setCell_other _ _ _ _ (by simp), World.cell?_setCell_other _ _ _ _ (by simp)]; exact h.r2
theorem RlAt.start {w1 w2 : World} (hS : SrcAt p a len cap zs w) (S1 : SrcAt p a len cap zs w1) (g1 : (w.alloc (.cells #[.slice none 0 0, .slice none 0 0, .slice none 0 0] 27)).grownBy w1 (some p)) (b2 : Below w1.heap.size w1 w2) (hB : w1.heap.size ≤ B) (hW : B ≤ w2.heap.size) (hR : RlV w2 B rv zv lv R evs) : RlAt p a len cap zs w w2.heap.size B rv zv lv R evs (w2.alloc (.cells #[rv, zv, lv] 27)) := by
 have hp := hS.lt
 have z1 : w.heap.size + 1 ≤ w1.heap.size := by have := g1.size; simpa using this
 have z2 := b2.size
 have b3 : Below w2.heap.size w2 (w2.alloc (.cells #[rv, zv, lv] 27)) := (Below.refl _ _).alloc (Nat.le_refl _) _
 have hc : ∀ j, j < 3 → (w2.alloc (.cells #[rv, zv, lv] 27)).cell? ⟨w.heap.size, j, none⟩ = some (.slice none 0 0) := fun j hj => by
  have c : (w.alloc (.cells #[.slice none 0 0, .slice none 0 0, .slice none 0 0] 27)).cell? ⟨w.heap.size, j, none⟩ = some (.slice none 0 0) := by
   obtain rfl | rfl | rfl : j = 0 ∨ j = 1 ∨ j = 2 := by omega
   all_goals simp [go_sem]
  exact keepC b3 (keepC b2 (g1.cell (a := ⟨w.heap.size, j, none⟩) c (by intro e; injection e with e; simp at e; omega)))
 refine ⟨(S1.grown b2).grown b3, ?_, by simp [go_sem], by simp [go_sem], by simp [go_sem], ⟨_, heap_alloc_new w2 _⟩, hc 0 (by omega), hc 1 (by omega), hc 2 (by omega), ?_, hR.below b3, by omega, by omega, hp, by simp; omega⟩
 ·
  exact (((World.grownBy_alloc w _ (some p)).trans g1).trans (World.grownBy_of_below b2 _)).trans (World.grownBy_of_below b3 _)
 ·
  refine ⟨_, (b3.block w.heap.size (by omega)).trans ((b2.block w.heap.size (by omega)).trans ((g1.block w.heap.size (by simp) (by intro e; injection e with e; omega)).trans (heap_alloc_new w _)))⟩
end
end Go.Proofs.YtcelbkmnbjcjhaaGreatDoor
