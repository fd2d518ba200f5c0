/- Packed: Rd16 Rd17. -/
import Derived.Test.YtcelbkmnbjcjhaaGreatRdCd
import Derived.Test.YtcelbkmnbjcjhaaGreatRightCd
import Derived.Test.YtcelbkmnbjcjhaaGreatRdHd
import Derived.Test.YtcelbkmnbjcjhaaGreatRd1d
namespace Go.Proofs.YtcelbkmnbjcjhaaGreat
open Go.RowKit Go.Sort

theorem rule_lens (l : List RuleD) : ∀ r ∈ l.map RuleD.cs, r.length = 9 := fun r hr => by
 obtain ⟨x, _, rfl⟩ := List.mem_map.1 hr
 rfl
theorem link_lens (l : List LinkD) : ∀ r ∈ l.map LinkD.cs, r.length = 2 := fun r hr => by
 obtain ⟨x, _, rfl⟩ := List.mem_map.1 hr
 rfl
theorem era_lens (l : List EraD) : ∀ r ∈ l.map EraD.cs, r.length = 6 := fun r hr => by
 obtain ⟨x, _, rfl⟩ := List.mem_map.1 hr
 rfl
theorem zrows_lens : ∀ (zs : List ZoneD) (evs : List Value), ∀ r ∈ zrows zs evs, r.length = 2
 | [], _, r, hr => by simp [zrows] at hr
 | _ :: _, [], r, hr => by simp [zrows] at hr
 | z :: zs, e :: es, r, hr => by
  unfold zrows at hr
  simp only [List.zipWith_cons_cons, List.mem_cons] at hr
  rcases hr with rfl | hr
  ·
   rfl
  ·
   exact zrows_lens zs es r hr
theorem zrows_count (zs : List ZoneD) (evs : List Value) (h : evs.length = zs.length) : (zrows zs evs).length = zs.length := by unfold zrows; simp [h]
theorem zrows_get {zs : List ZoneD} {evs : List Value} {i : Nat} {z : ZoneD} {ev : Value} (h1 : zs[i]? = some z) (h2 : evs[i]? = some ev) : (zrows zs evs)[i]? = some [.string z.name, ev] := by
 unfold zrows
 rw [List.getElem?_zipWith, h1, h2]
theorem RdV.rel {w : World} {B p : Nat} {rv zv lv : Value} {more : Bool} {R : RelD} {evs : List Value} {K : Nat} (h : RdV w B p rv zv lv more R evs K) : RelAt w (.agg #[rv, zv, lv]) R := by
 obtain ⟨a, ca, rfl, hA, _⟩ := seq_of_owns (rows := R.rules.map RuleD.cs) (by simpa using h.rr) (rule_lens _)
 obtain ⟨c, cc, rfl, hC, _⟩ := seq_of_owns (rows := R.links.map LinkD.cs) (by simpa using h.ll) (link_lens _)
 obtain ⟨b, cb, rfl, hZ, _⟩ := seq_of_owns (rows := zrows R.zones evs) (by rw [zrows_count _ _ h.el]; exact h.zz) (zrows_lens _ _)
 refine ⟨⟨a, b, c, ca, cb, cc, by simp [zrows_count _ _ h.el], hA, ?_, hC⟩⟩
 rcases hZ with h0 | ⟨g, o, hb, hc⟩
 ·
  left
  have := zrows_count R.zones evs h.el
  rw [h0] at this
  exact List.eq_nil_of_length_eq_zero this.symm
 ·
  right
  refine ⟨g, o, hb, fun i z hz => ?_⟩
  have hl := (List.getElem?_eq_some_iff.mp hz).1
  obtain ⟨ev, hev⟩ : ∃ ev, evs[i]? = some ev := ⟨_, List.getElem?_eq_getElem (by rw [h.el]; exact hl)⟩
  have hrow := zrows_get hz hev
  obtain ⟨he, _, _⟩ := h.ee i z ev hz hev
  obtain ⟨ae, ce, rfl, hE, _⟩ := seq_of_owns (rows := z.eras.map EraD.cs) (by simpa using he) (era_lens _)
  refine ⟨hc i 0 _ _ hrow rfl, _, hc i 1 _ _ hrow rfl, ae, ce, by simp, hE⟩
theorem RdV.okR {w : World} {B p : Nat} {rv zv lv : Value} {more : Bool} {R : RelD} {evs : List Value} {K : Nat} (h : RdV w B p rv zv lv more R evs K) (hK : K ≤ 8001) : R.ok := by
 have hs := h.sz
 refine ⟨⟨by unfold maxLen; omega, fun x hx => (h.sm.1 x hx).ok⟩, ⟨by unfold maxLen; omega, fun z hz => ?_⟩, ⟨by unfold maxLen; omega, fun l hl => ?_⟩⟩
 ·
  obtain ⟨i, hi⟩ := List.getElem?_of_mem hz
  obtain ⟨ev, hev⟩ : ∃ ev, evs[i]? = some ev := ⟨_, List.getElem?_eq_getElem (by rw [h.el]; exact (List.getElem?_eq_some_iff.mp hi).1)⟩
  obtain ⟨_, _, h3⟩ := h.ee i z ev hi hev
  obtain ⟨n1, n2⟩ := h.sm.2.1 z hz
  refine ⟨by unfold maxLen; omega, by unfold maxLen; omega, fun e he => ?_⟩
  obtain ⟨q1, q2, q3⟩ := n2 e he
  unfold EraD.ok maxLen; omega
 ·
  obtain ⟨n1, n2⟩ := h.sm.2.2 l hl
  unfold LinkD.ok maxLen; omega
theorem RdV.smallR {w : World} {B p : Nat} {rv zv lv : Value} {more : Bool} {R : RelD} {evs : List Value} {K : Nat} (h : RdV w B p rv zv lv more R evs K) (hK : K ≤ 8001) : R.small := by
 have hs := h.sz
 refine ⟨by omega, by omega, by omega, fun z hz => ?_⟩
 obtain ⟨i, hi⟩ := List.getElem?_of_mem hz
 obtain ⟨ev, hev⟩ : ∃ ev, evs[i]? = some ev := ⟨_, List.getElem?_eq_getElem (by rw [h.el]; exact (List.getElem?_eq_some_iff.mp hi).1)⟩
 obtain ⟨_, _, h3⟩ := h.ee i z ev hi hev
 omega
end Go.Proofs.YtcelbkmnbjcjhaaGreat
namespace Go.Proofs.YtcelbkmnbjcjhaaGreat
open Go.RowKit Go.Sort

/-- the contract of a line. -/
structure LineC : Prop where
 go : ∀ (B p K b n cap : Nat) (rv zv lv : Value) (more : Bool) (R : RelD) (evs : List Value) (w : World), RdV w B p rv zv lv more R evs K → B ≤ w.heap.size → K ≤ 8001 → (∃ cs, w.heap[b]? = some (.cells cs 9 (0, 0))) → 1 ≤ n → n ≤ 8001 → n ≤ cap → WrdAt w b 0 n →
  Calls Tryz.prog 63 #[.pointer (some ⟨p, 0, none⟩), .slice (some ⟨b, 0, none⟩) n cap] w fun e w' => LineP B p K w e w'
theorem rd_start (w : World) : RdV (w.alloc (.cells #[.slice none 0 0, .slice none 0 0, .slice none 0 0, .bool false] 109)) w.heap.size w.heap.size (.slice none 0 0) (.slice none 0 0) (.slice none 0 0) false ⟨[], [], []⟩ [] 0 where
 c0 := by simp [go_sem]
 c1 := by simp [go_sem]
 c2 := by simp [go_sem]
 c3 := by simp [go_sem]
 tp := ⟨_, heap_alloc_new w _⟩
 hp := Nat.le_refl _
 rr := World.ownsRow_nil _ _ _ _
 ll := World.ownsRow_nil _ _ _ _
 zz := World.ownsRow_nil _ _ _ _
 el := rfl
 ee := fun i z ev h1 h2 => by simp at h1
 nd := fun i j ev ev' h1 h2 _ => by simp at h1
 mo := fun h => by cases h
 sz := ⟨Nat.le_refl _, Nat.le_refl _, Nat.le_refl _⟩
 sm := ⟨fun x hx => by simp at hx, fun x hx => by simp at hx, fun x hx => by simp at hx⟩
/-- what ReleaseRead tells: nothing, or a right release, of one's own. -/
structure RelP (w : World) (e : Ending) (w' : World) : Prop where
 ex : ∃ (rv zv lv : Value) (ln cd : Int), e = .returned (.agg #[rv, zv, lv, .int .i64 ln, .int .i64 cd]) ∧ Below w.heap.size w w' ∧ ((rv = .slice none 0 0 ∧ zv = .slice none 0 0 ∧ lv = .slice none 0 0) ∨ ∃ B p more R evs K, w.heap.size ≤ B ∧ RdV w' B p rv zv lv more R evs K ∧ relB R = true ∧ K ≤ 8001)
def lay5 (W : World) (r : Nat) (rv zv lv : Value) (ln cd : Int) : World := (((((W.setCell ⟨r, 0, none⟩ (rv)).setCell ⟨r, 1, none⟩ (zv)).setCell ⟨r, 2, none⟩ (lv)).setCell ⟨r, 3, none⟩ (.int .i64 ln)).setCell ⟨r, 4, none⟩ (.int .i64 cd))
theorem lay5_at {W : World} {r : Nat} (rv zv lv : Value) (ln cd : Int) (h : ∀ j, j < 5 → ∃ x, W.cell? ⟨r, j, none⟩ = some x) : (lay5 W r rv zv lv ln cd).cell? ⟨r, 0, none⟩ = some (rv) ∧ (lay5 W r rv zv lv ln cd).cell? ⟨r, 1, none⟩ = some (zv) ∧ (lay5 W r rv zv lv ln cd).cell? ⟨r, 2, none⟩ = some (lv) ∧ (lay5 W r rv zv lv ln cd).cell? ⟨r, 3, none⟩ = some (.int .i64 ln) ∧ (lay5 W r rv zv lv ln cd).cell? ⟨r, 4, none⟩ = some (.int .i64 cd) := by
 have o : ∀ (W : World) (i j : Nat) (v x : Value), i ≠ j → W.cell? ⟨r, j, none⟩ = some x → (W.setCell ⟨r, i, none⟩ v).cell? ⟨r, j, none⟩ = some x := fun W i j v x hij hx => by
  rw [World.cell?_setCell_other _ _ _ _ (by simp <;> omega)]; exact hx
 have s : ∀ (W : World) (i : Nat) (v : Value), (∃ x, W.cell? ⟨r, i, none⟩ = some x) → (W.setCell ⟨r, i, none⟩ v).cell? ⟨r, i, none⟩ = some v := fun W i v ⟨x, hx⟩ => World.cell?_setCell_same _ _ _ hx
 obtain ⟨x0, h0⟩ := h 0 (by omega)
 obtain ⟨x1, h1⟩ := h 1 (by omega)
 obtain ⟨x2, h2⟩ := h 2 (by omega)
 obtain ⟨x3, h3⟩ := h 3 (by omega)
 obtain ⟨x4, h4⟩ := h 4 (by omega)
 unfold lay5
 exact ⟨o _ 4 0 _ _ (by omega) (o _ 3 0 _ _ (by omega) (o _ 2 0 _ _ (by omega) (o _ 1 0 _ _ (by omega) (s _ 0 _ ⟨_, h0⟩)))), o _ 4 1 _ _ (by omega) (o _ 3 1 _ _ (by omega) (o _ 2 1 _ _ (by omega) (s _ 1 _ ⟨_, o _ 0 1 _ _ (by omega) (h1)⟩))), o _ 4 2 _ _ (by omega) (o _ 3 2 _ _ (by omega) (s _ 2 _ ⟨_, o _ 1 2 _ _ (by omega) (o _ 0 2 _ _ (by omega) (h2))⟩)), o _ 4 3 _ _ (by omega) (s _ 3 _ ⟨_, o _ 2 3 _ _ (by omega) (o _ 1 3 _ _ (by omega) (o _ 0 3 _ _ (by omega) (h3)))⟩), s _ 4 _ ⟨_, o _ 3 4 _ _ (by omega) (o _ 2 4 _ _ (by omega) (o _ 1 4 _ _ (by omega) (o _ 0 4 _ _ (by omega) (h4))))⟩⟩
theorem lay5_bel {w W : World} {r : Nat} {rv zv lv : Value} {ln cd : Int} (h : Below w.heap.size w W) (hr : w.heap.size ≤ r) : Below w.heap.size w (lay5 W r rv zv lv ln cd) :=
 ((((h.setCell hr _).setCell hr _).setCell hr _).setCell hr _).setCell hr _
/-- a cell below all of the reader's is laid: the reader is as it was. -/
theorem RdV.setBelow {w : World} {B p : Nat} {rv zv lv : Value} {more : Bool} {R : RelD} {evs : List Value} {K : Nat} {r j : Nat} {u : Value} (h : RdV w B p rv zv lv more R evs K) (hr : r < B) : RdV (w.setCell ⟨r, j, none⟩ u) B p rv zv lv more R evs K := by
 have hp := h.hp
 have hc : ∀ i x, w.cell? ⟨p, i, none⟩ = some x → (w.setCell ⟨r, j, none⟩ u).cell? ⟨p, i, none⟩ = some x := fun i x hx => by
  rw [World.cell?_setCell_other _ _ _ _ (by simp <;> omega)]; exact hx
 have hk : ∀ {e : TypeId} {size : Nat} {v : Value} {n : Nat} {xs : List Value}, w.ownsRow B e size v n xs → (w.setCell ⟨r, j, none⟩ u).ownsRow B e size v n xs := fun hh => kept_set hh (fun e => by have := (World.ownsRow.lt hh r e.symm).1; omega)
 exact {
  c0 := hc 0 _ h.c0
  c1 := hc 1 _ h.c1
  c2 := hc 2 _ h.c2
  c3 := hc 3 _ h.c3
  tp := by obtain ⟨cs, hh⟩ := h.tp; exact ⟨cs, (heap_setCell_other _ _ p _ (by simp; omega)).trans hh⟩
  hp := hp
  rr := hk h.rr
  ll := hk h.ll
  zz := hk h.zz
  el := h.el
  ee := fun i z ev h1 h2 => by obtain ⟨a, b⟩ := h.ee i z ev h1 h2; exact ⟨hk a, b⟩
  nd := h.nd
  mo := h.mo
  sz := h.sz
  sm := h.sm }
theorem RdV.lay {w : World} {B p : Nat} {rv zv lv : Value} {more : Bool} {R : RelD} {evs : List Value} {K : Nat} {r : Nat} {a b c : Value} {ln cd : Int} (h : RdV w B p rv zv lv more R evs K) (hr : r < B) : RdV (lay5 w r a b c ln cd) B p rv zv lv more R evs K := by
 unfold lay5
 exact ((((h.setBelow hr).setBelow hr).setBelow hr).setBelow hr).setBelow hr
theorem wrd_of_strs {w : World} {base n K : Nat} {v : Value} (h : Strs w base v n K) (hn : 1 ≤ n) (hK : K ≤ 8000) : ∃ b cap, v = .slice (some ⟨b, 0, none⟩) n cap ∧ n ≤ cap ∧ (∃ cs, w.heap[b]? = some (.cells cs 9 (0, 0))) ∧ WrdAt w b 0 n := by
 obtain ⟨L, rfl, hown, hs⟩ := h.ex
 have hown' := hown
 rcases hown'.2 with ⟨_, h0⟩ | ⟨b, cap, cur, rfl, _, hc, hcap, _⟩
 ·
  omega
 ·
  refine ⟨b, cap, rfl, hcap, ⟨cur, hc⟩, ⟨fun k hk => ?_⟩⟩
  refine ⟨L[k], ?_, Nat.le_trans (hs _ (List.getElem_mem hk)) hK⟩
  rw [Nat.zero_add, hown.cellAt k (by omega), List.getElem?_map, List.getElem?_eq_getElem hk]; rfl
theorem strs_nil {w : World} {base K : Nat} {v : Value} (h : Strs w base v 0 K) : ∃ a c, v = .slice a 0 c := by
 obtain ⟨L, hl, hown, _⟩ := h.ex
 obtain ⟨a, c, hv⟩ := own_shape hown
 rw [hl] at hv
 exact ⟨a, c, hv⟩
set_option maxHeartbeats 2000000 in
theorem rd_Release0 (s : ByteArray) (w : World) (hs : 8000 < s.size) (_hs2 : s.size ≤ 1000000) : Calls Tryz.prog 51 #[.string s] w fun e w' => RelP w e w' := by
 have hB := fun o => (Below.refl w.heap.size w).alloc (Nat.le_refl _) o
 go_enter Tryz.func51, Tryz.ntmps51
 go_wp2
 exact bodyPost_ret (v := .agg #[.slice none 0 0, .slice none 0 0, .slice none 0 0, .int .i64 0, .int .i64 2]) (by simp [results, Tryz.results51, go_sem]) rfl ⟨⟨_, _, _, _, _, rfl, hB _, .inl ⟨rfl, rfl, rfl⟩⟩⟩
set_option maxRecDepth 20000 in
set_option maxHeartbeats 8000000 in
theorem rd_Release1 (hLn : LineC) (s : ByteArray) (w : World) (hs : s.size ≤ 8000) : Calls Tryz.prog 51 #[.string s] w fun e w' => RelP w e w' := by
 have hB0 := fun o => (Below.refl w.heap.size w).alloc (Nat.le_refl _) o
 go_enter Tryz.func51, Tryz.ntmps51
 go_wp2_with fail
 refine (split_rows s _ hs).mono ?_
 rintro e w1 ⟨v, n, rfl, n1, n2, hst, hb1⟩
 obtain ⟨gl, cl, rfl, _, _, hWl⟩ := wrd_of_strs hst n1 (Nat.le_refl _)
 have hbw : Below w.heap.size w w1 := (hB0 _).trans (hb1.mono (by simp))
 have hr : ∀ j, j < 5 → ∃ x, w1.cell? ⟨w.heap.size, j, none⟩ = some x := fun j hj => by
  obtain rfl | rfl | rfl | rfl | rfl : j = 0 ∨ j = 1 ∨ j = 2 ∨ j = 3 ∨ j = 4 := by omega
  all_goals exact ⟨_, bkeep (w1 := w.alloc (.cells #[.slice none 0 0, .slice none 0 0, .slice none 0 0, .int .i64 0, .int .i64 0] 92)) (by simp [go_sem]; rfl) hb1⟩
 have hf : ∀ j, w1.frozen? ⟨w.heap.size, j, none⟩ = false := fun j => ((bcell hb1).2 _ _ (by simp)).trans (by simp [go_sem])
 have hlt : w.heap.size < w1.heap.size := by obtain ⟨x, hx⟩ := hr 0 (by omega); exact World.block_lt_of_cell? _ _ hx
 have HR0 := rd_start w1
 obtain ⟨m, rfl⟩ : ∃ m, n = m + 1 := ⟨n - 1, by omega⟩
 clear hst hb1 hB0
 have HX : Hid (∀ wx, Below w1.heap.size w1 wx → (∀ j, j < 5 → ∃ x, wx.cell? ⟨w.heap.size, j, none⟩ = some x) ∧ ∀ j, wx.frozen? ⟨w.heap.size, j, none⟩ = false) := fun wx hx => ⟨fun j hj => by obtain ⟨x, h⟩ := hr j hj; exact ⟨x, bkeep h hx⟩, fun j => ((bcell hx).2 _ _ hlt).trans (hf j)⟩
 clear hr hf
 go_wp2
 go_loopw [6, 7] (fun i x7 wr => ∃ (k : Nat) (rv zv lv : Value) (more : Bool) (R : RelD) (evs : List Value), k ≤ m ∧ i = .int .i64 k ∧ Hid (RdV wr w1.heap.size w1.heap.size rv zv lv more R evs k) ∧ Below w1.heap.size w1 wr) (fun i _ _ => m - (intOf i).toNat)
 case atStart => exact ⟨0, _, _, _, _, _, _, by omega, rfl, HR0, (Below.refl _ _).alloc (Nat.le_refl _) _⟩
 case round =>
  obtain ⟨k, rv, zv, lv, more, R, evs, hk, rfl, HR, hBr⟩ := hrel
  obtain ⟨wq, hwq⟩ : ∃ x : World, x = wr := ⟨_, rfl⟩
  subst hwq
  have hsz := hBr.size
  by_cases hkm : k < m
  ·
   obtain ⟨t, ht, zt⟩ := (hWl.below hBr).ex k (by omega)
   rw [Nat.zero_add] at ht
   have hki : (k : Int) < (m : Int) := by omega
   go_wp2_with fail
   refine (words_rows t _ zt).mono ?_
   rintro e w3 hP
   obtain ⟨v3, n3, rfl, hn3, hst3, hb3⟩ := hP.ex
   have HR3 : Hid (RdV w3 w1.heap.size w1.heap.size rv zv lv more R evs k) := HR.out.below hb3
   have hB3 : Below w1.heap.size w1 w3 := hBr.trans (hb3.mono hsz)
   clear hP HR ht hBr
   by_cases h30 : n3 = 0
   ·
    subst h30
    obtain ⟨a3, c3, rfl⟩ := strs_nil hst3
    clear hst3
    go_wp2
    go_roundw
    case rel => exact ⟨k + 1, _, _, _, _, _, _, by omega, by go_num, HR3.out.more, hB3⟩
    case measure => simp [intOf]; omega
   ·
    obtain ⟨b3, cap3, rfl, hcp3, tb3, hW3⟩ := wrd_of_strs hst3 (by omega) (Nat.le_refl _)
    have hg3 : (0 : Int) < (n3 : Int) := by omega
    clear hst3
    go_wp2_with fail
    refine (hLn.go w1.heap.size w1.heap.size k b3 n3 cap3 rv zv lv more R evs _ HR3.out hB3.size (by omega) tb3 (by omega) hn3 hcp3 hW3).mono ?_
    rintro e w4 hP
    obtain ⟨ok, rv4, zv4, lv4, more4, R4, evs4, rfl, hR4, hb4⟩ := hP.ex
    have hBx : Below w1.heap.size w1 w4 := hB3.trans hb4
    have HR4 : Hid (RdV w4 w1.heap.size w1.heap.size rv4 zv4 lv4 more4 R4 evs4 (k + 1)) := hR4
    clear hP hR4 hb4 hB3 HR3 hW3 tb3
    cases ok with
    | true =>
     go_wp2
     go_roundw
     case rel => exact ⟨k + 1, _, _, _, _, _, _, by omega, by go_num, HR4, hBx⟩
     case measure => simp [intOf]; omega
    | false =>
     clear HR4
     obtain ⟨hrx, hfx⟩ := HX.out w4 hBx
     obtain ⟨g0, g1, g2, g3, g4⟩ : w4.frozen? ⟨w.heap.size, 0, none⟩ = false ∧ w4.frozen? ⟨w.heap.size, 1, none⟩ = false ∧ w4.frozen? ⟨w.heap.size, 2, none⟩ = false ∧ w4.frozen? ⟨w.heap.size, 3, none⟩ = false ∧ w4.frozen? ⟨w.heap.size, 4, none⟩ = false := ⟨hfx 0, hfx 1, hfx 2, hfx 3, hfx 4⟩
     obtain ⟨y0, d0⟩ := hrx 0 (by omega)
     obtain ⟨y1, d1⟩ := hrx 1 (by omega)
     obtain ⟨y2, d2⟩ := hrx 2 (by omega)
     obtain ⟨y3, d3⟩ := hrx 3 (by omega)
     obtain ⟨y4, d4⟩ := hrx 4 (by omega)
     have ht := lay5_at (W := w4) (r := w.heap.size) (.slice none 0 0) (.slice none 0 0) (.slice none 0 0) ((k : Int)) (3) hrx
     have hbl := lay5_bel (W := w4) (r := w.heap.size) (rv := .slice none 0 0) (zv := .slice none 0 0) (lv := .slice none 0 0) (ln := (k : Int)) (cd := 3) (below3 hbw (hBx.mono (Nat.le_refl _))) (Nat.le_refl _)
     have HQ : Hid (RelP w (.returned (.agg #[.slice none 0 0, .slice none 0 0, .slice none 0 0, .int .i64 (k : Int), .int .i64 3])) (lay5 w4 w.heap.size (.slice none 0 0) (.slice none 0 0) (.slice none 0 0) (k : Int) 3)) := ⟨⟨_, _, _, _, _, rfl, hbl, .inl ⟨rfl, rfl, rfl⟩⟩⟩
     unfold lay5 at ht HQ
     obtain ⟨t0, t1, t2, t3, t4⟩ := ht
     clear hrx hfx hbl
     go_wp2
     exact bodyPost_ret (v := .agg #[.slice none 0 0, .slice none 0 0, .slice none 0 0, .int .i64 (k : Int), .int .i64 3]) (by simp [results, Tryz.results51, go_sem, t0, t1, t2, t3, t4]) rfl HQ.out
  ·
   obtain rfl : k = m := by omega
   obtain ⟨t, ht, zt⟩ := (hWl.below hBr).ex k (by omega)
   rw [Nat.zero_add] at ht
   have hki : ¬ (k : Int) < (k : Int) := by omega
   have hBx := hBr
   cases hx : t.toList.isEmpty with
   | false =>
    clear HR
    obtain ⟨hrx, hfx⟩ := HX.out wq hBx
    obtain ⟨g0, g1, g2, g3, g4⟩ : wq.frozen? ⟨w.heap.size, 0, none⟩ = false ∧ wq.frozen? ⟨w.heap.size, 1, none⟩ = false ∧ wq.frozen? ⟨w.heap.size, 2, none⟩ = false ∧ wq.frozen? ⟨w.heap.size, 3, none⟩ = false ∧ wq.frozen? ⟨w.heap.size, 4, none⟩ = false := ⟨hfx 0, hfx 1, hfx 2, hfx 3, hfx 4⟩
    obtain ⟨y0, d0⟩ := hrx 0 (by omega)
    obtain ⟨y1, d1⟩ := hrx 1 (by omega)
    obtain ⟨y2, d2⟩ := hrx 2 (by omega)
    obtain ⟨y3, d3⟩ := hrx 3 (by omega)
    obtain ⟨y4, d4⟩ := hrx 4 (by omega)
    have ht := lay5_at (W := wq) (r := w.heap.size) (.slice none 0 0) (.slice none 0 0) (.slice none 0 0) ((k : Int)) (3) hrx
    have hbl := lay5_bel (W := wq) (r := w.heap.size) (rv := .slice none 0 0) (zv := .slice none 0 0) (lv := .slice none 0 0) (ln := (k : Int)) (cd := 3) (below3 hbw (hBx.mono (Nat.le_refl _))) (Nat.le_refl _)
    have HQ : Hid (RelP w (.returned (.agg #[.slice none 0 0, .slice none 0 0, .slice none 0 0, .int .i64 (k : Int), .int .i64 3])) (lay5 wq w.heap.size (.slice none 0 0) (.slice none 0 0) (.slice none 0 0) (k : Int) 3)) := ⟨⟨_, _, _, _, _, rfl, hbl, .inl ⟨rfl, rfl, rfl⟩⟩⟩
    unfold lay5 at ht HQ
    obtain ⟨t0, t1, t2, t3, t4⟩ := ht
    clear hrx hfx hbl
    go_wp2
    exact bodyPost_ret (v := .agg #[.slice none 0 0, .slice none 0 0, .slice none 0 0, .int .i64 (k : Int), .int .i64 3]) (by simp [results, Tryz.results51, go_sem, t0, t1, t2, t3, t4]) rfl HQ.out
   | true =>
    have c3 := HR.out.c3
    cases more with
    | true =>
     clear HR
     obtain ⟨hrx, hfx⟩ := HX.out wq hBx
     obtain ⟨g0, g1, g2, g3, g4⟩ : wq.frozen? ⟨w.heap.size, 0, none⟩ = false ∧ wq.frozen? ⟨w.heap.size, 1, none⟩ = false ∧ wq.frozen? ⟨w.heap.size, 2, none⟩ = false ∧ wq.frozen? ⟨w.heap.size, 3, none⟩ = false ∧ wq.frozen? ⟨w.heap.size, 4, none⟩ = false := ⟨hfx 0, hfx 1, hfx 2, hfx 3, hfx 4⟩
     obtain ⟨y0, d0⟩ := hrx 0 (by omega)
     obtain ⟨y1, d1⟩ := hrx 1 (by omega)
     obtain ⟨y2, d2⟩ := hrx 2 (by omega)
     obtain ⟨y3, d3⟩ := hrx 3 (by omega)
     obtain ⟨y4, d4⟩ := hrx 4 (by omega)
     have ht := lay5_at (W := wq) (r := w.heap.size) (.slice none 0 0) (.slice none 0 0) (.slice none 0 0) ((k : Int)) (3) hrx
     have hbl := lay5_bel (W := wq) (r := w.heap.size) (rv := .slice none 0 0) (zv := .slice none 0 0) (lv := .slice none 0 0) (ln := (k : Int)) (cd := 3) (below3 hbw (hBx.mono (Nat.le_refl _))) (Nat.le_refl _)
     have HQ : Hid (RelP w (.returned (.agg #[.slice none 0 0, .slice none 0 0, .slice none 0 0, .int .i64 (k : Int), .int .i64 3])) (lay5 wq w.heap.size (.slice none 0 0) (.slice none 0 0) (.slice none 0 0) (k : Int) 3)) := ⟨⟨_, _, _, _, _, rfl, hbl, .inl ⟨rfl, rfl, rfl⟩⟩⟩
     unfold lay5 at ht HQ
     obtain ⟨t0, t1, t2, t3, t4⟩ := ht
     clear hrx hfx hbl
     go_wp2
     exact bodyPost_ret (v := .agg #[.slice none 0 0, .slice none 0 0, .slice none 0 0, .int .i64 (k : Int), .int .i64 3]) (by simp [results, Tryz.results51, go_sem, t0, t1, t2, t3, t4]) rfl HQ.out
    | false =>
     obtain ⟨ra, ca, hrv⟩ := own_shape HR.out.rr
     obtain ⟨za, cz, hzv⟩ := own_shape HR.out.zz
     obtain ⟨la, cl2, hlv⟩ := own_shape HR.out.ll
     subst hrv hzv hlv
     obtain ⟨na, hna⟩ : ∃ x, R.rules.length = x := ⟨_, rfl⟩
     obtain ⟨nz, hnz⟩ : ∃ x, R.zones.length = x := ⟨_, rfl⟩
     obtain ⟨nl, hnl⟩ : ∃ x, R.links.length = x := ⟨_, rfl⟩
     rw [hna, hnz, hnl] at HR
     have c0 := HR.out.c0
     have c1 := HR.out.c1
     have c2 := HR.out.c2
     have hRR := fun (w : World) (h : RelAt w (.agg #[.slice ra na ca, .slice za nz cz, .slice la nl cl2]) R) => spec_ReleaseRight R _ w h (HR.out.okR (by omega)) (HR.out.smallR (by omega)) (fun x hx => by have := (HR.out.sm.1 x hx).2.1; omega)
     have hAt := HR.out.rel
     clear hna hnz hnl
     cases hrb : relB R with
     | false =>
      rw [hrb] at hRR
      clear hrb
      go_wp2_with fail
      refine (hRR _ hAt).mono ?_
      rintro e w5 ⟨rfl, hb5⟩
      clear hBx
      have hBx : Below w1.heap.size w1 w5 := hBr.trans (hb5.mono hsz)
      clear HR hRR hAt hb5
      obtain ⟨hrx, hfx⟩ := HX.out w5 hBx
      obtain ⟨g0, g1, g2, g3, g4⟩ : w5.frozen? ⟨w.heap.size, 0, none⟩ = false ∧ w5.frozen? ⟨w.heap.size, 1, none⟩ = false ∧ w5.frozen? ⟨w.heap.size, 2, none⟩ = false ∧ w5.frozen? ⟨w.heap.size, 3, none⟩ = false ∧ w5.frozen? ⟨w.heap.size, 4, none⟩ = false := ⟨hfx 0, hfx 1, hfx 2, hfx 3, hfx 4⟩
      obtain ⟨y0, d0⟩ := hrx 0 (by omega)
      obtain ⟨y1, d1⟩ := hrx 1 (by omega)
      obtain ⟨y2, d2⟩ := hrx 2 (by omega)
      obtain ⟨y3, d3⟩ := hrx 3 (by omega)
      obtain ⟨y4, d4⟩ := hrx 4 (by omega)
      have ht := lay5_at (W := w5) (r := w.heap.size) (.slice none 0 0) (.slice none 0 0) (.slice none 0 0) ((k : Int)) (1) hrx
      have hbl := lay5_bel (W := w5) (r := w.heap.size) (rv := .slice none 0 0) (zv := .slice none 0 0) (lv := .slice none 0 0) (ln := (k : Int)) (cd := 1) (below3 hbw (hBx.mono (Nat.le_refl _))) (Nat.le_refl _)
      have HQ : Hid (RelP w (.returned (.agg #[.slice none 0 0, .slice none 0 0, .slice none 0 0, .int .i64 (k : Int), .int .i64 1])) (lay5 w5 w.heap.size (.slice none 0 0) (.slice none 0 0) (.slice none 0 0) (k : Int) 1)) := ⟨⟨_, _, _, _, _, rfl, hbl, .inl ⟨rfl, rfl, rfl⟩⟩⟩
      unfold lay5 at ht HQ
      obtain ⟨t0, t1, t2, t3, t4⟩ := ht
      clear hrx hfx hbl
      go_wp2
      exact bodyPost_ret (v := .agg #[.slice none 0 0, .slice none 0 0, .slice none 0 0, .int .i64 (k : Int), .int .i64 1]) (by simp [results, Tryz.results51, go_sem, t0, t1, t2, t3, t4]) rfl HQ.out
     | true =>
      have Hrb : Hid (relB R = true) := hrb
      rw [hrb] at hRR
      clear hrb
      go_wp2_with fail
      refine (hRR _ hAt).mono ?_
      rintro e w5 ⟨rfl, hb5⟩
      clear hBx
      have hBx : Below w1.heap.size w1 w5 := hBr.trans (hb5.mono hsz)
      have HR5 : Hid (RdV w5 w1.heap.size w1.heap.size (.slice ra na ca) (.slice za nz cz) (.slice la nl cl2) false R evs k) := HR.out.below hb5
      have c0 := HR5.out.c0
      have c1 := HR5.out.c1
      have c2 := HR5.out.c2
      have hrb := Hrb.out
      clear HR hRR hAt hb5
      obtain ⟨hrx, hfx⟩ := HX.out w5 hBx
      obtain ⟨g0, g1, g2, g3, g4⟩ : w5.frozen? ⟨w.heap.size, 0, none⟩ = false ∧ w5.frozen? ⟨w.heap.size, 1, none⟩ = false ∧ w5.frozen? ⟨w.heap.size, 2, none⟩ = false ∧ w5.frozen? ⟨w.heap.size, 3, none⟩ = false ∧ w5.frozen? ⟨w.heap.size, 4, none⟩ = false := ⟨hfx 0, hfx 1, hfx 2, hfx 3, hfx 4⟩
      obtain ⟨y0, d0⟩ := hrx 0 (by omega)
      obtain ⟨y1, d1⟩ := hrx 1 (by omega)
      obtain ⟨y2, d2⟩ := hrx 2 (by omega)
      obtain ⟨y3, d3⟩ := hrx 3 (by omega)
      obtain ⟨y4, d4⟩ := hrx 4 (by omega)
      have ht := lay5_at (W := w5) (r := w.heap.size) (.slice ra na ca) (.slice za nz cz) (.slice la nl cl2) (0) (0) hrx
      have hbl := lay5_bel (W := w5) (r := w.heap.size) (rv := .slice ra na ca) (zv := .slice za nz cz) (lv := .slice la nl cl2) (ln := 0) (cd := 0) (below3 hbw (hBx.mono (Nat.le_refl _))) (Nat.le_refl _)
      have HQ : Hid (RelP w (.returned (.agg #[.slice ra na ca, .slice za nz cz, .slice la nl cl2, .int .i64 0, .int .i64 0])) (lay5 w5 w.heap.size (.slice ra na ca) (.slice za nz cz) (.slice la nl cl2) 0 0)) := ⟨⟨_, _, _, _, _, rfl, hbl, .inr ⟨_, _, _, _, _, _, Nat.le_of_lt hlt, HR5.out.lay hlt, hrb, by omega⟩⟩⟩
      clear hrb
      unfold lay5 at ht HQ
      obtain ⟨t0, t1, t2, t3, t4⟩ := ht
      clear hrx hfx hbl
      go_wp2
      exact bodyPost_ret (v := .agg #[.slice ra na ca, .slice za nz cz, .slice la nl cl2, .int .i64 0, .int .i64 0]) (by simp [results, Tryz.results51, go_sem, t0, t1, t2, t3, t4]) rfl HQ.out
theorem rd_Release (hLn : LineC) (s : ByteArray) (w : World) (hs : s.size ≤ 1000000) : Calls Tryz.prog 51 #[.string s] w fun e w' => RelP w e w' := by
 by_cases h : s.size ≤ 8000
 ·
  exact rd_Release1 hLn s w h
 ·
  exact rd_Release0 s w (by omega) hs
end Go.Proofs.YtcelbkmnbjcjhaaGreat
