/- Packed: Map1 Map2. -/
import Derived.Test.YtbbhpfobcelbfaaGreatDoorOwn1t
import Derived.Maps.Own
import Derived.BigRegion
import Derived.Deep.RegionLaw
import Derived.Deep.RegionHeld3
namespace Go.Proofs.YtbbhpfobcelbfaaGreatDoor
open Go.RowKit Go.ChangeMaps Go.MapKept Go.WideMaps

theorem toList_injM {s t : ByteArray} (h : s.toList = t.toList) : s = t := by
  rw [ByteArray.toList_eq, ByteArray.toList_eq] at h
  cases s; cases t; congr; exact Array.toList_inj.mp h
def OwnsRl (w : World) (base : Nat) (v : Value) (l : List RuleD) : Prop := w.ownsRow base 120 9 v l.length (l.map RuleD.cs).flatten
def ofName (l : List RuleD) (nm : ByteArray) : List RuleD := l.filter fun x => x.name.toList == nm.toList
theorem ofName_same (l : List RuleD) (x : RuleD) : ofName (l ++ [x]) x.name = ofName l x.name ++ [x] := by
  unfold ofName
  rw [List.filter_append]
  simp
theorem ofName_other {l : List RuleD} {x : RuleD} {nm : ByteArray} (h : nm ≠ x.name) : ofName (l ++ [x]) nm = ofName l nm := by
  unfold ofName
  rw [List.filter_append]
  have e : (x.name.toList == nm.toList) = false := by
    rw [beq_eq_false_iff_ne]
    exact fun e => h (toList_injM e).symm
  simp [e]
/-- entries: by each name its rules, in rows of their own. -/
structure MapE (w : World) (base : Nat) (l : List RuleD) (es : List MapEntry) : Prop where
  each : ∀ x ∈ es, ∃ nm, x.key = .string nm ∧ nm.size ≤ maxLen ∧ OwnsRl w base x.val (ofName l nm)
  none : ∀ nm, (∀ x ∈ es, x.key ≠ .string nm) → ofName l nm = []
  apart : ∀ (i j : Nat) (x y : MapEntry), i ≠ j → es[i]? = some x → es[j]? = some y → x.key ≠ y.key ∧ (x.val.ownBlock = .none ∨ x.val.ownBlock ≠ y.val.ownBlock)
/-- a block that is a map of rules by their names. -/
def MapR (w : World) (base b : Nat) (l : List RuleD) : Prop := ∃ es clock, w.heap[b]? = some (.map es clock) ∧ b < base ∧ MapE w base l es.toList
theorem mapR_made (w : World) : MapR (w.alloc (.map #[] 0)) (w.heap.size + 1) w.heap.size [] :=
  ⟨#[], 0, (MapKept.heap_alloc w _).1, Nat.lt_succ_self _, ⟨fun x hx => by simp at hx, fun _ _ => rfl, fun i j x y _ hx => by simp at hx⟩⟩
theorem MapR.lt {w : World} {base b : Nat} {l : List RuleD} (h : MapR w base b l) : b < w.heap.size := by
  obtain ⟨es, clock, hb, _⟩ := h
  exact (Array.getElem?_eq_some_iff.1 hb).1
theorem MapR.kept {w w' : World} {base b : Nat} {l : List RuleD} (h : MapR w base b l) (hg : w.grownBy w' none) : MapR w' base b l := by
  have hlt := h.lt
  obtain ⟨es, clock, hb, hbb, hE⟩ := h
  refine ⟨es, clock, (hg.block b hlt (by simp)).trans hb, hbb, ⟨fun x hx => ?_, hE.none, hE.apart⟩⟩
  obtain ⟨nm, h1, h2, h3⟩ := hE.each x hx
  exact ⟨nm, h1, h2, h3.kept hg (by cases x.val.ownBlock <;> simp)⟩
theorem MapR.below {w w' : World} {base b : Nat} {l : List RuleD} (h : MapR w base b l) (hb : Below w.heap.size w w') : MapR w' base b l := h.kept ⟨hb.os, hb.tape, hb.output, hb.size, fun k hk _ => hb.block k hk⟩
theorem mapE_put {w w1 w2 : World} {base b : Nat} {l : List RuleD} {es es' : List MapEntry} {x : RuleD} {v v' : Value} {j : Nat} {e' : MapEntry} (hE : MapE w base l es) (hbb : b < base)
    (hg : w.grownBy w1 v.ownBlock) (hg2 : w1.grownBy w2 (some b)) (hn : x.name.size ≤ maxLen) (hv' : OwnsRl w1 base v' (ofName l x.name ++ [x])) (hloc : v'.ownBlock = v.ownBlock ∨ ∃ g, v'.ownBlock = some g ∧ w.heap.size ≤ g)
    (h1 : es'[j]? = some e') (hk : e'.key = .string x.name) (hval : e'.val = v') (h2 : ∀ i, i ≠ j → es'[i]? = es[i]?) (h3 : ∀ i y, i ≠ j → es[i]? = some y → y.key ≠ .string x.name ∧ (y.val.ownBlock = none ∨ y.val.ownBlock ≠ v.ownBlock))
    (h4 : ∀ y, es[j]? = some y → y.key = .string x.name) : MapE w2 base (l ++ [x]) es' := by
  have nb : ∀ {u : Value} {z : List RuleD}, OwnsRl w1 base u z → u.ownBlock = none ∨ u.ownBlock ≠ some b := fun {u z} ho => by
    cases hu : u.ownBlock with
    | none => exact .inl rfl
    | some g =>
      refine .inr fun e => ?_
      have := (World.ownsRow.lt ho g hu).1
      cases e
      omega
  have old : ∀ i y, i ≠ j → es[i]? = some y → y.val.ownBlock = none ∨ y.val.ownBlock ≠ v'.ownBlock := fun i y hi hy => by
    rcases hloc with e | ⟨g, e, hge⟩
    · rw [e]; exact (h3 i y hi hy).2
    · cases hyb : y.val.ownBlock with
      | none => exact .inl rfl
      | some gy =>
        obtain ⟨nm, _, _, ho⟩ := hE.each y (List.mem_of_getElem? hy)
        have := (World.ownsRow.lt ho gy hyb).2
        refine .inr fun e1 => ?_
        rw [e] at e1
        cases e1
        omega
  refine ⟨fun y hy => ?_, fun nm hnm => ?_, fun i k p q hik hp hq => ?_⟩
  · obtain ⟨i, hi⟩ := List.getElem?_of_mem hy
    by_cases hij : i = j
    · subst hij
      rw [h1] at hi
      cases hi
      exact ⟨x.name, hk, hn, by rw [ofName_same, hval]; exact World.ownsRow.kept hv' hg2 (nb hv')⟩
    · rw [h2 i hij] at hi
      obtain ⟨nm, c1, c2, c3⟩ := hE.each y (List.mem_of_getElem? hi)
      obtain ⟨d1, d2⟩ := h3 i y hij hi
      have hne : nm ≠ x.name := fun e => d1 (by rw [c1, e])
      have c4 : OwnsRl w1 base y.val (ofName l nm) := World.ownsRow.kept c3 hg d2
      exact ⟨nm, c1, c2, by rw [ofName_other hne]; exact World.ownsRow.kept c4 hg2 (nb c4)⟩
  · have hne : nm ≠ x.name := fun e => hnm e' (List.mem_of_getElem? h1) (by rw [hk, e])
    rw [ofName_other hne]
    refine hE.none nm fun y hy => ?_
    obtain ⟨i, hi⟩ := List.getElem?_of_mem hy
    by_cases hij : i = j
    · subst hij
      rw [h4 y hi]
      exact fun e => hne (by injection e with e; exact e.symm)
    · exact hnm y (List.mem_of_getElem? (by rw [h2 i hij]; exact hi))
  · by_cases hij : i = j
    · subst hij
      rw [h1] at hp
      cases hp
      rw [h2 k (Ne.symm hik)] at hq
      obtain ⟨d1, _⟩ := h3 k q (Ne.symm hik) hq
      refine ⟨by rw [hk]; exact Ne.symm d1, ?_⟩
      rw [hval]
      rcases old k q (Ne.symm hik) hq with e | e
      · rw [e]
        cases v'.ownBlock <;> simp
      · exact .inr (Ne.symm e)
    · rw [h2 i hij] at hp
      by_cases hkj : k = j
      · subst hkj
        rw [h1] at hq
        cases hq
        exact ⟨by rw [hk]; exact (h3 i p hij hp).1, by rw [hval]; exact old i p hij hp⟩
      · rw [h2 k hkj] at hq
        exact hE.apart i k p q hik hp hq
/-- a store at that name, whatever was done to its row and to new blocks. -/
def BackR (P : Program) (T : TypeId) (w : World) (base b : Nat) (l : List RuleD) (nm : ByteArray) (v : Value) : Prop :=
  ∀ (w1 : World) (v' : Value) (x : RuleD), x.name = nm → w.grownBy w1 v.ownBlock → OwnsRl w1 base v' (ofName l nm ++ [x]) → (v'.ownBlock = v.ownBlock ∨ ∃ g, v'.ownBlock = some g ∧ w.heap.size ≤ g) →
    ∃ w2, (Instr.mapUpdate T (.map (some b)) (.string nm) v').run P w1 = .ok () w2 ∧ MapR w2 base b (l ++ [x]) ∧ w1.grownBy w2 (some b)
theorem mapR_at {P : Program} {T K E : TypeId} {w : World} {base b : Nat} {l : List RuleD} (h : MapR w base b l) (hT : P.underlying T = some (.map K E)) (hK : P.underlying K = some .string) (hz : ∀ W, (zeroValue E).run P W = .ok (.slice none 0 0) W) (nm : ByteArray) (hn : nm.size ≤ maxLen) :
    ∃ v, (∀ W : World, W.heap[b]? = w.heap[b]? → (Instr.lookup T (.map (some b)) (.string nm) false).run P W = .ok v W) ∧ OwnsRl w base v (ofName l nm) ∧ BackR P T w base b l nm v := by
  have KK := Maps.string_keyed hK
  have hlt := h.lt
  obtain ⟨es, clock, hb, hbb, hE⟩ := h
  have hkey := keyOf_string_mk hK hn
  have hks : ∀ e ∈ es.toList, ∃ l, keyOf P K e.key = some l := fun e he => by
    obtain ⟨s, h1, h2, _⟩ := hE.each e he
    exact ⟨_, by rw [h1]; exact keyOf_string_mk hK h2⟩
  have set2 : ∀ {w1 : World} {es' : Array MapEntry} {c' : Nat}, w1.heap[b]? = some (.map es clock) → w1.grownBy (setBlock w1 b (.map es' c')) (some b) := fun {w1 es' c'} hb1 => ⟨rfl, rfl, rfl, by simp [setBlock], fun i _ hi => heap_setBlock_other hb1 _ (fun e1 => hi (by rw [e1]))⟩
  rcases KK.find w hkey es.toList hks with ⟨f1, f2⟩ | ⟨j, e0, f1, f2, f3⟩
  · refine ⟨.slice none 0 0, fun W hW => ?_, by rw [hE.none nm f2]; exact World.ownsRow_nil _ _ _ _, ?_⟩
    · have hbW := hW.trans hb
      rcases KK.find W hkey es.toList hks with ⟨g1, _⟩ | ⟨j, e0, _, g2, g3⟩
      · simp [Instr.lookup, run_underlying hT, MapKept.run_getObj_map hbW, KK.check W _ hkey, g1, hz, Result.andThen]
      · exact absurd g3 (f2 e0 (List.mem_of_getElem? g2))
    intro w1 v' x hx hg hv' hloc
    subst hx
    have hb1 : w1.heap[b]? = some (.map es clock) := (hg.block b hlt (by simp [Value.ownBlock])).trans hb
    rcases KK.find w1 hkey es.toList hks with ⟨g1, _⟩ | ⟨j, e0, _, g2, g3⟩
    · refine ⟨setBlock w1 b (.map (es.push ⟨.string x.name, v', clock⟩) (clock + 1)), by simp [Instr.mapUpdate, run_underlying hT, MapKept.run_getObj_map hb1, KK.check w1 false hkey, g1, MapKept.run_setObj_map _ hb1, Result.andThen, setBlock], ⟨_, _, heap_setBlock_same hb1 _, hbb, ?_⟩, set2 hb1⟩
      refine mapE_put (j := es.toList.length) (e' := ⟨.string x.name, v', clock⟩) hE hbb hg (set2 hb1) hn hv' hloc ?_ rfl rfl (fun i hi => ?_) (fun i y _ hy => ⟨f2 y (List.mem_of_getElem? hy), ?_⟩) (fun y hy => ?_)
      · rw [Array.toList_push, List.getElem?_append_right (Nat.le_refl _)]; simp
      · rw [Array.toList_push]
        by_cases hlt : i < es.toList.length
        · rw [List.getElem?_append_left hlt]
        · rw [List.getElem?_eq_none (by simp at *; omega), List.getElem?_eq_none (by omega)]
      · cases y.val.ownBlock <;> simp [Value.ownBlock]
      · rw [List.getElem?_eq_none (Nat.le_refl _)] at hy; cases hy
    · exact absurd g3 (f2 e0 (List.mem_of_getElem? g2))
  · obtain ⟨s0, k1, _, k3⟩ := hE.each e0 (List.mem_of_getElem? f2)
    have hs0 : s0 = nm := by rw [k1] at f3; injection f3
    subst hs0
    have hvb : e0.val.ownBlock ≠ some b := fun e => by
      have := (World.ownsRow.lt k3 b e).1
      omega
    refine ⟨e0.val, fun W hW => ?_, k3, ?_⟩
    · have hbW := hW.trans hb
      rcases KK.find W hkey es.toList hks with ⟨_, g2⟩ | ⟨j1, e1, g1, g2, g3⟩
      · exact absurd f3 (g2 e0 (List.mem_of_getElem? f2))
      · have hj : j1 = j := by
          by_cases hne : j1 = j
          · exact hne
          · exact absurd (g3.trans f3.symm) (hE.apart j1 j e1 e0 hne g2 f2).1
        subst hj
        have he : e1 = e0 := by rw [g2] at f2; cases f2; rfl
        subst he
        simp [Instr.lookup, run_underlying hT, MapKept.run_getObj_map hbW, KK.check W _ hkey, g1, Result.andThen]
    intro w1 v' x hx hg hv' hloc
    subst hx
    have hb1 : w1.heap[b]? = some (.map es clock) := (hg.block b hlt (fun e => hvb e.symm)).trans hb
    rcases KK.find w1 hkey es.toList hks with ⟨_, g2⟩ | ⟨j1, e1, g1, g2, g3⟩
    · exact absurd f3 (g2 e0 (List.mem_of_getElem? f2))
    · have hj : j1 = j := by
        by_cases hne : j1 = j
        · exact hne
        · exact absurd (g3.trans f3.symm) (hE.apart j1 j e1 e0 hne g2 f2).1
      subst hj
      have he : e1 = e0 := by rw [g2] at f2; cases f2; rfl
      subst he
      have hja : es[j1]? = some e1 := by simpa using g2
      have hlist : (es.modify j1 (fun e' => { e' with key := .string x.name, val := v' })).toList = es.toList.set j1 { e1 with key := .string x.name, val := v' } := by rw [Array.toList_modify, modify_eq_set _ _ _ _ g2]
      refine ⟨setBlock w1 b (.map (es.modify j1 (fun e' => { e' with key := .string x.name, val := v' })) clock), by simp [Instr.mapUpdate, run_underlying hT, MapKept.run_getObj_map hb1, KK.check w1 false hkey, g1, hja, g3, KK.stays w1 hkey, MapKept.run_setObj_map _ hb1, Result.andThen, setBlock], ⟨_, _, heap_setBlock_same hb1 _, hbb, ?_⟩, set2 hb1⟩
      rw [hlist]
      have hjl : j1 < es.toList.length := (List.getElem?_eq_some_iff.1 g2).1
      refine mapE_put (j := j1) (e' := { e1 with key := .string x.name, val := v' }) hE hbb hg (set2 hb1) hn hv' hloc ?_ rfl rfl (fun i hi => ?_) (fun i y hi hy => ⟨?_, ?_⟩) (fun y hy => ?_)
      · rw [List.getElem?_set_self hjl]
      · rw [List.getElem?_set_ne (Ne.symm hi)]
      · have := (hE.apart i j1 y e1 hi hy g2).1
        rw [g3] at this
        exact this
      · exact (hE.apart i j1 y e1 hi hy g2).2
      · rw [g2] at hy; cases hy; exact g3
end Go.Proofs.YtbbhpfobcelbfaaGreatDoor
namespace Go.Proofs.YtbbhpfobcelbfaaGreatDoor
open Go.RowKit

theorem infoRul : (Tryz.prog.info? 120).map (fun i => (i.zero, i.size, i.bytes)) = some (some (.agg #[.string ⟨#[]⟩, .int .i64 0, .int .i64 0, .int .i64 0, .string ⟨#[]⟩, .int .i64 0, .string ⟨#[]⟩, .int .i64 0, .string ⟨#[]⟩]), 9, 104) := by kernel_rfl
theorem zeroRules (w : World) : (zeroValue 23).run Tryz.prog w = .ok (.slice none 0 0) w := by kernel_rfl
theorem OwnsRl.add {w : World} {base : Nat} {v : Value} {l : List RuleD} {x : RuleD} (h : w.ownsRow base 120 9 v (l.length + 1) ((l.map RuleD.cs).flatten ++ x.cs)) : OwnsRl w base v (l ++ [x]) := by
  unfold OwnsRl
  rw [List.length_append, List.map_append, List.flatten_append]
  simpa using h
theorem take_snoc {l : List RuleD} {k : Nat} {x : RuleD} (h : l[k]? = some x) : l.take (k + 1) = l.take k ++ [x] := by rw [List.take_add_one, h]; rfl
set_option maxRecDepth 20000 in
set_option maxHeartbeats 4000000 in
theorem impl_rulesByName (l : List RuleD) (a : Option Addr) (ca : Nat) (w : World) (hA : SeqAt w a 9 (l.map RuleD.cs)) (hl : l.length ≤ 40) (hn : ∀ x ∈ l, x.name.size ≤ maxLen) :
    Calls Tryz.prog 36 #[.slice a l.length ca] w fun e W' => e = .returned (.map (some w.heap.size)) ∧ MapR W' (w.heap.size + 1) w.heap.size l ∧ Below w.heap.size w W' := by
  obtain ⟨i0, hi, hz0, hz1, hz2⟩ := info_parts infoRul
  have HN : Hid (∀ x ∈ l, x.name.size ≤ maxLen) := hn
  clear hn
  have hM0 : Hid (MapR (w.alloc (.map #[] 0)) (w.heap.size + 1) w.heap.size (l.take 0)) := mapR_made w
  have hB0 : Below w.heap.size w (w.alloc (.map #[] 0)) := (Below.refl _ w).alloc (Nat.le_refl _) _
  have hmm := @run_makeMap Tryz.prog
  go_enter Tryz.func36, Tryz.ntmps36
  go_wp2
  go_loopw [9] (fun s9 wr => ∃ k : Nat, s9 = .int .i64 k ∧ k ≤ l.length ∧ Hid (MapR wr (w.heap.size + 1) w.heap.size (l.take k)) ∧ Below w.heap.size w wr) (fun s9 _ => (l.length - intOf s9).toNat)
  case atStart => exact ⟨0, rfl, by omega, hM0, hB0⟩
  case round =>
    clear hM0 hB0
    obtain ⟨k, rfl, hk, HM, hBr⟩ := hrel
    have hsW := hBr.size
    have hph : w.heap.size < wr.heap.size := HM.out.lt
    by_cases hkl : k < l.length
    · obtain ⟨x, hx⟩ : ∃ x, l[k]? = some x := ⟨_, List.getElem?_eq_getElem hkl⟩
      have hxn := HN.out x (List.mem_of_getElem? hx)
      obtain ⟨b9, o9, rfl, hc⟩ := (hA.below hBr).at (i := k) (r := x.cs) (by rw [List.getElem?_map, hx]; rfl)
      have c0 : wr.cell? ⟨b9, o9 + k * 9, none⟩ = some (.string x.name) := hc 0 _ rfl
      have c1 := hc 1 _ rfl
      have c2 := hc 2 _ rfl
      have c3 := hc 3 _ rfl
      have c4 := hc 4 _ rfl
      have c5 := hc 5 _ rfl
      have c6 := hc 6 _ rfl
      have c7 := hc 7 _ rfl
      have c8 := hc 8 _ rfl
      have HX : Hid (l.take (k + 1) = l.take k ++ [x]) := take_snoc hx
      have hkl2 : (k : Int) < (l.length : Int) := by omega
      clear hc hx
      obtain ⟨L, hL⟩ : ∃ L, l.take k = L := ⟨_, rfl⟩
      have hLl : L.length ≤ 40 := by rw [← hL, List.length_take]; omega
      have hFl : (ofName L x.name).length ≤ 40 := Nat.le_trans (List.length_filter_le _ _) hLl
      rw [hL] at HX HM
      clear hL
      have hbB := (Below.refl wr.heap.size wr).alloc (Nat.le_refl _) (.cells #[.string x.name, .int .i64 x.lo, .int .i64 x.hi, .int .i64 x.month, .string x.on, .int .i64 x.at_, .string x.of, .int .i64 x.save, .string x.letter] 120)
      have HM1 := HM.out.below hbB
      have e0 : (wr.alloc (.cells #[.string x.name, .int .i64 x.lo, .int .i64 x.hi, .int .i64 x.month, .string x.on, .int .i64 x.at_, .string x.of, .int .i64 x.save, .string x.letter] 120)).cell? ⟨wr.heap.size, 0, none⟩ = some (.string x.name) := by simp [go_sem]
      have e1 : (wr.alloc (.cells #[.string x.name, .int .i64 x.lo, .int .i64 x.hi, .int .i64 x.month, .string x.on, .int .i64 x.at_, .string x.of, .int .i64 x.save, .string x.letter] 120)).cell? ⟨wr.heap.size, 1, none⟩ = some (.int .i64 x.lo) := by simp [go_sem]
      have e2 : (wr.alloc (.cells #[.string x.name, .int .i64 x.lo, .int .i64 x.hi, .int .i64 x.month, .string x.on, .int .i64 x.at_, .string x.of, .int .i64 x.save, .string x.letter] 120)).cell? ⟨wr.heap.size, 2, none⟩ = some (.int .i64 x.hi) := by simp [go_sem]
      have e3 : (wr.alloc (.cells #[.string x.name, .int .i64 x.lo, .int .i64 x.hi, .int .i64 x.month, .string x.on, .int .i64 x.at_, .string x.of, .int .i64 x.save, .string x.letter] 120)).cell? ⟨wr.heap.size, 3, none⟩ = some (.int .i64 x.month) := by simp [go_sem]
      have e4 : (wr.alloc (.cells #[.string x.name, .int .i64 x.lo, .int .i64 x.hi, .int .i64 x.month, .string x.on, .int .i64 x.at_, .string x.of, .int .i64 x.save, .string x.letter] 120)).cell? ⟨wr.heap.size, 4, none⟩ = some (.string x.on) := by simp [go_sem]
      have e5 : (wr.alloc (.cells #[.string x.name, .int .i64 x.lo, .int .i64 x.hi, .int .i64 x.month, .string x.on, .int .i64 x.at_, .string x.of, .int .i64 x.save, .string x.letter] 120)).cell? ⟨wr.heap.size, 5, none⟩ = some (.int .i64 x.at_) := by simp [go_sem]
      have e6 : (wr.alloc (.cells #[.string x.name, .int .i64 x.lo, .int .i64 x.hi, .int .i64 x.month, .string x.on, .int .i64 x.at_, .string x.of, .int .i64 x.save, .string x.letter] 120)).cell? ⟨wr.heap.size, 6, none⟩ = some (.string x.of) := by simp [go_sem]
      have e7 : (wr.alloc (.cells #[.string x.name, .int .i64 x.lo, .int .i64 x.hi, .int .i64 x.month, .string x.on, .int .i64 x.at_, .string x.of, .int .i64 x.save, .string x.letter] 120)).cell? ⟨wr.heap.size, 7, none⟩ = some (.int .i64 x.save) := by simp [go_sem]
      have e8 : (wr.alloc (.cells #[.string x.name, .int .i64 x.lo, .int .i64 x.hi, .int .i64 x.month, .string x.on, .int .i64 x.at_, .string x.of, .int .i64 x.save, .string x.letter] 120)).cell? ⟨wr.heap.size, 8, none⟩ = some (.string x.letter) := by simp [go_sem]
      have hbW := hBr.alloc hsW (.cells #[.string x.name, .int .i64 x.lo, .int .i64 x.hi, .int .i64 x.month, .string x.on, .int .i64 x.at_, .string x.of, .int .i64 x.save, .string x.letter] 120)
      have hsb : (wr.alloc (.cells #[.string x.name, .int .i64 x.lo, .int .i64 x.hi, .int .i64 x.month, .string x.on, .int .i64 x.at_, .string x.of, .int .i64 x.save, .string x.letter] 120)).heap.size = wr.heap.size + 1 := by simp
      obtain ⟨vl, hlk, hOl, hback⟩ := mapR_at (P := Tryz.prog) (T := 82) HM.out Tryz.underlying82 Tryz.underlying9 zeroRules x.name hxn
      obtain ⟨al, ml, cl, rfl⟩ := row_shape3 hOl
      have hnb : some wr.heap.size ≠ (Value.slice al ml cl).ownBlock := fun e => by have := (World.ownsRow.lt hOl _ e.symm).2; omega
      obtain ⟨wB, hwB⟩ : ∃ wB, (wr.alloc (.cells #[.string x.name, .int .i64 x.lo, .int .i64 x.hi, .int .i64 x.month, .string x.on, .int .i64 x.at_, .string x.of, .int .i64 x.save, .string x.letter] 120)) = wB := ⟨_, rfl⟩
      have gB : ∀ ro, wr.grownBy wB ro := fun ro => by rw [← hwB]; exact World.grownBy_alloc _ _ _
      have gD : ∀ ro, wr.grownBy wB.drew ro := fun ro => ⟨(gB ro).os, (gB ro).tape, (gB ro).output, (gB ro).size, (gB ro).block⟩
      have gA : ∀ ro, wr.grownBy (wB.drew.alloc (.cells #[.string x.name, .int .i64 x.lo, .int .i64 x.hi, .int .i64 x.month, .string x.on, .int .i64 x.at_, .string x.of, .int .i64 x.save, .string x.letter] 120)) ro := fun ro => (gD ro).trans (World.grownBy_alloc _ _ _)
      have hOB : OwnsRl wB.drew (w.heap.size + 1) (.slice al ml cl) (ofName L x.name) := World.ownsRow.kept hOl (gD none) (by cases (Value.slice al ml cl).ownBlock <;> simp)
      have lk1 := hlk wB.drew ((gD none).block _ hph (by simp))
      have lk2 := hlk (wB.drew.alloc (.cells #[.string x.name, .int .i64 x.lo, .int .i64 x.hi, .int .i64 x.month, .string x.on, .int .i64 x.at_, .string x.of, .int .i64 x.save, .string x.letter] 120)) ((gA none).block _ hph (by simp))
      have lk3 := hlk (wB.alloc (.cells #[.string x.name, .int .i64 x.lo, .int .i64 x.hi, .int .i64 x.month, .string x.on, .int .i64 x.at_, .string x.of, .int .i64 x.save, .string x.letter] 120)).drew ((gA none).block _ hph (by simp))
      have lk4 := hlk wB ((gB none).block _ hph (by simp))
      rw [hwB] at e0 e1 e2 e3 e4 e5 e6 e7 e8 hbW hsb
      go_wp2_with fail
      have hgA := gA (Value.slice al ml cl).ownBlock
      have hOlt : ∀ j, (Value.slice al ml cl).ownBlock = some j → w.heap.size + 1 ≤ j := fun j hj => (World.ownsRow.lt hOl j hj).1
      obtain ⟨bx, hbx⟩ : ∃ bx, wr.heap.size = bx := ⟨_, rfl⟩
      rw [hbx] at hsb hph hnb e0 e1 e2 e3 e4 e5 e6 e7 e8 ⊢
      have hbk : ∀ (w1 : World) (v' : Value), wr.grownBy w1 (Value.slice al ml cl).ownBlock → OwnsRl w1 (w.heap.size + 1) v' (ofName L x.name ++ [x]) → (v'.ownBlock = (Value.slice al ml cl).ownBlock ∨ ∃ g, v'.ownBlock = some g ∧ bx ≤ g) → ∃ w2, (Instr.mapUpdate 82 (.map (some w.heap.size)) (.string x.name) v').run Tryz.prog w1 = .ok () w2 ∧ MapR w2 (w.heap.size + 1) w.heap.size (L ++ [x]) ∧ w1.grownBy w2 (some w.heap.size) := fun w1 v' g1 g2 g3 => hback w1 v' x rfl g1 g2 (by rw [hbx]; exact g3)
      have HBK : Hid (∀ (w1 : World) (v' : Value), wr.grownBy w1 (Value.slice al ml cl).ownBlock → OwnsRl w1 (w.heap.size + 1) v' (ofName L x.name ++ [x]) → (v'.ownBlock = (Value.slice al ml cl).ownBlock ∨ ∃ g, v'.ownBlock = some g ∧ bx ≤ g) → ∃ w2, (Instr.mapUpdate 82 (.map (some w.heap.size)) (.string x.name) v').run Tryz.prog w1 = .ok () w2 ∧ MapR w2 (w.heap.size + 1) w.heap.size (L ++ [x]) ∧ w1.grownBy w2 (some w.heap.size)) := hbk
      clear hwB hbx hbB hBr hsW c0 c1 c2 c3 c4 c5 c6 c7 c8 HM hA hlk hback hbk HM1 gA gD gB hOl
      have hcn : ∀ j u, x.cs[j]? = some u → (wB.drew.alloc (.cells #[.string x.name, .int .i64 x.lo, .int .i64 x.hi, .int .i64 x.month, .string x.on, .int .i64 x.at_, .string x.of, .int .i64 x.save, .string x.letter] 120)).cell? ((⟨bx + 1, 0, none⟩ : Addr).add j) = some u := by
        have := cells_new wB.drew x.cs 120
        rw [show wB.drew.heap.size = bx + 1 from hsb] at this
        exact this
      have hph2 : w.heap.size < wB.heap.size := by omega
      go_region_law (refine step_append_lies _ (by rfl) (.tmp 19) (.tmp 21) 23 (by rfl) (w.heap.size + 1) 120 i0 (.agg #[.string ⟨#[]⟩, .int .i64 0, .int .i64 0, .int .i64 0, .string ⟨#[]⟩, .int .i64 0, .string ⟨#[]⟩, .int .i64 0, .string ⟨#[]⟩]) 9 104 Tryz.underlying23 hi hz0 hz1 hz2 rfl (by omega) (.slice al ml cl) (ofName L x.name).length ((ofName L x.name).map RuleD.cs).flatten (by rfl) (World.ownsRow.alloc (w := wB.drew) hOB _) ⟨bx + 1, 0, none⟩ 1 1 x.cs (by rfl) rfl hcn (by intro u hu; simp [RuleD.cs] at hu; rcases hu with rfl | rfl | rfl | rfl | rfl | rfl | rfl | rfl | rfl <;> rfl) (by omega) (by unfold maxLen; omega) (by omega) (by simp; omega) _ rfl ?_; intro g1 cap1 w1 hown1 hgrow hat hlt1; have r1 := hgrow.cell (a := ⟨bx, 0, none⟩) (keepC ((Below.refl _ wB.drew).alloc (Nat.le_refl _) _) e0) hnb; have hall := hgA.trans hgrow; obtain ⟨w2, hup, hM2, hg2⟩ := HBK.out w1 (.slice (some ⟨g1, 0, none⟩) ((ofName L x.name).length + 1) cap1) hall (OwnsRl.add hown1) (hat.imp (fun h => h.symm) (fun h => ⟨g1, rfl, by rw [h]; simp; omega⟩)))
      all_goals
        have hB1 : Below w.heap.size w w1 := ((hbW.trans ((below_drew wB).mono hbW.size)).alloc hbW.size _).grown hgrow (by simp; omega) (fun j hj => by have := hOlt j hj; omega)
        have hB2 : Below w.heap.size w w2 := hB1.grown hg2 hB1.size (fun j hj => by injection hj with hj; omega)
        have HM2 : Hid (MapR w2 (w.heap.size + 1) w.heap.size (l.take (k + 1))) := by rw [HX.out]; exact hM2
        clear hM2 hg2 hup hall hgrow hat hlt1 hown1 HBK hOB hgA hOlt lk1 lk2 lk3 lk4 hcn HX r1
        go_wp2
        go_roundw
        case rel => exact ⟨k + 1, by go_num, by omega, HM2, hB2⟩
        case measure => simp [intOf]; omega
    · have hke : k = l.length := by omega
      have HMe : Hid (MapR wr (w.heap.size + 1) w.heap.size l) := by rw [hke, List.take_length] at HM; exact HM
      have hkl2 : ¬ (k : Int) < (l.length : Int) := by omega
      clear HM hke
      go_wp2
      go_ret
      exact ⟨rfl, HMe.out, hBr⟩
end Go.Proofs.YtbbhpfobcelbfaaGreatDoor
