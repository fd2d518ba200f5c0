/- Packed: Zone1 Zone2 Zone3 Zone4 Zone5. -/
import Derived.Test.YtcelbkmnbjcjhaaRightCw
import Derived.Lib.SliceRun
import Derived.Deep.RegionHeld3
namespace Go.Proofs.Ytcelbkmnbjcjhaa
open Go.RowKit Go.Sort

def linkTo (ls : List LinkD) (nm : ByteArray) : ByteArray := match ls.find? (fun l => l.name.toList == nm.toList) with
  | some l => l.to_
  | none => nm
def zoneIx (zs : List ZoneD) (nm : ByteArray) : Option Nat := zs.findIdx? fun z => z.name.toList == nm.toList
def zeroZ : ZoneD := ⟨⟨#[]⟩, []⟩
def zoneD (r : RelD) (nm : ByteArray) : ZoneD := if relB r = true then (match zoneIx r.zones (linkTo r.links nm) with
  | some i => (match r.zones[i]? with | some z => z | none => zeroZ)
  | none => zeroZ) else zeroZ
theorem find_hit {α : Type} {l : List α} {p : α → Bool} {k : Nat} {x : α} (hx : l[k]? = some x) (hp : p x = true) (hn : ∀ j, j < k → ∀ y, l[j]? = some y → p y = false) : l.find? p = some x := by
  induction l generalizing k with
  | nil => simp at hx
  | cons a l ih =>
    cases k with
    | zero => simp at hx; subst hx; simp [hp]
    | succ k =>
      have h0 := hn 0 (by omega) a rfl
      rw [List.find?_cons, h0]
      exact ih (by simpa using hx) fun j hj y hy => hn (j + 1) (by omega) y (by simpa using hy)
theorem find_none {α : Type} {l : List α} {p : α → Bool} (hn : ∀ j, j < l.length → ∀ y, l[j]? = some y → p y = false) : l.find? p = none := by
  rw [List.find?_eq_none]
  intro x hx
  obtain ⟨j, hj⟩ := List.getElem?_of_mem hx
  have := hn j (List.getElem?_eq_some_iff.mp hj).1 x hj
  simp [this]
theorem ix_hit {α : Type} {l : List α} {p : α → Bool} {k : Nat} {x : α} (hx : l[k]? = some x) (hp : p x = true) (hn : ∀ j, j < k → ∀ y, l[j]? = some y → p y = false) : l.findIdx? p = some k := by
  induction l generalizing k with
  | nil => simp at hx
  | cons a l ih =>
    cases k with
    | zero => simp at hx; subst hx; simp [List.findIdx?_cons, hp]
    | succ k =>
      have h0 := hn 0 (by omega) a rfl
      rw [List.findIdx?_cons, h0]
      have := ih (k := k) (by simpa using hx) fun j hj y hy => hn (j + 1) (by omega) y (by simpa using hy)
      simp [this]
theorem ix_none {α : Type} {l : List α} {p : α → Bool} (hn : ∀ j, j < l.length → ∀ y, l[j]? = some y → p y = false) : l.findIdx? p = none := by
  rw [List.findIdx?_eq_none_iff]
  intro x hx
  obtain ⟨j, hj⟩ := List.getElem?_of_mem hx
  exact hn j (List.getElem?_eq_some_iff.mp hj).1 x hj
theorem link_hit {ls : List LinkD} {nm : ByteArray} {k : Nat} {x : LinkD} (hx : ls[k]? = some x) (hp : (x.name.toList == nm.toList) = true) (hn : ∀ j, j < k → ∀ y, ls[j]? = some y → (y.name.toList == nm.toList) = false) : linkTo ls nm = x.to_ := by unfold linkTo; rw [find_hit hx hp hn]
theorem link_none {ls : List LinkD} {nm : ByteArray} (hn : ∀ j, j < ls.length → ∀ y, ls[j]? = some y → (y.name.toList == nm.toList) = false) : linkTo ls nm = nm := by unfold linkTo; rw [find_none hn]
theorem zone_hit {zs : List ZoneD} {nm : ByteArray} {k : Nat} {x : ZoneD} (hx : zs[k]? = some x) (hp : (x.name.toList == nm.toList) = true) (hn : ∀ j, j < k → ∀ y, zs[j]? = some y → (y.name.toList == nm.toList) = false) : zoneIx zs nm = some k := ix_hit hx hp hn
theorem zone_none {zs : List ZoneD} {nm : ByteArray} (hn : ∀ j, j < zs.length → ∀ y, zs[j]? = some y → (y.name.toList == nm.toList) = false) : zoneIx zs nm = none := ix_none hn
theorem zoneIx_lt {zs : List ZoneD} {nm : ByteArray} {i : Nat} (h : zoneIx zs nm = some i) : i < zs.length := (List.findIdx?_eq_some_iff_getElem.mp h).1
def ixI (o : Option Nat) : Int := match o with
  | some i => i
  | none => -1
end Go.Proofs.Ytcelbkmnbjcjhaa
namespace Go.Proofs.Ytcelbkmnbjcjhaa
open Go.RowKit Go.Sort

set_option maxHeartbeats 4000000 in
theorem spec_l02Find (r : RelD) (v : Value) (nm : ByteArray) (w : World) (hv : RelAt w v r) (sm : r.small) :
    Calls Try.prog 64 #[v, .string nm] w fun e w' => e = .returned (.int .i64 (ixI (zoneIx r.zones (linkTo r.links nm)))) ∧ Below w.heap.size w w' := by
  obtain ⟨a, b, c, ca, cb, cc, rfl, _, hZ, hA⟩ := hv.form
  obtain ⟨m1, m2, m3, m4⟩ := sm
  have hB0 := (Below.refl w.heap.size w).alloc (Nat.le_refl _) (.cells #[.slice a r.rules.length ca, .slice b r.zones.length cb, .slice c r.links.length cc] 70)
  have hA1 := hA.below hB0
  have hZ1 := hZ.below hB0
  have x1 : (w.alloc (.cells #[.slice a r.rules.length ca, .slice b r.zones.length cb, .slice c r.links.length cc] 70)).cell? ⟨w.heap.size, 1, none⟩ = some (.slice b r.zones.length cb) := by simp [go_sem]
  have x2 : (w.alloc (.cells #[.slice a r.rules.length ca, .slice b r.zones.length cb, .slice c r.links.length cc] 70)).cell? ⟨w.heap.size, 2, none⟩ = some (.slice c r.links.length cc) := by simp [go_sem]
  clear hv hA hZ
  go_enter Try.func64, Try.ntmps64
  go_wp2
  generalize (w.alloc (.cells #[.slice a r.rules.length ca, .slice b r.zones.length cb, .slice c r.links.length cc] 70)) = W at *
  go_loop [1, 5] (fun s i => ∃ k : Nat, k ≤ r.links.length ∧ s = .string nm ∧ i = .int .i64 k ∧ Hid (∀ j, j < k → ∀ y, r.links[j]? = some y → (y.name.toList == nm.toList) = false)) (fun _ i => r.links.length - (intOf i).toNat)
  case atStart => exact ⟨0, by omega, rfl, rfl, fun j hj => by omega⟩
  case round =>
    obtain ⟨k, hk, rfl, rfl, hall⟩ := hrel
    by_cases hlt : k < r.links.length
    · obtain ⟨x, hx⟩ : ∃ x, r.links[k]? = some x := ⟨_, List.getElem?_eq_getElem hlt⟩
      obtain ⟨b', o, rfl, hc⟩ := hA1.at (i := k) (r := x.cs) (by rw [List.getElem?_map, hx]; rfl)
      have c0 : W.cell? ⟨b', o + k * 2, none⟩ = some (.string x.to_) := hc 0 _ rfl
      have c1 := hc 1 _ rfl
      clear hc
      cases hb : (x.name.toList == nm.toList)
      · have HR : Hid (∀ j, j < k + 1 → ∀ y, r.links[j]? = some y → (y.name.toList == nm.toList) = false) := fun j hj y hy => by
          by_cases e : j = k
          · subst e; rw [hx] at hy; obtain rfl := Option.some.inj hy; exact hb
          · exact hall.out j (by omega) y hy
        go_wp2
        go_round
        case rel => exact ⟨k + 1, by omega, rfl, by go_num, HR⟩
        case measure => simp [intOf]; omega
      · have HL : Hid (linkTo r.links nm = x.to_) := link_hit hx hb hall.out
        clear hall
        go_wp2
        go_loop [6] (fun i => ∃ k : Nat, k ≤ r.zones.length ∧ i = .int .i64 k ∧ Hid (∀ j, j < k → ∀ y, r.zones[j]? = some y → (y.name.toList == x.to_.toList) = false)) (fun i => r.zones.length - (intOf i).toNat)
        case atStart => exact ⟨0, by omega, rfl, fun j hj => by omega⟩
        case round =>
          obtain ⟨k, hk, rfl, hall⟩ := hrel
          by_cases hlt : k < r.zones.length
          · obtain ⟨z, hx⟩ : ∃ z, r.zones[k]? = some z := ⟨_, List.getElem?_eq_getElem hlt⟩
            obtain ⟨b', o, rfl, c0, u, c1, hu⟩ := hZ1.at hx
            cases hb : (z.name.toList == x.to_.toList)
            · have HR : Hid (∀ j, j < k + 1 → ∀ y, r.zones[j]? = some y → (y.name.toList == x.to_.toList) = false) := fun j hj y hy => by
                by_cases e : j = k
                · subst e; rw [hx] at hy; obtain rfl := Option.some.inj hy; exact hb
                · exact hall.out j (by omega) y hy
              go_wp2
              go_round
              case rel => exact ⟨k + 1, by omega, by go_num, HR⟩
              case measure => simp [intOf]; omega
            · have HR : Hid (ixI (zoneIx r.zones (linkTo r.links nm)) = k) := by simp only [Hid]; rw [HL.out, zone_hit hx hb hall.out]; rfl
              go_wp2
              go_ret
              exact ⟨ret_int HR.out.symm, hB0⟩
          · have e : k = r.zones.length := by omega
            subst e
            have HR : Hid (ixI (zoneIx r.zones (linkTo r.links nm)) = -1) := by simp only [Hid]; rw [HL.out, zone_none hall.out]; rfl
            go_wp2
            go_ret
            exact ⟨ret_int HR.out.symm, hB0⟩
    · have e : k = r.links.length := by omega
      subst e
      have HL : Hid (linkTo r.links nm = nm) := link_none hall.out
      clear hall
      go_wp2
      go_loop [6] (fun i => ∃ k : Nat, k ≤ r.zones.length ∧ i = .int .i64 k ∧ Hid (∀ j, j < k → ∀ y, r.zones[j]? = some y → (y.name.toList == nm.toList) = false)) (fun i => r.zones.length - (intOf i).toNat)
      case atStart => exact ⟨0, by omega, rfl, fun j hj => by omega⟩
      case round =>
        obtain ⟨k, hk, rfl, hall⟩ := hrel
        by_cases hlt : k < r.zones.length
        · obtain ⟨z, hx⟩ : ∃ z, r.zones[k]? = some z := ⟨_, List.getElem?_eq_getElem hlt⟩
          obtain ⟨b', o, rfl, c0, u, c1, hu⟩ := hZ1.at hx
          cases hb : (z.name.toList == nm.toList)
          · have HR : Hid (∀ j, j < k + 1 → ∀ y, r.zones[j]? = some y → (y.name.toList == nm.toList) = false) := fun j hj y hy => by
              by_cases e : j = k
              · subst e; rw [hx] at hy; obtain rfl := Option.some.inj hy; exact hb
              · exact hall.out j (by omega) y hy
            go_wp2
            go_round
            case rel => exact ⟨k + 1, by omega, by go_num, HR⟩
            case measure => simp [intOf]; omega
          · have HR : Hid (ixI (zoneIx r.zones (linkTo r.links nm)) = k) := by simp only [Hid]; rw [HL.out, zone_hit hx hb hall.out]; rfl
            go_wp2
            go_ret
            exact ⟨ret_int HR.out.symm, hB0⟩
        · have e : k = r.zones.length := by omega
          subst e
          have HR : Hid (ixI (zoneIx r.zones (linkTo r.links nm)) = -1) := by simp only [Hid]; rw [HL.out, zone_none hall.out]; rfl
          go_wp2
          go_ret
          exact ⟨ret_int HR.out.symm, hB0⟩
end Go.Proofs.Ytcelbkmnbjcjhaa
namespace Go.Proofs.Ytcelbkmnbjcjhaa
open Go.RowKit Go.Sort

theorem flat_atZ {q : Nat} : ∀ {rows : List (List Value)}, (∀ r ∈ rows, r.length = q) → ∀ {i l : Nat}, l < q → rows.flatten[i * q + l]? = (rows[i]?).bind (·[l]?) := by
  intro rows
  induction rows with
  | nil => intro _ i l _; simp
  | cons r rs ih =>
    intro hlen i l hl
    have hr := hlen r (List.mem_cons_self ..)
    rw [List.flatten_cons]
    cases i with
    | zero =>
      rw [Nat.zero_mul, Nat.zero_add, List.getElem?_append_left (by omega)]
      simp
    | succ i =>
      rw [List.getElem?_append_right (by rw [hr, Nat.add_mul]; omega), hr, show (i + 1) * q + l - q = i * q + l by rw [Nat.add_mul]; omega]
      rw [ih (fun r hr => hlen r (List.mem_cons_of_mem _ hr)) hl]
      simp
theorem flat_lenZ {q : Nat} : ∀ {rows : List (List Value)}, (∀ r ∈ rows, r.length = q) → rows.flatten.length = rows.length * q := by
  intro rows
  induction rows with
  | nil => intro _; simp
  | cons r rs ih =>
    intro hlen
    rw [List.flatten_cons, List.length_append, ih fun r hr => hlen r (List.mem_cons_of_mem _ hr), hlen r (List.mem_cons_self ..), List.length_cons, Nat.add_mul]
    omega
def flatE (es : List EraD) : List Value := (es.map EraD.cs).flatten
theorem era_rows (es : List EraD) : ∀ r ∈ es.map EraD.cs, r.length = 6 := fun r hr => by
  obtain ⟨x, _, rfl⟩ := List.mem_map.mp hr; rfl
theorem flatE_len (es : List EraD) : (flatE es).length = es.length * 6 := by
  unfold flatE; rw [flat_lenZ (era_rows es), List.length_map]
theorem flatE_at {es : List EraD} {j : Nat} {u : Value} (h : (flatE es)[j]? = some u) : ∃ r, (es.map EraD.cs)[j / 6]? = some r ∧ r[j % 6]? = some u := by
  have e : j = j / 6 * 6 + j % 6 := by omega
  unfold flatE at h
  rw [e, flat_atZ (era_rows es) (by omega)] at h
  obtain ⟨r, h1, h2⟩ := Option.bind_eq_some_iff.mp h
  exact ⟨r, h1, h2⟩
theorem flatE_cells {w : World} {b o : Nat} {es : List EraD} (hA : SeqAt w (some ⟨b, o, none⟩) 6 (es.map EraD.cs)) (j : Nat) (u : Value) (h : (flatE es)[j]? = some u) : w.cell? ⟨b, o + j, none⟩ = some u := by
  obtain ⟨r, h1, h2⟩ := flatE_at h
  obtain ⟨b', o', he, hc⟩ := hA.at h1
  injection he with he
  injection he with e1 e2
  subst e1 e2
  have := hc _ _ h2
  rw [show o + j / 6 * 6 + j % 6 = o + j by omega] at this
  exact this
theorem flatE_one {es : List EraD} : ∀ u ∈ flatE es, u.oneCell' = true := fun u hu => by
  unfold flatE at hu
  obtain ⟨r, hr, hu⟩ := List.mem_flatten.mp hu
  obtain ⟨x, _, rfl⟩ := List.mem_map.mp hr
  simp only [EraD.cs, List.mem_cons, List.not_mem_nil, or_false] at hu
  rcases hu with rfl | rfl | rfl | rfl | rfl | rfl <;> rfl
/-- a list of eras of one's own, from a block on. -/
def OwnEra (w : World) (B : Nat) (v : Value) (es : List EraD) : Prop :=
  (es = [] ∧ v = .slice none 0 0) ∨ ∃ g cap, v = .slice (some ⟨g, 0, none⟩) es.length cap ∧ B ≤ g ∧ g < w.heap.size ∧ SeqAt w (some ⟨g, 0, none⟩) 6 (es.map EraD.cs) ∧ Room w g (es.length * 6)
theorem OwnEra.below {w w' : World} {B : Nat} {v : Value} {es : List EraD} (h : OwnEra w B v es) (hb : Below w.heap.size w w') : OwnEra w' B v es := by
  rcases h with h | ⟨g, cap, hv, hg, hl, h1, h2⟩
  · exact .inl h
  · exact .inr ⟨g, cap, hv, hg, Nat.lt_of_lt_of_le hl hb.size, h1.below hb, h2.below hb⟩
theorem OwnEra.sl {w : World} {B : Nat} {v : Value} {es : List EraD} (h : OwnEra w B v es) : EraSl w v es := by
  rcases h with ⟨rfl, rfl⟩ | ⟨g, cap, hv, _, _, h1, _⟩
  · exact ⟨none, 0, rfl, .inl rfl⟩
  · exact ⟨_, _, hv, h1⟩
theorem OwnEra.mono {w : World} {B B2 : Nat} {v : Value} {es : List EraD} (h : OwnEra w B v es) (hb : B2 ≤ B) : OwnEra w B2 v es := by
  rcases h with h | ⟨g, cap, hv, hg, rest⟩
  · exact .inl h
  · exact .inr ⟨g, cap, hv, by omega, rest⟩
theorem own_eras {w : World} {B : Nat} {e : TypeId} {v : Value} {es : List EraD} (h : w.ownsRow B e 6 v es.length (flatE es)) (hn : 0 < es.length) : OwnEra w B v es := by
  rcases h.2 with ⟨_, h0⟩ | ⟨g, cap, cur, hv, hg, hh, hc, hm, hs, ht⟩
  · omega
  · have hlt : g < w.heap.size := by
      rcases Nat.lt_or_ge g w.heap.size with h' | h'
      · exact h'
      · rw [Array.getElem?_eq_none h'] at hh; cases hh
    refine .inr ⟨g, cap, hv, hg, hlt, .inr ⟨g, 0, rfl, fun i j r c hi hj => ?_⟩, fun x hx => ?_⟩
    · have hj6 : j < 6 := by
        have := era_rows es r (List.mem_of_getElem? hi)
        have := (List.getElem?_eq_some_iff.mp hj).1
        omega
      have hil : i < es.length := by have := (List.getElem?_eq_some_iff.mp hi).1; simpa using this
      have e1 : (cur.toList.take (es.length * 6))[i * 6 + j]? = (flatE es)[i * 6 + j]? := by rw [ht]
      unfold flatE at e1
      rw [flat_atZ (era_rows es) hj6, hi] at e1
      rw [List.getElem?_take, if_pos (by omega), Array.getElem?_toList] at e1
      simp only [World.cell?, hh, Nat.zero_add]
      simp only [Option.isSome_none, Bool.false_eq_true, if_false]
      rw [e1]
      exact hj
    · have hx' : x < cur.size := by have : es.length * 6 ≤ cap * 6 := Nat.mul_le_mul_right 6 hc; omega
      exact ⟨⟨cur[x], by simp [World.cell?, hh, hx']⟩, by simp [World.frozen?, hh]⟩
theorem ownE_empty (w : World) (t : TypeId) : (w.alloc (.cells #[] t)).ownsRow w.heap.size t 6 (.slice (some ⟨w.heap.size, 0, none⟩) 0 0) 0 [] :=
  ⟨rfl, .inr ⟨w.heap.size, 0, #[], rfl, Nat.le_refl _, (MapKept.heap_alloc w _).1, Nat.le_refl _, by unfold maxLen; omega, rfl, rfl⟩⟩
end Go.Proofs.Ytcelbkmnbjcjhaa
namespace Go.Proofs.Ytcelbkmnbjcjhaa
open Go.RowKit Go.Sort

theorem zoneD_no {r : RelD} {nm : ByteArray} (h : relB r = false) : zoneD r nm = zeroZ := by unfold zoneD; rw [if_neg (by rw [h]; simp)]
theorem zoneD_none {r : RelD} {nm : ByteArray} (h : zoneIx r.zones (linkTo r.links nm) = none) : zoneD r nm = zeroZ := by
  unfold zoneD
  split
  · rw [h]
  · rfl
theorem zoneD_some {r : RelD} {nm : ByteArray} {i : Nat} {z : ZoneD} (hr : relB r = true) (h : zoneIx r.zones (linkTo r.links nm) = some i) (hz : r.zones[i]? = some z) : zoneD r nm = z := by
  unfold zoneD
  rw [if_pos hr, h]
  simp only [hz]
theorem size_toList (s : ByteArray) : s.toList.length = s.size := by rw [ByteArray.toList_eq, Array.length_toList]; rfl
theorem rel_zoneok {r : RelD} (hr : relB r = true) {z : ZoneD} (hz : z ∈ r.zones) : 0 < z.eras.length ∧ nameB z.name = true := by
  have t := rel_of hr
  have := List.all_eq_true.mp t.zones z hz
  unfold zoneP at this
  simp only [Bool.and_eq_true, decide_eq_true_eq] at this
  exact ⟨by omega, this.1⟩
theorem rel_long {r : RelD} (hr : relB r = true) {nm : ByteArray} (h : 8000 < nm.size) : zoneIx r.zones (linkTo r.links nm) = none := by
  have hl : linkTo r.links nm = nm := link_none fun j _ y hy => by
    have h1 := List.all_eq_true.mp (rel_of hr).links y (List.mem_of_getElem? hy)
    unfold linkB at h1
    simp only [Bool.and_eq_true] at h1
    have := (nameB_t h1.2).2.1
    cases hb : (y.name.toList == nm.toList)
    · rfl
    · have e := congrArg List.length (beq_iff_eq.mp hb)
      rw [size_toList, size_toList] at e
      omega
  rw [hl]
  refine zone_none fun j _ y hy => ?_
  have := (nameB_t (rel_zoneok hr (List.mem_of_getElem? hy)).2).2.1
  cases hb : (y.name.toList == nm.toList)
  · rfl
  · have e := congrArg List.length (beq_iff_eq.mp hb)
    rw [size_toList, size_toList] at e
    omega
theorem OwnEra.set {w : World} {B : Nat} {v : Value} {es : List EraD} (h : OwnEra w B v es) {p i : Nat} (hp : p < B) (x : Value) : OwnEra (w.setCell ⟨p, i, none⟩ x) B v es := by
  rcases h with h | ⟨g, cap, hv, hg, hl, h1, h2⟩
  · exact .inl h
  · refine .inr ⟨g, cap, hv, hg, by simpa using hl, h1.keep fun y => World.cell?_setCell_other _ _ _ _ (ne_blk2 (by omega)), h2.set _ _⟩
theorem ownEra_zero (w : World) (B : Nat) : OwnEra w B (.slice none 0 0) zeroZ.eras := .inl ⟨rfl, rfl⟩
end Go.Proofs.Ytcelbkmnbjcjhaa
namespace Go.Proofs.Ytcelbkmnbjcjhaa
open Go.RowKit Go.Sort

end Go.Proofs.Ytcelbkmnbjcjhaa
