/- Packed: Zone1 Zone2 Zone3 Zone4 Zone5. -/
import Derived.Test.YtbbhpfobcelbfaaGreatDoorRightWt
import Derived.Lib.SliceRun
import Derived.Deep.RegionHeld3
namespace Go.Proofs.YtbbhpfobcelbfaaGreatDoor
open Go.RowKit Go.Sort

def linkTo (ls : List LinkD) (nm : ByteArray) : ByteArray := match ls.find? (fun l => l.name.toList == nm.toList) with
  | some l => l.to_
  | none => nm
def zoneIx (zs : List ZoneD) (nm : ByteArray) : Option Nat := zs.findIdx? fun z => z.name.toList == nm.toList
def zeroZ : ZoneD := ⟨⟨#[]⟩, []⟩
def zoneD (r : RelD) (nm : ByteArray) : ZoneD := if relB r = true then (match zoneIx r.zones (linkTo r.links nm) with
  | some i => (match r.zones[i]? with | some z => z | none => zeroZ)
  | none => zeroZ) else zeroZ
theorem find_hit {α : Type} {l : List α} {p : α → Bool} {k : Nat} {x : α} (hx : l[k]? = some x) (hp : p x = true) (hn : ∀ j, j < k → ∀ y, l[j]? = some y → p y = false) : l.find? p = some x := by
  induction l generalizing k with
  | nil => simp at hx
  | cons a l ih =>
    cases k with
    | zero => simp at hx; subst hx; simp [hp]
    | succ k =>
      have h0 := hn 0 (by omega) a rfl
      rw [List.find?_cons, h0]
      exact ih (by simpa using hx) fun j hj y hy => hn (j + 1) (by omega) y (by simpa using hy)
theorem find_none {α : Type} {l : List α} {p : α → Bool} (hn : ∀ j, j < l.length → ∀ y, l[j]? = some y → p y = false) : l.find? p = none := by
  rw [List.find?_eq_none]
  intro x hx
  obtain ⟨j, hj⟩ := List.getElem?_of_mem hx
  have := hn j (List.getElem?_eq_some_iff.mp hj).1 x hj
  simp [this]
theorem ix_hit {α : Type} {l : List α} {p : α → Bool} {k : Nat} {x : α} (hx : l[k]? = some x) (hp : p x = true) (hn : ∀ j, j < k → ∀ y, l[j]? = some y → p y = false) : l.findIdx? p = some k := by
  induction l generalizing k with
  | nil => simp at hx
  | cons a l ih =>
    cases k with
    | zero => simp at hx; subst hx; simp [List.findIdx?_cons, hp]
    | succ k =>
      have h0 := hn 0 (by omega) a rfl
      rw [List.findIdx?_cons, h0]
      have := ih (k := k) (by simpa using hx) fun j hj y hy => hn (j + 1) (by omega) y (by simpa using hy)
      simp [this]
theorem ix_none {α : Type} {l : List α} {p : α → Bool} (hn : ∀ j, j < l.length → ∀ y, l[j]? = some y → p y = false) : l.findIdx? p = none := by
  rw [List.findIdx?_eq_none_iff]
  intro x hx
  obtain ⟨j, hj⟩ := List.getElem?_of_mem hx
  exact hn j (List.getElem?_eq_some_iff.mp hj).1 x hj
theorem link_hit {ls : List LinkD} {nm : ByteArray} {k : Nat} {x : LinkD} (hx : ls[k]? = some x) (hp : (x.name.toList == nm.toList) = true) (hn : ∀ j, j < k → ∀ y, ls[j]? = some y → (y.name.toList == nm.toList) = false) : linkTo ls nm = x.to_ := by unfold linkTo; rw [find_hit hx hp hn]
theorem link_none {ls : List LinkD} {nm : ByteArray} (hn : ∀ j, j < ls.length → ∀ y, ls[j]? = some y → (y.name.toList == nm.toList) = false) : linkTo ls nm = nm := by unfold linkTo; rw [find_none hn]
theorem zone_hit {zs : List ZoneD} {nm : ByteArray} {k : Nat} {x : ZoneD} (hx : zs[k]? = some x) (hp : (x.name.toList == nm.toList) = true) (hn : ∀ j, j < k → ∀ y, zs[j]? = some y → (y.name.toList == nm.toList) = false) : zoneIx zs nm = some k := ix_hit hx hp hn
theorem zone_none {zs : List ZoneD} {nm : ByteArray} (hn : ∀ j, j < zs.length → ∀ y, zs[j]? = some y → (y.name.toList == nm.toList) = false) : zoneIx zs nm = none := ix_none hn
theorem zoneIx_lt {zs : List ZoneD} {nm : ByteArray} {i : Nat} (h : zoneIx zs nm = some i) : i < zs.length := (List.findIdx?_eq_some_iff_getElem.mp h).1
def ixI (o : Option Nat) : Int := match o with
  | some i => i
  | none => -1
end Go.Proofs.YtbbhpfobcelbfaaGreatDoor
namespace Go.Proofs.YtbbhpfobcelbfaaGreatDoor
open Go.RowKit Go.Sort

set_option maxHeartbeats 4000000 in
theorem spec_l02Find (r : RelD) (v : Value) (nm : ByteArray) (w : World) (hv : RelAt w v r) (sm : r.small) :
    Calls Tryz.prog 47 #[v, .string nm] w fun e w' => e = .returned (.int .i64 (ixI (zoneIx r.zones (linkTo r.links nm)))) ∧ Below w.heap.size w w' := by
  obtain ⟨a, b, c, ca, cb, cc, rfl, _, hZ, hA⟩ := hv.form
  obtain ⟨m1, m2, m3, m4⟩ := sm
  have hB0 := (Below.refl w.heap.size w).alloc (Nat.le_refl _) (.cells #[.slice a r.rules.length ca, .slice b r.zones.length cb, .slice c r.links.length cc] 27)
  have hA1 := hA.below hB0
  have hZ1 := hZ.below hB0
  have x1 : (w.alloc (.cells #[.slice a r.rules.length ca, .slice b r.zones.length cb, .slice c r.links.length cc] 27)).cell? ⟨w.heap.size, 1, none⟩ = some (.slice b r.zones.length cb) := by simp [go_sem]
  have x2 : (w.alloc (.cells #[.slice a r.rules.length ca, .slice b r.zones.length cb, .slice c r.links.length cc] 27)).cell? ⟨w.heap.size, 2, none⟩ = some (.slice c r.links.length cc) := by simp [go_sem]
  clear hv hA hZ
  go_enter Tryz.func47, Tryz.ntmps47
  go_wp2
  generalize (w.alloc (.cells #[.slice a r.rules.length ca, .slice b r.zones.length cb, .slice c r.links.length cc] 27)) = W at *
  go_loop [1, 5] (fun s i => ∃ k : Nat, k ≤ r.links.length ∧ s = .string nm ∧ i = .int .i64 k ∧ Hid (∀ j, j < k → ∀ y, r.links[j]? = some y → (y.name.toList == nm.toList) = false)) (fun _ i => r.links.length - (intOf i).toNat)
  case atStart => exact ⟨0, by omega, rfl, rfl, fun j hj => by omega⟩
  case round =>
    obtain ⟨k, hk, rfl, rfl, hall⟩ := hrel
    by_cases hlt : k < r.links.length
    · obtain ⟨x, hx⟩ : ∃ x, r.links[k]? = some x := ⟨_, List.getElem?_eq_getElem hlt⟩
      obtain ⟨b', o, rfl, hc⟩ := hA1.at (i := k) (r := x.cs) (by rw [List.getElem?_map, hx]; rfl)
      have c0 : W.cell? ⟨b', o + k * 2, none⟩ = some (.string x.to_) := hc 0 _ rfl
      have c1 := hc 1 _ rfl
      clear hc
      cases hb : (x.name.toList == nm.toList)
      · have HR : Hid (∀ j, j < k + 1 → ∀ y, r.links[j]? = some y → (y.name.toList == nm.toList) = false) := fun j hj y hy => by
          by_cases e : j = k
          · subst e; rw [hx] at hy; obtain rfl := Option.some.inj hy; exact hb
          · exact hall.out j (by omega) y hy
        go_wp2
        go_round
        case rel => exact ⟨k + 1, by omega, rfl, by go_num, HR⟩
        case measure => simp [intOf]; omega
      · have HL : Hid (linkTo r.links nm = x.to_) := link_hit hx hb hall.out
        clear hall
        go_wp2
        go_loop [6] (fun i => ∃ k : Nat, k ≤ r.zones.length ∧ i = .int .i64 k ∧ Hid (∀ j, j < k → ∀ y, r.zones[j]? = some y → (y.name.toList == x.to_.toList) = false)) (fun i => r.zones.length - (intOf i).toNat)
        case atStart => exact ⟨0, by omega, rfl, fun j hj => by omega⟩
        case round =>
          obtain ⟨k, hk, rfl, hall⟩ := hrel
          by_cases hlt : k < r.zones.length
          · obtain ⟨z, hx⟩ : ∃ z, r.zones[k]? = some z := ⟨_, List.getElem?_eq_getElem hlt⟩
            obtain ⟨b', o, rfl, c0, u, c1, hu⟩ := hZ1.at hx
            cases hb : (z.name.toList == x.to_.toList)
            · have HR : Hid (∀ j, j < k + 1 → ∀ y, r.zones[j]? = some y → (y.name.toList == x.to_.toList) = false) := fun j hj y hy => by
                by_cases e : j = k
                · subst e; rw [hx] at hy; obtain rfl := Option.some.inj hy; exact hb
                · exact hall.out j (by omega) y hy
              go_wp2
              go_round
              case rel => exact ⟨k + 1, by omega, by go_num, HR⟩
              case measure => simp [intOf]; omega
            · have HR : Hid (ixI (zoneIx r.zones (linkTo r.links nm)) = k) := by simp only [Hid]; rw [HL.out, zone_hit hx hb hall.out]; rfl
              go_wp2
              go_ret
              exact ⟨ret_int HR.out.symm, hB0⟩
          · have e : k = r.zones.length := by omega
            subst e
            have HR : Hid (ixI (zoneIx r.zones (linkTo r.links nm)) = -1) := by simp only [Hid]; rw [HL.out, zone_none hall.out]; rfl
            go_wp2
            go_ret
            exact ⟨ret_int HR.out.symm, hB0⟩
    · have e : k = r.links.length := by omega
      subst e
      have HL : Hid (linkTo r.links nm = nm) := link_none hall.out
      clear hall
      go_wp2
      go_loop [6] (fun i => ∃ k : Nat, k ≤ r.zones.length ∧ i = .int .i64 k ∧ Hid (∀ j, j < k → ∀ y, r.zones[j]? = some y → (y.name.toList == nm.toList) = false)) (fun i => r.zones.length - (intOf i).toNat)
      case atStart => exact ⟨0, by omega, rfl, fun j hj => by omega⟩
      case round =>
        obtain ⟨k, hk, rfl, hall⟩ := hrel
        by_cases hlt : k < r.zones.length
        · obtain ⟨z, hx⟩ : ∃ z, r.zones[k]? = some z := ⟨_, List.getElem?_eq_getElem hlt⟩
          obtain ⟨b', o, rfl, c0, u, c1, hu⟩ := hZ1.at hx
          cases hb : (z.name.toList == nm.toList)
          · have HR : Hid (∀ j, j < k + 1 → ∀ y, r.zones[j]? = some y → (y.name.toList == nm.toList) = false) := fun j hj y hy => by
              by_cases e : j = k
              · subst e; rw [hx] at hy; obtain rfl := Option.some.inj hy; exact hb
              · exact hall.out j (by omega) y hy
            go_wp2
            go_round
            case rel => exact ⟨k + 1, by omega, by go_num, HR⟩
            case measure => simp [intOf]; omega
          · have HR : Hid (ixI (zoneIx r.zones (linkTo r.links nm)) = k) := by simp only [Hid]; rw [HL.out, zone_hit hx hb hall.out]; rfl
            go_wp2
            go_ret
            exact ⟨ret_int HR.out.symm, hB0⟩
        · have e : k = r.zones.length := by omega
          subst e
          have HR : Hid (ixI (zoneIx r.zones (linkTo r.links nm)) = -1) := by simp only [Hid]; rw [HL.out, zone_none hall.out]; rfl
          go_wp2
          go_ret
          exact ⟨ret_int HR.out.symm, hB0⟩
end Go.Proofs.YtbbhpfobcelbfaaGreatDoor
namespace Go.Proofs.YtbbhpfobcelbfaaGreatDoor
open Go.RowKit Go.Sort

theorem flat_atZ {q : Nat} : ∀ {rows : List (List Value)}, (∀ r ∈ rows, r.length = q) → ∀ {i l : Nat}, l < q → rows.flatten[i * q + l]? = (rows[i]?).bind (·[l]?) := by
  intro rows
  induction rows with
  | nil => intro _ i l _; simp
  | cons r rs ih =>
    intro hlen i l hl
    have hr := hlen r (List.mem_cons_self ..)
    rw [List.flatten_cons]
    cases i with
    | zero =>
      rw [Nat.zero_mul, Nat.zero_add, List.getElem?_append_left (by omega)]
      simp
    | succ i =>
      rw [List.getElem?_append_right (by rw [hr, Nat.add_mul]; omega), hr, show (i + 1) * q + l - q = i * q + l by rw [Nat.add_mul]; omega]
      rw [ih (fun r hr => hlen r (List.mem_cons_of_mem _ hr)) hl]
      simp
theorem flat_lenZ {q : Nat} : ∀ {rows : List (List Value)}, (∀ r ∈ rows, r.length = q) → rows.flatten.length = rows.length * q := by
  intro rows
  induction rows with
  | nil => intro _; simp
  | cons r rs ih =>
    intro hlen
    rw [List.flatten_cons, List.length_append, ih fun r hr => hlen r (List.mem_cons_of_mem _ hr), hlen r (List.mem_cons_self ..), List.length_cons, Nat.add_mul]
    omega
def flatE (es : List EraD) : List Value := (es.map EraD.cs).flatten
theorem era_rows (es : List EraD) : ∀ r ∈ es.map EraD.cs, r.length = 6 := fun r hr => by
  obtain ⟨x, _, rfl⟩ := List.mem_map.mp hr; rfl
theorem flatE_len (es : List EraD) : (flatE es).length = es.length * 6 := by
  unfold flatE; rw [flat_lenZ (era_rows es), List.length_map]
theorem flatE_at {es : List EraD} {j : Nat} {u : Value} (h : (flatE es)[j]? = some u) : ∃ r, (es.map EraD.cs)[j / 6]? = some r ∧ r[j % 6]? = some u := by
  have e : j = j / 6 * 6 + j % 6 := by omega
  unfold flatE at h
  rw [e, flat_atZ (era_rows es) (by omega)] at h
  obtain ⟨r, h1, h2⟩ := Option.bind_eq_some_iff.mp h
  exact ⟨r, h1, h2⟩
theorem flatE_cells {w : World} {b o : Nat} {es : List EraD} (hA : SeqAt w (some ⟨b, o, none⟩) 6 (es.map EraD.cs)) (j : Nat) (u : Value) (h : (flatE es)[j]? = some u) : w.cell? ⟨b, o + j, none⟩ = some u := by
  obtain ⟨r, h1, h2⟩ := flatE_at h
  obtain ⟨b', o', he, hc⟩ := hA.at h1
  injection he with he
  injection he with e1 e2
  subst e1 e2
  have := hc _ _ h2
  rw [show o + j / 6 * 6 + j % 6 = o + j by omega] at this
  exact this
theorem flatE_one {es : List EraD} : ∀ u ∈ flatE es, u.oneCell' = true := fun u hu => by
  unfold flatE at hu
  obtain ⟨r, hr, hu⟩ := List.mem_flatten.mp hu
  obtain ⟨x, _, rfl⟩ := List.mem_map.mp hr
  simp only [EraD.cs, List.mem_cons, List.not_mem_nil, or_false] at hu
  rcases hu with rfl | rfl | rfl | rfl | rfl | rfl <;> rfl
/-- a list of eras of one's own, from a block on. -/
def OwnEra (w : World) (B : Nat) (v : Value) (es : List EraD) : Prop :=
  (es = [] ∧ v = .slice none 0 0) ∨ ∃ g cap, v = .slice (some ⟨g, 0, none⟩) es.length cap ∧ B ≤ g ∧ g < w.heap.size ∧ SeqAt w (some ⟨g, 0, none⟩) 6 (es.map EraD.cs) ∧ Room w g (es.length * 6)
theorem OwnEra.below {w w' : World} {B : Nat} {v : Value} {es : List EraD} (h : OwnEra w B v es) (hb : Below w.heap.size w w') : OwnEra w' B v es := by
  rcases h with h | ⟨g, cap, hv, hg, hl, h1, h2⟩
  · exact .inl h
  · exact .inr ⟨g, cap, hv, hg, Nat.lt_of_lt_of_le hl hb.size, h1.below hb, h2.below hb⟩
theorem OwnEra.sl {w : World} {B : Nat} {v : Value} {es : List EraD} (h : OwnEra w B v es) : EraSl w v es := by
  rcases h with ⟨rfl, rfl⟩ | ⟨g, cap, hv, _, _, h1, _⟩
  · exact ⟨none, 0, rfl, .inl rfl⟩
  · exact ⟨_, _, hv, h1⟩
theorem OwnEra.mono {w : World} {B B2 : Nat} {v : Value} {es : List EraD} (h : OwnEra w B v es) (hb : B2 ≤ B) : OwnEra w B2 v es := by
  rcases h with h | ⟨g, cap, hv, hg, rest⟩
  · exact .inl h
  · exact .inr ⟨g, cap, hv, by omega, rest⟩
theorem own_eras {w : World} {B : Nat} {e : TypeId} {v : Value} {es : List EraD} (h : w.ownsRow B e 6 v es.length (flatE es)) (hn : 0 < es.length) : OwnEra w B v es := by
  rcases h.2 with ⟨_, h0⟩ | ⟨g, cap, cur, hv, hg, hh, hc, hm, hs, ht⟩
  · omega
  · have hlt : g < w.heap.size := by
      rcases Nat.lt_or_ge g w.heap.size with h' | h'
      · exact h'
      · rw [Array.getElem?_eq_none h'] at hh; cases hh
    refine .inr ⟨g, cap, hv, hg, hlt, .inr ⟨g, 0, rfl, fun i j r c hi hj => ?_⟩, fun x hx => ?_⟩
    · have hj6 : j < 6 := by
        have := era_rows es r (List.mem_of_getElem? hi)
        have := (List.getElem?_eq_some_iff.mp hj).1
        omega
      have hil : i < es.length := by have := (List.getElem?_eq_some_iff.mp hi).1; simpa using this
      have e1 : (cur.toList.take (es.length * 6))[i * 6 + j]? = (flatE es)[i * 6 + j]? := by rw [ht]
      unfold flatE at e1
      rw [flat_atZ (era_rows es) hj6, hi] at e1
      rw [List.getElem?_take, if_pos (by omega), Array.getElem?_toList] at e1
      simp only [World.cell?, hh, Nat.zero_add]
      simp only [Option.isSome_none, Bool.false_eq_true, if_false]
      rw [e1]
      exact hj
    · have hx' : x < cur.size := by have : es.length * 6 ≤ cap * 6 := Nat.mul_le_mul_right 6 hc; omega
      exact ⟨⟨cur[x], by simp [World.cell?, hh, hx']⟩, by simp [World.frozen?, hh]⟩
theorem ownE_empty (w : World) (t : TypeId) : (w.alloc (.cells #[] t)).ownsRow w.heap.size t 6 (.slice (some ⟨w.heap.size, 0, none⟩) 0 0) 0 [] :=
  ⟨rfl, .inr ⟨w.heap.size, 0, #[], rfl, Nat.le_refl _, (MapKept.heap_alloc w _).1, Nat.le_refl _, by unfold maxLen; omega, rfl, rfl⟩⟩
set_option maxRecDepth 20000 in
set_option maxHeartbeats 2000000 in
theorem impl_cloneEra (es : List EraD) (b o cap : Nat) (w : World) (hA : SeqAt w (some ⟨b, o, none⟩) 6 (es.map EraD.cs)) (hn : 0 < es.length) (hl : es.length ≤ 1048576) :
    Calls Tryz.prog 95 #[.slice (some ⟨b, o, none⟩) es.length cap] w fun e w' => ∃ v', e = .returned v' ∧ OwnEra w' w.heap.size v' es ∧ Below w.heap.size w w' := by
  obtain ⟨i0, hi, hz0, hz1, hz2⟩ := infoEra
  have q22 : ∀ (w : World) (a : Option Addr) (n c n' c' : Nat), (binOp .eql 47 (.slice a n c) (.slice none n' c')).run Tryz.prog w = .ok (.bool a.isNone) w := fun w a n c n' c' => Lib.run_eql_slice_nil w _ _ a n c n' c' Tryz.underlying47
  have hcells := flatE_cells hA
  have HC : Hid (∀ j u, (flatE es)[j]? = some u → w.cell? ⟨b, o + j, none⟩ = some u) := hcells
  clear hcells
  go_enter Tryz.func95, Tryz.ntmps95
  go_wp2_with (at_builtin; refine wpList_append_own _ rfl _ _ 47 rfl w.heap.size 55 i0 _ 6 72 Tryz.underlying47 hi hz0 hz1 hz2 rfl (by decide) _ _ _ rfl (ownE_empty w 55) ⟨b, o, none⟩ es.length cap (flatE es) rfl ?qc1 ?qc2 ?qc3 ?qc4 ?qc5 ?qc6 ?_)
  case qc1 => exact flatE_len es
  case qc2 =>
    intro j u hj
    rw [Addr.add_lit]
    exact Lib.cell?_alloc_some _ (HC.out j u hj)
  case qc3 => exact flatE_one
  case qc4 => unfold maxLen; omega
  case qc5 => omega
  case qc6 => simp
  intro v' w1 hown hgrow hnil
  go_wp2
  go_ret
  refine ⟨v', rfl, own_eras (by simpa using hown) hn, ((Below.refl _ w).alloc (Nat.le_refl _) _).grown hgrow (by simp) (by intro k hk; simp [Value.ownBlock] at hk; omega)⟩
end Go.Proofs.YtbbhpfobcelbfaaGreatDoor
namespace Go.Proofs.YtbbhpfobcelbfaaGreatDoor
open Go.RowKit Go.Sort

theorem zoneD_no {r : RelD} {nm : ByteArray} (h : relB r = false) : zoneD r nm = zeroZ := by unfold zoneD; rw [if_neg (by rw [h]; simp)]
theorem zoneD_none {r : RelD} {nm : ByteArray} (h : zoneIx r.zones (linkTo r.links nm) = none) : zoneD r nm = zeroZ := by
  unfold zoneD
  split
  · rw [h]
  · rfl
theorem zoneD_some {r : RelD} {nm : ByteArray} {i : Nat} {z : ZoneD} (hr : relB r = true) (h : zoneIx r.zones (linkTo r.links nm) = some i) (hz : r.zones[i]? = some z) : zoneD r nm = z := by
  unfold zoneD
  rw [if_pos hr, h]
  simp only [hz]
theorem size_toList (s : ByteArray) : s.toList.length = s.size := by rw [ByteArray.toList_eq, Array.length_toList]; rfl
theorem rel_zoneok {r : RelD} (hr : relB r = true) {z : ZoneD} (hz : z ∈ r.zones) : 0 < z.eras.length ∧ nameB z.name = true := by
  have t := rel_of hr
  have := List.all_eq_true.mp t.zones z hz
  unfold zoneP at this
  simp only [Bool.and_eq_true, decide_eq_true_eq] at this
  exact ⟨by omega, this.1⟩
theorem rel_long {r : RelD} (hr : relB r = true) {nm : ByteArray} (h : 8000 < nm.size) : zoneIx r.zones (linkTo r.links nm) = none := by
  have hl : linkTo r.links nm = nm := link_none fun j _ y hy => by
    have h1 := List.all_eq_true.mp (rel_of hr).links y (List.mem_of_getElem? hy)
    unfold linkB at h1
    simp only [Bool.and_eq_true] at h1
    have := (nameB_t h1.2).2.1
    cases hb : (y.name.toList == nm.toList)
    · rfl
    · have e := congrArg List.length (beq_iff_eq.mp hb)
      rw [size_toList, size_toList] at e
      omega
  rw [hl]
  refine zone_none fun j _ y hy => ?_
  have := (nameB_t (rel_zoneok hr (List.mem_of_getElem? hy)).2).2.1
  cases hb : (y.name.toList == nm.toList)
  · rfl
  · have e := congrArg List.length (beq_iff_eq.mp hb)
    rw [size_toList, size_toList] at e
    omega
theorem OwnEra.set {w : World} {B : Nat} {v : Value} {es : List EraD} (h : OwnEra w B v es) {p i : Nat} (hp : p < B) (x : Value) : OwnEra (w.setCell ⟨p, i, none⟩ x) B v es := by
  rcases h with h | ⟨g, cap, hv, hg, hl, h1, h2⟩
  · exact .inl h
  · refine .inr ⟨g, cap, hv, hg, by simpa using hl, h1.keep fun y => World.cell?_setCell_other _ _ _ _ (ne_blk2 (by omega)), h2.set _ _⟩
theorem ownEra_zero (w : World) (B : Nat) : OwnEra w B (.slice none 0 0) zeroZ.eras := .inl ⟨rfl, rfl⟩
set_option maxRecDepth 20000 in
set_option maxHeartbeats 4000000 in
theorem spec_ZoneOf (r : RelD) (v : Value) (nm : ByteArray) (w : World) (hv : RelAt w v r) (ok : r.ok) (sm : r.small) (hon : ∀ x ∈ r.rules, x.on.size ≤ 1048576) (hnm : nm.size ≤ 1048576) :
    Calls Tryz.prog 17 #[v, .string nm] w fun e w' => ∃ v', e = .returned (.agg #[.string (zoneD r nm).name, v']) ∧ OwnEra w' w.heap.size v' (zoneD r nm).eras ∧ Below w.heap.size w w' := by
  obtain ⟨a, b, c, ca, cb, cc, hvv, _, hAz, _⟩ := hv.form
  have hF := fun w (h : RelAt w v r) => spec_l02Find r v nm w h sm
  have hS := fun w (h : RelAt w v r) => spec_ReleaseRight r v w h ok sm hon
  obtain ⟨m1, m2, m3, m4⟩ := sm
  subst hvv
  have hB0 := ((Below.refl w.heap.size w).alloc (Nat.le_refl _) (.cells #[.slice a r.rules.length ca, .slice b r.zones.length cb, .slice c r.links.length cc] 27)).alloc (by simp) (.cells #[.string ⟨#[]⟩, .slice none 0 0] 49)
  have x0 : (((w.alloc (.cells #[.slice a r.rules.length ca, .slice b r.zones.length cb, .slice c r.links.length cc] 27)).alloc (.cells #[.string ⟨#[]⟩, .slice none 0 0] 49))).cell? ⟨w.heap.size, 0, none⟩ = some (.slice a r.rules.length ca) := by simp [go_sem]
  have y0 : (((w.alloc (.cells #[.slice a r.rules.length ca, .slice b r.zones.length cb, .slice c r.links.length cc] 27)).alloc (.cells #[.string ⟨#[]⟩, .slice none 0 0] 49))).cell? ⟨w.heap.size, 1, none⟩ = some (.slice b r.zones.length cb) := by simp [go_sem]
  have z0 : (((w.alloc (.cells #[.slice a r.rules.length ca, .slice b r.zones.length cb, .slice c r.links.length cc] 27)).alloc (.cells #[.string ⟨#[]⟩, .slice none 0 0] 49))).cell? ⟨w.heap.size, 2, none⟩ = some (.slice c r.links.length cc) := by simp [go_sem]
  have r0 : (((w.alloc (.cells #[.slice a r.rules.length ca, .slice b r.zones.length cb, .slice c r.links.length cc] 27)).alloc (.cells #[.string ⟨#[]⟩, .slice none 0 0] 49))).cell? ⟨w.heap.size + 1, 0, none⟩ = some (.string ⟨#[]⟩) := by simp [go_sem]
  have s0 : (((w.alloc (.cells #[.slice a r.rules.length ca, .slice b r.zones.length cb, .slice c r.links.length cc] 27)).alloc (.cells #[.string ⟨#[]⟩, .slice none 0 0] 49))).cell? ⟨w.heap.size + 1, 1, none⟩ = some (.slice none 0 0) := by simp [go_sem]
  have f0 : (((w.alloc (.cells #[.slice a r.rules.length ca, .slice b r.zones.length cb, .slice c r.links.length cc] 27)).alloc (.cells #[.string ⟨#[]⟩, .slice none 0 0] 49))).frozen? ⟨w.heap.size + 1, 0, none⟩ = false := by simp [go_sem]
  have g0 : (((w.alloc (.cells #[.slice a r.rules.length ca, .slice b r.zones.length cb, .slice c r.links.length cc] 27)).alloc (.cells #[.string ⟨#[]⟩, .slice none 0 0] 49))).frozen? ⟨w.heap.size + 1, 1, none⟩ = false := by simp [go_sem]
  by_cases hlong : 8000 < nm.size
  · have HZ : Hid (zoneD r nm = zeroZ) := by
      simp only [Hid]
      cases hr : relB r
      · exact zoneD_no hr
      · exact zoneD_none (rel_long hr hlong)
    rw [HZ.out]
    generalize ixI (zoneIx r.zones (linkTo r.links nm)) = ix at *
    go_enter Tryz.func17, Tryz.ntmps17
    go_wp2_with fail
    refine (hF _ (hv.below hB0)).mono ?_
    rintro e w1 ⟨rfl, hb1⟩
    have hB1 := hB0.trans (hb1.mono hB0.size)
    have x1 := ((bcell hb1).1 _ _ (World.block_lt_of_cell? _ _ x0)).trans x0
    have y1 := ((bcell hb1).1 _ _ (World.block_lt_of_cell? _ _ y0)).trans y0
    have z1 := ((bcell hb1).1 _ _ (World.block_lt_of_cell? _ _ z0)).trans z0
    have r1 := ((bcell hb1).1 _ _ (World.block_lt_of_cell? _ _ r0)).trans r0
    have s1 := ((bcell hb1).1 _ _ (World.block_lt_of_cell? _ _ s0)).trans s0
    have f1 := ((bcell hb1).2 _ _ (World.block_lt_of_cell? _ _ r0)).trans f0
    have g1 := ((bcell hb1).2 _ _ (World.block_lt_of_cell? _ _ s0)).trans g0
    clear hb1
    obtain ⟨t0, t1⟩ := set_two (v0 := .string ⟨#[]⟩) (v1 := .slice none 0 0) r1 s1
    go_wp2
    exact bodyPost_ret (v := .agg #[.string ⟨#[]⟩, .slice none 0 0]) (by simp [results, Tryz.results17, go_sem, t0, t1]) rfl ⟨_, rfl, ownEra_zero _ _, (hB1.setCell (show w.heap.size ≤ w.heap.size + 1 by omega) _).setCell (show w.heap.size ≤ w.heap.size + 1 by omega) _⟩
  cases hix : zoneIx r.zones (linkTo r.links nm) with
  | none =>
    rw [zoneD_none hix]
    rw [hix] at hF
    simp only [ixI] at hF
    clear hix
    go_enter Tryz.func17, Tryz.ntmps17
    go_wp2_with fail
    refine (hF _ (hv.below hB0)).mono ?_
    rintro e w1 ⟨rfl, hb1⟩
    have hB1 := hB0.trans (hb1.mono hB0.size)
    have x1 := ((bcell hb1).1 _ _ (World.block_lt_of_cell? _ _ x0)).trans x0
    have y1 := ((bcell hb1).1 _ _ (World.block_lt_of_cell? _ _ y0)).trans y0
    have z1 := ((bcell hb1).1 _ _ (World.block_lt_of_cell? _ _ z0)).trans z0
    have r1 := ((bcell hb1).1 _ _ (World.block_lt_of_cell? _ _ r0)).trans r0
    have s1 := ((bcell hb1).1 _ _ (World.block_lt_of_cell? _ _ s0)).trans s0
    have f1 := ((bcell hb1).2 _ _ (World.block_lt_of_cell? _ _ r0)).trans f0
    have g1 := ((bcell hb1).2 _ _ (World.block_lt_of_cell? _ _ s0)).trans g0
    clear hb1
    obtain ⟨t0, t1⟩ := set_two (v0 := .string ⟨#[]⟩) (v1 := .slice none 0 0) r1 s1
    go_wp2
    exact bodyPost_ret (v := .agg #[.string ⟨#[]⟩, .slice none 0 0]) (by simp [results, Tryz.results17, go_sem, t0, t1]) rfl ⟨_, rfl, ownEra_zero _ _, (hB1.setCell (show w.heap.size ≤ w.heap.size + 1 by omega) _).setCell (show w.heap.size ≤ w.heap.size + 1 by omega) _⟩
  | some i =>
    have hil := zoneIx_lt hix
    obtain ⟨z, hz⟩ : ∃ z, r.zones[i]? = some z := ⟨_, List.getElem?_eq_getElem hil⟩
    cases hr : relB r
    · rw [zoneD_no hr]
      rw [hix] at hF
      simp only [ixI] at hF
      rw [hr] at hS
      clear hix hr
      go_enter Tryz.func17, Tryz.ntmps17
      go_wp2_with fail
      refine (hF _ (hv.below hB0)).mono ?_
      rintro e w1 ⟨rfl, hb1⟩
      have hB1 := hB0.trans (hb1.mono hB0.size)
      have x1 := ((bcell hb1).1 _ _ (World.block_lt_of_cell? _ _ x0)).trans x0
      have y1 := ((bcell hb1).1 _ _ (World.block_lt_of_cell? _ _ y0)).trans y0
      have z1 := ((bcell hb1).1 _ _ (World.block_lt_of_cell? _ _ z0)).trans z0
      have r1 := ((bcell hb1).1 _ _ (World.block_lt_of_cell? _ _ r0)).trans r0
      have s1 := ((bcell hb1).1 _ _ (World.block_lt_of_cell? _ _ s0)).trans s0
      have f1 := ((bcell hb1).2 _ _ (World.block_lt_of_cell? _ _ r0)).trans f0
      have g1 := ((bcell hb1).2 _ _ (World.block_lt_of_cell? _ _ s0)).trans g0
      clear hb1
      go_wp2_with fail
      refine (hS _ (hv.below hB1)).mono ?_
      rintro e w2 ⟨rfl, hb2⟩
      have hB2 := hB1.trans (hb2.mono hB1.size)
      have x2 := ((bcell hb2).1 _ _ (World.block_lt_of_cell? _ _ x1)).trans x1
      have y2 := ((bcell hb2).1 _ _ (World.block_lt_of_cell? _ _ y1)).trans y1
      have z2 := ((bcell hb2).1 _ _ (World.block_lt_of_cell? _ _ z1)).trans z1
      have r2 := ((bcell hb2).1 _ _ (World.block_lt_of_cell? _ _ r1)).trans r1
      have s2 := ((bcell hb2).1 _ _ (World.block_lt_of_cell? _ _ s1)).trans s1
      have f2 := ((bcell hb2).2 _ _ (World.block_lt_of_cell? _ _ r1)).trans f1
      have g2 := ((bcell hb2).2 _ _ (World.block_lt_of_cell? _ _ s1)).trans g1
      clear hb2
      obtain ⟨t0, t1⟩ := set_two (v0 := .string ⟨#[]⟩) (v1 := .slice none 0 0) r2 s2
      go_wp2
      exact bodyPost_ret (v := .agg #[.string ⟨#[]⟩, .slice none 0 0]) (by simp [results, Tryz.results17, go_sem, t0, t1]) rfl ⟨_, rfl, ownEra_zero _ _, (hB2.setCell (show w.heap.size ≤ w.heap.size + 1 by omega) _).setCell (show w.heap.size ≤ w.heap.size + 1 by omega) _⟩
    · have hzok := rel_zoneok hr (List.mem_of_getElem? hz)
      have hel := m4 z (List.mem_of_getElem? hz)
      rw [zoneD_some hr hix hz]
      rw [hix] at hF
      simp only [ixI] at hF
      rw [hr] at hS
      clear hix hr
      obtain ⟨i0, hi, hz0, hz1, hz2⟩ := infoEra
      go_enter Tryz.func17, Tryz.ntmps17
      go_wp2_with fail
      refine (hF _ (hv.below hB0)).mono ?_
      rintro e w1 ⟨rfl, hb1⟩
      have hB1 := hB0.trans (hb1.mono hB0.size)
      have x1 := ((bcell hb1).1 _ _ (World.block_lt_of_cell? _ _ x0)).trans x0
      have y1 := ((bcell hb1).1 _ _ (World.block_lt_of_cell? _ _ y0)).trans y0
      have z1 := ((bcell hb1).1 _ _ (World.block_lt_of_cell? _ _ z0)).trans z0
      have r1 := ((bcell hb1).1 _ _ (World.block_lt_of_cell? _ _ r0)).trans r0
      have s1 := ((bcell hb1).1 _ _ (World.block_lt_of_cell? _ _ s0)).trans s0
      have f1 := ((bcell hb1).2 _ _ (World.block_lt_of_cell? _ _ r0)).trans f0
      have g1 := ((bcell hb1).2 _ _ (World.block_lt_of_cell? _ _ s0)).trans g0
      clear hb1
      go_wp2_with fail
      refine (hS _ (hv.below hB1)).mono ?_
      rintro e w2 ⟨rfl, hb2⟩
      have hB2 := hB1.trans (hb2.mono hB1.size)
      have x2 := ((bcell hb2).1 _ _ (World.block_lt_of_cell? _ _ x1)).trans x1
      have y2 := ((bcell hb2).1 _ _ (World.block_lt_of_cell? _ _ y1)).trans y1
      have z2 := ((bcell hb2).1 _ _ (World.block_lt_of_cell? _ _ z1)).trans z1
      have r2 := ((bcell hb2).1 _ _ (World.block_lt_of_cell? _ _ r1)).trans r1
      have s2 := ((bcell hb2).1 _ _ (World.block_lt_of_cell? _ _ s1)).trans s1
      have f2 := ((bcell hb2).2 _ _ (World.block_lt_of_cell? _ _ r1)).trans f1
      have g2 := ((bcell hb2).2 _ _ (World.block_lt_of_cell? _ _ s1)).trans g1
      clear hb2 hS hF
      obtain ⟨b', o', rfl, c0, u, c1, hu⟩ := (hAz.below hB2).at hz
      obtain ⟨ae, ce, rfl, hE⟩ := hu
      obtain ⟨e0, he0⟩ : ∃ e, z.eras[0]? = some e := ⟨_, List.getElem?_eq_getElem hzok.1⟩
      obtain ⟨be, oe, rfl, _⟩ := hE.at (i := 0) (r := e0.cs) (by rw [List.getElem?_map, he0]; rfl)
      have HC : Hid (∀ j u, (flatE z.eras)[j]? = some u → w2.cell? ⟨be, oe + j, none⟩ = some u) := flatE_cells hE
      have i1 : (0 : Int) ≤ (i : Int) := by omega
      have i2 : (i : Int) < (r.zones.length : Int) := by omega
      clear hE he0
      have hO : ((w2.alloc (.cells #[.string z.name, .slice (some ⟨be, oe, none⟩) z.eras.length ce] 49)).alloc (.cells #[] 55)).ownsRow (w2.heap.size + 1) 55 6 (.slice (some ⟨w2.heap.size + 1, 0, none⟩) 0 0) 0 [] := by have := ownE_empty (w2.alloc (.cells #[.string z.name, .slice (some ⟨be, oe, none⟩) z.eras.length ce] 49)) 55; simpa using this
      go_wp2_with (at_builtin; refine wpList_append_own _ rfl _ _ 47 rfl (w2.heap.size + 1) 55 i0 _ 6 72 Tryz.underlying47 hi hz0 hz1 hz2 rfl (by decide) _ _ _ rfl hO ⟨be, oe, none⟩ z.eras.length ce (flatE z.eras) rfl ?qc1 ?qc2 ?qc3 ?qc4 ?qc5 ?qc6 ?_)
      case qc1 => exact flatE_len _
      case qc2 =>
        intro j u hj
        rw [Addr.add_lit]
        exact Lib.cell?_alloc_some _ (Lib.cell?_alloc_some _ (HC.out j u hj))
      case qc3 => exact flatE_one
      case qc4 => unfold maxLen; omega
      case qc5 => omega
      case qc6 => simp
      intro v' w3 hown hgrow hnil
      have hbV : Below w2.heap.size w2 (w2.alloc (.cells #[.string z.name, .slice (some ⟨be, oe, none⟩) z.eras.length ce] 49)) := (Below.refl w2.heap.size w2).alloc (Nat.le_refl _) _
      have hb3 : Below (w2.heap.size + 1) (w2.alloc (.cells #[.string z.name, .slice (some ⟨be, oe, none⟩) z.eras.length ce] 49)) w3 := ((Below.refl _ _).alloc (by simp) _).grown hgrow (by simp) (by intro k hk; simp [Value.ownBlock] at hk; omega)
      have hb3' : Below (w2.alloc (.cells #[.string z.name, .slice (some ⟨be, oe, none⟩) z.eras.length ce] 49)).heap.size (w2.alloc (.cells #[.string z.name, .slice (some ⟨be, oe, none⟩) z.eras.length ce] 49)) w3 := by simpa using hb3
      have hOE := own_eras (by simpa using hown) hzok.1
      have hbw : Below w2.heap.size w2 w3 := hbV.trans (hb3.mono (by omega))
      have hB3 := hB2.trans (hbw.mono hB2.size)
      have k0 : w3.cell? ⟨w2.heap.size, 0, none⟩ = some (.string z.name) := ((bcell hb3').1 _ _ (by simp)).trans (by simp [go_sem])
      have k1 : w3.cell? ⟨w2.heap.size, 1, none⟩ = some (.slice (some ⟨be, oe, none⟩) z.eras.length ce) := ((bcell hb3').1 _ _ (by simp)).trans (by simp [go_sem])
      have kf : w3.frozen? ⟨w2.heap.size, 1, none⟩ = false := ((bcell hb3').2 _ _ (by simp)).trans (by simp [go_sem])
      have r3 := ((bcell hbw).1 _ _ (World.block_lt_of_cell? _ _ r2)).trans r2
      have s3 := ((bcell hbw).1 _ _ (World.block_lt_of_cell? _ _ s2)).trans s2
      have f3 := ((bcell hbw).2 _ _ (World.block_lt_of_cell? _ _ r2)).trans f2
      have g3 := ((bcell hbw).2 _ _ (World.block_lt_of_cell? _ _ s2)).trans g2
      have hsz2 : w.heap.size + 1 < w2.heap.size := World.block_lt_of_cell? _ _ r2
      clear hown hgrow hbV hb3 hb3' hbw HC x0 y0 z0 r0 s0 f0 g0 x1 y1 z1 r1 s1 f1 g1 x2 y2 z2 r2 s2 f2 g2 c0 c1
      rcases hOE with ⟨h0, _⟩ | ⟨g, cap, rfl, hg, hlg, hq1, hq2⟩
      · rw [h0] at hzok; simp at hzok
      have hOE : OwnEra w3 (w2.heap.size + 1) (.slice (some ⟨g, 0, none⟩) z.eras.length cap) z.eras := .inr ⟨g, cap, rfl, hg, hlg, hq1, hq2⟩
      clear hq1 hq2
      have K1 := World.cell?_setCell_same w3 _ (.slice (some ⟨g, 0, none⟩) z.eras.length cap) k1
      have K0 : (w3.setCell ⟨w2.heap.size, 1, none⟩ (.slice (some ⟨g, 0, none⟩) z.eras.length cap)).cell? ⟨w2.heap.size, 0, none⟩ = some (.string z.name) := by rw [World.cell?_setCell_other _ _ _ _ (by simp)]; exact k0
      have R4 : (w3.setCell ⟨w2.heap.size, 1, none⟩ (.slice (some ⟨g, 0, none⟩) z.eras.length cap)).cell? ⟨w.heap.size + 1, 0, none⟩ = some (.string ⟨#[]⟩) := by rw [World.cell?_setCell_other _ _ _ _ (ne_blk2 (by omega))]; exact r3
      have S4 : (w3.setCell ⟨w2.heap.size, 1, none⟩ (.slice (some ⟨g, 0, none⟩) z.eras.length cap)).cell? ⟨w.heap.size + 1, 1, none⟩ = some (.slice none 0 0) := by rw [World.cell?_setCell_other _ _ _ _ (ne_blk2 (by omega))]; exact s3
      obtain ⟨t0, t1⟩ := set_two (v0 := .string z.name) (v1 := .slice (some ⟨g, 0, none⟩) z.eras.length cap) R4 S4
      have hEnd := ((hOE.set (p := w2.heap.size) (i := 1) (by omega) (.slice (some ⟨g, 0, none⟩) z.eras.length cap)).set (p := w.heap.size + 1) (i := 0) (by omega) (.string z.name)).set (p := w.heap.size + 1) (i := 1) (by omega) (.slice (some ⟨g, 0, none⟩) z.eras.length cap)
      go_wp2
      exact bodyPost_ret (v := .agg #[.string z.name, .slice (some ⟨g, 0, none⟩) z.eras.length cap]) (by simp [results, Tryz.results17, go_sem, t0, t1]) rfl ⟨_, rfl, hEnd.mono (by omega), ((hB3.setCell (show w.heap.size ≤ w2.heap.size by omega) _).setCell (show w.heap.size ≤ w.heap.size + 1 by omega) _).setCell (show w.heap.size ≤ w.heap.size + 1 by omega) _⟩
end Go.Proofs.YtbbhpfobcelbfaaGreatDoor
namespace Go.Proofs.YtbbhpfobcelbfaaGreatDoor
open Go.RowKit Go.Sort

theorem impl_cloneEra2 (es : List EraD) (b o cap : Nat) (w : World) (hA : SeqAt w (some ⟨b, o, none⟩) 6 (es.map EraD.cs)) (hn : 0 < es.length) (hl : es.length ≤ 1048576) :
    Calls Tryz.prog 95 #[.slice (some ⟨b, o, none⟩) es.length cap] w fun e w' => ∃ g cap2, e = .returned (.slice (some ⟨g, 0, none⟩) es.length cap2) ∧ w.heap.size ≤ g ∧ OwnEra w' w.heap.size (.slice (some ⟨g, 0, none⟩) es.length cap2) es ∧ Below w.heap.size w w' := by
  refine (impl_cloneEra es b o cap w hA hn hl).mono ?_
  rintro e w' ⟨v', rfl, hO, hb⟩
  rcases hO with ⟨h0, _⟩ | ⟨g, cap2, rfl, hg, rest⟩
  · rw [h0] at hn; simp at hn
  · exact ⟨g, cap2, rfl, hg, .inr ⟨g, cap2, rfl, hg, rest⟩, hb⟩
set_option maxRecDepth 20000 in
set_option maxHeartbeats 8000000 in
theorem impl_ZoneOf (r : RelD) (v : Value) (nm : ByteArray) (w : World) (hEnv : EnvZ w) (hv : RelAt w v r) (ok : r.ok) (sm : r.small) (hon : ∀ x ∈ r.rules, x.on.size ≤ 1048576) :
    Calls Tryz.prog 44 #[v, .string nm] w fun e w' => ∃ v', e = .returned (.agg #[.string (zoneD r nm).name, v']) ∧ OwnEra w' w.heap.size v' (zoneD r nm).eras ∧ Below w.heap.size w w' := by
  obtain ⟨a, b, c, ca, cb, cc, hvv, _, hAz, hAl⟩ := hv.form
  have hI := fun w hE (h : RelAt w v r) => impl_ReleaseRight r v w hE h ok sm hon
  obtain ⟨m1, m2, m3, m4⟩ := sm
  subst hvv
  have hB0 := ((Below.refl w.heap.size w).alloc (Nat.le_refl _) (.cells #[.slice a r.rules.length ca, .slice b r.zones.length cb, .slice c r.links.length cc] 27)).alloc (by simp) (.cells #[.string ⟨#[]⟩, .slice none 0 0] 49)
  have x0 : (((w.alloc (.cells #[.slice a r.rules.length ca, .slice b r.zones.length cb, .slice c r.links.length cc] 27)).alloc (.cells #[.string ⟨#[]⟩, .slice none 0 0] 49))).cell? ⟨w.heap.size, 0, none⟩ = some (.slice a r.rules.length ca) := by simp [go_sem]
  have y0 : (((w.alloc (.cells #[.slice a r.rules.length ca, .slice b r.zones.length cb, .slice c r.links.length cc] 27)).alloc (.cells #[.string ⟨#[]⟩, .slice none 0 0] 49))).cell? ⟨w.heap.size, 1, none⟩ = some (.slice b r.zones.length cb) := by simp [go_sem]
  have z0 : (((w.alloc (.cells #[.slice a r.rules.length ca, .slice b r.zones.length cb, .slice c r.links.length cc] 27)).alloc (.cells #[.string ⟨#[]⟩, .slice none 0 0] 49))).cell? ⟨w.heap.size, 2, none⟩ = some (.slice c r.links.length cc) := by simp [go_sem]
  have r0 : (((w.alloc (.cells #[.slice a r.rules.length ca, .slice b r.zones.length cb, .slice c r.links.length cc] 27)).alloc (.cells #[.string ⟨#[]⟩, .slice none 0 0] 49))).cell? ⟨w.heap.size + 1, 0, none⟩ = some (.string ⟨#[]⟩) := by simp [go_sem]
  have s0 : (((w.alloc (.cells #[.slice a r.rules.length ca, .slice b r.zones.length cb, .slice c r.links.length cc] 27)).alloc (.cells #[.string ⟨#[]⟩, .slice none 0 0] 49))).cell? ⟨w.heap.size + 1, 1, none⟩ = some (.slice none 0 0) := by simp [go_sem]
  have f0 : (((w.alloc (.cells #[.slice a r.rules.length ca, .slice b r.zones.length cb, .slice c r.links.length cc] 27)).alloc (.cells #[.string ⟨#[]⟩, .slice none 0 0] 49))).frozen? ⟨w.heap.size + 1, 0, none⟩ = false := by simp [go_sem]
  have g0 : (((w.alloc (.cells #[.slice a r.rules.length ca, .slice b r.zones.length cb, .slice c r.links.length cc] 27)).alloc (.cells #[.string ⟨#[]⟩, .slice none 0 0] 49))).frozen? ⟨w.heap.size + 1, 1, none⟩ = false := by simp [go_sem]
  cases hrb : relB r
  · rw [zoneD_no hrb]
    rw [hrb] at hI
    clear hrb
    go_enter Tryz.func44, Tryz.ntmps44
    go_wp2_with fail
    refine (hI _ (hEnv.of_below hB0) (hv.below hB0)).mono ?_
    rintro e w1 ⟨rfl, hb1⟩
    have hB1 := hB0.trans (hb1.mono hB0.size)
    have y1 := ((bcell hb1).1 _ _ (World.block_lt_of_cell? _ _ y0)).trans y0
    have z1 := ((bcell hb1).1 _ _ (World.block_lt_of_cell? _ _ z0)).trans z0
    have r1 := ((bcell hb1).1 _ _ (World.block_lt_of_cell? _ _ r0)).trans r0
    have s1 := ((bcell hb1).1 _ _ (World.block_lt_of_cell? _ _ s0)).trans s0
    have f1 := ((bcell hb1).2 _ _ (World.block_lt_of_cell? _ _ r0)).trans f0
    have g1 := ((bcell hb1).2 _ _ (World.block_lt_of_cell? _ _ s0)).trans g0
    clear hb1
    obtain ⟨t0, t1⟩ := set_two (v0 := .string ⟨#[]⟩) (v1 := .slice none 0 0) r1 s1
    go_wp2
    exact bodyPost_ret (v := .agg #[.string ⟨#[]⟩, .slice none 0 0]) (by simp [results, Tryz.results44, go_sem, t0, t1]) rfl ⟨.slice none 0 0, rfl, ownEra_zero _ _, (hB1.setCell (show w.heap.size ≤ w.heap.size + 1 by omega) _).setCell (show w.heap.size ≤ w.heap.size + 1 by omega) _⟩
  have hr : Hid (relB r = true) := hrb
  rw [hrb] at hI
  clear hrb
  go_enter Tryz.func44, Tryz.ntmps44
  go_wp2_with fail
  refine (hI _ (hEnv.of_below hB0) (hv.below hB0)).mono ?_
  rintro e w1 ⟨rfl, hb1⟩
  have hB1 := hB0.trans (hb1.mono hB0.size)
  have y1 := ((bcell hb1).1 _ _ (World.block_lt_of_cell? _ _ y0)).trans y0
  have z1 := ((bcell hb1).1 _ _ (World.block_lt_of_cell? _ _ z0)).trans z0
  have r1 := ((bcell hb1).1 _ _ (World.block_lt_of_cell? _ _ r0)).trans r0
  have s1 := ((bcell hb1).1 _ _ (World.block_lt_of_cell? _ _ s0)).trans s0
  have f1 := ((bcell hb1).2 _ _ (World.block_lt_of_cell? _ _ r0)).trans f0
  have g1 := ((bcell hb1).2 _ _ (World.block_lt_of_cell? _ _ s0)).trans g0
  clear hb1 hI x0 y0 z0 r0 s0 f0 g0
  go_wp2
  go_loopw [1, 16] (fun s i wr => ∃ k : Nat, k ≤ r.links.length ∧ s = .string nm ∧ i = .int .i64 k ∧ Hid (∀ j, j < k → ∀ y, r.links[j]? = some y → (y.name.toList == nm.toList) = false) ∧ Below w1.heap.size w1 wr) (fun _ i _ => r.links.length - (intOf i).toNat)
  case atStart => exact ⟨0, by omega, rfl, rfl, fun j hj => by omega, Below.refl _ _⟩
  case round =>
    obtain ⟨k, hk, rfl, rfl, hall, hb2⟩ := hrel
    have hBw := hB1.trans (hb2.mono hB1.size)
    by_cases hlt : k < r.links.length
    · obtain ⟨x, hx⟩ : ∃ x, r.links[k]? = some x := ⟨_, List.getElem?_eq_getElem hlt⟩
      obtain ⟨b', o, rfl, hc⟩ := (hAl.below hBw).at (i := k) (r := x.cs) (by rw [List.getElem?_map, hx]; rfl)
      have c0 : wr.cell? ⟨b', o + k * 2, none⟩ = some (.string x.to_) := hc 0 _ rfl
      have c1 := hc 1 _ rfl
      clear hc
      have hbl : Below wr.heap.size wr (wr.alloc (.cells #[.string x.to_, .string x.name] 118)) := (Below.refl wr.heap.size wr).alloc (Nat.le_refl _) _
      have hb2' := hb2.trans (hbl.mono hb2.size)
      cases hb : (x.name.toList == nm.toList)
      · have HR : Hid (∀ j, j < k + 1 → ∀ y, r.links[j]? = some y → (y.name.toList == nm.toList) = false) := fun j hj y hy => by
          by_cases e : j = k
          · subst e; rw [hx] at hy; obtain rfl := Option.some.inj hy; exact hb
          · exact hall.out j (by omega) y hy
        go_wp2
        go_roundw
        case rel => exact ⟨k + 1, by omega, rfl, by go_num, HR, hb2'⟩
        case measure => simp [intOf]; omega
      · have HL : Hid (linkTo r.links nm = x.to_) := link_hit hx hb hall.out
        have hBC := hB1.trans (hb2'.mono hB1.size)
        have y2 := ((bcell hb2').1 _ _ (World.block_lt_of_cell? _ _ y1)).trans y1
        have z2 := ((bcell hb2').1 _ _ (World.block_lt_of_cell? _ _ z1)).trans z1
        have r2 := ((bcell hb2').1 _ _ (World.block_lt_of_cell? _ _ r1)).trans r1
        have s2 := ((bcell hb2').1 _ _ (World.block_lt_of_cell? _ _ s1)).trans s1
        have f2 := ((bcell hb2').2 _ _ (World.block_lt_of_cell? _ _ r1)).trans f1
        have g2 := ((bcell hb2').2 _ _ (World.block_lt_of_cell? _ _ s1)).trans g1
        clear hall y1 z1 r1 s1 f1 g1
        go_wp2
        clear hbl hb2 hBw hb2' c0 c1
        generalize (wr.alloc (.cells #[.string x.to_, .string x.name] 118)) = C at *
        go_loopw [30] (fun i wr => ∃ k : Nat, k ≤ r.zones.length ∧ i = .int .i64 k ∧ Hid (∀ j, j < k → ∀ y, r.zones[j]? = some y → (y.name.toList == x.to_.toList) = false) ∧ Below C.heap.size C wr) (fun i _ => r.zones.length - (intOf i).toNat)
        case atStart => exact ⟨0, by omega, rfl, fun j hj => by omega, Below.refl _ _⟩
        case round =>
          obtain ⟨k, hk, rfl, hall, hb3⟩ := hrel
          have hB3 := hBC.trans (hb3.mono hBC.size)
          have y3 := ((bcell hb3).1 _ _ (World.block_lt_of_cell? _ _ y2)).trans y2
          have z3 := ((bcell hb3).1 _ _ (World.block_lt_of_cell? _ _ z2)).trans z2
          have r3 := ((bcell hb3).1 _ _ (World.block_lt_of_cell? _ _ r2)).trans r2
          have s3 := ((bcell hb3).1 _ _ (World.block_lt_of_cell? _ _ s2)).trans s2
          have f3 := ((bcell hb3).2 _ _ (World.block_lt_of_cell? _ _ r2)).trans f2
          have g3 := ((bcell hb3).2 _ _ (World.block_lt_of_cell? _ _ s2)).trans g2
          by_cases hlt2 : k < r.zones.length
          · obtain ⟨z, hz⟩ : ∃ z, r.zones[k]? = some z := ⟨_, List.getElem?_eq_getElem hlt2⟩
            have hzok := rel_zoneok hr.out (List.mem_of_getElem? hz)
            have hel := m4 z (List.mem_of_getElem? hz)
            obtain ⟨b', o, rfl, c0, u, c1, hu⟩ := (hAz.below hB3).at hz
            obtain ⟨ae, ce, rfl, hE⟩ := hu
            obtain ⟨e0, he0⟩ : ∃ e, z.eras[0]? = some e := ⟨_, List.getElem?_eq_getElem hzok.1⟩
            obtain ⟨be, oe, rfl, _⟩ := hE.at (i := 0) (r := e0.cs) (by rw [List.getElem?_map, he0]; rfl)
            clear he0
            have hb4 : Below wr.heap.size wr (wr.alloc (.cells #[.string z.name, .slice (some ⟨be, oe, none⟩) z.eras.length ce] 49)) := (Below.refl wr.heap.size wr).alloc (Nat.le_refl _) _
            cases hb : (z.name.toList == x.to_.toList)
            · have HR : Hid (∀ j, j < k + 1 → ∀ y, r.zones[j]? = some y → (y.name.toList == x.to_.toList) = false) := fun j hj y hy => by
                by_cases e : j = k
                · subst e; rw [hz] at hy; obtain rfl := Option.some.inj hy; exact hb
                · exact hall.out j (by omega) y hy
              go_wp2
              go_roundw
              case rel => exact ⟨k + 1, by omega, by go_num, HR, hb3.trans (hb4.mono hb3.size)⟩
              case measure => simp [intOf]; omega
            · have HZ : Hid (zoneD r nm = z) := zoneD_some hr.out (by rw [HL.out]; exact zone_hit hz hb hall.out) hz
              have hB4 := hB3.trans (hb4.mono hB3.size)
              have y4 := ((bcell hb4).1 _ _ (World.block_lt_of_cell? _ _ y3)).trans y3
              have z4 := ((bcell hb4).1 _ _ (World.block_lt_of_cell? _ _ z3)).trans z3
              have r4 := ((bcell hb4).1 _ _ (World.block_lt_of_cell? _ _ r3)).trans r3
              have s4 := ((bcell hb4).1 _ _ (World.block_lt_of_cell? _ _ s3)).trans s3
              have f4 := ((bcell hb4).2 _ _ (World.block_lt_of_cell? _ _ r3)).trans f3
              have g4 := ((bcell hb4).2 _ _ (World.block_lt_of_cell? _ _ s3)).trans g3
              have hD : Below (wr.alloc (.cells #[.string z.name, .slice (some ⟨be, oe, none⟩) z.eras.length ce] 49)).heap.size (wr.alloc (.cells #[.string z.name, .slice (some ⟨be, oe, none⟩) z.eras.length ce] 49)) (wr.alloc (.cells #[.string z.name, .slice (some ⟨be, oe, none⟩) z.eras.length ce] 49)).drew := ⟨rfl, rfl, rfl, Nat.le_refl _, fun _ _ => rfl⟩
              have hBD := hB4.trans (hD.mono hB4.size)
              have k0 : (wr.alloc (.cells #[.string z.name, .slice (some ⟨be, oe, none⟩) z.eras.length ce] 49)).drew.cell? ⟨wr.heap.size, 0, none⟩ = some (.string z.name) := by simp [go_sem]
              have k1 : (wr.alloc (.cells #[.string z.name, .slice (some ⟨be, oe, none⟩) z.eras.length ce] 49)).drew.cell? ⟨wr.heap.size, 1, none⟩ = some (.slice (some ⟨be, oe, none⟩) z.eras.length ce) := by simp [go_sem]
              have r5 : (wr.alloc (.cells #[.string z.name, .slice (some ⟨be, oe, none⟩) z.eras.length ce] 49)).drew.cell? ⟨w.heap.size + 1, 0, none⟩ = some (.string ⟨#[]⟩) := r4
              have s5 : (wr.alloc (.cells #[.string z.name, .slice (some ⟨be, oe, none⟩) z.eras.length ce] 49)).drew.cell? ⟨w.heap.size + 1, 1, none⟩ = some (.slice none 0 0) := s4
              have f5 : (wr.alloc (.cells #[.string z.name, .slice (some ⟨be, oe, none⟩) z.eras.length ce] 49)).drew.frozen? ⟨w.heap.size + 1, 0, none⟩ = false := f4
              have g5 : (wr.alloc (.cells #[.string z.name, .slice (some ⟨be, oe, none⟩) z.eras.length ce] 49)).drew.frozen? ⟨w.heap.size + 1, 1, none⟩ = false := g4
              have hK := impl_cloneEra2 z.eras be oe ce (wr.alloc (.cells #[.string z.name, .slice (some ⟨be, oe, none⟩) z.eras.length ce] 49)).drew ((hE.below hb4).below hD) hzok.1 hel
              have hsz : w.heap.size + 1 < wr.heap.size := World.block_lt_of_cell? _ _ r3
              have hszD : (wr.alloc (.cells #[.string z.name, .slice (some ⟨be, oe, none⟩) z.eras.length ce] 49)).drew.heap.size = wr.heap.size + 1 := by show (wr.alloc (.cells #[.string z.name, .slice (some ⟨be, oe, none⟩) z.eras.length ce] 49)).heap.size = _; simp
              have hne : w.heap.size + 1 ≠ wr.heap.size := by omega
              have hne2 : wr.heap.size ≠ w.heap.size + 1 := by omega
              clear hE hall hb3 hB3 hB4 hb4
              go_wp2_with fail
              go_region_held3 (fun w' => w'.cell? ⟨wr.heap.size, 0, none⟩ = some (.string z.name) ∧ w'.cell? ⟨wr.heap.size, 1, none⟩ = some (.slice (some ⟨be, oe, none⟩) z.eras.length ce)) (go_keep) (first | (go_at_call 95; refine hK.mono ?_; rintro e w6 ⟨g, cap, rfl, hg, hOE, hb6⟩; have p0 := ((bcell hb6).1 _ _ (World.block_lt_of_cell? _ _ k0)).trans k0; have p1 := ((bcell hb6).1 _ _ (World.block_lt_of_cell? _ _ k1)).trans k1; have r6 := ((bcell hb6).1 _ _ (World.block_lt_of_cell? _ _ r5)).trans r5; have s6 := ((bcell hb6).1 _ _ (World.block_lt_of_cell? _ _ s5)).trans s5; have f6 := ((bcell hb6).2 _ _ (World.block_lt_of_cell? _ _ r5)).trans f5; have g6 := ((bcell hb6).2 _ _ (World.block_lt_of_cell? _ _ s5)).trans g5; have hB6 := hBD.trans (hb6.mono hBD.size)))
              obtain ⟨t0, t1⟩ := set_two (v0 := .string z.name) (v1 := .slice (some ⟨g, 0, none⟩) z.eras.length cap) r6 s6
              have hEnd := (hOE.set (p := w.heap.size + 1) (i := 0) (by omega) (.string z.name)).set (p := w.heap.size + 1) (i := 1) (by omega) (.slice (some ⟨g, 0, none⟩) z.eras.length cap)
              go_wp2
              exact bodyPost_ret (v := .agg #[.string z.name, .slice (some ⟨g, 0, none⟩) z.eras.length cap]) (by simp [results, Tryz.results44, go_sem, t0, t1]) rfl ⟨.slice (some ⟨g, 0, none⟩) z.eras.length cap, by rw [HZ.out], by rw [HZ.out]; exact hEnd.mono (by omega), (hB6.setCell (show w.heap.size ≤ w.heap.size + 1 by omega) _).setCell (show w.heap.size ≤ w.heap.size + 1 by omega) _⟩
          · have e : k = r.zones.length := by omega
            subst e
            have HZ : Hid (zoneD r nm = zeroZ) := zoneD_none (by rw [HL.out]; exact zone_none hall.out)
            obtain ⟨t0, t1⟩ := set_two (v0 := .string ⟨#[]⟩) (v1 := .slice none 0 0) r3 s3
            go_wp2
            exact bodyPost_ret (v := .agg #[.string ⟨#[]⟩, .slice none 0 0]) (by simp [results, Tryz.results44, go_sem, t0, t1]) rfl ⟨.slice none 0 0, by rw [HZ.out]; rfl, by rw [HZ.out]; exact ownEra_zero _ _, (hB3.setCell (show w.heap.size ≤ w.heap.size + 1 by omega) _).setCell (show w.heap.size ≤ w.heap.size + 1 by omega) _⟩
    · have e : k = r.links.length := by omega
      subst e
      have HL : Hid (linkTo r.links nm = nm) := link_none hall.out
      have hBC := hBw
      have y2 := ((bcell hb2).1 _ _ (World.block_lt_of_cell? _ _ y1)).trans y1
      have z2 := ((bcell hb2).1 _ _ (World.block_lt_of_cell? _ _ z1)).trans z1
      have r2 := ((bcell hb2).1 _ _ (World.block_lt_of_cell? _ _ r1)).trans r1
      have s2 := ((bcell hb2).1 _ _ (World.block_lt_of_cell? _ _ s1)).trans s1
      have f2 := ((bcell hb2).2 _ _ (World.block_lt_of_cell? _ _ r1)).trans f1
      have g2 := ((bcell hb2).2 _ _ (World.block_lt_of_cell? _ _ s1)).trans g1
      clear hall y1 z1 r1 s1 f1 g1 hBw
      go_wp2
      clear hb2
      obtain ⟨C, rfl⟩ : ∃ C, C = wr := ⟨_, rfl⟩
      go_loopw [30] (fun i wr => ∃ k : Nat, k ≤ r.zones.length ∧ i = .int .i64 k ∧ Hid (∀ j, j < k → ∀ y, r.zones[j]? = some y → (y.name.toList == nm.toList) = false) ∧ Below C.heap.size C wr) (fun i _ => r.zones.length - (intOf i).toNat)
      case atStart => exact ⟨0, by omega, rfl, fun j hj => by omega, Below.refl _ _⟩
      case round =>
        obtain ⟨k, hk, rfl, hall, hb3⟩ := hrel
        have hB3 := hBC.trans (hb3.mono hBC.size)
        have y3 := ((bcell hb3).1 _ _ (World.block_lt_of_cell? _ _ y2)).trans y2
        have z3 := ((bcell hb3).1 _ _ (World.block_lt_of_cell? _ _ z2)).trans z2
        have r3 := ((bcell hb3).1 _ _ (World.block_lt_of_cell? _ _ r2)).trans r2
        have s3 := ((bcell hb3).1 _ _ (World.block_lt_of_cell? _ _ s2)).trans s2
        have f3 := ((bcell hb3).2 _ _ (World.block_lt_of_cell? _ _ r2)).trans f2
        have g3 := ((bcell hb3).2 _ _ (World.block_lt_of_cell? _ _ s2)).trans g2
        by_cases hlt2 : k < r.zones.length
        · obtain ⟨z, hz⟩ : ∃ z, r.zones[k]? = some z := ⟨_, List.getElem?_eq_getElem hlt2⟩
          have hzok := rel_zoneok hr.out (List.mem_of_getElem? hz)
          have hel := m4 z (List.mem_of_getElem? hz)
          obtain ⟨b', o, rfl, c0, u, c1, hu⟩ := (hAz.below hB3).at hz
          obtain ⟨ae, ce, rfl, hE⟩ := hu
          obtain ⟨e0, he0⟩ : ∃ e, z.eras[0]? = some e := ⟨_, List.getElem?_eq_getElem hzok.1⟩
          obtain ⟨be, oe, rfl, _⟩ := hE.at (i := 0) (r := e0.cs) (by rw [List.getElem?_map, he0]; rfl)
          clear he0
          have hb4 : Below wr.heap.size wr (wr.alloc (.cells #[.string z.name, .slice (some ⟨be, oe, none⟩) z.eras.length ce] 49)) := (Below.refl wr.heap.size wr).alloc (Nat.le_refl _) _
          cases hb : (z.name.toList == nm.toList)
          · have HR : Hid (∀ j, j < k + 1 → ∀ y, r.zones[j]? = some y → (y.name.toList == nm.toList) = false) := fun j hj y hy => by
              by_cases e : j = k
              · subst e; rw [hz] at hy; obtain rfl := Option.some.inj hy; exact hb
              · exact hall.out j (by omega) y hy
            go_wp2
            go_roundw
            case rel => exact ⟨k + 1, by omega, by go_num, HR, hb3.trans (hb4.mono hb3.size)⟩
            case measure => simp [intOf]; omega
          · have HZ : Hid (zoneD r nm = z) := zoneD_some hr.out (by rw [HL.out]; exact zone_hit hz hb hall.out) hz
            have hB4 := hB3.trans (hb4.mono hB3.size)
            have y4 := ((bcell hb4).1 _ _ (World.block_lt_of_cell? _ _ y3)).trans y3
            have z4 := ((bcell hb4).1 _ _ (World.block_lt_of_cell? _ _ z3)).trans z3
            have r4 := ((bcell hb4).1 _ _ (World.block_lt_of_cell? _ _ r3)).trans r3
            have s4 := ((bcell hb4).1 _ _ (World.block_lt_of_cell? _ _ s3)).trans s3
            have f4 := ((bcell hb4).2 _ _ (World.block_lt_of_cell? _ _ r3)).trans f3
            have g4 := ((bcell hb4).2 _ _ (World.block_lt_of_cell? _ _ s3)).trans g3
            have hD : Below (wr.alloc (.cells #[.string z.name, .slice (some ⟨be, oe, none⟩) z.eras.length ce] 49)).heap.size (wr.alloc (.cells #[.string z.name, .slice (some ⟨be, oe, none⟩) z.eras.length ce] 49)) (wr.alloc (.cells #[.string z.name, .slice (some ⟨be, oe, none⟩) z.eras.length ce] 49)).drew := ⟨rfl, rfl, rfl, Nat.le_refl _, fun _ _ => rfl⟩
            have hBD := hB4.trans (hD.mono hB4.size)
            have k0 : (wr.alloc (.cells #[.string z.name, .slice (some ⟨be, oe, none⟩) z.eras.length ce] 49)).drew.cell? ⟨wr.heap.size, 0, none⟩ = some (.string z.name) := by simp [go_sem]
            have k1 : (wr.alloc (.cells #[.string z.name, .slice (some ⟨be, oe, none⟩) z.eras.length ce] 49)).drew.cell? ⟨wr.heap.size, 1, none⟩ = some (.slice (some ⟨be, oe, none⟩) z.eras.length ce) := by simp [go_sem]
            have r5 : (wr.alloc (.cells #[.string z.name, .slice (some ⟨be, oe, none⟩) z.eras.length ce] 49)).drew.cell? ⟨w.heap.size + 1, 0, none⟩ = some (.string ⟨#[]⟩) := r4
            have s5 : (wr.alloc (.cells #[.string z.name, .slice (some ⟨be, oe, none⟩) z.eras.length ce] 49)).drew.cell? ⟨w.heap.size + 1, 1, none⟩ = some (.slice none 0 0) := s4
            have f5 : (wr.alloc (.cells #[.string z.name, .slice (some ⟨be, oe, none⟩) z.eras.length ce] 49)).drew.frozen? ⟨w.heap.size + 1, 0, none⟩ = false := f4
            have g5 : (wr.alloc (.cells #[.string z.name, .slice (some ⟨be, oe, none⟩) z.eras.length ce] 49)).drew.frozen? ⟨w.heap.size + 1, 1, none⟩ = false := g4
            have hK := impl_cloneEra2 z.eras be oe ce (wr.alloc (.cells #[.string z.name, .slice (some ⟨be, oe, none⟩) z.eras.length ce] 49)).drew ((hE.below hb4).below hD) hzok.1 hel
            have hsz : w.heap.size + 1 < wr.heap.size := World.block_lt_of_cell? _ _ r3
            have hszD : (wr.alloc (.cells #[.string z.name, .slice (some ⟨be, oe, none⟩) z.eras.length ce] 49)).drew.heap.size = wr.heap.size + 1 := by show (wr.alloc (.cells #[.string z.name, .slice (some ⟨be, oe, none⟩) z.eras.length ce] 49)).heap.size = _; simp
            have hne : w.heap.size + 1 ≠ wr.heap.size := by omega
            have hne2 : wr.heap.size ≠ w.heap.size + 1 := by omega
            clear hE hall hb3 hB3 hB4 hb4
            go_wp2_with fail
            go_region_held3 (fun w' => w'.cell? ⟨wr.heap.size, 0, none⟩ = some (.string z.name) ∧ w'.cell? ⟨wr.heap.size, 1, none⟩ = some (.slice (some ⟨be, oe, none⟩) z.eras.length ce)) (go_keep) (first | (go_at_call 95; refine hK.mono ?_; rintro e w6 ⟨g, cap, rfl, hg, hOE, hb6⟩; have p0 := ((bcell hb6).1 _ _ (World.block_lt_of_cell? _ _ k0)).trans k0; have p1 := ((bcell hb6).1 _ _ (World.block_lt_of_cell? _ _ k1)).trans k1; have r6 := ((bcell hb6).1 _ _ (World.block_lt_of_cell? _ _ r5)).trans r5; have s6 := ((bcell hb6).1 _ _ (World.block_lt_of_cell? _ _ s5)).trans s5; have f6 := ((bcell hb6).2 _ _ (World.block_lt_of_cell? _ _ r5)).trans f5; have g6 := ((bcell hb6).2 _ _ (World.block_lt_of_cell? _ _ s5)).trans g5; have hB6 := hBD.trans (hb6.mono hBD.size)))
            obtain ⟨t0, t1⟩ := set_two (v0 := .string z.name) (v1 := .slice (some ⟨g, 0, none⟩) z.eras.length cap) r6 s6
            have hEnd := (hOE.set (p := w.heap.size + 1) (i := 0) (by omega) (.string z.name)).set (p := w.heap.size + 1) (i := 1) (by omega) (.slice (some ⟨g, 0, none⟩) z.eras.length cap)
            go_wp2
            exact bodyPost_ret (v := .agg #[.string z.name, .slice (some ⟨g, 0, none⟩) z.eras.length cap]) (by simp [results, Tryz.results44, go_sem, t0, t1]) rfl ⟨.slice (some ⟨g, 0, none⟩) z.eras.length cap, by rw [HZ.out], by rw [HZ.out]; exact hEnd.mono (by omega), (hB6.setCell (show w.heap.size ≤ w.heap.size + 1 by omega) _).setCell (show w.heap.size ≤ w.heap.size + 1 by omega) _⟩
        · have e : k = r.zones.length := by omega
          subst e
          have HZ : Hid (zoneD r nm = zeroZ) := zoneD_none (by rw [HL.out]; exact zone_none hall.out)
          obtain ⟨t0, t1⟩ := set_two (v0 := .string ⟨#[]⟩) (v1 := .slice none 0 0) r3 s3
          go_wp2
          exact bodyPost_ret (v := .agg #[.string ⟨#[]⟩, .slice none 0 0]) (by simp [results, Tryz.results44, go_sem, t0, t1]) rfl ⟨.slice none 0 0, by rw [HZ.out]; rfl, by rw [HZ.out]; exact ownEra_zero _ _, (hB3.setCell (show w.heap.size ≤ w.heap.size + 1 by omega) _).setCell (show w.heap.size ≤ w.heap.size + 1 by omega) _⟩
end Go.Proofs.YtbbhpfobcelbfaaGreatDoor
