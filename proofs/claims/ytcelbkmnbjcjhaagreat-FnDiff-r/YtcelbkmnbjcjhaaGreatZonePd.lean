/- Packed: Zone1 Zone2 Zone3 Zone4 Zone5. -/
import Derived.Test.YtcelbkmnbjcjhaaGreatRightCd
import Derived.Lib.SliceRun
import Derived.Deep.RegionHeld3
namespace Go.Proofs.YtcelbkmnbjcjhaaGreat
open Go.RowKit Go.Sort

def linkTo (ls : List LinkD) (nm : ByteArray) : ByteArray := match ls.find? (fun l => l.name.toList == nm.toList) with
 | some l => l.to_
 | none => nm
def zoneIx (zs : List ZoneD) (nm : ByteArray) : Option Nat := zs.findIdx? fun z => z.name.toList == nm.toList
def zeroZ : ZoneD := ⟨⟨#[]⟩, []⟩
def zoneD (r : RelD) (nm : ByteArray) : ZoneD := if relB r = true then (match zoneIx r.zones (linkTo r.links nm) with
 | some i => (match r.zones[i]? with | some z => z | none => zeroZ)
 | none => zeroZ) else zeroZ
theorem find_hit {α : Type} {l : List α} {p : α → Bool} {k : Nat} {x : α} (hx : l[k]? = some x) (hp : p x = true) (hn : ∀ j, j < k → ∀ y, l[j]? = some y → p y = false) : l.find? p = some x := by
 induction l generalizing k with
 | nil => simp at hx
 | cons a l ih =>
  cases k with
  | zero => simp at hx; subst hx; simp [hp]
  | succ k =>
   have h0 := hn 0 (by omega) a rfl
   rw [List.find?_cons, h0]
   exact ih (by simpa using hx) fun j hj y hy => hn (j + 1) (by omega) y (by simpa using hy)
theorem find_none {α : Type} {l : List α} {p : α → Bool} (hn : ∀ j, j < l.length → ∀ y, l[j]? = some y → p y = false) : l.find? p = none := by
 rw [List.find?_eq_none]
 intro x hx
 obtain ⟨j, hj⟩ := List.getElem?_of_mem hx
 have := hn j (List.getElem?_eq_some_iff.mp hj).1 x hj
 simp [this]
theorem ix_hit {α : Type} {l : List α} {p : α → Bool} {k : Nat} {x : α} (hx : l[k]? = some x) (hp : p x = true) (hn : ∀ j, j < k → ∀ y, l[j]? = some y → p y = false) : l.findIdx? p = some k := by
 induction l generalizing k with
 | nil => simp at hx
 | cons a l ih =>
  cases k with
  | zero => simp at hx; subst hx; simp [List.findIdx?_cons, hp]
  | succ k =>
   have h0 := hn 0 (by omega) a rfl
   rw [List.findIdx?_cons, h0]
   have := ih (k := k) (by simpa using hx) fun j hj y hy => hn (j + 1) (by omega) y (by simpa using hy)
   simp [this]
theorem ix_none {α : Type} {l : List α} {p : α → Bool} (hn : ∀ j, j < l.length → ∀ y, l[j]? = some y → p y = false) : l.findIdx? p = none := by
 rw [List.findIdx?_eq_none_iff]
 intro x hx
 obtain ⟨j, hj⟩ := List.getElem?_of_mem hx
 exact hn j (List.getElem?_eq_some_iff.mp hj).1 x hj
theorem link_hit {ls : List LinkD} {nm : ByteArray} {k : Nat} {x : LinkD} (hx : ls[k]? = some x) (hp : (x.name.toList == nm.toList) = true) (hn : ∀ j, j < k → ∀ y, ls[j]? = some y → (y.name.toList == nm.toList) = false) : linkTo ls nm = x.to_ := by unfold linkTo; rw [find_hit hx hp hn]
theorem link_none {ls : List LinkD} {nm : ByteArray} (hn : ∀ j, j < ls.length → ∀ y, ls[j]? = some y → (y.name.toList == nm.toList) = false) : linkTo ls nm = nm := by unfold linkTo; rw [find_none hn]
theorem zone_hit {zs : List ZoneD} {nm : ByteArray} {k : Nat} {x : ZoneD} (hx : zs[k]? = some x) (hp : (x.name.toList == nm.toList) = true) (hn : ∀ j, j < k → ∀ y, zs[j]? = some y → (y.name.toList == nm.toList) = false) : zoneIx zs nm = some k := ix_hit hx hp hn
theorem zone_none {zs : List ZoneD} {nm : ByteArray} (hn : ∀ j, j < zs.length → ∀ y, zs[j]? = some y → (y.name.toList == nm.toList) = false) : zoneIx zs nm = none := ix_none hn
theorem zoneIx_lt {zs : List ZoneD} {nm : ByteArray} {i : Nat} (h : zoneIx zs nm = some i) : i < zs.length := (List.findIdx?_eq_some_iff_getElem.mp h).1
def ixI (o : Option Nat) : Int := match o with
 | some i => i
 | none => -1
end Go.Proofs.YtcelbkmnbjcjhaaGreat
namespace Go.Proofs.YtcelbkmnbjcjhaaGreat
open Go.RowKit Go.Sort

set_option maxHeartbeats 4000000 in
theorem spec_l02Find (r : RelD) (v : Value) (nm : ByteArray) (w : World) (hv : RelAt w v r) (sm : r.small) :
  Calls Tryz.prog 71 #[v, .string nm] w fun e w' => e = .returned (.int .i64 (ixI (zoneIx r.zones (linkTo r.links nm)))) ∧ Below w.heap.size w w' := by
 obtain ⟨a, b, c, ca, cb, cc, rfl, _, hZ, hA⟩ := hv.form
 obtain ⟨m1, m2, m3, m4⟩ := sm
 have hB0 := (Below.refl w.heap.size w).alloc (Nat.le_refl _) (.cells #[.slice a r.rules.length ca, .slice b r.zones.length cb, .slice c r.links.length cc] 90)
 have hA1 := hA.below hB0
 have hZ1 := hZ.below hB0
 have x1 : (w.alloc (.cells #[.slice a r.rules.length ca, .slice b r.zones.length cb, .slice c r.links.length cc] 90)).cell? ⟨w.heap.size, 1, none⟩ = some (.slice b r.zones.length cb) := by simp [go_sem]
 have x2 : (w.alloc (.cells #[.slice a r.rules.length ca, .slice b r.zones.length cb, .slice c r.links.length cc] 90)).cell? ⟨w.heap.size, 2, none⟩ = some (.slice c r.links.length cc) := by simp [go_sem]
 clear hv hA hZ
 go_enter Tryz.func71, Tryz.ntmps71
 go_wp2
 generalize (w.alloc (.cells #[.slice a r.rules.length ca, .slice b r.zones.length cb, .slice c r.links.length cc] 90)) = W at *
 go_loop [1, 5] (fun s i => ∃ k : Nat, k ≤ r.links.length ∧ s = .string nm ∧ i = .int .i64 k ∧ Hid (∀ j, j < k → ∀ y, r.links[j]? = some y → (y.name.toList == nm.toList) = false)) (fun _ i => r.links.length - (intOf i).toNat)
 case atStart => exact ⟨0, by omega, rfl, rfl, fun j hj => by omega⟩
 case round =>
  obtain ⟨k, hk, rfl, rfl, hall⟩ := hrel
  by_cases hlt : k < r.links.length
  ·
   obtain ⟨x, hx⟩ : ∃ x, r.links[k]? = some x := ⟨_, List.getElem?_eq_getElem hlt⟩
   obtain ⟨b', o, rfl, hc⟩ := hA1.at (i := k) (r := x.cs) (by rw [List.getElem?_map, hx]; rfl)
   have c0 : W.cell? ⟨b', o + k * 2, none⟩ = some (.string x.to_) := hc 0 _ rfl
   have c1 := hc 1 _ rfl
   clear hc
   cases hb : (x.name.toList == nm.toList)
   ·
    have HR : Hid (∀ j, j < k + 1 → ∀ y, r.links[j]? = some y → (y.name.toList == nm.toList) = false) := fun j hj y hy => by
     by_cases e : j = k
     ·
      subst e; rw [hx] at hy; obtain rfl := Option.some.inj hy; exact hb
     ·
      exact hall.out j (by omega) y hy
    go_wp2
    go_round
    case rel => exact ⟨k + 1, by omega, rfl, by go_num, HR⟩
    case measure => simp [intOf]; omega
   ·
    have HL : Hid (linkTo r.links nm = x.to_) := link_hit hx hb hall.out
    clear hall
    go_wp2
    go_loop [6] (fun i => ∃ k : Nat, k ≤ r.zones.length ∧ i = .int .i64 k ∧ Hid (∀ j, j < k → ∀ y, r.zones[j]? = some y → (y.name.toList == x.to_.toList) = false)) (fun i => r.zones.length - (intOf i).toNat)
    case atStart => exact ⟨0, by omega, rfl, fun j hj => by omega⟩
    case round =>
     obtain ⟨k, hk, rfl, hall⟩ := hrel
     by_cases hlt : k < r.zones.length
     ·
      obtain ⟨z, hx⟩ : ∃ z, r.zones[k]? = some z := ⟨_, List.getElem?_eq_getElem hlt⟩
      obtain ⟨b', o, rfl, c0, u, c1, hu⟩ := hZ1.at hx
      cases hb : (z.name.toList == x.to_.toList)
      ·
       have HR : Hid (∀ j, j < k + 1 → ∀ y, r.zones[j]? = some y → (y.name.toList == x.to_.toList) = false) := fun j hj y hy => by
        by_cases e : j = k
        ·
         subst e; rw [hx] at hy; obtain rfl := Option.some.inj hy; exact hb
        ·
         exact hall.out j (by omega) y hy
       go_wp2
       go_round
       case rel => exact ⟨k + 1, by omega, by go_num, HR⟩
       case measure => simp [intOf]; omega
      ·
       have HR : Hid (ixI (zoneIx r.zones (linkTo r.links nm)) = k) := by simp only [Hid]; rw [HL.out, zone_hit hx hb hall.out]; rfl
       go_wp2
       go_ret
       exact ⟨ret_int HR.out.symm, hB0⟩
     ·
      have e : k = r.zones.length := by omega
      subst e
      have HR : Hid (ixI (zoneIx r.zones (linkTo r.links nm)) = -1) := by simp only [Hid]; rw [HL.out, zone_none hall.out]; rfl
      go_wp2
      go_ret
      exact ⟨ret_int HR.out.symm, hB0⟩
  ·
   have e : k = r.links.length := by omega
   subst e
   have HL : Hid (linkTo r.links nm = nm) := link_none hall.out
   clear hall
   go_wp2
   go_loop [6] (fun i => ∃ k : Nat, k ≤ r.zones.length ∧ i = .int .i64 k ∧ Hid (∀ j, j < k → ∀ y, r.zones[j]? = some y → (y.name.toList == nm.toList) = false)) (fun i => r.zones.length - (intOf i).toNat)
   case atStart => exact ⟨0, by omega, rfl, fun j hj => by omega⟩
   case round =>
    obtain ⟨k, hk, rfl, hall⟩ := hrel
    by_cases hlt : k < r.zones.length
    ·
     obtain ⟨z, hx⟩ : ∃ z, r.zones[k]? = some z := ⟨_, List.getElem?_eq_getElem hlt⟩
     obtain ⟨b', o, rfl, c0, u, c1, hu⟩ := hZ1.at hx
     cases hb : (z.name.toList == nm.toList)
     ·
      have HR : Hid (∀ j, j < k + 1 → ∀ y, r.zones[j]? = some y → (y.name.toList == nm.toList) = false) := fun j hj y hy => by
       by_cases e : j = k
       ·
        subst e; rw [hx] at hy; obtain rfl := Option.some.inj hy; exact hb
       ·
        exact hall.out j (by omega) y hy
      go_wp2
      go_round
      case rel => exact ⟨k + 1, by omega, by go_num, HR⟩
      case measure => simp [intOf]; omega
     ·
      have HR : Hid (ixI (zoneIx r.zones (linkTo r.links nm)) = k) := by simp only [Hid]; rw [HL.out, zone_hit hx hb hall.out]; rfl
      go_wp2
      go_ret
      exact ⟨ret_int HR.out.symm, hB0⟩
    ·
     have e : k = r.zones.length := by omega
     subst e
     have HR : Hid (ixI (zoneIx r.zones (linkTo r.links nm)) = -1) := by simp only [Hid]; rw [HL.out, zone_none hall.out]; rfl
     go_wp2
     go_ret
     exact ⟨ret_int HR.out.symm, hB0⟩
end Go.Proofs.YtcelbkmnbjcjhaaGreat
namespace Go.Proofs.YtcelbkmnbjcjhaaGreat
open Go.RowKit Go.Sort

end Go.Proofs.YtcelbkmnbjcjhaaGreat
namespace Go.Proofs.YtcelbkmnbjcjhaaGreat
open Go.RowKit Go.Sort

theorem zoneD_none {r : RelD} {nm : ByteArray} (h : zoneIx r.zones (linkTo r.links nm) = none) : zoneD r nm = zeroZ := by
 unfold zoneD
 split
 ·
  rw [h]
 ·
  rfl
theorem zoneD_some {r : RelD} {nm : ByteArray} {i : Nat} {z : ZoneD} (hr : relB r = true) (h : zoneIx r.zones (linkTo r.links nm) = some i) (hz : r.zones[i]? = some z) : zoneD r nm = z := by
 unfold zoneD
 rw [if_pos hr, h]
 simp only [hz]
end Go.Proofs.YtcelbkmnbjcjhaaGreat
namespace Go.Proofs.YtcelbkmnbjcjhaaGreat
open Go.RowKit Go.Sort

end Go.Proofs.YtcelbkmnbjcjhaaGreat
