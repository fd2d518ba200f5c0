/- No two names alike: the program's. -/
import Derived.Test.YtjdokmllidhapaaGreatDoorRight17
import Derived.Test.YtjdokmllidhapaaGreatDoorShelfSort
import Derived.Lib.SlicesCompact
import Derived.Lib.OwnBridge
import Derived.OwnWalk
namespace Go.Proofs.YtjdokmllidhapaaGreatDoor
open Go.RowKit

theorem compact_len {α : Type} [DecidableEq α] [Inhabited α] (zs : List α) : (Lib.compact zs).length = zs.length ↔ ∀ j, j < zs.length → Lib.keeps zs.toArray j = true := by
  unfold Lib.compact Lib.compactUpTo
  rw [List.length_map]
  have h := List.length_filter_eq_length_iff (p := Lib.keeps zs.toArray) (l := List.range zs.length)
  rw [List.length_range] at h
  rw [h]
  exact ⟨fun h j hj => h j (List.mem_range.mpr hj), fun h j hj => h j (List.mem_range.mp hj)⟩
theorem keeps_iff {α : Type} [DecidableEq α] [Inhabited α] (zs : List α) (j : Nat) (hj : j < zs.length) : Lib.keeps zs.toArray j = true ↔ (j = 0 ∨ zs[j]? ≠ zs[j - 1]?) := by
  unfold Lib.keeps
  rw [decide_eq_true_iff]
  have e : ∀ i, i < zs.length → zs.toArray[i]! = zs[i]! := fun i hi => by simp [hi]
  rw [e j hj, e (j - 1) (by omega)]
  have e2 : ∀ i (hi : i < zs.length), zs[i]! = zs[i] := fun i hi => by simp [hi]
  rw [e2 j hj, e2 (j - 1) (by omega), List.getElem?_eq_getElem hj, List.getElem?_eq_getElem (show j - 1 < zs.length by omega)]
  simp
theorem nodup_of_sorted {l : List (List UInt8)} (hs : l.Pairwise (· ≤ ·)) : (∀ j, j < l.length → (j = 0 ∨ l[j]? ≠ l[j - 1]?)) ↔ l.Nodup := by
  constructor
  · intro h
    rw [List.nodup_iff_pairwise_ne, List.pairwise_iff_getElem]
    intro i j hi hj hij he
    rw [List.pairwise_iff_getElem] at hs
    have h1 : l[i] ≤ l[i + 1] := hs i (i + 1) hi (by omega) (by omega)
    have h2 : l[i + 1] ≤ l[j] := by
      by_cases e : i + 1 = j
      · subst e; exact List.le_refl _
      · exact hs (i + 1) j (by omega) hj (by omega)
    rw [← he] at h2
    have e3 : l[i + 1] = l[i] := List.le_antisymm h2 h1
    rcases h (i + 1) (by omega) with h4 | h4
    · omega
    · apply h4
      rw [show i + 1 - 1 = i by omega, List.getElem?_eq_getElem (show i + 1 < l.length by omega), List.getElem?_eq_getElem hi, e3]
  · intro h j hj
    by_cases e : j = 0
    · exact .inl e
    · right
      rw [List.getElem?_eq_getElem hj, List.getElem?_eq_getElem (show j - 1 < l.length by omega)]
      intro he
      rw [List.nodup_iff_pairwise_ne, List.pairwise_iff_getElem] at h
      exact h (j - 1) j (by omega) hj (by omega) (Option.some.inj he).symm
theorem sort_pairwise (l : List (List UInt8)) : (l.mergeSort fun x y => decide (x ≤ y)).Pairwise (· ≤ ·) := by
  have := List.pairwise_mergeSort (le := fun (x y : List UInt8) => decide (x ≤ y)) (fun a b c h1 h2 => by
    simp at h1 h2 ⊢; exact List.le_trans h1 h2) (fun a b => by
    simp only [Bool.or_eq_true, decide_eq_true_eq]; exact List.le_total a b) l
  exact this.imp fun h => by simpa using h
theorem compact_nodup (l : List (List UInt8)) : ((Lib.compact (l.mergeSort fun x y => decide (x ≤ y))).length = l.length) ↔ l.Nodup := by
  have hl : (l.mergeSort fun x y => decide (x ≤ y)).length = l.length := List.length_mergeSort l
  rw [← hl, compact_len]
  have hp := List.mergeSort_perm l (fun x y => decide (x ≤ y))
  rw [← hp.nodup_iff, ← nodup_of_sorted (sort_pairwise l)]
  exact ⟨fun h j hj => (keeps_iff _ j hj).mp (h j hj), fun h j hj => (keeps_iff _ j hj).mpr (h j hj)⟩
/-- none of a list is among those ahead of it. -/
theorem nodup_ahead (l : List (List UInt8)) : (∀ (k : Nat) x, l[k]? = some x → ¬ x ∈ l.take k) ↔ l.Nodup := by
  rw [List.nodup_iff_pairwise_ne, List.pairwise_iff_getElem]
  constructor
  · intro h i j hi hj hij he
    refine h j l[j] (List.getElem?_eq_getElem hj) ?_
    rw [← he]
    exact List.mem_take_iff_getElem.mpr ⟨i, by omega, rfl⟩
  · intro h k x hk hm
    obtain ⟨hk1, rfl⟩ := List.getElem?_eq_some_iff.mp hk
    obtain ⟨i, hi, he⟩ := List.mem_take_iff_getElem.mp hm
    exact h i k (by omega) hk1 (by omega) he
/-- the names of zones and links. -/
def namesL (r : RelD) : List ByteArray := r.zones.map ZoneD.name ++ r.links.map LinkD.name
def keysL (l : List ByteArray) : List (List UInt8) := l.map (·.data.toList)
def namesB (r : RelD) : Bool := decide (keysL (namesL r)).Nodup
set_option maxRecDepth 100000 in
theorem infoStr : ∃ i : TypeInfo, Tryz.prog.info? 9 = some i ∧ i.zero = some (.string ⟨#[]⟩) ∧ i.size = 1 ∧ i.bytes = 16 := ⟨_, rfl, rfl, rfl, rfl⟩
theorem ownR_empty (w : World) (t : TypeId) : (w.alloc (.cells #[] t)).ownsRow w.heap.size t 1 (.slice (some ⟨w.heap.size, 0, none⟩) 0 0) 0 [] :=
  ⟨rfl, .inr ⟨w.heap.size, 0, #[], rfl, Nat.le_refl _, (MapKept.heap_alloc w _).1, Nat.le_refl _, by unfold maxLen; omega, rfl, rfl⟩⟩
theorem ownR_nil (w : World) (base : Nat) (t : TypeId) : w.ownsRow base t 1 (.slice none 0 0) 0 [] := ⟨rfl, .inl ⟨rfl, rfl⟩⟩
theorem ownR_blk {w : World} {base : Nat} {e : TypeId} {size : Nat} {v : Value} {n : Nat} {xs : List Value} (h : w.ownsRow base e size v n xs) : ∀ k, v.ownBlock = some k → base ≤ k := by
  intro k hk
  rcases h.2 with ⟨rfl, _⟩ | ⟨g, cap, cur, rfl, hg, _⟩
  · cases hk
  · simp [Value.ownBlock] at hk; omega
theorem takeN_succ {l : List ByteArray} {k : Nat} {x : ByteArray} (h : l[k]? = some x) : (l.take (k + 1)).map Value.string = (l.take k).map Value.string ++ [.string x] := by
  rw [List.take_add_one, h]; simp
set_option maxHeartbeats 4000000 in
theorem impl_namesUnlike (r : RelD) (v : Value) (w : World) (hv : RelAt w v r) (hz : r.zones.length ≤ 1048576) (hl : r.links.length ≤ 1048576) :
    Calls Tryz.prog 75 #[v] w fun e w' => e = .returned (.bool (namesB r)) ∧ Below w.heap.size w w' := by
  obtain ⟨a, b, c, ca, cb, cc, rfl, _, hZ, hA⟩ := hv.form
  obtain ⟨i0, hi, hz0, hz1, hz2⟩ := infoStr
  clear hv
  have HB : Hid (namesB r = decide (keysL (r.zones.map ZoneD.name ++ r.links.map LinkD.name)).Nodup) := rfl
  generalize namesB r = nb at *
  generalize r.rules.length = rn at *
  generalize r.links = l at *
  generalize r.zones = zs at *
  have hB0 := (Below.refl w.heap.size w).alloc (Nat.le_refl _) (.cells #[.slice a rn ca, .slice b zs.length cb, .slice c l.length cc] 27)
  have hA1 := hA.below hB0
  have hZ1 := hZ.below hB0
  have hown : (w.alloc (.cells #[.slice a rn ca, .slice b zs.length cb, .slice c l.length cc] 27)).cell? ⟨w.heap.size, 2, none⟩ = some (.slice c l.length cc) := by simp
  go_enter Tryz.func75, Tryz.ntmps75
  go_wp2
  generalize hW : (w.alloc (.cells #[.slice a rn ca, .slice b zs.length cb, .slice c l.length cc] 27)) = W at *
  go_loopw [3, 12] (fun s i wr => ∃ k : Nat, k ≤ zs.length ∧ i = .int .i64 k ∧ wr.ownsRow W.heap.size 9 1 s k (((zs.map ZoneD.name).take k).map Value.string) ∧ Below W.heap.size W wr) (fun _ i _ => zs.length - (intOf i).toNat)
  case atStart => exact ⟨0, by omega, rfl, ownR_nil _ _ _, by subst hW; exact Below.refl _ _⟩
  case round =>
    obtain ⟨k, hk, rfl, hO, hB⟩ := hrel
    by_cases hlt : k < zs.length
    · obtain ⟨x, hx⟩ : ∃ x, zs[k]? = some x := ⟨_, List.getElem?_eq_getElem hlt⟩
      obtain ⟨b', o, rfl, c0, v, c1, hv⟩ := (hZ1.below hB).at hx
      have hs := takeN_succ (l := zs.map ZoneD.name) (k := k) (x := x.name) (by rw [List.getElem?_map, hx]; rfl)
      have HS : Hid (((zs.map ZoneD.name).take (k + 1)).map Value.string = ((zs.map ZoneD.name).take k).map Value.string ++ [.string x.name]) := hs
      obtain ⟨ae, ce, rfl, _⟩ := hv
      clear hs
      have hsz := hB.size
      generalize ((zs.map ZoneD.name).take k).map Value.string = xs at *
      go_wp2_with (first
        | (at_builtin; refine wpList_append_own _ rfl _ _ 81 rfl W.heap.size 9 i0 (.string ⟨#[]⟩) 1 16 Tryz.underlying81 hi hz0 hz1 hz2 rfl (by decide) _ _ _ rfl ((hO.alloc _).alloc _) ⟨wr.heap.size + 1, 0, none⟩ 1 1 [.string x.name] rfl rfl ?c1 ?c2 ?c3 ?c4 ?c5 ?_)
        | fail)
      case c1 => simp [go_sem]
      case c2 => intro u hu; simp at hu; subst hu; rfl
      case c3 => unfold maxLen; omega
      case c4 => omega
      case c5 => simp; omega
      · intro v' w1 hown' hgrow _
        have hB1 : Below W.heap.size W w1 := ((hB.alloc hsz _).alloc (by simp; omega) _).grown hgrow (by simp; omega) (ownR_blk hO)
        clear hgrow hO
        go_wp2
        go_roundw
        case rel => exact ⟨k + 1, by omega, by go_num, by rw [HS.out]; exact hown', hB1⟩
        case measure => simp [intOf]; omega
    · have e : k = zs.length := by omega
      subst e
      rw [List.take_of_length_le (by simp)] at hO
      have y2 : wr.cell? ⟨w.heap.size, 2, none⟩ = some (.slice c l.length cc) := by rw [(bcell hB).1 _ _ (World.block_lt_of_cell? _ _ hown)]; exact hown
      go_wp2
      obtain ⟨wo, rfl⟩ : ∃ wo : World, wo = wr := ⟨_, rfl⟩
      go_loopw [3, 25] (fun s i wr => ∃ k : Nat, k ≤ l.length ∧ i = .int .i64 k ∧ wr.ownsRow W.heap.size 9 1 s (zs.length + k) ((zs.map ZoneD.name ++ (l.map LinkD.name).take k).map Value.string) ∧ Below W.heap.size W wr) (fun _ i _ => l.length - (intOf i).toNat)
      case atStart => exact ⟨0, by omega, rfl, by simpa using hO, hB⟩
      case round =>
        clear hO hB y2
        obtain ⟨m, hm, rfl, hO, hB⟩ := hrel
        by_cases hlt2 : m < l.length
        · obtain ⟨x, hx⟩ : ∃ x, l[m]? = some x := ⟨_, List.getElem?_eq_getElem hlt2⟩
          obtain ⟨b', o, rfl, hc⟩ := (hA1.below hB).at (i := m) (r := x.cs) (by rw [List.getElem?_map, hx]; rfl)
          have c0 : wr.cell? ⟨b', o + m * 2, none⟩ = some (.string x.to_) := hc 0 _ rfl
          have c1 := hc 1 _ rfl
          clear hc
          have hs := takeN_succ (l := l.map LinkD.name) (k := m) (x := x.name) (by rw [List.getElem?_map, hx]; rfl)
          have HS : Hid ((zs.map ZoneD.name ++ (l.map LinkD.name).take (m + 1)).map Value.string = (zs.map ZoneD.name ++ (l.map LinkD.name).take m).map Value.string ++ [.string x.name]) := by
            simp only [Hid]; rw [List.map_append, hs, ← List.append_assoc, ← List.map_append]
          clear hs
          have hsz := hB.size
          generalize (zs.map ZoneD.name ++ (l.map LinkD.name).take m).map Value.string = xs at *
          obtain ⟨n, hn⟩ : ∃ n, n = zs.length + m := ⟨_, rfl⟩
          have HN : Hid (zs.length + (m + 1) = n + 1) := by simp only [Hid]; omega
          have hn2 : n ≤ 2097152 := by omega
          rw [← hn] at hO
          clear hn
          go_wp2_with (first
            | (at_builtin; refine wpList_append_own _ rfl _ _ 81 rfl W.heap.size 9 i0 (.string ⟨#[]⟩) 1 16 Tryz.underlying81 hi hz0 hz1 hz2 rfl (by decide) _ _ _ rfl ((hO.alloc _).alloc _) ⟨wr.heap.size + 1, 0, none⟩ 1 1 [.string x.name] rfl rfl ?c1 ?c2 ?c3 ?c4 ?c5 ?_)
            | fail)
          case c1 => simp [go_sem]
          case c2 => intro u hu; simp at hu; subst hu; rfl
          case c3 => unfold maxLen; omega
          case c4 => omega
          case c5 => simp; omega
          · intro v' w1 hown' hgrow _
            have hB1 : Below W.heap.size W w1 := ((hB.alloc hsz _).alloc (by simp; omega) _).grown hgrow (by simp; omega) (ownR_blk hO)
            clear hgrow hO
            go_wp2
            go_roundw
            case rel => exact ⟨m + 1, by omega, by go_num, by rw [HS.out, HN.out]; exact hown', hB1⟩
            case measure => simp [intOf]; omega
        · have e : m = l.length := by omega
          subst e
          rw [List.take_of_length_le (by simp)] at hO
          obtain ⟨n, hn⟩ : ∃ n, n = zs.length + l.length := ⟨_, rfl⟩
          have hn2 : n ≤ 2097152 := by omega
          rw [← hn] at hO
          have hlen : (zs.map ZoneD.name ++ l.map LinkD.name).length = n := by simp [hn]
          generalize zs.map ZoneD.name ++ l.map LinkD.name = ns at *
          clear hn
          have hO' := hO
          rw [← Lib.map_encStr] at hO'
          rcases hO.2 with ⟨rfl, rfl⟩ | ⟨g, cap, cur, rfl, _, _, _, _, _, _⟩
          · have HR : Hid (nb = true) := by
              simp only [Hid]; rw [HB.out, List.eq_nil_of_length_eq_zero hlen]; rfl
            have hS := fun w => Tryz.slices_Sort_string_none none 0 w
            have hC := fun w => Tryz.slices_Compact_string_empty none 0 w
            go_wp2_with (first | (go_at_call 140; refine (hS _).mono ?_; rintro e w' ⟨rfl, rfl⟩) | (go_at_call 141; refine (hC _).mono ?_; rintro e w' ⟨rfl, rfl⟩))
            go_ret
            exact ⟨ret_bool HR.out.symm, hB0.trans (hB.mono hB0.size)⟩
          · obtain ⟨g', cap', he, hbg, hglt, hncap, hcm, hzl, hH⟩ := Lib.holds_of_ownsRow hO' (by simp)
            injection he with he1 _ he3
            injection he1 with he1
            injection he1 with he1
            subst he1 he3
            have hS := Tryz.slices_Sort_string g 0 cap (ns.map (·.data.toList)) wr hH hglt (by omega)
            rw [hzl] at hS
            have hsl : ((ns.map (·.data.toList)).mergeSort fun x y => decide (x ≤ y)).length = n := by rw [List.length_mergeSort]; exact hzl
            have hC := fun w' hH2 => Tryz.slices_Compact_string g 0 cap ((ns.map (·.data.toList)).mergeSort fun x y => decide (x ≤ y)) w' hH2 (by omega) (by omega)
            have hK := compact_nodup (ns.map (·.data.toList))
            rw [hzl] at hK
            have hHH : ∀ q os, Go.Sort.Holds encStr (Go.Sort.grow (Go.Sort.putRow encStr (Go.Sort.ahead wr q) g 0 ((ns.map (·.data.toList)).mergeSort fun x y => decide (x ≤ y)).toArray) os) g 0 ((ns.map (·.data.toList)).mergeSort fun x y => decide (x ≤ y)).toArray := fun q os =>
              Go.Sort.holds_grow _ _ _ _ _ _ (by simpa using hglt) (Go.Sort.holds_putRow _ _ _ _ _ _ (Go.Sort.holds_ahead _ _ _ _ _ _ hH) (by simp))
            rw [hsl] at hC
            have HR : Hid (nb = (((Lib.compact ((ns.map (·.data.toList)).mergeSort fun x y => decide (x ≤ y))).length : Int) == (n : Int))) := by
              simp only [Hid]
              rw [HB.out, Bool.eq_iff_iff]
              simp only [decide_eq_true_eq, beq_iff_eq, Int.natCast_inj]
              exact hK.symm
            have hcl : (Lib.compact ((ns.map (·.data.toList)).mergeSort fun x y => decide (x ≤ y))).length ≤ n := by
              unfold Lib.compact Lib.compactUpTo
              rw [List.length_map]
              have := List.length_filter_le (Lib.keeps ((ns.map (·.data.toList)).mergeSort fun x y => decide (x ≤ y)).toArray) (List.range ((ns.map (·.data.toList)).mergeSort fun x y => decide (x ≤ y)).length)
              rw [List.length_range] at this
              exact Nat.le_trans this (Nat.le_of_eq hsl)
            generalize (ns.map (·.data.toList)).mergeSort (fun x y => decide (x ≤ y)) = so at *
            generalize (Lib.compact so).length = cl at *
            clear hO hO' hH hK HB hsl hzl hlen
            go_wp2_with fail
            refine hS.mono ?_
            rintro e w2 ⟨rfl, q, os, rfl⟩
            go_wp2_with fail
            refine (hC _ (hHH q os)).mono ?_
            rintro e w3 ⟨rfl, q2, rfl⟩
            go_wp2
            go_ret
            refine ⟨ret_bool HR.out.symm, hB0.trans (Below.mono (Lib.below_putRow ?_ hbg) hB0.size)⟩
            have hb1 := Lib.below_putRow (enc := encStr) (q := q) (d := so.toArray) hB hbg
            exact ⟨hb1.os, hb1.tape, hb1.output, by simp; have := hb1.size; simp at this; omega, fun k hk => by rw [Go.Sort.heap_grow_old _ _ (by have := hb1.size; omega)]; exact hb1.block k hk⟩
end Go.Proofs.YtjdokmllidhapaaGreatDoor
