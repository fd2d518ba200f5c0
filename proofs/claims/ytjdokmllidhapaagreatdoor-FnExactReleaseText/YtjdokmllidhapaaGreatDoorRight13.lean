/- Is the rule of each era there: the program. -/
import Derived.Test.YtjdokmllidhapaaGreatDoorRight12
namespace Go.Proofs.YtjdokmllidhapaaGreatDoor
open Go.RowKit

/-- the rules of an era are there, if it names some. -/
def thereB (rs : List RuleD) (e : EraD) : Bool := e.rules.toList.isEmpty || hasB rs e.rules
set_option maxHeartbeats 4000000 in
theorem impl_rulesThere (r : RelD) (v : Value) (w : World) (hv : RelAt w v r) (hr : r.rules.length ≤ 1048576) (hz : r.zones.length ≤ 1048576) (hok : ∀ x ∈ r.zones, x.ok) :
    Calls Tryz.prog 76 #[v] w fun e w' => e = .returned (.bool (r.zones.all fun z => z.eras.all (thereB r.rules))) ∧ Below w.heap.size w w' := by
  obtain ⟨a, b, c, ca, cb, cc, rfl, hR, hA, _⟩ := hv.form
  clear hv
  generalize r.rules = rs at *
  generalize r.links.length = ln at *
  generalize r.zones = l at *
  have hB0 := (Below.refl w.heap.size w).alloc (Nat.le_refl _) (.cells #[.slice a rs.length ca, .slice b l.length cb, .slice c ln cc] 27)
  have hA1 := hA.below hB0
  have hR1 := hR.below hB0
  have hown : (w.alloc (.cells #[.slice a rs.length ca, .slice b l.length cb, .slice c ln cc] 27)).cell? ⟨w.heap.size, 0, none⟩ = some (.slice a rs.length ca) := by simp
  go_enter Tryz.func76, Tryz.ntmps76
  go_wp2
  generalize hW : (w.alloc (.cells #[.slice a rs.length ca, .slice b l.length cb, .slice c ln cc] 27)) = W at *
  go_loopw [11] (fun i wr => ∃ k : Nat, k ≤ l.length ∧ i = .int .i64 k ∧ Hid (∀ j, j < k → ∀ x, l[j]? = some x → x.eras.all (thereB rs) = true) ∧ Below W.heap.size W wr) (fun i _ => l.length - (intOf i).toNat)
  case atStart => exact ⟨0, by omega, rfl, fun j hj => by omega, by subst hW; exact Below.refl _ _⟩
  case round =>
    obtain ⟨k, hk, rfl, hall, hB⟩ := hrel
    have hT : Below w.heap.size w wr := hB0.trans (hB.mono hB0.size)
    by_cases hlt : k < l.length
    · obtain ⟨x, hx⟩ : ∃ x, l[k]? = some x := ⟨_, List.getElem?_eq_getElem hlt⟩
      obtain ⟨b', o, rfl, c0, v, c1, hv⟩ := (hA1.below hB).at hx
      have ok := (hok x (List.mem_of_getElem? hx)).2.1
      obtain ⟨ae, ce, rfl, hE⟩ := hv
      unfold maxLen at ok
      obtain ⟨nm, es⟩ := x
      simp only at *
      have hB2 : Below W.heap.size W (wr.alloc (.cells #[.string nm, .slice ae es.length ce] 49)) := hB.alloc hB.size _
      have hE2 : SeqAt (wr.alloc (.cells #[.string nm, .slice ae es.length ce] 49)) ae 6 (es.map EraD.cs) := hE.below ((Below.refl _ _).alloc (Nat.le_refl _) _)
      go_wp2
      generalize hV : (wr.alloc (.cells #[.string nm, .slice ae es.length ce] 49)) = V at *
      obtain ⟨wo, rfl⟩ : ∃ wo : World, wo = wr := ⟨_, rfl⟩
      go_loopw [18] (fun i wr => ∃ m : Nat, m ≤ es.length ∧ i = .int .i64 m ∧ Hid (∀ j, j < m → ∀ x, es[j]? = some x → thereB rs x = true) ∧ Below V.heap.size V wr) (fun i _ => es.length - (intOf i).toNat)
      case atStart => exact ⟨0, by omega, rfl, fun j hj => by omega, by subst hV; exact Below.refl _ _⟩
      case round =>
        obtain ⟨m, hm, rfl, hall2, hC⟩ := hrel
        have hBC : Below W.heap.size W wr := hB2.trans (hC.mono hB2.size)
        have ho : wr.cell? ⟨w.heap.size, 0, none⟩ = some (.slice a rs.length ca) := by rw [(bcell hBC).1 _ _ (World.block_lt_of_cell? _ _ hown)]; exact hown
        by_cases hlt2 : m < es.length
        · obtain ⟨y, hy⟩ : ∃ y, es[m]? = some y := ⟨_, List.getElem?_eq_getElem hlt2⟩
          obtain ⟨b2, o2, rfl, hc⟩ := (hE2.below hC).at (i := m) (r := y.cs) (by rw [List.getElem?_map, hy]; rfl)
          have d0 : wr.cell? ⟨b2, o2 + m * 6, none⟩ = some (.int .i64 y.offset) := hc 0 _ rfl
          have d1 := hc 1 _ rfl
          have d2 := hc 2 _ rfl
          have d3 := hc 3 _ rfl
          have d4 := hc 4 _ rfl
          have d5 := hc 5 _ rfl
          clear hc
          have hl0 := World.block_lt_of_cell? _ _ ho
          have hB3 : Below W.heap.size W (wr.alloc (.cells #[.int .i64 y.offset, .string y.rules, .int .i64 y.save, .string y.format, .int .i64 y.until_, .string y.of] 55)) := hBC.alloc hBC.size _
          have hC3 : Below V.heap.size V (wr.alloc (.cells #[.int .i64 y.offset, .string y.rules, .int .i64 y.save, .string y.format, .int .i64 y.until_, .string y.of] 55)) := hC.alloc hC.size _
          have hS := impl_containsRule rs a ca wr.heap.size y.rules (wr.alloc (.cells #[.int .i64 y.offset, .string y.rules, .int .i64 y.save, .string y.format, .int .i64 y.until_, .string y.of] 55)) (hR1.below hB3) hr (by simp)
          have hyes : thereB rs y = true → Hid (∀ j, j < m + 1 → ∀ x, es[j]? = some x → thereB rs x = true) := fun hb j hj z hz => by
            by_cases e : j = m
            · subst e; rw [hy] at hz; obtain rfl := Option.some.inj hz; exact hb
            · exact hall2.out j (by omega) z hz
          have hno : thereB rs y = false → Hid ((l.all fun z => z.eras.all (thereB rs)) = false) := fun hb => all_no hx (all_no hy hb)
          unfold thereB at hyes hno
          cases he : y.rules.toList.isEmpty
          · cases hb : hasB rs y.rules
            · have HR := hno (by rw [he, hb]; rfl)
              rw [hb] at hS
              clear hb hyes hno
              go_wp2_with fail
              refine hS.mono ?_
              rintro e w2 ⟨rfl, hb2⟩
              go_wp2
              go_ret
              exact ⟨ret_bool HR.out.symm, hB0.trans ((hB3.trans (hb2.mono hB3.size)).mono hB0.size)⟩
            · have HR := hyes (by rw [he, hb]; rfl)
              rw [hb] at hS
              clear hb hyes hno
              go_wp2_with fail
              refine hS.mono ?_
              rintro e w2 ⟨rfl, hb2⟩
              go_wp2
              go_roundw
              case rel => exact ⟨m + 1, by omega, by go_num, HR, hC3.trans (hb2.mono hC3.size)⟩
              case measure => simp [intOf]; omega
          · have HR := hyes (by rw [he]; rfl)
            clear hS hyes hno
            go_wp2
            go_roundw
            case rel => exact ⟨m + 1, by omega, by go_num, HR, hC3⟩
            case measure => simp [intOf]; omega
        · have e : m = es.length := by omega
          subst e
          have HR : Hid (∀ j, j < k + 1 → ∀ x, l[j]? = some x → x.eras.all (thereB rs) = true) := fun j hj z hz => by
            by_cases e : j = k
            · subst e; rw [hx] at hz; obtain rfl := Option.some.inj hz; exact all_yes hall2.out
            · exact hall.out j (by omega) z hz
          go_wp2
          go_roundw
          case rel => exact ⟨k + 1, by omega, by go_num, HR, hBC⟩
          case measure => simp [intOf]; omega
    · have e : k = l.length := by omega
      subst e
      have HR : Hid ((l.all fun z => z.eras.all (thereB rs)) = true) := all_yes hall.out
      go_wp2
      go_ret
      exact ⟨ret_bool HR.out.symm, hT⟩
end Go.Proofs.YtjdokmllidhapaaGreatDoor
