/- Rules by their names: the program's rulesByName. -/
import Derived.Test.YtbbhpfobcelbfaaGreatDoorMap1q
import Derived.BigRegion
import Derived.Deep.RegionLaw
import Derived.Deep.RegionHeld3
namespace Go.Proofs.YtbbhpfobcelbfaaGreatDoor
open Go.RowKit

theorem infoRul : (Tryz.prog.info? 120).map (fun i => (i.zero, i.size, i.bytes)) = some (some (.agg #[.string ⟨#[]⟩, .int .i64 0, .int .i64 0, .int .i64 0, .string ⟨#[]⟩, .int .i64 0, .string ⟨#[]⟩, .int .i64 0, .string ⟨#[]⟩]), 9, 104) := by kernel_rfl
theorem zeroRules (w : World) : (zeroValue 23).run Tryz.prog w = .ok (.slice none 0 0) w := by kernel_rfl
theorem OwnsRl.add {w : World} {base : Nat} {v : Value} {l : List RuleD} {x : RuleD} (h : w.ownsRow base 120 9 v (l.length + 1) ((l.map RuleD.cs).flatten ++ x.cs)) : OwnsRl w base v (l ++ [x]) := by
  unfold OwnsRl
  rw [List.length_append, List.map_append, List.flatten_append]
  simpa using h
theorem take_snoc {l : List RuleD} {k : Nat} {x : RuleD} (h : l[k]? = some x) : l.take (k + 1) = l.take k ++ [x] := by rw [List.take_add_one, h]; rfl
set_option maxRecDepth 20000 in
set_option maxHeartbeats 4000000 in
theorem impl_rulesByName (l : List RuleD) (a : Option Addr) (ca : Nat) (w : World) (hA : SeqAt w a 9 (l.map RuleD.cs)) (hl : l.length ≤ 40) (hn : ∀ x ∈ l, x.name.size ≤ maxLen) :
    Calls Tryz.prog 36 #[.slice a l.length ca] w fun e W' => e = .returned (.map (some w.heap.size)) ∧ MapR W' (w.heap.size + 1) w.heap.size l ∧ Below w.heap.size w W' := by
  obtain ⟨i0, hi, hz0, hz1, hz2⟩ := info_parts infoRul
  have HN : Hid (∀ x ∈ l, x.name.size ≤ maxLen) := hn
  clear hn
  have hM0 : Hid (MapR (w.alloc (.map #[] 0)) (w.heap.size + 1) w.heap.size (l.take 0)) := mapR_made w
  have hB0 : Below w.heap.size w (w.alloc (.map #[] 0)) := (Below.refl _ w).alloc (Nat.le_refl _) _
  have hmm := @run_makeMap Tryz.prog
  go_enter Tryz.func36, Tryz.ntmps36
  go_wp2
  go_loopw [9] (fun s9 wr => ∃ k : Nat, s9 = .int .i64 k ∧ k ≤ l.length ∧ Hid (MapR wr (w.heap.size + 1) w.heap.size (l.take k)) ∧ Below w.heap.size w wr) (fun s9 _ => (l.length - intOf s9).toNat)
  case atStart => exact ⟨0, rfl, by omega, hM0, hB0⟩
  case round =>
    clear hM0 hB0
    obtain ⟨k, rfl, hk, HM, hBr⟩ := hrel
    have hsW := hBr.size
    have hph : w.heap.size < wr.heap.size := HM.out.lt
    by_cases hkl : k < l.length
    · obtain ⟨x, hx⟩ : ∃ x, l[k]? = some x := ⟨_, List.getElem?_eq_getElem hkl⟩
      have hxn := HN.out x (List.mem_of_getElem? hx)
      obtain ⟨b9, o9, rfl, hc⟩ := (hA.below hBr).at (i := k) (r := x.cs) (by rw [List.getElem?_map, hx]; rfl)
      have c0 : wr.cell? ⟨b9, o9 + k * 9, none⟩ = some (.string x.name) := hc 0 _ rfl
      have c1 := hc 1 _ rfl
      have c2 := hc 2 _ rfl
      have c3 := hc 3 _ rfl
      have c4 := hc 4 _ rfl
      have c5 := hc 5 _ rfl
      have c6 := hc 6 _ rfl
      have c7 := hc 7 _ rfl
      have c8 := hc 8 _ rfl
      have HX : Hid (l.take (k + 1) = l.take k ++ [x]) := take_snoc hx
      have hkl2 : (k : Int) < (l.length : Int) := by omega
      clear hc hx
      obtain ⟨L, hL⟩ : ∃ L, l.take k = L := ⟨_, rfl⟩
      have hLl : L.length ≤ 40 := by rw [← hL, List.length_take]; omega
      have hFl : (ofName L x.name).length ≤ 40 := Nat.le_trans (List.length_filter_le _ _) hLl
      rw [hL] at HX HM
      clear hL
      have hbB := (Below.refl wr.heap.size wr).alloc (Nat.le_refl _) (.cells #[.string x.name, .int .i64 x.lo, .int .i64 x.hi, .int .i64 x.month, .string x.on, .int .i64 x.at_, .string x.of, .int .i64 x.save, .string x.letter] 120)
      have HM1 := HM.out.below hbB
      have e0 : (wr.alloc (.cells #[.string x.name, .int .i64 x.lo, .int .i64 x.hi, .int .i64 x.month, .string x.on, .int .i64 x.at_, .string x.of, .int .i64 x.save, .string x.letter] 120)).cell? ⟨wr.heap.size, 0, none⟩ = some (.string x.name) := by simp [go_sem]
      have e1 : (wr.alloc (.cells #[.string x.name, .int .i64 x.lo, .int .i64 x.hi, .int .i64 x.month, .string x.on, .int .i64 x.at_, .string x.of, .int .i64 x.save, .string x.letter] 120)).cell? ⟨wr.heap.size, 1, none⟩ = some (.int .i64 x.lo) := by simp [go_sem]
      have e2 : (wr.alloc (.cells #[.string x.name, .int .i64 x.lo, .int .i64 x.hi, .int .i64 x.month, .string x.on, .int .i64 x.at_, .string x.of, .int .i64 x.save, .string x.letter] 120)).cell? ⟨wr.heap.size, 2, none⟩ = some (.int .i64 x.hi) := by simp [go_sem]
      have e3 : (wr.alloc (.cells #[.string x.name, .int .i64 x.lo, .int .i64 x.hi, .int .i64 x.month, .string x.on, .int .i64 x.at_, .string x.of, .int .i64 x.save, .string x.letter] 120)).cell? ⟨wr.heap.size, 3, none⟩ = some (.int .i64 x.month) := by simp [go_sem]
      have e4 : (wr.alloc (.cells #[.string x.name, .int .i64 x.lo, .int .i64 x.hi, .int .i64 x.month, .string x.on, .int .i64 x.at_, .string x.of, .int .i64 x.save, .string x.letter] 120)).cell? ⟨wr.heap.size, 4, none⟩ = some (.string x.on) := by simp [go_sem]
      have e5 : (wr.alloc (.cells #[.string x.name, .int .i64 x.lo, .int .i64 x.hi, .int .i64 x.month, .string x.on, .int .i64 x.at_, .string x.of, .int .i64 x.save, .string x.letter] 120)).cell? ⟨wr.heap.size, 5, none⟩ = some (.int .i64 x.at_) := by simp [go_sem]
      have e6 : (wr.alloc (.cells #[.string x.name, .int .i64 x.lo, .int .i64 x.hi, .int .i64 x.month, .string x.on, .int .i64 x.at_, .string x.of, .int .i64 x.save, .string x.letter] 120)).cell? ⟨wr.heap.size, 6, none⟩ = some (.string x.of) := by simp [go_sem]
      have e7 : (wr.alloc (.cells #[.string x.name, .int .i64 x.lo, .int .i64 x.hi, .int .i64 x.month, .string x.on, .int .i64 x.at_, .string x.of, .int .i64 x.save, .string x.letter] 120)).cell? ⟨wr.heap.size, 7, none⟩ = some (.int .i64 x.save) := by simp [go_sem]
      have e8 : (wr.alloc (.cells #[.string x.name, .int .i64 x.lo, .int .i64 x.hi, .int .i64 x.month, .string x.on, .int .i64 x.at_, .string x.of, .int .i64 x.save, .string x.letter] 120)).cell? ⟨wr.heap.size, 8, none⟩ = some (.string x.letter) := by simp [go_sem]
      have hbW := hBr.alloc hsW (.cells #[.string x.name, .int .i64 x.lo, .int .i64 x.hi, .int .i64 x.month, .string x.on, .int .i64 x.at_, .string x.of, .int .i64 x.save, .string x.letter] 120)
      have hsb : (wr.alloc (.cells #[.string x.name, .int .i64 x.lo, .int .i64 x.hi, .int .i64 x.month, .string x.on, .int .i64 x.at_, .string x.of, .int .i64 x.save, .string x.letter] 120)).heap.size = wr.heap.size + 1 := by simp
      obtain ⟨vl, hlk, hOl, hback⟩ := mapR_at (P := Tryz.prog) (T := 82) HM.out Tryz.underlying82 Tryz.underlying9 zeroRules x.name hxn
      obtain ⟨al, ml, cl, rfl⟩ := row_shape3 hOl
      have hnb : some wr.heap.size ≠ (Value.slice al ml cl).ownBlock := fun e => by have := (World.ownsRow.lt hOl _ e.symm).2; omega
      obtain ⟨wB, hwB⟩ : ∃ wB, (wr.alloc (.cells #[.string x.name, .int .i64 x.lo, .int .i64 x.hi, .int .i64 x.month, .string x.on, .int .i64 x.at_, .string x.of, .int .i64 x.save, .string x.letter] 120)) = wB := ⟨_, rfl⟩
      have gB : ∀ ro, wr.grownBy wB ro := fun ro => by rw [← hwB]; exact World.grownBy_alloc _ _ _
      have gD : ∀ ro, wr.grownBy wB.drew ro := fun ro => ⟨(gB ro).os, (gB ro).tape, (gB ro).output, (gB ro).size, (gB ro).block⟩
      have gA : ∀ ro, wr.grownBy (wB.drew.alloc (.cells #[.string x.name, .int .i64 x.lo, .int .i64 x.hi, .int .i64 x.month, .string x.on, .int .i64 x.at_, .string x.of, .int .i64 x.save, .string x.letter] 120)) ro := fun ro => (gD ro).trans (World.grownBy_alloc _ _ _)
      have hOB : OwnsRl wB.drew (w.heap.size + 1) (.slice al ml cl) (ofName L x.name) := World.ownsRow.kept hOl (gD none) (by cases (Value.slice al ml cl).ownBlock <;> simp)
      have lk1 := hlk wB.drew ((gD none).block _ hph (by simp))
      have lk2 := hlk (wB.drew.alloc (.cells #[.string x.name, .int .i64 x.lo, .int .i64 x.hi, .int .i64 x.month, .string x.on, .int .i64 x.at_, .string x.of, .int .i64 x.save, .string x.letter] 120)) ((gA none).block _ hph (by simp))
      have lk3 := hlk (wB.alloc (.cells #[.string x.name, .int .i64 x.lo, .int .i64 x.hi, .int .i64 x.month, .string x.on, .int .i64 x.at_, .string x.of, .int .i64 x.save, .string x.letter] 120)).drew ((gA none).block _ hph (by simp))
      have lk4 := hlk wB ((gB none).block _ hph (by simp))
      rw [hwB] at e0 e1 e2 e3 e4 e5 e6 e7 e8 hbW hsb
      go_wp2_with fail
      have hgA := gA (Value.slice al ml cl).ownBlock
      have hOlt : ∀ j, (Value.slice al ml cl).ownBlock = some j → w.heap.size + 1 ≤ j := fun j hj => (World.ownsRow.lt hOl j hj).1
      obtain ⟨bx, hbx⟩ : ∃ bx, wr.heap.size = bx := ⟨_, rfl⟩
      rw [hbx] at hsb hph hnb e0 e1 e2 e3 e4 e5 e6 e7 e8 ⊢
      have hbk : ∀ (w1 : World) (v' : Value), wr.grownBy w1 (Value.slice al ml cl).ownBlock → OwnsRl w1 (w.heap.size + 1) v' (ofName L x.name ++ [x]) → (v'.ownBlock = (Value.slice al ml cl).ownBlock ∨ ∃ g, v'.ownBlock = some g ∧ bx ≤ g) → ∃ w2, (Instr.mapUpdate 82 (.map (some w.heap.size)) (.string x.name) v').run Tryz.prog w1 = .ok () w2 ∧ MapR w2 (w.heap.size + 1) w.heap.size (L ++ [x]) ∧ w1.grownBy w2 (some w.heap.size) := fun w1 v' g1 g2 g3 => hback w1 v' x rfl g1 g2 (by rw [hbx]; exact g3)
      have HBK : Hid (∀ (w1 : World) (v' : Value), wr.grownBy w1 (Value.slice al ml cl).ownBlock → OwnsRl w1 (w.heap.size + 1) v' (ofName L x.name ++ [x]) → (v'.ownBlock = (Value.slice al ml cl).ownBlock ∨ ∃ g, v'.ownBlock = some g ∧ bx ≤ g) → ∃ w2, (Instr.mapUpdate 82 (.map (some w.heap.size)) (.string x.name) v').run Tryz.prog w1 = .ok () w2 ∧ MapR w2 (w.heap.size + 1) w.heap.size (L ++ [x]) ∧ w1.grownBy w2 (some w.heap.size)) := hbk
      clear hwB hbx hbB hBr hsW c0 c1 c2 c3 c4 c5 c6 c7 c8 HM hA hlk hback hbk HM1 gA gD gB hOl
      have hcn : ∀ j u, x.cs[j]? = some u → (wB.drew.alloc (.cells #[.string x.name, .int .i64 x.lo, .int .i64 x.hi, .int .i64 x.month, .string x.on, .int .i64 x.at_, .string x.of, .int .i64 x.save, .string x.letter] 120)).cell? ((⟨bx + 1, 0, none⟩ : Addr).add j) = some u := by
        have := cells_new wB.drew x.cs 120
        rw [show wB.drew.heap.size = bx + 1 from hsb] at this
        exact this
      have hph2 : w.heap.size < wB.heap.size := by omega
      go_region_law (refine step_append_lies _ (by rfl) (.tmp 19) (.tmp 21) 23 (by rfl) (w.heap.size + 1) 120 i0 (.agg #[.string ⟨#[]⟩, .int .i64 0, .int .i64 0, .int .i64 0, .string ⟨#[]⟩, .int .i64 0, .string ⟨#[]⟩, .int .i64 0, .string ⟨#[]⟩]) 9 104 Tryz.underlying23 hi hz0 hz1 hz2 rfl (by omega) (.slice al ml cl) (ofName L x.name).length ((ofName L x.name).map RuleD.cs).flatten (by rfl) (World.ownsRow.alloc (w := wB.drew) hOB _) ⟨bx + 1, 0, none⟩ 1 1 x.cs (by rfl) rfl hcn (by intro u hu; simp [RuleD.cs] at hu; rcases hu with rfl | rfl | rfl | rfl | rfl | rfl | rfl | rfl | rfl <;> rfl) (by omega) (by unfold maxLen; omega) (by omega) (by simp; omega) _ rfl ?_; intro g1 cap1 w1 hown1 hgrow hat hlt1; have r1 := hgrow.cell (a := ⟨bx, 0, none⟩) (keepC ((Below.refl _ wB.drew).alloc (Nat.le_refl _) _) e0) hnb; have hall := hgA.trans hgrow; obtain ⟨w2, hup, hM2, hg2⟩ := HBK.out w1 (.slice (some ⟨g1, 0, none⟩) ((ofName L x.name).length + 1) cap1) hall (OwnsRl.add hown1) (hat.imp (fun h => h.symm) (fun h => ⟨g1, rfl, by rw [h]; simp; omega⟩)))
      all_goals
        have hB1 : Below w.heap.size w w1 := ((hbW.trans ((below_drew wB).mono hbW.size)).alloc hbW.size _).grown hgrow (by simp; omega) (fun j hj => by have := hOlt j hj; omega)
        have hB2 : Below w.heap.size w w2 := hB1.grown hg2 hB1.size (fun j hj => by injection hj with hj; omega)
        have HM2 : Hid (MapR w2 (w.heap.size + 1) w.heap.size (l.take (k + 1))) := by rw [HX.out]; exact hM2
        clear hM2 hg2 hup hall hgrow hat hlt1 hown1 HBK hOB hgA hOlt lk1 lk2 lk3 lk4 hcn HX r1
        go_wp2
        go_roundw
        case rel => exact ⟨k + 1, by go_num, by omega, HM2, hB2⟩
        case measure => simp [intOf]; omega
    · have hke : k = l.length := by omega
      have HMe : Hid (MapR wr (w.heap.size + 1) w.heap.size l) := by rw [hke, List.take_length] at HM; exact HM
      have hkl2 : ¬ (k : Int) < (l.length : Int) := by omega
      clear HM hke
      go_wp2
      go_ret
      exact ⟨rfl, HMe.out, hBr⟩
end Go.Proofs.YtbbhpfobcelbfaaGreatDoor
