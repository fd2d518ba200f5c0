/- The turns of a zone's eras: the program's turnsOf, walked. -/
import Derived.Test.YtbbhpfobcelbfaaGreatDoorTb9t
import Derived.Test.YtbbhpfobcelbfaaGreatDoorHpTt
import Derived.Deep.RegionHeld3
namespace Go.Proofs.YtbbhpfobcelbfaaGreatDoor
open Go.RowKit Go.Sort

/-- what turnsOf tells. -/
structure TurnsP (r : RelD) (E : List EraD) (w : World) (q : Ending) (W' : World) : Prop where
  ex : ∃ v b T, q = .returned (.tuple #[v, .bool b]) ∧ OwnsT W' w.heap.size v T ∧ tabE r E = (T, b) ∧ Below w.heap.size w W'
theorem ruleCsB_len {P : List RuleD} : ∀ r ∈ P.map RuleD.cs, r.length = 9 := fun r hr => by
  obtain ⟨x, _, rfl⟩ := List.mem_map.mp hr
  rfl
theorem ruleB_onB {x : RuleD} (h : ruleB x = true) : onB x.on = true := by
  unfold ruleB at h
  simp only [Bool.and_eq_true] at h
  exact h.2.2.2.2.1
set_option maxRecDepth 20000 in
set_option maxHeartbeats 16000000 in
theorem impl_turnsOf (r : RelD) (E : List EraD) (ae : Option Addr) (cae mb base : Nat) (w : World) (hE : SeqAt w ae 6 (E.map EraD.cs)) (hM : MapR w base mb r.rules) (hEnv : EnvZ w) (hr : ∀ x ∈ r.rules, ruleB x = true) (hrl : r.rules.length ≤ 40) (hP : ∀ e ∈ E, EraR e) (hl : E.length ≤ 8) :
    Calls Tryz.prog 45 #[.slice ae E.length cae, .map (some mb)] w fun q W' => TurnsP r E w q W' := by
  have HR : Hid (∀ x ∈ r.rules, ruleB x = true) := hr
  have HP : Hid (∀ e ∈ E, EraR e) := hP
  have hMxA : MxA w := hEnv.2
  have HM : Hid (MapR w base mb r.rules) := hM
  have HV : Hid (EnvZ w) := hEnv
  clear hr hP hM hEnv
  go_enter Tryz.func45, Tryz.ntmps45
  go_wp2
  go_loopw [6, 7, 19] (fun s6 s7 s19 wr => ∃ (k : Nat) (a6 : Option Addr) (m6 c6 : Nat), k ≤ E.length ∧ s6 = .slice a6 m6 c6 ∧ s7 = .int .i64 (stK r E k).2 ∧ s19 = .int .i64 k ∧ OwnsT wr w.heap.size (.slice a6 m6 c6) (stK r E k).1 ∧ Hid (okK r E k = true) ∧ Below w.heap.size w wr) (fun _ _ s19 _ => E.length - (intOf s19).toNat)
  case atStart => exact ⟨0, none, 0, 0, by omega, rfl, rfl, rfl, World.ownsRow_nil _ _ _ _, rfl, Below.refl _ _⟩
  case round =>
    obtain ⟨k, a6, m6, c6, hk, rfl, hs7, rfl, hT, hOk, hB⟩ := hrel
    obtain ⟨⟨hb1, hb2⟩, hTl0⟩ := stK_b (r := r) (E := E) k
    by_cases hlt : k < E.length
    · obtain ⟨e, he⟩ : ∃ e, E[k]? = some e := ⟨_, List.getElem?_eq_getElem hlt⟩
      have eR := HP.out e (List.mem_of_getElem? he)
      obtain ⟨be, oe, rfl, hc⟩ := (hE.below hB).at (i := k) (r := e.cs) (by rw [List.getElem?_map, he]; rfl)
      have c0 : wr.cell? ⟨be, oe + k * 6, none⟩ = some (.int .i64 e.offset) := hc 0 _ rfl
      have c1 := hc 1 _ rfl
      have c2 := hc 2 _ rfl
      have c3 := hc 3 _ rfl
      have c4 := hc 4 _ rfl
      have c5 := hc 5 _ rfl
      obtain ⟨⟨T0, b⟩, hst⟩ : ∃ st, stK r E k = st := ⟨_, rfl⟩
      rw [hst] at hT hs7 hb1 hb2 hTl0
      simp only at hT hs7 hb1 hb2 hTl0
      subst hs7
      have hsW := hB.size
      have hbA := (Below.refl wr.heap.size wr).alloc (Nat.le_refl _) (.cells #[.int .i64 e.offset, .string e.rules, .int .i64 e.save, .string e.format, .int .i64 e.until_, .string e.of] 55)
      have hB1 : Below w.heap.size w (wr.alloc (.cells #[.int .i64 e.offset, .string e.rules, .int .i64 e.save, .string e.format, .int .i64 e.until_, .string e.of] 55)) := hB.alloc hsW _
      have d0_1 : (wr.alloc (.cells #[.int .i64 e.offset, .string e.rules, .int .i64 e.save, .string e.format, .int .i64 e.until_, .string e.of] 55)).cell? ⟨wr.heap.size, 0, none⟩ = some (.int .i64 e.offset) := by simp [go_sem]
      have d1_1 : (wr.alloc (.cells #[.int .i64 e.offset, .string e.rules, .int .i64 e.save, .string e.format, .int .i64 e.until_, .string e.of] 55)).cell? ⟨wr.heap.size, 1, none⟩ = some (.string e.rules) := by simp [go_sem]
      have d2_1 : (wr.alloc (.cells #[.int .i64 e.offset, .string e.rules, .int .i64 e.save, .string e.format, .int .i64 e.until_, .string e.of] 55)).cell? ⟨wr.heap.size, 2, none⟩ = some (.int .i64 e.save) := by simp [go_sem]
      have d3_1 : (wr.alloc (.cells #[.int .i64 e.offset, .string e.rules, .int .i64 e.save, .string e.format, .int .i64 e.until_, .string e.of] 55)).cell? ⟨wr.heap.size, 3, none⟩ = some (.string e.format) := by simp [go_sem]
      have d4_1 : (wr.alloc (.cells #[.int .i64 e.offset, .string e.rules, .int .i64 e.save, .string e.format, .int .i64 e.until_, .string e.of] 55)).cell? ⟨wr.heap.size, 4, none⟩ = some (.int .i64 e.until_) := by simp [go_sem]
      have d5_1 : (wr.alloc (.cells #[.int .i64 e.offset, .string e.rules, .int .i64 e.save, .string e.format, .int .i64 e.until_, .string e.of] 55)).cell? ⟨wr.heap.size, 5, none⟩ = some (.string e.of) := by simp [go_sem]
      obtain ⟨vl, hlk, hOl, _⟩ := mapR_at (P := Tryz.prog) (T := 82) (HM.out.kept ⟨hB1.os, hB1.tape, hB1.output, hB1.size, fun k hk _ => hB1.block k hk⟩) Tryz.underlying82 Tryz.underlying9 zeroRules e.rules (by have := eR.nam; unfold maxLen; omega)
      obtain ⟨al, cl, rfl, hSl, _⟩ := seq_of_owns (rows := (ofName r.rules e.rules).map RuleD.cs) (by rw [List.length_map]; exact hOl) ruleCsB_len
      have hlk := hlk (wr.alloc (.cells #[.int .i64 e.offset, .string e.rules, .int .i64 e.save, .string e.format, .int .i64 e.until_, .string e.of] 55)) rfl
      rw [List.length_map] at hlk
      have hmem : ∀ x ∈ ofName r.rules e.rules, ruleB x = true := fun x hx => HR.out x (List.mem_filter.mp hx).1
      have hEv1 := HV.out.of_below hB1
      have hH := impl_hapsAt (ofName r.rules e.rules) al cl e.offset (wr.alloc (.cells #[.int .i64 e.offset, .string e.rules, .int .i64 e.save, .string e.format, .int .i64 e.until_, .string e.of] 55)) hSl hEv1.1 hEv1.2 (fun x hx => rule_r (hmem x hx)) (Nat.le_trans (List.length_filter_le _ _) hrl) (fun x hx => on_short (ruleB_onB (hmem x hx))) eR.off.1 eR.off.2
      have hs1 : (wr.alloc (.cells #[.int .i64 e.offset, .string e.rules, .int .i64 e.save, .string e.format, .int .i64 e.until_, .string e.of] 55)).heap.size = wr.heap.size + 1 := by simp
      rw [hs1] at hH
      have hkl : (k : Int) < (E.length : Int) := by omega
      clear hc hOl hSl hmem hEv1
      go_wp2_with fail
      refine hH.mono ?_
      rintro q w2 ⟨v2, H, bb, rfl, hO2, hA2, hbw2⟩
      obtain ⟨hH1, hH2⟩ := hapsA_is hA2
      obtain ⟨a2, ca2, rfl, sH2⟩ := hO2.seq
      have hB2 := hB1.trans (hbw2.mono (by omega))
      have d0_2 := keepC (hs1.symm ▸ hbw2) d0_1
      have d1_2 := keepC (hs1.symm ▸ hbw2) d1_1
      have d2_2 := keepC (hs1.symm ▸ hbw2) d2_1
      have d3_2 := keepC (hs1.symm ▸ hbw2) d3_1
      have d4_2 := keepC (hs1.symm ▸ hbw2) d4_1
      have d5_2 := keepC (hs1.symm ▸ hbw2) d5_1
      cases bb with
      | false =>
        have HX : Hid (tabE r E = ([], false)) := by simp only [Hid, tabE]; rw [okK_no he hH2.symm hlt]; rfl
        clear hH hA2 hH1 hH2 hO2 sH2 hlk
        go_wp2
        exact bodyPost_ret (v := .tuple #[.slice none 0 0, .bool false]) (by simp [results, Tryz.results45, go_sem]) rfl ⟨⟨_, _, [], rfl, World.ownsRow_nil _ _ _ _, HX.out, hB2⟩⟩
      | true =>
        have HOK : Hid (okK r E (k + 1) = true) := okK_yes he hH2.symm hOk.out
        have hHb := hapsT_b (nm := e.rules) HR.out eR.off.1 eR.off.2
        have hHl := hapsT_len (r := r) (nm := e.rules) (off := e.offset)
        have hSL := fun h => stK_last (r := r) (T := T0) (b := b) he h hst
        have hSM := fun h => stK_more (r := r) (T := T0) (b := b) he h hst
        rw [← hH1] at hHb hHl hSL hSM
        have HFb : Hid (∀ t, (-7200 ≤ (forceE e H t).save ∧ (forceE e H t).save ≤ 7200) ∧ (forceE e H t).letter.size ≤ 6) := forceE_b eR hHb
        have hef := eR.fmt
        have he3 := eR.off.1
        have he4 := eR.off.2
        have ha2 : ∀ b o, a2 = some ⟨b, o, none⟩ → wr.heap.size ≤ b ∧ b < w2.heap.size := fun b o h => by
          have h1 := World.ownsRow.lt hO2 b (by rw [h]; rfl)
          omega
        have hIF := impl_inForce e H a2 ca2 wr.heap.size w2 sH2 ha2 (by have := hbw2.size; omega) (fun h hh => (hHb h hh).at_) hHl
        simp only [EraD.v] at hIF
        have hO2' := owns_below (owns_below hT hbA) (hs1.symm ▸ hbw2)
        have hlo : ∀ g, (Value.slice a6 m6 c6).ownBlock = some g → g < wr.heap.size := fun g hg => (World.ownsRow.lt hT g hg).2
        clear hH hA2 hH1 hH2 hO2 hlk hst hOk hT
        go_wp2_with fail
        refine hIF.mono ?_
        rintro q w3 ⟨K, cap, rfl, hF3, hbw3⟩
        have hB3 := hB2.trans (hbw3.mono hB2.size)
        have hO3 := owns_below hO2' hbw3
        have sH3 := sH2.below hbw3
        have hN3 : wr.heap.size ≤ w3.heap.size := by have h1 := hbw2.size; have h2 := hbw3.size; omega
        have hN3' : wr.heap.size < w3.heap.size := by have h1 := hbw2.size; have h2 := hbw3.size; omega
        have hsW0 := hsW
        have d0_3 := keepC hbw3 d0_2
        have d1_3 := keepC hbw3 d1_2
        have d2_3 := keepC hbw3 d2_2
        have d3_3 := keepC hbw3 d3_2
        have d4_3 := keepC hbw3 d4_2
        have d5_3 := keepC hbw3 d5_2
        clear hIF hbw3 hO2' sH2 ha2 hbw2 hbA hs1 d0_1 d1_1 d2_1 d3_1 d4_1 d5_1 d0_2 d1_2 d2_2 d3_2 d4_2 d5_2 c0 c1 c2 c3 c4 c5
        obtain ⟨n0, hn0⟩ : ∃ n, wr.heap.size = n := ⟨_, rfl⟩
        obtain ⟨nF, hnF⟩ : ∃ n, w3.heap.size = n := ⟨_, rfl⟩
        rw [hn0] at d0_3 d1_3 d2_3 d3_3 d4_3 d5_3 hF3 hN3 hN3' hlo hsW0
        rw [hnF] at hF3 hN3'
        have hnF3 : nF ≤ w3.heap.size := by omega
        rw [hn0]
        clear hn0 hnF hB1 hB2
        by_cases hla : k + 1 = E.length
        · have hq : ((k : Int) == (E.length : Int) - 1) = true := by simp; omega
          have HS : Hid (stK r E (k + 1) = (foldT (turnE e H) (atsF b (inX H b 253402300799)) T0, 253402300799)) := hSL hla
          have hTT := impl_turnTimes H a2 ca2 b 253402300799 w3 sH3 hHl
          clear hSL hSM hla
          go_wp2_with fail
          refine hTT.mono ?_
          rintro q w5 ⟨vL, L, rfl, hOL, hLs, hLp, hb5⟩
          have HL : Hid (foldT (turnE e H) L T0 = foldT (turnE e H) (atsF b (inX H b 253402300799)) T0) := times_same (turnE e H) hLs hLp T0
          have hLl : L.length ≤ 2001 := by have h1 := hLp.length_eq; have h2 := inX_len H b 253402300799; simp only [List.length_cons] at h1; omega
          obtain ⟨aL, mL, cL, hvL⟩ := row_shape3 hOL
          subst hvL
          have hL0 : 0 < L.length := by have h1 := hLp.length_eq; simp only [List.length_cons] at h1; omega
          obtain ⟨gL, capL, hLv, _, hLg, hLb, hLc⟩ := hOL.open hL0
          injection hLv with hLv1 hLv2 hLv3
          subst hLv1 hLv2 hLv3
          have HLc : Hid (∀ (i : Nat) x, L[i]? = some x → w5.cell? ⟨gL, i, none⟩ = some (.int .i64 x)) := hLc
          have hB5 := hB3.trans (hb5.mono hB3.size)
          have m5 : Mid n0 nF w3 w5 := Mid.of_below hb5 hnF3
          have hF5 := hF3.mid m5
          have d0_5 := keepC hb5 d0_3
          have d1_5 := keepC hb5 d1_3
          have d2_5 := keepC hb5 d2_3
          have d3_5 := keepC hb5 d3_3
          have d4_5 := keepC hb5 d4_3
          have d5_5 := keepC hb5 d5_3
          have hO5 := owns_below hO3 hb5
          have h5s : nF ≤ w5.heap.size := Nat.le_trans hnF3 hb5.size
          obtain ⟨n1, hn1⟩ : ∃ n, w5.heap.size = n := ⟨_, rfl⟩
          have hLg1 : gL < n1 := by rw [← hn1]; exact hLg
          have hLb1 : n0 ≤ gL := Nat.le_trans hN3 hLb
          have hnF1 : nF ≤ n1 := by rw [← hn1]; exact h5s
          have hloc5 : ∀ g, (Value.slice a6 m6 c6).ownBlock = some g → g < n0 ∨ n1 ≤ g := fun g hg => .inl (hlo g hg)
          have hn01 : n0 < n1 := by omega
          have hn1b : n1 ≤ w5.heap.size := by omega
          have hwn : w.heap.size ≤ n0 := hsW0
          clear hOL hLs hLp hLc hb5 hLg hLb hn1 h5s
          go_wp2
          go_loopw [6, 61] (fun s6 s61 wq => ∃ (j : Nat) (p : Option Addr) (m c : Nat), j ≤ L.length ∧ s61 = .int .i64 j ∧ s6 = .slice p m c ∧ OwnsT wq w.heap.size (.slice p m c) (foldT (turnE e H) (L.take j) T0) ∧ Hid (∀ g, (Value.slice p m c).ownBlock = some g → g < n0 ∨ n1 ≤ g) ∧ Mid n0 n1 w5 wq ∧ w5.heap.size ≤ wq.heap.size ∧ Below w.heap.size w wq) (fun _ s61 _ => L.length - (intOf s61).toNat)
          case atStart => exact ⟨0, a6, m6, c6, by omega, rfl, rfl, hO5, hloc5, Mid.refl _ _ _, Nat.le_refl _, hB5⟩
          case round =>
            obtain ⟨wq, hwq⟩ : ∃ x : World, x = wr := ⟨_, rfl⟩
            subst hwq
            obtain ⟨j, p, m, c, hj, rfl, rfl, hOq, hlq, hMq, hsq, hBq⟩ := hrel
            by_cases hjl : j < L.length
            · obtain ⟨t, ht⟩ : ∃ t, L[j]? = some t := ⟨_, List.getElem?_eq_getElem hjl⟩
              have ct : wq.cell? ⟨gL, j, none⟩ = some (.int .i64 t) := hMq.cell hLb1 hLg1 (HLc.out j t ht)
              have HTk : Hid (foldT (turnE e H) (L.take (j + 1)) T0 = addT (foldT (turnE e H) (L.take j) T0) (turnE e H t)) := by simp only [Hid]; rw [List.take_add_one, ht]; exact foldT_snoc _ _ _ _
              have hTl : (foldT (turnE e H) (L.take j) T0).length ≤ 100000 := by have h1 := foldT_len (turnE e H) (L.take j) T0; have h2 : (L.take j).length ≤ L.length := by rw [List.length_take]; omega
                                                                                 omega
              obtain ⟨TT, hTT⟩ : ∃ TT, foldT (turnE e H) (L.take j) T0 = TT := ⟨_, rfl⟩
              rw [hTT] at hOq HTk hTl
              have q0_6 := hMq.cell (Nat.le_refl _) hn01 d0_5
              have q1_6 := hMq.cell (Nat.le_refl _) hn01 d1_5
              have q2_6 := hMq.cell (Nat.le_refl _) hn01 d2_5
              have q3_6 := hMq.cell (Nat.le_refl _) hn01 d3_5
              have q4_6 := hMq.cell (Nat.le_refl _) hn01 d4_5
              have q5_6 := hMq.cell (Nat.le_refl _) hn01 d5_5
              have hBD : Below w.heap.size w wq.drew := hBq.trans ((below_drew wq).mono hBq.size)
              have hC := hF5.tell wq.drew t (fun g h1 h2 => hMq g h1 (by omega))
              have hgo := hF5.go
              obtain ⟨⟨sv1, sv2⟩, slt⟩ := HFb.out t
              have hTO := fun w1 hM => impl_turnOf e (forceE e H t) t w1 hM (by have := hef; omega) (by omega) he3 he4 sv1 sv2
              have HTE : Hid (turnE e H t = madeE e (forceE e H t) t) := rfl
              have hWT := fun w1 h1 h2 => impl_withTurn TT (madeE e (forceE e H t) t) (.slice p m c) w.heap.size w1 h1 h2 hTl
              generalize forceE e H t = F at *
              obtain ⟨fa, fs, fl⟩ := F
              generalize madeE e ⟨fa, fs, fl⟩ t = X at *
              obtain ⟨xa, xo, xs, xb⟩ := X
              simp only [HapD.v, TurnD.v, EraD.v] at hC hTO hWT
              have hOD : OwnsT wq.drew w.heap.size (.slice p m c) TT := hOq
              have hmxD : MxA wq.drew := MxA.of_below hMxA hBD
              have hjl2 : (j : Int) < (L.length : Int) := by omega
              have hen : ∀ g, (Value.slice p m c).ownBlock = some g → ¬ g = n0 := fun g hg => by have := hlq.out g hg; omega
              have hwb : ∀ g, (Value.slice p m c).ownBlock = some g → w.heap.size ≤ g := fun g hg => (World.ownsRow.lt hOq g hg).1
              clear ht hTT
              go_wp2_with fail
              go_region_held3 (fun w' => w'.cell? ⟨n0, 0, none⟩ = some (.int .i64 e.offset) ∧ w'.cell? ⟨n0, 1, none⟩ = some (.string e.rules) ∧ w'.cell? ⟨n0, 2, none⟩ = some (.int .i64 e.save) ∧ w'.cell? ⟨n0, 3, none⟩ = some (.string e.format) ∧ w'.cell? ⟨n0, 4, none⟩ = some (.int .i64 e.until_) ∧ w'.cell? ⟨n0, 5, none⟩ = some (.string e.of)) (go_keep) (first | (refine hC.mono ?_; rintro q6 w6 ⟨rfl, hb6⟩; have s0_6 := keepC hb6 q0_6; have s1_6 := keepC hb6 q1_6; have s2_6 := keepC hb6 q2_6; have s3_6 := keepC hb6 q3_6; have s4_6 := keepC hb6 q4_6; have s5_6 := keepC hb6 q5_6; have hO6 : OwnsT w6 w.heap.size (.slice p m c) TT := owns_below hOD hb6; have hm6 := MxA.of_below hmxD hb6; have hB6 : Below w.heap.size w w6 := hBD.trans (hb6.mono hBD.size)) | (go_at_call 100; refine (hTO _ hm6).mono ?_; rintro q7 w7 ⟨rfl, hb7⟩; have s0_7 := keepC hb7 s0_6; have s1_7 := keepC hb7 s1_6; have s2_7 := keepC hb7 s2_6; have s3_7 := keepC hb7 s3_6; have s4_7 := keepC hb7 s4_6; have s5_7 := keepC hb7 s5_6; have hO7 : OwnsT w7 w.heap.size (.slice p m c) TT := owns_below hO6 hb7; have hB7 : Below w.heap.size w w7 := hB6.trans (hb7.mono hB6.size)) | (go_at_call 99; refine (hWT _ hO7 hB7.size).mono ?_; rintro q8 w8 ⟨v8, rfl, hO8, hFr, hlc⟩; obtain ⟨p8, m8, c8, rfl⟩ := row_shape3 hO8; have s0_8 := hFr.cell (fun hg => hen _ hg rfl) s0_7; have s1_8 := hFr.cell (fun hg => hen _ hg rfl) s1_7; have s2_8 := hFr.cell (fun hg => hen _ hg rfl) s2_7; have s3_8 := hFr.cell (fun hg => hen _ hg rfl) s3_7; have s4_8 := hFr.cell (fun hg => hen _ hg rfl) s4_7; have s5_8 := hFr.cell (fun hg => hen _ hg rfl) s5_7))
              all_goals
                have h67 : w5.heap.size ≤ w7.heap.size := by have h1 := hb6.size; have h2 := hb7.size; have h3 : wq.drew.heap.size = wq.heap.size := rfl; omega
                have M7 : Mid n0 n1 w5 w7 := (hMq.trans (Mid.of_below (n0 := n0) (n1 := n1) (below_drew wq) (by omega))).trans ((Mid.of_below (n0 := n0) (n1 := n1) hb6 (by have h3 : wq.drew.heap.size = wq.heap.size := rfl; omega)).trans (Mid.of_below (n0 := n0) (n1 := n1) hb7 (by have h1 := hb6.size; have h3 : wq.drew.heap.size = wq.heap.size := rfl; omega)))
                have M8 : Mid n0 n1 w5 w8 := M7.trans fun g h1 h2 => hFr.block g (by omega) fun hg => by have := hlq.out g hg; omega
                have B8 : Below w.heap.size w w8 := hB7.trans (hFr.below (fun g hg => hwb g hg) hB7.size)
                have HO8 : Hid (OwnsT w8 w.heap.size (.slice p8 m8 c8) (foldT (turnE e H) (L.take (j + 1)) T0)) := by rw [HTk.out, HTE.out]; exact hO8
                have HL8 : Hid (∀ g, (Value.slice p8 m8 c8).ownBlock = some g → g < n0 ∨ n1 ≤ g) := fun g hg => by
                  rcases hlc with h | ⟨g2, h2, h3⟩
                  · exact hlq.out g (h.symm.trans hg)
                  · rw [h2] at hg; injection hg with hg; omega
                have S8 : w5.heap.size ≤ w8.heap.size := Nat.le_trans h67 hFr.size
                clear hO8 hFr hlc M7 hb6 hb7 hO6 hO7 hC hTO hWT
                go_wp2
                go_roundw
                case rel => exact ⟨j + 1, p8, m8, c8, by omega, by go_num, rfl, HO8.out, HL8, M8, S8, B8⟩
                case measure => simp [intOf]; omega
            · have hje : j = L.length := by omega
              have HOe : Hid (OwnsT wq w.heap.size (.slice p m c) (stK r E (k + 1)).1) := by rw [HS.out]; simp only; rw [← HL.out]; rw [hje, List.take_length] at hOq; exact hOq
              have hjl2 : ¬ (j : Int) < (L.length : Int) := by omega
              have HBe : Hid ((stK r E (k + 1)).2 = 253402300799) := by simp only [Hid]; rw [HS.out]
              clear hje
              go_wp2
              go_roundw
              case rel => exact ⟨k + 1, p, m, c, by omega, rfl, by rw [HBe.out], by go_num, HOe.out, HOK, hBq⟩
              case measure => simp [intOf]; omega
        · have hq : ((k : Int) == (E.length : Int) - 1) = false := by simp; omega
          have hSM := hSM hla
          have hEE := impl_eraEnd e H n0 nF K cap b w3 hF3 hnF3 eR.unt.1 eR.unt.2 eR.off.1 eR.off.2 (fun t => (HFb.out t).1)
          simp only [EraD.v] at hEE
          have hbd : b ≤ endE e H b ∧ endE e H b ≤ 253402300799 := by unfold endE; omega
          clear hSL hla
          generalize endE e H b = en at *
          go_wp2_with fail
          refine hEE.mono ?_
          rintro q w4 ⟨rfl, hbw4⟩
          have hB4 := hB3.trans (hbw4.mono hB3.size)
          have hO4 := owns_below hO3 hbw4
          have sH4 := sH3.below hbw4
          have hN4 : n0 ≤ w4.heap.size := by have h1 := hbw4.size; omega
          have hnF4 : nF ≤ w4.heap.size := by have h1 := hbw4.size; omega
          have hF4 := hF3.mid (Mid.of_below hbw4 hnF3)
          have d0_4 := keepC hbw4 d0_3
          have d1_4 := keepC hbw4 d1_3
          have d2_4 := keepC hbw4 d2_3
          have d3_4 := keepC hbw4 d3_3
          have d4_4 := keepC hbw4 d4_3
          have d5_4 := keepC hbw4 d5_3
          clear hEE hbw4 sH3 hO3 hF3 d0_3 d1_3 d2_3 d3_3 d4_3 d5_3 hB3
          by_cases hbe : b < en
          · rw [if_pos hbe] at hSM
            have HS : Hid (stK r E (k + 1) = (foldT (turnE e H) (atsF b (inX H b en)) T0, en)) := hSM
            have hTT := impl_turnTimes H a2 ca2 b en w4 sH4 hHl
            clear hSM
            go_wp2_with fail
            refine hTT.mono ?_
            rintro q w5 ⟨vL, L, rfl, hOL, hLs, hLp, hb5⟩
            have HL : Hid (foldT (turnE e H) L T0 = foldT (turnE e H) (atsF b (inX H b en)) T0) := times_same (turnE e H) hLs hLp T0
            have hLl : L.length ≤ 2001 := by have h1 := hLp.length_eq; have h2 := inX_len H b en; simp only [List.length_cons] at h1; omega
            obtain ⟨aL, mL, cL, hvL⟩ := row_shape3 hOL
            subst hvL
            have hL0 : 0 < L.length := by have h1 := hLp.length_eq; simp only [List.length_cons] at h1; omega
            obtain ⟨gL, capL, hLv, _, hLg, hLb, hLc⟩ := hOL.open hL0
            injection hLv with hLv1 hLv2 hLv3
            subst hLv1 hLv2 hLv3
            have HLc : Hid (∀ (i : Nat) x, L[i]? = some x → w5.cell? ⟨gL, i, none⟩ = some (.int .i64 x)) := hLc
            have hB5 := hB4.trans (hb5.mono hB4.size)
            have m5 : Mid n0 nF w4 w5 := Mid.of_below hb5 hnF4
            have hF5 := hF4.mid m5
            have d0_5 := keepC hb5 d0_4
            have d1_5 := keepC hb5 d1_4
            have d2_5 := keepC hb5 d2_4
            have d3_5 := keepC hb5 d3_4
            have d4_5 := keepC hb5 d4_4
            have d5_5 := keepC hb5 d5_4
            have hO5 := owns_below hO4 hb5
            have h5s : nF ≤ w5.heap.size := Nat.le_trans hnF4 hb5.size
            obtain ⟨n1, hn1⟩ : ∃ n, w5.heap.size = n := ⟨_, rfl⟩
            have hLg1 : gL < n1 := by rw [← hn1]; exact hLg
            have hLb1 : n0 ≤ gL := Nat.le_trans hN4 hLb
            have hnF1 : nF ≤ n1 := by rw [← hn1]; exact h5s
            have hloc5 : ∀ g, (Value.slice a6 m6 c6).ownBlock = some g → g < n0 ∨ n1 ≤ g := fun g hg => .inl (hlo g hg)
            have hn01 : n0 < n1 := by omega
            have hn1b : n1 ≤ w5.heap.size := by omega
            have hwn : w.heap.size ≤ n0 := hsW0
            clear hOL hLs hLp hLc hb5 hLg hLb hn1 h5s
            go_wp2
            go_loopw [6, 61] (fun s6 s61 wq => ∃ (j : Nat) (p : Option Addr) (m c : Nat), j ≤ L.length ∧ s61 = .int .i64 j ∧ s6 = .slice p m c ∧ OwnsT wq w.heap.size (.slice p m c) (foldT (turnE e H) (L.take j) T0) ∧ Hid (∀ g, (Value.slice p m c).ownBlock = some g → g < n0 ∨ n1 ≤ g) ∧ Mid n0 n1 w5 wq ∧ w5.heap.size ≤ wq.heap.size ∧ Below w.heap.size w wq) (fun _ s61 _ => L.length - (intOf s61).toNat)
            case atStart => exact ⟨0, a6, m6, c6, by omega, rfl, rfl, hO5, hloc5, Mid.refl _ _ _, Nat.le_refl _, hB5⟩
            case round =>
              obtain ⟨wq, hwq⟩ : ∃ x : World, x = wr := ⟨_, rfl⟩
              subst hwq
              obtain ⟨j, p, m, c, hj, rfl, rfl, hOq, hlq, hMq, hsq, hBq⟩ := hrel
              by_cases hjl : j < L.length
              · obtain ⟨t, ht⟩ : ∃ t, L[j]? = some t := ⟨_, List.getElem?_eq_getElem hjl⟩
                have ct : wq.cell? ⟨gL, j, none⟩ = some (.int .i64 t) := hMq.cell hLb1 hLg1 (HLc.out j t ht)
                have HTk : Hid (foldT (turnE e H) (L.take (j + 1)) T0 = addT (foldT (turnE e H) (L.take j) T0) (turnE e H t)) := by simp only [Hid]; rw [List.take_add_one, ht]; exact foldT_snoc _ _ _ _
                have hTl : (foldT (turnE e H) (L.take j) T0).length ≤ 100000 := by have h1 := foldT_len (turnE e H) (L.take j) T0; have h2 : (L.take j).length ≤ L.length := by rw [List.length_take]; omega
                                                                                   omega
                obtain ⟨TT, hTT⟩ : ∃ TT, foldT (turnE e H) (L.take j) T0 = TT := ⟨_, rfl⟩
                rw [hTT] at hOq HTk hTl
                have q0_6 := hMq.cell (Nat.le_refl _) hn01 d0_5
                have q1_6 := hMq.cell (Nat.le_refl _) hn01 d1_5
                have q2_6 := hMq.cell (Nat.le_refl _) hn01 d2_5
                have q3_6 := hMq.cell (Nat.le_refl _) hn01 d3_5
                have q4_6 := hMq.cell (Nat.le_refl _) hn01 d4_5
                have q5_6 := hMq.cell (Nat.le_refl _) hn01 d5_5
                have hBD : Below w.heap.size w wq.drew := hBq.trans ((below_drew wq).mono hBq.size)
                have hC := hF5.tell wq.drew t (fun g h1 h2 => hMq g h1 (by omega))
                have hgo := hF5.go
                obtain ⟨⟨sv1, sv2⟩, slt⟩ := HFb.out t
                have hTO := fun w1 hM => impl_turnOf e (forceE e H t) t w1 hM (by have := hef; omega) (by omega) he3 he4 sv1 sv2
                have HTE : Hid (turnE e H t = madeE e (forceE e H t) t) := rfl
                have hWT := fun w1 h1 h2 => impl_withTurn TT (madeE e (forceE e H t) t) (.slice p m c) w.heap.size w1 h1 h2 hTl
                generalize forceE e H t = F at *
                obtain ⟨fa, fs, fl⟩ := F
                generalize madeE e ⟨fa, fs, fl⟩ t = X at *
                obtain ⟨xa, xo, xs, xb⟩ := X
                simp only [HapD.v, TurnD.v, EraD.v] at hC hTO hWT
                have hOD : OwnsT wq.drew w.heap.size (.slice p m c) TT := hOq
                have hmxD : MxA wq.drew := MxA.of_below hMxA hBD
                have hjl2 : (j : Int) < (L.length : Int) := by omega
                have hen : ∀ g, (Value.slice p m c).ownBlock = some g → ¬ g = n0 := fun g hg => by have := hlq.out g hg; omega
                have hwb : ∀ g, (Value.slice p m c).ownBlock = some g → w.heap.size ≤ g := fun g hg => (World.ownsRow.lt hOq g hg).1
                clear ht hTT
                go_wp2_with fail
                go_region_held3 (fun w' => w'.cell? ⟨n0, 0, none⟩ = some (.int .i64 e.offset) ∧ w'.cell? ⟨n0, 1, none⟩ = some (.string e.rules) ∧ w'.cell? ⟨n0, 2, none⟩ = some (.int .i64 e.save) ∧ w'.cell? ⟨n0, 3, none⟩ = some (.string e.format) ∧ w'.cell? ⟨n0, 4, none⟩ = some (.int .i64 e.until_) ∧ w'.cell? ⟨n0, 5, none⟩ = some (.string e.of)) (go_keep) (first | (refine hC.mono ?_; rintro q6 w6 ⟨rfl, hb6⟩; have s0_6 := keepC hb6 q0_6; have s1_6 := keepC hb6 q1_6; have s2_6 := keepC hb6 q2_6; have s3_6 := keepC hb6 q3_6; have s4_6 := keepC hb6 q4_6; have s5_6 := keepC hb6 q5_6; have hO6 : OwnsT w6 w.heap.size (.slice p m c) TT := owns_below hOD hb6; have hm6 := MxA.of_below hmxD hb6; have hB6 : Below w.heap.size w w6 := hBD.trans (hb6.mono hBD.size)) | (go_at_call 100; refine (hTO _ hm6).mono ?_; rintro q7 w7 ⟨rfl, hb7⟩; have s0_7 := keepC hb7 s0_6; have s1_7 := keepC hb7 s1_6; have s2_7 := keepC hb7 s2_6; have s3_7 := keepC hb7 s3_6; have s4_7 := keepC hb7 s4_6; have s5_7 := keepC hb7 s5_6; have hO7 : OwnsT w7 w.heap.size (.slice p m c) TT := owns_below hO6 hb7; have hB7 : Below w.heap.size w w7 := hB6.trans (hb7.mono hB6.size)) | (go_at_call 99; refine (hWT _ hO7 hB7.size).mono ?_; rintro q8 w8 ⟨v8, rfl, hO8, hFr, hlc⟩; obtain ⟨p8, m8, c8, rfl⟩ := row_shape3 hO8; have s0_8 := hFr.cell (fun hg => hen _ hg rfl) s0_7; have s1_8 := hFr.cell (fun hg => hen _ hg rfl) s1_7; have s2_8 := hFr.cell (fun hg => hen _ hg rfl) s2_7; have s3_8 := hFr.cell (fun hg => hen _ hg rfl) s3_7; have s4_8 := hFr.cell (fun hg => hen _ hg rfl) s4_7; have s5_8 := hFr.cell (fun hg => hen _ hg rfl) s5_7))
                all_goals
                  have h67 : w5.heap.size ≤ w7.heap.size := by have h1 := hb6.size; have h2 := hb7.size; have h3 : wq.drew.heap.size = wq.heap.size := rfl; omega
                  have M7 : Mid n0 n1 w5 w7 := (hMq.trans (Mid.of_below (n0 := n0) (n1 := n1) (below_drew wq) (by omega))).trans ((Mid.of_below (n0 := n0) (n1 := n1) hb6 (by have h3 : wq.drew.heap.size = wq.heap.size := rfl; omega)).trans (Mid.of_below (n0 := n0) (n1 := n1) hb7 (by have h1 := hb6.size; have h3 : wq.drew.heap.size = wq.heap.size := rfl; omega)))
                  have M8 : Mid n0 n1 w5 w8 := M7.trans fun g h1 h2 => hFr.block g (by omega) fun hg => by have := hlq.out g hg; omega
                  have B8 : Below w.heap.size w w8 := hB7.trans (hFr.below (fun g hg => hwb g hg) hB7.size)
                  have HO8 : Hid (OwnsT w8 w.heap.size (.slice p8 m8 c8) (foldT (turnE e H) (L.take (j + 1)) T0)) := by rw [HTk.out, HTE.out]; exact hO8
                  have HL8 : Hid (∀ g, (Value.slice p8 m8 c8).ownBlock = some g → g < n0 ∨ n1 ≤ g) := fun g hg => by
                    rcases hlc with h | ⟨g2, h2, h3⟩
                    · exact hlq.out g (h.symm.trans hg)
                    · rw [h2] at hg; injection hg with hg; omega
                  have S8 : w5.heap.size ≤ w8.heap.size := Nat.le_trans h67 hFr.size
                  clear hO8 hFr hlc M7 hb6 hb7 hO6 hO7 hC hTO hWT
                  go_wp2
                  go_roundw
                  case rel => exact ⟨j + 1, p8, m8, c8, by omega, by go_num, rfl, HO8.out, HL8, M8, S8, B8⟩
                  case measure => simp [intOf]; omega
              · have hje : j = L.length := by omega
                have HOe : Hid (OwnsT wq w.heap.size (.slice p m c) (stK r E (k + 1)).1) := by rw [HS.out]; simp only; rw [← HL.out]; rw [hje, List.take_length] at hOq; exact hOq
                have hjl2 : ¬ (j : Int) < (L.length : Int) := by omega
                have HBe : Hid ((stK r E (k + 1)).2 = en) := by simp only [Hid]; rw [HS.out]
                clear hje
                go_wp2
                go_roundw
                case rel => exact ⟨k + 1, p, m, c, by omega, rfl, by rw [HBe.out], by go_num, HOe.out, HOK, hBq⟩
                case measure => simp [intOf]; omega
          · rw [if_neg hbe] at hSM
            have HOe : Hid (OwnsT w4 w.heap.size (.slice a6 m6 c6) (stK r E (k + 1)).1) := by rw [hSM]; exact hO4
            have HBe : Hid ((stK r E (k + 1)).2 = en) := by simp only [Hid]; rw [hSM]
            clear hSM
            go_wp2
            go_roundw
            case rel => exact ⟨k + 1, a6, m6, c6, by omega, rfl, by rw [HBe.out], by go_num, HOe.out, HOK, hB4⟩
            case measure => simp [intOf]; omega
    · have hke : k = E.length := by omega
      have HX : Hid (tabE r E = ((stK r E k).1, decide ((stK r E k).1.length ≤ 600))) := by simp only [Hid, tabE]; rw [hke] at hOk ⊢; rw [hOk.out]; rfl
      have hkl : ¬ (k : Int) < (E.length : Int) := by omega
      obtain ⟨⟨T0, b⟩, hst⟩ : ∃ st, stK r E k = st := ⟨_, rfl⟩
      rw [hst] at hT hs7 HX hTl0
      simp only at hT hs7 HX hTl0
      subst hs7
      have hm : m6 = T0.length := by
        obtain ⟨a, cap, h, _⟩ := hT.seq
        injection h
      subst hm
      clear hke hst
      by_cases h6 : T0.length ≤ 600
      · have h6i : (T0.length : Int) ≤ 600 := by omega
        rw [decide_eq_true h6] at HX
        go_wp2
        exact bodyPost_ret (v := .tuple #[.slice a6 T0.length c6, .bool true]) (by simp [results, Tryz.results45, go_sem]) rfl ⟨⟨_, _, T0, rfl, hT, HX.out, hB⟩⟩
      · have h6i : ¬ (T0.length : Int) ≤ 600 := by omega
        rw [decide_eq_false h6] at HX
        go_wp2
        exact bodyPost_ret (v := .tuple #[.slice a6 T0.length c6, .bool false]) (by simp [results, Tryz.results45, go_sem]) rfl ⟨⟨_, _, T0, rfl, hT, HX.out, hB⟩⟩
end Go.Proofs.YtbbhpfobcelbfaaGreatDoor
