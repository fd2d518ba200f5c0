/- Releases: how much they hold, copied, held against each other. -/
import Derived.Test.YtjdokmllidhapaaGreatDoorRelZone2
import Derived.Test.YtjdokmllidhapaaGreatDoorRelRule
import Derived.Test.YtjdokmllidhapaaGreatDoorRelLink
namespace Go.Proofs.YtjdokmllidhapaaGreatDoor
open Go.RowKit Go.Sort

set_option maxHeartbeats 1000000 in
theorem laws_eqZone (z : ZoneD) (v v2 : Value) (w : World) (hv : EraSl w v z.eras) (hv2 : EraSl w v2 z.eras) (hl : z.eras.length ≤ 1048576) :
    Calls Tryz.prog 31 #[.agg #[.string z.name, v], .agg #[.string z.name, v2]] w fun e w' => e = .returned (.bool true) ∧ Below w.heap.size w w' := by
  obtain ⟨a, cap, rfl, hA⟩ := hv
  obtain ⟨a2, cap2, rfl, hA2⟩ := hv2
  obtain ⟨name, es⟩ := z
  simp only at *
  have hE := fun w (h : SeqAt w a 6 (es.map EraD.cs)) (h2 : SeqAt w a2 6 (es.map EraD.cs)) => laws_eqEraS es a a2 cap cap2 w h h2 hl
  have hb0 : ∀ o o2, Below w.heap.size w ((w.alloc o).alloc o2) := fun o o2 => ((Below.refl _ _).alloc (Nat.le_refl _) o).alloc (by simp) o2
  go_enter Tryz.func31, Tryz.ntmps31
  go_wp2_with fail
  refine (hE _ (hA.below (hb0 _ _)) (hA2.below (hb0 _ _))).mono ?_
  rintro e w1 ⟨rfl, hb⟩
  go_wp2
  go_ret
  exact ⟨rfl, (hb0 _ _).trans (hb.mono (by simp; omega))⟩
set_option maxHeartbeats 2000000 in
theorem laws_eqZoneS (l : List ZoneD) (a a2 : Option Addr) (cap cap2 : Nat) (w : World) (hA : ZonesAt w a l) (hA2 : ZonesAt w a2 l) (hl : l.length ≤ 1048576) (hle : ∀ z ∈ l, z.eras.length ≤ 1048576) :
    Calls Tryz.prog 79 #[.slice a l.length cap, .slice a2 l.length cap2] w fun e w' => e = .returned (.bool true) ∧ Below w.heap.size w w' := by
  go_enter Tryz.func79, Tryz.ntmps79
  go_wp2
  go_loopw [5] (fun i wr => ∃ k : Nat, k ≤ l.length ∧ i = .int .i64 k ∧ Below w.heap.size w wr) (fun i _ => l.length - (intOf i).toNat)
  case atStart => exact ⟨0, by omega, rfl, Below.refl _ _⟩
  case round =>
    obtain ⟨k, hk, rfl, hB⟩ := hrel
    by_cases hlt : k < l.length
    · obtain ⟨r, hr⟩ : ∃ r, l[k]? = some r := ⟨_, List.getElem?_eq_getElem hlt⟩
      obtain ⟨b, o, rfl, c0, v, c1, hv⟩ := (hA.below hB).at hr
      obtain ⟨b2, o2, rfl, d0, v2, d1, hv2⟩ := (hA2.below hB).at hr
      have hrl := hle r (List.mem_of_getElem? hr)
      have cE : ∀ dd os, Calls Tryz.prog 31 #[.agg #[.string r.name, v], .agg #[.string r.name, v2]] (grow (redrawn wr dd) os) fun e w'' => e = .returned (.bool true) ∧ ∃ p : Regrown, w'' = grow (redrawn wr p.d) p.os := fun dd os => Calls.regrown_of (laws_eqZone r v v2 _ (hv.below (below_regrown wr dd os)) (hv2.below (below_regrown wr dd os)) hrl)
      have kc0 := cell_regrown c0
      have kc1 := cell_regrown c1
      have kd0 := cell_regrown d0
      have kd1 := cell_regrown d1
      go_wp2_with fail
      refine wp_region_quiet_below (by kernel_rfl) (by kernel_rfl) ?_
      repeat (quiet_step ((go_at_call 31; exact cE _ _)))
      refine wpQuiet_nil ?_
      intro _ hw'
      obtain ⟨⟨dq, osq⟩, hw''⟩ := hw'
      subst hw''
      have hb2 := below_regrown wr dq osq
      go_wp2
      go_roundw
      case rel => exact ⟨k + 1, by omega, by go_num, hB.trans (hb2.mono hB.size)⟩
      case measure => simp [intOf]; omega
    · have e : k = l.length := by omega
      subst e
      go_wp2
      go_ret
      exact ⟨rfl, hB⟩
/-- a release. -/
structure RelD where
  rules : List RuleD
  zones : List ZoneD
  links : List LinkD
def RelD.ok (r : RelD) : Prop := (r.rules.length ≤ maxLen ∧ ∀ x ∈ r.rules, x.ok) ∧ (r.zones.length ≤ maxLen ∧ ∀ x ∈ r.zones, x.ok) ∧ (r.links.length ≤ maxLen ∧ ∀ x ∈ r.links, x.ok)
def RelD.sz (r : RelD) : Nat := (r.rules.length + rsz r.rules) + (r.zones.length + zsz r.zones) + (r.links.length + lsz r.links)
/-- a release in memory: three lists. -/
structure RelAt (w : World) (v : Value) (r : RelD) : Prop where
  form : ∃ a b c ca cb cc, v = .agg #[.slice a r.rules.length ca, .slice b r.zones.length cb, .slice c r.links.length cc] ∧ SeqAt w a 9 (r.rules.map RuleD.cs) ∧ ZonesAt w b r.zones ∧ SeqAt w c 2 (r.links.map LinkD.cs)
theorem RelAt.below {w w' : World} {v : Value} {r : RelD} (h : RelAt w v r) (hb : Below w.heap.size w w') : RelAt w' v r := by
  obtain ⟨a, b, c, ca, cb, cc, hv, h1, h2, h3⟩ := h.form
  exact ⟨a, b, c, ca, cb, cc, hv, h1.below hb, h2.below hb, h3.below hb⟩
set_option maxHeartbeats 1000000 in
theorem laws_szRelease (r : RelD) (v : Value) (n : Int) (w : World) (hv : RelAt w v r) (hm : r.ok) (h0 : 0 ≤ n) (h1 : n ≤ 1048576) :
    Calls Tryz.prog 23 #[v, .int .i64 n] w fun e w' => e = .returned (.int .i64 (clip (n - r.sz))) ∧ Below w.heap.size w w' := by
  obtain ⟨a, b, c, ca, cb, cc, rfl, hA, hB, hC⟩ := hv.form
  obtain ⟨⟨p1, p2⟩, ⟨q1, q2⟩, ⟨s1, s2⟩⟩ := hm
  obtain ⟨rs, zs, ls⟩ := r
  simp only [RelD.sz] at *
  have hb0 : ∀ o, Below w.heap.size w (w.alloc o) := fun o => (Below.refl _ _).alloc (Nat.le_refl _) o
  have hR := fun w (h : SeqAt w a 9 (rs.map RuleD.cs)) => laws_szRuleS rs a ca n w h p2 p1 h0 h1
  by_cases g1 : n - (rs.length + rsz rs) < 0
  · have HR : Hid (clip (n - ↑(rs.length + rsz rs + (zs.length + zsz zs) + (ls.length + lsz ls))) = -1) := clip_n (by omega)
    rw [clip_n g1] at hR
    go_enter Tryz.func23, Tryz.ntmps23
    go_wp2_with fail
    refine (hR _ (hA.below (hb0 _))).mono ?_
    rintro e w1 ⟨rfl, hb1⟩
    go_wp2
    go_ret
    exact ⟨ret_int HR.out.symm, (hb0 _).trans (hb1.mono (by simp))⟩
  rw [clip_p (by omega)] at hR
  have hZ := fun w (h : ZonesAt w b zs) => laws_szZoneS zs b cb (n - (rs.length + rsz rs)) w h q2 q1 (by omega) (by omega)
  by_cases g2 : n - (rs.length + rsz rs) - (zs.length + zsz zs) < 0
  · have HR : Hid (clip (n - ↑(rs.length + rsz rs + (zs.length + zsz zs) + (ls.length + lsz ls))) = -1) := clip_n (by omega)
    rw [clip_n g2] at hZ
    go_enter Tryz.func23, Tryz.ntmps23
    go_wp2_with fail
    refine (hR _ (hA.below (hb0 _))).mono ?_
    rintro e w1 ⟨rfl, hb1⟩
    have hB1 := (hb0 _).trans (hb1.mono (by simp))
    obtain ⟨hc, _⟩ := bcell hb1
    have hlt : w.heap.size < w1.heap.size := by have := hb1.size; simp at this; omega
    go_wp2_with fail
    refine (hZ _ (hB.below hB1)).mono ?_
    rintro e w2 ⟨rfl, hb2⟩
    go_wp2
    go_ret
    exact ⟨ret_int HR.out.symm, hB1.trans (hb2.mono hB1.size)⟩
  rw [clip_p (by omega)] at hZ
  have hL := fun w (h : SeqAt w c 2 (ls.map LinkD.cs)) => laws_szLinkS ls c cc (n - (rs.length + rsz rs) - (zs.length + zsz zs)) w h s2 s1 (by omega) (by omega)
  have tail : ∀ m, clip (n - (rs.length + rsz rs) - (zs.length + zsz zs) - (ls.length + lsz ls)) = m → clip (n - ↑(rs.length + rsz rs + (zs.length + zsz zs) + (ls.length + lsz ls))) = m := fun m h => by rw [← h]; congr 1; omega
  by_cases g3 : n - (rs.length + rsz rs) - (zs.length + zsz zs) - (ls.length + lsz ls) < 0
  · have HR : Hid (clip (n - ↑(rs.length + rsz rs + (zs.length + zsz zs) + (ls.length + lsz ls))) = -1) := tail _ (clip_n g3)
    rw [clip_n g3] at hL
    clear tail
    go_enter Tryz.func23, Tryz.ntmps23
    go_wp2_with fail
    refine (hR _ (hA.below (hb0 _))).mono ?_
    rintro e w1 ⟨rfl, hb1⟩
    have hB1 := (hb0 _).trans (hb1.mono (by simp))
    obtain ⟨hc, _⟩ := bcell hb1
    have hlt : w.heap.size < w1.heap.size := by have := hb1.size; simp at this; omega
    go_wp2_with fail
    refine (hZ _ (hB.below hB1)).mono ?_
    rintro e w2 ⟨rfl, hb2⟩
    have hB2 := hB1.trans (hb2.mono hB1.size)
    obtain ⟨hc2, _⟩ := bcell hb2
    go_wp2_with fail
    refine (hL _ (hC.below hB2)).mono ?_
    rintro e w3 ⟨rfl, hb3⟩
    go_wp2
    go_ret
    exact ⟨ret_int HR.out.symm, hB2.trans (hb3.mono hB2.size)⟩
  · have HR : Hid (clip (n - ↑(rs.length + rsz rs + (zs.length + zsz zs) + (ls.length + lsz ls))) = n - (rs.length + rsz rs) - (zs.length + zsz zs) - (ls.length + lsz ls)) := tail _ (clip_p (by omega))
    rw [clip_p (by omega)] at hL
    clear tail
    go_enter Tryz.func23, Tryz.ntmps23
    go_wp2_with fail
    refine (hR _ (hA.below (hb0 _))).mono ?_
    rintro e w1 ⟨rfl, hb1⟩
    have hB1 := (hb0 _).trans (hb1.mono (by simp))
    obtain ⟨hc, _⟩ := bcell hb1
    have hlt : w.heap.size < w1.heap.size := by have := hb1.size; simp at this; omega
    go_wp2_with fail
    refine (hZ _ (hB.below hB1)).mono ?_
    rintro e w2 ⟨rfl, hb2⟩
    have hB2 := hB1.trans (hb2.mono hB1.size)
    obtain ⟨hc2, _⟩ := bcell hb2
    go_wp2_with fail
    refine (hL _ (hC.below hB2)).mono ?_
    rintro e w3 ⟨rfl, hb3⟩
    go_wp2
    go_ret
    exact ⟨ret_int HR.out.symm, hB2.trans (hb3.mono hB2.size)⟩
end Go.Proofs.YtjdokmllidhapaaGreatDoor
