/- Zones: a name and a list of eras each; how much they hold, copied, held against each other. -/
import Derived.Test.YtjdokmllidhapaaGreatDoorRelEra
namespace Go.Proofs.YtjdokmllidhapaaGreatDoor
open Go.RowKit Go.Sort

structure ZoneD where
  name : ByteArray
  eras : List EraD
def ZoneD.sz (z : ZoneD) : Nat := z.name.size + (z.eras.length + esz z.eras)
def ZoneD.ok (z : ZoneD) : Prop := z.name.size ≤ maxLen ∧ z.eras.length ≤ maxLen ∧ ∀ r ∈ z.eras, r.ok
/-- a list of eras in memory. -/
def EraSl (w : World) (v : Value) (es : List EraD) : Prop := ∃ a cap, v = .slice a es.length cap ∧ SeqAt w a 6 (es.map EraD.cs)
theorem EraSl.below {w w' : World} {v : Value} {es : List EraD} (h : EraSl w v es) (hb : Below w.heap.size w w') : EraSl w' v es := by
  obtain ⟨a, cap, rfl, hA⟩ := h
  exact ⟨a, cap, rfl, hA.below hb⟩
/-- a list of zones in memory: at each place a name and a list's value. -/
def ZonesAt (w : World) (a : Option Addr) (zs : List ZoneD) : Prop :=
  zs = [] ∨ ∃ b o, a = some ⟨b, o, none⟩ ∧ ∀ i z, zs[i]? = some z → w.cell? ⟨b, o + i * 2, none⟩ = some (.string z.name) ∧ ∃ v, w.cell? ⟨b, o + i * 2 + 1, none⟩ = some v ∧ EraSl w v z.eras
theorem ZonesAt.below {w w' : World} {a : Option Addr} {zs : List ZoneD} (h : ZonesAt w a zs) (hb : Below w.heap.size w w') : ZonesAt w' a zs := by
  rcases h with h | ⟨b, o, ha, hc⟩
  · exact .inl h
  · refine .inr ⟨b, o, ha, fun i z hi => ?_⟩
    obtain ⟨c0, v, c1, he⟩ := hc i z hi
    have hlt := World.block_lt_of_cell? _ _ c0
    exact ⟨by rw [(bcell hb).1 _ _ hlt]; exact c0, v, by rw [(bcell hb).1 _ _ hlt]; exact c1, he.below hb⟩
theorem ZonesAt.at {w : World} {a : Option Addr} {zs : List ZoneD} (h : ZonesAt w a zs) {i : Nat} {z : ZoneD} (hi : zs[i]? = some z) : ∃ b o, a = some ⟨b, o, none⟩ ∧ w.cell? ⟨b, o + i * 2, none⟩ = some (.string z.name) ∧ ∃ v, w.cell? ⟨b, o + i * 2 + 1, none⟩ = some v ∧ EraSl w v z.eras := by
  rcases h with rfl | ⟨b, o, ha, hc⟩
  · simp at hi
  · exact ⟨b, o, ha, hc i z hi⟩
set_option maxHeartbeats 1000000 in
theorem laws_szZone (z : ZoneD) (v : Value) (n : Int) (w : World) (hv : EraSl w v z.eras) (hm : z.ok) (h0 : 0 ≤ n) (h1 : n ≤ 1048576) :
    Calls Tryz.prog 121 #[.agg #[.string z.name, v], .int .i64 n] w fun e w' => e = .returned (.int .i64 (clip (n - z.sz))) ∧ Below w.heap.size w w' := by
  obtain ⟨a, cap, rfl, hA⟩ := hv
  obtain ⟨name, es⟩ := z
  obtain ⟨m1, m2, m3⟩ := hm
  simp only [ZoneD.sz] at *
  by_cases g1 : n < name.size
  · unfold maxLen at m1
    have HR : Hid (clip (n - ↑(name.size + (es.length + esz es))) = -1) := clip_n (by omega)
    go_enter Tryz.func121, Tryz.ntmps121
    go_wp2
    go_ret
    exact ⟨ret_int HR.out.symm, (Below.refl _ _).alloc (Nat.le_refl _) _⟩
  have hE := fun w (h : SeqAt w a 6 (es.map EraD.cs)) => laws_szEraS es a cap (n - name.size) w h m3 m2 (by omega) (by omega)
  unfold maxLen at m1
  by_cases g2 : n - name.size - (es.length + esz es) < 0
  · have HR : Hid (clip (n - ↑(name.size + (es.length + esz es))) = -1) := clip_n (by omega)
    rw [clip_n g2] at hE
    go_enter Tryz.func121, Tryz.ntmps121
    go_wp2_with fail
    refine (hE _ (hA.below ((Below.refl _ _).alloc (Nat.le_refl _) _))).mono ?_
    rintro e w1 ⟨rfl, hb⟩
    go_wp2
    go_ret
    exact ⟨ret_int HR.out.symm, ((Below.refl _ _).alloc (Nat.le_refl _) _).trans (hb.mono (by simp))⟩
  · have HR : Hid (clip (n - ↑(name.size + (es.length + esz es))) = n - name.size - (es.length + esz es)) := by
      simp only [Hid]; rw [clip_p (by omega)]; omega
    rw [clip_p (by omega)] at hE
    go_enter Tryz.func121, Tryz.ntmps121
    go_wp2_with fail
    refine (hE _ (hA.below ((Below.refl _ _).alloc (Nat.le_refl _) _))).mono ?_
    rintro e w1 ⟨rfl, hb⟩
    go_wp2
    go_ret
    exact ⟨ret_int HR.out.symm, ((Below.refl _ _).alloc (Nat.le_refl _) _).trans (hb.mono (by simp))⟩
def zsz (l : List ZoneD) : Nat := (l.map ZoneD.sz).sum
theorem zsz_take {l : List ZoneD} {k : Nat} {r : ZoneD} (h : l[k]? = some r) : zsz (l.take (k + 1)) = zsz (l.take k) + r.sz := by
  unfold zsz
  rw [List.take_add_one, h]
  simp
theorem zsz_le (l : List ZoneD) (k : Nat) : zsz (l.take k) ≤ zsz l := by
  have := congrArg (fun l => (l.map ZoneD.sz).sum) (List.take_append_drop k l)
  simp only [List.map_append, List.sum_append] at this
  unfold zsz
  omega
set_option maxHeartbeats 2000000 in
theorem laws_szZoneS (l : List ZoneD) (a : Option Addr) (cap : Nat) (n : Int) (w : World) (hA : ZonesAt w a l) (hok : ∀ r ∈ l, r.ok) (hl : l.length ≤ maxLen) (h0 : 0 ≤ n) (h1 : n ≤ 1048576) :
    Calls Tryz.prog 60 #[.slice a l.length cap, .int .i64 n] w fun e w' => e = .returned (.int .i64 (clip (n - (l.length + zsz l)))) ∧ Below w.heap.size w w' := by
  unfold maxLen at hl
  by_cases g0 : n < l.length
  · have HR : Hid (clip (n - (l.length + zsz l)) = -1) := clip_n (by omega)
    go_enter Tryz.func60, Tryz.ntmps60
    go_wp2
    go_ret
    exact ⟨ret_int HR.out.symm, Below.refl _ _⟩
  go_enter Tryz.func60, Tryz.ntmps60
  go_wp2
  go_loopw [1, 5] (fun x i wr => ∃ k : Nat, k ≤ l.length ∧ i = .int .i64 k ∧ x = .int .i64 (n - l.length - zsz (l.take k)) ∧ Hid (0 ≤ n - l.length - zsz (l.take k)) ∧ Below w.heap.size w wr) (fun _ i _ => l.length - (intOf i).toNat)
  case atStart => exact ⟨0, by omega, rfl, by simp [zsz], by simp [zsz, Hid]; omega, Below.refl _ _⟩
  case round =>
    obtain ⟨k, hk, rfl, rfl, hp, hB⟩ := hrel
    by_cases hlt : k < l.length
    · obtain ⟨r, hr⟩ : ∃ r, l[k]? = some r := ⟨_, List.getElem?_eq_getElem hlt⟩
      obtain ⟨b, o, rfl, c0, v, c1, hv⟩ := (hA.below hB).at hr
      have ok := hok r (List.mem_of_getElem? hr)
      have hp' := hp.out
      have ht := zsz_take hr
      have hle := zsz_le l (k + 1)
      have hS := laws_szZone r v (n - l.length - zsz (l.take k)) wr hv ok (by omega) (by omega)
      by_cases g : n - l.length - zsz (l.take k) - r.sz < 0
      · have HR : Hid (clip (n - (l.length + zsz l)) = -1) := clip_n (by omega)
        rw [clip_n g] at hS
        go_wp2_with fail
        refine hS.mono ?_
        rintro e w2 ⟨rfl, hb2⟩
        go_wp2
        go_ret
        exact ⟨ret_int HR.out.symm, hB.trans (hb2.mono hB.size)⟩
      · rw [clip_p (by omega)] at hS
        have HN : Hid (n - l.length - zsz (l.take k) - r.sz = n - l.length - zsz (l.take (k + 1))) := by simp only [Hid]; omega
        go_wp2_with fail
        refine hS.mono ?_
        rintro e w2 ⟨rfl, hb2⟩
        go_wp2
        go_roundw
        case rel => exact ⟨k + 1, by omega, by go_num, by rw [HN.out], by have := HN.out; simp only [Hid]; omega, hB.trans (hb2.mono hB.size)⟩
        case measure => simp [intOf]; omega
    · have e : k = l.length := by omega
      subst e
      have HR : Hid (clip (n - (l.length + zsz l)) = n - l.length - zsz (l.take l.length)) := by
        have := hp.out
        simp only [Hid]
        rw [List.take_length] at this ⊢
        rw [clip_p (by omega)]; omega
      go_wp2
      go_ret
      exact ⟨ret_int HR.out.symm, hB⟩
end Go.Proofs.YtjdokmllidhapaaGreatDoor
