/- Lists of Haps: how much they hold, copied, held against each other. -/
import Derived.Test.YtbbhpfobcelbfaaGreatDoorRelPt
import Derived.Lib.QuietBelow
namespace Go.Proofs.YtbbhpfobcelbfaaGreatDoor
open Go.RowKit Go.Sort

structure HapD where
  at_ : Int
  save : Int
  letter : ByteArray
def HapD.cs (r : HapD) : List Value := [.int .i64 r.at_, .int .i64 r.save, .string r.letter]
def HapD.v (r : HapD) : Value := .agg #[.int .i64 r.at_, .int .i64 r.save, .string r.letter]
def HapD.sz (r : HapD) : Nat := r.letter.size
def HapD.ok (r : HapD) : Prop := r.letter.size ≤ maxLen
def hsz (l : List HapD) : Nat := (l.map HapD.sz).sum
theorem hsz_take {l : List HapD} {k : Nat} {r : HapD} (h : l[k]? = some r) : hsz (l.take (k + 1)) = hsz (l.take k) + r.sz := by
  unfold hsz
  rw [List.take_add_one, h]
  simp
theorem hsz_le (l : List HapD) (k : Nat) : hsz (l.take k) ≤ hsz l := by
  have := congrArg (fun l => (l.map HapD.sz).sum) (List.take_append_drop k l)
  simp only [List.map_append, List.sum_append] at this
  unfold hsz
  omega
set_option maxRecDepth 100000 in
theorem infoHap : ∃ i : TypeInfo, Tryz.prog.info? 36 = some i ∧ i.zero = some (.agg #[.int .i64 0, .int .i64 0, .string ⟨#[]⟩]) ∧ i.size = 3 ∧ i.bytes = 32 := ⟨_, rfl, rfl, rfl, rfl⟩
theorem HapD.len (r : HapD) : r.cs.length = 3 := rfl
set_option maxHeartbeats 1000000 in
theorem laws_eqHap (r : HapD) (w : World) :
    Calls Tryz.prog 57 #[r.v, r.v] w fun e w' => e = .returned (.bool true) ∧ Below w.heap.size w w' := by
  obtain ⟨at_, save, letter⟩ := r
  simp only [HapD.v] at *
  go_enter Tryz.func57, Tryz.ntmps57
  go_wp2
  go_ret
  exact ⟨rfl, ((Below.refl _ _).alloc (Nat.le_refl _) _).alloc (by simp) _⟩
set_option maxHeartbeats 2000000 in
theorem laws_eqHapS (l : List HapD) (a a2 : Option Addr) (cap cap2 : Nat) (w : World) (hA : SeqAt w a 3 (l.map HapD.cs)) (hA2 : SeqAt w a2 3 (l.map HapD.cs)) (hl : l.length ≤ 1048576) :
    Calls Tryz.prog 22 #[.slice a l.length cap, .slice a2 l.length cap2] w fun e w' => e = .returned (.bool true) ∧ Below w.heap.size w w' := by
  go_enter Tryz.func22, Tryz.ntmps22
  go_wp2
  go_loopw [5] (fun i wr => ∃ k : Nat, k ≤ l.length ∧ i = .int .i64 k ∧ Below w.heap.size w wr) (fun i _ => l.length - (intOf i).toNat)
  case atStart => exact ⟨0, by omega, rfl, Below.refl _ _⟩
  case round =>
    obtain ⟨k, hk, rfl, hB⟩ := hrel
    by_cases hlt : k < l.length
    · obtain ⟨r, hr⟩ : ∃ r, l[k]? = some r := ⟨_, List.getElem?_eq_getElem hlt⟩
      have hrow : (l.map HapD.cs)[k]? = some r.cs := by rw [List.getElem?_map, hr]; rfl
      obtain ⟨b, o, rfl, hc⟩ := (hA.below hB).at (i := k) hrow
      obtain ⟨b2, o2, rfl, hd⟩ := (hA2.below hB).at (i := k) hrow
      have hS := fun w => laws_eqHap r w
      have c0 : wr.cell? ⟨b, o + k * 3, none⟩ = some (.int .i64 r.at_) := hc 0 _ rfl
      have d0 : wr.cell? ⟨b2, o2 + k * 3, none⟩ = some (.int .i64 r.at_) := hd 0 _ rfl
      have c1 := hc 1 _ rfl
      have d1 := hd 1 _ rfl
      have c2 := hc 2 _ rfl
      have d2 := hd 2 _ rfl
      clear hc hd
      unfold HapD.v at hS
      have cE : ∀ dd os, Calls Tryz.prog _ _ (grow (redrawn wr dd) os) fun e w'' => e = .returned (.bool true) ∧ ∃ p : Regrown, w'' = grow (redrawn wr p.d) p.os := fun _ _ => Calls.regrown_of (hS _)
      have kc0 := cell_regrown c0
      have kd0 := cell_regrown d0
      have kc1 := cell_regrown c1
      have kd1 := cell_regrown d1
      have kc2 := cell_regrown c2
      have kd2 := cell_regrown d2
      go_wp2_with fail
      refine wp_region_quiet_below (by kernel_rfl) (by kernel_rfl) ?_
      repeat (quiet_step ((go_at_call 57; exact cE _ _)))
      refine wpQuiet_nil ?_
      intro _ hw'
      obtain ⟨⟨dq, osq⟩, hw''⟩ := hw'
      subst hw''
      have hb2 := below_regrown wr dq osq
      go_wp2
      go_roundw
      case rel => exact ⟨k + 1, by omega, by go_num, hB.trans (hb2.mono hB.size)⟩
      case measure => simp [intOf]; omega
    · have e : k = l.length := by omega
      subst e
      go_wp2
      go_ret
      exact ⟨rfl, hB⟩
end Go.Proofs.YtbbhpfobcelbfaaGreatDoor
