/- What happens by the rules of a name, at an offset: plain mathematics. -/
import Derived.Test.YtbbhpfobcelbfaaGreatDoorHp4q
import Derived.Test.YtbbhpfobcelbfaaGreatDoorRelHapq
namespace Go.Proofs.YtbbhpfobcelbfaaGreatDoor
open Go.RowKit

/-- a rule that happens at a wall time, at an offset and the save ahead. -/
def hapOf (x : RuleD) (wall off save : Int) : HapD := ⟨if (x.of.toList == [115]) = true then wall - off else if (x.of.toList == [119]) = true then wall - off - save else wall, x.save, x.letter⟩
theorem hap_s {x : RuleD} {wall off save : Int} (h : (x.of.toList == [115]) = true) : hapOf x wall off save = ⟨wall - off, x.save, x.letter⟩ := by unfold hapOf; rw [if_pos h]
theorem hap_w {x : RuleD} {wall off save : Int} (h : (x.of.toList == [115]) = false) (h2 : (x.of.toList == [119]) = true) : hapOf x wall off save = ⟨wall - off - save, x.save, x.letter⟩ := by unfold hapOf; rw [if_neg (by rw [h]; simp), if_pos h2]
theorem hap_u {x : RuleD} {wall off save : Int} (h : (x.of.toList == [115]) = false) (h2 : (x.of.toList == [119]) = false) : hapOf x wall off save = ⟨wall, x.save, x.letter⟩ := by unfold hapOf; rw [if_neg (by rw [h]; simp), if_neg (by rw [h2]; simp)]
def stepH (l : List RuleD) (off : Int) (st : List HapD × Int) (m : WallD) : List HapD × Int := match l[m.place]? with
  | some x => (st.1 ++ [hapOf x m.wall off st.2], x.save)
  | none => st
def foldH (l : List RuleD) (off : Int) (s : List WallD) : List HapD × Int := s.foldl (stepH l off) ([], 0)
theorem foldH_take {l : List RuleD} {off : Int} {s : List WallD} {k : Nat} {m : WallD} {x : RuleD} (hm : s[k]? = some m) (hx : l[m.place]? = some x) : foldH l off (s.take (k + 1)) = ((foldH l off (s.take k)).1 ++ [hapOf x m.wall off (foldH l off (s.take k)).2], x.save) := by
  unfold foldH
  rw [List.take_add_one, hm, List.foldl_append]
  show stepH l off _ m = _
  unfold stepH
  rw [hx]
theorem foldH_len {l : List RuleD} {off : Int} {s : List WallD} (h : ∀ m ∈ s, m.place < l.length) : ∀ k, k ≤ s.length → (foldH l off (s.take k)).1.length = k := by
  intro k
  induction k with
  | zero => intro _; rfl
  | succ k ih =>
    intro hk
    obtain ⟨m, hm⟩ : ∃ m, s[k]? = some m := ⟨_, List.getElem?_eq_getElem (by omega)⟩
    obtain ⟨x, hx⟩ : ∃ x, l[m.place]? = some x := ⟨_, List.getElem?_eq_getElem (h m (List.mem_of_getElem? hm))⟩
    rw [foldH_take hm hx, List.length_append, ih (by omega)]; rfl
theorem foldH_save {l : List RuleD} {off : Int} {s : List WallD} (h : ∀ m ∈ s, m.place < l.length) (hs : ∀ x ∈ l, -7200 ≤ x.save ∧ x.save ≤ 7200) : ∀ k, k ≤ s.length → -7200 ≤ (foldH l off (s.take k)).2 ∧ (foldH l off (s.take k)).2 ≤ 7200 := by
  intro k
  induction k with
  | zero => intro _; exact ⟨by simp [foldH], by simp [foldH]⟩
  | succ k ih =>
    intro hk
    obtain ⟨m, hm⟩ : ∃ m, s[k]? = some m := ⟨_, List.getElem?_eq_getElem (by omega)⟩
    obtain ⟨x, hx⟩ : ∃ x, l[m.place]? = some x := ⟨_, List.getElem?_eq_getElem (h m (List.mem_of_getElem? hm))⟩
    rw [foldH_take hm hx]
    exact hs x (List.mem_of_getElem? hx)
/-- what lies in the list is of a rule of the name, and no great number. -/
theorem wallsN_mem {i : Nat} {x : RuleD} {y : Int} (hx : RuleR x) {m : WallD} : ∀ {n : Nat}, 1960 ≤ y → y + n ≤ 2038 → m ∈ wallsN i x y n → m.place = i ∧ -100000000000 ≤ m.wall ∧ m.wall ≤ 300000000000 := by
  intro n
  induction n with
  | zero => intro _ _ h; simp [wallsN] at h
  | succ n ih =>
    intro h1 h2 h
    rw [wallsN, List.mem_append] at h
    rcases h with h | h
    · exact ih h1 (by omega) h
    · have hb := mo_bd (s := x.on) (ym_ok (y := y + n) (m := x.month) (by omega) (by omega) hx.month.1 hx.month.2)
      have ha := hx.at_
      unfold wallsY at h
      split at h
      · simp at h
      · rename_i hne
        simp at h
        subst h
        refine ⟨rfl, ?_, ?_⟩
        · show -100000000000 ≤ 86400 * moV (y + n) x.month x.on + x.at_
          omega
        · show 86400 * moV (y + n) x.month x.on + x.at_ ≤ 300000000000
          omega
theorem wallsT_mem {nm : ByteArray} {l : List RuleD} (hl : ∀ x ∈ l, RuleR x) {m : WallD} : ∀ {k : Nat}, m ∈ wallsT nm l k → (∃ x, l[m.place]? = some x ∧ (x.name.toList == nm.toList) = true) ∧ m.place < k ∧ -100000000000 ≤ m.wall ∧ m.wall ≤ 300000000000 := by
  intro k
  induction k with
  | zero => intro h; simp [wallsT] at h
  | succ k ih =>
    intro h
    rw [wallsT, List.mem_append] at h
    rcases h with h | h
    · obtain ⟨h1, h2, h3⟩ := ih h
      exact ⟨h1, by omega, h3⟩
    · split at h
      · rename_i x hx
        split at h
        · rename_i hn
          by_cases hy : yrs x = 0
          · unfold wallsX at h; rw [hy] at h; simp [wallsN] at h
          · obtain ⟨p1, p2⟩ := wallsN_mem (hl x (List.mem_of_getElem? hx)) (by omega) (by unfold yrs at *; omega) h
            exact ⟨⟨x, by rw [p1]; exact hx, hn⟩, by omega, p2⟩
        · simp at h
      · simp at h
theorem srt_mem {l s : List WallD} (h : SrtOf l s) {m : WallD} (hm : m ∈ s) : m ∈ l := by
  have : m ∈ atW m.wall s := List.mem_filter.mpr ⟨hm, by simp⟩
  rw [h.at_] at this
  exact (List.mem_filter.mp this).1
structure WallOk (l : List RuleD) (s : List WallD) : Prop where
  place : ∀ m ∈ s, m.place < l.length
  wall : ∀ m ∈ s, -100000000000 ≤ m.wall ∧ m.wall ≤ 300000000000
  len : s.length ≤ 2000
theorem walls_ok {r : RelD} {nm : ByteArray} {s : List WallD} {b : Bool} (hl : ∀ x ∈ r.rules, RuleR x) (h : WallsR r nm s b) : WallOk r.rules s := by
  rcases h with ⟨h1, _, h3⟩ | ⟨_, _, h3⟩
  · refine ⟨fun m hm => ?_, fun m hm => ?_, by rw [h3.len]; exact h1⟩
    · exact (wallsT_mem hl (srt_mem h3 hm)).2.1
    · exact (wallsT_mem hl (srt_mem h3 hm)).2.2
  · subst h3
    exact ⟨fun m hm => by simp at hm, fun m hm => by simp at hm, by simp⟩
theorem infoHap2 : (Tryz.prog.info? 36).map (fun i => (i.zero, i.size, i.bytes)) = some (some (.agg #[.int .i64 0, .int .i64 0, .string ⟨#[]⟩]), 3, 32) := by kernel_rfl
theorem hap_len {P : List HapD} : ∀ r ∈ P.map HapD.cs, r.length = 3 := fun r hr => by
  obtain ⟨x, _, rfl⟩ := List.mem_map.mp hr; rfl
def OwnsH (w : World) (base : Nat) (v : Value) (P : List HapD) : Prop := w.ownsRow base 36 3 v P.length (P.map HapD.cs).flatten
theorem OwnsH.add {w : World} {base : Nat} {v : Value} {P : List HapD} {p : HapD} (h : w.ownsRow base 36 3 v (P.length + 1) ((P.map HapD.cs).flatten ++ p.cs)) : OwnsH w base v (P ++ [p]) := by
  unfold OwnsH
  rw [List.length_append, List.map_append, List.flatten_append]
  simpa using h
/-- what is told of what happens. -/
def HapsR (r : RelD) (nm : ByteArray) (off : Int) (H : List HapD) (b : Bool) : Prop := ∃ s, WallsR r nm s b ∧ H = (foldH r.rules off s).1
end Go.Proofs.YtbbhpfobcelbfaaGreatDoor
