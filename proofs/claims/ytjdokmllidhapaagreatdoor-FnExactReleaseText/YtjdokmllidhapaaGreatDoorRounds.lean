/- The plain mathematics of dates and their numbers: one comes back from the other; the next day. -/
import Derived.Test.YtjdokmllidhapaaGreatDoorDateOf
namespace Go.Proofs.YtjdokmllidhapaaGreatDoor

theorem num_bd {x y z : Int} (h : vldB x y z = true) : -719162 ≤ num x y z ∧ num x y z ≤ 2932896 := by
  have ⟨a, b, c, d, e, f⟩ := vld_t h
  have h1 := Cal.dby_bd x a (by omega)
  have h2 := Cal.cum_bd x y
  have h3 := Cal.cum_succ x y c d
  have h4 := Cal.cum_mono (y := x) (a := y + 1) (b := 13) (by omega) (by omega) (by omega)
  have h5 := Cal.cum_13 x
  have h6 := Cal.dby_succ x a
  have h7 := Cal.dby_mono (a := x + 1) (b := 10000) (by omega) (by omega)
  have h8 := Cal.dby_10000
  unfold num
  omega
theorem date_round {x y z : Int} (h : vldB x y z = true) : yOf (num x y z) = x ∧ mOf (num x y z) = y ∧ dOf (num x y z) = z := by
  have ⟨a, b, c, d, e, f⟩ := vld_t h
  have ⟨n1, n2⟩ := num_bd h
  have h2 := Cal.cum_bd x y
  have h3 := Cal.cum_succ x y c d
  have h4 := Cal.cum_mono (y := x) (a := y + 1) (b := 13) (by omega) (by omega) (by omega)
  have h5 := Cal.cum_13 x
  have h6 := Cal.dby_succ x a
  have ⟨y1, y2, y3, y4⟩ := yOf_bd n1 n2
  have hn : num x y z = Cal.dby x - 719162 + Cal.cum x y + z - 1 := rfl
  have ey : yOf (num x y z) = x := Cal.year_unique y1 a y3 y4 (by omega) (by omega)
  have ⟨m1, m2, m3, m4⟩ := mOf_bd n1 n2
  rw [ey] at m3 m4
  have em : mOf (num x y z) = y := Cal.month_unique m1 m2 c d m3 m4 (by omega) (by omega)
  refine ⟨ey, em, ?_⟩
  unfold dOf
  rw [ey, em]
  omega
/-- the day behind a day: the next one of its month, or the first of the next. -/
theorem next_day {n : Int} (h1 : -719162 ≤ n) (h2 : n < 2932896) :
    (dOf n < Cal.dim (yOf n) (mOf n) ∧ yOf (n + 1) = yOf n ∧ mOf (n + 1) = mOf n ∧ dOf (n + 1) = dOf n + 1) ∨
    (dOf n = Cal.dim (yOf n) (mOf n) ∧ mOf n < 12 ∧ yOf (n + 1) = yOf n ∧ mOf (n + 1) = mOf n + 1 ∧ dOf (n + 1) = 1) ∨
    (dOf n = Cal.dim (yOf n) (mOf n) ∧ mOf n = 12 ∧ yOf (n + 1) = yOf n + 1 ∧ mOf (n + 1) = 1 ∧ dOf (n + 1) = 1) := by
  have hv := vld_of h1 (by omega)
  have ⟨a, b, c, d, e, f⟩ := vld_t hv
  have hn := num_of (n := n)
  have hs := Cal.cum_succ (yOf n) (mOf n) c d
  generalize yOf n = x at *
  generalize mOf n = y at *
  generalize dOf n = z at *
  by_cases hz : z < Cal.dim x y
  · left
    have hv2 : vldB x y (z + 1) = true := vld_mk ⟨a, b, c, d, by omega, by omega⟩
    have hr := date_round hv2
    have e1 : num x y (z + 1) = n + 1 := by rw [← hn]; unfold num; omega
    rw [e1] at hr
    exact ⟨hz, hr⟩
  · right
    have hz' : z = Cal.dim x y := by omega
    by_cases hm : y < 12
    · left
      have db := Cal.dim_bd x (y + 1)
      have hv2 : vldB x (y + 1) 1 = true := vld_mk ⟨a, b, by omega, by omega, by omega, by omega⟩
      have hr := date_round hv2
      have e1 : num x (y + 1) 1 = n + 1 := by rw [← hn]; unfold num; omega
      rw [e1] at hr
      exact ⟨hz', hm, hr⟩
    · right
      have hm' : y = 12 := by omega
      subst hm'
      have h13 := Cal.cum_13 x
      have h6 := Cal.dby_succ x a
      have h1' := Cal.cum_one (x + 1)
      simp only [Int.reduceAdd] at hs
      have e1 : num (x + 1) 1 1 = n + 1 := by rw [← hn]; unfold num; omega
      have hx : x + 1 ≤ 9999 := by
        rcases Int.lt_or_le (x + 1) 10000 with h | h
        · omega
        · have := Cal.dby_mono (a := 10000) (b := x + 1) (by omega) h
          have := Cal.dby_10000
          unfold num at hn; omega
      have db := Cal.dim_bd (x + 1) 1
      have hv2 : vldB (x + 1) 1 1 = true := vld_mk ⟨by omega, hx, by omega, by omega, by omega, by omega⟩
      have hr := date_round hv2
      rw [e1] at hr
      exact ⟨hz', rfl, hr⟩
end Go.Proofs.YtjdokmllidhapaaGreatDoor
