/- Packed. -/
import Derived.Test.YtgiieknbckhofaaGreatDoorBasePu
import Derived.Lib.QuietBelow
set_option maxRecDepth 100000
set_option maxHeartbeats 20000000
set_option linter.unusedSimpArgs false
namespace Go.Proofs.YtgiieknbckhofaaGreatDoor
section
open Go.RowKit
structure RuleD where
 name : ByteArray
 lo : Int
 hi : Int
 month : Int
 on : ByteArray
 at_ : Int
 of : ByteArray
 save : Int
 letter : ByteArray
def RuleD.cs (r : RuleD) : List Value := [.string r.name, iv r.lo, iv r.hi, iv r.month, .string r.on, iv r.at_, .string r.of, iv r.save, .string r.letter]
def RuleD.v (r : RuleD) : Value := .agg #[.string r.name, iv r.lo, iv r.hi, iv r.month, .string r.on, iv r.at_, .string r.of, iv r.save, .string r.letter]
def RuleD.sz (r : RuleD) : Nat := r.name.size + r.on.size + r.of.size + r.letter.size
def Za (w : World) (a : Option Addr) (k : Nat) (rows : List (List Value)) : Prop :=
 rows = [] \/ ∃ b o, a = some (ad b o) /\ ∀ i j r c, rows[i]? = some r -> r[j]? = some c -> w.cell? (ad b (o + i * k + j)) = some c
def clip (x : Int) : Int := if x < 0 then -1 else x
theorem jal {x : Int} (h : x < 0) : clip x = -1 := if_pos h
theorem ja9 {x : Int} (h : 0 <= x) : clip x = x := if_neg (by omega)
theorem jqe (r : RuleD) (n : Int) (w : World) (h0 : 0 <= n) (h1 : n <= 1048576) (m1 : r.name.size <= maxLen) (m2 : r.on.size <= maxLen) (m3 : r.of.size <= maxLen) (m4 : r.letter.size <= maxLen) :
  Cl 79 #[r.v, iv n] w fun e w' => e = .returned (iv (clip (n - r.sz))) /\ Bw w w' := by
 unfold maxLen at *
 obtain ⟨name, lo, hi, month, on, at_, of, save, letter⟩ := r
 simp only [RuleD.v, RuleD.sz] at *
 by_cases g1 : n < name.size
 ·have HR : Hid (clip (n - ↑(name.size + on.size + of.size + letter.size)) = -1) := jal (by omega)
  go_enter Tryz.func79, Tryz.ntmps79
  go_wp2
  go_ret
  exact ⟨ret_int HR.out.symm, qal _ _⟩
 by_cases g2 : n < name.size + on.size
 ·have HR : Hid (clip (n - ↑(name.size + on.size + of.size + letter.size)) = -1) := jal (by omega)
  go_enter Tryz.func79, Tryz.ntmps79
  go_wp2
  go_ret
  exact ⟨ret_int HR.out.symm, qal _ _⟩
 by_cases g3 : n < name.size + on.size + of.size
 ·have HR : Hid (clip (n - ↑(name.size + on.size + of.size + letter.size)) = -1) := jal (by omega)
  go_enter Tryz.func79, Tryz.ntmps79
  go_wp2
  go_ret
  exact ⟨ret_int HR.out.symm, qal _ _⟩
 by_cases g4 : n < name.size + on.size + of.size + letter.size
 ·have HR : Hid (clip (n - ↑(name.size + on.size + of.size + letter.size)) = -1) := jal (by omega)
  go_enter Tryz.func79, Tryz.ntmps79
  go_wp2
  go_ret
  exact ⟨ret_int HR.out.symm, qal _ _⟩
 ·go_enter Tryz.func79, Tryz.ntmps79
  go_wp2
  go_ret
  exact ⟨ret_int (by rw [ja9 (by omega)]; omega), qal _ _⟩
def rsz (l : List RuleD) : Nat := (l.map RuleD.sz).sum
theorem jyx {l : List RuleD} {k : Nat} {r : RuleD} (h : l[k]? = some r) : rsz (l.take (k + 1)) = rsz (l.take k) + r.sz := by
 unfold rsz
 rw [List.take_add_one, h]
 simp
theorem j3e (l : List RuleD) (k : Nat) : rsz (l.take k) <= rsz l := by
 have := congrArg (fun l => (l.map RuleD.sz).sum) (List.take_append_drop k l)
 simp only [lma, List.sum_append] at this
 unfold rsz
 omega
def RuleD.ok (r : RuleD) : Prop := r.name.size <= maxLen /\ r.on.size <= maxLen /\ r.of.size <= maxLen /\ r.letter.size <= maxLen
theorem Za.at {w : World} {a : Option Addr} {k : Nat} {rows : List (List Value)} (h : Za w a k rows) {i : Nat} {r : List Value} (hi : rows[i]? = some r) : ∃ b o, a = some (ad b o) /\ ∀ j c, r[j]? = some c -> w.cell? (ad b (o + i * k + j)) = some c := by
 rcases h with rfl | ⟨b, o, ha, hc⟩
 ·simp at hi
 ·exact ⟨b, o, ha, fun j c hj => hc i j r c hi hj⟩
theorem Za.below {w w' : World} {a : Option Addr} {k : Nat} {rows : List (List Value)} (h : Za w a k rows) (hb : Bw w w') : Za w' a k rows := by
 rcases h with h | ⟨b, o, ha, hc⟩
 ·exact .inl h
 ·exact .inr ⟨b, o, ha, fun i j r c hi hj => by
   have := hc i j r c hi hj
   rw [(jaf hb).1 _ _ (qbl this)]; exact this⟩
theorem jn4 (l : List RuleD) (a : Option Addr) (cap : Nat) (n : Int) (w : World) (hA : Za w a 9 (l.map RuleD.cs)) (de : ∀ r ∈ l, r.ok) (hl : l.length <= maxLen) (h0 : 0 <= n) (h1 : n <= 1048576) :
  Cl 45 #[.slice a l.length cap, iv n] w fun e w' => e = .returned (iv (clip (n - (l.length + rsz l)))) /\ Bw w w' := by
 unfold maxLen at hl
 by_cases g0 : n < l.length
 ·have HR : Hid (clip (n - (l.length + rsz l)) = -1) := jal (by omega)
  go_enter Tryz.func45, Tryz.ntmps45
  go_wp2
  go_ret
  exact ⟨ret_int HR.out.symm, brf _ _⟩
 go_enter Tryz.func45, Tryz.ntmps45
 go_wp2
 go_loopw [1, 5] (fun x i wr => ∃ k : Nat, k <= l.length /\ i = iv k /\ x = iv (n - l.length - rsz (l.take k)) /\ Hid (0 <= n - l.length - rsz (l.take k)) /\ Bw w wr) (fun _ i _ => l.length - (intOf i).toNat)
 case atStart => exact ⟨0, by omega, rfl, by simp [rsz], by simp [rsz, Hid]; omega, brf _ _⟩
 case round =>
  obtain ⟨k, hk, rfl, rfl, hp, hB⟩ := hrel
  by_cases hlt : k < l.length
  ·obtain ⟨r, hr⟩ := qgg hlt
   obtain ⟨b, o, rfl, hc⟩ := (hA.below hB).at (i := k) (r := r.cs) (by rw [lgm, hr]; rfl)
   have ok := de r (lmg hr)
   have lI := hp.out
   have ht := jyx hr
   have bS := j3e l (k + 1)
   have hS := fun w => jqe r (n - l.length - rsz (l.take k)) w (by omega) (by omega) ok.1 ok.2.1 ok.2.2.1 ok.2.2.2
   have c0 : wr.cell? (ad b (o + k * 9)) = some (.string r.name) := hc 0 _ rfl
   have c1 := hc 1 _ rfl
   have c2 := hc 2 _ rfl
   have c3 := hc 3 _ rfl
   have c4 := hc 4 _ rfl
   have c5 := hc 5 _ rfl
   have c6 := hc 6 _ rfl
   have c7 := hc 7 _ rfl
   have c8 := hc 8 _ rfl
   clear hc
   unfold RuleD.v at hS
   by_cases g : n - l.length - rsz (l.take k) - r.sz < 0
   ·have HR : Hid (clip (n - (l.length + rsz l)) = -1) := jal (by omega)
    rw [jal g] at hS
    go_wp2_with fail
    refine (hS _).mono ?_
    rintro e w2 ⟨rfl, ac⟩
    go_wp2
    go_ret
    exact ⟨ret_int HR.out.symm, (qtr hB ac)⟩
   ·rw [ja9 (by omega)] at hS
    have HN : Hid (n - l.length - rsz (l.take k) - r.sz = n - l.length - rsz (l.take (k + 1))) := by simp only [Hid]; omega
    go_wp2_with fail
    refine (hS _).mono ?_
    rintro e w2 ⟨rfl, ac⟩
    go_wp2
    go_roundw
    case rel => exact ⟨k + 1, by omega, by go_num, by rw [HN.out], by have := HN.out; simp only [Hid]; omega, (qtr hB ac)⟩
    case measure => simp [intOf]; omega
  ·have e : k = l.length := by omega
   subst e
   have HR : Hid (clip (n - (l.length + rsz l)) = n - l.length - rsz (l.take l.length)) := by
    have := hp.out
    simp only [Hid]
    rw [List.take_length] at this ⊢
    rw [ja9 (by omega)]; omega
   go_wp2
   go_ret
   exact ⟨ret_int HR.out.symm, hB⟩
end
section
open Go.RowKit
def Zf (w : World) (g m : Nat) : Prop := ∀ x, x < m -> (∃ v, w.cell? (ad g x) = some v) /\ w.frozen? (ad g x) = false
theorem Zf.below {w w' : World} {g m : Nat} (h : Zf w g m) (hb : Bw w w') : Zf w' g m := fun x hx => by
 obtain ⟨⟨v, hv⟩, hf⟩ := h x hx
 have hlt := qbl hv
 exact ⟨⟨v, by rw [(jaf hb).1 _ _ hlt]; exact hv⟩, by rw [(jaf hb).2 _ _ hlt]; exact hf⟩
theorem Zf.set {w : World} {g m : Nat} (h : Zf w g m) (a : Addr) (v : Value) : Zf (w.setCell a v) g m := fun x hx => by
 obtain ⟨⟨u, hu⟩, hf⟩ := h x hx
 exact ⟨cell?_setCell_some hu, by rw [World.frozen?_setCell]; exact hf⟩
def jbl (w : World) (g o : Nat) : List Value -> World
 | [] => w
 | c :: cs => jbl (w.setCell ⟨g, o, none⟩ c) g (o + 1) cs
theorem jcb {g m : Nat} {cs : List Value} : ∀ {w : World} {o : Nat}, Zf w g m -> Zf (jbl w g o cs) g m := by
 induction cs with
 | nil => intro w o h; exact h
 | cons c cs ih => intro w o h; exact ih (h.set _ _)
theorem jb3 {cs : List Value} : ∀ {w : World} {g o : Nat} {b x : Nat}, (b ≠ g \/ x < o \/ o + cs.length <= x) -> (jbl w g o cs).cell? (ad b x) = w.cell? (ad b x) := by
 induction cs with
 | nil => intros; rfl
 | cons c cs ih =>
  intro w g o b x h
  have hl : (c :: cs).length = cs.length + 1 := rfl
  rw [jbl, ih (by omega), wco]
  intro e
  injection e with e1 e2
  omega
theorem jif {cs : List Value} : ∀ {w : World} {g o m : Nat} {j : Nat} {c : Value}, Zf w g m -> o + cs.length <= m -> cs[j]? = some c -> (jbl w g o cs).cell? (ad g (o + j)) = some c := by
 induction cs with
 | nil => intro w g o m j c _ _ h; simp at h
 | cons d cs ih =>
  intro w g o m j c hR hm h
  have hl : (d :: cs).length = cs.length + 1 := rfl
  cases j with
  | zero =>
   simp at h
   subst h
   rw [jbl, jb3 (by omega)]
   obtain ⟨⟨u, hu⟩, _⟩ := hR o (by omega)
   exact wcs _ _ _ hu
  | succ j =>
   have := ih (w := w.setCell (ad g o) d) (g := g) (o := o + 1) (m := m) (j := j) (c := c) (hR.set _ _) (by omega) (by simpa using h)
   rw [jbl, show o + (j + 1) = o + 1 + j by omega]
   exact this
theorem jb4 {cs : List Value} : ∀ {w0 w : World} {n g o : Nat}, Below n w0 w -> n <= g -> Below n w0 (jbl w g o cs) := by
 induction cs with
 | nil => intro w0 w n g o h _; exact h
 | cons c cs ih => intro w0 w n g o h hg; exact ih (h.setCell hg _) hg
def Zc (w : World) (g q k : Nat) (rows : List (List Value)) : Prop := ∀ i j r c, i < k -> rows[i]? = some r -> r[j]? = some c -> w.cell? (ad g (i * q + j)) = some c
theorem Zc.below {w w' : World} {g q k : Nat} {rows : List (List Value)} (h : Zc w g q k rows) (hb : Bw w w') : Zc w' g q k rows := fun i j r c hi hr hc => by
 have := h i j r c hi hr hc
 rw [(jaf hb).1 _ _ (qbl this)]; exact this
theorem Zc.put {w : World} {g q k m : Nat} {rows : List (List Value)} {r : List Value} (h : Zc w g q k rows) (hR : Zf w g m) (hr : rows[k]? = some r) (hq : r.length = q) (hm : k * q + q <= m) (au : ∀ r ∈ rows, r.length = q) : Zc (jbl w g (k * q) r) g q (k + 1) rows := fun i j r' c hi lK hc => by
 by_cases e : i = k
 ·subst e
  rw [hr] at lK
  obtain rfl := osi lK
  exact jif hR (by omega) hc
 ·have hj : j < q := by
   have := au r' (lmg lK)
   have := (lgs hc).1
   omega
  have oJ : i * q + q <= k * q := by
   have : (i + 1) * q <= k * q := Nat.mul_le_mul_right q (by omega)
   rw [Nat.add_mul] at this; omega
  rw [jb3 (by omega)]
  exact h i j r' c (by omega) lK hc
theorem Zc.seq {w : World} {g q : Nat} {rows : List (List Value)} (h : Zc w g q rows.length rows) : Za w (some (ad g 0)) q rows :=
 .inr ⟨g, 0, rfl, fun i j r c hr hc => by rw [show 0 + i * q + j = i * q + j by omega]; exact h i j r c (lgs hr).1 hr hc⟩
theorem jd3 {w : World} {base g n q : Nat} {e : TypeId} {xs : List Value} (h : w.ownsRow base e q (so g n n) n xs) : Zf w g (n * q) := by
 rcases h.2 with ⟨h0, _⟩ | ⟨g', cap, cur, h1, _, hh, _, _, hs, _⟩
 ·cases h0
 ·injection h1 with h1 h2 h3
  injection h1 with h1
  injection h1 with h1
  subst h1 h3
  intro x hx
  have ft : x < cur.size := by omega
  exact ⟨⟨cur[x], by simp [World.cell?, hh, ft]⟩, by simp [World.frozen?, hh]⟩
end
section
open Go.RowKit Go.Sort
structure EraD where
 offset : Int
 rules : ByteArray
 save : Int
 format : ByteArray
 until_ : Int
 of : ByteArray
def EraD.cs (r : EraD) : List Value := [iv r.offset, .string r.rules, iv r.save, .string r.format, iv r.until_, .string r.of]
def EraD.v (r : EraD) : Value := .agg #[iv r.offset, .string r.rules, iv r.save, .string r.format, iv r.until_, .string r.of]
def EraD.sz (r : EraD) : Nat := r.rules.size + r.format.size + r.of.size
def EraD.ok (r : EraD) : Prop := r.rules.size <= maxLen /\ r.format.size <= maxLen /\ r.of.size <= maxLen
theorem jts (r : EraD) (n : Int) (w : World) (h0 : 0 <= n) (h1 : n <= 1048576) (hm : r.ok) :
  Cl 150 #[r.v, iv n] w fun e w' => e = .returned (iv (clip (n - r.sz))) /\ Bw w w' := by
 obtain ⟨offset, rules, save, format, until_, of⟩ := r
 simp only [EraD.v, EraD.sz, EraD.ok] at *
 unfold maxLen at *
 by_cases g1 : n < rules.size
 ·have HR : Hid (clip (n - ↑(rules.size + format.size + of.size)) = -1) := jal (by omega)
  go_enter Tryz.func150, Tryz.ntmps150
  go_wp2
  go_ret
  exact ⟨ret_int HR.out.symm, qal _ _⟩
 by_cases g2 : n < rules.size + format.size
 ·have HR : Hid (clip (n - ↑(rules.size + format.size + of.size)) = -1) := jal (by omega)
  go_enter Tryz.func150, Tryz.ntmps150
  go_wp2
  go_ret
  exact ⟨ret_int HR.out.symm, qal _ _⟩
 by_cases g3 : n < rules.size + format.size + of.size
 ·have HR : Hid (clip (n - ↑(rules.size + format.size + of.size)) = -1) := jal (by omega)
  go_enter Tryz.func150, Tryz.ntmps150
  go_wp2
  go_ret
  exact ⟨ret_int HR.out.symm, qal _ _⟩
 go_enter Tryz.func150, Tryz.ntmps150
 go_wp2
 go_ret
 exact ⟨ret_int (by rw [ja9 (by omega)]; try omega), qal _ _⟩
def esz (l : List EraD) : Nat := (l.map EraD.sz).sum
theorem j0h {l : List EraD} {k : Nat} {r : EraD} (h : l[k]? = some r) : esz (l.take (k + 1)) = esz (l.take k) + r.sz := by
 unfold esz
 rw [List.take_add_one, h]
 simp
theorem j3u (l : List EraD) (k : Nat) : esz (l.take k) <= esz l := by
 have := congrArg (fun l => (l.map EraD.sz).sum) (List.take_append_drop k l)
 simp only [lma, List.sum_append] at this
 unfold esz
 omega
theorem jqg (l : List EraD) (a : Option Addr) (cap : Nat) (n : Int) (w : World) (hA : Za w a 6 (l.map EraD.cs)) (de : ∀ r ∈ l, r.ok) (hl : l.length <= maxLen) (h0 : 0 <= n) (h1 : n <= 1048576) :
  Cl 112 #[.slice a l.length cap, iv n] w fun e w' => e = .returned (iv (clip (n - (l.length + esz l)))) /\ Bw w w' := by
 unfold maxLen at hl
 by_cases g0 : n < l.length
 ·have HR : Hid (clip (n - (l.length + esz l)) = -1) := jal (by omega)
  go_enter Tryz.func112, Tryz.ntmps112
  go_wp2
  go_ret
  exact ⟨ret_int HR.out.symm, brf _ _⟩
 go_enter Tryz.func112, Tryz.ntmps112
 go_wp2
 go_loopw [1, 5] (fun x i wr => ∃ k : Nat, k <= l.length /\ i = iv k /\ x = iv (n - l.length - esz (l.take k)) /\ Hid (0 <= n - l.length - esz (l.take k)) /\ Bw w wr) (fun _ i _ => l.length - (intOf i).toNat)
 case atStart => exact ⟨0, by omega, rfl, by simp [esz], by simp [esz, Hid]; omega, brf _ _⟩
 case round =>
  obtain ⟨k, hk, rfl, rfl, hp, hB⟩ := hrel
  by_cases hlt : k < l.length
  ·obtain ⟨r, hr⟩ := qgg hlt
   obtain ⟨b, o, rfl, hc⟩ := (hA.below hB).at (i := k) (r := r.cs) (by rw [lgm, hr]; rfl)
   have ok := de r (lmg hr)
   have lI := hp.out
   have ht := j0h hr
   have bS := j3u l (k + 1)
   have hS := fun w => jts r (n - l.length - esz (l.take k)) w (by omega) (by omega) ok
   have c0 : wr.cell? (ad b (o + k * 6)) = some (iv r.offset) := hc 0 _ rfl
   have c1 := hc 1 _ rfl
   have c2 := hc 2 _ rfl
   have c3 := hc 3 _ rfl
   have c4 := hc 4 _ rfl
   have c5 := hc 5 _ rfl
   clear hc
   unfold EraD.v at hS
   by_cases g : n - l.length - esz (l.take k) - r.sz < 0
   ·have HR : Hid (clip (n - (l.length + esz l)) = -1) := jal (by omega)
    rw [jal g] at hS
    go_wp2_with fail
    refine (hS _).mono ?_
    rintro e w2 ⟨rfl, ac⟩
    go_wp2
    go_ret
    exact ⟨ret_int HR.out.symm, (qtr hB ac)⟩
   ·rw [ja9 (by omega)] at hS
    have HN : Hid (n - l.length - esz (l.take k) - r.sz = n - l.length - esz (l.take (k + 1))) := by simp only [Hid]; omega
    go_wp2_with fail
    refine (hS _).mono ?_
    rintro e w2 ⟨rfl, ac⟩
    go_wp2
    go_roundw
    case rel => exact ⟨k + 1, by omega, by go_num, by rw [HN.out], by have := HN.out; simp only [Hid]; omega, (qtr hB ac)⟩
    case measure => simp [intOf]; omega
  ·have e : k = l.length := by omega
   subst e
   have HR : Hid (clip (n - (l.length + esz l)) = n - l.length - esz (l.take l.length)) := by
    have := hp.out
    simp only [Hid]
    rw [List.take_length] at this ⊢
    rw [ja9 (by omega)]; omega
   go_wp2
   go_ret
   exact ⟨ret_int HR.out.symm, hB⟩
theorem jtr (r : EraD) (w : World) :
  Cl 156 #[r.v] w fun e w' => e = .returned r.v /\ Bw w w' := by
 obtain ⟨offset, rules, save, format, until_, of⟩ := r
 simp only [EraD.v] at *
 go_enter Tryz.func156, Tryz.ntmps156
 go_wp2
 exact bpr (v := .agg #[iv offset, .string rules, iv save, .string format, iv until_, .string of]) (by simp [results, Tryz.results156, go_sem]) rfl ⟨rfl, ((qal _ _).alloc (by simp) _).alloc (by simp; omega) _⟩
theorem jqn : ∃ i : TypeInfo, Tryz.prog.info? 178 = some i /\ i.zero = some (.agg #[iv 0, .string ⟨#[]⟩, iv 0, .string ⟨#[]⟩, iv 0, .string ⟨#[]⟩]) /\ i.size = 6 /\ i.bytes = 72 := ⟨_, rfl, rfl, rfl, rfl⟩
theorem jqc (l : List EraD) (a : Option Addr) (cap : Nat) (w : World) (hA : Za w a 6 (l.map EraD.cs)) (hl : l.length <= 1048576) :
  Cl 124 #[.slice a l.length cap] w fun e w' => e = .returned (.slice (some (ad w.heap.size 0)) l.length l.length) /\ Za w' (some (ad w.heap.size 0)) 6 (l.map EraD.cs) /\ Zf w' w.heap.size (l.length * 6) /\ Bw w w' := by
 obtain ⟨i0, hi, aH, aI, aG⟩ := jqn
 obtain ⟨w1, dp, ai, du⟩ := run_make_full (P := Tryz.prog) w w.heap.size 144 178 i0 _ 6 Tryz.underlying144 hi aH aI .i64 .i64 l.length (by rw [aG]; omega) (by unfold maxLen; omega) (nlr _)
 have hR := jd3 ai
 have hB : Bw w w1 := (brf _ _).grown du (nlr _) (fun k hk => by cases hk)
 have fo : (l.map EraD.cs).length = l.length := by simp
 have au : ∀ r ∈ l.map EraD.cs, r.length = 6 := fun r hr => by
  obtain ⟨x, _, rfl⟩ := List.mem_map.mp hr; rfl
 clear hi aH aI aG ai du
 go_enter Tryz.func124, Tryz.ntmps124
 go_wp2
 go_loopw [4] (fun i wr => ∃ k : Nat, k <= l.length /\ i = iv k /\ Zf wr w.heap.size (l.length * 6) /\ Zc wr w.heap.size 6 k (l.map EraD.cs) /\ Bw w wr) (fun i _ => l.length - (intOf i).toNat)
 case atStart => exact ⟨0, by omega, rfl, hR, fun i j r c h => by omega, hB⟩
 case round =>
  clear hR hB dp
  obtain ⟨k, hk, rfl, hR, hF, hB⟩ := hrel
  by_cases hlt : k < l.length
  ·obtain ⟨r, hr⟩ := qgg hlt
   have ap : (l.map EraD.cs)[k]? = some r.cs := by rw [lgm, hr]; rfl
   obtain ⟨b, o, rfl, hc⟩ := (hA.below hB).at (i := k) ap
   have hS := fun w => jtr r w
   have c0 : wr.cell? (ad b (o + k * 6)) = some (iv r.offset) := hc 0 _ rfl
   have c1 := hc 1 _ rfl
   have c2 := hc 2 _ rfl
   have c3 := hc 3 _ rfl
   have c4 := hc 4 _ rfl
   have c5 := hc 5 _ rfl
   clear hc
   unfold EraD.v at hS
   go_wp2_with fail
   refine (hS _).mono ?_
   rintro e w2 ⟨rfl, ac⟩
   have aN := hR.below ac
   have bY := hF.below ac
   have ao := qtr hB ac
   have jv : k * 6 + 6 <= l.length * 6 := by omega
   obtain ⟨⟨u0, iu⟩, gn⟩ := aN (k * 6) (by omega)
   obtain ⟨⟨u1, kS⟩, cZ⟩ := aN (k * 6 + 1) (by omega)
   obtain ⟨⟨u2, sQ⟩, ep⟩ := aN (k * 6 + 2) (by omega)
   obtain ⟨⟨u3, sR⟩, gp⟩ := aN (k * 6 + 3) (by omega)
   obtain ⟨⟨u4, sS⟩, mC⟩ := aN (k * 6 + 4) (by omega)
   obtain ⟨⟨u5, sT⟩, sF⟩ := aN (k * 6 + 5) (by omega)
   have hW : jbl w2 w.heap.size (k * 6) r.cs = ((((((w2.setCell (ad w.heap.size (k * 6)) (iv r.offset)).setCell (ad w.heap.size (k * 6 + 1)) (.string r.rules)).setCell (ad w.heap.size (k * 6 + 2)) (iv r.save)).setCell (ad w.heap.size (k * 6 + 3)) (.string r.format)).setCell (ad w.heap.size (k * 6 + 4)) (iv r.until_)).setCell (ad w.heap.size (k * 6 + 5)) (.string r.of)) := by simp only [jbl, EraD.cs, Nat.add_assoc, Nat.reduceAdd]
   have R3 := jcb (cs := r.cs) (o := k * 6) aN
   have F3 := bY.put aN ap rfl jv au
   have B3 := jb4 (cs := r.cs) (o := k * 6) ao (nlr _)
   rw [hW] at R3 F3 B3
   clear hW aN bY ao
   go_wp2
   go_roundw
   case rel => exact ⟨k + 1, by omega, by go_num, R3, F3, B3⟩
   case measure => simp [intOf]; omega
  ·have e : k = l.length := by omega
   subst e
   go_wp2
   go_ret
   exact ⟨rfl, Zc.seq (by rw [fo]; exact hF), hR, hB⟩
theorem jtt (r : EraD) (w : World) :
  Cl 186 #[r.v, r.v] w fun e w' => e = .returned (.bool true) /\ Bw w w' := by
 obtain ⟨offset, rules, save, format, until_, of⟩ := r
 simp only [EraD.v] at *
 go_enter Tryz.func186, Tryz.ntmps186
 go_wp2
 go_ret
 exact ⟨rfl, (qal _ _).alloc (by simp) _⟩
theorem jqk (l : List EraD) (a a2 : Option Addr) (cap bP : Nat) (w : World) (hA : Za w a 6 (l.map EraD.cs)) (cT : Za w a2 6 (l.map EraD.cs)) (hl : l.length <= 1048576) :
  Cl 149 #[.slice a l.length cap, .slice a2 l.length bP] w fun e w' => e = .returned (.bool true) /\ Bw w w' := by
 go_enter Tryz.func149, Tryz.ntmps149
 go_wp2
 go_loopw [5] (fun i wr => ∃ k : Nat, k <= l.length /\ i = iv k /\ Bw w wr) (fun i _ => l.length - (intOf i).toNat)
 case atStart => exact ⟨0, by omega, rfl, brf _ _⟩
 case round =>
  obtain ⟨k, hk, rfl, hB⟩ := hrel
  by_cases hlt : k < l.length
  ·obtain ⟨r, hr⟩ := qgg hlt
   have ap : (l.map EraD.cs)[k]? = some r.cs := by rw [lgm, hr]; rfl
   obtain ⟨b, o, rfl, hc⟩ := (hA.below hB).at (i := k) ap
   obtain ⟨b2, o2, rfl, hd⟩ := (cT.below hB).at (i := k) ap
   have hS := fun w => jtt r w
   have c0 : wr.cell? (ad b (o + k * 6)) = some (iv r.offset) := hc 0 _ rfl
   have d0 : wr.cell? (ad b2 (o2 + k * 6)) = some (iv r.offset) := hd 0 _ rfl
   have c1 := hc 1 _ rfl
   have d1 := hd 1 _ rfl
   have c2 := hc 2 _ rfl
   have d2 := hd 2 _ rfl
   have c3 := hc 3 _ rfl
   have d3 := hd 3 _ rfl
   have c4 := hc 4 _ rfl
   have d4 := hd 4 _ rfl
   have c5 := hc 5 _ rfl
   have d5 := hd 5 _ rfl
   clear hc hd
   unfold EraD.v at hS
   have cE : ∀ dd os, Cl _ _ (grow (redrawn wr dd) os) fun e cr => e = .returned (.bool true) /\ ∃ p : Regrown, cr = grow (redrawn wr p.d) p.os := fun _ _ => Calls.regrown_of (hS _)
   have oR := cell_regrown c0
   have sY := cell_regrown d0
   have lM := cell_regrown c1
   have sZ := cell_regrown d1
   have vS := cell_regrown c2
   have D2 := cell_regrown d2
   have CZ := cell_regrown c3
   have D3 := cell_regrown d3
   have D0 := cell_regrown c4
   have D4 := cell_regrown d4
   have D1 := cell_regrown c5
   have D5 := cell_regrown d5
   go_wp2_with fail
   refine wp_region_quiet_below (by kernel_rfl) (by kernel_rfl) ?_
   repeat (quiet_step ((go_at_call 186; exact cE _ _)))
   refine wpQuiet_nil ?_
   intro _ bL
   obtain ⟨⟨dq, aQ⟩, aP⟩ := bL
   subst aP
   have ac := below_regrown wr dq aQ
   go_wp2
   go_roundw
   case rel => exact ⟨k + 1, by omega, by go_num, (qtr hB ac)⟩
   case measure => simp [intOf]; omega
  ·have e : k = l.length := by omega
   subst e
   go_wp2
   go_ret
   exact ⟨rfl, hB⟩
end
section
open Go.RowKit Go.Sort
structure ZoneD where
 name : ByteArray
 eras : List EraD
def ZoneD.sz (z : ZoneD) : Nat := z.name.size + (z.eras.length + esz z.eras)
def ZoneD.ok (z : ZoneD) : Prop := z.name.size <= maxLen /\ z.eras.length <= maxLen /\ ∀ r ∈ z.eras, r.ok
def Jg (w : World) (v : Value) (es : List EraD) : Prop := ∃ a cap, v = .slice a es.length cap /\ Za w a 6 (es.map EraD.cs)
theorem Jg.below {w w' : World} {v : Value} {es : List EraD} (h : Jg w v es) (hb : Bw w w') : Jg w' v es := by
 obtain ⟨a, cap, rfl, hA⟩ := h
 exact ⟨a, cap, rfl, hA.below hb⟩
def Zo (w : World) (a : Option Addr) (zs : List ZoneD) : Prop :=
 zs = [] \/ ∃ b o, a = some (ad b o) /\ ∀ i z, zs[i]? = some z -> w.cell? (ad b (o + i * 2)) = some (.string z.name) /\ ∃ v, w.cell? (ad b (o + i * 2 + 1)) = some v /\ Jg w v z.eras
theorem Zo.below {w w' : World} {a : Option Addr} {zs : List ZoneD} (h : Zo w a zs) (hb : Bw w w') : Zo w' a zs := by
 rcases h with h | ⟨b, o, ha, hc⟩
 ·exact .inl h
 ·refine .inr ⟨b, o, ha, fun i z hi => ?_⟩
  obtain ⟨c0, v, c1, he⟩ := hc i z hi
  have hlt := qbl c0
  exact ⟨by rw [(jaf hb).1 _ _ hlt]; exact c0, v, by rw [(jaf hb).1 _ _ hlt]; exact c1, he.below hb⟩
theorem Zo.at {w : World} {a : Option Addr} {zs : List ZoneD} (h : Zo w a zs) {i : Nat} {z : ZoneD} (hi : zs[i]? = some z) : ∃ b o, a = some (ad b o) /\ w.cell? (ad b (o + i * 2)) = some (.string z.name) /\ ∃ v, w.cell? (ad b (o + i * 2 + 1)) = some v /\ Jg w v z.eras := by
 rcases h with rfl | ⟨b, o, ha, hc⟩
 ·simp at hi
 ·exact ⟨b, o, ha, hc i z hi⟩
theorem jqd (z : ZoneD) (v : Value) (n : Int) (w : World) (hv : Jg w v z.eras) (hm : z.ok) (h0 : 0 <= n) (h1 : n <= 1048576) :
  Cl 80 #[.agg #[.string z.name, v], iv n] w fun e w' => e = .returned (iv (clip (n - z.sz))) /\ Bw w w' := by
 obtain ⟨a, cap, rfl, hA⟩ := hv
 obtain ⟨name, es⟩ := z
 obtain ⟨m1, m2, m3⟩ := hm
 simp only [ZoneD.sz] at *
 by_cases g1 : n < name.size
 ·unfold maxLen at m1
  have HR : Hid (clip (n - ↑(name.size + (es.length + esz es))) = -1) := jal (by omega)
  go_enter Tryz.func80, Tryz.ntmps80
  go_wp2
  go_ret
  exact ⟨ret_int HR.out.symm, qal _ _⟩
 have hE := fun w (h : Za w a 6 (es.map EraD.cs)) => jqg es a cap (n - name.size) w h m3 m2 (by omega) (by omega)
 unfold maxLen at m1
 by_cases g2 : n - name.size - (es.length + esz es) < 0
 ·have HR : Hid (clip (n - ↑(name.size + (es.length + esz es))) = -1) := jal (by omega)
  rw [jal g2] at hE
  go_enter Tryz.func80, Tryz.ntmps80
  go_wp2_with fail
  refine (hE _ (hA.below (qal _ _))).mono ?_
  rintro e w1 ⟨rfl, hb⟩
  go_wp2
  go_ret
  exact ⟨ret_int HR.out.symm, (qal _ _).trans (hb.mono (by simp))⟩
 ·have HR : Hid (clip (n - ↑(name.size + (es.length + esz es))) = n - name.size - (es.length + esz es)) := by
   simp only [Hid]; rw [ja9 (by omega)]; omega
  rw [ja9 (by omega)] at hE
  go_enter Tryz.func80, Tryz.ntmps80
  go_wp2_with fail
  refine (hE _ (hA.below (qal _ _))).mono ?_
  rintro e w1 ⟨rfl, hb⟩
  go_wp2
  go_ret
  exact ⟨ret_int HR.out.symm, (qal _ _).trans (hb.mono (by simp))⟩
def zsz (l : List ZoneD) : Nat := (l.map ZoneD.sz).sum
theorem jx4 {l : List ZoneD} {k : Nat} {r : ZoneD} (h : l[k]? = some r) : zsz (l.take (k + 1)) = zsz (l.take k) + r.sz := by
 unfold zsz
 rw [List.take_add_one, h]
 simp
theorem j20 (l : List ZoneD) (k : Nat) : zsz (l.take k) <= zsz l := by
 have := congrArg (fun l => (l.map ZoneD.sz).sum) (List.take_append_drop k l)
 simp only [lma, List.sum_append] at this
 unfold zsz
 omega
theorem jn2 (l : List ZoneD) (a : Option Addr) (cap : Nat) (n : Int) (w : World) (hA : Zo w a l) (de : ∀ r ∈ l, r.ok) (hl : l.length <= maxLen) (h0 : 0 <= n) (h1 : n <= 1048576) :
  Cl 46 #[.slice a l.length cap, iv n] w fun e w' => e = .returned (iv (clip (n - (l.length + zsz l)))) /\ Bw w w' := by
 unfold maxLen at hl
 by_cases g0 : n < l.length
 ·have HR : Hid (clip (n - (l.length + zsz l)) = -1) := jal (by omega)
  go_enter Tryz.func46, Tryz.ntmps46
  go_wp2
  go_ret
  exact ⟨ret_int HR.out.symm, brf _ _⟩
 go_enter Tryz.func46, Tryz.ntmps46
 go_wp2
 go_loopw [1, 5] (fun x i wr => ∃ k : Nat, k <= l.length /\ i = iv k /\ x = iv (n - l.length - zsz (l.take k)) /\ Hid (0 <= n - l.length - zsz (l.take k)) /\ Bw w wr) (fun _ i _ => l.length - (intOf i).toNat)
 case atStart => exact ⟨0, by omega, rfl, by simp [zsz], by simp [zsz, Hid]; omega, brf _ _⟩
 case round =>
  obtain ⟨k, hk, rfl, rfl, hp, hB⟩ := hrel
  by_cases hlt : k < l.length
  ·obtain ⟨r, hr⟩ := qgg hlt
   obtain ⟨b, o, rfl, c0, v, c1, hv⟩ := (hA.below hB).at hr
   have ok := de r (lmg hr)
   have lI := hp.out
   have ht := jx4 hr
   have bS := j20 l (k + 1)
   have hS := jqd r v (n - l.length - zsz (l.take k)) wr hv ok (by omega) (by omega)
   by_cases g : n - l.length - zsz (l.take k) - r.sz < 0
   ·have HR : Hid (clip (n - (l.length + zsz l)) = -1) := jal (by omega)
    rw [jal g] at hS
    go_wp2_with fail
    refine hS.mono ?_
    rintro e w2 ⟨rfl, ac⟩
    go_wp2
    go_ret
    exact ⟨ret_int HR.out.symm, (qtr hB ac)⟩
   ·rw [ja9 (by omega)] at hS
    have HN : Hid (n - l.length - zsz (l.take k) - r.sz = n - l.length - zsz (l.take (k + 1))) := by simp only [Hid]; omega
    go_wp2_with fail
    refine hS.mono ?_
    rintro e w2 ⟨rfl, ac⟩
    go_wp2
    go_roundw
    case rel => exact ⟨k + 1, by omega, by go_num, by rw [HN.out], by have := HN.out; simp only [Hid]; omega, (qtr hB ac)⟩
    case measure => simp [intOf]; omega
  ·have e : k = l.length := by omega
   subst e
   have HR : Hid (clip (n - (l.length + zsz l)) = n - l.length - zsz (l.take l.length)) := by
    have := hp.out
    simp only [Hid]
    rw [List.take_length] at this ⊢
    rw [ja9 (by omega)]; omega
   go_wp2
   go_ret
   exact ⟨ret_int HR.out.symm, hB⟩
end
section
open Go.RowKit Go.Sort
theorem Za.keep {w w' : World} {g k : Nat} {rows : List (List Value)} (h : Za w (some (ad g 0)) k rows) (hk : ∀ x, w'.cell? (ad g x) = w.cell? (ad g x)) : Za w' (some (ad g 0)) k rows := by
 rcases h with h | ⟨b, o, ha, hc⟩
 ·exact .inl h
 ·injection ha with ha
  injection ha with h1 h2
  subst h1 h2
  exact .inr ⟨g, 0, rfl, fun i j r c hi hj => by rw [hk]; exact hc i j r c hi hj⟩
theorem Zf.keep {w w' : World} {g m : Nat} (h : Zf w g m) (hk : ∀ x, w'.cell? (ad g x) = w.cell? (ad g x)) (hf : ∀ x, w'.frozen? (ad g x) = w.frozen? (ad g x)) : Zf w' g m := fun x hx => by
 rw [hk, hf]; exact h x hx
theorem jc1 (w : World) (a b c : Obj) : Bw w (((w.alloc a).alloc b).alloc c) := ((qal _ a).alloc (by simp) b).alloc (by simp; omega) c
theorem j3s (w : World) (a b c : Obj) : (((w.alloc a).alloc b).alloc c).heap.size = w.heap.size + 1 + 1 + 1 := by simp
theorem jcy {p q i j : Nat} (h : q ≠ p) : ((ad q i) : Addr) ≠ (ad p j) := fun e => h (by injection e)
theorem jf1 {w : World} {b : Nat} {x0 x1 v0 v1 : Value} (h0 : w.cell? (ad b 0) = some x0) (h1 : w.cell? (ad b 1) = some x1) :
  ((w.setCell (ad b 0) v0).setCell (ad b 1) v1).cell? (ad b 0) = some v0 /\ ((w.setCell (ad b 0) v0).setCell (ad b 1) v1).cell? (ad b 1) = some v1 := by
 refine ⟨?_, ?_⟩
 ·rw [wco _ _ _ _ (by simp), wcs _ _ _ h0]
 ·refine wcs _ _ _ (u := x1) ?_
  rw [wco _ _ _ _ (by simp)]; exact h1
theorem jp9 (z : ZoneD) (v : Value) (w : World) (hv : Jg w v z.eras) (hl : z.eras.length <= 1048576) :
  Cl 92 #[.agg #[.string z.name, v]] w fun e w' => ∃ g, e = .returned (.agg #[.string z.name, so g z.eras.length z.eras.length]) /\ w.heap.size <= g /\ Za w' (some (ad g 0)) 6 (z.eras.map EraD.cs) /\ Zf w' g (z.eras.length * 6) /\ Bw w w' := by
 obtain ⟨a, cap, rfl, hA⟩ := hv
 obtain ⟨name, es⟩ := z
 simp only at *
 have hE := fun w (h : Za w a 6 (es.map EraD.cs)) => jqc es a cap w h hl
 go_enter Tryz.func92, Tryz.ntmps92
 go_wp2_with fail
 refine (hE _ (hA.below (jc1 _ _ _ _))).mono ?_
 rintro e w1 ⟨rfl, hq, hR, hb⟩
 obtain ⟨hc, hf⟩ := jaf hb
 have hB : Bw w w1 := (jc1 w _ _ _).trans (hb.mono (by simp; omega))
 have h0 : w1.cell? (ad (w.heap.size + 1) 0) = some (.string ⟨#[]⟩) := (hc _ _ (by simp)).trans (by simp [go_sem])
 have h1 : w1.cell? (ad (w.heap.size + 1) 1) = some nS := (hc _ _ (by simp)).trans (by simp [go_sem])
 simp only [j3s] at hq hR
 go_wp2_with fail
 generalize hg : w.heap.size + 1 + 1 + 1 = g at *
 obtain ⟨r0, r1⟩ := jf1 (w := w1.setCell (ad (w.heap.size + 1 + 1) 1) (so g es.length es.length)) (b := w.heap.size + 1) (v0 := .string name) (v1 := so g es.length es.length) (by rw [wco _ _ _ _ (jcy (by omega))]; exact h0) (by rw [wco _ _ _ _ (jcy (by omega))]; exact h1)
 refine bpr (v := .agg #[.string name, so g es.length es.length]) (by simp [results, Tryz.results92, go_sem, r0, r1]) rfl ⟨g, rfl, by omega, hq.keep fun x => ?_, hR.keep (fun x => ?_) (fun x => by simp), ((hB.setCell (show w.heap.size <= w.heap.size + 1 + 1 by omega) _).setCell (show w.heap.size <= w.heap.size + 1 by omega) _).setCell (show w.heap.size <= w.heap.size + 1 by omega) _⟩
 all_goals rw [wco _ _ _ _ (jcy (by omega)), wco _ _ _ _ (jcy (by omega)), wco _ _ _ _ (jcy (by omega))]
def Zu (w : World) (g k : Nat) (zs : List ZoneD) : Prop := ∀ i z, i < k -> zs[i]? = some z -> w.cell? (ad g (i * 2)) = some (.string z.name) /\ ∃ q, g < q /\ w.cell? (ad g (i * 2 + 1)) = some (so q z.eras.length z.eras.length) /\ Za w (some (ad q 0)) 6 (z.eras.map EraD.cs) /\ Zf w q (z.eras.length * 6)
theorem Zu.below {w w' : World} {g k : Nat} {zs : List ZoneD} (h : Zu w g k zs) (hb : Bw w w') : Zu w' g k zs := fun i z hi hz => by
 obtain ⟨c0, q, hq, c1, hs, hr⟩ := h i z hi hz
 have hlt := qbl c0
 exact ⟨by rw [(jaf hb).1 _ _ hlt]; exact c0, q, hq, by rw [(jaf hb).1 _ _ hlt]; exact c1, hs.below hb, hr.below hb⟩
theorem Zu.put {w : World} {g k m q : Nat} {zs : List ZoneD} {z : ZoneD} (h : Zu w g k zs) (hR : Zf w g m) (hz : zs[k]? = some z) (hm : k * 2 + 2 <= m) (hq : g < q) (hs : Za w (some (ad q 0)) 6 (z.eras.map EraD.cs)) (hr : Zf w q (z.eras.length * 6)) : Zu (jbl w g (k * 2) [.string z.name, so q z.eras.length z.eras.length]) g (k + 1) zs := fun i z' hi jE => by
 by_cases e : i = k
 ·subst e
  rw [hz] at jE
  obtain rfl := osi jE
  have a0 := jif (cs := [.string z.name, so q z.eras.length z.eras.length]) (o := i * 2) (j := 0) hR (by simpa using hm) rfl
  have a1 := jif (cs := [.string z.name, so q z.eras.length z.eras.length]) (o := i * 2) (j := 1) hR (by simpa using hm) rfl
  exact ⟨a0, q, hq, a1, hs.keep fun x => jb3 (.inl (by omega)), hr.keep (fun x => jb3 (.inl (by omega))) (fun x => by simp [jbl])⟩
 ·obtain ⟨c0, q', CC, c1, CD, lK⟩ := h i z' (by omega) jE
  exact ⟨by rw [jb3 (by omega)]; exact c0, q', CC, by rw [jb3 (by omega)]; exact c1, CD.keep fun x => jb3 (.inl (by omega)), lK.keep (fun x => jb3 (.inl (by omega))) (fun x => by simp [jbl])⟩
theorem Zu.zones {w : World} {g : Nat} {zs : List ZoneD} (h : Zu w g zs.length zs) : Zo w (some (ad g 0)) zs :=
 .inr ⟨g, 0, rfl, fun i z hz => by
  obtain ⟨c0, q, _, c1, hs, _⟩ := h i z (lgs hz).1 hz
  rw [show 0 + i * 2 = i * 2 by omega]
  exact ⟨c0, _, c1, _, _, rfl, hs⟩⟩
theorem jr4 : ∃ i : TypeInfo, Tryz.prog.info? 146 = some i /\ i.zero = some (.agg #[.string ⟨#[]⟩, nS]) /\ i.size = 2 /\ i.bytes = 40 := ⟨_, rfl, rfl, rfl, rfl⟩
theorem jnw (l : List ZoneD) (a : Option Addr) (cap : Nat) (w : World) (hA : Zo w a l) (hl : l.length <= 1048576) (bS : ∀ z ∈ l, z.eras.length <= 1048576) :
  Cl 56 #[.slice a l.length cap] w fun e w' => e = .returned (.slice (some (ad w.heap.size 0)) l.length l.length) /\ Zu w' w.heap.size l.length l /\ Zf w' w.heap.size (l.length * 2) /\ Bw w w' := by
 obtain ⟨i0, hi, aH, aI, aG⟩ := jr4
 obtain ⟨w1, dp, ai, du⟩ := run_make_full (P := Tryz.prog) w w.heap.size 35 146 i0 _ 2 Tryz.underlying35 hi aH aI .i64 .i64 l.length (by rw [aG]; omega) (by unfold maxLen; omega) (nlr _)
 have hR := jd3 ai
 have hB : Bw w w1 := (brf _ _).grown du (nlr _) (fun k hk => by cases hk)
 have hlt1 : w.heap.size < w1.heap.size := by
  rcases ai.2 with ⟨h0, _⟩ | ⟨g', c, cur, h1, _, hh, _⟩
  ·cases h0
  ·injection h1 with h1 h2 h3
   injection h1 with h1
   injection h1 with h1
   subst h1
   exact (Array.getElem?_eq_some_iff.mp hh).1
 clear hi aH aI aG ai du
 go_enter Tryz.func56, Tryz.ntmps56
 go_wp2
 go_loopw [4] (fun i wr => ∃ k : Nat, k <= l.length /\ i = iv k /\ Zf wr w.heap.size (l.length * 2) /\ Zu wr w.heap.size k l /\ Bw w wr /\ w.heap.size < wr.heap.size) (fun i _ => l.length - (intOf i).toNat)
 case atStart => exact ⟨0, by omega, rfl, hR, fun i z h => by omega, hB, hlt1⟩
 case round =>
  clear hR hB dp hlt1
  obtain ⟨k, hk, rfl, hR, hF, hB, PD⟩ := hrel
  by_cases hlt : k < l.length
  ·obtain ⟨r, hr⟩ := qgg hlt
   obtain ⟨b, o, rfl, c0, v, c1, hv⟩ := (hA.below hB).at hr
   have hS := jp9 r v wr hv (bS r (lmg hr))
   go_wp2_with fail
   refine hS.mono ?_
   rintro e w2 ⟨q, rfl, hq, et, dA, ac⟩
   have aN := hR.below ac
   have bY := hF.below ac
   have ao := qtr hB ac
   have jv : k * 2 + 2 <= l.length * 2 := by omega
   obtain ⟨⟨u0, iu⟩, gn⟩ := aN (k * 2) (by omega)
   obtain ⟨⟨u1, kS⟩, cZ⟩ := aN (k * 2 + 1) (by omega)
   have R3 := jcb (cs := [.string r.name, so q r.eras.length r.eras.length]) (o := k * 2) aN
   have F3 := bY.put aN hr jv (by omega) et dA
   have B3 := jb4 (cs := [.string r.name, so q r.eras.length r.eras.length]) (o := k * 2) ao (nlr _)
   simp only [jbl] at R3 F3 B3
   have GY : w.heap.size < w2.heap.size := by have := ac.size; omega
   clear aN bY ao
   go_wp2
   go_roundw
   case rel => exact ⟨k + 1, by omega, by go_num, R3, F3, B3, by simpa using GY⟩
   case measure => simp [intOf]; omega
  ·have e : k = l.length := by omega
   subst e
   go_wp2
   go_ret
   exact ⟨rfl, hF, hR, hB⟩
end
section
open Go.RowKit Go.Sort
theorem jqa (r : RuleD) (w : World) :
  Cl 91 #[r.v] w fun e w' => e = .returned r.v /\ Bw w w' := by
 obtain ⟨name, lo, hi, month, on, at_, of, save, letter⟩ := r
 simp only [RuleD.v] at *
 go_enter Tryz.func91, Tryz.ntmps91
 go_wp2
 exact bpr (v := .agg #[.string name, iv lo, iv hi, iv month, .string on, iv at_, .string of, iv save, .string letter]) (by simp [results, Tryz.results91, go_sem]) rfl ⟨rfl, ((qal _ _).alloc (by simp) _).alloc (by simp; omega) _⟩
theorem jr6 : ∃ i : TypeInfo, Tryz.prog.info? 142 = some i /\ i.zero = some (.agg #[.string ⟨#[]⟩, iv 0, iv 0, iv 0, .string ⟨#[]⟩, iv 0, .string ⟨#[]⟩, iv 0, .string ⟨#[]⟩]) /\ i.size = 9 /\ i.bytes = 104 := ⟨_, rfl, rfl, rfl, rfl⟩
theorem jny (l : List RuleD) (a : Option Addr) (cap : Nat) (w : World) (hA : Za w a 9 (l.map RuleD.cs)) (hl : l.length <= 1048576) :
  Cl 55 #[.slice a l.length cap] w fun e w' => e = .returned (.slice (some (ad w.heap.size 0)) l.length l.length) /\ Za w' (some (ad w.heap.size 0)) 9 (l.map RuleD.cs) /\ Zf w' w.heap.size (l.length * 9) /\ Bw w w' := by
 obtain ⟨i0, hi, aH, aI, aG⟩ := jr6
 obtain ⟨w1, dp, ai, du⟩ := run_make_full (P := Tryz.prog) w w.heap.size 34 142 i0 _ 9 Tryz.underlying34 hi aH aI .i64 .i64 l.length (by rw [aG]; omega) (by unfold maxLen; omega) (nlr _)
 have hR := jd3 ai
 have hB : Bw w w1 := (brf _ _).grown du (nlr _) (fun k hk => by cases hk)
 have fo : (l.map RuleD.cs).length = l.length := by simp
 have au : ∀ r ∈ l.map RuleD.cs, r.length = 9 := fun r hr => by
  obtain ⟨x, _, rfl⟩ := List.mem_map.mp hr; rfl
 clear hi aH aI aG ai du
 go_enter Tryz.func55, Tryz.ntmps55
 go_wp2
 go_loopw [4] (fun i wr => ∃ k : Nat, k <= l.length /\ i = iv k /\ Zf wr w.heap.size (l.length * 9) /\ Zc wr w.heap.size 9 k (l.map RuleD.cs) /\ Bw w wr) (fun i _ => l.length - (intOf i).toNat)
 case atStart => exact ⟨0, by omega, rfl, hR, fun i j r c h => by omega, hB⟩
 case round =>
  clear hR hB dp
  obtain ⟨k, hk, rfl, hR, hF, hB⟩ := hrel
  by_cases hlt : k < l.length
  ·obtain ⟨r, hr⟩ := qgg hlt
   have ap : (l.map RuleD.cs)[k]? = some r.cs := by rw [lgm, hr]; rfl
   obtain ⟨b, o, rfl, hc⟩ := (hA.below hB).at (i := k) ap
   have hS := fun w => jqa r w
   have c0 : wr.cell? (ad b (o + k * 9)) = some (.string r.name) := hc 0 _ rfl
   have c1 := hc 1 _ rfl
   have c2 := hc 2 _ rfl
   have c3 := hc 3 _ rfl
   have c4 := hc 4 _ rfl
   have c5 := hc 5 _ rfl
   have c6 := hc 6 _ rfl
   have c7 := hc 7 _ rfl
   have c8 := hc 8 _ rfl
   clear hc
   unfold RuleD.v at hS
   go_wp2_with fail
   refine (hS _).mono ?_
   rintro e w2 ⟨rfl, ac⟩
   have aN := hR.below ac
   have bY := hF.below ac
   have ao := qtr hB ac
   have jv : k * 9 + 9 <= l.length * 9 := by omega
   obtain ⟨⟨u0, iu⟩, gn⟩ := aN (k * 9) (by omega)
   obtain ⟨⟨u1, kS⟩, cZ⟩ := aN (k * 9 + 1) (by omega)
   obtain ⟨⟨u2, sQ⟩, ep⟩ := aN (k * 9 + 2) (by omega)
   obtain ⟨⟨u3, sR⟩, gp⟩ := aN (k * 9 + 3) (by omega)
   obtain ⟨⟨u4, sS⟩, mC⟩ := aN (k * 9 + 4) (by omega)
   obtain ⟨⟨u5, sT⟩, sF⟩ := aN (k * 9 + 5) (by omega)
   obtain ⟨⟨u6, CJ⟩, C1⟩ := aN (k * 9 + 6) (by omega)
   obtain ⟨⟨u7, CK⟩, C4⟩ := aN (k * 9 + 7) (by omega)
   obtain ⟨⟨u8, Lr⟩, KH⟩ := aN (k * 9 + 8) (by omega)
   have hW : jbl w2 w.heap.size (k * 9) r.cs = (((((((((w2.setCell (ad w.heap.size (k * 9)) (.string r.name)).setCell (ad w.heap.size (k * 9 + 1)) (iv r.lo)).setCell (ad w.heap.size (k * 9 + 2)) (iv r.hi)).setCell (ad w.heap.size (k * 9 + 3)) (iv r.month)).setCell (ad w.heap.size (k * 9 + 4)) (.string r.on)).setCell (ad w.heap.size (k * 9 + 5)) (iv r.at_)).setCell (ad w.heap.size (k * 9 + 6)) (.string r.of)).setCell (ad w.heap.size (k * 9 + 7)) (iv r.save)).setCell (ad w.heap.size (k * 9 + 8)) (.string r.letter)) := by simp only [jbl, RuleD.cs, Nat.add_assoc, Nat.reduceAdd]
   have R3 := jcb (cs := r.cs) (o := k * 9) aN
   have F3 := bY.put aN ap rfl jv au
   have B3 := jb4 (cs := r.cs) (o := k * 9) ao (nlr _)
   rw [hW] at R3 F3 B3
   clear hW aN bY ao
   go_wp2
   go_roundw
   case rel => exact ⟨k + 1, by omega, by go_num, R3, F3, B3⟩
   case measure => simp [intOf]; omega
  ·have e : k = l.length := by omega
   subst e
   go_wp2
   go_ret
   exact ⟨rfl, Zc.seq (by rw [fo]; exact hF), hR, hB⟩
theorem jqi (r : RuleD) (w : World) :
  Cl 108 #[r.v, r.v] w fun e w' => e = .returned (.bool true) /\ Bw w w' := by
 obtain ⟨name, lo, hi, month, on, at_, of, save, letter⟩ := r
 simp only [RuleD.v] at *
 go_enter Tryz.func108, Tryz.ntmps108
 go_wp2
 go_ret
 exact ⟨rfl, (qal _ _).alloc (by simp) _⟩
theorem jn9 (l : List RuleD) (a a2 : Option Addr) (cap bP : Nat) (w : World) (hA : Za w a 9 (l.map RuleD.cs)) (cT : Za w a2 9 (l.map RuleD.cs)) (hl : l.length <= 1048576) :
  Cl 72 #[.slice a l.length cap, .slice a2 l.length bP] w fun e w' => e = .returned (.bool true) /\ Bw w w' := by
 go_enter Tryz.func72, Tryz.ntmps72
 go_wp2
 go_loopw [5] (fun i wr => ∃ k : Nat, k <= l.length /\ i = iv k /\ Bw w wr) (fun i _ => l.length - (intOf i).toNat)
 case atStart => exact ⟨0, by omega, rfl, brf _ _⟩
 case round =>
  obtain ⟨k, hk, rfl, hB⟩ := hrel
  by_cases hlt : k < l.length
  ·obtain ⟨r, hr⟩ := qgg hlt
   have ap : (l.map RuleD.cs)[k]? = some r.cs := by rw [lgm, hr]; rfl
   obtain ⟨b, o, rfl, hc⟩ := (hA.below hB).at (i := k) ap
   obtain ⟨b2, o2, rfl, hd⟩ := (cT.below hB).at (i := k) ap
   have hS := fun w => jqi r w
   have c0 : wr.cell? (ad b (o + k * 9)) = some (.string r.name) := hc 0 _ rfl
   have d0 : wr.cell? (ad b2 (o2 + k * 9)) = some (.string r.name) := hd 0 _ rfl
   have c1 := hc 1 _ rfl
   have d1 := hd 1 _ rfl
   have c2 := hc 2 _ rfl
   have d2 := hd 2 _ rfl
   have c3 := hc 3 _ rfl
   have d3 := hd 3 _ rfl
   have c4 := hc 4 _ rfl
   have d4 := hd 4 _ rfl
   have c5 := hc 5 _ rfl
   have d5 := hd 5 _ rfl
   have c6 := hc 6 _ rfl
   have d6 := hd 6 _ rfl
   have c7 := hc 7 _ rfl
   have d7 := hd 7 _ rfl
   have c8 := hc 8 _ rfl
   have d8 := hd 8 _ rfl
   clear hc hd
   unfold RuleD.v at hS
   have cE : ∀ dd os, Cl _ _ (grow (redrawn wr dd) os) fun e cr => e = .returned (.bool true) /\ ∃ p : Regrown, cr = grow (redrawn wr p.d) p.os := fun _ _ => Calls.regrown_of (hS _)
   have oR := cell_regrown c0
   have sY := cell_regrown d0
   have lM := cell_regrown c1
   have sZ := cell_regrown d1
   have vS := cell_regrown c2
   have D2 := cell_regrown d2
   have CZ := cell_regrown c3
   have D3 := cell_regrown d3
   have D0 := cell_regrown c4
   have D4 := cell_regrown d4
   have D1 := cell_regrown c5
   have D5 := cell_regrown d5
   have LF := cell_regrown c6
   have LH := cell_regrown d6
   have LG := cell_regrown c7
   have LI := cell_regrown d7
   have Q6 := cell_regrown c8
   have Q7 := cell_regrown d8
   go_wp2_with fail
   refine wp_region_quiet_below (by kernel_rfl) (by kernel_rfl) ?_
   repeat (quiet_step ((go_at_call 108; exact cE _ _)))
   refine wpQuiet_nil ?_
   intro _ bL
   obtain ⟨⟨dq, aQ⟩, aP⟩ := bL
   subst aP
   have ac := below_regrown wr dq aQ
   go_wp2
   go_roundw
   case rel => exact ⟨k + 1, by omega, by go_num, (qtr hB ac)⟩
   case measure => simp [intOf]; omega
  ·have e : k = l.length := by omega
   subst e
   go_wp2
   go_ret
   exact ⟨rfl, hB⟩
end
section
open Go.RowKit Go.Sort
structure LinkD where
 to_ : ByteArray
 name : ByteArray
def LinkD.cs (r : LinkD) : List Value := [.string r.to_, .string r.name]
def LinkD.v (r : LinkD) : Value := .agg #[.string r.to_, .string r.name]
def LinkD.sz (r : LinkD) : Nat := r.to_.size + r.name.size
def LinkD.ok (r : LinkD) : Prop := r.to_.size <= maxLen /\ r.name.size <= maxLen
theorem jqf (r : LinkD) (n : Int) (w : World) (h0 : 0 <= n) (h1 : n <= 1048576) (hm : r.ok) :
  Cl 81 #[r.v, iv n] w fun e w' => e = .returned (iv (clip (n - r.sz))) /\ Bw w w' := by
 obtain ⟨to_, name⟩ := r
 simp only [LinkD.v, LinkD.sz, LinkD.ok] at *
 unfold maxLen at *
 by_cases g1 : n < to_.size
 ·have HR : Hid (clip (n - ↑(to_.size + name.size)) = -1) := jal (by omega)
  go_enter Tryz.func81, Tryz.ntmps81
  go_wp2
  go_ret
  exact ⟨ret_int HR.out.symm, qal _ _⟩
 by_cases g2 : n < to_.size + name.size
 ·have HR : Hid (clip (n - ↑(to_.size + name.size)) = -1) := jal (by omega)
  go_enter Tryz.func81, Tryz.ntmps81
  go_wp2
  go_ret
  exact ⟨ret_int HR.out.symm, qal _ _⟩
 go_enter Tryz.func81, Tryz.ntmps81
 go_wp2
 go_ret
 exact ⟨ret_int (by rw [ja9 (by omega)]; try omega), qal _ _⟩
def lsz (l : List LinkD) : Nat := (l.map LinkD.sz).sum
theorem jzo {l : List LinkD} {k : Nat} {r : LinkD} (h : l[k]? = some r) : lsz (l.take (k + 1)) = lsz (l.take k) + r.sz := by
 unfold lsz
 rw [List.take_add_one, h]
 simp
theorem j3m (l : List LinkD) (k : Nat) : lsz (l.take k) <= lsz l := by
 have := congrArg (fun l => (l.map LinkD.sz).sum) (List.take_append_drop k l)
 simp only [lma, List.sum_append] at this
 unfold lsz
 omega
theorem jn5 (l : List LinkD) (a : Option Addr) (cap : Nat) (n : Int) (w : World) (hA : Za w a 2 (l.map LinkD.cs)) (de : ∀ r ∈ l, r.ok) (hl : l.length <= maxLen) (h0 : 0 <= n) (h1 : n <= 1048576) :
  Cl 47 #[.slice a l.length cap, iv n] w fun e w' => e = .returned (iv (clip (n - (l.length + lsz l)))) /\ Bw w w' := by
 unfold maxLen at hl
 by_cases g0 : n < l.length
 ·have HR : Hid (clip (n - (l.length + lsz l)) = -1) := jal (by omega)
  go_enter Tryz.func47, Tryz.ntmps47
  go_wp2
  go_ret
  exact ⟨ret_int HR.out.symm, brf _ _⟩
 go_enter Tryz.func47, Tryz.ntmps47
 go_wp2
 go_loopw [1, 5] (fun x i wr => ∃ k : Nat, k <= l.length /\ i = iv k /\ x = iv (n - l.length - lsz (l.take k)) /\ Hid (0 <= n - l.length - lsz (l.take k)) /\ Bw w wr) (fun _ i _ => l.length - (intOf i).toNat)
 case atStart => exact ⟨0, by omega, rfl, by simp [lsz], by simp [lsz, Hid]; omega, brf _ _⟩
 case round =>
  obtain ⟨k, hk, rfl, rfl, hp, hB⟩ := hrel
  by_cases hlt : k < l.length
  ·obtain ⟨r, hr⟩ := qgg hlt
   obtain ⟨b, o, rfl, hc⟩ := (hA.below hB).at (i := k) (r := r.cs) (by rw [lgm, hr]; rfl)
   have ok := de r (lmg hr)
   have lI := hp.out
   have ht := jzo hr
   have bS := j3m l (k + 1)
   have hS := fun w => jqf r (n - l.length - lsz (l.take k)) w (by omega) (by omega) ok
   have c0 : wr.cell? (ad b (o + k * 2)) = some (.string r.to_) := hc 0 _ rfl
   have c1 := hc 1 _ rfl
   clear hc
   unfold LinkD.v at hS
   by_cases g : n - l.length - lsz (l.take k) - r.sz < 0
   ·have HR : Hid (clip (n - (l.length + lsz l)) = -1) := jal (by omega)
    rw [jal g] at hS
    go_wp2_with fail
    refine (hS _).mono ?_
    rintro e w2 ⟨rfl, ac⟩
    go_wp2
    go_ret
    exact ⟨ret_int HR.out.symm, (qtr hB ac)⟩
   ·rw [ja9 (by omega)] at hS
    have HN : Hid (n - l.length - lsz (l.take k) - r.sz = n - l.length - lsz (l.take (k + 1))) := by simp only [Hid]; omega
    go_wp2_with fail
    refine (hS _).mono ?_
    rintro e w2 ⟨rfl, ac⟩
    go_wp2
    go_roundw
    case rel => exact ⟨k + 1, by omega, by go_num, by rw [HN.out], by have := HN.out; simp only [Hid]; omega, (qtr hB ac)⟩
    case measure => simp [intOf]; omega
  ·have e : k = l.length := by omega
   subst e
   have HR : Hid (clip (n - (l.length + lsz l)) = n - l.length - lsz (l.take l.length)) := by
    have := hp.out
    simp only [Hid]
    rw [List.take_length] at this ⊢
    rw [ja9 (by omega)]; omega
   go_wp2
   go_ret
   exact ⟨ret_int HR.out.symm, hB⟩
theorem jqb (r : LinkD) (w : World) :
  Cl 93 #[r.v] w fun e w' => e = .returned r.v /\ Bw w w' := by
 obtain ⟨to_, name⟩ := r
 simp only [LinkD.v] at *
 go_enter Tryz.func93, Tryz.ntmps93
 go_wp2
 exact bpr (v := .agg #[.string to_, .string name]) (by simp [results, Tryz.results93, go_sem]) rfl ⟨rfl, ((qal _ _).alloc (by simp) _).alloc (by simp; omega) _⟩
theorem jr7 : ∃ i : TypeInfo, Tryz.prog.info? 148 = some i /\ i.zero = some (.agg #[.string ⟨#[]⟩, .string ⟨#[]⟩]) /\ i.size = 2 /\ i.bytes = 32 := ⟨_, rfl, rfl, rfl, rfl⟩
theorem jnz (l : List LinkD) (a : Option Addr) (cap : Nat) (w : World) (hA : Za w a 2 (l.map LinkD.cs)) (hl : l.length <= 1048576) :
  Cl 57 #[.slice a l.length cap] w fun e w' => e = .returned (.slice (some (ad w.heap.size 0)) l.length l.length) /\ Za w' (some (ad w.heap.size 0)) 2 (l.map LinkD.cs) /\ Zf w' w.heap.size (l.length * 2) /\ Bw w w' := by
 obtain ⟨i0, hi, aH, aI, aG⟩ := jr7
 obtain ⟨w1, dp, ai, du⟩ := run_make_full (P := Tryz.prog) w w.heap.size 36 148 i0 _ 2 Tryz.underlying36 hi aH aI .i64 .i64 l.length (by rw [aG]; omega) (by unfold maxLen; omega) (nlr _)
 have hR := jd3 ai
 have hB : Bw w w1 := (brf _ _).grown du (nlr _) (fun k hk => by cases hk)
 have fo : (l.map LinkD.cs).length = l.length := by simp
 have au : ∀ r ∈ l.map LinkD.cs, r.length = 2 := fun r hr => by
  obtain ⟨x, _, rfl⟩ := List.mem_map.mp hr; rfl
 clear hi aH aI aG ai du
 go_enter Tryz.func57, Tryz.ntmps57
 go_wp2
 go_loopw [4] (fun i wr => ∃ k : Nat, k <= l.length /\ i = iv k /\ Zf wr w.heap.size (l.length * 2) /\ Zc wr w.heap.size 2 k (l.map LinkD.cs) /\ Bw w wr) (fun i _ => l.length - (intOf i).toNat)
 case atStart => exact ⟨0, by omega, rfl, hR, fun i j r c h => by omega, hB⟩
 case round =>
  clear hR hB dp
  obtain ⟨k, hk, rfl, hR, hF, hB⟩ := hrel
  by_cases hlt : k < l.length
  ·obtain ⟨r, hr⟩ := qgg hlt
   have ap : (l.map LinkD.cs)[k]? = some r.cs := by rw [lgm, hr]; rfl
   obtain ⟨b, o, rfl, hc⟩ := (hA.below hB).at (i := k) ap
   have hS := fun w => jqb r w
   have c0 : wr.cell? (ad b (o + k * 2)) = some (.string r.to_) := hc 0 _ rfl
   have c1 := hc 1 _ rfl
   clear hc
   unfold LinkD.v at hS
   go_wp2_with fail
   refine (hS _).mono ?_
   rintro e w2 ⟨rfl, ac⟩
   have aN := hR.below ac
   have bY := hF.below ac
   have ao := qtr hB ac
   have jv : k * 2 + 2 <= l.length * 2 := by omega
   obtain ⟨⟨u0, iu⟩, gn⟩ := aN (k * 2) (by omega)
   obtain ⟨⟨u1, kS⟩, cZ⟩ := aN (k * 2 + 1) (by omega)
   have hW : jbl w2 w.heap.size (k * 2) r.cs = ((w2.setCell (ad w.heap.size (k * 2)) (.string r.to_)).setCell (ad w.heap.size (k * 2 + 1)) (.string r.name)) := by simp only [jbl, LinkD.cs]
   have R3 := jcb (cs := r.cs) (o := k * 2) aN
   have F3 := bY.put aN ap rfl jv au
   have B3 := jb4 (cs := r.cs) (o := k * 2) ao (nlr _)
   rw [hW] at R3 F3 B3
   clear hW aN bY ao
   go_wp2
   go_roundw
   case rel => exact ⟨k + 1, by omega, by go_num, R3, F3, B3⟩
   case measure => simp [intOf]; omega
  ·have e : k = l.length := by omega
   subst e
   go_wp2
   go_ret
   exact ⟨rfl, Zc.seq (by rw [fo]; exact hF), hR, hB⟩
theorem jqj (r : LinkD) (w : World) :
  Cl 110 #[r.v, r.v] w fun e w' => e = .returned (.bool true) /\ Bw w w' := by
 obtain ⟨to_, name⟩ := r
 simp only [LinkD.v] at *
 go_enter Tryz.func110, Tryz.ntmps110
 go_wp2
 go_ret
 exact ⟨rfl, (qal _ _).alloc (by simp) _⟩
theorem joa (l : List LinkD) (a a2 : Option Addr) (cap bP : Nat) (w : World) (hA : Za w a 2 (l.map LinkD.cs)) (cT : Za w a2 2 (l.map LinkD.cs)) (hl : l.length <= 1048576) :
  Cl 74 #[.slice a l.length cap, .slice a2 l.length bP] w fun e w' => e = .returned (.bool true) /\ Bw w w' := by
 go_enter Tryz.func74, Tryz.ntmps74
 go_wp2
 go_loopw [5] (fun i wr => ∃ k : Nat, k <= l.length /\ i = iv k /\ Bw w wr) (fun i _ => l.length - (intOf i).toNat)
 case atStart => exact ⟨0, by omega, rfl, brf _ _⟩
 case round =>
  obtain ⟨k, hk, rfl, hB⟩ := hrel
  by_cases hlt : k < l.length
  ·obtain ⟨r, hr⟩ := qgg hlt
   have ap : (l.map LinkD.cs)[k]? = some r.cs := by rw [lgm, hr]; rfl
   obtain ⟨b, o, rfl, hc⟩ := (hA.below hB).at (i := k) ap
   obtain ⟨b2, o2, rfl, hd⟩ := (cT.below hB).at (i := k) ap
   have hS := fun w => jqj r w
   have c0 : wr.cell? (ad b (o + k * 2)) = some (.string r.to_) := hc 0 _ rfl
   have d0 : wr.cell? (ad b2 (o2 + k * 2)) = some (.string r.to_) := hd 0 _ rfl
   have c1 := hc 1 _ rfl
   have d1 := hd 1 _ rfl
   clear hc hd
   unfold LinkD.v at hS
   have cE : ∀ dd os, Cl _ _ (grow (redrawn wr dd) os) fun e cr => e = .returned (.bool true) /\ ∃ p : Regrown, cr = grow (redrawn wr p.d) p.os := fun _ _ => Calls.regrown_of (hS _)
   have oR := cell_regrown c0
   have sY := cell_regrown d0
   have lM := cell_regrown c1
   have sZ := cell_regrown d1
   go_wp2_with fail
   refine wp_region_quiet_below (by kernel_rfl) (by kernel_rfl) ?_
   repeat (quiet_step ((go_at_call 110; exact cE _ _)))
   refine wpQuiet_nil ?_
   intro _ bL
   obtain ⟨⟨dq, aQ⟩, aP⟩ := bL
   subst aP
   have ac := below_regrown wr dq aQ
   go_wp2
   go_roundw
   case rel => exact ⟨k + 1, by omega, by go_num, (qtr hB ac)⟩
   case measure => simp [intOf]; omega
  ·have e : k = l.length := by omega
   subst e
   go_wp2
   go_ret
   exact ⟨rfl, hB⟩
end
section
open Go.RowKit Go.Sort
theorem jqh (z : ZoneD) (v v2 : Value) (w : World) (hv : Jg w v z.eras) (eu : Jg w v2 z.eras) (hl : z.eras.length <= 1048576) :
  Cl 109 #[.agg #[.string z.name, v], .agg #[.string z.name, v2]] w fun e w' => e = .returned (.bool true) /\ Bw w w' := by
 obtain ⟨a, cap, rfl, hA⟩ := hv
 obtain ⟨a2, bP, rfl, cT⟩ := eu
 obtain ⟨name, es⟩ := z
 simp only at *
 have hE := fun w (h : Za w a 6 (es.map EraD.cs)) (h2 : Za w a2 6 (es.map EraD.cs)) => jqk es a a2 cap bP w h h2 hl
 have aX : ∀ o o2, Bw w ((w.alloc o).alloc o2) := fun o o2 => (qal _ o).alloc (by simp) o2
 go_enter Tryz.func109, Tryz.ntmps109
 go_wp2_with fail
 refine (hE _ (hA.below (aX _ _)) (cT.below (aX _ _))).mono ?_
 rintro e w1 ⟨rfl, hb⟩
 go_wp2
 go_ret
 exact ⟨rfl, (aX _ _).trans (hb.mono (by simp; omega))⟩
theorem jn7 (l : List ZoneD) (a a2 : Option Addr) (cap bP : Nat) (w : World) (hA : Zo w a l) (cT : Zo w a2 l) (hl : l.length <= 1048576) (bS : ∀ z ∈ l, z.eras.length <= 1048576) :
  Cl 73 #[.slice a l.length cap, .slice a2 l.length bP] w fun e w' => e = .returned (.bool true) /\ Bw w w' := by
 go_enter Tryz.func73, Tryz.ntmps73
 go_wp2
 go_loopw [5] (fun i wr => ∃ k : Nat, k <= l.length /\ i = iv k /\ Bw w wr) (fun i _ => l.length - (intOf i).toNat)
 case atStart => exact ⟨0, by omega, rfl, brf _ _⟩
 case round =>
  obtain ⟨k, hk, rfl, hB⟩ := hrel
  by_cases hlt : k < l.length
  ·obtain ⟨r, hr⟩ := qgg hlt
   obtain ⟨b, o, rfl, c0, v, c1, hv⟩ := (hA.below hB).at hr
   obtain ⟨b2, o2, rfl, d0, v2, d1, eu⟩ := (cT.below hB).at hr
   have fo := bS r (lmg hr)
   have cE : ∀ dd os, Cl 109 #[.agg #[.string r.name, v], .agg #[.string r.name, v2]] (grow (redrawn wr dd) os) fun e cr => e = .returned (.bool true) /\ ∃ p : Regrown, cr = grow (redrawn wr p.d) p.os := fun dd os => Calls.regrown_of (jqh r v v2 _ (hv.below (below_regrown wr dd os)) (eu.below (below_regrown wr dd os)) fo)
   have oR := cell_regrown c0
   have lM := cell_regrown c1
   have sY := cell_regrown d0
   have sZ := cell_regrown d1
   go_wp2_with fail
   refine wp_region_quiet_below (by kernel_rfl) (by kernel_rfl) ?_
   repeat (quiet_step ((go_at_call 109; exact cE _ _)))
   refine wpQuiet_nil ?_
   intro _ bL
   obtain ⟨⟨dq, aQ⟩, aP⟩ := bL
   subst aP
   have ac := below_regrown wr dq aQ
   go_wp2
   go_roundw
   case rel => exact ⟨k + 1, by omega, by go_num, (qtr hB ac)⟩
   case measure => simp [intOf]; omega
  ·have e : k = l.length := by omega
   subst e
   go_wp2
   go_ret
   exact ⟨rfl, hB⟩
structure RelD where
 rules : List RuleD
 zones : List ZoneD
 links : List LinkD
def RelD.ok (r : RelD) : Prop := (r.rules.length <= maxLen /\ ∀ x ∈ r.rules, x.ok) /\ (r.zones.length <= maxLen /\ ∀ x ∈ r.zones, x.ok) /\ (r.links.length <= maxLen /\ ∀ x ∈ r.links, x.ok)
def RelD.sz (r : RelD) : Nat := (r.rules.length + rsz r.rules) + (r.zones.length + zsz r.zones) + (r.links.length + lsz r.links)
structure Zd (w : World) (v : Value) (r : RelD) : Prop where
 form : ∃ a b c ca cb cc, v = .agg #[.slice a r.rules.length ca, .slice b r.zones.length cb, .slice c r.links.length cc] /\ Za w a 9 (r.rules.map RuleD.cs) /\ Zo w b r.zones /\ Za w c 2 (r.links.map LinkD.cs)
theorem Zd.below {w w' : World} {v : Value} {r : RelD} (h : Zd w v r) (hb : Bw w w') : Zd w' v r := by
 obtain ⟨a, b, c, ca, cb, cc, hv, h1, h2, h3⟩ := h.form
 exact ⟨a, b, c, ca, cb, cc, hv, h1.below hb, h2.below hb, h3.below hb⟩
theorem jeu (r : RelD) (v : Value) (n : Int) (w : World) (hv : Zd w v r) (hm : r.ok) (h0 : 0 <= n) (h1 : n <= 1048576) :
  Cl 25 #[v, iv n] w fun e w' => e = .returned (iv (clip (n - r.sz))) /\ Bw w w' := by
 obtain ⟨a, b, c, ca, cb, cc, rfl, hA, hB, hC⟩ := hv.form
 obtain ⟨⟨p1, p2⟩, ⟨q1, q2⟩, ⟨s1, s2⟩⟩ := hm
 obtain ⟨rs, zs, ls⟩ := r
 simp only [RelD.sz] at *
 have aX : ∀ o, Bw w (w.alloc o) := fun o => qal _ o
 have hR := fun w (h : Za w a 9 (rs.map RuleD.cs)) => jn4 rs a ca n w h p2 p1 h0 h1
 by_cases g1 : n - (rs.length + rsz rs) < 0
 ·have HR : Hid (clip (n - ↑(rs.length + rsz rs + (zs.length + zsz zs) + (ls.length + lsz ls))) = -1) := jal (by omega)
  rw [jal g1] at hR
  go_enter Tryz.func25, Tryz.ntmps25
  go_wp2_with fail
  refine (hR _ (hA.below (aX _))).mono ?_
  rintro e w1 ⟨rfl, hb1⟩
  go_wp2
  go_ret
  exact ⟨ret_int HR.out.symm, (aX _).trans (hb1.mono (by simp))⟩
 rw [ja9 (by omega)] at hR
 have hZ := fun w (h : Zo w b zs) => jn2 zs b cb (n - (rs.length + rsz rs)) w h q2 q1 (by omega) (by omega)
 by_cases g2 : n - (rs.length + rsz rs) - (zs.length + zsz zs) < 0
 ·have HR : Hid (clip (n - ↑(rs.length + rsz rs + (zs.length + zsz zs) + (ls.length + lsz ls))) = -1) := jal (by omega)
  rw [jal g2] at hZ
  go_enter Tryz.func25, Tryz.ntmps25
  go_wp2_with fail
  refine (hR _ (hA.below (aX _))).mono ?_
  rintro e w1 ⟨rfl, hb1⟩
  have aj := (aX _).trans (hb1.mono (by simp))
  obtain ⟨hc, _⟩ := jaf hb1
  have hlt : w.heap.size < w1.heap.size := by have := hb1.size; simp at this; omega
  go_wp2_with fail
  refine (hZ _ (hB.below aj)).mono ?_
  rintro e w2 ⟨rfl, ac⟩
  go_wp2
  go_ret
  exact ⟨ret_int HR.out.symm, (qtr aj ac)⟩
 rw [ja9 (by omega)] at hZ
 have hL := fun w (h : Za w c 2 (ls.map LinkD.cs)) => jn5 ls c cc (n - (rs.length + rsz rs) - (zs.length + zsz zs)) w h s2 s1 (by omega) (by omega)
 have tail : ∀ m, clip (n - (rs.length + rsz rs) - (zs.length + zsz zs) - (ls.length + lsz ls)) = m -> clip (n - ↑(rs.length + rsz rs + (zs.length + zsz zs) + (ls.length + lsz ls))) = m := fun m h => by rw [<- h]; congr 1; omega
 by_cases g3 : n - (rs.length + rsz rs) - (zs.length + zsz zs) - (ls.length + lsz ls) < 0
 ·have HR : Hid (clip (n - ↑(rs.length + rsz rs + (zs.length + zsz zs) + (ls.length + lsz ls))) = -1) := tail _ (jal g3)
  rw [jal g3] at hL
  clear tail
  go_enter Tryz.func25, Tryz.ntmps25
  go_wp2_with fail
  refine (hR _ (hA.below (aX _))).mono ?_
  rintro e w1 ⟨rfl, hb1⟩
  have aj := (aX _).trans (hb1.mono (by simp))
  obtain ⟨hc, _⟩ := jaf hb1
  have hlt : w.heap.size < w1.heap.size := by have := hb1.size; simp at this; omega
  go_wp2_with fail
  refine (hZ _ (hB.below aj)).mono ?_
  rintro e w2 ⟨rfl, ac⟩
  have ao := qtr aj ac
  obtain ⟨cY, _⟩ := jaf ac
  go_wp2_with fail
  refine (hL _ (hC.below ao)).mono ?_
  rintro e w3 ⟨rfl, av⟩
  go_wp2
  go_ret
  exact ⟨ret_int HR.out.symm, (qtr ao av)⟩
 ·have HR : Hid (clip (n - ↑(rs.length + rsz rs + (zs.length + zsz zs) + (ls.length + lsz ls))) = n - (rs.length + rsz rs) - (zs.length + zsz zs) - (ls.length + lsz ls)) := tail _ (ja9 (by omega))
  rw [ja9 (by omega)] at hL
  clear tail
  go_enter Tryz.func25, Tryz.ntmps25
  go_wp2_with fail
  refine (hR _ (hA.below (aX _))).mono ?_
  rintro e w1 ⟨rfl, hb1⟩
  have aj := (aX _).trans (hb1.mono (by simp))
  obtain ⟨hc, _⟩ := jaf hb1
  have hlt : w.heap.size < w1.heap.size := by have := hb1.size; simp at this; omega
  go_wp2_with fail
  refine (hZ _ (hB.below aj)).mono ?_
  rintro e w2 ⟨rfl, ac⟩
  have ao := qtr aj ac
  obtain ⟨cY, _⟩ := jaf ac
  go_wp2_with fail
  refine (hL _ (hC.below ao)).mono ?_
  rintro e w3 ⟨rfl, av⟩
  go_wp2
  go_ret
  exact ⟨ret_int HR.out.symm, (qtr ao av)⟩
end
section
open Go.RowKit Go.Sort
def Jj (B : Nat) (w w' : World) : Prop := ∀ g x, B <= g -> w'.cell? (ad g x) = w.cell? (ad g x) /\ w'.frozen? (ad g x) = w.frozen? (ad g x)
theorem Jj.set {B : Nat} {w w' : World} (h : Jj B w w') {p i : Nat} (hp : p < B) (v : Value) : Jj B w (w'.setCell (ad p i) v) := fun g x hg =>
 ⟨by rw [wco _ _ _ _ (jcy (by omega))]; exact (h g x hg).1, by rw [World.frozen?_setCell]; exact (h g x hg).2⟩
theorem Jj.refl (B : Nat) (w : World) : Jj B w w := fun _ _ _ => ⟨rfl, rfl⟩
theorem Za.from {B g k : Nat} {w w' : World} {rows : List (List Value)} (h : Za w (some (ad g 0)) k rows) (hf : Jj B w w') (hg : B <= g) : Za w' (some (ad g 0)) k rows := h.keep fun x => (hf g x hg).1
theorem Zf.from {B g m : Nat} {w w' : World} (h : Zf w g m) (hf : Jj B w w') (hg : B <= g) : Zf w' g m := h.keep (fun x => (hf g x hg).1) (fun x => (hf g x hg).2)
theorem Zu.from {B g k : Nat} {w w' : World} {zs : List ZoneD} (h : Zu w g k zs) (hf : Jj B w w') (hg : B <= g) : Zu w' g k zs := fun i z hi hz => by
 obtain ⟨c0, q, hq, c1, hs, hr⟩ := h i z hi hz
 exact ⟨by rw [(hf g _ hg).1]; exact c0, q, hq, by rw [(hf g _ hg).1]; exact c1, hs.from hf (by omega), hr.from hf (by omega)⟩
structure Zr (w : World) (B : Nat) (v : Value) (r : RelD) : Prop where
 form : ∃ a b c, v = .agg #[so a r.rules.length r.rules.length, so b r.zones.length r.zones.length, so c r.links.length r.links.length] /\
  (B <= a /\ B <= b /\ B <= c) /\ (Za w (some (ad a 0)) 9 (r.rules.map RuleD.cs) /\ Zf w a (r.rules.length * 9)) /\ (Zu w b r.zones.length r.zones /\ Zf w b (r.zones.length * 2)) /\ (Za w (some (ad c 0)) 2 (r.links.map LinkD.cs) /\ Zf w c (r.links.length * 2))
theorem Zr.rel {w : World} {B : Nat} {v : Value} {r : RelD} (h : Zr w B v r) : Zd w v r := by
 obtain ⟨a, b, c, hv, _, ⟨h1, _⟩, ⟨h2, _⟩, ⟨h3, _⟩⟩ := h.form
 exact ⟨_, _, _, _, _, _, hv, h1, h2.zones, h3⟩
theorem Zr.below {w w' : World} {B : Nat} {v : Value} {r : RelD} (h : Zr w B v r) (hb : Bw w w') : Zr w' B v r := by
 obtain ⟨a, b, c, hv, hB, ⟨h1, k1⟩, ⟨h2, k2⟩, ⟨h3, k3⟩⟩ := h.form
 exact ⟨a, b, c, hv, hB, ⟨h1.below hb, k1.below hb⟩, ⟨h2.below hb, k2.below hb⟩, ⟨h3.below hb, k3.below hb⟩⟩
theorem jnh {w : World} {b : Nat} {x0 x1 x2 v0 v1 v2 : Value} (h0 : w.cell? (ad b 0) = some x0) (h1 : w.cell? (ad b 1) = some x1) (h2 : w.cell? (ad b 2) = some x2) :
  (((w.setCell (ad b 0) v0).setCell (ad b 1) v1).setCell (ad b 2) v2).cell? (ad b 0) = some v0 /\ (((w.setCell (ad b 0) v0).setCell (ad b 1) v1).setCell (ad b 2) v2).cell? (ad b 1) = some v1 /\ (((w.setCell (ad b 0) v0).setCell (ad b 1) v1).setCell (ad b 2) v2).cell? (ad b 2) = some v2 := by
 refine ⟨?_, ?_, ?_⟩
 ·rw [wco _ _ _ _ (by simp), wco _ _ _ _ (by simp), wcs _ _ _ h0]
 ·rw [wco _ _ _ _ (by simp)]
  refine wcs _ _ _ (u := x1) ?_
  rw [wco _ _ _ _ (by simp)]; exact h1
 ·refine wcs _ _ _ (u := x2) ?_
  rw [wco _ _ _ _ (by simp), wco _ _ _ _ (by simp)]; exact h2
def RelD.small (r : RelD) : Prop := r.rules.length <= 1048576 /\ r.zones.length <= 1048576 /\ r.links.length <= 1048576 /\ ∀ z ∈ r.zones, z.eras.length <= 1048576
theorem jet (r : RelD) (v : Value) (w : World) (hv : Zd w v r) (hm : r.small) :
  Cl 30 #[v] w fun e w' => ∃ v', e = .returned v' /\ Zr w' w.heap.size v' r /\ Bw w w' := by
 obtain ⟨a, b, c, ca, cb, cc, rfl, hA, hB, hC⟩ := hv.form
 obtain ⟨m1, m2, m3, m4⟩ := hm
 obtain ⟨rs, zs, ls⟩ := r
 simp only at *
 have hR := fun w (h : Za w a 9 (rs.map RuleD.cs)) => jny rs a ca w h m1
 have hZ := fun w (h : Zo w b zs) => jnw zs b cb w h m2 m4
 have hL := fun w (h : Za w c 2 (ls.map LinkD.cs)) => jnz ls c cc w h m3
 go_enter Tryz.func30, Tryz.ntmps30
 go_wp2_with fail
 refine (hR _ (hA.below (jc1 _ _ _ _))).mono ?_
 rintro e w1 ⟨rfl, q1, k1, hb1⟩
 obtain ⟨aY, cZ⟩ := jaf hb1
 have aj : Bw w w1 := (jc1 w _ _ _).trans (hb1.mono (by simp; omega))
 have aI : w.heap.size + 3 <= w1.heap.size := by have := hb1.size; simp at this; omega
 simp only [j3s] at q1 k1
 have x1 : w1.cell? (ad w.heap.size 1) = some (.slice b zs.length cb) := (aY _ _ (by simp; omega)).trans (by simp [go_sem])
 have x2 : w1.cell? (ad w.heap.size 2) = some (.slice c ls.length cc) := (aY _ _ (by simp; omega)).trans (by simp [go_sem])
 have o0 : w1.cell? (ad (w.heap.size + 1 + 1) 0) = some nS := (aY _ _ (by simp)).trans (by simp [go_sem])
 have o1 : w1.cell? (ad (w.heap.size + 1 + 1) 1) = some nS := (aY _ _ (by simp)).trans (by simp [go_sem])
 have o2 : w1.cell? (ad (w.heap.size + 1 + 1) 2) = some nS := (aY _ _ (by simp)).trans (by simp [go_sem])
 have s0 : w1.cell? (ad (w.heap.size + 1) 0) = some nS := (aY _ _ (by simp)).trans (by simp [go_sem])
 have s1 : w1.cell? (ad (w.heap.size + 1) 1) = some nS := (aY _ _ (by simp)).trans (by simp [go_sem])
 have s2 : w1.cell? (ad (w.heap.size + 1) 2) = some nS := (aY _ _ (by simp)).trans (by simp [go_sem])
 have f2 : ∀ i, w1.frozen? (ad (w.heap.size + 1 + 1) i) = false := fun i => (cZ _ _ (by simp)).trans (by simp [go_sem])
 have f1 : ∀ i, w1.frozen? (ad (w.heap.size + 1) i) = false := fun i => (cZ _ _ (by simp)).trans (by simp [go_sem])
 clear aY cZ hb1
 generalize cU : w.heap.size + 1 + 1 + 1 = g1 at *
 go_wp2_with fail
 have m9 : Bw w (w1.setCell (ad (w.heap.size + 1 + 1) 0) (so g1 rs.length rs.length)) := aj.setCell (show w.heap.size <= w.heap.size + 1 + 1 by omega) _
 refine (hZ _ (hB.below m9)).mono ?_
 rintro e w2 ⟨rfl, q2, k2, ac⟩
 obtain ⟨cY, ep⟩ := jaf ac
 have ao := qtr m9 ac
 have hsz : (w1.setCell (ad (w.heap.size + 1 + 1) 0) (so g1 rs.length rs.length)).heap.size = w1.heap.size := by simp
 have fH : Jj g1 w1 (w1.setCell (ad (w.heap.size + 1 + 1) 0) (so g1 rs.length rs.length)) := (Jj.refl g1 w1).set (by omega) _
 have Hq := (q1.from fH (nlr _)).below ac
 have H8 := (k1.from fH (nlr _)).below ac
 have C2 : ∀ p i, p < w1.heap.size -> (p, i) ≠ (w.heap.size + 1 + 1, 0) -> w2.cell? (ad p i) = w1.cell? (ad p i) := fun p i hp az => by
  rw [cY _ _ (by rw [hsz]; exact hp), wco]
  intro e; injection e with e1 e2; subst e1 e2; exact az rfl
 have F2 : ∀ p i, p < w1.heap.size -> w2.frozen? (ad p i) = w1.frozen? (ad p i) := fun p i hp => by
  rw [ep _ _ (by rw [hsz]; exact hp), World.frozen?_setCell]
 have y2 : w2.cell? (ad w.heap.size 2) = some (.slice c ls.length cc) := (C2 _ _ (by omega) (by simp)).trans x2
 have O0 : w2.cell? (ad (w.heap.size + 1 + 1) 0) = some (so g1 rs.length rs.length) := (cY _ _ (by rw [hsz]; omega)).trans (wcs _ _ _ o0)
 have O1 : w2.cell? (ad (w.heap.size + 1 + 1) 1) = some nS := (C2 _ _ (by omega) (by simp)).trans o1
 have O2 : w2.cell? (ad (w.heap.size + 1 + 1) 2) = some nS := (C2 _ _ (by omega) (by simp)).trans o2
 have S0 : w2.cell? (ad (w.heap.size + 1) 0) = some nS := (C2 _ _ (by omega) (by simp)).trans s0
 have S1 : w2.cell? (ad (w.heap.size + 1) 1) = some nS := (C2 _ _ (by omega) (by simp)).trans s1
 have S2 : w2.cell? (ad (w.heap.size + 1) 2) = some nS := (C2 _ _ (by omega) (by simp)).trans s2
 have f4 : ∀ i, w2.frozen? (ad (w.heap.size + 1 + 1) i) = false := fun i => (F2 _ _ (by omega)).trans (f2 i)
 have f3 : ∀ i, w2.frozen? (ad (w.heap.size + 1) i) = false := fun i => (F2 _ _ (by omega)).trans (f1 i)
 rw [hsz] at q2 k2
 have aG : w1.heap.size <= w2.heap.size := by have := ac.size; rw [hsz] at this; exact this
 clear cY ep ac C2 F2 x1 x2 o0 o1 o2 s0 s1 s2 f1 f2 fH q1 k1 m9
 generalize bU : w1.heap.size = g2 at *
 have JH := f4 1
 have JI := f4 2
 go_wp2_with fail
 have AY : Bw w (w2.setCell (ad (w.heap.size + 1 + 1) 1) (so g2 zs.length zs.length)) := ao.setCell (show w.heap.size <= w.heap.size + 1 + 1 by omega) _
 refine (hL _ (hC.below AY)).mono ?_
 rintro e w3 ⟨rfl, q3, k3, av⟩
 obtain ⟨fJ, gp⟩ := jaf av
 have ay := qtr AY av
 have kR : (w2.setCell (ad (w.heap.size + 1 + 1) 1) (so g2 zs.length zs.length)).heap.size = w2.heap.size := by simp
 have bY : Jj g1 w2 (w2.setCell (ad (w.heap.size + 1 + 1) 1) (so g2 zs.length zs.length)) := (Jj.refl g1 w2).set (by omega) _
 have Mr := (Hq.from bY (nlr _)).below av
 have CY := (H8.from bY (nlr _)).below av
 have Mt := (q2.from bY (by omega)).below av
 have LE := (k2.from bY (by omega)).below av
 have C3 : ∀ p i, p < w2.heap.size -> (p, i) ≠ (w.heap.size + 1 + 1, 1) -> w3.cell? (ad p i) = w2.cell? (ad p i) := fun p i hp az => by
  rw [fJ _ _ (by rw [kR]; exact hp), wco]
  intro e; injection e with e1 e2; subst e1 e2; exact az rfl
 have F3 : ∀ p i, p < w2.heap.size -> w3.frozen? (ad p i) = w2.frozen? (ad p i) := fun p i hp => by
  rw [gp _ _ (by rw [kR]; exact hp), World.frozen?_setCell]
 have P0 : w3.cell? (ad (w.heap.size + 1 + 1) 0) = some (so g1 rs.length rs.length) := (C3 _ _ (by omega) (by simp)).trans O0
 have P1 : w3.cell? (ad (w.heap.size + 1 + 1) 1) = some (so g2 zs.length zs.length) := (fJ _ _ (by rw [kR]; omega)).trans (wcs _ _ _ O1)
 have P2 : w3.cell? (ad (w.heap.size + 1 + 1) 2) = some nS := (C3 _ _ (by omega) (by simp)).trans O2
 have T0 : w3.cell? (ad (w.heap.size + 1) 0) = some nS := (C3 _ _ (by omega) (by simp)).trans S0
 have T1 : w3.cell? (ad (w.heap.size + 1) 1) = some nS := (C3 _ _ (by omega) (by simp)).trans S1
 have T2 : w3.cell? (ad (w.heap.size + 1) 2) = some nS := (C3 _ _ (by omega) (by simp)).trans S2
 have e2 : w3.frozen? (ad (w.heap.size + 1 + 1) 2) = false := (F3 _ _ (by omega)).trans (f4 2)
 have Pk : w3.frozen? (ad (w.heap.size + 1) 0) = false := (F3 _ _ (by omega)).trans (f3 0)
 have Pm : w3.frozen? (ad (w.heap.size + 1) 1) = false := (F3 _ _ (by omega)).trans (f3 1)
 have Pn : w3.frozen? (ad (w.heap.size + 1) 2) = false := (F3 _ _ (by omega)).trans (f3 2)
 rw [kR] at q3 k3
 clear fJ gp av C3 F3 O0 O1 O2 S0 S1 S2 f3 f4 JH JI y2 bY Hq H8 q2 k2 AY ao
 have GY : g2 <= w2.heap.size := aG
 generalize sG : w2.heap.size = g3 at *
 have X0 : (w3.setCell (ad (w.heap.size + 1 + 1) 2) (so g3 ls.length ls.length)).cell? (ad (w.heap.size + 1) 0) = some nS := by rw [wco _ _ _ _ (jcy (by omega))]; exact T0
 have X1 : (w3.setCell (ad (w.heap.size + 1 + 1) 2) (so g3 ls.length ls.length)).cell? (ad (w.heap.size + 1) 1) = some nS := by rw [wco _ _ _ _ (jcy (by omega))]; exact T1
 have X2 : (w3.setCell (ad (w.heap.size + 1 + 1) 2) (so g3 ls.length ls.length)).cell? (ad (w.heap.size + 1) 2) = some nS := by rw [wco _ _ _ _ (jcy (by omega))]; exact T2
 obtain ⟨r0, r1, r2⟩ := jnh (v0 := so g1 rs.length rs.length) (v1 := so g2 zs.length zs.length) (v2 := so g3 ls.length ls.length) X0 X1 X2
 have eh : Jj g1 w3 ((((w3.setCell (ad (w.heap.size + 1 + 1) 2) (so g3 ls.length ls.length)).setCell (ad (w.heap.size + 1) 0) (so g1 rs.length rs.length)).setCell (ad (w.heap.size + 1) 1) (so g2 zs.length zs.length)).setCell (ad (w.heap.size + 1) 2) (so g3 ls.length ls.length)) :=
  ((((Jj.refl g1 w3).set (by omega) _).set (by omega) _).set (by omega) _).set (by omega) _
 go_wp2
 refine bpr (v := .agg #[so g1 rs.length rs.length, so g2 zs.length zs.length, so g3 ls.length ls.length]) (by simp [results, Tryz.results30, go_sem, r0, r1, r2]) rfl ⟨_, rfl, ⟨g1, g2, g3, rfl, ⟨by omega, by omega, by omega⟩, ⟨Mr.from eh (nlr _), CY.from eh (nlr _)⟩, ⟨Mt.from eh (by omega), LE.from eh (by omega)⟩, ⟨q3.from eh (by omega), k3.from eh (by omega)⟩⟩, (((ay.setCell (show w.heap.size <= w.heap.size + 1 + 1 by omega) _).setCell (show w.heap.size <= w.heap.size + 1 by omega) _).setCell (show w.heap.size <= w.heap.size + 1 by omega) _).setCell (show w.heap.size <= w.heap.size + 1 by omega) _⟩
theorem jev (r : RelD) (v v2 : Value) (w : World) (hv : Zd w v r) (eu : Zd w v2 r) (hm : r.small) :
  Cl 36 #[v, v2] w fun e w' => e = .returned (.bool true) /\ Bw w w' := by
 obtain ⟨a, b, c, ca, cb, cc, rfl, hA, hB, hC⟩ := hv.form
 obtain ⟨a2, b2, c2, fN, nR, nT, rfl, cT, ao, nW⟩ := eu.form
 obtain ⟨m1, m2, m3, m4⟩ := hm
 obtain ⟨rs, zs, ls⟩ := r
 simp only at *
 have hR := fun w (h : Za w a 9 (rs.map RuleD.cs)) (h2 : Za w a2 9 (rs.map RuleD.cs)) => jn9 rs a a2 ca fN w h h2 m1
 have hZ := fun w (h : Zo w b zs) (h2 : Zo w b2 zs) => jn7 zs b b2 cb nR w h h2 m2 m4
 have hL := fun w (h : Za w c 2 (ls.map LinkD.cs)) (h2 : Za w c2 2 (ls.map LinkD.cs)) => joa ls c c2 cc nT w h h2 m3
 have aX : ∀ o o2, Bw w ((w.alloc o).alloc o2) := fun o o2 => (qal _ o).alloc (by simp) o2
 clear hv eu
 go_enter Tryz.func36, Tryz.ntmps36
 go_wp2_with fail
 refine (hR _ (hA.below (aX _ _)) (cT.below (aX _ _))).mono ?_
 rintro e w1 ⟨rfl, hb1⟩
 obtain ⟨aY, _⟩ := jaf hb1
 have aj := (aX _ _).trans (hb1.mono (by simp; omega))
 have aI : w.heap.size + 1 < w1.heap.size := by have := hb1.size; simp at this; omega
 have aH : w.heap.size < w1.heap.size := by omega
 go_wp2_with fail
 refine (hZ _ (hB.below aj) (ao.below aj)).mono ?_
 rintro e w2 ⟨rfl, ac⟩
 obtain ⟨cY, _⟩ := jaf ac
 have dS := qtr aj ac
 go_wp2_with fail
 refine (hL _ (hC.below dS) (nW.below dS)).mono ?_
 rintro e w3 ⟨rfl, av⟩
 go_wp2
 go_ret
 exact ⟨rfl, (qtr dS av)⟩
end
section
open Go.RowKit Go.Sort
structure EventD where
 id : Int
 name : ByteArray
 zone : ByteArray
 wall : Int
 gap : Int
 fold : Int
def EventD.cs (r : EventD) : List Value := [iv r.id, .string r.name, .string r.zone, iv r.wall, iv r.gap, iv r.fold]
def EventD.v (r : EventD) : Value := .agg #[iv r.id, .string r.name, .string r.zone, iv r.wall, iv r.gap, iv r.fold]
def EventD.sz (r : EventD) : Nat := r.name.size + r.zone.size
def EventD.ok (r : EventD) : Prop := r.name.size <= maxLen /\ r.zone.size <= maxLen
theorem jn6 (r : EventD) (n : Int) (w : World) (h0 : 0 <= n) (h1 : n <= 1048576) (hm : r.ok) :
  Cl 82 #[r.v, iv n] w fun e w' => e = .returned (iv (clip (n - r.sz))) /\ Bw w w' := by
 obtain ⟨id, name, zone, wall, gap, fold⟩ := r
 simp only [EventD.v, EventD.sz, EventD.ok] at *
 unfold maxLen at *
 by_cases g1 : n < name.size
 ·have HR : Hid (clip (n - ↑(name.size + zone.size)) = -1) := jal (by omega)
  go_enter Tryz.func82, Tryz.ntmps82
  go_wp2
  go_ret
  exact ⟨ret_int HR.out.symm, qal _ _⟩
 by_cases g2 : n < name.size + zone.size
 ·have HR : Hid (clip (n - ↑(name.size + zone.size)) = -1) := jal (by omega)
  go_enter Tryz.func82, Tryz.ntmps82
  go_wp2
  go_ret
  exact ⟨ret_int HR.out.symm, qal _ _⟩
 go_enter Tryz.func82, Tryz.ntmps82
 go_wp2
 go_ret
 exact ⟨ret_int (by rw [ja9 (by omega)]; try omega), qal _ _⟩
theorem jn0 (r : EventD) (w : World) :
  Cl 94 #[r.v] w fun e w' => e = .returned r.v /\ Bw w w' := by
 obtain ⟨id, name, zone, wall, gap, fold⟩ := r
 simp only [EventD.v] at *
 go_enter Tryz.func94, Tryz.ntmps94
 go_wp2
 exact bpr (v := .agg #[iv id, .string name, .string zone, iv wall, iv gap, iv fold]) (by simp [results, Tryz.results94, go_sem]) rfl ⟨rfl, ((qal _ _).alloc (by simp) _).alloc (by simp; omega) _⟩
theorem jgy (r : EventD) (w : World) :
  Cl 35 #[r.v, r.v] w fun e w' => e = .returned (.bool true) /\ Bw w w' := by
 obtain ⟨id, name, zone, wall, gap, fold⟩ := r
 simp only [EventD.v] at *
 go_enter Tryz.func35, Tryz.ntmps35
 go_wp2
 go_ret
 exact ⟨rfl, (qal _ _).alloc (by simp) _⟩
theorem jl7 (l : List EventD) (a a2 : Option Addr) (cap bP : Nat) (w : World) (hA : Za w a 6 (l.map EventD.cs)) (cT : Za w a2 6 (l.map EventD.cs)) (hl : l.length <= 1048576) :
  Cl 10 #[.slice a l.length cap, .slice a2 l.length bP] w fun e w' => e = .returned (.bool true) /\ Bw w w' := by
 go_enter Tryz.func10, Tryz.ntmps10
 go_wp2
 go_loopw [5] (fun i wr => ∃ k : Nat, k <= l.length /\ i = iv k /\ Bw w wr) (fun i _ => l.length - (intOf i).toNat)
 case atStart => exact ⟨0, by omega, rfl, brf _ _⟩
 case round =>
  obtain ⟨k, hk, rfl, hB⟩ := hrel
  by_cases hlt : k < l.length
  ·obtain ⟨r, hr⟩ := qgg hlt
   have ap : (l.map EventD.cs)[k]? = some r.cs := by rw [lgm, hr]; rfl
   obtain ⟨b, o, rfl, hc⟩ := (hA.below hB).at (i := k) ap
   obtain ⟨b2, o2, rfl, hd⟩ := (cT.below hB).at (i := k) ap
   have hS := fun w => jgy r w
   have c0 : wr.cell? (ad b (o + k * 6)) = some (iv r.id) := hc 0 _ rfl
   have d0 : wr.cell? (ad b2 (o2 + k * 6)) = some (iv r.id) := hd 0 _ rfl
   have c1 := hc 1 _ rfl
   have d1 := hd 1 _ rfl
   have c2 := hc 2 _ rfl
   have d2 := hd 2 _ rfl
   have c3 := hc 3 _ rfl
   have d3 := hd 3 _ rfl
   have c4 := hc 4 _ rfl
   have d4 := hd 4 _ rfl
   have c5 := hc 5 _ rfl
   have d5 := hd 5 _ rfl
   clear hc hd
   unfold EventD.v at hS
   have cE : ∀ dd os, Cl _ _ (grow (redrawn wr dd) os) fun e cr => e = .returned (.bool true) /\ ∃ p : Regrown, cr = grow (redrawn wr p.d) p.os := fun _ _ => Calls.regrown_of (hS _)
   have oR := cell_regrown c0
   have sY := cell_regrown d0
   have lM := cell_regrown c1
   have sZ := cell_regrown d1
   have vS := cell_regrown c2
   have D2 := cell_regrown d2
   have CZ := cell_regrown c3
   have D3 := cell_regrown d3
   have D0 := cell_regrown c4
   have D4 := cell_regrown d4
   have D1 := cell_regrown c5
   have D5 := cell_regrown d5
   go_wp2_with fail
   refine wp_region_quiet_below (by kernel_rfl) (by kernel_rfl) ?_
   repeat (quiet_step ((go_at_call 35; exact cE _ _)))
   refine wpQuiet_nil ?_
   intro _ bL
   obtain ⟨⟨dq, aQ⟩, aP⟩ := bL
   subst aP
   have ac := below_regrown wr dq aQ
   go_wp2
   go_roundw
   case rel => exact ⟨k + 1, by omega, by go_num, (qtr hB ac)⟩
   case measure => simp [intOf]; omega
  ·have e : k = l.length := by omega
   subst e
   go_wp2
   go_ret
   exact ⟨rfl, hB⟩
end
section
open Go.RowKit Go.Sort
structure VersionD where
 tx : Int
 gone : Bool
 id : Int
 name : ByteArray
 zone : ByteArray
 wall : Int
 gap : Int
 fold : Int
def VersionD.cs (r : VersionD) : List Value := [iv r.tx, .bool r.gone, iv r.id, .string r.name, .string r.zone, iv r.wall, iv r.gap, iv r.fold]
def VersionD.v (r : VersionD) : Value := .agg #[iv r.tx, .bool r.gone, iv r.id, .string r.name, .string r.zone, iv r.wall, iv r.gap, iv r.fold]
def VersionD.sz (r : VersionD) : Nat := r.name.size + r.zone.size
def VersionD.ok (r : VersionD) : Prop := r.name.size <= maxLen /\ r.zone.size <= maxLen
theorem jj3 (r : VersionD) (n : Int) (w : World) (h0 : 0 <= n) (h1 : n <= 1048576) (hm : r.ok) :
  Cl 48 #[r.v, iv n] w fun e w' => e = .returned (iv (clip (n - r.sz))) /\ Bw w w' := by
 obtain ⟨tx, gone, id, name, zone, wall, gap, fold⟩ := r
 have hE := fun w => jn6 ⟨id, name, zone, wall, gap, fold⟩ n w h0 h1 hm
 simp only [VersionD.v, VersionD.sz, EventD.v, EventD.sz] at *
 by_cases g : n - ((name.size + zone.size : Nat) : Int) < 0
 ·rw [jal g] at hE ⊢
  go_enter Tryz.func48, Tryz.ntmps48
  go_wp2_with fail
  refine (hE _).mono ?_
  rintro e w1 ⟨rfl, hb⟩
  go_wp2
  go_ret
  exact ⟨rfl, (qal _ _).trans (hb.mono (by simp))⟩
 ·rw [ja9 (by omega)] at hE ⊢
  generalize n - ((name.size + zone.size : Nat) : Int) = m at *
  go_enter Tryz.func48, Tryz.ntmps48
  go_wp2_with fail
  refine (hE _).mono ?_
  rintro e w1 ⟨rfl, hb⟩
  go_wp2
  go_ret
  exact ⟨rfl, (qal _ _).trans (hb.mono (by simp))⟩
def vsz (l : List VersionD) : Nat := (l.map VersionD.sz).sum
theorem jye {l : List VersionD} {k : Nat} {r : VersionD} (h : l[k]? = some r) : vsz (l.take (k + 1)) = vsz (l.take k) + r.sz := by
 unfold vsz
 rw [List.take_add_one, h]
 simp
theorem j22 (l : List VersionD) (k : Nat) : vsz (l.take k) <= vsz l := by
 have := congrArg (fun l => (l.map VersionD.sz).sum) (List.take_append_drop k l)
 simp only [lma, List.sum_append] at this
 unfold vsz
 omega
theorem jiu (l : List VersionD) (a : Option Addr) (cap : Nat) (n : Int) (w : World) (hA : Za w a 8 (l.map VersionD.cs)) (de : ∀ r ∈ l, r.ok) (hl : l.length <= maxLen) (h0 : 0 <= n) (h1 : n <= 1048576) :
  Cl 26 #[.slice a l.length cap, iv n] w fun e w' => e = .returned (iv (clip (n - (l.length + vsz l)))) /\ Bw w w' := by
 unfold maxLen at hl
 by_cases g0 : n < l.length
 ·have HR : Hid (clip (n - (l.length + vsz l)) = -1) := jal (by omega)
  go_enter Tryz.func26, Tryz.ntmps26
  go_wp2
  go_ret
  exact ⟨ret_int HR.out.symm, brf _ _⟩
 go_enter Tryz.func26, Tryz.ntmps26
 go_wp2
 go_loopw [1, 5] (fun x i wr => ∃ k : Nat, k <= l.length /\ i = iv k /\ x = iv (n - l.length - vsz (l.take k)) /\ Hid (0 <= n - l.length - vsz (l.take k)) /\ Bw w wr) (fun _ i _ => l.length - (intOf i).toNat)
 case atStart => exact ⟨0, by omega, rfl, by simp [vsz], by simp [vsz, Hid]; omega, brf _ _⟩
 case round =>
  obtain ⟨k, hk, rfl, rfl, hp, hB⟩ := hrel
  by_cases hlt : k < l.length
  ·obtain ⟨r, hr⟩ := qgg hlt
   obtain ⟨b, o, rfl, hc⟩ := (hA.below hB).at (i := k) (r := r.cs) (by rw [lgm, hr]; rfl)
   have ok := de r (lmg hr)
   have lI := hp.out
   have ht := jye hr
   have bS := j22 l (k + 1)
   have hS := fun w => jj3 r (n - l.length - vsz (l.take k)) w (by omega) (by omega) ok
   have c0 : wr.cell? (ad b (o + k * 8)) = some (iv r.tx) := hc 0 _ rfl
   have c1 := hc 1 _ rfl
   have c2 := hc 2 _ rfl
   have c3 := hc 3 _ rfl
   have c4 := hc 4 _ rfl
   have c5 := hc 5 _ rfl
   have c6 := hc 6 _ rfl
   have c7 := hc 7 _ rfl
   clear hc
   unfold VersionD.v at hS
   by_cases g : n - l.length - vsz (l.take k) - r.sz < 0
   ·have HR : Hid (clip (n - (l.length + vsz l)) = -1) := jal (by omega)
    rw [jal g] at hS
    go_wp2_with fail
    refine (hS _).mono ?_
    rintro e w2 ⟨rfl, ac⟩
    go_wp2
    go_ret
    exact ⟨ret_int HR.out.symm, (qtr hB ac)⟩
   ·rw [ja9 (by omega)] at hS
    have HN : Hid (n - l.length - vsz (l.take k) - r.sz = n - l.length - vsz (l.take (k + 1))) := by simp only [Hid]; omega
    go_wp2_with fail
    refine (hS _).mono ?_
    rintro e w2 ⟨rfl, ac⟩
    go_wp2
    go_roundw
    case rel => exact ⟨k + 1, by omega, by go_num, by rw [HN.out], by have := HN.out; simp only [Hid]; omega, (qtr hB ac)⟩
    case measure => simp [intOf]; omega
  ·have e : k = l.length := by omega
   subst e
   have HR : Hid (clip (n - (l.length + vsz l)) = n - l.length - vsz (l.take l.length)) := by
    have := hp.out
    simp only [Hid]
    rw [List.take_length] at this ⊢
    rw [ja9 (by omega)]; omega
   go_wp2
   go_ret
   exact ⟨ret_int HR.out.symm, hB⟩
theorem jj2 (r : VersionD) (w : World) :
  Cl 58 #[r.v] w fun e w' => e = .returned r.v /\ Bw w w' := by
 obtain ⟨tx, gone, id, name, zone, wall, gap, fold⟩ := r
 have hE := fun w => jn0 ⟨id, name, zone, wall, gap, fold⟩ w
 simp only [VersionD.v, EventD.v] at *
 go_enter Tryz.func58, Tryz.ntmps58
 go_wp2_with fail
 refine (hE _).mono ?_
 rintro e w1 ⟨rfl, hb⟩
 obtain ⟨hc, hf⟩ := jaf hb
 have hz := hb.size
 simp at hz
 go_wp2
 have B1 : Bw w w1 := (((qal w _).alloc (by simp) _).alloc (by simp; omega) _).trans (hb.mono (by simp; omega))
 exact bpr (v := .agg #[iv tx, .bool gone, iv id, .string name, .string zone, iv wall, iv gap, iv fold]) (by simp [results, Tryz.results58, go_sem, hc]) rfl ⟨rfl, ((((((((((((((B1.setCell (by simp <;> omega) _).setCell (by simp <;> omega) _).setCell (by simp <;> omega) _).setCell (by simp <;> omega) _).setCell (by simp <;> omega) _).setCell (by simp <;> omega) _).setCell (by simp <;> omega) _).setCell (by simp <;> omega) _).setCell (by simp <;> omega) _).setCell (by simp <;> omega) _).setCell (by simp <;> omega) _).setCell (by simp <;> omega) _).setCell (by simp <;> omega) _).setCell (by simp <;> omega) _)⟩
theorem ji1 : ∃ i : TypeInfo, Tryz.prog.info? 87 = some i /\ i.zero = some (.agg #[iv 0, .bool false, iv 0, .string ⟨#[]⟩, .string ⟨#[]⟩, iv 0, iv 0, iv 0]) /\ i.size = 8 /\ i.bytes = 80 := ⟨_, rfl, rfl, rfl, rfl⟩
theorem jit (l : List VersionD) (a : Option Addr) (cap : Nat) (w : World) (hA : Za w a 8 (l.map VersionD.cs)) (hl : l.length <= 1048576) :
  Cl 31 #[.slice a l.length cap] w fun e w' => e = .returned (.slice (some (ad w.heap.size 0)) l.length l.length) /\ Za w' (some (ad w.heap.size 0)) 8 (l.map VersionD.cs) /\ Zf w' w.heap.size (l.length * 8) /\ Bw w w' := by
 obtain ⟨i0, hi, aH, aI, aG⟩ := ji1
 obtain ⟨w1, dp, ai, du⟩ := run_make_full (P := Tryz.prog) w w.heap.size 39 87 i0 _ 8 Tryz.underlying39 hi aH aI .i64 .i64 l.length (by rw [aG]; omega) (by unfold maxLen; omega) (nlr _)
 have hR := jd3 ai
 have hB : Bw w w1 := (brf _ _).grown du (nlr _) (fun k hk => by cases hk)
 have fo : (l.map VersionD.cs).length = l.length := by simp
 have au : ∀ r ∈ l.map VersionD.cs, r.length = 8 := fun r hr => by
  obtain ⟨x, _, rfl⟩ := List.mem_map.mp hr; rfl
 clear hi aH aI aG ai du
 go_enter Tryz.func31, Tryz.ntmps31
 go_wp2
 go_loopw [4] (fun i wr => ∃ k : Nat, k <= l.length /\ i = iv k /\ Zf wr w.heap.size (l.length * 8) /\ Zc wr w.heap.size 8 k (l.map VersionD.cs) /\ Bw w wr) (fun i _ => l.length - (intOf i).toNat)
 case atStart => exact ⟨0, by omega, rfl, hR, fun i j r c h => by omega, hB⟩
 case round =>
  clear hR hB dp
  obtain ⟨k, hk, rfl, hR, hF, hB⟩ := hrel
  by_cases hlt : k < l.length
  ·obtain ⟨r, hr⟩ := qgg hlt
   have ap : (l.map VersionD.cs)[k]? = some r.cs := by rw [lgm, hr]; rfl
   obtain ⟨b, o, rfl, hc⟩ := (hA.below hB).at (i := k) ap
   have hS := fun w => jj2 r w
   have c0 : wr.cell? (ad b (o + k * 8)) = some (iv r.tx) := hc 0 _ rfl
   have c1 := hc 1 _ rfl
   have c2 := hc 2 _ rfl
   have c3 := hc 3 _ rfl
   have c4 := hc 4 _ rfl
   have c5 := hc 5 _ rfl
   have c6 := hc 6 _ rfl
   have c7 := hc 7 _ rfl
   clear hc
   unfold VersionD.v at hS
   go_wp2_with fail
   refine (hS _).mono ?_
   rintro e w2 ⟨rfl, ac⟩
   have aN := hR.below ac
   have bY := hF.below ac
   have ao := qtr hB ac
   have jv : k * 8 + 8 <= l.length * 8 := by omega
   obtain ⟨⟨u0, iu⟩, gn⟩ := aN (k * 8) (by omega)
   obtain ⟨⟨u1, kS⟩, cZ⟩ := aN (k * 8 + 1) (by omega)
   obtain ⟨⟨u2, sQ⟩, ep⟩ := aN (k * 8 + 2) (by omega)
   obtain ⟨⟨u3, sR⟩, gp⟩ := aN (k * 8 + 3) (by omega)
   obtain ⟨⟨u4, sS⟩, mC⟩ := aN (k * 8 + 4) (by omega)
   obtain ⟨⟨u5, sT⟩, sF⟩ := aN (k * 8 + 5) (by omega)
   obtain ⟨⟨u6, CJ⟩, C1⟩ := aN (k * 8 + 6) (by omega)
   obtain ⟨⟨u7, CK⟩, C4⟩ := aN (k * 8 + 7) (by omega)
   have hW : jbl w2 w.heap.size (k * 8) r.cs = ((((((((w2.setCell (ad w.heap.size (k * 8)) (iv r.tx)).setCell (ad w.heap.size (k * 8 + 1)) (.bool r.gone)).setCell (ad w.heap.size (k * 8 + 2)) (iv r.id)).setCell (ad w.heap.size (k * 8 + 3)) (.string r.name)).setCell (ad w.heap.size (k * 8 + 4)) (.string r.zone)).setCell (ad w.heap.size (k * 8 + 5)) (iv r.wall)).setCell (ad w.heap.size (k * 8 + 6)) (iv r.gap)).setCell (ad w.heap.size (k * 8 + 7)) (iv r.fold)) := by simp only [jbl, VersionD.cs, Nat.add_assoc, Nat.reduceAdd]
   have R3 := jcb (cs := r.cs) (o := k * 8) aN
   have F3 := bY.put aN ap rfl jv au
   have B3 := jb4 (cs := r.cs) (o := k * 8) ao (nlr _)
   rw [hW] at R3 F3 B3
   clear hW aN bY ao
   go_wp2
   go_roundw
   case rel => exact ⟨k + 1, by omega, by go_num, R3, F3, B3⟩
   case measure => simp [intOf]; omega
  ·have e : k = l.length := by omega
   subst e
   go_wp2
   go_ret
   exact ⟨rfl, Zc.seq (by rw [fo]; exact hF), hR, hB⟩
theorem jj8 (r : VersionD) (w : World) :
  Cl 44 #[r.v, r.v] w fun e w' => e = .returned (.bool true) /\ Bw w w' := by
 obtain ⟨tx, gone, id, name, zone, wall, gap, fold⟩ := r
 have hE := fun w => jgy ⟨id, name, zone, wall, gap, fold⟩ w
 simp only [VersionD.v, EventD.v] at *
 go_enter Tryz.func44, Tryz.ntmps44
 go_wp2_with fail
 refine (hE _).mono ?_
 rintro e w1 ⟨rfl, hb⟩
 go_wp2
 go_ret
 exact ⟨rfl, ((qal _ _).alloc (by simp) _).trans (hb.mono (by simp; omega))⟩
theorem jiz (l : List VersionD) (a a2 : Option Addr) (cap bP : Nat) (w : World) (hA : Za w a 8 (l.map VersionD.cs)) (cT : Za w a2 8 (l.map VersionD.cs)) (hl : l.length <= 1048576) :
  Cl 22 #[.slice a l.length cap, .slice a2 l.length bP] w fun e w' => e = .returned (.bool true) /\ Bw w w' := by
 go_enter Tryz.func22, Tryz.ntmps22
 go_wp2
 go_loopw [5] (fun i wr => ∃ k : Nat, k <= l.length /\ i = iv k /\ Bw w wr) (fun i _ => l.length - (intOf i).toNat)
 case atStart => exact ⟨0, by omega, rfl, brf _ _⟩
 case round =>
  obtain ⟨k, hk, rfl, hB⟩ := hrel
  by_cases hlt : k < l.length
  ·obtain ⟨r, hr⟩ := qgg hlt
   have ap : (l.map VersionD.cs)[k]? = some r.cs := by rw [lgm, hr]; rfl
   obtain ⟨b, o, rfl, hc⟩ := (hA.below hB).at (i := k) ap
   obtain ⟨b2, o2, rfl, hd⟩ := (cT.below hB).at (i := k) ap
   have hS := fun w => jj8 r w
   have c0 : wr.cell? (ad b (o + k * 8)) = some (iv r.tx) := hc 0 _ rfl
   have d0 : wr.cell? (ad b2 (o2 + k * 8)) = some (iv r.tx) := hd 0 _ rfl
   have c1 := hc 1 _ rfl
   have d1 := hd 1 _ rfl
   have c2 := hc 2 _ rfl
   have d2 := hd 2 _ rfl
   have c3 := hc 3 _ rfl
   have d3 := hd 3 _ rfl
   have c4 := hc 4 _ rfl
   have d4 := hd 4 _ rfl
   have c5 := hc 5 _ rfl
   have d5 := hd 5 _ rfl
   have c6 := hc 6 _ rfl
   have d6 := hd 6 _ rfl
   have c7 := hc 7 _ rfl
   have d7 := hd 7 _ rfl
   clear hc hd
   unfold VersionD.v at hS
   have cE : ∀ dd os, Cl _ _ (grow (redrawn wr dd) os) fun e cr => e = .returned (.bool true) /\ ∃ p : Regrown, cr = grow (redrawn wr p.d) p.os := fun _ _ => Calls.regrown_of (hS _)
   have oR := cell_regrown c0
   have sY := cell_regrown d0
   have lM := cell_regrown c1
   have sZ := cell_regrown d1
   have vS := cell_regrown c2
   have D2 := cell_regrown d2
   have CZ := cell_regrown c3
   have D3 := cell_regrown d3
   have D0 := cell_regrown c4
   have D4 := cell_regrown d4
   have D1 := cell_regrown c5
   have D5 := cell_regrown d5
   have LF := cell_regrown c6
   have LH := cell_regrown d6
   have LG := cell_regrown c7
   have LI := cell_regrown d7
   go_wp2_with fail
   refine wp_region_quiet_below (by kernel_rfl) (by kernel_rfl) ?_
   repeat (quiet_step ((go_at_call 44; exact cE _ _)))
   refine wpQuiet_nil ?_
   intro _ bL
   obtain ⟨⟨dq, aQ⟩, aP⟩ := bL
   subst aP
   have ac := below_regrown wr dq aQ
   go_wp2
   go_roundw
   case rel => exact ⟨k + 1, by omega, by go_num, (qtr hB ac)⟩
   case measure => simp [intOf]; omega
  ·have e : k = l.length := by omega
   subst e
   go_wp2
   go_ret
   exact ⟨rfl, hB⟩
end
section
open Go.RowKit Go.Sort
structure EntryD where
 at_ : Int
 id : Int
def EntryD.cs (r : EntryD) : List Value := [iv r.at_, iv r.id]
def EntryD.v (r : EntryD) : Value := .agg #[iv r.at_, iv r.id]
theorem jn1 (r : EntryD) (w : World) :
  Cl 59 #[r.v] w fun e w' => e = .returned r.v /\ Bw w w' := by
 obtain ⟨at_, id⟩ := r
 simp only [EntryD.v] at *
 go_enter Tryz.func59, Tryz.ntmps59
 go_wp2
 exact bpr (v := .agg #[iv at_, iv id]) (by simp [results, Tryz.results59, go_sem]) rfl ⟨rfl, ((qal _ _).alloc (by simp) _).alloc (by simp; omega) _⟩
theorem jfq : ∃ i : TypeInfo, Tryz.prog.info? 101 = some i /\ i.zero = some (.agg #[iv 0, iv 0]) /\ i.size = 2 /\ i.bytes = 16 := ⟨_, rfl, rfl, rfl, rfl⟩
theorem jl4 (l : List EntryD) (a : Option Addr) (cap : Nat) (w : World) (hA : Za w a 2 (l.map EntryD.cs)) (hl : l.length <= 1048576) :
  Cl 32 #[.slice a l.length cap] w fun e w' => e = .returned (.slice (some (ad w.heap.size 0)) l.length l.length) /\ Za w' (some (ad w.heap.size 0)) 2 (l.map EntryD.cs) /\ Zf w' w.heap.size (l.length * 2) /\ Bw w w' := by
 obtain ⟨i0, hi, aH, aI, aG⟩ := jfq
 obtain ⟨w1, dp, ai, du⟩ := run_make_full (P := Tryz.prog) w w.heap.size 40 101 i0 _ 2 Tryz.underlying40 hi aH aI .i64 .i64 l.length (by rw [aG]; omega) (by unfold maxLen; omega) (nlr _)
 have hR := jd3 ai
 have hB : Bw w w1 := (brf _ _).grown du (nlr _) (fun k hk => by cases hk)
 have fo : (l.map EntryD.cs).length = l.length := by simp
 have au : ∀ r ∈ l.map EntryD.cs, r.length = 2 := fun r hr => by
  obtain ⟨x, _, rfl⟩ := List.mem_map.mp hr; rfl
 clear hi aH aI aG ai du
 go_enter Tryz.func32, Tryz.ntmps32
 go_wp2
 go_loopw [4] (fun i wr => ∃ k : Nat, k <= l.length /\ i = iv k /\ Zf wr w.heap.size (l.length * 2) /\ Zc wr w.heap.size 2 k (l.map EntryD.cs) /\ Bw w wr) (fun i _ => l.length - (intOf i).toNat)
 case atStart => exact ⟨0, by omega, rfl, hR, fun i j r c h => by omega, hB⟩
 case round =>
  clear hR hB dp
  obtain ⟨k, hk, rfl, hR, hF, hB⟩ := hrel
  by_cases hlt : k < l.length
  ·obtain ⟨r, hr⟩ := qgg hlt
   have ap : (l.map EntryD.cs)[k]? = some r.cs := by rw [lgm, hr]; rfl
   obtain ⟨b, o, rfl, hc⟩ := (hA.below hB).at (i := k) ap
   have hS := fun w => jn1 r w
   have c0 : wr.cell? (ad b (o + k * 2)) = some (iv r.at_) := hc 0 _ rfl
   have c1 := hc 1 _ rfl
   clear hc
   unfold EntryD.v at hS
   go_wp2_with fail
   refine (hS _).mono ?_
   rintro e w2 ⟨rfl, ac⟩
   have aN := hR.below ac
   have bY := hF.below ac
   have ao := qtr hB ac
   have jv : k * 2 + 2 <= l.length * 2 := by omega
   obtain ⟨⟨u0, iu⟩, gn⟩ := aN (k * 2) (by omega)
   obtain ⟨⟨u1, kS⟩, cZ⟩ := aN (k * 2 + 1) (by omega)
   have hW : jbl w2 w.heap.size (k * 2) r.cs = ((w2.setCell (ad w.heap.size (k * 2)) (iv r.at_)).setCell (ad w.heap.size (k * 2 + 1)) (iv r.id)) := by simp only [jbl, EntryD.cs]
   have R3 := jcb (cs := r.cs) (o := k * 2) aN
   have F3 := bY.put aN ap rfl jv au
   have B3 := jb4 (cs := r.cs) (o := k * 2) ao (nlr _)
   rw [hW] at R3 F3 B3
   clear hW aN bY ao
   go_wp2
   go_roundw
   case rel => exact ⟨k + 1, by omega, by go_num, R3, F3, B3⟩
   case measure => simp [intOf]; omega
  ·have e : k = l.length := by omega
   subst e
   go_wp2
   go_ret
   exact ⟨rfl, Zc.seq (by rw [fo]; exact hF), hR, hB⟩
theorem job (r : EntryD) (w : World) :
  Cl 75 #[r.v, r.v] w fun e w' => e = .returned (.bool true) /\ Bw w w' := by
 obtain ⟨at_, id⟩ := r
 simp only [EntryD.v] at *
 go_enter Tryz.func75, Tryz.ntmps75
 go_wp2
 go_ret
 exact ⟨rfl, (qal _ _).alloc (by simp) _⟩
theorem jl8 (l : List EntryD) (a a2 : Option Addr) (cap bP : Nat) (w : World) (hA : Za w a 2 (l.map EntryD.cs)) (cT : Za w a2 2 (l.map EntryD.cs)) (hl : l.length <= 1048576) :
  Cl 37 #[.slice a l.length cap, .slice a2 l.length bP] w fun e w' => e = .returned (.bool true) /\ Bw w w' := by
 go_enter Tryz.func37, Tryz.ntmps37
 go_wp2
 go_loopw [5] (fun i wr => ∃ k : Nat, k <= l.length /\ i = iv k /\ Bw w wr) (fun i _ => l.length - (intOf i).toNat)
 case atStart => exact ⟨0, by omega, rfl, brf _ _⟩
 case round =>
  obtain ⟨k, hk, rfl, hB⟩ := hrel
  by_cases hlt : k < l.length
  ·obtain ⟨r, hr⟩ := qgg hlt
   have ap : (l.map EntryD.cs)[k]? = some r.cs := by rw [lgm, hr]; rfl
   obtain ⟨b, o, rfl, hc⟩ := (hA.below hB).at (i := k) ap
   obtain ⟨b2, o2, rfl, hd⟩ := (cT.below hB).at (i := k) ap
   have hS := fun w => job r w
   have c0 : wr.cell? (ad b (o + k * 2)) = some (iv r.at_) := hc 0 _ rfl
   have d0 : wr.cell? (ad b2 (o2 + k * 2)) = some (iv r.at_) := hd 0 _ rfl
   have c1 := hc 1 _ rfl
   have d1 := hd 1 _ rfl
   clear hc hd
   unfold EntryD.v at hS
   have cE : ∀ dd os, Cl _ _ (grow (redrawn wr dd) os) fun e cr => e = .returned (.bool true) /\ ∃ p : Regrown, cr = grow (redrawn wr p.d) p.os := fun _ _ => Calls.regrown_of (hS _)
   have oR := cell_regrown c0
   have sY := cell_regrown d0
   have lM := cell_regrown c1
   have sZ := cell_regrown d1
   go_wp2_with fail
   refine wp_region_quiet_below (by kernel_rfl) (by kernel_rfl) ?_
   repeat (quiet_step ((go_at_call 75; exact cE _ _)))
   refine wpQuiet_nil ?_
   intro _ bL
   obtain ⟨⟨dq, aQ⟩, aP⟩ := bL
   subst aP
   have ac := below_regrown wr dq aQ
   go_wp2
   go_roundw
   case rel => exact ⟨k + 1, by omega, by go_num, (qtr hB ac)⟩
   case measure => simp [intOf]; omega
  ·have e : k = l.length := by omega
   subst e
   go_wp2
   go_ret
   exact ⟨rfl, hB⟩
end
section
open Go.RowKit Go.Sort
structure TurnD where
 at_ : Int
 offset : Int
 save : Int
 abbr : ByteArray
def TurnD.cs (r : TurnD) : List Value := [iv r.at_, iv r.offset, iv r.save, .string r.abbr]
def TurnD.v (r : TurnD) : Value := .agg #[iv r.at_, iv r.offset, iv r.save, .string r.abbr]
def TurnD.ok (r : TurnD) : Prop := r.abbr.size <= maxLen
end
section
open Go.RowKit Go.Sort
structure HapD where
 at_ : Int
 save : Int
 letter : ByteArray
def HapD.cs (r : HapD) : List Value := [iv r.at_, iv r.save, .string r.letter]
def HapD.v (r : HapD) : Value := .agg #[iv r.at_, iv r.save, .string r.letter]
def HapD.sz (r : HapD) : Nat := r.letter.size
def hsz (l : List HapD) : Nat := (l.map HapD.sz).sum
end
end Go.Proofs.YtgiieknbckhofaaGreatDoor
