/- Packed. -/
import Derived.Test.YtpejeokacilebaaGreatDoorRelPs
import Derived.BigQuiet
import Derived.Test.YtpejeokacilebaaGreatDoorOwn1s
import Derived.OwnWalk
import Derived.Deep.RegionHeld3
set_option maxRecDepth 100000
set_option maxHeartbeats 20000000
set_option linter.unusedSimpArgs false
namespace Go.Proofs.YtpejeokacilebaaGreatDoor
section
open Go.RowKit
def VersionD.ev (v : VersionD) : EventD := ⟨v.id, v.name, v.zone, v.wall, v.gap, v.fold⟩
def lastK (l : List VersionD) (id : Int) : Nat -> Option Nat
 | 0 => none
 | k + 1 => match l[k]? with
  | some v => if v.id = id then some k else lastK l id k
  | none => lastK l id k
def jcd (l : List VersionD) (id : Int) : Option Nat := lastK l id l.length
def numI (o : Option Nat) : Int := match o with
 | some i => i
 | none => -1
theorem lastK_hit {l : List VersionD} {id : Int} {k : Nat} {v : VersionD} (h : l[k]? = some v) (hv : v.id = id) : lastK l id (k + 1) = some k := by rw [lastK, h]; simp only; rw [if_pos hv]
theorem lastK_miss {l : List VersionD} {id : Int} {k : Nat} {v : VersionD} (h : l[k]? = some v) (hv : v.id ≠ id) : lastK l id (k + 1) = lastK l id k := by rw [lastK, h]; simp only; rw [if_neg hv]
theorem jc8 {l : List VersionD} {id : Int} : ∀ {k j : Nat}, lastK l id k = some j -> j < k /\ (∃ v, l[j]? = some v /\ v.id = id) /\ ∀ i v, j < i -> i < k -> l[i]? = some v -> v.id ≠ id := by
 intro k
 induction k with
 | zero => intro j h; cases h
 | succ k ih =>
  intro j h
  cases hk : l[k]? with
  | none =>
   rw [lastK, hk] at h
   obtain ⟨a, b, c⟩ := ih h
   exact ⟨by omega, b, fun i v h1 h2 h3 => by
    by_cases e : i = k
    ·subst e; rw [hk] at h3; cases h3
    ·exact c i v h1 (by omega) h3⟩
  | some v =>
   by_cases hv : v.id = id
   ·rw [lastK_hit hk hv] at h
    obtain rfl := Option.some.inj h
    exact ⟨by omega, ⟨v, hk, hv⟩, fun i x h1 h2 => by omega⟩
   ·rw [lastK_miss hk hv] at h
    obtain ⟨a, b, c⟩ := ih h
    exact ⟨by omega, b, fun i x h1 h2 h3 => by
     by_cases e : i = k
     ·subst e; rw [hk] at h3; obtain rfl := Option.some.inj h3; exact hv
     ·exact c i x h1 (by omega) h3⟩
theorem lastK_none {l : List VersionD} {id : Int} : ∀ {k : Nat}, lastK l id k = none -> ∀ i v, i < k -> l[i]? = some v -> v.id ≠ id := by
 intro k
 induction k with
 | zero => intro _ i v h; omega
 | succ k ih =>
  intro h i v hi hv
  cases hk : l[k]? with
  | none =>
   rw [lastK, hk] at h
   by_cases e : i = k
   ·subst e; rw [hk] at hv; cases hv
   ·exact ih h i v (by omega) hv
  | some x =>
   by_cases hx : x.id = id
   ·rw [lastK_hit hk hx] at h; cases h
   ·rw [lastK_miss hk hx] at h
    by_cases e : i = k
    ·subst e; rw [hk] at hv; obtain rfl := Option.some.inj hv; exact hx
    ·exact ih h i v (by omega) hv
def jcw (l : List VersionD) (id : Int) : Option EventD := match jcd l id with
 | some k => (match l[k]? with
  | some v => if v.gone = true then none else some v.ev
  | none => none)
 | none => none
theorem lastN_snoc (l : List VersionD) (v : VersionD) (id : Int) : jcd (l ++ [v]) id = if v.id = id then some l.length else jcd l id := by
 have hp : ∀ k, k <= l.length -> lastK (l ++ [v]) id k = lastK l id k := by
  intro k
  induction k with
  | zero => intro _; rfl
  | succ k ih =>
   intro hk
   rw [lastK, lastK, List.getElem?_append_left (by omega), ih (by omega)]
 unfold jcd
 rw [List.length_append, List.length_singleton, lastK]
 rw [List.getElem?_append_right (Nat.le_refl _)]
 simp only [Nat.sub_self, List.getElem?_cons_zero]
 rw [hp _ (Nat.le_refl _)]
theorem liveF_snoc (l : List VersionD) (v : VersionD) (id : Int) : jcw (l ++ [v]) id = if v.id = id then (if v.gone = true then none else some v.ev) else jcw l id := by
 unfold jcw
 rw [lastN_snoc]
 by_cases h : v.id = id
 ·rw [if_pos h, if_pos h]
  simp only [List.getElem?_append_right (Nat.le_refl _), Nat.sub_self, List.getElem?_cons_zero]
 ·rw [if_neg h, if_neg h]
  cases hk : jcd l id with
  | none => rfl
  | some k =>
   have hl := (jc8 hk).1
   simp only
   rw [List.getElem?_append_left hl]
def insE : List EventD -> EventD -> List EventD
 | [], e => [e]
 | x :: l, e => if x.id < e.id then x :: insE l e else e :: x :: l
theorem insE_mem {l : List EventD} {e x : EventD} : x ∈ insE l e ↔ x = e \/ x ∈ l := by
 induction l with
 | nil => simp [insE]
 | cons a l ih =>
  rw [insE]
  split
  ·simp only [List.mem_cons, ih]
   constructor
   ·rintro (h | h | h)
    ·exact .inr (.inl h)
    ·exact .inl h
    ·exact .inr (.inr h)
   ·rintro (h | h | h)
    ·exact .inr (.inl h)
    ·exact .inl h
    ·exact .inr (.inr h)
  ·simp only [List.mem_cons]
theorem insE_up {l : List EventD} {e : EventD} (h : l.Pairwise fun x y => x.id < y.id) (hn : ∀ x ∈ l, x.id ≠ e.id) : (insE l e).Pairwise fun x y => x.id < y.id := by
 induction l with
 | nil => simp [insE]
 | cons a l ih =>
  have h' := List.pairwise_cons.mp h
  rw [insE]
  split
  ·rename_i ha
   refine List.pairwise_cons.mpr ⟨fun x hx => ?_, ih h'.2 fun x hx => hn x (List.mem_cons_of_mem _ hx)⟩
   rcases insE_mem.mp hx with rfl | hx
   ·exact ha
   ·exact h'.1 x hx
  ·rename_i ha
   have hae : e.id < a.id := by have := hn a (by simp); omega
   refine List.pairwise_cons.mpr ⟨fun x hx => ?_, h⟩
   rcases List.mem_cons.mp hx with rfl | hx
   ·exact hae
   ·have := h'.1 x hx; omega
def aheadE (l : List EventD) (id : Int) : Nat := (l.takeWhile fun x => decide (x.id < id)).length
theorem insE_at (l : List EventD) (e : EventD) : insE l e = l.take (aheadE l e.id) ++ [e] ++ l.drop (aheadE l e.id) := by
 induction l with
 | nil => rfl
 | cons a l ih =>
  unfold aheadE at *
  rw [insE]
  by_cases h : a.id < e.id
  ·rw [if_pos h, ih]
   simp [h]
  ·rw [if_neg h]
   simp [h]
def jck (l : List VersionD) : Nat -> List EventD
 | 0 => []
 | k + 1 => match l[k]? with
  | some v => if jcd l v.id = some k /\ v.gone = false then insE (jck l k) v.ev else jck l k
  | none => jck l k
def jba (l : List VersionD) : List EventD := jck l l.length
theorem liveK_mem {l : List VersionD} {e : EventD} : ∀ {k : Nat}, e ∈ jck l k ↔ ∃ j v, j < k /\ l[j]? = some v /\ jcd l v.id = some j /\ v.gone = false /\ v.ev = e := by
 intro k
 induction k with
 | zero => simp [jck]
 | succ k ih =>
  have hup : (∃ j v, j < k /\ l[j]? = some v /\ jcd l v.id = some j /\ v.gone = false /\ v.ev = e) -> ∃ j v, j < k + 1 /\ l[j]? = some v /\ jcd l v.id = some j /\ v.gone = false /\ v.ev = e := fun ⟨j, v, h1, h2⟩ => ⟨j, v, by omega, h2⟩
  rw [jck]
  cases hk : l[k]? with
  | none =>
   simp only
   rw [ih]
   refine ⟨hup, fun ⟨j, v, h1, h2, h3⟩ => ⟨j, v, ?_, h2, h3⟩⟩
   by_cases e1 : j = k
   ·subst e1; rw [hk] at h2; cases h2
   ·omega
  | some v =>
   simp only
   split
   ·rename_i hc
    rw [insE_mem, ih]
    constructor
    ·rintro (rfl | h)
     ·exact ⟨k, v, by omega, hk, hc.1, hc.2, rfl⟩
     ·exact hup h
    ·rintro ⟨j, x, h1, h2, h3, h4, h5⟩
     by_cases e1 : j = k
     ·subst e1; rw [hk] at h2; obtain rfl := Option.some.inj h2; exact .inl h5.symm
     ·exact .inr ⟨j, x, by omega, h2, h3, h4, h5⟩
   ·rename_i hc
    rw [ih]
    refine ⟨hup, fun ⟨j, x, h1, h2, h3, h4, h5⟩ => ⟨j, x, ?_, h2, h3, h4, h5⟩⟩
    by_cases e1 : j = k
    ·subst e1; rw [hk] at h2; obtain rfl := Option.some.inj h2; exact absurd ⟨h3, h4⟩ hc
    ·omega
theorem liveK_up {l : List VersionD} : ∀ k, (jck l k).Pairwise fun x y => x.id < y.id := by
 intro k
 induction k with
 | zero => simp [jck]
 | succ k ih =>
  rw [jck]
  cases hk : l[k]? with
  | none => exact ih
  | some v =>
   simp only
   split
   ·rename_i hc
    refine insE_up ih fun x hx he => ?_
    obtain ⟨j, y, h1, h2, h3, _, h5⟩ := liveK_mem.mp hx
    have e2 : y.id = v.id := by rw [<- h5] at he; exact he
    rw [e2, hc.1] at h3
    have := Option.some.inj h3
    omega
   ·exact ih
theorem liveL_mem {l : List VersionD} {e : EventD} : e ∈ jba l ↔ jcw l e.id = some e := by
 unfold jba
 rw [liveK_mem]
 constructor
 ·rintro ⟨j, v, _, h2, h3, h4, rfl⟩
  show jcw l v.id = _
  unfold jcw
  rw [h3]
  simp only
  rw [h2]
  simp [h4]
 ·intro h
  unfold jcw at h
  cases hk : jcd l e.id with
  | none => rw [hk] at h; cases h
  | some k =>
   rw [hk] at h
   simp only at h
   cases hv : l[k]? with
   | none => rw [hv] at h; cases h
   | some v =>
    rw [hv] at h
    simp only at h
    split at h
    ·cases h
    ·rename_i hg
     obtain rfl := Option.some.inj h
     exact ⟨k, v, (jc8 hk).1, hv, hk, by simpa using hg, rfl⟩
theorem spec_l06Last (l : List VersionD) (a : Option Addr) (n cap : Nat) (id : Int) (w : World) (hA : Za w a 8 (l.map VersionD.cs)) (hn : l.length = n) (hl : n <= 1048576) :
  Calls Tryz.prog 34 #[.slice a n cap, .int .i64 id] w fun e w' => e = .returned (.int .i64 (numI (jcd l id))) /\ w' = w := by
 have HN := hid hn
 clear hn
 have q0 : IntKind.i64.wrap ((n : Int) - 1) = (n : Int) - 1 := by rw [IntKind.wrap_i64]; omega
 go_enter Tryz.func34, Tryz.ntmps34
 go_wp2
 go_loop [5] (fun s => ∃ k : Nat, k <= n /\ s = .int .i64 ((k : Int) - 1) /\ Hid (jcd l id = lastK l id k)) (fun s => (intOf s + 1).toNat)
 case atStart => exact ⟨n, Nat.le_refl _, rfl, by simp only [Hid]; unfold jcd; rw [HN.out]⟩
 case round =>
  obtain ⟨k, hk, rfl, HK⟩ := hrel
  cases k with
  | zero =>
   have h0 : ¬ (0 : Int) <= ((0 : Nat) : Int) - 1 := by omega
   go_wp2
   go_ret
   exact ⟨ret_int (by rw [HK.out]; rfl), rfl⟩
  | succ m =>
   obtain ⟨v, hv⟩ : ∃ v, l[m]? = some v := ⟨_, List.getElem?_eq_getElem (by have := HN.out; omega)⟩
   have hrow : (l.map VersionD.cs)[m]? = some v.cs := by rw [List.getElem?_map, hv]; rfl
   obtain ⟨b, o, rfl, hc⟩ := hA.at (i := m) hrow
   have c2 : w.cell? ⟨b, o + m * 8 + 2, none⟩ = some (.int .i64 v.id) := hc 2 _ rfl
   have e1 : ((m + 1 : Nat) : Int) - 1 = (m : Int) := by omega
   rw [e1]
   have s0 : (0 : Int) <= (m : Int) := by omega
   have s1 : (m : Int) < (n : Int) := by omega
   have s2 : IntKind.i64.wrap ((m : Int) - 1) = (m : Int) - 1 := by rw [IntKind.wrap_i64]; omega
   by_cases hid : v.id = id
   ·have HR : Hid (jcd l id = some m) := by simp only [Hid]; rw [HK.out, lastK_hit hv hid]
    have hid1 : (v.id == id) = true := by simp [hid]
    clear hv hrow hc hid HK
    go_wp2
    go_ret
    exact ⟨ret_int (by rw [HR.out]; rfl), rfl⟩
   ·have HR : Hid (jcd l id = lastK l id m) := by simp only [Hid]; rw [HK.out, lastK_miss hv hid]
    have hid1 : (v.id == id) = false := by simp [hid]
    clear hv hrow hc hid HK
    go_wp2
    go_round
    case rel => exact ⟨m, by omega, rfl, HR⟩
    case measure => simp [intOf]
end
section
open Go.RowKit
theorem flat_split (rows : List (List Value)) (k : Nat) : rows.flatten = (rows.take k).flatten ++ (rows.drop k).flatten := by rw [<- List.flatten_append, List.take_append_drop]
theorem jas {q : Nat} : ∀ {rows : List (List Value)}, (∀ r ∈ rows, r.length = q) -> rows.flatten.length = rows.length * q
 | [], _ => by simp
 | r :: rows, h => by
  rw [List.flatten_cons, List.length_append, h r (by simp), jas fun x hx => h x (List.mem_cons_of_mem _ hx), List.length_cons, Nat.add_mul]
  omega
theorem flat_fst {rows : List (List Value)} {k j : Nat} {u : Value} (h : (rows.take k).flatten[j]? = some u) : rows.flatten[j]? = some u := by
 rw [flat_split rows k, List.getElem?_append_left (List.getElem?_eq_some_iff.mp h).1]; exact h
theorem flat_snd {q : Nat} {rows : List (List Value)} (hq : ∀ r ∈ rows, r.length = q) {k j : Nat} {u : Value} (hk : k <= rows.length) (h : (rows.drop k).flatten[j]? = some u) : rows.flatten[k * q + j]? = some u := by
 have hl : (rows.take k).flatten.length = k * q := by rw [jas fun r hr => hq r (List.mem_of_mem_take hr), List.length_take, Nat.min_eq_left hk]
 rw [flat_split rows k, List.getElem?_append_right (by omega), hl, show k * q + j - k * q = j by omega]; exact h
theorem jbj {L : List EventD} : ∀ r ∈ L.map EventD.cs, r.length = 6 := fun r hr => by
 obtain ⟨x, _, rfl⟩ := List.mem_map.1 hr
 rfl
theorem jcs {L : List EventD} : ∀ u ∈ (L.map EventD.cs).flatten, u.oneCell' = true := fun u hu => by
 simp only [List.mem_flatten, List.mem_map] at hu
 obtain ⟨r, ⟨t, _, rfl⟩, hr⟩ := hu
 simp [EventD.cs] at hr
 rcases hr with rfl | rfl | rfl | rfl | rfl | rfl <;> rfl
theorem blN (w : World) (n : Nat) : Below w.heap.size w (w.drewN n) := ⟨rfl, rfl, rfl, Nat.le_refl _, fun _ _ => rfl⟩
def Ja (w : World) (base : Nat) (v : Value) (L : List EventD) : Prop := w.ownsRow base 54 6 v L.length (L.map EventD.cs).flatten
theorem Ja.cell {w : World} {base g n cap : Nat} {L : List EventD} (h : Ja w base (.slice (some ⟨g, 0, none⟩) n cap) L) {j : Nat} {u : Value} (hu : (L.map EventD.cs).flatten[j]? = some u) : w.cell? ⟨g, j, none⟩ = some u := by
 have h' : w.ownsRow base 54 6 (.slice (some ⟨g, 0, none⟩) n cap) L.length (L.map EventD.cs).flatten := h
 have hl := (List.getElem?_eq_some_iff.1 hu).1
 rcases h'.2 with ⟨hv, _⟩ | ⟨g2, c2, cur, hv, _⟩
 ·cases hv
 ·injection hv with e1 e2 e3
  subst e2
  rw [h'.cellAt j (by rw [jas jbj, List.length_map] at hl; omega)]
  exact hu
theorem Ja.shape {w : World} {base : Nat} {v : Value} {L : List EventD} (h : Ja w base v L) (hn : 0 < L.length) : ∃ g cap, v = .slice (some ⟨g, 0, none⟩) L.length cap /\ L.length <= cap := by
 rcases h.2 with ⟨_, h0⟩ | ⟨g, cap, cur, hv, hb, hg, hc, _⟩
 ·omega
 ·exact ⟨g, cap, hv, hc⟩
theorem aheadE_of {L : List EventD} {id : Int} {k : Nat} (h1 : ∀ (j : Nat) x, j < k -> L[j]? = some x -> x.id < id) (h2 : ∀ x, L[k]? = some x -> ¬ x.id < id) (hk : k <= L.length) : aheadE L id = k := by
 induction L generalizing k with
 | nil => simp at hk; subst hk; rfl
 | cons a L ih =>
  unfold aheadE at *
  cases k with
  | zero => have := h2 a rfl; simp [this]
  | succ k =>
   have h0 := h1 0 a (by omega) rfl
   have := ih (k := k) (fun j x hj hx => h1 (j + 1) x (by omega) (by simpa using hx)) (fun x hx => h2 x (by simpa using hx)) (by simp at hk; omega)
   simp [h0, this]
theorem insE_len (L : List EventD) (e : EventD) : (insE L e).length = L.length + 1 := by
 induction L with
 | nil => rfl
 | cons a L ih => rw [insE]; split <;> simp [ih]
theorem infoEventE : ∃ i : TypeInfo, Tryz.prog.info? 54 = some i /\ i.zero = some (.agg #[.int .i64 0, .string ⟨#[]⟩, .string ⟨#[]⟩, .int .i64 0, .int .i64 0, .int .i64 0]) /\ i.size = 6 /\ i.bytes = 64 := ⟨_, rfl, rfl, rfl, rfl⟩
theorem spec_l06Live (l : List VersionD) (a : Option Addr) (n cap : Nat) (w : World) (hA : Za w a 8 (l.map VersionD.cs)) (hn : l.length = n) (hl : n <= 1000) :
  Calls Tryz.prog 16 #[.slice a n cap] w fun e w' => ∃ v, e = .returned v /\ Ja w' w.heap.size v (jba l) /\ Below w.heap.size w w' := by
 obtain ⟨i0, hi, hz0, hz1, hz2⟩ := infoEventE
 have HN := hid hn
 clear hn
 go_enter Tryz.func16, Tryz.ntmps16
 go_wp2
 go_loopw [3, 4, 5, 6] (fun v s _ _ wr => ∃ (i g m c : Nat), i <= n /\ s = .int .i64 i /\ v = .slice (some ⟨g, 0, none⟩) m c /\ m <= i /\ m <= c /\ Hid ((jck l i).length = m) /\ Ja wr w.heap.size (.slice (some ⟨g, 0, none⟩) m c) (jck l i) /\ Below w.heap.size w wr) (fun _ s _ _ _ => n - (intOf s).toNat)
 case atStart => exact ⟨0, w.heap.size, 0, 0, by omega, rfl, rfl, by omega, by omega, rfl, ja3 w 54 6, qal _ _⟩
 case round =>
  obtain ⟨wa, hwa⟩ : ∃ x : World, x = wr := ⟨_, rfl⟩
  subst hwa
  obtain ⟨i, g, m, c, hin, rfl, rfl, hmi, hmc, HM, hO, hB⟩ := hrel
  have hAw := hA.below hB
  by_cases hlt : i < n
  ·have s1 : (i : Int) < (n : Int) := by omega
   have s0 : (0 : Int) <= (i : Int) := by omega
   obtain ⟨v, hv⟩ : ∃ v, l[i]? = some v := ⟨_, List.getElem?_eq_getElem (by have := HN.out; omega)⟩
   have hrow : (l.map VersionD.cs)[i]? = some v.cs := by rw [List.getElem?_map, hv]; rfl
   obtain ⟨b, ob, rfl, hc⟩ := hAw.at (i := i) hrow
   have c1 : wa.cell? ⟨b, ob + i * 8 + 1, none⟩ = some (.bool v.gone) := hc 1 _ rfl
   have c2 : wa.cell? ⟨b, ob + i * 8 + 2, none⟩ = some (.int .i64 v.id) := hc 2 _ rfl
   have c3 : wa.cell? ⟨b, ob + i * 8 + 3, none⟩ = some (.string v.name) := hc 3 _ rfl
   have c4 : wa.cell? ⟨b, ob + i * 8 + 4, none⟩ = some (.string v.zone) := hc 4 _ rfl
   have c5 : wa.cell? ⟨b, ob + i * 8 + 5, none⟩ = some (.int .i64 v.wall) := hc 5 _ rfl
   have c6 : wa.cell? ⟨b, ob + i * 8 + 6, none⟩ = some (.int .i64 v.gap) := hc 6 _ rfl
   have c7 : wa.cell? ⟨b, ob + i * 8 + 7, none⟩ = some (.int .i64 v.fold) := hc 7 _ rfl
   have hLast := fun id => spec_l06Last l (some ⟨b, ob, none⟩) n cap id wa hAw HN.out (by omega)
   clear hc hrow
   have HK : Hid (jck l (i + 1) = if jcd l v.id = some i /\ v.gone = false then insE (jck l i) v.ev else jck l i) := by simp only [Hid]; rw [jck, hv]
   clear hv
   by_cases hla : jcd l v.id = some i
   case neg =>
    have HK2 : Hid (jck l (i + 1) = jck l i) := by simp only [Hid]; rw [HK.out, if_neg (fun h => hla h.1)]
    have hne : (numI (jcd l v.id) != (i : Int)) = true := by
     cases hx : jcd l v.id with
     | none => simp [numI] <;> omega
     | some j => rw [hx] at hla; simp [numI] at hla ⊢; omega
    have hL := hLast v.id
    generalize numI (jcd l v.id) = nz at *
    clear HK hla hLast
    go_wp2_with fail
    refine hL.mono ?_
    rintro e wx ⟨rfl, hwx⟩
    have hwy := hwx.symm
    clear hwx
    subst hwy
    clear hL
    go_wp2
    go_roundw
    case rel => exact ⟨i + 1, g, m, c, by omega, by go_num, rfl, by omega, hmc, by simp only [Hid]; rw [HK2.out]; exact HM.out, by rw [HK2.out]; exact hO, hB⟩
    case measure => simp [intOf]; omega
   have hL := hLast v.id
   rw [hla] at hL
   have hne : ((i : Int) != (i : Int)) = false := by simp
   cases hg : v.gone with
   | true =>
    have HK2 : Hid (jck l (i + 1) = jck l i) := by simp only [Hid]; rw [HK.out, if_neg (fun h => by rw [hg] at h; cases h.2)]
    rw [hg] at c1
    clear HK hla hLast hg
    go_wp2_with fail
    refine hL.mono ?_
    rintro e wx ⟨rfl, hwx⟩
    have hwy := hwx.symm
    clear hwx
    subst hwy
    clear hL
    simp only [numI]
    go_wp2
    go_roundw
    case rel => exact ⟨i + 1, g, m, c, by omega, by go_num, rfl, by omega, hmc, by simp only [Hid]; rw [HK2.out]; exact HM.out, by rw [HK2.out]; exact hO, hB⟩
    case measure => simp [intOf]; omega
   | false =>
    have HK2 : Hid (jck l (i + 1) = insE (jck l i) v.ev) := by simp only [Hid]; rw [HK.out, if_pos ⟨hla, hg⟩]
    rw [hg] at c1
    obtain ⟨L, hLL⟩ : ∃ L, jck l i = L := ⟨_, rfl⟩
    rw [hLL] at hO HM HK2
    clear HK hla hLast hg hLL
    have HC : Hid (∀ (j : Nat) u, (L.map EventD.cs).flatten[j]? = some u -> wa.cell? ⟨g, j, none⟩ = some u) := fun j u hu => hO.cell hu
    go_wp2_with fail
    refine hL.mono ?_
    rintro e wx ⟨rfl, hwx⟩
    have hwy := hwx.symm
    clear hwx
    subst hwy
    clear hL
    simp only [numI]
    go_wp2
    go_loopw [5] (fun s wr => ∃ k : Nat, k <= m /\ s = .int .i64 k /\ Hid (∀ (j : Nat) x, j < k -> L[j]? = some x -> x.id < v.id) /\ Below wa.heap.size wa wr) (fun s _ => m + 1 - (intOf s).toNat)
    case atStart => exact ⟨0, by omega, rfl, fun j x hj => by omega, Below.refl _ _⟩
    case round =>
     obtain ⟨wb, hwb⟩ : ∃ x : World, x = wr := ⟨_, rfl⟩
     subst hwb
     obtain ⟨k, hk, rfl, HS, hBb⟩ := hrel
     have hOb : Ja wb w.heap.size (.slice (some ⟨g, 0, none⟩) m c) L := jae hO hBb
     have d2 := jaa hBb c2
     have d3 := jaa hBb c3
     have d4 := jaa hBb c4
     have d5 := jaa hBb c5
     have d6 := jaa hBb c6
     have d7 := jaa hBb c7
     have k0 : (0 : Int) <= (k : Int) := by omega
     clear hO c1 c2 c3 c4 c5 c6 c7 HC
     by_cases hkm : k < m
     ·have k1 : (k : Int) < (m : Int) := by omega
      obtain ⟨x, hx⟩ : ∃ x, L[k]? = some x := ⟨_, List.getElem?_eq_getElem (by have := HM.out; omega)⟩
      have hxr : (L.map EventD.cs)[k]? = some x.cs := by rw [List.getElem?_map, hx]; rfl
      have cx : wb.cell? ⟨g, k * 6, none⟩ = some (.int .i64 x.id) := hOb.cell (jbe (q := 6) jbj (j := 0) hxr rfl)
      clear hxr
      by_cases hlx : x.id < v.id
      ·have HS2 : Hid (∀ (j : Nat) y, j < k + 1 -> L[j]? = some y -> y.id < v.id) := fun j y hj hy => by
        by_cases e1 : j = k
        ·subst e1; rw [hx] at hy; obtain rfl := Option.some.inj hy; exact hlx
        ·exact HS.out j y (by omega) hy
       clear hx HS hOb d3 d4 d5 d6 d7
       have q0 : decide ((k : Int) < (m : Int)) = true := decide_eq_true k1
       have q1 : decide (x.id < v.id) = true := decide_eq_true hlx
       go_wp2_with fail
       go_quiet (fail)
       go_wp2
       go_roundw
       case rel => exact ⟨k + 1, by omega, by go_num, HS2, hBb.trans ((blN wb nq).mono hBb.size)⟩
       case measure => simp [intOf]; omega
      ·have HA : Hid (aheadE L v.ev.id = k) := aheadE_of (id := v.ev.id) HS.out (fun y hy => by rw [hx] at hy; obtain rfl := Option.some.inj hy; exact hlx) (by have := HM.out; omega)
       clear hx
       have q0 : decide ((k : Int) < (m : Int)) = true := decide_eq_true k1
       have q1 : decide (x.id < v.id) = false := decide_eq_false hlx
       go_wp2_with fail
       go_quiet (fail)
       clear cx
       have hOq : Ja (wb.drewN nq) w.heap.size (.slice (some ⟨g, 0, none⟩) m c) L := jae hOb (blN wb nq)
       have hBq : Below w.heap.size w (wb.drewN nq) := (qtr hB hBb).trans ((blN wb nq).mono (qtr hB hBb).size)
       have e2 := jaa (blN wb nq) d2
       have e3 := jaa (blN wb nq) d3
       have e4 := jaa (blN wb nq) d4
       have e5 := jaa (blN wb nq) d5
       have e6 := jaa (blN wb nq) d6
       have e7 := jaa (blN wb nq) d7
       clear hOb hB hBb d2 d3 d4 d5 d6 d7 HS
       generalize wb.drewN nq = wq at *
       have lk : (L.take k).length = k := by rw [List.length_take, HM.out]; omega
       have ld : (L.drop k).length = m - k := by rw [List.length_drop, HM.out]
       have hmk : (L.map EventD.cs).take k = (L.take k).map EventD.cs := List.map_take.symm
       have hmd : (L.map EventD.cs).drop k = (L.drop k).map EventD.cs := List.map_drop.symm
       have t1 : ((L.take k).map EventD.cs).flatten.length = k * 6 := by rw [jas jbj, List.length_map, lk]
       have t2 : ((L.drop k).map EventD.cs).flatten.length = (m - k) * 6 := by rw [jas jbj, List.length_map, ld]
       have n1 : ∀ j u, ((L.take k).map EventD.cs).flatten[j]? = some u -> (wq.alloc (.cells #[] 54)).cell? ((⟨g, 0, none⟩ : Addr).add j) = some u := fun j u hj => by
        rw [addP, Nat.zero_add]
        exact jaa (qal wq _) (hOq.cell (flat_fst (k := k) (by rw [hmk]; exact hj)))
       have HD : Hid (∀ w2, Below wq.heap.size wq w2 -> ∀ j u, ((L.drop k).map EventD.cs).flatten[j]? = some u -> w2.cell? ⟨g, k * 6 + j, none⟩ = some u) := fun w2 hb j u hj => jaa hb (hOq.cell (flat_snd jbj (by rw [List.length_map, HM.out]; omega) (by rw [hmd]; exact hj)))
       have HE : Hid (insE L v.ev = (L.take k ++ [v.ev]) ++ L.drop k) := by simp only [Hid]; rw [insE_at, HA.out]
       have hE := ja3 wq 54 6
       have k2 : (k : Int) <= (c : Int) := by omega
       have k3 : (k : Int) <= (m : Int) := by omega
       clear hOq hmk hmd
       go_wp2_with (first | (at_builtin; refine wpList_append_own _ rfl _ _ 50 rfl wq.heap.size 54 i0 (.agg #[.int .i64 0, .string ⟨#[]⟩, .string ⟨#[]⟩, .int .i64 0, .int .i64 0, .int .i64 0]) 6 64 Tryz.underlying50 hi hz0 hz1 hz2 rfl (by decide) _ _ _ rfl hE ⟨g, 0, none⟩ k c ((L.take k).map EventD.cs).flatten rfl t1 n1 jcs ?a3 ?a4 ?a5 ?_) | fail)
       case a3 => unfold maxLen; omega
       case a4 => omega
       case a5 => simp
       intro v1 w1 hown1 hgrow1 _
       have hB1 : Below wq.heap.size wq w1 := (qal wq _).grown hgrow1 (by simp) (fun j hj => (hE.lt j hj).1)
       obtain ⟨a1, m1, x1, rfl⟩ := jac hown1
       have hs1 := hB1.size
       have f2 := jaa hB1 e2
       have f3 := jaa hB1 e3
       have f4 := jaa hB1 e4
       have f5 := jaa hB1 e5
       have f6 := jaa hB1 e6
       have f7 := jaa hB1 e7
       clear hgrow1 hE n1 t1 e2 e3 e4 e5 e6 e7
       go_wp2_with (first | (at_builtin; refine wpList_append_own _ rfl _ _ 50 rfl wq.heap.size 54 i0 (.agg #[.int .i64 0, .string ⟨#[]⟩, .string ⟨#[]⟩, .int .i64 0, .int .i64 0, .int .i64 0]) 6 64 Tryz.underlying50 hi hz0 hz1 hz2 rfl (by decide) _ _ _ rfl (World.ownsRow.alloc hown1 _) ⟨w1.heap.size, 0, none⟩ 1 1 [.int .i64 v.id, .string v.name, .string v.zone, .int .i64 v.wall, .int .i64 v.gap, .int .i64 v.fold] rfl rfl ?b1 ?b2 ?b3 ?b4 ?b5 ?_) | fail)
       case b1 => exact jah _ [.int .i64 v.id, .string v.name, .string v.zone, .int .i64 v.wall, .int .i64 v.gap, .int .i64 v.fold] _
       case b2 => intro u hu; simp at hu; rcases hu with rfl | rfl | rfl | rfl | rfl | rfl <;> rfl
       case b3 => unfold maxLen; omega
       case b4 => omega
       case b5 => simp; omega
       intro v2 w2 hown2 hgrow2 _
       have hB2 : Below wq.heap.size wq w2 := (hB1.alloc hB1.size _).grown hgrow2 (by simp; omega) (fun j hj => (hown1.lt j hj).1)
       obtain ⟨a2, m2, x2, rfl⟩ := jac hown2
       have hs2 := hB2.size
       have n2 := HD.out w2 hB2
       clear hgrow2 hown1 hB1 f2 f3 f4 f5 f6 f7
       by_cases hck : c = k
       ·exfalso; omega
       ·skip
        have n3 : ∀ j u, ((L.drop k).map EventD.cs).flatten[j]? = some u -> w2.cell? ((⟨g, k * 6, none⟩ : Addr).add j) = some u := fun j u hj => by rw [addP]; exact n2 j u hj
        go_wp2_with (first | (at_builtin; refine wpList_append_own _ rfl _ _ 50 rfl wq.heap.size 54 i0 (.agg #[.int .i64 0, .string ⟨#[]⟩, .string ⟨#[]⟩, .int .i64 0, .int .i64 0, .int .i64 0]) 6 64 Tryz.underlying50 hi hz0 hz1 hz2 rfl (by decide) _ _ _ rfl hown2 ⟨g, k * 6, none⟩ (m - k) (c - k) ((L.drop k).map EventD.cs).flatten rfl t2 n3 jcs ?g3 ?g4 ?g5 ?_) | fail)
        case g3 => unfold maxLen; omega
        case g4 => omega
        case g5 => omega
        intro v3 w3 hown3 hgrow3 _
        have hB3 : Below wq.heap.size wq w3 := hB2.grown hgrow3 (by omega) (fun j hj => (hown2.lt j hj).1)
        have HO : Hid (Ja w3 w.heap.size v3 (insE L v.ev)) := by
         simp only [Hid]
         have h9 : w3.ownsRow wq.heap.size 54 6 v3 (insE L v.ev).length ((insE L v.ev).map EventD.cs).flatten := by
          rw [insE_len, HM.out, HE.out, List.map_append, List.map_append, List.flatten_append, List.flatten_append]
          have hx : k + 1 + (m - k) = m + 1 := by omega
          rw [hx] at hown3
          simpa [VersionD.ev, EventD.cs] using hown3
         exact jak h9 hBq.size
        obtain ⟨g3, x3, hv3, hx3⟩ := HO.out.shape (by rw [insE_len]; omega)
        rw [insE_len, HM.out] at hv3 hx3
        subst hv3
        have hBx : Below w.heap.size w w3 := qtr hBq hB3
        clear hgrow3 hown3 hown2 hB2 hB3 n2 n3 t2 HD
        go_wp2
        go_roundw
        case rel => exact ⟨i + 1, g3, m + 1, x3, by omega, by go_num, rfl, by omega, hx3, by simp only [Hid]; rw [HK2.out, insE_len, HM.out], by rw [HK2.out]; exact HO.out, hBx⟩
        case measure => simp [intOf]; omega
     ·have k1 : ¬ (k : Int) < (m : Int) := by omega
      have HA : Hid (aheadE L v.ev.id = k) := aheadE_of (id := v.ev.id) HS.out (fun y hy => by have := (List.getElem?_eq_some_iff.mp hy).1; have := HM.out; omega) (by have := HM.out; omega)
      have q0 : decide ((k : Int) < (m : Int)) = false := decide_eq_false k1
      go_wp2_with fail
      go_quiet (fail)
      have hOq : Ja (wb.drewN nq) w.heap.size (.slice (some ⟨g, 0, none⟩) m c) L := jae hOb (blN wb nq)
      have hBq : Below w.heap.size w (wb.drewN nq) := (qtr hB hBb).trans ((blN wb nq).mono (qtr hB hBb).size)
      have e2 := jaa (blN wb nq) d2
      have e3 := jaa (blN wb nq) d3
      have e4 := jaa (blN wb nq) d4
      have e5 := jaa (blN wb nq) d5
      have e6 := jaa (blN wb nq) d6
      have e7 := jaa (blN wb nq) d7
      clear hOb hB hBb d2 d3 d4 d5 d6 d7 HS
      generalize wb.drewN nq = wq at *
      have lk : (L.take k).length = k := by rw [List.length_take, HM.out]; omega
      have ld : (L.drop k).length = m - k := by rw [List.length_drop, HM.out]
      have hmk : (L.map EventD.cs).take k = (L.take k).map EventD.cs := List.map_take.symm
      have hmd : (L.map EventD.cs).drop k = (L.drop k).map EventD.cs := List.map_drop.symm
      have t1 : ((L.take k).map EventD.cs).flatten.length = k * 6 := by rw [jas jbj, List.length_map, lk]
      have t2 : ((L.drop k).map EventD.cs).flatten.length = (m - k) * 6 := by rw [jas jbj, List.length_map, ld]
      have n1 : ∀ j u, ((L.take k).map EventD.cs).flatten[j]? = some u -> (wq.alloc (.cells #[] 54)).cell? ((⟨g, 0, none⟩ : Addr).add j) = some u := fun j u hj => by
       rw [addP, Nat.zero_add]
       exact jaa (qal wq _) (hOq.cell (flat_fst (k := k) (by rw [hmk]; exact hj)))
      have HD : Hid (∀ w2, Below wq.heap.size wq w2 -> ∀ j u, ((L.drop k).map EventD.cs).flatten[j]? = some u -> w2.cell? ⟨g, k * 6 + j, none⟩ = some u) := fun w2 hb j u hj => jaa hb (hOq.cell (flat_snd jbj (by rw [List.length_map, HM.out]; omega) (by rw [hmd]; exact hj)))
      have HE : Hid (insE L v.ev = (L.take k ++ [v.ev]) ++ L.drop k) := by simp only [Hid]; rw [insE_at, HA.out]
      have hE := ja3 wq 54 6
      have k2 : (k : Int) <= (c : Int) := by omega
      have k3 : (k : Int) <= (m : Int) := by omega
      clear hOq hmk hmd
      go_wp2_with (first | (at_builtin; refine wpList_append_own _ rfl _ _ 50 rfl wq.heap.size 54 i0 (.agg #[.int .i64 0, .string ⟨#[]⟩, .string ⟨#[]⟩, .int .i64 0, .int .i64 0, .int .i64 0]) 6 64 Tryz.underlying50 hi hz0 hz1 hz2 rfl (by decide) _ _ _ rfl hE ⟨g, 0, none⟩ k c ((L.take k).map EventD.cs).flatten rfl t1 n1 jcs ?a3 ?a4 ?a5 ?_) | fail)
      case a3 => unfold maxLen; omega
      case a4 => omega
      case a5 => simp
      intro v1 w1 hown1 hgrow1 _
      have hB1 : Below wq.heap.size wq w1 := (qal wq _).grown hgrow1 (by simp) (fun j hj => (hE.lt j hj).1)
      obtain ⟨a1, m1, x1, rfl⟩ := jac hown1
      have hs1 := hB1.size
      have f2 := jaa hB1 e2
      have f3 := jaa hB1 e3
      have f4 := jaa hB1 e4
      have f5 := jaa hB1 e5
      have f6 := jaa hB1 e6
      have f7 := jaa hB1 e7
      clear hgrow1 hE n1 t1 e2 e3 e4 e5 e6 e7
      go_wp2_with (first | (at_builtin; refine wpList_append_own _ rfl _ _ 50 rfl wq.heap.size 54 i0 (.agg #[.int .i64 0, .string ⟨#[]⟩, .string ⟨#[]⟩, .int .i64 0, .int .i64 0, .int .i64 0]) 6 64 Tryz.underlying50 hi hz0 hz1 hz2 rfl (by decide) _ _ _ rfl (World.ownsRow.alloc hown1 _) ⟨w1.heap.size, 0, none⟩ 1 1 [.int .i64 v.id, .string v.name, .string v.zone, .int .i64 v.wall, .int .i64 v.gap, .int .i64 v.fold] rfl rfl ?b1 ?b2 ?b3 ?b4 ?b5 ?_) | fail)
      case b1 => exact jah _ [.int .i64 v.id, .string v.name, .string v.zone, .int .i64 v.wall, .int .i64 v.gap, .int .i64 v.fold] _
      case b2 => intro u hu; simp at hu; rcases hu with rfl | rfl | rfl | rfl | rfl | rfl <;> rfl
      case b3 => unfold maxLen; omega
      case b4 => omega
      case b5 => simp; omega
      intro v2 w2 hown2 hgrow2 _
      have hB2 : Below wq.heap.size wq w2 := (hB1.alloc hB1.size _).grown hgrow2 (by simp; omega) (fun j hj => (hown1.lt j hj).1)
      obtain ⟨a2, m2, x2, rfl⟩ := jac hown2
      have hs2 := hB2.size
      have n2 := HD.out w2 hB2
      clear hgrow2 hown1 hB1 f2 f3 f4 f5 f6 f7
      by_cases hck : c = k
      ·have hmk2 : k = m := by omega
       have hck2 : k = c := hck.symm
       clear hck
       subst hck2
       subst hmk2
       have t2 : ((L.drop k).map EventD.cs).flatten.length = 0 * 6 := by rw [t2]; simp
       have n3 : ∀ j u, ((L.drop k).map EventD.cs).flatten[j]? = some u -> w2.cell? ((⟨g, 0, none⟩ : Addr).add j) = some u := fun j u hj => by have h1 := (List.getElem?_eq_some_iff.1 hj).1; rw [t2] at h1; omega
       go_wp2_with (first | (at_builtin; refine wpList_append_own _ rfl _ _ 50 rfl wq.heap.size 54 i0 (.agg #[.int .i64 0, .string ⟨#[]⟩, .string ⟨#[]⟩, .int .i64 0, .int .i64 0, .int .i64 0]) 6 64 Tryz.underlying50 hi hz0 hz1 hz2 rfl (by decide) _ _ _ rfl hown2 ⟨g, 0, none⟩ 0 0 ((L.drop k).map EventD.cs).flatten rfl t2 n3 jcs ?g3 ?g4 ?g5 ?_) | fail)
       case g3 => unfold maxLen; omega
       case g4 => omega
       case g5 => omega
       intro v3 w3 hown3 hgrow3 _
       have hB3 : Below wq.heap.size wq w3 := hB2.grown hgrow3 (by omega) (fun j hj => (hown2.lt j hj).1)
       have HO : Hid (Ja w3 w.heap.size v3 (insE L v.ev)) := by
        simp only [Hid]
        have h9 : w3.ownsRow wq.heap.size 54 6 v3 (insE L v.ev).length ((insE L v.ev).map EventD.cs).flatten := by
         rw [insE_len, HM.out, HE.out, List.map_append, List.map_append, List.flatten_append, List.flatten_append]
         have hx : k + 1 + 0 = k + 1 := by omega
         rw [hx] at hown3
         simpa [VersionD.ev, EventD.cs] using hown3
        exact jak h9 hBq.size
       obtain ⟨g3, x3, hv3, hx3⟩ := HO.out.shape (by rw [insE_len]; omega)
       rw [insE_len, HM.out] at hv3 hx3
       subst hv3
       have hBx : Below w.heap.size w w3 := qtr hBq hB3
       clear hgrow3 hown3 hown2 hB2 hB3 n2 n3 t2 HD
       go_wp2
       go_roundw
       case rel => exact ⟨i + 1, g3, k + 1, x3, by omega, by go_num, rfl, by omega, hx3, by simp only [Hid]; rw [HK2.out, insE_len, HM.out], by rw [HK2.out]; exact HO.out, hBx⟩
       case measure => simp [intOf]; omega
      ·skip
       have n3 : ∀ j u, ((L.drop k).map EventD.cs).flatten[j]? = some u -> w2.cell? ((⟨g, k * 6, none⟩ : Addr).add j) = some u := fun j u hj => by rw [addP]; exact n2 j u hj
       go_wp2_with (first | (at_builtin; refine wpList_append_own _ rfl _ _ 50 rfl wq.heap.size 54 i0 (.agg #[.int .i64 0, .string ⟨#[]⟩, .string ⟨#[]⟩, .int .i64 0, .int .i64 0, .int .i64 0]) 6 64 Tryz.underlying50 hi hz0 hz1 hz2 rfl (by decide) _ _ _ rfl hown2 ⟨g, k * 6, none⟩ (m - k) (c - k) ((L.drop k).map EventD.cs).flatten rfl t2 n3 jcs ?g3 ?g4 ?g5 ?_) | fail)
       case g3 => unfold maxLen; omega
       case g4 => omega
       case g5 => omega
       intro v3 w3 hown3 hgrow3 _
       have hB3 : Below wq.heap.size wq w3 := hB2.grown hgrow3 (by omega) (fun j hj => (hown2.lt j hj).1)
       have HO : Hid (Ja w3 w.heap.size v3 (insE L v.ev)) := by
        simp only [Hid]
        have h9 : w3.ownsRow wq.heap.size 54 6 v3 (insE L v.ev).length ((insE L v.ev).map EventD.cs).flatten := by
         rw [insE_len, HM.out, HE.out, List.map_append, List.map_append, List.flatten_append, List.flatten_append]
         have hx : k + 1 + (m - k) = m + 1 := by omega
         rw [hx] at hown3
         simpa [VersionD.ev, EventD.cs] using hown3
        exact jak h9 hBq.size
       obtain ⟨g3, x3, hv3, hx3⟩ := HO.out.shape (by rw [insE_len]; omega)
       rw [insE_len, HM.out] at hv3 hx3
       subst hv3
       have hBx : Below w.heap.size w w3 := qtr hBq hB3
       clear hgrow3 hown3 hown2 hB2 hB3 n2 n3 t2 HD
       go_wp2
       go_roundw
       case rel => exact ⟨i + 1, g3, m + 1, x3, by omega, by go_num, rfl, by omega, hx3, by simp only [Hid]; rw [HK2.out, insE_len, HM.out], by rw [HK2.out]; exact HO.out, hBx⟩
       case measure => simp [intOf]; omega
  ·have hE : i = n := by omega
   subst hE
   have HE : Hid (jck l i = jba l) := by simp only [Hid]; unfold jba; rw [HN.out]
   have s1 : ¬ (i : Int) < (i : Int) := by omega
   clear hAw
   go_wp2
   go_ret
   exact ⟨_, rfl, by rw [<- HE.out]; exact hO, hB⟩
end
end Go.Proofs.YtpejeokacilebaaGreatDoor
