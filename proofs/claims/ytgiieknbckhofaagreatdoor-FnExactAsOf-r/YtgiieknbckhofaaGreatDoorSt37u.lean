/- The model's cache of tables in memory. -/
import Derived.Test.YtgiieknbckhofaaGreatDoorSGu
import Derived.Test.YtgiieknbckhofaaGreatDoorSLu
set_option maxHeartbeats 20000000
set_option linter.unusedSimpArgs false
namespace Go.Proofs.YtgiieknbckhofaaGreatDoor
open Go.RowKit
def TOut.cs (t : TOut) : List Value := [.slice t.a t.n t.c, iv t.code]
theorem jkt {L : List TOut} : ∀ r ∈ L.map TOut.cs, r.length = 2 := fun r hr => by
 obtain ⟨x, _, rfl⟩ := List.mem_map.1 hr
 rfl
def InC (p : Nat) (zv tv : Value) (g : Nat) : Prop := g = p \/ zv.ownBlock = some g \/ tv.ownBlock = some g
structure Zk (w : World) (B p : Nat) (r : RelD) (a b c : Option Addr) (ca cb cc : Nat) (zv tv : Value) (zs : List ByteArray) (ts : List TOut) : Prop where
 v : Ze w p [.slice a r.rules.length ca, .slice b r.zones.length cb, .slice c r.links.length cc, zv, tv]
 typ : ∃ cs, w.heap[p]? = some (.cells cs 155 (0, 0))
 hp : B <= p
 zo : w.ownsRow B 9 1 zv zs.length (zs.map Value.string)
 to_ : w.ownsRow B 185 2 tv ts.length (ts.map TOut.cs).flatten
 tab : ∀ (i : Nat) z t, zs[i]? = some z -> ts[i]? = some t -> Jh w t (tabD r z)
theorem jcc {w : World} {base g : Nat} {e : TypeId} {size : Nat} {v : Value} {n : Nat} {xs : List Value} (h : w.ownsRow base e size v n xs) (hg : v.ownBlock = some g) : ∃ cs, w.heap[g]? = some (.cells cs e (0, 0)) := by
 rcases h.2 with ⟨rfl, _⟩ | ⟨g2, cap, cur, rfl, _, hh, _⟩
 ·cases hg
 ·injection hg with hg
  have h3 : g2 = g := hg
  subst h3
  exact ⟨cur, hh⟩
theorem jer {w : World} {p q : Nat} {s t : TypeId} (h : ∃ cs, w.heap[p]? = some (.cells cs s (0, 0))) (h2 : ∃ cs, w.heap[q]? = some (.cells cs t (0, 0))) (az : s ≠ t) : p ≠ q := by
 rintro rfl
 obtain ⟨c1, h1⟩ := h
 obtain ⟨c2, h2⟩ := h2
 rw [h1] at h2
 injection h2 with h2
 injection h2 with _ h3
 exact az h3
theorem jks {w : World} {p : Nat} {t : TypeId} (h : ∃ cs, w.heap[p]? = some (.cells cs t (0, 0))) : p < w.heap.size := by
 obtain ⟨cs, h⟩ := h
 exact (Array.getElem?_eq_some_iff.1 h).1
theorem jrd {S : Nat -> Prop} {w w' : World} {p : Nat} {t : TypeId} (h : ∃ cs, w.heap[p]? = some (.cells cs t (0, 0))) (hf : Fr S w w') (hs : ¬ S p) : ∃ cs, w'.heap[p]? = some (.cells cs t (0, 0)) := by
 have hl := jks h
 obtain ⟨cs, h⟩ := h
 exact ⟨cs, (hf.block p hl hs).trans h⟩
theorem Zk.kind {w : World} {B p : Nat} {r : RelD} {a b c : Option Addr} {ca cb cc : Nat} {zv tv : Value} {zs : List ByteArray} {ts : List TOut} (h : Zk w B p r a b c ca cb cc zv tv zs ts) {g : Nat} (hg : InC p zv tv g) : ∃ t, (∃ cs, w.heap[g]? = some (.cells cs t (0, 0))) /\ (t = 155 \/ t = 9 \/ t = 185) := by
 rcases hg with rfl | hg | hg
 ·exact ⟨_, h.typ, .inl rfl⟩
 ·exact ⟨_, jcc h.zo hg, .inr (.inl rfl)⟩
 ·exact ⟨_, jcc h.to_ hg, .inr (.inr rfl)⟩
theorem Zk.low {w : World} {B p : Nat} {r : RelD} {a b c : Option Addr} {ca cb cc : Nat} {zv tv : Value} {zs : List ByteArray} {ts : List TOut} (h : Zk w B p r a b c ca cb cc zv tv zs ts) {g : Nat} (hg : InC p zv tv g) : B <= g := by
 rcases hg with rfl | hg | hg
 ·exact h.hp
 ·exact (World.ownsRow.lt h.zo g hg).1
 ·exact (World.ownsRow.lt h.to_ g hg).1
theorem Zk.not {w : World} {B p : Nat} {r : RelD} {a b c : Option Addr} {ca cb cc : Nat} {zv tv : Value} {zs : List ByteArray} {ts : List TOut} (h : Zk w B p r a b c ca cb cc zv tv zs ts) {g : Nat} {t : TypeId} (hg : ∃ cs, w.heap[g]? = some (.cells cs t (0, 0))) (h1 : t ≠ 155) (h2 : t ≠ 9) (h3 : t ≠ 185) : ¬ InC p zv tv g := fun hi => by
 obtain ⟨t2, hc, hk⟩ := h.kind hi
 rcases hk with rfl | rfl | rfl
 ·exact jer hg hc h1 rfl
 ·exact jer hg hc h2 rfl
 ·exact jer hg hc h3 rfl
theorem Ze.fr {S : Nat -> Prop} {w w' : World} {b : Nat} {l : List Value} (h : Ze w b l) (hf : Fr S w w') (hs : ¬ S b) : Ze w' b l := fun i u hu => by
 obtain ⟨h1, h2⟩ := h i u hu
 exact ⟨hf.cell hs h1, (hf.frozen (qbl h1) hs).trans h2⟩
theorem Jh.fr {S : Nat -> Prop} {w w' : World} {t : TOut} {x : Int × List TurnD} (h : Jh w t x) (hf : Fr S w w') (az : ∀ b, (∃ cs, w.heap[b]? = some (.cells cs 220 (0, 0))) -> ¬ S b) : Jh w' t x := by
 refine ⟨h.code, h.n, ?_, fun b o hb => jrd (h.typ b o hb) hf (az b (h.typ b o hb))⟩
 rcases h.seq with h0 | ⟨b, o, ha, hc⟩
 ·exact .inl h0
 ·exact .inr ⟨b, o, ha, fun i j r c hr hj => hf.cell (az b (h.typ b o ha)) (hc i j r c hr hj)⟩
theorem Zk.fr {S : Nat -> Prop} {w w' : World} {B p : Nat} {r : RelD} {a b c : Option Addr} {ca cb cc : Nat} {zv tv : Value} {zs : List ByteArray} {ts : List TOut} (h : Zk w B p r a b c ca cb cc zv tv zs ts) (hf : Fr S w w') (hd : ∀ g, InC p zv tv g -> ¬ S g) (ht : ∀ g, (∃ cs, w.heap[g]? = some (.cells cs 220 (0, 0))) -> ¬ S g) : Zk w' B p r a b c ca cb cc zv tv zs ts :=
 ⟨h.v.fr hf (hd p (.inl rfl)), jrd h.typ hf (hd p (.inl rfl)), h.hp, jc7 h.zo hf (fun g hg => hd g (.inr (.inl hg))), jc7 h.to_ hf (fun g hg => hd g (.inr (.inr hg))), fun i z t hz eI => (h.tab i z t hz eI).fr hf ht⟩
theorem Zk.below {w w' : World} {B p : Nat} {r : RelD} {a b c : Option Addr} {ca cb cc : Nat} {zv tv : Value} {zs : List ByteArray} {ts : List TOut} (h : Zk w B p r a b c ca cb cc zv tv zs ts) (hb : Bw w w') : Zk w' B p r a b c ca cb cc zv tv zs ts :=
 h.fr (Fr.of_below (S := fun _ => False) hb) (fun _ _ => id) (fun _ _ => id)
theorem jvk {w : World} {p o : Nat} {t : TypeId} {v : Value} (h : ∃ cs, w.heap[p]? = some (.cells cs t (0, 0))) : ∃ cs, (w.setCell (ad p o) v).heap[p]? = some (.cells cs t (0, 0)) := by
 obtain ⟨cs, hc⟩ := h
 exact ⟨_, heap_setCell_same w p o cs t v hc⟩
theorem jgv {w : World} {base p : Nat} {e t : TypeId} {size : Nat} {v : Value} {n : Nat} {xs : List Value} (h : w.ownsRow base e size v n xs) (hp : ∃ cs, w.heap[p]? = some (.cells cs t (0, 0))) (az : e ≠ t) : some p ≠ v.ownBlock := fun hg => jer (jcc h hg.symm) hp az rfl
theorem jw8 {S : Nat -> Prop} {w w' : World} {p o : Nat} {v : Value} (h : Fr S w w') (hp : S p \/ w.heap.size <= p) : Fr S w (w'.setCell (ad p o) v) := by
 refine ⟨h.os, h.tape, h.output, by rw [World.size_setCell]; exact h.size, fun b hb hs => ?_⟩
 rw [Below.heap_setCell _ _ _ _ (fun e => ?_)]
 ·exact h.block b hb hs
 ·have e2 : b = p := e
  subst e2
  rcases hp with hp | hp
  ·exact hs hp
  ·omega
theorem Zk.pushZ {w w1 : World} {B p : Nat} {r : RelD} {a b c : Option Addr} {ca cb cc : Nat} {zv oU tv : Value} {zs : List ByteArray} {ts : List TOut} {z : ByteArray} (h : Zk w B p r a b c ca cb cc zv tv zs ts) (hl : ts.length = zs.length) (hg : w.grownBy w1 zv.ownBlock) (ho : w1.ownsRow B 9 1 oU (zs.length + 1) (zs.map Value.string ++ [.string z])) :
  Zk (w1.setCell (ad p 3) oU) B p r a b c ca cb cc oU tv (zs ++ [z]) ts /\ Fr (InC p zv tv) w (w1.setCell (ad p 3) oU) := by
 have f1 := Fr.of_grown hg
 have np : ¬ zv.ownBlock = some p := fun e => jgv h.zo h.typ (by decide) e.symm
 have t1 := jrd h.typ f1 np
 have v1 := h.v.fr f1 np
 have o1 := jc7 h.to_ f1 (fun g hg e => jer (jcc h.to_ hg) (jcc h.zo e) (by decide) rfl)
 have T1 : ∀ (i : Nat) z t, zs[i]? = some z -> ts[i]? = some t -> Jh w1 t (tabD r z) := fun i z t hz ht => (h.tab i z t hz ht).fr f1 (fun g hg e => jer hg (jcc h.zo e) (by decide) rfl)
 have G := jek w1 p 3 oU
 refine ⟨⟨v1.set _, jvk t1, h.hp, ?_, World.ownsRow.kept o1 G (.inr (Ne.symm (jgv o1 t1 (by decide)))), fun i z2 t hz ht => ?_⟩, jw8 (f1.mono fun g _ e => .inr (.inl e)) (.inl (.inl rfl))⟩
 ·have := World.ownsRow.kept ho G (.inr (Ne.symm (jgv ho t1 (by decide))))
  simpa using this
 ·have hi : i < ts.length := (List.getElem?_eq_some_iff.1 ht).1
  rw [lgl (by omega)] at hz
  exact (T1 i z2 t hz ht).fr (Fr.of_grown G) (fun g hg e => jer hg t1 (by decide) (by injection e with e; exact e.symm))
theorem Zk.pushT {w w1 : World} {B p : Nat} {r : RelD} {a b c : Option Addr} {ca cb cc : Nat} {zv tv ny : Value} {zs : List ByteArray} {ts : List TOut} {z : ByteArray} {t : TOut} (h : Zk w B p r a b c ca cb cc zv tv (zs ++ [z]) ts) (hl : ts.length = zs.length) (hE : Jh w t (tabD r z)) (hg : w.grownBy w1 tv.ownBlock) (ho : w1.ownsRow B 185 2 ny (ts.length + 1) ((ts.map TOut.cs).flatten ++ t.cs)) :
  Zk (w1.setCell (ad p 4) ny) B p r a b c ca cb cc zv ny (zs ++ [z]) (ts ++ [t]) /\ Fr (InC p zv tv) w (w1.setCell (ad p 4) ny) := by
 have f1 := Fr.of_grown hg
 have np : ¬ tv.ownBlock = some p := fun e => jgv h.to_ h.typ (by decide) e.symm
 have t1 := jrd h.typ f1 np
 have v1 := h.v.fr f1 np
 have o1 := jc7 h.zo f1 (fun g hg e => jer (jcc h.zo hg) (jcc h.to_ e) (by decide) rfl)
 have K1 : ∀ {t : TOut} {x : Int × List TurnD}, Jh w t x -> Jh w1 t x := fun hE => hE.fr f1 (fun g hg e => jer hg (jcc h.to_ e) (by decide) rfl)
 have G := jek w1 p 4 ny
 have K2 : ∀ {t : TOut} {x : Int × List TurnD}, Jh w1 t x -> Jh (w1.setCell (ad p 4) ny) t x := fun hE => hE.fr (Fr.of_grown G) (fun g hg e => jer hg t1 (by decide) (by injection e with e; exact e.symm))
 refine ⟨⟨v1.set _, jvk t1, h.hp, World.ownsRow.kept o1 G (.inr (Ne.symm (jgv o1 t1 (by decide)))), ?_, fun i z2 t2 hz ht => ?_⟩, jw8 (f1.mono fun g _ e => .inr (.inr e)) (.inl (.inl rfl))⟩
 ·have := World.ownsRow.kept ho G (.inr (Ne.symm (jgv ho t1 (by decide))))
  rw [lla, lma, List.flatten_append]
  simpa using this
 ·rcases Nat.lt_or_ge i ts.length with hi | hi
  ·rw [lgl hi] at ht
   exact K2 (K1 (h.tab i z2 t2 hz ht))
  ·rw [List.getElem?_append_right hi] at ht
   rw [List.getElem?_append_right (by omega)] at hz
   have e0 : i - ts.length = 0 := by
    rcases Nat.eq_zero_or_pos (i - ts.length) with e | e
    ·exact e
    ·rw [List.getElem?_eq_none (by simp; omega)] at ht; cases ht
   rw [e0] at ht
   rw [<- hl, e0] at hz
   simp only [List.getElem?_cons_zero, Option.some.injEq] at ht hz
   subst ht hz
   exact K2 (K1 hE)
def jeq (zs : List ByteArray) (z : ByteArray) : Nat -> Int
 | 0 => -1
 | k + 1 => match zs[k]? with
  | some y => if (y.toList == z.toList) = true then (k : Int) else jeq zs z k
  | none => jeq zs z k
theorem jod {zs : List ByteArray} {z y : ByteArray} {k : Nat} (hy : zs[k]? = some y) (h : (y.toList == z.toList) = true) : jeq zs z (k + 1) = k := by rw [jeq, hy]; simp only; rw [if_pos h]
theorem jr3 {zs : List ByteArray} {z y : ByteArray} {k : Nat} (hy : zs[k]? = some y) (h : (y.toList == z.toList) = false) : jeq zs z (k + 1) = jeq zs z k := by rw [jeq, hy]; simp only; rw [if_neg (by rw [h]; simp)]
theorem jl9 (zs : List ByteArray) (z : ByteArray) : ∀ n, jeq zs z n = -1 \/ ∃ j : Nat, jeq zs z n = j /\ zs[j]? = some z
 | 0 => .inl rfl
 | n + 1 => by
  cases hy : zs[n]? with
  | none =>
   rw [jeq, hy]
   exact jl9 zs z n
  | some y =>
   cases hb : (y.toList == z.toList)
   ·rw [jr3 hy hb]
    exact jl9 zs z n
   ·refine .inr ⟨n, jod hy hb, ?_⟩
    have e := eq_of_beq hb
    rw [toList_dataA, toList_dataA] at e
    rw [hy, j0q e]
structure InstP (B p : Nat) (r : RelD) (a b c : Option Addr) (ca cb cc : Nat) (zv tv : Value) (zs : List ByteArray) (e : EventD) (w : World) (q : Ending) (w' : World) : Prop where
 ex : q = .returned (.tuple #[iv (momR r e).1, .bool (momR r e).2])
 cache : ∃ oU ny Eg Hy, Zk w' B p r a b c ca cb cc oU ny Eg Hy /\ Hy.length = Eg.length /\ Eg.length <= zs.length + 1 /\ ∀ g, InC p oU ny g -> InC p zv tv g \/ w.heap.size <= g
 fr : Fr (InC p zv tv) w w'
end Go.Proofs.YtgiieknbckhofaaGreatDoor
