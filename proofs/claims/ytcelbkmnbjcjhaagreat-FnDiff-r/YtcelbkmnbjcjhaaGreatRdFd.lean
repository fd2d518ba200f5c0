/- Packed: Rd15 Rd18. -/
import Derived.Test.YtcelbkmnbjcjhaaGreatRdHd
import Derived.Test.YtcelbkmnbjcjhaaGreatRd12d
import Derived.Test.YtcelbkmnbjcjhaaGreatRd14d
import Derived.Test.YtcelbkmnbjcjhaaGreatRdGd
namespace Go.Proofs.YtcelbkmnbjcjhaaGreat
open Go.RowKit Go.Sort

theorem rd_line (B p K b n cap : Nat) (rv zv lv : Value) (more : Bool) (R : RelD) (evs : List Value) (w : World) (h : RdV w B p rv zv lv more R evs K) (hB : B ≤ w.heap.size) (hK : K ≤ 8001) (tb : ∃ cs, w.heap[b]? = some (.cells cs 9 (0, 0))) (hn : 1 ≤ n) (hn2 : n ≤ 8001) (hcap : n ≤ cap) (hW : WrdAt w b 0 n) :
  Calls Tryz.prog 63 #[.pointer (some ⟨p, 0, none⟩), .slice (some ⟨b, 0, none⟩) n cap] w fun e w' => LineP B p K w e w' := by
 cases more with
 | true => exact rd_lineMore B p K b n cap rv zv lv R evs w h hB hK hn2 hcap hW
 | false =>
  obtain ⟨s0, c0, z0⟩ := hW.ex 0 (by omega)
  rw [Nat.zero_add] at c0
  cases h0 : (s0.toList == [82, 117, 108, 101]) with
  | true => exact rd_lineRule B p K b n cap rv zv lv R evs w h hB hK hW hn s0 c0 h0
  | false =>
   cases h1 : (s0.toList == [90, 111, 110, 101]) with
   | true =>
    by_cases hn1 : n = 1
    ·
     subst hn1; exact rd_lineZone0 B p K b cap rv zv lv R evs w h s0 c0 h0 h1
    ·
     obtain ⟨s1, c1, z1⟩ := hW.ex 1 (by omega)
     rw [Nat.zero_add] at c1
     exact rd_lineZone B p K b n cap rv zv lv R evs w h hB hK tb (by omega) hn2 hcap hW s0 s1 c0 c1 z1 h0 h1
   | false =>
    cases h2 : (s0.toList == [76, 105, 110, 107]) with
    | true =>
     by_cases hn3 : n = 3
     ·
      subst hn3
      obtain ⟨s1, c1, z1⟩ := hW.ex 1 (by omega)
      obtain ⟨s2, c2, z2⟩ := hW.ex 2 (by omega)
      rw [Nat.zero_add] at c1 c2
      exact rd_lineLink B p K b cap rv zv lv R evs w h hB hK tb s0 s1 s2 c0 c1 c2 z1 z2 h0 h1 h2
     ·
      exact rd_lineLink0 B p K b n cap rv zv lv R evs w h s0 hn hn2 hn3 c0 h0 h1 h2
    | false => exact rd_lineNone B p K b n cap rv zv lv R evs w h s0 hn c0 h0 h1 h2
end Go.Proofs.YtcelbkmnbjcjhaaGreat
namespace Go.Proofs.YtcelbkmnbjcjhaaGreat
open Go.RowKit Go.Sort

theorem lineC : LineC := ⟨fun B p K b n cap rv zv lv more R evs w h hB hK tb hn hn2 hcap hW => rd_line B p K b n cap rv zv lv more R evs w h hB hK tb hn hn2 hcap hW⟩
theorem rd_ReleaseRead (s : ByteArray) (w : World) (hs : s.size ≤ 1000000) : Calls Tryz.prog 51 #[.string s] w fun e w' => RelP w e w' := rd_Release lineC s w hs
end Go.Proofs.YtcelbkmnbjcjhaaGreat
