/- Packed. -/
import Derived.Test.YtgiieknbckhofaaGreatDoorHpUs
import Derived.Test.YtgiieknbckhofaaGreatDoorZonePs
import Derived.Test.YtgiieknbckhofaaGreatDoorTsQs
set_option maxRecDepth 20000
set_option maxHeartbeats 20000000
set_option linter.unusedSimpArgs false
namespace Go.Proofs.YtgiieknbckhofaaGreatDoor
section
open Go.RowKit Go.Sort
structure EraR (e : EraD) : Prop where
 off : -86400 <= e.offset /\ e.offset <= 86400
 unt : -62135596800 <= e.until_ /\ e.until_ <= 253402300799
 fmt : e.format.size <= 12
 sav : e.rules.size = 0 -> -7200 <= e.save /\ e.save <= 7200
 nam : e.rules.size <= 20
theorem jmq {e : EraD} {H : List HapD} (he : EraR e) (hH : ∀ h ∈ H, HapB h) (t : Int) : (-7200 <= (jar e H t).save /\ (jar e H t).save <= 7200) /\ (jar e H t).letter.size <= 6 := by
 by_cases h0 : e.rules.size = 0
 ·rw [jjt h0]
  exact ⟨he.sav h0, by simp [ByteArray.size]⟩
 ·rw [jeo h0]
  cases hc : hcnt H t with
  | zero =>
   refine ⟨by simp [jdg], ?_⟩
   show (jb3 H).size <= 6
   clear hc
   induction H with
   | nil => simp [jb3, ByteArray.size]
   | cons a H ih =>
    rw [jb3]
    split
    ·exact (hH a (by simp)).letter
    ·exact ih fun h hh => hH h (lmc _ hh)
  | succ m =>
   obtain ⟨x, hx⟩ : ∃ x, H[m]? = some x := ⟨_, lgg (by have := jw2 H t; omega)⟩
   have hB := hH x (lmg hx)
   simp only [jdg]
   rw [hx]
   exact ⟨hB.save, hB.letter⟩
def j3b (r : RelD) (last : Bool) (e : EraD) (st : List TurnD × Int) : List TurnD × Int :=
 if last = true then (ja8 (turnE e (ja2 r e.rules e.offset).1) (atsF st.2 (inX (ja2 r e.rules e.offset).1 st.2 253402300799)) st.1, 253402300799)
 else (if st.2 < endE e (ja2 r e.rules e.offset).1 st.2 then ja8 (turnE e (ja2 r e.rules e.offset).1) (atsF st.2 (inX (ja2 r e.rules e.offset).1 st.2 (endE e (ja2 r e.rules e.offset).1 st.2))) st.1 else st.1, endE e (ja2 r e.rules e.offset).1 st.2)
def stK (r : RelD) (E : List EraD) : Nat -> List TurnD × Int
 | 0 => ([], -62135596800)
 | k + 1 => match E[k]? with
  | some e => j3b r (decide (k + 1 = E.length)) e (stK r E k)
  | none => stK r E k
def okK (r : RelD) (E : List EraD) : Nat -> Bool
 | 0 => true
 | k + 1 => okK r E k && (match E[k]? with | some e => (ja2 r e.rules e.offset).2 | none => true)
def tabE (r : RelD) (E : List EraD) : List TurnD × Bool := if okK r E E.length = true then ((stK r E E.length).1, decide ((stK r E E.length).1.length <= 600)) else ([], false)
theorem j09 {r : RelD} {E : List EraD} {k : Nat} {e : EraD} (he : E[k]? = some e) (h : (ja2 r e.rules e.offset).2 = false) : ∀ {n : Nat}, k < n -> okK r E n = false := by
 intro n
 induction n with
 | zero => intro hn; omega
 | succ n ih =>
  intro hn
  rw [okK]
  by_cases e1 : k = n
  ·subst e1; rw [he]; simp [h]
  ·rw [ih (by omega)]; rfl
theorem jv2 {r : RelD} {E : List EraD} {k : Nat} {e : EraD} (he : E[k]? = some e) (h : (ja2 r e.rules e.offset).2 = true) (hk : okK r E k = true) : okK r E (k + 1) = true := by rw [okK, hk, he]; simp [h]
theorem jlr {r : RelD} {E : List EraD} {k : Nat} {e : EraD} {T : List TurnD} {b : Int} (he : E[k]? = some e) (hk : k + 1 = E.length) (hs : stK r E k = (T, b)) : stK r E (k + 1) = (ja8 (turnE e (ja2 r e.rules e.offset).1) (atsF b (inX (ja2 r e.rules e.offset).1 b 253402300799)) T, 253402300799) := by
 rw [stK, he]
 simp only
 rw [dte hk, hs]
 rfl
theorem jlq {r : RelD} {E : List EraD} {k : Nat} {e : EraD} {T : List TurnD} {b : Int} (he : E[k]? = some e) (hk : ¬ k + 1 = E.length) (hs : stK r E k = (T, b)) : stK r E (k + 1) = (if b < endE e (ja2 r e.rules e.offset).1 b then ja8 (turnE e (ja2 r e.rules e.offset).1) (atsF b (inX (ja2 r e.rules e.offset).1 b (endE e (ja2 r e.rules e.offset).1 b))) T else T, endE e (ja2 r e.rules e.offset).1 b) := by
 rw [stK, he]
 simp only
 rw [dfe hk, hs]
 rfl
theorem j11 {r : RelD} {E : List EraD} : ∀ k, (-62135596800 <= (stK r E k).2 /\ (stK r E k).2 <= 253402300799) /\ (stK r E k).1.length <= 2001 * k := by
 intro k
 induction k with
 | zero => simp [stK]
 | succ k ih =>
  rw [stK]
  split
  ·rename_i e he
   obtain ⟨⟨i1, i2⟩, i3⟩ := ih
   have hl := jeb (r := r) (nm := e.rules) (off := e.offset)
   generalize (ja2 r e.rules e.offset).1 = H at *
   have hx : ∀ n, (atsF (stK r E k).2 (inX H (stK r E k).2 n)).length <= 2001 := fun n => by
    have h1 := jjy (stK r E k).2 (inX H (stK r E k).2 n)
    have h2 := jdq H (stK r E k).2 n
    omega
   unfold j3b
   split
   ·refine ⟨by simp, ?_⟩
    have h1 := jed (turnE e (ja2 r e.rules e.offset).1) (atsF (stK r E k).2 (inX (ja2 r e.rules e.offset).1 (stK r E k).2 253402300799)) (stK r E k).1
    have h2 := jjy (stK r E k).2 (inX (ja2 r e.rules e.offset).1 (stK r E k).2 253402300799)
    have h3 := jdq (ja2 r e.rules e.offset).1 (stK r E k).2 253402300799
    have h4 := jeb (r := r) (nm := e.rules) (off := e.offset)
    show (ja8 _ _ _).length <= _
    omega
   ·refine ⟨?_, ?_⟩
    ·show _ <= endE e _ _ /\ endE e _ _ <= _
     unfold endE
     omega
    ·show (if _ then _ else _ : List TurnD).length <= _
     split
     ·have h1 := jed (turnE e (ja2 r e.rules e.offset).1) (atsF (stK r E k).2 (inX (ja2 r e.rules e.offset).1 (stK r E k).2 (endE e (ja2 r e.rules e.offset).1 (stK r E k).2))) (stK r E k).1
      have h2 := jjy (stK r E k).2 (inX (ja2 r e.rules e.offset).1 (stK r E k).2 (endE e (ja2 r e.rules e.offset).1 (stK r E k).2))
      have h3 := jdq (ja2 r e.rules e.offset).1 (stK r E k).2 (endE e (ja2 r e.rules e.offset).1 (stK r E k).2)
      have h4 := jeb (r := r) (nm := e.rules) (off := e.offset)
      omega
     ·omega
  ·omega
end
section
open Go.RowKit Go.Sort
structure TurnsP (r : RelD) (E : List EraD) (w : World) (q : Ending) (W' : World) : Prop where
 ex : ∃ v b T, q = .returned (.tuple #[v, .bool b]) /\ Zf W' w.heap.size v T /\ tabE r E = (T, b) /\ Bw w W'
theorem jp2 {P : List RuleD} : ∀ r ∈ P.map RuleD.cs, r.length = 9 := fun r hr => by
 obtain ⟨x, _, rfl⟩ := List.mem_map.mp hr
 rfl
theorem jvr {x : RuleD} (h : jaw x = true) : onB x.on = true := by
 unfold jaw at h
 simp only [bat] at h
 exact h.2.2.2.2.1
theorem jom (r : RelD) (E : List EraD) (ae : Option Addr) (JN mb base : Nat) (w : World) (hE : Za w ae 6 (E.map EraD.cs)) (hM : Jr w base mb r.rules) (bT : Zz w) (hr : ∀ x ∈ r.rules, jaw x = true) (fx : r.rules.length <= 40) (hP : ∀ e ∈ E, EraR e) (hl : E.length <= 8) :
  Cl 250 #[.slice ae E.length JN, .map (some mb)] w fun q W' => TurnsP r E w q W' := by
 have HR := hid hr
 have HP := hid hP
 have vy : MxA w := bT.2
 have HM := hid hM
 have HV := hid bT
 clear hr hP hM bT
 go_enter Tryz.func250, Tryz.ntmps250
 go_wp2
 go_loopw [6, 7, 19] (fun s6 s7 Eu wr => ∃ (k : Nat) (a6 : Option Addr) (m6 c6 : Nat), k <= E.length /\ s6 = .slice a6 m6 c6 /\ s7 = iv (stK r E k).2 /\ Eu = iv k /\ Zf wr w.heap.size (.slice a6 m6 c6) (stK r E k).1 /\ Hid (okK r E k = true) /\ Bw w wr) (fun _ _ Eu _ => E.length - (intOf Eu).toNat)
 case atStart => exact ⟨0, none, 0, 0, by omega, rfl, rfl, rfl, World.ownsRow_nil _ _ _ _, rfl, brf _ _⟩
 case round =>
  obtain ⟨k, a6, m6, c6, hk, rfl, fj, rfl, hT, j6, hB⟩ := hrel
  obtain ⟨⟨hb1, ac⟩, fq⟩ := j11 (r := r) (E := E) k
  by_cases hlt : k < E.length
  ·obtain ⟨e, he⟩ := qgg hlt
   have eR := HP.out e (lmg he)
   obtain ⟨be, oe, rfl, hc⟩ := (hE.below hB).at (i := k) (r := e.cs) (by rw [lgm, he]; rfl)
   have c0 : wr.cell? ⟨be, oe + k * 6, none⟩ = some (iv e.offset) := hc 0 _ rfl
   have c1 := hc 1 _ rfl
   have c2 := hc 2 _ rfl
   have c3 := hc 3 _ rfl
   have c4 := hc 4 _ rfl
   have c5 := hc 5 _ rfl
   obtain ⟨⟨T0, b⟩, fG⟩ := qeb (stK r E k)
   rw [fG] at hT fj hb1 ac fq
   simp only at hT fj hb1 ac fq
   subst fj
   have dX := hB.size
   have dK := qal wr (.cells #[iv e.offset, .string e.rules, iv e.save, .string e.format, iv e.until_, .string e.of] 178)
   have aj : Bw w (wr.alloc (.cells #[iv e.offset, .string e.rules, iv e.save, .string e.format, iv e.until_, .string e.of] 178)) := hB.alloc dX _
   obtain ⟨kq, ks, ku, kw, kB, kD⟩ : (fun z : World => z.cell? ⟨wr.heap.size, 0, none⟩ = some (iv e.offset) /\ z.cell? ⟨wr.heap.size, 1, none⟩ = some (.string e.rules) /\ z.cell? ⟨wr.heap.size, 2, none⟩ = some (iv e.save) /\ z.cell? ⟨wr.heap.size, 3, none⟩ = some (.string e.format) /\ z.cell? ⟨wr.heap.size, 4, none⟩ = some (iv e.until_) /\ z.cell? ⟨wr.heap.size, 5, none⟩ = some (.string e.of)) (wr.alloc (.cells #[iv e.offset, .string e.rules, iv e.save, .string e.format, iv e.until_, .string e.of] 178)) := by simp [go_sem]
   obtain ⟨vl, gK, oS, _⟩ := jwe (P := Tryz.prog) (T := 301) (HM.out.kept ⟨aj.os, aj.tape, aj.output, aj.size, fun k hk _ => aj.block k hk⟩) Tryz.underlying301 Tryz.underlying9 jm5 e.rules (by have := eR.nam; unfold maxLen; omega)
   obtain ⟨al, cl, rfl, Gj, _⟩ := jbd (rows := (jbt r.rules e.rules).map RuleD.cs) (by rw [llm]; exact oS) jp2
   have gK := gK (wr.alloc (.cells #[iv e.offset, .string e.rules, iv e.save, .string e.format, iv e.until_, .string e.of] 178)) rfl
   rw [llm] at gK
   have rj : ∀ x ∈ jbt r.rules e.rules, jaw x = true := fun x hx => HR.out x (List.mem_filter.mp hx).1
   have qm := HV.out.of_below aj
   have hH := jq1 (jbt r.rules e.rules) al cl e.offset (wr.alloc (.cells #[iv e.offset, .string e.rules, iv e.save, .string e.format, iv e.until_, .string e.of] 178)) Gj qm.1 qm.2 (fun x hx => jrr (rj x hx)) (Nat.le_trans (List.length_filter_le _ _) fx) (fun x hx => jze (jvr (rj x hx))) eR.off.1 eR.off.2
   have cH : (wr.alloc (.cells #[iv e.offset, .string e.rules, iv e.save, .string e.format, iv e.until_, .string e.of] 178)).heap.size = wr.heap.size + 1 := by simp
   rw [cH] at hH
   have fi : (k : Int) < (E.length : Int) := by omega
   clear hc oS Gj rj qm
   go_wp2_with fail
   refine hH.mono ?_
   rintro q w2 ⟨v2, H, bb, rfl, bC, cU, cG⟩
   obtain ⟨qq, jw⟩ := jz8 cU
   obtain ⟨a2, fY, rfl, nX⟩ := bC.seq
   have an := aj.trans (cG.mono (by omega))
   have kr := jaa (by first | exact cG | exact cH.symm ▸ cG) kq
   have kt := jaa (by first | exact cG | exact cH.symm ▸ cG) ks
   have kv := jaa (by first | exact cG | exact cH.symm ▸ cG) ku
   have kA := jaa (by first | exact cG | exact cH.symm ▸ cG) kw
   have kC := jaa (by first | exact cG | exact cH.symm ▸ cG) kB
   have kE := jaa (by first | exact cG | exact cH.symm ▸ cG) kD
   cases bb with
   | false =>
    have HX : Hid (tabE r E = ([], false)) := by simp only [Hid, tabE]; rw [j09 he jw.symm hlt]; rfl
    clear hH cU qq jw bC nX gK
    go_wp2
    exact bodyPost_ret (v := .tuple #[nS, .bool false]) (by simp [results, Tryz.results250, go_sem]) rfl ⟨⟨_, _, [], rfl, World.ownsRow_nil _ _ _ _, HX.out, an⟩⟩
   | true =>
    have sC : Hid (okK r E (k + 1) = true) := jv2 he jw.symm j6.out
    have oO := jmo (nm := e.rules) HR.out eR.off.1 eR.off.2
    have iY := jeb (r := r) (nm := e.rules) (off := e.offset)
    have nc := fun h => jlr (r := r) (T := T0) (b := b) he h fG
    have gC := fun h => jlq (r := r) (T := T0) (b := b) he h fG
    rw [<- qq] at oO iY nc gC
    have ox : Hid (∀ t, (-7200 <= (jar e H t).save /\ (jar e H t).save <= 7200) /\ (jar e H t).letter.size <= 6) := jmq eR oO
    have CQ := eR.fmt
    have jd := eR.off.1
    have tg := eR.off.2
    have iw : ∀ b o, a2 = some ⟨b, o, none⟩ -> wr.heap.size <= b /\ b < w2.heap.size := fun b o h => by
     have h1 := World.ownsRow.lt bC b (by rw [h]; rfl)
     omega
    have Cn := jot e H a2 fY wr.heap.size w2 nX iw (by have := cG.size; omega) (fun h hh => (oO h hh).at_) iY
    simp only [EraD.v] at Cn
    have ik := jad (jad hT dK) (by first | exact cG | exact cH.symm ▸ cG)
    have jL : ∀ g, (Value.slice a6 m6 c6).ownBlock = some g -> g < wr.heap.size := fun g hg => (World.ownsRow.lt hT g hg).2
    clear hH cU qq jw bC gK fG j6 hT
    go_wp2_with fail
    refine Cn.mono ?_
    rintro q w3 ⟨K, cap, rfl, eu, bu⟩
    have ay := qtr an bu
    have jx := jad ik bu
    have nY := nX.below bu
    have Gb : wr.heap.size <= w3.heap.size := by have h1 := cG.size; have h2 := bu.size; omega
    have vC : wr.heap.size < w3.heap.size := by have h1 := cG.size; have h2 := bu.size; omega
    have ru := dX
    have gh := jaa bu kr
    have eS := jaa bu kt
    have gi := jaa bu kv
    have gj := jaa bu kA
    have gk := jaa bu kC
    have gm := jaa bu kE
    clear Cn bu ik nX iw cG dK cH kq ks ku kw kB kD kr kt kv kA kC kE c0 c1 c2 c3 c4 c5
    obtain ⟨n0, nD⟩ := qeb wr.heap.size
    obtain ⟨nF, GV⟩ := qeb w3.heap.size
    rw [nD] at gh eS gi gj gk gm eu Gb vC jL ru
    rw [GV] at eu vC
    have nE : nF <= w3.heap.size := by omega
    rw [nD]
    clear nD GV aj an
    by_cases hla : k + 1 = E.length
    ·have hq : ((k : Int) == (E.length : Int) - 1) = true := by simp; omega
     have HS : Hid (stK r E (k + 1) = (ja8 (turnE e H) (atsF b (inX H b 253402300799)) T0, 253402300799)) := nc hla
     have eP := je1 H a2 fY b 253402300799 w3 nY iY
     clear nc gC hla
     go_wp2_with fail
     refine eP.mono ?_
     rintro q w5 ⟨vL, L, rfl, qw, vw, mW, aV⟩
     have HL : Hid (ja8 (turnE e H) L T0 = ja8 (turnE e H) (atsF b (inX H b 253402300799)) T0) := jkx (turnE e H) vw mW T0
     have sS : L.length <= 2001 := by have h1 := mW.length_eq; have h2 := jdq H b 253402300799; simp only [List.length_cons] at h1; omega
     obtain ⟨aL, mL, cL, DB⟩ := jac qw
     subst DB
     have sR : 0 < L.length := by have h1 := mW.length_eq; simp only [List.length_cons] at h1; omega
     obtain ⟨gL, Ah, mX, _, mg, vr, vt⟩ := qw.open sR
     injection mX with hLv1 hLv2 hLv3
     subst hLv1 hLv2 hLv3
     have uk := hid vt
     have bG := qtr ay aV
     have m5 : Mid n0 nF w3 w5 := Mid.of_below aV nE
     have iX := eu.mid m5
     have jq := jaa aV gh
     have jr := jaa aV eS
     have js := jaa aV gi
     have jt := jaa aV gj
     have ju := jaa aV gk
     have jv := jaa aV gm
     have gW := jad jx aV
     have uU : nF <= w5.heap.size := Nat.le_trans nE aV.size
     obtain ⟨n1, jj⟩ := qeb w5.heap.size
     have qs : gL < n1 := by rw [<- jj]; exact mg
     have qr : n0 <= gL := Nat.le_trans Gb vr
     have Dd : nF <= n1 := by rw [<- jj]; exact uU
     have lj : ∀ g, (Value.slice a6 m6 c6).ownBlock = some g -> g < n0 \/ n1 <= g := fun g hg => .inl (jL g hg)
     have cg : n0 < n1 := by omega
     have rm : n1 <= w5.heap.size := by omega
     have wR : w.heap.size <= n0 := ru
     clear qw vw mW vt aV mg vr jj uU
     go_wp2
     go_loopw [6, 61] (fun s6 sf wq => ∃ (j : Nat) (p : Option Addr) (m c : Nat), j <= L.length /\ sf = iv j /\ s6 = .slice p m c /\ Zf wq w.heap.size (.slice p m c) (ja8 (turnE e H) (L.take j) T0) /\ Hid (∀ g, (Value.slice p m c).ownBlock = some g -> g < n0 \/ n1 <= g) /\ Mid n0 n1 w5 wq /\ w5.heap.size <= wq.heap.size /\ Bw w wq) (fun _ sf _ => L.length - (intOf sf).toNat)
     case atStart => exact ⟨0, a6, m6, c6, by omega, rfl, rfl, gW, lj, Mid.refl _ _ _, nlr _, bG⟩
     case round =>
      obtain ⟨wq, rC⟩ := qea wr
      subst rC
      obtain ⟨j, p, m, c, hj, rfl, rfl, bS, jM, dB, jm, dA⟩ := hrel
      by_cases eY : j < L.length
      ·obtain ⟨t, ht⟩ := qgg eY
       have ct : wq.cell? ⟨gL, j, none⟩ = some (iv t) := dB.cell qr qs (uk.out j t ht)
       have ma : Hid (ja8 (turnE e H) (L.take (j + 1)) T0 = addT (ja8 (turnE e H) (L.take j) T0) (turnE e H t)) := by simp only [Hid]; rw [List.take_add_one, ht]; exact jgl _ _ _ _
       have oZ : (ja8 (turnE e H) (L.take j) T0).length <= 100000 := by
        have h1 := jed (turnE e H) (L.take j) T0
        have h2 : (L.take j).length <= L.length := by rw [List.length_take]; omega
        omega
       obtain ⟨TT, eP⟩ := qeb (ja8 (turnE e H) (L.take j) T0)
       rw [eP] at bS ma oZ
       have rJ := dB.cell (nlr _) cg jq
       have rK := dB.cell (nlr _) cg jr
       have rL := dB.cell (nlr _) cg js
       have rM := dB.cell (nlr _) cg jt
       have rN := dB.cell (nlr _) cg ju
       have rO := dB.cell (nlr _) cg jv
       have cj : Bw w wq.drew := dA.trans ((jab wq).mono dA.size)
       have hC := iX.tell wq.drew t (fun g h1 h2 => dB g h1 (by omega))
       have ze := iX.go
       obtain ⟨⟨sh, si⟩, MX⟩ := ox.out t
       have mm := fun w1 hM => ji7 e (jar e H t) t w1 hM (by have := CQ; omega) (by omega) jd tg sh si
       have oD : Hid (turnE e H t = jdn e (jar e H t) t) := rfl
       have qT := fun w1 h1 h2 => jfu TT (jdn e (jar e H t) t) (.slice p m c) w.heap.size w1 h1 h2 oZ
       generalize jar e H t = F at *
       obtain ⟨fa, fs, fl⟩ := F
       generalize jdn e ⟨fa, fs, fl⟩ t = X at *
       obtain ⟨xa, xo, xs, xb⟩ := X
       simp only [HapD.v, TurnD.v, EraD.v] at hC mm qT
       have Cu : Zf wq.drew w.heap.size (.slice p m c) TT := bS
       have rl : MxA wq.drew := MxA.of_below vy cj
       have nB : (j : Int) < (L.length : Int) := by omega
       have fh : ∀ g, (Value.slice p m c).ownBlock = some g -> ¬ g = n0 := fun g hg => by have := jM.out g hg; omega
       have nN : ∀ g, (Value.slice p m c).ownBlock = some g -> w.heap.size <= g := fun g hg => (World.ownsRow.lt bS g hg).1
       clear ht eP
       go_wp2_with fail
       go_region_held3 (fun w' => w'.cell? ⟨n0, 0, none⟩ = some (iv e.offset) /\ w'.cell? ⟨n0, 1, none⟩ = some (.string e.rules) /\ w'.cell? ⟨n0, 2, none⟩ = some (iv e.save) /\ w'.cell? ⟨n0, 3, none⟩ = some (.string e.format) /\ w'.cell? ⟨n0, 4, none⟩ = some (iv e.until_) /\ w'.cell? ⟨n0, 5, none⟩ = some (.string e.of)) (go_keep) (first | (refine hC.mono ?_; rintro q6 w6 ⟨rfl, hb6⟩; have rP := jaa hb6 rJ; have rT := jaa hb6 rK; have rV := jaa hb6 rL; have rX := jaa hb6 rM; have rZ := jaa hb6 rN; have sd := jaa hb6 rO; have j5 : Zf w6 w.heap.size (.slice p m c) TT := jad Cu hb6; have Da := MxA.of_below rl hb6; have ck : Bw w w6 := qtr cj hb6) | (go_at_call 281; refine (mm _ Da).mono ?_; rintro q7 w7 ⟨rfl, ax⟩; have rQ := jaa ax rP; have rU := jaa ax rT; have rW := jaa ax rV; have rY := jaa ax rX; have sc := jaa ax rZ; have se := jaa ax sd; have cr : Zf w7 w.heap.size (.slice p m c) TT := jad j5 ax; have dI : Bw w w7 := qtr ck ax) | (go_at_call 280; refine (qT _ cr dI.size).mono ?_; rintro q8 w8 ⟨v8, rfl, dv, cW, jK⟩; obtain ⟨p8, m8, c8, rfl⟩ := jac dv; have Es := cW.cell (fun hg => fh _ hg rfl) rQ; have Ev := cW.cell (fun hg => fh _ hg rfl) rU; have Ew := cW.cell (fun hg => fh _ hg rfl) rW; have Ex := cW.cell (fun hg => fh _ hg rfl) rY; have Ey := cW.cell (fun hg => fh _ hg rfl) sc; have Ez := cW.cell (fun hg => fh _ hg rfl) se))
       all_goals
        have uV : w5.heap.size <= w7.heap.size := by have h1 := hb6.size; have h2 := ax.size; have h3 : wq.drew.heap.size = wq.heap.size := rfl; omega
        have M7 : Mid n0 n1 w5 w7 := (dB.trans (Mid.of_below (n0 := n0) (n1 := n1) (jab wq) (by omega))).trans ((Mid.of_below (n0 := n0) (n1 := n1) hb6 (by have h3 : wq.drew.heap.size = wq.heap.size := rfl; omega)).trans (Mid.of_below (n0 := n0) (n1 := n1) ax (by have h1 := hb6.size; have h3 : wq.drew.heap.size = wq.heap.size := rfl; omega)))
        have M8 : Mid n0 n1 w5 w8 := M7.trans fun g h1 h2 => cW.block g (by omega) fun hg => by have := jM.out g hg; omega
        have B8 : Bw w w8 := dI.trans (cW.below (fun g hg => nN g hg) dI.size)
        have zS : Hid (Zf w8 w.heap.size (.slice p8 m8 c8) (ja8 (turnE e H) (L.take (j + 1)) T0)) := by rw [ma.out, oD.out]; exact dv
        have zM : Hid (∀ g, (Value.slice p8 m8 c8).ownBlock = some g -> g < n0 \/ n1 <= g) := fun g hg => by
         rcases jK with h | ⟨g2, h2, h3⟩
         ·exact jM.out g (h.symm.trans hg)
         ·rw [h2] at hg; injection hg with hg; omega
        have S8 : w5.heap.size <= w8.heap.size := Nat.le_trans uV cW.size
        clear dv cW jK M7 hb6 ax j5 cr hC mm qT
        go_wp2
        go_roundw
        case rel => exact ⟨j + 1, p8, m8, c8, by omega, by go_num, rfl, zS.out, zM, M8, S8, B8⟩
        case measure => simp [intOf]; omega
      ·have jI : j = L.length := by omega
       have mK : Hid (Zf wq w.heap.size (.slice p m c) (stK r E (k + 1)).1) := by rw [HS.out]; simp only; rw [<- HL.out]; rw [jI, List.take_length] at bS; exact bS
       have nB : ¬ (j : Int) < (L.length : Int) := by omega
       have mH : Hid ((stK r E (k + 1)).2 = 253402300799) := by simp only [Hid]; rw [HS.out]
       clear jI
       go_wp2
       go_roundw
       case rel => exact ⟨k + 1, p, m, c, by omega, rfl, by rw [mH.out], by go_num, mK.out, sC, dA⟩
       case measure => simp [intOf]; omega
    ·have hq : ((k : Int) == (E.length : Int) - 1) = false := by simp; omega
     have gC := gC hla
     have C9 := jq4 e H n0 nF K cap b w3 eu nE eR.unt.1 eR.unt.2 eR.off.1 eR.off.2 (fun t => (ox.out t).1)
     simp only [EraD.v] at C9
     have pk : b <= endE e H b /\ endE e H b <= 253402300799 := by unfold endE; omega
     clear nc hla
     generalize endE e H b = en at *
     go_wp2_with fail
     refine C9.mono ?_
     rintro q w4 ⟨rfl, dM⟩
     have aR := qtr ay dM
     have dC := jad jx dM
     have MV := nY.below dM
     have L0 : n0 <= w4.heap.size := by have h1 := dM.size; omega
     have wH : nF <= w4.heap.size := by have h1 := dM.size; omega
     have kP := eu.mid (Mid.of_below dM nE)
     have Al := jaa dM gh
     have Ap := jaa dM eS
     have As := jaa dM gi
     have Ax := jaa dM gj
     have AB := jaa dM gk
     have AG := jaa dM gm
     clear C9 dM nY jx eu gh eS gi gj gk gm ay
     by_cases hbe : b < en
     ·rw [if_pos hbe] at gC
      have HS := hid gC
      have eP := je1 H a2 fY b en w4 MV iY
      clear gC
      go_wp2_with fail
      refine eP.mono ?_
      rintro q w5 ⟨vL, L, rfl, qw, vw, mW, aV⟩
      have HL : Hid (ja8 (turnE e H) L T0 = ja8 (turnE e H) (atsF b (inX H b en)) T0) := jkx (turnE e H) vw mW T0
      have sS : L.length <= 2001 := by have h1 := mW.length_eq; have h2 := jdq H b en; simp only [List.length_cons] at h1; omega
      obtain ⟨aL, mL, cL, DB⟩ := jac qw
      subst DB
      have sR : 0 < L.length := by have h1 := mW.length_eq; simp only [List.length_cons] at h1; omega
      obtain ⟨gL, Ah, mX, _, mg, vr, vt⟩ := qw.open sR
      injection mX with hLv1 hLv2 hLv3
      subst hLv1 hLv2 hLv3
      have uk := hid vt
      have bG := qtr aR aV
      have m5 : Mid n0 nF w4 w5 := Mid.of_below aV wH
      have iX := kP.mid m5
      have jq := jaa aV Al
      have jr := jaa aV Ap
      have js := jaa aV As
      have jt := jaa aV Ax
      have ju := jaa aV AB
      have jv := jaa aV AG
      have gW := jad dC aV
      have uU : nF <= w5.heap.size := Nat.le_trans wH aV.size
      obtain ⟨n1, jj⟩ := qeb w5.heap.size
      have qs : gL < n1 := by rw [<- jj]; exact mg
      have qr : n0 <= gL := Nat.le_trans L0 vr
      have Dd : nF <= n1 := by rw [<- jj]; exact uU
      have lj : ∀ g, (Value.slice a6 m6 c6).ownBlock = some g -> g < n0 \/ n1 <= g := fun g hg => .inl (jL g hg)
      have cg : n0 < n1 := by omega
      have rm : n1 <= w5.heap.size := by omega
      have wR : w.heap.size <= n0 := ru
      clear qw vw mW vt aV mg vr jj uU
      go_wp2
      go_loopw [6, 61] (fun s6 sf wq => ∃ (j : Nat) (p : Option Addr) (m c : Nat), j <= L.length /\ sf = iv j /\ s6 = .slice p m c /\ Zf wq w.heap.size (.slice p m c) (ja8 (turnE e H) (L.take j) T0) /\ Hid (∀ g, (Value.slice p m c).ownBlock = some g -> g < n0 \/ n1 <= g) /\ Mid n0 n1 w5 wq /\ w5.heap.size <= wq.heap.size /\ Bw w wq) (fun _ sf _ => L.length - (intOf sf).toNat)
      case atStart => exact ⟨0, a6, m6, c6, by omega, rfl, rfl, gW, lj, Mid.refl _ _ _, nlr _, bG⟩
      case round =>
       obtain ⟨wq, rC⟩ := qea wr
       subst rC
       obtain ⟨j, p, m, c, hj, rfl, rfl, bS, jM, dB, jm, dA⟩ := hrel
       by_cases eY : j < L.length
       ·obtain ⟨t, ht⟩ := qgg eY
        have ct : wq.cell? ⟨gL, j, none⟩ = some (iv t) := dB.cell qr qs (uk.out j t ht)
        have ma : Hid (ja8 (turnE e H) (L.take (j + 1)) T0 = addT (ja8 (turnE e H) (L.take j) T0) (turnE e H t)) := by simp only [Hid]; rw [List.take_add_one, ht]; exact jgl _ _ _ _
        have oZ : (ja8 (turnE e H) (L.take j) T0).length <= 100000 := by
         have h1 := jed (turnE e H) (L.take j) T0
         have h2 : (L.take j).length <= L.length := by rw [List.length_take]; omega
         omega
        obtain ⟨TT, eP⟩ := qeb (ja8 (turnE e H) (L.take j) T0)
        rw [eP] at bS ma oZ
        have rJ := dB.cell (nlr _) cg jq
        have rK := dB.cell (nlr _) cg jr
        have rL := dB.cell (nlr _) cg js
        have rM := dB.cell (nlr _) cg jt
        have rN := dB.cell (nlr _) cg ju
        have rO := dB.cell (nlr _) cg jv
        have cj : Bw w wq.drew := dA.trans ((jab wq).mono dA.size)
        have hC := iX.tell wq.drew t (fun g h1 h2 => dB g h1 (by omega))
        have ze := iX.go
        obtain ⟨⟨sh, si⟩, MX⟩ := ox.out t
        have mm := fun w1 hM => ji7 e (jar e H t) t w1 hM (by have := CQ; omega) (by omega) jd tg sh si
        have oD : Hid (turnE e H t = jdn e (jar e H t) t) := rfl
        have qT := fun w1 h1 h2 => jfu TT (jdn e (jar e H t) t) (.slice p m c) w.heap.size w1 h1 h2 oZ
        generalize jar e H t = F at *
        obtain ⟨fa, fs, fl⟩ := F
        generalize jdn e ⟨fa, fs, fl⟩ t = X at *
        obtain ⟨xa, xo, xs, xb⟩ := X
        simp only [HapD.v, TurnD.v, EraD.v] at hC mm qT
        have Cu : Zf wq.drew w.heap.size (.slice p m c) TT := bS
        have rl : MxA wq.drew := MxA.of_below vy cj
        have nB : (j : Int) < (L.length : Int) := by omega
        have fh : ∀ g, (Value.slice p m c).ownBlock = some g -> ¬ g = n0 := fun g hg => by have := jM.out g hg; omega
        have nN : ∀ g, (Value.slice p m c).ownBlock = some g -> w.heap.size <= g := fun g hg => (World.ownsRow.lt bS g hg).1
        clear ht eP
        go_wp2_with fail
        go_region_held3 (fun w' => w'.cell? ⟨n0, 0, none⟩ = some (iv e.offset) /\ w'.cell? ⟨n0, 1, none⟩ = some (.string e.rules) /\ w'.cell? ⟨n0, 2, none⟩ = some (iv e.save) /\ w'.cell? ⟨n0, 3, none⟩ = some (.string e.format) /\ w'.cell? ⟨n0, 4, none⟩ = some (iv e.until_) /\ w'.cell? ⟨n0, 5, none⟩ = some (.string e.of)) (go_keep) (first | (refine hC.mono ?_; rintro q6 w6 ⟨rfl, hb6⟩; have rP := jaa hb6 rJ; have rT := jaa hb6 rK; have rV := jaa hb6 rL; have rX := jaa hb6 rM; have rZ := jaa hb6 rN; have sd := jaa hb6 rO; have j5 : Zf w6 w.heap.size (.slice p m c) TT := jad Cu hb6; have Da := MxA.of_below rl hb6; have ck : Bw w w6 := qtr cj hb6) | (go_at_call 281; refine (mm _ Da).mono ?_; rintro q7 w7 ⟨rfl, ax⟩; have rQ := jaa ax rP; have rU := jaa ax rT; have rW := jaa ax rV; have rY := jaa ax rX; have sc := jaa ax rZ; have se := jaa ax sd; have cr : Zf w7 w.heap.size (.slice p m c) TT := jad j5 ax; have dI : Bw w w7 := qtr ck ax) | (go_at_call 280; refine (qT _ cr dI.size).mono ?_; rintro q8 w8 ⟨v8, rfl, dv, cW, jK⟩; obtain ⟨p8, m8, c8, rfl⟩ := jac dv; have Es := cW.cell (fun hg => fh _ hg rfl) rQ; have Ev := cW.cell (fun hg => fh _ hg rfl) rU; have Ew := cW.cell (fun hg => fh _ hg rfl) rW; have Ex := cW.cell (fun hg => fh _ hg rfl) rY; have Ey := cW.cell (fun hg => fh _ hg rfl) sc; have Ez := cW.cell (fun hg => fh _ hg rfl) se))
        all_goals
         have uV : w5.heap.size <= w7.heap.size := by have h1 := hb6.size; have h2 := ax.size; have h3 : wq.drew.heap.size = wq.heap.size := rfl; omega
         have M7 : Mid n0 n1 w5 w7 := (dB.trans (Mid.of_below (n0 := n0) (n1 := n1) (jab wq) (by omega))).trans ((Mid.of_below (n0 := n0) (n1 := n1) hb6 (by have h3 : wq.drew.heap.size = wq.heap.size := rfl; omega)).trans (Mid.of_below (n0 := n0) (n1 := n1) ax (by have h1 := hb6.size; have h3 : wq.drew.heap.size = wq.heap.size := rfl; omega)))
         have M8 : Mid n0 n1 w5 w8 := M7.trans fun g h1 h2 => cW.block g (by omega) fun hg => by have := jM.out g hg; omega
         have B8 : Bw w w8 := dI.trans (cW.below (fun g hg => nN g hg) dI.size)
         have zS : Hid (Zf w8 w.heap.size (.slice p8 m8 c8) (ja8 (turnE e H) (L.take (j + 1)) T0)) := by rw [ma.out, oD.out]; exact dv
         have zM : Hid (∀ g, (Value.slice p8 m8 c8).ownBlock = some g -> g < n0 \/ n1 <= g) := fun g hg => by
          rcases jK with h | ⟨g2, h2, h3⟩
          ·exact jM.out g (h.symm.trans hg)
          ·rw [h2] at hg; injection hg with hg; omega
         have S8 : w5.heap.size <= w8.heap.size := Nat.le_trans uV cW.size
         clear dv cW jK M7 hb6 ax j5 cr hC mm qT
         go_wp2
         go_roundw
         case rel => exact ⟨j + 1, p8, m8, c8, by omega, by go_num, rfl, zS.out, zM, M8, S8, B8⟩
         case measure => simp [intOf]; omega
       ·have jI : j = L.length := by omega
        have mK : Hid (Zf wq w.heap.size (.slice p m c) (stK r E (k + 1)).1) := by rw [HS.out]; simp only; rw [<- HL.out]; rw [jI, List.take_length] at bS; exact bS
        have nB : ¬ (j : Int) < (L.length : Int) := by omega
        have mH : Hid ((stK r E (k + 1)).2 = en) := by simp only [Hid]; rw [HS.out]
        clear jI
        go_wp2
        go_roundw
        case rel => exact ⟨k + 1, p, m, c, by omega, rfl, by rw [mH.out], by go_num, mK.out, sC, dA⟩
        case measure => simp [intOf]; omega
     ·rw [if_neg hbe] at gC
      have mK : Hid (Zf w4 w.heap.size (.slice a6 m6 c6) (stK r E (k + 1)).1) := by rw [gC]; exact dC
      have mH : Hid ((stK r E (k + 1)).2 = en) := by simp only [Hid]; rw [gC]
      clear gC
      go_wp2
      go_roundw
      case rel => exact ⟨k + 1, a6, m6, c6, by omega, rfl, by rw [mH.out], by go_num, mK.out, sC, aR⟩
      case measure => simp [intOf]; omega
  ·have li : k = E.length := by omega
   have HX : Hid (tabE r E = ((stK r E k).1, decide ((stK r E k).1.length <= 600))) := by simp only [Hid, tabE]; rw [li] at j6 ⊢; rw [j6.out]; rfl
   have fi : ¬ (k : Int) < (E.length : Int) := by omega
   obtain ⟨⟨T0, b⟩, fG⟩ := qeb (stK r E k)
   rw [fG] at hT fj HX fq
   simp only at hT fj HX fq
   subst fj
   have hm : m6 = T0.length := by
    obtain ⟨a, cap, h, _⟩ := hT.seq
    injection h
   subst hm
   clear li fG
   by_cases h6 : T0.length <= 600
   ·have BT : (T0.length : Int) <= 600 := by omega
    rw [dte h6] at HX
    go_wp2
    exact bodyPost_ret (v := .tuple #[.slice a6 T0.length c6, .bool true]) (by simp [results, Tryz.results250, go_sem]) rfl ⟨⟨_, _, T0, rfl, hT, HX.out, hB⟩⟩
   ·have BT : ¬ (T0.length : Int) <= 600 := by omega
    rw [dfe h6] at HX
    go_wp2
    exact bodyPost_ret (v := .tuple #[.slice a6 T0.length c6, .bool false]) (by simp [results, Tryz.results250, go_sem]) rfl ⟨⟨_, _, T0, rfl, hT, HX.out, hB⟩⟩
end
section
open Go.RowKit Go.Sort
def tabD (r : RelD) (nm : ByteArray) : Int × List TurnD :=
 if nm.size <= 8000 then (if relB r = true then (if (jam r nm).eras = [] then (5, []) else (if (tabE r (jam r nm).eras).2 = true then (0, (tabE r (jam r nm).eras).1) else (7, []))) else (1, [])) else (2, [])
theorem j03 {r : RelD} {nm : ByteArray} (h : ¬ nm.size <= 8000) : tabD r nm = (2, []) := if_neg h
theorem j04 {r : RelD} {nm : ByteArray} (h : nm.size <= 8000) (h2 : relB r = false) : tabD r nm = (1, []) := by unfold tabD; rw [if_pos h, if_neg (by rw [h2]; simp)]
theorem jvb {r : RelD} {nm : ByteArray} (h : nm.size <= 8000) (h2 : relB r = true) (h3 : (jam r nm).eras = []) : tabD r nm = (5, []) := by unfold tabD; rw [if_pos h, if_pos h2, if_pos h3]
theorem jva {r : RelD} {nm : ByteArray} {T : List TurnD} (h : nm.size <= 8000) (h2 : relB r = true) (h3 : (jam r nm).eras ≠ []) (h4 : tabE r (jam r nm).eras = (T, false)) : tabD r nm = (7, []) := by unfold tabD; rw [if_pos h, if_pos h2, if_neg h3, h4]; rfl
theorem jvc {r : RelD} {nm : ByteArray} {T : List TurnD} (h : nm.size <= 8000) (h2 : relB r = true) (h3 : (jam r nm).eras ≠ []) (h4 : tabE r (jam r nm).eras = (T, true)) : tabD r nm = (0, T) := by unfold tabD; rw [if_pos h, if_pos h2, if_neg h3, h4]; rfl
theorem era_r {e : EraD} (h : eraP e = true) : EraR e := by
 unfold eraP at h
 simp only [bat, decide_eq_true_eq] at h
 obtain ⟨h1, h2, h3, h4, h5, h6, _⟩ := h
 have hf := odt h4
 unfold erB at h3
 refine ⟨⟨h1, h2⟩, ⟨h5, h6⟩, hf.2.1, fun h0 => ?_, ?_⟩
 ·have hE : e.rules.toList.isEmpty = true := by
   rw [toList_dataA, List.isEmpty_iff, <- List.length_eq_zero_iff, jai]
   exact h0
  rw [if_pos hE] at h3
  exact jax h3
 ·split at h3
  ·rename_i hE
   rw [toList_dataA, List.isEmpty_iff, <- List.length_eq_zero_iff, jai] at hE
   omega
  ·simp only [bat] at h3
   exact (jf7 h3.1).2.1
theorem je8 {r : RelD} {nm : ByteArray} (h : relB r = true) (aC : (jam r nm).eras ≠ []) : jbj (jam r nm) = true /\ ∃ i, jbh r.zones (jba r.links nm) = some i /\ r.zones[i]? = some (jam r nm) := by
 have hz : ∀ z ∈ r.zones, jbj z = true := by
  have h' := h
  unfold relB at h'
  simp only [bat, List.all_eq_true] at h'
  exact h'.2.2.1
 unfold jam at aC ⊢
 rw [if_pos h] at aC ⊢
 split at aC
 ·rename_i i hi
  split at aC
  ·rename_i z aF
   simp only [hi]
   exact ⟨hz z (lmg aF), i, rfl, aF⟩
  ·exact absurd rfl aC
 ·exact absurd rfl aC
theorem jh1 {z : ZoneD} (h : jbj z = true) : (1 <= z.eras.length /\ z.eras.length <= 8) /\ ∀ e ∈ z.eras, EraR e := by
 unfold jbj at h
 simp only [bat, List.all_eq_true] at h
 exact ⟨odt h.2.1, fun e he => era_r (h.2.2.1 e he)⟩
theorem jav {w : World} {b : Nat} {x0 x1 v0 v1 : Value} (h0 : w.cell? ⟨b, 0, none⟩ = some x0) (h1 : w.cell? ⟨b, 1, none⟩ = some x1) :
  ((w.setCell ⟨b, 0, none⟩ v0).setCell ⟨b, 1, none⟩ v1).cell? ⟨b, 0, none⟩ = some v0 /\ ((w.setCell ⟨b, 0, none⟩ v0).setCell ⟨b, 1, none⟩ v1).cell? ⟨b, 1, none⟩ = some v1 := by
 refine ⟨?_, ?_⟩
 ·rw [wco _ _ _ _ (by simp), wcs _ _ _ h0]
 ·refine wcs _ _ _ (u := x1) ?_
  rw [wco _ _ _ _ (by simp)]; exact h1
structure Ju (r : RelD) (nm : ByteArray) (w : World) (q : Ending) (W' : World) : Prop where
 ex : ∃ v, q = .returned (.agg #[v, iv (tabD r nm).1]) /\ Zf W' w.heap.size v (tabD r nm).2 /\ Bw w W'
theorem jcu {r : RelD} {nm : ByteArray} {w w1 : World} {c : Int} {b : Nat} (h : tabD r nm = (c, [])) (hB : Bw w w1) (hb : w.heap.size <= b) : Ju r nm w (.returned (.agg #[nS, iv c])) ((w1.setCell ⟨b, 0, none⟩ nS).setCell ⟨b, 1, none⟩ (iv c)) := by
 refine ⟨nS, by rw [h], by rw [h]; exact World.ownsRow_nil _ _ _ _, (hB.setCell hb _).setCell hb _⟩
theorem jrs {x : RuleD} (h : jaw x = true) : jaz x.name = true := by
 unfold jaw at h
 simp only [bat] at h
 exact h.1
theorem jo0 (r : RelD) (v : Value) (nm : ByteArray) (w : World) (bT : Zz w) (hv : Zd w v r) (ok : r.ok) (sm : r.small) (dr : ∀ x ∈ r.rules, x.on.size <= 1048576) (hm : nm.size <= maxLen) :
  Cl 214 #[v, .string nm] w fun q W' => Ju r nm w q W' := by
 unfold maxLen at hm
 obtain ⟨a, b, c, ca, cb, cc, rfl, hA, mR, oI⟩ := hv.form
 have hv : Zd w (.agg #[.slice a r.rules.length ca, .slice b r.zones.length cb, .slice c r.links.length cc]) r := ⟨⟨a, b, c, ca, cb, cc, rfl, hA, mR, oI⟩⟩
 clear mR oI
 have ag := (qal w (.cells #[.slice a r.rules.length ca, .slice b r.zones.length cb, .slice c r.links.length cc] 38)).alloc (by simp) (.cells #[nS, iv 0] 185)
 obtain ⟨fJ, fK, fL, dP, dQ, fk, fm⟩ : (fun z : World => z.cell? ⟨w.heap.size, 0, none⟩ = some (.slice a r.rules.length ca) /\ z.cell? ⟨w.heap.size, 1, none⟩ = some (.slice b r.zones.length cb) /\ z.cell? ⟨w.heap.size, 2, none⟩ = some (.slice c r.links.length cc) /\ z.cell? ⟨w.heap.size + 1, 0, none⟩ = some nS /\ z.cell? ⟨w.heap.size + 1, 1, none⟩ = some (iv 0) /\ z.frozen? ⟨w.heap.size + 1, 0, none⟩ = false /\ z.frozen? ⟨w.heap.size + 1, 1, none⟩ = false) ((w.alloc (.cells #[.slice a r.rules.length ca, .slice b r.zones.length cb, .slice c r.links.length cc] 38)).alloc (.cells #[nS, iv 0] 185)) := by simp [go_sem]
 by_cases h1 : nm.size <= 8000
 case neg =>
  have g1 : (8000 : Int) < (nm.size : Int) := by omega
  have HT : Hid (tabD r nm = (2, [])) := j03 h1
  have HP : Hid (Ju r nm w (.returned (.agg #[nS, iv 2])) ((w.alloc (.cells #[.slice a r.rules.length ca, .slice b r.zones.length cb, .slice c r.links.length cc] 38)).alloc (.cells #[nS, iv 2] 185))) := ⟨nS, by rw [HT.out], by rw [HT.out]; exact World.ownsRow_nil _ _ _ _, (qal w _).alloc (by simp) _⟩
  clear h1 HT
  go_enter Tryz.func214, Tryz.ntmps214
  go_wp2
  exact bodyPost_ret (v := .agg #[nS, iv 2]) (by simp [results, Tryz.results214, go_sem]) rfl HP.out
 have g1 : ¬ (8000 : Int) < (nm.size : Int) := by omega
 have hR := fun w hE (h : Zd w (.agg #[.slice a r.rules.length ca, .slice b r.zones.length cb, .slice c r.links.length cc]) r) => jbr r _ w hE h ok sm dr
 cases h2 : relB r
 case false =>
  have HT : Hid (tabD r nm = (1, [])) := j04 h1 h2
  rw [h2] at hR
  clear h2 h1
  go_enter Tryz.func214, Tryz.ntmps214
  go_wp2_with fail
  refine (hR _ (bT.of_below ag) (hv.below ag)).mono ?_
  rintro q w1 ⟨rfl, hb1⟩
  have aj := qtr ag hb1
  have fc := jaa hb1 fJ
  have fd := jaa hb1 fK
  have fe := jaa hb1 fL
  have dH := jaa hb1 dP
  have dR := jaa hb1 dQ
  have i8 := qfz hb1 dP fk
  have i9 := qfz hb1 dQ fm
  clear hb1 fJ fK fL dP dQ fk fm
  obtain ⟨t0, t1⟩ := jav (v0 := nS) (v1 := iv 1) dH dR
  have HP : Hid (Ju r nm w (.returned (.agg #[nS, iv 1])) ((w1.setCell ⟨w.heap.size + 1, 0, none⟩ nS).setCell ⟨w.heap.size + 1, 1, none⟩ (iv 1))) := jcu HT.out aj (by omega)
  go_wp2
  exact bodyPost_ret (v := .agg #[nS, iv 1]) (by simp [results, Tryz.results214, go_sem, t0, t1]) rfl HP.out
 have OA := hid h2
 have hl := jii h2
 have wj := hl.1
 have HL : Hid (∀ x ∈ r.rules, jaw x = true) := hl.2
 have hZ := fun w hE (h : Zd w (.agg #[.slice a r.rules.length ca, .slice b r.zones.length cb, .slice c r.links.length cc]) r) => jfd r _ nm w hE h ok sm dr
 have hN := fun w (h : Za w a 9 (r.rules.map RuleD.cs)) => jhl r.rules a ca w h wj (fun x hx => by have := (jf7 (jrs (HL.out x hx))).2.1; unfold maxLen; omega)
 have oL := fun h => jvb (nm := nm) h1 h2 h
 have qj := fun T h h' => jva (nm := nm) (T := T) h1 h2 h h'
 have qi := fun T h h' => jvc (nm := nm) (T := T) h1 h2 h h'
 have qI := fun h => je8 (nm := nm) h2 h
 rw [h2] at hR
 obtain ⟨⟨zn, E⟩, nP⟩ := qeb (jam r nm)
 rw [nP] at hZ oL qj qi qI
 simp only at hZ oL qj qi qI
 clear h2 hl nP
 go_enter Tryz.func214, Tryz.ntmps214
 go_wp2_with fail
 refine (hR _ (bT.of_below ag) (hv.below ag)).mono ?_
 rintro q w1 ⟨rfl, hb1⟩
 have aj := qtr ag hb1
 have fc := jaa hb1 fJ
 have fd := jaa hb1 fK
 have fe := jaa hb1 fL
 have dH := jaa hb1 dP
 have dR := jaa hb1 dQ
 have i8 := qfz hb1 dP fk
 have i9 := qfz hb1 dQ fm
 clear hb1 hR fJ fK fL dP dQ fk fm
 go_wp2_with fail
 refine (hZ _ (bT.of_below aj) (hv.below aj)).mono ?_
 rintro q w2 ⟨vz, rfl, vI, ac⟩
 have an := qtr aj ac
 have yl := jaa ac fc
 have ym := jaa ac fd
 have yn := jaa ac fe
 have iR := jaa ac dH
 have lO := jaa ac dR
 have pW := qfz ac dH i8
 have uN := qfz ac dR i9
 clear ac hZ fc fd fe dH dR i8 i9
 rcases vI with ⟨mV, rfl⟩ | ⟨g, cap, rfl, hgB, GI, hSE, _⟩
 ·have HT : Hid (tabD r nm = (5, [])) := oL mV
  have rd : ∀ w, (Instr.field 146 (.agg #[.string zn, nS]) 1).run Tryz.prog w = .ok nS w := fun _ => by kernel_rfl
  clear oL qj qi qI hN
  obtain ⟨t0, t1⟩ := jav (v0 := nS) (v1 := iv 5) iR lO
  have HP : Hid (Ju r nm w (.returned (.agg #[nS, iv 5])) ((w2.setCell ⟨w.heap.size + 1, 0, none⟩ nS).setCell ⟨w.heap.size + 1, 1, none⟩ (iv 5))) := jcu HT.out an (by omega)
  go_wp2
  exact bodyPost_ret (v := .agg #[nS, iv 5]) (by simp [results, Tryz.results214, go_sem, t0, t1]) rfl HP.out
 ·have rd : ∀ w, (Instr.field 146 (.agg #[.string zn, .slice (some ⟨g, 0, none⟩) E.length cap]) 1).run Tryz.prog w = .ok (.slice (some ⟨g, 0, none⟩) E.length cap) w := fun _ => by kernel_rfl
  by_cases eM : E = []
  ·subst eM
   simp only [List.length_nil] at rd
   have HT : Hid (tabD r nm = (5, [])) := oL rfl
   clear oL qj qi qI hN
   obtain ⟨t0, t1⟩ := jav (v0 := nS) (v1 := iv 5) iR lO
   have HP : Hid (Ju r nm w (.returned (.agg #[nS, iv 5])) ((w2.setCell ⟨w.heap.size + 1, 0, none⟩ nS).setCell ⟨w.heap.size + 1, 1, none⟩ (iv 5))) := jcu HT.out an (by omega)
   go_wp2
   exact bodyPost_ret (v := .agg #[nS, iv 5]) (by simp [results, Tryz.results214, go_sem, t0, t1]) rfl HP.out
  ·obtain ⟨mU, vg⟩ := jh1 (qI eM).1
   simp only at mU vg
   have aC : ¬ E.length = 0 := by omega
   have LI : ¬ (E.length : Int) = 0 := by omega
   go_wp2_with fail
   refine (hN _ (hA.below an)).mono ?_
   rintro q w3 ⟨rfl, fo, ar⟩
   have ay := qtr an ar
   have sn := jaa ar yl
   have sp := jaa ar ym
   have sq := jaa ar yn
   have lM := jaa ar iR
   have nV := jaa ar lO
   have pX := qfz ar iR pW
   have pY := qfz ar lO uN
   have qR := jom r E (some ⟨g, 0, none⟩) cap w2.heap.size (w2.heap.size + 1) w3 (hSE.below ar) fo (bT.of_below ay) HL.out wj vg mU.2
   clear ar hN yl ym yn iR lO pW uN
   go_wp2_with fail
   refine qR.mono ?_
   rintro q w4 ⟨v4, bb, T, rfl, dC, ja, az⟩
   have aR := qtr ay az
   have Nz := jaa az sn
   have NB := jaa az sp
   have NC := jaa az sq
   have xO := jaa az lM
   have xR := jaa az nV
   have Kl := qfz az lM pX
   have Kn := qfz az nV pY
   obtain ⟨a7, m7, d7, rfl⟩ := jac dC
   cases bb with
   | false =>
    have HT : Hid (tabD r nm = (7, [])) := qj T eM ja
    clear az qR ja oL qj qi qI dC sn sp sq lM nV pX pY
    obtain ⟨t0, t1⟩ := jav (v0 := nS) (v1 := iv 7) xO xR
    have HP : Hid (Ju r nm w (.returned (.agg #[nS, iv 7])) ((w4.setCell ⟨w.heap.size + 1, 0, none⟩ nS).setCell ⟨w.heap.size + 1, 1, none⟩ (iv 7))) := jcu HT.out aR (by omega)
    go_wp2
    exact bodyPost_ret (v := .agg #[nS, iv 7]) (by simp [results, Tryz.results214, go_sem, t0, t1]) rfl HP.out
   | true =>
    have HT : Hid (tabD r nm = (0, T)) := qi T eM ja
    have dp : ∀ g, (Value.slice a7 m7 d7).ownBlock = some g -> w3.heap.size <= g := fun g hg => (World.ownsRow.lt dC g hg).1
    have gR : w.heap.size + 1 < w3.heap.size := qbl lM
    have HP : Hid (Ju r nm w (.returned (.agg #[.slice a7 m7 d7, iv 0])) ((w4.setCell ⟨w.heap.size + 1, 0, none⟩ (.slice a7 m7 d7)).setCell ⟨w.heap.size + 1, 1, none⟩ (iv 0))) := ⟨.slice a7 m7 d7, by rw [HT.out], by
     rw [HT.out]
     have h1 := jak dC ay.size
     exact World.ownsRow.kept (World.ownsRow.kept h1 (jcl w4 _ 0 _) (by cases hv : (Value.slice a7 m7 d7).ownBlock with
      | none => exact .inl rfl
      | some g => exact .inr fun e => by have := dp g hv; injection e with e; omega)) (jcl _ _ 1 _) (by cases hv : (Value.slice a7 m7 d7).ownBlock with
      | none => exact .inl rfl
      | some g => exact .inr fun e => by have := dp g hv; injection e with e; omega), (aR.setCell (show w.heap.size <= w.heap.size + 1 by omega) _).setCell (show w.heap.size <= w.heap.size + 1 by omega) _⟩
    obtain ⟨t0, t1⟩ := jav (v0 := .slice a7 m7 d7) (v1 := iv 0) xO xR
    clear az qR ja oL qj qi qI dC sn sp sq lM nV pX pY
    go_wp2
    exact bodyPost_ret (v := .agg #[.slice a7 m7 d7, iv 0]) (by simp [results, Tryz.results214, go_sem, t0, t1]) rfl HP.out
end
section
open Go.RowKit Go.Sort
def UntE (E : List EraD) : Prop := ∀ k e, E[k]? = some e -> (e.until_ = 253402300799 ↔ k + 1 = E.length)
theorem jyi : ∀ {E : List EraD}, upB E = true -> ∀ {i j : Nat} {x y : EraD}, i < j -> E[i]? = some x -> E[j]? = some y -> x.until_ < y.until_ := by
 intro E
 induction E with
 | nil => intro _ i j x y _ hx; simp at hx
 | cons a E ih =>
  intro h i j x y gJ hx hy
  cases E with
  | nil =>
   cases j with
   | zero => omega
   | succ j => simp at hy
  | cons b E =>
   rw [upB, bat] at h
   have h1 := odt h.1
   cases j with
   | zero => omega
   | succ j =>
    rw [List.getElem?_cons_succ] at hy
    cases i with
    | zero =>
     simp at hx
     subst hx
     cases j with
     | zero => simp at hy; subst hy; exact h1
     | succ j =>
      have := ih h.2 (i := 0) (j := j + 1) (x := b) (y := y) (by omega) rfl hy
      omega
    | succ i => exact ih h.2 (i := i) (j := j) (by omega) (by simpa using hx) hy
theorem jx6 {z : ZoneD} (h : jbj z = true) : UntE z.eras := by
 unfold jbj at h
 simp only [bat] at h
 obtain ⟨_, hl, _, hu, hla⟩ := h
 have hl := odt hl
 intro k e he
 have fi := (lgs he).1
 obtain ⟨f, hf⟩ : ∃ f, z.eras[z.eras.length - 1]? = some f := ⟨_, lgg (by omega)⟩
 unfold laB2 at hla
 rw [hf] at hla
 simp only [bat, beq_iff_eq] at hla
 constructor
 ·intro h1
  rcases Nat.lt_or_ge (k + 1) z.eras.length with h2 | h2
  ·have := jyi hu (i := k) (j := z.eras.length - 1) (by omega) he hf
   omega
  ·omega
 ·intro h1
  have : k = z.eras.length - 1 := by omega
  subst this
  rw [hf] at he
  injection he with he
  subst he
  exact hla.1
theorem jxo {E : List EraD} (hU : UntE E) {k : Nat} {e : EraD} (he : E[k]? = some e) (h : k + 1 = E.length) (H : List HapD) (b : Int) : endS e H b = 253402300799 := if_pos ((hU k e he).mpr h)
theorem jxn {E : List EraD} (hU : UntE E) {k : Nat} {e : EraD} (he : E[k]? = some e) (h : ¬ k + 1 = E.length) (H : List HapD) (b : Int) : endS e H b = endE e H b := if_neg fun h1 => h ((hU k e he).mp h1)
theorem jk8 {r : RelD} {nm : ByteArray} {off : Int} (hr : ∀ x ∈ r.rules, jaw x = true) (h0 : nm.size = 0) : ja2 r nm off = ([], true) := by
 have hw : ∀ k, jap nm r.rules k = [] := by
  intro k
  induction k with
  | zero => rfl
  | succ k ih =>
   rw [jap, ih]
   split
   ·rename_i x hx
    split
    ·rename_i hn
     have h1 := (jf7 (jrs (hr x (lmg hx)))).1
     have h2 : x.name = nm := jh5 (beq_iff_eq.mp hn)
     rw [h2] at h1
     omega
    ·rfl
   ·rfl
 unfold ja2
 rw [hw, if_pos (by simp)]
 rfl
structure Jm (s : Nat) (v0 v1 v2 z0 z1 : Value) (W : World) : Prop where
 x0 : W.cell? ⟨s, 0, none⟩ = some v0
 x1 : W.cell? ⟨s, 1, none⟩ = some v1
 x2 : W.cell? ⟨s, 2, none⟩ = some v2
 y0 : W.cell? ⟨s + 1, 0, none⟩ = some z0
 y1 : W.cell? ⟨s + 1, 1, none⟩ = some z1
 r0 : W.cell? ⟨s + 1 + 1, 0, none⟩ = some nS
 f0 : W.frozen? ⟨s + 1 + 1, 0, none⟩ = false
 t : ∃ u, W.cell? ⟨s + 1 + 1 + 1, 0, none⟩ = some u
 f1 : W.frozen? ⟨s + 1 + 1 + 1, 0, none⟩ = false
theorem Jm.fr {s : Nat} {v0 v1 v2 z0 z1 : Value} {S : Nat -> Prop} {W W' : World} (h : Jm s v0 v1 v2 z0 z1 W) (hf : Fr S W W') (hs : ∀ g, S g -> s + 1 + 1 + 1 + 1 <= g) : Jm s v0 v1 v2 z0 z1 W' := by
 have n : ∀ k, k < s + 1 + 1 + 1 + 1 -> ¬ S k := fun k hk h => by have := hs k h; omega
 obtain ⟨u, hu⟩ := h.t
 exact ⟨hf.cell (n _ (by omega)) h.x0, hf.cell (n _ (by omega)) h.x1, hf.cell (n _ (by omega)) h.x2, hf.cell (n _ (by omega)) h.y0, hf.cell (n _ (by omega)) h.y1, hf.cell (n _ (by omega)) h.r0, (hf.frozen (qbl h.r0) (n (s + 1 + 1) (by omega))).trans h.f0, ⟨u, hf.cell (n _ (by omega)) hu⟩, (hf.frozen (qbl hu) (n (s + 1 + 1 + 1) (by omega))).trans h.f1⟩
theorem Jm.below {s : Nat} {v0 v1 v2 z0 z1 : Value} {W W' : World} (h : Jm s v0 v1 v2 z0 z1 W) (hb : Bw W W') : Jm s v0 v1 v2 z0 z1 W' := h.fr (S := fun _ => False) (Fr.of_below hb) fun _ h => h.elim
theorem Jm.set {s : Nat} {v0 v1 v2 z0 z1 : Value} {W : World} (h : Jm s v0 v1 v2 z0 z1 W) (u : Value) : Jm s v0 v1 v2 z0 z1 (W.setCell ⟨s + 1 + 1 + 1, 0, none⟩ u) := by
 obtain ⟨v, hv⟩ := h.t
 refine ⟨?_, ?_, ?_, ?_, ?_, ?_, by rw [World.frozen?_setCell]; exact h.f0, ⟨u, wcs _ _ _ hv⟩, by rw [World.frozen?_setCell]; exact h.f1⟩
 ·rw [wco _ _ _ _ (by simp)]; exact h.x0
 ·rw [wco _ _ _ _ (by simp)]; exact h.x1
 ·rw [wco _ _ _ _ (by simp)]; exact h.x2
 ·rw [wco _ _ _ _ (by simp)]; exact h.y0
 ·rw [wco _ _ _ _ (by simp)]; exact h.y1
 ·rw [wco _ _ _ _ (by simp)]; exact h.r0
structure TabSP (r : RelD) (E : List EraD) (w : World) (q : Ending) (W' : World) : Prop where
 ex : ∃ v b T, q = .returned (.tuple #[.agg #[v], .bool b]) /\ Zf W' w.heap.size v T /\ b = (tabE r E).2 /\ (b = true -> T = (tabE r E).1) /\ Bw w W'
end
end Go.Proofs.YtgiieknbckhofaaGreatDoor
