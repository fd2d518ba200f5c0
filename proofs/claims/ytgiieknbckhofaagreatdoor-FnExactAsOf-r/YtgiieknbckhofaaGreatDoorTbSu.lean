/- Packed. -/
import Derived.Test.YtgiieknbckhofaaGreatDoorHpUu
import Derived.Test.YtgiieknbckhofaaGreatDoorZonePu
import Derived.Test.YtgiieknbckhofaaGreatDoorTsQu
set_option maxRecDepth 20000
set_option maxHeartbeats 20000000
set_option linter.unusedSimpArgs false
namespace Go.Proofs.YtgiieknbckhofaaGreatDoor
section
open Go.RowKit Go.Sort
structure EraR (e : EraD) : Prop where
 off : -86400 <= e.offset /\ e.offset <= 86400
 unt : -62135596800 <= e.until_ /\ e.until_ <= 253402300799
 fmt : e.format.size <= 12
 sav : e.rules.size = 0 -> -7200 <= e.save /\ e.save <= 7200
 nam : e.rules.size <= 20
theorem jml {e : EraD} {H : List HapD} (he : EraR e) (hH : ∀ h ∈ H, HapB h) (t : Int) : (-7200 <= (jas e H t).save /\ (jas e H t).save <= 7200) /\ (jas e H t).letter.size <= 6 := by
 by_cases h0 : e.rules.size = 0
 ·rw [jjp h0]
  exact ⟨he.sav h0, by simp [ByteArray.size]⟩
 ·rw [jel h0]
  cases hc : hcnt H t with
  | zero =>
   refine ⟨by simp [jdh], ?_⟩
   show (jb5 H).size <= 6
   clear hc
   induction H with
   | nil => simp [jb5, ByteArray.size]
   | cons a H ih =>
    rw [jb5]
    split
    ·exact (hH a (by simp)).letter
    ·exact ih fun h hh => hH h (lmc _ hh)
  | succ m =>
   obtain ⟨x, hx⟩ : ∃ x, H[m]? = some x := ⟨_, lgg (by have := jw0 H t; omega)⟩
   have hB := hH x (lmg hx)
   simp only [jdh]
   rw [hx]
   exact ⟨hB.save, hB.letter⟩
def j3a (r : RelD) (last : Bool) (e : EraD) (st : List TurnD × Int) : List TurnD × Int :=
 if last = true then (ja7 (turnE e (ja2 r e.rules e.offset).1) (atsF st.2 (inX (ja2 r e.rules e.offset).1 st.2 253402300799)) st.1, 253402300799)
 else (if st.2 < endE e (ja2 r e.rules e.offset).1 st.2 then ja7 (turnE e (ja2 r e.rules e.offset).1) (atsF st.2 (inX (ja2 r e.rules e.offset).1 st.2 (endE e (ja2 r e.rules e.offset).1 st.2))) st.1 else st.1, endE e (ja2 r e.rules e.offset).1 st.2)
def stK (r : RelD) (E : List EraD) : Nat -> List TurnD × Int
 | 0 => ([], -62135596800)
 | k + 1 => match E[k]? with
  | some e => j3a r (decide (k + 1 = E.length)) e (stK r E k)
  | none => stK r E k
def okK (r : RelD) (E : List EraD) : Nat -> Bool
 | 0 => true
 | k + 1 => okK r E k && (match E[k]? with | some e => (ja2 r e.rules e.offset).2 | none => true)
def tabE (r : RelD) (E : List EraD) : List TurnD × Bool := if okK r E E.length = true then ((stK r E E.length).1, decide ((stK r E E.length).1.length <= 600)) else ([], false)
theorem j09 {r : RelD} {E : List EraD} {k : Nat} {e : EraD} (he : E[k]? = some e) (h : (ja2 r e.rules e.offset).2 = false) : ∀ {n : Nat}, k < n -> okK r E n = false := by
 intro n
 induction n with
 | zero => intro hn; omega
 | succ n ih =>
  intro hn
  rw [okK]
  by_cases e1 : k = n
  ·subst e1; rw [he]; simp [h]
  ·rw [ih (by omega)]; rfl
theorem jvx {r : RelD} {E : List EraD} {k : Nat} {e : EraD} (he : E[k]? = some e) (h : (ja2 r e.rules e.offset).2 = true) (hk : okK r E k = true) : okK r E (k + 1) = true := by rw [okK, hk, he]; simp [h]
theorem jll {r : RelD} {E : List EraD} {k : Nat} {e : EraD} {T : List TurnD} {b : Int} (he : E[k]? = some e) (hk : k + 1 = E.length) (hs : stK r E k = (T, b)) : stK r E (k + 1) = (ja7 (turnE e (ja2 r e.rules e.offset).1) (atsF b (inX (ja2 r e.rules e.offset).1 b 253402300799)) T, 253402300799) := by
 rw [stK, he]
 simp only
 rw [dte hk, hs]
 rfl
theorem jlk {r : RelD} {E : List EraD} {k : Nat} {e : EraD} {T : List TurnD} {b : Int} (he : E[k]? = some e) (hk : ¬ k + 1 = E.length) (hs : stK r E k = (T, b)) : stK r E (k + 1) = (if b < endE e (ja2 r e.rules e.offset).1 b then ja7 (turnE e (ja2 r e.rules e.offset).1) (atsF b (inX (ja2 r e.rules e.offset).1 b (endE e (ja2 r e.rules e.offset).1 b))) T else T, endE e (ja2 r e.rules e.offset).1 b) := by
 rw [stK, he]
 simp only
 rw [dfe hk, hs]
 rfl
theorem j12 {r : RelD} {E : List EraD} : ∀ k, (-62135596800 <= (stK r E k).2 /\ (stK r E k).2 <= 253402300799) /\ (stK r E k).1.length <= 2001 * k := by
 intro k
 induction k with
 | zero => simp [stK]
 | succ k ih =>
  rw [stK]
  split
  ·rename_i e he
   obtain ⟨⟨i1, i2⟩, i3⟩ := ih
   have hl := jd8 (r := r) (nm := e.rules) (off := e.offset)
   generalize (ja2 r e.rules e.offset).1 = H at *
   have hx : ∀ n, (atsF (stK r E k).2 (inX H (stK r E k).2 n)).length <= 2001 := fun n => by
    have h1 := jju (stK r E k).2 (inX H (stK r E k).2 n)
    have h2 := jdr H (stK r E k).2 n
    omega
   unfold j3a
   split
   ·refine ⟨by simp, ?_⟩
    have h1 := jea (turnE e (ja2 r e.rules e.offset).1) (atsF (stK r E k).2 (inX (ja2 r e.rules e.offset).1 (stK r E k).2 253402300799)) (stK r E k).1
    have h2 := jju (stK r E k).2 (inX (ja2 r e.rules e.offset).1 (stK r E k).2 253402300799)
    have h3 := jdr (ja2 r e.rules e.offset).1 (stK r E k).2 253402300799
    have h4 := jd8 (r := r) (nm := e.rules) (off := e.offset)
    show (ja7 _ _ _).length <= _
    omega
   ·refine ⟨?_, ?_⟩
    ·show _ <= endE e _ _ /\ endE e _ _ <= _
     unfold endE
     omega
    ·show (if _ then _ else _ : List TurnD).length <= _
     split
     ·have h1 := jea (turnE e (ja2 r e.rules e.offset).1) (atsF (stK r E k).2 (inX (ja2 r e.rules e.offset).1 (stK r E k).2 (endE e (ja2 r e.rules e.offset).1 (stK r E k).2))) (stK r E k).1
      have h2 := jju (stK r E k).2 (inX (ja2 r e.rules e.offset).1 (stK r E k).2 (endE e (ja2 r e.rules e.offset).1 (stK r E k).2))
      have h3 := jdr (ja2 r e.rules e.offset).1 (stK r E k).2 (endE e (ja2 r e.rules e.offset).1 (stK r E k).2)
      have h4 := jd8 (r := r) (nm := e.rules) (off := e.offset)
      omega
     ·omega
  ·omega
end
section
open Go.RowKit Go.Sort
structure TurnsP (r : RelD) (E : List EraD) (w : World) (q : Ending) (W' : World) : Prop where
 ex : ∃ v b T, q = .returned (.tuple #[v, .bool b]) /\ Zg W' w.heap.size v T /\ tabE r E = (T, b) /\ Bw w W'
theorem jpu {P : List RuleD} : ∀ r ∈ P.map RuleD.cs, r.length = 9 := fun r hr => by
 obtain ⟨x, _, rfl⟩ := List.mem_map.mp hr
 rfl
theorem jvn {x : RuleD} (h : jav x = true) : onB x.on = true := by
 unfold jav at h
 simp only [bat] at h
 exact h.2.2.2.2.1
theorem joh (r : RelD) (E : List EraD) (ae : Option Addr) (J1 mb base : Nat) (w : World) (hE : Za w ae 6 (E.map EraD.cs)) (hM : Jq w base mb r.rules) (cp : Zy w) (hr : ∀ x ∈ r.rules, jav x = true) (fo : r.rules.length <= 40) (hP : ∀ e ∈ E, EraR e) (hl : E.length <= 8) :
  Cl 250 #[.slice ae E.length J1, .map (some mb)] w fun q W' => TurnsP r E w q W' := by
 have HR := hid hr
 have HP := hid hP
 have uC : MxA w := cp.2
 have HM := hid hM
 have HV := hid cp
 clear hr hP hM cp
 go_enter Tryz.func250, Tryz.ntmps250
 go_wp2
 go_loopw [6, 7, 19] (fun s6 s7 Dw wr => ∃ (k : Nat) (a6 : Option Addr) (m6 c6 : Nat), k <= E.length /\ s6 = .slice a6 m6 c6 /\ s7 = iv (stK r E k).2 /\ Dw = iv k /\ Zg wr w.heap.size (.slice a6 m6 c6) (stK r E k).1 /\ Hid (okK r E k = true) /\ Bw w wr) (fun _ _ Dw _ => E.length - (intOf Dw).toNat)
 case atStart => exact ⟨0, none, 0, 0, by omega, rfl, rfl, rfl, World.ownsRow_nil _ _ _ _, rfl, brf _ _⟩
 case round =>
  obtain ⟨k, a6, m6, c6, hk, rfl, ff, rfl, hT, iO, hB⟩ := hrel
  obtain ⟨⟨hb1, ac⟩, fj⟩ := j12 (r := r) (E := E) k
  by_cases hlt : k < E.length
  ·obtain ⟨e, he⟩ := qgg hlt
   have eR := HP.out e (lmg he)
   obtain ⟨be, oe, rfl, hc⟩ := (hE.below hB).at (i := k) (r := e.cs) (by rw [lgm, he]; rfl)
   have c0 : wr.cell? ⟨be, oe + k * 6, none⟩ = some (iv e.offset) := hc 0 _ rfl
   have c1 := hc 1 _ rfl
   have c2 := hc 2 _ rfl
   have c3 := hc 3 _ rfl
   have c4 := hc 4 _ rfl
   have c5 := hc 5 _ rfl
   obtain ⟨⟨T0, b⟩, fp⟩ := qeb (stK r E k)
   rw [fp] at hT ff hb1 ac fj
   simp only at hT ff hb1 ac fj
   subst ff
   have dB := hB.size
   have dG := qal wr (.cells #[iv e.offset, .string e.rules, iv e.save, .string e.format, iv e.until_, .string e.of] 178)
   have aj : Bw w (wr.alloc (.cells #[iv e.offset, .string e.rules, iv e.save, .string e.format, iv e.until_, .string e.of] 178)) := hB.alloc dB _
   obtain ⟨jY, k8, kd, kg, ki, km⟩ : (fun z : World => z.cell? ⟨wr.heap.size, 0, none⟩ = some (iv e.offset) /\ z.cell? ⟨wr.heap.size, 1, none⟩ = some (.string e.rules) /\ z.cell? ⟨wr.heap.size, 2, none⟩ = some (iv e.save) /\ z.cell? ⟨wr.heap.size, 3, none⟩ = some (.string e.format) /\ z.cell? ⟨wr.heap.size, 4, none⟩ = some (iv e.until_) /\ z.cell? ⟨wr.heap.size, 5, none⟩ = some (.string e.of)) (wr.alloc (.cells #[iv e.offset, .string e.rules, iv e.save, .string e.format, iv e.until_, .string e.of] 178)) := by simp [go_sem]
   obtain ⟨vl, gr, ol, _⟩ := jv9 (P := Tryz.prog) (T := 301) (HM.out.kept ⟨aj.os, aj.tape, aj.output, aj.size, fun k hk _ => aj.block k hk⟩) Tryz.underlying301 Tryz.underlying9 jm0 e.rules (by have := eR.nam; unfold maxLen; omega)
   obtain ⟨al, cl, rfl, FX, _⟩ := jbc (rows := (jbu r.rules e.rules).map RuleD.cs) (by rw [llm]; exact ol) jpu
   have gr := gr (wr.alloc (.cells #[iv e.offset, .string e.rules, iv e.save, .string e.format, iv e.until_, .string e.of] 178)) rfl
   rw [llm] at gr
   have qG : ∀ x ∈ jbu r.rules e.rules, jav x = true := fun x hx => HR.out x (List.mem_filter.mp hx).1
   have pL := HV.out.of_below aj
   have hH := jqs (jbu r.rules e.rules) al cl e.offset (wr.alloc (.cells #[iv e.offset, .string e.rules, iv e.save, .string e.format, iv e.until_, .string e.of] 178)) FX pL.1 pL.2 (fun x hx => jrj (qG x hx)) (Nat.le_trans (List.length_filter_le _ _) fo) (fun x hx => jze (jvn (qG x hx))) eR.off.1 eR.off.2
   have cH : (wr.alloc (.cells #[iv e.offset, .string e.rules, iv e.save, .string e.format, iv e.until_, .string e.of] 178)).heap.size = wr.heap.size + 1 := by simp
   rw [cH] at hH
   have fe : (k : Int) < (E.length : Int) := by omega
   clear hc ol FX qG pL
   go_wp2_with fail
   refine hH.mono ?_
   rintro q w2 ⟨v2, H, bb, rfl, br, cT, bG⟩
   obtain ⟨pQ, ji⟩ := jz7 cT
   obtain ⟨a2, fN, rfl, nj⟩ := br.seq
   have ao := aj.trans (bG.mono (by omega))
   have jZ := jaa (by first | exact bG | exact cH.symm ▸ bG) jY
   have ka := jaa (by first | exact bG | exact cH.symm ▸ bG) k8
   have ke := jaa (by first | exact bG | exact cH.symm ▸ bG) kd
   have kh := jaa (by first | exact bG | exact cH.symm ▸ bG) kg
   have kj := jaa (by first | exact bG | exact cH.symm ▸ bG) ki
   have ko := jaa (by first | exact bG | exact cH.symm ▸ bG) km
   cases bb with
   | false =>
    have HX : Hid (tabE r E = ([], false)) := by simp only [Hid, tabE]; rw [j09 he ji.symm hlt]; rfl
    clear hH cT pQ ji br nj gr
    go_wp2
    exact bpr (v := .tuple #[nS, .bool false]) (by simp [results, Tryz.results250, go_sem]) rfl ⟨⟨_, _, [], rfl, World.ownsRow_nil _ _ _ _, HX.out, ao⟩⟩
   | true =>
    have rR : Hid (okK r E (k + 1) = true) := jvx he ji.symm iO.out
    have oc := jmi (nm := e.rules) HR.out eR.off.1 eR.off.2
    have jO := jd8 (r := r) (nm := e.rules) (off := e.offset)
    have mm := fun h => jll (r := r) (T := T0) (b := b) he h fp
    have gi := fun h => jlk (r := r) (T := T0) (b := b) he h fp
    rw [<- pQ] at oc jO mm gi
    have nI : Hid (∀ t, (-7200 <= (jas e H t).save /\ (jas e H t).save <= 7200) /\ (jas e H t).letter.size <= 6) := jml eR oc
    have C0 := eR.fmt
    have iV := eR.off.1
    have sE := eR.off.2
    have ie : ∀ b o, a2 = some ⟨b, o, none⟩ -> wr.heap.size <= b /\ b < w2.heap.size := fun b o h => by
     have h1 := World.ownsRow.lt br b (by rw [h]; rfl)
     omega
    have Bo := joo e H a2 fN wr.heap.size w2 nj ie (by have := bG.size; omega) (fun h hh => (oc h hh).at_) jO
    simp only [EraD.v] at Bo
    have i5 := jad (jad hT dG) (by first | exact bG | exact cH.symm ▸ bG)
    have jx : ∀ g, (Value.slice a6 m6 c6).ownBlock = some g -> g < wr.heap.size := fun g hg => (World.ownsRow.lt hT g hg).2
    clear hH cT pQ ji br gr fp iO hT
    go_wp2_with fail
    refine Bo.mono ?_
    rintro q w3 ⟨K, cap, rfl, eh, bu⟩
    have ay := qtr ao bu
    have jj := jad i5 bu
    have nk := nj.below bu
    have FO : wr.heap.size <= w3.heap.size := by have h1 := bG.size; have h2 := bu.size; omega
    have uE : wr.heap.size < w3.heap.size := by have h1 := bG.size; have h2 := bu.size; omega
    have qO := dB
    have fR := jaa bu jZ
    have eL := jaa bu ka
    have fS := jaa bu ke
    have fT := jaa bu kh
    have fU := jaa bu kj
    have fV := jaa bu ko
    clear Bo bu i5 nj ie bG dG cH jY k8 kd kg ki km jZ ka ke kh kj ko c0 c1 c2 c3 c4 c5
    obtain ⟨n0, mH⟩ := qeb wr.heap.size
    obtain ⟨nF, GG⟩ := qeb w3.heap.size
    rw [mH] at fR eL fS fT fU fV eh FO uE jx qO
    rw [GG] at eh uE
    have mI : nF <= w3.heap.size := by omega
    rw [mH]
    clear mH GG aj ao
    by_cases hla : k + 1 = E.length
    ·have hq : ((k : Int) == (E.length : Int) - 1) = true := by simp; omega
     have HS : Hid (stK r E (k + 1) = (ja7 (turnE e H) (atsF b (inX H b 253402300799)) T0, 253402300799)) := mm hla
     have eH := jex H a2 fN b 253402300799 w3 nk jO
     clear mm gi hla
     go_wp2_with fail
     refine eH.mono ?_
     rintro q w5 ⟨vL, L, rfl, pW, uB, mg, aW⟩
     have HL : Hid (ja7 (turnE e H) L T0 = ja7 (turnE e H) (atsF b (inX H b 253402300799)) T0) := jku (turnE e H) uB mg T0
     have sj : L.length <= 2001 := by have h1 := mg.length_eq; have h2 := jdr H b 253402300799; simp only [List.length_cons] at h1; omega
     obtain ⟨aL, mL, cL, CL⟩ := jab pW
     subst CL
     have si : 0 < L.length := by have h1 := mg.length_eq; simp only [List.length_cons] at h1; omega
     obtain ⟨gL, zg, mh, _, ly, uy, uz⟩ := pW.open si
     injection mh with hLv1 hLv2 hLv3
     subst hLv1 hLv2 hLv3
     have tq := hid uz
     have bQ := qtr ay aW
     have m5 : Mid n0 nF w3 w5 := Mid.of_below aW mI
     have iL := eh.mid m5
     have jc := jaa aW fR
     have jd := jaa aW eL
     have je := jaa aW fS
     have jf := jaa aW fT
     have jg := jaa aW fU
     have jh := jaa aW fV
     have gN := jad jj aW
     have tZ : nF <= w5.heap.size := Nat.le_trans mI aW.size
     obtain ⟨n1, j6⟩ := qeb w5.heap.size
     have pS : gL < n1 := by rw [<- j6]; exact ly
     have pR : n0 <= gL := Nat.le_trans FO uy
     have Cr : nF <= n1 := by rw [<- j6]; exact tZ
     have kK : ∀ g, (Value.slice a6 m6 c6).ownBlock = some g -> g < n0 \/ n1 <= g := fun g hg => .inl (jx g hg)
     have bZ : n0 < n1 := by omega
     have qJ : n1 <= w5.heap.size := by omega
     have vM : w.heap.size <= n0 := qO
     clear pW uB mg uz aW ly uy j6 tZ
     go_wp2
     go_loopw [6, 61] (fun s6 ry wq => ∃ (j : Nat) (p : Option Addr) (m c : Nat), j <= L.length /\ ry = iv j /\ s6 = .slice p m c /\ Zg wq w.heap.size (.slice p m c) (ja7 (turnE e H) (L.take j) T0) /\ Hid (∀ g, (Value.slice p m c).ownBlock = some g -> g < n0 \/ n1 <= g) /\ Mid n0 n1 w5 wq /\ w5.heap.size <= wq.heap.size /\ Bw w wq) (fun _ ry _ => L.length - (intOf ry).toNat)
     case atStart => exact ⟨0, a6, m6, c6, by omega, rfl, rfl, gN, kK, Mid.refl _ _ _, nlr _, bQ⟩
     case round =>
      obtain ⟨wq, qR⟩ := qea wr
      subst qR
      obtain ⟨j, p, m, c, hj, rfl, rfl, bR, jy, dx, j9, dw⟩ := hrel
      by_cases eT : j < L.length
      ·obtain ⟨t, ht⟩ := qgg eT
       have ct : wq.cell? ⟨gL, j, none⟩ = some (iv t) := dx.cell pR pS (tq.out j t ht)
       have lm : Hid (ja7 (turnE e H) (L.take (j + 1)) T0 = addT (ja7 (turnE e H) (L.take j) T0) (turnE e H t)) := by simp only [Hid]; rw [List.take_add_one, ht]; exact jgg _ _ _ _
       have ow : (ja7 (turnE e H) (L.take j) T0).length <= 100000 := by
        have h1 := jea (turnE e H) (L.take j) T0
        have h2 : (L.take j).length <= L.length := by rw [List.length_take]; omega
        omega
       obtain ⟨TT, eH⟩ := qeb (ja7 (turnE e H) (L.take j) T0)
       rw [eH] at bR lm ow
       have qV := dx.cell (nlr _) bZ jc
       have qW := dx.cell (nlr _) bZ jd
       have qX := dx.cell (nlr _) bZ je
       have qY := dx.cell (nlr _) bZ jf
       have qZ := dx.cell (nlr _) bZ jg
       have r8 := dx.cell (nlr _) bZ jh
       have ch : Bw w wq.drew := dw.trans ((jac wq).mono dw.size)
       have hC := iL.tell wq.drew t (fun g h1 h2 => dx g h1 (by omega))
       have iX := iL.go
       obtain ⟨⟨rC, rD⟩, MQ⟩ := nI.out t
       have lB := fun w1 hM => ji3 e (jas e H t) t w1 hM (by have := C0; omega) (by omega) iV sE rC rD
       have nO : Hid (turnE e H t = jdo e (jas e H t) t) := rfl
       have qr := fun w1 h1 h2 => jfr TT (jdo e (jas e H t) t) (.slice p m c) w.heap.size w1 h1 h2 ow
       generalize jas e H t = F at *
       obtain ⟨fa, fs, fl⟩ := F
       generalize jdo e ⟨fa, fs, fl⟩ t = X at *
       obtain ⟨xa, xo, xs, xb⟩ := X
       simp only [HapD.v, TurnD.v, EraD.v] at hC lB qr
       have Bz : Zg wq.drew w.heap.size (.slice p m c) TT := bR
       have qI : MxA wq.drew := MxA.of_below uC ch
       have mF : (j : Int) < (L.length : Int) := by omega
       have fd : ∀ g, (Value.slice p m c).ownBlock = some g -> ¬ g = n0 := fun g hg => by have := jy.out g hg; omega
       have mS : ∀ g, (Value.slice p m c).ownBlock = some g -> w.heap.size <= g := fun g hg => (World.ownsRow.lt bR g hg).1
       clear ht eH
       go_wp2_with fail
       go_region_held3 (fun w' => w'.cell? ⟨n0, 0, none⟩ = some (iv e.offset) /\ w'.cell? ⟨n0, 1, none⟩ = some (.string e.rules) /\ w'.cell? ⟨n0, 2, none⟩ = some (iv e.save) /\ w'.cell? ⟨n0, 3, none⟩ = some (.string e.format) /\ w'.cell? ⟨n0, 4, none⟩ = some (iv e.until_) /\ w'.cell? ⟨n0, 5, none⟩ = some (.string e.of)) (go_keep) (first | (refine hC.mono ?_; rintro q6 w6 ⟨rfl, hb6⟩; have rd := jaa hb6 qV; have rh := jaa hb6 qW; have rj := jaa hb6 qX; have rl := jaa hb6 qY; have rp := jaa hb6 qZ; have rt := jaa hb6 r8; have iN : Zg w6 w.heap.size (.slice p m c) TT := jad Bz hb6; have Cn := MxA.of_below qI hb6; have cG : Bw w w6 := qtr ch hb6) | (go_at_call 281; refine (lB _ Cn).mono ?_; rintro q7 w7 ⟨rfl, aC⟩; have re := jaa aC rd; have ri := jaa aC rh; have rk := jaa aC rj; have rm := jaa aC rl; have rr := jaa aC rp; have ru := jaa aC rt; have cC : Zg w7 w.heap.size (.slice p m c) TT := jad iN aC; have dE : Bw w w7 := qtr cG aC) | (go_at_call 280; refine (qr _ cC dE.size).mono ?_; rintro q8 w8 ⟨v8, rfl, dI, cV, jw⟩; obtain ⟨p8, m8, c8, rfl⟩ := jab dI; have Du := cV.cell (fun hg => fd _ hg rfl) re; have Dy := cV.cell (fun hg => fd _ hg rfl) ri; have DA := cV.cell (fun hg => fd _ hg rfl) rk; have DC := cV.cell (fun hg => fd _ hg rfl) rm; have DE := cV.cell (fun hg => fd _ hg rfl) rr; have DG := cV.cell (fun hg => fd _ hg rfl) ru))
       all_goals
        have u9 : w5.heap.size <= w7.heap.size := by have h1 := hb6.size; have h2 := aC.size; have h3 : wq.drew.heap.size = wq.heap.size := rfl; omega
        have M7 : Mid n0 n1 w5 w7 := (dx.trans (Mid.of_below (n0 := n0) (n1 := n1) (jac wq) (by omega))).trans ((Mid.of_below (n0 := n0) (n1 := n1) hb6 (by have h3 : wq.drew.heap.size = wq.heap.size := rfl; omega)).trans (Mid.of_below (n0 := n0) (n1 := n1) aC (by have h1 := hb6.size; have h3 : wq.drew.heap.size = wq.heap.size := rfl; omega)))
        have M8 : Mid n0 n1 w5 w8 := M7.trans fun g h1 h2 => cV.block g (by omega) fun hg => by have := jy.out g hg; omega
        have B8 : Bw w w8 := dE.trans (cV.below (fun g hg => mS g hg) dE.size)
        have yN : Hid (Zg w8 w.heap.size (.slice p8 m8 c8) (ja7 (turnE e H) (L.take (j + 1)) T0)) := by rw [lm.out, nO.out]; exact dI
        have yH : Hid (∀ g, (Value.slice p8 m8 c8).ownBlock = some g -> g < n0 \/ n1 <= g) := fun g hg => by
         rcases jw with h | ⟨g2, h2, h3⟩
         ·exact jy.out g (h.symm.trans hg)
         ·rw [h2] at hg; injection hg with hg; omega
        have S8 : w5.heap.size <= w8.heap.size := Nat.le_trans u9 cV.size
        clear dI cV jw M7 hb6 aC iN cC hC lB qr
        go_wp2
        go_roundw
        case rel => exact ⟨j + 1, p8, m8, c8, by omega, by go_num, rfl, yN.out, yH, M8, S8, B8⟩
        case measure => simp [intOf]; omega
      ·have ju : j = L.length := by omega
       have lR : Hid (Zg wq w.heap.size (.slice p m c) (stK r E (k + 1)).1) := by rw [HS.out]; simp only; rw [<- HL.out]; rw [ju, List.take_length] at bR; exact bR
       have mF : ¬ (j : Int) < (L.length : Int) := by omega
       have lP : Hid ((stK r E (k + 1)).2 = 253402300799) := by simp only [Hid]; rw [HS.out]
       clear ju
       go_wp2
       go_roundw
       case rel => exact ⟨k + 1, p, m, c, by omega, rfl, by rw [lP.out], by go_num, lR.out, rR, dw⟩
       case measure => simp [intOf]; omega
    ·have hq : ((k : Int) == (E.length : Int) - 1) = false := by simp; omega
     have gi := gi hla
     have Bc := jqv e H n0 nF K cap b w3 eh mI eR.unt.1 eR.unt.2 eR.off.1 eR.off.2 (fun t => (nI.out t).1)
     simp only [EraD.v] at Bc
     have oB : b <= endE e H b /\ endE e H b <= 253402300799 := by unfold endE; omega
     clear mm hla
     generalize endE e H b = en at *
     go_wp2_with fail
     refine Bc.mono ?_
     rintro q w4 ⟨rfl, dJ⟩
     have aS := qtr ay dJ
     have dX := jad jj dJ
     have MO := nk.below dJ
     have Kl : n0 <= w4.heap.size := by have h1 := dJ.size; omega
     have vt : nF <= w4.heap.size := by have h1 := dJ.size; omega
     have kA := eh.mid (Mid.of_below dJ mI)
     have zk := jaa dJ fR
     have zr := jaa dJ eL
     have zx := jaa dJ fS
     have zB := jaa dJ fT
     have zF := jaa dJ fU
     have zJ := jaa dJ fV
     clear Bc dJ nk jj eh fR eL fS fT fU fV ay
     by_cases hbe : b < en
     ·rw [if_pos hbe] at gi
      have HS := hid gi
      have eH := jex H a2 fN b en w4 MO jO
      clear gi
      go_wp2_with fail
      refine eH.mono ?_
      rintro q w5 ⟨vL, L, rfl, pW, uB, mg, aW⟩
      have HL : Hid (ja7 (turnE e H) L T0 = ja7 (turnE e H) (atsF b (inX H b en)) T0) := jku (turnE e H) uB mg T0
      have sj : L.length <= 2001 := by have h1 := mg.length_eq; have h2 := jdr H b en; simp only [List.length_cons] at h1; omega
      obtain ⟨aL, mL, cL, CL⟩ := jab pW
      subst CL
      have si : 0 < L.length := by have h1 := mg.length_eq; simp only [List.length_cons] at h1; omega
      obtain ⟨gL, zg, mh, _, ly, uy, uz⟩ := pW.open si
      injection mh with hLv1 hLv2 hLv3
      subst hLv1 hLv2 hLv3
      have tq := hid uz
      have bQ := qtr aS aW
      have m5 : Mid n0 nF w4 w5 := Mid.of_below aW vt
      have iL := kA.mid m5
      have jc := jaa aW zk
      have jd := jaa aW zr
      have je := jaa aW zx
      have jf := jaa aW zB
      have jg := jaa aW zF
      have jh := jaa aW zJ
      have gN := jad dX aW
      have tZ : nF <= w5.heap.size := Nat.le_trans vt aW.size
      obtain ⟨n1, j6⟩ := qeb w5.heap.size
      have pS : gL < n1 := by rw [<- j6]; exact ly
      have pR : n0 <= gL := Nat.le_trans Kl uy
      have Cr : nF <= n1 := by rw [<- j6]; exact tZ
      have kK : ∀ g, (Value.slice a6 m6 c6).ownBlock = some g -> g < n0 \/ n1 <= g := fun g hg => .inl (jx g hg)
      have bZ : n0 < n1 := by omega
      have qJ : n1 <= w5.heap.size := by omega
      have vM : w.heap.size <= n0 := qO
      clear pW uB mg uz aW ly uy j6 tZ
      go_wp2
      go_loopw [6, 61] (fun s6 ry wq => ∃ (j : Nat) (p : Option Addr) (m c : Nat), j <= L.length /\ ry = iv j /\ s6 = .slice p m c /\ Zg wq w.heap.size (.slice p m c) (ja7 (turnE e H) (L.take j) T0) /\ Hid (∀ g, (Value.slice p m c).ownBlock = some g -> g < n0 \/ n1 <= g) /\ Mid n0 n1 w5 wq /\ w5.heap.size <= wq.heap.size /\ Bw w wq) (fun _ ry _ => L.length - (intOf ry).toNat)
      case atStart => exact ⟨0, a6, m6, c6, by omega, rfl, rfl, gN, kK, Mid.refl _ _ _, nlr _, bQ⟩
      case round =>
       obtain ⟨wq, qR⟩ := qea wr
       subst qR
       obtain ⟨j, p, m, c, hj, rfl, rfl, bR, jy, dx, j9, dw⟩ := hrel
       by_cases eT : j < L.length
       ·obtain ⟨t, ht⟩ := qgg eT
        have ct : wq.cell? ⟨gL, j, none⟩ = some (iv t) := dx.cell pR pS (tq.out j t ht)
        have lm : Hid (ja7 (turnE e H) (L.take (j + 1)) T0 = addT (ja7 (turnE e H) (L.take j) T0) (turnE e H t)) := by simp only [Hid]; rw [List.take_add_one, ht]; exact jgg _ _ _ _
        have ow : (ja7 (turnE e H) (L.take j) T0).length <= 100000 := by
         have h1 := jea (turnE e H) (L.take j) T0
         have h2 : (L.take j).length <= L.length := by rw [List.length_take]; omega
         omega
        obtain ⟨TT, eH⟩ := qeb (ja7 (turnE e H) (L.take j) T0)
        rw [eH] at bR lm ow
        have qV := dx.cell (nlr _) bZ jc
        have qW := dx.cell (nlr _) bZ jd
        have qX := dx.cell (nlr _) bZ je
        have qY := dx.cell (nlr _) bZ jf
        have qZ := dx.cell (nlr _) bZ jg
        have r8 := dx.cell (nlr _) bZ jh
        have ch : Bw w wq.drew := dw.trans ((jac wq).mono dw.size)
        have hC := iL.tell wq.drew t (fun g h1 h2 => dx g h1 (by omega))
        have iX := iL.go
        obtain ⟨⟨rC, rD⟩, MQ⟩ := nI.out t
        have lB := fun w1 hM => ji3 e (jas e H t) t w1 hM (by have := C0; omega) (by omega) iV sE rC rD
        have nO : Hid (turnE e H t = jdo e (jas e H t) t) := rfl
        have qr := fun w1 h1 h2 => jfr TT (jdo e (jas e H t) t) (.slice p m c) w.heap.size w1 h1 h2 ow
        generalize jas e H t = F at *
        obtain ⟨fa, fs, fl⟩ := F
        generalize jdo e ⟨fa, fs, fl⟩ t = X at *
        obtain ⟨xa, xo, xs, xb⟩ := X
        simp only [HapD.v, TurnD.v, EraD.v] at hC lB qr
        have Bz : Zg wq.drew w.heap.size (.slice p m c) TT := bR
        have qI : MxA wq.drew := MxA.of_below uC ch
        have mF : (j : Int) < (L.length : Int) := by omega
        have fd : ∀ g, (Value.slice p m c).ownBlock = some g -> ¬ g = n0 := fun g hg => by have := jy.out g hg; omega
        have mS : ∀ g, (Value.slice p m c).ownBlock = some g -> w.heap.size <= g := fun g hg => (World.ownsRow.lt bR g hg).1
        clear ht eH
        go_wp2_with fail
        go_region_held3 (fun w' => w'.cell? ⟨n0, 0, none⟩ = some (iv e.offset) /\ w'.cell? ⟨n0, 1, none⟩ = some (.string e.rules) /\ w'.cell? ⟨n0, 2, none⟩ = some (iv e.save) /\ w'.cell? ⟨n0, 3, none⟩ = some (.string e.format) /\ w'.cell? ⟨n0, 4, none⟩ = some (iv e.until_) /\ w'.cell? ⟨n0, 5, none⟩ = some (.string e.of)) (go_keep) (first | (refine hC.mono ?_; rintro q6 w6 ⟨rfl, hb6⟩; have rd := jaa hb6 qV; have rh := jaa hb6 qW; have rj := jaa hb6 qX; have rl := jaa hb6 qY; have rp := jaa hb6 qZ; have rt := jaa hb6 r8; have iN : Zg w6 w.heap.size (.slice p m c) TT := jad Bz hb6; have Cn := MxA.of_below qI hb6; have cG : Bw w w6 := qtr ch hb6) | (go_at_call 281; refine (lB _ Cn).mono ?_; rintro q7 w7 ⟨rfl, aC⟩; have re := jaa aC rd; have ri := jaa aC rh; have rk := jaa aC rj; have rm := jaa aC rl; have rr := jaa aC rp; have ru := jaa aC rt; have cC : Zg w7 w.heap.size (.slice p m c) TT := jad iN aC; have dE : Bw w w7 := qtr cG aC) | (go_at_call 280; refine (qr _ cC dE.size).mono ?_; rintro q8 w8 ⟨v8, rfl, dI, cV, jw⟩; obtain ⟨p8, m8, c8, rfl⟩ := jab dI; have Du := cV.cell (fun hg => fd _ hg rfl) re; have Dy := cV.cell (fun hg => fd _ hg rfl) ri; have DA := cV.cell (fun hg => fd _ hg rfl) rk; have DC := cV.cell (fun hg => fd _ hg rfl) rm; have DE := cV.cell (fun hg => fd _ hg rfl) rr; have DG := cV.cell (fun hg => fd _ hg rfl) ru))
        all_goals
         have u9 : w5.heap.size <= w7.heap.size := by have h1 := hb6.size; have h2 := aC.size; have h3 : wq.drew.heap.size = wq.heap.size := rfl; omega
         have M7 : Mid n0 n1 w5 w7 := (dx.trans (Mid.of_below (n0 := n0) (n1 := n1) (jac wq) (by omega))).trans ((Mid.of_below (n0 := n0) (n1 := n1) hb6 (by have h3 : wq.drew.heap.size = wq.heap.size := rfl; omega)).trans (Mid.of_below (n0 := n0) (n1 := n1) aC (by have h1 := hb6.size; have h3 : wq.drew.heap.size = wq.heap.size := rfl; omega)))
         have M8 : Mid n0 n1 w5 w8 := M7.trans fun g h1 h2 => cV.block g (by omega) fun hg => by have := jy.out g hg; omega
         have B8 : Bw w w8 := dE.trans (cV.below (fun g hg => mS g hg) dE.size)
         have yN : Hid (Zg w8 w.heap.size (.slice p8 m8 c8) (ja7 (turnE e H) (L.take (j + 1)) T0)) := by rw [lm.out, nO.out]; exact dI
         have yH : Hid (∀ g, (Value.slice p8 m8 c8).ownBlock = some g -> g < n0 \/ n1 <= g) := fun g hg => by
          rcases jw with h | ⟨g2, h2, h3⟩
          ·exact jy.out g (h.symm.trans hg)
          ·rw [h2] at hg; injection hg with hg; omega
         have S8 : w5.heap.size <= w8.heap.size := Nat.le_trans u9 cV.size
         clear dI cV jw M7 hb6 aC iN cC hC lB qr
         go_wp2
         go_roundw
         case rel => exact ⟨j + 1, p8, m8, c8, by omega, by go_num, rfl, yN.out, yH, M8, S8, B8⟩
         case measure => simp [intOf]; omega
       ·have ju : j = L.length := by omega
        have lR : Hid (Zg wq w.heap.size (.slice p m c) (stK r E (k + 1)).1) := by rw [HS.out]; simp only; rw [<- HL.out]; rw [ju, List.take_length] at bR; exact bR
        have mF : ¬ (j : Int) < (L.length : Int) := by omega
        have lP : Hid ((stK r E (k + 1)).2 = en) := by simp only [Hid]; rw [HS.out]
        clear ju
        go_wp2
        go_roundw
        case rel => exact ⟨k + 1, p, m, c, by omega, rfl, by rw [lP.out], by go_num, lR.out, rR, dw⟩
        case measure => simp [intOf]; omega
     ·rw [if_neg hbe] at gi
      have lR : Hid (Zg w4 w.heap.size (.slice a6 m6 c6) (stK r E (k + 1)).1) := by rw [gi]; exact dX
      have lP : Hid ((stK r E (k + 1)).2 = en) := by simp only [Hid]; rw [gi]
      clear gi
      go_wp2
      go_roundw
      case rel => exact ⟨k + 1, a6, m6, c6, by omega, rfl, by rw [lP.out], by go_num, lR.out, rR, aS⟩
      case measure => simp [intOf]; omega
  ·have kJ : k = E.length := by omega
   have HX : Hid (tabE r E = ((stK r E k).1, decide ((stK r E k).1.length <= 600))) := by simp only [Hid, tabE]; rw [kJ] at iO ⊢; rw [iO.out]; rfl
   have fe : ¬ (k : Int) < (E.length : Int) := by omega
   obtain ⟨⟨T0, b⟩, fp⟩ := qeb (stK r E k)
   rw [fp] at hT ff HX fj
   simp only at hT ff HX fj
   subst ff
   have hm : m6 = T0.length := by
    obtain ⟨a, cap, h, _⟩ := hT.seq
    injection h
   subst hm
   clear kJ fp
   by_cases h6 : T0.length <= 600
   ·have AO : (T0.length : Int) <= 600 := by omega
    rw [dte h6] at HX
    go_wp2
    exact bpr (v := .tuple #[.slice a6 T0.length c6, .bool true]) (by simp [results, Tryz.results250, go_sem]) rfl ⟨⟨_, _, T0, rfl, hT, HX.out, hB⟩⟩
   ·have AO : ¬ (T0.length : Int) <= 600 := by omega
    rw [dfe h6] at HX
    go_wp2
    exact bpr (v := .tuple #[.slice a6 T0.length c6, .bool false]) (by simp [results, Tryz.results250, go_sem]) rfl ⟨⟨_, _, T0, rfl, hT, HX.out, hB⟩⟩
end
section
open Go.RowKit Go.Sort
def tabD (r : RelD) (nm : ByteArray) : Int × List TurnD :=
 if nm.size <= 8000 then (if relB r = true then (if (jan r nm).eras = [] then (5, []) else (if (tabE r (jan r nm).eras).2 = true then (0, (tabE r (jan r nm).eras).1) else (7, []))) else (1, [])) else (2, [])
theorem j03 {r : RelD} {nm : ByteArray} (h : ¬ nm.size <= 8000) : tabD r nm = (2, []) := if_neg h
theorem j04 {r : RelD} {nm : ByteArray} (h : nm.size <= 8000) (h2 : relB r = false) : tabD r nm = (1, []) := by unfold tabD; rw [if_pos h, if_neg (by rw [h2]; simp)]
theorem ju7 {r : RelD} {nm : ByteArray} (h : nm.size <= 8000) (h2 : relB r = true) (h3 : (jan r nm).eras = []) : tabD r nm = (5, []) := by unfold tabD; rw [if_pos h, if_pos h2, if_pos h3]
theorem ju6 {r : RelD} {nm : ByteArray} {T : List TurnD} (h : nm.size <= 8000) (h2 : relB r = true) (h3 : (jan r nm).eras ≠ []) (h4 : tabE r (jan r nm).eras = (T, false)) : tabD r nm = (7, []) := by unfold tabD; rw [if_pos h, if_pos h2, if_neg h3, h4]; rfl
theorem ju8 {r : RelD} {nm : ByteArray} {T : List TurnD} (h : nm.size <= 8000) (h2 : relB r = true) (h3 : (jan r nm).eras ≠ []) (h4 : tabE r (jan r nm).eras = (T, true)) : tabD r nm = (0, T) := by unfold tabD; rw [if_pos h, if_pos h2, if_neg h3, h4]; rfl
theorem era_r {e : EraD} (h : eraP e = true) : EraR e := by
 unfold eraP at h
 simp only [bat, decide_eq_true_eq] at h
 obtain ⟨h1, h2, h3, h4, h5, h6, _⟩ := h
 have hf := odt h4
 unfold erB at h3
 refine ⟨⟨h1, h2⟩, ⟨h5, h6⟩, hf.2.1, fun h0 => ?_, ?_⟩
 ·have hE : e.rules.toList.isEmpty = true := by
   rw [toList_dataA, List.isEmpty_iff, <- List.length_eq_zero_iff, jah]
   exact h0
  rw [if_pos hE] at h3
  exact jaw h3
 ·split at h3
  ·rename_i hE
   rw [toList_dataA, List.isEmpty_iff, <- List.length_eq_zero_iff, jah] at hE
   omega
  ·simp only [bat] at h3
   exact (jf4 h3.1).2.1
theorem je4 {r : RelD} {nm : ByteArray} (h : relB r = true) (az : (jan r nm).eras ≠ []) : jbi (jan r nm) = true /\ ∃ i, jbg r.zones (ja8 r.links nm) = some i /\ r.zones[i]? = some (jan r nm) := by
 have hz : ∀ z ∈ r.zones, jbi z = true := by
  have h' := h
  unfold relB at h'
  simp only [bat, List.all_eq_true] at h'
  exact h'.2.2.1
 unfold jan at az ⊢
 rw [if_pos h] at az ⊢
 split at az
 ·rename_i i hi
  split at az
  ·rename_i z aG
   simp only [hi]
   exact ⟨hz z (lmg aG), i, rfl, aG⟩
  ·exact absurd rfl az
 ·exact absurd rfl az
theorem jhv {z : ZoneD} (h : jbi z = true) : (1 <= z.eras.length /\ z.eras.length <= 8) /\ ∀ e ∈ z.eras, EraR e := by
 unfold jbi at h
 simp only [bat, List.all_eq_true] at h
 exact ⟨odt h.2.1, fun e he => era_r (h.2.2.1 e he)⟩
theorem jam {w : World} {b : Nat} {x0 x1 v0 v1 : Value} (h0 : w.cell? ⟨b, 0, none⟩ = some x0) (h1 : w.cell? ⟨b, 1, none⟩ = some x1) :
  ((w.setCell ⟨b, 0, none⟩ v0).setCell ⟨b, 1, none⟩ v1).cell? ⟨b, 0, none⟩ = some v0 /\ ((w.setCell ⟨b, 0, none⟩ v0).setCell ⟨b, 1, none⟩ v1).cell? ⟨b, 1, none⟩ = some v1 := by
 refine ⟨?_, ?_⟩
 ·rw [wco _ _ _ _ (by simp), wcs _ _ _ h0]
 ·refine wcs _ _ _ (u := x1) ?_
  rw [wco _ _ _ _ (by simp)]; exact h1
structure Jt (r : RelD) (nm : ByteArray) (w : World) (q : Ending) (W' : World) : Prop where
 ex : ∃ v, q = .returned (.agg #[v, iv (tabD r nm).1]) /\ Zg W' w.heap.size v (tabD r nm).2 /\ Bw w W'
theorem jcv {r : RelD} {nm : ByteArray} {w w1 : World} {c : Int} {b : Nat} (h : tabD r nm = (c, [])) (hB : Bw w w1) (hb : w.heap.size <= b) : Jt r nm w (.returned (.agg #[nS, iv c])) ((w1.setCell ⟨b, 0, none⟩ nS).setCell ⟨b, 1, none⟩ (iv c)) := by
 refine ⟨nS, by rw [h], by rw [h]; exact World.ownsRow_nil _ _ _ _, (hB.setCell hb _).setCell hb _⟩
theorem jrk {x : RuleD} (h : jav x = true) : jay x.name = true := by
 unfold jav at h
 simp only [bat] at h
 exact h.1
theorem jov (r : RelD) (v : Value) (nm : ByteArray) (w : World) (cp : Zy w) (hv : Zd w v r) (ok : r.ok) (sm : r.small) (dn : ∀ x ∈ r.rules, x.on.size <= 1048576) (hm : nm.size <= maxLen) :
  Cl 214 #[v, .string nm] w fun q W' => Jt r nm w q W' := by
 unfold maxLen at hm
 obtain ⟨a, b, c, ca, cb, cc, rfl, hA, lX, nU⟩ := hv.form
 have hv : Zd w (.agg #[.slice a r.rules.length ca, .slice b r.zones.length cb, .slice c r.links.length cc]) r := ⟨⟨a, b, c, ca, cb, cc, rfl, hA, lX, nU⟩⟩
 clear lX nU
 have ag := (qal w (.cells #[.slice a r.rules.length ca, .slice b r.zones.length cb, .slice c r.links.length cc] 38)).alloc (by simp) (.cells #[nS, iv 0] 185)
 obtain ⟨fw, fx, fy, dL, dM, fg, fh⟩ : (fun z : World => z.cell? ⟨w.heap.size, 0, none⟩ = some (.slice a r.rules.length ca) /\ z.cell? ⟨w.heap.size, 1, none⟩ = some (.slice b r.zones.length cb) /\ z.cell? ⟨w.heap.size, 2, none⟩ = some (.slice c r.links.length cc) /\ z.cell? ⟨w.heap.size + 1, 0, none⟩ = some nS /\ z.cell? ⟨w.heap.size + 1, 1, none⟩ = some (iv 0) /\ z.frozen? ⟨w.heap.size + 1, 0, none⟩ = false /\ z.frozen? ⟨w.heap.size + 1, 1, none⟩ = false) ((w.alloc (.cells #[.slice a r.rules.length ca, .slice b r.zones.length cb, .slice c r.links.length cc] 38)).alloc (.cells #[nS, iv 0] 185)) := by simp [go_sem]
 by_cases h1 : nm.size <= 8000
 case neg =>
  have g1 : (8000 : Int) < (nm.size : Int) := by omega
  have HT : Hid (tabD r nm = (2, [])) := j03 h1
  have HP : Hid (Jt r nm w (.returned (.agg #[nS, iv 2])) ((w.alloc (.cells #[.slice a r.rules.length ca, .slice b r.zones.length cb, .slice c r.links.length cc] 38)).alloc (.cells #[nS, iv 2] 185))) := ⟨nS, by rw [HT.out], by rw [HT.out]; exact World.ownsRow_nil _ _ _ _, (qal w _).alloc (by simp) _⟩
  clear h1 HT
  go_enter Tryz.func214, Tryz.ntmps214
  go_wp2
  exact bpr (v := .agg #[nS, iv 2]) (by simp [results, Tryz.results214, go_sem]) rfl HP.out
 have g1 : ¬ (8000 : Int) < (nm.size : Int) := by omega
 have hR := fun w hE (h : Zd w (.agg #[.slice a r.rules.length ca, .slice b r.zones.length cb, .slice c r.links.length cc]) r) => jbs r _ w hE h ok sm dn
 cases h2 : relB r
 case false =>
  have HT : Hid (tabD r nm = (1, [])) := j04 h1 h2
  rw [h2] at hR
  clear h2 h1
  go_enter Tryz.func214, Tryz.ntmps214
  go_wp2_with fail
  refine (hR _ (cp.of_below ag) (hv.below ag)).mono ?_
  rintro q w1 ⟨rfl, hb1⟩
  have aj := qtr ag hb1
  have eX := jaa hb1 fw
  have eY := jaa hb1 fx
  have f8 := jaa hb1 fy
  have dD := jaa hb1 dL
  have dN := jaa hb1 dM
  have gV := qfz hb1 dL fg
  have gW := qfz hb1 dM fh
  clear hb1 fw fx fy dL dM fg fh
  obtain ⟨t0, t1⟩ := jam (v0 := nS) (v1 := iv 1) dD dN
  have HP : Hid (Jt r nm w (.returned (.agg #[nS, iv 1])) ((w1.setCell ⟨w.heap.size + 1, 0, none⟩ nS).setCell ⟨w.heap.size + 1, 1, none⟩ (iv 1))) := jcv HT.out aj (by omega)
  go_wp2
  exact bpr (v := .agg #[nS, iv 1]) (by simp [results, Tryz.results214, go_sem, t0, t1]) rfl HP.out
 have Ow := hid h2
 have hl := jid h2
 have vk := hl.1
 have HL : Hid (∀ x ∈ r.rules, jav x = true) := hl.2
 have hZ := fun w hE (h : Zd w (.agg #[.slice a r.rules.length ca, .slice b r.zones.length cb, .slice c r.links.length cc]) r) => je9 r _ nm w hE h ok sm dn
 have hN := fun w (h : Za w a 9 (r.rules.map RuleD.cs)) => jhf r.rules a ca w h vk (fun x hx => by have := (jf4 (jrk (HL.out x hx))).2.1; unfold maxLen; omega)
 have nX := fun h => ju7 (nm := nm) h1 h2 h
 have pI := fun T h h' => ju6 (nm := nm) (T := T) h1 h2 h h'
 have pH := fun T h h' => ju8 (nm := nm) (T := T) h1 h2 h h'
 have qi := fun h => je4 (nm := nm) h2 h
 rw [h2] at hR
 obtain ⟨⟨zn, E⟩, mU⟩ := qeb (jan r nm)
 rw [mU] at hZ nX pI pH qi
 simp only at hZ nX pI pH qi
 clear h2 hl mU
 go_enter Tryz.func214, Tryz.ntmps214
 go_wp2_with fail
 refine (hR _ (cp.of_below ag) (hv.below ag)).mono ?_
 rintro q w1 ⟨rfl, hb1⟩
 have aj := qtr ag hb1
 have eX := jaa hb1 fw
 have eY := jaa hb1 fx
 have f8 := jaa hb1 fy
 have dD := jaa hb1 dL
 have dN := jaa hb1 dM
 have gV := qfz hb1 dL fg
 have gW := qfz hb1 dM fh
 clear hb1 hR fw fx fy dL dM fg fh
 go_wp2_with fail
 refine (hZ _ (cp.of_below aj) (hv.below aj)).mono ?_
 rintro q w2 ⟨vz, rfl, uL, ac⟩
 have ao := qtr aj ac
 have wR := jaa ac eX
 have wS := jaa ac eY
 have wT := jaa ac f8
 have iG := jaa ac dD
 have kY := jaa ac dN
 have pi := qfz ac dD gV
 have tR := qfz ac dN gW
 clear ac hZ eX eY f8 dD dN gV gW
 rcases uL with ⟨md, rfl⟩ | ⟨g, cap, rfl, hgB, Gs, hSE, _⟩
 ·have HT : Hid (tabD r nm = (5, [])) := nX md
  have qB : ∀ w, (Instr.field 146 (.agg #[.string zn, nS]) 1).run Tryz.prog w = .ok nS w := fun _ => by kernel_rfl
  clear nX pI pH qi hN
  obtain ⟨t0, t1⟩ := jam (v0 := nS) (v1 := iv 5) iG kY
  have HP : Hid (Jt r nm w (.returned (.agg #[nS, iv 5])) ((w2.setCell ⟨w.heap.size + 1, 0, none⟩ nS).setCell ⟨w.heap.size + 1, 1, none⟩ (iv 5))) := jcv HT.out ao (by omega)
  go_wp2
  exact bpr (v := .agg #[nS, iv 5]) (by simp [results, Tryz.results214, go_sem, t0, t1]) rfl HP.out
 ·have qB : ∀ w, (Instr.field 146 (.agg #[.string zn, .slice (some ⟨g, 0, none⟩) E.length cap]) 1).run Tryz.prog w = .ok (.slice (some ⟨g, 0, none⟩) E.length cap) w := fun _ => by kernel_rfl
  by_cases eE : E = []
  ·subst eE
   simp only [List.length_nil] at qB
   have HT : Hid (tabD r nm = (5, [])) := nX rfl
   clear nX pI pH qi hN
   obtain ⟨t0, t1⟩ := jam (v0 := nS) (v1 := iv 5) iG kY
   have HP : Hid (Jt r nm w (.returned (.agg #[nS, iv 5])) ((w2.setCell ⟨w.heap.size + 1, 0, none⟩ nS).setCell ⟨w.heap.size + 1, 1, none⟩ (iv 5))) := jcv HT.out ao (by omega)
   go_wp2
   exact bpr (v := .agg #[nS, iv 5]) (by simp [results, Tryz.results214, go_sem, t0, t1]) rfl HP.out
  ·obtain ⟨ma, um⟩ := jhv (qi eE).1
   simp only at ma um
   have az : ¬ E.length = 0 := by omega
   have L7 : ¬ (E.length : Int) = 0 := by omega
   go_wp2_with fail
   refine (hN _ (hA.below ao)).mono ?_
   rintro q w3 ⟨rfl, gY, av⟩
   have ay := qtr ao av
   have rI := jaa av wR
   have rJ := jaa av wS
   have rK := jaa av wT
   have kW := jaa av iG
   have mY := jaa av kY
   have pj := qfz av iG pi
   have pk := qfz av kY tR
   have qp := joh r E (some ⟨g, 0, none⟩) cap w2.heap.size (w2.heap.size + 1) w3 (hSE.below av) gY (cp.of_below ay) HL.out vk um ma.2
   clear av hN wR wS wT iG kY pi tR
   go_wp2_with fail
   refine qp.mono ?_
   rintro q w4 ⟨v4, bb, T, rfl, dX, iS, aD⟩
   have aS := qtr ay aD
   have Nw := jaa aD rI
   have Ny := jaa aD rJ
   have Nz := jaa aD rK
   have vY := jaa aD kW
   have we := jaa aD mY
   have JE := qfz aD kW pj
   have JG := qfz aD mY pk
   obtain ⟨a7, m7, d7, rfl⟩ := jab dX
   cases bb with
   | false =>
    have HT : Hid (tabD r nm = (7, [])) := pI T eE iS
    clear aD qp iS nX pI pH qi dX rI rJ rK kW mY pj pk
    obtain ⟨t0, t1⟩ := jam (v0 := nS) (v1 := iv 7) vY we
    have HP : Hid (Jt r nm w (.returned (.agg #[nS, iv 7])) ((w4.setCell ⟨w.heap.size + 1, 0, none⟩ nS).setCell ⟨w.heap.size + 1, 1, none⟩ (iv 7))) := jcv HT.out aS (by omega)
    go_wp2
    exact bpr (v := .agg #[nS, iv 7]) (by simp [results, Tryz.results214, go_sem, t0, t1]) rfl HP.out
   | true =>
    have HT : Hid (tabD r nm = (0, T)) := pH T eE iS
    have dl : ∀ g, (Value.slice a7 m7 d7).ownBlock = some g -> w3.heap.size <= g := fun g hg => (World.ownsRow.lt dX g hg).1
    have gH : w.heap.size + 1 < w3.heap.size := qbl kW
    have HP : Hid (Jt r nm w (.returned (.agg #[.slice a7 m7 d7, iv 0])) ((w4.setCell ⟨w.heap.size + 1, 0, none⟩ (.slice a7 m7 d7)).setCell ⟨w.heap.size + 1, 1, none⟩ (iv 0))) := ⟨.slice a7 m7 d7, by rw [HT.out], by
     rw [HT.out]
     have h1 := jak dX ay.size
     exact World.ownsRow.kept (World.ownsRow.kept h1 (jbw w4 _ 0 _) (by cases hv : (Value.slice a7 m7 d7).ownBlock with
      | none => exact .inl rfl
      | some g => exact .inr fun e => by have := dl g hv; injection e with e; omega)) (jbw _ _ 1 _) (by cases hv : (Value.slice a7 m7 d7).ownBlock with
      | none => exact .inl rfl
      | some g => exact .inr fun e => by have := dl g hv; injection e with e; omega), (aS.setCell (show w.heap.size <= w.heap.size + 1 by omega) _).setCell (show w.heap.size <= w.heap.size + 1 by omega) _⟩
    obtain ⟨t0, t1⟩ := jam (v0 := .slice a7 m7 d7) (v1 := iv 0) vY we
    clear aD qp iS nX pI pH qi dX rI rJ rK kW mY pj pk
    go_wp2
    exact bpr (v := .agg #[.slice a7 m7 d7, iv 0]) (by simp [results, Tryz.results214, go_sem, t0, t1]) rfl HP.out
end
section
open Go.RowKit Go.Sort
def UntE (E : List EraD) : Prop := ∀ k e, E[k]? = some e -> (e.until_ = 253402300799 ↔ k + 1 = E.length)
theorem jyi : ∀ {E : List EraD}, upB E = true -> ∀ {i j : Nat} {x y : EraD}, i < j -> E[i]? = some x -> E[j]? = some y -> x.until_ < y.until_ := by
 intro E
 induction E with
 | nil => intro _ i j x y _ hx; simp at hx
 | cons a E ih =>
  intro h i j x y gq hx hy
  cases E with
  | nil =>
   cases j with
   | zero => omega
   | succ j => simp at hy
  | cons b E =>
   rw [upB, bat] at h
   have h1 := odt h.1
   cases j with
   | zero => omega
   | succ j =>
    rw [List.getElem?_cons_succ] at hy
    cases i with
    | zero =>
     simp at hx
     subst hx
     cases j with
     | zero => simp at hy; subst hy; exact h1
     | succ j =>
      have := ih h.2 (i := 0) (j := j + 1) (x := b) (y := y) (by omega) rfl hy
      omega
    | succ i => exact ih h.2 (i := i) (j := j) (by omega) (by simpa using hx) hy
theorem jx6 {z : ZoneD} (h : jbi z = true) : UntE z.eras := by
 unfold jbi at h
 simp only [bat] at h
 obtain ⟨_, hl, _, hu, hla⟩ := h
 have hl := odt hl
 intro k e he
 have fe := (lgs he).1
 obtain ⟨f, hf⟩ : ∃ f, z.eras[z.eras.length - 1]? = some f := ⟨_, lgg (by omega)⟩
 unfold laB2 at hla
 rw [hf] at hla
 simp only [bat, beq_iff_eq] at hla
 constructor
 ·intro h1
  rcases Nat.lt_or_ge (k + 1) z.eras.length with h2 | h2
  ·have := jyi hu (i := k) (j := z.eras.length - 1) (by omega) he hf
   omega
  ·omega
 ·intro h1
  have : k = z.eras.length - 1 := by omega
  subst this
  rw [hf] at he
  injection he with he
  subst he
  exact hla.1
theorem jxn {E : List EraD} (hU : UntE E) {k : Nat} {e : EraD} (he : E[k]? = some e) (h : k + 1 = E.length) (H : List HapD) (b : Int) : endS e H b = 253402300799 := if_pos ((hU k e he).mpr h)
theorem jxm {E : List EraD} (hU : UntE E) {k : Nat} {e : EraD} (he : E[k]? = some e) (h : ¬ k + 1 = E.length) (H : List HapD) (b : Int) : endS e H b = endE e H b := if_neg fun h1 => h ((hU k e he).mp h1)
theorem jk1 {r : RelD} {nm : ByteArray} {off : Int} (hr : ∀ x ∈ r.rules, jav x = true) (h0 : nm.size = 0) : ja2 r nm off = ([], true) := by
 have hw : ∀ k, jaq nm r.rules k = [] := by
  intro k
  induction k with
  | zero => rfl
  | succ k ih =>
   rw [jaq, ih]
   split
   ·rename_i x hx
    split
    ·rename_i hn
     have h1 := (jf4 (jrk (hr x (lmg hx)))).1
     have h2 : x.name = nm := jhz (beq_iff_eq.mp hn)
     rw [h2] at h1
     omega
    ·rfl
   ·rfl
 unfold ja2
 rw [hw, if_pos (by simp)]
 rfl
structure Jl (s : Nat) (v0 v1 v2 z0 z1 : Value) (W : World) : Prop where
 x0 : W.cell? ⟨s, 0, none⟩ = some v0
 x1 : W.cell? ⟨s, 1, none⟩ = some v1
 x2 : W.cell? ⟨s, 2, none⟩ = some v2
 y0 : W.cell? ⟨s + 1, 0, none⟩ = some z0
 y1 : W.cell? ⟨s + 1, 1, none⟩ = some z1
 r0 : W.cell? ⟨s + 1 + 1, 0, none⟩ = some nS
 f0 : W.frozen? ⟨s + 1 + 1, 0, none⟩ = false
 t : ∃ u, W.cell? ⟨s + 1 + 1 + 1, 0, none⟩ = some u
 f1 : W.frozen? ⟨s + 1 + 1 + 1, 0, none⟩ = false
theorem Jl.fr {s : Nat} {v0 v1 v2 z0 z1 : Value} {S : Nat -> Prop} {W W' : World} (h : Jl s v0 v1 v2 z0 z1 W) (hf : Fr S W W') (hs : ∀ g, S g -> s + 1 + 1 + 1 + 1 <= g) : Jl s v0 v1 v2 z0 z1 W' := by
 have n : ∀ k, k < s + 1 + 1 + 1 + 1 -> ¬ S k := fun k hk h => by have := hs k h; omega
 obtain ⟨u, hu⟩ := h.t
 exact ⟨hf.cell (n _ (by omega)) h.x0, hf.cell (n _ (by omega)) h.x1, hf.cell (n _ (by omega)) h.x2, hf.cell (n _ (by omega)) h.y0, hf.cell (n _ (by omega)) h.y1, hf.cell (n _ (by omega)) h.r0, (hf.frozen (qbl h.r0) (n (s + 1 + 1) (by omega))).trans h.f0, ⟨u, hf.cell (n _ (by omega)) hu⟩, (hf.frozen (qbl hu) (n (s + 1 + 1 + 1) (by omega))).trans h.f1⟩
theorem Jl.below {s : Nat} {v0 v1 v2 z0 z1 : Value} {W W' : World} (h : Jl s v0 v1 v2 z0 z1 W) (hb : Bw W W') : Jl s v0 v1 v2 z0 z1 W' := h.fr (S := fun _ => False) (Fr.of_below hb) fun _ h => h.elim
theorem Jl.set {s : Nat} {v0 v1 v2 z0 z1 : Value} {W : World} (h : Jl s v0 v1 v2 z0 z1 W) (u : Value) : Jl s v0 v1 v2 z0 z1 (W.setCell ⟨s + 1 + 1 + 1, 0, none⟩ u) := by
 obtain ⟨v, hv⟩ := h.t
 refine ⟨?_, ?_, ?_, ?_, ?_, ?_, by rw [World.frozen?_setCell]; exact h.f0, ⟨u, wcs _ _ _ hv⟩, by rw [World.frozen?_setCell]; exact h.f1⟩
 ·rw [wco _ _ _ _ (by simp)]; exact h.x0
 ·rw [wco _ _ _ _ (by simp)]; exact h.x1
 ·rw [wco _ _ _ _ (by simp)]; exact h.x2
 ·rw [wco _ _ _ _ (by simp)]; exact h.y0
 ·rw [wco _ _ _ _ (by simp)]; exact h.y1
 ·rw [wco _ _ _ _ (by simp)]; exact h.r0
structure TabSP (r : RelD) (E : List EraD) (w : World) (q : Ending) (W' : World) : Prop where
 ex : ∃ v b T, q = .returned (.tuple #[.agg #[v], .bool b]) /\ Zg W' w.heap.size v T /\ b = (tabE r E).2 /\ (b = true -> T = (tabE r E).1) /\ Bw w W'
end
end Go.Proofs.YtgiieknbckhofaaGreatDoor
