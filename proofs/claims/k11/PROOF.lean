import PyProof.Rows.All
import Wide.All
import OpenK.AllK
import Wide.FinOn
import HandS.ForMost
import HandS.OwnEq
import HandS.IsInst
import HandS.Property
import HandS.Wide
import HandS.WideBits
import HandS.Gcd
import HandS.FStr
import HandS.ClsMeth
import HandS.MakeKw
import HandS.MakeKwOnly
import HandS.Codes
import KE.KOpsOwn
import KE.KFmtOwn
import HandS.Evl
import HandS.Style
import HandS.Defaults
import HandS.Walk
import HandS.TryOnly
import HandS.HeadHook2
import PySem.Challenge.RW_straightened_k11_whole_ratios_reckoned
set_option Elab.async false
set_option linter.all false
set_option maxRecDepth 100000
set_option maxHeartbeats 4000000
/-! plain mathematics of fractions in lowest terms -/
namespace RK
/-- the divisor by which a fraction is brought to lowest terms -/
def dv (a b : Int) : Int := if b < 0 then -((Nat.gcd a.natAbs b.natAbs : Nat) : Int) else ((Nat.gcd a.natAbs b.natAbs : Nat) : Int)
def nt (a b : Int) : Int := a / dv a b
def nd (a b : Int) : Int := b / dv a b
structure Nm (t d : Int) : Prop where
  pos : 0 < d
  co : Nat.gcd t.natAbs d.natAbs = 1
theorem gpos {a b : Int} (hb : b ≠ 0) : 0 < ((Nat.gcd a.natAbs b.natAbs : Nat) : Int) := by
  have : 0 < Nat.gcd a.natAbs b.natAbs := Nat.gcd_pos_of_pos_right _ (Int.natAbs_pos.mpr hb)
  omega
theorem dv_ne {a b : Int} (hb : b ≠ 0) : dv a b ≠ 0 := by
  have := gpos (a := a) hb
  unfold dv
  split <;> omega
theorem dv_a {a b : Int} : dv a b ∣ a := by
  unfold dv
  have : ((Nat.gcd a.natAbs b.natAbs : Nat) : Int) ∣ a := Int.ofNat_dvd_left.mpr (Nat.gcd_dvd_left _ _)
  split
  · exact Int.neg_dvd.mpr this
  · exact this
theorem dv_b {a b : Int} : dv a b ∣ b := by
  unfold dv
  have : ((Nat.gcd a.natAbs b.natAbs : Nat) : Int) ∣ b := Int.ofNat_dvd_left.mpr (Nat.gcd_dvd_right _ _)
  split
  · exact Int.neg_dvd.mpr this
  · exact this
theorem nt_mul {a b : Int} : nt a b * dv a b = a := Int.ediv_mul_cancel dv_a
theorem nd_mul {a b : Int} : nd a b * dv a b = b := Int.ediv_mul_cancel dv_b
theorem fdiv_t {a b : Int} : a.fdiv (dv a b) = nt a b := Int.fdiv_eq_ediv_of_dvd dv_a
theorem fdiv_d {a b : Int} : b.fdiv (dv a b) = nd a b := Int.fdiv_eq_ediv_of_dvd dv_b
theorem natAbs_dv {a b : Int} : (dv a b).natAbs = Nat.gcd a.natAbs b.natAbs := by
  unfold dv
  split <;> omega
theorem nm {a b : Int} (hb : b ≠ 0) : Nm (nt a b) (nd a b) := by
  have h1 := nt_mul (a := a) (b := b)
  have h2 := nd_mul (a := a) (b := b)
  have hd := dv_ne (a := a) hb
  have hg := gpos (a := a) hb
  refine ⟨?_, ?_⟩
  · by_cases hn : b < 0
    · have e : dv a b = -((Nat.gcd a.natAbs b.natAbs : Nat) : Int) := if_pos hn
      rw [e] at h2
      refine Int.lt_of_not_ge fun hz => ?_
      have h3 : 0 ≤ nd a b * -((Nat.gcd a.natAbs b.natAbs : Nat) : Int) := Int.mul_nonneg_of_nonpos_of_nonpos hz (by omega)
      omega
    · have e : dv a b = ((Nat.gcd a.natAbs b.natAbs : Nat) : Int) := if_neg hn
      rw [e] at h2
      refine Int.lt_of_not_ge fun hz => ?_
      have h3 : nd a b * ((Nat.gcd a.natAbs b.natAbs : Nat) : Int) ≤ 0 := Int.mul_nonpos_of_nonpos_of_nonneg hz (by omega)
      omega
  · have e1 : (nt a b).natAbs * Nat.gcd a.natAbs b.natAbs = a.natAbs := by rw [← natAbs_dv, ← Int.natAbs_mul, h1]
    have e2 : (nd a b).natAbs * Nat.gcd a.natAbs b.natAbs = b.natAbs := by rw [← natAbs_dv, ← Int.natAbs_mul, h2]
    have e3 : Nat.gcd ((nt a b).natAbs * Nat.gcd a.natAbs b.natAbs) ((nd a b).natAbs * Nat.gcd a.natAbs b.natAbs) = Nat.gcd a.natAbs b.natAbs := by rw [e1, e2]
    rw [Nat.gcd_mul_right] at e3
    have hp : 0 < Nat.gcd a.natAbs b.natAbs := by omega
    exact Nat.eq_of_mul_eq_mul_right hp (by rw [e3, Nat.one_mul])
theorem cross {a b : Int} (hb : b ≠ 0) : nt a b * b = a * nd a b := by
  have h1 := nt_mul (a := a) (b := b)
  have h2 := nd_mul (a := a) (b := b)
  calc nt a b * b = nt a b * (nd a b * dv a b) := by rw [h2]
    _ = (nt a b * dv a b) * nd a b := by grind
    _ = a * nd a b := by rw [h1]
theorem uniq {t d t' d' : Int} (h : Nm t d) (h' : Nm t' d') (e : t * d' = t' * d) : t = t' ∧ d = d' := by
  have hp := h.pos
  have hp' := h'.pos
  have e1 : t.natAbs * d'.natAbs = t'.natAbs * d.natAbs := by rw [← Int.natAbs_mul, e, Int.natAbs_mul]
  have a1 : d.natAbs ∣ d'.natAbs := by
    have : d.natAbs ∣ t.natAbs * d'.natAbs := ⟨t'.natAbs, by rw [e1, Nat.mul_comm]⟩
    exact Nat.Coprime.dvd_of_dvd_mul_left (Nat.Coprime.symm h.co) this
  have a2 : d'.natAbs ∣ d.natAbs := by
    have : d'.natAbs ∣ t'.natAbs * d.natAbs := ⟨t.natAbs, by rw [← e1, Nat.mul_comm]⟩
    exact Nat.Coprime.dvd_of_dvd_mul_left (Nat.Coprime.symm h'.co) this
  have a3 : d.natAbs = d'.natAbs := Nat.dvd_antisymm a1 a2
  have a4 : d = d' := by omega
  subst a4
  exact ⟨Int.eq_of_mul_eq_mul_right (by omega) e, rfl⟩
theorem nrm_eq {a b c d : Int} (hb : b ≠ 0) (hd : d ≠ 0) (e : a * d = c * b) : nt a b = nt c d ∧ nd a b = nd c d := by
  have h1 := cross (a := a) hb
  have h2 := cross (a := c) hd
  refine uniq (nm hb) (nm hd) ?_
  generalize nt a b = p at *
  generalize nd a b = q at *
  generalize nt c d = r at *
  generalize nd c d = s at *
  have hbd : b * d ≠ 0 := Int.mul_ne_zero hb hd
  refine Int.eq_of_mul_eq_mul_right hbd ?_
  calc p * s * (b * d) = (p * b) * (s * d) := by grind
    _ = (a * q) * (s * d) := by rw [h1]
    _ = (a * d) * (q * s) := by grind
    _ = (c * b) * (q * s) := by rw [e]
    _ = (c * s) * (q * b) := by grind
    _ = (r * d) * (q * b) := by rw [h2]
    _ = r * q * (b * d) := by grind
/-- what is in lowest terms stays -/
theorem self {t d : Int} (h : Nm t d) : nt t d = t ∧ nd t d = d := by
  have hp := h.pos
  have : dv t d = 1 := by
    unfold dv
    rw [if_neg (by omega), h.co]
    rfl
  unfold nt nd
  rw [this]
  exact ⟨Int.ediv_one _, Int.ediv_one _⟩
theorem to_self {a b t d : Int} (hb : b ≠ 0) (h : Nm t d) (e : a * d = t * b) : nt a b = t ∧ nd a b = d := by
  have q := nrm_eq hb (by have := h.pos; omega) e
  rw [(self h).1, (self h).2] at q
  exact q
theorem nt_le {a b : Int} : (nt a b).natAbs ≤ a.natAbs := by
  by_cases hb : dv a b = 0
  · unfold nt; rw [hb]; simp
  · have h := nt_mul (a := a) (b := b)
    have : (nt a b).natAbs * (dv a b).natAbs = a.natAbs := by rw [← Int.natAbs_mul, h]
    have h1 : 1 ≤ (dv a b).natAbs := by omega
    calc (nt a b).natAbs = (nt a b).natAbs * 1 := (Nat.mul_one _).symm
      _ ≤ (nt a b).natAbs * (dv a b).natAbs := Nat.mul_le_mul_left _ h1
      _ = a.natAbs := this
theorem nd_le {a b : Int} : (nd a b).natAbs ≤ b.natAbs := by
  by_cases hb : dv a b = 0
  · unfold nd; rw [hb]; simp
  · have h := nd_mul (a := a) (b := b)
    have : (nd a b).natAbs * (dv a b).natAbs = b.natAbs := by rw [← Int.natAbs_mul, h]
    have h1 : 1 ≤ (dv a b).natAbs := by omega
    calc (nd a b).natAbs = (nd a b).natAbs * 1 := (Nat.mul_one _).symm
      _ ≤ (nd a b).natAbs * (dv a b).natAbs := Nat.mul_le_mul_left _ h1
      _ = b.natAbs := this
theorem nm1 {n : Int} : Nm n 1 := ⟨by decide, by simp⟩
/-! ### the rules of sums and products -/
theorem ne_mul {b d : Int} (h : 0 < b) (h' : 0 < d) : b * d ≠ 0 := by
  have := Int.mul_pos h h'
  omega
theorem assoc {a b c d e f : Int} (hx : Nm a b) (hy : Nm c d) (hz : Nm e f) :
    let p := nt (a * d + c * b) (b * d); let q := nd (a * d + c * b) (b * d); let r := nt (c * f + e * d) (d * f); let s := nd (c * f + e * d) (d * f)
    nt (p * f + e * q) (q * f) = nt (a * s + r * b) (b * s) ∧ nd (p * f + e * q) (q * f) = nd (a * s + r * b) (b * s) := by
  intro p q r s
  have hb := ne_mul hx.pos hy.pos
  have hd := ne_mul hy.pos hz.pos
  have h1 : p * (b * d) = (a * d + c * b) * q := cross hb
  have h2 : r * (d * f) = (c * f + e * d) * s := cross hd
  have n1 : Nm p q := nm hb
  have n2 : Nm r s := nm hd
  refine nrm_eq (ne_mul n1.pos hz.pos) (ne_mul hx.pos n2.pos) ?_
  refine Int.eq_of_mul_eq_mul_right (show d ≠ 0 by have := hy.pos; omega) ?_
  generalize p = p at *
  generalize q = q at *
  generalize r = r at *
  generalize s = s at *
  calc (p * f + e * q) * (b * s) * d = (p * (b * d)) * (f * s) + e * q * b * s * d := by grind
    _ = ((a * d + c * b) * q) * (f * s) + e * q * b * s * d := by rw [h1]
    _ = a * s * q * f * d + ((c * f + e * d) * s) * (b * q) := by grind
    _ = a * s * q * f * d + (r * (d * f)) * (b * q) := by rw [h2]
    _ = (a * s + r * b) * (q * f) * d := by grind
theorem distr {a b c d e f : Int} (hx : Nm a b) (hy : Nm c d) (hz : Nm e f) :
    let r := nt (c * f + e * d) (d * f); let s := nd (c * f + e * d) (d * f); let p := nt (a * c) (b * d); let q := nd (a * c) (b * d); let u := nt (a * e) (b * f); let v := nd (a * e) (b * f)
    nt (a * r) (b * s) = nt (p * v + u * q) (q * v) ∧ nd (a * r) (b * s) = nd (p * v + u * q) (q * v) := by
  intro r s p q u v
  have hb := ne_mul hx.pos hy.pos
  have hd := ne_mul hy.pos hz.pos
  have hf := ne_mul hx.pos hz.pos
  have h1 : r * (d * f) = (c * f + e * d) * s := cross hd
  have h2 : p * (b * d) = (a * c) * q := cross hb
  have h3 : u * (b * f) = (a * e) * v := cross hf
  have n1 : Nm r s := nm hd
  have n2 : Nm p q := nm hb
  have n3 : Nm u v := nm hf
  refine nrm_eq (ne_mul hx.pos n1.pos) (ne_mul n2.pos n3.pos) ?_
  have hbdf : b * d * f ≠ 0 := Int.mul_ne_zero hb (by have := hz.pos; omega)
  refine Int.eq_of_mul_eq_mul_right hbdf ?_
  generalize p = p at *
  generalize q = q at *
  generalize r = r at *
  generalize s = s at *
  generalize u = u at *
  generalize v = v at *
  calc a * r * (q * v) * (b * d * f) = a * (r * (d * f)) * (q * v * b) := by grind
    _ = a * ((c * f + e * d) * s) * (q * v * b) := by rw [h1]
    _ = ((a * c) * q) * (v * b * s * f) + ((a * e) * v) * (q * b * s * d) := by grind
    _ = (p * (b * d)) * (v * b * s * f) + (u * (b * f)) * (q * b * s * d) := by rw [h2, h3]
    _ = (p * v + u * q) * (b * s) * (b * d * f) := by grind
theorem over_times {a b c d : Int} (hx : Nm a b) (hy : Nm c d) (hc : c ≠ 0) :
    let p := nt (a * d) (b * c); let q := nd (a * d) (b * c)
    nt (p * c) (q * d) = a ∧ nd (p * c) (q * d) = b := by
  intro p q
  have hb : b * c ≠ 0 := Int.mul_ne_zero (by have := hx.pos; omega) hc
  have h1 : p * (b * c) = (a * d) * q := cross hb
  have n1 : Nm p q := nm hb
  refine to_self (ne_mul n1.pos hy.pos) hx ?_
  generalize p = p at *
  generalize q = q at *
  calc p * c * b = p * (b * c) := by grind
    _ = (a * d) * q := h1
    _ = a * (q * d) := by grind
theorem minus_self {a b : Int} (hx : Nm a b) : nt (a * b - a * b) (b * b) = 0 ∧ nd (a * b - a * b) (b * b) = 1 := to_self (ne_mul hx.pos hx.pos) nm1 (by grind)
theorem times_one {a b : Int} (hx : Nm a b) : nt (a * 1) (b * 1) = a ∧ nd (a * 1) (b * 1) = b := by
  rw [Int.mul_one, Int.mul_one]; exact self hx
theorem zero_plus {a b : Int} (hx : Nm a b) : nt (0 * b + a * 1) (1 * b) = a ∧ nd (0 * b + a * 1) (1 * b) = b := by
  rw [Int.zero_mul, Int.zero_add, Int.mul_one, Int.one_mul]; exact self hx
theorem whole {n : Int} : nt n 1 = n ∧ nd n 1 = 1 := self nm1
end RK
namespace RK
open PySem PySem.Spec PyProof.Rows L2

section
variable {X : Cx} {pins : List (Addr × Obj)} {σ : L2.St} {H : Hp} {s : Shared} {CX : CXT} {k : Nat} {f : Addr} {fd : FuncData} {ps : List Str} {sp : Sp} {E : XK} {Q : VK}
/-- a def called somewhere below the running body -/
theorem run_at {A : Around} {us : List Value} {vs : List V} (sb : Sub X k A) (F : FnOk X.prog X.w X.K X.mg X.base CX k f fd ps sp) (hb : Binds X.K fd ps []) (hx : Passes CX X E)
    (I : Inv X pins σ H s) (r : Vals vs us) (h : sp vs H Q E) : wpAny (model X.prog X.w) A (call (.ref f) us) (EP X pins σ Q) X.xe s := by
  have hl : us.length = ps.length := by rw [← r.length]; exact F.len _ _ _ _ h
  have e0 : Env0 X.prog X.w X.K X.mg X.base A X.stack s H := by
    have e := I.env0
    exact ⟨by rw [sb.fr]; exact e.frames, e.mod, e.bs, e.bsz, e.funs, e.frf, e.hok, e.bare⟩
  refine wpAny_call (codeAny_mono (F.run A X.stack s H ⟨us, []⟩ us vs Q E sb.room e0 (by
    have := hb s us I.kIn (by simpa using hl)
    simpa using this) r h) fun r s' hq => ?_)
  cases r with
  | error e => exact hx pins σ H s e s' I hq
  | ok fl =>
    cases fl with
    | ret u => exact I.after hq
    | next => exact False.elim hq
    | brk => exact False.elim hq
    | cont => exact False.elim hq
theorem sub0 (hr : Room k X.A) : Sub X k X.A := ⟨hr, rfl⟩
theorem relV_notNI {v : V} {u : Value} (r : RelV v u) : u ≠ .notImplemented := by
  intro e
  subst e
  cases v <;> first | exact nomatch r | (obtain ⟨t, q⟩ := r; exact nomatch q)
theorem cmpBack {u : Value} {s' : Shared} (h : EP X pins σ Q u s') : PySem.W.CmpBack (EP X pins σ Q) u s' := by
  obtain ⟨v, H', I, r, q⟩ := h
  have n := relV_notNI r
  cases u <;> first | exact (n rfl).elim | exact ⟨v, H', I, r, q⟩
theorem instAt {a C dx : Addr} {fs : List (Str × V)} (I : Inv X pins σ H s) (e : H a = some (.ins C dx fs)) : ∃ od, PySem.W.InstAt s.heap a (PySem.W.instObj C dx) C (some od) := by
  obtain ⟨mA, J, _⟩ := ins_get I.hok e
  obtain ⟨od, J, _⟩ := J.look
  exact ⟨od, J⟩
end

/-- C's own operator nm stands at f -/
structure OwnOp (K : PySem.W.Frag) (C : Addr) (nm : String) (f : Addr) : Prop where
  first : PySem.W.selfFirst K C = true
  at_ : PySem.W.findIn K (.ref C) (PySem.dunder nm) = some (some (.ref f))
  fn : PySem.W.isFn K (.ref f) = true
/-- .. and what an int beside it asks -/
structure OwnInt (K : PySem.W.Frag) (C : Addr) (nm : String) (g : Addr) : Prop where
  rat : PySem.W.findIn K (.ref C) (dunderR nm) = some (some (.ref g))
  fn : PySem.W.isFn K (.ref g) = true
  i1 : ∃ fo, PySem.W.findIn K (.type "int") (PySem.dunder nm) = some fo
  i2 : ∃ ro, PySem.W.findIn K (.type "int") (dunderR nm) = some ro
  isub : PySem.W.subIn K (.type "int") (.ref C) = some false
  csub : PySem.W.subIn K (.ref C) (.type "int") = some false

section
variable {X : Cx} {CX : CXT} {k : Nat} {C f g : Addr} {fd : FuncData} {ps : List Str} {sp : Sp} {E : XK} {op : Operator}
def rOwn (C : Addr) (sp : Sp) (E : XK) : R2 := fun x y H Q => ∃ a b dx dy fs gs, x = .ref a ∧ y = .ref b ∧ H a = some (.ins C dx fs) ∧ H b = some (.ins C dy gs) ∧ sp [x, y] H Q E
def rOwnI (C : Addr) (sp : Sp) (E : XK) : R2 := fun x y H Q => ∃ a n dx fs, x = .ref a ∧ y = .int n ∧ H a = some (.ins C dx fs) ∧ sp [x, y] H Q E
def rIOwn (C : Addr) (sp : Sp) (E : XK) : R2 := fun x y H Q => ∃ a n dx fs, x = .int n ∧ y = .ref a ∧ H a = some (.ins C dx fs) ∧ sp [y, x] H Q E
/-- x op y, both of C -/
theorem op_own (o : OwnOp X.K C op.info.2 f) (F : FnOk X.prog X.w X.K X.mg X.base CX k f fd ps sp) (hr : Room k X.A) (hb : Binds X.K fd ps []) (hx : Passes CX X E) : OpR X (binaryOp op) (rOwn C sp E) := by
  intro pins s σ H x y v u Q I rx ry h
  obtain ⟨a, b, dx, dy, fs, gs, rfl, rfl, ea, eb, q⟩ := h
  cases rx
  cases ry
  obtain ⟨oa, Ja⟩ := instAt I ea
  obtain ⟨ob, Jb⟩ := instAt I eb
  obtain ⟨m, hF⟩ := I.fr
  exact PySem.W.binop_K hF I.ok.mod.kin Ja Jb.type o.first o.at_ o.fn (thn (run_at (sub0 hr) F hb hx I (show Vals [V.ref a, V.ref b] [Value.ref a, Value.ref b] from .cons rfl (.cons rfl .nil)) q) fun _ _ z => cmpBack z)
/-- x op n, x of C, n an int -/
theorem op_ownI (o : OwnOp X.K C op.info.2 f) (oi : OwnInt X.K C op.info.2 g) (F : FnOk X.prog X.w X.K X.mg X.base CX k f fd ps sp) (hr : Room k X.A) (hb : Binds X.K fd ps []) (hx : Passes CX X E) : OpR X (binaryOp op) (rOwnI C sp E) := by
  intro pins s σ H x y v u Q I rx ry h
  obtain ⟨a, n, dx, fs, rfl, rfl, ea, q⟩ := h
  cases rx
  obtain ⟨t, rfl⟩ := ry
  obtain ⟨oa, Ja⟩ := instAt I ea
  obtain ⟨m, hF⟩ := I.fr
  obtain ⟨fo, h1⟩ := oi.i1
  obtain ⟨ro, h2⟩ := oi.i2
  exact PySem.W.ksp_binT hF I.ok.mod.kin Ja rfl o.first o.at_ o.fn oi.rat (.inr ⟨g, rfl⟩) h1 h2 oi.isub (thn (run_at (sub0 hr) F hb hx I (show Vals [V.ref a, V.int n] [Value.ref a, Value.int n t] from .cons rfl (.cons ⟨t, rfl⟩ .nil)) q) fun _ _ z => cmpBack z)

/-- n op x: the int declines, x's reflected one answers -/
theorem binary_IR {prog : Program} {w : World} {A : Around} {E : Value → Shared → Prop} {s : Shared} {K : PySem.W.Frag} {x C L f g : Addr} {h₀ : Heap} {m : Str → Option Value} {ox : Obj} {od : Option Obj} {op : Operator} {n : Int} {t : Tok} {idl : String} {Q : Value → Shared → Prop}
    (F : Fr h₀ L s.heap m) (X₀ : K.In h₀) (I : PySem.W.InstAt s.heap x ox C od) (o : OwnOp K C op.info.2 f) (oi : OwnInt K C op.info.2 g)
    (hfT : fillsNumberSlot (.type "int") op.info.2 = pure true) (hl : Slot "int" (PySem.dunder op.info.2) idl)
    (hc : ∀ Q' : Value → Shared → Prop, Q' .notImplemented s → wpAny (model prog w) A (call (.builtin idl) [.int n t, .ref x]) Q' E s)
    (h : wpAny (model prog w) A (call (.ref g) [.ref x, .int n t]) (PySem.W.CmpBack Q) E s) : wpAny (model prog w) A (binaryOp op (.int n t) (.ref x)) Q E s := by
  have X := X₀.keeps F.keep
  obtain ⟨cd, rest, hcd, hm⟩ := PySem.W.ksp_first o.first
  have at_ := o.at_
  rcases hi : op.info with ⟨sym, nm'⟩
  have orat := oi.rat
  rw [hi] at at_ hfT hl orat
  dsimp only at at_ hfT hl orat
  have one := PySem.W.ksp_try X I orat oi.fn h
  simp only [binaryOp, hi]
  refine wpAny_holding (wpAny_bind ?_)
  unfold binaryOp1
  have L2 : PySem.W.Looks (model prog w) s.heap (typeOf (.ref x)) (.ref C) := I.type
  have L4 : PySem.W.Looks (model prog w) s.heap (fillsNumberSlot (.ref C) nm') true := PySem.W.fills_K X hcd hm at_
  have L5 : PySem.W.Looks (model prog w) s.heap (isSubtype (.ref C) (.type "int")) false := PySem.W.looks_subIn X oi.csub
  have hpy : numberSlotInPython (.type "int") nm' = pure false := rfl
  refine wpAny_bind (wpAny_typeOf (typeIs_int s n t) (wpAny_bind (L2.here (wpAny_bind (wpAny_of_eq hfT ?_)))))
  have hne : (Value.type "int" == Value.ref C) = false := Bool.eq_false_iff.mpr fun q => by cases beq_iff_eq.mp q
  simp only [hne, Bool.false_eq_true, if_false]
  refine wpAny_bind (L4.here ?_)
  simp only [Bool.and_self, if_true]
  refine wpAny_bind (L5.here ?_)
  simp only [Bool.false_eq_true, if_false, pure_bind, Bool.not_false, Bool.and_self, if_true, hpy]
  refine wpAny_bind (m := tryMethod _ _ _) (wpAny_tryMethod_declines (Q := fun r s' => r = none ∧ s' = s) (typeIs_int s n t) hl (hc _ ⟨rfl, rfl, rfl⟩) |> fun z => wpAny_mono z (fun r s' hr => ?_) fun _ _ e => e)
  obtain ⟨rfl, rfl⟩ := hr
  show wpAny _ _ (tryMethod (Value.ref x) (dunderR nm') (Value.int n t) >>= _) _ _ _
  refine wpAny_bind (wpAny_mono one (fun r s' hr => ?_) fun _ _ e => e)
  obtain ⟨v, rfl, hq⟩ := hr
  exact wpAny_bind (wpAny_rule (wpAny_pure (wpAny_pure hq)))
theorem int_add_own {prog : Program} {w : World} {A A' : Around} {R : Result → Shared → Prop} {s : Shared} {n : Int} {t : Tok} {x C dx : Addr} (hx : s.heap.get? x = some (PySem.W.instObj C dx)) (h : R (.ok (.ret Value.notImplemented)) s) :
    wpAny (model prog w) A' (Builtin.«int.__add__» ⟨[.int n t, .ref x], []⟩) (GQ.FinOf prog w A R) (fun e s' => R (.error e) s') s := by
  have hx' : s.heap.get? x = some { cls := .ref C, dict := some dx, data := (PySem.W.instObj C dx).data, slots := (PySem.W.instObj C dx).slots } := hx
  obtain ⟨hp, g, d, tk, os⟩ := s
  wp_walk
  exact h
theorem int_sub_own {prog : Program} {w : World} {A A' : Around} {R : Result → Shared → Prop} {s : Shared} {n : Int} {t : Tok} {x C dx : Addr} (hx : s.heap.get? x = some (PySem.W.instObj C dx)) (h : R (.ok (.ret Value.notImplemented)) s) :
    wpAny (model prog w) A' (Builtin.«int.__sub__» ⟨[.int n t, .ref x], []⟩) (GQ.FinOf prog w A R) (fun e s' => R (.error e) s') s := by
  have hx' : s.heap.get? x = some { cls := .ref C, dict := some dx, data := (PySem.W.instObj C dx).data, slots := (PySem.W.instObj C dx).slots } := hx
  obtain ⟨hp, g, d, tk, os⟩ := s
  wp_walk
  exact h
theorem int_mul_own {prog : Program} {w : World} {A A' : Around} {R : Result → Shared → Prop} {s : Shared} {n : Int} {t : Tok} {x C dx : Addr} (hx : s.heap.get? x = some (PySem.W.instObj C dx)) (h : R (.ok (.ret Value.notImplemented)) s) :
    wpAny (model prog w) A' (Builtin.«int.__mul__» ⟨[.int n t, .ref x], []⟩) (GQ.FinOf prog w A R) (fun e s' => R (.error e) s') s := by
  have hx' : s.heap.get? x = some { cls := .ref C, dict := some dx, data := (PySem.W.instObj C dx).data, slots := (PySem.W.instObj C dx).slots } := hx
  obtain ⟨hp, g, d, tk, os⟩ := s
  wp_walk
  exact h
end
section
variable {X : Cx} {CX : CXT} {k : Nat} {C f g : Addr} {fd : FuncData} {ps : List Str} {sp : Sp} {E : XK} {op : Operator}
/-- n add x, n an int, x of C -/
theorem op_Iadd (o : OwnOp X.K C "add" f) (oi : OwnInt X.K C "add" g) (F : FnOk X.prog X.w X.K X.mg X.base CX k g fd ps sp) (hr : Room k X.A) (hb : Binds X.K fd ps []) (hx : Passes CX X E) : OpR X (binaryOp .Add) (rIOwn C sp E) := by
  intro pins s σ H x y v u Q I rx ry h
  obtain ⟨a, n, dx, fs, rfl, rfl, ea, q⟩ := h
  cases ry
  obtain ⟨t, rfl⟩ := rx
  obtain ⟨oa, Ja⟩ := instAt I ea
  obtain ⟨m, hF⟩ := I.fr
  exact binary_IR (op := .Add) hF I.ok.mod.kin Ja o oi PySem.F.fills_int_add PySem.F.slot_int_add (fun Q' hq => GQ.call_here PySem.F.slot_int_add (typeIs_int _ n t) PySem.F.entry_int_add (PySem.F.args_int_add_2 _ _) (int_add_own Ja.at_ hq)) (thn (run_at (sub0 hr) F hb hx I (show Vals [V.ref a, V.int n] [Value.ref a, Value.int n t] from .cons rfl (.cons ⟨t, rfl⟩ .nil)) q) fun _ _ z => cmpBack z)
/-- n sub x, n an int, x of C -/
theorem op_Isub (o : OwnOp X.K C "sub" f) (oi : OwnInt X.K C "sub" g) (F : FnOk X.prog X.w X.K X.mg X.base CX k g fd ps sp) (hr : Room k X.A) (hb : Binds X.K fd ps []) (hx : Passes CX X E) : OpR X (binaryOp .Sub) (rIOwn C sp E) := by
  intro pins s σ H x y v u Q I rx ry h
  obtain ⟨a, n, dx, fs, rfl, rfl, ea, q⟩ := h
  cases ry
  obtain ⟨t, rfl⟩ := rx
  obtain ⟨oa, Ja⟩ := instAt I ea
  obtain ⟨m, hF⟩ := I.fr
  exact binary_IR (op := .Sub) hF I.ok.mod.kin Ja o oi PySem.F.fills_int_sub PySem.F.slot_int_sub (fun Q' hq => GQ.call_here PySem.F.slot_int_sub (typeIs_int _ n t) PySem.F.entry_int_sub (PySem.F.args_int_sub_2 _ _) (int_sub_own Ja.at_ hq)) (thn (run_at (sub0 hr) F hb hx I (show Vals [V.ref a, V.int n] [Value.ref a, Value.int n t] from .cons rfl (.cons ⟨t, rfl⟩ .nil)) q) fun _ _ z => cmpBack z)
/-- n mul x, n an int, x of C -/
theorem op_Imul (o : OwnOp X.K C "mul" f) (oi : OwnInt X.K C "mul" g) (F : FnOk X.prog X.w X.K X.mg X.base CX k g fd ps sp) (hr : Room k X.A) (hb : Binds X.K fd ps []) (hx : Passes CX X E) : OpR X (binaryOp .Mult) (rIOwn C sp E) := by
  intro pins s σ H x y v u Q I rx ry h
  obtain ⟨a, n, dx, fs, rfl, rfl, ea, q⟩ := h
  cases ry
  obtain ⟨t, rfl⟩ := rx
  obtain ⟨oa, Ja⟩ := instAt I ea
  obtain ⟨m, hF⟩ := I.fr
  exact binary_IR (op := .Mult) hF I.ok.mod.kin Ja o oi PySem.F.fills_int_mul PySem.F.slot_int_mul (fun Q' hq => GQ.call_here PySem.F.slot_int_mul (typeIs_int _ n t) PySem.F.entry_int_mul (PySem.F.args_int_mul_2 _ _) (int_mul_own Ja.at_ hq)) (thn (run_at (sub0 hr) F hb hx I (show Vals [V.ref a, V.int n] [Value.ref a, Value.int n t] from .cons rfl (.cons ⟨t, rfl⟩ .nil)) q) fun _ _ z => cmpBack z)
end
end RK
namespace RK
open PySem PySem.Spec PyProof.Rows L2

/-- a def's promise where no built-in's text is under way around it -/
structure FnG (P : Program) (w : World) (K : PySem.W.Frag) (mg : Str → Option Value)
    (base : Heap) (k : Nat) (f : Addr) (ps : List Str) (sp : Sp) : Prop where
  len : ∀ vs H Q E, sp vs H Q E → vs.length = ps.length
  run : ∀ (A : Around) (outer : List Env) (s : Shared) (H : Hp) (args : Args)
    (us : List Value) (vs : List V) (Q : VK), Room k A → A.guards = some [] →
    Env0 P w K mg base A outer s H → (∀ fd : FuncData, (∃ oc od sl, K.lookup f = some ⟨oc, od, .func fd, sl⟩) → BindsTo s fd args (ps.zip us)) →
    Vals vs us → sp vs H Q E0 →
    codeAny (model P w) A (.call (.ref f) args) (CR CX0 outer P w H s Q E0) s
section
variable {P : Program} {w : World} {K : PySem.W.Frag} {mg : Str → Option Value} {base : Heap}
theorem lookFn {f : Addr} {fd fd' : FuncData} {oc : Value} {od : Option Addr} {sl : Array (Option Value)} (l : K.lookup f = some ⟨oc, od, .func fd, sl⟩)
    (h : ∃ oc od sl, K.lookup f = some ⟨oc, od, .func fd', sl⟩) : fd' = fd := by
  obtain ⟨a, b, c, e⟩ := h
  rw [l] at e
  cases e
  rfl
/-- any promise is one -/
theorem FnOk.g {k : Nat} {f : Addr} {fd : FuncData} {ps : List Str} {sp : Sp} (F : FnOk P w K mg base CX0 k f fd ps sp)
    (l : ∃ oc od sl, K.lookup f = some ⟨oc, od, .func fd, sl⟩) : FnG P w K mg base k f ps sp :=
  ⟨F.len, fun A outer s H args us vs Q hr _ e hb r h => F.run A outer s H args us vs Q E0 hr e (hb fd l) r h⟩
theorem FnG.mono {j k : Nat} {f : Addr} {ps : List Str} {sp : Sp} (F : FnG P w K mg base j f ps sp) (h : j ≤ k) : FnG P w K mg base k f ps sp :=
  ⟨F.len, fun A outer s H args us vs Q hr => F.run A outer s H args us vs Q (hr.mono h)⟩

/-- by the body -/
theorem fnG_of {k : Nat} {f : Addr} {x qual : Str} {st : Stmt} {fd : FuncData} {N ps : List Str} {sp : Sp}
    (F : Fun K x qual st f fd) (S : FnScope N ps (defScope st)) (len : ∀ vs H Q E, sp vs H Q E → vs.length = ps.length)
    (body : ∀ (cdv : Value) (A : Around) (outer : List Env) (s : Shared) (H : Hp) (vs : List V) (Q : VK),
      Room k (A.deeper (envOfC qual (defScope st) s.heap.objs.size f cdv)) →
      (A.deeper (envOfC qual (defScope st) s.heap.objs.size f cdv)).guards = some [] → sp vs H Q E0 →
      ∃ t, PSs (cxOf CX0 P w K mg base N qual (defScope st) f cdv A outer s H E0).nox (defBody st) t ∧
        t { nx := fun _ H' => Q .non H', rt := Q } (start N vs) H) : FnG P w K mg base (k + 1) f ps sp := by
  obtain ⟨oc, od, kV, doc, pm, an, cdv, ct, osl, rfl, lk, hcd⟩ := F.ex
  refine ⟨len, ?_⟩
  intro A outer s H args us vs Q hr hG e0 hb r hsp
  have keep := fun b o e => (e0.bs b o e).1
  have KX : K.In s.heap := e0.mod.kin.keeps keep
  have lim : s.heap.NoLimit := e0.mod.nolimit.keeps keep
  have hk : ∀ y ∈ ps.zip us,
      (defScope st).names.lookup y.1 = some .local ∨
      ((defScope st).names.lookup y.1 = some .cell ∧
        ((cellsFrom (s.heap.objs.size + 1) (defScope st).names []).lookup y.1).isSome = true) := by
    intro ⟨n, v⟩ hy
    exact (S.par n (List.of_mem_zip hy).1).elim .inl fun q => .inr ⟨q, PySem.W.cellsFrom_some _ _ _ (.inl q)⟩
  refine codeAny_call_function hr.depth (KX _ _ lk) rfl S.co S.gen rfl
    (PySem.W.codeRec_of KX hcd) (hb _ ⟨_, _, _, lk⟩ _ _ _ _ ?_)
  refine wpAny_newFunctionEnv_cells S.kind hk fun env he s1 x => ?_
  subst he
  refine ⟨lim.keeps x.toInCall.keep, codeAny_func ?_⟩
  obtain ⟨t, ht, hq⟩ := body cdv A outer s H vs Q (hr.deeper _) hG hsp
  have I := inv_start (CX := CX0) (E := E0) S hr.hd e0 (len _ _ _ _ hsp) r x
  refine wpAny_mono (ht.nox.run [] s1 (start N vs) H _ I hq) ?_ fun e s' h => h
  intro fl s' h
  match fl, h with
  | .ret u, ⟨v, σ', H', J, rv, q⟩ =>
    exact ⟨v, H', J.os, J.bare, J.base, J.hok, rv, q⟩
  | .next, ⟨σ', H', J, q⟩ =>
    exact ⟨V.non, H', J.os, J.bare, J.base, J.hok, rfl, q⟩
  | .brk, ⟨_, _, _, q⟩ => exact q.elim
  | .cont, ⟨_, _, _, q⟩ => exact q.elim
end

/-- a def that may be called by its name -/
structure CalG (P : Program) (w : World) (K : PySem.W.Frag) (mg : Str → Option Value) (base : Heap) (k : Nat) (x : Str) (sp : Sp) : Prop where
  ex : ∃ (f : Addr) (ps : List Str), FnG P w K mg base k f ps sp ∧ mg x = some (.ref f) ∧ PySem.W.keepIn K (.ref f) = true ∧
    ∀ (s : Shared) (us : List Value) (fd : FuncData), (∃ oc od sl, K.lookup f = some ⟨oc, od, .func fd, sl⟩) → K.In s.heap → us.length = ps.length → BindsTo s fd ⟨us, []⟩ (ps.zip us)
section
variable {X : Cx} {k j : Nat} {x : Str} {sp : Sp} {p pos : Pos} {e : Expr} {es : List Expr} {t : TA}
theorem pe_cg (c : CalG X.prog X.w X.K X.mg X.base k x sp) (hr : Room j X.A) (hk : k ≤ j) (hG : X.A.guards = some []) (hg : Gl X x) (ha : PA X (e :: es) t)
    (hdb : (x == ("__debug__" : Str)) = false := by decide)
    (he : starEach (e :: es) X.env = (false, eval e X.env) :: starEach es X.env := by rfl)
    (hpl : (backTo pos (starEach es X.env)).any (·.1) = false := by rfl) :
    PE X (.Call (.Name x p) (e :: es) [] pos) (tCall sp [] E0 t) := by
  obtain ⟨f, ps, F, hm, hkp, hb⟩ := c.ex
  refine ⟨fun pins s σ H Q I h => wpAny_Call_Name_kw (ld_glob I hg hm ?_ hdb)⟩
  refine PySem.W.callWith_K (h₀ := X.base) I.ok.mod.kin hkp (thn (ha.run pos pins s σ H _ I h) ?_) he hpl
  intro us s1 ⟨vs, H1, I1, r, q⟩
  refine ⟨I1.kIn, ?_⟩
  have q : sp (vs ++ []) H1 Q E0 := q
  rw [List.append_nil] at q
  have hl := F.len _ _ _ _ q
  refine wpAny_call (codeAny_mono (F.run X.A X.stack s1 H1 ⟨us, []⟩ us vs Q (hr.mono hk) hG I1.env0
    (fun fd l => hb s1 us fd l I1.kIn (by rw [← r.length]; exact hl)) r q) ?_)
  intro fl s' hq
  match fl, hq with
  | .error e, hq => exact hq.elim
  | .ok (.ret u), hq => exact I1.after hq
  | .ok .next, hq => exact hq.elim
  | .ok .brk, hq => exact hq.elim
  | .ok .cont, hq => exact hq.elim
end
end RK
namespace RK
open PySem PySem.Spec PyProof.Rows L2

/-- C's own name stands at f -/
structure OwnAt (K : PySem.W.Frag) (C : Addr) (nm : Str) (f : Addr) : Prop where
  at_ : PySem.W.findIn K (.ref C) nm = some (some (.ref f))
  fn : PySem.W.isFn K (.ref f) = true
section
variable {X : Cx} {CX : CXT} {k : Nat} {C f g : Addr} {fd : FuncData} {ps : List Str} {sp : Sp} {E : XK}
/-- x == y by x's own ==, whatever y is -/
def rOwnEq (K : PySem.W.Frag) (C : Addr) (sp : Sp) (E : XK) : R2 := fun x y H Q => ∃ a dx fs t, x = .ref a ∧ H a = some (.ins C dx fs) ∧ TyX K H y t ∧ PySem.W.notFirst K C t = true ∧ sp [x, y] H Q E
theorem op_eqO (o : OwnAt X.K C "__eq__" f) (F : FnOk X.prog X.w X.K X.mg X.base CX k f fd ps sp) (hr : Room k X.A) (hb : Binds X.K fd ps []) (hx : Passes CX X E) : OpR X (compareOp .Eq) (rOwnEq X.K C sp E) := by
  intro pins s σ H x y v u Q I rx ry h
  obtain ⟨a, dx, fs, t, rfl, ea, ty, nf, q⟩ := h
  cases rx
  obtain ⟨oa, Ja⟩ := instAt I ea
  obtain ⟨m, hF⟩ := I.fr
  obtain ⟨P, Z, hp, _⟩ := kit_of I ry ty
  exact PySem.W.cmp_K (op := .Eq) hr.units0 hF I.ok.mod.kin Ja (Z.ty _ _ I.kIn hp) nf o.at_ o.fn
    (thn (run_at (sub0 hr) F hb hx I (show Vals [V.ref a, y] [Value.ref a, u] from .cons rfl (.cons ry .nil)) q) fun _ _ z => cmpBack z)

/-- what the promise of == says: a bool, whatever comes behind -/
def spNot (sp : Sp) : Sp := fun vs H Q E => sp vs H (fun v H' => ∃ b, v = .bl b ∧ Q (.bl (!b)) H') E
def rOwnNe (K : PySem.W.Frag) (C : Addr) (sp : Sp) (E : XK) : R2 := fun x y H Q => ∃ a dx fs t, x = .ref a ∧ H a = some (.ins C dx fs) ∧ TyX K H y t ∧ PySem.W.notFirst K C t = true ∧ spNot sp [x, y] H Q E
structure OwnNe (K : PySem.W.Frag) (C : Addr) : Prop where
  at_ : PySem.W.findIn K (.ref C) "__ne__" = some (some (.builtin "object.__ne__"))
  obj : PySem.W.mroIn K C (.type "object") = some true
theorem op_neO (n : OwnNe X.K C) (o : OwnAt X.K C "__eq__" f) (F : FnOk X.prog X.w X.K X.mg X.base CX k f fd ps sp) (hr : Room (k + 1) X.A) (hb : Binds X.K fd ps []) (hx : Passes CX X E) : OpR X (compareOp .NotEq) (rOwnNe X.K C sp E) := by
  intro pins s σ H x y v u Q I rx ry h
  obtain ⟨a, dx, fs, t, rfl, ea, ty, nf, q⟩ := h
  cases rx
  obtain ⟨oa, Ja⟩ := instAt I ea
  obtain ⟨m, hF⟩ := I.fr
  obtain ⟨P, Z, hp, _⟩ := kit_of I ry ty
  have KX := I.kIn
  have one : wpAny (model X.prog X.w) X.A (tryCompare (.ref a) "__ne__" u) (fun r s' => ∃ z, r = some z ∧ EP X pins σ Q z s') X.xe s := by
    unfold tryCompare
    refine wpAny_bind ?_
    simp only [callSpecialIfBound?, bindSpecialIfBound?]
    refine wpAny_holding (wpAny_bind (wpAny_bind (wpAny_bind (Ja.type.here ((PySem.W.looks_findIn KX n.at_).here ?_)))))
    refine wpAny_bind (wpAny_askSetting (wpAny_ite ?_))
    have fin : wpAny (model X.prog X.w) X.A (call (.builtin "object.__ne__") ([.ref a] ++ [u]) >>= fun v => pure (some v)) (fun r s' => wpAny (model X.prog X.w) X.A (match r with | some .notImplemented => pure none | none => pure none | some v => pure (some v)) (fun r s' => ∃ z, r = some z ∧ EP X pins σ Q z s') X.xe s') X.xe s := by
      refine wpAny_bind (wpAny_call (codeAny_call_builtin (PySem.F.slot_object_ne.plain) PySem.F.cmpEntry_ne (PySem.W.check_slot (i := "object.__ne__") (owner := "object") (n := "__ne__") (by decide +kernel) (by decide +kernel) (Ja.type.andThen (PySem.W.looks_mroIn KX n.obj)) (PySem.F.cmpArgs_ne _ _) ?_)))
      unfold Builtin.«object.__ne__»
      refine wpAny_bind (wpAny_pure ?_)
      refine wpAny_bind (wpAny_cRoomFor (by have := hr.units; show X.A.units + 1 < _; omega) ?_)
      refine wpAny_bind (PySem.W.ifBound_K KX Ja o.at_ o.fn (thn (run_at (A := X.A.in1) ⟨hr.in1, rfl⟩ F hb hx I (show Vals [V.ref a, y] [Value.ref a, u] from .cons rfl (.cons ry .nil)) q) ?_))
      intro r s' ⟨b0, H', I', rb, b, eb, qb⟩
      subst eb
      cases rb
      refine wpAny_bind (wpAny_truthy_bool (wpAny_pure ?_))
      exact wpAny_pure (wpAny_pure ⟨_, rfl, .bl (!b), H', I', rfl, qb⟩)
    split
    · exact wpAny_bind ((PySem.W.Looks.of_pure (PySem.F.slot_object_ne.bind _)).here (wpAny_pure (by exact fin)))
    · exact wpAny_tryCatch (wpAny_bind ((PySem.W.Looks.of_pure (PySem.F.slot_object_ne.bind _)).here (wpAny_pure (by exact fin))))
  show wpAny _ _ (richCompare .NotEq (.ref a) u) _ _ _
  unfold richCompare
  simp only [oneThing_ref]
  refine wpAny_holding (wpAny_bind (wpAny_cRoomFor hr.units0 ?_))
  refine wpAny_bind (Ja.type.here (wpAny_bind ((Z.ty _ _ KX hp).here ?_)))
  split
  · rename_i qq
    have e : PySem.W.subIn X.K t (.ref C) = some false := by
      rcases Bool.or_eq_true_iff.mp nf with e | e
      · rw [beq_iff_eq.mp e] at qq
        simp at qq
      · exact beq_iff_eq.mp e
    refine wpAny_bind ((PySem.W.looks_subIn KX e).here ?_)
    simp only [Bool.false_eq_true, if_false]
    refine wpAny_bind (wpAny_mono one (fun r s' z => ?_) fun _ _ e => e)
    obtain ⟨v, rfl, hq⟩ := z
    exact wpAny_pure hq
  · refine wpAny_bind (wpAny_pure ?_)
    simp only [Bool.false_eq_true, if_false]
    refine wpAny_bind (wpAny_mono one (fun r s' z => ?_) fun _ _ e => e)
    obtain ⟨v, rfl, hq⟩ := z
    exact wpAny_pure hq
end
end RK
namespace RK
open PySem PySem.Spec PyProof.Rows L2
section
variable {X : Cx} {CX : CXT} {k : Nat} {C f g : Addr} {fd : FuncData} {ps : List Str} {sp : Sp} {E : XK}
/-- what a promise of a text says -/
def spStr (sp : Sp) : Sp := fun vs H Q E => sp vs H (fun v H' => ∃ z, v = .str z ∧ Q (.str z) H') E
def rOwnS (C : Addr) (sp : Sp) (E : XK) : List V → Hp → VK → Prop := fun vs H Q => ∃ a dx fs, vs = [.ref a] ∧ H a = some (.ins C dx fs) ∧ spStr sp [.ref a] H Q E
theorem strBack {pins : List (Addr × Obj)} {σ : L2.St} {Q : VK} {r : Value} {s' : Shared} (h : EP X pins σ (fun v H' => ∃ z, v = .str z ∧ Q (.str z) H') r s') : PySem.W.StrBack (EP X pins σ Q) r s' := by
  obtain ⟨v, H', I', rv, z, e, q⟩ := h
  subst e
  obtain ⟨t, e⟩ := rv
  subst e
  exact ⟨.str z, H', I', ⟨t, rfl⟩, q⟩
/-- repr(x) by x's own -/
theorem call_reprO (o : OwnAt X.K C "__repr__" f) (F : FnOk X.prog X.w X.K X.mg X.base CX k f fd ps sp) (hr : Room (k + 1) X.A) (hb : Binds X.K fd ps []) (hx : Passes CX X E) : CallR X (.builtin "repr") (rOwnS C sp E) := by
  intro pins s σ H vs us Q I r h
  obtain ⟨a, dx, fs, rfl, ea, q⟩ := h
  obtain ⟨u, rfl, ru⟩ := vals1 r
  cases ru
  obtain ⟨oa, Ja⟩ := instAt I ea
  obtain ⟨m, hF⟩ := I.fr
  exact PySem.W.repr_K (by have := hr.units; show X.A.units + 1 < _; omega) hF I.ok.mod.kin Ja o.at_ o.fn
    (thn (run_at (A := X.A.in1) ⟨hr.in1, rfl⟩ F hb hx I (show Vals [V.ref a] [Value.ref a] from .cons rfl .nil) q) fun _ _ z => strBack z)
/-- str(x) by x's own -/
theorem call_strO (o : OwnAt X.K C "__str__" f) (F : FnOk X.prog X.w X.K X.mg X.base CX k f fd ps sp) (hr : Room (k + 2) X.A) (hb : Binds X.K fd ps []) (hx : Passes CX X E) : CallR X (.type "str") (rOwnS C sp E) := by
  intro pins s σ H vs us Q I r h
  obtain ⟨a, dx, fs, rfl, ea, q⟩ := h
  obtain ⟨u, rfl, ru⟩ := vals1 r
  cases ru
  obtain ⟨oa, Ja⟩ := instAt I ea
  obtain ⟨m, hF⟩ := I.fr
  have KX := I.kIn
  refine callType_codes (T := "str") (Bi := Builtin.«object.__init__») (Q₁ := fun z s₁ => ∃ y u, z = .str y u ∧ EP X pins σ Q z s₁)
    PySem.F.called_str (PySem.F.typeCall_str_1 _) PySem.F.entry_object_init ?_ ?_
  · refine codeAny_of_tree ?_
    show wpAny _ X.A.in1.in1 (do checkBuiltinCall "str.__new__" _; again (.builtin "str.__new__" _)) _ _ s
    refine wpAny_bind (wpAny_of_eq (PySem.F.newCall_str_1 _) ?_)
    refine wpAny_pure ⟨plainId_quiet (by decide +kernel) _, codeAny_builtin PySem.F.entry_str_new ?_⟩
    rw [Around.under_plainId (by decide +kernel) _]
    rw [str_new_tree]
    refine wpAny_bind (wpAny_pure (wpAny_bind (wpAny_of_eq isSubtype_str_str ?_)))
    have key : wpAny (model X.prog X.w) X.A.in1.in1 (PySem.Builtin.Str.strOf (.ref a)) (fun z s₁ => ∃ y u, z = .str y u ∧ EP X pins σ Q z s₁) X.xe s := by
      unfold PySem.Builtin.Str.strOf
      rw [show PySem.Builtin.Str.isExactStr (.ref a) = false from rfl]
      refine wpAny_bind (m := cRoomFor _ _) (wpAny_cRoomFor (by have := hr.units; show X.A.units + 1 + 1 < _; omega) ?_)
      refine wpAny_bind (m := callSpecial? (.ref a) (Str.ofString "__str__")) ?_
      refine PySem.W.special_fn KX Ja o.at_ (beq_iff_eq.mp o.fn) ?_
      refine thn (run_at (A := X.A.in1.in1) ⟨hr.in1.in1, rfl⟩ F hb hx I (show Vals [V.ref a] [Value.ref a] from .cons rfl .nil) q) ?_
      intro z s1 hz
      obtain ⟨v, H', I', rv, y, e, q'⟩ := hz
      subst e
      obtain ⟨t, e⟩ := rv
      subst e
      exact wpAny_pure ⟨_, _, rfl, .str y, H', I', ⟨t, rfl⟩, q'⟩
    exact wpAny_bind (thn key fun z s1 hz => wpAny_pure hz)
  · rintro obj s₁ ⟨y, u, rfl, hq⟩
    exact ⟨typeIs_str _ _ _, PySem.F.args_object_init_2 _ _, object_init_meets PySem.F.called_str.init.lookup PySem.F.called_str.made (by decide) X.prog X.w X.A.in1 _ s₁ ⟨typeIs_str _ _ _, rfl, hq⟩⟩

/-- repr of data: numbers, truths, texts, lists and tuples of them -/
def rReprD (K : PySem.W.Frag) : List V → Hp → VK → Prop := fun vs H Q => ∃ a d, vs = [.ref a] ∧ Dp K H (.ref a) d ∧ d.showable = true ∧ d.hasDict = false ∧ d.depth ≤ 40 ∧ d.shown.length ≤ sizeLine ∧ Q (.str d.shown) H
theorem call_reprD (hG : X.A.guards = some []) (hu : X.A.units + 64 < cLine) : CallR X (.builtin "repr") (rReprD X.K) := by
  intro pins s σ H vs us Q I r h
  obtain ⟨a, d, rfl, hd, hs, hn, hdp, hz, q⟩ := h
  obtain ⟨u, rfl, ru⟩ := vals1 r
  cases ru
  obtain ⟨as, rd⟩ := Dp.reads I d _ _ hd rfl
  refine repr_of_reads' rd hs (fun z => by rw [hn] at z; cases z) hG (by omega) (fun b o e => e) ?_ hz
  intro h' u tk hk
  exact ⟨.str d.shown, H, I.kept hk, ⟨u, rfl⟩, q⟩

/-- // by a number that is not 0 -/
def CFd (_ j : Int) : Prop := j ≠ 0 ∧ j.natAbs.log2 < 9000
theorem op_fdivS : OpR X (binaryOp .FloorDiv) (rI CFd fun i j => .int (i.fdiv j)) := opI fun i j _ _ _ _ _ hc q => floordiv_int hc.1 q (.inl (PyProof.noPylong_of_log2 hc.2))
end
end RK
namespace RK
open PySem PySem.Spec PyProof.Rows L2
section
variable {X : Cx} {CX : CXT} {k n : Nat} {C f p g : Addr} {mc : Value} {fd : FuncData} {ps ks : List Str} {sp : Sp} {E : XK} {o : Expr} {m x : Str} {pos apos np : Pos} {kws : List Keyword} {ta : TE} {t tk : TA} {pl : Sem Bool}
  {gg : List Value → List Value → List Value} {gV : List V → List V → List V}
/-- a def called with positional values and keywords -/
theorem run_kw {pins : List (Addr × Obj)} {σ : L2.St} {H : Hp} {s : Shared} {Q : VK} {us ws : List Value} {vs zs : List V} (F : FnOk X.prog X.w X.K X.mg X.base CX k f fd ps sp) (hr : Room k X.A)
    (hb : KBn X.K fd ps n ks gg gV) (hx : Passes CX X E) (I : Inv X pins σ H s) (r : Vals vs us) (rz : Vals zs ws) (l1 : vs.length = n) (l2 : zs.length = ks.length) (h : sp (gV vs zs) H Q E) :
    codeAny (model X.prog X.w) X.A (.call (.ref f) ⟨us, ks.zip ws⟩) (fun r s' => match r with | .ok (.ret v) => EP X pins σ Q v s' | .ok _ => False | .error e => X.xe e s') s := by
  refine codeAny_mono (F.run X.A X.stack s H ⟨us, ks.zip ws⟩ (gg us ws) (gV vs zs) Q E hr I.env0
    (hb.to s us ws I.kIn (by rw [← r.length]; exact l1) (by rw [← rz.length]; exact l2)) (hb.rel r rz) h) ?_
  intro fl s' hq
  match fl, hq with
  | .error e, hq => exact hx pins σ H s e s' I hq
  | .ok (.ret u), hq => exact I.after hq
  | .ok .next, hq => exact hq.elim
  | .ok .brk, hq => exact hq.elim
  | .ok .cont, hq => exact hq.elim
/-- o.m(k = v, ..) -/
def tMethK (C : Addr) (m : Str) (nk : Nat) (sp : Sp) (gV : List V → List V → List V) (E : XK) (ta : TE) (tk : TA) : TE := fun σ H Q => ta σ H fun x H1 => ∃ a dx fs, x = .ref a ∧ H1 a = some (.ins C dx fs) ∧ fs.lookup m = none ∧
  tk σ H1 fun zs H2 => zs.length = nk ∧ sp (gV [x] zs) H2 Q E
theorem pe_methK (he : PE X o ta) (c : Cls X.K C) (hm : Meth X.K C m f) (F : FnOk X.prog X.w X.K X.mg X.base CX k f fd ps sp) (hr : Room k X.A)
    (hb : KBn X.K fd ps 1 ks gg gV) (hx : Passes CX X E) (hkw : PK X kws tk)
    (hall : (backToKw pos (keywordEach kws X.env)).all (·.1.isSome) = true := by rfl) (hks : (backToKw pos (keywordEach kws X.env)).filterMap (·.1) = ks := by rfl)
    (hpl : ((backTo pos (starEach [] X.env)).any (·.1) || (backToKw pos (keywordEach kws X.env)).any (·.1.isNone)) = false := by rfl)
    (ht : eval (.Call (.Attribute o m apos) [] kws pos) X.env = (do
      let ov ← eval o X.env
      standAt apos.atName
      let (f, first) ← holding [ov] (getMethod ov m pl)
      callWith pos f first (backTo pos (starEach [] X.env)) (backToKw pos (keywordEach kws X.env))) := by rfl) :
    PE X (.Call (.Attribute o m apos) [] kws pos) (tMethK C m ks.length sp gV E ta tk) := by
  refine ⟨fun pins s σ H Q I h => PySem.W.methodCall_KW (pl := pl) (thn (he.run pins s σ H _ I h) ?_) ht⟩
  intro u s1 ⟨x, H1, I1, rx, a, dx, fs, ex, ea, l, q⟩
  subst ex
  obtain rfl : u = Value.ref a := rx
  refine getmeth_ok I1 ea c hm l ?_
  refine PySem.W.callWith_KW0 (first := [.ref a]) (h₀ := X.base) I.ok.mod.kin hm.kp hall ?_ hpl
  refine thn (hkw.run pos pins s1 σ H1 _ I1 q) fun ws s2 ⟨zs, H2, I2, rz, l2, q2⟩ => ⟨I2.kIn, ?_⟩
  rw [hks]
  exact wpAny_call (run_kw (us := [.ref a]) (vs := [.ref a]) F hr hb hx I2 (.cons rfl .nil) rz rfl l2 q2)
/-- C.m(k = v, ..), m a classmethod -/
def tCMethK (C : Addr) (nk : Nat) (sp : Sp) (gV : List V → List V → List V) (E : XK) (ta : TE) (tk : TA) : TE := fun σ H Q => ta σ H fun x H1 => x = .ref C ∧ tk σ H1 fun zs H2 => zs.length = nk ∧ sp (gV [x] zs) H2 Q E
theorem pe_cmethK (he : PE X o ta) (r : ClX.CRead X.K C mc) (c : ClX.CMet X.K C mc m p f) (F : FnOk X.prog X.w X.K X.mg X.base CX k f fd ps sp) (hr : Room k X.A)
    (hb : KBn X.K fd ps 1 ks gg gV) (hx : Passes CX X E) (hkw : PK X kws tk)
    (hall : (backToKw pos (keywordEach kws X.env)).all (·.1.isSome) = true := by rfl) (hks : (backToKw pos (keywordEach kws X.env)).filterMap (·.1) = ks := by rfl)
    (hpl : ((backTo pos (starEach [] X.env)).any (·.1) || (backToKw pos (keywordEach kws X.env)).any (·.1.isNone)) = false := by rfl)
    (ht : eval (.Call (.Attribute o m apos) [] kws pos) X.env = (do
      let ov ← eval o X.env
      standAt apos.atName
      let (f, first) ← holding [ov] (getMethod ov m pl)
      callWith pos f first (backTo pos (starEach [] X.env)) (backToKw pos (keywordEach kws X.env))) := by rfl) :
    PE X (.Call (.Attribute o m apos) [] kws pos) (tCMethK C ks.length sp gV E ta tk) := by
  refine ⟨fun pins s σ H Q I h => PySem.W.methodCall_KW (pl := pl) (thn (he.run pins s σ H _ I h) ?_) ht⟩
  intro u s1 ⟨x, H1, I1, rx, ex, q⟩
  subst ex
  obtain rfl : u = Value.ref C := rx
  refine ClX.getmethcm_ok I1 r c fun s2 I2 => ?_
  refine PySem.W.callWith_of (P := PySem.W.MethP X.K s1.heap.objs.size f (.ref C)) hpl (PySem.W.keeps_M c.fi) (evalArgs_kw2_nil hall ?_)
  refine thn (hkw.run pos _ s2 σ H1 _ I2 q) fun ws s3 ⟨zs, H2, I3, rz, l2, q2⟩ => ⟨⟨ClX.pin_at I3, I3.kIn⟩, ?_⟩
  rw [hks]
  refine thn (wpAny_call (PySem.W.method_call (ClX.pin_at I3) (run_kw (us := [.ref C]) (vs := [.ref C]) F hr hb hx I3 (.cons rfl .nil) rz rfl l2 q2))) fun _ _ z => ClX.unpinE z
/-- c(e, ..), c a name that holds the class at C -/
def tMakeL (i : Nat) (C : Addr) (sp : Sp) (dvs : List V) (E : XK) (t : TA) : TE := fun σ H Q => σ[i]? = some (some (.ref C)) ∧ tMake C sp dvs E t σ H Q
variable {dvs : List V} {ds : List Value} {e : Expr} {es : List Expr} {i : Nat}
theorem pe_makeL (M : Mk X.K C f) (F : FnOk X.prog X.w X.K X.mg X.base CX k f fd ps sp) (hr : Room (k + 1) X.A) (hN : X.N[i]? = some x) (hv : Vis X.env.scope x) (hb : Binds X.K fd ps ds) (hd : Vals dvs ds) (hx : Passes CX X E)
    (ha : PA X (e :: es) t) (hdb : (x == ("__debug__" : Str)) = false := by decide) (hcd : (x == ("__classdict__" : Str)) = false := by decide)
    (he : starEach (e :: es) X.env = (false, eval e X.env) :: starEach es X.env := by rfl) (hpl : (backTo pos (starEach es X.env)).any (·.1) = false := by rfl) :
    PE X (.Call (.Name x np) (e :: es) [] pos) (tMakeL i C sp dvs E t) := by
  refine ⟨fun pins s σ H Q I h => ?_⟩
  obtain ⟨hs, h⟩ := h
  have pn := (pe_var (pos := np) hN hv hdb hcd).run pins s σ H (fun v H' => v = .ref C ∧ H' = H) I ⟨_, hs, rfl, rfl⟩
  refine wpAny_Call_Name_kw (thn pn ?_)
  intro u s0 ⟨v, H0, I0, rv, ev, eH⟩
  subst ev
  subst eH
  obtain rfl : u = Value.ref C := rv
  refine PySem.W.callWith_K (h₀ := X.base) I.ok.mod.kin M.kp (thn (ha.run pos pins s0 σ H0 _ I0 h) fun us s1 ⟨vs, H1, I1, r, q⟩ => ⟨I1.kIn, ?_⟩) he hpl
  exact run_make M F hr hb hd hx I1 r q
end
end RK
namespace RK
open PySem PySem.Spec PyProof.Rows L2

/-- the heaps a law starts from -/
structure Begin (P : Program) (w : World) (K : PySem.W.Frag) (h : Heap) (a : Addr)
    (vs : List Value) (ns : List Int) (H : Hp) : Prop where
  only : Only H
  sq : SqL K H a (ns.map V.int)
  ok : HOk P w H h
  one : ∀ b u, H b = some u → b = a
  noK : ∀ u, H a = some u → K.lookup a = none
theorem begin_ex {P : Program} {w : World} {K : PySem.W.Frag} {h : Heap} {a : Addr} {vs : List Value} {ns : List Int} (KX : K.In h)
    (ha : h.get? a = some { cls := .type "list", data := .seq vs.toArray }) (hi : IntsAre vs ns) (hl : ns.length ≤ sizeLine) : ∃ H, Begin P w K h a vs ns H := by
  have rv := vals_ints hi
  have hlen := hi.length
  cases hk : K.lookup a with
  | some o =>
    have e := KX a o hk
    rw [ha] at e
    cases e
    refine ⟨fun _ => none, fun _ => .inl rfl, .inr ⟨_, vs.toArray, _, hk, rfl, rfl, rfl, ?_, by simpa using rv⟩, fun _ _ z => (nomatch z), fun _ _ z => (nomatch z), fun _ z => (nomatch z)⟩
    rw [List.size_toArray, hlen]
    exact hl
  | none =>
    have at_a : ∀ o : HO, upd (fun _ => none) a o a = some o := fun o => upd_same
    have off : ∀ {o : HO} {b : Addr}, b ≠ a → upd (fun _ => none) a o b = none := fun n => upd_ne n
    refine ⟨upd (fun _ => none) a (.frz { cls := .type "list", data := .seq vs.toArray } (.lst (ns.map V.int))), fun b => ?_, .inl (.inr ⟨_, at_a _⟩), fun b u z => ?_, fun b u z => ?_, fun _ _ => hk⟩
    · by_cases n : b = a
      · subst n
        exact .inr ⟨_, _, at_a _⟩
      · exact .inl (off n)
    · by_cases n : b = a
      · subst n
        rw [at_a] at z
        cases z
        refine ⟨ha, ?_, vs, _, rv, ha⟩
        rw [List.length_map]
        exact hl
      · rw [off n] at z
        cases z
    · by_cases n : b = a
      · exact n
      · rw [off n] at z
        cases z
/-- the law's call, from the promise of its def -/
theorem lawG_call {P : Program} {w : World} {K : PySem.W.Frag} {mg mb : Str → Option Value} {k : Nat} {fa a : Addr} {x : Str} {sp : Sp} {s : Shared} {vs : List Value} {ns : List Int}
    (KX : K.In s.heap) (g1 : s.heap.Ns mainGlobals mg) (g2 : s.heap.Ns builtinsNs mb) (g3 : ∀ x : Str, x ≠ "__name__" → mb x = bootBuiltins x) (lim : s.heap.NoLimit) (gn : s.gens = #[])
    (ha : s.heap.get? a = some { cls := .type "list", data := .seq vs.toArray }) (hi : IntsAre vs ns) (hl : ns.length ≤ sizeLine) (hr : Room k callerA)
    (F : ∀ base : Heap, K.In base → base.Ns mainGlobals mg → FnG P w K mg base k fa [x] sp)
    (hb : ∀ (s : Shared) (u : Value) (fd : FuncData), (∃ oc od sl, K.lookup fa = some ⟨oc, od, .func fd, sl⟩) → BindsTo s fd ⟨[u], []⟩ [(x, u)])
    (hsp : ∀ H : Hp, Only H → SqL K H a (ns.map V.int) → sp [.ref a] H (fun v _ => v = .bl true) E0) :
    codeAny (model P w) callerA (.call (.ref fa) ⟨[.ref a], []⟩) (fun r s' => r = .ok (.ret (.bool true)) ∧ OldK s.heap s'.heap ∧ s'.os = s.os ∧ AllBare s'.gens) s := by
  obtain ⟨H, B⟩ := begin_ex (P := P) (w := w) KX ha hi hl
  have out : ∀ {b : Addr} {o : Obj}, s.heap.get? b = some o → H b = none → (hidT s.heap H).get? b = some o := fun e n => hidT_get e n
  have dicts : ∀ {b : Addr} {m : Str → Option Value}, s.heap.Ns b m → (hidT s.heap H).Ns b m := by
    intro b m ⟨o, es, ep, e, d, r⟩
    refine ⟨o, es, ep, out e ?_, d, r⟩
    cases q : H b with
    | none => rfl
    | some u =>
      have n := B.one b u q
      subst n
      rw [ha] at e
      cases e
      have z : Data.seq vs.toArray _ = Data.dict es ep := d
      cases z
  have hK : K.In (hidT s.heap H) := by
    intro b o e
    refine out (KX b o e) ?_
    cases q : H b with
    | none => rfl
    | some u =>
      have n := B.one b u q
      subst n
      rw [B.noK u q] at e
      cases e
  obtain ⟨mc, l1, l2⟩ := lim
  have hM : Mod K mg (hidT s.heap H) := ⟨hK, dicts g1, ⟨mb, dicts g2, g3⟩, ⟨mc, dicts l1, l2⟩⟩
  have e0 : Env0 P w K mg (hidT s.heap H) callerA [] s H :=
    ⟨rfl, hM, fun b o e => of_hidT e, Nat.le_of_eq (hidT_size _ _), trivial, fun b z => absurd (show b ∈ ([] : List Addr) from z) (by simp), B.ok, .of_eq gn⟩
  refine codeAny_mono ((F _ hK (dicts g1)).run callerA [] s H ⟨[.ref a], []⟩ [.ref a] [.ref a] _ hr rfl e0 (fun fd l => hb s _ fd l) (.cons rfl .nil) (hsp H B.only B.sq)) ?_
  intro fl s' hq
  match fl, hq with
  | .error e, hq => exact hq.elim
  | .ok .next, hq => exact hq.elim
  | .ok .brk, hq => exact hq.elim
  | .ok .cont, hq => exact hq.elim
  | .ok (.ret u), ⟨v, H', os, bare, un, ok', rv, q⟩ =>
    have q : v = .bl true := q
    subst q
    obtain rfl : u = Value.bool true := rv
    refine ⟨rfl, OldK.of_keep fun b o e => ?_, os, bare⟩
    rcases B.only b with n | ⟨ob, xs, z⟩
    · exact un.keep b o e n (fun z => absurd (show b ∈ ([] : List Addr) from z) (by simp)) (by simp)
    · have k1 := (B.ok b _ z).1
      have k2 := (ok' b _ (un.frzs b ob _ z)).1
      rw [e] at k1
      cases k1
      exact k2
/-- the end of a law -/
theorem walkG {l : PySem.W.OpenLaw} {n k : Nat} {q : Program} {loose : List Str} {XP : (Str → Option Value) → Heap → Prop} {YP : World → Heap → Prop} {d : DefRec} {K : Params → PySem.W.Frag} {sp : World → Sp} {x : Str}
    (hn : l.most = some n) (hn2 : n ≤ sizeLine) (hdf : d.params.defaults = []) (hr : Room k callerA) (hY : ∀ (w : World) (h : Heap), YP w h → (K w.params).In h)
    (F : ∀ (w : World) (mg : Str → Option Value) (fa : Addr) (h : Heap), (K w.params).In h → h.Ns mainGlobals mg → mg d.name = some (.ref fa) →
      (∀ (s : Shared) (u : Value) (fd : FuncData), (∃ oc od sl, (K w.params).lookup fa = some ⟨oc, od, .func fd, sl⟩) → BindsTo s fd ⟨[u], []⟩ [(x, u)]) ∧
        ∀ base : Heap, (K w.params).In base → base.Ns mainGlobals mg → FnG l.prog w (K w.params) mg base k fa [x] (sp w))
    (hsp : ∀ (w : World) (H : Hp) (a : Addr) (ns : List Int), ns.length ≤ n → Only H → SqL (K w.params) H a (ns.map V.int) → sp w [.ref a] H (fun v _ => v = .bl true) E0) :
    PySem.W.WalkO q loose XP YP l.row.toRowW d [] (fun f vs => PySem.call f vs) := by
  refine Att.attach_call hn hdf ?_
  intro w s₀ s₁ mg mb fa o pm cd doc a vs ns G Y ho hd hcd hmg hobj hints hlen hg
  have KX := hY w _ Y
  obtain ⟨hb, hF⟩ := F w mg fa _ KX G.T.g hmg
  exact lawG_call KX G.T.g G.T.b G.T.builtins G.T.nolimit hg hobj hints (Nat.le_trans hlen hn2) hr hF hb (fun H hO hS => hsp w H a ns hlen hO hS)
end RK
namespace RK
open PySem PySem.Spec PyProof.Rows L2
open Evl (Ex EvT)

/-! ### values by what is true of them, in heaps that grow -/
abbrev VP := V → Hp → Prop
class Mo (P : VP) : Prop where
  mo : ∀ {v H H'}, Ex H H' → P v H → P v H'
def Is (u : V) : VP := fun v _ => v = u
instance {u : V} : Mo (Is u) := ⟨fun _ h => h⟩
/-- some truth value -/
def IsB (b : Bool) : VP := Is (.bl b)
def AllP : List VP → List V → Hp → Prop
  | [], [], _ => True
  | P :: Ps, v :: vs, H => P v H ∧ AllP Ps vs H
  | _, _, _ => False
class MoL (Ps : List VP) : Prop where
  mo : ∀ {vs H H'}, Ex H H' → AllP Ps vs H → AllP Ps vs H'
instance : MoL [] := ⟨fun {vs H H'} _ h => by cases vs with | nil => trivial | cons _ _ => exact h.elim⟩
instance {P : VP} {Ps : List VP} [p : Mo P] [q : MoL Ps] : MoL (P :: Ps) := ⟨fun {vs H H'} e h => by
  cases vs with
  | nil => exact h.elim
  | cons v vs => exact ⟨p.mo e h.1, q.mo e h.2⟩⟩
theorem AllP.len : ∀ {Ps : List VP} {vs : List V} {H : Hp}, AllP Ps vs H → vs.length = Ps.length
  | [], [], _, _ => rfl
  | _ :: _, _ :: _, _, h => congrArg Nat.succ (AllP.len h.2)
  | [], _ :: _, _, h => h.elim
  | _ :: _, [], _, h => h.elim
theorem AllP.snoc {P : VP} {v : V} {H : Hp} : ∀ {Ps : List VP} {vs : List V}, AllP Ps vs H → P v H → AllP (Ps ++ [P]) (vs ++ [v]) H
  | [], [], _, q => ⟨q, trivial⟩
  | _ :: _, _ :: _, h, q => ⟨h.1, AllP.snoc h.2 q⟩
  | [], _ :: _, h, _ => h.elim
  | _ :: _, [], h, _ => h.elim
theorem AllP.get : ∀ {Ps : List VP} {vs : List V} {H : Hp} {i : Nat} {v : V}, AllP Ps vs H → vs[i]? = some v → ∃ P, Ps[i]? = some P ∧ P v H
  | P :: Ps, v :: vs, H, 0, x, h, e => by
    have e : v = x := by simpa using e
    subst e
    exact ⟨P, rfl, h.1⟩
  | P :: Ps, v :: vs, H, i + 1, x, h, e => AllP.get (Ps := Ps) (vs := vs) (i := i) h.2 (by simpa using e)
  | [], [], _, _, _, _, e => by simp at e
  | [], _ :: _, _, _, _, h, _ => h.elim
  | _ :: _, [], _, _, _, h, _ => h.elim
/-- a list, a tuple of such -/
def IsL (K : PySem.W.Frag) (Ps : List VP) : VP := fun v H => ∃ a xs, v = .ref a ∧ SqL K H a xs ∧ AllP Ps xs H
def IsT (K : PySem.W.Frag) (Ps : List VP) : VP := fun v H => ∃ a xs, v = .ref a ∧ SqT K H a xs ∧ AllP Ps xs H
instance {K : PySem.W.Frag} {Ps : List VP} [q : MoL Ps] : Mo (IsL K Ps) := ⟨fun e ⟨a, xs, h1, h2, h3⟩ => ⟨a, xs, h1, Evl.ex_l e h2, q.mo e h3⟩⟩
instance {K : PySem.W.Frag} {Ps : List VP} [q : MoL Ps] : Mo (IsT K Ps) := ⟨fun e ⟨a, xs, h1, h2, h3⟩ => ⟨a, xs, h1, Evl.ex_t e h2, q.mo e h3⟩⟩

/-! ### what evaluates to such a value -/
def EvP (te : TE) (σ : L2.St) (H : Hp) (P : VP) : Prop := ∀ H1, Ex H H1 → ∀ Q : VK, (∀ v H2, Ex H1 H2 → P v H2 → Q v H2) → te σ H1 Q
def EvAs (ta : TA) (σ : L2.St) (H : Hp) (Ps : List VP) : Prop := ∀ H1, Ex H H1 → ∀ Q : List V → Hp → Prop, (∀ vs H2, Ex H1 H2 → AllP Ps vs H2 → Q vs H2) → ta σ H1 Q
def RVP (r : R2) (x y : V) (H : Hp) (P : VP) : Prop := ∀ Q : VK, (∀ v H2, Ex H H2 → P v H2 → Q v H2) → r x y H Q
def RUP (r : V → Hp → VK → Prop) (x : V) (H : Hp) (P : VP) : Prop := ∀ Q : VK, (∀ v H2, Ex H H2 → P v H2 → Q v H2) → r x H Q
def RCP (r : List V → Hp → VK → Prop) (vs : List V) (H : Hp) (P : VP) : Prop := ∀ Q : VK, (∀ v H2, Ex H H2 → P v H2 → Q v H2) → r vs H Q
section
variable {K : PySem.W.Frag} {σ : L2.St} {H H' : Hp} {ta tb te : TE} {t : TA} {tt tu : TT} {x y v : V} {r : R2} {P P' R : VP} {Ps : List VP} {i j : Int} {n : Nat}
theorem EvP.mono (e : Ex H H') (h : EvP te σ H P) : EvP te σ H' P := fun H1 a Q q => h H1 (e.trans a) Q q
theorem EvAs.mono (e : Ex H H') (h : EvAs t σ H Ps) : EvAs t σ H' Ps := fun H1 a Q q => h H1 (e.trans a) Q q
theorem EvP.imp (h : EvP te σ H P) (k : ∀ v H1, Ex H H1 → P v H1 → R v H1) : EvP te σ H R := fun H1 e Q q => h H1 e Q fun v H2 e2 p => q v H2 e2 (k v H2 (e.trans e2) p)
theorem p_var [Mo P] (h : σ[n]? = some (some v)) (p : P v H) : EvP (tVar n) σ H P := fun H1 e Q q => ⟨v, h, q v H1 (Ex.refl H1) (Mo.mo e p)⟩
theorem p_val (h : σ[n]? = some (some v)) : EvP (tVar n) σ H (Is v) := p_var h rfl
theorem p_c : EvP (tC v) σ H (Is v) := fun H1 _ Q q => q v H1 (Ex.refl H1) rfl
theorem p_op [Mo P] (ha : EvP ta σ H P) (hb : EvP tb σ H P') (hr : ∀ x y H1, Ex H H1 → P x H1 → P' y H1 → RVP r x y H1 R) : EvP (tOp r ta tb) σ H R := fun H1 e Q q =>
  ha H1 e _ fun x H2 e2 px => hb H2 (e.trans e2) _ fun y H3 e3 py => hr x y H3 ((e.trans e2).trans e3) (Mo.mo e3 px) py Q fun v H4 e4 p => q v H4 ((e2.trans e3).trans e4) p
theorem p_un {r : V → Hp → VK → Prop} (ha : EvP ta σ H P) (hr : ∀ x H1, Ex H H1 → P x H1 → RUP r x H1 R) : EvP (tUn r ta) σ H R := fun H1 e Q q =>
  ha H1 e _ fun x H2 e2 px => hr x H2 (e.trans e2) px Q fun v H3 e3 p => q v H3 (e2.trans e3) p
theorem RVP.of (h : ∀ Q : VK, Q v H → r x y H Q) : RVP r x y H (Is v) := fun Q q => h Q (q v H (Ex.refl H) rfl)
theorem RVP.inl {r' : R2} (h : RVP r x y H P) : RVP (fun x y H Q => r x y H Q ∨ r' x y H Q) x y H P := fun Q q => .inl (h Q q)
theorem RVP.inr {r' : R2} (h : RVP r' x y H P) : RVP (fun x y H Q => r x y H Q ∨ r' x y H Q) x y H P := fun Q q => .inr (h Q q)
theorem rvp_I0 {g : Int → Int → V} : RVP (rI0 g) (.int i) (.int j) H (Is (g i j)) := .of fun _ q => ⟨i, j, rfl, rfl, q⟩
theorem rvp_I {C : Int → Int → Prop} {g : Int → Int → V} (hc : C i j) : RVP (rI C g) (.int i) (.int j) H (Is (g i j)) := .of fun _ q => ⟨i, j, rfl, rfl, hc, q⟩
/-- two values known -/
theorem p_op2 (ha : EvP ta σ H (Is x)) (hb : EvP tb σ H (Is y)) (hr : ∀ H1, Ex H H1 → RVP r x y H1 R) : EvP (tOp r ta tb) σ H R :=
  p_op ha hb fun _ _ H1 e p q => by
    cases p
    cases q
    exact hr H1 e
theorem p_I0 {g : Int → Int → V} (ha : EvP ta σ H (Is (.int i))) (hb : EvP tb σ H (Is (.int j))) : EvP (tOp (rI0 g) ta tb) σ H (Is (g i j)) := p_op2 ha hb fun _ _ => rvp_I0
theorem p_I {C : Int → Int → Prop} {g : Int → Int → V} (ha : EvP ta σ H (Is (.int i))) (hb : EvP tb σ H (Is (.int j))) (hc : C i j) : EvP (tOp (rI C g) ta tb) σ H (Is (g i j)) := p_op2 ha hb fun _ _ => rvp_I hc
theorem p_eq (ha : EvP ta σ H (Is x)) (hb : EvP tb σ H (Is y)) (h : scal x y = true) : EvP (tOp rEq ta tb) σ H (Is (.bl (decide (x = y)))) := p_op2 ha hb fun _ _ => .of fun _ q => ⟨h, q⟩
theorem p_ne (ha : EvP ta σ H (Is x)) (hb : EvP tb σ H (Is y)) (h : scal x y = true) : EvP (tOp rNe ta tb) σ H (Is (.bl (!decide (x = y)))) := p_op2 ha hb fun _ _ => .of fun _ q => ⟨h, q⟩
theorem p_neg (ha : EvP ta σ H (Is (.int i))) : EvP (tUn (rU fun i => .int (-i)) ta) σ H (Is (.int (-i))) := p_un ha fun x H1 _ p => by
  cases p
  exact fun Q q => ⟨i, rfl, q _ H1 (Ex.refl H1) rfl⟩
/-! tests -/
theorem t_test {b : Bool} (h : EvP te σ H (Is (.bl b))) : EvT (tTest te) σ H b := fun H1 e Q q => h H1 e _ fun v H2 e2 p => ⟨b, p, q H2 e2⟩
theorem t_B {b : Bool} (h : EvP te σ H (Is (.bl b))) : EvT (tB te) σ H b := fun H1 e Q q => h H1 e _ fun v H2 e2 p => ⟨b, p, q H2 e2⟩
theorem p_if {b : Bool} (h : EvT tt σ H b) (h1 : b = true → EvP ta σ H P) (h2 : b = false → EvP tb σ H P) : EvP (tIf tt ta tb) σ H P := fun H1 e Q q => h H1 e _ fun H2 e2 => by
  cases b with
  | true => exact iteT (h1 rfl H2 (e.trans e2) Q fun v H3 e3 p => q v H3 (e2.trans e3) p)
  | false => exact iteF (h2 rfl H2 (e.trans e2) Q fun v H3 e3 p => q v H3 (e2.trans e3) p)
theorem p_and {a b : Bool} (h1 : EvP ta σ H (Is (.bl a))) (h2 : a = true → EvP tb σ H (Is (.bl b))) : EvP (tAndV ta tb) σ H (Is (.bl (a && b))) := fun H1 e Q q => h1 H1 e _ fun v H2 e2 p => ⟨a, p, by
  cases a with
  | true => exact iteT (h2 rfl H2 (e.trans e2) Q fun v H3 e3 p => q v H3 (e2.trans e3) p)
  | false => exact iteF (q _ H2 e2 rfl)⟩
theorem p_or {a b : Bool} (h1 : EvP ta σ H (Is (.bl a))) (h2 : a = false → EvP tb σ H (Is (.bl b))) : EvP (tOrV ta tb) σ H (Is (.bl (a || b))) := fun H1 e Q q => h1 H1 e _ fun v H2 e2 p => ⟨a, p, by
  cases a with
  | true => exact iteT (q _ H2 e2 rfl)
  | false => exact iteF (h2 rfl H2 (e.trans e2) Q fun v H3 e3 p => q v H3 (e2.trans e3) p)⟩
theorem p_not {a : Bool} (h1 : EvP ta σ H (Is (.bl a))) : EvP (tNotV ta) σ H (Is (.bl (!a))) := fun H1 e Q q => h1 H1 e _ fun v H2 e2 p => ⟨a, p, q _ H2 e2 rfl⟩
/-! arguments, displays -/
theorem a_nil : EvAs tNil σ H [] := fun H1 _ Q q => q [] H1 (Ex.refl H1) trivial
theorem a_cons [Mo P] {tr : TA} (h : EvP ta σ H P) (hr : EvAs tr σ H Ps) : EvAs (tCons ta tr) σ H (P :: Ps) := fun H1 e Q q =>
  h H1 e _ fun v H2 e2 p => hr H2 (e.trans e2) _ fun vs H3 e3 ps => q (v :: vs) H3 (e2.trans e3) ⟨Mo.mo e3 p, ps⟩
theorem p_lst [MoL Ps] (h : EvAs t σ H Ps) (hz : Ps.length ≤ 100000) : EvP (tLst t) σ H (IsL K Ps) := fun H1 e Q q => h H1 e _ fun vs H2 e2 ps =>
  ⟨by rw [ps.len]; exact Evl.sz_of hz, fun p hp => q _ _ (e2.trans (Ex.new hp)) ⟨p, vs, rfl, SqL.of upd_same, MoL.mo (Ex.new hp) ps⟩⟩
theorem p_tup [MoL Ps] (h : EvAs t σ H Ps) (hz : Ps.length ≤ 100000) : EvP (tTup t) σ H (IsT K Ps) := fun H1 e Q q => h H1 e _ fun vs H2 e2 ps =>
  ⟨by rw [ps.len]; exact Evl.sz_of hz, fun p hp => q _ _ (e2.trans (Ex.new hp)) ⟨p, vs, rfl, SqT.of upd_same, MoL.mo (Ex.new hp) ps⟩⟩
theorem p_ixL (ha : EvP ta σ H (IsL K Ps)) [MoL Ps] (hb : EvP tb σ H (Is (.int i))) {k : Nat} (hi : ixN Ps.length i = some k) (hp : Ps[k]? = some P) : EvP (tOp (rIx K) ta tb) σ H P :=
  p_op ha hb fun x y H1 e p q => by
    obtain ⟨a, xs, rfl, hs, hx⟩ := p
    cases q
    have hl := hx.len
    have hk : k < xs.length := by rw [hl]; exact (List.getElem?_eq_some_iff.mp hp).1
    obtain ⟨P0, e0, p0⟩ := hx.get (List.getElem?_eq_getElem hk)
    rw [hp] at e0
    cases e0
    exact fun Q q => .inl ⟨a, xs, i, xs[k], rfl, rfl, hs, by unfold atI; rw [hl, hi]; exact List.getElem?_eq_getElem hk, q _ H1 (Ex.refl H1) p0⟩
theorem p_ixT (ha : EvP ta σ H (IsT K Ps)) [MoL Ps] (hb : EvP tb σ H (Is (.int i))) {k : Nat} (hi : ixN Ps.length i = some k) (hp : Ps[k]? = some P) : EvP (tOp (rIx K) ta tb) σ H P :=
  p_op ha hb fun x y H1 e p q => by
    obtain ⟨a, xs, rfl, hs, hx⟩ := p
    cases q
    have hl := hx.len
    have hk : k < xs.length := by rw [hl]; exact (List.getElem?_eq_some_iff.mp hp).1
    obtain ⟨P0, e0, p0⟩ := hx.get (List.getElem?_eq_getElem hk)
    rw [hp] at e0
    cases e0
    exact fun Q q => .inr (.inl ⟨a, xs, i, xs[k], rfl, rfl, hs, by unfold atI; rw [hl, hi]; exact List.getElem?_eq_getElem hk, q _ H1 (Ex.refl H1) p0⟩)
/-! calls -/
theorem p_cb {r : List V → Hp → VK → Prop} (h : EvAs t σ H Ps) (hr : ∀ vs H1, Ex H H1 → AllP Ps vs H1 → RCP r vs H1 R) : EvP (tCB r t) σ H R := fun H1 e Q q =>
  h H1 e _ fun vs H2 e2 ps => hr vs H2 (e.trans e2) ps Q fun v H3 e3 p => q v H3 (e2.trans e3) p
/-- the promise: from such arguments such a value, in a heap that has grown -/
def mkSp (Pre : List V → Hp → VP → Prop) : Sp := fun vs H Q _ => ∃ R, Pre vs H R ∧ ∀ v H', Ex H H' → R v H' → Q v H'
theorem p_call {Pre : List V → Hp → VP → Prop} {E : XK} (h : EvAs t σ H Ps) (hp : ∀ vs H1, Ex H H1 → AllP Ps vs H1 → Pre vs H1 R) : EvP (tCall (mkSp Pre) [] E t) σ H R := fun H1 e Q q =>
  h H1 e _ fun vs H2 e2 ps => ⟨R, by rw [List.append_nil]; exact hp vs H2 (e.trans e2) ps, fun v H3 e3 p => q v H3 (e2.trans e3) p⟩
/-! statements -/
variable {D : Ends} {tz tw tv : TS}
theorem st_asg {i : Nat} (h : EvP te σ H P) (k : ∀ v H1, Ex H H1 → P v H1 → tz D (σ.set i (some v)) H1) : tSeq (tAsg te (gName i)) tz D σ H := h H (Ex.refl H) _ fun v H1 e p => k v H1 e p
theorem st_asg1 {i : Nat} (h : EvP te σ H P) (k : ∀ v H1, Ex H H1 → P v H1 → D.nx (σ.set i (some v)) H1) : tAsg te (gName i) D σ H := h H (Ex.refl H) _ fun v H1 e p => k v H1 e p
theorem st_cbg {r : List V → Hp → VK → Prop} {g : TG} (h : EvAs t σ H Ps) (k : ∀ vs H1, Ex H H1 → AllP Ps vs H1 → r vs H1 fun x H2 => g x σ H2 (tz D)) : tSeq (tAsg (tCB r t) g) tz D σ H := h H (Ex.refl H) _ k
theorem st_evg {g : TG} (h : EvP te σ H P) (k : ∀ v H1, Ex H H1 → P v H1 → g v σ H1 (tz D)) : tSeq (tAsg te g) tz D σ H := h H (Ex.refl H) _ k
theorem st_ret (h : EvP te σ H P) (k : ∀ v H1, Ex H H1 → P v H1 → D.rt v H1) : tRet te D σ H := h H (Ex.refl H) _ k
theorem st_if {b : Bool} (h : EvT tt σ H b) (h1 : b = true → ∀ H1, Ex H H1 → tw { D with nx := tz D } σ H1) (h2 : b = false → ∀ H1, Ex H H1 → tv { D with nx := tz D } σ H1) : tSeq (tIfS tt tw tv) tz D σ H := Evl.q_if h h1 h2
theorem st_unless (h : EvT tt σ H false) (k : ∀ H1, Ex H H1 → tz D σ H1) : tSeq (tIfS tt tw tNext) tz D σ H := st_if h (fun z => nomatch z) fun _ => k
/-- an if without else, both ways -/
theorem st_when {b : Bool} (h : EvT tt σ H b) (h1 : b = true → ∀ H1, Ex H H1 → tw { D with nx := tz D } σ H1) (h2 : b = false → ∀ H1, Ex H H1 → tz D σ H1) : tSeq (tIfS tt tw tNext) tz D σ H := st_if h h1 h2
theorem st_par {i j : Nat} {P1 P2 : VP} (h : EvAs t σ H [P1, P2]) (k : ∀ v w H1, Ex H H1 → P1 v H1 → P2 w H1 → tz D ((σ.set i (some v)).set j (some w)) H1) : tSeq (tPar i j t) tz D σ H := h H (Ex.refl H) _ fun vs H1 e ps => by
  match vs, ps with
  | [v, w], ⟨p1, p2, _⟩ => exact ⟨v, w, rfl, k v w H1 e p1 p2⟩
theorem st_par1 {i j : Nat} {P1 P2 : VP} (h : EvAs t σ H [P1, P2]) (k : ∀ v w H1, Ex H H1 → P1 v H1 → P2 w H1 → D.nx ((σ.set i (some v)).set j (some w)) H1) : tPar i j t D σ H := h H (Ex.refl H) _ fun vs H1 e ps => by
  match vs, ps with
  | [v, w], ⟨p1, p2, _⟩ => exact ⟨v, w, rfl, k v w H1 e p1 p2⟩
end
end RK
namespace RK
open PySem PySem.Spec PyProof.Rows L2
section
variable (P : Program) (w : World) (K : PySem.W.Frag) (mg : Str → Option Value) (base : Heap) (k : Nat)
/-- the def x -/
structure CalO (x : Str) (sp : Sp) : Prop where
  ex : ∃ (f : Addr) (fd : FuncData) (ps : List Str), FnOk P w K mg base CX0 k f fd ps sp ∧ mg x = some (.ref f) ∧ PySem.W.keepIn K (.ref f) = true ∧ Binds K fd ps []
/-- C(..), the defaults dvs behind what is written -/
structure MakO (x : Str) (C : Addr) (sp : Sp) (dvs : List V) : Prop where
  ex : ∃ (f : Addr) (fd : FuncData) (ps : List Str) (ds : List Value), Mk K C f ∧ FnOk P w K mg base CX0 k f fd ps sp ∧ mg x = some (.ref C) ∧ Binds K fd ps ds ∧ Vals dvs ds
/-- C(k = v, ..) -/
structure MakKO (x : Str) (C : Addr) (sp : Sp) (ks : List Str) (gV : List V → List V → List V) : Prop where
  ex : ∃ (f : Addr) (fd : FuncData) (ps : List Str) (g : List Value → List Value → List Value), Mk K C f ∧ FnOk P w K mg base CX0 k f fd ps sp ∧ mg x = some (.ref C) ∧ KBn K fd ps 1 ks g gV
/-- o.m(..) -/
structure MetO (C : Addr) (m : Str) (sp : Sp) : Prop where
  ex : ∃ (f : Addr) (fd : FuncData) (ps : List Str), Meth K C m f ∧ FnOk P w K mg base CX0 k f fd ps sp ∧ Binds K fd ps []
/-- o.m(k = v, ..) -/
structure MetKO (C : Addr) (m : Str) (sp : Sp) (ks : List Str) (gV : List V → List V → List V) : Prop where
  ex : ∃ (f : Addr) (fd : FuncData) (ps : List Str) (g : List Value → List Value → List Value), Meth K C m f ∧ FnOk P w K mg base CX0 k f fd ps sp ∧ KBn K fd ps 1 ks g gV
/-- o.f, a property -/
structure PropO (C : Addr) (f : Str) (sp : Sp) : Prop where
  ex : ∃ (p g : Addr) (fd : FuncData) (ps : List Str), PropOf K C f p g ∧ FnOk P w K mg base CX0 k g fd ps sp ∧ Binds K fd ps []
/-- C.m(..), a classmethod -/
structure CMetO (C : Addr) (m : Str) (sp : Sp) : Prop where
  ex : ∃ (mc : Value) (p f : Addr) (fd : FuncData) (ps : List Str), ClX.CRead K C mc ∧ ClX.CMet K C mc m p f ∧ FnOk P w K mg base CX0 k f fd ps sp ∧ Binds K fd ps []
structure CMetKO (C : Addr) (m : Str) (sp : Sp) (ks : List Str) (gV : List V → List V → List V) : Prop where
  ex : ∃ (mc : Value) (p f : Addr) (fd : FuncData) (ps : List Str) (g : List Value → List Value → List Value), ClX.CRead K C mc ∧ ClX.CMet K C mc m p f ∧ FnOk P w K mg base CX0 k f fd ps sp ∧ KBn K fd ps 1 ks g gV
end
/-- x op y, both of C; x op n; n op x -/
structure OpO (P : Program) (w : World) (K : PySem.W.Frag) (mg : Str → Option Value) (base : Heap) (k : Nat) (C : Addr) (nm : String) (sp : Sp) : Prop where
  ex : ∃ (f : Addr) (fd : FuncData) (ps : List Str), OwnOp K C nm f ∧ FnOk P w K mg base CX0 k f fd ps sp ∧ Binds K fd ps []
structure OpIO (P : Program) (w : World) (K : PySem.W.Frag) (mg : Str → Option Value) (base : Heap) (k : Nat) (C : Addr) (nm : String) (sp : Sp) : Prop where
  ex : ∃ (f g : Addr) (fd : FuncData) (ps : List Str), OwnOp K C nm f ∧ OwnInt K C nm g ∧ FnOk P w K mg base CX0 k f fd ps sp ∧ Binds K fd ps []
structure IOpO (P : Program) (w : World) (K : PySem.W.Frag) (mg : Str → Option Value) (base : Heap) (k : Nat) (C : Addr) (nm : String) (sp : Sp) : Prop where
  ex : ∃ (f g : Addr) (fd : FuncData) (ps : List Str), OwnOp K C nm f ∧ OwnInt K C nm g ∧ FnOk P w K mg base CX0 k g fd ps sp ∧ Binds K fd ps []
/-- .. a name of C's own -/
structure AtO (P : Program) (w : World) (K : PySem.W.Frag) (mg : Str → Option Value) (base : Heap) (k : Nat) (C : Addr) (nm : Str) (sp : Sp) : Prop where
  ex : ∃ (f : Addr) (fd : FuncData) (ps : List Str), OwnAt K C nm f ∧ FnOk P w K mg base CX0 k f fd ps sp ∧ Binds K fd ps []
theorem fund_ok {P : Program} {w : World} {K : PySem.W.Frag} {mg : Str → Option Value} {base : Heap} {x qual : Str} {st : Stmt} {dvs : List V} {f : Addr} {fd : FuncData} {N ps : List Str} {k : Nat} {sp : Sp}
    (F : FunD K x qual (defArgs st) (defBody st) (defScope st) dvs [] f fd) (S : FnScope N ps (defScope st)) (len : ∀ vs H Q E, sp vs H Q E → vs.length = ps.length)
    (body : ∀ (cdv : Value) (A : Around) (outer : List Env) (s : Shared) (H : Hp) (vs : List V) (Q : VK) (E : XK), Room k (A.deeper (envOfC qual (defScope st) s.heap.objs.size f cdv)) → sp vs H Q E →
      ∃ t, PSs (cxOf CX0 P w K mg base N qual (defScope st) f cdv A outer s H E).nox (defBody st) t ∧ t { nx := fun _ H' => Q .non H', rt := Q } (start N vs) H) : FnOk P w K mg base CX0 (k + 1) f fd ps sp :=
  F.ok S len fun cdv A outer s H vs Q E hr h => by
    obtain ⟨t, ht, q⟩ := body cdv A outer s H vs Q E hr h
    exact ⟨t, ht.nox, q⟩
section
variable {X : Cx} {k i : Nat} {C : Addr} {x m : Str} {sp : Sp} {dvs : List V} {p pos apos np : Pos} {e o : Expr} {es : List Expr} {kws : List Keyword} {t tk : TA} {ta : TE} {ks : List Str} {gV : List V → List V → List V}
theorem pe_co (c : CalO X.prog X.w X.K X.mg X.base k x sp) (hr : Room k X.A) (hg : Gl X x) (ha : PA X (e :: es) t)
    (hdb : (x == ("__debug__" : Str)) = false := by decide)
    (he : starEach (e :: es) X.env = (false, eval e X.env) :: starEach es X.env := by rfl) (hpl : (backTo pos (starEach es X.env)).any (·.1) = false := by rfl) :
    PE X (.Call (.Name x p) (e :: es) [] pos) (tCall sp [] E0 t) := by
  obtain ⟨f, fd, ps, F, hm, hk, hb⟩ := c.ex
  exact pe_call F hr hg hm hk hb .nil pass0 ha hdb he hpl
theorem pe_mko (c : MakO X.prog X.w X.K X.mg X.base k x C sp dvs) (hr : Room (k + 1) X.A) (hg : Gl X x) (ha : PA X (e :: es) t)
    (hdb : (x == ("__debug__" : Str)) = false := by decide)
    (he : starEach (e :: es) X.env = (false, eval e X.env) :: starEach es X.env := by rfl) (hpl : (backTo pos (starEach es X.env)).any (·.1) = false := by rfl) :
    PE X (.Call (.Name x p) (e :: es) [] pos) (tMake C sp dvs E0 t) := by
  obtain ⟨f, fd, ps, ds, M, F, hm, hb, hd⟩ := c.ex
  exact pe_make M F hr hg hm hb hd pass0 ha hdb he hpl
theorem pe_mkl (c : MakO X.prog X.w X.K X.mg X.base k m C sp dvs) (hr : Room (k + 1) X.A) (hN : X.N[i]? = some x) (hv : Vis X.env.scope x) (ha : PA X (e :: es) t)
    (hdb : (x == ("__debug__" : Str)) = false := by decide) (hcd : (x == ("__classdict__" : Str)) = false := by decide)
    (he : starEach (e :: es) X.env = (false, eval e X.env) :: starEach es X.env := by rfl) (hpl : (backTo pos (starEach es X.env)).any (·.1) = false := by rfl) :
    PE X (.Call (.Name x p) (e :: es) [] pos) (tMakeL i C sp dvs E0 t) := by
  obtain ⟨f, fd, ps, ds, M, F, hm, hb, hd⟩ := c.ex
  exact pe_makeL M F hr hN hv hb hd pass0 ha hdb hcd he hpl
theorem pe_mkk (c : MakKO X.prog X.w X.K X.mg X.base k x C sp ks gV) (hr : Room (k + 1) X.A) (hg : Gl X x) (hkw : PK X kws tk)
    (hall : (backToKw pos (keywordEach kws X.env)).all (·.1.isSome) = true := by rfl) (hks : (backToKw pos (keywordEach kws X.env)).filterMap (·.1) = ks := by rfl) (hdb : (x == ("__debug__" : Str)) = false := by decide)
    (hpl : ((backTo pos (starEach [] X.env)).any (·.1) || (backToKw pos (keywordEach kws X.env)).any (·.1.isNone)) = false := by rfl) :
    PE X (.Call (.Name x p) [] kws pos) (tMakeK C 0 ks.length sp gV E0 tNil tk) := by
  obtain ⟨f, fd, ps, g, M, F, hm, hb⟩ := c.ex
  exact pe_makeK0 M F hr hg hm hb pass0 hkw hall hks hdb hpl
theorem pe_mo (c : MetO X.prog X.w X.K X.mg X.base k C m sp) (cl : Cls X.K C) (hr : Room k X.A) (ho : PE X o ta) (ha : PA X (e :: es) t)
    (hst : starEach (e :: es) X.env = (false, eval e X.env) :: starEach es X.env := by rfl) (hpl : (backTo pos (starEach es X.env)).any (·.1) = false := by rfl) {pl : Sem Bool}
    (ht : eval (.Call (.Attribute o m apos) (e :: es) [] pos) X.env = (do
      let ov ← eval o X.env
      standAt apos.atName
      let (f, first) ← holding [ov] (getMethod ov m pl)
      callWith pos f first (backTo pos (starEach (e :: es) X.env)) (backToKw pos (keywordEach [] X.env))) := by rfl) :
    PE X (.Call (.Attribute o m apos) (e :: es) [] pos) (tMeth C m sp [] E0 ta t) := by
  obtain ⟨f, fd, ps, M, F, hb⟩ := c.ex
  exact pe_meth ho cl M F hr hb .nil pass0 ha hst hpl ht
theorem pe_mo0 (c : MetO X.prog X.w X.K X.mg X.base k C m sp) (cl : Cls X.K C) (hr : Room k X.A) (ho : PE X o ta) {pl : Sem Bool}
    (ht : eval (.Call (.Attribute o m apos) [] [] pos) X.env = (do
      let ov ← eval o X.env
      standAt apos.atName
      let (f, first) ← holding [ov] (getMethod ov m pl)
      callWith pos f first (backTo pos (starEach [] X.env)) (backToKw pos (keywordEach [] X.env))) := by rfl) :
    PE X (.Call (.Attribute o m apos) [] [] pos) (tMeth C m sp [] E0 ta tNil) := by
  obtain ⟨f, fd, ps, M, F, hb⟩ := c.ex
  exact pe_meth0 ho cl M F hr hb .nil pass0 ht
theorem pe_mok (c : MetKO X.prog X.w X.K X.mg X.base k C m sp ks gV) (cl : Cls X.K C) (hr : Room k X.A) (ho : PE X o ta) (hkw : PK X kws tk)
    (hall : (backToKw pos (keywordEach kws X.env)).all (·.1.isSome) = true := by rfl) (hks : (backToKw pos (keywordEach kws X.env)).filterMap (·.1) = ks := by rfl)
    (hpl : ((backTo pos (starEach [] X.env)).any (·.1) || (backToKw pos (keywordEach kws X.env)).any (·.1.isNone)) = false := by rfl) {pl : Sem Bool}
    (ht : eval (.Call (.Attribute o m apos) [] kws pos) X.env = (do
      let ov ← eval o X.env
      standAt apos.atName
      let (f, first) ← holding [ov] (getMethod ov m pl)
      callWith pos f first (backTo pos (starEach [] X.env)) (backToKw pos (keywordEach kws X.env))) := by rfl) :
    PE X (.Call (.Attribute o m apos) [] kws pos) (tMethK C m ks.length sp gV E0 ta tk) := by
  obtain ⟨f, fd, ps, g, M, F, hb⟩ := c.ex
  exact pe_methK ho cl M F hr hb pass0 hkw hall hks hpl ht
theorem pe_po (c : PropO X.prog X.w X.K X.mg X.base k C m sp) (cl : Cls X.K C) (hr : Room (k + 1) X.A) (ho : PE X o ta) (hab : attributeBase o m X.env (eval o X.env) = eval o X.env := by rfl) :
    PE X (.Attribute o m pos) (tProp C sp [] E0 ta) := by
  obtain ⟨p, g, fd, ps, hp, F, hb⟩ := c.ex
  exact pe_prop ho cl hp F hr hb .nil pass0 hab
theorem pe_cmo (c : CMetO X.prog X.w X.K X.mg X.base k C m sp) (hr : Room k X.A) (ho : PE X o ta) (ha : PA X (e :: es) t)
    (hst : starEach (e :: es) X.env = (false, eval e X.env) :: starEach es X.env := by rfl) (hpl : (backTo pos (starEach es X.env)).any (·.1) = false := by rfl) {pl : Sem Bool}
    (ht : eval (.Call (.Attribute o m apos) (e :: es) [] pos) X.env = (do
      let ov ← eval o X.env
      standAt apos.atName
      let (f, first) ← holding [ov] (getMethod ov m pl)
      callWith pos f first (backTo pos (starEach (e :: es) X.env)) (backToKw pos (keywordEach [] X.env))) := by rfl) :
    PE X (.Call (.Attribute o m apos) (e :: es) [] pos) (ClX.tCMeth C (fun vs H Q E => sp (vs ++ []) H Q E) E0 ta t) := by
  obtain ⟨mc, p, f, fd, ps, r, cm, F, hb⟩ := c.ex
  exact ClX.pe_cmeth ho r cm (F.raw hb .nil) hr pass0 ha hst hpl ht
theorem pe_cmk (c : CMetKO X.prog X.w X.K X.mg X.base k C m sp ks gV) (hr : Room k X.A) (ho : PE X o ta) (hkw : PK X kws tk)
    (hall : (backToKw pos (keywordEach kws X.env)).all (·.1.isSome) = true := by rfl) (hks : (backToKw pos (keywordEach kws X.env)).filterMap (·.1) = ks := by rfl)
    (hpl : ((backTo pos (starEach [] X.env)).any (·.1) || (backToKw pos (keywordEach kws X.env)).any (·.1.isNone)) = false := by rfl) {pl : Sem Bool}
    (ht : eval (.Call (.Attribute o m apos) [] kws pos) X.env = (do
      let ov ← eval o X.env
      standAt apos.atName
      let (f, first) ← holding [ov] (getMethod ov m pl)
      callWith pos f first (backTo pos (starEach [] X.env)) (backToKw pos (keywordEach kws X.env))) := by rfl) :
    PE X (.Call (.Attribute o m apos) [] kws pos) (tCMethK C ks.length sp gV E0 ta tk) := by
  obtain ⟨mc, p, f, fd, ps, g, r, cm, F, hb⟩ := c.ex
  exact pe_cmethK ho r cm F hr hb pass0 hkw hall hks hpl ht
theorem op_oo {op : Operator} (c : OpO X.prog X.w X.K X.mg X.base k C op.info.2 sp) (hr : Room k X.A) : OpR X (binaryOp op) (rOwn C sp E0) := by
  obtain ⟨f, fd, ps, o, F, hb⟩ := c.ex
  exact op_own o F hr hb pass0
theorem op_oi {op : Operator} (c : OpIO X.prog X.w X.K X.mg X.base k C op.info.2 sp) (hr : Room k X.A) : OpR X (binaryOp op) (rOwnI C sp E0) := by
  obtain ⟨f, g, fd, ps, o, oi, F, hb⟩ := c.ex
  exact op_ownI o oi F hr hb pass0
theorem op_ia (c : IOpO X.prog X.w X.K X.mg X.base k C "add" sp) (hr : Room k X.A) : OpR X (binaryOp .Add) (rIOwn C sp E0) := by
  obtain ⟨f, g, fd, ps, o, oi, F, hb⟩ := c.ex
  exact op_Iadd o oi F hr hb pass0
theorem op_is (c : IOpO X.prog X.w X.K X.mg X.base k C "sub" sp) (hr : Room k X.A) : OpR X (binaryOp .Sub) (rIOwn C sp E0) := by
  obtain ⟨f, g, fd, ps, o, oi, F, hb⟩ := c.ex
  exact op_Isub o oi F hr hb pass0
theorem op_im (c : IOpO X.prog X.w X.K X.mg X.base k C "mul" sp) (hr : Room k X.A) : OpR X (binaryOp .Mult) (rIOwn C sp E0) := by
  obtain ⟨f, g, fd, ps, o, oi, F, hb⟩ := c.ex
  exact op_Imul o oi F hr hb pass0
theorem op_eo (c : AtO X.prog X.w X.K X.mg X.base k C "__eq__" sp) (hr : Room k X.A) : OpR X (compareOp .Eq) (rOwnEq X.K C sp E0) := by
  obtain ⟨f, fd, ps, o, F, hb⟩ := c.ex
  exact op_eqO o F hr hb pass0
theorem op_no (c : AtO X.prog X.w X.K X.mg X.base k C "__eq__" sp) (n : OwnNe X.K C) (hr : Room (k + 1) X.A) : OpR X (compareOp .NotEq) (rOwnNe X.K C sp E0) := by
  obtain ⟨f, fd, ps, o, F, hb⟩ := c.ex
  exact op_neO n o F hr hb pass0
theorem call_ro (c : AtO X.prog X.w X.K X.mg X.base k C "__repr__" sp) (hr : Room (k + 1) X.A) : CallR X (.builtin "repr") (rOwnS C sp E0) := by
  obtain ⟨f, fd, ps, o, F, hb⟩ := c.ex
  exact call_reprO o F hr hb pass0
theorem call_so (c : AtO X.prog X.w X.K X.mg X.base k C "__str__" sp) (hr : Room (k + 2) X.A) : CallR X (.type "str") (rOwnS C sp E0) := by
  obtain ⟨f, fd, ps, o, F, hb⟩ := c.ex
  exact call_strO o F hr hb pass0
/-- -x by x's own -/
def rOwnU (C : Addr) (sp : Sp) (E : XK) : V → Hp → VK → Prop := fun x H Q => ∃ a dx fs, x = .ref a ∧ H a = some (.ins C dx fs) ∧ sp [x] H Q E
theorem un_no (c : AtO X.prog X.w X.K X.mg X.base k C "__neg__" sp) (hr : Room k X.A) : UnR X (unaryOp .USub) (rOwnU C sp E0) := by
  obtain ⟨f, fd, ps, o, F, hb⟩ := c.ex
  intro pins s σ H x v Q I rx h
  obtain ⟨a, dx, fs, rfl, ea, q⟩ := h
  cases rx
  obtain ⟨oa, Ja⟩ := instAt I ea
  obtain ⟨m, hF⟩ := I.fr
  exact PySem.W.ksp_neg hF I.ok.mod.kin Ja o.at_ o.fn (run_at (sub0 hr) F hb pass0 I (show Vals [V.ref a] [Value.ref a] from .cons rfl .nil) q)
end
end RK
namespace RK
open PySem PySem.Spec PyProof.Rows L2
open Evl (Ex EvT)
def top (i : Nat) : Stmt := PySem.Challenge.pw_straightened_k11_whole_ratios_reckoned.main.body.getD i (.Pass ⟨0, 0, 0, 0⟩)
abbrev sisint : Stmt := top 2
abbrev scisintN : List Str := ["value"]
theorem scisint : FnScope scisintN ["value"] (defScope sisint) := ⟨rfl, rfl, rfl, by decide +kernel, rfl, by decide +kernel, by decide +kernel⟩

abbrev sinit : Stmt := inClass (top 8) 0
abbrev scinitN : List Str := ["self", "top", "bottom", "shared"]
theorem scinit : FnScope scinitN ["self", "top", "bottom"] (defScope sinit) := ⟨rfl, rfl, rfl, by decide +kernel, rfl, by decide +kernel, by decide +kernel⟩

abbrev stop : Stmt := inClass (top 8) 1
abbrev sctopN : List Str := ["self"]
theorem sctop : FnScope sctopN ["self"] (defScope stop) := ⟨rfl, rfl, rfl, by decide +kernel, rfl, by decide +kernel, by decide +kernel⟩

abbrev sbot : Stmt := inClass (top 8) 2
abbrev scbotN : List Str := ["self"]
theorem scbot : FnScope scbotN ["self"] (defScope sbot) := ⟨rfl, rfl, rfl, by decide +kernel, rfl, by decide +kernel, by decide +kernel⟩

abbrev ssign : Stmt := inClass (top 8) 3
abbrev scsignN : List Str := ["self"]
theorem scsign : FnScope scsignN ["self"] (defScope ssign) := ⟨rfl, rfl, rfl, by decide +kernel, rfl, by decide +kernel, by decide +kernel⟩

abbrev swhole : Stmt := inClass (top 8) 4
abbrev scwholeN : List Str := ["self"]
theorem scwhole : FnScope scwholeN ["self"] (defScope swhole) := ⟨rfl, rfl, rfl, by decide +kernel, rfl, by decide +kernel, by decide +kernel⟩

abbrev sadd : Stmt := inClass (top 8) 5
abbrev scaddN : List Str := ["self", "other", "top"]
theorem scadd : FnScope scaddN ["self", "other"] (defScope sadd) := ⟨rfl, rfl, rfl, by decide +kernel, rfl, by decide +kernel, by decide +kernel⟩

abbrev sradd : Stmt := inClass (top 8) 6
abbrev scraddN : List Str := ["self", "other"]
theorem scradd : FnScope scraddN ["self", "other"] (defScope sradd) := ⟨rfl, rfl, rfl, by decide +kernel, rfl, by decide +kernel, by decide +kernel⟩

abbrev ssub : Stmt := inClass (top 8) 7
abbrev scsubN : List Str := ["self", "other", "top"]
theorem scsub : FnScope scsubN ["self", "other"] (defScope ssub) := ⟨rfl, rfl, rfl, by decide +kernel, rfl, by decide +kernel, by decide +kernel⟩

abbrev srsub : Stmt := inClass (top 8) 8
abbrev scrsubN : List Str := ["self", "other"]
theorem scrsub : FnScope scrsubN ["self", "other"] (defScope srsub) := ⟨rfl, rfl, rfl, by decide +kernel, rfl, by decide +kernel, by decide +kernel⟩

abbrev smul : Stmt := inClass (top 8) 9
abbrev scmulN : List Str := ["self", "other"]
theorem scmul : FnScope scmulN ["self", "other"] (defScope smul) := ⟨rfl, rfl, rfl, by decide +kernel, rfl, by decide +kernel, by decide +kernel⟩

abbrev srmul : Stmt := inClass (top 8) 10
abbrev scrmulN : List Str := ["self", "other"]
theorem scrmul : FnScope scrmulN ["self", "other"] (defScope srmul) := ⟨rfl, rfl, rfl, by decide +kernel, rfl, by decide +kernel, by decide +kernel⟩

abbrev sneg : Stmt := inClass (top 8) 11
abbrev scnegN : List Str := ["self"]
theorem scneg : FnScope scnegN ["self"] (defScope sneg) := ⟨rfl, rfl, rfl, by decide +kernel, rfl, by decide +kernel, by decide +kernel⟩

abbrev seq : Stmt := inClass (top 8) 12
abbrev sceqN : List Str := ["self", "other"]
theorem sceq : FnScope sceqN ["self", "other"] (defScope seq) := ⟨rfl, rfl, rfl, by decide +kernel, rfl, by decide +kernel, by decide +kernel⟩

abbrev sstr : Stmt := inClass (top 8) 13
abbrev scstrN : List Str := ["self"]
theorem scstr : FnScope scstrN ["self"] (defScope sstr) := ⟨rfl, rfl, rfl, by decide +kernel, rfl, by decide +kernel, by decide +kernel⟩

abbrev srepr : Stmt := inClass (top 8) 14
abbrev screprN : List Str := ["self"]
theorem screpr : FnScope screprN ["self"] (defScope srepr) := ⟨rfl, rfl, rfl, by decide +kernel, rfl, by decide +kernel, by decide +kernel⟩

abbrev sover : Stmt := inClass (top 8) 15
abbrev scoverN : List Str := ["self", "other"]
theorem scover : FnScope scoverN ["self", "other"] (defScope sover) := ⟨rfl, rfl, rfl, by decide +kernel, rfl, by decide +kernel, by decide +kernel⟩

abbrev ssize : Stmt := inClass (top 8) 16
abbrev scsizeN : List Str := ["self"]
theorem scsize : FnScope scsizeN ["self"] (defScope ssize) := ⟨rfl, rfl, rfl, by decide +kernel, rfl, by decide +kernel, by decide +kernel⟩

abbrev sbelow : Stmt := inClass (top 8) 17
abbrev scbelowN : List Str := ["self", "other"]
theorem scbelow : FnScope scbelowN ["self", "other"] (defScope sbelow) := ⟨rfl, rfl, rfl, by decide +kernel, rfl, by decide +kernel, by decide +kernel⟩

abbrev smost : Stmt := inClass (top 8) 18
abbrev scmostN : List Str := ["self", "other"]
theorem scmost : FnScope scmostN ["self", "other"] (defScope smost) := ⟨rfl, rfl, rfl, by decide +kernel, rfl, by decide +kernel, by decide +kernel⟩

abbrev stotal : Stmt := inClass (top 8) 19
abbrev sctotalN : List Str := ["cls", "numbers", "found", "number"]
theorem sctotal : FnScope sctotalN ["cls", "numbers"] (defScope stotal) := ⟨rfl, rfl, rfl, by decide +kernel, rfl, by decide +kernel, by decide +kernel⟩

abbrev sasr : Stmt := top 9
abbrev scasrN : List Str := ["number"]
theorem scasr : FnScope scasrN ["number"] (defScope sasr) := ⟨rfl, rfl, rfl, by decide +kernel, rfl, by decide +kernel, by decide +kernel⟩

end RK
namespace RK
open PySem PySem.Spec PyProof.Rows L2
open Evl (Ex EvT)

/-! ### a Ratio -/
theorem kTB : ¬ (("_top" : Str) = "_bottom") := by decide +kernel
def flds (t b : Int) : List (Str × V) := putF "_bottom" (.int b) (putF "_top" (.int t) [])
theorem flds_top (t b : Int) : (flds t b).lookup ("_top" : Str) = some (.int t) := by
  unfold flds
  rw [lookup_putF, if_neg kTB, lookup_putF, if_pos rfl]
theorem flds_bot (t b : Int) : (flds t b).lookup ("_bottom" : Str) = some (.int b) := by
  unfold flds
  rw [lookup_putF, if_pos rfl]
theorem flds_no (t b : Int) {m : Str} (h1 : ¬ m = "_bottom") (h2 : ¬ m = "_top") : (flds t b).lookup m = none := by
  unfold flds
  rw [lookup_putF, if_neg h1, lookup_putF, if_neg h2]
  rfl
def RA (C : Addr) (H : Hp) (a : Addr) (t b : Int) : Prop := ∃ dx, H a = some (.ins C dx (flds t b))
def IsR (C : Addr) (t b : Int) : VP := fun v H => ∃ a, v = .ref a ∧ RA C H a t b
instance {C : Addr} {t b : Int} : Mo (IsR C t b) := ⟨fun e ⟨a, h1, dx, h2⟩ => ⟨a, h1, dx, e _ _ h2⟩⟩
/-- a number: a Ratio, or an int -/
def IsN (C : Addr) (t b : Int) : VP := fun v H => IsR C t b v H ∨ (v = .int t ∧ b = 1)
instance {C : Addr} {t b : Int} : Mo (IsN C t b) := ⟨fun e h => h.elim (fun h => .inl (Mo.mo e h)) .inr⟩
/-- sizes -/
def Sz (n : Nat) (t b : Int) : Prop := t.natAbs < 2 ^ n ∧ b.natAbs < 2 ^ n

/-! ### the facts of the text that the class's own defs lean on -/
structure T1 (K : PySem.W.Frag) (mg : Str → Option Value) (C : Addr) : Prop where
  z_isinstance : mg "isinstance" = none
  z_int : mg "int" = none
  z_bool : mg "bool" = none
  z_list : mg "list" = none
  z_tuple : mg "tuple" = none
  z_abs : mg "abs" = none
  m_gcd : mg "gcd" = some (.builtin "math.gcd")
  mgC : mg "Ratio" = some (.ref C)
  cl : Cls K C
  nT : NoAttr K C "_top"
  nB : NoAttr K C "_bottom"
  ha : PySem.W.findIn K (.ref C) "__class__" = some (some (.builtin "object.__class__"))
  hn : PySem.W.specialIn K (.builtin "object.__class__") "__get__" = some (some (.builtin "getset_descriptor.__get__"))
  htk : PySem.W.takesIn K (.builtin "object.__class__") = some true
  hm : PySem.W.mroIn K C (.type "object") = some true
  kI : PySem.W.kitOne K (.type "int") (.ref C) = some false
theorem T1.ty {K : PySem.W.Frag} {mg : Str → Option Value} {C a : Addr} {H : Hp} {t b : Int} (T : T1 K mg C) (h : RA C H a t b) : TyX K H (.ref a) (.ref C) := by
  obtain ⟨dx, e⟩ := h
  exact .base (.ins e T.cl T.ha T.hn T.htk T.hm)
theorem kit_self {K : PySem.W.Frag} {C : Addr} : PySem.W.kitOne K (.ref C) (.ref C) = some true := by
  unfold PySem.W.kitOne
  rw [if_pos (beq_self_eq_true _)]
section
variable {P : Program} {w : World} {K : PySem.W.Frag} {mg : Str → Option Value} {base : Heap} {C : Addr} {σ : L2.St} {H : Hp} {ta tb te : TE} {t : TA} {R : VP}

/-- isinstance(n, int) and so on -/
theorem p_isi {x c : V} {tv u : Value} {b : Bool} {Ps : List VP} (h : EvAs t σ H Ps) (k : ∀ vs H1, Ex H H1 → AllP Ps vs H1 → vs = [x, c] ∧ ClsV c u ∧ TyX K H1 x tv ∧ PySem.W.kitOne K tv u = some b) : EvP (tCB (rIsi K) t) σ H (Is (.bl b)) :=
  p_cb h fun vs H1 e ps Q q => by
    obtain ⟨h1, h2, h3, h4⟩ := k vs H1 e ps
    exact ⟨x, c, tv, u, b, h1, h2, h3, h4, q _ H1 (Ex.refl H1) rfl⟩
theorem two {P1 P2 : VP} {vs : List V} {H : Hp} (h : AllP [P1, P2] vs H) : ∃ v w, vs = [v, w] ∧ P1 v H ∧ P2 w H := by
  match vs, h with
  | [v, w], ⟨a, b, _⟩ => exact ⟨v, w, rfl, a, b⟩
theorem one {P1 : VP} {vs : List V} {H : Hp} (h : AllP [P1] vs H) : ∃ v, vs = [v] ∧ P1 v H := by
  match vs, h with
  | [v], ⟨a, _⟩ => exact ⟨v, rfl, a⟩
/-- e._top, e._bottom -/
theorem p_top {tt b : Int} (T : T1 K mg C) (h : EvP te σ H (IsR C tt b)) : EvP (tFld K te "_top") σ H (Is (.int tt)) := fun H1 e Q q => h H1 e _ fun v H2 e2 p => by
  obtain ⟨a, rfl, dx, ha⟩ := p
  exact ⟨a, C, dx, _, _, rfl, ha, T.cl, T.nT, flds_top _ _, q _ H2 e2 rfl⟩
theorem p_bot {tt b : Int} (T : T1 K mg C) (h : EvP te σ H (IsR C tt b)) : EvP (tFld K te "_bottom") σ H (Is (.int b)) := fun H1 e Q q => h H1 e _ fun v H2 e2 p => by
  obtain ⟨a, rfl, dx, ha⟩ := p
  exact ⟨a, C, dx, _, _, rfl, ha, T.cl, T.nB, flds_bot _ _, q _ H2 e2 rfl⟩

/-! ### is_integer, of an int -/
def preInt : List V → Hp → VP → Prop := fun vs _ R => ∃ n, vs = [.int n] ∧ R = Is (.bl true)
theorem ok_isint {f : Addr} {fd : FuncData} (F : Fun K "is_integer" "is_integer" sisint f fd) (T : T1 K mg C) : FnOk P w K mg base CX0 1 f fd ["value"] (mkSp preInt) := by
  refine F.ok scisint (fun vs H Q E h => ?_) (fun cdv A outer s H vs Q E hr h => ?_)
  · obtain ⟨R, ⟨n, rfl, _⟩, _⟩ := h
    rfl
  · obtain ⟨R, ⟨n, rfl, rfl⟩, k⟩ := h
    refine ⟨_, (pss_one (ps_ret (pe_and (pe_callB call_isi rfl T.z_isinstance boot_isinstance (pa_cons (pv 0) (pa_cons (pe_bltn (v := .ty "int") rfl T.z_int boot_int rfl) pa_nil))) (pe_one (pe_not (pe_callB call_isi rfl T.z_isinstance boot_isinstance (pa_cons (pv 0) (pa_cons (pe_bltn (v := .ty "bool") rfl T.z_bool boot_bool rfl) pa_nil)))))))), ?_⟩
    refine st_ret (p_and (a := true) (b := true) ?_ fun _ => p_not (a := false) ?_) k
    · exact p_isi (x := .int n) (c := .ty "int") (u := .type "int") (a_cons (p_val rfl) (a_cons p_c a_nil)) fun vs H1 e ps => by
        obtain ⟨v, w, rfl, rfl, rfl⟩ := two ps
        exact ⟨rfl, .ty _, .base (.int n), kit_ty (by decide +kernel)⟩
    · exact p_isi (x := .int n) (c := .ty "bool") (u := .type "bool") (a_cons (p_val rfl) (a_cons p_c a_nil)) fun vs H1 e ps => by
        obtain ⟨v, w, rfl, rfl, rfl⟩ := two ps
        exact ⟨rfl, .ty _, .base (.int n), kit_ty (by decide +kernel)⟩

/-! ### Ratio(top, bottom) -/
structure T2 (P : Program) (w : World) (K : PySem.W.Frag) (mg : Str → Option Value) (base : Heap) (C : Addr) : Prop extends T1 K mg C where
  isint : CalO P w K mg base 1 "is_integer" (mkSp preInt)
/-- __init__ -/
def spInit (C : Addr) : Sp := fun vs H Q _ => ∃ (p dx : Addr) (t b : Int), vs = [.ref p, .int t, .int b] ∧ H p = some (.ins C dx []) ∧ b ≠ 0 ∧ b.natAbs < 2 ^ 4000 ∧
  ∀ H', (∀ a o, a ≠ p → H a = some o → H' a = some o) → H' p = some (.ins C dx (flds (nt t b) (nd t b))) → Q .non H'
theorem p_isint {E : XK} {n : Int} (h : EvP te σ H (Is (.int n))) : EvP (tCall (mkSp preInt) [] E (tCons te tNil)) σ H (Is (.bl true)) :=
  p_call (a_cons h a_nil) fun vs H1 e ps => by
    obtain ⟨v, rfl, rfl⟩ := one ps
    exact ⟨n, rfl, rfl⟩
theorem t_not {tt : TT} {b : Bool} (h : EvT tt σ H b) : EvT (tNot tt) σ H (!b) := Evl.et_not h
theorem log2_le {a b : Nat} (h : a ≤ b) : a.log2 ≤ b.log2 := by
  by_cases ha : a = 0
  · subst ha
    simp
  · have hb : b ≠ 0 := by omega
    exact (Nat.le_log2 hb).mpr (Nat.le_trans (Nat.log2_self_le ha) h)
theorem dv_log {a b : Int} (hb : b ≠ 0) (h : b.natAbs < 2 ^ 4000) : (dv a b).natAbs.log2 < 9000 := by
  rw [natAbs_dv]
  have h1 : Nat.gcd a.natAbs b.natAbs ≤ b.natAbs := Nat.gcd_le_right _ (Int.natAbs_pos.mpr hb)
  have h2 := log2_le h1
  have h3 : b.natAbs.log2 < 4000 := (Nat.log2_lt (by omega)).mpr h
  omega
theorem init_fin {p dx : Addr} {t b d : Int} {D : Ends} (T : T1 K mg C) (h0 : σ[0]? = some (some (V.ref p))) (h1 : σ[1]? = some (some (V.int t))) (h2 : σ[2]? = some (some (V.int b))) (h3 : σ[3]? = some (some (V.int d)))
    (hd : d = dv t b) (hb : b ≠ 0) (hz : b.natAbs < 2 ^ 4000) (hp : H p = some (.ins C dx []))
    (k : ∀ H', (∀ a o, a ≠ p → H a = some o → H' a = some o) → H' p = some (.ins C dx (flds (nt t b) (nd t b))) → D.nx σ H') :
    tSeq (sFld K (tVar 0) (tOp (rI CFd fun i j => V.int (i.fdiv j)) (tVar 1) (tVar 3)) "_top") (sFld K (tVar 0) (tOp (rI CFd fun i j => V.int (i.fdiv j)) (tVar 2) (tVar 3)) "_bottom") D σ H := by
  have c : CFd t d := ⟨by rw [hd]; exact dv_ne hb, by rw [hd]; exact dv_log hb hz⟩
  refine ⟨_, h1, _, h3, t, d, rfl, rfl, c, _, h0, p, C, dx, [], rfl, hp, T.cl, T.nT, (by show 0 < 1000; decide), ?_⟩
  refine ⟨_, h2, _, h3, b, d, rfl, rfl, c, _, h0, p, C, dx, _, rfl, upd_same, T.cl, T.nB, (by show 1 < 1000; decide), ?_⟩
  rw [upd_upd, hd]
  dsimp only
  rw [fdiv_t, fdiv_d]
  exact k _ (fun a o n ha => by rw [upd_ne n]; exact ha) upd_same
theorem ok_init {f : Addr} {fd : FuncData} {dvs : List V} (F : FunD K "__init__" "Ratio.__init__" (defArgs sinit) (defBody sinit) (defScope sinit) dvs [] f fd) (T : T2 P w K mg base C) :
    FnOk P w K mg base CX0 2 f fd ["self", "top", "bottom"] (spInit C) := by
  refine fund_ok F scinit (fun vs H Q E h => ?_) (fun cdv A outer s H vs Q E hr h => ?_)
  · obtain ⟨p, dx, t, b, rfl, _⟩ := h
    rfl
  · obtain ⟨p, dx, t, b, rfl, hp, hb, hz, k⟩ := h
    refine ⟨_, (pss_cons (ps_if (pt_not (pt_val (pe_co T.isint (hr.mono (by decide)) rfl (pa_cons (pv 1) pa_nil)))) (pss_one ps_never) pss_nil)
      (pss_cons (ps_if (PW.pt (pw_or (pt_not (pt_val (pe_co T.isint (hr.mono (by decide)) rfl (pa_cons (pv 2) pa_nil)))) (pw_or1 (pt_cmpR op_eq (pv 2) pe_int (nomark _))))) (pss_one ps_never) pss_nil)
      (pss_cons (ps_set (i := 3) scinit.nd rfl (Or.inl rfl) (pe_callBfun cr_gcd rfl T.m_gcd (pa_cons (pv 1) (pa_cons (pv 2) pa_nil))))
      (pss_cons (ps_if (pt_cmpR op_lt (pv 2) pe_int (nomark _)) (pss_one (ps_set (i := 3) scinit.nd rfl (Or.inl rfl) (pe_un un_neg (pv 3)))) pss_nil)
      (pss_cons (ps_fld (pv 0) (pe_op op_fdivS (pv 1) (pv 3)) rfl)
      (pss_one (ps_fld (pv 0) (pe_op op_fdivS (pv 2) (pv 3)) rfl))))))), ?_⟩
    refine st_unless (t_not (b := true) (t_B (p_isint (p_val rfl)))) fun H1 e1 => ?_
    refine st_unless (Evl.et_or (a := false) (b := false) (t_not (b := true) (t_B (p_isint (p_val rfl)))) fun _ => t_test ?_) fun H2 e2 => ?_
    · have q := p_eq (σ := L2.start scinitN [V.ref p, V.int t, V.int b]) (H := H1) (p_val (n := 2) (v := .int b) rfl) (p_c (v := .int 0)) rfl
      rw [decide_eq_false (show ¬ V.int b = V.int 0 from fun z => hb (by injection z))] at q
      exact q
    refine st_asg (P := Is (.int ((Nat.gcd t.natAbs b.natAbs : Nat) : Int))) ?_ fun v H3 e3 hv => ?_
    · exact p_cb (a_cons (p_val rfl) (a_cons (p_val rfl) a_nil)) fun vs H1 e ps Q q => by
        obtain ⟨v, w, rfl, rfl, rfl⟩ := two ps
        exact ⟨t, b, rfl, q _ H1 (Ex.refl H1) rfl⟩
    cases hv
    -- the sign of the divisor
    have e03 : Ex H H3 := (e1.trans e2).trans e3
    refine st_when (b := decide (b < 0)) (t_test (p_I0 (p_val rfl) p_c)) (fun hb1 H4 e4 => ?_) (fun hb1 H4 e4 => ?_)
    · refine st_asg1 (P := Is (.int (-((Nat.gcd t.natAbs b.natAbs : Nat) : Int)))) (p_neg (p_val rfl)) fun v H5 e5 hv => ?_
      cases hv
      refine init_fin T.toT1 (t := t) (b := b) rfl rfl rfl (d := -((Nat.gcd t.natAbs b.natAbs : Nat) : Int)) rfl ?_ hb hz ((e03.trans (e4.trans e5)) _ _ hp) fun H6 h1 h2 => k H6 (fun a o n ha => h1 a o n ((e03.trans (e4.trans e5)) _ _ ha)) h2
      unfold dv
      rw [if_pos (of_decide_eq_true hb1)]
    · refine init_fin T.toT1 (t := t) (b := b) rfl rfl rfl (d := ((Nat.gcd t.natAbs b.natAbs : Nat) : Int)) rfl ?_ hb hz ((e03.trans e4) _ _ hp) fun H6 h1 h2 => k H6 (fun a o n ha => h1 a o n ((e03.trans e4) _ _ ha)) h2
      unfold dv
      rw [if_neg (of_decide_eq_false hb1)]
end
end RK
namespace RK
open PySem PySem.Spec PyProof.Rows L2
open Evl (Ex EvT)

structure T3 (P : Program) (w : World) (K : PySem.W.Frag) (mg : Str → Option Value) (base : Heap) (C : Addr) : Prop extends T2 P w K mg base C where
  mk2 : MakO P w K mg base 2 "Ratio" C (spInit C) []
  mk1 : MakO P w K mg base 2 "Ratio" C (spInit C) [.int 1]
section
variable {P : Program} {w : World} {K : PySem.W.Frag} {mg : Str → Option Value} {base : Heap} {C : Addr} {σ : L2.St} {H : Hp} {ta tb te : TE} {t : TA} {R : VP}
theorem made {x dx : Addr} {H1 : Hp} {a b : Int} {Q : VK} {E : XK} (nx : H1 x = none) (nd0 : H1 dx = none) (ne : dx ≠ x) (hb : b ≠ 0) (hz : b.natAbs < 2 ^ 4000)
    (q : ∀ v H2, Ex H1 H2 → IsR C (nt a b) (nd a b) v H2 → Q v H2) : spInit C [.ref x, .int a, .int b] (upd (upd H1 dx (.own x)) x (.ins C dx [])) (fun v H3 => v = .non ∧ Q (.ref x) H3) E :=
  ⟨x, dx, a, b, rfl, upd_same, hb, hz, fun H' h1 h2 => ⟨rfl, q _ H' (fun c o e => h1 c o (ne_of_none e nx) (by
    rw [upd_ne (ne_of_none e nx), upd_ne (ne_of_none e nd0)]
    exact e)) ⟨x, rfl, dx, h2⟩⟩⟩
theorem p_mk {a b : Int} {E : XK} (h : EvAs t σ H [Is (.int a), Is (.int b)]) (hb : b ≠ 0) (hz : b.natAbs < 2 ^ 4000) : EvP (tMake C (spInit C) [] E t) σ H (IsR C (nt a b) (nd a b)) := fun H1 e Q q => h H1 e _ fun vs H2 e2 ps => by
  obtain ⟨v, w, rfl, rfl, rfl⟩ := two ps
  exact fun x dx nx nd0 ne => made nx nd0 ne hb hz fun v H3 e3 p => q v H3 (e2.trans e3) p
theorem p_mk1 {a : Int} {E : XK} (h : EvAs t σ H [Is (.int a)]) : EvP (tMake C (spInit C) [.int 1] E t) σ H (IsR C a 1) := fun H1 e Q q => h H1 e _ fun vs H2 e2 ps => by
  obtain ⟨v, rfl, rfl⟩ := one ps
  exact fun x dx nx nd0 ne => made nx nd0 ne (by decide) (by decide +kernel) fun v H3 e3 p => q v H3 (e2.trans e3) (by
    rw [whole.1, whole.2] at p
    exact p)

/-! ### as_ratio -/
def preAs (C : Addr) : List V → Hp → VP → Prop := fun vs H R => ∃ v t b, vs = [v] ∧ IsN C t b v H ∧ R = IsR C t b
theorem ok_asr {f : Addr} {fd : FuncData} (F : Fun K "as_ratio" "as_ratio" sasr f fd) (T : T3 P w K mg base C) : FnOk P w K mg base CX0 4 f fd ["number"] (mkSp (preAs C)) := by
  refine F.ok scasr (fun vs H Q E h => ?_) (fun cdv A outer s H vs Q E hr h => ?_)
  · obtain ⟨R, ⟨v, t, b, rfl, _⟩, _⟩ := h
    rfl
  · obtain ⟨R, ⟨v, t, b, rfl, hv, rfl⟩, k⟩ := h
    refine ⟨_, (pss_one (ps_ret (pe_ifExp (pt_val (pe_callB call_isi rfl T.z_isinstance boot_isinstance (pa_cons (pv 0) (pa_cons (pe_glob (v := .ref C) rfl T.mgC rfl) pa_nil)))) (pv 0) (pe_mko T.mk1 (hr.mono (by decide)) rfl (pa_cons (pv 0) pa_nil))))), ?_⟩
    refine st_ret ?_ k
    rcases hv with hv | ⟨rfl, rfl⟩
    · refine p_if (b := true) (t_B ?_) (fun _ => p_var rfl hv) fun z => nomatch z
      obtain ⟨a, rfl, ha⟩ := hv
      exact p_isi (x := .ref a) (c := .ref C) (u := .ref C) (a_cons (p_val rfl) (a_cons p_c a_nil)) fun vs H1 e ps => by
        obtain ⟨v, w, rfl, rfl, rfl⟩ := two ps
        obtain ⟨dx, e1⟩ := ha
        exact ⟨rfl, .own _, T.ty ⟨dx, e _ _ e1⟩, kit_self⟩
    · refine p_if (b := false) (t_B ?_) (fun z => nomatch z) fun _ => p_mk1 (a_cons (p_val rfl) a_nil)
      exact p_isi (x := .int t) (c := .ref C) (u := .ref C) (a_cons (p_val rfl) (a_cons p_c a_nil)) fun vs H1 e ps => by
        obtain ⟨v, w, rfl, rfl, rfl⟩ := two ps
        exact ⟨rfl, .own _, .base (.int t), T.kI⟩
theorem p_asr {tt b : Int} {E : XK} (h : EvP te σ H (IsN C tt b)) : EvP (tCall (mkSp (preAs C)) [] E (tCons te tNil)) σ H (IsR C tt b) :=
  p_call (a_cons h a_nil) fun vs H1 e ps => by
    obtain ⟨v, rfl, hv⟩ := one ps
    exact ⟨v, tt, b, rfl, hv, rfl⟩

/-! ### the operators -/
structure T4 (P : Program) (w : World) (K : PySem.W.Frag) (mg : Str → Option Value) (base : Heap) (C : Addr) : Prop extends T3 P w K mg base C where
  asr : CalO P w K mg base 4 "as_ratio" (mkSp (preAs C))
/-- two numbers in lowest terms, of some size -/
structure Two (C : Addr) (v w : V) (H : Hp) (t b t' b' : Int) : Prop where
  v1 : IsR C t b v H
  v2 : IsN C t' b' w H
  n1 : Nm t b
  n2 : Nm t' b'
  s1 : Sz 1500 t b
  s2 : Sz 1500 t' b'
def preOp (C : Addr) (F G : Int → Int → Int → Int → Int) : List V → Hp → VP → Prop := fun vs H R => ∃ v w t b t' b', vs = [v, w] ∧ Two C v w H t b t' b' ∧ R = IsR C (nt (F t b t' b') (G t b t' b')) (nd (F t b t' b') (G t b t' b'))
theorem mulc {i j : Int} (h : i.natAbs < 2 ^ 1500) (h' : j.natAbs < 2 ^ 1500) : CMulW i j := wide_mul h h' (by decide) (by decide) (by decide)
theorem mulz {i j : Int} (h : i.natAbs < 2 ^ 1500) (h' : j.natAbs < 2 ^ 1500) : (i * j).natAbs < 2 ^ 4000 :=
  Nat.lt_of_lt_of_le (wide_lt h h') (Nat.pow_le_pow_right (by decide) (by decide))
theorem nz {b : Int} (h : 0 < b) : b ≠ 0 := by omega
def Fadd (t b t' b' : Int) : Int := t * b' + t' * b
def Fsub (t b t' b' : Int) : Int := t * b' - t' * b
def Fmul (t _b t' _b' : Int) : Int := t * t'
def Gmul (_t b _t' b' : Int) : Int := b * b'
def Fover (t _b _t' b' : Int) : Int := t * b'
def Gover (_t b t' _b' : Int) : Int := b * t'
theorem ok_add {f : Addr} {fd : FuncData} (F : Fun K "__add__" "Ratio.__add__" sadd f fd) (T : T4 P w K mg base C) : FnOk P w K mg base CX0 5 f fd ["self", "other"] (mkSp (preOp C Fadd Gmul)) := by
  refine F.ok scadd (fun vs H Q E h => ?_) (fun cdv A outer s H vs Q E hr h => ?_)
  · obtain ⟨R, ⟨v, w, t, b, t', b', rfl, _⟩, _⟩ := h
    rfl
  · obtain ⟨R, ⟨v, w, t, b, t', b', rfl, h2, rfl⟩, k⟩ := h
    refine ⟨_, (pss_cons (ps_set (i := 1) scadd.nd rfl (Or.inl rfl) (pe_co T.asr (hr.mono (by decide)) rfl (pa_cons (pv 1) pa_nil)))
      (pss_cons (ps_set (i := 2) scadd.nd rfl (Or.inl rfl) (pe_op op_add (pe_op op_mulW (pe_fld (pv 0) rfl) (pe_fld (pv 1) rfl)) (pe_op op_mulW (pe_fld (pv 1) rfl) (pe_fld (pv 0) rfl))))
      (pss_one (ps_ret (pe_mko T.mk2 (hr.mono (by decide)) rfl (pa_cons (pv 2) (pa_cons (pe_op op_mulW (pe_fld (pv 0) rfl) (pe_fld (pv 1) rfl)) pa_nil))))))), ?_⟩
    refine st_asg (p_asr (p_var rfl h2.v2)) fun w1 H1 e1 hw => ?_
    have hv : IsR C t b v H1 := Mo.mo e1 h2.v1
    refine st_asg (P := Is (.int (Fadd t b t' b'))) ?_ fun tv H2 e2 htv => ?_
    · exact p_I0 (p_I (p_top T.toT1 (p_var rfl hv)) (p_bot T.toT1 (p_var rfl hw)) (mulc h2.s1.1 h2.s2.2)) (p_I (p_top T.toT1 (p_var rfl hw)) (p_bot T.toT1 (p_var rfl hv)) (mulc h2.s2.1 h2.s1.2))
    cases htv
    refine st_ret (p_mk (a_cons (p_val rfl) (a_cons (p_I (p_bot T.toT1 (p_var rfl (Mo.mo e2 hv))) (p_bot T.toT1 (p_var rfl (Mo.mo e2 hw))) (mulc h2.s1.2 h2.s2.2)) a_nil)) (ne_mul h2.n1.pos h2.n2.pos) (mulz h2.s1.2 h2.s2.2)) fun v H3 e3 p => k v H3 ((e1.trans e2).trans e3) p
theorem ok_sub {f : Addr} {fd : FuncData} (F : Fun K "__sub__" "Ratio.__sub__" ssub f fd) (T : T4 P w K mg base C) : FnOk P w K mg base CX0 5 f fd ["self", "other"] (mkSp (preOp C Fsub Gmul)) := by
  refine F.ok scsub (fun vs H Q E h => ?_) (fun cdv A outer s H vs Q E hr h => ?_)
  · obtain ⟨R, ⟨v, w, t, b, t', b', rfl, _⟩, _⟩ := h
    rfl
  · obtain ⟨R, ⟨v, w, t, b, t', b', rfl, h2, rfl⟩, k⟩ := h
    refine ⟨_, (pss_cons (ps_set (i := 1) scsub.nd rfl (Or.inl rfl) (pe_co T.asr (hr.mono (by decide)) rfl (pa_cons (pv 1) pa_nil)))
      (pss_cons (ps_set (i := 2) scsub.nd rfl (Or.inl rfl) (pe_op op_sub (pe_op op_mulW (pe_fld (pv 0) rfl) (pe_fld (pv 1) rfl)) (pe_op op_mulW (pe_fld (pv 1) rfl) (pe_fld (pv 0) rfl))))
      (pss_one (ps_ret (pe_mko T.mk2 (hr.mono (by decide)) rfl (pa_cons (pv 2) (pa_cons (pe_op op_mulW (pe_fld (pv 0) rfl) (pe_fld (pv 1) rfl)) pa_nil))))))), ?_⟩
    refine st_asg (p_asr (p_var rfl h2.v2)) fun w1 H1 e1 hw => ?_
    have hv : IsR C t b v H1 := Mo.mo e1 h2.v1
    refine st_asg (P := Is (.int (Fsub t b t' b'))) ?_ fun tv H2 e2 htv => ?_
    · exact p_I0 (p_I (p_top T.toT1 (p_var rfl hv)) (p_bot T.toT1 (p_var rfl hw)) (mulc h2.s1.1 h2.s2.2)) (p_I (p_top T.toT1 (p_var rfl hw)) (p_bot T.toT1 (p_var rfl hv)) (mulc h2.s2.1 h2.s1.2))
    cases htv
    refine st_ret (p_mk (a_cons (p_val rfl) (a_cons (p_I (p_bot T.toT1 (p_var rfl (Mo.mo e2 hv))) (p_bot T.toT1 (p_var rfl (Mo.mo e2 hw))) (mulc h2.s1.2 h2.s2.2)) a_nil)) (ne_mul h2.n1.pos h2.n2.pos) (mulz h2.s1.2 h2.s2.2)) fun v H3 e3 p => k v H3 ((e1.trans e2).trans e3) p
theorem ok_mul {f : Addr} {fd : FuncData} (F : Fun K "__mul__" "Ratio.__mul__" smul f fd) (T : T4 P w K mg base C) : FnOk P w K mg base CX0 5 f fd ["self", "other"] (mkSp (preOp C Fmul Gmul)) := by
  refine F.ok scmul (fun vs H Q E h => ?_) (fun cdv A outer s H vs Q E hr h => ?_)
  · obtain ⟨R, ⟨v, w, t, b, t', b', rfl, _⟩, _⟩ := h
    rfl
  · obtain ⟨R, ⟨v, w, t, b, t', b', rfl, h2, rfl⟩, k⟩ := h
    refine ⟨_, (pss_cons (ps_set (i := 1) scmul.nd rfl (Or.inl rfl) (pe_co T.asr (hr.mono (by decide)) rfl (pa_cons (pv 1) pa_nil)))
      (pss_one (ps_ret (pe_mko T.mk2 (hr.mono (by decide)) rfl (pa_cons (pe_op op_mulW (pe_fld (pv 0) rfl) (pe_fld (pv 1) rfl)) (pa_cons (pe_op op_mulW (pe_fld (pv 0) rfl) (pe_fld (pv 1) rfl)) pa_nil)))))), ?_⟩
    refine st_asg (p_asr (p_var rfl h2.v2)) fun w1 H1 e1 hw => ?_
    have hv : IsR C t b v H1 := Mo.mo e1 h2.v1
    refine st_ret (p_mk (a_cons (p_I (p_top T.toT1 (p_var rfl hv)) (p_top T.toT1 (p_var rfl hw)) (mulc h2.s1.1 h2.s2.1)) (a_cons (p_I (p_bot T.toT1 (p_var rfl hv)) (p_bot T.toT1 (p_var rfl hw)) (mulc h2.s1.2 h2.s2.2)) a_nil)) (ne_mul h2.n1.pos h2.n2.pos) (mulz h2.s1.2 h2.s2.2)) fun v H3 e3 p => k v H3 (e1.trans e3) p
def preOver (C : Addr) : List V → Hp → VP → Prop := fun vs H R => ∃ v w t b t' b', vs = [v, w] ∧ (Two C v w H t b t' b' ∧ t' ≠ 0) ∧ R = IsR C (nt (t * b') (b * t')) (nd (t * b') (b * t'))
def preCmp (C : Addr) (c : Int → Int → Bool) : List V → Hp → VP → Prop := fun vs H R => ∃ v w t b t' b', vs = [v, w] ∧ Two C v w H t b t' b' ∧ R = Is (.bl (c (t * b') (t' * b)))
theorem ok_over {f : Addr} {fd : FuncData} (F : Fun K "over" "Ratio.over" sover f fd) (T : T4 P w K mg base C) : FnOk P w K mg base CX0 5 f fd ["self", "other"] (mkSp (preOver C)) := by
  refine F.ok scover (fun vs H Q E h => ?_) (fun cdv A outer s H vs Q E hr h => ?_)
  · obtain ⟨R, ⟨v, w, t, b, t', b', rfl, _⟩, _⟩ := h
    rfl
  · obtain ⟨R, ⟨v, w, t, b, t', b', rfl, h2, rfl⟩, k⟩ := h
    refine ⟨_, (pss_cons (ps_set (i := 1) scover.nd rfl (Or.inl rfl) (pe_co T.asr (hr.mono (by decide)) rfl (pa_cons (pv 1) pa_nil)))
      (pss_cons (ps_if (pt_cmpR op_eq (pe_fld (pv 1) rfl) pe_int (nomark _)) (pss_one ps_never) pss_nil)
      (pss_one (ps_ret (pe_mko T.mk2 (hr.mono (by decide)) rfl (pa_cons (pe_op op_mulW (pe_fld (pv 0) rfl) (pe_fld (pv 1) rfl)) (pa_cons (pe_op op_mulW (pe_fld (pv 0) rfl) (pe_fld (pv 1) rfl)) pa_nil))))))), ?_⟩
    refine st_asg (p_asr (p_var rfl h2.1.v2)) fun w1 H1 e1 hw => ?_
    have hv : IsR C t b v H1 := Mo.mo e1 h2.1.v1
    refine st_unless ?_ fun H2 e2 => ?_
    · have q := p_eq (σ := [some v, some w1]) (H := H1) (p_top T.toT1 (p_var (n := 1) rfl hw)) (p_c (v := .int 0)) rfl
      rw [decide_eq_false (show ¬ V.int t' = V.int 0 from fun z => h2.2 (by injection z))] at q
      exact t_test q
    refine st_ret (p_mk (a_cons (p_I (p_top T.toT1 (p_var rfl (Mo.mo e2 hv))) (p_bot T.toT1 (p_var rfl (Mo.mo e2 hw))) (mulc h2.1.s1.1 h2.1.s2.2)) (a_cons (p_I (p_bot T.toT1 (p_var rfl (Mo.mo e2 hv))) (p_top T.toT1 (p_var rfl (Mo.mo e2 hw))) (mulc h2.1.s1.2 h2.1.s2.1)) a_nil)) (Int.mul_ne_zero (nz h2.1.n1.pos) h2.2) (mulz h2.1.s1.2 h2.1.s2.1)) fun v H3 e3 p => k v H3 ((e1.trans e2).trans e3) p
theorem ok_below {f : Addr} {fd : FuncData} (F : Fun K "is_below" "Ratio.is_below" sbelow f fd) (T : T4 P w K mg base C) : FnOk P w K mg base CX0 5 f fd ["self", "other"] (mkSp (preCmp C (fun i j => decide (i < j)))) := by
  refine F.ok scbelow (fun vs H Q E h => ?_) (fun cdv A outer s H vs Q E hr h => ?_)
  · obtain ⟨R, ⟨v, w, t, b, t', b', rfl, _⟩, _⟩ := h
    rfl
  · obtain ⟨R, ⟨v, w, t, b, t', b', rfl, h2, rfl⟩, k⟩ := h
    refine ⟨_, (pss_cons (ps_set (i := 1) scbelow.nd rfl (Or.inl rfl) (pe_co T.asr (hr.mono (by decide)) rfl (pa_cons (pv 1) pa_nil)))
      (pss_one (ps_ret (pe_cmpR op_lt (pe_op op_mulW (pe_fld (pv 0) rfl) (pe_fld (pv 1) rfl)) (pe_op op_mulW (pe_fld (pv 1) rfl) (pe_fld (pv 0) rfl)) (nomark _))))), ?_⟩
    refine st_asg (p_asr (p_var rfl h2.v2)) fun w1 H1 e1 hw => ?_
    have hv : IsR C t b v H1 := Mo.mo e1 h2.v1
    refine st_ret (p_I0 (p_I (p_top T.toT1 (p_var rfl hv)) (p_bot T.toT1 (p_var rfl hw)) (mulc h2.s1.1 h2.s2.2)) (p_I (p_top T.toT1 (p_var rfl hw)) (p_bot T.toT1 (p_var rfl hv)) (mulc h2.s2.1 h2.s1.2))) fun v H3 e3 p => k v H3 (e1.trans e3) p
theorem ok_most {f : Addr} {fd : FuncData} (F : Fun K "is_at_most" "Ratio.is_at_most" smost f fd) (T : T4 P w K mg base C) : FnOk P w K mg base CX0 5 f fd ["self", "other"] (mkSp (preCmp C (fun i j => decide (i ≤ j)))) := by
  refine F.ok scmost (fun vs H Q E h => ?_) (fun cdv A outer s H vs Q E hr h => ?_)
  · obtain ⟨R, ⟨v, w, t, b, t', b', rfl, _⟩, _⟩ := h
    rfl
  · obtain ⟨R, ⟨v, w, t, b, t', b', rfl, h2, rfl⟩, k⟩ := h
    refine ⟨_, (pss_cons (ps_set (i := 1) scmost.nd rfl (Or.inl rfl) (pe_co T.asr (hr.mono (by decide)) rfl (pa_cons (pv 1) pa_nil)))
      (pss_one (ps_ret (pe_cmpR op_le (pe_op op_mulW (pe_fld (pv 0) rfl) (pe_fld (pv 1) rfl)) (pe_op op_mulW (pe_fld (pv 1) rfl) (pe_fld (pv 0) rfl)) (nomark _))))), ?_⟩
    refine st_asg (p_asr (p_var rfl h2.v2)) fun w1 H1 e1 hw => ?_
    have hv : IsR C t b v H1 := Mo.mo e1 h2.v1
    refine st_ret (p_I0 (p_I (p_top T.toT1 (p_var rfl hv)) (p_bot T.toT1 (p_var rfl hw)) (mulc h2.s1.1 h2.s2.2)) (p_I (p_top T.toT1 (p_var rfl hw)) (p_bot T.toT1 (p_var rfl hv)) (mulc h2.s2.1 h2.s1.2))) fun v H3 e3 p => k v H3 (e1.trans e3) p
def preUn (C : Addr) (f : Int → Int → VP) : List V → Hp → VP → Prop := fun vs H R => ∃ v t b, vs = [v] ∧ IsR C t b v H ∧ Nm t b ∧ Sz 1500 t b ∧ R = f t b
theorem z4 {b : Int} (h : b.natAbs < 2 ^ 1500) : b.natAbs < 2 ^ 4000 := Nat.lt_of_lt_of_le h (Nat.pow_le_pow_right (by decide) (by decide))
theorem ok_neg {f : Addr} {fd : FuncData} (F : Fun K "__neg__" "Ratio.__neg__" sneg f fd) (T : T3 P w K mg base C) : FnOk P w K mg base CX0 4 f fd ["self"] (mkSp (preUn C fun t b => IsR C (nt (-t) b) (nd (-t) b))) := by
  refine F.ok scneg (fun vs H Q E h => ?_) (fun cdv A outer s H vs Q E hr h => ?_)
  · obtain ⟨R, ⟨v, t, b, rfl, _⟩, _⟩ := h
    rfl
  · obtain ⟨R, ⟨v, t, b, rfl, hv, n1, s1, rfl⟩, k⟩ := h
    refine ⟨_, (pss_one (ps_ret (pe_mko T.mk2 (hr.mono (by decide)) rfl (pa_cons (pe_un un_neg (pe_fld (pv 0) rfl)) (pa_cons (pe_fld (pv 0) rfl) pa_nil))))), ?_⟩
    exact st_ret (p_mk (a_cons (p_neg (p_top T.toT1 (p_var rfl hv))) (a_cons (p_bot T.toT1 (p_var rfl hv)) a_nil)) (nz n1.pos) (z4 s1.2)) k
theorem p_abs {i : Int} (h : EvP te σ H (Is (.int i))) : EvP (tCB (fun xs H Q => ∃ i, xs = [.int i] ∧ Q (.int (if i < 0 then -i else i)) H) (tCons te tNil)) σ H (Is (.int (if i < 0 then -i else i))) :=
  p_cb (a_cons h a_nil) fun vs H1 e ps Q q => by
    obtain ⟨v, rfl, rfl⟩ := one ps
    exact ⟨i, rfl, q _ H1 (Ex.refl H1) rfl⟩
theorem ok_size {f : Addr} {fd : FuncData} (F : Fun K "size" "Ratio.size" ssize f fd) (T : T3 P w K mg base C) : FnOk P w K mg base CX0 4 f fd ["self"] (mkSp (preUn C fun t b => IsR C (nt (if t < 0 then -t else t) b) (nd (if t < 0 then -t else t) b))) := by
  refine F.ok scsize (fun vs H Q E h => ?_) (fun cdv A outer s H vs Q E hr h => ?_)
  · obtain ⟨R, ⟨v, t, b, rfl, _⟩, _⟩ := h
    rfl
  · obtain ⟨R, ⟨v, t, b, rfl, hv, n1, s1, rfl⟩, k⟩ := h
    refine ⟨_, (pss_one (ps_ret (pe_mko T.mk2 (hr.mono (by decide)) rfl (pa_cons (pe_callB call_abs rfl T.z_abs boot_abs (pa_cons (pe_fld (pv 0) rfl) pa_nil)) (pa_cons (pe_fld (pv 0) rfl) pa_nil))))), ?_⟩
    exact st_ret (p_mk (a_cons (p_abs (p_top T.toT1 (p_var rfl hv))) (a_cons (p_bot T.toT1 (p_var rfl hv)) a_nil)) (nz n1.pos) (z4 s1.2)) k
theorem ok_top {f : Addr} {fd : FuncData} (F : Fun K "top" "Ratio.top" stop f fd) (T : T3 P w K mg base C) : FnOk P w K mg base CX0 1 f fd ["self"] (mkSp (preUn C fun t _ => Is (.int t))) := by
  refine F.ok sctop (fun vs H Q E h => ?_) (fun cdv A outer s H vs Q E hr h => ?_)
  · obtain ⟨R, ⟨v, t, b, rfl, _⟩, _⟩ := h
    rfl
  · obtain ⟨R, ⟨v, t, b, rfl, hv, n1, s1, rfl⟩, k⟩ := h
    refine ⟨_, (pss_one (ps_ret (pe_fld (pv 0) rfl))), ?_⟩
    exact st_ret (p_top T.toT1 (p_var rfl hv)) k
theorem ok_bot {f : Addr} {fd : FuncData} (F : Fun K "bottom" "Ratio.bottom" sbot f fd) (T : T3 P w K mg base C) : FnOk P w K mg base CX0 1 f fd ["self"] (mkSp (preUn C fun _ b => Is (.int b))) := by
  refine F.ok scbot (fun vs H Q E h => ?_) (fun cdv A outer s H vs Q E hr h => ?_)
  · obtain ⟨R, ⟨v, t, b, rfl, _⟩, _⟩ := h
    rfl
  · obtain ⟨R, ⟨v, t, b, rfl, hv, n1, s1, rfl⟩, k⟩ := h
    refine ⟨_, (pss_one (ps_ret (pe_fld (pv 0) rfl))), ?_⟩
    exact st_ret (p_bot T.toT1 (p_var rfl hv)) k
theorem dec_i {i j : Int} : decide (V.int i = V.int j) = decide (i = j) := by
  by_cases h : i = j
  · subst h
    simp
  · rw [decide_eq_false h, decide_eq_false fun z => h (by injection z)]
theorem ok_whole {f : Addr} {fd : FuncData} (F : Fun K "is_whole" "Ratio.is_whole" swhole f fd) (T : T3 P w K mg base C) : FnOk P w K mg base CX0 1 f fd ["self"] (mkSp (preUn C fun _ b => Is (.bl (decide (b = 1))))) := by
  refine F.ok scwhole (fun vs H Q E h => ?_) (fun cdv A outer s H vs Q E hr h => ?_)
  · obtain ⟨R, ⟨v, t, b, rfl, _⟩, _⟩ := h
    rfl
  · obtain ⟨R, ⟨v, t, b, rfl, hv, n1, s1, rfl⟩, k⟩ := h
    refine ⟨_, (pss_one (ps_ret (pe_cmpR op_eq (pe_fld (pv 0) rfl) pe_int (nomark _)))), ?_⟩
    have q := p_eq (σ := [some v]) (H := H) (p_bot T.toT1 (p_var (n := 0) rfl hv)) (p_c (v := .int 1)) rfl
    rw [dec_i] at q
    exact st_ret q k
def sg (t : Int) : Int := if t = 0 then 0 else if 0 < t then 1 else -1
theorem ok_sign {f : Addr} {fd : FuncData} (F : Fun K "sign" "Ratio.sign" ssign f fd) (T : T3 P w K mg base C) : FnOk P w K mg base CX0 1 f fd ["self"] (mkSp (preUn C fun t _ => Is (.int (sg t)))) := by
  refine F.ok scsign (fun vs H Q E h => ?_) (fun cdv A outer s H vs Q E hr h => ?_)
  · obtain ⟨R, ⟨v, t, b, rfl, _⟩, _⟩ := h
    rfl
  · obtain ⟨R, ⟨v, t, b, rfl, hv, n1, s1, rfl⟩, k⟩ := h
    refine ⟨_, (pss_cons (ps_if (pt_cmpR op_eq (pe_fld (pv 0) rfl) pe_int (nomark _)) (pss_one (ps_ret pe_int)) pss_nil)
      (pss_one (ps_ret (pe_ifExp (pt_cmpR op_gt (pe_fld (pv 0) rfl) pe_int (nomark _)) pe_int (pe_un un_neg pe_int))))), ?_⟩
    have q := p_eq (σ := [some v]) (H := H) (p_top T.toT1 (p_var (n := 0) rfl hv)) (p_c (v := .int 0)) rfl
    rw [dec_i] at q
    refine st_when (t_test q) (fun h0 H1 e1 => ?_) fun h0 H1 e1 => ?_
    · refine st_ret (P := Is (.int (sg t))) ?_ fun v H2 e2 p => k v H2 (e1.trans e2) p
      unfold sg
      rw [if_pos (of_decide_eq_true h0)]
      exact p_c
    · refine st_ret (P := Is (.int (sg t))) (p_if (t_test (p_I0 (p_top T.toT1 (p_var rfl (Mo.mo e1 hv))) p_c)) (fun h1 => ?_) fun h1 => ?_) fun v H2 e2 p => k v H2 (e1.trans e2) p
      · unfold sg
        rw [if_neg (of_decide_eq_false h0), if_pos (of_decide_eq_true h1)]
        exact p_c
      · unfold sg
        rw [if_neg (of_decide_eq_false h0), if_neg (of_decide_eq_false h1)]
        exact p_neg p_c
end
end RK
namespace RK
open PySem PySem.Spec PyProof.Rows L2
open Evl (Ex EvT)
section
variable {P : Program} {w : World} {K : PySem.W.Frag} {mg : Str → Option Value} {base : Heap} {C : Addr} {σ : L2.St} {H : Hp} {ta tb te : TE} {t : TA} {R : VP}
/-! ### == -/
/-- the two are numbers alike, or the other one is no Ratio -/
def preEq (K : PySem.W.Frag) (C : Addr) : List V → Hp → VP → Prop := fun vs H R => ∃ v w t b, vs = [v, w] ∧ IsR C t b v H ∧
  ((∃ t' b', IsR C t' b' w H ∧ R = Is (.bl (decide (t = t') && decide (b = b')))) ∨ (∃ tv, (∀ H1, Ex H H1 → TyX K H1 w tv) ∧ PySem.W.kitOne K tv (.ref C) = some false ∧ R = Is (.bl false)))
theorem p_eqi {i j : Int} (ha : EvP ta σ H (Is (.int i))) (hb : EvP tb σ H (Is (.int j))) : EvP (tOp rEq ta tb) σ H (Is (.bl (decide (i = j)))) := by
  have q := p_eq ha hb rfl
  rw [dec_i] at q
  exact q
theorem ok_eq {f : Addr} {fd : FuncData} (F : Fun K "__eq__" "Ratio.__eq__" seq f fd) (T : T3 P w K mg base C) : FnOk P w K mg base CX0 1 f fd ["self", "other"] (mkSp (preEq K C)) := by
  refine F.ok sceq (fun vs H Q E h => ?_) (fun cdv A outer s H vs Q E hr h => ?_)
  · obtain ⟨R, ⟨v, w, t, b, rfl, _⟩, _⟩ := h
    rfl
  · obtain ⟨R, ⟨v, w, t, b, rfl, hv, h2⟩, k⟩ := h
    refine ⟨_, (pss_one (ps_ret (pe_and (pe_callB call_isi rfl T.z_isinstance boot_isinstance (pa_cons (pv 1) (pa_cons (pe_glob (v := .ref C) rfl T.mgC rfl) pa_nil))) (pe_and (pe_cmpR op_eq (pe_fld (pv 0) rfl) (pe_fld (pv 1) rfl) (nomark _)) (pe_one (pe_cmpR op_eq (pe_fld (pv 0) rfl) (pe_fld (pv 1) rfl) (nomark _))))))), ?_⟩
    rcases h2 with ⟨t', b', hw, rfl⟩ | ⟨tv, ty, kit, rfl⟩
    · have q := p_and (σ := [some v, some w]) (H := H) (a := true) (b := decide (t = t') && decide (b = b'))
        (p_isi (x := w) (c := .ref C) (tv := .ref C) (u := .ref C) (b := true) (a_cons (p_val (n := 1) rfl) (a_cons p_c a_nil)) fun vs H1 e ps => by
          obtain ⟨v1, w1, rfl, rfl, rfl⟩ := two ps
          obtain ⟨a, rfl, ha⟩ := (Mo.mo e hw : IsR C t' b' _ H1)
          exact ⟨rfl, .own _, T.ty ha, kit_self⟩)
        (fun _ => p_and (p_eqi (p_top T.toT1 (p_var (n := 0) rfl hv)) (p_top T.toT1 (p_var (n := 1) rfl hw))) fun _ => p_eqi (p_bot T.toT1 (p_var (n := 0) rfl hv)) (p_bot T.toT1 (p_var (n := 1) rfl hw)))
      exact st_ret q k
    · refine st_ret (P := Is (.bl false)) (p_and (a := false) (b := false) ?_ fun z => nomatch z) k
      exact p_isi (x := w) (c := .ref C) (tv := tv) (u := .ref C) (b := false) (a_cons (p_val (n := 1) rfl) (a_cons p_c a_nil)) fun vs H1 e ps => by
        obtain ⟨v1, w1, rfl, rfl, rfl⟩ := two ps
        exact ⟨rfl, .own _, ty H1 e, kit⟩

/-! ### str, repr -/
theorem str_nil (x : Str) : Str.empty ++ x = x := TL.ext_tl (TL.tl_append Str.empty x)
def num (i : Int) : Str := Str.ofString (toString i)
theorem lg {i : Int} (h : i.natAbs < 2 ^ 1900) : i.natAbs.log2 < 1920 := by
  have := PySem.Flt.log2_lt_of (by decide) h
  omega
theorem num_len {i : Int} (h : i.natAbs < 2 ^ 1900) : (num i).length ≤ 2000 := by
  have e := int_text_length_le (k := 1920) (by decide) (lg h)
  show (Str.ofString (toString i)).length ≤ 2000
  rw [PySem.ofString_length]
  omega
def shownS (t b : Int) : Str := if b = 1 then num t else num t ++ "/" ++ num b
def shownR (t b : Int) : Str := "Ratio(" ++ num t ++ ", " ++ num b ++ ")"
theorem z19 {i : Int} (h : i.natAbs < 2 ^ 1500) : i.natAbs < 2 ^ 1900 := Nat.lt_of_lt_of_le h (Nat.pow_le_pow_right (by decide) (by decide))
theorem p_fmt {i : Int} (h : EvP te σ H (Is (.int i))) (hz : i.natAbs < 2 ^ 1900) : EvP (tFmt te) σ H (Is (.str (num i))) := fun H1 e Q q => h H1 e _ fun v H2 e2 p => .inr ⟨i, p, lg hz, q _ H2 e2 rfl⟩
theorem p_stri {i : Int} (h : EvP te σ H (Is (.int i))) (hz : i.natAbs < 2 ^ 1900) : EvP (tCB (fun xs H Q => ∃ i, xs = [.int i] ∧ i.natAbs.log2 < 1920 ∧ Q (.str (toString i)) H) (tCons te tNil)) σ H (Is (.str (num i))) :=
  p_cb (a_cons h a_nil) fun vs H1 e ps Q q => by
    obtain ⟨v, rfl, rfl⟩ := one ps
    exact ⟨i, rfl, lg hz, q _ H1 (Ex.refl H1) rfl⟩
/-- the parts of an f-string, one behind the other -/
theorem js_nil {acc : Str} {Q : Str → Hp → Prop} (q : Q acc H) : tJs [] acc σ H Q := q
theorem js_cons {ts : List TE} {acc y : Str} {Q : Str → Hp → Prop} (h : EvP te σ H (Is (.str y))) (hz : (acc ++ y).length ≤ sizeLine) (k : ∀ H1, Ex H H1 → tJs ts (acc ++ y) σ H1 Q) : tJs (te :: ts) acc σ H Q :=
  h H (Ex.refl H) _ fun v H1 e p => ⟨y, p, hz, k H1 e⟩
theorem slen (x y : Str) : (x ++ y).length = x.length + y.length := strLen_append x y
theorem ok_str {f : Addr} {fd : FuncData} (F : Fun K "__str__" "Ratio.__str__" sstr f fd) (T : T3 P w K mg base C) (zs : mg "str" = none) : FnOk P w K mg base CX0 1 f fd ["self"] (mkSp (preUn C fun t b => Is (.str (shownS t b)))) := by
  refine F.ok scstr (fun vs H Q E h => ?_) (fun cdv A outer s H vs Q E hr h => ?_)
  · obtain ⟨R, ⟨v, t, b, rfl, _⟩, _⟩ := h
    rfl
  · obtain ⟨R, ⟨v, t, b, rfl, hv, n1, s1, rfl⟩, k⟩ := h
    refine ⟨_, (pss_cons (ps_if (pt_cmpR op_eq (pe_fld (pv 0) rfl) pe_int (nomark _)) (pss_one (ps_ret (pe_callTy call_str_int rfl zs boot_str (pa_cons (pe_fld (pv 0) rfl) pa_nil)))) pss_nil)
      (pss_one (ps_ret (pe_joined (PJ.cons (pe_fmt (pe_fld (pv 0) rfl)) (PJ.cons pe_str (PJ.cons (pe_fmt (pe_fld (pv 0) rfl)) PJ.nil))))))), ?_⟩
    have h1 := num_len (z19 s1.1)
    have h2 := num_len (z19 s1.2)
    refine st_when (t_test (p_eqi (p_bot T.toT1 (p_var (n := 0) rfl hv)) p_c)) (fun h0 H1 e1 => ?_) fun h0 H1 e1 => ?_
    · have e : shownS t b = num t := if_pos (of_decide_eq_true h0)
      have k : ∀ v H', Ex H H' → Is (.str (shownS t b)) v H' → Q v H' := k
      rw [e] at k
      exact st_ret (p_stri (p_top T.toT1 (p_var rfl (Mo.mo e1 hv))) (z19 s1.1)) fun v H2 e2 p => k v H2 (e1.trans e2) p
    · have e : shownS t b = num t ++ "/" ++ num b := if_neg (of_decide_eq_false h0)
      have k : ∀ v H', Ex H H' → Is (.str (shownS t b)) v H' → Q v H' := k
      rw [e] at k
      have l1 : (("/" : String) : Str).length = 1 := rfl
      refine js_cons (p_fmt (p_top T.toT1 (p_var rfl (Mo.mo e1 hv))) (z19 s1.1)) (by rw [str_nil]; exact Evl.sz_of (by omega)) fun H2 e2 => ?_
      rw [str_nil]
      refine js_cons p_c (Evl.sz_of (by rw [slen]; omega)) fun H3 e3 => ?_
      refine js_cons (p_fmt (p_bot T.toT1 (p_var rfl (Mo.mo ((e1.trans e2).trans e3) hv))) (z19 s1.2)) (Evl.sz_of (by rw [slen, slen]; omega)) fun H4 e4 => ?_
      exact k _ H4 (((e1.trans e2).trans e3).trans e4) rfl
theorem ok_repr {f : Addr} {fd : FuncData} (F : Fun K "__repr__" "Ratio.__repr__" srepr f fd) (T : T3 P w K mg base C) : FnOk P w K mg base CX0 1 f fd ["self"] (mkSp (preUn C fun t b => Is (.str (shownR t b)))) := by
  refine F.ok screpr (fun vs H Q E h => ?_) (fun cdv A outer s H vs Q E hr h => ?_)
  · obtain ⟨R, ⟨v, t, b, rfl, _⟩, _⟩ := h
    rfl
  · obtain ⟨R, ⟨v, t, b, rfl, hv, n1, s1, rfl⟩, k⟩ := h
    refine ⟨_, (pss_one (ps_ret (pe_joined (PJ.cons pe_str (PJ.cons (pe_fmt (pe_fld (pv 0) rfl)) (PJ.cons pe_str (PJ.cons (pe_fmt (pe_fld (pv 0) rfl)) (PJ.cons pe_str PJ.nil)))))))), ?_⟩
    have h1 := num_len (z19 s1.1)
    have h2 := num_len (z19 s1.2)
    have l1 : (("Ratio(" : String) : Str).length = 6 := rfl
    have l2 : ((", " : String) : Str).length = 2 := rfl
    have l3 : ((")" : String) : Str).length = 1 := rfl
    refine js_cons p_c (by rw [str_nil]; exact Evl.sz_of (by rw [l1]; omega)) fun H1 e1 => ?_
    rw [str_nil]
    refine js_cons (p_fmt (p_top T.toT1 (p_var rfl (Mo.mo e1 hv))) (z19 s1.1)) (Evl.sz_of (by rw [slen]; omega)) fun H2 e2 => ?_
    refine js_cons p_c (Evl.sz_of (by rw [slen, slen]; omega)) fun H3 e3 => ?_
    refine js_cons (p_fmt (p_bot T.toT1 (p_var rfl (Mo.mo ((e1.trans e2).trans e3) hv))) (z19 s1.2)) (Evl.sz_of (by rw [slen, slen, slen]; omega)) fun H4 e4 => ?_
    refine js_cons p_c (Evl.sz_of (by rw [slen, slen, slen, slen]; omega)) fun H5 e5 => ?_
    exact k _ H5 ((((e1.trans e2).trans e3).trans e4).trans e5) rfl
end
end RK
namespace RK
open PySem PySem.Spec PyProof.Rows L2
open Evl (Ex EvT)
/-- the class's own operators -/
structure T5 (P : Program) (w : World) (K : PySem.W.Frag) (mg : Str → Option Value) (base : Heap) (C : Addr) : Prop extends T4 P w K mg base C where
  o_add : OpO P w K mg base 5 C "add" (mkSp (preOp C Fadd Gmul))
  o_sub : OpO P w K mg base 5 C "sub" (mkSp (preOp C Fsub Gmul))
  o_mul : OpO P w K mg base 5 C "mul" (mkSp (preOp C Fmul Gmul))
  oi_add : OpIO P w K mg base 5 C "add" (mkSp (preOp C Fadd Gmul))
section
variable {P : Program} {w : World} {K : PySem.W.Frag} {mg : Str → Option Value} {base : Heap} {C : Addr} {σ : L2.St} {H : Hp} {ta tb te : TE} {t : TA} {R : VP}
theorem rv_own {F G : Int → Int → Int → Int → Int} {v w : V} {t b t' b' : Int} {E : XK} (h : Two C v w H t b t' b') (hw : IsR C t' b' w H) :
    RVP (rOwn C (mkSp (preOp C F G)) E) v w H (IsR C (nt (F t b t' b') (G t b t' b')) (nd (F t b t' b') (G t b t' b'))) := fun Q q => by
  obtain ⟨a, rfl, dx, ha⟩ := id h.v1
  obtain ⟨c, rfl, dy, hc⟩ := id hw
  exact ⟨a, c, dx, dy, _, _, rfl, rfl, ha, hc, _, ⟨_, _, t, b, t', b', rfl, h, rfl⟩, q⟩
theorem rv_ownI {F G : Int → Int → Int → Int → Int} {v : V} {t b n : Int} {E : XK} (h : Two C v (.int n) H t b n 1) :
    RVP (rOwnI C (mkSp (preOp C F G)) E) v (.int n) H (IsR C (nt (F t b n 1) (G t b n 1)) (nd (F t b n 1) (G t b n 1))) := fun Q q => by
  obtain ⟨a, rfl, dx, ha⟩ := id h.v1
  exact ⟨a, n, dx, _, rfl, rfl, ha, _, ⟨_, _, t, b, n, 1, rfl, h, rfl⟩, q⟩
/-- n op self: as_ratio(n) op self -/
def preR (C : Addr) (F G : Int → Int → Int → Int → Int) : List V → Hp → VP → Prop := fun vs H R => ∃ v t b n, vs = [v, .int n] ∧ IsR C t b v H ∧ Nm t b ∧ Sz 1500 t b ∧ n.natAbs < 2 ^ 1500 ∧ R = IsR C (nt (F n 1 t b) (G n 1 t b)) (nd (F n 1 t b) (G n 1 t b))
theorem z1 : (1 : Int).natAbs < 2 ^ 1500 := Nat.one_lt_two_pow (by decide)
theorem ok_radd {f : Addr} {fd : FuncData} (F : Fun K "__radd__" "Ratio.__radd__" sradd f fd) (T : T5 P w K mg base C) : FnOk P w K mg base CX0 6 f fd ["self", "other"] (mkSp (preR C Fadd Gmul)) := by
  refine F.ok scradd (fun vs H Q E h => ?_) (fun cdv A outer s H vs Q E hr h => ?_)
  · obtain ⟨R, ⟨v, t, b, n, rfl, _⟩, _⟩ := h
    rfl
  · obtain ⟨R, ⟨v, t, b, n, rfl, hv, n1, s1, zn, rfl⟩, k⟩ := h
    refine ⟨_, (pss_one (ps_ret (pe_op (op_oo T.o_add (hr.mono (by decide))) (pe_co T.asr (hr.mono (by decide)) rfl (pa_cons (pv 1) pa_nil)) (pv 0)))), ?_⟩
    refine st_ret (p_op (P := IsR C n 1) (P' := IsR C t b) (p_asr (p_var (P := IsN C n 1) rfl (.inr ⟨rfl, rfl⟩))) (p_var rfl hv) fun x y H1 e p q => ?_) k
    exact rv_own ⟨p, .inl q, nm1, n1, ⟨zn, z1⟩, s1⟩ q
theorem ok_rsub {f : Addr} {fd : FuncData} (F : Fun K "__rsub__" "Ratio.__rsub__" srsub f fd) (T : T5 P w K mg base C) : FnOk P w K mg base CX0 6 f fd ["self", "other"] (mkSp (preR C Fsub Gmul)) := by
  refine F.ok scrsub (fun vs H Q E h => ?_) (fun cdv A outer s H vs Q E hr h => ?_)
  · obtain ⟨R, ⟨v, t, b, n, rfl, _⟩, _⟩ := h
    rfl
  · obtain ⟨R, ⟨v, t, b, n, rfl, hv, n1, s1, zn, rfl⟩, k⟩ := h
    refine ⟨_, (pss_one (ps_ret (pe_op (op_oo T.o_sub (hr.mono (by decide))) (pe_co T.asr (hr.mono (by decide)) rfl (pa_cons (pv 1) pa_nil)) (pv 0)))), ?_⟩
    refine st_ret (p_op (P := IsR C n 1) (P' := IsR C t b) (p_asr (p_var (P := IsN C n 1) rfl (.inr ⟨rfl, rfl⟩))) (p_var rfl hv) fun x y H1 e p q => ?_) k
    exact rv_own ⟨p, .inl q, nm1, n1, ⟨zn, z1⟩, s1⟩ q
theorem ok_rmul {f : Addr} {fd : FuncData} (F : Fun K "__rmul__" "Ratio.__rmul__" srmul f fd) (T : T5 P w K mg base C) : FnOk P w K mg base CX0 6 f fd ["self", "other"] (mkSp (preR C Fmul Gmul)) := by
  refine F.ok scrmul (fun vs H Q E h => ?_) (fun cdv A outer s H vs Q E hr h => ?_)
  · obtain ⟨R, ⟨v, t, b, n, rfl, _⟩, _⟩ := h
    rfl
  · obtain ⟨R, ⟨v, t, b, n, rfl, hv, n1, s1, zn, rfl⟩, k⟩ := h
    refine ⟨_, (pss_one (ps_ret (pe_op (op_oo T.o_mul (hr.mono (by decide))) (pe_co T.asr (hr.mono (by decide)) rfl (pa_cons (pv 1) pa_nil)) (pv 0)))), ?_⟩
    refine st_ret (p_op (P := IsR C n 1) (P' := IsR C t b) (p_asr (p_var (P := IsN C n 1) rfl (.inr ⟨rfl, rfl⟩))) (p_var rfl hv) fun x y H1 e p q => ?_) k
    exact rv_own ⟨p, .inl q, nm1, n1, ⟨zn, z1⟩, s1⟩ q
/-! ### the sum of several -/
abbrev Fr2 := Int × Int
def plus (x y : Fr2) : Fr2 := (nt (x.1 * y.2 + y.1 * x.2) (x.2 * y.2), nd (x.1 * y.2 + y.1 * x.2) (x.2 * y.2))
structure Good (n : Nat) (x : Fr2) : Prop where
  nm : Nm x.1 x.2
  sz : Sz n x.1 x.2
theorem sz_mono {n m : Nat} {t b : Int} (h : Sz n t b) (l : n ≤ m) : Sz m t b := ⟨Nat.lt_of_lt_of_le h.1 (Nat.pow_le_pow_right (by decide) l), Nat.lt_of_lt_of_le h.2 (Nat.pow_le_pow_right (by decide) l)⟩
theorem Good.mono {n m : Nat} {x : Fr2} (h : Good n x) (l : n ≤ m) : Good m x := ⟨h.nm, sz_mono h.sz l⟩
theorem wide_add {i j : Int} {a : Nat} (ha : i.natAbs < 2 ^ a) (hb : j.natAbs < 2 ^ a) : (i + j).natAbs < 2 ^ (a + 1) := by
  have h := Int.natAbs_add_le i j
  rw [Nat.pow_succ]
  omega
theorem wide_sub {i j : Int} {a : Nat} (ha : i.natAbs < 2 ^ a) (hb : j.natAbs < 2 ^ a) : (i - j).natAbs < 2 ^ (a + 1) := by
  have h := Int.natAbs_sub_le i j
  rw [Nat.pow_succ]
  omega
theorem good_of {n : Nat} {a b : Int} (hb : b ≠ 0) (ha : a.natAbs < 2 ^ n) (hz : b.natAbs < 2 ^ n) : Good n (nt a b, nd a b) := ⟨RK.nm hb, Nat.lt_of_le_of_lt nt_le ha, Nat.lt_of_le_of_lt nd_le hz⟩
theorem lt_more {i : Int} {a b : Nat} (h : i.natAbs < 2 ^ a) (l : a ≤ b) : i.natAbs < 2 ^ b := Nat.lt_of_lt_of_le h (Nat.pow_le_pow_right (by decide) l)
theorem good_plus {n m : Nat} {x y : Fr2} (hx : Good n x) (hy : Good m y) : Good (n + m + 1) (plus x y) := by
  refine good_of (ne_mul hx.nm.pos hy.nm.pos) (wide_add (wide_lt hx.sz.1 hy.sz.2) ?_) (lt_more (wide_lt hx.sz.2 hy.sz.2) (by omega))
  rw [Nat.add_comm n m]
  exact wide_lt hy.sz.1 hx.sz.2
def sumF : List Fr2 → Fr2 → Fr2
  | [], acc => acc
  | y :: ys, acc => sumF ys (plus acc y)
def preTot (K : PySem.W.Frag) (C : Addr) : List V → Hp → VP → Prop := fun vs H R => ∃ (a : Addr) (xs : List V) (ys : List Fr2), vs = [.ref C, .ref a] ∧ ((∃ xs', H a = some (.lst xs') ∧ xs' = xs) ∨ H a = some (.tup xs)) ∧ AllP (ys.map fun y => IsN C y.1 y.2) xs H ∧
  ys.length ≤ 4 ∧ (∀ y ∈ ys, Good 300 y) ∧ R = IsR C (sumF ys (0, 1)).1 (sumF ys (0, 1)).2
instance {ys : List Fr2} : MoL (ys.map fun y => IsN C y.1 y.2) := by
  induction ys with
  | nil => exact inferInstanceAs (MoL [])
  | cons y ys ih => exact inferInstanceAs (MoL (IsN C y.1 y.2 :: ys.map fun y => IsN C y.1 y.2))
/-- isinstance(v, (list, tuple)) -/
theorem p_isl {v : V} {tv : Value} {b : Bool} (hv : σ[1]? = some (some v)) (ty : ∀ H1, Ex H H1 → TyX K H1 v tv) (kit : PySem.W.kitAny K tv [.type "list", .type "tuple"] = some b) :
    EvP (tCB (rIsiT K) (tCons (tVar 1) (tCons (tTup (tCons (tC (.ty "list")) (tCons (tC (.ty "tuple")) tNil))) tNil))) σ H (Is (.bl b)) := fun H1 e Q q =>
  ⟨v, hv, Evl.sz_of (by decide), fun p hp => ⟨v, p, _, tv, _, b, rfl, upd_same, .cons (.ty "list") (.cons (.ty "tuple") .nil), ty _ (e.trans (Ex.new hp)), kit, q _ _ (Ex.new hp) rfl⟩⟩
theorem kit_lst : PySem.W.kitAny K (.type "list") [.type "list", .type "tuple"] = some true := kitAny_cons (b := true) (kit_ty (by decide +kernel)) (fun z => nomatch z) fun _ => rfl
theorem kit_tup : PySem.W.kitAny K (.type "tuple") [.type "list", .type "tuple"] = some true := kitAny_cons (b := false) (kit_ty (by decide +kernel)) (fun _ => kitAny_cons (b := true) (kit_ty (by decide +kernel)) (fun z => nomatch z) fun _ => rfl) fun z => nomatch z
theorem sum_take {ys : List Fr2} {i : Nat} {y : Fr2} (h : ys[i]? = some y) (acc : Fr2) : sumF (ys.take (i + 1)) acc = plus (sumF (ys.take i) acc) y := by
  induction ys generalizing i acc with
  | nil => simp at h
  | cons z zs ih =>
    cases i with
    | zero =>
      have e : z = y := by simpa using h
      subst e
      rfl
    | succ i => exact ih (by simpa using h) (plus acc z)
theorem sum_good {ys : List Fr2} (hy : ∀ y ∈ ys, Good 300 y) (i : Nat) (hi : i ≤ ys.length) : Good (1 + 301 * i) (sumF (ys.take i) (0, 1)) := by
  induction i with
  | zero =>
    rw [List.take_zero]
    exact ⟨⟨by decide, by decide⟩, by decide, by decide⟩
  | succ i ih =>
    have h := List.getElem?_eq_getElem (show i < ys.length by omega)
    rw [sum_take h]
    exact (good_plus (ih (by omega)) (hy _ (List.getElem_mem _))).mono (by omega)
/-- one turn of the sum -/
theorem tot_turn {ys : List Fr2} {i : Nat} {x v : V} {y : Fr2} {sp2 : List V → Hp → VP → Prop} (hy : ∀ y ∈ ys, Good 300 y) (h : ys[i]? = some y) (hl : ys.length ≤ 4) (hf : IsR C (sumF (ys.take i) (0, 1)).1 (sumF (ys.take i) (0, 1)).2 v H) (hx : IsN C y.1 y.2 x H) :
    Two C v x H (sumF (ys.take i) (0, 1)).1 (sumF (ys.take i) (0, 1)).2 y.1 y.2 := by
  have hi := (List.getElem?_eq_some_iff.mp h).1
  have g1 := (sum_good hy i (by omega)).mono (show 1 + 301 * i ≤ 1500 by omega)
  have g2 := (hy y (List.mem_of_getElem? h)).mono (show 300 ≤ 1500 by decide)
  exact ⟨hf, hx, g1.nm, g2.nm, g1.sz, g2.sz⟩
end
end RK
namespace RK
open PySem PySem.Spec PyProof.Rows L2
open Evl (Ex EvT)
section
variable {P : Program} {w : World} {K : PySem.W.Frag} {mg : Str → Option Value} {base : Heap} {C : Addr} {σ : L2.St} {H : Hp} {ta tb te : TE} {t : TA} {R : VP}
theorem p_mkl {i : Nat} {n : Int} {E : XK} (h : σ[i]? = some (some (V.ref C))) (ha : EvAs t σ H [Is (.int n)]) : EvP (tMakeL i C (spInit C) [.int 1] E t) σ H (IsR C n 1) := fun H1 e Q q => ⟨h, p_mk1 ha H1 e Q q⟩
def Ptot (C : Addr) (a : V) (ys : List Fr2) (H : Hp) (i : Nat) (σ' : L2.St) (H' : Hp) : Prop := ∃ fv q, σ' = [some (.ref C), some a, some fv, q] ∧ IsR C (sumF (ys.take i) (0, 1)).1 (sumF (ys.take i) (0, 1)).2 fv H' ∧ Ex H H'
theorem Ptot.ex {a : V} {ys : List Fr2} {i : Nat} {σ' : L2.St} {H' : Hp} (p : Ptot C a ys H i σ' H') : Ex H H' := let ⟨_, _, _, _, e⟩ := p; e
theorem Mo_all {ys : List Fr2} {xs : List V} {H' : Hp} (e : Ex H H') (h : AllP (ys.map fun y => IsN C y.1 y.2) xs H) : AllP (ys.map fun y => IsN C y.1 y.2) xs H' := MoL.mo e h
theorem map_get {ys : List Fr2} {i : Nat} {Q : VP} (h : (ys.map fun y => IsN C y.1 y.2)[i]? = some Q) : ∃ y, ys[i]? = some y ∧ Q = IsN C y.1 y.2 := by
  rw [List.getElem?_map] at h
  cases e : ys[i]? with
  | none => rw [e] at h; cases h
  | some y => rw [e] at h; exact ⟨y, rfl, (Option.some.inj h).symm⟩
theorem rv_tot {v w : V} {t b t' b' : Int} {E : XK} (h : Two C v w H t b t' b') :
    RVP (fun x y H Q => rOwn C (mkSp (preOp C Fadd Gmul)) E x y H Q ∨ rOwnI C (mkSp (preOp C Fadd Gmul)) E x y H Q) v w H (IsR C (nt (Fadd t b t' b') (Gmul t b t' b')) (nd (Fadd t b t' b') (Gmul t b t' b'))) := by
  rcases id h.v2 with q | ⟨q1, q2⟩
  · exact .inl (rv_own h q)
  · subst q1
    subst q2
    exact .inr (rv_ownI h)
theorem ok_total {f : Addr} {fd : FuncData} (F : Fun K "total" "Ratio.total" stotal f fd) (T : T5 P w K mg base C) : FnOk P w K mg base CX0 6 f fd ["cls", "numbers"] (mkSp (preTot K C)) := by
  refine F.ok sctotal (fun vs H Q E h => ?_) (fun cdv A outer s H vs Q E hr h => ?_)
  · obtain ⟨R, ⟨a, xs, ys, rfl, _⟩, _⟩ := h
    rfl
  · obtain ⟨R, ⟨a, xs, ys, rfl, ha, hall, hl, hg, rfl⟩, k⟩ := h
    rcases ha with ⟨xs', ha, rfl⟩ | ha
    · skip
      refine ⟨_, (pss_cons (ps_if (pt_not (pt_val (pe_callB call_isiT rfl T.z_isinstance boot_isinstance (pa_cons (pv 1) (pa_cons (pe_tup (pa_cons (pe_bltn (v := .ty "list") rfl T.z_list boot_list rfl) (pa_cons (pe_bltn (v := .ty "tuple") rfl T.z_tuple boot_tuple rfl) pa_nil))) pa_nil))))) (pss_one ps_never) pss_nil)
      (pss_cons (ps_set (i := 2) sctotal.nd rfl (Or.inl rfl) (pe_mkl (i := 0) T.mk1 (hr.mono (by decide)) rfl (by first | exact Or.inl rfl | exact Or.inr (Or.inl rfl) | exact Or.inr (Or.inr rfl)) (pa_cons pe_int pa_nil)))
      (pss_cons (ps_for PassesOwn.never rfl (pi_list (pv 1)) (pg_name (i := 3) sctotal.nd rfl (Or.inl rfl)) (pss_one (ps_set (i := 2) sctotal.nd rfl (Or.inl rfl) (pe_op (OpR.or (op_oo T.o_add (hr.mono (by decide))) (op_oi T.oi_add (hr.mono (by decide)))) (pv 2) (pv 3)))))
      (pss_one (ps_ret (pv 2)))))), ?_⟩
      refine st_unless (t_not (b := true) (t_B (p_isl rfl (fun H1 e => .base (.lst (e _ _ ha))) kit_lst))) fun H1 e1 => ?_
      refine st_asg (P := IsR C 0 1) (p_mkl rfl (a_cons p_c a_nil)) fun v H2 e2 hv => ?_
      have e02 := e1.trans e2
      have hx2 := Mo_all (ys := ys) e02 hall
      refine Evl.q_forLn (Evl.ev_var rfl) (SqL.of (e02 _ _ ha)) (Ptot C (.ref a) ys H2) (fun H3 e3 => ⟨v, none, rfl, Mo.mo e3 hv, e3⟩) (fun i σ' H' _ p => Evl.ex_l p.ex (SqL.of (e02 _ _ ha))) (fun i x σ' H' hi p => ?_) fun σ' H' p => ?_
      · obtain ⟨fv, q, rfl, hf, e3⟩ := p
        obtain ⟨Px, hP, px⟩ := hx2.get hi
        obtain ⟨y, hy1, rfl⟩ := map_get hP
        refine st_asg1 (p_op (p_var (n := 2) rfl hf) (p_var (n := 3) rfl (Mo.mo e3 px)) fun x1 y1 H4 e4 p1 p2 => rv_tot (tot_turn (sp2 := preOp C Fadd Gmul) hg hy1 hl p1 p2)) fun v5 H5 e5 p5 => ⟨v5, _, rfl, ?_, e3.trans e5⟩
        rw [sum_take hy1]
        exact p5
      · have hl2 : xs'.length = ys.length := by
          have h := hall.len
          rw [List.length_map] at h
          exact h
        rw [hl2] at p
        obtain ⟨fv, q, rfl, hf, e3⟩ := p
        rw [List.take_length] at hf
        exact st_ret (p_var rfl hf) fun v5 H5 e5 p5 => k v5 H5 ((e02.trans e3).trans e5) p5
    · skip
      refine ⟨_, (pss_cons (ps_if (pt_not (pt_val (pe_callB call_isiT rfl T.z_isinstance boot_isinstance (pa_cons (pv 1) (pa_cons (pe_tup (pa_cons (pe_bltn (v := .ty "list") rfl T.z_list boot_list rfl) (pa_cons (pe_bltn (v := .ty "tuple") rfl T.z_tuple boot_tuple rfl) pa_nil))) pa_nil))))) (pss_one ps_never) pss_nil)
      (pss_cons (ps_set (i := 2) sctotal.nd rfl (Or.inl rfl) (pe_mkl (i := 0) T.mk1 (hr.mono (by decide)) rfl (by first | exact Or.inl rfl | exact Or.inr (Or.inl rfl) | exact Or.inr (Or.inr rfl)) (pa_cons pe_int pa_nil)))
      (pss_cons (ps_for PassesOwn.never rfl (pi_tup (pv 1)) (pg_name (i := 3) sctotal.nd rfl (Or.inl rfl)) (pss_one (ps_set (i := 2) sctotal.nd rfl (Or.inl rfl) (pe_op (OpR.or (op_oo T.o_add (hr.mono (by decide))) (op_oi T.oi_add (hr.mono (by decide)))) (pv 2) (pv 3)))))
      (pss_one (ps_ret (pv 2)))))), ?_⟩
      refine st_unless (t_not (b := true) (t_B (p_isl rfl (fun H1 e => .base (.tup (e _ _ ha))) kit_tup))) fun H1 e1 => ?_
      refine st_asg (P := IsR C 0 1) (p_mkl rfl (a_cons p_c a_nil)) fun v H2 e2 hv => ?_
      have e02 := e1.trans e2
      have hx2 := Mo_all (ys := ys) e02 hall
      refine Evl.q_forT (Evl.ev_var rfl) (SqT.of (e02 _ _ ha)) (Ptot C (.ref a) ys H2) (fun H3 e3 => ⟨v, none, rfl, Mo.mo e3 hv, e3⟩) (fun i σ' H' _ p => Evl.ex_t p.ex (SqT.of (e02 _ _ ha))) (fun i x σ' H' hi p => ?_) fun σ' H' p => ?_
      · obtain ⟨fv, q, rfl, hf, e3⟩ := p
        obtain ⟨Px, hP, px⟩ := hx2.get hi
        obtain ⟨y, hy1, rfl⟩ := map_get hP
        refine st_asg1 (p_op (p_var (n := 2) rfl hf) (p_var (n := 3) rfl (Mo.mo e3 px)) fun x1 y1 H4 e4 p1 p2 => rv_tot (tot_turn (sp2 := preOp C Fadd Gmul) hg hy1 hl p1 p2)) fun v5 H5 e5 p5 => ⟨v5, _, rfl, ?_, e3.trans e5⟩
        rw [sum_take hy1]
        exact p5
      · have hl2 : xs.length = ys.length := by
          have h := hall.len
          rw [List.length_map] at h
          exact h
        rw [hl2] at p
        obtain ⟨fv, q, rfl, hf, e3⟩ := p
        rw [List.take_length] at hf
        exact st_ret (p_var rfl hf) fun v5 H5 e5 p5 => k v5 H5 ((e02.trans e3).trans e5) p5
end
end RK
namespace RK
open PySem PySem.Spec PyProof.Rows L2
open Evl (Ex EvT)
abbrev spot : Stmt := top 11
abbrev scpotN : List Str := ["_law_script", "_law_k", "_law_cell"]
theorem scpot : FnScope scpotN ["_law_script", "_law_k"] (defScope spot) := ⟨rfl, rfl, rfl, by decide +kernel, rfl, by decide +kernel, by decide +kernel⟩

abbrev sdraw : Stmt := top 12
abbrev scdrawN : List Str := ["_law_pot_here", "_law_many", "_law_digit"]
theorem scdraw : FnScope scdrawN ["_law_pot_here", "_law_many"] (defScope sdraw) := ⟨rfl, rfl, rfl, by decide +kernel, rfl, by decide +kernel, by decide +kernel⟩

abbrev slow : Stmt := top 14
abbrev sclowN : List Str := ["_law_top", "_law_bottom", "_law_one", "_law_other"]
theorem sclow : FnScope sclowN ["_law_top", "_law_bottom"] (defScope slow) := ⟨rfl, rfl, rfl, by decide +kernel, rfl, by decide +kernel, by decide +kernel⟩

abbrev snumber : Stmt := top 15
abbrev scnumberN : List Str := ["_law_pot_here", "_law_way", "_law_top", "_law_bottom"]
theorem scnumber : FnScope scnumberN ["_law_pot_here"] (defScope snumber) := ⟨rfl, rfl, rfl, by decide +kernel, rfl, by decide +kernel, by decide +kernel⟩

abbrev sis : Stmt := top 16
abbrev scisN : List Str := ["_law_told", "_law_pair", "_law_sign", "_law_shown"]
theorem scis : FnScope scisN ["_law_told", "_law_pair"] (defScope sis) := ⟨rfl, rfl, rfl, by decide +kernel, rfl, by decide +kernel, by decide +kernel⟩

abbrev spair : Stmt := top 17
abbrev scpairN : List Str := ["_law_one", "_law_other", "_law_near", "_law_far", "_law_a", "_law_b", "_law_c", "_law_d", "_law_rows", "_law_order", "_law_told", "_law_due"]
theorem scpair : FnScope scpairN ["_law_one", "_law_other", "_law_near", "_law_far"] (defScope spair) := ⟨rfl, rfl, rfl, by decide +kernel, rfl, by decide +kernel, by decide +kernel⟩

abbrev swright : Stmt := top 18
abbrev scwrightN : List Str := ["_law_one", "_law_near", "_law_whole", "_law_a", "_law_b", "_law_rows", "_law_odd", "_law_told", "_law_due"]
theorem scwright : FnScope scwrightN ["_law_one", "_law_near", "_law_whole"] (defScope swright) := ⟨rfl, rfl, rfl, by decide +kernel, rfl, by decide +kernel, by decide +kernel⟩

abbrev sright : Stmt := top 19
abbrev scrightN : List Str := ["_law_pot_here", "_law_drawn", "_law_pairs", "_law_some", "_law_at", "_law_one", "_law_two", "_law_three", "_law_whole", "_law_rules", "_law_turn", "_law_top", "_law_bottom", "_law_told", "_law_pair"]
theorem scright : FnScope scrightN ["_law_pot_here"] (defScope sright) := ⟨rfl, rfl, rfl, by decide +kernel, rfl, by decide +kernel, by decide +kernel⟩

abbrev slaw : Stmt := top 20
abbrev sclawN : List Str := ["_law_script", "_law_k"]
theorem sclaw : FnScope sclawN ["_law_script"] (defScope slaw) := ⟨rfl, rfl, rfl, by decide +kernel, rfl, by decide +kernel, by decide +kernel⟩

/-! ### more of what evaluates to what -/
section
variable {K : PySem.W.Frag} {C : Addr} {σ : L2.St} {H H' : Hp} {ta tb te : TE} {t : TA} {R P : VP} {Ps : List VP} {i j : Int}
theorem p_int (h : EvP te σ H (Is (.int i))) : EvP (tCB (fun xs H Q => (∃ i, xs = [.int i] ∧ Q (.int i) H) ∨ ∃ k, xs = [.bl k] ∧ Q (.int (if k then 1 else 0)) H) (tCons te tNil)) σ H (Is (.int i)) :=
  p_cb (a_cons h a_nil) fun vs H1 e ps Q q => by
    obtain ⟨v, rfl, rfl⟩ := one ps
    exact .inl ⟨i, rfl, q _ H1 (Ex.refl H1) rfl⟩
theorem p_max (h : EvP ta σ H (Is (.int i))) (h' : EvP tb σ H (Is (.int j))) : EvP (tCB (fun xs H Q => ∃ i j, xs = [.int i, .int j] ∧ Q (.int (if j > i then j else i)) H) (tCons ta (tCons tb tNil))) σ H (Is (.int (if j > i then j else i))) :=
  p_cb (a_cons h (a_cons h' a_nil)) fun vs H1 e ps Q q => by
    obtain ⟨v, w, rfl, rfl, rfl⟩ := two ps
    exact ⟨i, j, rfl, q _ H1 (Ex.refl H1) rfl⟩
theorem p_min (h : EvP ta σ H (Is (.int i))) (h' : EvP tb σ H (Is (.int j))) : EvP (tCB (fun xs H Q => ∃ i j, xs = [.int i, .int j] ∧ Q (.int (if j < i then j else i)) H) (tCons ta (tCons tb tNil))) σ H (Is (.int (if j < i then j else i))) :=
  p_cb (a_cons h (a_cons h' a_nil)) fun vs H1 e ps Q q => by
    obtain ⟨v, w, rfl, rfl, rfl⟩ := two ps
    exact ⟨i, j, rfl, q _ H1 (Ex.refl H1) rfl⟩
theorem p_len {a : Addr} {xs : List V} (h : EvP te σ H (Is (.ref a))) (hs : SqL K H a xs) : EvP (tCB (fun xs H Q => ∃ p ys, xs = [.ref p] ∧ (SqL K H p ys ∨ SqT K H p ys) ∧ Q (.int ys.length) H) (tCons te tNil)) σ H (Is (.int xs.length)) :=
  p_cb (a_cons h a_nil) fun vs H1 e ps Q q => by
    obtain ⟨v, rfl, rfl⟩ := one ps
    exact ⟨a, xs, rfl, .inl (Evl.ex_l e hs), q _ H1 (Ex.refl H1) rfl⟩
/-- an item of a list that is known -/
theorem p_at {a : Addr} {xs : List V} {v : V} (h : EvP ta σ H (Is (.ref a))) (hb : EvP tb σ H (Is (.int i))) (hs : SqL K H a xs) (hi : atI xs i = some v) : EvP (tOp (rIx K) ta tb) σ H (Is v) :=
  p_op2 h hb fun H1 e => .of fun Q q => .inl ⟨a, xs, i, v, rfl, rfl, Evl.ex_l e hs, hi, q⟩
/-- a new list -/
def EvN (te : TE) (σ : L2.St) (H : Hp) (Ps : List VP) : Prop := ∀ H1, Ex H H1 → ∀ Q : VK, (∀ r xs H2, H1 r = none → Ex H1 H2 → H2 r = some (.lst xs) → AllP Ps xs H2 → Q (.ref r) H2) → te σ H1 Q
theorem n_lst [MoL Ps] (h : EvAs t σ H Ps) (hz : Ps.length ≤ 100000) : EvN (tLst t) σ H Ps := fun H1 e Q q => h H1 e _ fun vs H2 e2 ps =>
  ⟨by rw [ps.len]; exact Evl.sz_of hz, fun p hp => q p vs _ (Evl.fresh_back e2 hp) (e2.trans (Ex.new hp)) upd_same (MoL.mo (Ex.new hp) ps)⟩
theorem EvN.p [MoL Ps] (h : EvN te σ H Ps) : EvP te σ H (IsL K Ps) := fun H1 e Q q => h H1 e Q fun r xs H2 _ e2 hr ps => q _ H2 e2 ⟨r, xs, rfl, SqL.of hr, ps⟩
end
section
variable {P : Program} {w : World} {K : PySem.W.Frag} {mg : Str → Option Value} {base : Heap} {C : Addr} {σ : L2.St} {H : Hp} {ta tb te : TE} {t : TA} {R : VP}
structure TZ (mg : Str → Option Value) : Prop where
  z_max : mg "max" = none
  z_min : mg "min" = none
  z_len : mg "len" = none
  z_all : mg "all" = none
  z_divmod : mg "divmod" = none
  z_range : mg "range" = none
  z_zip : mg "zip" = none
  z_repr : mg "repr" = none
  z_str : mg "str" = none
  z_int : mg "int" = none
  z_abs : mg "abs" = none
/-! ### a pot of digits -/
def Pot (H : Hp) (p : Addr) : Prop := ∃ n s : Int, H p = some (.lst [.int n, .int s]) ∧ 0 ≤ n ∧ 0 ≤ s ∧ s < 4294967296
def spPot (K : PySem.W.Frag) : Sp := fun vs H Q _ => ∃ (a : Addr) (ns : List Int) (k : Int), vs = [.ref a, .int k] ∧ SqL K H a (ns.map V.int) ∧ (0 ≤ k ∧ k ≤ 64) ∧ ∀ p H', Ex H H' → H p = none → Pot H' p → Q (.ref p) H'
theorem nsmall {i : Int} {n : Nat} (h0 : 0 ≤ i) (h : i < (2 : Int) ^ n) : i.natAbs < 2 ^ n := by
  have h2 : ((2 ^ n : Nat) : Int) = (2 : Int) ^ n := by simp
  omega
theorem cm8 {i j : Int} (h : i.natAbs < 4294967296) (h' : j.natAbs < 4294967296) : CMulW i j := wide_mul (a := 32) (b := 32) h h' (by decide) (by decide) (by decide)
theorem ok_pot {f : Addr} {fd : FuncData} (F : Fun K "_law_pot" "_law_pot" spot f fd) (T : TZ mg) : FnG P w K mg base 1 f ["_law_script", "_law_k"] (spPot K) := by
  refine fnG_of F scpot (fun vs H Q E h => ?_) (fun cdv A outer s H vs Q hr hG h => ?_)
  · obtain ⟨a, ns, k, rfl, _⟩ := h
    rfl
  · obtain ⟨a, ns, k, rfl, hs, hk, q⟩ := h
    refine ⟨_, (pss_cons (ps_set (i := 2) scpot.nd rfl (Or.inl rfl) (pe_ifExp (pt_cmpR op_lt (pv 1) (pe_callB call_len_seq rfl T.z_len PySem.boot_len (pa_cons (pv 0) pa_nil)) (nomark _)) (pe_callB call_abs rfl T.z_abs boot_abs (pa_cons (pe_ix ix_seq (pv 0) (pv 1) (fun _ _ => rfl)) pa_nil)) (pe_op op_add (pe_op op_mulW pe_int (pv 1)) pe_int)))
      (pss_one (ps_ret (pe_lst (pa_cons (pe_callB (call_max2 rfl) rfl T.z_max boot_max (pa_cons pe_int (pa_cons (pe_op op_sub (pv 2) (pe_op op_pow pe_int pe_int)) pa_nil))) (pa_cons (pe_op op_add (pe_op op_mod (pe_callTy call_int1 rfl T.z_int boot_int (pa_cons (pe_op op_add (pe_op op_add (pe_op op_mulW (pe_op op_mod (pe_callTy call_int1 rfl T.z_int boot_int (pa_cons (pv 2) pa_nil)) pe_int) pe_int) (pe_op op_mulW pe_int (pv 1))) pe_int) pa_nil)) pe_int) pe_int) pa_nil)))))), ?_⟩
    refine st_asg (P := fun v _ => ∃ c : Int, v = .int c ∧ 0 ≤ c) ?_ fun v H1 e1 hv => ?_
    · refine p_if (b := decide (k < ((ns.map V.int).length : Int))) (t_test (p_I0 (p_val rfl) (p_len (p_val rfl) hs))) (fun hb => ?_) fun hb => ?_
      · have hb := of_decide_eq_true hb
        have hj : k.toNat < ns.length := by
          rw [List.length_map] at hb
          omega
        have hat : atI (ns.map V.int) k = some (.int ns[k.toNat]) := by
          refine at_of (j := k.toNat) (by omega) ?_
          rw [List.getElem?_map, List.getElem?_eq_getElem hj]
          rfl
        exact (p_abs (p_at (p_val rfl) (p_val rfl) hs hat)).imp fun v H1 e p => ⟨_, p, by split <;> omega⟩
      · exact (p_I0 (p_I p_c (p_val rfl) (cm8 (by decide) (by omega))) p_c).imp fun v H1 e p => ⟨_, p, by omega⟩
    obtain ⟨c, rfl, hc⟩ := hv
    have m1 : 0 ≤ c % 2147483549 := Int.emod_nonneg _ (by decide)
    have m2 : c % 2147483549 < 2147483549 := Int.emod_lt_of_pos _ (by decide)
    refine n_lst (a_cons (p_max p_c (p_I0 (p_val rfl) (p_I p_c p_c ⟨by decide, by decide, by decide⟩))) (a_cons (p_I0 (p_I (p_int (p_I0 (p_I0 (p_I (p_I (p_int (p_val rfl)) p_c (by decide)) p_c (cm8 (by omega) (by decide))) (p_I p_c (p_val rfl) (cm8 (by decide) (by omega)))) p_c)) p_c (by decide)) p_c) a_nil)) (show 2 ≤ 100000 by decide) H1 (Ex.refl H1) _ fun r xs H2 hn e2 hr ps => ?_
    obtain ⟨v, w, rfl, rfl, rfl⟩ := two ps
    refine q r H2 (e1.trans e2) (Evl.fresh_back e1 hn) ⟨_, _, hr, ?_, ?_, ?_⟩
    · split <;> omega
    · have := Int.emod_nonneg (c % 2147483549 * 48271 + 7321 * k + 31) (b := 2147483563) (by decide)
      omega
    · have := Int.emod_lt_of_pos (c % 2147483549 * 48271 + 7321 * k + 31) (b := 2147483563) (by decide)
      omega
/-! ### a digit drawn -/
/-- all but p stays -/
def ExB (p : Addr) (H H' : Hp) : Prop := ∀ a o, a ≠ p → H a = some o → H' a = some o
theorem ExB.refl (p : Addr) (H : Hp) : ExB p H H := fun _ _ _ h => h
theorem ExB.trans {p : Addr} {H H1 H2 : Hp} (a : ExB p H H1) (b : ExB p H1 H2) : ExB p H H2 := fun x o n h => b x o n (a x o n h)
theorem ExB.of {p : Addr} {H H1 : Hp} (e : Ex H H1) : ExB p H H1 := fun x o _ h => e x o h
theorem Pot.mo {p : Addr} {H H1 : Hp} (e : Ex H H1) (h : Pot H p) : Pot H1 p := let ⟨n, s, h1, h2⟩ := h; ⟨n, s, e _ _ h1, h2⟩
def spDraw : Sp := fun vs H Q _ => ∃ (p : Addr) (m : Int), vs = [.ref p, .int m] ∧ Pot H p ∧ (0 < m ∧ m < 1073741824) ∧ ∀ r H', 0 ≤ r → r < m → ExB p H H' → Pot H' p → Q (.int r) H'
theorem ok_draw {f : Addr} {fd : FuncData} (F : Fun K "_law_draw" "_law_draw" sdraw f fd) (T : TZ mg) : FnG P w K mg base 1 f ["_law_pot_here", "_law_many"] spDraw := by
  refine fnG_of F scdraw (fun vs H Q E h => ?_) (fun cdv A outer s H vs Q hr hG h => ?_)
  · obtain ⟨p, m, rfl, _⟩ := h
    rfl
  · obtain ⟨p, m, rfl, ⟨n, s0, hp, hn, hs0, hs1⟩, hm, q⟩ := h
    refine ⟨_, (pss_cons (ps_if (pt_cmpR op_gt (pe_ix ix_seq (pv 0) pe_int (fun _ _ => rfl)) pe_int (nomark _)) (pss_cons (ps_asg (pe_callB call_divmod rfl T.z_divmod boot_divmod (pa_cons (pe_ix ix_seq (pv 0) pe_int (fun _ _ => rfl)) (pa_cons (pv 1) pa_nil))) (pg_tup rfl (pgs_cons (pg_sub (pv 0) pe_int set_list) (pgs_cons (pg_name (i := 2) scdraw.nd rfl (Or.inl rfl)) pgs_nil))))
      (pss_one (ps_ret (pv 2)))) pss_nil)
      (pss_cons (ps_asg (pe_op op_mod (pe_callTy call_int1 rfl T.z_int boot_int (pa_cons (pe_op op_add (pe_op op_mulW (pe_ix ix_seq (pv 0) pe_int (fun _ _ => rfl)) pe_int) pe_int) pa_nil)) pe_int) (pg_sub (pv 0) pe_int set_list))
      (pss_one (ps_ret (pe_op op_mod (pe_callTy call_int1 rfl T.z_int boot_int (pa_cons (pe_op op_fdiv (pe_op op_mod (pe_callTy call_int1 rfl T.z_int boot_int (pa_cons (pe_op op_mulW (pe_ix ix_seq (pv 0) pe_int (fun _ _ => rfl)) (pe_ix ix_seq (pv 0) pe_int (fun _ _ => rfl))) pa_nil)) pe_int) pe_int) pa_nil)) (pv 1)))))), ?_⟩
    have at0 : ∀ {H' : Hp} {x y : Int} {σ : L2.St}, σ[0]? = some (some (V.ref p)) → H' p = some (.lst [.int x, .int y]) → EvP (tOp (rIx K) (tVar 0) (tC (.int 0))) σ H' (Is (.int x)) := fun h h' => p_at (p_val h) p_c (SqL.of h') rfl
    have at1 : ∀ {H' : Hp} {x y : Int} {σ : L2.St}, σ[0]? = some (some (V.ref p)) → H' p = some (.lst [.int x, .int y]) → EvP (tOp (rIx K) (tVar 0) (tC (.int 1))) σ H' (Is (.int y)) := fun h h' => p_at (p_val h) p_c (SqL.of h') rfl
    refine st_when (b := decide (0 < n)) (t_test (p_I0 (at0 rfl hp) p_c)) (fun hb H1 e1 => ?_) fun hb H1 e1 => ?_
    · have hb := of_decide_eq_true hb
      refine st_cbg (a_cons (at0 rfl (e1 _ _ hp)) (a_cons (p_val rfl) a_nil)) fun vs H2 e2 ps => ?_
      obtain ⟨v, w, rfl, rfl, rfl⟩ := two ps
      refine ⟨n, m, rfl, hm, fun u hu => ?_⟩
      have hp2 : (upd H2 u (.tup [.int (n / m), .int (n % m)])) p = some (.lst [.int n, .int s0]) := by
        have h2 := e2 _ _ (e1 _ _ hp)
        rw [upd_ne (ne_of_none h2 hu)]
        exact h2
      refine ⟨u, _, rfl, SqT.of upd_same, rfl, _, _, rfl, .ref p, rfl, p, _, 0, 0, rfl, rfl, hp2, rfl, _, _, rfl, rfl, _, rfl, ?_⟩
      refine q _ _ (Int.emod_nonneg _ (by omega)) (Int.emod_lt_of_pos _ hm.1) (fun a o na ha => ?_) ⟨n / m, s0, upd_same, Int.ediv_nonneg hn (by omega), hs0, hs1⟩
      have h2 := e2 _ _ (e1 _ _ ha)
      rw [upd_ne na, upd_ne (ne_of_none h2 hu)]
      exact h2
    · have m1 : 0 ≤ (s0 * 39373 + 7321) % 2147483587 := Int.emod_nonneg _ (by decide)
      have m2 : (s0 * 39373 + 7321) % 2147483587 < 2147483587 := Int.emod_lt_of_pos _ (by decide)
      refine st_evg (p_I (p_int (p_I0 (p_I (at1 rfl (e1 _ _ hp)) p_c (cm8 (by omega) (by decide))) p_c)) p_c (by decide)) fun v H2 e2 hv => ?_
      cases hv
      refine ⟨.ref p, rfl, p, _, 1, 1, rfl, rfl, e2 _ _ (e1 _ _ hp), rfl, ?_⟩
      generalize hx : (s0 * 39373 + 7321) % 2147483587 = x at m1 m2
      have hp3 : (upd H2 p (.lst ([V.int s0].set 0 (.int x) |> fun l => V.int n :: l))) p = some (.lst [.int n, .int x]) := upd_same
      have k19 : 0 ≤ x * x % 2147483563 := Int.emod_nonneg _ (by decide)
      show tRet _ _ _ _
      refine st_ret (p_I (p_int (p_I (p_I (p_int (p_I (at1 rfl hp3) (at1 rfl hp3) (cm8 (by omega) (by omega)))) p_c (by decide)) p_c ⟨by decide, by decide⟩)) (p_val rfl) hm.1) fun v H3 e3 hv => ?_
      cases hv
      refine q _ H3 (Int.emod_nonneg _ (by omega)) (Int.emod_lt_of_pos _ hm.1) (fun a o na ha => ?_) ⟨n, x, e3 _ _ hp3, hn, m1, by omega⟩
      have h2 := e2 _ _ (e1 _ _ ha)
      refine e3 _ _ ?_
      rw [upd_ne na]
      exact h2
end
end RK
namespace RK
open PySem PySem.Spec PyProof.Rows L2
open Evl (Ex EvT)
section
variable {P : Program} {w : World} {K : PySem.W.Frag} {mg : Str → Option Value} {base : Heap} {C : Addr} {σ : L2.St} {H : Hp} {ta tb te : TE} {t : TA} {R : VP}
/-! ### the law's own lowest terms -/
def preLow (K : PySem.W.Frag) : List V → Hp → VP → Prop := fun vs _ R => ∃ a b : Int, vs = [.int a, .int b] ∧ b ≠ 0 ∧ b.natAbs < 2 ^ 4000 ∧ R = IsT K [Is (.int (nt a b)), Is (.int (nd a b))]
def Wlow (a b : Int) (H : Hp) (m : Nat) (σ' : L2.St) (H' : Hp) : Prop := ∃ x y : Nat, σ' = [some (.int a), some (.int b), some (.int (x : Int)), some (.int (y : Int))] ∧ m = y ∧ Nat.gcd x y = Nat.gcd a.natAbs b.natAbs ∧ Ex H H'
theorem abs_if (i : Int) : (if i < 0 then -i else i) = ((i.natAbs : Nat) : Int) := by split <;> omega
theorem p_absN {i : Int} (h : EvP te σ H (Is (.int i))) : EvP (tCB (fun xs H Q => ∃ i, xs = [.int i] ∧ Q (.int (if i < 0 then -i else i)) H) (tCons te tNil)) σ H (Is (.int ((i.natAbs : Nat) : Int))) := by
  have q := p_abs h
  rw [abs_if] at q
  exact q
theorem ok_low {f : Addr} {fd : FuncData} (F : Fun K "_law_low" "_law_low" slow f fd) (T : TZ mg) : FnG P w K mg base 1 f ["_law_top", "_law_bottom"] (mkSp (preLow K)) := by
  refine fnG_of F sclow (fun vs H Q E h => ?_) (fun cdv A outer s H vs Q hr hG h => ?_)
  · obtain ⟨R, ⟨a, b, rfl, _⟩, _⟩ := h
    rfl
  · obtain ⟨R, ⟨a, b, rfl, hb, hz, rfl⟩, k⟩ := h
    refine ⟨_, (pss_cons (ps_par (i := 2) (j := 3) rfl sclow.nd rfl rfl (by decide) rfl rfl (pa_cons (pe_callB call_abs rfl T.z_abs boot_abs (pa_cons (pv 0) pa_nil)) (pa_cons (pe_callB call_abs rfl T.z_abs boot_abs (pa_cons (pv 1) pa_nil)) pa_nil)) rfl)
      (pss_cons (ps_while PassesOwn.never (pt_cmpR op_gt (pv 3) pe_int (nomark _)) (pss_one (ps_par (i := 2) (j := 3) rfl sclow.nd rfl rfl (by decide) rfl rfl (pa_cons (pv 3) (pa_cons (pe_op op_mod (pe_callTy call_int1 rfl T.z_int boot_int (pa_cons (pv 2) pa_nil)) (pv 3)) pa_nil)) rfl)))
      (pss_cons (ps_set (i := 2) sclow.nd rfl (Or.inl rfl) (pe_ifExp (pt_cmpR op_gt (pv 1) pe_int (nomark _)) (pv 2) (pe_op op_sub pe_int (pv 2))))
      (pss_one (ps_ret (pe_tup (pa_cons (pe_op op_fdivS (pv 0) (pv 2)) (pa_cons (pe_op op_fdivS (pv 1) (pv 2)) pa_nil)))))))), ?_⟩
    refine st_par (a_cons (p_absN (p_val rfl)) (a_cons (p_absN (p_val rfl)) a_nil)) fun v w H1 e1 hv hw => ?_
    cases hv
    cases hw
    refine Evl.q_while (Wlow a b H) b.natAbs ⟨a.natAbs, b.natAbs, rfl, rfl, rfl, e1⟩ fun m σ' H' hW => ?_
    obtain ⟨x, y, rfl, rfl, hg, e2⟩ := hW
    refine ⟨decide (0 < (m : Int)), t_test (p_I0 (p_val rfl) p_c), fun hy H3 e3 => ?_, fun hy H3 e3 => ?_⟩
    · have hy := of_decide_eq_true hy
      refine ⟨fun σ2 H2 => ∃ m', m' < m ∧ Wlow a b H m' σ2 H2, fun _ _ h => h, ?_⟩
      refine st_par1 (a_cons (p_val rfl) (a_cons (p_I (p_int (p_val rfl)) (p_val rfl) hy) a_nil)) fun v w H4 e4 hv hw => ?_
      cases hv
      cases hw
      refine ⟨x % m, Nat.mod_lt _ (by omega), m, x % m, ?_, rfl, ?_, (e2.trans e3).trans e4⟩
      · show [some (V.int a), some (V.int b), some (V.int (m : Int)), some (V.int ((x : Int) % (m : Int)))] = _
        rw [Int.natCast_emod]
      · rw [← hg, Nat.gcd_comm x m, Nat.gcd_rec m x, Nat.gcd_comm]
    · have hy := of_decide_eq_false hy
      have hy0 : m = 0 := by omega
      subst hy0
      rw [Nat.gcd_zero_right] at hg
      refine st_asg (P := Is (.int (dv a b))) (p_if (b := decide (0 < b)) (t_test (p_I0 (p_val rfl) p_c)) (fun h => ?_) fun h => ?_) fun v H4 e4 hv => ?_
      · have h := of_decide_eq_true h
        have e : dv a b = (x : Int) := by
          unfold dv
          rw [if_neg (by omega), hg]
        rw [e]
        exact p_val rfl
      · have h := of_decide_eq_false h
        have e : dv a b = 0 - (x : Int) := by
          unfold dv
          rw [if_pos (by omega), hg]
          omega
        rw [e]
        exact p_I0 p_c (p_val rfl)
      cases hv
      have c : ∀ i : Int, CFd i (dv a b) := fun i => ⟨dv_ne hb, dv_log hb hz⟩
      refine st_ret (p_tup (a_cons (P := Is (.int (nt a b))) ?_ (a_cons (P := Is (.int (nd a b))) ?_ a_nil)) (show 2 ≤ 100000 by decide)) fun v H5 e5 p => k v H5 (((e2.trans e3).trans e4).trans e5) p
      · have q := p_I (C := CFd) (g := fun i j => V.int (i.fdiv j)) (σ := [some (V.int a), some (V.int b), some (V.int (dv a b)), some (V.int 0)]) (H := H4) (p_val (n := 0) rfl) (p_val (n := 2) rfl) (c a)
        rw [fdiv_t] at q
        exact q
      · have q := p_I (C := CFd) (g := fun i j => V.int (i.fdiv j)) (σ := [some (V.int a), some (V.int b), some (V.int (dv a b)), some (V.int 0)]) (H := H4) (p_val (n := 1) rfl) (p_val (n := 2) rfl) (c b)
        rw [fdiv_d] at q
        exact q
/-! ### a number drawn -/
structure TD (P : Program) (w : World) (K : PySem.W.Frag) (mg : Str → Option Value) (base : Heap) : Prop extends TZ mg where
  law_draw : CalG P w K mg base 1 "_law_draw" spDraw
theorem d_draw {i : Nat} {p : Addr} {m : Int} {Q : VK} (hp : σ[i]? = some (some (V.ref p))) (h : Pot H p) (hm : EvP te σ H (Is (.int m))) (h0 : 0 < m) (h1 : m < 1073741824)
    (k : ∀ r H', 0 ≤ r → r < m → ExB p H H' → Pot H' p → Q (.int r) H') : tCall spDraw [] E0 (tCons (tVar i) (tCons te tNil)) σ H Q :=
  ⟨_, hp, hm H (Ex.refl H) _ fun v H1 e hv => ⟨p, m, by cases hv; rfl, Pot.mo e h, ⟨h0, h1⟩, fun r H' a b c d => k r H' a b ((ExB.of e).trans c) d⟩⟩
def spNumber : Sp := fun vs H Q _ => ∃ p : Addr, vs = [.ref p] ∧ Pot H p ∧ ∀ a (t b : Int) H', H' a = some (.tup [.int t, .int b]) → b ≠ 0 → Sz 110 t b → ExB p H H' → Pot H' p → Q (.ref a) H'
theorem number_fin {p : Addr} {way t b : Int} {D : Ends} (hσ : σ = [some (.ref p), some (.int way), some (.int t), some (.int b)]) (hp : Pot H p) (hb : 0 < b) (sz : Sz 110 t b)
    (k : ∀ a (t b : Int) H', H' a = some (.tup [.int t, .int b]) → b ≠ 0 → Sz 110 t b → ExB p H H' → Pot H' p → D.rt (.ref a) H') :
    tSeq (tIfS (tTest (tOp rEq (tVar 1) (tC (V.int 0)))) (tAsg (tC (V.int 1)) (gName 3)) tNext) (tRet (tTup (tCons (tVar 2) (tCons (tIf (tTest (tOp (rI0 fun i j => V.bl (decide (j < i))) (tCall spDraw [] E0 (tCons (tVar 0) (tCons (tC (V.int 3)) tNil))) (tC (V.int 0))))
      (tVar 3) (tOp (rI0 fun i j => V.int (i - j)) (tC (V.int 0)) (tVar 3))) tNil)))) D σ H := by
  subst hσ
  have key : ∀ (c : Int) H1, 0 < c → Sz 110 t c → Ex H H1 → tRet (tTup (tCons (tVar 2) (tCons (tIf (tTest (tOp (rI0 fun i j => V.bl (decide (j < i))) (tCall spDraw [] E0 (tCons (tVar 0) (tCons (tC (V.int 3)) tNil))) (tC (V.int 0))))
      (tVar 3) (tOp (rI0 fun i j => V.int (i - j)) (tC (V.int 0)) (tVar 3))) tNil))) D [some (.ref p), some (.int way), some (.int t), some (.int c)] H1 := by
    intro c H1 hc sc e1
    refine ⟨.int t, rfl, ?_⟩
    refine d_draw rfl (Pot.mo e1 hp) p_c (by decide) (by decide) fun r H2 a1 b1 x2 hp2 => ⟨r, 0, rfl, rfl, _, rfl, ?_⟩
    have out : ∀ (d : Int) q, H2 q = none → d ≠ 0 → d.natAbs < 2 ^ 110 → D.rt (.ref q) (upd H2 q (.tup [.int t, .int d])) := by
      intro d q hq hd sd
      have np : p ≠ q := by
        obtain ⟨_, _, h, _⟩ := hp2
        exact ne_of_none h hq
      exact k q t d _ upd_same hd ⟨sc.1, sd⟩ (fun a o na ha => by
        have h2 := x2 _ _ na (e1 _ _ ha)
        rw [upd_ne (ne_of_none h2 hq)]
        exact h2) (Pot.mo (Ex.new hq) hp2)
    refine ite2 (fun h => ⟨.int c, rfl, (show 2 ≤ sizeLine by decide), fun q hq => out c q hq (by omega) sc.2⟩) fun h => ⟨.int c, rfl, 0, c, rfl, rfl, (show 2 ≤ sizeLine by decide), fun q hq => out (0 - c) q hq (by omega) (by have := sc.2; omega)⟩
  refine st_when (b := decide (way = 0)) (t_test (p_eqi (p_val rfl) p_c)) (fun hb0 H1 e1 => ?_) fun hb0 H1 e1 => ?_
  · refine st_asg1 (P := Is (.int 1)) p_c fun v H2 e2 hv => ?_
    cases hv
    exact key 1 H2 (by decide) ⟨sz.1, by decide +kernel⟩ (e1.trans e2)
  · exact key b H1 hb sz e1
theorem ok_number {f : Addr} {fd : FuncData} (F : Fun K "_law_number" "_law_number" snumber f fd) (T : TD P w K mg base) : FnG P w K mg base 2 f ["_law_pot_here"] spNumber := by
  refine fnG_of F scnumber (fun vs H Q E h => ?_) (fun cdv A outer s H vs Q hr hG h => ?_)
  · obtain ⟨p, rfl, _⟩ := h
    rfl
  · obtain ⟨p, rfl, hp, k⟩ := h
    refine ⟨_, (pss_cons (ps_set (i := 1) scnumber.nd rfl (Or.inl rfl) (pe_cg T.law_draw hr (by decide) hG rfl (pa_cons (pv 0) (pa_cons pe_int pa_nil))))
      (pss_cons (ps_par (i := 2) (j := 3) rfl scnumber.nd rfl rfl (by decide) rfl rfl (pa_cons (pe_op op_sub (pe_cg T.law_draw hr (by decide) hG rfl (pa_cons (pv 0) (pa_cons pe_int pa_nil))) pe_int) (pa_cons (pe_op op_add pe_int (pe_cg T.law_draw hr (by decide) hG rfl (pa_cons (pv 0) (pa_cons pe_int pa_nil)))) pa_nil)) rfl)
      (pss_cons (ps_if (pt_cmpR op_eq (pv 1) pe_int (nomark _)) (pss_one (ps_par (i := 2) (j := 3) rfl scnumber.nd rfl rfl (by decide) rfl rfl (pa_cons (pe_op op_add (pe_op op_mulW (pv 2) (pe_op op_pow pe_int pe_int)) (pe_cg T.law_draw hr (by decide) hG rfl (pa_cons (pv 0) (pa_cons (pe_op op_pow pe_int pe_int) pa_nil)))) (pa_cons (pe_op op_add (pe_op op_mulW (pv 3) (pe_op op_pow pe_int pe_int)) (pe_cg T.law_draw hr (by decide) hG rfl (pa_cons (pv 0) (pa_cons (pe_op op_pow pe_int pe_int) pa_nil)))) pa_nil)) rfl)) pss_nil)
      (pss_cons (ps_if (pt_cmpR op_eq (pv 1) pe_int (nomark _)) (pss_one (ps_set (i := 3) scnumber.nd rfl (Or.inl rfl) pe_int)) pss_nil)
      (pss_one (ps_ret (pe_tup (pa_cons (pv 2) (pa_cons (pe_ifExp (pt_cmpR op_gt (pe_cg T.law_draw hr (by decide) hG rfl (pa_cons (pv 0) (pa_cons pe_int pa_nil))) pe_int (nomark _)) (pv 3) (pe_op op_sub pe_int (pv 3))) pa_nil))))))))), ?_⟩
    refine d_draw rfl hp p_c (by decide) (by decide) fun way H1 w0 w1 x1 hp1 => ?_
    refine d_draw rfl hp1 p_c (by decide) (by decide) fun r1 H2 a1 b1 x2 hp2 => ⟨r1, 30, rfl, rfl, ?_⟩
    refine d_draw rfl hp2 p_c (by decide) (by decide) fun r2 H3 a2 b2 x3 hp3 => ⟨1, r2, rfl, rfl, _, _, rfl, ?_⟩
    have x03 := (x1.trans x2).trans x3
    refine st_when (b := decide (way = 3)) (t_test (p_eqi (p_val rfl) p_c)) (fun hb H4 e4 => ?_) fun hb H4 e4 => ?_
    · refine (p_I (p_val (n := 2) rfl) (p_I (C := CPow) (g := fun i j => V.int (i ^ j.toNat)) p_c p_c ⟨by decide, by decide, by decide⟩) (wide_mul (a := 6) (b := 94) (by omega) (by decide +kernel) (by decide) (by decide) (by decide))) H4 (Ex.refl H4) _ fun v H5 e5 hv => ?_
      cases hv
      refine d_draw rfl (Pot.mo e5 (Pot.mo e4 hp3)) (p_I p_c p_c ⟨by decide, by decide, by decide⟩) (by decide) (by decide) fun d1 H6 a3 b3 x6 hp6 => ⟨_, d1, rfl, rfl, ?_⟩
      refine (p_I (p_val (n := 3) rfl) (p_I (C := CPow) (g := fun i j => V.int (i ^ j.toNat)) p_c p_c ⟨by decide, by decide, by decide⟩) (wide_mul (a := 6) (b := 94) (by omega) (by decide +kernel) (by decide) (by decide) (by decide))) H6 (Ex.refl H6) _ fun v H7 e7 hv => ?_
      cases hv
      refine d_draw rfl (Pot.mo e7 hp6) (p_I p_c p_c ⟨by decide, by decide, by decide⟩) (by decide) (by decide) fun d2 H8 a4 b4 x8 hp8 => ⟨_, d2, rfl, rfl, _, _, rfl, ?_⟩
      have x08 : ExB p H H8 := ((((x03.trans (.of e4)).trans (.of e5)).trans x6).trans (.of e7)).trans x8
      have c1 : (10 : Int) ^ (28 : Int).toNat = 10000000000000000000000000000 := by decide +kernel
      have c2 : (10 : Int) ^ (12 : Int).toNat = 1000000000000 := by decide +kernel
      have c3 : (10 : Int) ^ (6 : Int).toNat = 1000000 := by decide +kernel
      have c4 : (2 : Nat) ^ 110 = 1298074214633706907132624082305024 := by decide +kernel
      rw [c3] at b3 b4
      refine number_fin (p := p) (way := way) (t := (r1 - 30) * 10 ^ (28 : Int).toNat + d1) (b := (1 + r2) * 10 ^ (12 : Int).toNat + d2) rfl hp8 ?_ ⟨?_, ?_⟩ fun a t b H9 h1 h2 h3 h4 h5 => k a t b H9 h1 h2 h3 (x08.trans h4) h5
      · rw [c2]
        omega
      · rw [c1, c4]
        omega
      · rw [c2, c4]
        omega
    · have c4 : (2 : Nat) ^ 110 = 1298074214633706907132624082305024 := by decide +kernel
      refine number_fin (p := p) (way := way) (t := r1 - 30) (b := 1 + r2) rfl (Pot.mo e4 hp3) (by omega) ⟨by rw [c4]; omega, by rw [c4]; omega⟩ fun a t b H9 h1 h2 h3 h4 h5 => k a t b H9 h1 h2 h3 ((x03.trans (.of e4)).trans h4) h5
end
end RK
namespace RK
open PySem PySem.Spec PyProof.Rows L2
open Evl (Ex EvT)
/-! ### repr of a list of numbers and truths -/
def toD : V → PyData
  | .int i => .int i
  | .bl b => .bool b
  | _ => .none
def FlV : V → Prop
  | .int i => i.natAbs < 2 ^ 1900
  | .bl _ => True
  | _ => False
def reprL (xs : List V) : Str := (PyData.list (xs.map toD)).shown
theorem flv_len : ∀ {x : V}, FlV x → (toD x).shown.length ≤ 2000
  | .int i, h => num_len h
  | .bl true, _ => by decide +kernel
  | .bl false, _ => by decide +kernel
theorem flv_show : ∀ {x : V}, FlV x → (toD x).showable = true
  | .int i, h => decide_eq_true (lg h)
  | .bl _, _ => rfl
theorem flv_dict : ∀ {x : V}, FlV x → (toD x).hasDict = false
  | .int i, h => rfl
  | .bl _, _ => rfl
theorem flv_depth : ∀ {x : V}, FlV x → (toD x).depth = 0
  | .int i, h => rfl
  | .bl _, _ => rfl
theorem tf_le : ∀ (ts : List Str) (k : Nat) (acc : Str), (∀ t ∈ ts, t.length ≤ 2000) → (textFrom k acc ts).length ≤ acc.length + 2002 * ts.length
  | [], k, acc, _ => by
    show acc.length ≤ _
    omega
  | t :: ts, k, acc, h => by
    have h1 := tf_le ts (k + 1) (acc ++ (if k > 0 then ", " else "" : String) ++ t) fun u hu => h u (List.mem_cons_of_mem _ hu)
    have h2 := h t List.mem_cons_self
    have h3 : (((if k > 0 then ", " else "" : String)) : Str).length ≤ 2 := by split <;> decide +kernel
    rw [slen, slen] at h1
    show (textFrom (k + 1) (acc ++ (if k > 0 then ", " else "" : String) ++ t) ts).length ≤ _
    rw [List.length_cons]
    omega
theorem shown_all : ∀ {xs : List V}, (∀ x ∈ xs, FlV x) → (∀ t ∈ PyData.shownAll (xs.map toD), t.length ≤ 2000) ∧ (PyData.shownAll (xs.map toD)).length = xs.length ∧ PyData.showableAll (xs.map toD) = true ∧ PyData.hasDictAll (xs.map toD) = false ∧ PyData.depthAll (xs.map toD) = 0
  | [], _ => ⟨fun _ h => (nomatch h), rfl, rfl, rfl, rfl⟩
  | x :: xs, h => by
    obtain ⟨h1, h2, h3, h4, h5⟩ := shown_all (xs := xs) fun y hy => h y (List.mem_cons_of_mem _ hy)
    have hx := h x List.mem_cons_self
    refine ⟨fun t ht => ?_, ?_, ?_, ?_, ?_⟩
    · rcases List.mem_cons.mp (show t ∈ (toD x).shown :: PyData.shownAll (xs.map toD) from ht) with e | e
      · rw [e]
        exact flv_len hx
      · exact h1 t e
    · show ((toD x).shown :: PyData.shownAll (xs.map toD)).length = _
      rw [List.length_cons, h2, List.length_cons]
    · show ((toD x).showable && PyData.showableAll (xs.map toD)) = true
      rw [flv_show hx, h3]
      rfl
    · show ((toD x).hasDict || PyData.hasDictAll (xs.map toD)) = false
      rw [flv_dict hx, h4]
      rfl
    · show max (toD x).depth (PyData.depthAll (xs.map toD)) = 0
      rw [flv_depth hx, h5]
      rfl
section
variable {P : Program} {w : World} {K : PySem.W.Frag} {mg : Str → Option Value} {base : Heap} {C : Addr} {σ : L2.St} {H : Hp} {ta tb te : TE} {t : TA} {R : VP}
theorem all_is : ∀ {xs vs : List V}, AllP (xs.map Is) vs H → vs = xs
  | [], [], _ => rfl
  | x :: xs, v :: vs, h => by
    rw [show v = x from h.1, all_is (xs := xs) h.2]
  | [], _ :: _, h => h.elim
  | _ :: _, [], h => h.elim
theorem all_refl : ∀ xs : List V, AllP (xs.map Is) xs H
  | [] => trivial
  | x :: xs => ⟨rfl, all_refl xs⟩
instance {xs : List V} : MoL (xs.map Is) := ⟨fun e h => by
  rw [all_is h]
  exact all_refl xs⟩
theorem dp_flat : ∀ {x : V}, FlV x → Dp K H x (toD x)
  | .int i, _ => .int i
  | .bl b, _ => .bl b
theorem dp_all : ∀ {xs : List V}, (∀ x ∈ xs, FlV x) → DpAll K H xs (xs.map toD)
  | [], _ => .nil
  | x :: xs, h => .cons (dp_flat (h x List.mem_cons_self)) (dp_all fun y hy => h y (List.mem_cons_of_mem _ hy))
theorem p_reprD (xs : List V) (h : EvP te σ H (IsL K (xs.map Is))) (hf : ∀ x ∈ xs, FlV x) (hl : xs.length ≤ 40) : EvP (tCB (rReprD K) (tCons te tNil)) σ H (Is (.str (reprL xs))) := by
  refine p_cb (a_cons h a_nil) fun vs H1 e ps Q q => ?_
  obtain ⟨v, rfl, a, ys, rfl, hs, hy⟩ := one ps
  have hy := all_is hy
  subst hy
  obtain ⟨h1, h2, h3, h4, h5⟩ := shown_all hf
  refine ⟨a, .list (ys.map toD), rfl, .lst hs (dp_all hf), h3, h4, ?_, ?_, q _ H1 (Ex.refl H1) rfl⟩
  · show PyData.depthAll (ys.map toD) + 1 ≤ 40
    rw [h5]
    decide
  · have h6 := tf_le (PyData.shownAll (ys.map toD)) 0 "[" h1
    rw [h2] at h6
    show (textFrom 0 "[" (PyData.shownAll (ys.map toD)) ++ (("]" : String) : Str)).length ≤ sizeLine
    rw [slen]
    have l1 : (("[" : String) : Str).length = 1 := rfl
    have l2 : (("]" : String) : Str).length = 1 := rfl
    exact Evl.sz_of (by omega)

/-! ### what the law itself leans on -/
structure TL (P : Program) (w : World) (K : PySem.W.Frag) (mg : Str → Option Value) (base : Heap) (C : Addr) : Prop extends T5 P w K mg base C, TZ mg where
  io_add : IOpO P w K mg base 6 C "add" (mkSp (preR C Fadd Gmul))
  io_sub : IOpO P w K mg base 6 C "sub" (mkSp (preR C Fsub Gmul))
  io_mul : IOpO P w K mg base 6 C "mul" (mkSp (preR C Fmul Gmul))
  oi_sub : OpIO P w K mg base 5 C "sub" (mkSp (preOp C Fsub Gmul))
  oi_mul : OpIO P w K mg base 5 C "mul" (mkSp (preOp C Fmul Gmul))
  at_eq : AtO P w K mg base 1 C "__eq__" (mkSp (preEq K C))
  ne : OwnNe K C
  at_neg : AtO P w K mg base 4 C "__neg__" (mkSp (preUn C fun t b => IsR C (nt (-t) b) (nd (-t) b)))
  at_str : AtO P w K mg base 1 C "__str__" (mkSp (preUn C fun t b => Is (.str (shownS t b))))
  at_repr : AtO P w K mg base 1 C "__repr__" (mkSp (preUn C fun t b => Is (.str (shownR t b))))
  over : MetO P w K mg base 5 C "over" (mkSp (preOver C))
  over_k : MetKO P w K mg base 5 C "over" (mkSp (preOver C)) ["other"] (fun vs zs => vs ++ zs)
  size : MetO P w K mg base 4 C "size" (mkSp (preUn C fun t b => IsR C (nt (if t < 0 then -t else t) b) (nd (if t < 0 then -t else t) b)))
  is_below : MetO P w K mg base 5 C "is_below" (mkSp (preCmp C fun i j => decide (i < j)))
  is_below_k : MetKO P w K mg base 5 C "is_below" (mkSp (preCmp C fun i j => decide (i < j))) ["other"] (fun vs zs => vs ++ zs)
  is_at_most : MetO P w K mg base 5 C "is_at_most" (mkSp (preCmp C fun i j => decide (i ≤ j)))
  top : PropO P w K mg base 1 C "top" (mkSp (preUn C fun t _ => Is (.int t)))
  bottom : PropO P w K mg base 1 C "bottom" (mkSp (preUn C fun _ b => Is (.int b)))
  sign : PropO P w K mg base 1 C "sign" (mkSp (preUn C fun t _ => Is (.int (sg t))))
  is_whole : PropO P w K mg base 1 C "is_whole" (mkSp (preUn C fun _ b => Is (.bl (decide (b = 1)))))
  total : CMetO P w K mg base 6 C "total" (mkSp (preTot K C))
  total_k : CMetKO P w K mg base 6 C "total" (mkSp (preTot K C)) ["numbers"] (fun vs zs => vs ++ zs)
  mkk : MakKO P w K mg base 2 "Ratio" C (spInit C) ["bottom", "top"] (fun vs zs => vs ++ zs.reverse)
  kS : PySem.W.kitOne K (.type "str") (.ref C) = some false
  kD : PySem.W.kitOne K (.type "dict") (.ref C) = some false
  kL : PySem.W.kitOne K (.type "list") (.ref C) = some false
  kT : PySem.W.kitOne K (.type "tuple") (.ref C) = some false
  nI : PySem.W.notFirst K C (.type "int") = true
  nS : PySem.W.notFirst K C (.type "str") = true
  nD : PySem.W.notFirst K C (.type "dict") = true
  nL : PySem.W.notFirst K C (.type "list") = true
  nTu : PySem.W.notFirst K C (.type "tuple") = true
/-- e.f, a property -/
theorem p_prop {f : Int → Int → VP} {tt b : Int} {E : XK} (h : EvP te σ H (IsR C tt b)) (n : Nm tt b) (s : Sz 1500 tt b) : EvP (tProp C (mkSp (preUn C f)) [] E te) σ H (f tt b) := fun H1 e Q q => h H1 e _ fun v H2 e2 p => by
  obtain ⟨a, rfl, dx, ha⟩ := p
  exact ⟨a, dx, _, rfl, ha, f tt b, ⟨_, tt, b, rfl, ⟨a, rfl, dx, ha⟩, n, s, rfl⟩, fun v H3 e3 p => q v H3 (e2.trans e3) p⟩
theorem RCP.inl {r r' : List V → Hp → VK → Prop} {vs : List V} (h : RCP r vs H R) : RCP (fun xs H Q => r xs H Q ∨ r' xs H Q) vs H R := fun Q q => .inl (h Q q)
theorem RCP.inr {r r' : List V → Hp → VK → Prop} {vs : List V} (h : RCP r' vs H R) : RCP (fun xs H Q => r xs H Q ∨ r' xs H Q) vs H R := fun Q q => .inr (h Q q)
theorem p_cb1 {r : List V → Hp → VK → Prop} {P : VP} [Mo P] (h : EvP te σ H P) (k : ∀ v H1, Ex H H1 → P v H1 → RCP r [v] H1 R) : EvP (tCB r (tCons te tNil)) σ H R :=
  p_cb (a_cons h a_nil) fun vs H1 e ps => by
    obtain ⟨v, rfl, p⟩ := one ps
    exact k v H1 e p
/-- str(x), repr(x) by x's own -/
theorem rc_ownS {f : Int → Int → Str} {tt b : Int} {E : XK} {v : V} (h : IsR C tt b v H) (n : Nm tt b) (s : Sz 1500 tt b) : RCP (rOwnS C (mkSp (preUn C fun t b => Is (.str (f t b)))) E) [v] H (Is (.str (f tt b))) := fun Q q => by
  obtain ⟨a, rfl, dx, ha⟩ := h
  exact ⟨a, dx, _, rfl, ha, _, ⟨_, tt, b, rfl, ⟨a, rfl, dx, ha⟩, n, s, rfl⟩, fun v H3 e3 p => ⟨_, p, q _ H3 e3 rfl⟩⟩
theorem rc_stri {i : Int} (hz : i.natAbs < 2 ^ 1900) : RCP (fun xs H Q => ∃ i, xs = [.int i] ∧ i.natAbs.log2 < 1920 ∧ Q (.str (toString i)) H) [.int i] H (Is (.str (num i))) := fun Q q => ⟨i, rfl, lg hz, q _ H (Ex.refl H) rfl⟩
theorem rc_reprD (xs : List V) {v : V} (h : IsL K (xs.map Is) v H) (hf : ∀ x ∈ xs, FlV x) (hl : xs.length ≤ 40) : RCP (rReprD K) [v] H (Is (.str (reprL xs))) := fun Q q => by
  obtain ⟨a, ys, rfl, hs, hy⟩ := h
  have hy := all_is hy
  subst hy
  obtain ⟨h1, h2, h3, h4, h5⟩ := shown_all hf
  refine ⟨a, .list (ys.map toD), rfl, .lst hs (dp_all hf), h3, h4, ?_, ?_, q _ H (Ex.refl H) rfl⟩
  · show PyData.depthAll (ys.map toD) + 1 ≤ 40
    rw [h5]
    decide
  · have h6 := tf_le (PyData.shownAll (ys.map toD)) 0 "[" h1
    rw [h2] at h6
    show (textFrom 0 "[" (PyData.shownAll (ys.map toD)) ++ (("]" : String) : Str)).length ≤ sizeLine
    rw [slen]
    have l1 : (("[" : String) : Str).length = 1 := rfl
    have l2 : (("]" : String) : Str).length = 1 := rfl
    exact Evl.sz_of (by omega)
theorem p_reprL (xs : List V) (h : EvP te σ H (IsL K (xs.map Is))) (hf : ∀ x ∈ xs, FlV x) (hl : xs.length ≤ 40) {sp : Sp} {E : XK} : EvP (tCB (fun xs H Q => rOwnS C sp E xs H Q ∨ rReprD K xs H Q) (tCons te tNil)) σ H (Is (.str (reprL xs))) :=
  p_cb1 h fun v H1 e p => .inr (rc_reprD xs p hf hl)
/-! ### a told number is what is due -/
def preIs (K : PySem.W.Frag) (C : Addr) : List V → Hp → VP → Prop := fun vs H R => ∃ v w t b, vs = [v, w] ∧ IsR C t b v H ∧ IsT K [Is (.int t), Is (.int b)] w H ∧ Nm t b ∧ Sz 1500 t b ∧ R = Is (.bl true)
theorem p_scat {x y : Str} (ha : EvP ta σ H (Is (.str x))) (hb : EvP tb σ H (Is (.str y))) (hz : x.length + y.length ≤ 100000) : EvP (tOp (fun x y H Q => ∃ i j, x = .str i ∧ y = .str j ∧ i.length + j.length ≤ sizeLine ∧ Q (.str (i ++ j)) H) ta tb) σ H (Is (.str (x ++ y))) :=
  p_op2 ha hb fun H1 e => .of fun Q q => ⟨x, y, rfl, rfl, Evl.sz_of hz, q⟩
theorem p_strI {i : Int} {r : List V → Hp → VK → Prop} (h : EvP te σ H (Is (.int i))) (hz : i.natAbs < 2 ^ 1900) : EvP (tCB (fun xs H Q => (∃ i, xs = [.int i] ∧ i.natAbs.log2 < 1920 ∧ Q (.str (toString i)) H) ∨ r xs H Q) (tCons te tNil)) σ H (Is (.str (num i))) :=
  p_cb1 h fun v H1 e p => by
    cases p
    exact RCP.inl (r' := r) (rc_stri hz)
theorem dec_s {i j : Str} (h : i = j) : decide (V.str i = V.str j) = true := decide_eq_true (by rw [h])
theorem p_nes {x : Str} (ha : EvP ta σ H (Is (.str x))) (hb : EvP tb σ H (Is (.str x))) : EvP (tOp rNe ta tb) σ H (Is (.bl false)) := by
  have q := p_ne ha hb rfl
  rw [decide_eq_true rfl] at q
  exact q
theorem p_eqs {x : Str} (ha : EvP ta σ H (Is (.str x))) (hb : EvP tb σ H (Is (.str x))) : EvP (tOp rEq ta tb) σ H (Is (.bl true)) := by
  have q := p_eq ha hb rfl
  rw [decide_eq_true rfl] at q
  exact q
theorem str_app_nil (x : Str) : x ++ (("" : String) : Str) = x := TL.ext_tl ((TL.tl_append x _).trans (List.append_nil _))
theorem str_assoc (x y z : Str) : x ++ y ++ z = x ++ (y ++ z) := TL.ext_tl (by rw [TL.tl_append, TL.tl_append, TL.tl_append, TL.tl_append, List.append_assoc])
theorem ok_is {f : Addr} {fd : FuncData} (F : Fun K "_law_is" "_law_is" sis f fd) (T : TL P w K mg base C) : FnG P w K mg base 6 f ["_law_told", "_law_pair"] (mkSp (preIs K C)) := by
  refine fnG_of F scis (fun vs H Q E h => ?_) (fun cdv A outer s H vs Q hr hG h => ?_)
  · obtain ⟨R, ⟨v, w, t, b, rfl, _⟩, _⟩ := h
    rfl
  · obtain ⟨R, ⟨v, w, t, b, rfl, hv, hw, n1, s1, rfl⟩, k⟩ := h
    have hu : (A.deeper (envOfC "_law_is" (defScope sis) s.heap.objs.size f cdv)).units + 64 < cLine := hr.units
    refine ⟨_, (pss_cons (ps_if (pt_not (pt_val (pe_callB call_isi rfl T.z_isinstance boot_isinstance (pa_cons (pv 0) (pa_cons (pe_glob (v := .ref C) rfl T.mgC rfl) pa_nil))))) (pss_one (ps_ret pe_bl)) pss_nil)
      (pss_cons (ps_set (i := 2) scis.nd rfl (Or.inl rfl) (pe_ifExp (pt_cmpR op_gt (pe_ix ix_seq (pv 1) pe_int (fun _ _ => rfl)) pe_int (nomark _)) pe_int (pe_ifExp (pt_cmpR op_lt (pe_ix ix_seq (pv 1) pe_int (fun _ _ => rfl)) pe_int (nomark _)) (pe_un un_neg pe_int) pe_int)))
      (pss_cons (ps_set (i := 3) scis.nd rfl (Or.inl rfl) (pe_op op_add_str (pe_callTy (CallR.or call_str_int (call_so T.at_str (hr.mono (by decide)))) rfl T.z_str boot_str (pa_cons (pe_ix ix_seq (pv 1) pe_int (fun _ _ => rfl)) pa_nil)) (pe_ifExp (pt_cmpR op_eq (pe_ix ix_seq (pv 1) pe_int (fun _ _ => rfl)) pe_int (nomark _)) pe_str (pe_op op_add_str pe_str (pe_callTy (CallR.or call_str_int (call_so T.at_str (hr.mono (by decide)))) rfl T.z_str boot_str (pa_cons (pe_ix ix_seq (pv 1) pe_int (fun _ _ => rfl)) pa_nil))))))
      (pss_cons (ps_if (pt_cmpR op_ne (pe_callB (CallR.or (call_ro T.at_repr (hr.mono (by decide))) (call_reprD hG hu)) rfl T.z_repr boot_repr (pa_cons (pe_lst (pa_cons (pe_po T.top T.cl (hr.mono (by decide)) (pv 0)) (pa_cons (pe_po T.bottom T.cl (hr.mono (by decide)) (pv 0)) (pa_cons (pe_po T.sign T.cl (hr.mono (by decide)) (pv 0)) (pa_cons (pe_po T.is_whole T.cl (hr.mono (by decide)) (pv 0)) pa_nil))))) pa_nil)) (pe_callB (CallR.or (call_ro T.at_repr (hr.mono (by decide))) (call_reprD hG hu)) rfl T.z_repr boot_repr (pa_cons (pe_lst (pa_cons (pe_ix ix_seq (pv 1) pe_int (fun _ _ => rfl)) (pa_cons (pe_ix ix_seq (pv 1) pe_int (fun _ _ => rfl)) (pa_cons (pv 2) (pa_cons (pe_cmpR op_eq (pe_ix ix_seq (pv 1) pe_int (fun _ _ => rfl)) pe_int (nomark _)) pa_nil))))) pa_nil)) (nomark _)) (pss_one (ps_ret pe_bl)) pss_nil)
      (pss_one (ps_ret (pe_and (pe_cmpR op_eq (pe_callTy (CallR.or call_str_int (call_so T.at_str (hr.mono (by decide)))) rfl T.z_str boot_str (pa_cons (pv 0) pa_nil)) (pv 3) (nomark _)) (pe_one (pe_cmpR op_eq (pe_callB (CallR.or (call_ro T.at_repr (hr.mono (by decide))) (call_reprD hG hu)) rfl T.z_repr boot_repr (pa_cons (pv 0) pa_nil)) (pe_op op_add_str (pe_op op_add_str (pe_op op_add_str (pe_op op_add_str pe_str (pe_callTy (CallR.or call_str_int (call_so T.at_str (hr.mono (by decide)))) rfl T.z_str boot_str (pa_cons (pe_ix ix_seq (pv 1) pe_int (fun _ _ => rfl)) pa_nil))) pe_str) (pe_callTy (CallR.or call_str_int (call_so T.at_str (hr.mono (by decide)))) rfl T.z_str boot_str (pa_cons (pe_ix ix_seq (pv 1) pe_int (fun _ _ => rfl)) pa_nil))) pe_str) (nomark _)))))))))), ?_⟩
    have i0 : ∀ {H1 : Hp} {σ : L2.St}, Ex H H1 → σ[1]? = some (some w) → EvP (tOp (rIx K) (tVar 1) (tC (.int 0))) σ H1 (Is (.int t)) := fun e h => p_ixT (p_var h (Mo.mo e hw)) p_c (i := 0) (k := 0) rfl rfl
    have i1 : ∀ {H1 : Hp} {σ : L2.St}, Ex H H1 → σ[1]? = some (some w) → EvP (tOp (rIx K) (tVar 1) (tC (.int 1))) σ H1 (Is (.int b)) := fun e h => p_ixT (p_var h (Mo.mo e hw)) p_c (i := 1) (k := 1) rfl rfl
    have l1 := num_len (z19 s1.1)
    have l2 := num_len (z19 s1.2)
    refine st_unless (t_not (b := true) (t_B ?_)) fun H1 e1 => ?_
    · obtain ⟨a, rfl, ha⟩ := id hv
      exact p_isi (x := .ref a) (c := .ref C) (u := .ref C) (a_cons (p_val rfl) (a_cons p_c a_nil)) fun vs H1 e ps => by
        obtain ⟨v, w, rfl, rfl, rfl⟩ := two ps
        obtain ⟨dx, e1⟩ := ha
        exact ⟨rfl, .own _, T.ty ⟨dx, e _ _ e1⟩, kit_self⟩
    refine st_asg (P := Is (.int (sg t))) (p_if (b := decide (0 < t)) (t_test (p_I0 (i0 e1 rfl) p_c)) (fun h => ?_) fun h => p_if (b := decide (t < 0)) (t_test (p_I0 (i0 e1 rfl) p_c)) (fun h2 => ?_) fun h2 => ?_) fun v2 H2 e2 hv2 => ?_
    · have h := of_decide_eq_true h
      unfold sg
      rw [if_neg (by omega), if_pos h]
      exact p_c
    · have h := of_decide_eq_false h
      have h2 := of_decide_eq_true h2
      unfold sg
      rw [if_neg (by omega), if_neg h]
      exact p_neg p_c
    · have h := of_decide_eq_false h
      have h2 := of_decide_eq_false h2
      unfold sg
      rw [if_pos (by omega)]
      exact p_c
    cases hv2
    have e02 := e1.trans e2
    refine st_asg (P := Is (.str (shownS t b))) ?_ fun v3 H3 e3 hv3 => ?_
    · by_cases hb : b = 1
      · have e : shownS t b = num t ++ "" := by
          unfold shownS
          rw [if_pos hb, str_app_nil]
        rw [e]
        exact p_scat (p_strI (i0 e02 rfl) (z19 s1.1)) (p_if (b := decide (b = 1)) (t_test (p_eqi (i1 e02 rfl) p_c)) (fun _ => p_c) fun h => absurd hb (of_decide_eq_false h)) (by rw [show (("" : String) : Str).length = 0 from rfl]; omega)
      · have e : shownS t b = num t ++ ("/" ++ num b) := by
          unfold shownS
          rw [if_neg hb, str_assoc]
        rw [e]
        have l3 : (("/" : String) : Str).length = 1 := rfl
        exact p_scat (p_strI (i0 e02 rfl) (z19 s1.1)) (p_if (b := decide (b = 1)) (t_test (p_eqi (i1 e02 rfl) p_c)) (fun h => absurd (of_decide_eq_true h) hb) fun _ => p_scat p_c (p_strI (i1 e02 rfl) (z19 s1.2)) (by omega)) (by rw [slen]; omega)
    cases hv3
    have e03 := e02.trans e3
    have ff : ∀ x ∈ [V.int t, V.int b, V.int (sg t), V.bl (decide (b = 1))], FlV x := by
      intro x hx
      simp only [List.mem_cons, List.not_mem_nil, or_false] at hx
      rcases hx with rfl | rfl | rfl | rfl
      · exact z19 s1.1
      · exact z19 s1.2
      · show (sg t).natAbs < 2 ^ 1900
        have : (sg t).natAbs ≤ 1 := by
          unfold sg
          split
          · decide
          · split <;> decide
        exact Nat.lt_of_le_of_lt this (Nat.one_lt_two_pow (by decide))
      · trivial
    have vr : ∀ {H1 : Hp} {σ : L2.St}, Ex H H1 → σ[0]? = some (some v) → EvP (tVar 0) σ H1 (IsR C t b) := fun e h => p_var h (Mo.mo e hv)
    refine st_unless (t_test (p_nes (p_reprL [V.int t, V.int b, V.int (sg t), V.bl (decide (b = 1))] (p_lst (a_cons (p_prop (vr e03 rfl) n1 s1) (a_cons (p_prop (vr e03 rfl) n1 s1) (a_cons (p_prop (vr e03 rfl) n1 s1) (a_cons (p_prop (vr e03 rfl) n1 s1) a_nil)))) (show 4 ≤ 100000 by decide)) ff (show 4 ≤ 40 by decide))
      (p_reprL [V.int t, V.int b, V.int (sg t), V.bl (decide (b = 1))] (p_lst (a_cons (i0 e03 rfl) (a_cons (i1 e03 rfl) (a_cons (p_val rfl) (a_cons (p_eqi (i1 e03 rfl) p_c) a_nil)))) (show 4 ≤ 100000 by decide)) ff (show 4 ≤ 40 by decide)))) fun H4 e4 => ?_
    have e04 := e03.trans e4
    have m1 : (("Ratio(" : String) : Str).length = 6 := rfl
    have m2 : ((", " : String) : Str).length = 2 := rfl
    have m3 : ((")" : String) : Str).length = 1 := rfl
    refine st_ret (p_and (a := true) (b := true) (p_eqs (x := shownS t b) ?_ (p_val rfl)) fun _ => p_eqs (x := shownR t b) ?_ ?_) fun v5 H5 e5 p5 => k v5 H5 (e04.trans e5) p5
    · exact p_cb1 (vr e04 rfl) fun v H5 e5 p5 => .inr (rc_ownS p5 n1 s1)
    · exact p_cb1 (vr e04 rfl) fun v H5 e5 p5 => .inl (rc_ownS p5 n1 s1)
    · exact p_scat (p_scat (p_scat (p_scat p_c (p_strI (i0 e04 rfl) (z19 s1.1)) (by omega)) p_c (by rw [slen]; omega)) (p_strI (i1 e04 rfl) (z19 s1.2)) (by rw [slen, slen]; omega)) p_c (by rw [slen, slen, slen]; omega)
end
end RK
namespace RK
open PySem PySem.Spec PyProof.Rows L2
open Evl (Ex EvT)
/-! ### what does not hang on lists that change -/
def ExN (H H' : Hp) : Prop := ∀ a o, (∀ xs, o ≠ .lst xs) → H a = some o → H' a = some o
theorem ExN.of {H H' : Hp} (e : Ex H H') : ExN H H' := fun a o _ h => e a o h
theorem ExN.trans {H H1 H2 : Hp} (a : ExN H H1) (b : ExN H1 H2) : ExN H H2 := fun x o n h => b x o n (a x o n h)
theorem ExN.but {r : Addr} {H H' : Hp} {xs : List V} (h : H r = some (.lst xs)) (e : ExB r H H') : ExN H H' := fun a o n ha => e a o (by
  intro z
  subst z
  rw [h] at ha
  cases ha
  exact n xs rfl) ha
class Nl (P : VP) : Prop where
  nl : ∀ {v H H'}, ExN H H' → P v H → P v H'
instance {u : V} : Nl (Is u) := ⟨fun _ h => h⟩
instance {C : Addr} {t b : Int} : Nl (IsR C t b) := ⟨fun e ⟨a, h1, dx, h2⟩ => ⟨a, h1, dx, e _ _ (fun _ z => nomatch z) h2⟩⟩
instance {C : Addr} {t b : Int} : Nl (IsN C t b) := ⟨fun e h => h.elim (fun h => .inl (Nl.nl e h)) .inr⟩
class NlL (Ps : List VP) : Prop where
  nl : ∀ {vs H H'}, ExN H H' → AllP Ps vs H → AllP Ps vs H'
instance : NlL [] := ⟨fun {vs H H'} _ h => by cases vs with | nil => trivial | cons _ _ => exact h.elim⟩
instance {P : VP} {Ps : List VP} [p : Nl P] [q : NlL Ps] : NlL (P :: Ps) := ⟨fun {vs H H'} e h => by
  cases vs with
  | nil => exact h.elim
  | cons v vs => exact ⟨p.nl e h.1, q.nl e h.2⟩⟩
theorem nl_t {K : PySem.W.Frag} {H H' : Hp} {a : Addr} {xs : List V} (e : ExN H H') (h : SqT K H a xs) : SqT K H' a xs := by
  rcases h with (h | ⟨o, h⟩) | h
  · exact .inl (.inl (e _ _ (fun _ z => nomatch z) h))
  · exact .inl (.inr ⟨o, e _ _ (fun _ z => nomatch z) h⟩)
  · exact .inr h
instance {K : PySem.W.Frag} {Ps : List VP} [q : NlL Ps] : Nl (IsT K Ps) := ⟨fun e ⟨a, xs, h1, h2, h3⟩ => ⟨a, xs, h1, nl_t e h2, q.nl e h3⟩⟩
/-- a told number with its due one -/
def PD (K : PySem.W.Frag) (C : Addr) : VP := fun v H => ∃ t b, Nm t b ∧ Sz 1500 t b ∧ IsT K [IsR C t b, IsT K [Is (.int t), Is (.int b)]] v H
instance {K : PySem.W.Frag} {C : Addr} : Nl (PD K C) := ⟨fun e ⟨t, b, h1, h2, h3⟩ => ⟨t, b, h1, h2, Nl.nl e h3⟩⟩
instance {P : VP} [p : Nl P] : Mo P := ⟨fun e h => p.nl (.of e) h⟩
instance {b : Bool} : Nl (IsB b) := ⟨fun _ h => h⟩
section
variable {P : Program} {w : World} {K : PySem.W.Frag} {mg : Str → Option Value} {base : Heap} {C : Addr} {σ : L2.St} {H : Hp} {ta tb te : TE} {t : TA} {R : VP} {D : Ends} {tz : TS} {Ps : List VP}
/-- a list of such, that grows -/
def Rows (U : VP) (r : Addr) (n : Nat) (H : Hp) : Prop := ∃ xs, H r = some (.lst xs) ∧ (∀ x ∈ xs, U x H) ∧ xs.length ≤ n
theorem Rows.mo {U : VP} [Nl U] {r : Addr} {n : Nat} {H' : Hp} (e : Ex H H') (h : Rows U r n H) : Rows U r n H' := let ⟨xs, h1, h2, h3⟩ := h; ⟨xs, e _ _ h1, fun x hx => Mo.mo e (h2 x hx), h3⟩
theorem exb_upd {r : Addr} {o : HO} : ExB r H (upd H r o) := fun a u n h => by rw [upd_ne n]; exact h
theorem rows_app1 {U : VP} [Nl U] {i : Nat} {r : Addr} {n : Nat} (hi : σ[i]? = some (some (V.ref r))) (h : Rows U r n H) (hn : n < 1000) (he : EvP te σ H U)
    (k : ∀ H', Rows U r (n + 1) H' → ExB r H H' → D.nx σ H') : tDrop (tBM K "list" rAppend (tVar i) (tCons te tNil)) D σ H := by
  obtain ⟨xs, h1, h2, h3⟩ := h
  refine ⟨.ref r, hi, .inl ⟨rfl, xs, SqL.of h1⟩, he H (Ex.refl H) _ fun v H1 e1 p => ⟨r, xs, v, rfl, rfl, e1 _ _ h1, Evl.sz_lt (by omega), k _ ⟨xs ++ [v], upd_same, fun x hx => ?_, ?_⟩ ((ExB.of e1).trans exb_upd)⟩⟩
  · have en : ExN H1 (upd H1 r (.lst (xs ++ [v]))) := ExN.but (e1 _ _ h1) exb_upd
    rcases List.mem_append.mp hx with hx | hx
    · exact Nl.nl en (Mo.mo e1 (h2 x hx))
    · rw [List.mem_singleton.mp hx]
      exact Nl.nl en p
  · rw [List.length_append]
    show xs.length + 1 ≤ n + 1
    omega
theorem rows_app {U : VP} [Nl U] {i : Nat} {r : Addr} {n : Nat} (hi : σ[i]? = some (some (V.ref r))) (h : Rows U r n H) (hn : n < 1000) (he : EvP te σ H U)
    (k : ∀ H', Rows U r (n + 1) H' → ExB r H H' → tz D σ H') : tSeq (tDrop (tBM K "list" rAppend (tVar i) (tCons te tNil))) tz D σ H := rows_app1 (D := { D with nx := tz D }) hi h hn he k
theorem Rows.le {U : VP} {r : Addr} {n m : Nat} (h : Rows U r n H) (l : n ≤ m) : Rows U r m H := let ⟨xs, h1, h2, h3⟩ := h; ⟨xs, h1, h2, Nat.le_trans h3 l⟩
theorem exb_ex {r : Addr} {H1 H2 : Hp} (n : H r = none) (e : Ex H H1) (b : ExB r H1 H2) : Ex H H2 := fun a o h => b a o (fun z => by
  subst z
  rw [n] at h
  cases h) (e a o h)
instance mo_rep {U : VP} [q : Mo U] : ∀ {m : Nat}, MoL (List.replicate m U)
  | 0 => inferInstanceAs (MoL [])
  | m + 1 => have := @mo_rep U q m; inferInstanceAs (MoL (U :: List.replicate m U))
/-- l.extend([..]) -/
theorem rows_ext {U : VP} [Nl U] {i : Nat} {r : Addr} {n m : Nat} (hi : σ[i]? = some (some (V.ref r))) (h : Rows U r n H) (hn : n < 1000) (hm : m < 1000) (he : EvAs t σ H (List.replicate m U))
    (k : ∀ H', Rows U r (n + m) H' → ExB r H H' → tz D σ H') : tSeq (tDrop (tBM K "list" rExtend (tVar i) (tCons (tLst t) tNil))) tz D σ H := by
  obtain ⟨xs, h1, h2, h3⟩ := h
  refine ⟨.ref r, hi, .inl ⟨rfl, xs, SqL.of h1⟩, n_lst he (by rw [List.length_replicate]; omega) H (Ex.refl H) _ fun q ys H1 nq e1 hq ps => ?_⟩
  have hy := ps.len
  rw [List.length_replicate] at hy
  refine ⟨r, q, xs, ys, rfl, rfl, e1 _ _ h1, hq, Evl.sz_of (by omega), k _ ⟨xs ++ ys, upd_same, fun x hx => ?_, ?_⟩ ((ExB.of e1).trans exb_upd)⟩
  · have en : ExN H1 (upd H1 r (.lst (xs ++ ys))) := ExN.but (e1 _ _ h1) exb_upd
    rcases List.mem_append.mp hx with hx | hx
    · exact Nl.nl en (Mo.mo e1 (h2 x hx))
    · obtain ⟨j, hj, rfl⟩ := List.getElem_of_mem hx
      obtain ⟨R', e', p'⟩ := ps.get (List.getElem?_eq_getElem hj)
      rw [List.getElem?_replicate] at e'
      split at e'
      · cases e'
        exact Nl.nl en p'
      · cases e'
  · rw [List.length_append, hy]
    omega
/-- a first list of such -/
theorem rows_new {U : VP} [Nl U] {i m : Nat} (hm : m < 1000) (he : EvAs t σ H (List.replicate m U)) (k : ∀ r H1, H r = none → Ex H H1 → Rows U r m H1 → tz D (σ.set i (some (.ref r))) H1) : tSeq (tAsg (tLst t) (gName i)) tz D σ H := by
  refine (n_lst he (by rw [List.length_replicate]; omega) : EvN (tLst t) σ H _) H (Ex.refl H) (fun v H1 => gName i v σ H1 (tz D)) fun q ys H1 nq e1 hq ps => ?_
  have hy := ps.len
  rw [List.length_replicate] at hy
  refine k q H1 nq e1 ⟨ys, hq, fun x hx => ?_, Nat.le_of_eq hy⟩
  obtain ⟨j, hj, rfl⟩ := List.getElem_of_mem hx
  obtain ⟨R', e', p'⟩ := ps.get (List.getElem?_eq_getElem hj)
  rw [List.getElem?_replicate] at e'
  split at e'
  · cases e'
    exact p'
  · cases e'
/-! ### comprehensions -/
/-- a new list, its i-th one a value of R i -/
def EvL (te : TE) (σ : L2.St) (H : Hp) (n : Nat) (R : Nat → VP) : Prop := ∀ H1, Ex H H1 → ∀ Q : VK, (∀ r xs H2, H1 r = none → Ex H1 H2 → H2 r = some (.lst xs) → xs.length = n → (∀ i x, xs[i]? = some x → R i x H2) → Q (.ref r) H2) → te σ H1 Q
theorem yes_k {σ : L2.St} {H : Hp} {Q : Bool → Hp → Prop} (h : Q true H) : tYes σ H Q := h
theorem lc_gen {J : It} {n : Nat} {G : Hp → Prop} {Y : Nat → Hp → V → Hp → Prop} {wi : TI} {g : TG} {vs : List Nat} {U : Nat → VP} (w : Walk J n G Y) (hw : ∀ H1, Ex H H1 → ∀ R' : It → Hp → Prop, (∀ H2, Ex H1 H2 → R' J H2) → wi σ H1 R')
    (hG : ∀ H', Ex H H' → G H') (hU : ∀ i, Nl (U i)) (hn : n ≤ 40000)
    (hs : ∀ i x H2 H3, i < n → Ex H H2 → Y i H2 x H3 → Ex H2 H3 ∧ ∀ Q : L2.St → Hp → Prop, (∀ σ2 H4, wipe σ2 vs = wipe σ vs → Ex H3 H4 → EvP te σ2 H4 (U i) → Q σ2 H4) → g x (wipe σ vs) H3 Q) :
    EvL (tLc wi g tYes te vs) σ H n U := fun H0 e0 Q q => hw H0 e0 _ fun H1 e1 D hD => by
  have e01 := e0.trans e1
  refine lc_it w (fun i H' => ∃ acc, Ex H1 H' ∧ H' D = some (.lst acc) ∧ acc.length = i ∧ ∀ j x, acc[j]? = some x → U j x H') ⟨[], Ex.new hD, upd_same, rfl, fun j x h => by simp at h⟩ (fun i H' _ p => by
    obtain ⟨acc, p1, _⟩ := p
    exact hG H' (e01.trans p1)) (fun i x H' H3 hi p y => ?_) fun H' p => ?_
  · obtain ⟨acc, p1, p2, p3, p4⟩ := p
    obtain ⟨e3, go⟩ := hs i x H' H3 hi (e01.trans p1) y
    refine go _ fun σ2 H4 s1 e4 s3 => ⟨s1, ?_⟩
    refine yes_k ?_
    refine iteT ?_
    refine s3 H4 (Ex.refl H4) _ fun y H5 e5 py => ?_
    have e35 := (e3.trans e4).trans e5
    have h5 := e35 _ _ p2
    refine ⟨acc, h5, Evl.sz_lt (by omega), acc ++ [y], Evl.Ex.mut (p1.trans e35) hD, upd_same, by rw [List.length_append, p3]; rfl, fun j z hz => ?_⟩
    have en : ExN H5 (upd H5 D (.lst (acc ++ [y]))) := ExN.but h5 exb_upd
    rw [List.getElem?_append] at hz
    split at hz
    · exact (hU j).nl en ((hU j).nl (.of e35) (p4 j z hz))
    · rename_i hj
      have hj0 : j - acc.length = 0 := by
        rcases Nat.eq_zero_or_pos (j - acc.length) with h | h
        · exact h
        · rw [List.getElem?_eq_none (by show 1 ≤ _; omega)] at hz
          cases hz
      rw [hj0] at hz
      have hz : y = z := by simpa using hz
      subst hz
      have : j = i := by omega
      subst this
      exact (hU j).nl en py
  · obtain ⟨acc, p1, p2, p3, p4⟩ := p
    exact q D acc H' (Evl.fresh_back e1 hD) (e1.trans p1) p2 p3 p4
theorem lc_of_list {a : Addr} {xs : List V} {tl : TE} {g : TG} {vs : List Nat} {U : Nat → VP} (h : EvP tl σ H (Is (.ref a))) (hx : SqL K H a xs) (hU : ∀ i, Nl (U i)) (hn : xs.length ≤ 40000)
    (hs : ∀ i x H2, xs[i]? = some x → Ex H H2 → ∀ Q : L2.St → Hp → Prop, (∀ σ2 H4, wipe σ2 vs = wipe σ vs → Ex H2 H4 → EvP te σ2 H4 (U i) → Q σ2 H4) → g x (wipe σ vs) H2 Q) : EvL (tLc (iList K tl) g tYes te vs) σ H xs.length U :=
  lc_gen walk_list (fun H1 e1 R' k => h H1 e1 _ fun v H2 e2 hv => ⟨a, hv, ⟨xs, Evl.ex_l (e1.trans e2) hx⟩, k H2 e2⟩) (fun H' e => Evl.ex_l e hx) hU hn fun i x H2 H3 hi e2 y => by
    obtain ⟨rfl, hy⟩ := y
    exact ⟨Ex.refl _, hs i x _ hy e2⟩
theorem lc_of_zip {a b : Addr} {xs ys : List V} {ta : TA} {g : TG} {vs : List Nat} {U : Nat → VP} (h : EvAs ta σ H [Is (.ref a), Is (.ref b)]) (hx : SqL K H a xs) (hy : SqL K H b ys) (hl : ys.length = xs.length) (hU : ∀ i, Nl (U i)) (hn : xs.length ≤ 40000)
    (hs : ∀ i x y H2 T H3, xs[i]? = some x → ys[i]? = some y → Ex H H2 → H2 T = none → H3 = upd H2 T (.tup [x, y]) → ∀ Q : L2.St → Hp → Prop, (∀ σ2 H4, wipe σ2 vs = wipe σ vs → Ex H3 H4 → EvP te σ2 H4 (U i) → Q σ2 H4) → g (.ref T) (wipe σ vs) H3 Q) : EvL (tLc (iZip K ta) g tYes te vs) σ H xs.length U :=
  lc_gen (walk_zip (by omega)) (fun H1 e1 R' k => h H1 e1 _ fun vs H2 e2 hv => by
    obtain ⟨v, w, rfl, rfl, rfl⟩ := two hv
    exact ⟨a, b, xs, ys, rfl, Evl.ex_l (e1.trans e2) hx, Evl.ex_l (e1.trans e2) hy, k H2 e2⟩) (fun H' e => ⟨Evl.ex_l e hx, Evl.ex_l e hy⟩) hU hn fun i x H2 H3 hi e2 y => by
    obtain ⟨T, u, v, rfl, hT, rfl, h1, h2⟩ := y
    exact ⟨Ex.new hT, hs i u v H2 T _ h1 h2 e2 hT rfl⟩
theorem all_bl : ∀ {xs : List V}, (∀ x ∈ xs, x = .bl true) → ∃ bs : List Bool, xs = bs.map V.bl ∧ bs.all id = true
  | [], _ => ⟨[], rfl, rfl⟩
  | x :: xs, h => by
    obtain ⟨bs, e, a⟩ := all_bl (xs := xs) fun y hy => h y (List.mem_cons_of_mem _ hy)
    refine ⟨true :: bs, ?_, ?_⟩
    · rw [h x List.mem_cons_self, e]
      rfl
    · show (true && bs.all id) = true
      rw [a]
      rfl
/-- all([..]) where each one is true -/
theorem p_allL {n : Nat} (h : EvL te σ H n fun _ => IsB true) : EvP (tCB (rAll K) (tCons te tNil)) σ H (Is (.bl true)) := fun H1 e1 Q q => h H1 e1 _ fun r xs H2 nr e2 hr hl hx => by
  obtain ⟨bs, rfl, ha⟩ := all_bl (xs := xs) fun x hx' => by
    obtain ⟨j, hj, rfl⟩ := List.getElem_of_mem hx'
    exact hx j _ (List.getElem?_eq_getElem hj)
  exact ⟨r, bs, rfl, SqL.of hr, by rw [ha]; exact q _ H2 e2 rfl⟩
theorem p_allR {i r : Nat} {n : Nat} (hi : σ[i]? = some (some (V.ref r))) (h : Rows (IsB true) r n H) : EvP (tCB (rAll K) (tCons (tVar i) tNil)) σ H (Is (.bl true)) := fun H1 e1 Q q => ⟨.ref r, hi, by
  obtain ⟨xs, h1, h2, h3⟩ := h
  obtain ⟨bs, rfl, ha⟩ := all_bl (xs := xs) h2
  exact ⟨r, bs, rfl, SqL.of (e1 _ _ h1), by rw [ha]; exact q _ H1 (Ex.refl H1) rfl⟩⟩
/-- a, b = a pair -/
theorem st_unp {i j : Nat} {P1 P2 : VP} [Mo P1] [Mo P2] (h : EvP te σ H (IsT K [P1, P2])) (k : ∀ v w H1, Ex H H1 → P1 v H1 → P2 w H1 → tz D ((σ.set i (some v)).set j (some w)) H1) : tSeq (tAsg te (gTup K 2 (gCons (gName i) (gCons (gName j) gNil)))) tz D σ H := h H (Ex.refl H) _ fun x H1 e p => by
  obtain ⟨a, xs, rfl, hs, hx⟩ := p
  obtain ⟨v, w, rfl, p1, p2⟩ := two hx
  exact ⟨a, _, rfl, hs, rfl, v, [w], rfl, w, [], rfl, rfl, k v w H1 e p1 p2⟩
end
end RK
namespace RK
open PySem PySem.Spec PyProof.Rows L2
open Evl (Ex EvT)
section
variable {P : Program} {w : World} {K : PySem.W.Frag} {mg : Str → Option Value} {base : Heap} {C : Addr} {σ : L2.St} {H : Hp} {ta tb te : TE} {t : TA} {R U : VP} {D : Ends} {tz : TS} {Ps : List VP}
/-! ### where an operator may be a number's or C's own -/
variable {r r' : R2} {x y : V} {i j : Int}
theorem p_op2l (ha : EvP ta σ H (Is x)) (hb : EvP tb σ H (Is y)) (hr : ∀ H1, Ex H H1 → RVP r x y H1 R) : EvP (tOp (fun x y H Q => r x y H Q ∨ r' x y H Q) ta tb) σ H R := p_op2 ha hb fun H1 e => RVP.inl (hr H1 e)
theorem p_I0l {g : Int → Int → V} (ha : EvP ta σ H (Is (.int i))) (hb : EvP tb σ H (Is (.int j))) : EvP (tOp (fun x y H Q => rI0 g x y H Q ∨ r' x y H Q) ta tb) σ H (Is (g i j)) := p_op2l ha hb fun _ _ => rvp_I0
theorem p_Il {c : Int → Int → Prop} {g : Int → Int → V} (ha : EvP ta σ H (Is (.int i))) (hb : EvP tb σ H (Is (.int j))) (hc : c i j) : EvP (tOp (fun x y H Q => rI c g x y H Q ∨ r' x y H Q) ta tb) σ H (Is (g i j)) := p_op2l ha hb fun _ _ => rvp_I hc
theorem p_opr {A B : VP} [Mo A] (ha : EvP ta σ H A) (hb : EvP tb σ H B) (hr : ∀ x y H1, Ex H H1 → A x H1 → B y H1 → RVP r' x y H1 R) : EvP (tOp (fun x y H Q => r x y H Q ∨ r' x y H Q) ta tb) σ H R := p_op ha hb fun x y H1 e p q => RVP.inr (hr x y H1 e p q)
theorem p_eqil (ha : EvP ta σ H (Is (.int i))) (hb : EvP tb σ H (Is (.int j))) : EvP (tOp (fun x y H Q => rEq x y H Q ∨ r' x y H Q) ta tb) σ H (Is (.bl (decide (i = j)))) := p_op2l ha hb fun H1 _ Q q => ⟨rfl, by rw [dec_i]; exact q _ H1 (Ex.refl H1) rfl⟩
theorem p_neil (ha : EvP ta σ H (Is (.int i))) (hb : EvP tb σ H (Is (.int j))) : EvP (tOp (fun x y H Q => rNe x y H Q ∨ r' x y H Q) ta tb) σ H (Is (.bl (!decide (i = j)))) := p_op2l ha hb fun H1 _ Q q => ⟨rfl, by rw [dec_i]; exact q _ H1 (Ex.refl H1) rfl⟩
theorem p_eqsl {x : Str} (ha : EvP ta σ H (Is (.str x))) (hb : EvP tb σ H (Is (.str x))) : EvP (tOp (fun x y H Q => rEq x y H Q ∨ r' x y H Q) ta tb) σ H (Is (.bl true)) := p_op2l ha hb fun H1 _ Q q => ⟨rfl, by rw [decide_eq_true rfl]; exact q _ H1 (Ex.refl H1) rfl⟩
theorem p_nesl {x : Str} (ha : EvP ta σ H (Is (.str x))) (hb : EvP tb σ H (Is (.str x))) : EvP (tOp (fun x y H Q => rNe x y H Q ∨ r' x y H Q) ta tb) σ H (Is (.bl false)) := p_op2l ha hb fun H1 _ Q q => ⟨rfl, by rw [decide_eq_true rfl]; exact q _ H1 (Ex.refl H1) rfl⟩
/-- two of C, == and != -/
theorem rv_eq {v w : V} {a b c d : Int} {E : XK} (T : T1 K mg C) (h : IsR C a b v H) (h' : IsR C c d w H) (nC : PySem.W.notFirst K C (.ref C) = true) : RVP (rOwnEq K C (mkSp (preEq K C)) E) v w H (Is (.bl (decide (a = c) && decide (b = d)))) := fun Q q => by
  obtain ⟨x, rfl, dx, hx⟩ := id h
  obtain ⟨y, rfl, hy⟩ := id h'
  exact ⟨x, dx, _, .ref C, rfl, hx, T.ty hy, nC, _, ⟨_, _, a, b, rfl, h, .inl ⟨c, d, h', rfl⟩⟩, q⟩
theorem rv_ne {v w : V} {a b c d : Int} {E : XK} (T : T1 K mg C) (h : IsR C a b v H) (h' : IsR C c d w H) (nC : PySem.W.notFirst K C (.ref C) = true) : RVP (rOwnNe K C (mkSp (preEq K C)) E) v w H (Is (.bl (!(decide (a = c) && decide (b = d))))) := fun Q q => by
  obtain ⟨x, rfl, dx, hx⟩ := id h
  obtain ⟨y, rfl, hy⟩ := id h'
  exact ⟨x, dx, _, .ref C, rfl, hx, T.ty hy, nC, _, ⟨_, _, a, b, rfl, h, .inl ⟨c, d, h', rfl⟩⟩, fun v H' e p => ⟨_, p, q _ H' e rfl⟩⟩
/-- something of another type -/
theorem rv_eqo {v w : V} {a b : Int} {tv : Value} {E : XK} (h : IsR C a b v H) (ty : ∀ H1, Ex H H1 → TyX K H1 w tv) (kit : PySem.W.kitOne K tv (.ref C) = some false) (nC : PySem.W.notFirst K C tv = true) : RVP (rOwnEq K C (mkSp (preEq K C)) E) v w H (Is (.bl false)) := fun Q q => by
  obtain ⟨x, rfl, dx, hx⟩ := id h
  exact ⟨x, dx, _, tv, rfl, hx, ty H (Ex.refl H), nC, _, ⟨_, _, a, b, rfl, h, .inr ⟨tv, ty, kit, rfl⟩⟩, q⟩
theorem rv_neo {v w : V} {a b : Int} {tv : Value} {E : XK} (h : IsR C a b v H) (ty : ∀ H1, Ex H H1 → TyX K H1 w tv) (kit : PySem.W.kitOne K tv (.ref C) = some false) (nC : PySem.W.notFirst K C tv = true) : RVP (rOwnNe K C (mkSp (preEq K C)) E) v w H (Is (.bl true)) := fun Q q => by
  obtain ⟨x, rfl, dx, hx⟩ := id h
  exact ⟨x, dx, _, tv, rfl, hx, ty H (Ex.refl H), nC, _, ⟨_, _, a, b, rfl, h, .inr ⟨tv, ty, kit, rfl⟩⟩, fun v H' e p => ⟨_, p, q _ H' e rfl⟩⟩
/-- o.m(..), o a number -/
theorem p_meth {m : Str} {pre : List V → Hp → VP → Prop} {a b : Int} (h : EvP ta σ H (IsR C a b)) (h1 : ¬ m = "_bottom") (h2 : ¬ m = "_top") (ht : EvAs t σ H Ps) (k : ∀ v vs H1, Ex H H1 → IsR C a b v H1 → AllP Ps vs H1 → pre (v :: vs) H1 R) : EvP (tMeth C m (mkSp pre) [] E0 ta t) σ H R := fun H1 e Q q =>
  h H1 e _ fun v H2 e2 p => by
    obtain ⟨x, rfl, dx, hx⟩ := id p
    refine ⟨x, dx, _, rfl, hx, flds_no _ _ h1 h2, ht H2 (e.trans e2) _ fun vs H3 e3 ps => ⟨R, ?_, fun w H4 e4 pw => q w H4 ((e2.trans e3).trans e4) pw⟩⟩
    rw [List.append_nil]
    exact k _ vs H3 ((e.trans e2).trans e3) (Mo.mo e3 p) ps
theorem p_methK {m : Str} {nk : Nat} {pre : List V → Hp → VP → Prop} {a b : Int} (h : EvP ta σ H (IsR C a b)) (h1 : ¬ m = "_bottom") (h2 : ¬ m = "_top") (ht : EvAs t σ H Ps) (hn : Ps.length = nk) (k : ∀ v vs H1, Ex H H1 → IsR C a b v H1 → AllP Ps vs H1 → pre (v :: vs) H1 R) : EvP (tMethK C m nk (mkSp pre) (fun vs zs => vs ++ zs) E0 ta t) σ H R := fun H1 e Q q =>
  h H1 e _ fun v H2 e2 p => by
    obtain ⟨x, rfl, dx, hx⟩ := id p
    refine ⟨x, dx, _, rfl, hx, flds_no _ _ h1 h2, ht H2 (e.trans e2) _ fun vs H3 e3 ps => ⟨by rw [ps.len, hn], R, ?_, fun w H4 e4 pw => q w H4 ((e2.trans e3).trans e4) pw⟩⟩
    exact k _ vs H3 ((e.trans e2).trans e3) (Mo.mo e3 p) ps
theorem p_low {a b : Int} (ha : EvP ta σ H (Is (.int a))) (hb : EvP tb σ H (Is (.int b))) (h0 : b ≠ 0) (hz : b.natAbs < 2 ^ 1500) : EvP (tCall (mkSp (preLow K)) [] E0 (tCons ta (tCons tb tNil))) σ H (IsT K [Is (.int (nt a b)), Is (.int (nd a b))]) :=
  p_call (a_cons ha (a_cons hb a_nil)) fun vs H1 e ps => by
    obtain ⟨v, w, rfl, rfl, rfl⟩ := two ps
    exact ⟨a, b, rfl, h0, z4 hz, rfl⟩
theorem p_row {tn : TE} {a b : Int} (hn : EvP tn σ H (IsR C (nt a b) (nd a b))) (ha : EvP ta σ H (Is (.int a))) (hb : EvP tb σ H (Is (.int b))) (h0 : b ≠ 0) (hy : a.natAbs < 2 ^ 1500) (hz : b.natAbs < 2 ^ 1500) :
    EvP (tTup (tCons tn (tCons (tCall (mkSp (preLow K)) [] E0 (tCons ta (tCons tb tNil))) tNil))) σ H (PD K C) :=
  (p_tup (a_cons hn (a_cons (p_low ha hb h0 hz) a_nil)) (show 2 ≤ 100000 by decide)).imp fun v H1 e p => ⟨nt a b, nd a b, nm h0, ⟨Nat.lt_of_le_of_lt nt_le hy, Nat.lt_of_le_of_lt nd_le hz⟩, p⟩
theorem p_negO {a b : Int} (h : EvP te σ H (IsR C a b)) (n : Nm a b) (s : Sz 1500 a b) : EvP (tUn (rOwnU C (mkSp (preUn C fun t b => IsR C (nt (-t) b) (nd (-t) b))) E0) te) σ H (IsR C (nt (-a) b) (nd (-a) b)) := p_un h fun v H1 e p Q q => by
  obtain ⟨x, rfl, dx, hx⟩ := id p
  exact ⟨x, dx, _, rfl, hx, _, ⟨_, a, b, rfl, p, n, s, rfl⟩, q⟩
/-! ### two numbers together -/
structure TP (P : Program) (w : World) (K : PySem.W.Frag) (mg : Str → Option Value) (base : Heap) (C : Addr) : Prop extends TL P w K mg base C where
  law_pot : CalG P w K mg base 1 "_law_pot" (spPot K)
  law_draw : CalG P w K mg base 1 "_law_draw" spDraw
  law_low : CalG P w K mg base 1 "_law_low" (mkSp (preLow K))
  law_number : CalG P w K mg base 2 "_law_number" spNumber
  law_is : CalG P w K mg base 6 "_law_is" (mkSp (preIs K C))
  nC : PySem.W.notFirst K C (.ref C) = true
/-- all that is told is what is due -/
theorem p_isall {r : Addr} {n : Nat} (i j : Nat) (tl : TE) (hl : EvP tl σ H (Is (.ref r))) (h : Rows (PD K C) r n H) (hn : n < 1000) (hσ : ∀ v w : V, wipe (((wipe σ [i, j]).set i (some v)).set j (some w)) [i, j] = wipe σ [i, j] ∧ (((wipe σ [i, j]).set i (some v)).set j (some w))[i]? = some (some v) ∧ (((wipe σ [i, j]).set i (some v)).set j (some w))[j]? = some (some w)) :
    EvP (tCB (rAll K) (tCons (tLc (iList K tl) (gTup K 2 (gCons (gName i) (gCons (gName j) gNil))) tYes (tCall (mkSp (preIs K C)) [] E0 (tCons (tVar i) (tCons (tVar j) tNil))) [i, j]) tNil)) σ H (Is (.bl true)) := by
  obtain ⟨xs, h1, h2, h3⟩ := h
  refine p_allL (n := xs.length) (lc_of_list hl (SqL.of h1) (fun _ => inferInstance) (by omega) fun k x H2 hx e2 Q go => ?_)
  obtain ⟨t, b, n1, s1, a, ys, rfl, hs, hy⟩ := (Mo.mo e2 (h2 x (List.mem_of_getElem? hx)) : PD K C x H2)
  obtain ⟨v, w, rfl, hv, hw⟩ := two hy
  obtain ⟨q1, q2, q3⟩ := hσ v w
  refine ⟨a, _, rfl, hs, rfl, v, [w], rfl, w, [], rfl, rfl, go _ H2 q1 (Ex.refl H2) ?_⟩
  exact p_call (a_cons (p_var q2 hv) (a_cons (p_var q3 hw) a_nil)) fun vs H3 e3 ps => by
    obtain ⟨v, w, rfl, hv, hw⟩ := two ps
    exact ⟨v, w, t, b, rfl, hv, hw, n1, s1, rfl⟩
def prePair (K : PySem.W.Frag) (C : Addr) : List V → Hp → VP → Prop := fun vs H R => ∃ one other near far a b c d, vs = [one, other, near, far] ∧ IsT K [Is (.int a), Is (.int b)] one H ∧ IsT K [Is (.int c), Is (.int d)] other H ∧
  IsR C a b near H ∧ IsR C c d far H ∧ Good 220 (a, b) ∧ Good 220 (c, d) ∧ R = Is (.bl true)
theorem z440 {i j : Int} (h : i.natAbs < 2 ^ 220) (h' : j.natAbs < 2 ^ 220) : (i * j).natAbs < 2 ^ 440 := wide_lt h h'
theorem ok_pair {f : Addr} {fd : FuncData} (F : Fun K "_law_pair_right" "_law_pair_right" spair f fd) (T : TP P w K mg base C) : FnG P w K mg base 8 f ["_law_one", "_law_other", "_law_near", "_law_far"] (mkSp (prePair K C)) := by
  refine fnG_of F scpair (fun vs H Q E h => ?_) (fun cdv A outer s H vs Q hr hG h => ?_)
  · obtain ⟨R, ⟨one, other, near, far, a, b, c, d, rfl, _⟩, _⟩ := h
    rfl
  · obtain ⟨R, ⟨one, other, near, far, a, b, c, d, rfl, ho, hot, hnr, hfr, g1, g2, rfl⟩, k⟩ := h
    have hu : (A.deeper (envOfC "_law_pair_right" (defScope spair) s.heap.objs.size f cdv)).units + 64 < cLine := hr.units
    refine ⟨_, (pss_cons (ps_asg (pv 0) (pg_tup rfl (pgs_cons (pg_name (i := 4) scpair.nd rfl (Or.inl rfl)) (pgs_cons (pg_name (i := 5) scpair.nd rfl (Or.inl rfl)) pgs_nil))))
      (pss_cons (ps_asg (pv 1) (pg_tup rfl (pgs_cons (pg_name (i := 6) scpair.nd rfl (Or.inl rfl)) (pgs_cons (pg_name (i := 7) scpair.nd rfl (Or.inl rfl)) pgs_nil))))
      (pss_cons (ps_set (i := 8) scpair.nd rfl (Or.inl rfl) (pe_lst (pa_cons (pe_tup (pa_cons (pe_op (OpR.or op_add (op_oo T.o_add (hr.mono (by decide)))) (pv 2) (pv 3)) (pa_cons (pe_cg T.law_low hr (by decide) hG rfl (pa_cons (pe_op (OpR.or op_add (op_oo T.o_add (hr.mono (by decide)))) (pe_op (OpR.or op_mulW (op_oo T.o_mul (hr.mono (by decide)))) (pv 4) (pv 7)) (pe_op (OpR.or op_mulW (op_oo T.o_mul (hr.mono (by decide)))) (pv 6) (pv 5))) (pa_cons (pe_op (OpR.or op_mulW (op_oo T.o_mul (hr.mono (by decide)))) (pv 5) (pv 7)) pa_nil))) pa_nil))) (pa_cons (pe_tup (pa_cons (pe_op (OpR.or op_sub (op_oo T.o_sub (hr.mono (by decide)))) (pv 2) (pv 3)) (pa_cons (pe_cg T.law_low hr (by decide) hG rfl (pa_cons (pe_op (OpR.or op_sub (op_oo T.o_sub (hr.mono (by decide)))) (pe_op (OpR.or op_mulW (op_oo T.o_mul (hr.mono (by decide)))) (pv 4) (pv 7)) (pe_op (OpR.or op_mulW (op_oo T.o_mul (hr.mono (by decide)))) (pv 6) (pv 5))) (pa_cons (pe_op (OpR.or op_mulW (op_oo T.o_mul (hr.mono (by decide)))) (pv 5) (pv 7)) pa_nil))) pa_nil))) pa_nil))))
      (pss_cons (ps_expr (pe_bm PySem.F.plainAttrs_list PySem.F.slot_list_append PySem.F.type_list_append mt_append (pv 8) (pa_cons (pe_tup (pa_cons (pe_op (OpR.or op_mulW (op_oo T.o_mul (hr.mono (by decide)))) (pv 2) (pv 3)) (pa_cons (pe_cg T.law_low hr (by decide) hG rfl (pa_cons (pe_op (OpR.or op_mulW (op_oo T.o_mul (hr.mono (by decide)))) (pv 4) (pv 6)) (pa_cons (pe_op (OpR.or op_mulW (op_oo T.o_mul (hr.mono (by decide)))) (pv 5) (pv 7)) pa_nil))) pa_nil))) pa_nil)))
      (Evl.pss_cut (ps_if (pt_cmpR (OpR.or op_ne (op_no T.at_eq T.ne (hr.mono (by decide)))) (pv 6) pe_int (nomark _)) (pss_cons (ps_expr (pe_bm PySem.F.plainAttrs_list PySem.F.slot_list_append PySem.F.type_list_append mt_append (pv 8) (pa_cons (pe_tup (pa_cons (pe_mo T.over T.cl (hr.mono (by decide)) (pv 2) (pa_cons (pv 3) pa_nil)) (pa_cons (pe_cg T.law_low hr (by decide) hG rfl (pa_cons (pe_op (OpR.or op_mulW (op_oo T.o_mul (hr.mono (by decide)))) (pv 4) (pv 7)) (pa_cons (pe_op (OpR.or op_mulW (op_oo T.o_mul (hr.mono (by decide)))) (pv 5) (pv 6)) pa_nil))) pa_nil))) pa_nil)))
      (pss_one (ps_expr (pe_bm PySem.F.plainAttrs_list PySem.F.slot_list_append PySem.F.type_list_append mt_append (pv 8) (pa_cons (pe_tup (pa_cons (pe_mok T.over_k T.cl (hr.mono (by decide)) (pv 2) (pk_cons (pv 3) pk_nil)) (pa_cons (pe_cg T.law_low hr (by decide) hG rfl (pa_cons (pe_op (OpR.or op_mulW (op_oo T.o_mul (hr.mono (by decide)))) (pv 4) (pv 7)) (pa_cons (pe_op (OpR.or op_mulW (op_oo T.o_mul (hr.mono (by decide)))) (pv 5) (pv 6)) pa_nil))) pa_nil))) pa_nil))))) pss_nil)
      (pss_cons (ps_expr (pe_bm PySem.F.plainAttrs_list PySem.F.slot_list_extend PySem.F.type_list_extend mt_extend (pv 8) (pa_cons (pe_lst (pa_cons (pe_tup (pa_cons (pe_un (un_no T.at_neg (hr.mono (by decide))) (pv 2)) (pa_cons (pe_cg T.law_low hr (by decide) hG rfl (pa_cons (pe_op (OpR.or op_sub (op_oo T.o_sub (hr.mono (by decide)))) pe_int (pv 4)) (pa_cons (pv 5) pa_nil))) pa_nil))) (pa_cons (pe_tup (pa_cons (pe_mo0 T.size T.cl (hr.mono (by decide)) (pv 2)) (pa_cons (pe_cg T.law_low hr (by decide) hG rfl (pa_cons (pe_callB call_abs rfl T.z_abs boot_abs (pa_cons (pv 4) pa_nil)) (pa_cons (pv 5) pa_nil))) pa_nil))) pa_nil))) pa_nil)))
      (pss_cons (ps_if (pt_not (pt_val (pe_callB (cr_all rfl) rfl T.z_all boot_all (pa_cons (pe_lc (g := gTup K 2 (gCons (gName 10) (gCons (gName 11) gNil))) (own := [("_law_told", 10), ("_law_due", 11)]) rfl scpair.nd (pi_list (pv 8)) (blkOk_by (N := scpairN) (sc := defScope spair) (by decide +kernel)) (fun _ _ _ _ _ => (pg_tup rfl (pgs_cons (pg_name (i := 10) scpair.nd rfl (Or.inl rfl)) (pgs_cons (pg_name (i := 11) scpair.nd rfl (Or.inl rfl)) pgs_nil)))) (fun _ _ _ _ _ => pts_nil) (fun _ _ _ _ _ => (pe_cg T.law_is hr (by decide) hG rfl (pa_cons (pv 10) (pa_cons (pv 11) pa_nil))))) pa_nil)))) (pss_one (ps_ret pe_bl)) pss_nil)
      (pss_cons (ps_set (i := 9) scpair.nd rfl (Or.inl rfl) (pe_lst (pa_cons (pe_mo T.is_below T.cl (hr.mono (by decide)) (pv 2) (pa_cons (pv 3) pa_nil)) (pa_cons (pe_mo T.is_at_most T.cl (hr.mono (by decide)) (pv 2) (pa_cons (pv 3) pa_nil)) (pa_cons (pe_mok T.is_below_k T.cl (hr.mono (by decide)) (pv 2) (pk_cons (pv 3) pk_nil)) (pa_cons (pe_cmpR (OpR.or op_eq (op_eo T.at_eq (hr.mono (by decide)))) (pv 2) (pv 3) (nomark _)) (pa_cons (pe_cmpR (OpR.or op_ne (op_no T.at_eq T.ne (hr.mono (by decide)))) (pv 2) (pv 3) (nomark _)) pa_nil)))))))
      (pss_one (ps_ret (pe_cmpR (OpR.or op_eq (op_eo T.at_eq (hr.mono (by decide)))) (pe_callB (CallR.or (call_ro T.at_repr (hr.mono (by decide))) (call_reprD hG hu)) rfl T.z_repr boot_repr (pa_cons (pv 9) pa_nil)) (pe_callB (CallR.or (call_ro T.at_repr (hr.mono (by decide))) (call_reprD hG hu)) rfl T.z_repr boot_repr (pa_cons (pe_lst (pa_cons (pe_cmpR op_lt (pe_op (OpR.or op_mulW (op_oo T.o_mul (hr.mono (by decide)))) (pv 4) (pv 7)) (pe_op (OpR.or op_mulW (op_oo T.o_mul (hr.mono (by decide)))) (pv 6) (pv 5)) (nomark _)) (pa_cons (pe_cmpR op_le (pe_op (OpR.or op_mulW (op_oo T.o_mul (hr.mono (by decide)))) (pv 4) (pv 7)) (pe_op (OpR.or op_mulW (op_oo T.o_mul (hr.mono (by decide)))) (pv 6) (pv 5)) (nomark _)) (pa_cons (pe_cmpR op_lt (pe_op (OpR.or op_mulW (op_oo T.o_mul (hr.mono (by decide)))) (pv 4) (pv 7)) (pe_op (OpR.or op_mulW (op_oo T.o_mul (hr.mono (by decide)))) (pv 6) (pv 5)) (nomark _)) (pa_cons (pe_cmpR (OpR.or op_eq (op_eo T.at_eq (hr.mono (by decide)))) (pe_op (OpR.or op_mulW (op_oo T.o_mul (hr.mono (by decide)))) (pv 4) (pv 7)) (pe_op (OpR.or op_mulW (op_oo T.o_mul (hr.mono (by decide)))) (pv 6) (pv 5)) (nomark _)) (pa_cons (pe_cmpR (OpR.or op_ne (op_no T.at_eq T.ne (hr.mono (by decide)))) (pe_op (OpR.or op_mulW (op_oo T.o_mul (hr.mono (by decide)))) (pv 4) (pv 7)) (pe_op (OpR.or op_mulW (op_oo T.o_mul (hr.mono (by decide)))) (pv 6) (pv 5)) (nomark _)) pa_nil)))))) pa_nil)) (nomark _)))))))))))), ?_⟩
    have n1 := g1.nm
    have n2 := g2.nm
    have s1 : Sz 1500 a b := sz_mono g1.sz (by decide)
    have s2 : Sz 1500 c d := sz_mono g2.sz (by decide)
    have mc : ∀ {i j : Int}, i.natAbs < 2 ^ 220 → j.natAbs < 2 ^ 220 → CMulW i j := fun h h' => wide_mul h h' (by decide) (by decide) (by decide)
    have up : ∀ {i : Int} {n : Nat}, i.natAbs < 2 ^ n → n ≤ 1500 → i.natAbs < 2 ^ 1500 := fun h l => lt_more h l
    have za := g1.sz.1
    have zb := g1.sz.2
    have zc := g2.sz.1
    have zd := g2.sz.2
    have hbd : b * d ≠ 0 := ne_mul n1.pos n2.pos
    refine st_unp (p_var rfl ho) fun v1 v2 H1 e1 hv1 hv2 => ?_
    cases hv1
    cases hv2
    refine st_unp (p_var rfl (Mo.mo e1 hot)) fun v1 v2 H2 e2 hv1 hv2 => ?_
    cases hv1
    cases hv2
    have e02 := e1.trans e2
    have nr : ∀ {H1 : Hp} {σ : L2.St}, Ex H H1 → σ[2]? = some (some near) → EvP (tVar 2) σ H1 (IsR C a b) := fun e h => p_var h (Mo.mo e hnr)
    have fr : ∀ {H1 : Hp} {σ : L2.St}, Ex H H1 → σ[3]? = some (some far) → EvP (tVar 3) σ H1 (IsR C c d) := fun e h => p_var h (Mo.mo e hfr)
    have tw : ∀ {H1 : Hp} {x y : V}, IsR C a b x H1 → IsR C c d y H1 → Two C x y H1 a b c d := fun p q => ⟨p, .inl q, n1, n2, s1, s2⟩
    refine rows_new (U := PD K C) (m := 2) (by decide) (a_cons (p_row (a := a * d + c * b) (b := b * d) (p_opr (nr e02 rfl) (fr e02 rfl) fun x y H3 e3 p q => rv_own (tw p q) q) (p_I0l (p_Il (p_val rfl) (p_val rfl) (mc za zd)) (p_Il (p_val rfl) (p_val rfl) (mc zc zb))) (p_Il (p_val rfl) (p_val rfl) (mc zb zd)) hbd (up (wide_add (z440 za zd) (z440 zc zb)) (by decide)) (up (z440 zb zd) (by decide)))
      (a_cons (p_row (a := a * d - c * b) (b := b * d) (p_opr (nr e02 rfl) (fr e02 rfl) fun x y H3 e3 p q => rv_own (tw p q) q) (p_I0l (p_Il (p_val rfl) (p_val rfl) (mc za zd)) (p_Il (p_val rfl) (p_val rfl) (mc zc zb))) (p_Il (p_val rfl) (p_val rfl) (mc zb zd)) hbd (up (wide_sub (z440 za zd) (z440 zc zb)) (by decide)) (up (z440 zb zd) (by decide))) a_nil)) fun r H3 nr3 e3 rw3 => ?_
    have r0 : H r = none := Evl.fresh_back e02 nr3
    have e03 := e02.trans e3
    refine rows_app rfl rw3 (by decide) (p_row (a := a * c) (b := b * d) (p_opr (nr e03 rfl) (fr e03 rfl) fun x y H3 e3 p q => rv_own (tw p q) q) (p_Il (p_val rfl) (p_val rfl) (mc za zc)) (p_Il (p_val rfl) (p_val rfl) (mc zb zd)) hbd (up (z440 za zc) (by decide)) (up (z440 zb zd) (by decide))) fun H4 rw4 x4 => ?_
    have e04 := exb_ex r0 e03 x4
    refine Evl.q_cut (M := fun σ' H' => σ' = [some one, some other, some near, some far, some (.int a), some (.int b), some (.int c), some (.int d), some (.ref r), none, none, none] ∧ Ex H H' ∧ Rows (PD K C) r 5 H') ?_ fun σ' H5 ⟨hσ, e05, rw5⟩ => ?_
    · refine Evl.s_when (b := !decide (c = 0)) (t_test (p_neil (p_val rfl) p_c)) (fun hb H5 e5 => ?_) fun hb H5 e5 => ?_
      · have hc : c ≠ 0 := by
          intro z
          rw [z] at hb
          cases hb
        have hbc : b * c ≠ 0 := Int.mul_ne_zero (nz n1.pos) hc
        have e05 := e04.trans e5
        refine rows_app rfl (Rows.mo e5 rw4) (by decide) (p_row (a := a * d) (b := b * c) (p_meth (nr e05 rfl) (by decide +kernel) (by decide +kernel) (a_cons (fr e05 rfl) a_nil) fun v vs H1 e p ps => ?_) (p_Il (p_val rfl) (p_val rfl) (mc za zd)) (p_Il (p_val rfl) (p_val rfl) (mc zb zc)) hbc (up (z440 za zd) (by decide)) (up (z440 zb zc) (by decide))) fun H6 rw6 x6 => ?_
        · obtain ⟨v1, rfl, pv⟩ := RK.one ps
          exact ⟨v, v1, a, b, c, d, rfl, ⟨tw p pv, hc⟩, rfl⟩
        have e06 := exb_ex r0 e05 x6
        refine rows_app1 rfl rw6 (by decide) (p_row (a := a * d) (b := b * c) (p_methK (nr e06 rfl) (by decide +kernel) (by decide +kernel) (a_cons (fr e06 rfl) a_nil) rfl fun v vs H1 e p ps => ?_) (p_Il (p_val rfl) (p_val rfl) (mc za zd)) (p_Il (p_val rfl) (p_val rfl) (mc zb zc)) hbc (up (z440 za zd) (by decide)) (up (z440 zb zc) (by decide))) fun H7 rw7 x7 => ⟨rfl, exb_ex r0 e06 x7, rw7⟩
        obtain ⟨v1, rfl, pv⟩ := RK.one ps
        exact ⟨v, v1, a, b, c, d, rfl, ⟨tw p pv, hc⟩, rfl⟩
      · exact ⟨rfl, e04.trans e5, (Rows.mo e5 rw4).le (by decide)⟩
    · subst hσ
      have ea : (if a < 0 then -a else a).natAbs = a.natAbs := by split <;> omega
      refine rows_ext (U := PD K C) (m := 2) rfl rw5 (by decide) (by decide) (a_cons (p_row (a := 0 - a) (b := b) ?_ (p_I0l p_c (p_val rfl)) (p_val rfl) (nz n1.pos) (by rw [show (0 - a).natAbs = a.natAbs by omega]; exact s1.1) s1.2)
        (a_cons (p_row (a := if a < 0 then -a else a) (b := b) (p_meth (nr e05 rfl) (by decide +kernel) (by decide +kernel) a_nil fun v vs H1 e p ps => ?_) (p_abs (p_val rfl)) (p_val rfl) (nz n1.pos) (by rw [ea]; exact s1.1) s1.2) a_nil)) fun H6 rw6 x6 => ?_
      · rw [show (0 : Int) - a = -a by omega]
        exact p_negO (nr e05 rfl) n1 s1
      · cases vs with
        | nil => exact ⟨v, a, b, rfl, p, n1, s1, rfl⟩
        | cons _ _ => exact ps.elim
      have e06 := exb_ex r0 e05 x6
      refine st_unless (t_not (b := true) (t_B (p_isall 10 11 _ (p_val rfl) rw6 (by decide) fun v w => ⟨rfl, rfl, rfl⟩))) fun H7 e7 => ?_
      have e07 := e06.trans e7
      have cmp : ∀ {c1 : Int → Int → Bool} {v w : V} {H1 : Hp}, IsR C a b v H1 → AllP [IsR C c d] [w] H1 → preCmp C c1 [v, w] H1 (Is (.bl (c1 (a * d) (c * b)))) := fun p ps => ⟨_, _, a, b, c, d, rfl, tw p ps.1, rfl⟩
      have eqd : (decide (a = c) && decide (b = d)) = decide (a * d = c * b) := by
        by_cases h : a * d = c * b
        · obtain ⟨h1, h2⟩ := uniq n1 n2 h
          rw [decide_eq_true h, decide_eq_true h1, decide_eq_true h2]
          rfl
        · rw [decide_eq_false h]
          by_cases h1 : a = c
          · have h2 : ¬ b = d := fun h2 => h (by rw [h1, h2])
            rw [decide_eq_false h2, Bool.and_false]
          · rw [decide_eq_false h1, Bool.false_and]
      have ord : ∀ x ∈ [V.bl (decide (a * d < c * b)), V.bl (decide (a * d ≤ c * b)), V.bl (decide (a * d < c * b)), V.bl (decide (a * d = c * b)), V.bl (!decide (a * d = c * b))], FlV x := by
        intro x hx
        simp only [List.mem_cons, List.not_mem_nil, or_false] at hx
        rcases hx with rfl | rfl | rfl | rfl | rfl <;> trivial
      refine st_asg (P := IsL K ([V.bl (decide (a * d < c * b)), V.bl (decide (a * d ≤ c * b)), V.bl (decide (a * d < c * b)), V.bl (decide (a * d = c * b)), V.bl (!decide (a * d = c * b))].map Is)) (p_lst (a_cons (p_meth (nr e07 rfl) (by decide +kernel) (by decide +kernel) (a_cons (fr e07 rfl) a_nil) fun v vs H1 e p ps => ?_) (a_cons (p_meth (nr e07 rfl) (by decide +kernel) (by decide +kernel) (a_cons (fr e07 rfl) a_nil) fun v vs H1 e p ps => ?_)
        (a_cons (p_methK (nr e07 rfl) (by decide +kernel) (by decide +kernel) (a_cons (fr e07 rfl) a_nil) rfl fun v vs H1 e p ps => ?_) (a_cons ?_ (a_cons ?_ a_nil))))) (show 5 ≤ 100000 by decide)) fun v8 H8 e8 p8 => ?_
      · obtain ⟨v1, rfl, pv⟩ := RK.one ps
        exact cmp p ps
      · obtain ⟨v1, rfl, pv⟩ := RK.one ps
        exact cmp p ps
      · obtain ⟨v1, rfl, pv⟩ := RK.one ps
        exact cmp p ps
      · rw [← eqd]
        exact p_opr (nr e07 rfl) (fr e07 rfl) fun x y H1 e p q => rv_eq T.toT1 p q T.nC
      · rw [← eqd]
        exact p_opr (nr e07 rfl) (fr e07 rfl) fun x y H1 e p q => rv_ne T.toT1 p q T.nC
      refine st_ret (p_eqsl (p_reprL [V.bl (decide (a * d < c * b)), V.bl (decide (a * d ≤ c * b)), V.bl (decide (a * d < c * b)), V.bl (decide (a * d = c * b)), V.bl (!decide (a * d = c * b))] (p_var rfl p8) ord (show 5 ≤ 40 by decide)) (p_reprL [V.bl (decide (a * d < c * b)), V.bl (decide (a * d ≤ c * b)), V.bl (decide (a * d < c * b)), V.bl (decide (a * d = c * b)), V.bl (!decide (a * d = c * b))] (p_lst (a_cons (p_I0 (p_Il (p_val rfl) (p_val rfl) (mc za zd)) (p_Il (p_val rfl) (p_val rfl) (mc zc zb))) (a_cons (p_I0 (p_Il (p_val rfl) (p_val rfl) (mc za zd)) (p_Il (p_val rfl) (p_val rfl) (mc zc zb))) (a_cons (p_I0 (p_Il (p_val rfl) (p_val rfl) (mc za zd)) (p_Il (p_val rfl) (p_val rfl) (mc zc zb)))
        (a_cons (p_eqil (p_Il (p_val rfl) (p_val rfl) (mc za zd)) (p_Il (p_val rfl) (p_val rfl) (mc zc zb))) (a_cons (p_neil (p_Il (p_val rfl) (p_val rfl) (mc za zd)) (p_Il (p_val rfl) (p_val rfl) (mc zc zb))) a_nil))))) (show 5 ≤ 100000 by decide)) ord (show 5 ≤ 40 by decide))) fun v9 H9 e9 p9 => k v9 H9 ((e07.trans e8).trans e9) p9
end
end RK
namespace RK
open PySem PySem.Spec PyProof.Rows L2
open Evl (Ex EvT)
section
variable {P : Program} {w : World} {K : PySem.W.Frag} {mg : Str → Option Value} {base : Heap} {C : Addr} {σ : L2.St} {H : Hp} {ta tb te : TE} {t : TA} {R U : VP} {D : Ends} {tz : TS} {Ps : List VP} {r r' : R2} {x y : V} {i j : Int}
/-! ### values of a type -/
def OfT (K : PySem.W.Frag) (tv : Value) : VP := fun v H => ∀ H1, Ex H H1 → TyX K H1 v tv
instance {tv : Value} : Mo (OfT K tv) := ⟨fun e h H1 e1 => h H1 (e.trans e1)⟩
theorem ot_int (h : EvP te σ H (Is (.int i))) : EvP te σ H (OfT K (.type "int")) := h.imp fun v H1 _ p H2 _ => by
  cases p
  exact .base (.int i)
theorem ot_str {x : Str} (h : EvP te σ H (Is (.str x))) : EvP te σ H (OfT K (.type "str")) := h.imp fun v H1 _ p H2 _ => by
  cases p
  exact .base (.str x)
theorem ot_lst (h : EvAs t σ H Ps) (hz : Ps.length ≤ 100000) : EvP (tLst t) σ H (OfT K (.type "list")) := fun H1 e Q q => h H1 e _ fun vs H2 e2 ps =>
  ⟨by rw [ps.len]; exact Evl.sz_of hz, fun p hp => q _ _ (e2.trans (Ex.new hp)) fun H3 e3 => .base (.lst (e3 _ _ upd_same))⟩
theorem ot_tup (h : EvAs t σ H Ps) (hz : Ps.length ≤ 100000) : EvP (tTup t) σ H (OfT K (.type "tuple")) := fun H1 e Q q => h H1 e _ fun vs H2 e2 ps =>
  ⟨by rw [ps.len]; exact Evl.sz_of hz, fun p hp => q _ _ (e2.trans (Ex.new hp)) fun H3 e3 => .base (.tup (e3 _ _ upd_same))⟩
theorem ot_dict : EvP tDNewK σ H (OfT K (.type "dict")) := fun H1 e Q q p hp => q _ _ (Ex.new hp) fun H3 e3 => .base (.dK (e3 _ _ upd_same))
theorem p_eqo {a b : Int} {tv : Value} {E : XK} (ha : EvP ta σ H (IsR C a b)) (hb : EvP tb σ H (OfT K tv)) (kit : PySem.W.kitOne K tv (.ref C) = some false) (nC : PySem.W.notFirst K C tv = true) :
    EvP (tOp (fun x y H Q => r x y H Q ∨ (rOwnEq K C (mkSp (preEq K C)) E x y H Q ∨ r' x y H Q)) ta tb) σ H (Is (.bl false)) := p_opr (r' := fun x y H Q => rOwnEq K C (mkSp (preEq K C)) E x y H Q ∨ r' x y H Q) ha hb fun x y H1 e p q => RVP.inl (rv_eqo p q kit nC)
theorem p_neo {a b : Int} {tv : Value} {E : XK} (ha : EvP ta σ H (IsR C a b)) (hb : EvP tb σ H (OfT K tv)) (kit : PySem.W.kitOne K tv (.ref C) = some false) (nC : PySem.W.notFirst K C tv = true) :
    EvP (tOp (fun x y H Q => r x y H Q ∨ rOwnNe K C (mkSp (preEq K C)) E x y H Q) ta tb) σ H (Is (.bl true)) := p_opr ha hb fun x y H1 e p q => rv_neo p q kit nC
theorem p_rowE {tn : TE} {a b a' b' : Int} (ea : a' = a) (eb : b' = b) (hn : EvP tn σ H (IsR C (nt a' b') (nd a' b'))) (ha : EvP ta σ H (Is (.int a))) (hb : EvP tb σ H (Is (.int b))) (h0 : b ≠ 0) (hy : a.natAbs < 2 ^ 1500) (hz : b.natAbs < 2 ^ 1500) :
    EvP (tTup (tCons tn (tCons (tCall (mkSp (preLow K)) [] E0 (tCons ta (tCons tb tNil))) tNil))) σ H (PD K C) := by
  subst ea
  subst eb
  exact p_row hn ha hb h0 hy hz
theorem rv_iown {F G : Int → Int → Int → Int → Int} {v : V} {t b n : Int} {E : XK} (h : IsR C t b v H) (n1 : Nm t b) (s1 : Sz 1500 t b) (zn : n.natAbs < 2 ^ 1500) :
    RVP (rIOwn C (mkSp (preR C F G)) E) (.int n) v H (IsR C (nt (F n 1 t b) (G n 1 t b)) (nd (F n 1 t b) (G n 1 t b))) := fun Q q => by
  obtain ⟨a, rfl, dx, ha⟩ := id h
  exact ⟨a, n, dx, _, rfl, rfl, ha, _, ⟨_, t, b, n, rfl, h, n1, s1, zn, rfl⟩, q⟩
/-- [False] * k -/
theorem p_rep {r : R2} {vs : List V} {k : Int} (hv : EvAs t σ H (vs.map Is)) (hl : vs.length ≤ 10) (hk : EvP tb σ H (Is (.int k))) (hk1 : 0 ≤ k) (hk2 : k ≤ 10) (hr : ∀ x y H Q, rRep x y H Q → r x y H Q) : EvP (tOp r (tLst t) tb) σ H (IsL K ((List.replicate k.toNat vs).flatten.map Is)) := fun H1 e Q q => hv H1 e _ fun ws H2 e2 ps => by
  have hw := all_is ps
  subst hw
  refine ⟨Evl.sz_of (by omega), fun p hp => hk _ ((e.trans e2).trans (Ex.new hp)) _ fun v H3 e3 hv => ?_⟩
  cases hv
  have hm : ws.length * k.toNat ≤ 10 * 10 := Nat.mul_le_mul hl (by omega)
  refine hr _ _ _ _ ⟨p, k, ws, rfl, rfl, e3 _ _ upd_same, by omega, by omega, Evl.sz_of (by omega), fun p2 hp2 => q _ _ (((e2.trans (Ex.new hp)).trans e3).trans (Ex.new hp2)) ⟨p2, _, rfl, SqL.of upd_same, all_refl _⟩⟩
def preWhole (K : PySem.W.Frag) (C : Addr) : List V → Hp → VP → Prop := fun vs H R => ∃ one near a b n, vs = [one, near, .int n] ∧ IsT K [Is (.int a), Is (.int b)] one H ∧ IsR C a b near H ∧ Good 220 (a, b) ∧ n.natAbs < 2 ^ 220 ∧ R = Is (.bl true)
theorem ok_wright {f : Addr} {fd : FuncData} (F : Fun K "_law_whole_right" "_law_whole_right" swright f fd) (T : TP P w K mg base C) : FnG P w K mg base 8 f ["_law_one", "_law_near", "_law_whole"] (mkSp (preWhole K C)) := by
  refine fnG_of F scwright (fun vs H Q E h => ?_) (fun cdv A outer s H vs Q hr hG h => ?_)
  · obtain ⟨R, ⟨one, near, a, b, n, rfl, _⟩, _⟩ := h
    rfl
  · obtain ⟨R, ⟨one, near, a, b, n, rfl, ho, hnr, g1, zn, rfl⟩, k⟩ := h
    have hu : (A.deeper (envOfC "_law_whole_right" (defScope swright) s.heap.objs.size f cdv)).units + 64 < cLine := hr.units
    refine ⟨_, (pss_cons (ps_asg (pv 0) (pg_tup rfl (pgs_cons (pg_name (i := 3) scwright.nd rfl (Or.inl rfl)) (pgs_cons (pg_name (i := 4) scwright.nd rfl (Or.inl rfl)) pgs_nil))))
      (pss_cons (ps_set (i := 5) scwright.nd rfl (Or.inl rfl) (pe_lst (pa_cons (pe_tup (pa_cons (pe_op (OpR.or op_add (OpR.or (op_oi T.oi_add (hr.mono (by decide))) (op_ia T.io_add (hr.mono (by decide))))) (pv 1) (pv 2)) (pa_cons (pe_cg T.law_low hr (by decide) hG rfl (pa_cons (pe_op (OpR.or op_add (OpR.or (op_oi T.oi_add (hr.mono (by decide))) (op_ia T.io_add (hr.mono (by decide))))) (pv 3) (pe_op (OpR.or op_mulW (OpR.or (OpR.or (op_oi T.oi_mul (hr.mono (by decide))) (op_im T.io_mul (hr.mono (by decide)))) op_rep)) (pv 2) (pv 4))) (pa_cons (pv 4) pa_nil))) pa_nil))) (pa_cons (pe_tup (pa_cons (pe_op (OpR.or op_add (OpR.or (op_oi T.oi_add (hr.mono (by decide))) (op_ia T.io_add (hr.mono (by decide))))) (pv 2) (pv 1)) (pa_cons (pe_cg T.law_low hr (by decide) hG rfl (pa_cons (pe_op (OpR.or op_add (OpR.or (op_oi T.oi_add (hr.mono (by decide))) (op_ia T.io_add (hr.mono (by decide))))) (pv 3) (pe_op (OpR.or op_mulW (OpR.or (OpR.or (op_oi T.oi_mul (hr.mono (by decide))) (op_im T.io_mul (hr.mono (by decide)))) op_rep)) (pv 2) (pv 4))) (pa_cons (pv 4) pa_nil))) pa_nil))) pa_nil))))
      (pss_cons (ps_expr (pe_bm PySem.F.plainAttrs_list PySem.F.slot_list_extend PySem.F.type_list_extend mt_extend (pv 5) (pa_cons (pe_lst (pa_cons (pe_tup (pa_cons (pe_op (OpR.or op_sub (OpR.or (op_oi T.oi_sub (hr.mono (by decide))) (op_is T.io_sub (hr.mono (by decide))))) (pv 1) (pv 2)) (pa_cons (pe_cg T.law_low hr (by decide) hG rfl (pa_cons (pe_op (OpR.or op_sub (OpR.or (op_oi T.oi_sub (hr.mono (by decide))) (op_is T.io_sub (hr.mono (by decide))))) (pv 3) (pe_op (OpR.or op_mulW (OpR.or (OpR.or (op_oi T.oi_mul (hr.mono (by decide))) (op_im T.io_mul (hr.mono (by decide)))) op_rep)) (pv 2) (pv 4))) (pa_cons (pv 4) pa_nil))) pa_nil))) (pa_cons (pe_tup (pa_cons (pe_op (OpR.or op_sub (OpR.or (op_oi T.oi_sub (hr.mono (by decide))) (op_is T.io_sub (hr.mono (by decide))))) (pv 2) (pv 1)) (pa_cons (pe_cg T.law_low hr (by decide) hG rfl (pa_cons (pe_op (OpR.or op_sub (OpR.or (op_oi T.oi_sub (hr.mono (by decide))) (op_is T.io_sub (hr.mono (by decide))))) (pe_op (OpR.or op_mulW (OpR.or (OpR.or (op_oi T.oi_mul (hr.mono (by decide))) (op_im T.io_mul (hr.mono (by decide)))) op_rep)) (pv 2) (pv 4)) (pv 3)) (pa_cons (pv 4) pa_nil))) pa_nil))) pa_nil))) pa_nil)))
      (pss_cons (ps_expr (pe_bm PySem.F.plainAttrs_list PySem.F.slot_list_extend PySem.F.type_list_extend mt_extend (pv 5) (pa_cons (pe_lst (pa_cons (pe_tup (pa_cons (pe_op (OpR.or op_mulW (OpR.or (OpR.or (op_oi T.oi_mul (hr.mono (by decide))) (op_im T.io_mul (hr.mono (by decide)))) op_rep)) (pv 1) (pv 2)) (pa_cons (pe_cg T.law_low hr (by decide) hG rfl (pa_cons (pe_op (OpR.or op_mulW (OpR.or (OpR.or (op_oi T.oi_mul (hr.mono (by decide))) (op_im T.io_mul (hr.mono (by decide)))) op_rep)) (pv 3) (pv 2)) (pa_cons (pv 4) pa_nil))) pa_nil))) (pa_cons (pe_tup (pa_cons (pe_op (OpR.or op_mulW (OpR.or (OpR.or (op_oi T.oi_mul (hr.mono (by decide))) (op_im T.io_mul (hr.mono (by decide)))) op_rep)) (pv 2) (pv 1)) (pa_cons (pe_cg T.law_low hr (by decide) hG rfl (pa_cons (pe_op (OpR.or op_mulW (OpR.or (OpR.or (op_oi T.oi_mul (hr.mono (by decide))) (op_im T.io_mul (hr.mono (by decide)))) op_rep)) (pv 3) (pv 2)) (pa_cons (pv 4) pa_nil))) pa_nil))) pa_nil))) pa_nil)))
      (Evl.pss_cut (ps_if (pt_cmpR (OpR.or op_ne (op_no T.at_eq T.ne (hr.mono (by decide)))) (pv 2) pe_int (nomark _)) (pss_one (ps_expr (pe_bm PySem.F.plainAttrs_list PySem.F.slot_list_append PySem.F.type_list_append mt_append (pv 5) (pa_cons (pe_tup (pa_cons (pe_mo T.over T.cl (hr.mono (by decide)) (pv 1) (pa_cons (pv 2) pa_nil)) (pa_cons (pe_cg T.law_low hr (by decide) hG rfl (pa_cons (pv 3) (pa_cons (pe_op (OpR.or op_mulW (OpR.or (OpR.or (op_oi T.oi_mul (hr.mono (by decide))) (op_im T.io_mul (hr.mono (by decide)))) op_rep)) (pv 4) (pv 2)) pa_nil))) pa_nil))) pa_nil)))) pss_nil)
      (pss_cons (ps_if (pt_not (pt_val (pe_callB (cr_all rfl) rfl T.z_all boot_all (pa_cons (pe_lc (g := gTup K 2 (gCons (gName 7) (gCons (gName 8) gNil))) (own := [("_law_told", 7), ("_law_due", 8)]) rfl scwright.nd (pi_list (pv 5)) (blkOk_by (N := scwrightN) (sc := defScope swright) (by decide +kernel)) (fun _ _ _ _ _ => (pg_tup rfl (pgs_cons (pg_name (i := 7) scwright.nd rfl (Or.inl rfl)) (pgs_cons (pg_name (i := 8) scwright.nd rfl (Or.inl rfl)) pgs_nil)))) (fun _ _ _ _ _ => pts_nil) (fun _ _ _ _ _ => (pe_cg T.law_is hr (by decide) hG rfl (pa_cons (pv 7) (pa_cons (pv 8) pa_nil))))) pa_nil)))) (pss_one (ps_ret pe_bl)) pss_nil)
      (pss_cons (ps_if (pt_cmpR (OpR.or op_ne (op_no T.at_eq T.ne (hr.mono (by decide)))) (pe_callB (CallR.or (call_ro T.at_repr (hr.mono (by decide))) (call_reprD hG hu)) rfl T.z_repr boot_repr (pa_cons (pe_lst (pa_cons (pe_mo T.is_below T.cl (hr.mono (by decide)) (pv 1) (pa_cons (pv 2) pa_nil)) (pa_cons (pe_mo T.is_at_most T.cl (hr.mono (by decide)) (pv 1) (pa_cons (pv 2) pa_nil)) pa_nil))) pa_nil)) (pe_callB (CallR.or (call_ro T.at_repr (hr.mono (by decide))) (call_reprD hG hu)) rfl T.z_repr boot_repr (pa_cons (pe_lst (pa_cons (pe_cmpR op_lt (pv 3) (pe_op (OpR.or op_mulW (OpR.or (OpR.or (op_oi T.oi_mul (hr.mono (by decide))) (op_im T.io_mul (hr.mono (by decide)))) op_rep)) (pv 2) (pv 4)) (nomark _)) (pa_cons (pe_cmpR op_le (pv 3) (pe_op (OpR.or op_mulW (OpR.or (OpR.or (op_oi T.oi_mul (hr.mono (by decide))) (op_im T.io_mul (hr.mono (by decide)))) op_rep)) (pv 2) (pv 4)) (nomark _)) pa_nil))) pa_nil)) (nomark _)) (pss_one (ps_ret pe_bl)) pss_nil)
      (pss_cons (ps_set (i := 6) scwright.nd rfl (Or.inl rfl) (pe_lst (pa_cons (pe_cmpR (OpR.or op_eq (OpR.or (op_eo T.at_eq (hr.mono (by decide))) (op_eqD hu))) (pv 1) (pv 2) (nomark _)) (pa_cons (pe_cmpR (OpR.or op_eq (OpR.or (op_eo T.at_eq (hr.mono (by decide))) (op_eqD hu))) (pv 1) (pe_callTy (CallR.or call_str_int (call_so T.at_str (hr.mono (by decide)))) rfl T.z_str boot_str (pa_cons (pv 1) pa_nil)) (nomark _)) (pa_cons (pe_cmpR (OpR.or op_eq (OpR.or (op_eo T.at_eq (hr.mono (by decide))) (op_eqD hu))) (pv 1) pe_dnewK (nomark _)) (pa_cons (pe_cmpR (OpR.or op_eq (OpR.or (op_eo T.at_eq (hr.mono (by decide))) (op_eqD hu))) (pv 1) (pe_lst (pa_cons (pv 1) pa_nil)) (nomark _)) (pa_cons (pe_cmpR (OpR.or op_eq (OpR.or (op_eo T.at_eq (hr.mono (by decide))) (op_eqD hu))) (pv 1) (pe_tup (pa_cons (pv 3) (pa_cons (pv 4) pa_nil))) (nomark _)) pa_nil)))))))
      (pss_one (ps_ret (pe_and (pe_cmpR (OpR.or op_eq (OpR.or (op_eo T.at_eq (hr.mono (by decide))) (op_eqD hu))) (pv 6) (pe_op (OpR.or op_mulW (OpR.or (OpR.or (op_oi T.oi_mul (hr.mono (by decide))) (op_im T.io_mul (hr.mono (by decide)))) op_rep)) (pe_lst (pa_cons pe_bl pa_nil)) pe_int) (nomark _)) (pe_one (pe_cmpR (OpR.or op_ne (op_no T.at_eq T.ne (hr.mono (by decide)))) (pv 1) (pv 2) (nomark _)))))))))))))), ?_⟩
    have n1 := g1.nm
    have s1 : Sz 1500 a b := sz_mono g1.sz (by decide)
    have mc : ∀ {i j : Int}, i.natAbs < 2 ^ 220 → j.natAbs < 2 ^ 220 → CMulW i j := fun h h' => wide_mul h h' (by decide) (by decide) (by decide)
    have up : ∀ {i : Int} {n : Nat}, i.natAbs < 2 ^ n → n ≤ 1500 → i.natAbs < 2 ^ 1500 := fun h l => lt_more h l
    have za := g1.sz.1
    have zb := g1.sz.2
    have zn15 : n.natAbs < 2 ^ 1500 := up zn (by decide)
    have za4 : a.natAbs < 2 ^ 440 := lt_more za (by decide)
    refine st_unp (p_var rfl ho) fun v1 v2 H1 e1 hv1 hv2 => ?_
    cases hv1
    cases hv2
    have nr : ∀ {H1 : Hp} {σ : L2.St}, Ex H H1 → σ[1]? = some (some near) → EvP (tVar 1) σ H1 (IsR C a b) := fun e h => p_var h (Mo.mo e hnr)
    have tw : ∀ {H1 : Hp} {x : V}, IsR C a b x H1 → Two C x (.int n) H1 a b n 1 := fun p => ⟨p, .inr ⟨rfl, rfl⟩, n1, nm1, s1, ⟨zn15, z1⟩⟩
    refine rows_new (U := PD K C) (m := 2) (by decide) (a_cons (p_rowE (a := a + n * b) (b := b) (a' := Fadd a b n 1) (b' := Gmul a b n 1) (by unfold Fadd; omega) (by unfold Gmul; omega) (p_opr (nr e1 rfl) (p_val rfl) fun x y H3 e3 p q => by cases q; exact RVP.inl (rv_ownI (tw p))) (p_I0l (p_val rfl) (p_Il (p_val rfl) (p_val rfl) (mc zn zb))) (p_val rfl) (nz n1.pos) (up (wide_add za4 (z440 zn zb)) (by decide)) s1.2)
      (a_cons (p_rowE (a := a + n * b) (b := b) (a' := Fadd n 1 a b) (b' := Gmul n 1 a b) (by unfold Fadd; omega) (by unfold Gmul; omega) (p_opr (p_val (n := 2) rfl) (nr e1 rfl) fun x y H3 e3 p q => by cases p; exact RVP.inr (rv_iown q n1 s1 zn15)) (p_I0l (p_val rfl) (p_Il (p_val rfl) (p_val rfl) (mc zn zb))) (p_val rfl) (nz n1.pos) (up (wide_add za4 (z440 zn zb)) (by decide)) s1.2) a_nil)) fun r H3 nr3 e3 rw3 => ?_
    have r0 : H r = none := Evl.fresh_back e1 nr3
    have e03 := e1.trans e3
    refine rows_ext (U := PD K C) (m := 2) rfl rw3 (by decide) (by decide) (a_cons (p_rowE (a := a - n * b) (b := b) (a' := Fsub a b n 1) (b' := Gmul a b n 1) (by unfold Fsub; omega) (by unfold Gmul; omega) (p_opr (nr e03 rfl) (p_val rfl) fun x y H3 e3 p q => by cases q; exact RVP.inl (rv_ownI (tw p))) (p_I0l (p_val rfl) (p_Il (p_val rfl) (p_val rfl) (mc zn zb))) (p_val rfl) (nz n1.pos) (up (wide_sub za4 (z440 zn zb)) (by decide)) s1.2)
      (a_cons (p_rowE (a := n * b - a) (b := b) (a' := Fsub n 1 a b) (b' := Gmul n 1 a b) (by unfold Fsub; omega) (by unfold Gmul; omega) (p_opr (p_val (n := 2) rfl) (nr e03 rfl) fun x y H3 e3 p q => by cases p; exact RVP.inr (rv_iown q n1 s1 zn15)) (p_I0l (p_Il (p_val rfl) (p_val rfl) (mc zn zb)) (p_val rfl)) (p_val rfl) (nz n1.pos) (up (wide_sub (z440 zn zb) za4) (by decide)) s1.2) a_nil)) fun H4 rw4 x4 => ?_
    have e04 := exb_ex r0 e03 x4
    refine rows_ext (U := PD K C) (m := 2) rfl rw4 (by decide) (by decide) (a_cons (p_rowE (a := a * n) (b := b) (a' := Fmul a b n 1) (b' := Gmul a b n 1) rfl (by unfold Gmul; omega) (p_opr (nr e04 rfl) (p_val rfl) fun x y H3 e3 p q => by cases q; exact RVP.inl (RVP.inl (rv_ownI (tw p)))) (p_Il (p_val rfl) (p_val rfl) (mc za zn)) (p_val rfl) (nz n1.pos) (up (z440 za zn) (by decide)) s1.2)
      (a_cons (p_rowE (a := a * n) (b := b) (a' := Fmul n 1 a b) (b' := Gmul n 1 a b) (Int.mul_comm n a) (by unfold Gmul; omega) (p_opr (p_val (n := 2) rfl) (nr e04 rfl) fun x y H3 e3 p q => by cases p; exact RVP.inl (RVP.inr (rv_iown q n1 s1 zn15))) (p_Il (p_val rfl) (p_val rfl) (mc za zn)) (p_val rfl) (nz n1.pos) (up (z440 za zn) (by decide)) s1.2) a_nil)) fun H5 rw5 x5 => ?_
    have e05 := exb_ex r0 e04 x5
    refine Evl.q_cut (M := fun σ' H' => σ' = [some one, some near, some (.int n), some (.int a), some (.int b), some (.ref r), none, none, none] ∧ Ex H H' ∧ Rows (PD K C) r 7 H') ?_ fun σ' H6 ⟨hσ, e06, rw6⟩ => ?_
    · refine Evl.s_when (b := !decide (n = 0)) (t_test (p_neil (p_val rfl) p_c)) (fun hb H6 e6 => ?_) fun hb H6 e6 => ?_
      · have hc : n ≠ 0 := by
          intro z
          rw [z] at hb
          cases hb
        have hbc : b * n ≠ 0 := Int.mul_ne_zero (nz n1.pos) hc
        have e06 := e05.trans e6
        refine rows_app1 rfl (Rows.mo e6 rw5) (by decide) (p_rowE (a := a) (b := b * n) (a' := a * 1) (b' := b * n) (Int.mul_one a) rfl (p_meth (nr e06 rfl) (by decide +kernel) (by decide +kernel) (a_cons (p_val (n := 2) (v := .int n) rfl) a_nil) fun v vs H1 e p ps => ?_) (p_val rfl) (p_Il (p_val rfl) (p_val rfl) (mc zb zn)) hbc s1.1 (up (z440 zb zn) (by decide))) fun H7 rw7 x7 => ⟨rfl, exb_ex r0 e06 x7, rw7⟩
        obtain ⟨v1, rfl, pv⟩ := RK.one ps
        cases pv
        exact ⟨v, .int n, a, b, n, 1, rfl, ⟨tw p, hc⟩, rfl⟩
      · exact ⟨rfl, e05.trans e6, (Rows.mo e6 rw5).le (by decide)⟩
    · subst hσ
      refine st_unless (t_not (b := true) (t_B (p_isall 7 8 _ (p_val rfl) rw6 (by decide) fun v w => ⟨rfl, rfl, rfl⟩))) fun H7 e7 => ?_
      have e07 := e06.trans e7
      have cmp : ∀ {c1 : Int → Int → Bool} {v w : V} {H1 : Hp}, IsR C a b v H1 → AllP [Is (.int n)] [w] H1 → preCmp C c1 [v, w] H1 (Is (.bl (c1 a (n * b)))) := fun {c1 v w H1} p ps => by
        cases ps.1
        refine ⟨_, _, a, b, n, 1, rfl, tw p, ?_⟩
        rw [Int.mul_one]
      have ord : ∀ x ∈ [V.bl (decide (a < n * b)), V.bl (decide (a ≤ n * b))], FlV x := by
        intro x hx
        simp only [List.mem_cons, List.not_mem_nil, or_false] at hx
        rcases hx with rfl | rfl <;> trivial
      refine st_unless (t_test (p_nesl (p_reprL [V.bl (decide (a < n * b)), V.bl (decide (a ≤ n * b))] (p_lst (a_cons (p_meth (nr e07 rfl) (by decide +kernel) (by decide +kernel) (a_cons (p_val (n := 2) (v := .int n) rfl) a_nil) fun v vs H1 e p ps => ?_) (a_cons (p_meth (nr e07 rfl) (by decide +kernel) (by decide +kernel) (a_cons (p_val (n := 2) (v := .int n) rfl) a_nil) fun v vs H1 e p ps => ?_) a_nil)) (show 2 ≤ 100000 by decide)) ord (show 2 ≤ 40 by decide))
        (p_reprL [V.bl (decide (a < n * b)), V.bl (decide (a ≤ n * b))] (p_lst (a_cons (p_I0 (p_val rfl) (p_Il (p_val rfl) (p_val rfl) (mc zn zb))) (a_cons (p_I0 (p_val rfl) (p_Il (p_val rfl) (p_val rfl) (mc zn zb))) a_nil)) (show 2 ≤ 100000 by decide)) ord (show 2 ≤ 40 by decide)))) fun H8 e8 => ?_
      · obtain ⟨v1, rfl, pv⟩ := RK.one ps
        exact cmp p ps
      · obtain ⟨v1, rfl, pv⟩ := RK.one ps
        exact cmp p ps
      have e08 := e07.trans e8
      refine st_asg (P := IsL K ((List.replicate 5 (V.bl false)).map Is)) (p_lst (a_cons (p_eqo (nr e08 rfl) (ot_int (p_val rfl)) T.kI T.nI) (a_cons (p_eqo (nr e08 rfl) (ot_str (x := shownS a b) (p_cb1 (nr e08 rfl) fun v H5 e5 p5 => .inr (rc_ownS p5 n1 s1))) T.kS T.nS) (a_cons (p_eqo (nr e08 rfl) ot_dict T.kD T.nD) (a_cons (p_eqo (nr e08 rfl) (ot_lst (a_cons (nr e08 rfl) a_nil) (show 1 ≤ 100000 by decide)) T.kL T.nL)
        (a_cons (p_eqo (nr e08 rfl) (ot_tup (a_cons (p_val rfl) (a_cons (p_val rfl) a_nil)) (show 2 ≤ 100000 by decide)) T.kT T.nTu) a_nil))))) (show 5 ≤ 100000 by decide)) fun v9 H9 e9 p9 => ?_
      have e09 := e08.trans e9
      refine st_ret (p_and (a := true) (b := true) ?_ fun _ => p_neo (nr e09 rfl) (ot_int (p_val rfl)) T.kI T.nI) fun v10 H10 e10 p10 => k v10 H10 (e09.trans e10) p10
      have fl : ∀ x ∈ List.replicate 5 (V.bl false), FlV x := fun x hx => by
        rw [List.eq_of_mem_replicate hx]
        trivial
      have a1 : EvAs (tCons (tC (.bl false)) tNil) [some one, some near, some (.int n), some (.int a), some (.int b), some (.ref r), some v9, none, none] H9 ([V.bl false].map Is) := a_cons p_c a_nil
      refine p_opr (A := IsL K ((List.replicate 5 (V.bl false)).map Is)) (B := IsL K ((List.replicate 5 (V.bl false)).map Is)) (p_var rfl p9) ?_ fun x y H11 e11 p q => RVP.inr ?_
      · exact p_rep a1 (by decide) (p_c (v := .int 5)) (by decide) (by decide) fun _ _ _ _ h => .inr (.inr h)
      · obtain ⟨c, ys, rfl, hs, hy⟩ := p
        obtain ⟨c2, zs, rfl, hs2, hy2⟩ := q
        have hy := all_is hy
        have hy2 := all_is hy2
        subst hy
        subst hy2
        exact fun Q q => ⟨_, _, .lst hs (dp_all fl), .lst hs2 (dp_all fl), rfl, rfl, q _ H11 (Ex.refl H11) rfl⟩
end
end RK
namespace RK
open PySem PySem.Spec PyProof.Rows L2
open Evl (Ex EvT)
section
variable {P : Program} {w : World} {K : PySem.W.Frag} {mg : Str → Option Value} {base : Heap} {C : Addr} {σ : L2.St} {H H' : Hp} {ta tb te : TE} {t : TA} {R U : VP} {D : Ends} {tz : TS} {Ps : List VP} {r r' : R2} {x y : V} {i j : Int}
/-! ### a pot, and what is kept beside it -/
theorem Pot.exn {p : Addr} (h : Pot H p) (e : ExB p H H') : ExN H H' := let ⟨_, _, h1, _⟩ := h; ExN.but h1 e
/-- a list at D, its i-th one a value of U i -/
def LstU (D : Addr) (n : Nat) (U : Nat → VP) (H : Hp) : Prop := ∃ xs, H D = some (.lst xs) ∧ xs.length = n ∧ ∀ i x, xs[i]? = some x → U i x H
theorem LstU.mo {d p : Addr} {n : Nat} {U : Nat → VP} [u : ∀ i, Nl (U i)] (h : LstU d n U H) (ne : d ≠ p) (hp : Pot H p) (e : ExB p H H') : LstU d n U H' :=
  let ⟨xs, h1, h2, h3⟩ := h; ⟨xs, e _ _ ne h1, h2, fun i x hx => (u i).nl (hp.exn e) (h3 i x hx)⟩
theorem LstU.ex {d : Addr} {n : Nat} {U : Nat → VP} [u : ∀ i, Nl (U i)] (h : LstU d n U H) (e : Ex H H') : LstU d n U H' :=
  let ⟨xs, h1, h2, h3⟩ := h; ⟨xs, e _ _ h1, h2, fun i x hx => (u i).nl (.of e) (h3 i x hx)⟩
/-- an item of it -/
theorem p_atU {d : Addr} {n k : Nat} {U : Nat → VP} [u : ∀ i, Nl (U i)] (ha : EvP ta σ H (Is (.ref d))) (hb : EvP tb σ H (Is (.int i))) (h : LstU d n U H) (hi : ixN n i = some k) (hk : k < n) : EvP (tOp (rIx K) ta tb) σ H (U k) :=
  p_op2 ha hb fun H1 e Q q => by
    obtain ⟨xs, h1, h2, h3⟩ := h
    have hk' : k < xs.length := by omega
    have hx := List.getElem?_eq_getElem hk'
    exact .inl ⟨d, xs, i, xs[k], rfl, rfl, SqL.of (e _ _ h1), by unfold atI; rw [h2, hi]; exact hx, q _ H1 (Ex.refl H1) ((u k).nl (.of e) (h3 k _ hx))⟩
/-- a pair drawn -/
def Dn (K : PySem.W.Frag) : VP := fun v H => ∃ t b : Int, b ≠ 0 ∧ Sz 110 t b ∧ IsT K [Is (.int t), Is (.int b)] v H
instance : Nl (Dn K) := ⟨fun e ⟨t, b, h1, h2, h3⟩ => ⟨t, b, h1, h2, Nl.nl e h3⟩⟩
theorem st_draw3 {p : Addr} {iv il : Nat} (hw : ∀ x : V, wipe ((wipe σ [iv]).set iv (some x)) [iv] = wipe σ [iv] ∧ ((wipe σ [iv]).set iv (some x))[0]? = some (some (.ref p))) (hp : Pot H p)
    (k : ∀ d xs H', d ≠ p → H d = none → H' d = some (.lst xs) → xs.length = 3 → (∀ x ∈ xs, Dn K x H') → ExB p H H' → Pot H' p → tz D (σ.set il (some (.ref d))) H') :
    tSeq (tAsg (tLc (iRng1 (tCons (tC (.int 3)) tNil)) (gName iv) tYes (tCall spNumber [] E0 (tCons (tVar 0) tNil)) [iv]) (gName il)) tz D σ H := by
  refine ⟨3, rfl, by decide, by decide, fun d hd => ?_⟩
  have dp : d ≠ p := by
    obtain ⟨_, _, h, _⟩ := hp
    exact (ne_of_none h hd).symm
  refine lc_range (fun i H' => ∃ acc, H' d = some (.lst acc) ∧ acc.length = i ∧ (∀ x ∈ acc, Dn K x H') ∧ ExB p H H' ∧ Pot H' p) ⟨[], upd_same, rfl, fun x hx => (nomatch hx), .of (Ex.new hd), Pot.mo (Ex.new hd) hp⟩ (fun i H1 hi q => ?_) fun H1 q => ?_
  · obtain ⟨acc, h1, h2, h3, h4, h5⟩ := q
    refine ⟨(hw _).1, ?_⟩
    refine yes_k ?_
    refine iteT ?_
    refine ⟨.ref p, (hw _).2, p, rfl, h5, fun a t b H2 q1 q2 q3 q4 q5 => ?_⟩
    have hd2 := q4 _ _ dp h1
    have hi3 : i < 3 := hi
    have en : ExN H2 (upd H2 d (.lst (acc ++ [.ref a]))) := ExN.but hd2 exb_upd
    refine ⟨acc, hd2, Evl.sz_lt (by omega), acc ++ [.ref a], upd_same, by rw [List.length_append, h2]; rfl, fun x hx => ?_, fun c o nc hc => ?_, ?_⟩
    · rcases List.mem_append.mp hx with hx | hx
      · exact Nl.nl en (Nl.nl (h5.exn q4) (h3 x hx))
      · rw [List.mem_singleton.mp hx]
        exact Nl.nl en ⟨t, b, q2, q3, a, _, rfl, SqT.of q1, rfl, rfl, trivial⟩
    · rw [upd_ne (ne_of_none hc hd)]
      exact q4 _ _ nc (h4 _ _ nc hc)
    · obtain ⟨n, s, z1, z2⟩ := q5
      refine ⟨n, s, ?_, z2⟩
      rw [upd_ne (fun z => dp z.symm)]
      exact z1
  · obtain ⟨acc, h1, h2, h3, h4, h5⟩ := q
    exact k d acc H1 dp hd h1 h2 h3 h4 h5
/-- what was drawn, by its place -/
theorem dn_fun {xs : List V} (h : ∀ x ∈ xs, Dn K x H) : ∃ ts bs : Nat → Int, (∀ i x, xs[i]? = some x → IsT K [Is (.int (ts i)), Is (.int (bs i))] x H) ∧ ∀ i, bs i ≠ 0 ∧ Sz 110 (ts i) (bs i) := by
  have one : ∀ i : Nat, ∃ y : Int × Int, (∀ x, xs[i]? = some x → IsT K [Is (.int y.1), Is (.int y.2)] x H) ∧ y.2 ≠ 0 ∧ Sz 110 y.1 y.2 := by
    intro i
    cases e : xs[i]? with
    | none => exact ⟨(0, 1), fun x hx => (nomatch hx), by decide, by decide +kernel, by decide +kernel⟩
    | some x =>
      obtain ⟨t, b, h1, h2, h3⟩ := h x (List.mem_of_getElem? e)
      exact ⟨(t, b), fun y hy => by cases hy; exact h3, h1, h2⟩
  obtain ⟨f, hf⟩ := Classical.axiomOfChoice one
  exact ⟨fun i => (f i).1, fun i => (f i).2, fun i => (hf i).1, fun i => (hf i).2⟩
/-! ### C from keywords -/
theorem p_mkk {a b : Int} (h : EvAs t σ H [Is (.int b), Is (.int a)]) (hb : b ≠ 0) (hz : b.natAbs < 2 ^ 4000) : EvP (tMakeK C 0 2 (spInit C) (fun vs zs => vs ++ zs.reverse) E0 tNil t) σ H (IsR C (nt a b) (nd a b)) := fun H1 e Q q => h H1 e _ fun vs H2 e2 ps => by
  obtain ⟨v, w, rfl, rfl, rfl⟩ := two ps
  exact ⟨rfl, rfl, fun x dx nx nd0 ne => made nx nd0 ne hb hz fun v H3 e3 p => q v H3 (e2.trans e3) p⟩
/-! ### sums and products -/
def times (x y : Fr2) : Fr2 := (nt (x.1 * y.1) (x.2 * y.2), nd (x.1 * y.1) (x.2 * y.2))
def ovr (x y : Fr2) : Fr2 := (nt (x.1 * y.2) (x.2 * y.1), nd (x.1 * y.2) (x.2 * y.1))
def minus (x y : Fr2) : Fr2 := (nt (x.1 * y.2 - y.1 * x.2) (x.2 * y.2), nd (x.1 * y.2 - y.1 * x.2) (x.2 * y.2))
theorem good_times {n m : Nat} {x y : Fr2} (hx : Good n x) (hy : Good m y) : Good (n + m) (times x y) := good_of (ne_mul hx.nm.pos hy.nm.pos) (wide_lt hx.sz.1 hy.sz.1) (wide_lt hx.sz.2 hy.sz.2)
theorem good_ovr {n m : Nat} {x y : Fr2} (hx : Good n x) (hy : Good m y) (h : y.1 ≠ 0) : Good (n + m) (ovr x y) := good_of (Int.mul_ne_zero (nz hx.nm.pos) h) (wide_lt hx.sz.1 hy.sz.2) (wide_lt hx.sz.2 hy.sz.1)
def IsF (C : Addr) (x : Fr2) : VP := IsR C x.1 x.2
instance {x : Fr2} : Nl (IsF C x) := inferInstanceAs (Nl (IsR C x.1 x.2))
theorem two_f {n m : Nat} {x y : Fr2} {v w : V} (hx : Good n x) (hy : Good m y) (hn : n ≤ 1500) (hm : m ≤ 1500) (p : IsF C x v H) (q : IsN C y.1 y.2 w H) : Two C v w H x.1 x.2 y.1 y.2 := ⟨p, q, hx.nm, hy.nm, sz_mono hx.sz hn, sz_mono hy.sz hm⟩
theorem f_add {n m : Nat} {x y : Fr2} (ha : EvP ta σ H (IsF C x)) (hb : EvP tb σ H (IsF C y)) (hx : Good n x) (hy : Good m y) (hn : n ≤ 1500 := by decide) (hm : m ≤ 1500 := by decide) : EvP (tOp (fun x y H Q => rOwn C (mkSp (preOp C Fadd Gmul)) E0 x y H Q ∨ r' x y H Q) ta tb) σ H (IsF C (plus x y)) :=
  p_op ha hb fun v w H1 e p q => RVP.inl (rv_own (two_f hx hy hn hm p (.inl q)) q)
theorem f_addI {n : Nat} {x : Fr2} {i : Int} (ha : EvP ta σ H (IsF C x)) (hb : EvP tb σ H (Is (.int i))) (hx : Good n x) (zi : i.natAbs < 2 ^ 1500) (hn : n ≤ 1500 := by decide) : EvP (tOp (fun x y H Q => r x y H Q ∨ (rOwnI C (mkSp (preOp C Fadd Gmul)) E0 x y H Q ∨ r' x y H Q)) ta tb) σ H (IsF C (plus x (i, 1))) :=
  p_op ha hb fun v w H1 e p q => RVP.inr (RVP.inl (by
    cases q
    exact rv_ownI (⟨p, .inr ⟨rfl, rfl⟩, hx.nm, nm1, sz_mono hx.sz hn, ⟨zi, z1⟩⟩ : Two C v (.int i) H1 x.1 x.2 i 1)))
theorem f_mul {n m : Nat} {x y : Fr2} (ha : EvP ta σ H (IsF C x)) (hb : EvP tb σ H (IsF C y)) (hx : Good n x) (hy : Good m y) (hn : n ≤ 1500 := by decide) (hm : m ≤ 1500 := by decide) : EvP (tOp (fun x y H Q => rOwn C (mkSp (preOp C Fmul Gmul)) E0 x y H Q ∨ r' x y H Q) ta tb) σ H (IsF C (times x y)) :=
  p_op ha hb fun v w H1 e p q => RVP.inl (rv_own (two_f hx hy hn hm p (.inl q)) q)
theorem f_mulI {n : Nat} {x : Fr2} {i : Int} (ha : EvP ta σ H (IsF C x)) (hb : EvP tb σ H (Is (.int i))) (hx : Good n x) (zi : i.natAbs < 2 ^ 1500) (hn : n ≤ 1500 := by decide) : EvP (tOp (fun x y H Q => r x y H Q ∨ rOwnI C (mkSp (preOp C Fmul Gmul)) E0 x y H Q) ta tb) σ H (IsF C (times x (i, 1))) :=
  p_op ha hb fun v w H1 e p q => RVP.inr (by
    cases q
    exact rv_ownI (⟨p, .inr ⟨rfl, rfl⟩, hx.nm, nm1, sz_mono hx.sz hn, ⟨zi, z1⟩⟩ : Two C v (.int i) H1 x.1 x.2 i 1))
theorem f_sub {n m : Nat} {x y : Fr2} (ha : EvP ta σ H (IsF C x)) (hb : EvP tb σ H (IsF C y)) (hx : Good n x) (hy : Good m y) (hn : n ≤ 1500 := by decide) (hm : m ≤ 1500 := by decide) : EvP (tOp (fun x y H Q => r x y H Q ∨ rOwn C (mkSp (preOp C Fsub Gmul)) E0 x y H Q) ta tb) σ H (IsF C (minus x y)) :=
  p_op ha hb fun v w H1 e p q => RVP.inr (rv_own (two_f hx hy hn hm p (.inl q)) q)
/-- == of two told alike -/
theorem f_eq {x y : Fr2} (T : T1 K mg C) (nC : PySem.W.notFirst K C (.ref C) = true) (ha : EvP ta σ H (IsF C x)) (hb : EvP tb σ H (IsF C y)) (e : x = y) : EvP (tOp (rOwnEq K C (mkSp (preEq K C)) E0) ta tb) σ H (IsB true) :=
  (p_op ha hb fun v w H1 e1 p q => rv_eq T p q nC).imp fun v H1 _ p => by
    subst e
    rw [decide_eq_true rfl, decide_eq_true rfl] at p
    exact p
theorem f_eqd {x y : Fr2} (T : T1 K mg C) (nC : PySem.W.notFirst K C (.ref C) = true) (ha : EvP ta σ H (IsF C x)) (hb : EvP tb σ H (IsF C y)) : EvP (tOp (rOwnEq K C (mkSp (preEq K C)) E0) ta tb) σ H (Is (.bl (decide (x.1 = y.1) && decide (x.2 = y.2)))) :=
  p_op ha hb fun v w H1 e1 p q => rv_eq T p q nC
theorem f_ne {x y : Fr2} (T : T1 K mg C) (nC : PySem.W.notFirst K C (.ref C) = true) (ha : EvP ta σ H (IsF C x)) (hb : EvP tb σ H (IsF C y)) (e : x = y) : EvP (tOp (rOwnNe K C (mkSp (preEq K C)) E0) ta tb) σ H (Is (.bl false)) :=
  (p_op ha hb fun v w H1 e1 p q => rv_ne T p q nC).imp fun v H1 _ p => by
    subst e
    rw [decide_eq_true rfl, decide_eq_true rfl] at p
    exact p
/-! ### totals -/
def SeqN (C : Addr) (ys : List Fr2) : VP := fun v H => ∃ a xs, v = .ref a ∧ (H a = some (.lst xs) ∨ H a = some (.tup xs)) ∧ AllP (ys.map fun y => IsN C y.1 y.2) xs H
instance {ys : List Fr2} : Mo (SeqN C ys) := ⟨fun e ⟨a, xs, h1, h2, h3⟩ => ⟨a, xs, h1, h2.imp (e _ _) (e _ _), MoL.mo e h3⟩⟩
theorem seq_lst {ys : List Fr2} (h : EvAs t σ H (ys.map fun y => IsN C y.1 y.2)) (hl : ys.length ≤ 4) : EvP (tLst t) σ H (SeqN C ys) := fun H1 e Q q =>
  n_lst h (by rw [List.length_map]; omega) H1 e Q fun r xs H2 _ e2 hr ps => q _ H2 e2 ⟨r, xs, rfl, .inl hr, ps⟩
theorem p_tot {ys : List Fr2} (h : EvP te σ H (SeqN C ys)) (hl : ys.length ≤ 4) (hg : ∀ y ∈ ys, Good 300 y) : EvP (ClX.tCMeth C (fun vs H Q E => mkSp (preTot K C) (vs ++ []) H Q E) E0 (tC (.ref C)) (tCons te tNil)) σ H (IsF C (sumF ys (0, 1))) := fun H1 e Q q =>
  ⟨rfl, h H1 e _ fun v H2 e2 p => by
    obtain ⟨a, xs, rfl, h1, h2⟩ := p
    exact ⟨_, ⟨a, xs, ys, rfl, h1.imp (fun z => ⟨xs, z, rfl⟩) id, h2, hl, hg, rfl⟩, fun v H3 e3 p => q v H3 (e2.trans e3) p⟩⟩
theorem p_totK {ys : List Fr2} (h : EvP te σ H (SeqN C ys)) (hl : ys.length ≤ 4) (hg : ∀ y ∈ ys, Good 300 y) : EvP (tCMethK C 1 (mkSp (preTot K C)) (fun vs zs => vs ++ zs) E0 (tC (.ref C)) (tCons te tNil)) σ H (IsF C (sumF ys (0, 1))) := fun H1 e Q q =>
  ⟨rfl, h H1 e _ fun v H2 e2 p => by
    obtain ⟨a, xs, rfl, h1, h2⟩ := p
    exact ⟨rfl, _, ⟨a, xs, ys, rfl, h1.imp (fun z => ⟨xs, z, rfl⟩) id, h2, hl, hg, rfl⟩, fun v H3 e3 p => q v H3 (e2.trans e3) p⟩⟩
/-! ### the rules -/
theorem plus_assoc {x y z : Fr2} (hx : Nm x.1 x.2) (hy : Nm y.1 y.2) (hz : Nm z.1 z.2) : plus (plus x y) z = plus x (plus y z) := Prod.ext (assoc hx hy hz).1 (assoc hx hy hz).2
theorem times_plus {x y z : Fr2} (hx : Nm x.1 x.2) (hy : Nm y.1 y.2) (hz : Nm z.1 z.2) : times x (plus y z) = plus (times x y) (times x z) := Prod.ext (distr hx hy hz).1 (distr hx hy hz).2
theorem ovr_times {x y : Fr2} (hx : Nm x.1 x.2) (hy : Nm y.1 y.2) (h : y.1 ≠ 0) : times (ovr x y) y = x := Prod.ext (over_times hx hy h).1 (over_times hx hy h).2
theorem minus_same {x : Fr2} (hx : Nm x.1 x.2) : minus x x = (0, 1) := Prod.ext (minus_self hx).1 (minus_self hx).2
theorem times_whole {x : Fr2} (hx : Nm x.1 x.2) : times x (1, 1) = x := Prod.ext (times_one hx).1 (times_one hx).2
theorem plus_zero {x : Fr2} (hx : Nm x.1 x.2) : plus (0, 1) x = x := Prod.ext (zero_plus hx).1 (zero_plus hx).2
end
end RK
namespace RK
open PySem PySem.Spec PyProof.Rows L2
open Evl (Ex EvT)
section
variable {P : Program} {w : World} {K : PySem.W.Frag} {mg : Str → Option Value} {base : Heap} {C : Addr} {σ : L2.St} {H H' : Hp} {ta tb te : TE} {t : TA} {R U : VP} {D : Ends} {tz : TS} {Ps : List VP} {r r' : R2} {x y : V} {i j : Int}
structure TR (P : Program) (w : World) (K : PySem.W.Frag) (mg : Str → Option Value) (base : Heap) (C : Addr) : Prop extends TP P w K mg base C where
  law_pair_right : CalG P w K mg base 8 "_law_pair_right" (mkSp (prePair K C))
  law_whole_right : CalG P w K mg base 8 "_law_whole_right" (mkSp (preWhole K C))
def spRight : Sp := fun vs H Q _ => ∃ p : Addr, vs = [.ref p] ∧ Pot H p ∧ ∀ H', ExB p H H' → Pot H' p → Q (.bl true) H'
/-- what is kept beside the pot -/
structure Sts (K : PySem.W.Frag) (C p d dp ds : Addr) (ts bs : Nat → Int) (H : Hp) : Prop where
  pot : Pot H p
  dr : LstU d 3 (fun i => IsT K [Is (.int (ts i)), Is (.int (bs i))]) H
  pr : LstU dp 3 (fun i => IsT K [Is (.int (nt (ts i) (bs i))), Is (.int (nd (ts i) (bs i)))]) H
  so : LstU ds 3 (fun i => IsR C (nt (ts i) (bs i)) (nd (ts i) (bs i))) H
theorem Sts.mo {p d dp ds : Addr} {ts bs : Nat → Int} (h : Sts K C p d dp ds ts bs H) (n1 : d ≠ p) (n2 : dp ≠ p) (n3 : ds ≠ p) (e : ExB p H H') (hp : Pot H' p) : Sts K C p d dp ds ts bs H' := ⟨hp, h.dr.mo n1 h.pot e, h.pr.mo n2 h.pot e, h.so.mo n3 h.pot e⟩
theorem Sts.ex {p d dp ds : Addr} {ts bs : Nat → Int} (h : Sts K C p d dp ds ts bs H) (e : Ex H H') : Sts K C p d dp ds ts bs H' := ⟨h.pot.mo e, h.dr.ex e, h.pr.ex e, h.so.ex e⟩
theorem st_evl {i n : Nat} {U : Nat → VP} (h : EvL te σ H n U) (k : ∀ d H', H d = none → Ex H H' → LstU d n U H' → tz D (σ.set i (some (.ref d))) H') : tSeq (tAsg te (gName i)) tz D σ H :=
  h H (Ex.refl H) (fun v H1 => gName i v σ H1 (tz D)) fun r xs H2 hn e2 h1 h2 h3 => k r H2 hn e2 ⟨xs, h1, h2, h3⟩
/-- [.. for a, b in a list of pairs] -/
theorem lc_pairs {d : Addr} {n : Nat} {xf yf : Nat → V} {U : Nat → VP} {l i j : Nat} (hU : ∀ i, Nl (U i)) (hl : σ[l]? = some (some (.ref d))) (h : LstU d n (fun i => IsT K [Is (xf i), Is (yf i)]) H) (hn : n ≤ 40000)
    (hσ : ∀ v w : V, wipe (((wipe σ [i, j]).set i (some v)).set j (some w)) [i, j] = wipe σ [i, j])
    (k : ∀ m H', m < n → Ex H H' → EvP te (((wipe σ [i, j]).set i (some (xf m))).set j (some (yf m))) H' (U m)) :
    EvL (tLc (iList K (tVar l)) (gTup K 2 (gCons (gName i) (gCons (gName j) gNil))) tYes te [i, j]) σ H n U := by
  obtain ⟨xs, h1, rfl, h3⟩ := h
  refine lc_of_list (p_val hl) (SqL.of h1) hU hn fun m x H2 hx e2 Q go => ?_
  obtain ⟨a, ys, rfl, hs, hy⟩ := (Mo.mo e2 (h3 m x hx) : IsT K [Is (xf m), Is (yf m)] x H2)
  obtain ⟨v, w, rfl, rfl, rfl⟩ := two hy
  exact ⟨a, _, rfl, hs, rfl, _, [_], rfl, _, [], rfl, rfl, go _ H2 (hσ _ _) (Ex.refl H2) (k m H2 (List.getElem?_eq_some_iff.mp hx).1 e2)⟩
theorem four {P1 P2 P3 P4 : VP} {vs : List V} (h : AllP [P1, P2, P3, P4] vs H) : ∃ a b c d, vs = [a, b, c, d] ∧ P1 a H ∧ P2 b H ∧ P3 c H ∧ P4 d H := by
  match vs, h with
  | [a, b, c, d], ⟨h1, h2, h3, h4, _⟩ => exact ⟨a, b, c, d, rfl, h1, h2, h3, h4⟩
theorem Sts.at_pr {p d dp ds : Addr} {ts bs : Nat → Int} {k : Nat} (h : Sts K C p d dp ds ts bs H) (ha : EvP ta σ H (Is (.ref dp))) (hb : EvP tb σ H (Is (.int i))) (hi : ixN 3 i = some k) (hk : k < 3) : EvP (tOp (rIx K) ta tb) σ H (IsT K [Is (.int (nt (ts k) (bs k))), Is (.int (nd (ts k) (bs k)))]) := p_atU ha hb h.pr hi hk
theorem Sts.at_so {p d dp ds : Addr} {ts bs : Nat → Int} {k : Nat} (h : Sts K C p d dp ds ts bs H) (ha : EvP ta σ H (Is (.ref ds))) (hb : EvP tb σ H (Is (.int i))) (hi : ixN 3 i = some k) (hk : k < 3) : EvP (tOp (rIx K) ta tb) σ H (IsR C (nt (ts k) (bs k)) (nd (ts k) (bs k))) := p_atU ha hb h.so hi hk
theorem Sts.at_dr {p d dp ds : Addr} {ts bs : Nat → Int} {k : Nat} (h : Sts K C p d dp ds ts bs H) (ha : EvP ta σ H (Is (.ref d))) (hb : EvP tb σ H (Is (.int i))) (hi : ixN 3 i = some k) (hk : k < 3) : EvP (tOp (rIx K) ta tb) σ H (IsT K [Is (.int (ts k)), Is (.int (bs k))]) := p_atU ha hb h.dr hi hk
theorem ix3 {i : Nat} (h : i < 3) : ixN 3 (i : Int) = some i ∧ ixN 3 ((i : Int) - 1) = some ((i + 2) % 3) := by
  have : i = 0 ∨ i = 1 ∨ i = 2 := by omega
  rcases this with rfl | rfl | rfl <;> exact ⟨rfl, rfl⟩
theorem st_unp3 {d : Addr} {l i j m : Nat} {U : Nat → VP} (hl : σ[l]? = some (some (.ref d))) (h : LstU d 3 U H)
    (k : ∀ u v w, H d = some (.lst [u, v, w]) → U 0 u H → U 1 v H → U 2 w H → tz D (((σ.set i (some u)).set j (some v)).set m (some w)) H) : tSeq (tAsg (tVar l) (gLst K 3 (gCons (gName i) (gCons (gName j) (gCons (gName m) gNil))))) tz D σ H := by
  obtain ⟨xs, h1, h2, h3⟩ := h
  match xs, h2 with
  | [u, v, w], _ => exact ⟨_, hl, d, _, rfl, SqL.of h1, rfl, u, _, rfl, v, _, rfl, w, _, rfl, rfl, k u v w h1 (h3 0 u rfl) (h3 1 v rfl) (h3 2 w rfl)⟩
theorem st_draw {p : Addr} {i l : Nat} {m c : Int} (hi : σ[i]? = some (some (.ref p))) (hp : Pot H p) (h0 : 0 < m) (h1 : m < 1073741824) (k : ∀ n H', 0 ≤ n → n < m → ExB p H H' → Pot H' p → tz D (σ.set l (some (.int (n - c)))) H') :
    tSeq (tAsg (tOp (fun x y H Q => rI0 (fun i j => V.int (i - j)) x y H Q ∨ r' x y H Q) (tCall spDraw [] E0 (tCons (tVar i) (tCons (tC (.int m)) tNil))) (tC (.int c))) (gName l)) tz D σ H :=
  d_draw hi hp p_c h0 h1 fun n H' b1 b2 x7 hp7 => .inl ⟨n, c, rfl, rfl, k n H' b1 b2 x7 hp7⟩
theorem seq_tup {x0 x1 x2 : Fr2} {u v w : V} {ds : Addr} {n : Int} {l m : Nat} {r1 r2 : R2} (hl : σ[l]? = some (some (.ref ds))) (hm : σ[m]? = some (some (.int n))) (h : H ds = some (.lst [u, v, w])) (h0 : IsF C x0 u H) (h1 : IsF C x1 v H) (h2 : IsF C x2 w H) :
    EvP (tCB (fun xs H Q => ∃ p ys, xs = [.ref p] ∧ ((SqL K H p ys ∧ ∀ l, H l = none → Q (.ref l) (upd H l (.tup ys))) ∨ (SqT K H p ys ∧ Q (.ref p) H))) (tCons (tOp (fun x y H Q => r1 x y H Q ∨ (r2 x y H Q ∨ rCat x y H Q)) (tVar l) (tLst (tCons (tVar m) tNil))) tNil)) σ H (SeqN C [x0, x1, x2, (n, 1)]) := fun H1 e Q q => by
  refine ⟨_, hl, _, hm, (show 1 ≤ sizeLine by decide), fun b hb => .inr (.inr ⟨ds, b, [u, v, w], [.int n], rfl, rfl, (Ex.new hb) _ _ (e _ _ h), upd_same, (show 4 ≤ sizeLine by decide), fun c hc => ⟨c, _, rfl, .inl ⟨SqL.of upd_same, fun l2 hl2 => ?_⟩⟩⟩)⟩
  have e2 := ((Ex.new (o := .lst [.int n]) hb).trans (Ex.new (o := .lst ([u, v, w] ++ [.int n])) hc)).trans (Ex.new (o := .tup ([u, v, w] ++ [.int n])) hl2)
  have e3 := e.trans e2
  exact q _ _ e2 ⟨l2, _, rfl, .inr upd_same, .inl (Mo.mo e3 h0), .inl (Mo.mo e3 h1), .inl (Mo.mo e3 h2), .inr ⟨rfl, rfl⟩, trivial⟩
theorem p_is {v1 : Int} {b1 : Int} (ha : EvP ta σ H (IsR C v1 b1)) (hb : EvP tb σ H (IsT K [Is (.int v1), Is (.int b1)])) (n : Nm v1 b1) (s : Sz 1500 v1 b1) : EvP (tCall (mkSp (preIs K C)) [] E0 (tCons ta (tCons tb tNil))) σ H (IsB true) :=
  p_call (a_cons ha (a_cons hb a_nil)) fun vs H3 e3 ps => by
    obtain ⟨v, w, rfl, hv, hw⟩ := two ps
    exact ⟨v, w, v1, b1, rfl, hv, hw, n, s, rfl⟩
theorem ok_right {f : Addr} {fd : FuncData} (F : Fun K "_law_right" "_law_right" sright f fd) (T : TR P w K mg base C) : FnG P w K mg base 9 f ["_law_pot_here"] spRight := by
  refine fnG_of F scright (fun vs H Q E h => ?_) (fun cdv A outer s H vs Q hr hG h => ?_)
  · obtain ⟨p, rfl, _⟩ := h
    rfl
  · obtain ⟨p, rfl, hp, k⟩ := h
    have hu : (A.deeper (envOfC "_law_right" (defScope sright) s.heap.objs.size f cdv)).units + 64 < cLine := hr.units
    refine ⟨_, (pss_cons (ps_setLc (i := 1) (own := [("_law_turn", 10)]) rfl scright.nd rfl rfl (sw_true rfl rfl rfl (by decide +kernel)) (pi_range1 rfl T.z_range (pa_cons pe_int pa_nil)) (blkOk_by (N := scrightN) (sc := defScope sright) (by decide +kernel)) (fun _ _ _ _ _ => (pg_name (i := 10) scright.nd rfl (Or.inl rfl))) (fun _ _ _ _ _ => pts_nil) (fun _ _ _ _ _ => (pe_cg T.law_number hr (by decide) hG rfl (pa_cons (pv 0) pa_nil))))
      (pss_cons (ps_setLc (i := 2) (g := gTup K 2 (gCons (gName 11) (gCons (gName 12) gNil))) (own := [("_law_top", 11), ("_law_bottom", 12)]) rfl scright.nd rfl rfl (sw_true rfl rfl rfl (by decide +kernel)) (pi_list (pv 1)) (blkOk_by (N := scrightN) (sc := defScope sright) (by decide +kernel)) (fun _ _ _ _ _ => (pg_tup rfl (pgs_cons (pg_name (i := 11) scright.nd rfl (Or.inl rfl)) (pgs_cons (pg_name (i := 12) scright.nd rfl (Or.inl rfl)) pgs_nil)))) (fun _ _ _ _ _ => pts_nil) (fun _ _ _ _ _ => (pe_cg T.law_low hr (by decide) hG rfl (pa_cons (pv 11) (pa_cons (pv 12) pa_nil)))))
      (pss_cons (ps_setLc (i := 3) (g := gTup K 2 (gCons (gName 11) (gCons (gName 12) gNil))) (own := [("_law_top", 11), ("_law_bottom", 12)]) rfl scright.nd rfl rfl (sw_true rfl rfl rfl (by decide +kernel)) (pi_list (pv 1)) (blkOk_by (N := scrightN) (sc := defScope sright) (by decide +kernel)) (fun _ _ _ _ _ => (pg_tup rfl (pgs_cons (pg_name (i := 11) scright.nd rfl (Or.inl rfl)) (pgs_cons (pg_name (i := 12) scright.nd rfl (Or.inl rfl)) pgs_nil)))) (fun _ _ _ _ _ => pts_nil) (fun _ _ _ _ _ => (pe_mko T.mk2 (hr.mono (by decide)) rfl (pa_cons (pv 11) (pa_cons (pv 12) pa_nil)))))
      (pss_cons (ps_if (pt_not (pt_val (pe_callB (cr_all rfl) rfl T.z_all boot_all (pa_cons (pe_lc (g := gTup K 2 (gCons (gName 13) (gCons (gName 14) gNil))) (own := [("_law_told", 13), ("_law_pair", 14)]) rfl scright.nd (pi_zip rfl T.z_zip (pa_cons (pv 3) (pa_cons (pv 2) pa_nil))) (blkOk_by (N := scrightN) (sc := defScope sright) (by decide +kernel)) (fun _ _ _ _ _ => (pg_tup rfl (pgs_cons (pg_name (i := 13) scright.nd rfl (Or.inl rfl)) (pgs_cons (pg_name (i := 14) scright.nd rfl (Or.inl rfl)) pgs_nil)))) (fun _ _ _ _ _ => pts_nil) (fun _ _ _ _ _ => (pe_cg T.law_is hr (by decide) hG rfl (pa_cons (pv 13) (pa_cons (pv 14) pa_nil))))) pa_nil)))) (pss_one (ps_ret pe_bl)) pss_nil)
      (pss_cons (ps_if (pt_cmpR (op_no T.at_eq T.ne (hr.mono (by decide))) (pe_mkk T.mkk (hr.mono (by decide)) rfl (pk_cons (pe_ix ix_seq (pe_ix ix_seq (pv 1) pe_int (fun _ _ => rfl)) pe_int (fun _ _ => rfl)) (pk_cons (pe_ix ix_seq (pe_ix ix_seq (pv 1) pe_int (fun _ _ => rfl)) pe_int (fun _ _ => rfl)) pk_nil))) (pe_ix ix_seq (pv 3) pe_int (fun _ _ => rfl)) (nomark _)) (pss_one (ps_ret pe_bl)) pss_nil)
      (pss_cons (ps_for PassesOwn.never rfl (pi_range1 rfl T.z_range (pa_cons pe_int pa_nil)) (pg_name (i := 4) scright.nd rfl (Or.inl rfl)) (pss_cons (ps_if (pt_not (pt_val (pe_cg T.law_pair_right hr (by decide) hG rfl (pa_cons (pe_ix ix_seq (pv 2) (pv 4) (fun _ _ => rfl)) (pa_cons (pe_ix ix_seq (pv 2) (pe_op (OpR.or op_sub (op_oo T.o_sub (hr.mono (by decide)))) (pv 4) pe_int) (fun _ _ => rfl)) (pa_cons (pe_ix ix_seq (pv 3) (pv 4) (fun _ _ => rfl)) (pa_cons (pe_ix ix_seq (pv 3) (pe_op (OpR.or op_sub (op_oo T.o_sub (hr.mono (by decide)))) (pv 4) pe_int) (fun _ _ => rfl)) pa_nil))))))) (pss_one (ps_ret pe_bl)) pss_nil)
      (pss_one (ps_if (pt_not (pt_val (pe_cg T.law_whole_right hr (by decide) hG rfl (pa_cons (pe_ix ix_seq (pv 2) (pv 4) (fun _ _ => rfl)) (pa_cons (pe_ix ix_seq (pv 3) (pv 4) (fun _ _ => rfl)) (pa_cons (pe_op (OpR.or op_sub (op_oo T.o_sub (hr.mono (by decide)))) (pe_cg T.law_draw hr (by decide) hG rfl (pa_cons (pv 0) (pa_cons pe_int pa_nil))) pe_int) pa_nil)))))) (pss_one (ps_ret pe_bl)) pss_nil))))
      (pss_cons (ps_asg (pv 3) (pg_lst rfl (pgs_cons (pg_name (i := 5) scright.nd rfl (Or.inl rfl)) (pgs_cons (pg_name (i := 6) scright.nd rfl (Or.inl rfl)) (pgs_cons (pg_name (i := 7) scright.nd rfl (Or.inl rfl)) pgs_nil)))))
      (pss_cons (ps_set (i := 8) scright.nd rfl (Or.inl rfl) (pe_op (OpR.or op_sub (op_oo T.o_sub (hr.mono (by decide)))) (pe_cg T.law_draw hr (by decide) hG rfl (pa_cons (pv 0) (pa_cons pe_int pa_nil))) pe_int))
      (pss_cons (ps_set (i := 9) scright.nd rfl (Or.inl rfl) (pe_lst (pa_cons (pe_cmpR (op_eo T.at_eq (hr.mono (by decide))) (pe_op (OpR.or (op_oo T.o_add (hr.mono (by decide))) (OpR.or (op_oi T.oi_add (hr.mono (by decide))) op_cat)) (pe_op (OpR.or (op_oo T.o_add (hr.mono (by decide))) (OpR.or (op_oi T.oi_add (hr.mono (by decide))) op_cat)) (pv 5) (pv 6)) (pv 7)) (pe_op (OpR.or (op_oo T.o_add (hr.mono (by decide))) (OpR.or (op_oi T.oi_add (hr.mono (by decide))) op_cat)) (pv 5) (pe_op (OpR.or (op_oo T.o_add (hr.mono (by decide))) (OpR.or (op_oi T.oi_add (hr.mono (by decide))) op_cat)) (pv 6) (pv 7))) (nomark _)) (pa_cons (pe_cmpR (op_eo T.at_eq (hr.mono (by decide))) (pe_op (OpR.or (op_oo T.o_mul (hr.mono (by decide))) (op_oi T.oi_mul (hr.mono (by decide)))) (pv 5) (pe_op (OpR.or (op_oo T.o_add (hr.mono (by decide))) (OpR.or (op_oi T.oi_add (hr.mono (by decide))) op_cat)) (pv 6) (pv 7))) (pe_op (OpR.or (op_oo T.o_add (hr.mono (by decide))) (OpR.or (op_oi T.oi_add (hr.mono (by decide))) op_cat)) (pe_op (OpR.or (op_oo T.o_mul (hr.mono (by decide))) (op_oi T.oi_mul (hr.mono (by decide)))) (pv 5) (pv 6)) (pe_op (OpR.or (op_oo T.o_mul (hr.mono (by decide))) (op_oi T.oi_mul (hr.mono (by decide)))) (pv 5) (pv 7))) (nomark _)) pa_nil))))
      (pss_cons (ps_expr (pe_bm PySem.F.plainAttrs_list PySem.F.slot_list_extend PySem.F.type_list_extend mt_extend (pv 9) (pa_cons (pe_lst (pa_cons (pe_cmpR (op_eo T.at_eq (hr.mono (by decide))) (pe_op (OpR.or op_sub (op_oo T.o_sub (hr.mono (by decide)))) (pv 5) (pv 5)) (pe_mko T.mk1 (hr.mono (by decide)) rfl (pa_cons pe_int pa_nil)) (nomark _)) (pa_cons (pe_cmpR (op_eo T.at_eq (hr.mono (by decide))) (pe_op (OpR.or (op_oo T.o_mul (hr.mono (by decide))) (op_oi T.oi_mul (hr.mono (by decide)))) (pv 5) pe_int) (pv 5) (nomark _)) pa_nil))) pa_nil)))
      (pss_cons (ps_expr (pe_bm PySem.F.plainAttrs_list PySem.F.slot_list_append PySem.F.type_list_append mt_append (pv 9) (pa_cons (pe_or (pe_cmpR (op_eo T.at_eq (hr.mono (by decide))) (pv 6) (pe_mko T.mk1 (hr.mono (by decide)) rfl (pa_cons pe_int pa_nil)) (nomark _)) (pe_one (pe_cmpR (op_eo T.at_eq (hr.mono (by decide))) (pe_op (OpR.or (op_oo T.o_mul (hr.mono (by decide))) (op_oi T.oi_mul (hr.mono (by decide)))) (pe_mo T.over T.cl (hr.mono (by decide)) (pv 5) (pa_cons (pv 6) pa_nil)) (pv 6)) (pv 5) (nomark _)))) pa_nil)))
      (pss_cons (ps_expr (pe_bm PySem.F.plainAttrs_list PySem.F.slot_list_append PySem.F.type_list_append mt_append (pv 9) (pa_cons (pe_and (pe_mo T.is_at_most T.cl (hr.mono (by decide)) (pv 5) (pa_cons (pv 5) pa_nil)) (pe_one (pe_not (pe_mo T.is_below T.cl (hr.mono (by decide)) (pv 5) (pa_cons (pe_op (OpR.or (op_oo T.o_mul (hr.mono (by decide))) (op_oi T.oi_mul (hr.mono (by decide)))) (pv 5) pe_int) pa_nil))))) pa_nil)))
      (pss_cons (ps_expr (pe_bm PySem.F.plainAttrs_list PySem.F.slot_list_append PySem.F.type_list_append mt_append (pv 9) (pa_cons (pe_cmpR (op_eo T.at_eq (hr.mono (by decide))) (pe_cmo T.total (hr.mono (by decide)) (pe_glob (v := .ref C) rfl T.mgC rfl) (pa_cons (pv 3) pa_nil)) (pe_op (OpR.or (op_oo T.o_add (hr.mono (by decide))) (OpR.or (op_oi T.oi_add (hr.mono (by decide))) op_cat)) (pe_op (OpR.or (op_oo T.o_add (hr.mono (by decide))) (OpR.or (op_oi T.oi_add (hr.mono (by decide))) op_cat)) (pv 5) (pv 6)) (pv 7)) (nomark _)) pa_nil)))
      (pss_cons (ps_expr (pe_bm PySem.F.plainAttrs_list PySem.F.slot_list_append PySem.F.type_list_append mt_append (pv 9) (pa_cons (pe_cmpR (op_eo T.at_eq (hr.mono (by decide))) (pe_cmk T.total_k (hr.mono (by decide)) (pe_glob (v := .ref C) rfl T.mgC rfl) (pk_cons (pe_callTy call_tuple_of rfl T.z_tuple boot_tuple (pa_cons (pe_op (OpR.or (op_oo T.o_add (hr.mono (by decide))) (OpR.or (op_oi T.oi_add (hr.mono (by decide))) op_cat)) (pv 3) (pe_lst (pa_cons (pv 8) pa_nil))) pa_nil)) pk_nil)) (pe_op (OpR.or (op_oo T.o_add (hr.mono (by decide))) (OpR.or (op_oi T.oi_add (hr.mono (by decide))) op_cat)) (pe_op (OpR.or (op_oo T.o_add (hr.mono (by decide))) (OpR.or (op_oi T.oi_add (hr.mono (by decide))) op_cat)) (pe_op (OpR.or (op_oo T.o_add (hr.mono (by decide))) (OpR.or (op_oi T.oi_add (hr.mono (by decide))) op_cat)) (pv 5) (pv 6)) (pv 7)) (pv 8)) (nomark _)) pa_nil)))
      (pss_cons (ps_expr (pe_bm PySem.F.plainAttrs_list PySem.F.slot_list_extend PySem.F.type_list_extend mt_extend (pv 9) (pa_cons (pe_lst (pa_cons (pe_cg T.law_is hr (by decide) hG rfl (pa_cons (pe_cmo T.total (hr.mono (by decide)) (pe_glob (v := .ref C) rfl T.mgC rfl) (pa_cons (pe_lst pa_nil) pa_nil)) (pa_cons (pe_tup (pa_cons pe_int (pa_cons pe_int pa_nil))) pa_nil))) (pa_cons (pe_cg T.law_is hr (by decide) hG rfl (pa_cons (pe_mko T.mk1 (hr.mono (by decide)) rfl (pa_cons (pv 8) pa_nil)) (pa_cons (pe_tup (pa_cons (pv 8) (pa_cons pe_int pa_nil))) pa_nil))) (pa_cons (pe_cmpR (op_eo T.at_eq (hr.mono (by decide))) (pe_cmo T.total (hr.mono (by decide)) (pe_glob (v := .ref C) rfl T.mgC rfl) (pa_cons (pe_lst (pa_cons (pv 8) pa_nil)) pa_nil)) (pe_mko T.mk1 (hr.mono (by decide)) rfl (pa_cons (pv 8) pa_nil)) (nomark _)) pa_nil)))) pa_nil)))
      (pss_one (ps_ret (pe_callB (cr_all rfl) rfl T.z_all boot_all (pa_cons (pv 9) pa_nil))))))))))))))))))), ?_⟩
    refine st_draw3 (K := K) (fun x => ⟨rfl, rfl⟩) hp fun d xs H1 dp hd h1 h2 h3 x1 hp1 => ?_
    obtain ⟨ts, bs, hf, hg⟩ := dn_fun h3
    have hdr : LstU d 3 (fun i => IsT K [Is (.int (ts i)), Is (.int (bs i))]) H1 := ⟨xs, h1, h2, hf⟩
    have zb : ∀ i, (bs i).natAbs < 2 ^ 1500 := fun i => lt_more (hg i).2.2 (by decide)
    have g11 : ∀ i, Good 110 (nt (ts i) (bs i), nd (ts i) (bs i)) := fun i => good_of (hg i).1 (hg i).2.1 (hg i).2.2
    refine st_evl (lc_pairs (U := fun i => IsT K [Is (.int (nt (ts i) (bs i))), Is (.int (nd (ts i) (bs i)))]) (fun _ => inferInstance) rfl hdr (by decide) (fun v w => rfl) fun m H' hm e => p_low (p_val rfl) (p_val rfl) (hg m).1 (zb m)) fun dp' H2 hn2 e2 hpr => ?_
    refine st_evl (lc_pairs (U := fun i => IsR C (nt (ts i) (bs i)) (nd (ts i) (bs i))) (fun _ => inferInstance) rfl (hdr.ex e2) (by decide) (fun v w => rfl) fun m H' hm e => p_mk (a_cons (p_val rfl) (a_cons (p_val rfl) a_nil)) (hg m).1 (z4 (zb m))) fun ds H3 hn3 e3 hso => ?_
    have hp2 := hp1.mo e2
    have hp3 := hp2.mo e3
    have np : ∀ {a : Addr} {H : Hp}, Pot H p → H a = none → a ≠ p := fun h hn => by
      obtain ⟨_, _, h, _⟩ := h
      exact (ne_of_none h hn).symm
    have n2 : dp' ≠ p := np hp1 hn2
    have n3 : ds ≠ p := np hp2 hn3
    have S3 : Sts K C p d dp' ds ts bs H3 := ⟨hp3, (hdr.ex e2).ex e3, hpr.ex e3, hso⟩
    have x3 : ExB p H H3 := (x1.trans (.of e2)).trans (.of e3)
    refine st_unless (t_not (b := true) (t_B (p_allL (n := 3) ?_))) fun H4 e4 => ?_
    · obtain ⟨us, u1, u2, u3⟩ := S3.so
      obtain ⟨ws, w1, w2, w3⟩ := S3.pr
      have hz := lc_of_zip (K := K) (σ := [some (.ref p), some (.ref d), some (.ref dp'), some (.ref ds), none, none, none, none, none, none, none, none, none, none, none]) (te := tCall (mkSp (preIs K C)) [] E0 (tCons (tVar 13) (tCons (tVar 14) tNil))) (g := gTup K 2 (gCons (gName 13) (gCons (gName 14) gNil))) (vs := [13, 14]) (U := fun _ => IsB true)
        (a_cons (p_val (n := 3) rfl) (a_cons (p_val (n := 2) rfl) a_nil)) (SqL.of u1) (SqL.of w1) (by rw [u2, w2]) (fun _ => inferInstance) (by omega) fun m x y H5 q H6 hx hy e5 hq hH6 Q go => ?_
      · rw [u2] at hz
        exact hz
      · have e56 : Ex H5 H6 := by rw [hH6]; exact Ex.new hq
        have h6 : H6 q = some (.tup [x, y]) := by rw [hH6]; exact upd_same
        refine ⟨q, _, rfl, SqT.of h6, rfl, x, [y], rfl, y, [], rfl, rfl, go _ H6 rfl (Ex.refl H6) ?_⟩
        refine p_call (a_cons (P := IsR C (nt (ts m) (bs m)) (nd (ts m) (bs m))) (p_var rfl (Mo.mo (e5.trans e56) (u3 m x hx))) (a_cons (P := IsT K [Is (.int (nt (ts m) (bs m))), Is (.int (nd (ts m) (bs m)))]) (p_var rfl (Mo.mo (e5.trans e56) (w3 m y hy))) a_nil)) fun vs H7 e7 ps => ?_
        obtain ⟨v, w, rfl, hv, hw⟩ := two ps
        exact ⟨v, w, _, _, rfl, hv, hw, (g11 m).nm, sz_mono (g11 m).sz (by decide), rfl⟩
    have S4 := S3.ex e4
    refine st_unless (t_test (f_ne (x := (nt (ts 0) (bs 0), nd (ts 0) (bs 0))) (y := (nt (ts 0) (bs 0), nd (ts 0) (bs 0))) T.toT1 T.nC (p_mkk (a_cons (p_ixT (p_atU (p_val rfl) (p_c (v := .int 0)) S4.dr (k := 0) rfl (by decide)) (p_c (v := .int 1)) (k := 1) rfl rfl) (a_cons (p_ixT (p_atU (p_val rfl) (p_c (v := .int 0)) S4.dr (k := 0) rfl (by decide)) (p_c (v := .int 0)) (k := 0) rfl rfl) a_nil)) (hg 0).1 (z4 (zb 0))) (p_atU (p_val rfl) (p_c (v := .int 0)) S4.so (k := 0) rfl (by decide)) rfl)) fun H5 e5 => ?_
    have S5 := S4.ex e5
    have x5 : ExB p H H5 := (x3.trans (.of e4)).trans (.of e5)
    have g22 : ∀ i, Good 220 (nt (ts i) (bs i), nd (ts i) (bs i)) := fun i => (g11 i).mono (by decide)
    refine Evl.q_forR1 (n := 3) (Evl.ea_cons Evl.ev_c Evl.ea_nil) ⟨by decide, by decide⟩ (fun i σ' H' => ∃ q, σ' = [some (.ref p), some (.ref d), some (.ref dp'), some (.ref ds), q, none, none, none, none, none, none, none, none, none, none] ∧ ExB p H H' ∧ Sts K C p d dp' ds ts bs H') (fun H6 e6 => ⟨none, rfl, x5.trans (.of e6), S5.ex e6⟩) (fun i σ' H6 hi pv => ?_) fun σ' H6 pv => ?_
    · obtain ⟨q, rfl, x6, S6⟩ := pv
      have hi3 : i < 3 := by omega
      have hj3 : (i + 2) % 3 < 3 := Nat.mod_lt _ (by decide)
      obtain ⟨ix1, ix2⟩ := ix3 hi3
      refine st_unless (t_not (b := true) (t_B (p_call (a_cons (S6.at_pr (p_val rfl) (p_val rfl) ix1 hi3) (a_cons (S6.at_pr (p_val rfl) (p_I0l (p_val rfl) p_c) ix2 hj3) (a_cons (S6.at_so (p_val rfl) (p_val rfl) ix1 hi3) (a_cons (S6.at_so (p_val rfl) (p_I0l (p_val rfl) p_c) ix2 hj3) a_nil)))) fun vs H7 e7 ps => ?_))) fun H7 e7 => ?_
      · obtain ⟨v1, v2, v3, v4, rfl, q1, q2, q3, q4⟩ := four ps
        exact ⟨v1, v2, v3, v4, _, _, _, _, rfl, q1, q2, q3, q4, g22 i, g22 _, rfl⟩
      have S7 := S6.ex e7
      refine (S7.at_pr (p_val rfl) (p_val rfl) ix1 hi3) H7 (Ex.refl H7) _ fun v1 H8 e8 p1 => ?_
      refine ((S7.ex e8).at_so (p_val rfl) (p_val rfl) ix1 hi3) H8 (Ex.refl H8) _ fun v2 H9 e9 p2 => ?_
      have S9 := (S7.ex e8).ex e9
      refine d_draw rfl S9.pot p_c (by decide) (by decide) fun n H10 b1 b2 x10 hp10 => .inl ⟨n, 1000, rfl, rfl, ?_⟩
      have n10 := S9.pot.exn x10
      refine ⟨Is (.bl true), ⟨v1, v2, _, _, n - 1000, rfl, Nl.nl n10 (Mo.mo e9 p1), Nl.nl n10 p2, g22 i, ?_, rfl⟩, fun v H11 e11 hv => ⟨true, hv, iteF ⟨some (.int i), rfl, ((((x6.trans (.of e7)).trans (.of e8)).trans (.of e9)).trans x10).trans (.of e11), (S9.mo dp n2 n3 x10 hp10).ex e11⟩⟩⟩
      exact Nat.lt_of_lt_of_le (show (n - 1000).natAbs < 2 ^ 11 by omega) (Nat.pow_le_pow_right (by decide) (by decide))
    · obtain ⟨q, rfl, x6, S6⟩ := pv
      refine st_unp3 rfl S6.so fun u v w hds u0 v0 w0 => ?_
      refine st_draw rfl S6.pot (by decide) (by decide) fun n0 H7 b1 b2 x7 hp7 => ?_
      have n7 := S6.pot.exn x7
      have hds7 := x7 _ _ n3 hds
      have u7 := Nl.nl n7 u0
      have v7 := Nl.nl n7 v0
      have w7 := Nl.nl n7 w0
      have x07 := x6.trans x7
      have hz : (n0 - 999).natAbs < 2 ^ 110 := Nat.lt_of_lt_of_le (show (n0 - 999).natAbs < 2 ^ 11 by omega) (Nat.pow_le_pow_right (by decide) (by decide))
      have out : ∀ H', Ex H7 H' → Q (.bl true) H' := fun H' e => k H' (x07.trans (.of e)) (hp7.mo e)
      generalize n0 - 999 = n at hz
      obtain ⟨x0, hx0⟩ : ∃ x : Fr2, x = (nt (ts 0) (bs 0), nd (ts 0) (bs 0)) := ⟨_, rfl⟩
      obtain ⟨x1, hx1⟩ : ∃ x : Fr2, x = (nt (ts 1) (bs 1), nd (ts 1) (bs 1)) := ⟨_, rfl⟩
      obtain ⟨x2, hx2⟩ : ∃ x : Fr2, x = (nt (ts 2) (bs 2), nd (ts 2) (bs 2)) := ⟨_, rfl⟩
      have ga : Good 110 x0 := hx0 ▸ g11 0
      have gb : Good 110 x1 := hx1 ▸ g11 1
      have gc : Good 110 x2 := hx2 ▸ g11 2
      have ua : IsF C x0 u H7 := by rw [hx0]; exact u7
      have ub : IsF C x1 v H7 := by rw [hx1]; exact v7
      have uc : IsF C x2 w H7 := by rw [hx2]; exact w7
      have gn : Good 110 (n, 1) := ⟨nm1, hz, show (1 : Int).natAbs < 2 ^ 110 by decide +kernel⟩
      have na := ga.nm
      have nb := gb.nm
      have nc := gc.nm
      have va : ∀ {H1 : Hp} {σ : L2.St}, Ex H7 H1 → σ[5]? = some (some u) → EvP (tVar 5) σ H1 (IsF C x0) := fun e h => p_var h (Mo.mo e ua)
      have vb : ∀ {H1 : Hp} {σ : L2.St}, Ex H7 H1 → σ[6]? = some (some v) → EvP (tVar 6) σ H1 (IsF C x1) := fun e h => p_var h (Mo.mo e ub)
      have vc : ∀ {H1 : Hp} {σ : L2.St}, Ex H7 H1 → σ[7]? = some (some w) → EvP (tVar 7) σ H1 (IsF C x2) := fun e h => p_var h (Mo.mo e uc)
      have e7 := Ex.refl H7
      have tops : (decide (x1.1 = 0) && decide (x1.2 = 1)) = false → x1.1 ≠ 0 := by
        intro h z
        have hd : x1.2 = 1 := by
          have q1 := nb.co
          have q2 := nb.pos
          rw [z] at q1
          have q3 : Nat.gcd 0 x1.2.natAbs = 1 := q1
          rw [Nat.gcd_zero_left] at q3
          omega
        rw [decide_eq_true z, decide_eq_true hd] at h
        cases h
      refine rows_new (U := IsB true) (m := 2) (by decide) (a_cons (f_eq T.toT1 T.nC (f_add (f_add (va e7 rfl) (vb e7 rfl) ga gb) (vc e7 rfl) (good_plus ga gb) gc) (f_add (va e7 rfl) (f_add (vb e7 rfl) (vc e7 rfl) gb gc) ga (good_plus gb gc)) (plus_assoc na nb nc))
        (a_cons (f_eq T.toT1 T.nC (f_mul (va e7 rfl) (f_add (vb e7 rfl) (vc e7 rfl) gb gc) ga (good_plus gb gc)) (f_add (f_mul (va e7 rfl) (vb e7 rfl) ga gb) (f_mul (va e7 rfl) (vc e7 rfl) ga gc) (good_times ga gb) (good_times ga gc)) (times_plus na nb nc)) a_nil)) fun r H8 nr8 e8 rw8 => ?_
      refine rows_ext (U := IsB true) (m := 2) rfl rw8 (by decide) (by decide) (a_cons (f_eq (y := (0, 1)) T.toT1 T.nC (f_sub (va e8 rfl) (va e8 rfl) ga ga) (p_mk1 (a_cons p_c a_nil)) (minus_same na)) (a_cons (f_eq T.toT1 T.nC (f_mulI (va e8 rfl) p_c ga (by decide +kernel)) (va e8 rfl) (times_whole na)) a_nil)) fun H9 rw9 x9 => ?_
      have e9 := exb_ex nr8 e8 x9
      refine rows_app (U := IsB true) rfl rw9 (by decide) ((p_or (a := decide (x1.1 = 0) && decide (x1.2 = 1)) (b := true) (f_eqd (y := (0, 1)) T.toT1 T.nC (vb e9 rfl) (p_mk1 (a_cons p_c a_nil))) fun h => f_eq T.toT1 T.nC (f_mul (x := ovr x0 x1) (p_meth (va e9 rfl) (by decide +kernel) (by decide +kernel) (a_cons (vb e9 rfl) a_nil) fun v vs H1 e p ps => ?_) (vb e9 rfl) (good_ovr ga gb ?_) gb) (va e9 rfl) (ovr_times na nb ?_)).imp fun v H1 _ p => ?_) fun H10 rw10 x10 => ?_
      · obtain ⟨v1, rfl, pv⟩ := RK.one ps
        have hne := tops h
        exact ⟨v, v1, x0.1, x0.2, x1.1, x1.2, rfl, ⟨two_f ga gb (by decide) (by decide) p (.inl pv), hne⟩, rfl⟩
      · exact tops h
      · exact tops h
      · rw [Bool.or_true] at p
        exact p
      have e10 := exb_ex nr8 e9 x10
      refine rows_app (U := IsB true) rfl rw10 (by decide) (p_and (a := true) (b := true) (p_meth (va e10 rfl) (by decide +kernel) (by decide +kernel) (a_cons (va e10 rfl) a_nil) fun v vs H1 e p ps => ?_) fun _ => p_not (a := false) (p_meth (va e10 rfl) (by decide +kernel) (by decide +kernel) (a_cons (f_mulI (va e10 rfl) p_c ga (by decide +kernel)) a_nil) fun v vs H1 e p ps => ?_)) fun H11 rw11 x11 => ?_
      · obtain ⟨v1, rfl, pv⟩ := RK.one ps
        refine ⟨v, v1, x0.1, x0.2, x0.1, x0.2, rfl, two_f ga ga (by decide) (by decide) p (.inl pv), ?_⟩
        show _ = Is (.bl (decide (x0.1 * x0.2 ≤ x0.1 * x0.2)))
        rw [decide_eq_true (Int.le_refl _)]
      · obtain ⟨v1, rfl, pv⟩ := RK.one ps
        rw [times_whole na] at pv
        refine ⟨v, v1, x0.1, x0.2, x0.1, x0.2, rfl, two_f ga ga (by decide) (by decide) p (.inl pv), ?_⟩
        show _ = Is (.bl (decide (x0.1 * x0.2 < x0.1 * x0.2)))
        rw [decide_eq_false (Int.lt_irrefl _)]
      have e11 := exb_ex nr8 e10 x11
      refine rows_app (U := IsB true) rfl rw11 (by decide) (f_eq T.toT1 T.nC (p_tot (ys := [x0, x1, x2]) (p_var rfl (Mo.mo e11 ⟨ds, _, rfl, .inl hds7, .inl ua, .inl ub, .inl uc, trivial⟩)) (show 3 ≤ 4 by decide) ?_) (f_add (f_add (va e11 rfl) (vb e11 rfl) ga gb) (vc e11 rfl) (good_plus ga gb) gc) ?_) fun H12 rw12 x12 => ?_
      · intro y hy
        simp only [List.mem_cons, List.not_mem_nil, or_false] at hy
        rcases hy with rfl | rfl | rfl
        · exact ga.mono (by decide)
        · exact gb.mono (by decide)
        · exact gc.mono (by decide)
      · show plus (plus (plus (0, 1) x0) x1) x2 = _
        rw [plus_zero na]
      have e12 := exb_ex nr8 e11 x12
      refine rows_app (U := IsB true) rfl rw12 (by decide) (f_eq T.toT1 T.nC (p_totK (ys := [x0, x1, x2, (n, 1)]) (seq_tup rfl rfl (e12 _ _ hds7) (Mo.mo e12 ua) (Mo.mo e12 ub) (Mo.mo e12 uc)) (show 4 ≤ 4 by decide) ?_) (f_addI (f_add (f_add (va e12 rfl) (vb e12 rfl) ga gb) (vc e12 rfl) (good_plus ga gb) gc) (p_val rfl) (good_plus (good_plus ga gb) gc) (lt_more hz (by decide))) ?_) fun H13 rw13 x13 => ?_
      · intro y hy
        simp only [List.mem_cons, List.not_mem_nil, or_false] at hy
        rcases hy with rfl | rfl | rfl | rfl
        · exact ga.mono (by decide)
        · exact gb.mono (by decide)
        · exact gc.mono (by decide)
        · exact gn.mono (by decide)
      · show plus (plus (plus (plus (0, 1) x0) x1) x2) (n, 1) = _
        rw [plus_zero na]
      have e13 := exb_ex nr8 e12 x13
      refine rows_ext (U := IsB true) (m := 3) rfl rw13 (by decide) (by decide) (a_cons (p_is (v1 := 0) (b1 := 1) (p_tot (ys := []) (seq_lst a_nil (by decide)) (by decide) fun _ h => nomatch h) (p_tup (a_cons p_c (a_cons p_c a_nil)) (show 2 ≤ 100000 by decide)) nm1 ⟨by decide +kernel, by decide +kernel⟩) (a_cons (p_is (v1 := n) (b1 := 1) (p_mk1 (a_cons (p_val rfl) a_nil)) (p_tup (a_cons (p_val rfl) (a_cons p_c a_nil)) (show 2 ≤ 100000 by decide)) nm1 ⟨lt_more hz (by decide), by decide +kernel⟩)
        (a_cons (f_eq (y := (n, 1)) T.toT1 T.nC (p_tot (ys := [(n, 1)]) (seq_lst (a_cons (P := IsN C n 1) (p_var rfl (.inr ⟨rfl, rfl⟩)) a_nil) (show 1 ≤ 4 by decide)) (show 1 ≤ 4 by decide) ?_) (p_mk1 (a_cons (p_val rfl) a_nil)) ?_) a_nil))) fun H14 rw14 x14 => ?_
      · intro y hy
        simp only [List.mem_cons, List.not_mem_nil, or_false] at hy
        subst hy
        exact gn.mono (by decide)
      · show plus (0, 1) (n, 1) = _
        exact plus_zero nm1
      have e14 := exb_ex nr8 e13 x14
      refine st_ret (p_allR rfl rw14) fun v15 H15 e15 p15 => ?_
      cases p15
      exact out H15 (e14.trans e15)
end
end RK
namespace RK
open PySem PySem.Spec PyProof.Rows L2
open Evl (Ex EvT)
section
variable {P : Program} {w : World} {K : PySem.W.Frag} {mg : Str → Option Value} {base : Heap} {C : Addr} {σ : L2.St} {H H' : Hp} {ta tb te : TE} {t : TA} {R U : VP} {D : Ends} {tz : TS} {Ps : List VP} {r r' : R2} {x y : V} {i j : Int}
structure TS9 (P : Program) (w : World) (K : PySem.W.Frag) (mg : Str → Option Value) (base : Heap) (C : Addr) : Prop extends TR P w K mg base C where
  law_right : CalG P w K mg base 9 "_law_right" spRight
def spLaw (K : PySem.W.Frag) : Sp := fun vs H Q _ => ∃ (a : Addr) (ns : List Int), vs = [.ref a] ∧ SqL K H a (ns.map V.int) ∧ ∀ H', Q (.bl true) H'
theorem p_rangeAll {tn : TE} {iv : Nat} (hn : EvP tn σ H fun v _ => ∃ j : Int, v = .int j ∧ 0 ≤ j ∧ j ≤ 3) (hw : ∀ x : V, wipe ((wipe σ [iv]).set iv (some x)) [iv] = wipe σ [iv])
    (hs : ∀ (i : Nat) H' (Q : VK), i < 3 → Ex H H' → (∀ H'', Ex H' H'' → Q (.bl true) H'') → te ((wipe σ [iv]).set iv (some (.int (0 + (i : Int))))) H' Q) : EvP (tCB (rAll K) (tCons (tLc (iRng1 (tCons tn tNil)) (gName iv) tYes te [iv]) tNil)) σ H (Is (.bl true)) := by
  intro H0 e0 Q q
  show tn σ H0 _
  refine hn H0 e0 _ fun v H1 e1 hv => ?_
  obtain ⟨j, rfl, j0, j3⟩ := hv
  refine ⟨j, rfl, by omega, by omega, fun d hd => ?_⟩
  refine lc_range (fun i H' => ∃ acc, H' d = some (.lst acc) ∧ acc.length = i ∧ (∀ x ∈ acc, x = .bl true) ∧ Ex H1 H') ⟨[], upd_same, rfl, fun x hx => (nomatch hx), Ex.new hd⟩ (fun i H2 hi q2 => ?_) fun H2 q2 => ?_
  · obtain ⟨acc, h1, h2, h3, h4⟩ := q2
    refine ⟨hw _, ?_⟩
    refine yes_k ?_
    refine iteT ?_
    refine hs i H2 _ (by omega) ((e0.trans e1).trans h4) fun H4 e4 => ?_
    have hd4 := e4 _ _ h1
    refine ⟨acc, hd4, Evl.sz_lt (by omega), acc ++ [.bl true], upd_same, by rw [List.length_append, h2]; rfl, fun x hx => ?_, Evl.Ex.mut (h4.trans e4) hd⟩
    rcases List.mem_append.mp hx with hx | hx
    · exact h3 x hx
    · exact List.mem_singleton.mp hx
  · obtain ⟨acc, h1, h2, h3, h4⟩ := q2
    obtain ⟨bl, rfl, ha⟩ := all_bl h3
    refine ⟨d, bl, rfl, SqL.of h1, ?_⟩
    rw [ha]
    exact q _ H2 (e1.trans h4) rfl
theorem ok_law {f : Addr} {fd : FuncData} (F : Fun K "law" "law" slaw f fd) (T : TS9 P w K mg base C) : FnG P w K mg base 10 f ["_law_script"] (spLaw K) := by
  refine fnG_of F sclaw (fun vs H Q E h => ?_) (fun cdv A outer s H vs Q hr hG h => ?_)
  · obtain ⟨a, ns, rfl, _⟩ := h
    rfl
  · obtain ⟨a, ns, rfl, hs, k⟩ := h
    refine ⟨_, (pss_one (ps_ret (pe_callB (cr_all rfl) rfl T.z_all boot_all (pa_cons (pe_lc (own := [("_law_k", 1)]) rfl sclaw.nd (pi_range1 rfl T.z_range (pa_cons (pe_callB (call_max2 rfl) rfl T.z_max boot_max (pa_cons pe_int (pa_cons (pe_callB (call_min2 rfl) rfl T.z_min boot_min (pa_cons pe_int (pa_cons (pe_callB call_len_seq rfl T.z_len PySem.boot_len (pa_cons (pv 0) pa_nil)) pa_nil))) pa_nil))) pa_nil)) (blkOk_by (N := sclawN) (sc := defScope slaw) (by decide +kernel)) (fun _ _ _ _ _ => (pg_name (i := 1) sclaw.nd rfl (Or.inl rfl))) (fun _ _ _ _ _ => pts_nil) (fun _ _ _ _ _ => (pe_cg T.law_right hr (by decide) hG rfl (pa_cons (pe_cg T.law_pot hr (by decide) hG rfl (pa_cons (pv 0) (pa_cons (pv 1) pa_nil))) pa_nil)))) pa_nil)))), ?_⟩
    refine st_ret (p_rangeAll ((p_max p_c (p_min p_c (p_len (p_val rfl) hs))).imp fun v H1 _ p => ⟨_, p, by split <;> omega, by split <;> split <;> omega⟩) (fun _ => rfl) fun i H2 Q hi e2 q => ?_) fun v H1 _ p => ?_
    · refine ⟨_, rfl, _, rfl, a, ns, 0 + (i : Int), rfl, Evl.ex_l e2 hs, ⟨by omega, by omega⟩, fun p H3 e3 np hp => ?_⟩
      exact ⟨p, rfl, hp, fun H4 x4 hp4 => q H4 (exb_ex np e3 x4)⟩
    · cases p
      exact k H1
end
end RK
namespace RK
open PySem PySem.Spec PyProof.Rows L2
section
variable {P : Program} {w : World} {K : PySem.W.Frag} {mg : Str → Option Value} {base : Heap} {C f : Addr} {x qual : Str} {st : Stmt} {fd : FuncData} {ps ks : List Str} {sp : Sp} {k : Nat}
theorem cal_o (F : Fun K x qual st f fd) (G : FnOk P w K mg base CX0 k f fd ps sp) (hm : mg x = some (.ref f)) (hb : Binds K fd ps []) : CalO P w K mg base k x sp := ⟨f, fd, ps, G, hm, F.kp, hb⟩
theorem cal_g (F : Fun K x qual st f fd) (G : FnG P w K mg base k f ps sp) (hm : mg x = some (.ref f)) (hb : Binds K fd ps []) : CalG P w K mg base k x sp := ⟨f, ps, G, hm, F.kp, fun s us fd' l hK hl => by
  obtain ⟨oc, od, kV, doc, pm, an, cdv, ct, osl, rfl, lk, hcd⟩ := F.ex
  cases lookFn lk l
  have h := hb s us hK (by rw [List.append_nil]; exact hl)
  rw [List.append_nil] at h
  exact h⟩
theorem kbn_of (h : ∀ us ws : List Value, us.length = 1 → ws.length = ks.length → bindArgs fd ⟨us, ks.zip ws⟩ = pure (ps.zip (us ++ ws))) : KBn K fd ps 1 ks (fun us ws => us ++ ws) (fun vs zs => vs ++ zs) := ⟨fun s us ws _ h1 h2 => .of_eq (h us ws h1 h2), fun r rz => r.append rz⟩
theorem vals_nil {ds : List Value} (h : Vals [] ds) : ds = [] := by
  cases h
  rfl
end

theorem all_mk {l : PySem.W.OpenLaw} {w : World} {K : PySem.W.Frag} {h : Heap} {mg : Str → Option Value} {fa C : Addr} {f1 f2 f3 f4 f5 f6 f7 f8 f9 f10 f11 f12 f13 f14 f15 f16 f17 f18 f19 f20 f21 f22 f23 f24 f25 f26 p26 f27 p27 f28 p28 f29 p29 f30 p30 f31 : Addr} (X : K.In h) (G : h.Ns mainGlobals mg) (hfa : mg "law" = some (.ref fa))
    {od1 an1 od2 an2 od3 an3 od4 an4 od5 an5 od6 an6 od7 an7 od8 an8 od9 an9 od10 an10 od11 an11 od12 an12 od13 an13 od14 an14 od15 an15 od16 an16 od17 an17 od18 an18 od19 an19 od20 an20 od21 an21 od22 an22 od23 an23 od24 an24 od25 an25 od26 an26 od27 an27 od28 an28 od29 an29 od30 an30 od31 an31 : Option Addr} {sl1 sl2 sl3 sl4 sl5 sl6 sl7 sl8 sl9 sl10 sl11 sl12 sl13 sl14 sl15 sl16 sl17 sl18 sl19 sl20 sl21 sl22 sl23 sl24 sl25 sl26 sl27 sl28 sl29 sl30 sl31 : Array (Option Value)} {oc1 kV1 dc1 pm1 cd1 ct1 oc2 kV2 dc2 pm2 cd2 ct2 oc3 kV3 dc3 pm3 cd3 ct3 oc4 kV4 dc4 pm4 cd4 ct4 oc5 kV5 dc5 pm5 cd5 ct5 oc6 kV6 dc6 pm6 cd6 ct6 oc7 kV7 dc7 pm7 cd7 ct7 oc8 kV8 dc8 pm8 cd8 ct8 oc9 kV9 dc9 pm9 cd9 ct9 oc10 kV10 dc10 pm10 cd10 ct10 oc11 kV11 dc11 pm11 cd11 ct11 oc12 kV12 dc12 pm12 cd12 ct12 oc13 kV13 dc13 pm13 cd13 ct13 oc14 kV14 dc14 pm14 cd14 ct14 oc15 kV15 dc15 pm15 cd15 ct15 oc16 kV16 dc16 pm16 cd16 ct16 oc17 kV17 dc17 pm17 cd17 ct17 oc18 kV18 dc18 pm18 cd18 ct18 oc19 kV19 dc19 pm19 cd19 ct19 oc20 kV20 dc20 pm20 cd20 ct20 oc21 kV21 dc21 pm21 cd21 ct21 oc22 kV22 dc22 pm22 cd22 ct22 oc23 kV23 dc23 pm23 cd23 ct23 oc24 kV24 dc24 pm24 cd24 ct24 oc25 kV25 dc25 pm25 cd25 ct25 oc26 kV26 dc26 pm26 cd26 ct26 oc27 kV27 dc27 pm27 cd27 ct27 oc28 kV28 dc28 pm28 cd28 ct28 oc29 kV29 dc29 pm29 cd29 ct29 oc30 kV30 dc30 pm30 cd30 ct30 dV oc31 kV31 dc31 pm31 cd31 ct31 : Value} {rs26 rs27 rs28 rs29 rs30 : List Value} {fo_add fr_add fo_sub fr_sub fo_mul fr_mul : Option Value}
    (aC : PySem.W.nsIn K mainGlobals "Ratio" = some (some (.ref C)))
    (a1 : PySem.W.nsIn K mainGlobals "is_integer" = some (some (.ref f1)))
    (l1 : K.lookup f1 = some ⟨oc1, od1, .func (PySem.W.fnOf "is_integer" "is_integer" (defArgs sisint) (defBody sisint) (defScope sisint) .none kV1 dc1 pm1 an1 cd1 ct1), sl1⟩)
    (c1 : PySem.W.codeIn K cd1 "is_integer" = true)
    (k1 : PySem.W.keepIn K (.ref f1) = true)
    (a2 : PySem.W.nsIn K mainGlobals "as_ratio" = some (some (.ref f2)))
    (l2 : K.lookup f2 = some ⟨oc2, od2, .func (PySem.W.fnOf "as_ratio" "as_ratio" (defArgs sasr) (defBody sasr) (defScope sasr) .none kV2 dc2 pm2 an2 cd2 ct2), sl2⟩)
    (c2 : PySem.W.codeIn K cd2 "as_ratio" = true)
    (k2 : PySem.W.keepIn K (.ref f2) = true)
    (a3 : PySem.W.nsIn K mainGlobals "_law_pot" = some (some (.ref f3)))
    (l3 : K.lookup f3 = some ⟨oc3, od3, .func (PySem.W.fnOf "_law_pot" "_law_pot" (defArgs spot) (defBody spot) (defScope spot) .none kV3 dc3 pm3 an3 cd3 ct3), sl3⟩)
    (c3 : PySem.W.codeIn K cd3 "_law_pot" = true)
    (k3 : PySem.W.keepIn K (.ref f3) = true)
    (a4 : PySem.W.nsIn K mainGlobals "_law_draw" = some (some (.ref f4)))
    (l4 : K.lookup f4 = some ⟨oc4, od4, .func (PySem.W.fnOf "_law_draw" "_law_draw" (defArgs sdraw) (defBody sdraw) (defScope sdraw) .none kV4 dc4 pm4 an4 cd4 ct4), sl4⟩)
    (c4 : PySem.W.codeIn K cd4 "_law_draw" = true)
    (k4 : PySem.W.keepIn K (.ref f4) = true)
    (a5 : PySem.W.nsIn K mainGlobals "_law_low" = some (some (.ref f5)))
    (l5 : K.lookup f5 = some ⟨oc5, od5, .func (PySem.W.fnOf "_law_low" "_law_low" (defArgs slow) (defBody slow) (defScope slow) .none kV5 dc5 pm5 an5 cd5 ct5), sl5⟩)
    (c5 : PySem.W.codeIn K cd5 "_law_low" = true)
    (k5 : PySem.W.keepIn K (.ref f5) = true)
    (a6 : PySem.W.nsIn K mainGlobals "_law_number" = some (some (.ref f6)))
    (l6 : K.lookup f6 = some ⟨oc6, od6, .func (PySem.W.fnOf "_law_number" "_law_number" (defArgs snumber) (defBody snumber) (defScope snumber) .none kV6 dc6 pm6 an6 cd6 ct6), sl6⟩)
    (c6 : PySem.W.codeIn K cd6 "_law_number" = true)
    (k6 : PySem.W.keepIn K (.ref f6) = true)
    (a7 : PySem.W.nsIn K mainGlobals "_law_is" = some (some (.ref f7)))
    (l7 : K.lookup f7 = some ⟨oc7, od7, .func (PySem.W.fnOf "_law_is" "_law_is" (defArgs sis) (defBody sis) (defScope sis) .none kV7 dc7 pm7 an7 cd7 ct7), sl7⟩)
    (c7 : PySem.W.codeIn K cd7 "_law_is" = true)
    (k7 : PySem.W.keepIn K (.ref f7) = true)
    (a8 : PySem.W.nsIn K mainGlobals "_law_pair_right" = some (some (.ref f8)))
    (l8 : K.lookup f8 = some ⟨oc8, od8, .func (PySem.W.fnOf "_law_pair_right" "_law_pair_right" (defArgs spair) (defBody spair) (defScope spair) .none kV8 dc8 pm8 an8 cd8 ct8), sl8⟩)
    (c8 : PySem.W.codeIn K cd8 "_law_pair_right" = true)
    (k8 : PySem.W.keepIn K (.ref f8) = true)
    (a9 : PySem.W.nsIn K mainGlobals "_law_whole_right" = some (some (.ref f9)))
    (l9 : K.lookup f9 = some ⟨oc9, od9, .func (PySem.W.fnOf "_law_whole_right" "_law_whole_right" (defArgs swright) (defBody swright) (defScope swright) .none kV9 dc9 pm9 an9 cd9 ct9), sl9⟩)
    (c9 : PySem.W.codeIn K cd9 "_law_whole_right" = true)
    (k9 : PySem.W.keepIn K (.ref f9) = true)
    (a10 : PySem.W.nsIn K mainGlobals "_law_right" = some (some (.ref f10)))
    (l10 : K.lookup f10 = some ⟨oc10, od10, .func (PySem.W.fnOf "_law_right" "_law_right" (defArgs sright) (defBody sright) (defScope sright) .none kV10 dc10 pm10 an10 cd10 ct10), sl10⟩)
    (c10 : PySem.W.codeIn K cd10 "_law_right" = true)
    (k10 : PySem.W.keepIn K (.ref f10) = true)
    (a11 : PySem.W.nsIn K mainGlobals "law" = some (some (.ref f11)))
    (l11 : K.lookup f11 = some ⟨oc11, od11, .func (PySem.W.fnOf "law" "law" (defArgs slaw) (defBody slaw) (defScope slaw) .none kV11 dc11 pm11 an11 cd11 ct11), sl11⟩)
    (c11 : PySem.W.codeIn K cd11 "law" = true)
    (k11 : PySem.W.keepIn K (.ref f11) = true)
    (a12 : PySem.W.findIn K (.ref C) "__add__" = some (some (.ref f12)))
    (i12 : PySem.W.isFn K (.ref f12) = true)
    (l12 : K.lookup f12 = some ⟨oc12, od12, .func (PySem.W.fnOf "__add__" "Ratio.__add__" (defArgs sadd) (defBody sadd) (defScope sadd) .none kV12 dc12 pm12 an12 cd12 ct12), sl12⟩)
    (c12 : PySem.W.codeIn K cd12 "Ratio.__add__" = true)
    (k12 : PySem.W.keepIn K (.ref f12) = true)
    (a13 : PySem.W.findIn K (.ref C) "__sub__" = some (some (.ref f13)))
    (i13 : PySem.W.isFn K (.ref f13) = true)
    (l13 : K.lookup f13 = some ⟨oc13, od13, .func (PySem.W.fnOf "__sub__" "Ratio.__sub__" (defArgs ssub) (defBody ssub) (defScope ssub) .none kV13 dc13 pm13 an13 cd13 ct13), sl13⟩)
    (c13 : PySem.W.codeIn K cd13 "Ratio.__sub__" = true)
    (k13 : PySem.W.keepIn K (.ref f13) = true)
    (a14 : PySem.W.findIn K (.ref C) "__mul__" = some (some (.ref f14)))
    (i14 : PySem.W.isFn K (.ref f14) = true)
    (l14 : K.lookup f14 = some ⟨oc14, od14, .func (PySem.W.fnOf "__mul__" "Ratio.__mul__" (defArgs smul) (defBody smul) (defScope smul) .none kV14 dc14 pm14 an14 cd14 ct14), sl14⟩)
    (c14 : PySem.W.codeIn K cd14 "Ratio.__mul__" = true)
    (k14 : PySem.W.keepIn K (.ref f14) = true)
    (a15 : PySem.W.findIn K (.ref C) "__radd__" = some (some (.ref f15)))
    (i15 : PySem.W.isFn K (.ref f15) = true)
    (l15 : K.lookup f15 = some ⟨oc15, od15, .func (PySem.W.fnOf "__radd__" "Ratio.__radd__" (defArgs sradd) (defBody sradd) (defScope sradd) .none kV15 dc15 pm15 an15 cd15 ct15), sl15⟩)
    (c15 : PySem.W.codeIn K cd15 "Ratio.__radd__" = true)
    (k15 : PySem.W.keepIn K (.ref f15) = true)
    (a16 : PySem.W.findIn K (.ref C) "__rsub__" = some (some (.ref f16)))
    (i16 : PySem.W.isFn K (.ref f16) = true)
    (l16 : K.lookup f16 = some ⟨oc16, od16, .func (PySem.W.fnOf "__rsub__" "Ratio.__rsub__" (defArgs srsub) (defBody srsub) (defScope srsub) .none kV16 dc16 pm16 an16 cd16 ct16), sl16⟩)
    (c16 : PySem.W.codeIn K cd16 "Ratio.__rsub__" = true)
    (k16 : PySem.W.keepIn K (.ref f16) = true)
    (a17 : PySem.W.findIn K (.ref C) "__rmul__" = some (some (.ref f17)))
    (i17 : PySem.W.isFn K (.ref f17) = true)
    (l17 : K.lookup f17 = some ⟨oc17, od17, .func (PySem.W.fnOf "__rmul__" "Ratio.__rmul__" (defArgs srmul) (defBody srmul) (defScope srmul) .none kV17 dc17 pm17 an17 cd17 ct17), sl17⟩)
    (c17 : PySem.W.codeIn K cd17 "Ratio.__rmul__" = true)
    (k17 : PySem.W.keepIn K (.ref f17) = true)
    (a18 : PySem.W.findIn K (.ref C) "__neg__" = some (some (.ref f18)))
    (i18 : PySem.W.isFn K (.ref f18) = true)
    (l18 : K.lookup f18 = some ⟨oc18, od18, .func (PySem.W.fnOf "__neg__" "Ratio.__neg__" (defArgs sneg) (defBody sneg) (defScope sneg) .none kV18 dc18 pm18 an18 cd18 ct18), sl18⟩)
    (c18 : PySem.W.codeIn K cd18 "Ratio.__neg__" = true)
    (k18 : PySem.W.keepIn K (.ref f18) = true)
    (a19 : PySem.W.findIn K (.ref C) "__eq__" = some (some (.ref f19)))
    (i19 : PySem.W.isFn K (.ref f19) = true)
    (l19 : K.lookup f19 = some ⟨oc19, od19, .func (PySem.W.fnOf "__eq__" "Ratio.__eq__" (defArgs seq) (defBody seq) (defScope seq) .none kV19 dc19 pm19 an19 cd19 ct19), sl19⟩)
    (c19 : PySem.W.codeIn K cd19 "Ratio.__eq__" = true)
    (k19 : PySem.W.keepIn K (.ref f19) = true)
    (a20 : PySem.W.findIn K (.ref C) "__str__" = some (some (.ref f20)))
    (i20 : PySem.W.isFn K (.ref f20) = true)
    (l20 : K.lookup f20 = some ⟨oc20, od20, .func (PySem.W.fnOf "__str__" "Ratio.__str__" (defArgs sstr) (defBody sstr) (defScope sstr) .none kV20 dc20 pm20 an20 cd20 ct20), sl20⟩)
    (c20 : PySem.W.codeIn K cd20 "Ratio.__str__" = true)
    (k20 : PySem.W.keepIn K (.ref f20) = true)
    (a21 : PySem.W.findIn K (.ref C) "__repr__" = some (some (.ref f21)))
    (i21 : PySem.W.isFn K (.ref f21) = true)
    (l21 : K.lookup f21 = some ⟨oc21, od21, .func (PySem.W.fnOf "__repr__" "Ratio.__repr__" (defArgs srepr) (defBody srepr) (defScope srepr) .none kV21 dc21 pm21 an21 cd21 ct21), sl21⟩)
    (c21 : PySem.W.codeIn K cd21 "Ratio.__repr__" = true)
    (k21 : PySem.W.keepIn K (.ref f21) = true)
    (a22 : PySem.W.findIn K (.ref C) "over" = some (some (.ref f22)))
    (i22 : PySem.W.isFn K (.ref f22) = true)
    (l22 : K.lookup f22 = some ⟨oc22, od22, .func (PySem.W.fnOf "over" "Ratio.over" (defArgs sover) (defBody sover) (defScope sover) .none kV22 dc22 pm22 an22 cd22 ct22), sl22⟩)
    (c22 : PySem.W.codeIn K cd22 "Ratio.over" = true)
    (k22 : PySem.W.keepIn K (.ref f22) = true)
    (a23 : PySem.W.findIn K (.ref C) "size" = some (some (.ref f23)))
    (i23 : PySem.W.isFn K (.ref f23) = true)
    (l23 : K.lookup f23 = some ⟨oc23, od23, .func (PySem.W.fnOf "size" "Ratio.size" (defArgs ssize) (defBody ssize) (defScope ssize) .none kV23 dc23 pm23 an23 cd23 ct23), sl23⟩)
    (c23 : PySem.W.codeIn K cd23 "Ratio.size" = true)
    (k23 : PySem.W.keepIn K (.ref f23) = true)
    (a24 : PySem.W.findIn K (.ref C) "is_below" = some (some (.ref f24)))
    (i24 : PySem.W.isFn K (.ref f24) = true)
    (l24 : K.lookup f24 = some ⟨oc24, od24, .func (PySem.W.fnOf "is_below" "Ratio.is_below" (defArgs sbelow) (defBody sbelow) (defScope sbelow) .none kV24 dc24 pm24 an24 cd24 ct24), sl24⟩)
    (c24 : PySem.W.codeIn K cd24 "Ratio.is_below" = true)
    (k24 : PySem.W.keepIn K (.ref f24) = true)
    (a25 : PySem.W.findIn K (.ref C) "is_at_most" = some (some (.ref f25)))
    (i25 : PySem.W.isFn K (.ref f25) = true)
    (l25 : K.lookup f25 = some ⟨oc25, od25, .func (PySem.W.fnOf "is_at_most" "Ratio.is_at_most" (defArgs smost) (defBody smost) (defScope smost) .none kV25 dc25 pm25 an25 cd25 ct25), sl25⟩)
    (c25 : PySem.W.codeIn K cd25 "Ratio.is_at_most" = true)
    (k25 : PySem.W.keepIn K (.ref f25) = true)
    (a26 : PySem.W.findIn K (.ref C) "top" = some (some (.ref p26)))
    (g26 : PySem.W.specialIn K (.ref p26) "__get__" = some (some (.builtin "property.__get__")))
    (t26 : PySem.W.takesIn K (.ref p26) = some true)
    (r26 : PySem.W.recIn K p26 "property" = some (.ref f26 :: rs26))
    (l26 : K.lookup f26 = some ⟨oc26, od26, .func (PySem.W.fnOf "top" "Ratio.top" (defArgs stop) (defBody stop) (defScope stop) .none kV26 dc26 pm26 an26 cd26 ct26), sl26⟩)
    (c26 : PySem.W.codeIn K cd26 "Ratio.top" = true)
    (k26 : PySem.W.keepIn K (.ref f26) = true)
    (a27 : PySem.W.findIn K (.ref C) "bottom" = some (some (.ref p27)))
    (g27 : PySem.W.specialIn K (.ref p27) "__get__" = some (some (.builtin "property.__get__")))
    (t27 : PySem.W.takesIn K (.ref p27) = some true)
    (r27 : PySem.W.recIn K p27 "property" = some (.ref f27 :: rs27))
    (l27 : K.lookup f27 = some ⟨oc27, od27, .func (PySem.W.fnOf "bottom" "Ratio.bottom" (defArgs sbot) (defBody sbot) (defScope sbot) .none kV27 dc27 pm27 an27 cd27 ct27), sl27⟩)
    (c27 : PySem.W.codeIn K cd27 "Ratio.bottom" = true)
    (k27 : PySem.W.keepIn K (.ref f27) = true)
    (a28 : PySem.W.findIn K (.ref C) "sign" = some (some (.ref p28)))
    (g28 : PySem.W.specialIn K (.ref p28) "__get__" = some (some (.builtin "property.__get__")))
    (t28 : PySem.W.takesIn K (.ref p28) = some true)
    (r28 : PySem.W.recIn K p28 "property" = some (.ref f28 :: rs28))
    (l28 : K.lookup f28 = some ⟨oc28, od28, .func (PySem.W.fnOf "sign" "Ratio.sign" (defArgs ssign) (defBody ssign) (defScope ssign) .none kV28 dc28 pm28 an28 cd28 ct28), sl28⟩)
    (c28 : PySem.W.codeIn K cd28 "Ratio.sign" = true)
    (k28 : PySem.W.keepIn K (.ref f28) = true)
    (a29 : PySem.W.findIn K (.ref C) "is_whole" = some (some (.ref p29)))
    (g29 : PySem.W.specialIn K (.ref p29) "__get__" = some (some (.builtin "property.__get__")))
    (t29 : PySem.W.takesIn K (.ref p29) = some true)
    (r29 : PySem.W.recIn K p29 "property" = some (.ref f29 :: rs29))
    (l29 : K.lookup f29 = some ⟨oc29, od29, .func (PySem.W.fnOf "is_whole" "Ratio.is_whole" (defArgs swhole) (defBody swhole) (defScope swhole) .none kV29 dc29 pm29 an29 cd29 ct29), sl29⟩)
    (c29 : PySem.W.codeIn K cd29 "Ratio.is_whole" = true)
    (k29 : PySem.W.keepIn K (.ref f29) = true)
    (rd : PySem.W.readsIn K C (.type "type") = true)
    (ga : PySem.W.specialIn K (.ref C) "__getattribute__" = some (some (.builtin "type.__getattribute__")))
    (a30 : PySem.W.findCls K (.ref C) (.type "type") "total" = some (.get (.builtin "classmethod.__get__") (.ref p30) .none (.ref C)))
    (r30 : PySem.W.recIn K p30 "classmethod" = some (.ref f30 :: rs30))
    (i30 : PySem.W.fnIn K f30 = true)
    (l30 : K.lookup f30 = some ⟨oc30, od30, .func (PySem.W.fnOf "total" "Ratio.total" (defArgs stotal) (defBody stotal) (defScope stotal) .none kV30 dc30 pm30 an30 cd30 ct30), sl30⟩)
    (c30 : PySem.W.codeIn K cd30 "Ratio.total" = true)
    (k30 : PySem.W.keepIn K (.ref f30) = true)
    (a31 : PySem.W.findIn K (.ref C) "__init__" = some (some (.ref f31)))
    (i31 : PySem.W.isFn K (.ref f31) = true)
    (l31 : K.lookup f31 = some ⟨oc31, od31, .func (PySem.W.fnOf "__init__" "Ratio.__init__" (defArgs sinit) (defBody sinit) (defScope sinit) dV kV31 dc31 pm31 an31 cd31 ct31), sl31⟩)
    (c31 : PySem.W.codeIn K cd31 "Ratio.__init__" = true)
    (k31 : PySem.W.keepIn K (.ref f31) = true)
    (d0 : He.dflB K dV [V.int 1] = true)
    (o_add : PySem.W.findIn K (.ref C) (PySem.dunder "add") = some (some (.ref f12)))
    (or_add : PySem.W.findIn K (.ref C) (dunderR "add") = some (some (.ref f15)))
    (oi_add : PySem.W.findIn K (.type "int") (PySem.dunder "add") = some fo_add)
    (oj_add : PySem.W.findIn K (.type "int") (dunderR "add") = some fr_add)
    (o_sub : PySem.W.findIn K (.ref C) (PySem.dunder "sub") = some (some (.ref f13)))
    (or_sub : PySem.W.findIn K (.ref C) (dunderR "sub") = some (some (.ref f16)))
    (oi_sub : PySem.W.findIn K (.type "int") (PySem.dunder "sub") = some fo_sub)
    (oj_sub : PySem.W.findIn K (.type "int") (dunderR "sub") = some fr_sub)
    (o_mul : PySem.W.findIn K (.ref C) (PySem.dunder "mul") = some (some (.ref f14)))
    (or_mul : PySem.W.findIn K (.ref C) (dunderR "mul") = some (some (.ref f17)))
    (oi_mul : PySem.W.findIn K (.type "int") (PySem.dunder "mul") = some fo_mul)
    (oj_mul : PySem.W.findIn K (.type "int") (dunderR "mul") = some fr_mul)
    (isub : PySem.W.subIn K (.type "int") (.ref C) = some false)
    (csub : PySem.W.subIn K (.ref C) (.type "int") = some false)
    (sf : PySem.W.selfFirst K C = true)
    (pg : PySem.W.plainGet K C Str.empty = true)
    (hd : PySem.W.hasDictIn K C = true)
    (po : PySem.W.plainOver K C = true)
    (sa : PySem.W.findIn K (.ref C) "__setattr__" = some (some (.builtin "object.__setattr__")))
    (mk : PySem.W.makesIn K C = true)
    (kc : PySem.W.keepIn K (.ref C) = true)
    (nT : PySem.W.findIn K (.ref C) "_top" = some none)
    (nB : PySem.W.findIn K (.ref C) "_bottom" = some none)
    (ha : PySem.W.findIn K (.ref C) "__class__" = some (some (.builtin "object.__class__")))
    (hn : PySem.W.specialIn K (.builtin "object.__class__") "__get__" = some (some (.builtin "getset_descriptor.__get__")))
    (htk : PySem.W.takesIn K (.builtin "object.__class__") = some true)
    (hm : PySem.W.mroIn K C (.type "object") = some true)
    (ne : PySem.W.findIn K (.ref C) "__ne__" = some (some (.builtin "object.__ne__")))
    (kI : PySem.W.kitOne K (.type "int") (.ref C) = some false)
    (kS : PySem.W.kitOne K (.type "str") (.ref C) = some false)
    (kD : PySem.W.kitOne K (.type "dict") (.ref C) = some false)
    (kL : PySem.W.kitOne K (.type "list") (.ref C) = some false)
    (kT : PySem.W.kitOne K (.type "tuple") (.ref C) = some false)
    (nI : PySem.W.notFirst K C (.type "int") = true)
    (nS : PySem.W.notFirst K C (.type "str") = true)
    (nD : PySem.W.notFirst K C (.type "dict") = true)
    (nL : PySem.W.notFirst K C (.type "list") = true)
    (nTu : PySem.W.notFirst K C (.type "tuple") = true)
    (nC : PySem.W.notFirst K C (.ref C) = true)
    (mgcd : PySem.W.nsIn K mainGlobals "gcd" = some (some (.builtin "math.gcd")))
    (z_isinstance : PySem.W.nsIn K mainGlobals "isinstance" = some none)
    (z_int : PySem.W.nsIn K mainGlobals "int" = some none)
    (z_bool : PySem.W.nsIn K mainGlobals "bool" = some none)
    (z_list : PySem.W.nsIn K mainGlobals "list" = some none)
    (z_tuple : PySem.W.nsIn K mainGlobals "tuple" = some none)
    (z_abs : PySem.W.nsIn K mainGlobals "abs" = some none)
    (z_max : PySem.W.nsIn K mainGlobals "max" = some none)
    (z_min : PySem.W.nsIn K mainGlobals "min" = some none)
    (z_len : PySem.W.nsIn K mainGlobals "len" = some none)
    (z_all : PySem.W.nsIn K mainGlobals "all" = some none)
    (z_divmod : PySem.W.nsIn K mainGlobals "divmod" = some none)
    (z_range : PySem.W.nsIn K mainGlobals "range" = some none)
    (z_zip : PySem.W.nsIn K mainGlobals "zip" = some none)
    (z_repr : PySem.W.nsIn K mainGlobals "repr" = some none)
    (z_str : PySem.W.nsIn K mainGlobals "str" = some none)
    : (∀ (s : Shared) (u : Value) (fd : FuncData), (∃ oc od sl, K.lookup fa = some ⟨oc, od, .func fd, sl⟩) → BindsTo s fd ⟨[u], []⟩ [("_law_script", u)]) ∧ ∀ base : Heap, K.In base → base.Ns mainGlobals mg → FnG l.prog w K mg base 10 fa ["_law_script"] (spLaw K) := by
  have e := hfa.symm.trans (PySem.W.mg_of X G a11)
  cases e
  have y_isinstance := PySem.W.mg_none_of X G z_isinstance
  have y_int := PySem.W.mg_none_of X G z_int
  have y_bool := PySem.W.mg_none_of X G z_bool
  have y_list := PySem.W.mg_none_of X G z_list
  have y_tuple := PySem.W.mg_none_of X G z_tuple
  have y_abs := PySem.W.mg_none_of X G z_abs
  have y_max := PySem.W.mg_none_of X G z_max
  have y_min := PySem.W.mg_none_of X G z_min
  have y_len := PySem.W.mg_none_of X G z_len
  have y_all := PySem.W.mg_none_of X G z_all
  have y_divmod := PySem.W.mg_none_of X G z_divmod
  have y_range := PySem.W.mg_none_of X G z_range
  have y_zip := PySem.W.mg_none_of X G z_zip
  have y_repr := PySem.W.mg_none_of X G z_repr
  have y_str := PySem.W.mg_none_of X G z_str
  have F1 := fun_mk (st := sisint) l1 c1 k1
  have b1 := F1.binds (ps := ["value"]) fun _ _ _ _ _ _ us hl => match us, hl with | [_], _ => rfl
  have m1 := PySem.W.mg_of X G a1
  have F2 := fun_mk (st := sasr) l2 c2 k2
  have b2 := F2.binds (ps := ["number"]) fun _ _ _ _ _ _ us hl => match us, hl with | [_], _ => rfl
  have m2 := PySem.W.mg_of X G a2
  have F3 := fun_mk (st := spot) l3 c3 k3
  have b3 := F3.binds (ps := ["_law_script", "_law_k"]) fun _ _ _ _ _ _ us hl => match us, hl with | [_, _], _ => rfl
  have m3 := PySem.W.mg_of X G a3
  have F4 := fun_mk (st := sdraw) l4 c4 k4
  have b4 := F4.binds (ps := ["_law_pot_here", "_law_many"]) fun _ _ _ _ _ _ us hl => match us, hl with | [_, _], _ => rfl
  have m4 := PySem.W.mg_of X G a4
  have F5 := fun_mk (st := slow) l5 c5 k5
  have b5 := F5.binds (ps := ["_law_top", "_law_bottom"]) fun _ _ _ _ _ _ us hl => match us, hl with | [_, _], _ => rfl
  have m5 := PySem.W.mg_of X G a5
  have F6 := fun_mk (st := snumber) l6 c6 k6
  have b6 := F6.binds (ps := ["_law_pot_here"]) fun _ _ _ _ _ _ us hl => match us, hl with | [_], _ => rfl
  have m6 := PySem.W.mg_of X G a6
  have F7 := fun_mk (st := sis) l7 c7 k7
  have b7 := F7.binds (ps := ["_law_told", "_law_pair"]) fun _ _ _ _ _ _ us hl => match us, hl with | [_, _], _ => rfl
  have m7 := PySem.W.mg_of X G a7
  have F8 := fun_mk (st := spair) l8 c8 k8
  have b8 := F8.binds (ps := ["_law_one", "_law_other", "_law_near", "_law_far"]) fun _ _ _ _ _ _ us hl => match us, hl with | [_, _, _, _], _ => rfl
  have m8 := PySem.W.mg_of X G a8
  have F9 := fun_mk (st := swright) l9 c9 k9
  have b9 := F9.binds (ps := ["_law_one", "_law_near", "_law_whole"]) fun _ _ _ _ _ _ us hl => match us, hl with | [_, _, _], _ => rfl
  have m9 := PySem.W.mg_of X G a9
  have F10 := fun_mk (st := sright) l10 c10 k10
  have b10 := F10.binds (ps := ["_law_pot_here"]) fun _ _ _ _ _ _ us hl => match us, hl with | [_], _ => rfl
  have m10 := PySem.W.mg_of X G a10
  have F11 := fun_mk (st := slaw) l11 c11 k11
  have b11 := F11.binds (ps := ["_law_script"]) fun _ _ _ _ _ _ us hl => match us, hl with | [_], _ => rfl
  have m11 := PySem.W.mg_of X G a11
  have F12 := fun_mk (st := sadd) l12 c12 k12
  have b12 := F12.binds (ps := ["self", "other"]) fun _ _ _ _ _ _ us hl => match us, hl with | [_, _], _ => rfl
  have F13 := fun_mk (st := ssub) l13 c13 k13
  have b13 := F13.binds (ps := ["self", "other"]) fun _ _ _ _ _ _ us hl => match us, hl with | [_, _], _ => rfl
  have F14 := fun_mk (st := smul) l14 c14 k14
  have b14 := F14.binds (ps := ["self", "other"]) fun _ _ _ _ _ _ us hl => match us, hl with | [_, _], _ => rfl
  have F15 := fun_mk (st := sradd) l15 c15 k15
  have b15 := F15.binds (ps := ["self", "other"]) fun _ _ _ _ _ _ us hl => match us, hl with | [_, _], _ => rfl
  have F16 := fun_mk (st := srsub) l16 c16 k16
  have b16 := F16.binds (ps := ["self", "other"]) fun _ _ _ _ _ _ us hl => match us, hl with | [_, _], _ => rfl
  have F17 := fun_mk (st := srmul) l17 c17 k17
  have b17 := F17.binds (ps := ["self", "other"]) fun _ _ _ _ _ _ us hl => match us, hl with | [_, _], _ => rfl
  have F18 := fun_mk (st := sneg) l18 c18 k18
  have b18 := F18.binds (ps := ["self"]) fun _ _ _ _ _ _ us hl => match us, hl with | [_], _ => rfl
  have F19 := fun_mk (st := seq) l19 c19 k19
  have b19 := F19.binds (ps := ["self", "other"]) fun _ _ _ _ _ _ us hl => match us, hl with | [_, _], _ => rfl
  have F20 := fun_mk (st := sstr) l20 c20 k20
  have b20 := F20.binds (ps := ["self"]) fun _ _ _ _ _ _ us hl => match us, hl with | [_], _ => rfl
  have F21 := fun_mk (st := srepr) l21 c21 k21
  have b21 := F21.binds (ps := ["self"]) fun _ _ _ _ _ _ us hl => match us, hl with | [_], _ => rfl
  have F22 := fun_mk (st := sover) l22 c22 k22
  have b22 := F22.binds (ps := ["self", "other"]) fun _ _ _ _ _ _ us hl => match us, hl with | [_, _], _ => rfl
  have F23 := fun_mk (st := ssize) l23 c23 k23
  have b23 := F23.binds (ps := ["self"]) fun _ _ _ _ _ _ us hl => match us, hl with | [_], _ => rfl
  have F24 := fun_mk (st := sbelow) l24 c24 k24
  have b24 := F24.binds (ps := ["self", "other"]) fun _ _ _ _ _ _ us hl => match us, hl with | [_, _], _ => rfl
  have F25 := fun_mk (st := smost) l25 c25 k25
  have b25 := F25.binds (ps := ["self", "other"]) fun _ _ _ _ _ _ us hl => match us, hl with | [_, _], _ => rfl
  have F26 := fun_mk (st := stop) l26 c26 k26
  have b26 := F26.binds (ps := ["self"]) fun _ _ _ _ _ _ us hl => match us, hl with | [_], _ => rfl
  have Q26 : PropOf K C "top" p26 f26 := ⟨a26, g26, t26, _, r26⟩
  have F27 := fun_mk (st := sbot) l27 c27 k27
  have b27 := F27.binds (ps := ["self"]) fun _ _ _ _ _ _ us hl => match us, hl with | [_], _ => rfl
  have Q27 : PropOf K C "bottom" p27 f27 := ⟨a27, g27, t27, _, r27⟩
  have F28 := fun_mk (st := ssign) l28 c28 k28
  have b28 := F28.binds (ps := ["self"]) fun _ _ _ _ _ _ us hl => match us, hl with | [_], _ => rfl
  have Q28 : PropOf K C "sign" p28 f28 := ⟨a28, g28, t28, _, r28⟩
  have F29 := fun_mk (st := swhole) l29 c29 k29
  have b29 := F29.binds (ps := ["self"]) fun _ _ _ _ _ _ us hl => match us, hl with | [_], _ => rfl
  have Q29 : PropOf K C "is_whole" p29 f29 := ⟨a29, g29, t29, _, r29⟩
  have F30 := fun_mk (st := stotal) l30 c30 k30
  have b30 := F30.binds (ps := ["cls", "numbers"]) fun _ _ _ _ _ _ us hl => match us, hl with | [_, _], _ => rfl
  have F31 : FunD K "__init__" "Ratio.__init__" (defArgs sinit) (defBody sinit) (defScope sinit) [V.int 1] [] f31 _ := ⟨⟨oc31, od31, dV, kV31, dc31, pm31, an31, cd31, ct31, sl31, rfl, l31, c31, He.dflB_ok d0, .inl rfl⟩, k31⟩
  obtain ⟨ds2, v2, B2⟩ := F31.binds1 (ps := ["self", "top", "bottom"]) 3 1 (fun z => nomatch z) rfl fun T kV doc pm an cdv ct us its h1 h2 => match us, its, h1, h2 with | [_, _, _], [_], _, _ => ⟨_, rfl, rfl⟩
  obtain ⟨ds1, v1, B1⟩ := F31.binds1 (ps := ["self", "top", "bottom"]) 2 0 (fun z => nomatch z) rfl fun T kV doc pm an cdv ct us its h1 h2 => match us, its, h1, h2 with | [_, _], [_], _, _ => ⟨_, rfl, rfl⟩
  obtain ⟨itk, BK⟩ := F31.kbindsD (ps := ["self", "top", "bottom"]) 1 ["bottom", "top"] (fun vs _ zs => vs ++ zs.reverse) (fun z => nomatch z) (fun r _ rz => r.append rz.reverse) fun T kV doc pm an cdv ct us its ws h1 h2 h3 => match us, its, ws, h1, h2, h3 with | [_], [_], [_, _], _, _, _ => ⟨_, rfl, rfl⟩
  cases vals_nil v2
  have MK : Mk K C f31 := ⟨mk, a31, i31, kc⟩
  have T1 : T1 K mg C := ⟨y_isinstance, y_int, y_bool, y_list, y_tuple, y_abs, PySem.W.mg_of X G mgcd, PySem.W.mg_of X G aC, ⟨pg, hd, po, sa⟩, nT, nB, ha, hn, htk, hm, kI⟩
  have TZ : TZ mg := ⟨y_max, y_min, y_len, y_all, y_divmod, y_range, y_zip, y_repr, y_str, y_int, y_abs⟩
  have mC := PySem.W.mg_of X G aC
  refine ⟨fun s u fd l => ?_, fun base _ _ => ?_⟩
  · cases lookFn l11 l
    exact .of_eq rfl
  have T2 : T2 l.prog w K mg base C := ⟨T1, cal_o F1 (ok_isint F1 T1) m1 b1⟩
  have G0 := ok_init F31 T2
  have T3 : T3 l.prog w K mg base C := ⟨T2, ⟨_, _, _, _, MK, G0, mC, B2, .nil⟩, ⟨_, _, _, _, MK, G0, mC, B1, v1⟩⟩
  have T4 : T4 l.prog w K mg base C := ⟨T3, cal_o F2 (ok_asr F2 T3) m2 b2⟩
  have Oadd : OwnOp K C "add" f12 := ⟨sf, o_add, i12⟩
  have Jadd : OwnInt K C "add" f15 := ⟨or_add, i15, ⟨_, oi_add⟩, ⟨_, oj_add⟩, isub, csub⟩
  have G12 := ok_add F12 T4
  have Osub : OwnOp K C "sub" f13 := ⟨sf, o_sub, i13⟩
  have Jsub : OwnInt K C "sub" f16 := ⟨or_sub, i16, ⟨_, oi_sub⟩, ⟨_, oj_sub⟩, isub, csub⟩
  have G13 := ok_sub F13 T4
  have Omul : OwnOp K C "mul" f14 := ⟨sf, o_mul, i14⟩
  have Jmul : OwnInt K C "mul" f17 := ⟨or_mul, i17, ⟨_, oi_mul⟩, ⟨_, oj_mul⟩, isub, csub⟩
  have G14 := ok_mul F14 T4
  have T5 : T5 l.prog w K mg base C := ⟨T4, ⟨_, _, _, Oadd, G12, b12⟩, ⟨_, _, _, Osub, G13, b13⟩, ⟨_, _, _, Omul, G14, b14⟩, ⟨_, _, _, _, Oadd, Jadd, G12, b12⟩⟩
  have TL : TL l.prog w K mg base C := { T5, TZ with
    io_add := ⟨_, _, _, _, Oadd, Jadd, ok_radd F15 T5, b15⟩
    io_sub := ⟨_, _, _, _, Osub, Jsub, ok_rsub F16 T5, b16⟩
    io_mul := ⟨_, _, _, _, Omul, Jmul, ok_rmul F17 T5, b17⟩
    oi_sub := ⟨_, _, _, _, Osub, Jsub, G13, b13⟩
    oi_mul := ⟨_, _, _, _, Omul, Jmul, G14, b14⟩
    at_eq := ⟨_, _, _, ⟨a19, i19⟩, ok_eq F19 T3, b19⟩
    ne := ⟨ne, hm⟩
    at_neg := ⟨_, _, _, ⟨a18, i18⟩, ok_neg F18 T3, b18⟩
    at_str := ⟨_, _, _, ⟨a20, i20⟩, ok_str F20 T3 y_str, b20⟩
    at_repr := ⟨_, _, _, ⟨a21, i21⟩, ok_repr F21 T3, b21⟩
    over := ⟨_, _, _, ⟨a22, i22, k22⟩, ok_over F22 T4, b22⟩
    over_k := ⟨_, _, _, _, ⟨a22, i22, k22⟩, ok_over F22 T4, kbn_of fun us ws h1 h2 => match us, ws, h1, h2 with | [_], [_], _, _ => rfl⟩
    size := ⟨_, _, _, ⟨a23, i23, k23⟩, ok_size F23 T3, b23⟩
    is_below := ⟨_, _, _, ⟨a24, i24, k24⟩, ok_below F24 T4, b24⟩
    is_below_k := ⟨_, _, _, _, ⟨a24, i24, k24⟩, ok_below F24 T4, kbn_of fun us ws h1 h2 => match us, ws, h1, h2 with | [_], [_], _, _ => rfl⟩
    is_at_most := ⟨_, _, _, ⟨a25, i25, k25⟩, ok_most F25 T4, b25⟩
    top := ⟨_, _, _, _, Q26, ok_top F26 T3, b26⟩
    bottom := ⟨_, _, _, _, Q27, ok_bot F27 T3, b27⟩
    sign := ⟨_, _, _, _, Q28, ok_sign F28 T3, b28⟩
    is_whole := ⟨_, _, _, _, Q29, ok_whole F29 T3, b29⟩
    total := ⟨_, _, _, _, _, ⟨rd, ga⟩, ⟨a30, ⟨_, r30⟩, i30⟩, ok_total F30 T5, b30⟩
    total_k := ⟨_, _, _, _, _, _, ⟨rd, ga⟩, ⟨a30, ⟨_, r30⟩, i30⟩, ok_total F30 T5, kbn_of fun us ws h1 h2 => match us, ws, h1, h2 with | [_], [_], _, _ => rfl⟩
    mkk := ⟨_, _, _, _, MK, G0, mC, BK⟩
    kS := kS
    kD := kD
    kL := kL
    kT := kT
    nI := nI
    nS := nS
    nD := nD
    nL := nL
    nTu := nTu }
  have D1 := cal_g F4 (ok_draw (P := l.prog) (w := w) (base := base) F4 TZ) m4 b4
  have TD : TD l.prog w K mg base := ⟨TZ, D1⟩
  have TP : TP l.prog w K mg base C := ⟨TL, cal_g F3 (ok_pot F3 TZ) m3 b3, D1, cal_g F5 (ok_low F5 TZ) m5 b5, cal_g F6 (ok_number F6 TD) m6 b6, cal_g F7 (ok_is F7 TL) m7 b7, nC⟩
  have TR : TR l.prog w K mg base C := ⟨TP, cal_g F8 (ok_pair F8 TP) m8 b8, cal_g F9 (ok_wright F9 TP) m9 b9⟩
  exact ok_law F11 ⟨TR, cal_g F10 (ok_right F10 TR) m10 b10⟩
end RK
open PySem PySem.W PyProof.Rows
set_option maxHeartbeats 0 in
theorem PySem.Challenge.cw_straightened_k11_whole_ratios_reckoned_holds : PySem.Challenge.rw_straightened_k11_whole_ratios_reckoned.Holds := by
  w_on; o_law; k_head; (case hw => w_witness2)
  k_fill
  refine RK.walkG (l := PySem.Challenge.rw_straightened_k11_whole_ratios_reckoned) (n := 63) (k := 10) (x := "_law_script") (sp := fun w => RK.spLaw _) rfl (by decide) rfl ⟨rfl, by decide, by decide⟩ (fun w h Y => PySem.W.kIn_of Y) ?F (fun w H a ns _ _ hS => ⟨a, ns, rfl, hS, fun _ => rfl⟩)
  case F =>
    intro w mg fa h KX G hmg
    refine' RK.all_mk KX G hmg ?aC ?a1 ?l1 ?c1 ?k1 ?a2 ?l2 ?c2 ?k2 ?a3 ?l3 ?c3 ?k3 ?a4 ?l4 ?c4 ?k4 ?a5 ?l5 ?c5 ?k5 ?a6 ?l6 ?c6 ?k6 ?a7 ?l7 ?c7 ?k7 ?a8 ?l8 ?c8 ?k8 ?a9 ?l9 ?c9 ?k9 ?a10 ?l10 ?c10 ?k10 ?a11 ?l11 ?c11 ?k11 ?a12 ?i12 ?l12 ?c12 ?k12 ?a13 ?i13 ?l13 ?c13 ?k13 ?a14 ?i14 ?l14 ?c14 ?k14 ?a15 ?i15 ?l15 ?c15 ?k15 ?a16 ?i16 ?l16 ?c16 ?k16 ?a17 ?i17 ?l17 ?c17 ?k17 ?a18 ?i18 ?l18 ?c18 ?k18 ?a19 ?i19 ?l19 ?c19 ?k19 ?a20 ?i20 ?l20 ?c20 ?k20 ?a21 ?i21 ?l21 ?c21 ?k21 ?a22 ?i22 ?l22 ?c22 ?k22 ?a23 ?i23 ?l23 ?c23 ?k23 ?a24 ?i24 ?l24 ?c24 ?k24 ?a25 ?i25 ?l25 ?c25 ?k25 ?a26 ?g26 ?t26 ?r26 ?l26 ?c26 ?k26 ?a27 ?g27 ?t27 ?r27 ?l27 ?c27 ?k27 ?a28 ?g28 ?t28 ?r28 ?l28 ?c28 ?k28 ?a29 ?g29 ?t29 ?r29 ?l29 ?c29 ?k29 ?rd ?ga ?a30 ?r30 ?i30 ?l30 ?c30 ?k30 ?a31 ?i31 ?l31 ?c31 ?k31 ?d0 ?o_add ?or_add ?oi_add ?oj_add ?o_sub ?or_sub ?oi_sub ?oj_sub ?o_mul ?or_mul ?oi_mul ?oj_mul ?isub ?csub ?sf ?pg ?hd ?po ?sa ?mk ?kc ?nT ?nB ?ha ?hn ?htk ?hm ?ne ?kI ?kS ?kD ?kL ?kT ?nI ?nS ?nD ?nL ?nTu ?nC ?mgcd ?z_isinstance ?z_int ?z_bool ?z_list ?z_tuple ?z_abs ?z_max ?z_min ?z_len ?z_all ?z_divmod ?z_range ?z_zip ?z_repr ?z_str
    (case aC => k_is); (case a1 => k_is); (case l1 => k_is); (case c1 => k_is)
    (case k1 => k_is); (case a2 => k_is); (case l2 => k_is); (case c2 => k_is)
    (case k2 => k_is); (case a3 => k_is); (case l3 => k_is); (case c3 => k_is)
    (case k3 => k_is); (case a4 => k_is); (case l4 => k_is); (case c4 => k_is)
    (case k4 => k_is); (case a5 => k_is); (case l5 => k_is); (case c5 => k_is)
    (case k5 => k_is); (case a6 => k_is); (case l6 => k_is); (case c6 => k_is)
    (case k6 => k_is); (case a7 => k_is); (case l7 => k_is); (case c7 => k_is)
    (case k7 => k_is); (case a8 => k_is); (case l8 => k_is); (case c8 => k_is)
    (case k8 => k_is); (case a9 => k_is); (case l9 => k_is); (case c9 => k_is)
    (case k9 => k_is); (case a10 => k_is); (case l10 => k_is); (case c10 => k_is)
    (case k10 => k_is); (case a11 => k_is); (case l11 => k_is); (case c11 => k_is)
    (case k11 => k_is); (case a12 => k_is); (case i12 => k_is); (case l12 => k_is)
    (case c12 => k_is); (case k12 => k_is); (case a13 => k_is); (case i13 => k_is)
    (case l13 => k_is); (case c13 => k_is); (case k13 => k_is); (case a14 => k_is)
    (case i14 => k_is); (case l14 => k_is); (case c14 => k_is); (case k14 => k_is)
    (case a15 => k_is); (case i15 => k_is); (case l15 => k_is); (case c15 => k_is)
    (case k15 => k_is); (case a16 => k_is); (case i16 => k_is); (case l16 => k_is)
    (case c16 => k_is); (case k16 => k_is); (case a17 => k_is); (case i17 => k_is)
    (case l17 => k_is); (case c17 => k_is); (case k17 => k_is); (case a18 => k_is)
    (case i18 => k_is); (case l18 => k_is); (case c18 => k_is); (case k18 => k_is)
    (case a19 => k_is); (case i19 => k_is); (case l19 => k_is); (case c19 => k_is)
    (case k19 => k_is); (case a20 => k_is); (case i20 => k_is); (case l20 => k_is)
    (case c20 => k_is); (case k20 => k_is); (case a21 => k_is); (case i21 => k_is)
    (case l21 => k_is); (case c21 => k_is); (case k21 => k_is); (case a22 => k_is)
    (case i22 => k_is); (case l22 => k_is); (case c22 => k_is); (case k22 => k_is)
    (case a23 => k_is); (case i23 => k_is); (case l23 => k_is); (case c23 => k_is)
    (case k23 => k_is); (case a24 => k_is); (case i24 => k_is); (case l24 => k_is)
    (case c24 => k_is); (case k24 => k_is); (case a25 => k_is); (case i25 => k_is)
    (case l25 => k_is); (case c25 => k_is); (case k25 => k_is); (case a26 => k_is)
    (case g26 => k_is); (case t26 => k_is); (case r26 => k_is); (case l26 => k_is)
    (case c26 => k_is); (case k26 => k_is); (case a27 => k_is); (case g27 => k_is)
    (case t27 => k_is); (case r27 => k_is); (case l27 => k_is); (case c27 => k_is)
    (case k27 => k_is); (case a28 => k_is); (case g28 => k_is); (case t28 => k_is)
    (case r28 => k_is); (case l28 => k_is); (case c28 => k_is); (case k28 => k_is)
    (case a29 => k_is); (case g29 => k_is); (case t29 => k_is); (case r29 => k_is)
    (case l29 => k_is); (case c29 => k_is); (case k29 => k_is); (case rd => k_is)
    (case ga => k_is); (case a30 => k_is); (case r30 => k_is); (case i30 => k_is)
    (case l30 => k_is); (case c30 => k_is); (case k30 => k_is); (case a31 => k_is)
    (case i31 => k_is); (case l31 => k_is); (case c31 => k_is); (case k31 => k_is)
    (case d0 => kernel_rfl); (case o_add => k_is); (case or_add => k_is); (case oi_add => k_is)
    (case oj_add => k_is); (case o_sub => k_is); (case or_sub => k_is); (case oi_sub => k_is)
    (case oj_sub => k_is); (case o_mul => k_is); (case or_mul => k_is); (case oi_mul => k_is)
    (case oj_mul => k_is); (case isub => k_is); (case csub => k_is); (case sf => k_is)
    (case pg => k_is); (case hd => k_is); (case po => k_is); (case sa => k_is)
    (case mk => k_is); (case kc => k_is); (case nT => k_is); (case nB => k_is)
    (case ha => k_is); (case hn => k_is); (case htk => k_is); (case hm => k_is)
    (case ne => k_is); (case kI => kernel_rfl); (case kS => kernel_rfl); (case kD => kernel_rfl)
    (case kL => kernel_rfl); (case kT => kernel_rfl); (case nI => k_is); (case nS => k_is)
    (case nD => k_is); (case nL => k_is); (case nTu => k_is); (case nC => k_is)
    (case mgcd => k_is); (case z_isinstance => k_is); (case z_int => k_is); (case z_bool => k_is)
    (case z_list => k_is); (case z_tuple => k_is); (case z_abs => k_is); (case z_max => k_is)
    (case z_min => k_is); (case z_len => k_is); (case z_all => k_is); (case z_divmod => k_is)
    (case z_range => k_is); (case z_zip => k_is); (case z_repr => k_is); (case z_str => k_is)
