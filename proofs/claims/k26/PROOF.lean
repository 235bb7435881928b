import PyProof.Rows.All
import Wide.All
import OpenK.AllK
import Wide.FinOn
import KE.KStateDown
import HandS.ForMost
import HandS.ForExc
import HandS.Defaults
import HandS.Property
import HandS.MakeKw
import HandS.IsInst
import HandS.Flow
import HandS.Style
import HandS.Wide
import HandS.OwnEq
import HandS.Conv
import HandS.Deep
import HandS.Head0
import HandS.Head1
import HandS.Head2
import HandS.HeadEnd
import HandS.HeadHook1
import HandS.HeadHook2
import OpenK.KOps
import KE.KOpsOwn
import HandS.Zip
import HandS.TupAny
import HandS.MakeKwOnly
import PySem.Challenge.RW_rainvalleys_k26_volumes_by_name
import HandS.SetFor
import HandS.Strs
set_option Elab.async false
set_option linter.all false
set_option maxRecDepth 100000
set_option maxHeartbeats 4000000
/-! Words of this proof: operators on values by short names, the steps of a reading, what a call of a def asks. -/
namespace Rv
open PySem PySem.Spec PyProof.Rows L2
abbrev oAdd : R2 := rI0 fun i j => .int (i + j)
abbrev oSub : R2 := rI0 fun i j => .int (i - j)
abbrev oMul : R2 := rI CMul fun i j => .int (i * j)
abbrev oMulW : R2 := rI CMulW fun i j => .int (i * j)
abbrev oDiv : R2 := rI CDivW fun i j => .int (i / j)
abbrev oMod : R2 := rI (fun _ j => 0 < j) fun i j => .int (i % j)
abbrev oPow : R2 := rI CPow fun i j => .int (i ^ j.toNat)
abbrev oLt : R2 := rI0 fun i j => .bl (decide (i < j))
abbrev oLe : R2 := rI0 fun i j => .bl (decide (i ≤ j))
abbrev oGt : R2 := rI0 fun i j => .bl (decide (j < i))
abbrev oGe : R2 := rI0 fun i j => .bl (decide (j ≤ i))
abbrev oIsN : R2 := fun x y H Q => y = .non ∧ Q (.bl (decide (x = .non))) H
abbrev oNotN : R2 := fun x y H Q => y = .non ∧ Q (.bl (!decide (x = .non))) H
abbrev cLen (K : PySem.W.Frag) : List V → Hp → VK → Prop := fun xs H Q => ∃ p ys, xs = [.ref p] ∧ (SqL K H p ys ∨ SqT K H p ys) ∧ Q (.int ys.length) H
abbrev cInt : List V → Hp → VK → Prop := fun xs H Q => (∃ i, xs = [.int i] ∧ Q (.int i) H) ∨ ∃ k, xs = [.bl k] ∧ Q (.int (if k then 1 else 0)) H
abbrev cAbs : List V → Hp → VK → Prop := fun xs H Q => ∃ i, xs = [.int i] ∧ Q (.int (if i < 0 then -i else i)) H
abbrev cList (K : PySem.W.Frag) : List V → Hp → VK → Prop := fun xs H Q => ∃ p ys, xs = [.ref p] ∧ (SqL K H p ys ∨ SqT K H p ys) ∧ ∀ l, H l = none → Q (.ref l) (upd H l (.lst ys))
abbrev cTuple (K : PySem.W.Frag) : List V → Hp → VK → Prop := fun xs H Q => ∃ p ys, xs = [.ref p] ∧ ((SqL K H p ys ∧ ∀ l, H l = none → Q (.ref l) (upd H l (.tup ys))) ∨ (SqT K H p ys ∧ Q (.ref p) H))
abbrev cMax2 : List V → Hp → VK → Prop := fun xs H Q => ∃ i j, xs = [.int i, .int j] ∧ Q (.int (if j > i then j else i)) H
abbrev cMin2 : List V → Hp → VK → Prop := fun xs H Q => ∃ i j, xs = [.int i, .int j] ∧ Q (.int (if j < i then j else i)) H

/-- a def of the module as its callers see it -/
structure Cal (P : Program) (w : World) (K : PySem.W.Frag) (mg : Str → Option Value) (base : Heap) (CX : CXT) (k : Nat) (x : Str) (ps : List Str) (sp : Sp) : Prop where
  ex : ∃ f fd, FnOk P w K mg base CX k f fd ps sp ∧ mg x = some (.ref f) ∧ PySem.W.keepIn K (.ref f) = true ∧ Binds K fd ps []
section
variable {X : Cx} {CX : CXT} {k : Nat} {x : Str} {ps : List Str} {sp : Sp} {E : XK} {p pos : Pos} {e : Expr} {es : List Expr} {t : TA}
theorem pe_cal (c : Cal X.prog X.w X.K X.mg X.base CX k x ps sp) (hr : Room k X.A) (hg : Gl X x) (hx : Passes CX X E) (ha : PA X (e :: es) t) (hdb : (x == ("__debug__" : Str)) = false := by decide)
    (he : starEach (e :: es) X.env = (false, eval e X.env) :: starEach es X.env := by rfl) (hpl : (backTo pos (starEach es X.env)).any (·.1) = false := by rfl) :
    PE X (.Call (.Name x p) (e :: es) [] pos) (tCall sp [] E t) := by
  obtain ⟨f, fd, F, hm, hk, hb⟩ := c.ex
  first
    | exact pe_call F hr hg hm hk hb .nil hx ha hdb he hpl
    | exact pe_call F hr hg hm hk hb .nil hx ha
end

section
variable {K : PySem.W.Frag} {σ : L2.St} {H : Hp} {Q : VK} {D : Ends} {v x y : V} {i j : Int} {n : Nat} {ta tb te to ti : TE} {t u c : TT} {tr : TA} {b : Bool} {r : R2} {s1 s2 : TS} {g : TG} {p : Addr} {xs : List V} {TQ : Bool → Hp → Prop} {AQ : List V → Hp → Prop} {HQ : Hp → Prop} {GQ : L2.St → Hp → Prop}
theorem w_var (h : σ[n]? = some (some v)) (q : Q v H) : tVar n σ H Q := ⟨v, h, q⟩
theorem w_c (q : Q v H) : tC v σ H Q := q
theorem w_op (q : ta σ H fun x H1 => tb σ H1 fun y H2 => r x y H2 Q) : tOp r ta tb σ H Q := q
theorem w_un {r : V → Hp → VK → Prop} (q : ta σ H fun x H1 => r x H1 Q) : tUn r ta σ H Q := q
theorem w_U {g : Int → V} (q : Q (g i) H) : rU g (.int i) H Q := ⟨i, rfl, q⟩
theorem w_test (q : ta σ H fun x H' => ∃ k, x = .bl k ∧ TQ k H') : tTest ta σ H TQ := q
theorem w_tB (q : ta σ H fun x H' => ∃ k, x = .bl k ∧ TQ k H') : tB ta σ H TQ := q
theorem w_bl (q : TQ b H) : ∃ k, V.bl b = .bl k ∧ TQ k H := ⟨b, rfl, q⟩
theorem w_I0 {g : Int → Int → V} (q : Q (g i j) H) : rI0 g (.int i) (.int j) H Q := ⟨i, j, rfl, rfl, q⟩
theorem w_I {C : Int → Int → Prop} {g : Int → Int → V} (hc : C i j) (q : Q (g i j) H) : rI C g (.int i) (.int j) H Q := ⟨i, j, rfl, rfl, hc, q⟩
theorem w_eq (h : scal x y = true) (q : Q (.bl (decide (x = y))) H) : rEq x y H Q := ⟨h, q⟩
theorem w_eqI (q : Q (.bl (decide (i = j))) H) : rEq (.int i) (.int j) H Q := ⟨rfl, by
  have e : decide (V.int i = V.int j) = decide (i = j) := by
    by_cases h : i = j
    · rw [h, decide_eq_true rfl, decide_eq_true rfl]
    · rw [decide_eq_false h, decide_eq_false (fun z => h (V.int.inj z))]
  rw [e]
  exact q⟩
theorem w_neI (q : Q (.bl (!decide (i = j))) H) : rNe (.int i) (.int j) H Q := ⟨rfl, by
  have e : decide (V.int i = V.int j) = decide (i = j) := by
    by_cases h : i = j
    · rw [h, decide_eq_true rfl, decide_eq_true rfl]
    · rw [decide_eq_false h, decide_eq_false (fun z => h (V.int.inj z))]
  rw [e]
  exact q⟩
theorem w_cons (q : ta σ H fun x H1 => tr σ H1 fun xs H2 => AQ (x :: xs) H2) : tCons ta tr σ H AQ := q
theorem w_nil (q : AQ [] H) : tNil σ H AQ := q
theorem w_seq (q : s1 { D with nx := s2 D } σ H) : tSeq s1 s2 D σ H := q
theorem w_seqA (q : te σ H fun x H1 => g x σ H1 (s2 D)) : tSeq (tAsg te g) s2 D σ H := q
theorem w_seqD (q : te σ H fun _ H1 => s2 D σ H1) : tSeq (tDrop te) s2 D σ H := q
theorem w_seqP {m : Nat} (q : tr σ H fun vs H1 => ∃ v w, vs = [v, w] ∧ s2 D ((σ.set n (some v)).set m (some w)) H1) : tSeq (tPar n m tr) s2 D σ H := q
/-- behind s1 the word W holds, whatever way was gone -/
theorem w_cut (W : L2.St → Hp → Prop) (h : ∀ N : L2.St → Hp → Prop, (∀ σ' H', W σ' H' → N σ' H') → s1 { D with nx := N } σ H) (k : ∀ σ' H', W σ' H' → s2 D σ' H') : tSeq s1 s2 D σ H := h _ k
theorem w_next (q : D.nx σ H) : tNext D σ H := q
theorem w_asg (q : te σ H fun x H1 => g x σ H1 D.nx) : tAsg te g D σ H := q
theorem w_gn (q : GQ (σ.set n (some v)) H) : gName n v σ H GQ := q
theorem w_gsub {s : TSet} (q : to σ H fun o H1 => ti σ H1 fun i H2 => s o i v H2 fun H3 => GQ σ H3) : gSub to ti s v σ H GQ := q
theorem w_setL {k : Int} {j : Nat} (h : H p = some (.lst xs)) (hj : ixN xs.length k = some j) (q : HQ (upd H p (.lst (xs.set j v)))) : rSetL (.ref p) (.int k) v H HQ := ⟨p, xs, k, j, rfl, rfl, h, hj, q⟩
theorem w_ret (q : te σ H D.rt) : tRet te D σ H := q
theorem w_drop (q : te σ H fun _ H1 => D.nx σ H1) : tDrop te D σ H := q
theorem w_ifs (q : c σ H fun b H1 => if b = true then s1 D σ H1 else s2 D σ H1) : tIfS c s1 s2 D σ H := q
theorem w_if (q : c σ H fun b H1 => if b = true then ta σ H1 Q else tb σ H1 Q) : tIf c ta tb σ H Q := q
theorem w_and (q : t σ H fun c H1 => if c = true then u σ H1 TQ else TQ false H1) : tAnd t u σ H TQ := q
theorem w_or (q : t σ H fun c H1 => if c = true then TQ true H1 else u σ H1 TQ) : tOr t u σ H TQ := q
theorem w_not (q : t σ H fun c H1 => TQ (!c) H1) : tNot t σ H TQ := q
theorem w_andV (q : ta σ H fun x H1 => ∃ c, x = .bl c ∧ if c = true then tb σ H1 Q else Q (.bl false) H1) : tAndV ta tb σ H Q := q
theorem w_orV (q : ta σ H fun x H1 => ∃ c, x = .bl c ∧ if c = true then Q (.bl true) H1 else tb σ H1 Q) : tOrV ta tb σ H Q := q
theorem w_notV (q : ta σ H fun x H1 => ∃ c, x = .bl c ∧ Q (.bl (!c)) H1) : tNotV ta σ H Q := q
theorem w_ixL (h : SqL K H p xs) (ha : atI xs i = some v) (q : Q v H) : rIxL K (.ref p) (.int i) H Q := ⟨p, xs, i, v, rfl, rfl, h, ha, q⟩
theorem w_ixT (h : SqT K H p xs) (ha : atI xs i = some v) (q : Q v H) : rIxT K (.ref p) (.int i) H Q := ⟨p, xs, i, v, rfl, rfl, h, ha, q⟩
theorem w_cb {r : List V → Hp → VK → Prop} (q : tr σ H fun vs H1 => r vs H1 Q) : tCB r tr σ H Q := q
theorem w_lenL (h : SqL K H p xs) (q : Q (.int xs.length) H) : cLen K [.ref p] H Q := ⟨p, xs, rfl, .inl h, q⟩
theorem w_lenT (h : SqT K H p xs) (q : Q (.int xs.length) H) : cLen K [.ref p] H Q := ⟨p, xs, rfl, .inr h, q⟩
theorem w_intB (q : Q (.int (if b then 1 else 0)) H) : cInt [.bl b] H Q := .inr ⟨b, rfl, q⟩
theorem w_intI (q : Q (.int i) H) : cInt [.int i] H Q := .inl ⟨i, rfl, q⟩
theorem w_abs (q : Q (.int (if i < 0 then -i else i)) H) : cAbs [.int i] H Q := ⟨i, rfl, q⟩
theorem w_call {sp : Sp} {dvs : List V} {E : XK} (q : tr σ H fun vs H1 => sp (vs ++ dvs) H1 Q E) : tCall sp dvs E tr σ H Q := q
theorem w_lst (q : tr σ H fun xs H1 => xs.length ≤ sizeLine ∧ ∀ p, H1 p = none → Q (.ref p) (upd H1 p (.lst xs))) : tLst tr σ H Q := q
theorem w_tup (q : tr σ H fun xs H1 => xs.length ≤ sizeLine ∧ ∀ p, H1 p = none → Q (.ref p) (upd H1 p (.tup xs))) : tTup tr σ H Q := q
theorem w_par {m : Nat} (q : tr σ H fun vs H1 => ∃ v w, vs = [v, w] ∧ D.nx ((σ.set n (some v)).set m (some w)) H1) : tPar n m tr D σ H := q
theorem w_sl {r : V → Option Int → Option Int → Hp → VK → Prop} {tl th : TO} (q : te σ H fun x H1 => tl σ H1 fun l H2 => th σ H2 fun u H3 => r x l u H3 Q) : tSl r te tl th σ H Q := q
theorem w_slL {lo hi : Option Int} (h : SqL K H p xs) (q : ∀ q', H q' = none → Q (.ref q') (upd H q' (.lst (cutV xs lo hi)))) : rSlL K (.ref p) lo hi H Q := ⟨p, xs, rfl, h, q⟩
theorem w_noPart {OQ : Option Int → Hp → Prop} (q : OQ none H) : tNoPart σ H OQ := q
theorem w_part {OQ : Option Int → Hp → Prop} (q : te σ H fun x H1 => ∃ i, x = .int i ∧ OQ (some i) H1) : tPart te σ H OQ := q
theorem w_ex1 {P : Int → Prop} (q : P i) : ∃ j, V.int i = .int j ∧ P j := ⟨i, rfl, q⟩
theorem w_exb {P : Bool → Prop} (q : P b) : ∃ j, V.bl b = .bl j ∧ P j := ⟨b, rfl, q⟩
theorem w_nx {f : L2.St → Hp → Prop} {r : VK} {k c : L2.St → Hp → Prop} {σ : L2.St} {H : Hp} (q : f σ H) : Ends.nx ⟨f, r, k, c⟩ σ H := q
theorem w_rt {f : L2.St → Hp → Prop} {r : VK} {k c : L2.St → Hp → Prop} {v : V} {H : Hp} (q : r v H) : Ends.rt ⟨f, r, k, c⟩ v H := q
theorem w_yes {TQ : Bool → Hp → Prop} {σ : L2.St} {H : Hp} (q : TQ true H) : tYes σ H TQ := q
theorem iteNT {A B : Prop} (h : B) : if (!true) = true then A else B := iteF h
theorem iteNF {A B : Prop} (h : A) : if (!false) = true then A else B := iteT h
theorem iteRf {α : Type} [DecidableEq α] {z : α} {A B : Prop} (h : A) : if decide (z = z) = true then A else B := by
  rw [decide_eq_true rfl]
  exact iteT h
theorem iteNRf {α : Type} [DecidableEq α] {z : α} {A B : Prop} (h : B) : if (!decide (z = z)) = true then A else B := by
  rw [decide_eq_true rfl]
  exact iteF h
/-- a test whose answer is open: both ways -/
theorem w_both {c A B : Prop} [Decidable c] (h1 : c → A) (h2 : ¬ c → B) : if decide c = true then A else B := by
  by_cases h : c
  · rw [decide_eq_true h]
    exact iteT (h1 h)
  · rw [decide_eq_false h]
    exact iteF (h2 h)
theorem w_bothN {c A B : Prop} [Decidable c] (h1 : ¬ c → A) (h2 : c → B) : if (!decide c) = true then A else B := by
  by_cases h : c
  · rw [decide_eq_true h]
    exact iteF (h2 h)
  · rw [decide_eq_false h]
    exact iteT (h1 h)
theorem w_bool {A B : Prop} {b : Bool} (h1 : b = true → A) (h2 : b = false → B) : if b = true then A else B := by
  cases b with
  | true => exact iteT (h1 rfl)
  | false => exact iteF (h2 rfl)
end
theorem pow_c {i j : Int} (h : 0 ≤ j) (h2 : j ≤ 1000000) (h3 : -18446744073709551616 < i) (h4 : i < 18446744073709551616) : CPow i j := ⟨h, h2, by
  have e : (2 : Nat) ^ 64 = 18446744073709551616 := by decide
  omega⟩
theorem mul_l {i j : Int} (h3 : -18446744073709551616 < i) (h4 : i < 18446744073709551616) : CMul i j := .inl ⟨by
  have e : (2 : Int) ^ 64 = 18446744073709551616 := by decide
  omega, by
  have e : (2 : Int) ^ 64 = 18446744073709551616 := by decide
  omega⟩
theorem mul_r {i j : Int} (h3 : -18446744073709551616 < j) (h4 : j < 18446744073709551616) : CMul i j := .inr ⟨by
  have e : (2 : Int) ^ 64 = 18446744073709551616 := by decide
  omega, by
  have e : (2 : Int) ^ 64 = 18446744073709551616 := by decide
  omega⟩
/-- all that H tracked, but the object at d, stands as it was -/
def But (d : Addr) (H H' : Hp) : Prop := ∀ b o, b ≠ d → H b = some o → H' b = some o
theorem But.refl (d : Addr) (H : Hp) : But d H H := fun _ _ _ h => h
theorem But.trans {d : Addr} {H H1 H2 : Hp} (a : But d H H1) (b : But d H1 H2) : But d H H2 := fun c o n h => b c o n (a c o n h)
theorem But.wr {d : Addr} {H H' : Hp} {o : HO} (a : But d H H') : But d H (upd H' d o) := fun c u n h => by
  rw [upd_ne n]
  exact a c u n h
theorem But.new {d p : Addr} {H H' : Hp} {o : HO} (a : But d H H') (h : H' p = none) : But d H (upd H' p o) := fun c u n z => by
  have q := a c u n z
  rw [upd_ne (ne_of_none q h)]
  exact q
theorem But.same {d : Addr} {H H' : Hp} (a : Same H H') : But d H H' := fun c u _ z => a c u z
theorem same_new {p : Addr} {H H' : Hp} {o : HO} (a : Same H H') (h : H' p = none) : Same H (upd H' p o) := fun c u z => by
  have q := a c u z
  rw [upd_ne (ne_of_none q h)]
  exact q
theorem But.sq {K : PySem.W.Frag} {d a : Addr} {H H' : Hp} {xs : List V} (e : But d H H') (n : a ≠ d) (h : SqL K H a xs) : SqL K H' a xs := by
  rcases h with (h | ⟨o, h⟩) | h
  · exact .inl (.inl (e _ _ n h))
  · exact .inl (.inr ⟨o, e _ _ n h⟩)
  · exact .inr h
theorem But.free {d : Addr} {H H' : Hp} (e : But d H H') {l : Addr} (n : l ≠ d) (h : H' l = none) : H l = none := by
  cases q : H l with
  | none => rfl
  | some o =>
    rw [e l o n q] at h
    cases h
theorem sq_lst {K : PySem.W.Frag} {H : Hp} {a : Addr} {xs : List V} (h : H a = some (.lst xs)) : SqL K H a xs := .inl (.inl h)
theorem sq_tup {K : PySem.W.Frag} {H : Hp} {a : Addr} {xs : List V} (h : H a = some (.tup xs)) : SqT K H a xs := .inl (.inl h)
theorem at_nat {xs : List V} {j : Nat} {v : V} (h : xs[j]? = some v) : atI xs (j : Int) = some v := atI_nat h
theorem szl {n : Nat} (h : n ≤ 100000) : n ≤ sizeLine := Nat.le_trans h (by decide)
end Rv
namespace Rv
open PySem PySem.Spec PyProof.Rows L2
/-- a module's name that holds an int -/
theorem pe_gint {X : Cx} {x : Str} {i : Int} {pos : Pos} (h : ∃ u, X.mg x = some (.int i u)) (hg : Gl X x) (hd : (x == ("__debug__" : Str)) = false := by decide) : PE X (.Name x pos) (tC (.int i)) := by
  obtain ⟨u, h⟩ := h
  exact pe_glob hg h ⟨u, rfl⟩ hd
/-- a class of the module whose instances are made by its __init__ (dvs: the defaults that fill up) -/
structure CalM (P : Program) (w : World) (K : PySem.W.Frag) (mg : Str → Option Value) (base : Heap) (CX : CXT) (k : Nat) (x : Str) (C : Addr) (ps : List Str) (sp : Sp) (dvs : List V) : Prop where
  ex : ∃ f fd ds, FnOk P w K mg base CX k f fd ps sp ∧ Mk K C f ∧ mg x = some (.ref C) ∧ Binds K fd ps ds ∧ Vals dvs ds
/-- a property of a class that hands back a field -/
structure CalP (P : Program) (w : World) (K : PySem.W.Frag) (mg : Str → Option Value) (base : Heap) (CX : CXT) (k : Nat) (C : Addr) (f : Str) (sp : Sp) : Prop where
  ex : ∃ p g fd, FnOk P w K mg base CX k g fd ["self"] sp ∧ Cls K C ∧ PropOf K C f p g ∧ Binds K fd ["self"] []
/-- a method of a class -/
structure CalT (P : Program) (w : World) (K : PySem.W.Frag) (mg : Str → Option Value) (base : Heap) (CX : CXT) (k : Nat) (C : Addr) (m : Str) (ps : List Str) (sp : Sp) : Prop where
  ex : ∃ f fd, FnOk P w K mg base CX k f fd ps sp ∧ Cls K C ∧ Meth K C m f ∧ Binds K fd ps []
section
variable {X : Cx} {CX : CXT} {k : Nat} {x f m : Str} {ps : List Str} {sp : Sp} {E : XK} {p pos apos : Pos} {e o : Expr} {es : List Expr} {t : TA} {ta : TE} {C : Addr} {dvs : List V}
theorem pe_calm (c : CalM X.prog X.w X.K X.mg X.base CX k x C ps sp dvs) (hr : Room (k + 1) X.A) (hg : Gl X x) (hx : Passes CX X E) (ha : PA X (e :: es) t) (hdb : (x == ("__debug__" : Str)) = false := by decide)
    (he : starEach (e :: es) X.env = (false, eval e X.env) :: starEach es X.env := by rfl) (hpl : (backTo pos (starEach es X.env)).any (·.1) = false := by rfl) :
    PE X (.Call (.Name x p) (e :: es) [] pos) (tMake C sp dvs E t) := by
  obtain ⟨f, fd, ds, F, M, hm, hb, hd⟩ := c.ex
  exact pe_make M F hr hg hm hb hd hx ha hdb he hpl
theorem pe_calp (c : CalP X.prog X.w X.K X.mg X.base CX k C f sp) (hr : Room (k + 1) X.A) (hx : Passes CX X.nox E) (ha : PE X e ta) (hab : attributeBase e f X.env (eval e X.env) = eval e X.env) :
    PE X (.Attribute e f pos) (tProp C sp [] E ta) := by
  obtain ⟨q, g, fd, F, cl, hp, hb⟩ := c.ex
  exact pe_prop ha cl hp F hr hb .nil hx hab
theorem pe_calt {pl : Sem Bool} (c : CalT X.prog X.w X.K X.mg X.base CX k C m ps sp) (hr : Room k X.A) (hx : Passes CX X E) (ho : PE X o ta) (ha : PA X (e :: es) t)
    (he : starEach (e :: es) X.env = (false, eval e X.env) :: starEach es X.env := by rfl) (hpl : (backTo pos (starEach es X.env)).any (·.1) = false := by rfl)
    (ht : eval (.Call (.Attribute o m apos) (e :: es) [] pos) X.env = (do let ov ← eval o X.env; standAt apos.atName; let (f, first) ← holding [ov] (getMethod ov m pl); callWith pos f first (backTo pos (starEach (e :: es) X.env)) (backToKw pos (keywordEach [] X.env))) := by rfl) :
    PE X (.Call (.Attribute o m apos) (e :: es) [] pos) (tMeth C m sp [] E ta t) := by
  obtain ⟨f, fd, F, cl, hm, hb⟩ := c.ex
  exact pe_meth ho cl hm F hr hb .nil hx ha he hpl ht
theorem pe_calt0 {pl : Sem Bool} (c : CalT X.prog X.w X.K X.mg X.base CX k C m ps sp) (hr : Room k X.A) (hx : Passes CX X E) (ho : PE X o ta)
    (ht : eval (.Call (.Attribute o m apos) [] [] pos) X.env = (do let ov ← eval o X.env; standAt apos.atName; let (f, first) ← holding [ov] (getMethod ov m pl); callWith pos f first (backTo pos (starEach [] X.env)) (backToKw pos (keywordEach [] X.env))) := by rfl) :
    PE X (.Call (.Attribute o m apos) [] [] pos) (tMeth C m sp [] E ta tNil) := by
  obtain ⟨f, fd, F, cl, hm, hb⟩ := c.ex
  exact pe_meth0 ho cl hm F hr hb .nil hx ht
end
/-- == of a class's own -/
structure CalE (P : Program) (w : World) (K : PySem.W.Frag) (mg : Str → Option Value) (base : Heap) (CX : CXT) (k : Nat) (C : Addr) (R : Addr → Addr → Hp → Prop) : Prop where
  ex : ∃ f fd, FnOk P w K mg base CX k f fd ["self", "other"] (spEq R) ∧ PySem.W.findIn K (.ref C) "__eq__" = some (some (.ref f)) ∧ PySem.W.isFn K (.ref f) = true ∧ Binds K fd ["self", "other"] []
theorem op_cale {X : Cx} {CX : CXT} {k : Nat} {C : Addr} {R : Addr → Addr → Hp → Prop} {E : XK} (c : CalE X.prog X.w X.K X.mg X.base CX k C R) (hr : Room k X.A) (hx : Passes CX X E) : OpR X (compareOp .Eq) (rEqG (DIns C R)) := by
  obtain ⟨f, fd, F, h1, h2, hb⟩ := c.ex
  exact op_eqG (rcG_ins F h1 h2 hb hx) hr
end Rv
namespace Rv
open PySem PySem.Spec PyProof.Rows L2
section
variable {K : PySem.W.Frag} {σ : L2.St} {H : Hp} {Q : VK} {D : Ends} {v x y : V} {i j : Int} {n slot : Nat} {ta tb tc te to ti tv tl : TE} {t u c tt : TT} {tr : TA} {b : Bool} {r r' : R2} {s1 s2 : TS} {g : TG} {p a d C dx : Addr} {xs : List V} {f : Str} {fs : List (Str × V)} {GQ2 : Hp → Prop}
theorem w_chain (q : ta σ H fun x H1 => tb σ H1 fun y H2 => r x y H2 fun z H3 => ∃ k, z = .bl k ∧ (if k = true then tc σ H3 fun w' H4 => r' y w' H4 Q else Q (.bl false) H3)) : tChain r r' ta tb tc σ H Q := q
theorem w_fld (hn : σ[n]? = some (some (.ref a))) (ho : H a = some (.ins C dx fs)) (hc : Cls K C) (hf : NoAttr K C f) (hl : fs.lookup f = some v) (q : Q v H) : tFld K (tVar n) f σ H Q := ⟨_, hn, a, C, dx, fs, v, rfl, ho, hc, hf, hl, q⟩
theorem w_prop {sp : Sp} {E : XK} (hn : σ[n]? = some (some (.ref a))) (ho : H a = some (.ins C dx fs)) (q : sp [.ref a] H Q E) : tProp C sp [] E (tVar n) σ H Q := ⟨_, hn, a, dx, fs, rfl, ho, q⟩
theorem w_sfld (q : tv σ H fun y H1 => to σ H1 fun x H2 => ∃ a C dx fs, x = .ref a ∧ H2 a = some (.ins C dx fs) ∧ Cls K C ∧ NoAttr K C f ∧ fs.length < 1000 ∧ D.nx σ (upd H2 a (.ins C dx (putF f y fs)))) : sFld K to tv f D σ H := q
theorem w_put (ho : H a = some (.ins C dx fs)) (hc : Cls K C) (hf : NoAttr K C f) (hl : fs.length < 1000) (q : GQ2 (upd H a (.ins C dx (putF f y fs)))) : ∃ a' C' dx' fs', V.ref a = .ref a' ∧ H a' = some (.ins C' dx' fs') ∧ Cls K C' ∧ NoAttr K C' f ∧ fs'.length < 1000 ∧ GQ2 (upd H a' (.ins C' dx' (putF f y fs'))) := ⟨a, C, dx, fs, rfl, ho, hc, hf, hl, q⟩
/-- a call of a maker -/
theorem w_make {sp : Sp} {dvs : List V} {E : XK} (q : tr σ H fun vs H1 => ∀ x dx, H1 x = none → H1 dx = none → dx ≠ x → sp (.ref x :: (vs ++ dvs)) (upd (upd H1 dx (.own x)) x (.ins C dx [])) (fun v H2 => v = .non ∧ Q (.ref x) H2) E) : tMake C sp dvs E tr σ H Q := q
/-- for i in range(n) -/
theorem w_forR {n : Nat} (hn : n ≤ 100000) (ha : ∀ AQ : List V → Hp → Prop, AQ [.int (n : Int)] H → tr σ H AQ) (Pv : Nat → L2.St → Hp → Prop) (h0 : Pv 0 σ H)
    (hs : ∀ i σ' H', i < n → Pv i σ' H' → s1 { D with nx := Pv (i + 1), ct := Pv (i + 1), bk := D.nx } (σ'.set slot (some (.int (i : Int)))) H') (hd : ∀ σ' H', Pv n σ' H' → D.nx σ' H') : tFor (iRng1 tr) (gName slot) s1 D σ H := by
  refine ha _ ⟨(n : Int), rfl, by omega, by omega, ?_⟩
  rw [show ((n : Int)).toNat = n from Int.toNat_natCast n]
  refine for_range Pv h0 (fun i σ' H' hi q => ?_) hd
  show s1 _ (σ'.set slot (some (.int (0 + (i : Int))))) H'
  rw [Int.zero_add]
  exact hs i σ' H' hi q
/-- for x in a list -/
theorem w_forL (ha : ∀ Q : VK, Q (.ref a) H → tl σ H Q) (hx : SqL K H a xs) (Pv : Nat → L2.St → Hp → Prop) (h0 : Pv 0 σ H) (hl : ∀ i σ' H', i ≤ xs.length → Pv i σ' H' → SqL K H' a xs)
    (hs : ∀ i x σ' H', xs[i]? = some x → Pv i σ' H' → g x σ' H' fun σ2 H2 => s1 { D with nx := Pv (i + 1), ct := Pv (i + 1), bk := D.nx } σ2 H2) (hd : ∀ σ' H', Pv xs.length σ' H' → D.nx σ' H') : tFor (iList K tl) g s1 D σ H :=
  ha _ ⟨a, rfl, ⟨xs, hx⟩, for_list Pv h0 hl hs hd⟩
theorem w_forT (ha : ∀ Q : VK, Q (.ref a) H → tl σ H Q) (hx : SqT K H a xs) (Pv : Nat → L2.St → Hp → Prop) (h0 : Pv 0 σ H) (hl : ∀ i σ' H', i ≤ xs.length → Pv i σ' H' → SqT K H' a xs)
    (hs : ∀ i x σ' H', xs[i]? = some x → Pv i σ' H' → g x σ' H' fun σ2 H2 => s1 { D with nx := Pv (i + 1), ct := Pv (i + 1), bk := D.nx } σ2 H2) (hd : ∀ σ' H', Pv xs.length σ' H' → D.nx σ' H') : tFor (iTup K tl) g s1 D σ H :=
  ha _ ⟨a, rfl, ⟨xs, hx⟩, for_tup Pv h0 hl hs hd⟩
/-- for i, x in enumerate(a list): each turn has a new pair -/
theorem w_forE (ha : ∀ AQ : List V → Hp → Prop, AQ [.ref a] H → tr σ H AQ) (hx : SqL K H a xs) (Pv : Nat → L2.St → Hp → Prop) (h0 : Pv 0 σ H) (hl : ∀ i σ' H', Pv i σ' H' → SqL K H' a xs)
    (hs : ∀ i x T σ' H', xs[i]? = some x → Pv i σ' H' → H' T = none → g (.ref T) σ' (upd H' T (.tup [.int (i : Int), x])) fun σ2 H2 => s1 { D with nx := Pv (i + 1), ct := Pv (i + 1), bk := D.nx } σ2 H2)
    (hd : ∀ σ' H', Pv xs.length σ' H' → D.nx σ' H') : tFor (iEnum K tr) g s1 D σ H := by
  refine ha _ ⟨a, xs, rfl, hx, fun i m σ' H' => m = xs.length - i ∧ i ≤ xs.length ∧ Pv i σ' H', ⟨xs.length, by simp, Nat.zero_le _, h0⟩, ?_⟩
  rintro i m σ' H' ⟨rfl, hi, q⟩
  have hq := hl i σ' H' q
  by_cases hlt : i < xs.length
  · refine .inr ⟨⟨xs, xs[i], hq, List.getElem?_eq_getElem hlt⟩, fun σ2 H2 => Pv (i + 1) σ2 H2, fun σ2 H2 q2 => ⟨xs.length - (i + 1), by omega, rfl, hlt, q2⟩, ?_⟩
    rintro x H2 ⟨T, z, rfl, nT, rfl, hz⟩
    exact hs i z T σ' H' (hz xs hq) q nT
  · have e : i = xs.length := by omega
    subst e
    exact .inl ⟨⟨xs, hq, Nat.le_refl _⟩, hd σ' H' q⟩
/-- while -/
theorem w_while (W : Nat → L2.St → Hp → Prop) {m : Nat} (h0 : W m σ H) (hs : ∀ m σ' H', W m σ' H' → c σ' H' fun b H1 => if b = true then (∃ N : L2.St → Hp → Prop, (∀ σ2 H2, N σ2 H2 → ∃ m', m' < m ∧ W m' σ2 H2) ∧ s1 { D with nx := N, ct := N, bk := D.nx } σ' H1) else D.nx σ' H1) : tWhile c s1 D σ H := ⟨W, ⟨m, h0⟩, hs⟩
theorem w_turn {W : Nat → L2.St → Hp → Prop} {m : Nat} {σ' : L2.St} {H1 : Hp} {D2 : Ends} (h : s1 { D2 with nx := fun σ2 H2 => ∃ m', m' < m ∧ W m' σ2 H2, ct := fun σ2 H2 => ∃ m', m' < m ∧ W m' σ2 H2, bk := D2.nx } σ' H1) :
    ∃ N : L2.St → Hp → Prop, (∀ σ2 H2, N σ2 H2 → ∃ m', m' < m ∧ W m' σ2 H2) ∧ s1 { D2 with nx := N, ct := N, bk := D2.nx } σ' H1 := ⟨_, fun _ _ z => z, h⟩
/-- [e for x in range(n)] -/
theorem w_lcR {n : Nat} (hn : n ≤ 100000) (ha : ∀ AQ : List V → Hp → Prop, AQ [.int (n : Int)] H → tr σ H AQ) (J : Addr → List V → Hp → Prop) (h0 : ∀ D, H D = none → J D [] (upd H D (.lst [])))
    (hs : ∀ D acc H1, acc.length < n → J D acc H1 → te ((σ.set slot none).set slot (some (.int (acc.length : Int)))) H1 fun y H2 => ∃ bcc, H2 D = some (.lst bcc) ∧ bcc.length < sizeLine ∧ ∃ ccc, ccc.length = acc.length + 1 ∧ J D ccc (upd H2 D (.lst (bcc ++ [y]))))
    (hd : ∀ D acc H1, acc.length = n → J D acc H1 → Q (.ref D) H1) : tLc (iRng1 tr) (gName slot) tYes te [slot] σ H Q := by
  refine ha _ ⟨(n : Int), rfl, by omega, by omega, ?_⟩
  rw [show ((n : Int)).toNat = n from Int.toNat_natCast n]
  intro D nD
  refine lc_range (fun i H1 => ∃ acc, acc.length = i ∧ J D acc H1) ⟨[], rfl, h0 D nD⟩ ?_ (fun H1 ⟨acc, e, q⟩ => hd D acc H1 e q)
  rintro i H1 hi ⟨acc, rfl, q⟩
  refine ⟨?_, ?_⟩
  · show ((σ.set slot none).set slot _).set slot none = σ.set slot none
    rw [List.set_set, List.set_set]
  · show te _ H1 _
    rw [Int.zero_add]
    exact hs D acc H1 hi q
/-- what a turn of a comprehension ends with -/
theorem w_app {J : Addr → List V → Hp → Prop} {D2 : Addr} {acc : List V} {H2 : Hp} (h : H2 D2 = some (.lst acc)) (hl : acc.length ≤ 100000) (q : J D2 (acc ++ [y]) (upd H2 D2 (.lst (acc ++ [y])))) :
    ∃ bcc, H2 D2 = some (.lst bcc) ∧ bcc.length < sizeLine ∧ ∃ ccc, ccc.length = acc.length + 1 ∧ J D2 ccc (upd H2 D2 (.lst (bcc ++ [y]))) :=
  ⟨acc, h, Nat.lt_of_lt_of_le (by omega : acc.length < 100001) (by decide), acc ++ [y], by rw [List.length_append]; rfl, q⟩
end
end Rv
namespace Rv
open PySem PySem.Spec PyProof.Rows L2
section
variable {K : PySem.W.Frag} {σ : L2.St} {H : Hp} {Q : VK} {D : Ends} {v x y : V} {i j : Int} {n slot : Nat} {ta tb tc te to ti tv tl : TE} {t u c tt : TT} {tr : TA} {b b2 : Bool} {g : TG} {p a l : Addr} {xs ys : List V} {vs : List Nat}
theorem w_bm {r : V → List V → Hp → VK → Prop} (hn : σ[n]? = some (some (.ref l))) (hl : H l = some (.lst xs)) (q : tr σ H fun ws H2 => r (.ref l) ws H2 Q) : tBM K "list" r (tVar n) tr σ H Q := ⟨_, hn, .inl ⟨rfl, _, sq_lst hl⟩, q⟩
theorem w_bm0 {r : V → List V → Hp → VK → Prop} (hn : σ[n]? = some (some (.ref l))) (hl : H l = some (.lst xs)) (q : r (.ref l) [] H Q) : tBM0 K "list" r (tVar n) σ H Q := ⟨_, hn, .inl ⟨rfl, _, sq_lst hl⟩, q⟩
theorem w_appR (hl : H l = some (.lst xs)) (hz : xs.length ≤ 100000) (q : Q .non (upd H l (.lst (xs ++ [y])))) : rAppend (.ref l) [y] H Q := ⟨l, xs, y, rfl, rfl, hl, Nat.lt_of_lt_of_le (by omega : xs.length < 100001) (by decide), q⟩
theorem w_clear (hl : H l = some (.lst xs)) (q : Q .non (upd H l (.lst []))) : rClear (.ref l) [] H Q := ⟨l, xs, rfl, rfl, hl, q⟩
theorem w_eqB (q : Q (.bl (decide (b = b2))) H) : rEq (.bl b) (.bl b2) H Q := ⟨rfl, by
  have e : decide (V.bl b = V.bl b2) = decide (b = b2) := by
    by_cases h : b = b2
    · rw [h, decide_eq_true rfl, decide_eq_true rfl]
    · rw [decide_eq_false h, decide_eq_false (fun z => h (V.bl.inj z))]
  rw [e]
  exact q⟩
/-- a list, two lists that are at hand -/
def iAt (K : PySem.W.Frag) (a : Addr) : TI := fun _ H R => (∃ xs, SqL K H a xs) ∧ R (Itl K a) H
theorem w_lcl (q : tl σ H fun x H1 => ∃ a, x = .ref a ∧ tLc (iAt K a) g tt te vs σ H1 Q) : tLc (iList K tl) g tt te vs σ H Q := q
theorem w_lcA (hx : SqL K H a xs) (J : Addr → Nat → List V → Hp → Prop) (h0 : ∀ D, H D = none → J D 0 [] (upd H D (.lst []))) (hl : ∀ D i acc H1, J D i acc H1 → SqL K H1 a xs)
    (hs : ∀ D i acc x H1, xs[i]? = some x → J D i acc H1 → g x (wipe σ vs) H1 fun σ2 H2 => wipe σ2 vs = wipe σ vs ∧ tt σ2 H2 fun b H3 => if b = true then te σ2 H3 fun y H4 => ∃ bcc, H4 D = some (.lst bcc) ∧ bcc.length < sizeLine ∧ ∃ ccc, J D (i + 1) ccc (upd H4 D (.lst (bcc ++ [y]))) else ∃ ccc, J D (i + 1) ccc H3)
    (hd : ∀ D acc H1, J D xs.length acc H1 → Q (.ref D) H1) : tLc (iAt K a) g tt te vs σ H Q := by
  refine ⟨⟨xs, hx⟩, fun D nD => ?_⟩
  exact lc_list (fun i H1 => ∃ acc, J D i acc H1) ⟨[], h0 D nD⟩ (fun i H1 _ ⟨acc, q⟩ => hl D i acc H1 q) (fun i x H1 hx ⟨acc, q⟩ => hs D i acc x H1 hx q) fun H1 ⟨acc, q⟩ => hd D acc H1 q
def iAtZ (K : PySem.W.Frag) (a b : Addr) : TI := fun _ H R => (∃ xs ys, SqL K H a xs ∧ SqL K H b ys) ∧ R (Itz K a b) H
theorem w_lcz (q : tr σ H fun ws H1 => ∃ a b xs ys, ws = [.ref a, .ref b] ∧ SqL K H1 a xs ∧ SqL K H1 b ys ∧ ∀ D, H1 D = none → ∃ W : Nat → Nat → Hp → Prop, (∃ m, W 0 m (upd H1 D (.lst []))) ∧ ∀ i m H, W i m H →
      ((Itz K a b).stop i H ∧ Q (.ref D) H) ∨ ((Itz K a b).go i H ∧ ∃ Nx : Hp → Prop, (∀ H', Nx H' → ∃ m', m' < m ∧ W (i + 1) m' H') ∧ ∀ x H', (Itz K a b).yld i H x H' → g x (wipe σ vs) H' fun σ2 H2 =>
        wipe σ2 vs = wipe σ vs ∧ tt σ2 H2 fun b H3 => if b = true then te σ2 H3 fun y H4 => ∃ acc, H4 D = some (.lst acc) ∧ acc.length < sizeLine ∧ Nx (upd H4 D (.lst (acc ++ [y]))) else Nx H3)) : tLc (iZip K tr) g tt te vs σ H Q := q
/-- the body of a comprehension over zip, by a word J of the turn -/
theorem w_lcZ {bb : Addr} (J : Addr → Nat → List V → Hp → Prop) {H1 : Hp} {Dd : Addr} (h0 : J Dd 0 [] (upd H1 Dd (.lst []))) (hl : ∀ i acc H2, J Dd i acc H2 → SqL K H2 a xs ∧ SqL K H2 bb ys)
    (hs : ∀ i acc x y T H2, xs[i]? = some x → ys[i]? = some y → J Dd i acc H2 → H2 T = none → g (.ref T) (wipe σ vs) (upd H2 T (.tup [x, y])) fun σ2 H3 => wipe σ2 vs = wipe σ vs ∧ tt σ2 H3 fun b H4 => if b = true then te σ2 H4 fun z H5 => ∃ bcc, H5 Dd = some (.lst bcc) ∧ bcc.length < sizeLine ∧ ∃ ccc, J Dd (i + 1) ccc (upd H5 Dd (.lst (bcc ++ [z]))) else ∃ ccc, J Dd (i + 1) ccc H4)
    (hd : ∀ acc H2, J Dd (min xs.length ys.length) acc H2 → Q (.ref Dd) H2) :
    ∃ W : Nat → Nat → Hp → Prop, (∃ m, W 0 m (upd H1 Dd (.lst []))) ∧ ∀ i m H, W i m H →
      ((Itz K a bb).stop i H ∧ Q (.ref Dd) H) ∨ ((Itz K a bb).go i H ∧ ∃ Nx : Hp → Prop, (∀ H', Nx H' → ∃ m', m' < m ∧ W (i + 1) m' H') ∧ ∀ x H', (Itz K a bb).yld i H x H' → g x (wipe σ vs) H' fun σ2 H2 =>
        wipe σ2 vs = wipe σ vs ∧ tt σ2 H2 fun b H3 => if b = true then te σ2 H3 fun y H4 => ∃ acc, H4 Dd = some (.lst acc) ∧ acc.length < sizeLine ∧ Nx (upd H4 Dd (.lst (acc ++ [y]))) else Nx H3) := by
  refine ⟨fun i m H2 => m = min xs.length ys.length - i ∧ i ≤ min xs.length ys.length ∧ ∃ acc, J Dd i acc H2, ⟨min xs.length ys.length, by simp, Nat.zero_le _, [], h0⟩, ?_⟩
  rintro i m H2 ⟨rfl, hi, acc, q⟩
  obtain ⟨q1, q2⟩ := hl i acc H2 q
  by_cases hlt : i < min xs.length ys.length
  · have k1 : i < xs.length := by omega
    have k2 : i < ys.length := by omega
    refine .inr ⟨⟨xs, ys, xs[i], ys[i], q1, q2, List.getElem?_eq_getElem k1, List.getElem?_eq_getElem k2⟩, fun H' => ∃ ccc, J Dd (i + 1) ccc H', fun H' z => ⟨min xs.length ys.length - (i + 1), by omega, rfl, hlt, z⟩, ?_⟩
    rintro z H' ⟨T, x, y, rfl, nT, rfl, hx, hy⟩
    exact hs i acc x y T H2 (hx xs q1) (hy ys q2) q nT
  · have e : i = min xs.length ys.length := by omega
    subst e
    exact .inl ⟨⟨xs, ys, q1, q2, by omega⟩, hd acc H2 q⟩
end
end Rv
namespace Rv
open PySem PySem.Spec PyProof.Rows L2
/-! what the top leaves behind, beyond defs and methods: properties, an own ==, getters -/
def prA (K : PySem.W.Frag) (x f : Str) : Addr := He.ma K (He.ga K x) f
def gtA (K : PySem.W.Frag) (x f : Str) : Addr := match PySem.W.recIn K (prA K x f) "property" with
  | some (.ref g :: _) => g
  | _ => 0
def prB (K : PySem.W.Frag) (x f : Str) : Bool := He.eqO (PySem.W.findIn K (.ref (He.ga K x)) f) (some (some (.ref (prA K x f)))) &&
  (He.eqO (PySem.W.specialIn K (.ref (prA K x f)) "__get__") (some (some (.builtin "property.__get__"))) && (decide (PySem.W.takesIn K (.ref (prA K x f)) = some true) &&
    (match PySem.W.recIn K (prA K x f) "property" with
      | some (.ref _ :: _) => true
      | _ => false)))
theorem pr_of {K : PySem.W.Frag} {x f : Str} (h : prB K x f = true) : PropOf K (He.ga K x) f (prA K x f) (gtA K x f) := by
  obtain ⟨h1, h⟩ := He.ba h
  obtain ⟨h2, h⟩ := He.ba h
  obtain ⟨h3, h4⟩ := He.ba h
  refine ⟨He.eqO_ok h1, He.eqO_ok h2, of_decide_eq_true h3, ?_⟩
  unfold gtA
  cases q : PySem.W.recIn K (prA K x f) "property" with
  | none =>
    rw [q] at h4
    cases h4
  | some l =>
    rw [q] at h4
    match l, h4 with
    | .ref g :: r, _ => exact ⟨r, rfl⟩
/-- the class x has no __class__ of its own -/
def clB (K : PySem.W.Frag) (x : Str) : Bool := He.eqO (PySem.W.findIn K (.ref (He.ga K x)) "__class__") (some (some (.builtin "object.__class__"))) &&
  (He.eqO (PySem.W.specialIn K (.builtin "object.__class__") "__get__") (some (some (.builtin "getset_descriptor.__get__"))) && (decide (PySem.W.takesIn K (.builtin "object.__class__") = some true) && decide (PySem.W.mroIn K (He.ga K x) (.type "object") = some true)))
/-- the text of a function at an address -/
def txt (K : PySem.W.Frag) (a : Addr) : He.FnW := match K.lookup a with
  | some o => (match o.data with
    | .func z => some (z.name, z.qualname, z.params, z.body, z.scope, z.globals, z.closure, z.builtins)
    | _ => none)
  | none => none
def isNn : Value → Bool
  | .none => true
  | _ => false
def txB (K : PySem.W.Frag) (a : Addr) (q : Str) : Bool := PySem.W.keepIn K (.ref a) && (match K.lookup a with
  | some o => (match o.data with
    | .func z => PySem.W.codeIn K z.code q && isNn z.defaults
    | _ => false)
  | none => false)
/-- a getter: its class, the property's name, its function's text -/
structure Gt where
  cl : Str
  pr : Str
  qual : Str
  params : Arguments
  body : List Stmt
  scope : Scope
def Gt.val (g : Gt) : He.FnW := some (g.pr, g.qual, g.params, .stmts g.body, g.scope, mainGlobals, [], builtinsNs)
theorem gt_fun {K : PySem.W.Frag} {g : Gt} {a : Addr} (e : txt K a = g.val) (c : txB K a g.qual = true) : ∃ z, FunD K g.pr g.qual g.params g.body g.scope [] [] a z := by
  obtain ⟨kp, c⟩ := He.ba c
  unfold txt at e
  cases q : K.lookup a with
  | none =>
    rw [q] at e
    cases e
  | some o =>
    obtain ⟨o1, o2, o3, o4⟩ := o
    rw [q] at e c
    cases o3 with
    | func z =>
      obtain ⟨z1, z2, z3, z4, z5, z6, z7, z8, z9, z10, z11, z12, z13, z14, z15⟩ := z
      have e2 : (some (z1, z2, z3, z4, z5, z6, z7, z15) : He.FnW) = some (g.pr, g.qual, g.params, .stmts g.body, g.scope, mainGlobals, [], builtinsNs) := e
      simp only [Option.some.injEq, Prod.mk.injEq] at e2
      obtain ⟨r1, r2, r3, r4, r5, r6, r7, r8⟩ := e2
      subst r1 r2 r3 r4 r5 r6 r7 r8
      obtain ⟨u1, u2⟩ := He.ba (show (PySem.W.codeIn K z13 _ && isNn z8) = true from c)
      cases z8 with
      | none => exact ⟨_, ⟨o1, o2, _, z9, z10, z11, z12, z13, z14, o4, rfl, q, u1, .inl ⟨rfl, rfl⟩, .inl rfl⟩, kp⟩
      | _ => cases u2
    | _ => cases c
/-! the hook: facts, defs, getters, one more test -/
abbrev AlR : Type := He.AlD × (Bool × List He.FnW)
def obsR (fa : List He.Fa) (fn : List He.DefD) (gs : List Gt) (ex : PySem.W.Frag → Bool) (K : PySem.W.Frag) : AlR :=
  (He.obsD fa fn K, (ex K && gs.all fun g => txB K (gtA K g.cl g.pr) g.qual, gs.map fun g => txt K (gtA K g.cl g.pr)))
def valR (fn : List He.DefD) (gs : List Gt) : AlR := (He.valD fn, (true, gs.map Gt.val))
def SaysR (fa : List He.Fa) (fn : List He.DefD) (gs : List Gt) (ex : PySem.W.Frag → Bool) (K : PySem.W.Frag) : Prop := obsR fa fn gs ex K = valR fn gs
def obsRG (n : Nat) (fa : List He.Fa) (fn : List He.DefD) (gs : List Gt) (ex : PySem.W.Frag → Bool) (g : Addr → Option Obj) : AlR := obsR fa fn gs ex (He.frG g (cStatics :: He.asD g n))
def hookR (n : Nat) (fa : List He.Fa) (fn : List He.DefD) (gs : List Gt) (ex : PySem.W.Frag → Bool) : PySem.W.Hook where
  α := AlR
  obs := fun s => obsRG n fa fn gs ex s.heap.get?
  val := fun _ => valR fn gs
  says := fun _ h => ∃ K : PySem.W.Frag, K.In h ∧ SaysR fa fn gs ex K
  of := fun _ _ e => ⟨_, He.frG_in, e⟩
  keeps := fun _ _ _ ⟨K, hK, c⟩ k => ⟨K, PySem.W.Frag.In.keeps hK k, c⟩
theorem obsRG_eq {n : Nat} {fa : List He.Fa} {fn : List He.DefD} {gs : List Gt} {ex : PySem.W.Frag → Bool} {g : Addr → Option Obj} {s : Shared} (h : ∀ a, g a = s.heap.get? a) : obsRG n fa fn gs ex g = (hookR n fa fn gs ex).obs s := by
  have e : g = s.heap.get? := funext h
  rw [e] <;> rfl
section
variable {fa : List He.Fa} {fn : List He.DefD} {gs : List Gt} {ex : PySem.W.Frag → Bool} {K : PySem.W.Frag}
theorem SaysR.d (c : SaysR fa fn gs ex K) : He.SaysD fa fn K := congrArg (fun z : AlR => z.1) c
theorem SaysR.x (c : SaysR fa fn gs ex K) : ex K = true := (He.ba (show (ex K && gs.all fun g => txB K (gtA K g.cl g.pr) g.qual) = true from congrArg (fun z : AlR => z.2.1) c)).1
theorem SaysR.g (c : SaysR fa fn gs ex K) (i : Nat) {g : Gt} (h : gs[i]? = some g := by rfl) : ∃ z, FunD K g.pr g.qual g.params g.body g.scope [] [] (gtA K g.cl g.pr) z := by
  have c1 := (He.ba (show (ex K && gs.all fun g => txB K (gtA K g.cl g.pr) g.qual) = true from congrArg (fun z : AlR => z.2.1) c)).2
  have e : gs.map (fun g => txt K (gtA K g.cl g.pr)) = gs.map Gt.val := congrArg (fun z : AlR => z.2.2) c
  have e2 : (gs.map fun g => txt K (gtA K g.cl g.pr))[i]? = (gs.map Gt.val)[i]? := by rw [e]
  rw [List.getElem?_map, List.getElem?_map, h] at e2
  exact gt_fun (Option.some.inj e2) (List.all_eq_true.mp c1 g (List.mem_of_getElem? h))
end
end Rv
namespace Rv
open PySem PySem.Spec PyProof.Rows L2
/-! ### the law's draws: a list of the cells, a place, a number in use, a seed -/
def DrawsAt (H : Hp) (d c : Addr) : Prop := ∃ (ns : List Int) (pos num seed : Int), H d = some (.lst [.ref c, .int pos, .int num, .int seed]) ∧ H c = some (.lst (ns.map V.int)) ∧ c ≠ d ∧ 0 ≤ pos ∧ 0 ≤ num ∧ 0 ≤ seed ∧ seed < 2147483647
theorem DrawsAt.new {H H' : Hp} {d c : Addr} (h : DrawsAt H d c) (e : Same H H') : DrawsAt H' d c := by
  obtain ⟨ns, pos, num, seed, h1, h2, h3⟩ := h
  exact ⟨ns, pos, num, seed, e _ _ h1, e _ _ h2, h3⟩
theorem DrawsAt.wr {H : Hp} {d c a : Addr} {o : HO} (h : DrawsAt H d c) (n1 : a ≠ d) (n2 : a ≠ c) : DrawsAt (upd H a o) d c := by
  obtain ⟨ns, pos, num, seed, h1, h2, h3⟩ := h
  exact ⟨ns, pos, num, seed, by rw [upd_ne n1.symm]; exact h1, by rw [upd_ne n2.symm]; exact h2, h3⟩
theorem DrawsAt.nd {H : Hp} {d c a : Addr} (h : DrawsAt H d c) (n : H a = none) : a ≠ d := by
  obtain ⟨ns, pos, num, seed, h1, h2, h3⟩ := h
  intro e
  rw [e, h1] at n
  cases n
theorem DrawsAt.nc {H : Hp} {d c a : Addr} (h : DrawsAt H d c) (n : H a = none) : a ≠ c := by
  obtain ⟨ns, pos, num, seed, h1, h2, h3⟩ := h
  intro e
  rw [e, h2] at n
  cases n
def spDraw (K : PySem.W.Frag) : Sp := fun vs H Q _ => ∃ (d c : Addr) (many : Int), vs = [.ref d, .int many] ∧ DrawsAt H d c ∧ 0 < many ∧ many < 2 ^ 200 ∧
  ∀ r H', 0 ≤ r → r < many → But d H H' → DrawsAt H' d c → Q (.int r) H'
def spDraws (K : PySem.W.Frag) : Sp := fun vs H Q _ => ∃ (a : Addr) (ns : List Int), vs = [.ref a] ∧ SqL K H a (ns.map V.int) ∧ ∀ d c H', H d = none → H c = none → Same H H' → DrawsAt H' d c → Q (.ref d) H'
theorem map_int_at {ns : List Int} {j : Nat} (h : j < ns.length) : (ns.map V.int)[j]? = some (V.int ns[j]) := by
  rw [List.getElem?_map, List.getElem?_eq_getElem h]
  rfl
theorem cell_at {ns : List Int} {z : Int} (h0 : 0 ≤ z) (h : z < ((ns.map V.int).length : Int)) : ∃ y, atI (ns.map V.int) z = some (V.int y) := by
  rw [List.length_map] at h
  have e : z = ((z.toNat : Nat) : Int) := (Int.toNat_of_nonneg h0).symm
  have q : (ns.map V.int)[z.toNat]? = some (V.int (ns[z.toNat]'(by omega))) := map_int_at (by omega)
  exact ⟨_, at_of e q⟩
theorem divw {i j : Int} (h : 0 < j) (hb : j < 2 ^ 200) : CDivW i j := by
  refine wide_div (b := 201) h ?_ (by decide) (by decide)
  have e : (2 : Int) ^ 200 = ((2 ^ 200 : Nat) : Int) := rfl
  have e2 : (2 ^ 200 : Nat) < 2 ^ 201 := by decide
  omega
theorem cut_map (ns : List Int) (lo hi : Option Int) : ∃ ms : List Int, cutV (ns.map V.int) lo hi = ms.map V.int := by
  unfold cutV
  rw [← List.map_drop, ← List.map_take]
  exact ⟨_, rfl⟩
def t__law_draws (K : PySem.W.Frag) : TS :=
  (tRet (tLst (tCons (tSl (rSlL K) (tVar 0) tNoPart (tPart (tC (.int 63)))) (tCons (tC (.int 0)) (tCons (tC (.int 0)) (tCons (tC (.int 5)) tNil))))))
def t__law_draw (K : PySem.W.Frag) : TS :=
  (tSeq (tAsg (tOp (rIxL K) (tVar 0) (tC (.int 0))) (gName 2))
    (tSeq (tIfS (tAnd (tTest (tOp rEq (tOp (rIxL K) (tVar 0) (tC (.int 2))) (tC (.int 0)))) (tAnd (tTest (tOp oLt (tOp (rIxL K) (tVar 0) (tC (.int 1))) (tCB (cLen K) (tCons (tVar 2) tNil)))) (tTest (tOp oGe (tOp (rIxL K) (tVar 2) (tOp (rIxL K) (tVar 0) (tC (.int 1)))) (tOp oPow (tC (.int 10)) (tC (.int 18))))))) (tSeq (tAsg (tOp (rIxL K) (tVar 2) (tOp (rIxL K) (tVar 0) (tC (.int 1)))) (gSub (tVar 0) (tC (.int 2)) rSetL))
    (tAsg (tOp oAdd (tOp (rIxL K) (tVar 0) (tC (.int 1))) (tC (.int 1))) (gSub (tVar 0) (tC (.int 1)) rSetL))) tNext)
    (tSeq (tIfS (tTest (tOp oGt (tOp (rIxL K) (tVar 0) (tC (.int 2))) (tC (.int 0)))) (tSeq (tAsg (tOp oMod (tOp (rIxL K) (tVar 0) (tC (.int 2))) (tVar 1)) (gName 3))
    (tSeq (tAsg (tOp oDiv (tOp (rIxL K) (tVar 0) (tC (.int 2))) (tVar 1)) (gSub (tVar 0) (tC (.int 2)) rSetL))
    (tRet (tVar 3)))) tNext)
    (tSeq (tAsg (tC (.int 0)) (gName 4))
    (tSeq (tIfS (tTest (tOp oLt (tOp (rIxL K) (tVar 0) (tC (.int 1))) (tCB (cLen K) (tCons (tVar 2) tNil)))) (tSeq (tAsg (tOp (rIxL K) (tVar 2) (tOp (rIxL K) (tVar 0) (tC (.int 1)))) (gName 4))
    (tAsg (tOp oAdd (tOp (rIxL K) (tVar 0) (tC (.int 1))) (tC (.int 1))) (gSub (tVar 0) (tC (.int 1)) rSetL))) tNext)
    (tSeq (tAsg (tOp oMod (tOp oAdd (tOp oAdd (tOp oMul (tOp (rIxL K) (tVar 0) (tC (.int 3))) (tC (.int 48271))) (tOp oMod (tVar 4) (tC (.int 1999993)))) (tC (.int 11))) (tC (.int 2147483647))) (gSub (tVar 0) (tC (.int 3)) rSetL))
    (tSeq (tAsg (tOp oMod (tOp oPow (tOp (rIxL K) (tVar 0) (tC (.int 3))) (tC (.int 5))) (tC (.int 2147483647))) (gName 5))
    (tSeq (tIfS (tTest (tOp oGt (tVar 1) (tOp oPow (tC (.int 10)) (tC (.int 9))))) (tAsg (tOp oAdd (tOp oPow (tVar 5) (tC (.int 4))) (tVar 5)) (gName 5)) tNext)
    (tRet (tOp oMod (tVar 5) (tVar 1)))))))))))
local macro_rules | `(tactic| walk_at "rv st") => `(tactic| first
  | with_reducible refine iteT ?_ | with_reducible refine iteF ?_ | with_reducible refine w_nx ?_ | with_reducible refine w_yes ?_ | with_reducible refine w_rt ?_ | with_reducible refine iteNT ?_ | with_reducible refine iteNF ?_ | with_reducible refine iteNRf ?_ | with_reducible refine iteRf ?_ | with_reducible refine w_seqA ?_ | with_reducible refine w_seqD ?_ | with_reducible refine w_seqP ?_ | with_reducible refine w_asg ?_ | with_reducible refine w_ret ?_ | with_reducible refine w_drop ?_ | with_reducible refine w_ifs ?_ | with_reducible refine w_next ?_ | with_reducible refine w_par ?_
  | with_reducible refine w_op ?_ | with_reducible refine w_un ?_ | ((with_reducible show tVar _ _ _ _); refine' w_var ?hv ?_; (case hv => exact rfl)) | with_reducible refine w_c ?_ | with_reducible refine w_test ?_ | with_reducible refine w_tB ?_
  | with_reducible refine w_bl ?_ | with_reducible refine w_I0 ?_ | with_reducible refine w_U ?_ | with_reducible refine w_eqI ?_ | with_reducible refine w_neI ?_
  | with_reducible refine w_cons ?_ | with_reducible refine w_nil ?_ | with_reducible refine w_gn ?_ | with_reducible refine w_gsub ?_ | with_reducible refine w_and ?_ | with_reducible refine w_or ?_ | with_reducible refine w_not ?_
  | with_reducible refine w_andV ?_ | with_reducible refine w_orV ?_ | with_reducible refine w_notV ?_ | with_reducible refine w_if ?_ | with_reducible refine w_cb ?_ | with_reducible refine w_call ?_ | with_reducible refine w_lst ?_ | with_reducible refine w_tup ?_
  | with_reducible refine w_sl ?_ | with_reducible refine w_noPart ?_ | with_reducible refine w_part ?_ | with_reducible refine w_ex1 ?_ | with_reducible refine w_exb ?_ | with_reducible refine w_intB ?_ | with_reducible refine w_intI ?_ | with_reducible refine w_abs ?_)
local macro_rules | `(tactic| walk_at "rv ix") => `(tactic| ((with_reducible show rIxL _ _ _ _ _); refine' w_ixL (sq_lst ?ha) ?hb ?_; (case ha => first | exact upd_same | assumption); (case hb => first | exact rfl | assumption)))
local macro_rules | `(tactic| walk_at "rv ar") => `(tactic| first
  | (refine' w_I ?hc ?_; (case hc => first | (show (0 : Int) < _; first | assumption | decide | omega) | exact pow_c (by decide) (by decide) (by first | decide | omega) (by first | decide | omega) | exact mul_r (by first | decide | omega) (by first | decide | omega) | exact mul_l (by first | decide | omega) (by first | decide | omega) | exact divw (by first | assumption | decide | omega) (by first | assumption | decide | omega))))
local macro_rules | `(tactic| walk_at "rv go") => `(tactic| repeat first | walk_at "rv st" | walk_at "rv ix" | ((with_reducible show rI _ _ _ _ _ _); walk_at "rv ar"))
theorem p_draws {K : PySem.W.Frag} {vs : List V} {H : Hp} {Q : VK} {E : XK} (h : spDraws K vs H Q E) : t__law_draws K { nx := fun _ H' => Q .non H', rt := Q } (start ["_law_script"] vs) H := by
  obtain ⟨a, ns, rfl, hS, k⟩ := h
  unfold t__law_draws
  walk_at "rv go"
  refine w_slL hS fun p np => ?_
  walk_at "rv go"
  refine ⟨szl (by simp), fun q nq => ?_⟩
  have npq : p ≠ q := fun e => by
    rw [e, upd_same] at nq
    cases nq
  have nH : H q = none := by
    rw [upd_ne npq.symm] at nq
    exact nq
  obtain ⟨ms, em⟩ := cut_map ns none (some 63)
  refine k q p _ nH np (same_new (same_new (Same.refl H) np) nq) ⟨ms, 0, 0, 5, upd_same, ?_, npq, by decide, by decide, by decide, by decide⟩
  rw [upd_ne npq, upd_same, em]
theorem p_draw {K : PySem.W.Frag} {vs : List V} {H : Hp} {Q : VK} {E : XK} (h : spDraw K vs H Q E) : t__law_draw K { nx := fun _ H' => Q .non H', rt := Q } (start ["_law_draws_here", "_law_many", "_law_cells", "_law_value", "_law_cell", "_law_mixed"] vs) H := by
  obtain ⟨d, c, many, rfl, ⟨ns, pos, num, seed, hd, hc, ncd, hp, hn, hs, hs2⟩, hm, hm2, k⟩ := h
  have e18 : (0 : Int) < 10 ^ (18 : Int).toNat := by decide
  have sqc : ∀ {H1 : Hp}, But d H H1 → SqL K H1 c (ns.map V.int) := fun e => sq_lst (e _ _ ncd hc)
  unfold t__law_draw
  walk_at "rv go"
  -- a number is taken from the cells, or not
  refine w_cut (fun σ' H1 => ∃ pos num : Int, σ' = [some (.ref d), some (.int many), some (.ref c), none, none, none] ∧ H1 d = some (.lst [.ref c, .int pos, .int num, .int seed]) ∧ But d H H1 ∧ 0 ≤ pos ∧ 0 ≤ num) (fun N key => ?_) ?_
  · refine w_ifs ?_
    walk_at "rv go"
    refine w_both (fun h1 => ?_) (fun h1 => ?_)
    · walk_at "rv go"
      refine w_lenL (sq_lst hc) ?_
      walk_at "rv go"
      refine w_both (fun h2 => ?_) (fun h2 => ?_)
      · obtain ⟨y, hy⟩ := cell_at hp h2
        walk_at "rv go"
        refine w_both (fun h3 => ?_) (fun h3 => ?_)
        · walk_at "rv go"
          refine w_setL hd rfl ?_
          walk_at "rv go"
          refine w_setL upd_same rfl ?_
          refine key _ _ ⟨pos + 1, y, rfl, upd_same, (But.refl d H).wr.wr, by omega, by omega⟩
        · walk_at "rv go"
          exact key _ _ ⟨pos, num, rfl, hd, But.refl d H, hp, hn⟩
      · walk_at "rv go"
        exact key _ _ ⟨pos, num, rfl, hd, But.refl d H, hp, hn⟩
    · walk_at "rv go"
      exact key _ _ ⟨pos, num, rfl, hd, But.refl d H, hp, hn⟩
  · rintro σ1 H1 ⟨pos, num, rfl, hd, b1, hp, hn⟩
    refine w_seq ?_
    walk_at "rv go"
    refine w_both (fun h1 => ?_) (fun h1 => ?_)
    · -- a digit of the number
      walk_at "rv go"
      refine w_setL hd rfl ?_
      walk_at "rv go"
      refine k _ _ (Int.emod_nonneg _ (by omega)) (Int.emod_lt_of_pos _ hm) b1.wr ⟨ns, pos, num / many, seed, upd_same, b1.wr _ _ ncd hc, ncd, hp, Int.ediv_nonneg hn (by omega), hs, hs2⟩
    · -- from the seed
      walk_at "rv go"
      refine w_cut (fun σ' H2 => ∃ pos cell : Int, σ' = [some (.ref d), some (.int many), some (.ref c), none, some (.int cell), none] ∧ H2 d = some (.lst [.ref c, .int pos, .int num, .int seed]) ∧ But d H H2 ∧ 0 ≤ pos) (fun N key => ?_) ?_
      · walk_at "rv go"
        refine w_lenL (sqc b1) ?_
        walk_at "rv go"
        refine w_both (fun h2 => ?_) (fun h2 => ?_)
        · obtain ⟨y, hy⟩ := cell_at hp h2
          walk_at "rv go"
          refine w_ixL (sqc b1) hy ?_
          walk_at "rv go"
          refine w_setL hd rfl ?_
          exact key _ _ ⟨pos + 1, y, rfl, upd_same, b1.wr, by omega⟩
        · refine w_next ?_
          exact key _ _ ⟨pos, 0, rfl, hd, b1, hp⟩
      · rintro σ2 H2 ⟨pos, cell, rfl, hd, b2, hp⟩
        walk_at "rv go"
        refine w_setL hd rfl ?_
        have s1 : 0 ≤ (seed * 48271 + cell % 1999993 + 11) % 2147483647 := Int.emod_nonneg _ (by decide)
        have s2 : (seed * 48271 + cell % 1999993 + 11) % 2147483647 < 2147483647 := Int.emod_lt_of_pos _ (by decide)
        generalize (seed * 48271 + cell % 1999993 + 11) % 2147483647 = sd at s1 s2
        walk_at "rv go"
        have m1 : 0 ≤ sd ^ (5 : Int).toNat % 2147483647 := Int.emod_nonneg _ (by decide)
        have m2 : sd ^ (5 : Int).toNat % 2147483647 < 2147483647 := Int.emod_lt_of_pos _ (by decide)
        generalize sd ^ (5 : Int).toNat % 2147483647 = mx at m1 m2
        have fin : ∀ z : Int, Q (.int (z % many)) (upd H2 d (.lst [.ref c, .int pos, .int num, .int sd])) := fun z =>
          k _ _ (Int.emod_nonneg _ (by omega)) (Int.emod_lt_of_pos _ hm) b2.wr ⟨ns, pos, num, sd, upd_same, b2.wr _ _ ncd hc, ncd, hp, hn, s1, s2⟩
        refine w_seq ?_
        refine w_ifs ?_
        walk_at "rv go"
        refine w_both (fun h2 => ?_) (fun h2 => ?_)
        · walk_at "rv go"
          exact fin _
        · walk_at "rv go"
          exact fin _
end Rv
namespace Rv
open PySem PySem.Spec PyProof.Rows L2
theorem draw_call {K : PySem.W.Frag} {H : Hp} {Q : VK} {E : XK} {d c : Addr} {many : Int} (h : DrawsAt H d c) (h1 : 0 < many) (h2 : many < 2 ^ 200) (k : ∀ r H', 0 ≤ r → r < many → But d H H' → DrawsAt H' d c → Q (.int r) H') :
    spDraw K ([.ref d, .int many] ++ []) H Q E := ⟨d, c, many, rfl, h, h1, h2, k⟩
/-- a height, a width of the law -/
def HOk1 (z : Int) : Prop := -1000000000000000000000000000000 ≤ z ∧ z ≤ 1000000000000000000000000000000
def WOk1 (z : Int) : Prop := 1 ≤ z ∧ z ≤ 1000000000000000000000000000000
def spHeights (K : PySem.W.Frag) : Sp := fun vs H Q _ => ∃ d c, vs = [.ref d] ∧ DrawsAt H d c ∧
  ∀ p H' (hs : List Int), 1 ≤ hs.length → hs.length ≤ 60 → (∀ z ∈ hs, HOk1 z) → But d H H' → DrawsAt H' d c → H p = none → H' p = some (.lst (hs.map V.int)) → Q (.ref p) H'
def spWidths (K : PySem.W.Frag) : Sp := fun vs H Q _ => ∃ d c, ∃ n : Nat, vs = [.ref d, .int (n : Int)] ∧ n ≤ 60 ∧ DrawsAt H d c ∧
  ∀ p H' (ws : List Int), ws.length = n → (∀ z ∈ ws, WOk1 z) → But d H H' → DrawsAt H' d c → H p = none → H' p = some (.lst (ws.map V.int)) → Q (.ref p) H'
theorem map_app (l : List Int) (z : Int) : l.map V.int ++ [V.int z] = (l ++ [z]).map V.int := by rw [List.map_append]; rfl
/-! values: is it an integer -/
inductive Whole (K : PySem.W.Frag) (H : Hp) : V → Prop where
  | int (i : Int) : Whole K H (.int i)
  | bl (b : Bool) : Whole K H (.bl b)
  | other {v : V} {t : Value} (h : TyX K H v t) (k : PySem.W.kitOne K t (.type "int") = some false) (n1 : ∀ i, v ≠ .int i) : Whole K H v
def isI : V → Bool
  | .int _ => true
  | _ => false
def inI (lo hi : Int) : V → Bool
  | .int i => decide (lo ≤ i) && decide (i ≤ hi)
  | _ => false
def spWhole (K : PySem.W.Frag) : Sp := fun vs H Q _ => ∃ v, vs = [v] ∧ Whole K H v ∧ Q (.bl (isI v)) H
def spWithin (K : PySem.W.Frag) : Sp := fun vs H Q _ => ∃ v lo hi, vs = [v, .int lo, .int hi] ∧ Whole K H v ∧ Q (.bl (inI lo hi v)) H
/-- the first place whose value is not within, if any, from place n on -/
def outs (lo hi : Int) : List V → Nat → V
  | [], _ => .non
  | v :: r, n => if inI lo hi v = true then outs lo hi r (n + 1) else .int (n : Int)
def spOutside (K : PySem.W.Frag) : Sp := fun vs H Q _ => ∃ a lo hi xs, vs = [.ref a, .int lo, .int hi] ∧ SqL K H a xs ∧ (∀ x ∈ xs, Whole K H x) ∧ ∀ H', Same H H' → Q (outs lo hi xs 0) H'
theorem outs_none {lo hi : Int} : ∀ {xs : List V} {n : Nat}, (∀ x ∈ xs, inI lo hi x = true) → outs lo hi xs n = .non
  | [], _, _ => rfl
  | x :: r, n, h => by
    unfold outs
    rw [if_pos (h x List.mem_cons_self)]
    exact outs_none fun y hy => h y (List.mem_cons_of_mem _ hy)
theorem isi_of {K : PySem.W.Frag} {H : Hp} {Q : VK} {x c : V} {t u : Value} {b : Bool} (h1 : ClsV c u) (h2 : TyX K H x t) (h3 : PySem.W.kitOne K t u = some b) (q : Q (.bl b) H) : rIsi K [x, c] H Q := ⟨x, c, t, u, b, rfl, h1, h2, h3, q⟩
theorem kit_ii {K : PySem.W.Frag} : PySem.W.kitOne K (.type "int") (.type "int") = some true := kit_ty (by decide +kernel)
theorem kit_ib {K : PySem.W.Frag} : PySem.W.kitOne K (.type "int") (.type "bool") = some false := kit_ty (by decide +kernel)
theorem kit_bi {K : PySem.W.Frag} : PySem.W.kitOne K (.type "bool") (.type "int") = some true := kit_ty (by decide +kernel)
theorem kit_bb {K : PySem.W.Frag} : PySem.W.kitOne K (.type "bool") (.type "bool") = some true := kit_ty (by decide +kernel)
theorem kit_ll {K : PySem.W.Frag} : PySem.W.kitOne K (.type "list") (.type "list") = some true := kit_ty (by decide +kernel)
theorem kit_tl {K : PySem.W.Frag} : PySem.W.kitOne K (.type "tuple") (.type "list") = some false := kit_ty (by decide +kernel)
theorem kit_tt {K : PySem.W.Frag} : PySem.W.kitOne K (.type "tuple") (.type "tuple") = some true := kit_ty (by decide +kernel)
/-- a row that is a list or a tuple -/
def RowAt (K : PySem.W.Frag) (H : Hp) (a : Addr) (xs : List V) : Prop := H a = some (.lst xs) ∨ H a = some (.tup xs)
theorem RowAt.same {K : PySem.W.Frag} {H H' : Hp} {a : Addr} {xs : List V} (h : RowAt K H a xs) (e : Same H H') : RowAt K H' a xs := h.elim (fun h => .inl (e _ _ h)) fun h => .inr (e _ _ h)
def spRow (K : PySem.W.Frag) : Sp := fun vs H Q _ => ∃ a lo hi xs, vs = [.ref a, .int lo, .int hi] ∧ RowAt K H a xs ∧ ∀ H', Same H H' → Q (.bl (decide (lo ≤ (xs.length : Int)) && decide ((xs.length : Int) ≤ hi))) H'
/-- heights, widths that are valid -/
def spCheckH (K : PySem.W.Frag) : Sp := fun vs H Q _ => ∃ a, ∃ hs : List Int, vs = [.ref a] ∧ H a = some (.lst (hs.map V.int)) ∧ 1 ≤ hs.length ∧ hs.length ≤ 60 ∧ (∀ z ∈ hs, HOk1 z) ∧ ∀ H', Same H H' → Q .non H'
def spCheckW (K : PySem.W.Frag) : Sp := fun vs H Q _ => ∃ a, ∃ ws : List Int, vs = [.ref a, .int (ws.length : Int)] ∧ H a = some (.lst (ws.map V.int)) ∧ (∀ z ∈ ws, WOk1 z) ∧ ∀ H', Same H H' → Q .non H'
def pfl (t1 t2 : Addr) : List (Str × V) := putF "column_widths" (.ref t2) (putF "column_heights" (.ref t1) [])
theorem n_hw : ¬ (("column_heights" : Str) = "column_widths") := by decide +kernel
theorem pfl_h (t1 t2 : Addr) : (pfl t1 t2).lookup ("column_heights" : Str) = some (.ref t1) := by
  unfold pfl
  rw [lookup_putF, if_neg n_hw, lookup_putF, if_pos rfl]
theorem pfl_w (t1 t2 : Addr) : (pfl t1 t2).lookup ("column_widths" : Str) = some (.ref t2) := by
  unfold pfl
  rw [lookup_putF, if_pos rfl]
/-- a Profile stands at p -/
def ProfAt (K : PySem.W.Frag) (C : Addr) (H : Hp) (p : Addr) (hs ws : List Int) : Prop := ∃ dx t1 t2, H p = some (.ins C dx (pfl t1 t2)) ∧ H t1 = some (.tup (hs.map V.int)) ∧ H t2 = some (.tup (ws.map V.int))
theorem ProfAt.same {K : PySem.W.Frag} {C : Addr} {H H' : Hp} {p : Addr} {hs ws : List Int} (h : ProfAt K C H p hs ws) (e : Same H H') : ProfAt K C H' p hs ws := by
  obtain ⟨dx, t1, t2, h1, h2, h3⟩ := h
  exact ⟨dx, t1, t2, e _ _ h1, e _ _ h2, e _ _ h3⟩
/-- what is told of the class as the top has made it -/
structure PCls (K : PySem.W.Frag) (C : Addr) : Prop where
  cl : Cls K C
  nH : NoAttr K C "column_heights"
  nW : NoAttr K C "column_widths"
  cA : PySem.W.findIn K (.ref C) "__class__" = some (some (.builtin "object.__class__"))
  cG : PySem.W.specialIn K (.builtin "object.__class__") "__get__" = some (some (.builtin "getset_descriptor.__get__"))
  cT : PySem.W.takesIn K (.builtin "object.__class__") = some true
  cM : PySem.W.mroIn K C (.type "object") = some true
def spInit (K : PySem.W.Frag) (C : Addr) : Sp := fun vs H Q _ => ∃ p dx a, ∃ wv : V, ∃ hs ws : List Int, vs = [.ref p, .ref a, wv] ∧ PCls K C ∧ H p = some (.ins C dx []) ∧ H a = some (.lst (hs.map V.int)) ∧ 1 ≤ hs.length ∧ hs.length ≤ 60 ∧ (∀ z ∈ hs, HOk1 z) ∧
  ((wv = .non ∧ ws = List.replicate hs.length 1) ∨ ∃ b, wv = .ref b ∧ H b = some (.lst (ws.map V.int)) ∧ ws.length = hs.length ∧ ∀ z ∈ ws, WOk1 z) ∧ ∀ H', ProfAt K C H' p hs ws → (∀ b o, b ≠ p → H b = some o → H' b = some o) → Q .non H'
/-- two profiles that are equal, of the class at C -/
def PEq (K : PySem.W.Frag) (C : Addr) : Addr → Addr → Hp → Prop := fun a b H => PCls K C ∧ ∃ hs ws, ProfAt K C H a hs ws ∧ ProfAt K C H b hs ws
def t__law_heights (K : PySem.W.Frag) : TS :=
  (tSeq (tAsg (tOp oAdd (tC (.int 1)) (tCall (spDraw K) [] E0 (tCons (tVar 0) (tCons (tOp (rIxL K) (tLst (tCons (tC (.int 9)) (tCons (tC (.int 60)) tNil))) (tCB cInt (tCons (tOp rEq (tCall (spDraw K) [] E0 (tCons (tVar 0) (tCons (tC (.int 4)) tNil))) (tC (.int 3))) tNil))) tNil)))) (gName 1))
    (tSeq (tAsg (tOp (rIxL K) (tLst (tCons (tC (.int 2)) (tCons (tC (.int 7)) (tCons (tOp oPow (tC (.int 10)) (tC (.int 6))) (tCons (tOp oPow (tC (.int 10)) (tC (.int 30))) tNil))))) (tCall (spDraw K) [] E0 (tCons (tVar 0) (tCons (tC (.int 4)) tNil)))) (gName 2))
    (tRet (tLc (iRng1 (tCons (tVar 1) tNil)) (gName 3) tYes (tOp oSub (tCall (spDraw K) [] E0 (tCons (tVar 0) (tCons (tOp oAdd (tOp oMul (tC (.int 2)) (tVar 2)) (tC (.int 1))) tNil))) (tVar 2)) [3]))))
def t__law_widths (K : PySem.W.Frag) : TS :=
  (tSeq (tAsg (tOp (rIxL K) (tLst (tCons (tC (.int 1)) (tCons (tC (.int 3)) (tCons (tOp oPow (tC (.int 10)) (tC (.int 30))) tNil)))) (tCall (spDraw K) [] E0 (tCons (tVar 0) (tCons (tC (.int 3)) tNil)))) (gName 2))
    (tRet (tLc (iRng1 (tCons (tVar 1) tNil)) (gName 3) tYes (tOp oAdd (tC (.int 1)) (tCall (spDraw K) [] E0 (tCons (tVar 0) (tCons (tVar 2) tNil)))) [3])))
def t_is_whole (K : PySem.W.Frag) : TS :=
  (tRet (tAndV (tCB (rIsi K) (tCons (tVar 0) (tCons (tC (.ty "int")) tNil))) (tNotV (tCB (rIsi K) (tCons (tVar 0) (tCons (tC (.ty "bool")) tNil))))))
def t_is_whole_within (K : PySem.W.Frag) : TS :=
  (tRet (tAndV (tCall (spWhole K) [] E0 (tCons (tVar 0) tNil)) (tChain oLe oLe (tVar 1) (tVar 0) (tVar 2))))
def t_first_outside (K : PySem.W.Frag) : TS :=
  (tSeq (tFor (iEnum K (tCons (tVar 0) tNil)) (gTup K 2 (gCons (gName 3) (gCons (gName 4) gNil))) (tIfS (tNot (tB (tCall (spWithin K) [] E0 (tCons (tVar 4) (tCons (tVar 1) (tCons (tVar 2) tNil)))))) (tRet (tVar 3)) tNext))
    (tRet (tC .non)))
def t_is_row (K : PySem.W.Frag) : TS :=
  (tRet (tAndV (tCB (rIsiT K) (tCons (tVar 0) (tCons (tTup (tCons (tC (.ty "list")) (tCons (tC (.ty "tuple")) tNil))) tNil))) (tChain oLe oLe (tVar 1) (tCB (cLen K) (tCons (tVar 0) tNil)) (tVar 2))))
def t_check_heights (K : PySem.W.Frag) : TS :=
  (tSeq (tIfS (tNot (tB (tCall (spRow K) [] E0 (tCons (tVar 0) (tCons (tC (.int 1)) (tCons (tC (.int 60)) tNil)))))) tNever tNext)
    (tSeq (tAsg (tCall (spOutside K) [] E0 (tCons (tVar 0) (tCons (tUn (rU fun i => .int (-i)) (tC (.int 1000000000000000000000000000000))) (tCons (tC (.int 1000000000000000000000000000000)) tNil)))) (gName 1))
    (tIfS (tTest (tOp oNotN (tVar 1) (tC .non))) tNever tNext)))
def t_check_widths (K : PySem.W.Frag) : TS :=
  (tSeq (tIfS (tNot (tB (tCall (spRow K) [] E0 (tCons (tVar 0) (tCons (tVar 1) (tCons (tVar 1) tNil)))))) tNever tNext)
    (tSeq (tAsg (tCall (spOutside K) [] E0 (tCons (tVar 0) (tCons (tC (.int 1)) (tCons (tC (.int 1000000000000000000000000000000)) tNil)))) (gName 2))
    (tIfS (tTest (tOp oNotN (tVar 2) (tC .non))) tNever tNext)))
def t_Profile___init__ (K : PySem.W.Frag) (C_Profile : Addr) : TS :=
  (tSeq (tDrop (tCall (spCheckH K) [] E0 (tCons (tVar 1) tNil)))
    (tSeq (tIfS (tTest (tOp oIsN (tVar 2) (tC .non))) (tAsg (tOp rRep (tLst (tCons (tC (.int 1)) tNil)) (tCB (cLen K) (tCons (tVar 1) tNil))) (gName 2)) tNext)
    (tSeq (tDrop (tCall (spCheckW K) [] E0 (tCons (tVar 2) (tCons (tCB (cLen K) (tCons (tVar 1) tNil)) tNil))))
    (tSeq (sFld K (tVar 0) (tCB (cTuple K) (tCons (tVar 1) tNil)) "column_heights")
    (sFld K (tVar 0) (tCB (cTuple K) (tCons (tVar 2) tNil)) "column_widths")))))
def t_Profile___eq__ (K : PySem.W.Frag) (C_Profile : Addr) : TS :=
  (tRet (tAndV (tCB (rIsi K) (tCons (tVar 1) (tCons (tC (.ref C_Profile)) tNil))) (tAndV (tOp (rEqD K) (tFld K (tVar 0) "column_heights") (tFld K (tVar 1) "column_heights")) (tOp (rEqD K) (tFld K (tVar 0) "column_widths") (tFld K (tVar 1) "column_widths")))))
local macro_rules | `(tactic| walk_at "rv st") => `(tactic| first
  | with_reducible refine iteT ?_ | with_reducible refine iteF ?_ | with_reducible refine w_nx ?_ | with_reducible refine w_yes ?_ | with_reducible refine w_rt ?_ | with_reducible refine iteNT ?_ | with_reducible refine iteNF ?_ | with_reducible refine iteNRf ?_ | with_reducible refine iteRf ?_ | with_reducible refine w_seqA ?_ | with_reducible refine w_seqD ?_ | with_reducible refine w_seqP ?_ | with_reducible refine w_asg ?_ | with_reducible refine w_ret ?_ | with_reducible refine w_drop ?_ | with_reducible refine w_ifs ?_ | with_reducible refine w_next ?_ | with_reducible refine w_par ?_
  | with_reducible refine w_op ?_ | with_reducible refine w_un ?_ | ((with_reducible show tVar _ _ _ _); refine' w_var ?hv ?_; (case hv => exact rfl)) | with_reducible refine w_c ?_ | with_reducible refine w_test ?_ | with_reducible refine w_tB ?_
  | with_reducible refine w_bl ?_ | with_reducible refine w_I0 ?_ | with_reducible refine w_U ?_ | with_reducible refine w_eqI ?_ | with_reducible refine w_neI ?_
  | with_reducible refine w_cons ?_ | with_reducible refine w_nil ?_ | with_reducible refine w_gn ?_ | with_reducible refine w_gsub ?_ | with_reducible refine w_and ?_ | with_reducible refine w_or ?_ | with_reducible refine w_not ?_
  | with_reducible refine w_andV ?_ | with_reducible refine w_orV ?_ | with_reducible refine w_notV ?_ | with_reducible refine w_if ?_ | with_reducible refine w_cb ?_ | with_reducible refine w_call ?_ | with_reducible refine w_lst ?_ | with_reducible refine w_tup ?_
  | with_reducible refine w_sl ?_ | with_reducible refine w_noPart ?_ | with_reducible refine w_part ?_ | with_reducible refine w_ex1 ?_ | with_reducible refine w_exb ?_ | with_reducible refine w_intB ?_ | with_reducible refine w_intI ?_ | with_reducible refine w_abs ?_)
local macro_rules | `(tactic| walk_at "rv ix") => `(tactic| ((with_reducible show rIxL _ _ _ _ _); refine' w_ixL (sq_lst ?ha) ?hb ?_; (case ha => first | exact upd_same | assumption); (case hb => first | exact rfl | assumption)))
local macro_rules | `(tactic| walk_at "rv ar") => `(tactic| first
  | (refine' w_I ?hc ?_; (case hc => first | (show (0 : Int) < _; first | assumption | decide | omega) | exact pow_c (by decide) (by decide) (by first | decide | omega) (by first | decide | omega) | exact mul_r (by first | decide | omega) (by first | decide | omega) | exact mul_l (by first | decide | omega) (by first | decide | omega) | exact divw (by first | assumption | decide | omega) (by first | assumption | decide | omega))))
local macro_rules | `(tactic| walk_at "rv go") => `(tactic| repeat first | walk_at "rv st" | walk_at "rv ix" | ((with_reducible show rI _ _ _ _ _ _); walk_at "rv ar"))
theorem p_heights {K : PySem.W.Frag} {vs : List V} {H : Hp} {Q : VK} {E : XK} (h : spHeights K vs H Q E) : t__law_heights K { nx := fun _ H' => Q .non H', rt := Q } (start ["_law_draws_here", "_law_many", "_law_size", "_law_k"] vs) H := by
  obtain ⟨d, c, rfl, hD, k⟩ := h
  unfold t__law_heights
  walk_at "rv go"
  refine ⟨szl (by decide), fun p1 n1 => ?_⟩
  have n1d : p1 ≠ d := hD.nd n1
  walk_at "rv go"
  have b1 : But d H (upd H p1 (.lst [.int 9, .int 60])) := (But.refl d H).new n1
  refine draw_call (hD.new (same_new (Same.refl H) n1)) (by decide) (by decide) fun r1 H1 r1a r1b e1 D1 => ?_
  walk_at "rv go"
  have l1 : H1 p1 = some (.lst [.int 9, .int 60]) := e1 _ _ n1d upd_same
  have hm : ∃ m : Int, 0 < m ∧ m ≤ 60 ∧ atI [V.int 9, V.int 60] (if decide (r1 = 3) then 1 else 0) = some (.int m) := by
    by_cases z : r1 = 3
    · rw [decide_eq_true z]
      exact ⟨60, by decide, by decide, rfl⟩
    · rw [decide_eq_false z]
      exact ⟨9, by decide, by decide, rfl⟩
  obtain ⟨m, m0, m60, em⟩ := hm
  refine w_ixL (sq_lst l1) em ?_
  walk_at "rv go"
  refine draw_call D1 m0 (Int.lt_of_le_of_lt m60 (by decide)) fun r2 H2 r2a r2b e2 D2 => ?_
  walk_at "rv go"
  refine ⟨szl (by decide), fun p2 n2 => ?_⟩
  walk_at "rv go"
  have n2d : p2 ≠ d := D2.nd n2
  refine draw_call (D2.new (same_new (Same.refl H2) n2)) (by decide) (by decide) fun r3 H3 r3a r3b e3 D3 => ?_
  have l3 : H3 p2 = some (.lst [.int 2, .int 7, .int (10 ^ Int.toNat 6), .int (10 ^ Int.toNat 30)]) := e3 _ _ n2d upd_same
  have hz : ∃ z : Int, 0 < z ∧ z ≤ 1000000000000000000000000000000 ∧ atI [V.int 2, V.int 7, V.int (10 ^ Int.toNat 6), V.int (10 ^ Int.toNat 30)] r3 = some (.int z) := by
    have c : r3 = 0 ∨ r3 = 1 ∨ r3 = 2 ∨ r3 = 3 := by omega
    rcases c with rfl | rfl | rfl | rfl
    · exact ⟨2, by decide, by decide, rfl⟩
    · exact ⟨7, by decide, by decide, rfl⟩
    · exact ⟨10 ^ Int.toNat 6, by decide, by decide, rfl⟩
    · exact ⟨10 ^ Int.toNat 30, by decide, by decide, rfl⟩
  obtain ⟨z, z0, z1, ez⟩ := hz
  refine w_ixL (sq_lst l3) ez ?_
  walk_at "rv go"
  have eN : (((1 + r2).toNat : Nat) : Int) = 1 + r2 := Int.toNat_of_nonneg (by omega)
  have b3 : But d H H3 := ((b1.trans e1).trans e2).trans (((But.refl d H2).new n2).trans e3)
  refine w_lcR (n := (1 + r2).toNat) (by omega) (fun AQ q => ?_) (fun D acc H' => ∃ hs : List Int, acc = hs.map V.int ∧ (∀ z ∈ hs, HOk1 z) ∧ But d H H' ∧ DrawsAt H' d c ∧ H' D = some (.lst acc) ∧ D ≠ d ∧ D ≠ c ∧ H D = none) (fun D nD => ?_) ?_ ?_
  · rw [eN] at q
    walk_at "rv go"
    exact q
  · exact ⟨[], rfl, (fun _ h => nomatch h), b3.new nD, D3.new (same_new (Same.refl H3) nD), upd_same, D3.nd nD, D3.nc nD, b3.free (D3.nd nD) nD⟩
  · rintro D acc H' hl ⟨hs, rfl, hok, b, DD, hD', nDd, nDc, nD⟩
    walk_at "rv go"
    refine draw_call DD (by omega) (Int.lt_of_le_of_lt (b := 2000000000000000000000000000001) (by omega) (by decide)) fun r H4 ra rb e4 D4 => ?_
    walk_at "rv go"
    have b4 := b.trans e4
    refine w_app (J := fun D acc H' => ∃ hs : List Int, acc = hs.map V.int ∧ (∀ z ∈ hs, HOk1 z) ∧ But d H H' ∧ DrawsAt H' d c ∧ H' D = some (.lst acc) ∧ D ≠ d ∧ D ≠ c ∧ H D = none) (e4 _ _ nDd hD') (by rw [List.length_map] at hl ⊢; omega) ⟨hs ++ [r - z], (by rw [map_app]), ?_, ?_, D4.wr nDd nDc, upd_same, nDd, nDc, nD⟩
    · intro y hy
      rcases List.mem_append.mp hy with h | h
      · exact hok y h
      · rw [List.mem_singleton.mp h]
        exact ⟨by omega, by omega⟩
    · exact fun c o nc h => by
        have q := b4 c o nc h
        rw [upd_ne (ne_of_none h nD)]
        exact q
  · rintro D acc H' hl ⟨hs, rfl, hok, b, DD, hD', nDd, nDc, nD⟩
    rw [List.length_map] at hl
    exact k D H' hs (by omega) (by omega) hok b DD nD hD'
theorem p_widths {K : PySem.W.Frag} {vs : List V} {H : Hp} {Q : VK} {E : XK} (h : spWidths K vs H Q E) : t__law_widths K { nx := fun _ H' => Q .non H', rt := Q } (start ["_law_draws_here", "_law_many", "_law_size", "_law_k"] vs) H := by
  obtain ⟨d, c, n, rfl, hn, hD, k⟩ := h
  unfold t__law_widths
  walk_at "rv go"
  refine ⟨szl (by decide), fun p1 n1 => ?_⟩
  have n1d : p1 ≠ d := hD.nd n1
  walk_at "rv go"
  refine draw_call (hD.new (same_new (Same.refl H) n1)) (by decide) (by decide) fun r1 H1 r1a r1b e1 D1 => ?_
  walk_at "rv go"
  have b1 : But d H H1 := But.trans ((But.refl d H).new n1) e1
  have l1 : H1 p1 = some (.lst [.int 1, .int 3, .int (10 ^ Int.toNat 30)]) := e1 _ _ n1d upd_same
  have hz : ∃ z : Int, 0 < z ∧ z ≤ 1000000000000000000000000000000 ∧ atI [V.int 1, V.int 3, V.int (10 ^ Int.toNat 30)] r1 = some (.int z) := by
    have c : r1 = 0 ∨ r1 = 1 ∨ r1 = 2 := by omega
    rcases c with rfl | rfl | rfl
    · exact ⟨1, by decide, by decide, rfl⟩
    · exact ⟨3, by decide, by decide, rfl⟩
    · exact ⟨10 ^ Int.toNat 30, by decide, by decide, rfl⟩
  obtain ⟨z, z0, z1, ez⟩ := hz
  refine w_ixL (sq_lst l1) ez ?_
  walk_at "rv go"
  refine w_lcR (n := n) (by omega) (fun AQ q => ?_) (fun D acc H' => ∃ hs : List Int, acc = hs.map V.int ∧ (∀ z ∈ hs, WOk1 z) ∧ But d H H' ∧ DrawsAt H' d c ∧ H' D = some (.lst acc) ∧ D ≠ d ∧ D ≠ c ∧ H D = none) (fun D nD => ?_) ?_ ?_
  · walk_at "rv go"
    exact q
  · exact ⟨[], rfl, (fun _ h => nomatch h), b1.new nD, D1.new (same_new (Same.refl H1) nD), upd_same, D1.nd nD, D1.nc nD, b1.free (D1.nd nD) nD⟩
  · rintro D acc H' hl ⟨hs, rfl, hok, b, DD, hD', nDd, nDc, nD⟩
    walk_at "rv go"
    refine draw_call DD (by omega) (Int.lt_of_le_of_lt (b := 2000000000000000000000000000001) (by omega) (by decide)) fun r H4 ra rb e4 D4 => ?_
    walk_at "rv go"
    have b4 := b.trans e4
    refine w_app (J := fun D acc H' => ∃ hs : List Int, acc = hs.map V.int ∧ (∀ z ∈ hs, WOk1 z) ∧ But d H H' ∧ DrawsAt H' d c ∧ H' D = some (.lst acc) ∧ D ≠ d ∧ D ≠ c ∧ H D = none) (e4 _ _ nDd hD') (by rw [List.length_map] at hl ⊢; omega) ⟨hs ++ [1 + r], (by rw [map_app]), ?_, ?_, D4.wr nDd nDc, upd_same, nDd, nDc, nD⟩
    · intro y hy
      rcases List.mem_append.mp hy with h | h
      · exact hok y h
      · rw [List.mem_singleton.mp h]
        exact ⟨by omega, by omega⟩
    · exact fun c o nc h => by
        have q := b4 c o nc h
        rw [upd_ne (ne_of_none h nD)]
        exact q
  · rintro D acc H' hl ⟨hs, rfl, hok, b, DD, hD', nDd, nDc, nD⟩
    rw [List.length_map] at hl
    exact k D H' hs hl hok b DD nD hD'
theorem ty_same {K : PySem.W.Frag} {H H' : Hp} {v : V} {t : Value} (h : TyX K H v t) (e : Same H H') : TyX K H' v t := by
  cases h with
  | base h =>
    cases h with
    | non => exact .base .non
    | bl x => exact .base (.bl x)
    | int i => exact .base (.int i)
    | str x => exact .base (.str x)
    | flt x => exact .base (.flt x)
    | lst h => exact .base (.lst (e _ _ h))
    | frz h => exact .base (.frz (e _ _ h))
    | tup h => exact .base (.tup (e _ _ h))
    | dK h => exact .base (.dK (e _ _ h))
    | dT h => exact .base (.dT (e _ _ h))
    | ins h cl ha hn htk hm => exact .base (.ins (e _ _ h) cl ha hn htk hm)
  | byt b => exact .byt b
  | set h => exact .set (e _ _ h)
  | kList h c => exact .kList h c
  | kTuple h c => exact .kTuple h c
  | kDict h c => exact .kDict h c
  | fTuple h => exact .fTuple (e _ _ h)
  | fDict h => exact .fDict (e _ _ h)
theorem Whole.same {K : PySem.W.Frag} {H H' : Hp} {v : V} (h : Whole K H v) (e : Same H H') : Whole K H' v := by
  cases h with
  | int i => exact .int i
  | bl b => exact .bl b
  | other h k n => exact .other (ty_same h e) k n
theorem whole_int {K : PySem.W.Frag} {H : Hp} {v : V} (h : Whole K H v) : ∃ t, TyX K H v t ∧ PySem.W.kitOne K t (.type "int") = some (isI v || match v with | .bl _ => true | _ => false) := by
  cases h with
  | int i => exact ⟨_, .base (.int i), kit_ii⟩
  | bl b => exact ⟨_, .base (.bl b), kit_bi⟩
  | other h k n1 =>
    refine ⟨_, h, ?_⟩
    rw [k]
    cases v with
    | int i => exact absurd rfl (n1 i)
    | bl b =>
      cases h with
      | base hb =>
        cases hb
        rw [kit_bi] at k
        cases k
    | _ => rfl
theorem p_whole {K : PySem.W.Frag} {vs : List V} {H : Hp} {Q : VK} {E : XK} (h : spWhole K vs H Q E) : t_is_whole K { nx := fun _ H' => Q .non H', rt := Q } (start ["value"] vs) H := by
  obtain ⟨v, rfl, hw, k⟩ := h
  unfold t_is_whole
  obtain ⟨t, h1, h2⟩ := whole_int hw
  walk_at "rv go"
  refine isi_of (.ty "int") h1 h2 ?_
  walk_at "rv go"
  cases v with
  | int i =>
    refine iteT ?_
    walk_at "rv go"
    refine isi_of (.ty "bool") (.base (.int i)) kit_ib ?_
    walk_at "rv go"
    exact k
  | bl b =>
    refine iteT ?_
    walk_at "rv go"
    refine isi_of (.ty "bool") (.base (.bl b)) kit_bb ?_
    walk_at "rv go"
    exact k
  | _ => exact k
theorem p_within {K : PySem.W.Frag} {vs : List V} {H : Hp} {Q : VK} {E : XK} (h : spWithin K vs H Q E) : t_is_whole_within K { nx := fun _ H' => Q .non H', rt := Q } (start ["value", "least", "greatest"] vs) H := by
  obtain ⟨v, lo, hi, rfl, hw, k⟩ := h
  unfold t_is_whole_within
  walk_at "rv go"
  refine ⟨v, rfl, hw, ?_⟩
  walk_at "rv go"
  cases v with
  | int i =>
    refine iteT ?_
    refine w_chain ?_
    walk_at "rv go"
    refine w_both (fun h => ?_) (fun h => ?_)
    · walk_at "rv go"
      have e : inI lo hi (.int i) = decide (i ≤ hi) := by
        show (decide (lo ≤ i) && decide (i ≤ hi)) = _
        rw [decide_eq_true h, Bool.true_and]
      rw [e] at k
      exact k
    · have e : inI lo hi (.int i) = false := by
        show (decide (lo ≤ i) && decide (i ≤ hi)) = _
        rw [decide_eq_false h, Bool.false_and]
      rw [e] at k
      exact k
  | _ => exact k
theorem p_outside {K : PySem.W.Frag} {vs : List V} {H : Hp} {Q : VK} {E : XK} (h : spOutside K vs H Q E) : t_first_outside K { nx := fun _ H' => Q .non H', rt := Q } (start ["values", "least", "greatest", "index", "value"] vs) H := by
  obtain ⟨a, lo, hi, xs, rfl, hS, hw, k⟩ := h
  unfold t_first_outside
  refine w_seq ?_
  refine w_forE (fun AQ q => ?_) hS (fun i σ' H' => ∃ u v : Option V, σ' = [some (.ref a), some (.int lo), some (.int hi), u, v] ∧ Same H H' ∧ outs lo hi xs 0 = outs lo hi (xs.drop i) i) ⟨none, none, rfl, Same.refl H, by rw [List.drop_zero]⟩ (fun i σ' H' ⟨_, _, _, e, _⟩ => e.seq hS) ?_ ?_
  · walk_at "rv go"
    exact q
  · rintro i x T σ' H' hx ⟨u, v, rfl, e, ho⟩ nT
    refine ⟨T, _, rfl, sq_tup upd_same, rfl, _, _, rfl, ?_⟩
    refine ⟨_, _, rfl, rfl, ?_⟩
    have e2 : Same H (upd H' T (.tup [.int (i : Int), x])) := same_new e nT
    have hil : i < xs.length := (List.getElem?_eq_some_iff.mp hx).1
    have hxe : xs[i] = x := (List.getElem?_eq_some_iff.mp hx).2
    have ed : xs.drop i = x :: xs.drop (i + 1) := by rw [List.drop_eq_getElem_cons hil, hxe]
    refine w_ifs ?_
    walk_at "rv go"
    refine ⟨x, lo, hi, rfl, ?_, ?_⟩
    · exact (hw x (List.mem_of_getElem? hx)).same e2
    · walk_at "rv go"
      rw [ed] at ho
      cases hb : inI lo hi x with
      | true =>
        refine iteF ?_
        refine w_next ?_
        refine ⟨_, _, rfl, e2, ?_⟩
        rw [ho]
        show (if inI lo hi x = true then _ else _) = _
        rw [if_pos hb]
      | false =>
        refine iteT ?_
        walk_at "rv go"
        have q := k _ e2
        rw [ho] at q
        have e3 : outs lo hi (x :: xs.drop (i + 1)) i = .int (i : Int) := by
          show (if inI lo hi x = true then _ else _) = _
          rw [hb, if_neg Bool.false_ne_true]
        rw [e3] at q
        exact q
  · rintro σ' H' ⟨u, v, rfl, e, ho⟩
    walk_at "rv go"
    rw [List.drop_length] at ho
    have q := k _ e
    rw [ho] at q
    exact q
theorem p_row {K : PySem.W.Frag} {vs : List V} {H : Hp} {Q : VK} {E : XK} (h : spRow K vs H Q E) : t_is_row K { nx := fun _ H' => Q .non H', rt := Q } (start ["values", "least", "most"] vs) H := by
  obtain ⟨a, lo, hi, xs, rfl, hR, k⟩ := h
  unfold t_is_row
  walk_at "rv go"
  refine ⟨szl (by decide), fun p np => ?_⟩
  have e := same_new (o := .tup [.ty "list", .ty "tuple"]) (Same.refl H) np
  walk_at "rv go"
  have hR2 := hR.same (K := K) e
  have ty : ∃ t, TyX K (upd H p (.tup [.ty "list", .ty "tuple"])) (.ref a) t ∧ PySem.W.kitAny K t [.type "list", .type "tuple"] = some true := by
    rcases hR2 with h | h
    · exact ⟨_, .base (.lst h), kitAny_cons kit_ll (fun z => nomatch z) (fun _ => rfl)⟩
    · exact ⟨_, .base (.tup h), kitAny_cons kit_tl (fun _ => kitAny_cons kit_tt (fun z => nomatch z) (fun _ => rfl)) (fun z => nomatch z)⟩
  obtain ⟨t, h1, h2⟩ := ty
  refine ⟨.ref a, p, _, t, _, true, rfl, upd_same, .cons (.ty "list") (.cons (.ty "tuple") .nil), h1, h2, ?_⟩
  walk_at "rv go"
  refine w_chain ?_
  walk_at "rv go"
  have hl : ∀ Q : VK, Q (.int (xs.length : Int)) (upd H p (.tup [.ty "list", .ty "tuple"])) → cLen K [.ref a] (upd H p (.tup [.ty "list", .ty "tuple"])) Q := fun Q q => by
    rcases hR2 with h | h
    · exact w_lenL (sq_lst h) q
    · exact w_lenT (sq_tup h) q
  refine hl _ ?_
  walk_at "rv go"
  have q := k _ e
  refine w_both (fun z => ?_) (fun z => ?_)
  · walk_at "rv go"
    rw [decide_eq_true z, Bool.true_and] at q
    exact q
  · rw [decide_eq_false z, Bool.false_and] at q
    exact q
theorem row_call {K : PySem.W.Frag} {H : Hp} {Q : VK} {E : XK} {a : Addr} {lo hi : Int} {xs : List V} (h : H a = some (.lst xs)) (h1 : lo ≤ (xs.length : Int)) (h2 : (xs.length : Int) ≤ hi) (k : ∀ H', Same H H' → Q (.bl true) H') :
    spRow K ([.ref a, .int lo, .int hi] ++ []) H Q E := ⟨a, lo, hi, xs, rfl, .inl h, fun H' e => by
  rw [decide_eq_true h1, decide_eq_true h2]
  exact k H' e⟩
theorem outside_call {K : PySem.W.Frag} {H : Hp} {Q : VK} {E : XK} {a : Addr} {lo hi : Int} {zs : List Int} (h : H a = some (.lst (zs.map V.int))) (hz : ∀ z ∈ zs, lo ≤ z ∧ z ≤ hi) (k : ∀ H', Same H H' → Q .non H') :
    spOutside K ([.ref a, .int lo, .int hi] ++ []) H Q E := by
  have hm : ∀ x ∈ zs.map V.int, ∃ z, x = V.int z ∧ lo ≤ z ∧ z ≤ hi := fun x hx => by
    obtain ⟨z, h1, h2⟩ := List.mem_map.mp hx
    exact ⟨z, h2.symm, hz z h1⟩
  refine ⟨a, lo, hi, _, rfl, sq_lst h, fun x hx => ?_, fun H' e => ?_⟩
  · obtain ⟨z, rfl, _⟩ := hm x hx
    exact .int z
  · rw [outs_none fun x hx => ?_]
    · exact k H' e
    · obtain ⟨z, rfl, h1, h2⟩ := hm x hx
      show (decide (lo ≤ z) && decide (z ≤ hi)) = true
      rw [decide_eq_true h1, decide_eq_true h2]
      rfl
theorem p_checkH {K : PySem.W.Frag} {vs : List V} {H : Hp} {Q : VK} {E : XK} (h : spCheckH K vs H Q E) : t_check_heights K { nx := fun _ H' => Q .non H', rt := Q } (start ["heights", "wrong"] vs) H := by
  obtain ⟨a, hs, rfl, ha, h1, h60, hok, k⟩ := h
  unfold t_check_heights
  refine w_seq ?_
  refine w_ifs ?_
  walk_at "rv go"
  refine row_call ha (by rw [List.length_map]; omega) (by rw [List.length_map]; omega) fun H1 e1 => ?_
  walk_at "rv go"
  refine outside_call (e1 _ _ ha) (fun z hz => hok z hz) fun H2 e2 => ?_
  refine w_gn ?_
  refine w_ifs ?_
  walk_at "rv go"
  refine ⟨rfl, ?_⟩
  walk_at "rv go"
  exact k H2 (e1.trans e2)
theorem p_checkW {K : PySem.W.Frag} {vs : List V} {H : Hp} {Q : VK} {E : XK} (h : spCheckW K vs H Q E) : t_check_widths K { nx := fun _ H' => Q .non H', rt := Q } (start ["widths", "many", "wrong"] vs) H := by
  obtain ⟨a, ws, rfl, ha, hok, k⟩ := h
  unfold t_check_widths
  refine w_seq ?_
  refine w_ifs ?_
  walk_at "rv go"
  refine row_call ha (by rw [List.length_map]; omega) (by rw [List.length_map]; omega) fun H1 e1 => ?_
  walk_at "rv go"
  refine outside_call (e1 _ _ ha) (fun z hz => hok z hz) fun H2 e2 => ?_
  refine w_gn ?_
  refine w_ifs ?_
  walk_at "rv go"
  refine ⟨rfl, ?_⟩
  walk_at "rv go"
  exact k H2 (e1.trans e2)
theorem tup_call {K : PySem.W.Frag} {H : Hp} {Q : VK} {a : Addr} {xs : List V} (h : H a = some (.lst xs)) (k : ∀ l, H l = none → Q (.ref l) (upd H l (.tup xs))) : cTuple K [.ref a] H Q := ⟨a, xs, rfl, .inl ⟨sq_lst h, k⟩⟩
theorem p_init {K : PySem.W.Frag} {C : Addr} {vs : List V} {H : Hp} {Q : VK} {E : XK} (h : spInit K C vs H Q E) : t_Profile___init__ K C { nx := fun _ H' => Q .non H', rt := Q } (start ["self", "heights", "widths"] vs) H := by
  obtain ⟨p, dx, a, wv, hs, ws, rfl, P, hp, ha, h1, h60, hok, hw, k⟩ := h
  unfold t_Profile___init__
  walk_at "rv go"
  refine ⟨a, hs, rfl, ha, h1, h60, hok, fun H1 e1 => ?_⟩
  refine w_cut (fun σ' H' => ∃ b, σ' = [some (.ref p), some (.ref a), some (.ref b)] ∧ H' b = some (.lst (ws.map V.int)) ∧ ws.length = hs.length ∧ (∀ z ∈ ws, WOk1 z) ∧ Same H H') (fun N key => ?_) ?_
  · refine w_ifs ?_
    rcases hw with ⟨rfl, rfl⟩ | ⟨b, rfl, hb, hl, hwok⟩
    · walk_at "rv go"
      refine ⟨rfl, ?_⟩
      walk_at "rv go"
      refine ⟨szl (by decide), fun q nq => ?_⟩
      walk_at "rv go"
      refine w_lenL (sq_lst (same_new e1 nq _ _ ha)) ?_
      walk_at "rv go"
      refine ⟨q, _, _, rfl, rfl, upd_same, by omega, by rw [List.length_map]; omega, by rw [List.length_map]; exact szl (by simp; omega), fun r nr => ?_⟩
      walk_at "rv go"
      refine key _ _ ⟨r, rfl, ?_, by simp, fun z hz => ?_, same_new (same_new e1 nq) nr⟩
      · rw [upd_same, List.map_replicate, List.length_map, Int.toNat_natCast, List.flatten_replicate_singleton]
      · rw [(List.mem_replicate.mp hz).2]
        exact ⟨by decide, by decide⟩
    · walk_at "rv go"
      refine ⟨rfl, ?_⟩
      have e : decide (V.ref b = V.non) = false := decide_eq_false fun z => nomatch z
      rw [e]
      walk_at "rv go"
      exact key _ _ ⟨b, rfl, e1 _ _ hb, hl, hwok, e1⟩
  · rintro σ2 H2 ⟨b, rfl, hb, hl, hwok, e2⟩
    walk_at "rv go"
    refine w_lenL (sq_lst (e2 _ _ ha)) ?_
    walk_at "rv go"
    refine ⟨b, ws, ?_, hb, hwok, fun H3 e3 => ?_⟩
    · show [V.ref b, V.int ((hs.map V.int).length : Int)] = _
      rw [List.length_map, hl]
    have e23 := e2.trans e3
    refine w_seq ?_
    refine w_sfld ?_
    walk_at "rv go"
    refine tup_call (e23 _ _ ha) fun t1 n1 => ?_
    walk_at "rv go"
    have e4 := same_new (o := .tup (hs.map V.int)) e23 n1
    refine w_put (e4 _ _ hp) P.cl P.nH (by decide) ?_
    refine w_nx ?_
    refine w_sfld ?_
    walk_at "rv go"
    have bp : b ≠ p := fun z => by
      have q := e23 _ _ hp
      rw [← z, e3 _ _ hb] at q
      cases q
    have t1p : t1 ≠ p := fun z => by
      have q := e23 _ _ hp
      rw [← z, n1] at q
      cases q
    have b1 : b ≠ t1 := ne_of_none (e3 _ _ hb) n1
    refine tup_call (xs := ws.map V.int) (by rw [upd_ne bp, upd_ne b1]; exact e3 _ _ hb) fun t2 n2 => ?_
    have t2p : t2 ≠ p := fun z => by
      rw [z, upd_same] at n2
      cases n2
    have t21 : t2 ≠ t1 := fun z => by
      rw [z, upd_ne t1p, upd_same] at n2
      cases n2
    walk_at "rv go"
    refine w_put (fs := putF "column_heights" (.ref t1) []) (by rw [upd_ne t2p.symm, upd_same]) P.cl P.nW (by show (1 : Nat) < 1000; decide) ?_
    refine k _ ⟨dx, t1, t2, upd_same, ?_, ?_⟩ fun c o nc hc => ?_
    · rw [upd_ne t1p, upd_ne t21.symm, upd_ne t1p, upd_same]
    · rw [upd_ne t2p, upd_same]
    · have q : H3 c = some o := e23 _ _ hc
      have nt2 : c ≠ t2 := fun z => by
        rw [z] at nc q
        rw [upd_ne nc, upd_ne t21, q] at n2
        cases n2
      rw [upd_ne nc, upd_ne nt2, upd_ne nc, upd_ne (ne_of_none q n1), q]
theorem dp_ints {K : PySem.W.Frag} {H : Hp} : ∀ zs : List Int, DpAll K H (zs.map V.int) (zs.map PyData.int)
  | [] => .nil
  | z :: r => .cons (.int z) (dp_ints r)
theorem kit_self {K : PySem.W.Frag} {C : Addr} : PySem.W.kitOne K (.ref C) (.ref C) = some true := if_pos (beq_self_eq_true _)
theorem lay_ints : ∀ zs : List Int, PyData.canLayAll0 (zs.map PyData.int) = true ∧ PyData.depthAll (zs.map PyData.int) = 0
  | [] => ⟨by simp [PyData.canLayAll0], by simp [PyData.depthAll]⟩
  | z :: r => by
    have h := lay_ints r
    exact ⟨by simp [PyData.canLayAll0, PyData.canLay0, h.1], by simp [PyData.depthAll, PyData.depth, h.2]⟩
theorem shT_ints (zs : List Int) : SeqAt.shaped (.tuple (zs.map PyData.int)) = true := by
  have h := lay_ints zs
  simp [SeqAt.shaped, PyData.canLay0, PyData.depth, h.1, h.2]
theorem shL_ints (zs : List Int) : SeqAt.shaped (.list (zs.map PyData.int)) = true := by
  have h := lay_ints zs
  simp [SeqAt.shaped, PyData.canLay0, PyData.depth, h.1, h.2]
theorem eqD_ok {K : PySem.W.Frag} {H : Hp} {Q : VK} {a b : Addr} {zs : List Int} (h1 : SqT K H a (zs.map V.int)) (h2 : SqT K H b (zs.map V.int)) (q : Q (.bl true) H) : rEqD K (.ref a) (.ref b) H Q := by
  refine ⟨.tuple (zs.map PyData.int), .tuple (zs.map PyData.int), .tup h1 (dp_ints zs), .tup h2 (dp_ints zs), shT_ints zs, shT_ints zs, ?_⟩
  rw [SeqAt.eqv_refl _ (SeqAt.canLay_of_shaped (shT_ints zs))]
  exact q
theorem p_eq {K : PySem.W.Frag} {C : Addr} {vs : List V} {H : Hp} {Q : VK} {E : XK} (h : spEq (PEq K C) vs H Q E) : t_Profile___eq__ K C { nx := fun _ H' => Q .non H', rt := Q } (start ["self", "other"] vs) H := by
  obtain ⟨a, b, rfl, ⟨P, hs, ws, ⟨dx, t1, t2, ha, h1, h2⟩, ⟨dy, u1, u2, hb, g1, g2⟩⟩, k⟩ := h
  unfold t_Profile___eq__
  walk_at "rv go"
  refine isi_of (.own C) (.base (.ins hb P.cl P.cA P.cG P.cT P.cM)) kit_self ?_
  walk_at "rv go"
  refine w_fld rfl ha P.cl P.nH (pfl_h _ _) ?_
  refine w_fld rfl hb P.cl P.nH (pfl_h _ _) ?_
  refine eqD_ok (sq_tup h1) (sq_tup g1) ?_
  walk_at "rv go"
  refine w_fld rfl ha P.cl P.nW (pfl_w _ _) ?_
  refine w_fld rfl hb P.cl P.nW (pfl_w _ _) ?_
  refine eqD_ok (sq_tup h2) (sq_tup g2) ?_
  walk_at "rv go"
  exact k H fun _ _ z => z
end Rv
/-! Operators, comparisons and len of instances of a class with its own defs for them. -/
namespace Rv
open PySem PySem.Spec PyProof.Rows L2
theorem back_of {P : Value → Shared → Prop} {z : V} {v : Value} {s' : Shared} (r : RelV z v) (h : P v s') : PySem.W.CmpBack P v s' := by
  have n : v ≠ .notImplemented := by
    rintro rfl
    cases z <;> first | (obtain ⟨_, e⟩ := r; cases e) | cases r
  cases v <;> first | exact h | exact absurd rfl n
/-- the second operand: an int, or an instance of the class at C -/
inductive Snd (C : Addr) (H : Hp) : V → Prop where
  | int (i : Int) : Snd C H (.int i)
  | own {b dy : Addr} {gs : List (Str × V)} (h : H b = some (.ins C dy gs)) : Snd C H (.ref b)
/-- the class at C has a def of two parameters under the name nm -/
structure CalO (P : Program) (w : World) (K : PySem.W.Frag) (mg : Str → Option Value) (base : Heap) (CX : CXT) (k : Nat) (C : Addr) (nm : Str) (sp : Sp) : Prop where
  ex : ∃ f fd, FnOk P w K mg base CX k f fd ["self", "other"] sp ∧ PySem.W.findIn K (.ref C) nm = some (some (.ref f)) ∧ PySem.W.isFn K (.ref f) = true ∧ Binds K fd ["self", "other"] []
/-- .. of one parameter -/
structure CalU (P : Program) (w : World) (K : PySem.W.Frag) (mg : Str → Option Value) (base : Heap) (CX : CXT) (k : Nat) (C : Addr) (nm : Str) (sp : Sp) : Prop where
  ex : ∃ f fd, FnOk P w K mg base CX k f fd ["self"] sp ∧ PySem.W.findIn K (.ref C) nm = some (some (.ref f)) ∧ PySem.W.isFn K (.ref f) = true ∧ Binds K fd ["self"] []
/-- what the operators ask of the class -/
structure OpC (K : PySem.W.Frag) (C : Addr) : Prop where
  nf : PySem.W.notFirst K C (.type "int") = true
  sf : PySem.W.selfFirst K C = true
  su : PySem.W.subIn K (.type "int") (.ref C) = some false
/-- .. for one arithmetic operator (its second name, the reflected one, is a def of the class or nothing) -/
structure OpN (K : PySem.W.Frag) (C : Addr) (nm : String) : Prop where
  rd : ∃ rc, PySem.W.findIn K (.ref C) (PySem.dunderR nm) = some rc ∧ (rc = none ∨ ∃ g : Addr, rc = some (.ref g))
  i1 : ∃ fo, PySem.W.findIn K (.type "int") (PySem.dunder nm) = some fo
  i2 : ∃ ro, PySem.W.findIn K (.type "int") (PySem.dunderR nm) = some ro
def rOwn (C : Addr) (sp : Sp) (E : XK) : R2 := fun x y H Q => ∃ a dx fs, x = .ref a ∧ H a = some (.ins C dx fs) ∧ Snd C H y ∧ sp [x, y] H Q E
def rOwnI (C : Addr) (sp : Sp) (E : XK) : R2 := fun x y H Q => ∃ a dx fs i, x = .ref a ∧ H a = some (.ins C dx fs) ∧ y = .int i ∧ sp [x, y] H Q E
def cLenO (C : Addr) (sp : Sp) (E : XK) : List V → Hp → VK → Prop := fun xs H Q => ∃ a dx fs, xs = [.ref a] ∧ H a = some (.ins C dx fs) ∧ sp [.ref a] H (fun z H' => ∃ i, z = .int i ∧ (0 ≤ i ∧ i < 2 ^ 63) ∧ Q (.int i) H') E
section
variable {X : Cx} {CX : CXT} {k : Nat} {nm : String} {sp : Sp} {E : XK} {C f : Addr} {fd : FuncData} {pins : List (Addr × Obj)} {σ : L2.St} {H : Hp} {s : Shared} {a : Addr} {y : V} {u : Value} {Q : VK}
theorem run2 (F : FnOk X.prog X.w X.K X.mg X.base CX k f fd ["self", "other"] sp) (hb : Binds X.K fd ["self", "other"] []) (hx : Passes CX X E) (hr : Room k X.A) (I : Inv X pins σ H s) (ry : RelV y u) (q : sp [.ref a, y] H Q E) :
    wpAny (model X.prog X.w) X.A (call (.ref f) [.ref a, u]) (PySem.W.CmpBack (EP X pins σ Q)) X.xe s := by
  have r2 : Vals [V.ref a, y] [Value.ref a, u] := .cons rfl (.cons ry .nil)
  have hl := F.len _ _ _ _ q
  refine wpAny_call (codeAny_mono (F.run X.A X.stack s H ⟨[.ref a, u], []⟩ [.ref a, u] [.ref a, y] _ E hr I.env0 (by
    have := hb s [.ref a, u] I.kIn (by simpa using hl)
    simpa using this) r2 q) fun r s' hq => ?_)
  cases r with
  | error e => exact hx pins σ H s e s' I hq
  | ok fl =>
    cases fl with
    | ret w =>
      obtain ⟨z, H', I', rz, qz⟩ := I.after hq
      exact back_of rz ⟨z, H', I', rz, qz⟩
    | next => exact False.elim hq
    | brk => exact False.elim hq
    | cont => exact False.elim hq
theorem op_ownC {op : CmpOp} (hop : ∀ a b, compareOp op a b = richCompare op a b) (c : CalO X.prog X.w X.K X.mg X.base CX k C (cmpInfo op).2.1 sp) (oc : OpC X.K C) (hr : Room k X.A) (hx : Passes CX X E) : OpR X (compareOp op) (rOwn C sp E) := by
  intro pins s σ H x y v u Q I rx ry h
  obtain ⟨a, dx, fs, rfl, ha, sy, q⟩ := h
  cases (show v = Value.ref a from rx)
  obtain ⟨f, fd, F, hs, hf, hb⟩ := c.ex
  obtain ⟨mA, J, _⟩ := ins_get I.hok ha
  obtain ⟨od, J, _⟩ := J.look
  obtain ⟨m, hF⟩ := I.fr
  rw [hop]
  have go := run2 (y := y) (u := u) F hb hx hr I ry q
  cases sy with
  | int i =>
    obtain ⟨t, rfl⟩ := (show ∃ t, u = Value.int i t from ry)
    exact PySem.W.cmp_K (op := op) (tb := .type "int") hr.units0 hF I.ok.mod.kin J (PySem.W.Looks.of_pure rfl) oc.nf hs hf go
  | own hb' =>
    cases (show u = Value.ref _ from ry)
    obtain ⟨mB, J', _⟩ := ins_get I.hok hb'
    obtain ⟨od', J', _⟩ := J'.look
    exact PySem.W.cmp_K (op := op) (tb := .ref C) hr.units0 hF I.ok.mod.kin J J'.type (by simp [PySem.W.notFirst]) hs hf go
theorem op_ownI {op : Operator} (c : CalO X.prog X.w X.K X.mg X.base CX k C (PySem.dunder op.info.2) sp) (oc : OpC X.K C) (on : OpN X.K C op.info.2) (hr : Room k X.A) (hx : Passes CX X E) : OpR X (binaryOp op) (rOwnI C sp E) := by
  intro pins s σ H x y v u Q I rx ry h
  obtain ⟨a, dx, fs, i, rfl, ha, rfl, q⟩ := h
  cases (show v = Value.ref a from rx)
  obtain ⟨f, fd, F, hs, hf, hb⟩ := c.ex
  obtain ⟨mA, J, _⟩ := ins_get I.hok ha
  obtain ⟨od, J, _⟩ := J.look
  obtain ⟨m, hF⟩ := I.fr
  have go := run2 (y := .int i) (u := u) F hb hx hr I ry q
  obtain ⟨t, rfl⟩ := (show ∃ t, u = Value.int i t from ry)
  obtain ⟨rc, r1, r2⟩ := on.rd
  obtain ⟨fo, h1⟩ := on.i1
  obtain ⟨ro, h2⟩ := on.i2
  exact PySem.W.ksp_binT (op := op) (T := "int") hF I.ok.mod.kin J rfl oc.sf hs hf r1 r2 h1 h2 oc.su go
theorem op_ownMul (c : CalO X.prog X.w X.K X.mg X.base CX k C "__mul__" sp) (oc : OpC X.K C) (on : OpN X.K C "mul") (hr : Room k X.A) (hx : Passes CX X E) : OpR X (binaryOp .Mult) (rOwnI C sp E) :=
  op_ownI (op := .Mult) (by rw [show PySem.dunder (Operator.info .Mult).2 = ("__mul__" : Str) from by decide +kernel]; exact c) oc on hr hx
theorem op_ownSub (c : CalO X.prog X.w X.K X.mg X.base CX k C "__sub__" sp) (oc : OpC X.K C) (on : OpN X.K C "sub") (hr : Room k X.A) (hx : Passes CX X E) : OpR X (binaryOp .Sub) (rOwnI C sp E) :=
  op_ownI (op := .Sub) (by rw [show PySem.dunder (Operator.info .Sub).2 = ("__sub__" : Str) from by decide +kernel]; exact c) oc on hr hx
theorem op_ownAdd (c : CalO X.prog X.w X.K X.mg X.base CX k C "__add__" sp) (oc : OpC X.K C) (on : OpN X.K C "add") (hr : Room k X.A) (hx : Passes CX X E) : OpR X (binaryOp .Add) (rOwnI C sp E) :=
  op_ownI (op := .Add) (by rw [show PySem.dunder (Operator.info .Add).2 = ("__add__" : Str) from by decide +kernel]; exact c) oc on hr hx
theorem call_lenO (c : CalU X.prog X.w X.K X.mg X.base CX k C "__len__" sp) (hr : Room (k + 1) X.A) (hx : Passes CX X E) : CallR X (.builtin "len") (cLenO C sp E) := by
  intro pins s σ H xs us Q I r h
  obtain ⟨a, dx, fs, rfl, ha, q⟩ := h
  obtain ⟨u, rfl, ru⟩ := r.one
  cases (show u = Value.ref a from ru)
  obtain ⟨f, fd, F, hs, hf, hb⟩ := c.ex
  obtain ⟨mA, J, _⟩ := ins_get I.hok ha
  obtain ⟨od, J, _⟩ := J.look
  obtain ⟨m, hF⟩ := I.fr
  have hl := F.len _ _ _ _ q
  refine PySem.W.len_K hF I.ok.mod.kin J hs hf (wpAny_call (codeAny_mono (F.run X.A.in1 X.stack s H ⟨[.ref a], []⟩ [.ref a] [.ref a] _ E hr.in1 I.env0.in1 (by
    have := hb s [.ref a] I.kIn (by simpa using hl)
    simpa using this) (.cons rfl .nil) q) fun r s' hq => ?_))
  cases r with
  | error e => exact hx pins σ H s e s' I hq
  | ok fl =>
    cases fl with
    | ret w =>
      obtain ⟨z, H', I', rz, i, rfl, hi, qz⟩ := I.after hq
      obtain ⟨t, rfl⟩ := (show ∃ t, w = Value.int i t from rz)
      exact ⟨hi, .int i, H', I'.tok (s'.toks + 1), ⟨_, rfl⟩, qz⟩
    | next => exact False.elim hq
    | brk => exact False.elim hq
    | cont => exact False.elim hq
end
section
variable {K : PySem.W.Frag} {H : Hp} {Q : VK} {C a dx : Addr} {fs : List (Str × V)} {sp : Sp} {E : XK} {y : V} {i : Int}
theorem w_ownI (ha : H a = some (.ins C dx fs)) (q : sp [.ref a, .int i] H Q E) : rOwn C sp E (.ref a) (.int i) H Q := ⟨a, dx, fs, rfl, ha, .int i, q⟩
theorem w_ownO {b dy : Addr} {gs : List (Str × V)} (ha : H a = some (.ins C dx fs)) (hb : H b = some (.ins C dy gs)) (q : sp [.ref a, .ref b] H Q E) : rOwn C sp E (.ref a) (.ref b) H Q := ⟨a, dx, fs, rfl, ha, .own hb, q⟩
theorem w_binI (ha : H a = some (.ins C dx fs)) (q : sp [.ref a, .int i] H Q E) : rOwnI C sp E (.ref a) (.int i) H Q := ⟨a, dx, fs, i, rfl, ha, rfl, q⟩
theorem w_lenO (ha : H a = some (.ins C dx fs)) (q : sp [.ref a] H (fun z H' => ∃ i, z = .int i ∧ (0 ≤ i ∧ i < 2 ^ 63) ∧ Q (.int i) H') E) : cLenO C sp E [.ref a] H Q := ⟨a, dx, fs, rfl, ha, q⟩
end
end Rv
namespace Rv
open PySem PySem.Spec PyProof.Rows L2
structure Red (n d t b : Int) : Prop where
  eq : t * d = n * b
  pos : 0 < b
  low : Int.gcd t b = 1
  le : b ≤ d
  lt : t.natAbs ≤ n.natAbs
theorem red_gcd {n d : Int} (hd : 0 < d) : Red n d (n / (Int.gcd n d : Int)) (d / (Int.gcd n d : Int)) := by
  have g0 : 0 < Int.gcd n d := Int.gcd_pos_iff.mpr (.inr (by omega))
  have g1 : (0 : Int) < (Int.gcd n d : Int) := by omega
  obtain ⟨x, hx⟩ := Int.gcd_dvd_left (a := n) (b := d)
  obtain ⟨y, hy⟩ := Int.gcd_dvd_right (a := n) (b := d)
  have low : Int.gcd x y = 1 := by
    have e : Int.gcd n d = Int.gcd n d * Int.gcd x y := by
      have q := Int.gcd_mul_left (Int.gcd n d : Int) x y
      rw [← hx, ← hy, Int.natAbs_natCast] at q
      exact q
    exact Nat.eq_of_mul_eq_mul_left g0 (by omega)
  have ex : n / (Int.gcd n d : Int) = x := by
    have q := Int.mul_ediv_cancel_left x (show (Int.gcd n d : Int) ≠ 0 by omega)
    rw [← hx] at q
    exact q
  have ey : d / (Int.gcd n d : Int) = y := by
    have q := Int.mul_ediv_cancel_left y (show (Int.gcd n d : Int) ≠ 0 by omega)
    rw [← hy] at q
    exact q
  rw [ex, ey]
  have py : 0 < y := by
    by_cases h : 0 < y
    · exact h
    · have : (Int.gcd n d : Int) * y ≤ 0 := Int.mul_nonpos_of_nonneg_of_nonpos (by omega) (by omega)
      omega
  generalize hg : Int.gcd n d = g at *
  refine ⟨?_, py, low, ?_, ?_⟩
  · rw [hx, hy]
    rw [show x * ((g : Int) * y) = (g : Int) * x * y by rw [Int.mul_left_comm, Int.mul_assoc]]
  · rw [hy]
    have := Int.mul_le_mul_of_nonneg_right (show (1 : Int) ≤ g by omega) (show 0 ≤ y by omega)
    omega
  · rw [hx, Int.natAbs_mul, Int.natAbs_natCast]
    exact Nat.le_mul_of_pos_left _ g0
theorem gcd_step {a b : Int} (hb : 0 < b) (ha : 0 ≤ a) : Int.gcd b (a % b) = Int.gcd a b := by
  have e : a = (a.natAbs : Int) := by omega
  have f : b = (b.natAbs : Int) := by omega
  rw [Int.gcd_comm a b, e, f, ← Int.natCast_emod]
  show Nat.gcd _ _ = Nat.gcd _ _
  simp only [Int.natAbs_natCast]
  rw [Nat.gcd_comm b.natAbs (a.natAbs % b.natAbs), ← Nat.gcd_rec]
def Sz (k : Nat) (z : Int) : Prop := z.natAbs < 2 ^ k
theorem Sz.mono {j k : Nat} {z : Int} (h : Sz j z) (e : j ≤ k) : Sz k z := Nat.lt_of_lt_of_le h (Nat.pow_le_pow_right (by decide) e)
theorem Sz.mul {j k : Nat} {x y : Int} (h : Sz j x) (g : Sz k y) : Sz (j + k) (x * y) := by
  unfold Sz at *
  rw [Int.natAbs_mul, Nat.pow_add]
  exact Nat.mul_lt_mul'' h g
theorem Sz.add {k : Nat} {x y : Int} (h : Sz k x) (g : Sz k y) : Sz (k + 1) (x + y) := by
  unfold Sz at *
  rw [Nat.pow_succ]
  omega
theorem Sz.sub {k : Nat} {x y : Int} (h : Sz k x) (g : Sz k y) : Sz (k + 1) (x - y) := by
  unfold Sz at *
  rw [Nat.pow_succ]
  omega
theorem Red.szt {n d t b : Int} {k : Nat} (r : Red n d t b) (h : Sz k n) : Sz k t := Nat.lt_of_le_of_lt r.lt h
theorem Red.szb {n d t b : Int} {k : Nat} (r : Red n d t b) (h : Sz k d) : Sz k b := by
  have := r.pos
  have := r.le
  unfold Sz at *
  omega
theorem Red.one {n t b : Int} (r : Red n 1 t b) : t = n ∧ b = 1 := by
  have h1 := r.pos
  have h2 := r.le
  have e : b = 1 := by omega
  have h3 := r.eq
  subst e
  omega
def dueF (h w : Nat → Int) (t b : Int) (f : Nat) : Nat → Int
  | 0 => 0
  | k + 1 => dueF h w t b f k + if h (f + k) * b < t then w (f + k) * (t - h (f + k) * b) else 0
def wetF (h : Nat → Int) (t b : Int) (f : Nat) : Nat → List Nat
  | 0 => []
  | k + 1 => wetF h t b f k ++ if h (f + k) * b < t then [f + k] else []
theorem wet_due (h w : Nat → Int) (t b : Int) (f : Nat) : ∀ k : Nat, t * ((wetF h t b f k).map w).sum - ((wetF h t b f k).map fun c => w c * h c).sum * b = dueF h w t b f k
  | 0 => by simp [wetF, dueF]
  | k + 1 => by
    have ih := wet_due h w t b f k
    unfold wetF dueF
    rw [← ih]
    split
    · rw [List.map_append, List.map_append, List.sum_append, List.sum_append]
      simp only [List.map_cons, List.map_nil, List.sum_cons, List.sum_nil, Int.add_zero]
      rw [Int.mul_add, Int.add_mul, Int.mul_sub, Int.mul_comm t (w (f + k)), Int.mul_assoc (w (f + k))]
      omega
    · simp
theorem due_scale {h w : Nat → Int} {t b p q : Int} {f : Nat} (hb : 0 < b) (hq : 0 < q) (e : t * q = p * b) : ∀ k : Nat, dueF h w t b f k * q = dueF h w p q f k * b
  | 0 => by simp [dueF]
  | k + 1 => by
    have ih := due_scale (h := h) (w := w) (f := f) hb hq e k
    unfold dueF
    have iff' : h (f + k) * b < t ↔ h (f + k) * q < p := by
      have e1 : h (f + k) * b * q = h (f + k) * q * b := by rw [Int.mul_assoc, Int.mul_comm b q, Int.mul_assoc]
      constructor
      · intro z
        have z2 := Int.mul_lt_mul_of_pos_right z hq
        rw [e, e1] at z2
        exact Int.lt_of_mul_lt_mul_right z2 (by omega)
      · intro z
        have z2 := Int.mul_lt_mul_of_pos_right z hb
        rw [← e, ← e1] at z2
        exact Int.lt_of_mul_lt_mul_right z2 (by omega)
    rw [Int.add_mul, Int.add_mul, ih]
    by_cases c : h (f + k) * b < t
    · rw [if_pos c, if_pos (iff'.mp c)]
      have e1 : h (f + k) * b * q = h (f + k) * q * b := by rw [Int.mul_assoc, Int.mul_comm b q, Int.mul_assoc]
      rw [Int.mul_assoc, Int.sub_mul, e, e1, ← Int.sub_mul, ← Int.mul_assoc]
    · rw [if_neg c, if_neg (fun z => c (iff'.mpr z))]
      simp
theorem vol_fin {n d t b p q x y : Int} (hb : 0 < b) (h1 : n * b = x * d) (h2 : x * q = y * b) : n * q = y * d := by
  have e : n * q * b = y * d * b := by
    rw [Int.mul_assoc, Int.mul_comm q b, ← Int.mul_assoc, h1, Int.mul_assoc, Int.mul_comm d q, ← Int.mul_assoc, h2, Int.mul_assoc, Int.mul_comm b d, ← Int.mul_assoc]
  exact Int.eq_of_mul_eq_mul_right (by omega) e
/-- level * wide - ground, in lowest terms twice -/
theorem vol_two {n1 d1 n d t b wide ground : Int} (h1 : n1 * (b * 1) = (t * wide) * d1) (p1 : 0 < d1) (h2 : n * (d1 * 1) = (n1 * 1 - ground * d1) * d) : n * b = (t * wide - ground * b) * d := by
  rw [Int.mul_one] at h1 h2
  rw [Int.mul_one] at h2
  have e : n * b * d1 = (t * wide - ground * b) * d * d1 := by
    rw [Int.mul_assoc, Int.mul_comm b d1, ← Int.mul_assoc, h2, Int.mul_assoc, Int.mul_comm d b, ← Int.mul_assoc, Int.sub_mul, h1, Int.mul_assoc ground d1 b, Int.mul_comm d1 b, ← Int.mul_assoc ground b d1, ← Int.sub_mul, Int.mul_assoc, Int.mul_comm d1 d, ← Int.mul_assoc]
  exact Int.eq_of_mul_eq_mul_right (by omega) e
theorem sum_bound {M : Nat} : ∀ {l : List Int}, (∀ x ∈ l, x.natAbs ≤ M) → l.sum.natAbs ≤ l.length * M
  | [], _ => by simp
  | x :: r, h => by
    have h1 := h x List.mem_cons_self
    have h2 := sum_bound fun y hy => h y (List.mem_cons_of_mem _ hy)
    rw [List.sum_cons, List.length_cons, Nat.add_mul]
    omega
theorem wet_len (h : Nat → Int) (t b : Int) (f : Nat) : ∀ k : Nat, (wetF h t b f k).length ≤ k
  | 0 => by simp [wetF]
  | k + 1 => by
    have := wet_len h t b f k
    unfold wetF
    rw [List.length_append]
    split <;> simp <;> omega
theorem wet_mem {h : Nat → Int} {t b : Int} {f c : Nat} : ∀ {k : Nat}, c ∈ wetF h t b f k → f ≤ c ∧ c < f + k
  | 0, m => by simp [wetF] at m
  | k + 1, m => by
    unfold wetF at m
    rcases List.mem_append.mp m with m | m
    · have := wet_mem m
      omega
    · split at m
      · simp at m
        omega
      · simp at m
/-! fractions in the heap -/
def rfl2 (t b : Int) : List (Str × V) := putF "reduced_bottom" (.int b) (putF "reduced_top" (.int t) [])
theorem n_tb : ¬ (("reduced_top" : Str) = "reduced_bottom") := by decide +kernel
theorem rfl2_t (t b : Int) : (rfl2 t b).lookup ("reduced_top" : Str) = some (.int t) := by
  unfold rfl2
  rw [lookup_putF, if_neg n_tb, lookup_putF, if_pos rfl]
theorem rfl2_b (t b : Int) : (rfl2 t b).lookup ("reduced_bottom" : Str) = some (.int b) := by
  unfold rfl2
  rw [lookup_putF, if_pos rfl]
/-- a Ratio t / b in lowest terms stands at p -/
def RatAt (C : Addr) (H : Hp) (p : Addr) (t b : Int) : Prop := (0 < b ∧ Int.gcd t b = 1) ∧ ∃ dx, H p = some (.ins C dx (rfl2 t b))
theorem RatAt.same {C : Addr} {H H' : Hp} {p : Addr} {t b : Int} (h : RatAt C H p t b) (e : Same H H') : RatAt C H' p t b := by
  obtain ⟨l, dx, h1⟩ := h
  exact ⟨l, dx, e _ _ h1⟩
/-- a number: an int or a Ratio -/
def Num (C : Addr) (H : Hp) (v : V) (n d : Int) : Prop := (v = .int n ∧ d = 1) ∨ ∃ p, v = .ref p ∧ RatAt C H p n d
theorem Num.same {C : Addr} {H H' : Hp} {v : V} {n d : Int} (h : Num C H v n d) (e : Same H H') : Num C H' v n d := by
  rcases h with h | ⟨p, h1, h2⟩
  · exact .inl h
  · exact .inr ⟨p, h1, h2.same e⟩
theorem Num.pos {C : Addr} {H : Hp} {v : V} {n d : Int} (h : Num C H v n d) : 0 < d := by
  rcases h with ⟨_, h⟩ | ⟨p, _, h, _⟩
  · omega
  · exact h.1
/-- what is told of the class Ratio -/
structure RCls (K : PySem.W.Frag) (C : Addr) : Prop where
  cl : Cls K C
  nT : NoAttr K C "reduced_top"
  nB : NoAttr K C "reduced_bottom"
  cA : PySem.W.findIn K (.ref C) "__class__" = some (some (.builtin "object.__class__"))
  cG : PySem.W.specialIn K (.builtin "object.__class__") "__get__" = some (some (.builtin "getset_descriptor.__get__"))
  cT : PySem.W.takesIn K (.builtin "object.__class__") = some true
  cM : PySem.W.mroIn K C (.type "object") = some true
  ki : PySem.W.kitOne K (.type "int") (.ref C) = some false
def spPLen (K : PySem.W.Frag) (C : Addr) : Sp := fun vs H Q _ => ∃ p hs ws, vs = [.ref p] ∧ PCls K C ∧ ProfAt K C H p hs ws ∧ Q (.int (hs.length : Int)) H
def spGcd (K : PySem.W.Frag) : Sp := fun vs H Q _ => ∃ a b : Int, vs = [.int a, .int b] ∧ 0 ≤ a ∧ 0 ≤ b ∧ Q (.int (Int.gcd a b : Int)) H
def spRInit (K : PySem.W.Frag) (C : Addr) : Sp := fun vs H Q _ => ∃ p dx n d, vs = [.ref p, .int n, .int d] ∧ RCls K C ∧ H p = some (.ins C dx []) ∧ 0 < d ∧ Sz 8000 d ∧
  ∀ H' t b, Red n d t b → RatAt C H' p t b → (∀ c o, c ≠ p → H c = some o → H' c = some o) → Q .non H'
def spGap (K : PySem.W.Frag) (C : Addr) : Sp := fun vs H Q _ => ∃ a c t b n d, vs = [.ref a, .ref c] ∧ RCls K C ∧ RatAt C H a t b ∧ RatAt C H c n d ∧ Sz 4000 t ∧ Sz 4000 b ∧ Sz 4000 n ∧ Sz 4000 d ∧ Q (.int (t * d - n * b)) H
def spAsR (K : PySem.W.Frag) (C : Addr) : Sp := fun vs H Q _ => ∃ v n d, vs = [v] ∧ RCls K C ∧ Num C H v n d ∧ ∀ q H', Same H H' → RatAt C H' q n d → Q (.ref q) H'
def spChkN (K : PySem.W.Frag) (C : Addr) : Sp := spAsR K C
def spBin (f : Int → Int → Int → Int → Int) (K : PySem.W.Frag) (C : Addr) : Sp := fun vs H Q _ => ∃ a v t b n d, vs = [.ref a, v] ∧ RCls K C ∧ RatAt C H a t b ∧ Num C H v n d ∧ Sz 3000 t ∧ Sz 3000 b ∧ Sz 3000 n ∧ Sz 3000 d ∧
  ∀ q H' x y, Same H H' → RatAt C H' q x y → Red (f t b n d) (b * d) x y → Q (.ref q) H'
def spMul : PySem.W.Frag → Addr → Sp := spBin fun t _ n _ => t * n
def spSub : PySem.W.Frag → Addr → Sp := spBin fun t b n d => t * d - n * b
def spAdd : PySem.W.Frag → Addr → Sp := spBin fun t b n d => t * d + n * b
def spCmp (f : Int → Bool) (K : PySem.W.Frag) (C : Addr) : Sp := fun vs H Q _ => ∃ a v t b n d, vs = [.ref a, v] ∧ RCls K C ∧ RatAt C H a t b ∧ Num C H v n d ∧ Sz 3000 t ∧ Sz 3000 b ∧ Sz 3000 n ∧ Sz 3000 d ∧
  ∀ H', Same H H' → Q (.bl (f (t * d - n * b))) H'
def spGt : PySem.W.Frag → Addr → Sp := spCmp fun z => decide (0 < z)
def spLe : PySem.W.Frag → Addr → Sp := spCmp fun z => decide (z ≤ 0)
/-- heights and widths of a profile -/
structure PrOk (hs ws : List Int) : Prop where
  pos : 1 ≤ hs.length
  le : hs.length ≤ 60
  eq : ws.length = hs.length
  hh : ∀ z ∈ hs, HOk1 z
  ww : ∀ z ∈ ws, WOk1 z
def spIsCol (K : PySem.W.Frag) (C : Addr) : Sp := fun vs H Q _ => ∃ p hs ws, ∃ c : Int, vs = [.ref p, .int c] ∧ PCls K C ∧ ProfAt K C H p hs ws ∧ hs.length ≤ 60 ∧ Q (.bl (decide (0 ≤ c) && decide (c ≤ (hs.length : Int) - 1))) H
def spChkCol (K : PySem.W.Frag) (C : Addr) : Sp := fun vs H Q _ => ∃ p hs ws, ∃ c : Nat, vs = [.ref p, .int (c : Int)] ∧ PCls K C ∧ ProfAt K C H p hs ws ∧ hs.length ≤ 60 ∧ c < hs.length ∧ Q .non H
def spChkRun (K : PySem.W.Frag) (C : Addr) : Sp := fun vs H Q _ => ∃ p hs ws, ∃ f l : Nat, vs = [.ref p, .int (f : Int), .int (l : Int)] ∧ PCls K C ∧ ProfAt K C H p hs ws ∧ hs.length ≤ 60 ∧ f ≤ l ∧ l < hs.length ∧ Q .non H
def hN (hs : List Int) (i : Nat) : Int := (hs[i]?).getD 0
theorem at_hN {hs : List Int} {i : Nat} (h : i < hs.length) : atI (hs.map V.int) (i : Int) = some (.int (hN hs i)) := by
  refine at_nat ?_
  rw [List.getElem?_map]
  unfold hN
  rw [List.getElem?_eq_getElem h]
  rfl
theorem hN_mem {hs : List Int} {i : Nat} (h : i < hs.length) : hN hs i ∈ hs := by
  unfold hN
  rw [List.getElem?_eq_getElem h]
  exact List.getElem_mem h
def spVolB (K : PySem.W.Frag) (CP CR : Addr) : Sp := fun vs H Q _ => ∃ p hs ws, ∃ f l : Nat, ∃ q t b, vs = [.ref p, .int (f : Int), .int (l : Int), .ref q] ∧ PCls K CP ∧ RCls K CR ∧ ProfAt K CP H p hs ws ∧ PrOk hs ws ∧ f ≤ l ∧ l < hs.length ∧ RatAt CR H q t b ∧ Sz 1000 t ∧ Sz 1000 b ∧
  ∀ r H' n d, Same H H' → RatAt CR H' r n d → n * b = dueF (hN hs) (hN ws) t b f (l + 1 - f) * d → Sz 2000 n → Sz 1000 d → Q (.ref r) H'
def spVolU (K : PySem.W.Frag) (CP CR : Addr) : Sp := fun vs H Q _ => ∃ p hs ws, ∃ f l : Nat, ∃ v t b, vs = [.ref p, .int (f : Int), .int (l : Int), v] ∧ PCls K CP ∧ RCls K CR ∧ ProfAt K CP H p hs ws ∧ PrOk hs ws ∧ f ≤ l ∧ l < hs.length ∧ Num CR H v t b ∧ Sz 1000 t ∧ Sz 1000 b ∧
  ∀ r H' n d, Same H H' → RatAt CR H' r n d → n * b = dueF (hN hs) (hN ws) t b f (l + 1 - f) * d → Sz 2000 n → Sz 1000 d → Q (.ref r) H'
def t_Profile___len__ (K : PySem.W.Frag) (C_Profile : Addr) : TS :=
  (tRet (tCB (cLen K) (tCons (tFld K (tVar 0) "column_heights") tNil)))
def t_common_divisor (K : PySem.W.Frag) : TS :=
  (tSeq (tWhile (tTest (tOp rNe (tVar 1) (tC (.int 0)))) (tPar 0 1 (tCons (tVar 1) (tCons (tOp oMod (tVar 0) (tVar 1)) tNil))))
    (tRet (tVar 0)))
def t_gap (K : PySem.W.Frag) (C_Ratio : Addr) : TS :=
  (tRet (tOp oSub (tOp oMulW (tFld K (tVar 0) "reduced_top") (tFld K (tVar 1) "reduced_bottom")) (tOp oMulW (tFld K (tVar 1) "reduced_top") (tFld K (tVar 0) "reduced_bottom"))))
def t_Ratio___init__ (K : PySem.W.Frag) (C_Ratio : Addr) : TS :=
  (tSeq (tIfS (tNot (tB (tCall (spWhole K) [] E0 (tCons (tVar 1) tNil)))) tNever tNext)
    (tSeq (tIfS (tOr (tNot (tB (tCall (spWhole K) [] E0 (tCons (tVar 2) tNil)))) (tTest (tOp rEq (tVar 2) (tC (.int 0))))) tNever tNext)
    (tSeq (tAsg (tCall (spGcd K) [] E0 (tCons (tCB cAbs (tCons (tVar 1) tNil)) (tCons (tCB cAbs (tCons (tVar 2) tNil)) tNil))) (gName 3))
    (tSeq (tIfS (tTest (tOp oLt (tVar 2) (tC (.int 0)))) (tAsg (tUn (rU fun i => .int (-i)) (tVar 3)) (gName 3)) tNext)
    (tSeq (sFld K (tVar 0) (tOp oDiv (tVar 1) (tVar 3)) "reduced_top")
    (sFld K (tVar 0) (tOp oDiv (tVar 2) (tVar 3)) "reduced_bottom"))))))
def t_as_ratio (K : PySem.W.Frag) (C_Ratio : Addr) : TS :=
  (tSeq (tIfS (tB (tCB (rIsi K) (tCons (tVar 0) (tCons (tC (.ref C_Ratio)) tNil)))) (tRet (tVar 0)) tNext)
    (tSeq (tIfS (tB (tCall (spWhole K) [] E0 (tCons (tVar 0) tNil))) (tRet (tMake C_Ratio (spRInit K C_Ratio) [.int 1] E0 (tCons (tVar 0) tNil))) tNext)
    (tRet (tC .non))))
def t_Ratio___mul__ (K : PySem.W.Frag) (C_Ratio : Addr) : TS :=
  (tSeq (tAsg (tCall (spAsR K C_Ratio) [] E0 (tCons (tVar 1) tNil)) (gName 2))
    (tSeq (tIfS (tTest (tOp oIsN (tVar 2) (tC .non))) tNever tNext)
    (tRet (tMake C_Ratio (spRInit K C_Ratio) [] E0 (tCons (tOp oMulW (tFld K (tVar 0) "reduced_top") (tFld K (tVar 2) "reduced_top")) (tCons (tOp oMulW (tFld K (tVar 0) "reduced_bottom") (tFld K (tVar 2) "reduced_bottom")) tNil))))))
def t_Ratio___sub__ (K : PySem.W.Frag) (C_Ratio : Addr) : TS :=
  (tSeq (tAsg (tCall (spAsR K C_Ratio) [] E0 (tCons (tVar 1) tNil)) (gName 2))
    (tSeq (tIfS (tTest (tOp oIsN (tVar 2) (tC .non))) tNever tNext)
    (tRet (tMake C_Ratio (spRInit K C_Ratio) [] E0 (tCons (tCall (spGap K C_Ratio) [] E0 (tCons (tVar 0) (tCons (tVar 2) tNil))) (tCons (tOp oMulW (tFld K (tVar 0) "reduced_bottom") (tFld K (tVar 2) "reduced_bottom")) tNil))))))
def t_Ratio___gt__ (K : PySem.W.Frag) (C_Ratio : Addr) : TS :=
  (tSeq (tAsg (tCall (spAsR K C_Ratio) [] E0 (tCons (tVar 1) tNil)) (gName 2))
    (tSeq (tIfS (tTest (tOp oIsN (tVar 2) (tC .non))) tNever tNext)
    (tRet (tOp oGt (tCall (spGap K C_Ratio) [] E0 (tCons (tVar 0) (tCons (tVar 2) tNil))) (tC (.int 0))))))
def t_checked_number (K : PySem.W.Frag) (C_Ratio : Addr) : TS :=
  (tSeq (tAsg (tCall (spAsR K C_Ratio) [] E0 (tCons (tVar 0) tNil)) (gName 1))
    (tSeq (tIfS (tTest (tOp oIsN (tVar 1) (tC .non))) tNever tNext)
    (tRet (tVar 1))))
def t_is_column (K : PySem.W.Frag) (C_Profile : Addr) : TS :=
  (tRet (tCall (spWithin K) [] E0 (tCons (tVar 1) (tCons (tC (.int 0)) (tCons (tOp oSub (tCB (cLenO C_Profile (spPLen K C_Profile) E0) (tCons (tVar 0) tNil)) (tC (.int 1))) tNil)))))
def t_check_column (K : PySem.W.Frag) (C_Profile : Addr) : TS :=
  (tIfS (tNot (tB (tCall (spIsCol K C_Profile) [] E0 (tCons (tVar 0) (tCons (tVar 1) tNil))))) tNever tNext)
def t_check_run (K : PySem.W.Frag) (C_Profile : Addr) : TS :=
  (tSeq (tDrop (tCall (spChkCol K C_Profile) [] E0 (tCons (tVar 0) (tCons (tVar 1) tNil))))
    (tIfS (tNot (tB (tCall (spWithin K) [] E0 (tCons (tVar 2) (tCons (tVar 1) (tCons (tOp oSub (tCB (cLenO C_Profile (spPLen K C_Profile) E0) (tCons (tVar 0) tNil)) (tC (.int 1))) tNil)))))) tNever tNext))
def t_volume_below (K : PySem.W.Frag) (C_Profile : Addr) (C_Ratio : Addr) : TS :=
  (tSeq (tAsg (tProp C_Profile (getSp C_Profile "column_heights") [] E0 (tVar 0)) (gName 4))
    (tSeq (tAsg (tProp C_Profile (getSp C_Profile "column_widths") [] E0 (tVar 0)) (gName 5))
    (tSeq (tAsg (tLc (iRng2 (tCons (tVar 1) (tCons (tOp oAdd (tVar 2) (tC (.int 1))) tNil))) (gName 9) (tTest (tOp (rOwn C_Ratio (spGt K C_Ratio) E0) (tVar 3) (tOp (rIxT K) (tVar 4) (tVar 9)))) (tVar 9) [9]) (gName 6))
    (tSeq (tAsg (tCB (rSum K) (tCons (tLc (iList K (tVar 6)) (gName 9) tYes (tOp (rIxT K) (tVar 5) (tVar 9)) [9]) tNil)) (gName 7))
    (tSeq (tAsg (tCB (rSum K) (tCons (tLc (iList K (tVar 6)) (gName 9) tYes (tOp oMulW (tOp (rIxT K) (tVar 5) (tVar 9)) (tOp (rIxT K) (tVar 4) (tVar 9))) [9]) tNil)) (gName 8))
    (tRet (tOp (rOwnI C_Ratio (spSub K C_Ratio) E0) (tOp (rOwnI C_Ratio (spMul K C_Ratio) E0) (tVar 3) (tVar 7)) (tVar 8))))))))
def t_volume_up_to (K : PySem.W.Frag) (C_Profile : Addr) (C_Ratio : Addr) : TS :=
  (tSeq (tDrop (tCall (spChkRun K C_Profile) [] E0 (tCons (tVar 0) (tCons (tVar 1) (tCons (tVar 2) tNil)))))
    (tRet (tCall (spVolB K C_Profile C_Ratio) [] E0 (tCons (tVar 0) (tCons (tVar 1) (tCons (tVar 2) (tCons (tCall (spChkN K C_Ratio) [] E0 (tCons (tVar 3) tNil)) tNil)))))))
local macro_rules | `(tactic| walk_at "rv st") => `(tactic| first
  | with_reducible refine iteT ?_ | with_reducible refine iteF ?_ | with_reducible refine w_nx ?_ | with_reducible refine w_yes ?_ | with_reducible refine w_rt ?_ | with_reducible refine iteNT ?_ | with_reducible refine iteNF ?_ | with_reducible refine iteNRf ?_ | with_reducible refine iteRf ?_ | with_reducible refine w_seqA ?_ | with_reducible refine w_seqD ?_ | with_reducible refine w_seqP ?_ | with_reducible refine w_asg ?_ | with_reducible refine w_ret ?_ | with_reducible refine w_drop ?_ | with_reducible refine w_ifs ?_ | with_reducible refine w_next ?_ | with_reducible refine w_par ?_
  | with_reducible refine w_op ?_ | with_reducible refine w_un ?_ | ((with_reducible show tVar _ _ _ _); refine' w_var ?hv ?_; (case hv => exact rfl)) | with_reducible refine w_c ?_ | with_reducible refine w_test ?_ | with_reducible refine w_tB ?_
  | with_reducible refine w_bl ?_ | with_reducible refine w_I0 ?_ | with_reducible refine w_U ?_ | with_reducible refine w_eqI ?_ | with_reducible refine w_neI ?_
  | with_reducible refine w_cons ?_ | with_reducible refine w_nil ?_ | with_reducible refine w_gn ?_ | with_reducible refine w_gsub ?_ | with_reducible refine w_and ?_ | with_reducible refine w_or ?_ | with_reducible refine w_not ?_
  | with_reducible refine w_andV ?_ | with_reducible refine w_orV ?_ | with_reducible refine w_notV ?_ | with_reducible refine w_if ?_ | with_reducible refine w_cb ?_ | with_reducible refine w_call ?_ | with_reducible refine w_lst ?_ | with_reducible refine w_tup ?_
  | with_reducible refine w_sl ?_ | with_reducible refine w_noPart ?_ | with_reducible refine w_part ?_ | with_reducible refine w_ex1 ?_ | with_reducible refine w_exb ?_ | with_reducible refine w_intB ?_ | with_reducible refine w_intI ?_ | with_reducible refine w_abs ?_)
local macro_rules | `(tactic| walk_at "rv ix") => `(tactic| ((with_reducible show rIxL _ _ _ _ _); refine' w_ixL (sq_lst ?ha) ?hb ?_; (case ha => first | exact upd_same | assumption); (case hb => first | exact rfl | assumption)))
local macro_rules | `(tactic| walk_at "rv ar") => `(tactic| first
  | (refine' w_I ?hc ?_; (case hc => first | (show (0 : Int) < _; first | assumption | decide | omega) | exact pow_c (by decide) (by decide) (by first | decide | omega) (by first | decide | omega) | exact mul_r (by first | decide | omega) (by first | decide | omega) | exact mul_l (by first | decide | omega) (by first | decide | omega) | exact divw (by first | assumption | decide | omega) (by first | assumption | decide | omega))))
local macro_rules | `(tactic| walk_at "rv go") => `(tactic| repeat first | walk_at "rv st" | walk_at "rv ix" | ((with_reducible show rI _ _ _ _ _ _); walk_at "rv ar"))
theorem whole_call {K : PySem.W.Frag} {H : Hp} {Q : VK} {E : XK} {i : Int} (q : Q (.bl true) H) : spWhole K ([.int i] ++ []) H Q E := ⟨.int i, rfl, .int i, q⟩
theorem mulw {j k : Nat} {x y : Int} (h : Sz j x) (g : Sz k y) (h0 : 0 < j) (h1 : 0 < k) (h2 : j + k ≤ 1000000) : CMulW x y := wide_mul h g h0 h1 h2
theorem p_plen {K : PySem.W.Frag} {C : Addr} {vs : List V} {H : Hp} {Q : VK} {E : XK} (h : spPLen K C vs H Q E) : t_Profile___len__ K C { nx := fun _ H' => Q .non H', rt := Q } (start ["self"] vs) H := by
  obtain ⟨p, hs, ws, rfl, P, ⟨dx, t1, t2, hp, h1, h2⟩, k⟩ := h
  unfold t_Profile___len__
  walk_at "rv go"
  refine w_fld rfl hp P.cl P.nH (pfl_h _ _) ?_
  walk_at "rv go"
  refine w_lenT (sq_tup h1) ?_
  rw [List.length_map]
  exact k
theorem p_gcd {K : PySem.W.Frag} {vs : List V} {H : Hp} {Q : VK} {E : XK} (h : spGcd K vs H Q E) : t_common_divisor K { nx := fun _ H' => Q .non H', rt := Q } (start ["first", "second"] vs) H := by
  obtain ⟨a, b, rfl, ha, hb, k⟩ := h
  unfold t_common_divisor
  refine w_seq ?_
  refine w_while (fun m σ' H' => ∃ x y : Int, σ' = [some (.int x), some (.int y)] ∧ 0 ≤ x ∧ 0 ≤ y ∧ m = y.toNat ∧ Int.gcd x y = Int.gcd a b ∧ H' = H) (m := b.toNat) ⟨a, b, rfl, ha, hb, rfl, rfl, rfl⟩ ?_
  rintro m σ' H' ⟨x, y, rfl, hx, hy, rfl, e, rfl⟩
  walk_at "rv go"
  refine w_bothN (fun h1 => ?_) (fun h1 => ?_)
  · refine w_turn ?_
    have y0 : 0 < y := by omega
    have z1 := Int.emod_lt_of_pos x y0
    have z2 := Int.emod_nonneg x (show y ≠ 0 by omega)
    walk_at "rv go"
    refine ⟨_, _, rfl, ?_⟩
    exact ⟨(x % y).toNat, by omega, y, x % y, rfl, hy, z2, rfl, by rw [gcd_step y0 hx]; exact e, rfl⟩
  · subst h1
    walk_at "rv go"
    rw [← e, Int.gcd_zero_right] at k
    have e2 : ((x.natAbs : Nat) : Int) = x := by omega
    rw [e2] at k
    exact k
theorem p_gap {K : PySem.W.Frag} {C : Addr} {vs : List V} {H : Hp} {Q : VK} {E : XK} (h : spGap K C vs H Q E) : t_gap K C { nx := fun _ H' => Q .non H', rt := Q } (start ["left", "right"] vs) H := by
  obtain ⟨a, c, t, b, n, d, rfl, R, ⟨l1, dx, h1⟩, ⟨l2, dy, h2⟩, s1, s2, s3, s4, k⟩ := h
  unfold t_gap
  walk_at "rv go"
  refine w_fld rfl h1 R.cl R.nT (rfl2_t _ _) ?_
  refine w_fld rfl h2 R.cl R.nB (rfl2_b _ _) ?_
  refine w_I (mulw s1 s4 (by decide) (by decide) (by decide)) ?_
  walk_at "rv go"
  refine w_fld rfl h2 R.cl R.nT (rfl2_t _ _) ?_
  refine w_fld rfl h1 R.cl R.nB (rfl2_b _ _) ?_
  refine w_I (mulw s3 s2 (by decide) (by decide) (by decide)) ?_
  walk_at "rv go"
  exact k
theorem p_rinit {K : PySem.W.Frag} {C : Addr} {vs : List V} {H : Hp} {Q : VK} {E : XK} (h : spRInit K C vs H Q E) : t_Ratio___init__ K C { nx := fun _ H' => Q .non H', rt := Q } (start ["self", "numerator", "denominator", "divisor"] vs) H := by
  obtain ⟨p, dx, n, d, rfl, R, hp, hd, sd, k⟩ := h
  unfold t_Ratio___init__
  refine w_seq ?_
  walk_at "rv go"
  refine whole_call ?_
  walk_at "rv go"
  refine w_seq ?_
  walk_at "rv go"
  refine whole_call ?_
  walk_at "rv go"
  rw [decide_eq_false (show ¬ d = 0 by omega)]
  walk_at "rv go"
  refine ⟨_, _, rfl, by split <;> omega, by split <;> omega, ?_⟩
  have eg : Int.gcd (if n < 0 then -n else n) (if d < 0 then -d else d) = Int.gcd n d := by
    have e1 : (if n < 0 then -n else n).natAbs = n.natAbs := by split <;> omega
    have e2 : (if d < 0 then -d else d).natAbs = d.natAbs := by split <;> omega
    show Nat.gcd _ _ = Nat.gcd _ _
    rw [e1, e2]
  rw [eg]
  have red := red_gcd (n := n) hd
  have g0 : 0 < Int.gcd n d := Int.gcd_pos_iff.mpr (.inr (by omega))
  have gd : Int.gcd n d ≤ d.natAbs := by
    have := Int.gcd_dvd_right (a := n) (b := d)
    have z := Int.le_of_dvd hd this
    omega
  have sg : Sz 8000 (Int.gcd n d : Int) := by
    unfold Sz at *
    rw [Int.natAbs_natCast]
    omega
  have cd : ∀ z : Int, CDivW z (Int.gcd n d : Int) := fun z => wide_div (b := 8000) (by omega) sg (by decide) (by decide)
  generalize (Int.gcd n d : Int) = g at *
  walk_at "rv go"
  refine w_seq ?_
  walk_at "rv go"
  rw [decide_eq_false (show ¬ d < 0 by omega)]
  walk_at "rv go"
  refine w_seq ?_
  refine w_sfld ?_
  walk_at "rv go"
  refine w_I (cd _) ?_
  walk_at "rv go"
  refine w_put hp R.cl R.nT (by decide) ?_
  refine w_nx ?_
  refine w_sfld ?_
  walk_at "rv go"
  refine w_I (cd _) ?_
  walk_at "rv go"
  refine w_put (fs := putF "reduced_top" (.int (n / g)) []) upd_same R.cl R.nB (by show (1 : Nat) < 1000; decide) ?_
  refine k _ _ _ red ⟨⟨red.pos, red.low⟩, dx, upd_same⟩ fun c o nc hc => ?_
  rw [upd_ne nc, upd_ne nc]
  exact hc
theorem mk_rat {K : PySem.W.Frag} {C : Addr} {H : Hp} {Q : Addr → Hp → Prop} {E : XK} {n d : Int} {us dvs : List V} (hu : us ++ dvs = [.int n, .int d]) (R : RCls K C) (hd : 0 < d) (sd : Sz 8000 d) (k : ∀ x H' t b, Same H H' → Red n d t b → RatAt C H' x t b → Q x H') :
    ∀ x dx, H x = none → H dx = none → dx ≠ x → spRInit K C (.ref x :: (us ++ dvs)) (upd (upd H dx (.own x)) x (.ins C dx [])) (fun v H2 => v = .non ∧ Q x H2) E := by
  intro x dx nx ndx hne
  rw [hu]
  have s0 : Same H (upd (upd H dx (.own x)) x (.ins C dx [])) := fun b o hb => by
    rw [upd_ne (ne_of_none hb nx), upd_ne (ne_of_none hb ndx)]
    exact hb
  exact ⟨x, dx, n, d, rfl, R, upd_same, hd, sd, fun H' t b r hr hf => ⟨rfl, k x H' t b (fun b o hb => hf b o (ne_of_none hb nx) (s0 b o hb)) r hr⟩⟩
theorem sz_one {k : Nat} (h : 1 ≤ k) : Sz k 1 := Nat.lt_of_lt_of_le (show Int.natAbs 1 < 2 ^ 1 by decide) (Nat.pow_le_pow_right (by decide) h)
theorem p_asR {K : PySem.W.Frag} {C : Addr} {vs : List V} {H : Hp} {Q : VK} {E : XK} (h : spAsR K C vs H Q E) : t_as_ratio K C { nx := fun _ H' => Q .non H', rt := Q } (start ["value"] vs) H := by
  obtain ⟨v, n, d, rfl, R, hv, k⟩ := h
  unfold t_as_ratio
  refine w_seq ?_
  rcases hv with ⟨rfl, rfl⟩ | ⟨p, rfl, hl, dx, hp⟩
  · walk_at "rv go"
    refine isi_of (.own C) (.base (.int n)) R.ki ?_
    walk_at "rv go"
    refine w_seq ?_
    walk_at "rv go"
    refine whole_call ?_
    walk_at "rv go"
    refine w_make ?_
    walk_at "rv go"
    refine mk_rat (Q := fun x H' => Q (.ref x) H') rfl R (by decide) (sz_one (by decide)) fun x H' t b e r hr => ?_
    obtain ⟨rfl, rfl⟩ := r.one
    exact k x H' e hr
  · walk_at "rv go"
    refine isi_of (.own C) (.base (.ins hp R.cl R.cA R.cG R.cT R.cM)) kit_self ?_
    walk_at "rv go"
    exact k p H (Same.refl H) ⟨hl, dx, hp⟩
theorem p_chkN {K : PySem.W.Frag} {C : Addr} {vs : List V} {H : Hp} {Q : VK} {E : XK} (h : spChkN K C vs H Q E) : t_checked_number K C { nx := fun _ H' => Q .non H', rt := Q } (start ["value", "found"] vs) H := by
  obtain ⟨v, n, d, rfl, R, hv, k⟩ := h
  unfold t_checked_number
  walk_at "rv go"
  refine ⟨v, n, d, rfl, R, hv, fun q H' e hq => ?_⟩
  walk_at "rv go"
  refine w_seq ?_
  walk_at "rv go"
  refine ⟨rfl, ?_⟩
  rw [decide_eq_false (show ¬ V.ref q = V.non from fun z => nomatch z)]
  walk_at "rv go"
  exact k q H' e hq
theorem p_mul {K : PySem.W.Frag} {C : Addr} {vs : List V} {H : Hp} {Q : VK} {E : XK} (h : spMul K C vs H Q E) : t_Ratio___mul__ K C { nx := fun _ H' => Q .non H', rt := Q } (start ["self", "other", "right"] vs) H := by
  obtain ⟨a, v, t, b, n, d, rfl, R, ha, hv, s1, s2, s3, s4, k⟩ := h
  unfold t_Ratio___mul__
  walk_at "rv go"
  refine ⟨v, n, d, rfl, R, hv, fun q H1 e hq => ?_⟩
  have hd := hv.pos
  obtain ⟨l1, dx, ha⟩ := ha.same e
  obtain ⟨l2, dy, hq⟩ := hq
  walk_at "rv go"
  refine w_seq ?_
  walk_at "rv go"
  refine ⟨rfl, ?_⟩
  rw [decide_eq_false (show ¬ V.ref q = V.non from fun z => nomatch z)]
  walk_at "rv go"
  refine w_make ?_
  walk_at "rv go"
  refine w_fld rfl ha R.cl R.nT (rfl2_t _ _) ?_
  refine w_fld rfl hq R.cl R.nT (rfl2_t _ _) ?_
  refine w_I (mulw s1 s3 (by decide) (by decide) (by decide)) ?_
  walk_at "rv go"
  refine w_fld rfl ha R.cl R.nB (rfl2_b _ _) ?_
  refine w_fld rfl hq R.cl R.nB (rfl2_b _ _) ?_
  refine w_I (mulw s2 s4 (by decide) (by decide) (by decide)) ?_
  walk_at "rv go"
  exact mk_rat (Q := fun x H' => Q (.ref x) H') rfl R (Int.mul_pos l1.1 hd) ((s2.mul s4).mono (by decide)) fun x H' y z e2 r hr => k x H' y z (e.trans e2) hr r
theorem p_sub {K : PySem.W.Frag} {C : Addr} {vs : List V} {H : Hp} {Q : VK} {E : XK} (h : spSub K C vs H Q E) : t_Ratio___sub__ K C { nx := fun _ H' => Q .non H', rt := Q } (start ["self", "other", "right"] vs) H := by
  obtain ⟨a, v, t, b, n, d, rfl, R, ha, hv, s1, s2, s3, s4, k⟩ := h
  unfold t_Ratio___sub__
  walk_at "rv go"
  refine ⟨v, n, d, rfl, R, hv, fun q H1 e hq => ?_⟩
  have hd := hv.pos
  have ha2 := ha.same e
  obtain ⟨l1, dx, ha⟩ := ha.same e
  have hq2 := hq
  obtain ⟨l2, dy, hq⟩ := hq
  walk_at "rv go"
  refine w_seq ?_
  walk_at "rv go"
  refine ⟨rfl, ?_⟩
  rw [decide_eq_false (show ¬ V.ref q = V.non from fun z => nomatch z)]
  walk_at "rv go"
  refine w_make ?_
  walk_at "rv go"
  refine ⟨a, q, t, b, n, d, rfl, R, ha2, hq2, s1.mono (by decide), s2.mono (by decide), s3.mono (by decide), s4.mono (by decide), ?_⟩
  walk_at "rv go"
  refine w_fld rfl ha R.cl R.nB (rfl2_b _ _) ?_
  refine w_fld rfl hq R.cl R.nB (rfl2_b _ _) ?_
  refine w_I (mulw s2 s4 (by decide) (by decide) (by decide)) ?_
  walk_at "rv go"
  exact mk_rat (Q := fun x H' => Q (.ref x) H') rfl R (Int.mul_pos l1.1 hd) ((s2.mul s4).mono (by decide)) fun x H' y z e2 r hr => k x H' y z (e.trans e2) hr r
theorem p_gt {K : PySem.W.Frag} {C : Addr} {vs : List V} {H : Hp} {Q : VK} {E : XK} (h : spGt K C vs H Q E) : t_Ratio___gt__ K C { nx := fun _ H' => Q .non H', rt := Q } (start ["self", "other", "right"] vs) H := by
  obtain ⟨a, v, t, b, n, d, rfl, R, ha, hv, s1, s2, s3, s4, k⟩ := h
  unfold t_Ratio___gt__
  walk_at "rv go"
  refine ⟨v, n, d, rfl, R, hv, fun q H1 e hq => ?_⟩
  walk_at "rv go"
  refine w_seq ?_
  walk_at "rv go"
  refine ⟨rfl, ?_⟩
  rw [decide_eq_false (show ¬ V.ref q = V.non from fun z => nomatch z)]
  walk_at "rv go"
  refine ⟨a, q, t, b, n, d, rfl, R, ha.same e, hq, s1.mono (by decide), s2.mono (by decide), s3.mono (by decide), s4.mono (by decide), ?_⟩
  walk_at "rv go"
  exact k H1 e
theorem p_isCol {K : PySem.W.Frag} {C : Addr} {vs : List V} {H : Hp} {Q : VK} {E : XK} (h : spIsCol K C vs H Q E) : t_is_column K C { nx := fun _ H' => Q .non H', rt := Q } (start ["profile", "value"] vs) H := by
  obtain ⟨p, hs, ws, c, rfl, P, hp, h60, k⟩ := h
  unfold t_is_column
  walk_at "rv go"
  obtain ⟨dx, t1, t2, h0, h1, h2⟩ := id hp
  refine w_lenO h0 ?_
  refine ⟨p, hs, ws, rfl, P, hp, _, rfl, by omega, ?_⟩
  walk_at "rv go"
  exact ⟨.int c, _, _, rfl, .int c, k⟩
theorem p_chkCol {K : PySem.W.Frag} {C : Addr} {vs : List V} {H : Hp} {Q : VK} {E : XK} (h : spChkCol K C vs H Q E) : t_check_column K C { nx := fun _ H' => Q .non H', rt := Q } (start ["profile", "value"] vs) H := by
  obtain ⟨p, hs, ws, c, rfl, P, hp, h60, hc, k⟩ := h
  unfold t_check_column
  walk_at "rv go"
  refine ⟨p, hs, ws, _, rfl, P, hp, h60, ?_⟩
  rw [decide_eq_true (show (0 : Int) ≤ (c : Int) by omega), decide_eq_true (show (c : Int) ≤ (hs.length : Int) - 1 by omega), Bool.true_and]
  walk_at "rv go"
  exact k
theorem p_chkRun {K : PySem.W.Frag} {C : Addr} {vs : List V} {H : Hp} {Q : VK} {E : XK} (h : spChkRun K C vs H Q E) : t_check_run K C { nx := fun _ H' => Q .non H', rt := Q } (start ["profile", "first", "last"] vs) H := by
  obtain ⟨p, hs, ws, f, l, rfl, P, hp, h60, hfl, hl, k⟩ := h
  unfold t_check_run
  walk_at "rv go"
  refine ⟨p, hs, ws, f, rfl, P, hp, h60, by omega, ?_⟩
  walk_at "rv go"
  obtain ⟨dx, t1, t2, h0, h1, h2⟩ := id hp
  refine w_lenO h0 ?_
  refine ⟨p, hs, ws, rfl, P, hp, _, rfl, by omega, ?_⟩
  walk_at "rv go"
  refine ⟨.int (l : Int), _, _, rfl, .int _, ?_⟩
  have e : inI (f : Int) ((hs.length : Int) - 1) (.int (l : Int)) = true := by
    show (decide _ && decide _) = true
    rw [decide_eq_true (show (f : Int) ≤ (l : Int) by omega), decide_eq_true (show (l : Int) ≤ (hs.length : Int) - 1 by omega)]
    rfl
  rw [e]
  walk_at "rv go"
  exact k
end Rv
/-! The head's tests of the classes Profile and Ratio. -/
namespace Rv
open PySem PySem.Spec PyProof.Rows L2
theorem pcls_of {K : PySem.W.Frag} (k : Cls K (He.ga K "Profile")) (nH : NoAttr K (He.ga K "Profile") "column_heights") (nW : NoAttr K (He.ga K "Profile") "column_widths") (h : clB K "Profile" = true) : PCls K (He.ga K "Profile") := by
  obtain ⟨h1, h⟩ := He.ba h
  obtain ⟨h2, h⟩ := He.ba h
  obtain ⟨h3, h4⟩ := He.ba h
  exact ⟨k, nH, nW, He.eqO_ok h1, He.eqO_ok h2, of_decide_eq_true h3, of_decide_eq_true h4⟩
def kiB (K : PySem.W.Frag) (x : Str) : Bool := decide (PySem.W.kitOne K (.type "int") (.ref (He.ga K x)) = some false)
theorem rcls_of {K : PySem.W.Frag} (k : Cls K (He.ga K "Ratio")) (nT : NoAttr K (He.ga K "Ratio") "reduced_top") (nB : NoAttr K (He.ga K "Ratio") "reduced_bottom") (h : clB K "Ratio" = true) (h5 : kiB K "Ratio" = true) : RCls K (He.ga K "Ratio") := by
  obtain ⟨h1, h⟩ := He.ba h
  obtain ⟨h2, h⟩ := He.ba h
  obtain ⟨h3, h4⟩ := He.ba h
  exact ⟨k, nT, nB, He.eqO_ok h1, He.eqO_ok h2, of_decide_eq_true h3, of_decide_eq_true h4, of_decide_eq_true h5⟩
def opcB (K : PySem.W.Frag) (x : Str) : Bool := PySem.W.notFirst K (He.ga K x) (.type "int") && (PySem.W.selfFirst K (He.ga K x) && decide (PySem.W.subIn K (.type "int") (.ref (He.ga K x)) = some false))
theorem opc_of {K : PySem.W.Frag} {x : Str} (h : opcB K x = true) : OpC K (He.ga K x) := by
  obtain ⟨h1, h⟩ := He.ba h
  obtain ⟨h2, h3⟩ := He.ba h
  exact ⟨h1, h2, of_decide_eq_true h3⟩
def refO : Option (Option Value) → Bool
  | some none => true
  | some (some (.ref _)) => true
  | _ => false
def opnB (K : PySem.W.Frag) (x : Str) (nm : String) : Bool := refO (PySem.W.findIn K (.ref (He.ga K x)) (PySem.dunderR nm)) && ((PySem.W.findIn K (.type "int") (PySem.dunder nm)).isSome && (PySem.W.findIn K (.type "int") (PySem.dunderR nm)).isSome)
theorem opn_of {K : PySem.W.Frag} {x : Str} {nm : String} (h : opnB K x nm = true) : OpN K (He.ga K x) nm := by
  obtain ⟨h1, h⟩ := He.ba h
  obtain ⟨h2, h3⟩ := He.ba h
  refine ⟨?_, Option.isSome_iff_exists.mp h2, Option.isSome_iff_exists.mp h3⟩
  cases q : PySem.W.findIn K (.ref (He.ga K x)) (PySem.dunderR nm) with
  | none =>
    rw [q] at h1
    cases h1
  | some o =>
    rw [q] at h1
    refine ⟨o, rfl, ?_⟩
    cases o with
    | none => exact .inl rfl
    | some v =>
      cases v with
      | ref g => exact .inr ⟨g, rfl⟩
      | _ => cases h1
end Rv
namespace Rv
open PySem PySem.Spec PyProof.Rows L2
def top (i : Nat) : Stmt := PySem.Challenge.pw_rainvalleys_k26_volumes_by_name.main.body.getD i (.Pass ⟨0, 0, 0, 0⟩)
abbrev s__law_draws : Stmt := top 48
abbrev s__law_draw : Stmt := top 49
abbrev s_is_whole : Stmt := top 10
abbrev s_is_whole_within : Stmt := top 11
abbrev s_first_outside : Stmt := top 12
abbrev s_is_row : Stmt := top 16
abbrev s_check_heights : Stmt := top 17
abbrev s_check_widths : Stmt := top 18
abbrev s_Profile___init__ : Stmt := inClass (top 19) 0
abbrev s_Profile___len__ : Stmt := inClass (top 19) 8
abbrev s_common_divisor : Stmt := top 21
abbrev s_gap : Stmt := top 23
abbrev s_Ratio___init__ : Stmt := inClass (top 24) 0
abbrev s_as_ratio : Stmt := top 22
abbrev s_Ratio___add__ : Stmt := inClass (top 24) 6
abbrev s_Ratio___sub__ : Stmt := inClass (top 24) 8
abbrev s_Ratio___mul__ : Stmt := inClass (top 24) 10
abbrev s_Ratio___gt__ : Stmt := inClass (top 24) 19
abbrev s_Ratio___le__ : Stmt := inClass (top 24) 18
abbrev s_Ratio___ge__ : Stmt := inClass (top 24) 20
abbrev s_Ratio_over : Stmt := inClass (top 24) 4
abbrev s_checked_number : Stmt := top 26
abbrev s_is_amount : Stmt := top 27
abbrev s_checked_amount : Stmt := top 28
abbrev s_is_column : Stmt := top 29
abbrev s_check_column : Stmt := top 30
abbrev s_check_run : Stmt := top 32
abbrev s_volume_below : Stmt := top 33
abbrev s_volume_up_to : Stmt := top 35
abbrev s_level_above : Stmt := top 34
abbrev s_level_for : Stmt := top 36
abbrev s_stretches : Stmt := top 38
abbrev s_is_peak : Stmt := top 39
abbrev s_peaks : Stmt := top 40
abbrev s_peak_heights : Stmt := top 41
abbrev s_valleys : Stmt := top 42
abbrev s_rims : Stmt := top 43
abbrev s_bounds : Stmt := top 44
abbrev s_lakes_from : Stmt := top 45
abbrev s_lakes : Stmt := top 46
abbrev s__law_tall : Stmt := top 50
abbrev s__law_below : Stmt := top 51
abbrev s_law : Stmt := top 52
def D__law_draws : He.DefD := ⟨("_law_draws", none), "_law_draws", "_law_draws", defArgs s__law_draws, defBody s__law_draws, defScope s__law_draws, [], []⟩
def D__law_draw : He.DefD := ⟨("_law_draw", none), "_law_draw", "_law_draw", defArgs s__law_draw, defBody s__law_draw, defScope s__law_draw, [], []⟩
def D_is_whole : He.DefD := ⟨("is_whole", none), "is_whole", "is_whole", defArgs s_is_whole, defBody s_is_whole, defScope s_is_whole, [], []⟩
def D_is_whole_within : He.DefD := ⟨("is_whole_within", none), "is_whole_within", "is_whole_within", defArgs s_is_whole_within, defBody s_is_whole_within, defScope s_is_whole_within, [], []⟩
def D_first_outside : He.DefD := ⟨("first_outside", none), "first_outside", "first_outside", defArgs s_first_outside, defBody s_first_outside, defScope s_first_outside, [], []⟩
def D_is_row : He.DefD := ⟨("is_row", none), "is_row", "is_row", defArgs s_is_row, defBody s_is_row, defScope s_is_row, [], []⟩
def D_check_heights : He.DefD := ⟨("check_heights", none), "check_heights", "check_heights", defArgs s_check_heights, defBody s_check_heights, defScope s_check_heights, [], []⟩
def D_check_widths : He.DefD := ⟨("check_widths", none), "check_widths", "check_widths", defArgs s_check_widths, defBody s_check_widths, defScope s_check_widths, [], []⟩
def D_Profile___init__ : He.DefD := ⟨("Profile", some "__init__"), "__init__", "Profile.__init__", defArgs s_Profile___init__, defBody s_Profile___init__, defScope s_Profile___init__, [.non], []⟩
def D_Profile___len__ : He.DefD := ⟨("Profile", some "__len__"), "__len__", "Profile.__len__", defArgs s_Profile___len__, defBody s_Profile___len__, defScope s_Profile___len__, [], []⟩
def D_common_divisor : He.DefD := ⟨("common_divisor", none), "common_divisor", "common_divisor", defArgs s_common_divisor, defBody s_common_divisor, defScope s_common_divisor, [], []⟩
def D_gap : He.DefD := ⟨("gap", none), "gap", "gap", defArgs s_gap, defBody s_gap, defScope s_gap, [], []⟩
def D_Ratio___init__ : He.DefD := ⟨("Ratio", some "__init__"), "__init__", "Ratio.__init__", defArgs s_Ratio___init__, defBody s_Ratio___init__, defScope s_Ratio___init__, [.int 1], []⟩
def D_as_ratio : He.DefD := ⟨("as_ratio", none), "as_ratio", "as_ratio", defArgs s_as_ratio, defBody s_as_ratio, defScope s_as_ratio, [], []⟩
def D_Ratio___add__ : He.DefD := ⟨("Ratio", some "__add__"), "__add__", "Ratio.__add__", defArgs s_Ratio___add__, defBody s_Ratio___add__, defScope s_Ratio___add__, [], []⟩
def D_Ratio___sub__ : He.DefD := ⟨("Ratio", some "__sub__"), "__sub__", "Ratio.__sub__", defArgs s_Ratio___sub__, defBody s_Ratio___sub__, defScope s_Ratio___sub__, [], []⟩
def D_Ratio___mul__ : He.DefD := ⟨("Ratio", some "__mul__"), "__mul__", "Ratio.__mul__", defArgs s_Ratio___mul__, defBody s_Ratio___mul__, defScope s_Ratio___mul__, [], []⟩
def D_Ratio___gt__ : He.DefD := ⟨("Ratio", some "__gt__"), "__gt__", "Ratio.__gt__", defArgs s_Ratio___gt__, defBody s_Ratio___gt__, defScope s_Ratio___gt__, [], []⟩
def D_Ratio___le__ : He.DefD := ⟨("Ratio", some "__le__"), "__le__", "Ratio.__le__", defArgs s_Ratio___le__, defBody s_Ratio___le__, defScope s_Ratio___le__, [], []⟩
def D_Ratio___ge__ : He.DefD := ⟨("Ratio", some "__ge__"), "__ge__", "Ratio.__ge__", defArgs s_Ratio___ge__, defBody s_Ratio___ge__, defScope s_Ratio___ge__, [], []⟩
def D_Ratio_over : He.DefD := ⟨("Ratio", some "over"), "over", "Ratio.over", defArgs s_Ratio_over, defBody s_Ratio_over, defScope s_Ratio_over, [], []⟩
def D_checked_number : He.DefD := ⟨("checked_number", none), "checked_number", "checked_number", defArgs s_checked_number, defBody s_checked_number, defScope s_checked_number, [], []⟩
def D_is_amount : He.DefD := ⟨("is_amount", none), "is_amount", "is_amount", defArgs s_is_amount, defBody s_is_amount, defScope s_is_amount, [], []⟩
def D_checked_amount : He.DefD := ⟨("checked_amount", none), "checked_amount", "checked_amount", defArgs s_checked_amount, defBody s_checked_amount, defScope s_checked_amount, [], []⟩
def D_is_column : He.DefD := ⟨("is_column", none), "is_column", "is_column", defArgs s_is_column, defBody s_is_column, defScope s_is_column, [], []⟩
def D_check_column : He.DefD := ⟨("check_column", none), "check_column", "check_column", defArgs s_check_column, defBody s_check_column, defScope s_check_column, [], []⟩
def D_check_run : He.DefD := ⟨("check_run", none), "check_run", "check_run", defArgs s_check_run, defBody s_check_run, defScope s_check_run, [], []⟩
def D_volume_below : He.DefD := ⟨("volume_below", none), "volume_below", "volume_below", defArgs s_volume_below, defBody s_volume_below, defScope s_volume_below, [], []⟩
def D_volume_up_to : He.DefD := ⟨("volume_up_to", none), "volume_up_to", "volume_up_to", defArgs s_volume_up_to, defBody s_volume_up_to, defScope s_volume_up_to, [], []⟩
def D_level_above : He.DefD := ⟨("level_above", none), "level_above", "level_above", defArgs s_level_above, defBody s_level_above, defScope s_level_above, [], []⟩
def D_level_for : He.DefD := ⟨("level_for", none), "level_for", "level_for", defArgs s_level_for, defBody s_level_for, defScope s_level_for, [], []⟩
def D_stretches : He.DefD := ⟨("stretches", none), "stretches", "stretches", defArgs s_stretches, defBody s_stretches, defScope s_stretches, [], []⟩
def D_is_peak : He.DefD := ⟨("is_peak", none), "is_peak", "is_peak", defArgs s_is_peak, defBody s_is_peak, defScope s_is_peak, [], []⟩
def D_peaks : He.DefD := ⟨("peaks", none), "peaks", "peaks", defArgs s_peaks, defBody s_peaks, defScope s_peaks, [], []⟩
def D_peak_heights : He.DefD := ⟨("peak_heights", none), "peak_heights", "peak_heights", defArgs s_peak_heights, defBody s_peak_heights, defScope s_peak_heights, [], []⟩
def D_valleys : He.DefD := ⟨("valleys", none), "valleys", "valleys", defArgs s_valleys, defBody s_valleys, defScope s_valleys, [], []⟩
def D_rims : He.DefD := ⟨("rims", none), "rims", "rims", defArgs s_rims, defBody s_rims, defScope s_rims, [], []⟩
def D_bounds : He.DefD := ⟨("bounds", none), "bounds", "bounds", defArgs s_bounds, defBody s_bounds, defScope s_bounds, [], []⟩
def D_lakes_from : He.DefD := ⟨("lakes_from", none), "lakes_from", "lakes_from", defArgs s_lakes_from, defBody s_lakes_from, defScope s_lakes_from, [], []⟩
def D_lakes : He.DefD := ⟨("lakes", none), "lakes", "lakes", defArgs s_lakes, defBody s_lakes, defScope s_lakes, [], []⟩
def D__law_tall : He.DefD := ⟨("_law_tall", none), "_law_tall", "_law_tall", defArgs s__law_tall, defBody s__law_tall, defScope s__law_tall, [], []⟩
def D__law_below : He.DefD := ⟨("_law_below", none), "_law_below", "_law_below", defArgs s__law_below, defBody s__law_below, defScope s__law_below, [], []⟩
def D_law : He.DefD := ⟨("law", none), "law", "law", defArgs s_law, defBody s_law, defScope s_law, [], []⟩
def fn : List He.DefD := [D__law_draws, D__law_draw, D_is_whole, D_is_whole_within, D_first_outside, D_is_row, D_check_heights, D_check_widths, D_Profile___init__, D_Profile___len__, D_common_divisor, D_gap, D_Ratio___init__, D_as_ratio, D_Ratio___add__, D_Ratio___sub__, D_Ratio___mul__, D_Ratio___gt__, D_Ratio___le__, D_Ratio___ge__, D_Ratio_over, D_checked_number, D_is_amount, D_checked_amount, D_is_column, D_check_column, D_check_run, D_volume_below, D_volume_up_to, D_level_above, D_level_for, D_stretches, D_is_peak, D_peaks, D_peak_heights, D_valleys, D_rims, D_bounds, D_lakes_from, D_lakes, D__law_tall, D__law_below, D_law]
def loose : List PySem.Str := [("_wall" : PySem.Str), ("__name__" : PySem.Str), ("RainError" : PySem.Str), ("InvalidNumber" : PySem.Str), ("InvalidProfile" : PySem.Str), ("InvalidWidths" : PySem.Str), ("InvalidColumn" : PySem.Str), ("InvalidValley" : PySem.Str), ("LimitExceeded" : PySem.Str), ("is_whole" : PySem.Str), ("is_whole_within" : PySem.Str), ("first_outside" : PySem.Str), ("MOST_COLUMNS" : PySem.Str), ("GREATEST" : PySem.Str), ("is_row" : PySem.Str), ("check_heights" : PySem.Str), ("check_widths" : PySem.Str), ("Profile" : PySem.Str), ("common_divisor" : PySem.Str), ("as_ratio" : PySem.Str), ("gap" : PySem.Str), ("Ratio" : PySem.Str), ("checked_number" : PySem.Str), ("is_amount" : PySem.Str), ("checked_amount" : PySem.Str), ("is_column" : PySem.Str), ("check_column" : PySem.Str), ("check_run" : PySem.Str), ("volume_below" : PySem.Str), ("level_above" : PySem.Str), ("volume_up_to" : PySem.Str), ("level_for" : PySem.Str), ("stretches" : PySem.Str), ("is_peak" : PySem.Str), ("peaks" : PySem.Str), ("peak_heights" : PySem.Str), ("valleys" : PySem.Str), ("rims" : PySem.Str), ("bounds" : PySem.Str), ("lakes_from" : PySem.Str), ("lakes" : PySem.Str), ("_law_draws" : PySem.Str), ("_law_draw" : PySem.Str), ("_law_tall" : PySem.Str), ("_law_below" : PySem.Str)]
def fa : List He.Fa := [.free "len", .free "int", .free "isinstance", .free "bool", .free "enumerate", .free "tuple", .free "list", .int "MOST_COLUMNS" 60, .int "GREATEST" 1000000000000000000000000000000, .free "abs", .free "range", .free "sum", .free "sorted", .free "set", .free "zip", .glo "Profile", .cls "Profile", .glo "Ratio", .cls "Ratio", .noat "Profile" "column_heights", .noat "Profile" "column_widths", .mkr "Profile", .noat "Ratio" "reduced_top", .noat "Ratio" "reduced_bottom", .mkr "Ratio", .glo "_law_draws", .glo "_law_draw", .glo "is_whole", .glo "is_whole_within", .glo "first_outside", .glo "is_row", .glo "check_heights", .glo "check_widths", .meth "Profile" "__len__", .glo "common_divisor", .glo "gap", .glo "as_ratio", .meth "Ratio" "__add__", .meth "Ratio" "__sub__", .meth "Ratio" "__mul__", .meth "Ratio" "__gt__", .meth "Ratio" "__le__", .meth "Ratio" "__ge__", .meth "Ratio" "over", .glo "checked_number", .glo "is_amount", .glo "checked_amount", .glo "is_column", .glo "check_column", .glo "check_run", .glo "volume_below", .glo "volume_up_to", .glo "level_above", .glo "level_for", .glo "stretches", .glo "is_peak", .glo "peaks", .glo "peak_heights", .glo "valleys", .glo "rims", .glo "bounds", .glo "lakes_from", .glo "lakes", .glo "_law_tall", .glo "_law_below", .glo "law"]
abbrev s_get_heights : Stmt := inClass (top 19) 1
def G_heights : Gt := ⟨"Profile", "heights", "Profile.heights", defArgs s_get_heights, defBody s_get_heights, defScope s_get_heights⟩
abbrev s_get_widths : Stmt := inClass (top 19) 2
def G_widths : Gt := ⟨"Profile", "widths", "Profile.widths", defArgs s_get_widths, defBody s_get_widths, defScope s_get_widths⟩
abbrev s_get_top : Stmt := inClass (top 24) 2
def G_top : Gt := ⟨"Ratio", "top", "Ratio.top", defArgs s_get_top, defBody s_get_top, defScope s_get_top⟩
abbrev s_get_bottom : Stmt := inClass (top 24) 3
def G_bottom : Gt := ⟨"Ratio", "bottom", "Ratio.bottom", defArgs s_get_bottom, defBody s_get_bottom, defScope s_get_bottom⟩
def gts : List Gt := [G_heights, G_widths, G_top, G_bottom]
def exB (K : PySem.W.Frag) : Bool := prB K "Profile" "heights" && (prB K "Profile" "widths" && (prB K "Ratio" "top" && (prB K "Ratio" "bottom" && (clB K "Profile" && (clB K "Ratio" && (kiB K "Ratio" && (opcB K "Ratio" && (opnB K "Ratio" "add" && (opnB K "Ratio" "sub" && (opnB K "Ratio" "mul"))))))))))
abbrev RR : PySem.W.OpenRow := PySem.W.OpenLaw.row PySem.Challenge.rw_rainvalleys_k26_volumes_by_name
abbrev hk : PySem.W.Hook := hookR 6 fa fn gts exB
def ob (s : PySem.W.SharedT) : AlR := obsRG 6 fa fn gts exB (HandSHeadRun.getT s)
theorem ob_eq (s : PySem.W.SharedT) : ob s = hk.obs s.abs := obsRG_eq (HandSHeadRun.getT_eq s)
theorem run (w : World) : HandSHeadRun.RunEq RR (PySem.W.view RR.prog [52]) hk ob 12000 loose w := by
  intro os
  kernel_rfl
end Rv
namespace Rv
open PySem PySem.Spec PyProof.Rows L2
local macro_rules | `(tactic| walk_at "rv st") => `(tactic| first
  | with_reducible refine iteT ?_ | with_reducible refine iteF ?_ | with_reducible refine w_nx ?_ | with_reducible refine w_yes ?_ | with_reducible refine w_rt ?_ | with_reducible refine iteNT ?_ | with_reducible refine iteNF ?_ | with_reducible refine iteNRf ?_ | with_reducible refine iteRf ?_ | with_reducible refine w_seqA ?_ | with_reducible refine w_seqD ?_ | with_reducible refine w_seqP ?_ | with_reducible refine w_asg ?_ | with_reducible refine w_ret ?_ | with_reducible refine w_drop ?_ | with_reducible refine w_ifs ?_ | with_reducible refine w_next ?_ | with_reducible refine w_par ?_
  | with_reducible refine w_op ?_ | with_reducible refine w_un ?_ | ((with_reducible show tVar _ _ _ _); refine' w_var ?hv ?_; (case hv => exact rfl)) | with_reducible refine w_c ?_ | with_reducible refine w_test ?_ | with_reducible refine w_tB ?_
  | with_reducible refine w_bl ?_ | with_reducible refine w_I0 ?_ | with_reducible refine w_U ?_ | with_reducible refine w_eqI ?_ | with_reducible refine w_neI ?_
  | with_reducible refine w_cons ?_ | with_reducible refine w_nil ?_ | with_reducible refine w_gn ?_ | with_reducible refine w_gsub ?_ | with_reducible refine w_and ?_ | with_reducible refine w_or ?_ | with_reducible refine w_not ?_
  | with_reducible refine w_andV ?_ | with_reducible refine w_orV ?_ | with_reducible refine w_notV ?_ | with_reducible refine w_if ?_ | with_reducible refine w_cb ?_ | with_reducible refine w_call ?_ | with_reducible refine w_lst ?_ | with_reducible refine w_tup ?_
  | with_reducible refine w_sl ?_ | with_reducible refine w_noPart ?_ | with_reducible refine w_part ?_ | with_reducible refine w_ex1 ?_ | with_reducible refine w_exb ?_ | with_reducible refine w_intB ?_ | with_reducible refine w_intI ?_ | with_reducible refine w_abs ?_)
local macro_rules | `(tactic| walk_at "rv ix") => `(tactic| ((with_reducible show rIxL _ _ _ _ _); refine' w_ixL (sq_lst ?ha) ?hb ?_; (case ha => first | exact upd_same | assumption); (case hb => first | exact rfl | assumption)))
local macro_rules | `(tactic| walk_at "rv ar") => `(tactic| first
  | (refine' w_I ?hc ?_; (case hc => first | (show (0 : Int) < _; first | assumption | decide | omega) | exact pow_c (by decide) (by decide) (by first | decide | omega) (by first | decide | omega) | exact mul_r (by first | decide | omega) (by first | decide | omega) | exact mul_l (by first | decide | omega) (by first | decide | omega) | exact divw (by first | assumption | decide | omega) (by first | assumption | decide | omega))))
local macro_rules | `(tactic| walk_at "rv go") => `(tactic| repeat first | walk_at "rv st" | walk_at "rv ix" | ((with_reducible show rI _ _ _ _ _ _); walk_at "rv ar"))
section
variable {K : PySem.W.Frag} {σ : L2.St} {H : Hp} {Q : VK} {slot : Nat} {tr : TA} {te : TE} {tt : TT}
/-- [e for x in range(lo, hi) if t] -/
theorem w_lcT2 {lo m : Nat} {hi : Int} (hm : m = (hi - (lo : Int)).toNat) (h1 : lo ≤ 100000) (h2 : -100000 ≤ hi ∧ hi ≤ 100000) (ha : ∀ AQ : List V → Hp → Prop, AQ [.int (lo : Int), .int hi] H → tr σ H AQ) (J : Addr → Nat → List V → Hp → Prop) (h0 : ∀ D, H D = none → J D 0 [] (upd H D (.lst [])))
    (hs : ∀ D i acc H1, i < m → J D i acc H1 → tt ((σ.set slot none).set slot (some (.int ((lo + i : Nat) : Int)))) H1 fun b H2 => if b = true then te ((σ.set slot none).set slot (some (.int ((lo + i : Nat) : Int)))) H2 fun y H3 => ∃ bcc, H3 D = some (.lst bcc) ∧ bcc.length < sizeLine ∧ ∃ ccc, J D (i + 1) ccc (upd H3 D (.lst (bcc ++ [y]))) else ∃ ccc, J D (i + 1) ccc H2)
    (hd : ∀ D acc H1, J D m acc H1 → Q (.ref D) H1) : tLc (iRng2 tr) (gName slot) tt te [slot] σ H Q := by
  refine ha _ ⟨(lo : Int), hi, rfl, ⟨by omega, by omega, by omega, by omega⟩, ?_⟩
  rw [← hm]
  intro D nD
  refine lc_range (fun i H1 => ∃ acc, J D i acc H1) ⟨[], h0 D nD⟩ ?_ (fun H1 ⟨acc, q⟩ => hd D acc H1 q)
  rintro i H1 hi' ⟨acc, q⟩
  refine ⟨?_, ?_⟩
  · show ((σ.set slot none).set slot _).set slot none = σ.set slot none
    rw [List.set_set, List.set_set]
  · have e : ((lo : Int) + (i : Int)) = ((lo + i : Nat) : Int) := by omega
    rw [e]
    exact hs D i acc H1 hi' q
end
section
variable {K : PySem.W.Frag} {σ : L2.St} {H : Hp} {Q : VK} {D : Ends} {slot : Nat} {tr : TA} {s1 : TS}
/-- for i in range(lo, hi): m turns -/
theorem w_forT2 {lo m : Nat} {hi : Int} (hm : m = (hi - (lo : Int)).toNat) (h1 : lo ≤ 100000) (h2 : -100000 ≤ hi ∧ hi ≤ 1000000) (ha : ∀ AQ : List V → Hp → Prop, AQ [.int (lo : Int), .int hi] H → tr σ H AQ) (Pv : Nat → L2.St → Hp → Prop) (h0 : Pv lo σ H)
    (hs : ∀ i σ' H', lo ≤ i → (i : Int) < hi → Pv i σ' H' → s1 { D with nx := Pv (i + 1), ct := Pv (i + 1), bk := D.nx } (σ'.set slot (some (.int (i : Int)))) H') (hd : ∀ σ' H', Pv (lo + m) σ' H' → D.nx σ' H') : tFor (iRng2 tr) (gName slot) s1 D σ H := by
  refine ha _ ⟨(lo : Int), hi, rfl, ⟨by omega, by omega, by omega, by omega⟩, ?_⟩
  rw [← hm]
  refine for_range (fun k => Pv (lo + k)) h0 (fun i σ' H' hi' q => ?_) hd
  show s1 _ (σ'.set slot (some (.int ((lo : Int) + (i : Int))))) H'
  have e : ((lo : Int) + (i : Int)) = ((lo + i : Nat) : Int) := by omega
  rw [e]
  exact hs (lo + i) σ' H' (Nat.le_add_right _ _) (by omega) q
end
theorem sz_lit {z : Int} {M k : Nat} (h : z.natAbs ≤ M) (e : M < 2 ^ k := by decide) : Sz k z := Nat.lt_of_le_of_lt h e
theorem hok_sz {z : Int} (h : HOk1 z) : z.natAbs ≤ 1000000000000000000000000000000 := by
  have h1 := h.1
  have h2 := h.2
  omega
theorem wok_sz {z : Int} (h : WOk1 z) : z.natAbs ≤ 1000000000000000000000000000000 := by
  have h1 := h.1
  have h2 := h.2
  omega
theorem p_volB {K : PySem.W.Frag} {CP CR : Addr} {vs : List V} {H : Hp} {Q : VK} {E : XK} (h : spVolB K CP CR vs H Q E) : t_volume_below K CP CR { nx := fun _ H' => Q .non H', rt := Q } (start ["profile", "first", "last", "level", "heights", "widths", "wet", "wide", "ground", "column"] vs) H := by
  obtain ⟨p, hs, ws, f, l, q, t, b, rfl, P, R, ⟨dx, t1, t2, hp, h1, h2⟩, ok, hfl, hl, hq, st, sb, k⟩ := h
  have h60 := ok.le
  have hwl := ok.eq
  unfold t_volume_below
  refine w_seqA ?_
  refine w_prop rfl hp ?_
  refine ⟨p, dx, _, _, rfl, hp, pfl_h _ _, ?_⟩
  walk_at "rv go"
  refine w_prop rfl hp ?_
  refine ⟨p, dx, _, _, rfl, hp, pfl_w _ _, ?_⟩
  walk_at "rv go"
  -- the wet columns
  refine w_lcT2 (lo := f) (m := l + 1 - f) (hi := (l : Int) + 1) (by omega) (by omega) ⟨by omega, by omega⟩ (fun AQ q => by walk_at "rv go"; exact q)
    (fun D i acc H' => Same H H' ∧ H D = none ∧ H' D = some (.lst acc) ∧ acc = (wetF (hN hs) t b f i).map (fun c : Nat => V.int (c : Int)) ∧ acc.length ≤ i)
    (fun D nD => ⟨same_new (Same.refl H) nD, nD, upd_same, rfl, Nat.le_refl _⟩) ?_ ?_
  · rintro D i acc H' hi ⟨e, nD, hD, hacc, hl2⟩
    have hil : f + i < hs.length := by omega
    walk_at "rv go"
    refine w_ixT (sq_tup (e _ _ h1)) (at_hN hil) ?_
    obtain ⟨lw, dq, hq'⟩ := hq.same e
    refine w_ownI hq' ?_
    have shz : Sz 3000 (hN hs (f + i)) := sz_lit (hok_sz (ok.hh _ (hN_mem hil)))
    refine ⟨q, _, t, b, _, 1, rfl, R, ⟨lw, dq, hq'⟩, .inl ⟨rfl, rfl⟩, st.mono (by decide), sb.mono (by decide), shz, sz_one (by decide), fun H2 e2 => ?_⟩
    walk_at "rv go"
    have hD2 := e2 _ _ hD
    have ew : wetF (hN hs) t b f (i + 1) = wetF (hN hs) t b f i ++ if hN hs (f + i) * b < t then [f + i] else [] := rfl
    refine w_both (fun z => ?_) (fun z => ?_)
    · walk_at "rv go"
      rw [if_pos (by omega : hN hs (f + i) * b < t)] at ew
      refine ⟨acc, hD2, Nat.lt_of_lt_of_le (by omega : acc.length < 100001) (by decide), acc ++ [.int ((f + i : Nat) : Int)], ?_, nD, upd_same, ?_, ?_⟩
      · exact fun c o hc => by
          rw [upd_ne (ne_of_none hc nD)]
          exact e2 _ _ (e _ _ hc)
      · rw [ew, List.map_append, ← hacc]
        rfl
      · rw [List.length_append]
        show acc.length + 1 ≤ i + 1
        omega
    · rw [if_neg (by omega : ¬ hN hs (f + i) * b < t), List.append_nil] at ew
      exact ⟨acc, e.trans e2, nD, hD2, by rw [ew]; exact hacc, by omega⟩
  rintro D acc H1 ⟨e1, nD, hD, hacc, hl2⟩
  walk_at "rv go"
  generalize hW : wetF (hN hs) t b f (l + 1 - f) = W at hacc
  have wm : ∀ c ∈ W, c < hs.length := fun c hc => by
    rw [← hW] at hc
    have := wet_mem hc
    omega
  have wl : W.length ≤ 60 := by
    have := wet_len (hN hs) t b f (l + 1 - f)
    rw [hW] at this
    omega
  have al : acc.length = W.length := by rw [hacc, List.length_map]
  have hx : ∀ {i : Nat} {x : V}, acc[i]? = some x → ∃ c, W[i]? = some c ∧ x = .int (c : Int) ∧ c < hs.length := fun {i x} hx => by
    rw [hacc, List.getElem?_map] at hx
    cases hc : W[i]? with
    | none =>
      rw [hc] at hx
      cases hx
    | some c =>
      rw [hc] at hx
      exact ⟨c, rfl, (Option.some.inj hx).symm, wm c (List.mem_of_getElem? hc)⟩
  have stepE : ∀ {g : Nat → Int} {i c : Nat}, W[i]? = some c → ((W.take (i + 1)).map g).map V.int = ((W.take i).map g).map V.int ++ [.int (g c)] := fun {g i c} hc => by
    rw [List.take_add_one, hc]
    simp
  -- the width of the wet ground
  refine w_lcl ?_
  walk_at "rv go"
  refine ⟨D, rfl, ?_⟩
  refine w_lcA (sq_lst hD) (fun D2 i bcc H' => Same H1 H' ∧ H1 D2 = none ∧ H' D2 = some (.lst bcc) ∧ bcc = ((W.take i).map (hN ws)).map V.int ∧ bcc.length ≤ i)
    (fun D2 n2 => ⟨same_new (Same.refl H1) n2, n2, upd_same, by rw [List.take_zero]; rfl, Nat.le_refl _⟩) (fun D2 i bcc H' ⟨e, _⟩ => sq_lst (e _ _ hD)) ?_ ?_
  · rintro D2 i bcc x H' hxi ⟨e, n2, hD2, hb, hl3⟩
    obtain ⟨c, hc, rfl, hcl⟩ := hx hxi
    have il : i < W.length := (List.getElem?_eq_some_iff.mp hc).1
    refine ⟨rfl, ?_⟩
    walk_at "rv go"
    refine w_ixT (sq_tup (e _ _ (e1 _ _ h2))) (at_hN (by omega)) ?_
    refine ⟨bcc, hD2, Nat.lt_of_lt_of_le (by omega : bcc.length < 100001) (by decide), bcc ++ [.int (hN ws c)], ?_, n2, upd_same, ?_, ?_⟩
    · exact fun z o hz => by
        rw [upd_ne (ne_of_none hz n2)]
        exact e _ _ hz
    · rw [stepE hc, ← hb]
    · rw [List.length_append]
      show bcc.length + 1 ≤ i + 1
      omega
  rintro D2 bcc H2 ⟨e2, n2, hD2, hb, _⟩
  rw [al, List.take_length] at hb
  walk_at "rv go"
  refine ⟨D2, W.map (hN ws), rfl, sq_lst (by rw [hD2, hb]), ?_⟩
  walk_at "rv go"
  -- what the wet ground takes up
  refine w_lcl ?_
  walk_at "rv go"
  refine ⟨D, rfl, ?_⟩
  refine w_lcA (sq_lst (e2 _ _ hD)) (fun D3 i bcc H' => Same H2 H' ∧ H2 D3 = none ∧ H' D3 = some (.lst bcc) ∧ bcc = ((W.take i).map (fun c => hN ws c * hN hs c)).map V.int ∧ bcc.length ≤ i)
    (fun D3 n3 => ⟨same_new (Same.refl H2) n3, n3, upd_same, by rw [List.take_zero]; rfl, Nat.le_refl _⟩) (fun D3 i bcc H' ⟨e, _⟩ => sq_lst (e _ _ (e2 _ _ hD))) ?_ ?_
  · rintro D3 i bcc x H' hxi ⟨e, n3, hD3, hb3, hl3⟩
    obtain ⟨c, hc, rfl, hcl⟩ := hx hxi
    have il : i < W.length := (List.getElem?_eq_some_iff.mp hc).1
    refine ⟨rfl, ?_⟩
    walk_at "rv go"
    refine w_ixT (sq_tup (e _ _ (e2 _ _ (e1 _ _ h2)))) (at_hN (by omega)) ?_
    walk_at "rv go"
    refine w_ixT (sq_tup (e _ _ (e2 _ _ (e1 _ _ h1)))) (at_hN hcl) ?_
    refine w_I (mulw (j := 100) (k := 100) (sz_lit (wok_sz (ok.ww _ (hN_mem (by omega))))) (sz_lit (hok_sz (ok.hh _ (hN_mem hcl)))) (by decide) (by decide) (by decide)) ?_
    refine ⟨bcc, hD3, Nat.lt_of_lt_of_le (by omega : bcc.length < 100001) (by decide), bcc ++ [.int (hN ws c * hN hs c)], ?_, n3, upd_same, ?_, ?_⟩
    · exact fun z o hz => by
        rw [upd_ne (ne_of_none hz n3)]
        exact e _ _ hz
    · rw [stepE hc, ← hb3]
    · rw [List.length_append]
      show bcc.length + 1 ≤ i + 1
      omega
  rintro D3 ccc H3 ⟨e3, n3, hD3, hb3, _⟩
  rw [al, List.take_length] at hb3
  walk_at "rv go"
  refine ⟨D3, W.map (fun c => hN ws c * hN hs c), rfl, sq_lst (by rw [hD3, hb3]), ?_⟩
  walk_at "rv go"
  have e13 := (e1.trans e2).trans e3
  -- how great the sums are
  have swide : Sz 110 (W.map (hN ws)).sum := by
    have hb := sum_bound (M := 1000000000000000000000000000000) (l := W.map (hN ws)) fun x hx => by
      obtain ⟨c, hc, rfl⟩ := List.mem_map.mp hx
      have := wm c hc
      exact wok_sz (ok.ww _ (hN_mem (by omega)))
    rw [List.length_map] at hb
    exact sz_lit (M := 60000000000000000000000000000000) (by omega)
  have sground : Sz 210 (W.map (fun c => hN ws c * hN hs c)).sum := by
    have hb := sum_bound (M := 1000000000000000000000000000000000000000000000000000000000000) (l := W.map (fun c => hN ws c * hN hs c)) fun x hx => by
      obtain ⟨c, hc, rfl⟩ := List.mem_map.mp hx
      have := wm c hc
      rw [Int.natAbs_mul]
      exact Nat.le_trans (Nat.mul_le_mul (wok_sz (ok.ww _ (hN_mem (by omega)))) (hok_sz (ok.hh _ (hN_mem this)))) (by decide)
    rw [List.length_map] at hb
    exact sz_lit (M := 60000000000000000000000000000000000000000000000000000000000000) (by omega)
  have hdue := wet_due (hN hs) (hN ws) t b f (l + 1 - f)
  rw [hW] at hdue
  generalize (W.map (hN ws)).sum = wide at *
  generalize (W.map (fun c => hN ws c * hN hs c)).sum = ground at *
  obtain ⟨lw, dq, hq'⟩ := hq.same e13
  refine w_binI hq' ?_
  refine ⟨q, _, t, b, wide, 1, rfl, R, ⟨lw, dq, hq'⟩, .inl ⟨rfl, rfl⟩, st.mono (by decide), sb.mono (by decide), swide.mono (by decide), sz_one (by decide), fun r H4 n1 d1 e4 hr red => ?_⟩
  walk_at "rv go"
  have sn1 : Sz 1110 n1 := red.szt (st.mul swide)
  have sd1 : Sz 1000 d1 := red.szb (by rw [Int.mul_one]; exact sb)
  obtain ⟨lr, dr, hr'⟩ := id hr
  refine w_binI hr' ?_
  refine ⟨r, _, n1, d1, ground, 1, rfl, R, hr, .inl ⟨rfl, rfl⟩, sn1.mono (by decide), sd1.mono (by decide), sground.mono (by decide), sz_one (by decide), fun r2 H5 n d e5 hr2 red2 => ?_⟩
  refine k r2 H5 n d ((e13.trans e4).trans e5) hr2 ?_ ?_ ?_
  · rw [← hdue]
    exact vol_two red.eq lr.1 red2.eq
  · have s1 : Sz 1210 (n1 * 1) := by rw [Int.mul_one]; exact sn1.mono (by decide)
    have s2 : Sz 1210 (ground * d1) := sground.mul sd1
    exact (red2.szt (s1.sub s2)).mono (by decide)
  · exact red2.szb (by rw [Int.mul_one]; exact sd1)
theorem p_volU {K : PySem.W.Frag} {CP CR : Addr} {vs : List V} {H : Hp} {Q : VK} {E : XK} (h : spVolU K CP CR vs H Q E) : t_volume_up_to K CP CR { nx := fun _ H' => Q .non H', rt := Q } (start ["profile", "first", "last", "level"] vs) H := by
  obtain ⟨p, hs, ws, f, l, v, t, b, rfl, P, R, hp, ok, hfl, hl, hv, st, sb, k⟩ := h
  unfold t_volume_up_to
  walk_at "rv go"
  refine ⟨p, hs, ws, f, l, rfl, P, hp, ok.le, hfl, hl, ?_⟩
  walk_at "rv go"
  refine ⟨v, t, b, rfl, R, hv, fun q H1 e hq => ?_⟩
  walk_at "rv go"
  exact ⟨p, hs, ws, f, l, q, t, b, rfl, P, R, hp.same e, ok, hfl, hl, hq, st, sb, fun r H2 n d e2 => k r H2 n d (e.trans e2)⟩
end Rv
namespace Rv
/-! ### runs of marks, peaks: plain mathematics -/
abbrev Pr := Nat × Nat
def Srt (L : List Pr) : Prop := L.Pairwise fun p q => p.1 < q.1
theorem srt_unique : ∀ {L M : List Pr}, Srt L → Srt M → (∀ p, p ∈ L ↔ p ∈ M) → L = M
  | [], [], _, _, _ => rfl
  | [], y :: s, _, _, h => by
    have q := (h y).mpr List.mem_cons_self
    cases q
  | x :: r, [], _, _, h => by
    have q := (h x).mp List.mem_cons_self
    cases q
  | x :: r, y :: s, hL, hM, h => by
    obtain ⟨a1, a2⟩ := List.pairwise_cons.mp hL
    obtain ⟨b1, b2⟩ := List.pairwise_cons.mp hM
    have e : x = y := by
      rcases List.mem_cons.mp ((h x).mp List.mem_cons_self) with e | e
      · exact e
      · rcases List.mem_cons.mp ((h y).mpr List.mem_cons_self) with g | g
        · exact g.symm
        · have h1 := b1 x e
          have h2 := a1 y g
          omega
    subst e
    rw [srt_unique a2 b2 fun p => ⟨fun hp => ?_, fun hp => ?_⟩]
    · rcases List.mem_cons.mp ((h p).mp (List.mem_cons_of_mem _ hp)) with e | e
      · have := a1 p hp
        rw [e] at this
        omega
      · exact e
    · rcases List.mem_cons.mp ((h p).mpr (List.mem_cons_of_mem _ hp)) with e | e
      · have := b1 p hp
        rw [e] at this
        omega
      · exact e
def MaxRun (m : Nat → Bool) (n : Nat) (w : Bool) (a b : Nat) : Prop := a ≤ b ∧ b < n ∧ (∀ j, a ≤ j → j ≤ b → m j = w) ∧ (a = 0 ∨ m (a - 1) ≠ w) ∧ (b + 1 = n ∨ m (b + 1) ≠ w)
def Stre (h : Nat → Int) (n : Nat) (a b : Nat) : Prop := a ≤ b ∧ b < n ∧ (∀ j, a ≤ j → j ≤ b → h j = h a) ∧ (a = 0 ∨ h (a - 1) ≠ h a) ∧ (b + 1 = n ∨ h (b + 1) ≠ h b)
def PKb (h : Nat → Int) (n a b : Nat) : Bool := (decide (a = 0) || decide (h (a - 1) < h a)) && (decide (b + 1 = n) || decide (h (b + 1) < h b))
theorem PKb_iff {h : Nat → Int} {n a b : Nat} : PKb h n a b = true ↔ (a = 0 ∨ h (a - 1) < h a) ∧ (b + 1 = n ∨ h (b + 1) < h b) := by simp [PKb]
def LeftOf (h : Nat → Int) (i a : Nat) : Prop := a ≤ i ∧ (∀ j, a ≤ j → j ≤ i → h j = h i) ∧ (a = 0 ∨ h (a - 1) ≠ h i)
def RightOf (h : Nat → Int) (n i b : Nat) : Prop := i ≤ b ∧ b < n ∧ (∀ j, i ≤ j → j ≤ b → h j = h i) ∧ (b + 1 = n ∨ h (b + 1) ≠ h i)
def lft (h : Nat → Int) : Nat → Nat
  | 0 => 0
  | i + 1 => if h i = h (i + 1) then lft h i else i + 1
theorem lft_ok (h : Nat → Int) : ∀ i, LeftOf h i (lft h i)
  | 0 => ⟨Nat.le_refl _, fun j _ h2 => by rw [show j = 0 by omega], .inl rfl⟩
  | i + 1 => by
    unfold lft
    by_cases e : h i = h (i + 1)
    · rw [if_pos e]
      obtain ⟨h1, h2, h3⟩ := lft_ok h i
      refine ⟨by omega, fun j a b => ?_, ?_⟩
      · by_cases z : j = i + 1
        · rw [z]
        · rw [h2 j a (by omega), e]
      · rw [← e]
        exact h3
    · rw [if_neg e]
      exact ⟨Nat.le_refl _, fun j a b => by rw [show j = i + 1 by omega], .inr e⟩
def rgtF (h : Nat → Int) (n : Nat) : Nat → Nat → Nat
  | 0, i => i
  | f + 1, i => if i + 1 < n ∧ h (i + 1) = h i then rgtF h n f (i + 1) else i
theorem rgtF_ok (h : Nat → Int) (n : Nat) : ∀ f i, i < n → n ≤ i + f + 1 → RightOf h n i (rgtF h n f i)
  | 0, i, hi, hf => ⟨Nat.le_refl _, hi, fun j a b => by rw [show j = i by show j = i; unfold rgtF at b; omega], .inl (by unfold rgtF; omega)⟩
  | f + 1, i, hi, hf => by
    unfold rgtF
    by_cases e : i + 1 < n ∧ h (i + 1) = h i
    · rw [if_pos e]
      obtain ⟨h1, h2, h3, h4⟩ := rgtF_ok h n f (i + 1) e.1 (by omega)
      refine ⟨by omega, h2, fun j a b => ?_, ?_⟩
      · by_cases z : j = i
        · rw [z]
        · rw [h3 j (by omega) b, e.2]
      · rw [← e.2]
        exact h4
    · rw [if_neg e]
      refine ⟨Nat.le_refl _, hi, fun j a b => by rw [show j = i by omega], ?_⟩
      by_cases z : i + 1 = n
      · exact .inl z
      · exact .inr fun q => e ⟨by omega, q⟩
def rgt (h : Nat → Int) (n i : Nat) : Nat := rgtF h n n i
theorem rgt_ok {h : Nat → Int} {n i : Nat} (hi : i < n) : RightOf h n i (rgt h n i) := rgtF_ok h n n i hi (by omega)
theorem left_uniq {h : Nat → Int} {i a b : Nat} (x : LeftOf h i a) (y : LeftOf h i b) : a = b := by
  obtain ⟨x1, x2, x3⟩ := x
  obtain ⟨y1, y2, y3⟩ := y
  rcases Nat.lt_trichotomy a b with z | z | z
  · rcases y3 with e | e
    · omega
    · exact absurd (x2 (b - 1) (by omega) (by omega)) e
  · exact z
  · rcases x3 with e | e
    · omega
    · exact absurd (y2 (a - 1) (by omega) (by omega)) e
theorem right_uniq {h : Nat → Int} {n i a b : Nat} (x : RightOf h n i a) (y : RightOf h n i b) : a = b := by
  obtain ⟨x1, x2, x3, x4⟩ := x
  obtain ⟨y1, y2, y3, y4⟩ := y
  rcases Nat.lt_trichotomy a b with z | z | z
  · rcases x4 with e | e
    · omega
    · exact absurd (y3 (a + 1) (by omega) (by omega)) e
  · exact z
  · rcases y4 with e | e
    · omega
    · exact absurd (x3 (b + 1) (by omega) (by omega)) e
/-- is the column part of a peak -/
def mark (h : Nat → Int) (n i : Nat) : Bool := PKb h n (lft h i) (rgt h n i)
theorem stre_of {h : Nat → Int} {n i a b : Nat} (x : LeftOf h i a) (y : RightOf h n i b) : Stre h n a b := by
  obtain ⟨x1, x2, x3⟩ := x
  obtain ⟨y1, y2, y3, y4⟩ := y
  have ha : h a = h i := x2 a (Nat.le_refl _) x1
  have hb : h b = h i := y3 b y1 (Nat.le_refl _)
  refine ⟨by omega, y2, fun j h1 h2 => ?_, ?_, ?_⟩
  · rw [ha]
    by_cases z : j ≤ i
    · exact x2 j h1 z
    · exact y3 j (by omega) h2
  · rw [ha]
    exact x3
  · rw [hb]
    exact y4
theorem of_stre {h : Nat → Int} {n i a b : Nat} (s : Stre h n a b) (h1 : a ≤ i) (h2 : i ≤ b) : LeftOf h i a ∧ RightOf h n i b := by
  obtain ⟨s1, s2, s3, s4, s5⟩ := s
  have hi := s3 i h1 h2
  have hb := s3 b s1 (Nat.le_refl _)
  refine ⟨⟨h1, fun j a b => ?_, ?_⟩, h2, s2, fun j a b => ?_, ?_⟩
  · rw [s3 j a (by omega), hi]
  · rw [hi]
    exact s4
  · rw [s3 j (by omega) b, hi]
  · rw [hi, ← hb]
    exact s5
theorem mark_stre {h : Nat → Int} {n i a b : Nat} (s : Stre h n a b) (h1 : a ≤ i) (h2 : i ≤ b) : mark h n i = PKb h n a b := by
  obtain ⟨x, y⟩ := of_stre s h1 h2
  have hi : i < n := by
    have := s.2.1
    omega
  unfold mark
  rw [left_uniq (lft_ok h i) x, right_uniq (rgt_ok hi) y]
theorem stre_at (h : Nat → Int) {n i : Nat} (hi : i < n) : Stre h n (lft h i) (rgt h n i) ∧ lft h i ≤ i ∧ i ≤ rgt h n i := ⟨stre_of (lft_ok h i) (rgt_ok hi), (lft_ok h i).1, (rgt_ok hi).1⟩
/-- a peak is a maximal run of marks -/
theorem peak_run {h : Nat → Int} {n a b : Nat} : (Stre h n a b ∧ PKb h n a b = true) ↔ MaxRun (mark h n) n true a b := by
  constructor
  · rintro ⟨s, p⟩
    have s0 := s
    obtain ⟨s1, s2, s3, s4, s5⟩ := s
    obtain ⟨p1, p2⟩ := PKb_iff.mp p
    refine ⟨s1, s2, fun j h1 h2 => by rw [mark_stre s0 h1 h2, p], ?_, ?_⟩
    · by_cases z : a = 0
      · exact .inl z
      · refine .inr fun q => ?_
        obtain ⟨t, t1, t2⟩ := stre_at h (n := n) (i := a - 1) (by omega)
        rw [mark_stre t t1 t2] at q
        obtain ⟨_, q2⟩ := PKb_iff.mp q
        have hr : rgt h n (a - 1) = a - 1 := by
          have e : h (a - 1) ≠ h a := s4.resolve_left z
          have := right_uniq (rgt_ok (h := h) (n := n) (i := a - 1) (by omega)) (b := a - 1) ⟨Nat.le_refl _, by omega, fun j x y => by rw [show j = a - 1 by omega], .inr (by rw [show a - 1 + 1 = a by omega]; exact fun w => e w.symm)⟩
          exact this
        rw [hr, show a - 1 + 1 = a by omega] at q2
        have := p1.resolve_left z
        rcases q2 with q2 | q2 <;> omega
    · by_cases z : b + 1 = n
      · exact .inl z
      · refine .inr fun q => ?_
        obtain ⟨t, t1, t2⟩ := stre_at h (n := n) (i := b + 1) (by omega)
        rw [mark_stre t t1 t2] at q
        obtain ⟨q1, _⟩ := PKb_iff.mp q
        have hl : lft h (b + 1) = b + 1 := by
          have e : h (b + 1) ≠ h b := s5.resolve_left z
          have := left_uniq (lft_ok h (b + 1)) (b := b + 1) ⟨Nat.le_refl _, fun j x y => by rw [show j = b + 1 by omega], .inr (by rw [show b + 1 - 1 = b by omega]; exact fun w => e w.symm)⟩
          exact this
        rw [hl, show b + 1 - 1 = b by omega] at q1
        have := p2.resolve_left z
        rcases q1 with q1 | q1 <;> omega
  · rintro ⟨m1, m2, m3, m4, m5⟩
    obtain ⟨t, t1, t2⟩ := stre_at h (n := n) (i := a) (by omega)
    have ma := m3 a (Nat.le_refl _) m1
    have pk : PKb h n (lft h a) (rgt h n a) = true := by rw [← mark_stre t t1 t2, ma]
    have el : lft h a = a := by
      by_cases z : lft h a = a
      · exact z
      · have q := mark_stre t (i := a - 1) (by omega) (by omega)
        rw [pk] at q
        rcases m4 with e | e
        · omega
        · exact absurd q e
    have er : rgt h n a = b := by
      rcases Nat.lt_trichotomy (rgt h n a) b with z | z | z
      · -- the next column is a peak's, too
        exfalso
        have q := m3 (rgt h n a + 1) (by omega) (by omega)
        obtain ⟨u, u1, u2⟩ := stre_at h (n := n) (i := rgt h n a + 1) (by omega)
        rw [mark_stre u u1 u2] at q
        obtain ⟨q1, _⟩ := PKb_iff.mp q
        obtain ⟨_, p2⟩ := PKb_iff.mp pk
        obtain ⟨s1, s2, s3, s4, s5⟩ := t
        have ne : h (rgt h n a + 1) ≠ h (rgt h n a) := s5.resolve_left (by omega)
        have hl : lft h (rgt h n a + 1) = rgt h n a + 1 := left_uniq (lft_ok h (rgt h n a + 1)) ⟨Nat.le_refl _, fun j x y => by rw [show j = rgt h n a + 1 by omega], .inr (by rw [Nat.add_sub_cancel]; exact fun w => ne w.symm)⟩
        rw [hl, Nat.add_sub_cancel] at q1
        have := p2.resolve_left (by omega)
        rcases q1 with q1 | q1 <;> omega
      · exact z
      · exfalso
        have q := mark_stre t (i := b + 1) (by omega) (by omega)
        rw [pk] at q
        have := t.2.1
        rcases m5 with e | e
        · omega
        · exact absurd q e
    rw [el, er] at t pk
    exact ⟨t, pk⟩
/-- there is a peak -/
theorem some_peak (h : Nat → Int) {n : Nat} (hn : 0 < n) : ∃ i, i < n ∧ mark h n i = true := by
  have top : ∀ k, 0 < k → ∃ i, i < k ∧ ∀ j, j < k → h j ≤ h i := by
    intro k
    induction k with
    | zero => intro h; omega
    | succ k ih =>
      intro _
      by_cases z : k = 0
      · exact ⟨0, by omega, fun j hj => by rw [show j = 0 by omega]; omega⟩
      · obtain ⟨i, h1, h2⟩ := ih (by omega)
        by_cases c : h k ≤ h i
        · exact ⟨i, by omega, fun j hj => by
            by_cases e : j = k
            · rw [e]; exact c
            · exact h2 j (by omega)⟩
        · exact ⟨k, by omega, fun j hj => by
            by_cases e : j = k
            · rw [e]; omega
            · have := h2 j (by omega)
              omega⟩
  obtain ⟨i, h1, h2⟩ := top n hn
  refine ⟨i, h1, ?_⟩
  obtain ⟨t, t1, t2⟩ := stre_at h (n := n) (i := i) h1
  rw [mark_stre t t1 t2]
  obtain ⟨s1, s2, s3, s4, s5⟩ := t
  have hi := s3 i t1 t2
  have hb := s3 _ s1 (Nat.le_refl _)
  refine PKb_iff.mpr ⟨?_, ?_⟩
  · rcases s4 with e | e
    · exact .inl e
    · have := h2 (lft h i - 1) (by omega)
      exact .inr (by omega)
  · rcases s5 with e | e
    · exact .inl e
    · by_cases z : rgt h n i + 1 = n
      · exact .inl z
      · have := h2 (rgt h n i + 1) (by omega)
        exact .inr (by omega)
/-- neighbours in a sorted list -/
theorem zip_next : ∀ {L : List Pr}, Srt L → ∀ p q : Pr, (p, q) ∈ L.zip L.tail ↔ p ∈ L ∧ q ∈ L ∧ p.1 < q.1 ∧ ∀ r ∈ L, r.1 ≤ p.1 ∨ q.1 ≤ r.1
  | [], _, p, q => by simp
  | [x], _, p, q => by
    simp only [List.tail_cons, List.zip_nil_right, List.not_mem_nil, List.mem_singleton, false_iff]
    rintro ⟨rfl, rfl, h, _⟩
    omega
  | x :: y :: r, hL, p, q => by
    obtain ⟨a1, a2⟩ := List.pairwise_cons.mp hL
    obtain ⟨b1, b2⟩ := List.pairwise_cons.mp a2
    have ih := zip_next (L := y :: r) a2 p q
    have xy := a1 y List.mem_cons_self
    show (p, q) ∈ (x, y) :: (y :: r).zip r ↔ _
    rw [List.mem_cons]
    constructor
    · rintro (e | e)
      · injection e with e1 e2
        subst e1 e2
        refine ⟨List.mem_cons_self, List.mem_cons_of_mem _ List.mem_cons_self, xy, fun z hz => ?_⟩
        rcases List.mem_cons.mp hz with e | e
        · rw [e]; omega
        · rcases List.mem_cons.mp e with e | e
          · rw [e]; omega
          · have := b1 z e
            omega
      · obtain ⟨h1, h2, h3, h4⟩ := ih.mp e
        refine ⟨List.mem_cons_of_mem _ h1, List.mem_cons_of_mem _ h2, h3, fun z hz => ?_⟩
        rcases List.mem_cons.mp hz with e | e
        · have := a1 p h1
          rw [e]
          omega
        · exact h4 z e
    · rintro ⟨h1, h2, h3, h4⟩
      rcases List.mem_cons.mp h1 with e | e
      · left
        have hq : q ∈ y :: r := by
          rcases List.mem_cons.mp h2 with g | g
          · rw [e, g] at h3
            omega
          · exact g
        have hy := h4 y (List.mem_cons_of_mem _ List.mem_cons_self)
        have : q = y := by
          rcases List.mem_cons.mp hq with g | g
          · exact g
          · have := b1 q g
            rw [e] at hy
            omega
        rw [e, this]
      · right
        refine ih.mpr ⟨e, ?_, h3, fun z hz => h4 z (List.mem_cons_of_mem _ hz)⟩
        rcases List.mem_cons.mp h2 with g | g
        · have := a1 p e
          rw [g] at h3
          omega
        · exact g
def gap (p q : Pr) : Pr := (p.2 + 1, q.1 - 1)
def gaps (L : List Pr) : List Pr := (L.zip L.tail).map fun x => gap x.1 x.2
/-- the gaps of the peaks are the other runs between them -/
theorem gaps_eq {m : Nat → Bool} {n : Nat} {T F : List Pr} (hT : Srt T) (hF : Srt F) (mT : ∀ p : Pr, p ∈ T ↔ MaxRun m n true p.1 p.2) (mF : ∀ p : Pr, p ∈ F ↔ MaxRun m n false p.1 p.2)
    {f l : Pr} (hf : T.head? = some f) (hl : T.getLast? = some l) : gaps T = F.filter fun r => decide (f.2 < r.1) && decide (r.2 < l.1) := by
  have fT : f ∈ T := List.mem_of_mem_head? hf
  have lT : l ∈ T := List.mem_of_getLast? hl
  have fmin : ∀ r ∈ T, f.1 ≤ r.1 := by
    cases T with
    | nil => cases fT
    | cons x r =>
      have e : x = f := by simpa using hf
      intro z hz
      rcases List.mem_cons.mp hz with g | g
      · rw [g, e]; omega
      · have := (List.pairwise_cons.mp hT).1 z g
        rw [← e]; omega
  have lmax : ∀ r ∈ T, r.1 ≤ l.1 := by
    intro r hr
    obtain ⟨ys, e⟩ := List.getLast?_eq_some_iff.mp hl
    rw [e] at hr hT
    rcases List.mem_append.mp hr with g | g
    · have := (List.pairwise_append.mp hT).2.2 r g l (by simp)
      omega
    · rw [List.mem_singleton.mp g]; omega
  -- two different runs of true are apart
  have apart : ∀ p ∈ T, ∀ q ∈ T, p.1 < q.1 → p.2 + 1 < q.1 := by
    intro p hp q hq hpq
    obtain ⟨p1, p2, p3, p4, p5⟩ := (mT p).mp hp
    obtain ⟨q1, q2, q3, q4, q5⟩ := (mT q).mp hq
    rcases q4 with e | e
    · omega
    · rcases Nat.lt_or_ge (p.2 + 1) q.1 with z | z
      · exact z
      · exfalso
        by_cases w : q.1 ≤ p.2 + 1 ∧ p.1 ≤ q.1 - 1 ∧ q.1 - 1 ≤ p.2
        · exact e (p3 (q.1 - 1) w.2.1 w.2.2)
        · omega
  -- the true marks lie in the runs of T
  have inT : ∀ i, i < n → m i = true → ∃ p ∈ T, p.1 ≤ i ∧ i ≤ p.2 := by
    intro i hi hm
    have lo : ∀ k, k ≤ i → (∀ j, k ≤ j → j ≤ i → m j = true) → ∃ a, a ≤ k ∧ (∀ j, a ≤ j → j ≤ i → m j = true) ∧ (a = 0 ∨ m (a - 1) ≠ true) := by
      intro k
      induction k with
      | zero => intro _ h; exact ⟨0, Nat.le_refl _, h, .inl rfl⟩
      | succ k ih =>
        intro hk h
        by_cases z : m k = true
        · obtain ⟨a, h1, h2, h3⟩ := ih (by omega) fun j x y => by
            by_cases w : j = k
            · rw [w]; exact z
            · exact h j (by omega) y
          exact ⟨a, by omega, h2, h3⟩
        · exact ⟨k + 1, Nat.le_refl _, h, .inr z⟩
    obtain ⟨a, a1, a2, a3⟩ := lo i (Nat.le_refl _) fun j x y => by rw [show j = i by omega]; exact hm
    have hi' : ∀ d k, k + d + 1 = n → i ≤ k → (∀ j, i ≤ j → j ≤ k → m j = true) → ∃ b, k ≤ b ∧ b < n ∧ (∀ j, i ≤ j → j ≤ b → m j = true) ∧ (b + 1 = n ∨ m (b + 1) ≠ true) := by
      intro d
      induction d with
      | zero => intro k hk _ h; exact ⟨k, Nat.le_refl _, by omega, h, .inl (by omega)⟩
      | succ d ih =>
        intro k hk hik h
        by_cases z : m (k + 1) = true
        · obtain ⟨b, h1, h2, h3, h4⟩ := ih (k + 1) (by omega) (by omega) fun j x y => by
            by_cases w : j = k + 1
            · rw [w]; exact z
            · exact h j x (by omega)
          exact ⟨b, by omega, h2, h3, h4⟩
        · exact ⟨k, Nat.le_refl _, by omega, h, .inr z⟩
    obtain ⟨b, b1, b2, b3, b4⟩ := hi' (n - 1 - i) i (by omega) (Nat.le_refl _) fun j x y => by rw [show j = i by omega]; exact hm
    refine ⟨(a, b), (mT (a, b)).mpr ⟨by show a ≤ b; omega, b2, fun j x y => ?_, a3, b4⟩, a1, b1⟩
    by_cases w : j ≤ i
    · exact a2 j x w
    · exact b3 j (by omega) y
  refine srt_unique ?_ ?_ ?_
  · -- the gaps are in order
    unfold gaps Srt
    rw [List.pairwise_map]
    have key : ∀ {L : List Pr}, Srt L → (∀ p ∈ L, ∀ q ∈ L, p.1 < q.1 → p.2 < q.2) → (L.zip L.tail).Pairwise fun x y => (gap x.1 x.2).1 < (gap y.1 y.2).1 := by
      intro L
      induction L with
      | nil => intro _ _; exact List.Pairwise.nil
      | cons x r ih =>
        intro hL hq
        cases r with
        | nil => exact List.Pairwise.nil
        | cons y s =>
          obtain ⟨a1, a2⟩ := List.pairwise_cons.mp hL
          show ((x, y) :: (y :: s).zip s).Pairwise _
          refine List.pairwise_cons.mpr ⟨?_, ih a2 fun p hp q hq' => hq p (List.mem_cons_of_mem _ hp) q (List.mem_cons_of_mem _ hq')⟩
          rintro ⟨p, q⟩ hz
          have hp : p ∈ y :: s := (zip_next a2 p q).mp hz |>.1
          have h1 := a1 p hp
          have h2 := hq x List.mem_cons_self p (List.mem_cons_of_mem _ hp) h1
          show x.2 + 1 < p.2 + 1
          omega
    refine key hT fun p hp q hq hpq => ?_
    have h1 := apart p hp q hq hpq
    have h2 := (mT q).mp hq
    have h3 := h2.1
    omega
  · exact List.Pairwise.filter _ hF
  · rintro ⟨a, b⟩
    unfold gaps
    rw [List.mem_map, List.mem_filter, mF]
    simp only [Bool.and_eq_true, decide_eq_true_eq]
    constructor
    · rintro ⟨⟨p, q⟩, hz, e⟩
      obtain ⟨hp, hq, hpq, hb⟩ := (zip_next hT p q).mp hz
      have ea : p.2 + 1 = a := congrArg Prod.fst e
      have eb : q.1 - 1 = b := congrArg Prod.snd e
      have ap := apart p hp q hq hpq
      obtain ⟨p1, p2, p3, p4, p5⟩ := (mT p).mp hp
      obtain ⟨q1, q2, q3, q4, q5⟩ := (mT q).mp hq
      have fp := fmin p hp
      have ql := lmax q hq
      have f2 : f.2 ≤ p.2 := by
        by_cases z : f.1 = p.1
        · obtain ⟨f1, f2, f3, f4, f5⟩ := (mT f).mp fT
          rcases Nat.lt_or_ge p.2 f.2 with w | w
          · exfalso
            rcases p5 with g | g
            · omega
            · exact g (f3 (p.2 + 1) (by omega) (by omega))
          · exact w
        · have := apart f fT p hp (by omega)
          omega
      refine ⟨⟨by omega, by omega, fun j x y => ?_, ?_, ?_⟩, by omega, by omega⟩
      · cases hm : m j with
        | false => rfl
        | true =>
          obtain ⟨r, hr, r1, r2⟩ := inT j (by omega) hm
          exfalso
          have x' : a ≤ j := x
          have y' : j ≤ b := y
          rcases hb r hr with w | w
          · by_cases z : r.1 = p.1
            · obtain ⟨r3, r4, r5, r6, r7⟩ := (mT r).mp hr
              rcases p5 with g | g
              · omega
              · exact g (r5 (p.2 + 1) (by omega) (by omega))
            · have := apart r hr p hp (by omega)
              omega
          · omega
      · right
        show m (a - 1) ≠ false
        rw [show a - 1 = p.2 by omega, p3 p.2 p1 (Nat.le_refl _)]
        exact fun h => nomatch h
      · right
        show m (b + 1) ≠ false
        rw [show b + 1 = q.1 by omega, q3 q.1 (Nat.le_refl _) q1]
        exact fun h => nomatch h
    · rintro ⟨⟨r1, r2, r3, r4, r5⟩, hfa, hbl⟩
      have r1' : a ≤ b := r1
      have r2' : b < n := r2
      obtain ⟨f1, f2, f3, f4, f5⟩ := (mT f).mp fT
      obtain ⟨l1, l2, l3, l4, l5⟩ := (mT l).mp lT
      have hfa' : f.2 < a := hfa
      have hbl' : b < l.1 := hbl
      have ma : m (a - 1) = true := by
        rcases r4 with e | e
        · have e' : a = 0 := e
          omega
        · have e' : m (a - 1) ≠ false := e
          cases h : m (a - 1) with
          | true => rfl
          | false => exact absurd h e'
      have mb : m (b + 1) = true := by
        rcases r5 with e | e
        · have e' : b + 1 = n := e
          omega
        · have e' : m (b + 1) ≠ false := e
          cases h : m (b + 1) with
          | true => rfl
          | false => exact absurd h e'
      obtain ⟨p, hp, p1, p2⟩ := inT (a - 1) (by omega) ma
      obtain ⟨q, hq, q1, q2⟩ := inT (b + 1) (by omega) mb
      obtain ⟨p3, p4, p5, p6, p7⟩ := (mT p).mp hp
      obtain ⟨q3, q4, q5, q6, q7⟩ := (mT q).mp hq
      have rn : ∀ j, a ≤ j → j ≤ b → m j = false := r3
      have ep : p.2 = a - 1 := by
        rcases Nat.lt_or_ge (a - 1) p.2 with w | w
        · have h1 := p5 a (by omega) (by omega)
          rw [rn a (Nat.le_refl _) r1'] at h1
          cases h1
        · omega
      have eq : q.1 = b + 1 := by
        rcases Nat.lt_or_ge q.1 (b + 1) with w | w
        · have h1 := q5 b (by omega) (by omega)
          rw [rn b r1' (Nat.le_refl _)] at h1
          cases h1
        · omega
      refine ⟨(p, q), (zip_next hT p q).mpr ⟨hp, hq, by omega, fun r hr => ?_⟩, ?_⟩
      · obtain ⟨s3, s4, s5, s6, s7⟩ := (mT r).mp hr
        rcases Nat.lt_or_ge p.1 r.1 with w | w
        · have h1 := apart p hp r hr w
          rcases Nat.lt_or_ge r.1 q.1 with w2 | w2
          · exfalso
            have h2 := apart r hr q hq w2
            have h3 := s5 r.1 (Nat.le_refl _) s3
            rw [rn r.1 (by omega) (by omega)] at h3
            cases h3
          · exact .inr w2
        · exact .inl w
      · show (p.2 + 1, q.1 - 1) = (a, b)
        rw [ep, eq]
        have z : a - 1 + 1 = a := by omega
        rw [z]
        rfl
/-! ### the loops' words -/
structure SInv (h : Nat → Int) (n i first : Nat) (L : List Pr) : Prop where
  le : first ≤ i
  run : ∀ j, first ≤ j → j < i → h j = h first
  nxt : first < i → i < n → h i = h (i - 1)
  st : first < n → first = 0 ∨ h (first - 1) ≠ h first
  srt : Srt L
  mem : ∀ q : Pr, q ∈ L ↔ Stre h n q.1 q.2 ∧ q.2 < i
  lt : ∀ q ∈ L, q.1 < first
theorem SInv.zero (h : Nat → Int) (n : Nat) : SInv h n 0 0 [] := ⟨Nat.le_refl _, fun j a b => by omega, fun a => by omega, fun _ => .inl rfl, List.Pairwise.nil, fun q => ⟨(fun z => nomatch z), fun z => by have := z.2; omega⟩, (fun q z => nomatch z)⟩
theorem srt_app {L : List Pr} {p : Pr} (h : Srt L) (lt : ∀ q ∈ L, q.1 < p.1) : Srt (L ++ [p]) := List.pairwise_append.mpr ⟨h, List.pairwise_singleton _ _, fun a ha b hb => by
  rw [List.mem_singleton.mp hb]
  exact lt a ha⟩
theorem SInv.cut {h : Nat → Int} {n i first : Nat} {L : List Pr} (s : SInv h n i first L) (hi : i < n) (c : i + 1 = n ∨ h (i + 1) ≠ h i) : SInv h n (i + 1) (i + 1) (L ++ [(first, i)]) := by
  have ri : ∀ j, first ≤ j → j ≤ i → h j = h first := fun j a b => by
    by_cases z : j = i
    · by_cases w : first = i
      · rw [z, w]
      · have h1 := s.nxt (by have := s.le; omega) hi
        rw [z, h1]
        exact s.run _ (by have := s.le; omega) (by omega)
    · exact s.run j a (by omega)
  have S : Stre h n first i := ⟨s.le, hi, ri, s.st (by have := s.le; omega), by
    rcases c with c | c
    · exact .inl c
    · exact .inr c⟩
  refine ⟨Nat.le_refl _, fun j a b => by omega, fun a => by omega, fun a => .inr ?_, srt_app s.srt s.lt, fun q => ?_, fun q hq => ?_⟩
  · rw [Nat.add_sub_cancel]
    rcases c with c | c
    · omega
    · exact fun z => c z.symm
  · rw [List.mem_append, s.mem, List.mem_singleton]
    constructor
    · rintro (⟨h1, h2⟩ | rfl)
      · exact ⟨h1, by omega⟩
      · exact ⟨S, Nat.lt_succ_self _⟩
    · rintro ⟨h1, h2⟩
      by_cases z : q.2 < i
      · exact .inl ⟨h1, z⟩
      · right
        have e2 : q.2 = i := by omega
        have x := (of_stre h1 h1.1 (Nat.le_refl _)).1
        have y := (of_stre S S.1 (Nat.le_refl _)).1
        rw [e2] at x
        exact Prod.ext (left_uniq x y) e2
  · rcases List.mem_append.mp hq with z | z
    · have h1 := s.lt q z
      have h2 := s.le
      omega
    · rw [List.mem_singleton.mp z]
      have h2 := s.le
      show first < i + 1
      omega
theorem SInv.on {h : Nat → Int} {n i first : Nat} {L : List Pr} (s : SInv h n i first L) (hi : i + 1 < n) (c : h (i + 1) = h i) : SInv h n (i + 1) first L := by
  refine ⟨by have := s.le; omega, fun j a b => ?_, fun a b => by rw [Nat.add_sub_cancel]; exact c, s.st, s.srt, fun q => ?_, s.lt⟩
  · by_cases z : j = i
    · by_cases w : first = i
      · rw [z, w]
      · have h1 := s.nxt (by have := s.le; omega) (by omega)
        rw [z, h1]
        exact s.run _ (by have := s.le; omega) (by omega)
    · exact s.run j a (by omega)
  · rw [s.mem]
    constructor
    · rintro ⟨h1, h2⟩
      exact ⟨h1, by omega⟩
    · rintro ⟨h1, h2⟩
      refine ⟨h1, ?_⟩
      rcases Nat.lt_or_ge q.2 i with z | z
      · exact z
      · exfalso
        have e : q.2 = i := by omega
        have h3 := h1.2.2.2.2
        rw [e] at h3
        rcases h3 with g | g
        · omega
        · exact g c
theorem run_none {m : Nat → Bool} {w : Bool} {a b : Nat} (h : MaxRun m 0 w a b) : False := by
  have := h.2.1
  omega
theorem run_skip {m : Nat → Bool} {i : Nat} {w : Bool} {a b : Nat} (hw : m i ≠ w) : MaxRun m (i + 1) w a b ↔ MaxRun m i w a b := by
  constructor
  · rintro ⟨h1, h2, h3, h4, h5⟩
    have hb : b ≠ i := fun z => hw (by rw [← z]; exact h3 b h1 (Nat.le_refl _))
    exact ⟨h1, by omega, h3, h4, by rcases h5 with e | e; · omega
                                    · exact .inr e⟩
  · rintro ⟨h1, h2, h3, h4, h5⟩
    refine ⟨h1, by omega, h3, h4, .inr ?_⟩
    rcases h5 with e | e
    · rw [e]
      exact hw
    · exact e
theorem run_new {m : Nat → Bool} {i : Nat} {w : Bool} {a b : Nat} (hw : m i = w) (c : i = 0 ∨ m (i - 1) ≠ w) : MaxRun m (i + 1) w a b ↔ MaxRun m i w a b ∨ (a = i ∧ b = i) := by
  constructor
  · rintro ⟨h1, h2, h3, h4, h5⟩
    by_cases z : b = i
    · right
      refine ⟨?_, z⟩
      by_cases y : a = i
      · exact y
      · exfalso
        have := h3 (i - 1) (by omega) (by omega)
        rcases c with c | c
        · omega
        · exact c this
    · left
      refine ⟨h1, by omega, h3, h4, ?_⟩
      rcases h5 with e | e
      · omega
      · exact .inr e
  · rintro (⟨h1, h2, h3, h4, h5⟩ | ⟨rfl, rfl⟩)
    · refine ⟨h1, by omega, h3, h4, .inr ?_⟩
      rcases h5 with e | e
      · exfalso
        have hb := h3 b h1 (Nat.le_refl _)
        rcases c with c | c
        · omega
        · exact c (by rw [show i - 1 = b by omega]; exact hb)
      · exact e
    · exact ⟨Nat.le_refl _, Nat.lt_succ_self _, fun j x y => by rw [show j = b by omega]; exact hw, c, .inl rfl⟩
theorem run_grow {m : Nat → Bool} {i : Nat} {w : Bool} {a b : Nat} (hw : m i = w) (h0 : 0 < i) (c : m (i - 1) = w) : MaxRun m (i + 1) w a b ↔ (MaxRun m i w a b ∧ b + 1 ≠ i) ∨ (b = i ∧ MaxRun m i w a (i - 1)) := by
  constructor
  · rintro ⟨h1, h2, h3, h4, h5⟩
    by_cases z : b = i
    · right
      refine ⟨z, ?_, by omega, fun j x y => h3 j x (by omega), h4, .inl (by omega)⟩
      by_cases y : a = i
      · exfalso
        rcases h4 with e | e
        · omega
        · exact e (by rw [y]; exact c)
      · omega
    · left
      refine ⟨⟨h1, by omega, h3, h4, ?_⟩, fun e => ?_⟩
      · rcases h5 with e | e
        · omega
        · exact .inr e
      · rcases h5 with g | g
        · omega
        · exact g (by rw [e]; exact hw)
  · rintro (⟨⟨h1, h2, h3, h4, h5⟩, hb⟩ | ⟨rfl, h1, h2, h3, h4, h5⟩)
    · exact ⟨h1, by omega, h3, h4, .inr (h5.resolve_left hb)⟩
    · refine ⟨by omega, Nat.lt_succ_self _, fun j x y => ?_, h4, .inl rfl⟩
      by_cases z : j = b
      · rw [z]
        exact hw
      · exact h3 j x (by omega)
/-- where the last sign was w, the last run ends with it -/
theorem run_last {m : Nat → Bool} {i : Nat} {w : Bool} {L : List Pr} (hS : Srt L) (hM : ∀ q : Pr, q ∈ L ↔ MaxRun m i w q.1 q.2) (h0 : 0 < i) (c : m (i - 1) = w) : ∃ L0 a, L = L0 ++ [(a, i - 1)] := by
  have ex : ∃ a, MaxRun m i w a (i - 1) := by
    have lo : ∀ k, k ≤ i - 1 → (∀ j, k ≤ j → j ≤ i - 1 → m j = w) → ∃ a, a ≤ k ∧ (∀ j, a ≤ j → j ≤ i - 1 → m j = w) ∧ (a = 0 ∨ m (a - 1) ≠ w) := by
      intro k
      induction k with
      | zero => intro _ h; exact ⟨0, Nat.le_refl _, h, .inl rfl⟩
      | succ k ih =>
        intro hk h
        by_cases z : m k = w
        · obtain ⟨a, h1, h2, h3⟩ := ih (by omega) fun j x y => by
            by_cases v : j = k
            · rw [v]; exact z
            · exact h j (by omega) y
          exact ⟨a, by omega, h2, h3⟩
        · exact ⟨k + 1, Nat.le_refl _, h, .inr z⟩
    obtain ⟨a, a1, a2, a3⟩ := lo (i - 1) (Nat.le_refl _) fun j x y => by rw [show j = i - 1 by omega]; exact c
    exact ⟨a, a1, by omega, a2, a3, .inl (by omega)⟩
  obtain ⟨a, ha⟩ := ex
  have hin : (a, i - 1) ∈ L := (hM (a, i - 1)).mpr ha
  have hne : L ≠ [] := fun e => by rw [e] at hin; cases hin
  refine ⟨L.dropLast, a, ?_⟩
  have el := List.dropLast_concat_getLast hne
  have hl : L.getLast hne ∈ L := List.getLast_mem hne
  have hlm := (hM _).mp hl
  have e : L.getLast hne = (a, i - 1) := by
    rw [← el] at hin hS
    rcases List.mem_append.mp hin with z | z
    · exfalso
      have h1 := (List.pairwise_append.mp hS).2.2 _ z (L.getLast hne) (by simp)
      have h1' : a < (L.getLast hne).1 := h1
      obtain ⟨g1, g2, g3, g4, g5⟩ := hlm
      obtain ⟨k1, k2, k3, k4, k5⟩ := ha
      rcases g4 with e | e
      · omega
      · exact e (k3 _ (by omega) (by omega))
    · exact (List.mem_singleton.mp z).symm
  rw [← e]
  exact el.symm
end Rv
namespace Rv
open PySem PySem.Spec PyProof.Rows L2
def hf (hs : List Int) : Nat → Int := fun i => hs.getD i 0
theorem at_h {hs : List Int} {z : Int} {k : Nat} (e : z = (k : Int)) (hk : k < hs.length) : atI (hs.map V.int) z = some (.int (hf hs k)) := by
  have q : (hs.map V.int)[k]? = some (V.int (hf hs k)) := by
    rw [map_int_at hk]
    unfold hf
    rw [List.getD_eq_getElem?_getD, List.getElem?_eq_getElem hk]
    rfl
  exact at_of e q
/-- xs are pairs of places -/
def PrAt (H : Hp) (x : V) (q : Pr) : Prop := ∃ t, x = .ref t ∧ H t = some (.tup [.int (q.1 : Int), .int (q.2 : Int)])
def PrsAt (H : Hp) (xs : List V) (L : List Pr) : Prop := Paired (PrAt H) xs L
theorem PrsAt.mono {H H' : Hp} {xs : List V} {L : List Pr} (h : PrsAt H xs L) (e : ∀ t ys, H t = some (.tup ys) → H' t = some (.tup ys)) : PrsAt H' xs L := Paired.mapP h fun x q ⟨t, h1, h2⟩ => ⟨t, h1, e _ _ h2⟩
theorem PrsAt.len {H : Hp} {xs : List V} {L : List Pr} (h : PrsAt H xs L) : xs.length = L.length := Paired.length h
theorem PrsAt.get {H : Hp} : ∀ {xs : List V} {L : List Pr} {i : Nat} {x : V}, PrsAt H xs L → xs[i]? = some x → ∃ q, L[i]? = some q ∧ PrAt H x q
  | _, _, _, _, .nil, h => by simp at h
  | _, _, 0, x, .cons r t, h => ⟨_, rfl, by simp at h; rw [← h]; exact r⟩
  | _, _, i + 1, x, .cons r t, h => by
    obtain ⟨q, h1, h2⟩ := PrsAt.get (i := i) t (by simpa using h)
    exact ⟨q, by simpa using h1, h2⟩
theorem PrsAt.snoc {H : Hp} {xs : List V} {L : List Pr} {x : V} {q : Pr} (h : PrsAt H xs L) (z : PrAt H x q) : PrsAt H (xs ++ [x]) (L ++ [q]) := Paired.snoc h z
def spStretches (K : PySem.W.Frag) : Sp := fun vs H Q _ => ∃ t, ∃ hs : List Int, vs = [.ref t] ∧ H t = some (.tup (hs.map V.int)) ∧ hs.length ≤ 60 ∧
  ∀ p H' xs L, Same H H' → H p = none → H' p = some (.lst xs) → PrsAt H' xs L → L.length ≤ 60 → Srt L → (∀ q : Pr, q ∈ L ↔ Stre (hf hs) hs.length q.1 q.2) → Q (.ref p) H'
def spIsPeak (K : PySem.W.Frag) : Sp := fun vs H Q _ => ∃ t, ∃ hs : List Int, ∃ a b : Nat, vs = [.ref t, .int (a : Int), .int (b : Int)] ∧ H t = some (.tup (hs.map V.int)) ∧ a ≤ b ∧ b < hs.length ∧ Q (.bl (PKb (hf hs) hs.length a b)) H
def spPeaks (K : PySem.W.Frag) (C : Addr) : Sp := fun vs H Q _ => ∃ p, ∃ hs ws : List Int, vs = [.ref p] ∧ PCls K C ∧ ProfAt K C H p hs ws ∧ hs.length ≤ 60 ∧
  ∀ r H' xs L, Same H H' → H r = none → H' r = some (.lst xs) → PrsAt H' xs L → L.length ≤ 60 → Srt L → (∀ q : Pr, q ∈ L ↔ MaxRun (mark (hf hs) hs.length) hs.length true q.1 q.2) → Q (.ref r) H'
def spValleys (K : PySem.W.Frag) (C : Addr) : Sp := fun vs H Q _ => ∃ p, ∃ hs ws : List Int, vs = [.ref p] ∧ PCls K C ∧ ProfAt K C H p hs ws ∧ hs.length ≤ 60 ∧
  ∀ r H' xs L, Same H H' → H r = none → H' r = some (.lst xs) → PrsAt H' xs (gaps L) → Srt L → (∀ q : Pr, q ∈ L ↔ MaxRun (mark (hf hs) hs.length) hs.length true q.1 q.2) → Q (.ref r) H'
def spLIsPeak (K : PySem.W.Frag) : Sp := fun vs H Q _ => ∃ a, ∃ hs : List Int, ∃ i : Nat, vs = [.ref a, .int (i : Int)] ∧ H a = some (.lst (hs.map V.int)) ∧ hs.length ≤ 60 ∧ i < hs.length ∧ Q (.bl (mark (hf hs) hs.length i)) H
def mf (ms : List Bool) : Nat → Bool := fun i => ms.getD i false
def spLRuns (K : PySem.W.Frag) : Sp := fun vs H Q _ => ∃ a, ∃ ms : List Bool, ∃ w : Bool, vs = [.ref a, .bl w] ∧ H a = some (.lst (ms.map V.bl)) ∧ ms.length ≤ 60 ∧
  ∀ p H' xs L, Same H H' → H p = none → H' p = some (.lst xs) → PrsAt H' xs L → Srt L → (∀ q : Pr, q ∈ L ↔ MaxRun (mf ms) ms.length w q.1 q.2) → Q (.ref p) H'
def spLRows (K : PySem.W.Frag) : Sp := fun vs H Q _ => ∃ a xs L, vs = [.ref a] ∧ H a = some (.lst xs) ∧ PrsAt H xs L ∧ Q (.bl true) H
def t_stretches (K : PySem.W.Frag) : TS :=
  (tSeq (tAsg (tLst tNil) (gName 1))
    (tSeq (tAsg (tC (.int 0)) (gName 2))
    (tSeq (tFor (iRng1 (tCons (tCB (cLen K) (tCons (tVar 0) tNil)) tNil)) (gName 3) (tIfS (tOr (tTest (tOp rEq (tOp oAdd (tVar 3) (tC (.int 1))) (tCB (cLen K) (tCons (tVar 0) tNil)))) (tTest (tOp rNe (tOp (rIxT K) (tVar 0) (tOp oAdd (tVar 3) (tC (.int 1)))) (tOp (rIxT K) (tVar 0) (tVar 3))))) (tSeq (tDrop (tBM K "list" rAppend (tVar 1) (tCons (tTup (tCons (tVar 2) (tCons (tVar 3) tNil))) tNil)))
    (tAsg (tOp oAdd (tVar 3) (tC (.int 1))) (gName 2))) tNext))
    (tRet (tVar 1)))))
def t_is_peak (K : PySem.W.Frag) : TS :=
  (tSeq (tAsg (tOrV (tOp rEq (tVar 1) (tC (.int 0))) (tOp oLt (tOp (rIxT K) (tVar 0) (tOp oSub (tVar 1) (tC (.int 1)))) (tOp (rIxT K) (tVar 0) (tVar 1)))) (gName 3))
    (tSeq (tAsg (tOrV (tOp rEq (tOp oAdd (tVar 2) (tC (.int 1))) (tCB (cLen K) (tCons (tVar 0) tNil))) (tOp oLt (tOp (rIxT K) (tVar 0) (tOp oAdd (tVar 2) (tC (.int 1)))) (tOp (rIxT K) (tVar 0) (tVar 2)))) (gName 4))
    (tRet (tAndV (tVar 3) (tVar 4)))))
def t_peaks (K : PySem.W.Frag) (C_Profile : Addr) : TS :=
  (tSeq (tAsg (tProp C_Profile (getSp C_Profile "column_heights") [] E0 (tVar 0)) (gName 1))
    (tRet (tLc (iList K (tCall (spStretches K) [] E0 (tCons (tVar 1) tNil))) (gTup K 2 (gCons (gName 2) (gCons (gName 3) gNil))) (tB (tCall (spIsPeak K) [] E0 (tCons (tVar 1) (tCons (tVar 2) (tCons (tVar 3) tNil))))) (tTup (tCons (tVar 2) (tCons (tVar 3) tNil))) [2, 3])))
def t_valleys (K : PySem.W.Frag) (C_Profile : Addr) : TS :=
  (tSeq (tAsg (tCall (spPeaks K C_Profile) [] E0 (tCons (tVar 0) tNil)) (gName 1))
    (tRet (tLc (iZip K (tCons (tVar 1) (tCons (tSl (rSlL K) (tVar 1) (tPart (tC (.int 1))) tNoPart) tNil))) (gTup K 2 (gCons (gName 2) (gCons (gName 3) gNil))) tYes (tTup (tCons (tOp oAdd (tOp (rIxT K) (tVar 2) (tC (.int 1))) (tC (.int 1))) (tCons (tOp oSub (tOp (rIxT K) (tVar 3) (tC (.int 0))) (tC (.int 1))) tNil))) [2, 3])))
def t__law_is_peak (K : PySem.W.Frag) : TS :=
  (tSeq (tAsg (tVar 1) (gName 2))
    (tSeq (tWhile (tAnd (tTest (tOp oGt (tVar 2) (tC (.int 0)))) (tTest (tOp rEq (tOp (rIxL K) (tVar 0) (tOp oSub (tVar 2) (tC (.int 1)))) (tOp (rIxL K) (tVar 0) (tVar 1))))) (tAsg (tOp oSub (tVar 2) (tC (.int 1))) (gName 2)))
    (tSeq (tAsg (tVar 1) (gName 3))
    (tSeq (tWhile (tAnd (tTest (tOp oLt (tVar 3) (tOp oSub (tCB (cLen K) (tCons (tVar 0) tNil)) (tC (.int 1))))) (tTest (tOp rEq (tOp (rIxL K) (tVar 0) (tOp oAdd (tVar 3) (tC (.int 1)))) (tOp (rIxL K) (tVar 0) (tVar 1))))) (tAsg (tOp oAdd (tVar 3) (tC (.int 1))) (gName 3)))
    (tSeq (tIfS (tAnd (tTest (tOp oGt (tVar 2) (tC (.int 0)))) (tTest (tOp oGt (tOp (rIxL K) (tVar 0) (tOp oSub (tVar 2) (tC (.int 1)))) (tOp (rIxL K) (tVar 0) (tVar 1))))) (tRet (tC (.bl false))) tNext)
    (tRet (tOrV (tOp rEq (tVar 3) (tOp oSub (tCB (cLen K) (tCons (tVar 0) tNil)) (tC (.int 1)))) (tOp oLt (tOp (rIxL K) (tVar 0) (tOp oAdd (tVar 3) (tC (.int 1)))) (tOp (rIxL K) (tVar 0) (tVar 1))))))))))
def t__law_runs (K : PySem.W.Frag) : TS :=
  (tSeq (tAsg (tLst tNil) (gName 2))
    (tSeq (tFor (iRng1 (tCons (tCB (cLen K) (tCons (tVar 0) tNil)) tNil)) (gName 3) (tIfS (tAnd (tTest (tOp rEq (tOp (rIxL K) (tVar 0) (tVar 3)) (tVar 1))) (tAnd (tTest (tOp oGt (tVar 3) (tC (.int 0)))) (tTest (tOp rEq (tOp (rIxL K) (tVar 0) (tOp oSub (tVar 3) (tC (.int 1)))) (tVar 1))))) (tAsg (tTup (tCons (tOp (rIxT K) (tOp (rIxL K) (tVar 2) (tUn (rU fun i => .int (-i)) (tC (.int 1)))) (tC (.int 0))) (tCons (tVar 3) tNil))) (gSub (tVar 2) (tUn (rU fun i => .int (-i)) (tC (.int 1))) rSetL)) (tIfS (tTest (tOp rEq (tOp (rIxL K) (tVar 0) (tVar 3)) (tVar 1))) (tDrop (tBM K "list" rAppend (tVar 2) (tCons (tTup (tCons (tVar 3) (tCons (tVar 3) tNil))) tNil))) tNext)))
    (tRet (tVar 2))))
def t__law_rows (K : PySem.W.Frag) : TS :=
  (tSeq (tIfS (tNot (tB (tCB (rIsi K) (tCons (tVar 0) (tCons (tC (.ty "list")) tNil))))) (tRet (tC (.bl false))) tNext)
    (tSeq (tFor (iList K (tVar 0)) (gName 1) (tSeq (tIfS (tOr (tNot (tB (tCB (rIsi K) (tCons (tVar 1) (tCons (tC (.ty "tuple")) tNil))))) (tTest (tOp rNe (tCB (cLen K) (tCons (tVar 1) tNil)) (tC (.int 2))))) (tRet (tC (.bl false))) tNext)
    (tFor (iTup K (tVar 1)) (gName 2) (tIfS (tOr (tNot (tB (tCB (rIsi K) (tCons (tVar 2) (tCons (tC (.ty "int")) tNil))))) (tB (tCB (rIsi K) (tCons (tVar 2) (tCons (tC (.ty "bool")) tNil))))) (tRet (tC (.bl false))) tNext))))
    (tRet (tC (.bl true)))))
local macro_rules | `(tactic| walk_at "rv st") => `(tactic| first
  | with_reducible refine iteT ?_ | with_reducible refine iteF ?_ | with_reducible refine w_nx ?_ | with_reducible refine w_yes ?_ | with_reducible refine w_rt ?_ | with_reducible refine iteNT ?_ | with_reducible refine iteNF ?_ | with_reducible refine iteNRf ?_ | with_reducible refine iteRf ?_ | with_reducible refine w_seqA ?_ | with_reducible refine w_seqD ?_ | with_reducible refine w_seqP ?_ | with_reducible refine w_asg ?_ | with_reducible refine w_ret ?_ | with_reducible refine w_drop ?_ | with_reducible refine w_ifs ?_ | with_reducible refine w_next ?_ | with_reducible refine w_par ?_
  | with_reducible refine w_op ?_ | with_reducible refine w_un ?_ | ((with_reducible show tVar _ _ _ _); refine' w_var ?hv ?_; (case hv => exact rfl)) | with_reducible refine w_c ?_ | with_reducible refine w_test ?_ | with_reducible refine w_tB ?_
  | with_reducible refine w_bl ?_ | with_reducible refine w_I0 ?_ | with_reducible refine w_U ?_ | with_reducible refine w_eqI ?_ | with_reducible refine w_neI ?_
  | with_reducible refine w_cons ?_ | with_reducible refine w_nil ?_ | with_reducible refine w_gn ?_ | with_reducible refine w_gsub ?_ | with_reducible refine w_and ?_ | with_reducible refine w_or ?_ | with_reducible refine w_not ?_
  | with_reducible refine w_andV ?_ | with_reducible refine w_orV ?_ | with_reducible refine w_notV ?_ | with_reducible refine w_if ?_ | with_reducible refine w_cb ?_ | with_reducible refine w_call ?_ | with_reducible refine w_lst ?_ | with_reducible refine w_tup ?_
  | with_reducible refine w_sl ?_ | with_reducible refine w_noPart ?_ | with_reducible refine w_part ?_ | with_reducible refine w_ex1 ?_ | with_reducible refine w_exb ?_ | with_reducible refine w_intB ?_ | with_reducible refine w_intI ?_ | with_reducible refine w_abs ?_)
local macro_rules | `(tactic| walk_at "rv ix") => `(tactic| ((with_reducible show rIxL _ _ _ _ _); refine' w_ixL (sq_lst ?ha) ?hb ?_; (case ha => first | exact upd_same | assumption); (case hb => first | exact rfl | assumption)))
local macro_rules | `(tactic| walk_at "rv ar") => `(tactic| first
  | (refine' w_I ?hc ?_; (case hc => first | (show (0 : Int) < _; first | assumption | decide | omega) | exact pow_c (by decide) (by decide) (by first | decide | omega) (by first | decide | omega) | exact mul_r (by first | decide | omega) (by first | decide | omega) | exact mul_l (by first | decide | omega) (by first | decide | omega) | exact divw (by first | assumption | decide | omega) (by first | assumption | decide | omega))))
local macro_rules | `(tactic| walk_at "rv go") => `(tactic| repeat first | walk_at "rv st" | walk_at "rv ix" | ((with_reducible show rI _ _ _ _ _ _); walk_at "rv ar"))
theorem dec_i {a b : Nat} (x y : Int) (h : (x = y) ↔ (a = b)) : decide (x = y) = decide (a = b) := decide_eq_decide.mpr h
theorem p_stretches {K : PySem.W.Frag} {vs : List V} {H : Hp} {Q : VK} {E : XK} (h : spStretches K vs H Q E) : t_stretches K { nx := fun _ H' => Q .non H', rt := Q } (start ["heights", "runs", "first", "column"] vs) H := by
  obtain ⟨t, hs, rfl, ht, h60, k⟩ := h
  unfold t_stretches
  walk_at "rv go"
  refine ⟨szl (by decide), fun p np => ?_⟩
  walk_at "rv go"
  have e1 := same_new (o := .lst []) (Same.refl H) np
  have npt : t ≠ p := ne_of_none ht np
  refine w_seq ?_
  refine w_forR (n := hs.length) (by omega) (fun AQ q => ?_) (fun i σ' H' => ∃ first : Nat, ∃ c : Option V, ∃ xs L, σ' = [some (.ref t), some (.ref p), some (.int (first : Int)), c] ∧ H' t = some (.tup (hs.map V.int)) ∧ H' p = some (.lst xs) ∧ Same H H' ∧ PrsAt H' xs L ∧ SInv (hf hs) hs.length i first L ∧ L.length ≤ i)
    ⟨0, none, [], [], rfl, e1 _ _ ht, upd_same, e1, .nil, SInv.zero _ _, Nat.le_refl _⟩ ?_ ?_
  · walk_at "rv go"
    refine w_lenT (sq_tup (e1 _ _ ht)) ?_
    walk_at "rv go"
    rw [List.length_map]
    exact q
  · rintro i σ' H' hi ⟨first, c, xs, L, rfl, ht', hp', e', hP, hI, hL⟩
    have cut : (i + 1 = hs.length ∨ hf hs (i + 1) ≠ hf hs i) → (tSeq (tDrop (tBM K "list" rAppend (tVar 1) (tCons (tTup (tCons (tVar 2) (tCons (tVar 3) tNil))) tNil))) (tAsg (tOp oAdd (tVar 3) (tC (.int 1))) (gName 2)))
        { nx := (fun i σ' H' => ∃ first : Nat, ∃ c : Option V, ∃ xs L, σ' = [some (.ref t), some (.ref p), some (.int (first : Int)), c] ∧ H' t = some (.tup (hs.map V.int)) ∧ H' p = some (.lst xs) ∧ Same H H' ∧ PrsAt H' xs L ∧ SInv (hf hs) hs.length i first L ∧ L.length ≤ i) (i + 1), rt := Q } [some (.ref t), some (.ref p), some (.int (first : Int)), some (.int (i : Int))] H' := by
      intro hc
      walk_at "rv go"
      refine w_bm rfl hp' ?_
      walk_at "rv go"
      refine ⟨szl (by simp), fun T nT => ?_⟩
      walk_at "rv go"
      have pT : p ≠ T := ne_of_none hp' nT
      refine w_appR (by rw [upd_ne pT]; exact hp') (by rw [hP.len]; omega) ?_
      walk_at "rv go"
      have tT : t ≠ T := ne_of_none ht' nT
      refine ⟨i + 1, _, _, _, rfl, ?_, upd_same, ?_, PrsAt.snoc (hP.mono fun u ys hu => ?_) ⟨T, rfl, ?_⟩, hI.cut hi hc, ?_⟩
      · rw [upd_ne npt, upd_ne tT]
        exact ht'
      · exact fun b o hb => by
          have nb : b ≠ p := ne_of_none hb np
          rw [upd_ne nb, upd_ne (ne_of_none (e' _ _ hb) nT)]
          exact e' _ _ hb
      · have nu : u ≠ p := ne_of hu hp' (fun z => nomatch z)
        rw [upd_ne nu, upd_ne (ne_of_none hu nT)]
        exact hu
      · rw [upd_ne pT.symm, upd_same]
      · rw [List.length_append]
        show L.length + 1 ≤ i + 1
        omega
    refine w_ifs ?_
    walk_at "rv go"
    refine w_lenT (sq_tup ht') ?_
    walk_at "rv go"
    rw [List.length_map]
    refine w_both (fun h1 => ?_) (fun h1 => ?_)
    · refine iteT ?_
      exact cut (.inl (by omega))
    · walk_at "rv go"
      refine w_ixT (sq_tup ht') (at_h (k := i + 1) (by omega) (by omega)) ?_
      walk_at "rv go"
      refine w_ixT (sq_tup ht') (at_h (k := i) rfl hi) ?_
      walk_at "rv go"
      refine w_bothN (fun h2 => ?_) (fun h2 => ?_)
      · exact cut (.inr h2)
      · walk_at "rv go"
        exact ⟨first, _, xs, L, rfl, ht', hp', e', hP, hI.on (by omega) h2, by omega⟩
  · rintro σ' H' ⟨first, c, xs, L, rfl, ht', hp', e', hP, hI, hL⟩
    walk_at "rv go"
    refine k p H' xs L e' np hp' hP (by omega) hI.srt fun q => ?_
    rw [hI.mem]
    constructor
    · exact fun z => z.1
    · exact fun z => ⟨z, z.2.1⟩
theorem p_isPeak {K : PySem.W.Frag} {vs : List V} {H : Hp} {Q : VK} {E : XK} (h : spIsPeak K vs H Q E) : t_is_peak K { nx := fun _ H' => Q .non H', rt := Q } (start ["heights", "first", "last", "left_is_lower", "right_is_lower"] vs) H := by
  obtain ⟨t, hs, a, b, rfl, ht, hab, hb, k⟩ := h
  unfold t_is_peak
  refine w_cut (fun σ' H' => σ' = [some (.ref t), some (.int (a : Int)), some (.int (b : Int)), some (.bl (decide (a = 0) || decide (hf hs (a - 1) < hf hs a))), none] ∧ H' = H) (fun N key => ?_) ?_
  · refine w_asg ?_
    walk_at "rv go"
    refine w_both (fun h1 => ?_) (fun h1 => ?_)
    · have e : a = 0 := by omega
      walk_at "rv go"
      refine key _ _ ⟨?_, rfl⟩
      rw [decide_eq_true e, Bool.true_or]
      rfl
    · have e : ¬ a = 0 := by omega
      walk_at "rv go"
      refine w_ixT (sq_tup ht) (at_h (k := a - 1) (by omega) (by omega)) ?_
      walk_at "rv go"
      refine w_ixT (sq_tup ht) (at_h (k := a) rfl (by omega)) ?_
      walk_at "rv go"
      refine key _ _ ⟨?_, rfl⟩
      rw [decide_eq_false e, Bool.false_or]
      rfl
  · rintro σ1 H1 ⟨rfl, rfl⟩
    refine w_cut (fun σ' H' => σ' = [some (.ref t), some (.int (a : Int)), some (.int (b : Int)), some (.bl (decide (a = 0) || decide (hf hs (a - 1) < hf hs a))), some (.bl (decide (b + 1 = hs.length) || decide (hf hs (b + 1) < hf hs b)))] ∧ H' = H1) (fun N key => ?_) ?_
    · refine w_asg ?_
      walk_at "rv go"
      refine w_lenT (sq_tup ht) ?_
      walk_at "rv go"
      rw [List.length_map]
      refine w_both (fun h1 => ?_) (fun h1 => ?_)
      · have e : b + 1 = hs.length := by omega
        walk_at "rv go"
        refine key _ _ ⟨?_, rfl⟩
        rw [decide_eq_true e, Bool.true_or]
        rfl
      · have e : ¬ b + 1 = hs.length := by omega
        walk_at "rv go"
        refine w_ixT (sq_tup ht) (at_h (k := b + 1) (by omega) (by omega)) ?_
        walk_at "rv go"
        refine w_ixT (sq_tup ht) (at_h (k := b) rfl (by omega)) ?_
        walk_at "rv go"
        refine key _ _ ⟨?_, rfl⟩
        rw [decide_eq_false e, Bool.false_or]
        rfl
    · rintro σ2 H2 ⟨rfl, rfl⟩
      unfold PKb at k
      cases h1 : (decide (a = 0) || decide (hf hs (a - 1) < hf hs a)) with
      | true =>
        rw [h1, Bool.true_and] at k
        walk_at "rv go"
        exact k
      | false =>
        rw [h1, Bool.false_and] at k
        walk_at "rv go"
        exact k
theorem p_peaks {K : PySem.W.Frag} {C : Addr} {vs : List V} {H : Hp} {Q : VK} {E : XK} (h : spPeaks K C vs H Q E) : t_peaks K C { nx := fun _ H' => Q .non H', rt := Q } (start ["profile", "heights", "first", "last"] vs) H := by
  obtain ⟨p, hs, ws, rfl, P, ⟨dx, t1, t2, hp, h1, h2⟩, h60, k⟩ := h
  unfold t_peaks
  walk_at "rv go"
  refine w_prop rfl hp ?_
  refine ⟨p, dx, _, _, rfl, hp, pfl_h _ _, ?_⟩
  walk_at "rv go"
  refine w_lcl ?_
  walk_at "rv go"
  refine ⟨t1, hs, rfl, h1, h60, fun r H1 xs L e1 nr hr hP hL60 hS hM => ?_⟩
  refine ⟨r, rfl, ?_⟩
  refine w_lcA (sq_lst hr) (fun D i acc H' => ∃ L', H D = none ∧ Same H1 H' ∧ H1 D = none ∧ H' D = some (.lst acc) ∧ PrsAt H' acc L' ∧ L' = (L.take i).filter (fun q => PKb (hf hs) hs.length q.1 q.2) ∧ acc.length ≤ i)
    (fun D nD => ⟨[], e1.free nD, same_new (Same.refl H1) nD, nD, upd_same, .nil, by rw [List.take_zero]; rfl, Nat.le_refl _⟩) (fun D i acc H' ⟨_, _, e, _⟩ => sq_lst (e _ _ hr)) ?_ ?_
  · rintro D i acc x H' hx ⟨L', nD0, e', nD, hD, hP', hL', hl⟩
    obtain ⟨q, hq, T, rfl, hT⟩ := hP.get hx
    refine ⟨T, _, rfl, sq_tup (e' _ _ hT), rfl, _, _, rfl, _, _, rfl, rfl, rfl, ?_⟩
    walk_at "rv go"
    have hqL : q ∈ L := List.mem_of_getElem? hq
    obtain ⟨s1, s2, _⟩ := (hM q).mp hqL
    have il : i < L.length := (List.getElem?_eq_some_iff.mp hq).1
    have etk : L.take (i + 1) = L.take i ++ [q] := by rw [List.take_add_one, hq]; rfl
    refine ⟨t1, hs, q.1, q.2, rfl, e' _ _ (e1 _ _ h1), s1, s2, ?_⟩
    walk_at "rv go"
    cases hb : PKb (hf hs) hs.length q.1 q.2 with
    | true =>
      refine iteT ?_
      walk_at "rv go"
      refine ⟨szl (by simp), fun U nU => ?_⟩
      have DU : D ≠ U := ne_of_none hD nU
      refine ⟨acc, by rw [upd_ne DU]; exact hD, Nat.lt_of_lt_of_le (by omega : acc.length < 100001) (by decide), acc ++ [.ref U], L' ++ [q], nD0, ?_, nD, upd_same, PrsAt.snoc (hP'.mono fun u ys hu => ?_) ⟨U, rfl, ?_⟩, ?_, ?_⟩
      · exact fun b o hb => by
          rw [upd_ne (ne_of_none hb nD), upd_ne (ne_of_none (e' _ _ hb) nU)]
          exact e' _ _ hb
      · rw [upd_ne (ne_of hu hD (fun z => nomatch z)), upd_ne (ne_of_none hu nU)]
        exact hu
      · rw [upd_ne DU.symm, upd_same]
      · rw [etk, List.filter_append, ← hL']
        show L' ++ [q] = L' ++ List.filter _ [q]
        rw [List.filter_cons_of_pos (by exact hb)]
        rfl
      · rw [List.length_append]
        show acc.length + 1 ≤ i + 1
        omega
    | false =>
      refine iteF ?_
      refine ⟨acc, L', nD0, e', nD, hD, hP', ?_, by omega⟩
      rw [etk, List.filter_append, ← hL', List.filter_cons_of_neg (by rw [hb]; exact Bool.false_ne_true), List.filter_nil, List.append_nil]
  · rintro D acc H' ⟨L', nD0, e', nD, hD, hP', hL', hl⟩
    rw [hP.len, List.take_length] at hL'
    refine k D H' acc L' (e1.trans e') nD0 hD hP' (by rw [← hP'.len]; have := hP.len; omega) (by rw [hL']; exact List.Pairwise.filter _ hS) fun q => ?_
    rw [hL', List.mem_filter, hM, ← peak_run]
theorem p_valleys {K : PySem.W.Frag} {C : Addr} {vs : List V} {H : Hp} {Q : VK} {E : XK} (h : spValleys K C vs H Q E) : t_valleys K C { nx := fun _ H' => Q .non H', rt := Q } (start ["profile", "tops", "left", "right"] vs) H := by
  obtain ⟨p, hs, ws, rfl, P, hp, h60, k⟩ := h
  unfold t_valleys
  walk_at "rv go"
  refine ⟨p, hs, ws, rfl, P, hp, h60, fun r H1 xs L e1 nr hr hP hL60 hS hM => ?_⟩
  walk_at "rv go"
  refine w_lcz ?_
  walk_at "rv go"
  refine w_slL (sq_lst hr) fun r2 n2 => ?_
  have nr2 : r ≠ r2 := ne_of_none hr n2
  have hr' : upd H1 r2 (.lst (cutV xs (some 1) none)) r = some (.lst xs) := by rw [upd_ne nr2]; exact hr
  have hcut : cutV xs (some 1) none = xs.tail := by
    unfold cutV
    rw [show HT.sIx xs.length xs.length none = xs.length from rfl]
    cases xs with
    | nil => rfl
    | cons x s =>
      have e : HT.sIx (x :: s).length 0 (some 1) = 1 := by
        show min 1 (s.length + 1) = 1
        omega
      rw [e]
      show (s.drop 0).take (s.length + 1 - 1) = s
      rw [List.drop_zero, Nat.add_sub_cancel, List.take_length]
  walk_at "rv go"
  rw [hcut] at hr' ⊢
  have e2 : Same H1 (upd H1 r2 (.lst xs.tail)) := same_new (Same.refl H1) n2
  refine ⟨r, r2, xs, xs.tail, rfl, sq_lst hr', sq_lst upd_same, fun D nD => ?_⟩
  refine w_lcZ (fun D i acc H' => ∃ L', H D = none ∧ Same (upd H1 r2 (.lst xs.tail)) H' ∧ upd H1 r2 (.lst xs.tail) D = none ∧ H' D = some (.lst acc) ∧ PrsAt H' acc L' ∧ L' = ((L.zip L.tail).take i).map (fun x => gap x.1 x.2) ∧ acc.length ≤ i)
    ⟨[], (e1.trans e2).free nD, same_new (Same.refl _) nD, nD, upd_same, .nil, by rw [List.take_zero]; rfl, Nat.le_refl _⟩ (fun i acc H' ⟨_, _, e, _⟩ => ⟨sq_lst (e _ _ hr'), sq_lst (e _ _ upd_same)⟩) ?_ ?_
  · rintro i acc x y T H' hx hy ⟨L', nD0, e', nD', hD, hP', hL', hl⟩ nT
    have DT : D ≠ T := ne_of_none hD nT
    obtain ⟨q, hq, T1, rfl, hT1⟩ := hP.get hx
    have hy' : xs[i + 1]? = some y := by
      rw [← hy, List.getElem?_tail]
    obtain ⟨q2, hq2, T2, rfl, hT2⟩ := hP.get hy'
    refine ⟨T, _, rfl, sq_tup upd_same, rfl, _, _, rfl, _, _, rfl, rfl, rfl, ?_⟩
    walk_at "rv go"
    have g1 : upd H' T (.tup [.ref T1, .ref T2]) T1 = some (.tup [.int (q.1 : Int), .int (q.2 : Int)]) := by
      have z := e' _ _ (e2 _ _ hT1)
      rw [upd_ne (ne_of_none z nT)]
      exact z
    have g2 : upd H' T (.tup [.ref T1, .ref T2]) T2 = some (.tup [.int (q2.1 : Int), .int (q2.2 : Int)]) := by
      have z := e' _ _ (e2 _ _ hT2)
      rw [upd_ne (ne_of_none z nT)]
      exact z
    walk_at "rv go"
    refine w_ixT (sq_tup g1) rfl ?_
    walk_at "rv go"
    refine w_ixT (sq_tup g2) rfl ?_
    walk_at "rv go"
    refine ⟨szl (by simp), fun U nU => ?_⟩
    have hD2 : upd H' T (.tup [.ref T1, .ref T2]) D = some (.lst acc) := by rw [upd_ne DT]; exact hD
    have DU : D ≠ U := ne_of_none hD2 nU
    have hz : (L.zip L.tail)[i]? = some (q, q2) := by
      rw [List.getElem?_zip_eq_some]
      exact ⟨hq, by rw [List.getElem?_tail]; exact hq2⟩
    have lt12 : 0 < q2.1 := by
      have hm := (zip_next hS q q2).mp (List.mem_of_getElem? hz)
      omega
    have iL : i < L.length := (List.getElem?_eq_some_iff.mp hq).1
    refine ⟨acc, by rw [upd_ne DU]; exact hD2, Nat.lt_of_lt_of_le (by omega : acc.length < 100001) (by decide), acc ++ [.ref U], L' ++ [gap q q2], nD0, ?_, nD', upd_same, PrsAt.snoc (hP'.mono fun u ys hu => ?_) ⟨U, rfl, ?_⟩, ?_, ?_⟩
    · exact fun b o hb => by
        have z := e' _ _ hb
        rw [upd_ne (ne_of_none hb nD')]
        have z2 : upd H' T (.tup [.ref T1, .ref T2]) b = some o := by rw [upd_ne (ne_of_none z nT)]; exact z
        rw [upd_ne (ne_of_none z2 nU)]
        exact z2
    · have z2 : upd H' T (.tup [.ref T1, .ref T2]) u = some (.tup ys) := by rw [upd_ne (ne_of_none hu nT)]; exact hu
      rw [upd_ne (ne_of hu hD (fun z => nomatch z)), upd_ne (ne_of_none z2 nU)]
      exact z2
    · rw [upd_ne DU.symm, upd_same]
      show some (HO.tup [.int ((q.2 : Int) + 1), .int ((q2.1 : Int) - 1)]) = some (HO.tup [.int (((q.2 + 1 : Nat)) : Int), .int (((q2.1 - 1 : Nat)) : Int)])
      rw [show (((q.2 + 1 : Nat)) : Int) = (q.2 : Int) + 1 by omega, show (((q2.1 - 1 : Nat)) : Int) = (q2.1 : Int) - 1 by omega]
    · rw [List.take_add_one, hz, List.map_append, ← hL']
      rfl
    · rw [List.length_append]
      show acc.length + 1 ≤ i + 1
      omega
  · rintro acc H' ⟨L', nD0, e', nD', hD, hP', hL', hl⟩
    have el : min xs.length xs.tail.length = (L.zip L.tail).length := by
      rw [List.length_zip, List.length_tail, List.length_tail, hP.len]
    rw [el, List.take_length] at hL'
    refine k D H' acc L ((e1.trans e2).trans e') nD0 hD ?_ hS hM
    rw [hL'] at hP'
    exact hP'
theorem p_lIsPeak {K : PySem.W.Frag} {vs : List V} {H : Hp} {Q : VK} {E : XK} (h : spLIsPeak K vs H Q E) : t__law_is_peak K { nx := fun _ H' => Q .non H', rt := Q } (start ["_law_heights_here", "_law_at", "_law_left", "_law_right"] vs) H := by
  obtain ⟨a, hs, i, rfl, ha, h60, hi, k⟩ := h
  have hl := sq_lst (K := K) ha
  unfold t__law_is_peak
  walk_at "rv go"
  refine w_cut (fun σ' H' => ∃ l : Nat, σ' = [some (.ref a), some (.int (i : Int)), some (.int (l : Int)), none] ∧ H' = H ∧ LeftOf (hf hs) i l) (fun N key => ?_) ?_
  · refine w_while (fun m σ' H' => ∃ l : Nat, m = l ∧ σ' = [some (.ref a), some (.int (i : Int)), some (.int (l : Int)), none] ∧ H' = H ∧ l ≤ i ∧ ∀ j, l ≤ j → j ≤ i → hf hs j = hf hs i) (m := i) ⟨i, rfl, rfl, rfl, Nat.le_refl _, fun j x y => by rw [show j = i by omega]⟩ ?_
    rintro m σ' H' ⟨l, rfl, rfl, rfl, hli, hall⟩
    walk_at "rv go"
    refine w_both (fun h1 => ?_) (fun h1 => ?_)
    · walk_at "rv go"
      refine w_ixL hl (at_h (k := m - 1) (by omega) (by omega)) ?_
      walk_at "rv go"
      refine w_ixL hl (at_h (k := i) rfl hi) ?_
      walk_at "rv go"
      refine w_both (fun h2 => ?_) (fun h2 => ?_)
      · refine w_turn ?_
        refine w_asg ?_
        walk_at "rv go"
        refine ⟨m - 1, by omega, m - 1, rfl, ?_, rfl, by omega, fun j x y => ?_⟩
        · show [some (V.ref a), some (V.int (i : Int)), some (V.int ((m : Int) - 1)), none] = _
          rw [show ((m - 1 : Nat) : Int) = (m : Int) - 1 by omega]
        · by_cases z : j = m - 1
          · rw [z]
            exact h2
          · exact hall j (by omega) y
      · exact key _ _ ⟨m, rfl, rfl, hli, hall, .inr h2⟩
    · walk_at "rv go"
      exact key _ _ ⟨m, rfl, rfl, hli, hall, .inl (by omega)⟩
  · rintro σ1 H1 ⟨l, rfl, rfl, hL⟩
    walk_at "rv go"
    refine w_cut (fun σ' H' => ∃ r : Nat, σ' = [some (.ref a), some (.int (i : Int)), some (.int (l : Int)), some (.int (r : Int))] ∧ H' = H1 ∧ RightOf (hf hs) hs.length i r) (fun N key => ?_) ?_
    · refine w_while (fun m σ' H' => ∃ r : Nat, m + r = hs.length ∧ σ' = [some (.ref a), some (.int (i : Int)), some (.int (l : Int)), some (.int (r : Int))] ∧ H' = H1 ∧ i ≤ r ∧ r < hs.length ∧ ∀ j, i ≤ j → j ≤ r → hf hs j = hf hs i) (m := hs.length - i) ⟨i, by omega, rfl, rfl, Nat.le_refl _, hi, fun j x y => by rw [show j = i by omega]⟩ ?_
      rintro m σ' H' ⟨r, hm, rfl, rfl, hir, hrn, hall⟩
      walk_at "rv go"
      refine w_lenL hl ?_
      walk_at "rv go"
      rw [List.length_map]
      refine w_both (fun h1 => ?_) (fun h1 => ?_)
      · walk_at "rv go"
        refine w_ixL hl (at_h (k := r + 1) (by omega) (by omega)) ?_
        walk_at "rv go"
        refine w_ixL hl (at_h (k := i) rfl hi) ?_
        walk_at "rv go"
        refine w_both (fun h2 => ?_) (fun h2 => ?_)
        · refine w_turn ?_
          refine w_asg ?_
          walk_at "rv go"
          refine ⟨m - 1, by omega, r + 1, by omega, rfl, rfl, by omega, by omega, fun j x y => ?_⟩
          by_cases z : j = r + 1
          · rw [z]
            exact h2
          · exact hall j x (by omega)
        · exact key _ _ ⟨r, rfl, rfl, hir, hrn, hall, .inr h2⟩
      · walk_at "rv go"
        exact key _ _ ⟨r, rfl, rfl, hir, hrn, hall, .inl (by omega)⟩
    · rintro σ2 H2 ⟨r, rfl, rfl, hR⟩
      have em : mark (hf hs) hs.length i = PKb (hf hs) hs.length l r := mark_stre (stre_of hL hR) hL.1 hR.1
      rw [em] at k
      obtain ⟨l1, l2, l3⟩ := hL
      obtain ⟨r1, r2, r3, r4⟩ := hR
      have el : hf hs l = hf hs i := l2 l (Nat.le_refl _) l1
      have er : hf hs r = hf hs i := r3 r r1 (Nat.le_refl _)
      have left : l = 0 ∨ hf hs (l - 1) < hf hs l → Q (.bl (decide (r + 1 = hs.length) || decide (hf hs (r + 1) < hf hs r))) H2 := fun z => by
        unfold PKb at k
        have e : (decide (l = 0) || decide (hf hs (l - 1) < hf hs l)) = true := by simp only [Bool.or_eq_true, decide_eq_true_eq]; exact z
        rw [e, Bool.true_and] at k
        exact k
      refine w_cut (fun σ' H' => σ' = [some (.ref a), some (.int (i : Int)), some (.int (l : Int)), some (.int (r : Int))] ∧ H' = H2 ∧ (l = 0 ∨ hf hs (l - 1) < hf hs l)) (fun N key => ?_) ?_
      · refine w_ifs ?_
        walk_at "rv go"
        refine w_both (fun h1 => ?_) (fun h1 => ?_)
        · walk_at "rv go"
          refine w_ixL hl (at_h (k := l - 1) (by omega) (by omega)) ?_
          walk_at "rv go"
          refine w_ixL hl (at_h (k := i) rfl hi) ?_
          walk_at "rv go"
          refine w_both (fun h2 => ?_) (fun h2 => ?_)
          · walk_at "rv go"
            have e : (decide (l = 0) || decide (hf hs (l - 1) < hf hs l)) = false := by
              simp only [Bool.or_eq_false_iff, decide_eq_false_iff_not]
              constructor <;> omega
            unfold PKb at k
            rw [e, Bool.false_and] at k
            exact k
          · walk_at "rv go"
            refine key _ _ ⟨rfl, rfl, .inr ?_⟩
            rcases l3 with z | z <;> omega
        · walk_at "rv go"
          exact key _ _ ⟨rfl, rfl, .inl (by omega)⟩
      · rintro σ3 H3 ⟨rfl, rfl, hz⟩
        have q := left hz
        walk_at "rv go"
        refine w_lenL hl ?_
        walk_at "rv go"
        rw [List.length_map]
        refine w_both (fun h1 => ?_) (fun h1 => ?_)
        · have e : r + 1 = hs.length := by omega
          walk_at "rv go"
          rw [decide_eq_true e, Bool.true_or] at q
          exact q
        · have e : ¬ r + 1 = hs.length := by omega
          rw [decide_eq_false e, Bool.false_or, er] at q
          walk_at "rv go"
          refine w_ixL hl (at_h (k := r + 1) (by omega) (by omega)) ?_
          walk_at "rv go"
          refine w_ixL hl (at_h (k := i) rfl hi) ?_
          walk_at "rv go"
          exact q
theorem at_m {ms : List Bool} {z : Int} {k : Nat} (e : z = (k : Int)) (hk : k < ms.length) : atI (ms.map V.bl) z = some (.bl (mf ms k)) := by
  have q : (ms.map V.bl)[k]? = some (V.bl (mf ms k)) := by
    unfold mf
    rw [List.getElem?_map, List.getD_eq_getElem?_getD, List.getElem?_eq_getElem hk]
    rfl
  exact at_of e q
theorem prs_snoc_inv {H : Hp} {xs : List V} {L : List Pr} {q : Pr} (h : PrsAt H xs (L ++ [q])) : ∃ ys y, xs = ys ++ [y] ∧ PrsAt H ys L ∧ PrAt H y q := by
  have hl := h.len
  rw [List.length_append] at hl
  have hne : xs ≠ [] := fun e => by
    rw [e] at hl
    simp at hl
  have el := List.dropLast_concat_getLast hne
  have key : ∀ {ys : List V} {L : List Pr} {y : V} {q : Pr}, PrsAt H (ys ++ [y]) (L ++ [q]) → PrsAt H ys L ∧ PrAt H y q := by
    intro ys
    induction ys with
    | nil =>
      intro L y q h
      cases L with
      | nil =>
        cases h with
        | cons a b => exact ⟨.nil, a⟩
      | cons l r =>
        have := h.len
        simp at this
    | cons z r ih =>
      intro L y q h
      cases L with
      | nil =>
        have := h.len
        simp at this
      | cons l s =>
        cases h with
        | cons a b =>
          obtain ⟨h1, h2⟩ := ih b
          exact ⟨.cons a h1, h2⟩
  rw [← el] at h
  obtain ⟨h1, h2⟩ := key h
  exact ⟨_, _, el.symm, h1, h2⟩
theorem p_lRuns {K : PySem.W.Frag} {vs : List V} {H : Hp} {Q : VK} {E : XK} (h : spLRuns K vs H Q E) : t__law_runs K { nx := fun _ H' => Q .non H', rt := Q } (start ["_law_marks", "_law_wanted", "_law_found", "_law_at"] vs) H := by
  obtain ⟨a, ms, w, rfl, ha, h60, k⟩ := h
  unfold t__law_runs
  walk_at "rv go"
  refine ⟨szl (by decide), fun p np => ?_⟩
  walk_at "rv go"
  have e1 := same_new (o := .lst []) (Same.refl H) np
  have nap : a ≠ p := ne_of_none ha np
  refine w_seq ?_
  refine w_forR (n := ms.length) (by omega) (fun AQ q => ?_) (fun i σ' H' => ∃ c : Option V, ∃ xs L, σ' = [some (.ref a), some (.bl w), some (.ref p), c] ∧ H' a = some (.lst (ms.map V.bl)) ∧ H' p = some (.lst xs) ∧ Same H H' ∧ PrsAt H' xs L ∧ Srt L ∧ (∀ q : Pr, q ∈ L ↔ MaxRun (mf ms) i w q.1 q.2) ∧ L.length ≤ i)
    ⟨none, [], [], rfl, e1 _ _ ha, upd_same, e1, .nil, List.Pairwise.nil, fun q => ⟨(fun z => nomatch z), fun z => (run_none z).elim⟩, Nat.le_refl _⟩ ?_ ?_
  · walk_at "rv go"
    refine w_lenL (sq_lst (e1 _ _ ha)) ?_
    walk_at "rv go"
    rw [List.length_map]
    exact q
  · rintro i σ' H' hi ⟨c, xs, L, rfl, ha', hp', e', hP, hS, hM, hL⟩
    have hl := sq_lst (K := K) ha'
    -- a run that goes on
    have grow : mf ms i = w → 0 < i → mf ms (i - 1) = w → (tAsg (tTup (tCons (tOp (rIxT K) (tOp (rIxL K) (tVar 2) (tUn (rU fun i => .int (-i)) (tC (.int 1)))) (tC (.int 0))) (tCons (tVar 3) tNil))) (gSub (tVar 2) (tUn (rU fun i => .int (-i)) (tC (.int 1))) rSetL))
        { nx := (fun i σ' H' => ∃ c : Option V, ∃ xs L, σ' = [some (.ref a), some (.bl w), some (.ref p), c] ∧ H' a = some (.lst (ms.map V.bl)) ∧ H' p = some (.lst xs) ∧ Same H H' ∧ PrsAt H' xs L ∧ Srt L ∧ (∀ q : Pr, q ∈ L ↔ MaxRun (mf ms) i w q.1 q.2) ∧ L.length ≤ i) (i + 1), rt := Q } [some (.ref a), some (.bl w), some (.ref p), some (.int (i : Int))] H' := by
      intro h1 h2 h3
      obtain ⟨L0, b, rfl⟩ := run_last hS hM h2 h3
      obtain ⟨ys, y, rfl, hPy, T, rfl, hT⟩ := prs_snoc_inv hP
      refine w_asg ?_
      walk_at "rv go"
      refine w_ixL (sq_lst hp') (atI_last _ _) ?_
      walk_at "rv go"
      refine w_ixT (sq_tup hT) rfl ?_
      walk_at "rv go"
      refine ⟨szl (by simp), fun U nU => ?_⟩
      walk_at "rv go"
      have pU : p ≠ U := ne_of_none hp' nU
      have hj : ixN (ys ++ [V.ref T]).length (-1) = some ys.length := by
        unfold ixN
        rw [if_neg (by decide), if_pos (by rw [List.length_append]; simp; omega)]
        rw [List.length_append, List.length_singleton]
        congr 1
        omega
      refine w_setL (by rw [upd_ne pU]; exact hp') hj ?_
      have eset : (ys ++ [V.ref T]).set ys.length (V.ref U) = ys ++ [V.ref U] := by
        rw [List.set_append_right _ _ (Nat.le_refl _), Nat.sub_self]
        rfl
      rw [eset]
      have aU : a ≠ U := ne_of_none ha' nU
      have tk : ∀ t zs, H' t = some (.tup zs) → upd (upd H' U (.tup [.int (b : Int), .int (i : Int)])) p (.lst (ys ++ [.ref U])) t = some (.tup zs) := fun t zs ht => by
        rw [upd_ne (ne_of ht hp' (fun z => nomatch z)), upd_ne (ne_of_none ht nU)]
        exact ht
      refine ⟨_, _, L0 ++ [(b, i)], rfl, ?_, upd_same, ?_, PrsAt.snoc (hPy.mono tk) ⟨U, rfl, ?_⟩, ?_, fun q => ?_, ?_⟩
      · rw [upd_ne nap, upd_ne aU]
        exact ha'
      · exact fun c o hc => by
          rw [upd_ne (ne_of_none hc np), upd_ne (ne_of_none (e' _ _ hc) nU)]
          exact e' _ _ hc
      · rw [upd_ne pU.symm, upd_same]
      · obtain ⟨g1, g2, g3⟩ := List.pairwise_append.mp hS
        exact srt_app g1 fun q hq => g3 q hq (b, i - 1) (by simp)
      · have hb : MaxRun (mf ms) i w b (i - 1) := (hM (b, i - 1)).mp (by simp)
        rw [run_grow h1 h2 h3, List.mem_append, List.mem_singleton]
        constructor
        · rintro (z | rfl)
          · left
            have hq := (hM q).mp (List.mem_append_left _ z)
            refine ⟨hq, fun e => ?_⟩
            have h4 := (List.pairwise_append.mp hS).2.2 q z (b, i - 1) (by simp)
            have h4' : q.1 < b := h4
            obtain ⟨f1, f2, f3, f4, f5⟩ := hb
            obtain ⟨k1, k2, k3, k4, k5⟩ := hq
            rcases f4 with g | g
            · omega
            · exact g (k3 (b - 1) (by omega) (by omega))
          · right
            exact ⟨rfl, hb⟩
        · rintro (⟨hq, hn⟩ | ⟨e, hq⟩)
          · left
            rcases List.mem_append.mp ((hM q).mpr hq) with z | z
            · exact z
            · exfalso
              rw [List.mem_singleton.mp z] at hn
              apply hn
              show i - 1 + 1 = i
              omega
          · right
            have z := (hM (q.1, i - 1)).mpr hq
            rcases List.mem_append.mp z with y | y
            · exfalso
              have h4 := (List.pairwise_append.mp hS).2.2 _ y (b, i - 1) (by simp)
              have h4' : q.1 < b := h4
              obtain ⟨f1, f2, f3, f4, f5⟩ := hb
              obtain ⟨k1, k2, k3, k4, k5⟩ := hq
              rcases f4 with g | g
              · omega
              · exact g (k3 (b - 1) (by omega) (by omega))
            · have y2 := List.mem_singleton.mp y
              have y3 : q.1 = b := congrArg Prod.fst y2
              exact Prod.ext y3 e
      · rw [List.length_append] at hL ⊢
        simp at hL ⊢
        omega
    -- it begins, or there is none
    have other : (mf ms i = w → i = 0 ∨ mf ms (i - 1) ≠ w) → (tIfS (tTest (tOp rEq (tOp (rIxL K) (tVar 0) (tVar 3)) (tVar 1))) (tDrop (tBM K "list" rAppend (tVar 2) (tCons (tTup (tCons (tVar 3) (tCons (tVar 3) tNil))) tNil))) tNext)
        { nx := (fun i σ' H' => ∃ c : Option V, ∃ xs L, σ' = [some (.ref a), some (.bl w), some (.ref p), c] ∧ H' a = some (.lst (ms.map V.bl)) ∧ H' p = some (.lst xs) ∧ Same H H' ∧ PrsAt H' xs L ∧ Srt L ∧ (∀ q : Pr, q ∈ L ↔ MaxRun (mf ms) i w q.1 q.2) ∧ L.length ≤ i) (i + 1), rt := Q } [some (.ref a), some (.bl w), some (.ref p), some (.int (i : Int))] H' := by
      intro hc
      refine w_ifs ?_
      walk_at "rv go"
      refine w_ixL hl (at_m (k := i) rfl hi) ?_
      walk_at "rv go"
      refine w_eqB ?_
      walk_at "rv go"
      refine w_both (fun h1 => ?_) (fun h1 => ?_)
      · walk_at "rv go"
        refine w_bm rfl hp' ?_
        walk_at "rv go"
        refine ⟨szl (by simp), fun U nU => ?_⟩
        have pU : p ≠ U := ne_of_none hp' nU
        walk_at "rv go"
        refine w_appR (by rw [upd_ne pU]; exact hp') (by rw [hP.len]; omega) ?_
        have aU : a ≠ U := ne_of_none ha' nU
        have tk : ∀ t zs, H' t = some (.tup zs) → upd (upd H' U (.tup [.int (i : Int), .int (i : Int)])) p (.lst (xs ++ [.ref U])) t = some (.tup zs) := fun t zs ht => by
          rw [upd_ne (ne_of ht hp' (fun z => nomatch z)), upd_ne (ne_of_none ht nU)]
          exact ht
        refine ⟨_, _, L ++ [(i, i)], rfl, ?_, upd_same, ?_, PrsAt.snoc (hP.mono tk) ⟨U, rfl, ?_⟩, srt_app hS fun q hq => ?_, fun q => ?_, ?_⟩
        · rw [upd_ne nap, upd_ne aU]
          exact ha'
        · exact fun c o hc => by
            rw [upd_ne (ne_of_none hc np), upd_ne (ne_of_none (e' _ _ hc) nU)]
            exact e' _ _ hc
        · rw [upd_ne pU.symm, upd_same]
        · have h2 := (hM q).mp hq
          have h3 := h2.1
          have h4 := h2.2.1
          show q.1 < i
          omega
        · rw [run_new h1 (hc h1), List.mem_append, hM, List.mem_singleton]
          constructor
          · rintro (z | rfl)
            · exact .inl z
            · exact .inr ⟨rfl, rfl⟩
          · rintro (z | ⟨z1, z2⟩)
            · exact .inl z
            · exact .inr (Prod.ext z1 z2)
        · rw [List.length_append]
          show L.length + 1 ≤ i + 1
          omega
      · walk_at "rv go"
        exact ⟨_, xs, L, rfl, ha', hp', e', hP, hS, fun q => by rw [hM, run_skip h1], by omega⟩
    refine w_ifs ?_
    walk_at "rv go"
    refine w_ixL hl (at_m (k := i) rfl hi) ?_
    walk_at "rv go"
    refine w_eqB ?_
    walk_at "rv go"
    refine w_both (fun h1 => ?_) (fun h1 => ?_)
    · walk_at "rv go"
      refine w_both (fun h2 => ?_) (fun h2 => ?_)
      · walk_at "rv go"
        refine w_ixL hl (at_m (k := i - 1) (by omega) (by omega)) ?_
        walk_at "rv go"
        refine w_eqB ?_
        walk_at "rv go"
        refine w_both (fun h3 => ?_) (fun h3 => ?_)
        · exact grow h1 (by omega) h3
        · exact other fun _ => .inr h3
      · refine iteF ?_
        exact other fun _ => .inl (by omega)
    · refine iteF ?_
      exact other fun z => absurd z h1
  · rintro σ' H' ⟨c, xs, L, rfl, ha', hp', e', hP, hS, hM, hL⟩
    walk_at "rv go"
    exact k p H' xs L e' np hp' hP hS hM
theorem p_lRows {K : PySem.W.Frag} {vs : List V} {H : Hp} {Q : VK} {E : XK} (h : spLRows K vs H Q E) : t__law_rows K { nx := fun _ H' => Q .non H', rt := Q } (start ["_law_value", "_law_row", "_law_end"] vs) H := by
  obtain ⟨a, xs, L, rfl, ha, hP, k⟩ := h
  unfold t__law_rows
  refine w_seq ?_
  refine w_ifs ?_
  walk_at "rv go"
  refine isi_of (.ty "list") (.base (.lst ha)) kit_ll ?_
  walk_at "rv go"
  refine w_seq ?_
  refine w_forL (a := a) (fun Q q => ?_) (sq_lst ha) (fun i σ' H' => ∃ u v : Option V, σ' = [some (.ref a), u, v] ∧ H' = H) ⟨none, none, rfl, rfl⟩ (fun i σ' H' _ ⟨_, _, _, e⟩ => by rw [e]; exact sq_lst ha) ?_ ?_
  · walk_at "rv go"
    exact q
  · rintro i x σ' H' hx ⟨u, v, rfl, rfl⟩
    obtain ⟨q, hq, T, rfl, hT⟩ := hP.get hx
    walk_at "rv go"
    refine w_seq ?_
    refine w_ifs ?_
    walk_at "rv go"
    refine isi_of (.ty "tuple") (.base (.tup hT)) kit_tt ?_
    walk_at "rv go"
    refine w_lenT (sq_tup hT) ?_
    walk_at "rv go"
    refine w_bothN (fun z => absurd rfl z) (fun _ => ?_)
    walk_at "rv go"
    refine w_forT (a := T) (fun Q q => ?_) (sq_tup hT) (fun j σ' H2 => ∃ v : Option V, σ' = [some (.ref a), some (.ref T), v] ∧ H2 = H') ⟨v, rfl, rfl⟩ (fun j σ' H2 _ ⟨_, _, e⟩ => by rw [e]; exact sq_tup hT) ?_ ?_
    · walk_at "rv go"
      exact q
    · rintro j y σ' H2 hy ⟨v, rfl, rfl⟩
      have hi : ∃ z : Int, y = .int z := by
        match j, hy with
        | 0, hy => exact ⟨_, (Option.some.inj hy).symm⟩
        | 1, hy => exact ⟨_, (Option.some.inj hy).symm⟩
        | j + 2, hy => simp at hy
      obtain ⟨z, rfl⟩ := hi
      walk_at "rv go"
      refine isi_of (.ty "int") (.base (.int z)) kit_ii ?_
      walk_at "rv go"
      refine isi_of (.ty "bool") (.base (.int z)) kit_ib ?_
      walk_at "rv go"
      exact ⟨_, rfl, rfl⟩
    · rintro σ' H2 ⟨v, rfl, rfl⟩
      exact ⟨_, _, rfl, rfl⟩
  · rintro σ' H' ⟨u, v, rfl, rfl⟩
    walk_at "rv go"
    exact k
end Rv
namespace Rv
open PySem PySem.Spec PyProof.Rows L2
theorem u1 {k : Nat} {A : Around} (r : Room k A) : A.units + 65 < cLine := by
  have := r.un
  omega
section
variable {K : PySem.W.Frag} {σ : L2.St} {H : Hp} {Q : VK} {D : Ends} {slot : Nat} {tr : TA} {s1 : TS}
/-- for i in range(lo, hi): m turns -/
theorem w_forR2 {lo m : Nat} {hi : Int} (hm : m = (hi - (lo : Int)).toNat) (h1 : lo ≤ 100000) (h2 : -100000 ≤ hi ∧ hi ≤ 1000000) (ha : ∀ AQ : List V → Hp → Prop, AQ [.int (lo : Int), .int hi] H → tr σ H AQ) (Pv : Nat → L2.St → Hp → Prop) (h0 : Pv lo σ H)
    (hs : ∀ i σ' H', lo ≤ i → (i : Int) < hi → Pv i σ' H' → s1 { D with nx := Pv (i + 1), ct := Pv (i + 1), bk := D.nx } (σ'.set slot (some (.int (i : Int)))) H') (hd : ∀ σ' H', Pv (lo + m) σ' H' → D.nx σ' H') : tFor (iRng2 tr) (gName slot) s1 D σ H := by
  refine ha _ ⟨(lo : Int), hi, rfl, ⟨by omega, by omega, by omega, by omega⟩, ?_⟩
  rw [← hm]
  refine for_range (fun k => Pv (lo + k)) h0 (fun i σ' H' hi' q => ?_) hd
  show s1 _ (σ'.set slot (some (.int ((lo : Int) + (i : Int))))) H'
  have e : ((lo : Int) + (i : Int)) = ((lo + i : Nat) : Int) := by omega
  rw [e]
  exact hs (lo + i) σ' H' (Nat.le_add_right _ _) (by omega) q
end
/-! lakes, in plain numbers -/
def bnd (c : Nat → Int) (n p : Nat) (h : Int) : Bool := if p = 0 ∨ p + 1 = n then decide (h ≤ c p) else decide (h < c p)
abbrev Tr : Type := Int × Nat × Nat
def Lk (c : Nat → Int) (n : Nat) (q : Tr) : Prop := q.2.1 < q.2.2 ∧ q.2.2 + 1 < n ∧ (∀ j, q.2.1 < j → j ≤ q.2.2 → c j ≤ q.1) ∧ (∃ j, q.2.1 < j ∧ j ≤ q.2.2 ∧ c j = q.1) ∧ bnd c n q.2.1 q.1 = true ∧ bnd c n (q.2.2 + 1) q.1 = true
def TrAt (H : Hp) (x : V) (q : Tr) : Prop := ∃ t, x = .ref t ∧ H t = some (.tup [.int q.1, .int (q.2.1 : Int), .int (q.2.2 : Int)])
def TrsAt (H : Hp) (xs : List V) (L : List Tr) : Prop := Paired (TrAt H) xs L
theorem TrsAt.mono {H H' : Hp} {xs : List V} {L : List Tr} (h : TrsAt H xs L) (e : ∀ t ys, H t = some (.tup ys) → H' t = some (.tup ys)) : TrsAt H' xs L := Paired.mapP h fun x q ⟨t, h1, h2⟩ => ⟨t, h1, e _ _ h2⟩
theorem TrsAt.len {H : Hp} {xs : List V} {L : List Tr} (h : TrsAt H xs L) : xs.length = L.length := Paired.length h
theorem TrsAt.get {H : Hp} : ∀ {xs : List V} {L : List Tr} {i : Nat} {x : V}, TrsAt H xs L → xs[i]? = some x → ∃ q, L[i]? = some q ∧ TrAt H x q
  | _, _, _, _, .nil, h => by simp at h
  | _, _, 0, x, .cons r t, h => ⟨_, rfl, by simp at h; rw [← h]; exact r⟩
  | _, _, i + 1, x, .cons r t, h => by
    obtain ⟨q, h1, h2⟩ := TrsAt.get (i := i) t (by simpa using h)
    exact ⟨q, by simpa using h1, h2⟩
theorem TrsAt.snoc {H : Hp} {xs : List V} {L : List Tr} {x : V} {q : Tr} (h : TrsAt H xs L) (z : TrAt H x q) : TrsAt H (xs ++ [x]) (L ++ [q]) := Paired.snoc h z
def spBounds (K : PySem.W.Frag) : Sp := fun vs H Q _ => ∃ a, ∃ cs : List Int, ∃ p : Nat, ∃ h : Int, vs = [.ref a, .int (p : Int), .int h] ∧ H a = some (.lst (cs.map V.int)) ∧ p < cs.length ∧ Q (.bl (bnd (hf cs) cs.length p h)) H
def spFrom (K : PySem.W.Frag) : Sp := fun vs H Q _ => ∃ a, ∃ cs : List Int, ∃ f : Nat, vs = [.ref a, .int (f : Int)] ∧ H a = some (.lst (cs.map V.int)) ∧ cs.length ≤ 60 ∧ f + 2 < cs.length ∧
  ∀ r H' xs L, Same H H' → H r = none → H' r = some (.lst xs) → TrsAt H' xs L → L.length ≤ 60 → L.Pairwise (fun p q => p.2.2 < q.2.2) → (∀ q, q ∈ L ↔ Lk (hf cs) cs.length q ∧ q.2.1 = f) → Q (.ref r) H'
def spLake (K : PySem.W.Frag) : Sp := fun vs H Q _ => ∃ a, ∃ cs : List Int, ∃ p : Nat, vs = [.ref a, .int (p : Int)] ∧ H a = some (.lst (cs.map V.int)) ∧ cs.length ≤ 60 ∧ 1 ≤ p ∧ p + 1 < cs.length ∧
  ∀ t (o : Option Tr), H t = none → (∀ q, o = some q → Lk (hf cs) cs.length q) → (∀ q, Lk (hf cs) cs.length q → q.2.1 < p → p ≤ q.2.2 → hf cs p = q.1 → o = some q) →
    Q (.ref t) (upd H t (.tup (match o with
      | none => []
      | some q => [.int q.1, .int (q.2.1 : Int), .int (q.2.2 : Int)])))
def t_bounds (K : PySem.W.Frag) : TS :=
  (tSeq (tIfS (tOr (tTest (tOp rEq (tVar 1) (tC (.int 0)))) (tTest (tOp rEq (tVar 1) (tOp oSub (tCB (cLen K) (tCons (tVar 0) tNil)) (tC (.int 1)))))) (tRet (tOp oGe (tOp (rIxL K) (tVar 0) (tVar 1)) (tVar 2))) tNext)
    (tRet (tOp oGt (tOp (rIxL K) (tVar 0) (tVar 1)) (tVar 2))))
def t_lakes_from (K : PySem.W.Frag) : TS :=
  (tSeq (tAsg (tLst tNil) (gName 2))
    (tSeq (tAsg (tOp (rIxL K) (tVar 0) (tOp oAdd (tVar 1) (tC (.int 1)))) (gName 3))
    (tSeq (tFor (iRng2 (tCons (tOp oAdd (tVar 1) (tC (.int 1))) (tCons (tOp oSub (tCB (cLen K) (tCons (tVar 0) tNil)) (tC (.int 1))) tNil))) (gName 4) (tSeq (tIfS (tTest (tOp oGt (tOp (rIxL K) (tVar 0) (tVar 4)) (tVar 3))) (tAsg (tOp (rIxL K) (tVar 0) (tVar 4)) (gName 3)) tNext)
    (tIfS (tAnd (tB (tCall (spBounds K) [] E0 (tCons (tVar 0) (tCons (tVar 1) (tCons (tVar 3) tNil))))) (tB (tCall (spBounds K) [] E0 (tCons (tVar 0) (tCons (tOp oAdd (tVar 4) (tC (.int 1))) (tCons (tVar 3) tNil)))))) (tDrop (tBM K "list" rAppend (tVar 2) (tCons (tTup (tCons (tVar 3) (tCons (tVar 1) (tCons (tVar 4) tNil)))) tNil))) tNext)))
    (tRet (tVar 2)))))
def t__law_lake (K : PySem.W.Frag) : TS :=
  (tSeq (tAsg (tOp oSub (tVar 1) (tC (.int 1))) (gName 2))
    (tSeq (tWhile (tAnd (tTest (tOp oGt (tVar 2) (tC (.int 0)))) (tTest (tOp oLe (tOp (rIxL K) (tVar 0) (tVar 2)) (tOp (rIxL K) (tVar 0) (tVar 1))))) (tAsg (tOp oSub (tVar 2) (tC (.int 1))) (gName 2)))
    (tSeq (tAsg (tOp oAdd (tVar 1) (tC (.int 1))) (gName 3))
    (tSeq (tWhile (tAnd (tTest (tOp oLt (tVar 3) (tOp oSub (tCB (cLen K) (tCons (tVar 0) tNil)) (tC (.int 1))))) (tTest (tOp oLe (tOp (rIxL K) (tVar 0) (tVar 3)) (tOp (rIxL K) (tVar 0) (tVar 1))))) (tAsg (tOp oAdd (tVar 3) (tC (.int 1))) (gName 3)))
    (tSeq (tIfS (tOr (tTest (tOp oLt (tOp (rIxL K) (tVar 0) (tVar 2)) (tOp (rIxL K) (tVar 0) (tVar 1)))) (tTest (tOp oLt (tOp (rIxL K) (tVar 0) (tVar 3)) (tOp (rIxL K) (tVar 0) (tVar 1))))) (tRet (tTup tNil)) tNext)
    (tRet (tTup (tCons (tOp (rIxL K) (tVar 0) (tVar 1)) (tCons (tVar 2) (tCons (tOp oSub (tVar 3) (tC (.int 1))) tNil))))))))))
local macro_rules | `(tactic| walk_at "rv st") => `(tactic| first
  | with_reducible refine iteT ?_ | with_reducible refine iteF ?_ | with_reducible refine w_nx ?_ | with_reducible refine w_yes ?_ | with_reducible refine w_rt ?_ | with_reducible refine iteNT ?_ | with_reducible refine iteNF ?_ | with_reducible refine iteNRf ?_ | with_reducible refine iteRf ?_ | with_reducible refine w_seqA ?_ | with_reducible refine w_seqD ?_ | with_reducible refine w_seqP ?_ | with_reducible refine w_asg ?_ | with_reducible refine w_ret ?_ | with_reducible refine w_drop ?_ | with_reducible refine w_ifs ?_ | with_reducible refine w_next ?_ | with_reducible refine w_par ?_
  | with_reducible refine w_op ?_ | with_reducible refine w_un ?_ | ((with_reducible show tVar _ _ _ _); refine' w_var ?hv ?_; (case hv => exact rfl)) | with_reducible refine w_c ?_ | with_reducible refine w_test ?_ | with_reducible refine w_tB ?_
  | with_reducible refine w_bl ?_ | with_reducible refine w_I0 ?_ | with_reducible refine w_U ?_ | with_reducible refine w_eqI ?_ | with_reducible refine w_neI ?_
  | with_reducible refine w_cons ?_ | with_reducible refine w_nil ?_ | with_reducible refine w_gn ?_ | with_reducible refine w_gsub ?_ | with_reducible refine w_and ?_ | with_reducible refine w_or ?_ | with_reducible refine w_not ?_
  | with_reducible refine w_andV ?_ | with_reducible refine w_orV ?_ | with_reducible refine w_notV ?_ | with_reducible refine w_if ?_ | with_reducible refine w_cb ?_ | with_reducible refine w_call ?_ | with_reducible refine w_lst ?_ | with_reducible refine w_tup ?_
  | with_reducible refine w_sl ?_ | with_reducible refine w_noPart ?_ | with_reducible refine w_part ?_ | with_reducible refine w_ex1 ?_ | with_reducible refine w_exb ?_ | with_reducible refine w_intB ?_ | with_reducible refine w_intI ?_ | with_reducible refine w_abs ?_)
local macro_rules | `(tactic| walk_at "rv ix") => `(tactic| ((with_reducible show rIxL _ _ _ _ _); refine' w_ixL (sq_lst ?ha) ?hb ?_; (case ha => first | exact upd_same | assumption); (case hb => first | exact rfl | assumption)))
local macro_rules | `(tactic| walk_at "rv ar") => `(tactic| first
  | (refine' w_I ?hc ?_; (case hc => first | (show (0 : Int) < _; first | assumption | decide | omega) | exact pow_c (by decide) (by decide) (by first | decide | omega) (by first | decide | omega) | exact mul_r (by first | decide | omega) (by first | decide | omega) | exact mul_l (by first | decide | omega) (by first | decide | omega) | exact divw (by first | assumption | decide | omega) (by first | assumption | decide | omega))))
local macro_rules | `(tactic| walk_at "rv go") => `(tactic| repeat first | walk_at "rv st" | walk_at "rv ix" | ((with_reducible show rI _ _ _ _ _ _); walk_at "rv ar"))
theorem p_bounds {K : PySem.W.Frag} {vs : List V} {H : Hp} {Q : VK} {E : XK} (h : spBounds K vs H Q E) : t_bounds K { nx := fun _ H' => Q .non H', rt := Q } (start ["tops", "peak", "height"] vs) H := by
  obtain ⟨a, cs, p, h, rfl, hA, hp, q⟩ := h
  unfold t_bounds
  refine w_seq ?_
  walk_at "rv go"
  unfold bnd at q
  refine w_both (fun h1 => ?_) (fun h1 => ?_)
  · walk_at "rv go"
    refine w_ixL (sq_lst hA) (at_h rfl hp) ?_
    walk_at "rv go"
    rw [if_pos (Or.inl (by omega : p = 0))] at q
    exact q
  · walk_at "rv go"
    refine w_lenL (sq_lst hA) ?_
    walk_at "rv go"
    rw [List.length_map]
    refine w_both (fun h2 => ?_) (fun h2 => ?_)
    · walk_at "rv go"
      refine w_ixL (sq_lst hA) (at_h rfl hp) ?_
      walk_at "rv go"
      rw [if_pos (Or.inr (by omega : p + 1 = cs.length))] at q
      exact q
    · walk_at "rv go"
      refine w_ixL (sq_lst hA) (at_h rfl hp) ?_
      walk_at "rv go"
      rw [if_neg (by omega : ¬ (p = 0 ∨ p + 1 = cs.length))] at q
      exact q
theorem p_from {K : PySem.W.Frag} {vs : List V} {H : Hp} {Q : VK} {E : XK} (h : spFrom K vs H Q E) : t_lakes_from K { nx := fun _ H' => Q .non H', rt := Q } (start ["tops", "first", "found", "height", "last"] vs) H := by
  obtain ⟨a, cs, f, rfl, hA, h60, hf2, k⟩ := h
  unfold t_lakes_from
  walk_at "rv go"
  refine ⟨szl (by simp), fun r nr => ?_⟩
  have s1 : Same H (upd H r (.lst [])) := same_new (Same.refl H) nr
  walk_at "rv go"
  refine w_ixL (sq_lst (s1 _ _ hA)) (at_h (k := f + 1) (by omega) (by omega)) ?_
  walk_at "rv go"
  refine w_forR2 (lo := f + 1) (m := cs.length - 1 - (f + 1)) (hi := (cs.length : Int) - 1) (by omega) (by omega) (by omega) (fun AQ q => ?_)
    (fun i σ' H' => ∃ xs L h o4, σ' = [some (.ref a), some (.int (f : Int)), some (.ref r), some (.int h), o4] ∧ Same H H' ∧ H' r = some (.lst xs) ∧ TrsAt H' xs L ∧ L.length ≤ i ∧ (∀ j, f < j → j < i → hf cs j ≤ h) ∧ (∃ j, f < j ∧ (j < i ∨ j = f + 1) ∧ hf cs j = h) ∧
      L.Pairwise (fun p q => p.2.2 < q.2.2) ∧ (∀ q, q ∈ L ↔ Lk (hf cs) cs.length q ∧ q.2.1 = f ∧ q.2.2 < i))
    ⟨[], [], hf cs (f + 1), _, rfl, s1, upd_same, .nil, Nat.zero_le _, fun j h1 h2 => by omega, ⟨f + 1, by omega, .inr rfl, rfl⟩, .nil, fun q => ⟨fun z => absurd z List.not_mem_nil, fun ⟨z, z2, z3⟩ => absurd z.1 (by omega)⟩⟩ ?_ ?_
  · walk_at "rv go"
    refine w_lenL (sq_lst (s1 _ _ hA)) ?_
    walk_at "rv go"
    rw [List.length_map]
    have e : ((f : Int) + 1) = ((f + 1 : Nat) : Int) := by omega
    rw [e]
    exact q
  · rintro i σ' H' hlo hhi ⟨xs, L, h, o4, rfl, e', hr, hP, hl, hmax, hex, hpw, hmem⟩
    refine w_cut (fun σ2 H2 => ∃ h, σ2 = [some (.ref a), some (.int (f : Int)), some (.ref r), some (.int h), some (.int (i : Int))] ∧ H2 = H' ∧ (∀ j, f < j → j ≤ i → hf cs j ≤ h) ∧ (∃ j, f < j ∧ j ≤ i ∧ hf cs j = h)) (fun N key => ?_) ?_
    · refine w_ifs ?_
      walk_at "rv go"
      refine w_ixL (sq_lst (e' _ _ hA)) (at_h rfl (by omega)) ?_
      walk_at "rv go"
      refine w_both (fun h1 => ?_) (fun h1 => ?_)
      · walk_at "rv go"
        refine w_ixL (sq_lst (e' _ _ hA)) (at_h rfl (by omega)) ?_
        walk_at "rv go"
        refine key _ _ ⟨_, rfl, rfl, fun j a1 a2 => ?_, ⟨i, by omega, Nat.le_refl _, rfl⟩⟩
        by_cases hj : j = i
        · rw [hj]
          exact Int.le_refl _
        · have := hmax j a1 (by omega)
          omega
      · walk_at "rv go"
        refine key _ _ ⟨_, rfl, rfl, fun j a1 a2 => ?_, ?_⟩
        · by_cases hj : j = i
          · rw [hj]
            omega
          · exact hmax j a1 (by omega)
        · obtain ⟨j, b1, b2, b3⟩ := hex
          exact ⟨j, b1, by omega, b3⟩
    · rintro σ2 H2 ⟨h, rfl, rfl, hmax, hex⟩
      have hno : ¬ (bnd (hf cs) cs.length f h = true ∧ bnd (hf cs) cs.length (i + 1) h = true) → ∀ q, q ∈ L ↔ Lk (hf cs) cs.length q ∧ q.2.1 = f ∧ q.2.2 < i + 1 := fun hn q => by
        rw [hmem]
        constructor
        · rintro ⟨z1, z2, z3⟩
          exact ⟨z1, z2, by omega⟩
        · rintro ⟨z1, z2, z3⟩
          refine ⟨z1, z2, ?_⟩
          by_cases hi : q.2.2 = i
          · exfalso
            apply hn
            obtain ⟨y1, y2, y3, y4, y5, y6⟩ := z1
            rw [z2] at y3 y4 y5
            rw [hi] at y3 y4 y6
            have eh : q.1 = h := by
              obtain ⟨j, u1, u2, u3⟩ := y4
              obtain ⟨j', v1, v2, v3⟩ := hex
              have m1 := hmax j u1 u2
              have m2 := y3 j' v1 v2
              omega
            rw [eh] at y5 y6
            exact ⟨y5, y6⟩
          · omega
      refine w_ifs ?_
      walk_at "rv go"
      refine ⟨a, cs, f, h, rfl, e' _ _ hA, by omega, ?_⟩
      walk_at "rv go"
      have fin : ∀ L', L' = L → (¬ (bnd (hf cs) cs.length f h = true ∧ bnd (hf cs) cs.length (i + 1) h = true)) → ∃ xs L h1 o4, ([some (.ref a), some (.int (f : Int)), some (.ref r), some (.int h), some (.int (i : Int))] : L2.St) = [some (.ref a), some (.int (f : Int)), some (.ref r), some (.int h1), o4] ∧ Same H H2 ∧ H2 r = some (.lst xs) ∧ TrsAt H2 xs L ∧ L.length ≤ i + 1 ∧ (∀ j, f < j → j < i + 1 → hf cs j ≤ h1) ∧ (∃ j, f < j ∧ (j < i + 1 ∨ j = f + 1) ∧ hf cs j = h1) ∧
          L.Pairwise (fun p q => p.2.2 < q.2.2) ∧ (∀ q, q ∈ L ↔ Lk (hf cs) cs.length q ∧ q.2.1 = f ∧ q.2.2 < i + 1) := fun L' _ hn => ⟨xs, L, h, _, rfl, e', hr, hP, by omega, fun j a1 a2 => hmax j a1 (by omega), by
            obtain ⟨j, b1, b2, b3⟩ := hex
            exact ⟨j, b1, .inl (by omega), b3⟩, hpw, hno hn⟩
      refine w_bool (fun h1 => ?_) (fun h1 => ?_)
      · walk_at "rv go"
        refine ⟨a, cs, i + 1, h, by rw [show (((i + 1 : Nat)) : Int) = (i : Int) + 1 by omega]; rfl, e' _ _ hA, by omega, ?_⟩
        walk_at "rv go"
        refine w_bool (fun h2 => ?_) (fun h2 => ?_)
        · walk_at "rv go"
          refine w_bm rfl hr ?_
          walk_at "rv go"
          refine ⟨szl (by simp), fun u nu => ?_⟩
          walk_at "rv go"
          have ru : r ≠ u := ne_of_none hr nu
          refine w_appR (xs := xs) (by rw [upd_ne ru]; exact hr) (by rw [hP.len]; omega) ?_
          walk_at "rv go"
          refine ⟨xs ++ [.ref u], L ++ [(h, f, i)], h, _, rfl, ?_, upd_same, TrsAt.snoc (hP.mono fun t ys ht => ?_) ⟨u, rfl, ?_⟩, ?_, fun j a1 a2 => hmax j a1 (by omega), ?_, ?_, fun q => ?_⟩
          · exact fun b o hb => by
              rw [upd_ne (ne_of_none hb nr), upd_ne (ne_of_none (e' _ _ hb) nu)]
              exact e' _ _ hb
          · rw [upd_ne (ne_of ht hr (fun z => nomatch z)), upd_ne (ne_of_none ht nu)]
            exact ht
          · rw [upd_ne ru.symm, upd_same]
          · rw [List.length_append, List.length_singleton]
            omega
          · obtain ⟨j, b1, b2, b3⟩ := hex
            exact ⟨j, b1, .inl (by omega), b3⟩
          · refine List.pairwise_append.mpr ⟨hpw, List.pairwise_singleton _ _, fun p hp q hq => ?_⟩
            rw [List.mem_singleton.mp hq]
            exact ((hmem p).mp hp).2.2
          · rw [List.mem_append, List.mem_singleton, hmem]
            constructor
            · rintro (⟨z1, z2, z3⟩ | z)
              · exact ⟨z1, z2, by omega⟩
              · rw [z]
                exact ⟨⟨by show f < i; omega, by show i + 1 < _; omega, hmax, hex, h1, h2⟩, rfl, by show i < i + 1; omega⟩
            · rintro ⟨z1, z2, z3⟩
              by_cases hi : q.2.2 = i
              · right
                obtain ⟨y1, y2, y3, y4, y5, y6⟩ := z1
                rw [z2] at y3 y4
                rw [hi] at y3 y4
                have eh : q.1 = h := by
                  obtain ⟨j, u1, u2, u3⟩ := y4
                  obtain ⟨j', v1, v2, v3⟩ := hex
                  have m1 := hmax j u1 u2
                  have m2 := y3 j' v1 v2
                  omega
                obtain ⟨q1, q2, q3⟩ := q
                subst z2 eh hi
                rfl
              · left
                exact ⟨z1, z2, by omega⟩
        · walk_at "rv go"
          exact fin L rfl (fun z => by rw [h2] at z; exact Bool.false_ne_true z.2)
      · walk_at "rv go"
        exact fin L rfl (fun z => by rw [h1] at z; exact Bool.false_ne_true z.1)
  · rintro σ' H' ⟨xs, L, h, o4, rfl, e', hr, hP, hl, hmax, hex, hpw, hmem⟩
    walk_at "rv go"
    refine k r H' xs L e' nr hr hP (by omega) hpw fun q => ?_
    rw [hmem]
    constructor
    · rintro ⟨z1, z2, _⟩
      exact ⟨z1, z2⟩
    · rintro ⟨z1, z2⟩
      refine ⟨z1, z2, ?_⟩
      have := z1.2.1
      omega
/-- from p down: the first place that is 0 or higher -/
def LftL (c : Nat → Int) (p l : Nat) : Prop := l < p ∧ (∀ j, l < j → j < p → c j ≤ c p) ∧ (l = 0 ∨ c p < c l)
def RgtL (c : Nat → Int) (n p r : Nat) : Prop := p < r ∧ r < n ∧ (∀ j, p < j → j < r → c j ≤ c p) ∧ (r + 1 = n ∨ c p < c r)
theorem lk_of {c : Nat → Int} {n p l r : Nat} (hl : LftL c p l) (hr : RgtL c n p r) (h1 : ¬ c l < c p) (h2 : ¬ c r < c p) : Lk c n (c p, l, r - 1) := by
  obtain ⟨a1, a2, a3⟩ := hl
  obtain ⟨b1, b2, b3, b4⟩ := hr
  refine ⟨show l < r - 1 + 0 by omega, show r - 1 + 1 < n by omega, fun j y1 y2 => ?_, ⟨p, a1, show p ≤ r - 1 by omega, rfl⟩, ?_, ?_⟩
  · have y3 : j ≤ r - 1 := y2
    have y4 : l < j := y1
    show c j ≤ c p
    by_cases e : j = p
    · rw [e]
      exact Int.le_refl _
    · by_cases g : j < p
      · exact a2 j y4 g
      · exact b3 j (by omega) (by omega)
  · show bnd c n l (c p) = true
    unfold bnd
    split
    · exact decide_eq_true (by omega)
    · exact decide_eq_true (by omega)
  · show bnd c n (r - 1 + 1) (c p) = true
    have e : r - 1 + 1 = r := by omega
    rw [e]
    unfold bnd
    split
    · exact decide_eq_true (by omega)
    · exact decide_eq_true (by omega)
theorem lk_is {c : Nat → Int} {n p l r : Nat} (hl : LftL c p l) (hr : RgtL c n p r) {q : Tr} (k : Lk c n q) (h1 : q.2.1 < p) (h2 : p ≤ q.2.2) (h3 : c p = q.1) : ¬ c l < c p ∧ ¬ c r < c p ∧ q = (c p, l, r - 1) := by
  obtain ⟨h, f, t⟩ := q
  obtain ⟨k1, k2, k3, _, k5, k6⟩ := k
  dsimp only at k1 k2 k3 k5 k6 h1 h2 h3
  subst h3
  obtain ⟨a1, a2, a3⟩ := hl
  obtain ⟨b1, b2, b3, b4⟩ := hr
  have e1 : l = f := by
    rcases Nat.lt_trichotomy l f with g | g | g
    · have z := a2 f g h1
      unfold bnd at k5
      by_cases q0 : f = 0 ∨ f + 1 = n
      · omega
      · rw [if_neg q0] at k5
        have := of_decide_eq_true k5
        omega
    · exact g
    · have z := k3 l g (by omega)
      omega
  have e2 : r = t + 1 := by
    rcases Nat.lt_trichotomy r (t + 1) with g | g | g
    · have z := k3 r (by omega) (by omega)
      omega
    · exact g
    · have z := b3 (t + 1) (by omega) g
      unfold bnd at k6
      by_cases q0 : t + 1 = 0 ∨ t + 1 + 1 = n
      · omega
      · rw [if_neg q0] at k6
        have := of_decide_eq_true k6
        omega
  subst e1 e2
  unfold bnd at k5 k6
  refine ⟨?_, ?_, rfl⟩
  · split at k5
    · have := of_decide_eq_true k5
      omega
    · have := of_decide_eq_true k5
      omega
  · split at k6
    · have := of_decide_eq_true k6
      omega
    · have := of_decide_eq_true k6
      omega
theorem p_lake {K : PySem.W.Frag} {vs : List V} {H : Hp} {Q : VK} {E : XK} (h : spLake K vs H Q E) : t__law_lake K { nx := fun _ H' => Q .non H', rt := Q } (start ["_law_crests_here", "_law_peak", "_law_left", "_law_right"] vs) H := by
  obtain ⟨a, cs, p, rfl, hA, h60, hp1, hpn, k⟩ := h
  have hp : p < cs.length := by omega
  unfold t__law_lake
  walk_at "rv go"
  refine w_cut (fun σ2 H2 => ∃ l : Nat, σ2 = [some (.ref a), some (.int (p : Int)), some (.int (l : Int)), none] ∧ H2 = H ∧ LftL (hf cs) p l) (fun N key => ?_) ?_
  · refine w_while (fun m σ2 H2 => ∃ l : Nat, m = l ∧ σ2 = [some (.ref a), some (.int (p : Int)), some (.int (l : Int)), none] ∧ H2 = H ∧ l < p ∧ (∀ j, l < j → j < p → hf cs j ≤ hf cs p)) (m := p - 1) ⟨p - 1, rfl, by rw [show ((p - 1 : Nat) : Int) = (p : Int) - 1 by omega]; rfl, rfl, by omega, fun j a1 a2 => by omega⟩ ?_
    rintro m σ2 H2 ⟨l, rfl, rfl, rfl, hl, hmax⟩
    walk_at "rv go"
    refine w_both (fun h1 => ?_) (fun h1 => ?_)
    · walk_at "rv go"
      refine w_ixL (sq_lst hA) (at_h rfl (by omega)) ?_
      walk_at "rv go"
      refine w_ixL (sq_lst hA) (at_h rfl hp) ?_
      walk_at "rv go"
      refine w_both (fun h2 => ?_) (fun h2 => ?_)
      · refine w_turn ?_
        walk_at "rv go"
        refine ⟨m - 1, by omega, m - 1, rfl, by rw [show ((m - 1 : Nat) : Int) = (m : Int) - 1 by omega]; rfl, rfl, by omega, fun j a1 a2 => ?_⟩
        by_cases e : j = m
        · rw [e]
          exact h2
        · exact hmax j (by omega) a2
      · exact key _ _ ⟨m, rfl, rfl, hl, hmax, .inr (by omega)⟩
    · walk_at "rv go"
      exact key _ _ ⟨m, rfl, rfl, hl, hmax, .inl (by omega)⟩
  · rintro σ2 H2 ⟨l, rfl, rfl, hL⟩
    walk_at "rv go"
    refine w_cut (fun σ2 H3 => ∃ r : Nat, σ2 = [some (.ref a), some (.int (p : Int)), some (.int (l : Int)), some (.int (r : Int))] ∧ H3 = H2 ∧ RgtL (hf cs) cs.length p r) (fun N key => ?_) ?_
    · refine w_while (fun m σ2 H3 => ∃ r : Nat, m = cs.length - r ∧ σ2 = [some (.ref a), some (.int (p : Int)), some (.int (l : Int)), some (.int (r : Int))] ∧ H3 = H2 ∧ p < r ∧ r < cs.length ∧ (∀ j, p < j → j < r → hf cs j ≤ hf cs p)) (m := cs.length - (p + 1)) ⟨p + 1, rfl, by rw [show ((p + 1 : Nat) : Int) = (p : Int) + 1 by omega]; rfl, rfl, by omega, hpn, fun j a1 a2 => by omega⟩ ?_
      rintro m σ2 H3 ⟨r, rfl, rfl, rfl, hr, hrn, hmax⟩
      walk_at "rv go"
      refine w_lenL (sq_lst hA) ?_
      walk_at "rv go"
      rw [List.length_map]
      refine w_both (fun h1 => ?_) (fun h1 => ?_)
      · walk_at "rv go"
        refine w_ixL (sq_lst hA) (at_h rfl (by omega)) ?_
        walk_at "rv go"
        refine w_ixL (sq_lst hA) (at_h rfl hp) ?_
        walk_at "rv go"
        refine w_both (fun h2 => ?_) (fun h2 => ?_)
        · refine w_turn ?_
          walk_at "rv go"
          refine ⟨cs.length - (r + 1), by omega, r + 1, rfl, by rw [show ((r + 1 : Nat) : Int) = (r : Int) + 1 by omega]; rfl, rfl, by omega, by omega, fun j a1 a2 => ?_⟩
          by_cases e : j = r
          · rw [e]
            exact h2
          · exact hmax j a1 (by omega)
        · exact key _ _ ⟨r, rfl, rfl, hr, hrn, hmax, .inr (by omega)⟩
      · walk_at "rv go"
        exact key _ _ ⟨r, rfl, rfl, hr, hrn, hmax, .inl (by omega)⟩
    · rintro σ2 H3 ⟨r, rfl, rfl, hR⟩
      have hl' := hL.1
      have hr' := hR.2.1
      refine w_seq ?_
      walk_at "rv go"
      refine w_ixL (sq_lst hA) (at_h rfl (by omega)) ?_
      walk_at "rv go"
      refine w_ixL (sq_lst hA) (at_h rfl hp) ?_
      walk_at "rv go"
      refine w_both (fun h1 => ?_) (fun h1 => ?_)
      · walk_at "rv go"
        refine ⟨szl (by simp), fun t nt => ?_⟩
        exact k t none nt (fun q z => nomatch z) fun q y1 y2 y3 y4 => absurd h1 (lk_is hL hR y1 y2 y3 y4).1
      · walk_at "rv go"
        refine w_ixL (sq_lst hA) (at_h rfl hr') ?_
        walk_at "rv go"
        refine w_ixL (sq_lst hA) (at_h rfl hp) ?_
        walk_at "rv go"
        refine w_both (fun h2 => ?_) (fun h2 => ?_)
        · walk_at "rv go"
          refine ⟨szl (by simp), fun t nt => ?_⟩
          exact k t none nt (fun q z => nomatch z) fun q y1 y2 y3 y4 => absurd h2 (lk_is hL hR y1 y2 y3 y4).2.1
        · walk_at "rv go"
          refine w_ixL (sq_lst hA) (at_h rfl hp) ?_
          walk_at "rv go"
          refine ⟨szl (by simp), fun t nt => ?_⟩
          have z := k t (some (hf cs p, l, r - 1)) nt (fun q z => by cases z; exact lk_of hL hR h1 h2) fun q y1 y2 y3 y4 => by rw [(lk_is hL hR y1 y2 y3 y4).2.2]
          have e : ((r - 1 : Nat) : Int) = (r : Int) - 1 := by
            have := hR.1
            omega
          dsimp only at z
          rw [e] at z
          exact z
end Rv
namespace Rv
open PySem PySem.Spec PyProof.Rows L2
def spTops (K : PySem.W.Frag) (C : Addr) : Sp := fun vs H Q _ => ∃ p, ∃ hs ws : List Int, vs = [.ref p] ∧ PCls K C ∧ ProfAt K C H p hs ws ∧ hs.length ≤ 60 ∧
  ∀ r H' (L : List Pr), Same H H' → H r = none → H' r = some (.lst ((L.map fun q => hf hs q.1).map V.int)) → L.length ≤ 60 → Srt L → (∀ q : Pr, q ∈ L ↔ MaxRun (mark (hf hs) hs.length) hs.length true q.1 q.2) → Q (.ref r) H'
def spCrests (K : PySem.W.Frag) : Sp := fun vs H Q _ => ∃ a, ∃ hs : List Int, vs = [.ref a] ∧ H a = some (.lst (hs.map V.int)) ∧ hs.length ≤ 60 ∧ (∀ z ∈ hs, -10000000000000000000000000000000 < z) ∧
  ∀ r H' (L : List Pr), Same H H' → H r = none → H' r = some (.lst ((L.map fun q => hf hs q.1).map V.int)) → L.length ≤ 60 → Srt L → (∀ q : Pr, q ∈ L ↔ MaxRun (mark (hf hs) hs.length) hs.length true q.1 q.2) → Q (.ref r) H'
def GOk (z : Int) : Prop := 0 ≤ z ∧ z ≤ 200000000000000000000000000000
def spGround (K : PySem.W.Frag) : Sp := fun vs H Q _ => ∃ d c, vs = [.ref d] ∧ DrawsAt H d c ∧
  ∀ p H' (hs : List Int), 1 ≤ hs.length → hs.length ≤ 60 → (∀ z ∈ hs, GOk z) → But d H H' → DrawsAt H' d c → H p = none → H' p = some (.lst (hs.map V.int)) → Q (.ref p) H'
def spRows3 (K : PySem.W.Frag) : Sp := fun vs H Q _ => ∃ a xs L, vs = [.ref a] ∧ H a = some (.lst xs) ∧ TrsAt H xs L ∧ Q (.bl true) H
def t_peak_heights (K : PySem.W.Frag) (C_Profile : Addr) : TS :=
  (tRet (tLc (iList K (tCall (spPeaks K C_Profile) [] E0 (tCons (tVar 0) tNil))) (gTup K 2 (gCons (gName 1) (gCons (gName 2) gNil))) tYes (tOp (rIxT K) (tProp C_Profile (getSp C_Profile "column_heights") [] E0 (tVar 0)) (tVar 1)) [1, 2]))
def t__law_crests (K : PySem.W.Frag) : TS :=
  (tSeq (tAsg (tLst tNil) (gName 1))
    (tSeq (tAsg (tC (.bl true)) (gName 2))
    (tSeq (tFor (iRng1 (tCons (tCB (cLen K) (tCons (tVar 0) tNil)) tNil)) (gName 3) (tSeq (tAsg (tLst (tCons (tOp oSub (tC (.int 0)) (tOp oPow (tC (.int 10)) (tC (.int 31)))) tNil)) (gName 4))
    (tSeq (tIfS (tTest (tOp oLt (tOp oAdd (tVar 3) (tC (.int 1))) (tCB (cLen K) (tCons (tVar 0) tNil)))) (tAsg (tLst (tCons (tOp (rIxL K) (tVar 0) (tOp oAdd (tVar 3) (tC (.int 1)))) tNil)) (gName 4)) tNext)
    (tSeq (tIfS (tTest (tOp oGt (tOp (rIxL K) (tVar 4) (tC (.int 0))) (tOp (rIxL K) (tVar 0) (tVar 3)))) (tAsg (tC (.bl true)) (gName 2)) tNext)
    (tIfS (tTest (tOp oLt (tOp (rIxL K) (tVar 4) (tC (.int 0))) (tOp (rIxL K) (tVar 0) (tVar 3)))) (tSeq (tIfS (tB (tVar 2)) (tDrop (tBM K "list" rAppend (tVar 1) (tCons (tOp (rIxL K) (tVar 0) (tVar 3)) tNil))) tNext)
    (tAsg (tC (.bl false)) (gName 2))) tNext)))))
    (tRet (tVar 1)))))
def t__law_ground (K : PySem.W.Frag) : TS :=
  (tSeq (tAsg (tOp oAdd (tC (.int 3)) (tCall (spDraw K) [] E0 (tCons (tVar 0) (tCons (tOp (rIxL K) (tLst (tCons (tC (.int 9)) (tCons (tC (.int 58)) tNil))) (tCB cInt (tCons (tOp rEq (tCall (spDraw K) [] E0 (tCons (tVar 0) (tCons (tC (.int 4)) tNil))) (tC (.int 3))) tNil))) tNil)))) (gName 1))
    (tSeq (tAsg (tOp (rIxL K) (tLst (tCons (tC (.int 2)) (tCons (tC (.int 4)) (tCons (tC (.int 7)) (tCons (tOp oPow (tC (.int 10)) (tC (.int 29))) tNil))))) (tCall (spDraw K) [] E0 (tCons (tVar 0) (tCons (tC (.int 4)) tNil)))) (gName 2))
    (tSeq (tAsg (tLc (iRng1 (tCons (tVar 1) tNil)) (gName 4) tYes (tCall (spDraw K) [] E0 (tCons (tVar 0) (tCons (tVar 2) tNil))) [4]) (gName 3))
    (tSeq (tIfS (tTest (tOp oGt (tCall (spDraw K) [] E0 (tCons (tVar 0) (tCons (tC (.int 4)) tNil))) (tC (.int 0)))) (tAsg (tLc (iRng1 (tCons (tVar 1) tNil)) (gName 4) tYes (tOp oAdd (tOp (rIxL K) (tVar 3) (tVar 4)) (tOp oMul (tVar 2) (tOp oMod (tVar 4) (tC (.int 2))))) [4]) (gName 3)) tNext)
    (tRet (tVar 3))))))
def t__law_rows3 (K : PySem.W.Frag) : TS :=
  (tSeq (tIfS (tNot (tB (tCB (rIsi K) (tCons (tVar 0) (tCons (tC (.ty "list")) tNil))))) (tRet (tC (.bl false))) tNext)
    (tSeq (tFor (iList K (tVar 0)) (gName 1) (tSeq (tIfS (tOr (tNot (tB (tCB (rIsi K) (tCons (tVar 1) (tCons (tC (.ty "tuple")) tNil))))) (tTest (tOp rNe (tCB (cLen K) (tCons (tVar 1) tNil)) (tC (.int 3))))) (tRet (tC (.bl false))) tNext)
    (tFor (iTup K (tVar 1)) (gName 2) (tIfS (tOr (tNot (tB (tCB (rIsi K) (tCons (tVar 2) (tCons (tC (.ty "int")) tNil))))) (tB (tCB (rIsi K) (tCons (tVar 2) (tCons (tC (.ty "bool")) tNil))))) (tRet (tC (.bl false))) tNext))))
    (tRet (tC (.bl true)))))
local macro_rules | `(tactic| walk_at "rv st") => `(tactic| first
  | with_reducible refine iteT ?_ | with_reducible refine iteF ?_ | with_reducible refine w_nx ?_ | with_reducible refine w_yes ?_ | with_reducible refine w_rt ?_ | with_reducible refine iteNT ?_ | with_reducible refine iteNF ?_ | with_reducible refine iteNRf ?_ | with_reducible refine iteRf ?_ | with_reducible refine w_seqA ?_ | with_reducible refine w_seqD ?_ | with_reducible refine w_seqP ?_ | with_reducible refine w_asg ?_ | with_reducible refine w_ret ?_ | with_reducible refine w_drop ?_ | with_reducible refine w_ifs ?_ | with_reducible refine w_next ?_ | with_reducible refine w_par ?_
  | with_reducible refine w_op ?_ | with_reducible refine w_un ?_ | ((with_reducible show tVar _ _ _ _); refine' w_var ?hv ?_; (case hv => exact rfl)) | with_reducible refine w_c ?_ | with_reducible refine w_test ?_ | with_reducible refine w_tB ?_
  | with_reducible refine w_bl ?_ | with_reducible refine w_I0 ?_ | with_reducible refine w_U ?_ | with_reducible refine w_eqI ?_ | with_reducible refine w_neI ?_
  | with_reducible refine w_cons ?_ | with_reducible refine w_nil ?_ | with_reducible refine w_gn ?_ | with_reducible refine w_gsub ?_ | with_reducible refine w_and ?_ | with_reducible refine w_or ?_ | with_reducible refine w_not ?_
  | with_reducible refine w_andV ?_ | with_reducible refine w_orV ?_ | with_reducible refine w_notV ?_ | with_reducible refine w_if ?_ | with_reducible refine w_cb ?_ | with_reducible refine w_call ?_ | with_reducible refine w_lst ?_ | with_reducible refine w_tup ?_
  | with_reducible refine w_sl ?_ | with_reducible refine w_noPart ?_ | with_reducible refine w_part ?_ | with_reducible refine w_ex1 ?_ | with_reducible refine w_exb ?_ | with_reducible refine w_intB ?_ | with_reducible refine w_intI ?_ | with_reducible refine w_abs ?_)
local macro_rules | `(tactic| walk_at "rv ix") => `(tactic| ((with_reducible show rIxL _ _ _ _ _); refine' w_ixL (sq_lst ?ha) ?hb ?_; (case ha => first | exact upd_same | assumption); (case hb => first | exact rfl | assumption)))
local macro_rules | `(tactic| walk_at "rv ar") => `(tactic| first
  | (refine' w_I ?hc ?_; (case hc => first | (show (0 : Int) < _; first | assumption | decide | omega) | exact pow_c (by decide) (by decide) (by first | decide | omega) (by first | decide | omega) | exact mul_r (by first | decide | omega) (by first | decide | omega) | exact mul_l (by first | decide | omega) (by first | decide | omega) | exact divw (by first | assumption | decide | omega) (by first | assumption | decide | omega))))
local macro_rules | `(tactic| walk_at "rv go") => `(tactic| repeat first | walk_at "rv st" | walk_at "rv ix" | ((with_reducible show rI _ _ _ _ _ _); walk_at "rv ar"))
theorem p_tops {K : PySem.W.Frag} {C : Addr} {vs : List V} {H : Hp} {Q : VK} {E : XK} (h : spTops K C vs H Q E) : t_peak_heights K C { nx := fun _ H' => Q .non H', rt := Q } (start ["profile", "first", "last"] vs) H := by
  obtain ⟨p, hs, ws, rfl, P, ⟨dx, t1, t2, hp, h1, h2⟩, h60, k⟩ := h
  unfold t_peak_heights
  walk_at "rv go"
  refine w_lcl ?_
  walk_at "rv go"
  refine ⟨p, hs, ws, rfl, P, ⟨dx, t1, t2, hp, h1, h2⟩, h60, fun r H1 xs L e1 nr hr hP hL60 hS hM => ?_⟩
  refine ⟨r, rfl, ?_⟩
  refine w_lcA (sq_lst hr) (fun D i acc H' => H D = none ∧ Same H1 H' ∧ H1 D = none ∧ H' D = some (.lst acc) ∧ acc = ((L.take i).map fun q => hf hs q.1).map V.int ∧ acc.length ≤ i)
    (fun D nD => ⟨e1.free nD, same_new (Same.refl H1) nD, nD, upd_same, by rw [List.take_zero]; rfl, Nat.le_refl _⟩) (fun D i acc H' ⟨_, e, _⟩ => sq_lst (e _ _ hr)) ?_ ?_
  · rintro D i acc x H' hx ⟨nD0, e', nD, hD, hacc, hl⟩
    obtain ⟨q, hq, T, rfl, hT⟩ := hP.get hx
    refine ⟨T, _, rfl, sq_tup (e' _ _ hT), rfl, _, _, rfl, _, _, rfl, rfl, rfl, ?_⟩
    walk_at "rv go"
    have hqL : q ∈ L := List.mem_of_getElem? hq
    have s := (hM q).mp hqL
    have il : i < L.length := (List.getElem?_eq_some_iff.mp hq).1
    have etk : L.take (i + 1) = L.take i ++ [q] := by rw [List.take_add_one, hq]; rfl
    refine w_prop rfl (e' _ _ (e1 _ _ hp)) ?_
    refine ⟨p, dx, _, _, rfl, e' _ _ (e1 _ _ hp), pfl_h _ _, ?_⟩
    walk_at "rv go"
    refine w_ixT (sq_tup (e' _ _ (e1 _ _ h1))) (at_h rfl (by have := s.1; have := s.2.1; omega)) ?_
    refine ⟨acc, hD, Nat.lt_of_lt_of_le (by omega : acc.length < 100001) (by decide), acc ++ [.int (hf hs q.1)], nD0, ?_, nD, upd_same, ?_, ?_⟩
    · exact fun b o hb => by
        rw [upd_ne (ne_of_none hb nD)]
        exact e' _ _ hb
    · rw [etk, List.map_append, List.map_append, ← hacc]
      rfl
    · rw [List.length_append]
      show acc.length + 1 ≤ i + 1
      omega
  · rintro D acc H' ⟨nD0, e', nD, hD, hacc, hl⟩
    rw [hP.len, List.take_length] at hacc
    rw [hacc] at hD
    exact k D H' L (e1.trans e') nD0 hD hL60 hS hM
/-- what the law's crests know before column i -/
def CAcc (h : Nat → Int) (n i : Nat) (acc : List Int) (up : Bool) : Prop := ∃ first : Nat, ∃ L : List Pr, SInv h n i first L ∧ L.length ≤ i ∧ acc = (L.filter fun q => PKb h n q.1 q.2).map (fun q => h q.1) ∧ (first < n → up = (decide (first = 0) || decide (h (first - 1) < h first)))
theorem SInv.flat {h : Nat → Int} {n i first : Nat} {L : List Pr} (s : SInv h n i first L) (hi : i < n) : h i = h first := by
  have l := s.le
  by_cases w : first = i
  · rw [w]
  · have h1 := s.nxt (by omega) hi
    rw [h1]
    exact s.run _ (by omega) (by omega)
theorem crest_on {h : Nat → Int} {n i : Nat} {acc : List Int} {up : Bool} (s : CAcc h n i acc up) (hi : i + 1 < n) (c : h (i + 1) = h i) : CAcc h n (i + 1) acc up := by
  obtain ⟨f, L, s1, s2, s3, s4⟩ := s
  exact ⟨f, L, s1.on hi c, by omega, s3, s4⟩
theorem crest_up {h : Nat → Int} {n i : Nat} {acc : List Int} {up : Bool} (s : CAcc h n i acc up) (hi : i + 1 < n) (c : h i < h (i + 1)) : CAcc h n (i + 1) acc true := by
  obtain ⟨f, L, s1, s2, s3, s4⟩ := s
  refine ⟨i + 1, L ++ [(f, i)], s1.cut (by omega) (.inr (by omega)), by rw [List.length_append]; show L.length + 1 ≤ i + 1; omega, ?_, fun _ => ?_⟩
  · rw [List.filter_append, s3]
    have e : PKb h n f i = false := by
      unfold PKb
      rw [decide_eq_false (by omega : ¬ (i + 1 = n)), decide_eq_false (by omega : ¬ (h (i + 1) < h i)), Bool.or_false, Bool.and_false]
    rw [List.filter_cons_of_neg (by show ¬ (PKb h n f i = true); rw [e]; exact Bool.false_ne_true), List.filter_nil, List.append_nil]
  · rw [decide_eq_true (by rw [Nat.add_sub_cancel]; exact c : h (i + 1 - 1) < h (i + 1)), Bool.or_true]
theorem crest_down {h : Nat → Int} {n i : Nat} {acc : List Int} {up : Bool} (s : CAcc h n i acc up) (hi : i < n) (c : i + 1 = n ∨ h (i + 1) < h i) : CAcc h n (i + 1) (if up = true then acc ++ [h i] else acc) false := by
  obtain ⟨f, L, s1, s2, s3, s4⟩ := s
  have hf := s1.flat hi
  have s4 := s4 (by have := s1.le; omega)
  have e : PKb h n f i = up := by
    unfold PKb
    rw [s4]
    have : (decide (i + 1 = n) || decide (h (i + 1) < h i)) = true := by
      rcases c with c | c
      · rw [decide_eq_true c, Bool.true_or]
      · rw [decide_eq_true c, Bool.or_true]
    rw [this, Bool.and_true]
  refine ⟨i + 1, L ++ [(f, i)], s1.cut hi (c.imp id fun c => by omega), by rw [List.length_append]; show L.length + 1 ≤ i + 1; omega, ?_, fun hn => ?_⟩
  · rw [List.filter_append, s3]
    cases up with
    | true =>
      rw [List.filter_cons_of_pos (by exact e), List.filter_nil, List.map_append, if_pos rfl, hf]
      rfl
    | false =>
      rw [List.filter_cons_of_neg (by show ¬ (PKb h n f i = true); rw [e]; exact Bool.false_ne_true), List.filter_nil, List.append_nil, if_neg Bool.false_ne_true]
  · have c2 : h (i + 1) < h i := by
      rcases c with c | c
      · omega
      · exact c
    rw [decide_eq_false (by omega : ¬ (i + 1 = 0)), decide_eq_false (by rw [Nat.add_sub_cancel]; omega : ¬ (h (i + 1 - 1) < h (i + 1))), Bool.or_false]
theorem p_crests {K : PySem.W.Frag} {vs : List V} {H : Hp} {Q : VK} {E : XK} (h : spCrests K vs H Q E) : t__law_crests K { nx := fun _ H' => Q .non H', rt := Q } (start ["_law_heights", "_law_found", "_law_rising", "_law_at", "_law_after"] vs) H := by
  obtain ⟨a, hs, rfl, hA, h60, hok, k⟩ := h
  unfold t__law_crests
  walk_at "rv go"
  refine ⟨szl (by simp), fun r nr => ?_⟩
  have s1 : Same H (upd H r (.lst [])) := same_new (Same.refl H) nr
  walk_at "rv go"
  refine w_forR (n := hs.length) (by omega) (fun AQ q => ?_) (fun i σ' H' => ∃ acc up o3 o4, σ' = [some (.ref a), some (.ref r), some (.bl up), o3, o4] ∧ Same H H' ∧ H' r = some (.lst (acc.map V.int)) ∧ acc.length ≤ i ∧ CAcc (hf hs) hs.length i acc up)
    ⟨[], true, _, _, rfl, s1, upd_same, Nat.zero_le _, 0, [], SInv.zero _ _, Nat.zero_le _, rfl, fun _ => rfl⟩ ?_ ?_
  · walk_at "rv go"
    refine w_lenL (sq_lst (s1 _ _ hA)) ?_
    walk_at "rv go"
    rw [List.length_map]
    exact q
  · rintro i σ' H' hi ⟨acc, up, o3, o4, rfl, e', hr, hl, hC⟩
    walk_at "rv go"
    refine ⟨szl (by simp), fun v nv => ?_⟩
    walk_at "rv go"
    have hA1 : upd H' v (.lst [.int (0 - 10 ^ Int.toNat 31)]) a = some (.lst (hs.map V.int)) := by rw [upd_ne (ne_of_none (e' _ _ hA) nv)]; exact e' _ _ hA
    refine w_cut (fun σ2 H2 => ∃ v x, σ2 = [some (.ref a), some (.ref r), some (.bl up), some (.int (i : Int)), some (.ref v)] ∧ H2 v = some (.lst [.int x]) ∧ Same H' H2 ∧ ((i + 1 < hs.length ∧ x = hf hs (i + 1)) ∨ (i + 1 = hs.length ∧ x = -10000000000000000000000000000000))) (fun N key => ?_) ?_
    · refine w_ifs ?_
      walk_at "rv go"
      refine w_lenL (sq_lst hA1) ?_
      walk_at "rv go"
      rw [List.length_map]
      refine w_both (fun h1 => ?_) (fun h1 => ?_)
      · walk_at "rv go"
        refine w_ixL (sq_lst hA1) (at_h (k := i + 1) (by omega) (by omega)) ?_
        walk_at "rv go"
        refine ⟨szl (by simp), fun u nu => ?_⟩
        walk_at "rv go"
        exact key _ _ ⟨u, _, rfl, upd_same, same_new (same_new (Same.refl H') nv) nu, .inl ⟨by omega, rfl⟩⟩
      · walk_at "rv go"
        exact key _ _ ⟨v, _, rfl, upd_same, same_new (Same.refl H') nv, .inr ⟨by omega, by decide⟩⟩
    · rintro σ2 H2 ⟨v, x, rfl, hv, e2, hx⟩
      have hA2 := e2 _ _ (e' _ _ hA)
      have hr2 := e2 _ _ hr
      have e02 := e'.trans e2
      have hz : -10000000000000000000000000000000 < hf hs i := by
        refine hok _ ?_
        unfold hf
        rw [List.getD_eq_getElem?_getD, List.getElem?_eq_getElem hi]
        exact List.getElem_mem _
      refine w_seq ?_
      walk_at "rv go"
      refine w_ixL (sq_lst hA2) (at_h rfl hi) ?_
      walk_at "rv go"
      refine w_both (fun h1 => ?_) (fun h1 => ?_)
      · have hx1 : i + 1 < hs.length ∧ x = hf hs (i + 1) := by
          rcases hx with h | h
          · exact h
          · omega
        walk_at "rv go"
        refine w_ixL (sq_lst hA2) (at_h rfl hi) ?_
        walk_at "rv go"
        refine w_both (fun h2 => by omega) (fun h2 => ?_)
        walk_at "rv go"
        exact ⟨acc, true, _, _, rfl, e02, hr2, by omega, crest_up hC hx1.1 (by omega)⟩
      · walk_at "rv go"
        refine w_ixL (sq_lst hA2) (at_h rfl hi) ?_
        walk_at "rv go"
        refine w_both (fun h2 => ?_) (fun h2 => ?_)
        · have hx1 : i + 1 = hs.length ∨ hf hs (i + 1) < hf hs i := by
            rcases hx with h | h
            · exact .inr (by omega)
            · exact .inl h.1
          have cd := crest_down hC hi hx1
          refine w_seq ?_
          walk_at "rv go"
          refine w_bool (fun h3 => ?_) (fun h3 => ?_)
          · rw [h3, if_pos rfl] at cd
            walk_at "rv go"
            refine w_bm rfl hr2 ?_
            walk_at "rv go"
            refine w_ixL (sq_lst hA2) (at_h rfl hi) ?_
            walk_at "rv go"
            refine w_appR hr2 (by rw [List.length_map]; omega) ?_
            walk_at "rv go"
            refine ⟨acc ++ [hf hs i], false, _, _, rfl, ?_, ?_, by rw [List.length_append]; show acc.length + 1 ≤ i + 1; omega, cd⟩
            · exact fun b o hb => by
                rw [upd_ne (ne_of_none hb nr)]
                exact e02 _ _ hb
            · rw [upd_same, map_app]
          · rw [h3, if_neg Bool.false_ne_true] at cd
            walk_at "rv go"
            exact ⟨acc, false, _, _, rfl, e02, hr2, by omega, cd⟩
        · have hx1 : i + 1 < hs.length ∧ hf hs (i + 1) = hf hs i := by
            rcases hx with h | h
            · exact ⟨h.1, by omega⟩
            · omega
          walk_at "rv go"
          exact ⟨acc, up, _, _, rfl, e02, hr2, by omega, crest_on hC hx1.1 hx1.2⟩
  · rintro σ' H' ⟨acc, up, o3, o4, rfl, e', hr, hl, f, L, s1, s2, s3, s4⟩
    walk_at "rv go"
    rw [s3] at hr
    refine k r H' _ e' nr hr (Nat.le_trans (List.length_filter_le _ _) (by omega)) (List.Pairwise.filter _ s1.srt) fun q => ?_
    rw [List.mem_filter, s1.mem, ← peak_run]
    constructor
    · rintro ⟨⟨z1, z2⟩, z3⟩
      exact ⟨z1, z3⟩
    · rintro ⟨z1, z2⟩
      exact ⟨⟨z1, z1.2.1⟩, z2⟩
theorem p_rows3 {K : PySem.W.Frag} {vs : List V} {H : Hp} {Q : VK} {E : XK} (h : spRows3 K vs H Q E) : t__law_rows3 K { nx := fun _ H' => Q .non H', rt := Q } (start ["_law_value", "_law_row", "_law_part"] vs) H := by
  obtain ⟨a, xs, L, rfl, ha, hP, k⟩ := h
  unfold t__law_rows3
  refine w_seq ?_
  refine w_ifs ?_
  walk_at "rv go"
  refine isi_of (.ty "list") (.base (.lst ha)) kit_ll ?_
  walk_at "rv go"
  refine w_seq ?_
  refine w_forL (a := a) (fun Q q => ?_) (sq_lst ha) (fun i σ' H' => ∃ u v : Option V, σ' = [some (.ref a), u, v] ∧ H' = H) ⟨none, none, rfl, rfl⟩ (fun i σ' H' _ ⟨_, _, _, e⟩ => by rw [e]; exact sq_lst ha) ?_ ?_
  · walk_at "rv go"
    exact q
  · rintro i x σ' H' hx ⟨u, v, rfl, rfl⟩
    obtain ⟨q, hq, T, rfl, hT⟩ := hP.get hx
    walk_at "rv go"
    refine w_seq ?_
    refine w_ifs ?_
    walk_at "rv go"
    refine isi_of (.ty "tuple") (.base (.tup hT)) kit_tt ?_
    walk_at "rv go"
    refine w_lenT (sq_tup hT) ?_
    walk_at "rv go"
    refine w_bothN (fun z => absurd rfl z) (fun _ => ?_)
    walk_at "rv go"
    refine w_forT (a := T) (fun Q q => ?_) (sq_tup hT) (fun j σ' H2 => ∃ v : Option V, σ' = [some (.ref a), some (.ref T), v] ∧ H2 = H') ⟨v, rfl, rfl⟩ (fun j σ' H2 _ ⟨_, _, e⟩ => by rw [e]; exact sq_tup hT) ?_ ?_
    · walk_at "rv go"
      exact q
    · rintro j y σ' H2 hy ⟨v, rfl, rfl⟩
      have hi : ∃ z : Int, y = .int z := by
        match j, hy with
        | 0, hy => exact ⟨_, (Option.some.inj hy).symm⟩
        | 1, hy => exact ⟨_, (Option.some.inj hy).symm⟩
        | 2, hy => exact ⟨_, (Option.some.inj hy).symm⟩
        | j + 3, hy => simp at hy
      obtain ⟨z, rfl⟩ := hi
      walk_at "rv go"
      refine isi_of (.ty "int") (.base (.int z)) kit_ii ?_
      walk_at "rv go"
      refine isi_of (.ty "bool") (.base (.int z)) kit_ib ?_
      walk_at "rv go"
      exact ⟨_, rfl, rfl⟩
    · rintro σ' H2 ⟨v, rfl, rfl⟩
      exact ⟨_, _, rfl, rfl⟩
  · rintro σ' H' ⟨u, v, rfl, rfl⟩
    walk_at "rv go"
    exact k
end Rv
namespace Rv
open PySem PySem.Spec PyProof.Rows L2
section
variable {K : PySem.W.Frag} {σ : L2.St} {H : Hp} {Q : VK} {D : Ends} {slot : Nat} {tr : TA} {s1 : TS} {te : TE}
/-- for i in range(hi), hi of either sign -/
theorem w_forRi {m : Nat} {hi : Int} (hm : m = hi.toNat) (h2 : -100000 ≤ hi ∧ hi ≤ 100000) (ha : ∀ AQ : List V → Hp → Prop, AQ [.int hi] H → tr σ H AQ) (Pv : Nat → L2.St → Hp → Prop) (h0 : Pv 0 σ H)
    (hs : ∀ (i : Nat) σ' H', (i : Int) < hi → Pv i σ' H' → s1 { D with nx := Pv (i + 1), ct := Pv (i + 1), bk := D.nx } (σ'.set slot (some (.int (i : Int)))) H') (hd : ∀ σ' H', Pv m σ' H' → D.nx σ' H') : tFor (iRng1 tr) (gName slot) s1 D σ H := by
  refine ha _ ⟨hi, rfl, by omega, by omega, ?_⟩
  rw [← hm]
  refine for_range Pv h0 (fun i σ' H' hi' q => ?_) hd
  show s1 _ (σ'.set slot (some (.int (0 + (i : Int))))) H'
  rw [Int.zero_add]
  exact hs i σ' H' (by omega) q
/-- sorted(set(e)) of a list of ints -/
def tSortSet (K : PySem.W.Frag) (te : TE) : TE := fun σ H Q => te σ H fun x H1 => ∃ (a : Addr) (ns : List Int), x = .ref a ∧ SqL K H1 a (ns.map V.int) ∧ ns.length < 4000 ∧ (∀ out : List Int, out.Nodup → (∀ k, k ∈ out ↔ k ∈ ns) → out.length < 64) ∧
  ∀ (out : List Int) (p : Addr), out.Pairwise (· < ·) → (∀ k, k ∈ out ↔ k ∈ ns) → H1 p = none → Q (.ref p) (upd H1 p (.lst (out.map V.int)))
theorem w_ss (q : te σ H fun x H1 => ∃ (a : Addr) (ns : List Int), x = .ref a ∧ SqL K H1 a (ns.map V.int) ∧ ns.length < 4000 ∧ (∀ out : List Int, out.Nodup → (∀ k, k ∈ out ↔ k ∈ ns) → out.length < 64) ∧
  ∀ (out : List Int) (p : Addr), out.Pairwise (· < ·) → (∀ k, k ∈ out ↔ k ∈ ns) → H1 p = none → Q (.ref p) (upd H1 p (.lst (out.map V.int)))) : tSortSet K te σ H Q := q
end
theorem nodup_le : ∀ {l m : List Int}, l.Nodup → (∀ x ∈ l, x ∈ m) → l.length ≤ m.length
  | [], _, _, _ => Nat.zero_le _
  | x :: r, m, hn, hs => by
    have h1 := hs x List.mem_cons_self
    have hn2 := List.nodup_cons.mp hn
    have h2 : r.length ≤ (m.erase x).length := nodup_le hn2.2 fun y hy => (List.mem_erase_of_ne (fun e => hn2.1 (by rw [← e]; exact hy))).mpr (hs y (List.mem_cons_of_mem _ hy))
    rw [List.length_erase_of_mem h1] at h2
    have := List.length_pos_of_mem h1
    rw [List.length_cons]
    omega
theorem TrsAt.app {H : Hp} : ∀ {xs ys : List V} {L M : List Tr}, TrsAt H xs L → TrsAt H ys M → TrsAt H (xs ++ ys) (L ++ M)
  | _, _, _, _, .nil, h => h
  | _, _, _, _, .cons r t, h => .cons r (TrsAt.app t h)
def LexT (p q : Tr) : Prop := p.1 < q.1 ∨ (p.1 = q.1 ∧ (p.2.1 < q.2.1 ∨ (p.2.1 = q.2.1 ∧ p.2.2 < q.2.2)))
def LexP (p q : Tr) : Prop := p.2.1 < q.2.1 ∨ (p.2.1 = q.2.1 ∧ p.2.2 < q.2.2)
def crs (hs : List Int) (T : List Pr) : List Int := T.map fun q => hf hs q.1
def spLakes (K : PySem.W.Frag) (C : Addr) : Sp := fun vs H Q _ => ∃ p, ∃ hs ws : List Int, vs = [.ref p] ∧ PCls K C ∧ ProfAt K C H p hs ws ∧ hs.length ≤ 60 ∧
  ∀ r H' xs (L : List Tr) (T : List Pr), Same H H' → H r = none → H' r = some (.lst xs) → TrsAt H' xs L → L.length ≤ 400000 → L.Pairwise LexT → Srt T → (∀ q : Pr, q ∈ T ↔ MaxRun (mark (hf hs) hs.length) hs.length true q.1 q.2) →
    (∀ q, q ∈ L ↔ Lk (hf (crs hs T)) (crs hs T).length q) → Q (.ref r) H'
def lres (L : List Tr) (out : List Int) : List Tr := out.flatMap fun h => L.filter fun q => decide (q.1 = h)
theorem lres_pw {L : List Tr} {out : List Int} (h : L.Pairwise LexP) (ho : out.Pairwise (· < ·)) : (lres L out).Pairwise LexT := by
  unfold lres
  rw [List.pairwise_flatMap]
  refine ⟨fun a _ => ?_, List.Pairwise.imp (fun {a b} hab x hx y hy => ?_) ho⟩
  · have z : (L.filter fun q => decide (q.1 = a)).Pairwise LexP := List.Pairwise.filter _ h
    refine List.Pairwise.imp_of_mem (fun {p q} hp hq hpq => ?_) z
    have e1 := of_decide_eq_true (List.mem_filter.mp hp).2
    have e2 := of_decide_eq_true (List.mem_filter.mp hq).2
    exact .inr ⟨e1.trans e2.symm, hpq⟩
  · have e1 := of_decide_eq_true (List.mem_filter.mp hx).2
    have e2 := of_decide_eq_true (List.mem_filter.mp hy).2
    exact .inl (by rw [e1, e2]; exact hab)
def t_lakes (K : PySem.W.Frag) (C_Profile : Addr) : TS :=
  (tSeq (tAsg (tCall (spTops K C_Profile) [] E0 (tCons (tVar 0) tNil)) (gName 1))
    (tSeq (tAsg (tLst tNil) (gName 2))
    (tSeq (tFor (iRng1 (tCons (tOp oSub (tCB (cLen K) (tCons (tVar 1) tNil)) (tC (.int 2))) tNil)) (gName 3) (tDrop (tBM K "list" rExtend (tVar 2) (tCons (tCall (spFrom K) [] E0 (tCons (tVar 1) (tCons (tVar 3) tNil))) tNil))))
    (tSeq (tAsg (tSortSet K (tLc (iList K (tVar 2)) (gName 5) tYes (tCB cInt (tCons (tOp (rIxT K) (tVar 5) (tC (.int 0))) tNil)) [5])) (gName 4))
    (tRet (tLc2 (iList K (tVar 4)) (gName 6) tYes (iList K (tVar 2)) (gName 5) (tTest (tOp rEq (tOp (rIxT K) (tVar 5) (tC (.int 0))) (tVar 6))) (tVar 5) [6, 5] [5]))))))
local macro_rules | `(tactic| walk_at "rv st") => `(tactic| first
  | with_reducible refine iteT ?_ | with_reducible refine iteF ?_ | with_reducible refine w_nx ?_ | with_reducible refine w_yes ?_ | with_reducible refine w_rt ?_ | with_reducible refine iteNT ?_ | with_reducible refine iteNF ?_ | with_reducible refine iteNRf ?_ | with_reducible refine iteRf ?_ | with_reducible refine w_seqA ?_ | with_reducible refine w_seqD ?_ | with_reducible refine w_seqP ?_ | with_reducible refine w_asg ?_ | with_reducible refine w_ret ?_ | with_reducible refine w_drop ?_ | with_reducible refine w_ifs ?_ | with_reducible refine w_next ?_ | with_reducible refine w_par ?_
  | with_reducible refine w_op ?_ | with_reducible refine w_un ?_ | ((with_reducible show tVar _ _ _ _); refine' w_var ?hv ?_; (case hv => exact rfl)) | with_reducible refine w_c ?_ | with_reducible refine w_test ?_ | with_reducible refine w_tB ?_
  | with_reducible refine w_bl ?_ | with_reducible refine w_I0 ?_ | with_reducible refine w_U ?_ | with_reducible refine w_eqI ?_ | with_reducible refine w_neI ?_
  | with_reducible refine w_cons ?_ | with_reducible refine w_nil ?_ | with_reducible refine w_gn ?_ | with_reducible refine w_gsub ?_ | with_reducible refine w_and ?_ | with_reducible refine w_or ?_ | with_reducible refine w_not ?_
  | with_reducible refine w_andV ?_ | with_reducible refine w_orV ?_ | with_reducible refine w_notV ?_ | with_reducible refine w_if ?_ | with_reducible refine w_cb ?_ | with_reducible refine w_call ?_ | with_reducible refine w_lst ?_ | with_reducible refine w_tup ?_
  | with_reducible refine w_sl ?_ | with_reducible refine w_noPart ?_ | with_reducible refine w_part ?_ | with_reducible refine w_ex1 ?_ | with_reducible refine w_exb ?_ | with_reducible refine w_intB ?_ | with_reducible refine w_intI ?_ | with_reducible refine w_abs ?_)
local macro_rules | `(tactic| walk_at "rv ix") => `(tactic| ((with_reducible show rIxL _ _ _ _ _); refine' w_ixL (sq_lst ?ha) ?hb ?_; (case ha => first | exact upd_same | assumption); (case hb => first | exact rfl | assumption)))
local macro_rules | `(tactic| walk_at "rv ar") => `(tactic| first
  | (refine' w_I ?hc ?_; (case hc => first | (show (0 : Int) < _; first | assumption | decide | omega) | exact pow_c (by decide) (by decide) (by first | decide | omega) (by first | decide | omega) | exact mul_r (by first | decide | omega) (by first | decide | omega) | exact mul_l (by first | decide | omega) (by first | decide | omega) | exact divw (by first | assumption | decide | omega) (by first | assumption | decide | omega))))
local macro_rules | `(tactic| walk_at "rv go") => `(tactic| repeat first | walk_at "rv st" | walk_at "rv ix" | ((with_reducible show rI _ _ _ _ _ _); walk_at "rv ar"))
theorem p_lakes {K : PySem.W.Frag} {C : Addr} {vs : List V} {H : Hp} {Q : VK} {E : XK} (h : spLakes K C vs H Q E) : t_lakes K C { nx := fun _ H' => Q .non H', rt := Q } (start ["profile", "tops", "found", "first", "heights", "lake", "height"] vs) H := by
  obtain ⟨p, hs, ws, rfl, P, hp, h60, k⟩ := h
  unfold t_lakes
  walk_at "rv go"
  refine ⟨p, hs, ws, rfl, P, hp, h60, fun tp H1 T e1 ntp htp hT60 hST hMT => ?_⟩
  have lcs : (crs hs T).length = T.length := List.length_map ..
  have htp : H1 tp = some (.lst ((crs hs T).map V.int)) := htp
  walk_at "rv go"
  refine ⟨szl (by simp), fun r nr => ?_⟩
  have s1 : Same H1 (upd H1 r (.lst [])) := same_new (Same.refl H1) nr
  walk_at "rv go"
  refine w_forRi (m := (((crs hs T).length : Int) - 2).toNat) (hi := ((crs hs T).length : Int) - 2) rfl (by omega) (fun AQ q => ?_)
    (fun i σ' H' => ∃ xs L o3, σ' = [some (.ref p), some (.ref tp), some (.ref r), o3, none, none, none] ∧ Same H1 H' ∧ H' r = some (.lst xs) ∧ TrsAt H' xs L ∧ L.length ≤ 60 * i ∧ L.Pairwise LexP ∧ (∀ q, q ∈ L ↔ Lk (hf (crs hs T)) (crs hs T).length q ∧ q.2.1 < i))
    ⟨[], [], _, rfl, s1, upd_same, .nil, Nat.zero_le _, .nil, fun q => ⟨fun z => absurd z List.not_mem_nil, fun ⟨_, z⟩ => absurd z (Nat.not_lt_zero _)⟩⟩ ?_ ?_
  · walk_at "rv go"
    refine w_lenL (sq_lst (s1 _ _ htp)) ?_
    walk_at "rv go"
    rw [List.length_map]
    exact q
  · rintro i σ' H' hi ⟨xs, L, o3, rfl, e', hr, hP, hl, hpw, hmem⟩
    walk_at "rv go"
    refine w_bm rfl hr ?_
    walk_at "rv go"
    refine ⟨tp, crs hs T, i, rfl, e' _ _ htp, by omega, by omega, fun r2 H2 xs2 L2 e2 n2 hr2 hP2 hl2 hpw2 hm2 => ?_⟩
    walk_at "rv go"
    have hr' := e2 _ _ hr
    refine ⟨r, r2, xs, xs2, rfl, rfl, hr', hr2, szl (by rw [hP.len, hP2.len]; omega), ?_⟩
    walk_at "rv go"
    refine ⟨xs ++ xs2, L ++ L2, _, rfl, ?_, upd_same, TrsAt.app (hP.mono fun t ys ht => ?_) (hP2.mono fun t ys ht => ?_), by rw [List.length_append]; omega, ?_, fun q => ?_⟩
    · exact fun b o hb => by
        rw [upd_ne (ne_of_none hb nr)]
        exact e2 _ _ (e' _ _ hb)
    · rw [upd_ne (ne_of (e2 _ _ ht) hr' (fun z => nomatch z))]
      exact e2 _ _ ht
    · rw [upd_ne (ne_of ht hr' (fun z => nomatch z))]
      exact ht
    · refine List.pairwise_append.mpr ⟨hpw, List.Pairwise.imp_of_mem (fun {a b} ha hb hab => ?_) hpw2, fun a ha b hb => ?_⟩
      · exact .inr ⟨((hm2 a).mp ha).2.trans ((hm2 b).mp hb).2.symm, hab⟩
      · have z1 := ((hmem a).mp ha).2
        have z2 := ((hm2 b).mp hb).2
        exact .inl (by omega)
    · rw [List.mem_append, hmem, hm2]
      constructor
      · rintro (⟨z1, z2⟩ | ⟨z1, z2⟩)
        · exact ⟨z1, by omega⟩
        · exact ⟨z1, by omega⟩
      · rintro ⟨z1, z2⟩
        by_cases z : q.2.1 < i
        · exact .inl ⟨z1, z⟩
        · exact .inr ⟨z1, by omega⟩
  · rintro σ' H2 ⟨xs, L, o3, rfl, e', hr, hP, hl, hpw, hmem⟩
    have hL : ∀ q, q ∈ L ↔ Lk (hf (crs hs T)) (crs hs T).length q := fun q => by
      rw [hmem]
      constructor
      · exact fun z => z.1
      · intro z
        refine ⟨z, ?_⟩
        have z1 := z.1
        have z2 := z.2.1
        omega
    have hl60 : L.length ≤ 3600 := by omega
    have hcin : ∀ q ∈ L, q.1 ∈ crs hs T := fun q hq => by
      obtain ⟨j, j1, j2, j3⟩ := ((hL q).mp hq).2.2.2.1
      have z2 := ((hL q).mp hq).2.1
      rw [← j3]
      unfold hf
      rw [List.getD_eq_getElem?_getD, List.getElem?_eq_getElem (by omega)]
      exact List.getElem_mem _
    walk_at "rv go"
    refine w_ss ?_
    refine w_lcl ?_
    walk_at "rv go"
    refine ⟨r, rfl, ?_⟩
    refine w_lcA (sq_lst hr) (fun D i acc H' => Same H2 H' ∧ H2 D = none ∧ H' D = some (.lst acc) ∧ acc = ((L.take i).map fun q => q.1).map V.int ∧ acc.length ≤ i)
      (fun D nD => ⟨same_new (Same.refl H2) nD, nD, upd_same, by rw [List.take_zero]; rfl, Nat.le_refl _⟩) (fun D i acc H' ⟨e, _⟩ => sq_lst (e _ _ hr)) ?_ ?_
    · rintro D i acc x H' hx ⟨e2, nD, hD, hacc, hla⟩
      obtain ⟨q, hq, t, rfl, hT⟩ := hP.get hx
      have il : i < L.length := (List.getElem?_eq_some_iff.mp hq).1
      have etk : L.take (i + 1) = L.take i ++ [q] := by rw [List.take_add_one, hq]; rfl
      walk_at "rv go"
      refine ⟨rfl, ?_⟩
      walk_at "rv go"
      refine w_ixT (sq_tup (e2 _ _ hT)) (v := .int q.1) rfl ?_
      walk_at "rv go"
      refine ⟨acc, hD, Nat.lt_of_lt_of_le (by omega : acc.length < 100001) (by decide), acc ++ [.int q.1], ?_, nD, upd_same, ?_, ?_⟩
      · exact fun b o hb => by
          rw [upd_ne (ne_of_none hb nD)]
          exact e2 _ _ hb
      · rw [etk, List.map_append, List.map_append, ← hacc]
        rfl
      · rw [List.length_append]
        show acc.length + 1 ≤ i + 1
        omega
    · rintro D acc H3 ⟨e2, nD, hD, hacc, hla⟩
      rw [hP.len, List.take_length] at hacc
      rw [hacc] at hD
      refine ⟨D, L.map fun q => q.1, rfl, sq_lst hD, by rw [List.length_map]; omega, fun out ho hm => ?_, fun out hp2 ho hm nh => ?_⟩
      · have z := nodup_le (l := out) (m := crs hs T) ho fun x hx => by
          obtain ⟨q, hq, rfl⟩ := List.mem_map.mp ((hm x).mp hx)
          exact hcin q hq
        omega
      · have z := nodup_le (l := out) (m := crs hs T) (List.Pairwise.imp (fun {a b} (hab : a < b) => by omega) ho) fun x hx => by
          obtain ⟨q, hq, rfl⟩ := List.mem_map.mp ((hm x).mp hx)
          exact hcin q hq
        have ho60 : out.length ≤ 60 := by omega
        walk_at "rv go"
        have e3 : Same H2 (upd H3 hp2 (.lst (out.map V.int))) := same_new e2 nh
        generalize hH4 : upd H3 hp2 (.lst (out.map V.int)) = H4 at e3 ⊢
        have hh4 : H4 hp2 = some (.lst (out.map V.int)) := by rw [← hH4]; exact upd_same
        have hr4 := e3 _ _ hr
        have hP4 : TrsAt H4 xs L := hP.mono fun t ys ht => e3 _ _ ht
        have lh : (out.map V.int).length = out.length := List.length_map ..
        refine ⟨.ref hp2, rfl, hp2, rfl, ⟨_, sq_lst hh4⟩, fun D nD => ?_⟩
        refine ⟨fun i m H' => m = out.length - i ∧ i ≤ out.length ∧ ∃ acc, Same H4 H' ∧ H' D = some (.lst acc) ∧ TrsAt H' acc (lres L (out.take i)) ∧ acc.length ≤ 3600 * i, ⟨out.length, by simp, Nat.zero_le _, [], same_new (Same.refl H4) nD, upd_same, by rw [List.take_zero]; exact .nil, Nat.zero_le _⟩, ?_⟩
        rintro i m H' ⟨rfl, hi, acc, e4, hD4, hPa, hla4⟩
        by_cases hlt : i < out.length
        · refine .inr ⟨⟨_, _, sq_lst (e4 _ _ hh4), List.getElem?_eq_getElem (by omega)⟩, fun H5 => ∃ acc, Same H4 H5 ∧ H5 D = some (.lst acc) ∧ TrsAt H5 acc (lres L (out.take (i + 1))) ∧ acc.length ≤ 3600 * (i + 1), fun H5 z => ⟨out.length - (i + 1), by omega, rfl, hlt, z⟩, ?_⟩
          rintro x H5 ⟨rfl, hx⟩
          have hx1 := hx _ (sq_lst (e4 _ _ hh4))
          rw [List.getElem?_map, List.getElem?_eq_getElem hlt] at hx1
          obtain rfl : x = .int out[i] := (Option.some.inj hx1).symm
          have eout : out.take (i + 1) = out.take i ++ [out[i]] := by rw [List.take_add_one, List.getElem?_eq_getElem hlt]; rfl
          have elr : lres L (out.take (i + 1)) = lres L (out.take i) ++ L.filter fun q => decide (q.1 = out[i]) := by
            unfold lres
            rw [eout, List.flatMap_append, List.flatMap_cons, List.flatMap_nil, List.append_nil]
          walk_at "rv go"
          refine ⟨rfl, ?_⟩
          walk_at "rv go"
          refine ⟨.ref r, rfl, r, rfl, ⟨_, sq_lst (e4 _ _ hr4)⟩, ?_⟩
          refine ⟨fun j m H6 => m = L.length - j ∧ j ≤ L.length ∧ ∃ acc, Same H4 H6 ∧ H6 D = some (.lst acc) ∧ TrsAt H6 acc (lres L (out.take i) ++ (L.take j).filter fun q => decide (q.1 = out[i])) ∧ acc.length ≤ 3600 * i + j, ⟨L.length, by simp, Nat.zero_le _, acc, e4, hD4, by rw [List.take_zero, List.filter_nil, List.append_nil]; exact hPa, by omega⟩, ?_⟩
          rintro j m H6 ⟨rfl, hj, acc, e6, hD6, hP6, hla6⟩
          by_cases hjl : j < L.length
          · have hjx : j < xs.length := by rw [hP.len]; exact hjl
            refine .inr ⟨⟨_, _, sq_lst (e6 _ _ hr4), List.getElem?_eq_getElem hjx⟩, fun H7 => ∃ acc, Same H4 H7 ∧ H7 D = some (.lst acc) ∧ TrsAt H7 acc (lres L (out.take i) ++ (L.take (j + 1)).filter fun q => decide (q.1 = out[i])) ∧ acc.length ≤ 3600 * i + (j + 1), fun H7 z => ⟨L.length - (j + 1), by omega, rfl, hjl, z⟩, ?_⟩
            rintro y H7 ⟨rfl, hy⟩
            obtain ⟨q, hq, t, rfl, hT⟩ := hP4.get (hy _ (sq_lst (e6 _ _ hr4)))
            have etk : L.take (j + 1) = L.take j ++ [q] := by rw [List.take_add_one, hq]; rfl
            walk_at "rv go"
            refine ⟨rfl, ?_⟩
            walk_at "rv go"
            refine w_ixT (sq_tup (e6 _ _ hT)) (v := .int q.1) rfl ?_
            walk_at "rv go"
            refine w_both (fun h1 => ?_) (fun h1 => ?_)
            · walk_at "rv go"
              refine ⟨acc, hD6, Nat.lt_of_lt_of_le (by omega : acc.length < 300000) (by decide), acc ++ [.ref t], ?_, upd_same, ?_, ?_⟩
              · exact fun b o hb => by
                  rw [upd_ne (ne_of_none hb nD)]
                  exact e6 _ _ hb
              · rw [etk, List.filter_append, List.filter_cons_of_pos (by exact decide_eq_true h1), List.filter_nil, ← List.append_assoc]
                refine TrsAt.snoc (hP6.mono fun u ys hu => ?_) ⟨t, rfl, ?_⟩
                · rw [upd_ne (ne_of hu hD6 (fun z => nomatch z))]
                  exact hu
                · rw [upd_ne (ne_of (e6 _ _ hT) hD6 (fun z => nomatch z))]
                  exact e6 _ _ hT
              · rw [List.length_append]
                show acc.length + 1 ≤ _
                omega
            · refine ⟨acc, e6, hD6, ?_, by omega⟩
              rw [etk, List.filter_append, List.filter_cons_of_neg (by rw [decide_eq_true_eq]; exact h1), List.filter_nil, List.append_nil]
              exact hP6
          · have ej : j = L.length := by omega
            subst ej
            refine .inl ⟨⟨_, sq_lst (e6 _ _ hr4), by rw [hP.len]; exact Nat.le_refl _⟩, acc, e6, hD6, ?_, by omega⟩
            rw [elr]
            rw [List.take_length] at hP6
            exact hP6
        · have ei : i = out.length := by omega
          subst ei
          refine .inl ⟨⟨_, sq_lst (e4 _ _ hh4), by rw [lh]; exact Nat.le_refl _⟩, ?_⟩
          rw [List.take_length] at hPa
          refine k D H' acc (lres L out) T ((e1.trans e').trans (e3.trans e4)) ((e1.trans e').free (e3.free nD)) hD4 hPa (by rw [← hPa.len]; omega) (lres_pw hpw ho) hST hMT fun q => ?_
          rw [← hL]
          unfold lres
          rw [List.mem_flatMap]
          constructor
          · rintro ⟨h, _, hq⟩
            exact (List.mem_filter.mp hq).1
          · intro hq
            exact ⟨q.1, (hm _).mpr (List.mem_map.mpr ⟨q, hq, rfl⟩), List.mem_filter.mpr ⟨hq, decide_eq_true rfl⟩⟩
end Rv
namespace Rv
open PySem PySem.Spec PyProof.Rows L2
/-- a set that is just made -/
abbrev eS (w : World) : Obj := { cls := .type "set", dict := none, data := .set #[] 0 (.fresh 0 0 (!w.params.followText "set-order")) }
section
variable {P : Program} {w : World} {A : Around} {E : Value → Shared → Prop} {s : Shared}
/-- set(l) of a list of ints -/
theorem set_of_ints {l : Addr} {its : Array Value} (zs : List Int) {Q : Value → Shared → Prop} (nh : A.handled = none) (gl : s.heap.IsList l its) (gi : IntsAre its.toList zs) (gb : zs.length + 1 < scanBound)
    (g : ∀ (h2 : Heap) (u c : Nat), SetR w h2 s.heap.objs.size (fun j => decide (j ∈ zs)) c → c ≤ zs.length → (∀ b o, s.heap.get? b = some o → h2.get? b = some o) → Q (.ref s.heap.objs.size) { s with heap := h2, toks := u }) :
    wpAny (model P w) A (call (.type "set") [.ref l]) Q E s := by
  have gz : its.size = zs.length := by
    have z := IntsAre.length gi
    rw [Array.length_toList] at z
    exact z
  obtain ⟨c0, tl0, m0⟩ := F.called_set.mro
  have a1 := F.called_set.made
  have a2 := F.called_set.sub
  refine wpAny_call (codeAny_of_tree ?_)
  show wpAny _ _ (callAny (.type "set") _) _ _ _
  refine wpAny_pure ⟨Code.quiet_builtin _ (by decide +kernel), codeAny_builtin F.entry_type_call ?_⟩
  rw [Around.under_plain (weight_type_call_type "set" [.ref l] []) rfl]
  have a3 := F.called_set.notType
  have a4 := F.called_set.canCreate
  have a5 := F.typeCall_set_1 (.ref l)
  repeat (any_goals (first | assumption | wp_step))
  refine codeAny_mono (code_set_led1 (.ref l) (E := E) (Q₁ := fun ob s1 => ob = .ref s.heap.objs.size ∧ s1 = { s with heap := s.heap.push (eS w) }) ⟨rfl, rfl⟩) fun r1 s1 k1 => ?_
  cases r1 with
  | error e => exact k1
  | ok f1 =>
    cases f1 with
    | ret ob =>
      obtain ⟨rfl, rfl⟩ := k1
      have b1 : (s.heap.push (eS w)).get? s.heap.objs.size = some (eS w) := Heap.get?_push_size _ rfl
      have b2 : Shared.TypeIs { s with heap := s.heap.push (eS w) } (.ref s.heap.objs.size) "set" := ⟨_, b1, rfl⟩
      have b3 := F.called_set.init.lookup
      have b4 := F.called_set.init.bind (.ref s.heap.objs.size)
      repeat (any_goals (first | assumption | wp_step))
      refine codeAny_mono (codeAny_call_builtin (R := wants (fun r s2 => r = .none ∧ ∃ h2 u c, s2 = { s with heap := h2, toks := u } ∧ SetR w h2 s.heap.objs.size (fun j => decide (j ∈ zs)) c ∧ c ≤ zs.length ∧ (∀ b o, s.heap.get? b = some o → h2.get? b = some o)) E) F.called_set.init.plain F.entry_set_init (check_set_init_1 b2 ?_)) fun r2 s2 k2 => ?_
      · obtain ⟨lo, glo, gcl, nn, gdt⟩ := gl
        obtain ⟨l1, l2, l3, l4⟩ := lo
        simp only at gcl gdt
        subst gcl; subst gdt
        have b5 : (s.heap.push (eS w)).get? l = some { cls := .type "list", dict := l2, data := .seq its nn, slots := l4 } := Heap.get?_push_of_some _ glo
        have b6 := F.sub_list_set
        have b7 := F.sub_list_frozenset
        have b8 : (Value.type "list" == Value.type "dict") = false := by decide
        have b9 : (s.heap.push (eS w)).IsList l its := ⟨_, b5, rfl, nn, rfl⟩
        unfold Builtin.«set.__init__» noKeywords Builtin.Frozenset.updateFrom
        generalize gPI : pyIter = PI
        wp_walk
        subst gPI
        refine wpAny_pyIter_list b9 ?_
        refine wpAny_bind (wpAny_runValue ?_)
        have ls : l < s.heap.objs.size := Heap.lt_size glo
        have n3 : A.in1.in1.in1.handled = none := by simp [nh]
        have nI : l ≠ (s.heap.push (eS w)).objs.size := by
          rw [Heap.size_push]
          exact Nat.ne_of_lt (Nat.lt_succ_of_lt ls)
        have nS : s.heap.objs.size ∉ [(s.heap.push (eS w)).objs.size, l] := by
          rw [Heap.size_push]
          simp only [List.mem_cons, List.not_mem_nil, or_false, not_or]
          exact ⟨Nat.ne_of_lt (Nat.lt_succ_self _), Nat.ne_of_gt ls⟩
        have vals : ∀ (i : Nat) (v : Value), its[i]? = some v → ∃ k t, zs[i]? = some k ∧ v = .int k t := fun i v hv => by
          have hi : i < zs.length := by
            rw [← gz]
            exact (Array.getElem?_eq_some_iff.mp hv).1
          obtain ⟨t, e⟩ := IntsAre.int_at gi i v (by rw [Array.getElem?_toList]; exact hv)
          refine ⟨zs[i], t, List.getElem?_eq_getElem hi, ?_⟩
          rw [e, List.getD_eq_getElem?_getD, List.getElem?_eq_getElem hi] <;> rfl
        refine set_update_ints ((Walks.list n3 _ l nI its).toS) s.heap.objs.size nS zs gz gb vals (its.size - 0) 0 _ (by omega) (Nat.zero_le _) ⟨⟨_, Heap.get?_push_size _ rfl, rfl, rfl⟩, (b9.push _)⟩ ?k0 ?k1
        case k0 => exact ⟨0, Nat.le_refl 0, setR_new_at (Heap.get?_push_of_some _ b1)⟩
        case k1 =>
          intro s3 c3 mv cl sr
          obtain ⟨h3, g3, d3, u3, o3⟩ := s3
          have w1 : g3 = s.gens := mv.gens
          have w2 : d3 = s.drawn := mv.drawn
          have w3 : o3 = s.os := mv.os
          subst w1; subst w2; subst w3
          show wpAny _ _ _ _ _ _
          refine wpAny_pure ?_
          show wpAny _ _ (ret Value.none) _ _ _
          rw [gz] at cl
          refine wpAny_pure ⟨rfl, h3, u3, c3, rfl, sr, cl, fun b o e => ?_⟩
          have q0 : b < s.heap.objs.size := Heap.lt_size e
          exact mv.heap b o (by
            rw [Heap.size_push]
            simp only [List.mem_cons, List.not_mem_nil, or_false, not_or]
            exact ⟨Nat.ne_of_lt q0, Nat.ne_of_lt (Nat.lt_succ_of_lt q0)⟩) (Heap.get?_push_of_some _ (Heap.get?_push_of_some _ e))
      · cases r2 with
        | error e => exact k2
        | ok f2 =>
          cases f2 with
          | ret v =>
            obtain ⟨rfl, h2, u, c, rfl, sr, cl, kk⟩ := k2
            repeat (any_goals (first | assumption | wp_step))
            exact g _ _ _ sr cl kk
          | _ => exact k2.elim
    | _ => exact k1.elim
end
theorem pe_sortSet {X : Cx} {a : Expr} {ta : TE} {p p2 q pos : Pos} (hc : X.calm = true) (hg : Gl X "sorted") (hm : X.mg "sorted" = none) (hg2 : Gl X "set") (hm2 : X.mg "set" = none) (ha : PE X a ta)
    (na : starEach [a] X.env = (false, eval a X.env) :: starEach [] X.env := by rfl) : PE X (.Call (.Name "sorted" p) [.Call (.Name "set" p2) [a] [] q] [] pos) (tSortSet X.K ta) := by
  refine ⟨fun pins s σ H Q I h => ?_⟩
  refine Call_ (ld_blt I hg hm (show bootBuiltins "sorted" = some (.builtin "sorted") by decide +kernel) ?_)
  refine callWith_builtin1 (args_cons ?_ rfl) rfl rfl
  refine Call_ (ld_blt I hg2 hm2 boot_set ?_)
  refine callWith_type1 (args_cons (thn (ha.run pins s σ H _ I h) fun v s1 ⟨x, H1, I1, r1, q1⟩ => args_nil ?_) na) na rfl
  obtain ⟨l, zs, rfl, hq, b1, b64, q1⟩ := q1
  cases r1
  obtain ⟨its, r, pl, hz⟩ := I1.list hq
  refine set_of_ints zs (I1.ok.hd hc) pl.isList (by simpa using r.ints) (by unfold scanBound; omega) fun h2 u c R cl kk => ?_
  have I2 : Inv X pins σ H1 { s1 with heap := h2, toks := u } := I1.kept kk
  have c64 : c < 64 := by
    obtain ⟨o, es, ep, t, _, _, _, _, nd, mm, _, _, en, _⟩ := id R
    have z := b64 (es.toList.map keyOf) nd fun k => (mm k).symm.trans decide_eq_true_iff
    rw [List.length_map, Array.length_toList] at z
    omega
  refine args_nil ?_
  refine sorted_set R (I1.ok.hd hc) c64 fun s3 p3 out c3 ks k3 g3 o3 hp3 gt gi gs gm gl => ?_
  have fr : H1 p3 = none := I2.hok.fresh hp3
  have le : (ks.map V.int).length ≤ sizeLine := by
    rw [List.length_map, gl, sizeLine_eq]
    omega
  have J : Inv X pins σ (upd H1 p3 (.lst (ks.map V.int))) { s1 with heap := s3.heap, gens := s3.gens, drawn := s3.drawn, toks := s3.toks } :=
    L2.Inv.call (s := { s1 with heap := h2, toks := u }) (ch := []) I2 (Un.laid k3 hp3 fr) (I2.hok.laid k3 hp3 ⟨le, out.toList, c3, vals_of_ints gi, gt⟩) (by rw [g3]; exact I2.bare) (fun _ z => nomatch z)
  have e : s3 = { s1 with heap := s3.heap, gens := s3.gens, drawn := s3.drawn, toks := s3.toks } := by
    cases s3
    cases s1
    cases o3
    rfl
  rw [e]
  exact ⟨.ref p3, _, J, rfl, q1 ks p3 gs (fun k => (gm k).trans decide_eq_true_iff) fr⟩
end Rv
namespace Rv
open PySem PySem.Spec PyProof.Rows L2
/-- Profile(heights, widths) -/
theorem mk_prof {K : PySem.W.Frag} {C : Addr} {H : Hp} {Q : Addr → Hp → Prop} {E : XK} {a : Addr} {wv : V} {us dvs : List V} {hs ws : List Int} (hu : us ++ dvs = [.ref a, wv]) (P : PCls K C) (ha : H a = some (.lst (hs.map V.int))) (h1 : 1 ≤ hs.length) (h60 : hs.length ≤ 60) (hok : ∀ z ∈ hs, HOk1 z)
    (hw : (wv = .non ∧ ws = List.replicate hs.length 1) ∨ ∃ b, wv = .ref b ∧ H b = some (.lst (ws.map V.int)) ∧ ws.length = hs.length ∧ ∀ z ∈ ws, WOk1 z) (k : ∀ x H', H x = none → Same H H' → ProfAt K C H' x hs ws → Q x H') :
    ∀ x dx, H x = none → H dx = none → dx ≠ x → spInit K C (.ref x :: (us ++ dvs)) (upd (upd H dx (.own x)) x (.ins C dx [])) (fun v H2 => v = .non ∧ Q x H2) E := by
  intro x dx nx ndx hne
  rw [hu]
  have s0 : Same H (upd (upd H dx (.own x)) x (.ins C dx [])) := fun b o hb => by
    rw [upd_ne (ne_of_none hb nx), upd_ne (ne_of_none hb ndx)]
    exact hb
  refine ⟨x, dx, a, wv, hs, ws, rfl, P, upd_same, s0 _ _ ha, h1, h60, hok, ?_, fun H' hp hf => ⟨rfl, k x H' nx (fun b o hb => hf b o (ne_of_none hb nx) (s0 b o hb)) hp⟩⟩
  rcases hw with h | ⟨b, h1, h2, h3⟩
  · exact .inl h
  · exact .inr ⟨b, h1, s0 _ _ h2, h3⟩
section
variable {K : PySem.W.Frag} {σ : L2.St} {H : Hp} {Q : VK} {slot : Nat} {tr : TA} {te : TE}
/-- [e for x in range(1, hi)] -/
theorem w_lcR2 {m : Nat} {hi : Int} (hm : m = (hi - 1).toNat) (h2 : -100000 ≤ hi ∧ hi ≤ 100000) (ha : ∀ AQ : List V → Hp → Prop, AQ [.int 1, .int hi] H → tr σ H AQ) (J : Addr → List V → Hp → Prop) (h0 : ∀ D, H D = none → J D [] (upd H D (.lst [])))
    (hs : ∀ D acc H1, acc.length < m → J D acc H1 → te ((σ.set slot none).set slot (some (.int ((acc.length + 1 : Nat) : Int)))) H1 fun y H2 => ∃ bcc, H2 D = some (.lst bcc) ∧ bcc.length < sizeLine ∧ ∃ ccc, ccc.length = acc.length + 1 ∧ J D ccc (upd H2 D (.lst (bcc ++ [y]))))
    (hd : ∀ D acc H1, acc.length = m → J D acc H1 → Q (.ref D) H1) : tLc (iRng2 tr) (gName slot) tYes te [slot] σ H Q := by
  refine ha _ ⟨1, hi, rfl, ⟨by omega, by omega, by omega, by omega⟩, ?_⟩
  rw [← hm]
  intro D nD
  refine lc_range (fun i H1 => ∃ acc, acc.length = i ∧ J D acc H1) ⟨[], rfl, h0 D nD⟩ ?_ (fun H1 ⟨acc, e, q⟩ => hd D acc H1 e q)
  rintro i H1 hi' ⟨acc, rfl, q⟩
  refine ⟨?_, ?_⟩
  · show ((σ.set slot none).set slot _).set slot none = σ.set slot none
    rw [List.set_set, List.set_set]
  · show te _ H1 _
    rw [show (1 + (acc.length : Int)) = ((acc.length + 1 : Nat) : Int) by omega]
    exact hs D acc H1 hi' q
end
def otup : Option Tr → List V
  | none => []
  | some q => [.int q.1, .int (q.2.1 : Int), .int (q.2.2 : Int)]
def OAt (H : Hp) (x : V) (o : Option Tr) : Prop := ∃ t, x = .ref t ∧ H t = some (.tup (otup o))
def OsAt (H : Hp) (xs : List V) (M : List (Option Tr)) : Prop := Paired (OAt H) xs M
theorem OsAt.mono {H H' : Hp} {xs : List V} {M : List (Option Tr)} (h : OsAt H xs M) (e : ∀ t ys, H t = some (.tup ys) → H' t = some (.tup ys)) : OsAt H' xs M := Paired.mapP h fun x q ⟨t, h1, h2⟩ => ⟨t, h1, e _ _ h2⟩
theorem OsAt.len {H : Hp} {xs : List V} {M : List (Option Tr)} (h : OsAt H xs M) : xs.length = M.length := Paired.length h
theorem OsAt.get {H : Hp} : ∀ {xs : List V} {M : List (Option Tr)} {i : Nat} {x : V}, OsAt H xs M → xs[i]? = some x → ∃ o, M[i]? = some o ∧ OAt H x o
  | _, _, _, _, .nil, h => by simp at h
  | _, _, 0, x, .cons r t, h => ⟨_, rfl, by simp at h; rw [← h]; exact r⟩
  | _, _, i + 1, x, .cons r t, h => by
    obtain ⟨q, h1, h2⟩ := OsAt.get (i := i) t (by simpa using h)
    exact ⟨q, by simpa using h1, h2⟩
def pdO : Option Tr → PyData
  | none => .tuple []
  | some q => .tuple [.int q.1, .int (q.2.1 : Int), .int (q.2.2 : Int)]
theorem dp_o {K : PySem.W.Frag} {H : Hp} {x : V} {o : Option Tr} (h : OAt H x o) : Dp K H x (pdO o) := by
  obtain ⟨t, rfl, ht⟩ := h
  cases o with
  | none => exact .tup (sq_tup ht) .nil
  | some q => exact .tup (sq_tup ht) (.cons (.int _) (.cons (.int _) (.cons (.int _) .nil)))
theorem dp_os {K : PySem.W.Frag} {H : Hp} : ∀ {xs : List V} {M : List (Option Tr)}, OsAt H xs M → DpAll K H xs (M.map pdO)
  | _, _, .nil => .nil
  | _, _, .cons h r => .cons (dp_o h) (dp_os r)
theorem tr_o {H : Hp} {x : V} {q : Tr} (h : TrAt H x q) : OAt H x (some q) := h
theorem trs_os {H : Hp} : ∀ {xs : List V} {L : List Tr}, TrsAt H xs L → OsAt H xs (L.map some)
  | _, _, .nil => .nil
  | _, _, .cons h r => .cons (tr_o h) (trs_os r)
theorem lay_o (o : Option Tr) : PyData.canLay0 (pdO o) = true ∧ PyData.depth (pdO o) ≤ 1 := by
  cases o with
  | none => exact ⟨by simp [PyData.canLay0, PyData.canLayAll0, pdO], by simp [PyData.depth, PyData.depthAll, pdO]⟩
  | some q => exact ⟨by simp [PyData.canLay0, PyData.canLayAll0, pdO], by simp [PyData.depth, PyData.depthAll, pdO]⟩
theorem lay_os : ∀ M : List (Option Tr), PyData.canLayAll0 (M.map pdO) = true ∧ PyData.depthAll (M.map pdO) ≤ 1
  | [] => ⟨by simp [PyData.canLayAll0], by simp [PyData.depthAll]⟩
  | o :: r => by
    have h := lay_os r
    have h2 := lay_o o
    refine ⟨by simp [PyData.canLayAll0, h.1, h2.1], ?_⟩
    simp [PyData.depthAll]
    omega
theorem sh_o (o : Option Tr) : SeqAt.shaped (pdO o) = true := by
  have h := lay_o o
  have h2 : PyData.depth (pdO o) ≤ 64 := by omega
  simp [SeqAt.shaped, h.1, h2]
theorem sh_os (M : List (Option Tr)) : SeqAt.shaped (.list (M.map pdO)) = true := by
  have h := lay_os M
  have h2 : PyData.depthAll (M.map pdO) + 1 ≤ 64 := by omega
  simp [SeqAt.shaped, PyData.canLay0, PyData.depth, h.1, h2]
theorem any_o {M : List (Option Tr)} {o : Option Tr} (h : o ∈ M) : ((M.map pdO).any fun z => PyData.eqv z (pdO o)) = true := by
  rw [List.any_eq_true]
  exact ⟨pdO o, List.mem_map.mpr ⟨o, h, rfl⟩, SeqAt.eqv_refl _ (SeqAt.canLay_of_shaped (sh_o o))⟩
theorem notin_o {K : PySem.W.Frag} {H : Hp} {Q : VK} {x : V} {a : Addr} {xs : List V} {M : List (Option Tr)} {o : Option Tr} (h1 : OAt H x o) (ha : H a = some (.lst xs)) (h2 : OsAt H xs M) (hm : o ∈ M) (q : Q (.bl (!true)) H) : rNotInD K x (.ref a) H Q := by
  refine ⟨pdO o, M.map pdO, dp_o h1, .lst (sq_lst ha) (dp_os h2), sh_o o, sh_os M, ?_⟩
  rw [any_o hm]
  exact q
theorem lex_t {p q : Tr} (h : LexT p q) : HT.lexLt [p.1, (p.2.1 : Int), (p.2.2 : Int)] [q.1, (q.2.1 : Int), (q.2.2 : Int)] = true := by
  unfold LexT at h
  rw [HT.lexLt_cons]
  split
  · rw [HT.lexLt_cons]
    split
    · rw [HT.lexLt_cons, if_neg (by omega)]
      exact decide_eq_true (by omega)
    · exact decide_eq_true (by omega)
  · exact decide_eq_true (by omega)
def spLaw19 (K : PySem.W.Frag) (C : Addr) : Sp := fun vs H Q _ => ∃ (a : Addr) (ns : List Int), vs = [.ref a] ∧ SqL K H a (ns.map V.int) ∧ PCls K C ∧ ∀ H', Q (.bl true) H'
/-- what stands at place i of the law's list -/
def DueAt (c : Nat → Int) (n p : Nat) (o : Option Tr) : Prop := (∀ q, o = some q → Lk c n q) ∧ ∀ q, Lk c n q → q.2.1 < p → p ≤ q.2.2 → c p = q.1 → o = some q

def t_law19 (K : PySem.W.Frag) (C_Profile : Addr) : TS :=
  (tSeq (tAsg (tCall (spDraws K) [] E0 (tCons (tVar 0) tNil)) (gName 1))
    (tSeq (tAsg (tCall (spGround K) [] E0 (tCons (tVar 1) tNil)) (gName 2))
    (tSeq (tAsg (tMake C_Profile (spInit K C_Profile) [] E0 (tCons (tVar 2) (tCons (tLc (iList K (tVar 2)) (gName 10) tYes (tOp oAdd (tC (.int 1)) (tCall (spDraw K) [] E0 (tCons (tVar 1) (tCons (tC (.int 9)) tNil)))) [10]) tNil))) (gName 3))
    (tSeq (tAsg (tCall (spCrests K) [] E0 (tCons (tVar 2) tNil)) (gName 4))
    (tSeq (tAsg (tLc (iRng2 (tCons (tC (.int 1)) (tCons (tOp oSub (tCB (cLen K) (tCons (tVar 4) tNil)) (tC (.int 1))) tNil))) (gName 11) tYes (tCall (spLake K) [] E0 (tCons (tVar 4) (tCons (tVar 11) tNil))) [11]) (gName 5))
    (tSeq (tFor (iRng1 (tCons (tC (.int 2)) tNil)) (gName 6) (tSeq (tAsg (tCall (spLakes K C_Profile) [] E0 (tCons (tVar 3) tNil)) (gName 7))
    (tSeq (tIfS (tNot (tB (tCall (spRows3 K) [] E0 (tCons (tVar 7) tNil)))) (tRet (tC (.bl false))) tNext)
    (tSeq (tFor (iRng2 (tCons (tC (.int 1)) (tCons (tCB (cLen K) (tCons (tVar 7) tNil)) tNil))) (gName 8) (tIfS (tNot (tTest (tOp (rLtT K) (tOp (rIxL K) (tVar 7) (tOp oSub (tVar 8) (tC (.int 1)))) (tOp (rIxL K) (tVar 7) (tVar 8))))) (tRet (tC (.bl false))) tNext))
    (tSeq (tFor (iList K (tVar 7)) (gName 9) (tIfS (tTest (tOp (rNotInD K) (tVar 9) (tVar 5))) (tRet (tC (.bl false))) tNext))
    (tSeq (tFor (iList K (tVar 5)) (gName 9) (tIfS (tAnd (tTest (tOp (rNeD K) (tVar 9) (tTup tNil))) (tTest (tOp (rNotInD K) (tVar 9) (tVar 7)))) (tRet (tC (.bl false))) tNext))
    (tDrop (tBM K "list" rAppend (tVar 7) (tCons (tTup (tCons (tC (.int 0)) (tCons (tC (.int 0)) (tCons (tC (.int 0)) tNil)))) tNil)))))))))
    (tRet (tC (.bl true)))))))))
local macro_rules | `(tactic| walk_at "rv st") => `(tactic| first
  | with_reducible refine iteT ?_ | with_reducible refine iteF ?_ | with_reducible refine w_nx ?_ | with_reducible refine w_yes ?_ | with_reducible refine w_rt ?_ | with_reducible refine iteNT ?_ | with_reducible refine iteNF ?_ | with_reducible refine iteNRf ?_ | with_reducible refine iteRf ?_ | with_reducible refine w_seqA ?_ | with_reducible refine w_seqD ?_ | with_reducible refine w_seqP ?_ | with_reducible refine w_asg ?_ | with_reducible refine w_ret ?_ | with_reducible refine w_drop ?_ | with_reducible refine w_ifs ?_ | with_reducible refine w_next ?_ | with_reducible refine w_par ?_
  | with_reducible refine w_op ?_ | with_reducible refine w_un ?_ | ((with_reducible show tVar _ _ _ _); refine' w_var ?hv ?_; (case hv => exact rfl)) | with_reducible refine w_c ?_ | with_reducible refine w_test ?_ | with_reducible refine w_tB ?_
  | with_reducible refine w_bl ?_ | with_reducible refine w_I0 ?_ | with_reducible refine w_U ?_ | with_reducible refine w_eqI ?_ | with_reducible refine w_neI ?_
  | with_reducible refine w_cons ?_ | with_reducible refine w_nil ?_ | with_reducible refine w_gn ?_ | with_reducible refine w_gsub ?_ | with_reducible refine w_and ?_ | with_reducible refine w_or ?_ | with_reducible refine w_not ?_
  | with_reducible refine w_andV ?_ | with_reducible refine w_orV ?_ | with_reducible refine w_notV ?_ | with_reducible refine w_if ?_ | with_reducible refine w_cb ?_ | with_reducible refine w_call ?_ | with_reducible refine w_lst ?_ | with_reducible refine w_tup ?_
  | with_reducible refine w_sl ?_ | with_reducible refine w_noPart ?_ | with_reducible refine w_part ?_ | with_reducible refine w_ex1 ?_ | with_reducible refine w_exb ?_ | with_reducible refine w_intB ?_ | with_reducible refine w_intI ?_ | with_reducible refine w_abs ?_)
local macro_rules | `(tactic| walk_at "rv ix") => `(tactic| ((with_reducible show rIxL _ _ _ _ _); refine' w_ixL (sq_lst ?ha) ?hb ?_; (case ha => first | exact upd_same | assumption); (case hb => first | exact rfl | assumption)))
local macro_rules | `(tactic| walk_at "rv ar") => `(tactic| first
  | (refine' w_I ?hc ?_; (case hc => first | (show (0 : Int) < _; first | assumption | decide | omega) | exact pow_c (by decide) (by decide) (by first | decide | omega) (by first | decide | omega) | exact mul_r (by first | decide | omega) (by first | decide | omega) | exact mul_l (by first | decide | omega) (by first | decide | omega) | exact divw (by first | assumption | decide | omega) (by first | assumption | decide | omega))))
local macro_rules | `(tactic| walk_at "rv go") => `(tactic| repeat first | walk_at "rv st" | walk_at "rv ix" | ((with_reducible show rI _ _ _ _ _ _); walk_at "rv ar"))
theorem p_law19 {K : PySem.W.Frag} {C : Addr} {vs : List V} {H : Hp} {Q : VK} {E : XK} (h : spLaw19 K C vs H Q E) : t_law19 K C { nx := fun _ H' => Q .non H', rt := Q } (start ["_law_script", "_law_draws_here", "_law_heights", "_law_profile", "_law_crests_here", "_law_due", "_law_turn", "_law_told", "_law_k", "_law_row", "_law_one", "_law_peak"] vs) H := by
  obtain ⟨a, ns, rfl, hS, P, k⟩ := h
  unfold t_law19
  walk_at "rv go"
  refine ⟨a, ns, rfl, hS, fun d c H1 nd nc e1 D1 => ?_⟩
  walk_at "rv go"
  refine ⟨d, c, rfl, D1, fun ha H2 hs l1 l60 hok b2 D2 nha hh => ?_⟩
  have had : ha ≠ d := D1.nd nha
  have hokH : ∀ z ∈ hs, HOk1 z := fun z hz => by
    have := hok z hz
    unfold GOk at this
    unfold HOk1
    omega
  walk_at "rv go"
  refine w_make ?_
  walk_at "rv go"
  refine w_lcl ?_
  walk_at "rv go"
  refine ⟨ha, rfl, ?_⟩
  refine w_lcA (sq_lst hh) (fun D i acc H' => ∃ ws : List Int, acc = ws.map V.int ∧ ws.length = i ∧ (∀ z ∈ ws, WOk1 z) ∧ But d H2 H' ∧ DrawsAt H' d c ∧ H' D = some (.lst acc) ∧ D ≠ d ∧ D ≠ c ∧ H2 D = none)
    (fun D nD => ⟨[], rfl, rfl, (fun _ h => nomatch h), (But.refl d H2).new nD, D2.new (same_new (Same.refl H2) nD), upd_same, D2.nd nD, D2.nc nD, nD⟩) (fun D i acc H' ⟨_, _, _, _, b, _⟩ => sq_lst (b _ _ had hh)) ?_ ?_
  · rintro D i acc x H' hx ⟨ws, rfl, hl, wok, b, DD, hD', nDd, nDc, nD⟩
    walk_at "rv go"
    refine ⟨rfl, ?_⟩
    walk_at "rv go"
    refine draw_call DD (by decide) (by decide) fun r H4 ra rb e4 D4 => ?_
    walk_at "rv go"
    have il : i < hs.length := by
      have := (List.getElem?_eq_some_iff.mp hx).1
      rw [List.length_map] at this
      exact this
    refine ⟨ws.map V.int, e4 _ _ nDd hD', Nat.lt_of_lt_of_le (by rw [List.length_map]; omega : _ < 100001) (by decide), (ws ++ [1 + r]).map V.int, ws ++ [1 + r], rfl, by rw [List.length_append]; show ws.length + 1 = i + 1; omega, fun y hy => ?_, ?_, D4.wr nDd nDc, ?_, nDd, nDc, nD⟩
    · rcases List.mem_append.mp hy with h | h
      · exact wok y h
      · rw [List.mem_singleton.mp h]
        exact ⟨by omega, by omega⟩
    · exact fun c o nc h => by
        have q := (b.trans e4) c o nc h
        rw [upd_ne (ne_of_none h nD)]
        exact q
    · rw [upd_same, map_app]
  · rintro D acc H3 ⟨ws, rfl, hlw, wok, b3, D3, hwa, nDd, nDc, nD⟩
    rw [List.length_map] at hlw
    have hh3 := b3 _ _ had hh
    walk_at "rv go"
    refine mk_prof (us := [.ref ha, .ref D]) (dvs := []) rfl P hh3 l1 l60 hokH (.inr ⟨D, rfl, hwa, hlw, wok⟩) fun pa H5 np e5 hp => ?_
    have hh5 := e5 _ _ hh3
    walk_at "rv go"
    refine ⟨ha, hs, rfl, hh5, l60, fun z hz => by have := (hok z hz).1; omega, fun ca H6 T e6 nca hca T60 hST hMT => ?_⟩
    have lcs : (crs hs T).length = T.length := List.length_map ..
    have hca : H6 ca = some (.lst ((crs hs T).map V.int)) := hca
    walk_at "rv go"
    refine w_lcR2 (m := ((crs hs T).length - 2)) (hi := ((crs hs T).length : Int) - 1) (by omega) (by omega) (fun AQ q => ?_) (fun D acc H' => ∃ M, Same H6 H' ∧ H6 D = none ∧ H' D = some (.lst acc) ∧ OsAt H' acc M ∧ ∀ i o, M[i]? = some o → DueAt (hf (crs hs T)) (crs hs T).length (i + 1) o)
      (fun D nD => ⟨[], same_new (Same.refl H6) nD, nD, upd_same, .nil, fun i o z => by simp at z⟩) ?_ ?_
    · walk_at "rv go"
      refine w_lenL (sq_lst hca) ?_
      walk_at "rv go"
      rw [List.length_map]
      exact q
    · rintro D acc H' hl ⟨M, e', nD, hD, hM, hdue⟩
      walk_at "rv go"
      refine ⟨ca, crs hs T, acc.length + 1, rfl, e' _ _ hca, by omega, by omega, by omega, fun t o nt z1 z2 => ?_⟩
      have Dt : D ≠ t := ne_of_none hD nt
      refine w_app (J := fun D acc H' => ∃ M, Same H6 H' ∧ H6 D = none ∧ H' D = some (.lst acc) ∧ OsAt H' acc M ∧ ∀ i o, M[i]? = some o → DueAt (hf (crs hs T)) (crs hs T).length (i + 1) o) (acc := acc) (by rw [upd_ne Dt]; exact hD) (by omega) ⟨M ++ [o], ?_, nD, upd_same, Paired.snoc (hM.mono fun u ys hu => ?_) ⟨t, rfl, ?_⟩, fun i o2 hi => ?_⟩
      · exact fun b o hb => by
          rw [upd_ne (ne_of_none hb nD), upd_ne (ne_of_none (e' _ _ hb) nt)]
          exact e' _ _ hb
      · rw [upd_ne (ne_of hu hD (fun z => nomatch z)), upd_ne (ne_of_none hu nt)]
        exact hu
      · rw [upd_ne Dt.symm, upd_same]
        cases o <;> rfl
      · by_cases hlt : i < M.length
        · rw [List.getElem?_append_left hlt] at hi
          exact hdue i o2 hi
        · have hi2 : i < (M ++ [o]).length := (List.getElem?_eq_some_iff.mp hi).1
          rw [List.length_append, List.length_singleton] at hi2
          have ei : i = M.length := by omega
          subst ei
          rw [List.getElem?_append_right (Nat.le_refl _), Nat.sub_self] at hi
          obtain rfl : o = o2 := Option.some.inj hi
          rw [← hM.len]
          exact ⟨z1, z2⟩
    · rintro Dd accd H7 hld ⟨M, e7, nDd2, hDd, hM, hdue⟩
      have hMl := hM.len
      have hp7 := (hp.same e6).same e7
      walk_at "rv go"
      refine w_forR (n := 2) (by omega) (fun AQ q => ?_) (fun _ σ' H' => Same H7 H' ∧ ∃ o6 o7 o8 o9 o10 o11, σ' = [some (.ref a), some (.ref d), some (.ref ha), some (.ref pa), some (.ref ca), some (.ref Dd), o6, o7, o8, o9, o10, o11]) ⟨Same.refl _, _, _, _, _, _, _, rfl⟩ ?_ ?_
      · walk_at "rv go"
        exact q
      · rintro i σ' H' hi ⟨e', o6, o7, o8, o9, o10, o11, rfl⟩
        walk_at "rv go"
        refine ⟨pa, hs, ws, rfl, P, hp7.same e', l60, fun r H8 xs L T2 e8 nr hr hP hL hpw hS2 hM2 hmem => ?_⟩
        obtain rfl : T2 = T := srt_unique hS2 hST fun q => (hM2 q).trans (hMT q).symm
        have e78 : Same H7 H8 := e'.trans e8
        have hDd8 := e78 _ _ hDd
        have hM8 : OsAt H8 accd M := hM.mono fun t ys ht => e78 _ _ ht
        refine w_gn ?_
        refine w_seq ?_
        walk_at "rv go"
        refine ⟨r, xs, L, rfl, hr, hP, ?_⟩
        walk_at "rv go"
        refine w_forR2 (lo := 1) (m := xs.length - 1) (hi := (xs.length : Int)) (by omega) (by omega) (by rw [hP.len]; omega) (fun AQ q => ?_)
          (fun _ σ' H' => H' = H8 ∧ ∃ o8, σ' = [some (.ref a), some (.ref d), some (.ref ha), some (.ref pa), some (.ref ca), some (.ref Dd), some (.int (i : Int)), some (.ref r), o8, o9, o10, o11]) ⟨rfl, _, rfl⟩ ?_ ?_
        · walk_at "rv go"
          refine w_lenL (sq_lst hr) ?_
          walk_at "rv go"
          exact q
        · rintro j σ' H9 hj1 hj2 ⟨rfl, o8, rfl⟩
          have q1 : ∃ x, xs[j - 1]? = some x := ⟨_, List.getElem?_eq_getElem (by omega)⟩
          have q2 : ∃ x, xs[j]? = some x := ⟨_, List.getElem?_eq_getElem (by omega)⟩
          obtain ⟨x1, hx1⟩ := q1
          obtain ⟨x2, hx2⟩ := q2
          obtain ⟨p1, hp1, t1, rfl, ht1⟩ := hP.get hx1
          obtain ⟨p2, hp2, t2, rfl, ht2⟩ := hP.get hx2
          refine w_ifs ?_
          walk_at "rv go"
          refine w_ixL (sq_lst hr) (v := .ref t1) (by rw [show (j : Int) - 1 = ((j - 1 : Nat) : Int) by omega]; exact at_nat hx1) ?_
          walk_at "rv go"
          refine w_ixL (sq_lst hr) (v := .ref t2) (at_nat hx2) ?_
          refine ⟨t1, t2, [p1.1, (p1.2.1 : Int), (p1.2.2 : Int)], [p2.1, (p2.2.1 : Int), (p2.2.2 : Int)], rfl, rfl, sq_tup ht1, sq_tup ht2, ?_⟩
          have hlex : LexT p1 p2 := by
            obtain ⟨b1, c1⟩ := List.getElem?_eq_some_iff.mp hp1
            obtain ⟨b2, c2⟩ := List.getElem?_eq_some_iff.mp hp2
            rw [← c1, ← c2]
            exact List.pairwise_iff_getElem.mp hpw _ _ b1 b2 (by omega)
          rw [lex_t hlex]
          walk_at "rv go"
          exact ⟨rfl, _, rfl⟩
        · rintro σ' H9 ⟨rfl, o8, rfl⟩
          walk_at "rv go"
          refine w_forL (a := r) (fun Q q => ?_) (sq_lst hr) (fun _ σ' H' => H' = H9 ∧ ∃ o9, σ' = [some (.ref a), some (.ref d), some (.ref ha), some (.ref pa), some (.ref ca), some (.ref Dd), some (.int (i : Int)), some (.ref r), o8, o9, o10, o11]) ⟨rfl, _, rfl⟩ (fun j σ' H' _ ⟨e, _⟩ => by rw [e]; exact sq_lst hr) ?_ ?_
          · walk_at "rv go"
            exact q
          · rintro j x σ' H10 hx ⟨rfl, o9', rfl⟩
            obtain ⟨q, hq, hT⟩ := hP.get hx
            have hk := (hmem q).mp (List.mem_of_getElem? hq)
            obtain ⟨y1, y2, y3, ⟨pk, y4, y5, y6⟩, y7, y8⟩ := id hk
            have hpk : ∃ o, M[pk - 1]? = some o := ⟨_, List.getElem?_eq_getElem (by omega)⟩
            obtain ⟨o, ho⟩ := hpk
            have hdo := (hdue _ _ ho).2 q hk (by omega) (by omega) (by rw [show pk - 1 + 1 = pk by omega]; exact y6)
            have hin : some q ∈ M := by
              rw [← hdo]
              exact List.mem_of_getElem? ho
            walk_at "rv go"
            refine notin_o (o := some q) hT hDd8 hM8 hin ?_
            walk_at "rv go"
            exact ⟨rfl, _, rfl⟩
          · rintro σ' H10 ⟨rfl, o9', rfl⟩
            walk_at "rv go"
            refine w_forL (a := Dd) (fun Q q => ?_) (sq_lst hDd8) (fun _ σ' H' => Same H10 H' ∧ ∃ o9, σ' = [some (.ref a), some (.ref d), some (.ref ha), some (.ref pa), some (.ref ca), some (.ref Dd), some (.int (i : Int)), some (.ref r), o8, o9, o10, o11]) ⟨Same.refl _, _, rfl⟩ (fun j σ' H' _ ⟨e, _⟩ => sq_lst (e _ _ hDd8)) ?_ ?_
            · walk_at "rv go"
              exact q
            · rintro j x σ' H11 hx ⟨e11, o9'', rfl⟩
              obtain ⟨o, ho, hO⟩ := hM8.get hx
              have hO11 : OAt H11 x o := by
                obtain ⟨t, z1, z2⟩ := hO
                exact ⟨t, z1, e11 _ _ z2⟩
              walk_at "rv go"
              refine ⟨szl (by simp), fun u nu => ?_⟩
              have e12 : Same H11 (upd H11 u (.tup [])) := same_new (Same.refl H11) nu
              have hO12 : OAt (upd H11 u (.tup [])) x o := by
                obtain ⟨t, z1, z2⟩ := hO11
                exact ⟨t, z1, e12 _ _ z2⟩
              refine ⟨pdO o, pdO none, dp_o hO12, dp_o ⟨u, rfl, upd_same⟩, sh_o o, sh_o none, ?_⟩
              cases o with
              | none =>
                rw [SeqAt.eqv_refl _ (SeqAt.canLay_of_shaped (sh_o none))]
                walk_at "rv go"
                exact ⟨e11.trans e12, _, rfl⟩
              | some q =>
                have hne : PyData.eqv (pdO (some q)) (pdO none) = false := by simp [pdO, PyData.eqv, PyData.eqvAll]
                rw [hne]
                have hk := (hdue _ _ ho).1 q rfl
                have hin : some q ∈ L.map some := List.mem_map.mpr ⟨q, (hmem q).mpr hk, rfl⟩
                walk_at "rv go"
                refine notin_o (o := some q) hO12 (e12 _ _ (e11 _ _ hr)) (trs_os (hP.mono fun t ys ht => e12 _ _ (e11 _ _ ht))) hin ?_
                walk_at "rv go"
                exact ⟨e11.trans e12, _, rfl⟩
            · rintro σ' H11 ⟨e11, o9'', rfl⟩
              have hr11 := e11 _ _ hr
              walk_at "rv go"
              refine w_bm rfl hr11 ?_
              walk_at "rv go"
              refine ⟨szl (by simp), fun u nu => ?_⟩
              walk_at "rv go"
              refine ⟨r, xs, _, rfl, rfl, by rw [upd_ne (ne_of_none hr11 nu)]; exact hr11, Nat.lt_of_lt_of_le (by rw [hP.len]; omega : xs.length < 500000) (by decide), ?_⟩
              walk_at "rv go"
              refine ⟨?_, _, _, _, _, _, _, rfl⟩
              exact fun b o hb => by
                have k1 := e' _ _ hb
                rw [upd_ne (ne_of_none k1 nr), upd_ne (ne_of_none (e11 _ _ (e8 _ _ k1)) nu)]
                exact e11 _ _ (e8 _ _ k1)
      · rintro σ' H8 ⟨e8, o6, o7, o8, o9, o10, o11, rfl⟩
        walk_at "rv go"
        exact k _
end Rv
namespace Rv
open PySem PySem.Spec PyProof.Rows L2
def sumF (g : Nat → Int) (f : Nat) : Nat → Int
  | 0 => 0
  | k + 1 => sumF g f k + g (f + k)
theorem sumF_congr {g g' : Nat → Int} {f : Nat} : ∀ {k : Nat}, (∀ j, j < k → g (f + j) = g' (f + j)) → sumF g f k = sumF g' f k
  | 0, _ => rfl
  | k + 1, h => by
    unfold sumF
    rw [sumF_congr fun j hj => h j (by omega), h k (by omega)]
theorem sumF_add {g g' : Nat → Int} {f : Nat} : ∀ {k : Nat}, sumF (fun c => g c + g' c) f k = sumF g f k + sumF g' f k
  | 0 => rfl
  | k + 1 => by
    unfold sumF
    rw [sumF_add]
    omega
theorem sumF_bound {g : Nat → Int} {f : Nat} {M : Int} {k : Nat} (h : ∀ j, j < k → -M ≤ g (f + j) ∧ g (f + j) ≤ M) : -((k : Int) * M) ≤ sumF g f k ∧ sumF g f k ≤ (k : Int) * M := by
  induction k with
  | zero => simp [sumF]
  | succ k ih =>
    have h1 := ih fun j hj => h j (by omega)
    have h2 := h k (by omega)
    have e : ((k + 1 : Nat) : Int) * M = (k : Int) * M + M := by
      rw [Int.natCast_add, Int.add_mul]
      omega
    show -(((k + 1 : Nat) : Int) * M) ≤ sumF g f k + g (f + k) ∧ sumF g f k + g (f + k) ≤ ((k + 1 : Nat) : Int) * M
    rw [e]
    omega
def wLe (h w : Nat → Int) (s : Int) : Nat → Nat → Int := sumF fun c => if h c ≤ s then w c else 0
def wLt (h w : Nat → Int) (s : Int) : Nat → Nat → Int := sumF fun c => if h c < s then w c else 0
def wEq (h w : Nat → Int) (s : Int) : Nat → Nat → Int := sumF fun c => if h c = s then w c else 0
def gLe (h w : Nat → Int) (s : Int) : Nat → Nat → Int := sumF fun c => if h c ≤ s then w c * h c else 0
section
variable {h w : Nat → Int} {f k : Nat} {s t n d : Int}
theorem wLe_eq : wLe h w s f k = wLt h w s f k + wEq h w s f k := by
  unfold wLe wLt wEq
  rw [← sumF_add]
  refine sumF_congr fun j _ => ?_
  by_cases a : h (f + j) = s
  · rw [if_pos (by omega), if_neg (by omega), if_pos a, Int.zero_add]
  · rw [if_neg a, Int.add_zero]
    by_cases b : h (f + j) < s
    · rw [if_pos (by omega), if_pos b]
    · rw [if_neg (by omega), if_neg b]
theorem wLt_next (a : ∀ j, j < k → (h (f + j) < t ↔ h (f + j) ≤ s)) : wLt h w t f k = wLe h w s f k := by
  unfold wLt wLe
  refine sumF_congr fun j hj => ?_
  by_cases b : h (f + j) ≤ s
  · rw [if_pos b, if_pos ((a j hj).mpr b)]
  · rw [if_neg b, if_neg fun z => b ((a j hj).mp z)]
theorem wLt_min (a : ∀ j, j < k → s ≤ h (f + j)) : wLt h w s f k = 0 := by
  have e : wLt h w s f k = sumF (fun _ => 0) f k := sumF_congr fun j hj => if_neg (by have := a j hj; omega)
  rw [e]
  have z : ∀ k, sumF (fun _ => 0) f k = 0 := fun k => by
    induction k with
    | zero => rfl
    | succ k ih =>
      unfold sumF
      rw [ih]
      rfl
  exact z k
end
theorem due_le {h w : Nat → Int} {f : Nat} {s n d : Int} (hs : s * d ≤ n) (hd : 0 < d) : ∀ {k : Nat}, (∀ j, j < k → s < h (f + j) → n ≤ h (f + j) * d) → dueF h w n d f k = wLe h w s f k * n - gLe h w s f k * d
  | 0, _ => by simp [dueF, wLe, gLe, sumF]
  | k + 1, a => by
    have ih := due_le (h := h) (w := w) (f := f) hs hd (k := k) fun j hj => a j (by omega)
    have ak := a k (by omega)
    unfold dueF
    rw [ih]
    show _ = (wLe h w s f k + (if h (f + k) ≤ s then w (f + k) else 0)) * n - (gLe h w s f k + (if h (f + k) ≤ s then w (f + k) * h (f + k) else 0)) * d
    by_cases c : h (f + k) ≤ s
    · rw [if_pos c, if_pos c]
      have c2 : h (f + k) * d ≤ n := Int.le_trans (Int.mul_le_mul_of_nonneg_right c (by omega)) hs
      rw [Int.add_mul, Int.add_mul, Int.mul_assoc (w (f + k))]
      by_cases e : h (f + k) * d < n
      · rw [if_pos e, Int.mul_sub]
        omega
      · rw [if_neg e, show h (f + k) * d = n by omega]
        omega
    · rw [if_neg c, if_neg c, if_neg (by have := ak (by omega); omega)]
      simp
theorem due_min {h w : Nat → Int} {f : Nat} {s : Int} : ∀ {k : Nat}, (∀ j, j < k → s ≤ h (f + j)) → dueF h w s 1 f k = 0
  | 0, _ => rfl
  | k + 1, a => by
    unfold dueF
    rw [due_min fun j hj => a j (by omega), if_neg (by have := a k (by omega); omega)]
    rfl
theorem wLe_nn {h w : Nat → Int} {f : Nat} {s : Int} : ∀ {k : Nat}, (∀ j, j < k → 1 ≤ w (f + j)) → 0 ≤ wLe h w s f k
  | 0, _ => by simp [wLe, sumF]
  | k + 1, a => by
    have h1 := wLe_nn (h := h) (s := s) (k := k) fun j hj => a j (by omega)
    show 0 ≤ wLe h w s f k + (if h (f + k) ≤ s then w (f + k) else 0)
    have := a k (by omega)
    split <;> omega
theorem wLe_pos {h w : Nat → Int} {f : Nat} {s : Int} : ∀ {k : Nat}, (∀ j, j < k → 1 ≤ w (f + j)) → (∃ j, j < k ∧ h (f + j) ≤ s) → 0 < wLe h w s f k
  | 0, _, ⟨j, hj, _⟩ => by omega
  | k + 1, a, ⟨j, hj, hh⟩ => by
    have h0 := wLe_nn (h := h) (s := s) (k := k) fun j hj => a j (by omega)
    show 0 < wLe h w s f k + (if h (f + k) ≤ s then w (f + k) else 0)
    have hw := a k (by omega)
    by_cases e : j = k
    · subst e
      rw [if_pos hh]
      omega
    · have := wLe_pos (h := h) (s := s) (k := k) (fun j hj => a j (by omega)) ⟨j, by omega, hh⟩
      split <;> omega
def IsMin (h : Nat → Int) (f k : Nat) (m : Int) : Prop := (∀ j, j < k → m ≤ h (f + j)) ∧ ∃ j, j < k ∧ m = h (f + j)
theorem IsMin.uniq {h : Nat → Int} {f k : Nat} {m m' : Int} (a : IsMin h f k m) (b : IsMin h f k m') : m = m' := by
  obtain ⟨a1, i, hi, ei⟩ := a
  obtain ⟨b1, j, hj, ej⟩ := b
  have := a1 j hj
  have := b1 i hi
  omega
structure LvOk (h w : Nat → Int) (f k : Nat) (vt vb n d : Int) : Prop where
  due : dueF h w n d f k * vb = vt * d
  low : ∀ m, IsMin h f k m → m * d ≤ n ∧ (vt = 0 → n = m * d)
/-- the level within one layer: x = s + (volume - held) / wide -/
theorem layer_ok {h w : Nat → Int} {f k : Nat} {vt vb s n d wide held m0 : Int} (hvb : 0 < vb) (hd : 0 < d) (hwd : wide = wLe h w s f k) (hhd : held = dueF h w s 1 f k) (wp : 0 < wide)
    (e : n * (vb * wide) = (vt - held * vb + s * (vb * wide)) * d) (h1 : held * vb ≤ vt) (h2 : ∀ j, j < k → s < h (f + j) → vt ≤ (held + wide * (h (f + j) - s)) * vb)
    (hm : IsMin h f k m0) (hs0 : m0 ≤ s) (h0 : vt = 0 → s = m0) : LvOk h w f k vt vb n d := by
  have pw : 0 < vb * wide := Int.mul_pos hvb wp
  have sd : s * d ≤ n := by
    refine Int.le_of_mul_le_mul_right (a := vb * wide) ?_ pw
    rw [e]
    have e1 : s * d * (vb * wide) = (s * (vb * wide)) * d := by rw [Int.mul_assoc, Int.mul_comm d, ← Int.mul_assoc]
    rw [e1]
    exact Int.mul_le_mul_of_nonneg_right (by omega) (by omega)
  have up : ∀ j, j < k → s < h (f + j) → n ≤ h (f + j) * d := fun j hj hs => by
    refine Int.le_of_mul_le_mul_right (a := vb * wide) ?_ pw
    rw [e]
    have e1 : h (f + j) * d * (vb * wide) = (h (f + j) * (vb * wide)) * d := by rw [Int.mul_assoc, Int.mul_comm d, ← Int.mul_assoc]
    rw [e1]
    refine Int.mul_le_mul_of_nonneg_right ?_ (by omega)
    have q := h2 j hj hs
    rw [Int.add_mul, Int.mul_sub, Int.sub_mul, Int.mul_comm wide, Int.mul_assoc, Int.mul_comm wide s, Int.mul_assoc, Int.mul_comm wide vb] at q
    omega
  have due := due_le (w := w) sd hd up
  have due1 := due_le (h := h) (w := w) (f := f) (k := k) (s := s) (n := s) (d := 1) (by omega) (by omega) (fun j hj hs => by omega)
  rw [← hwd] at due due1
  rw [← hhd] at due1
  refine ⟨?_, fun m hmm => ?_⟩
  · rw [due]
    generalize gLe h w s f k = g at *
    have e1 : wide * n * vb = n * (vb * wide) := by rw [Int.mul_comm wide n, Int.mul_assoc, Int.mul_comm wide vb]
    rw [Int.sub_mul, e1, e, due1]
    simp only [Int.add_mul, Int.sub_mul, Int.mul_one]
    have e2 : s * (vb * wide) * d = wide * s * vb * d := by
      rw [Int.mul_comm wide s, Int.mul_assoc s wide vb, Int.mul_comm wide vb]
    have e3 : g * vb * d = g * d * vb := by rw [Int.mul_assoc, Int.mul_comm vb d, ← Int.mul_assoc]
    omega
  · obtain rfl := hmm.uniq hm
    refine ⟨Int.le_trans (Int.mul_le_mul_of_nonneg_right hs0 (by omega)) sd, fun z => ?_⟩
    have es := h0 z
    subst z
    have held0 : held = 0 := by
      rw [hhd, es]
      exact due_min hm.1
    rw [held0, Int.zero_mul, Int.sub_zero, Int.zero_add, es] at e
    have e1 : m * (vb * wide) * d = m * d * (vb * wide) := by rw [Int.mul_assoc, Int.mul_comm (vb * wide) d, ← Int.mul_assoc]
    rw [e1] at e
    exact Int.eq_of_mul_eq_mul_right (by omega) e
theorem lv_three {n d n1 d1 n2 d2 vt vb held s wide : Int} (p1 : 0 < d1) (p2 : 0 < d2) (h1 : n1 * (vb * 1) = (vt * 1 - held * vb) * d1) (h2 : n2 * (d1 * wide) = (n1 * 1) * d2) (h3 : n * (d2 * 1) = (n2 * 1 + s * d2) * d) :
    n * (vb * wide) = (vt - held * vb + s * (vb * wide)) * d := by
  simp only [Int.mul_one] at h1 h2 h3
  have pp : d1 * d2 ≠ 0 := by
    have := Int.mul_pos p1 p2
    omega
  refine Int.eq_of_mul_eq_mul_right pp ?_
  calc n * (vb * wide) * (d1 * d2) = (n * d2) * (vb * (wide * d1)) := by ac_rfl
    _ = (n2 + s * d2) * d * (vb * (wide * d1)) := by rw [h3]
    _ = (n2 * (d1 * wide)) * (vb * d) + s * (vb * wide) * (d * (d1 * d2)) := by
      rw [Int.add_mul, Int.add_mul]
      congr 1 <;> ac_rfl
    _ = (n1 * vb) * (d2 * d) + s * (vb * wide) * (d * (d1 * d2)) := by
      rw [h2]
      congr 1
      ac_rfl
    _ = (vt - held * vb + s * (vb * wide)) * d * (d1 * d2) := by
      rw [h1, Int.add_mul, Int.add_mul]
      congr 1
      · ac_rfl
      · ac_rfl
theorem hN_get {S : List Int} {i : Nat} (h : i < S.length) : hN S i = S[i] := by
  unfold hN
  rw [List.getElem?_eq_getElem h]
  rfl
theorem sorted_lt {S : List Int} (hp : S.Pairwise (· < ·)) {i j : Nat} (hij : i < j) (hj : j < S.length) : hN S i < hN S j := by
  rw [hN_get hj, hN_get (by omega)]
  exact List.pairwise_iff_getElem.mp hp _ _ _ _ hij
theorem hN_of_mem {S : List Int} {z : Int} (h : z ∈ S) : ∃ j, j < S.length ∧ z = hN S j := by
  obtain ⟨j, hj, e⟩ := List.getElem_of_mem h
  exact ⟨j, hj, by rw [hN_get hj, e]⟩
theorem sorted_next {S : List Int} (hp : S.Pairwise (· < ·)) {i : Nat} {z : Int} (hi : i + 1 < S.length) (hz : z ∈ S) : z < hN S (i + 1) ↔ z ≤ hN S i := by
  obtain ⟨j, hj, rfl⟩ := hN_of_mem hz
  have a := sorted_lt hp (show i < i + 1 by omega) hi
  rcases Nat.lt_trichotomy j i with h | h | h
  · have := sorted_lt hp h (by omega)
    constructor <;> omega
  · subst h
    constructor <;> omega
  · by_cases e : j = i + 1
    · subst e
      constructor <;> omega
    · have := sorted_lt hp (show i + 1 < j by omega) hj
      constructor <;> omega
theorem sorted_min {S : List Int} (hp : S.Pairwise (· < ·)) {z : Int} (hz : z ∈ S) : hN S 0 ≤ z := by
  obtain ⟨j, hj, rfl⟩ := hN_of_mem hz
  by_cases e : j = 0
  · subst e
    omega
  · have := sorted_lt hp (show 0 < j by omega) hj
    omega
theorem sorted_max {S : List Int} (hp : S.Pairwise (· < ·)) {i : Nat} {z : Int} (hi : i + 1 = S.length) (hz : z ∈ S) : z ≤ hN S i := by
  obtain ⟨j, hj, rfl⟩ := hN_of_mem hz
  by_cases e : j = i
  · subst e
    omega
  · have := sorted_lt hp (show j < i by omega) (by omega)
    omega
def spGe : PySem.W.Frag → Addr → Sp := spCmp fun z => decide (0 ≤ z)
def spOver (K : PySem.W.Frag) (C : Addr) : Sp := fun vs H Q _ => ∃ a v t b n d, vs = [.ref a, v] ∧ RCls K C ∧ RatAt C H a t b ∧ Num C H v n d ∧ 0 < n ∧ Sz 3000 t ∧ Sz 3000 b ∧ Sz 3000 n ∧ Sz 3000 d ∧
  ∀ q H' x y, Same H H' → RatAt C H' q x y → Red (t * d) (b * n) x y → Q (.ref q) H'
def spIsAm (K : PySem.W.Frag) (C : Addr) : Sp := fun vs H Q _ => ∃ v n d, vs = [v] ∧ RCls K C ∧ Num C H v n d ∧ Sz 3000 n ∧ Sz 3000 d ∧ ∀ H', Same H H' → Q (.bl (decide (0 ≤ n * 1 - 0 * d))) H'
def spChkA (K : PySem.W.Frag) (C : Addr) : Sp := fun vs H Q _ => ∃ v n d, vs = [v] ∧ RCls K C ∧ Num C H v n d ∧ 0 ≤ n ∧ Sz 3000 n ∧ Sz 3000 d ∧ ∀ q H', Same H H' → RatAt C H' q n d → Q (.ref q) H'
def spLvA (K : PySem.W.Frag) (CP CR : Addr) : Sp := fun vs H Q _ => ∃ p hs ws, ∃ f l : Nat, ∃ q t b, vs = [.ref p, .int (f : Int), .int (l : Int), .ref q] ∧ PCls K CP ∧ RCls K CR ∧ ProfAt K CP H p hs ws ∧ PrOk hs ws ∧ f ≤ l ∧ l < hs.length ∧ RatAt CR H q t b ∧ 0 ≤ t ∧ Sz 300 t ∧ Sz 300 b ∧
  ∀ r H' n d, Same H H' → RatAt CR H' r n d → LvOk (hN hs) (hN ws) f (l + 1 - f) t b n d → Sz 1000 n → Sz 1000 d → Q (.ref r) H'
def spLvF (K : PySem.W.Frag) (CP CR : Addr) : Sp := fun vs H Q _ => ∃ p hs ws, ∃ f l : Nat, ∃ v t b, vs = [.ref p, .int (f : Int), .int (l : Int), v] ∧ PCls K CP ∧ RCls K CR ∧ ProfAt K CP H p hs ws ∧ PrOk hs ws ∧ f ≤ l ∧ l < hs.length ∧ Num CR H v t b ∧ 0 ≤ t ∧ Sz 300 t ∧ Sz 300 b ∧
  ∀ r H' n d, Same H H' → RatAt CR H' r n d → LvOk (hN hs) (hN ws) f (l + 1 - f) t b n d → Sz 1000 n → Sz 1000 d → Q (.ref r) H'
def t_Ratio___add__ (K : PySem.W.Frag) (C_Ratio : Addr) : TS :=
  (tSeq (tAsg (tCall (spAsR K C_Ratio) [] E0 (tCons (tVar 1) tNil)) (gName 2))
    (tSeq (tIfS (tTest (tOp oIsN (tVar 2) (tC .non))) tNever tNext)
    (tSeq (tAsg (tOp oAdd (tOp oMulW (tFld K (tVar 0) "reduced_top") (tFld K (tVar 2) "reduced_bottom")) (tOp oMulW (tFld K (tVar 2) "reduced_top") (tFld K (tVar 0) "reduced_bottom"))) (gName 3))
    (tRet (tMake C_Ratio (spRInit K C_Ratio) [] E0 (tCons (tVar 3) (tCons (tOp oMulW (tFld K (tVar 0) "reduced_bottom") (tFld K (tVar 2) "reduced_bottom")) tNil)))))))
def t_Ratio___le__ (K : PySem.W.Frag) (C_Ratio : Addr) : TS :=
  (tSeq (tAsg (tCall (spAsR K C_Ratio) [] E0 (tCons (tVar 1) tNil)) (gName 2))
    (tSeq (tIfS (tTest (tOp oIsN (tVar 2) (tC .non))) tNever tNext)
    (tRet (tOp oLe (tCall (spGap K C_Ratio) [] E0 (tCons (tVar 0) (tCons (tVar 2) tNil))) (tC (.int 0))))))
def t_Ratio___ge__ (K : PySem.W.Frag) (C_Ratio : Addr) : TS :=
  (tSeq (tAsg (tCall (spAsR K C_Ratio) [] E0 (tCons (tVar 1) tNil)) (gName 2))
    (tSeq (tIfS (tTest (tOp oIsN (tVar 2) (tC .non))) tNever tNext)
    (tRet (tOp oGe (tCall (spGap K C_Ratio) [] E0 (tCons (tVar 0) (tCons (tVar 2) tNil))) (tC (.int 0))))))
def t_Ratio_over (K : PySem.W.Frag) (C_Ratio : Addr) : TS :=
  (tSeq (tAsg (tCall (spAsR K C_Ratio) [] E0 (tCons (tVar 1) tNil)) (gName 2))
    (tSeq (tIfS (tOr (tTest (tOp oIsN (tVar 2) (tC .non))) (tTest (tOp rEq (tFld K (tVar 2) "reduced_top") (tC (.int 0))))) tNever tNext)
    (tRet (tMake C_Ratio (spRInit K C_Ratio) [] E0 (tCons (tOp oMulW (tFld K (tVar 0) "reduced_top") (tFld K (tVar 2) "reduced_bottom")) (tCons (tOp oMulW (tFld K (tVar 0) "reduced_bottom") (tFld K (tVar 2) "reduced_top")) tNil))))))
def t_is_amount (K : PySem.W.Frag) (C_Ratio : Addr) : TS :=
  (tSeq (tAsg (tCall (spAsR K C_Ratio) [] E0 (tCons (tVar 0) tNil)) (gName 1))
    (tRet (tAndV (tOp oNotN (tVar 1) (tC .non)) (tOp (rOwn C_Ratio (spGe K C_Ratio) E0) (tVar 1) (tC (.int 0))))))
def t_checked_amount (K : PySem.W.Frag) (C_Ratio : Addr) : TS :=
  (tSeq (tIfS (tNot (tB (tCall (spIsAm K C_Ratio) [] E0 (tCons (tVar 0) tNil)))) tNever tNext)
    (tRet (tCall (spChkN K C_Ratio) [] E0 (tCons (tVar 0) tNil))))
def t_level_above (K : PySem.W.Frag) (C_Profile : Addr) (C_Ratio : Addr) : TS :=
  (tSeq (tAsg (tSl (rSlA K) (tProp C_Profile (getSp C_Profile "column_heights") [] E0 (tVar 0)) (tPart (tVar 1)) (tPart (tOp oAdd (tVar 2) (tC (.int 1))))) (gName 4))
    (tSeq (tAsg (tSl (rSlA K) (tProp C_Profile (getSp C_Profile "column_widths") [] E0 (tVar 0)) (tPart (tVar 1)) (tPart (tOp oAdd (tVar 2) (tC (.int 1))))) (gName 5))
    (tSeq (tAsg (tSortSet K (tLc (iTup K (tVar 4)) (gName 12) tYes (tCB cInt (tCons (tVar 12) tNil)) [12])) (gName 6))
    (tSeq (tAsg (tC (.int 0)) (gName 7))
    (tSeq (tAsg (tC (.int 0)) (gName 8))
    (tSeq (tFor (iEnum K (tCons (tVar 6) tNil)) (gTup K 2 (gCons (gName 9) (gCons (gName 10) gNil))) (tSeq (tAsg (tOp oAdd (tVar 7) (tCB (rSum K) (tCons (tLc (RZ.iZipA K (tCons (tVar 4) (tCons (tVar 5) tNil))) (gTup K 2 (gCons (gName 12) (gCons (gName 13) gNil))) (tTest (tOp rEq (tVar 12) (tVar 10))) (tVar 13) [12, 13]) tNil))) (gName 7))
    (tSeq (tIfS (tTest (tOp rEq (tOp oAdd (tVar 9) (tC (.int 1))) (tCB (cLen K) (tCons (tVar 6) tNil)))) tBreak tNext)
    (tSeq (tAsg (tOp oMulW (tVar 7) (tOp oSub (tOp (rIxL K) (tVar 6) (tOp oAdd (tVar 9) (tC (.int 1)))) (tVar 10))) (gName 11))
    (tSeq (tIfS (tTest (tOp (rOwn C_Ratio (spLe K C_Ratio) E0) (tVar 3) (tOp oAdd (tVar 8) (tVar 11)))) tBreak tNext)
    (tAsg (tOp oAdd (tVar 8) (tVar 11)) (gName 8)))))))
    (tRet (tOp (rOwnI C_Ratio (spAdd K C_Ratio) E0) (tMeth C_Ratio "over" (spOver K C_Ratio) [] E0 (tOp (rOwnI C_Ratio (spSub K C_Ratio) E0) (tVar 3) (tVar 8)) (tCons (tVar 7) tNil)) (tVar 10)))))))))
def t_level_for (K : PySem.W.Frag) (C_Profile : Addr) (C_Ratio : Addr) : TS :=
  (tSeq (tDrop (tCall (spChkRun K C_Profile) [] E0 (tCons (tVar 0) (tCons (tVar 1) (tCons (tVar 2) tNil)))))
    (tRet (tCall (spLvA K C_Profile C_Ratio) [] E0 (tCons (tVar 0) (tCons (tVar 1) (tCons (tVar 2) (tCons (tCall (spChkA K C_Ratio) [] E0 (tCons (tVar 3) tNil)) tNil)))))))
local macro_rules | `(tactic| walk_at "rv st") => `(tactic| first
  | with_reducible refine iteT ?_ | with_reducible refine iteF ?_ | with_reducible refine w_nx ?_ | with_reducible refine w_yes ?_ | with_reducible refine w_rt ?_ | with_reducible refine iteNT ?_ | with_reducible refine iteNF ?_ | with_reducible refine iteNRf ?_ | with_reducible refine iteRf ?_ | with_reducible refine w_seqA ?_ | with_reducible refine w_seqD ?_ | with_reducible refine w_seqP ?_ | with_reducible refine w_asg ?_ | with_reducible refine w_ret ?_ | with_reducible refine w_drop ?_ | with_reducible refine w_ifs ?_ | with_reducible refine w_next ?_ | with_reducible refine w_par ?_
  | with_reducible refine w_op ?_ | with_reducible refine w_un ?_ | ((with_reducible show tVar _ _ _ _); refine' w_var ?hv ?_; (case hv => exact rfl)) | with_reducible refine w_c ?_ | with_reducible refine w_test ?_ | with_reducible refine w_tB ?_
  | with_reducible refine w_bl ?_ | with_reducible refine w_I0 ?_ | with_reducible refine w_U ?_ | with_reducible refine w_eqI ?_ | with_reducible refine w_neI ?_
  | with_reducible refine w_cons ?_ | with_reducible refine w_nil ?_ | with_reducible refine w_gn ?_ | with_reducible refine w_gsub ?_ | with_reducible refine w_and ?_ | with_reducible refine w_or ?_ | with_reducible refine w_not ?_
  | with_reducible refine w_andV ?_ | with_reducible refine w_orV ?_ | with_reducible refine w_notV ?_ | with_reducible refine w_if ?_ | with_reducible refine w_cb ?_ | with_reducible refine w_call ?_ | with_reducible refine w_lst ?_ | with_reducible refine w_tup ?_
  | with_reducible refine w_sl ?_ | with_reducible refine w_noPart ?_ | with_reducible refine w_part ?_ | with_reducible refine w_ex1 ?_ | with_reducible refine w_exb ?_ | with_reducible refine w_intB ?_ | with_reducible refine w_intI ?_ | with_reducible refine w_abs ?_)
local macro_rules | `(tactic| walk_at "rv ix") => `(tactic| ((with_reducible show rIxL _ _ _ _ _); refine' w_ixL (sq_lst ?ha) ?hb ?_; (case ha => first | exact upd_same | assumption); (case hb => first | exact rfl | assumption)))
local macro_rules | `(tactic| walk_at "rv ar") => `(tactic| first
  | (refine' w_I ?hc ?_; (case hc => first | (show (0 : Int) < _; first | assumption | decide | omega) | exact pow_c (by decide) (by decide) (by first | decide | omega) (by first | decide | omega) | exact mul_r (by first | decide | omega) (by first | decide | omega) | exact mul_l (by first | decide | omega) (by first | decide | omega) | exact divw (by first | assumption | decide | omega) (by first | assumption | decide | omega))))
local macro_rules | `(tactic| walk_at "rv go") => `(tactic| repeat first | walk_at "rv st" | walk_at "rv ix" | ((with_reducible show rI _ _ _ _ _ _); walk_at "rv ar"))
theorem p_add {K : PySem.W.Frag} {C : Addr} {vs : List V} {H : Hp} {Q : VK} {E : XK} (h : spAdd K C vs H Q E) : t_Ratio___add__ K C { nx := fun _ H' => Q .non H', rt := Q } (start ["self", "other", "right", "top"] vs) H := by
  obtain ⟨a, v, t, b, n, d, rfl, R, ha, hv, s1, s2, s3, s4, k⟩ := h
  unfold t_Ratio___add__
  walk_at "rv go"
  refine ⟨v, n, d, rfl, R, hv, fun q H1 e hq => ?_⟩
  have hd := hv.pos
  obtain ⟨l1, dx, ha⟩ := ha.same e
  obtain ⟨l2, dy, hq⟩ := hq
  walk_at "rv go"
  refine w_seq ?_
  walk_at "rv go"
  refine ⟨rfl, ?_⟩
  rw [decide_eq_false (show ¬ V.ref q = V.non from fun z => nomatch z)]
  walk_at "rv go"
  refine w_fld rfl ha R.cl R.nT (rfl2_t _ _) ?_
  refine w_fld rfl hq R.cl R.nB (rfl2_b _ _) ?_
  refine w_I (mulw s1 s4 (by decide) (by decide) (by decide)) ?_
  walk_at "rv go"
  refine w_fld rfl hq R.cl R.nT (rfl2_t _ _) ?_
  refine w_fld rfl ha R.cl R.nB (rfl2_b _ _) ?_
  refine w_I (mulw s3 s2 (by decide) (by decide) (by decide)) ?_
  walk_at "rv go"
  refine w_make ?_
  walk_at "rv go"
  refine w_fld rfl ha R.cl R.nB (rfl2_b _ _) ?_
  refine w_fld rfl hq R.cl R.nB (rfl2_b _ _) ?_
  refine w_I (mulw s2 s4 (by decide) (by decide) (by decide)) ?_
  walk_at "rv go"
  exact mk_rat (Q := fun x H' => Q (.ref x) H') rfl R (Int.mul_pos l1.1 hd) ((s2.mul s4).mono (by decide)) fun x H' y z e2 r hr => k x H' y z (e.trans e2) hr r
theorem p_le {K : PySem.W.Frag} {C : Addr} {vs : List V} {H : Hp} {Q : VK} {E : XK} (h : spLe K C vs H Q E) : t_Ratio___le__ K C { nx := fun _ H' => Q .non H', rt := Q } (start ["self", "other", "right"] vs) H := by
  obtain ⟨a, v, t, b, n, d, rfl, R, ha, hv, s1, s2, s3, s4, k⟩ := h
  unfold t_Ratio___le__
  walk_at "rv go"
  refine ⟨v, n, d, rfl, R, hv, fun q H1 e hq => ?_⟩
  walk_at "rv go"
  refine w_seq ?_
  walk_at "rv go"
  refine ⟨rfl, ?_⟩
  rw [decide_eq_false (show ¬ V.ref q = V.non from fun z => nomatch z)]
  walk_at "rv go"
  refine ⟨a, q, t, b, n, d, rfl, R, ha.same e, hq, s1.mono (by decide), s2.mono (by decide), s3.mono (by decide), s4.mono (by decide), ?_⟩
  walk_at "rv go"
  exact k H1 e
theorem p_ge {K : PySem.W.Frag} {C : Addr} {vs : List V} {H : Hp} {Q : VK} {E : XK} (h : spGe K C vs H Q E) : t_Ratio___ge__ K C { nx := fun _ H' => Q .non H', rt := Q } (start ["self", "other", "right"] vs) H := by
  obtain ⟨a, v, t, b, n, d, rfl, R, ha, hv, s1, s2, s3, s4, k⟩ := h
  unfold t_Ratio___ge__
  walk_at "rv go"
  refine ⟨v, n, d, rfl, R, hv, fun q H1 e hq => ?_⟩
  walk_at "rv go"
  refine w_seq ?_
  walk_at "rv go"
  refine ⟨rfl, ?_⟩
  rw [decide_eq_false (show ¬ V.ref q = V.non from fun z => nomatch z)]
  walk_at "rv go"
  refine ⟨a, q, t, b, n, d, rfl, R, ha.same e, hq, s1.mono (by decide), s2.mono (by decide), s3.mono (by decide), s4.mono (by decide), ?_⟩
  walk_at "rv go"
  exact k H1 e
theorem p_over {K : PySem.W.Frag} {C : Addr} {vs : List V} {H : Hp} {Q : VK} {E : XK} (h : spOver K C vs H Q E) : t_Ratio_over K C { nx := fun _ H' => Q .non H', rt := Q } (start ["self", "other", "right"] vs) H := by
  obtain ⟨a, v, t, b, n, d, rfl, R, ha, hv, hn, s1, s2, s3, s4, k⟩ := h
  unfold t_Ratio_over
  walk_at "rv go"
  refine ⟨v, n, d, rfl, R, hv, fun q H1 e hq => ?_⟩
  obtain ⟨l1, dx, ha⟩ := ha.same e
  obtain ⟨l2, dy, hq⟩ := hq
  walk_at "rv go"
  refine w_seq ?_
  walk_at "rv go"
  refine ⟨rfl, ?_⟩
  rw [decide_eq_false (show ¬ V.ref q = V.non from fun z => nomatch z)]
  walk_at "rv go"
  refine w_fld rfl hq R.cl R.nT (rfl2_t _ _) ?_
  walk_at "rv go"
  rw [decide_eq_false (show ¬ n = 0 by omega)]
  walk_at "rv go"
  refine w_make ?_
  walk_at "rv go"
  refine w_fld rfl ha R.cl R.nT (rfl2_t _ _) ?_
  refine w_fld rfl hq R.cl R.nB (rfl2_b _ _) ?_
  refine w_I (mulw s1 s4 (by decide) (by decide) (by decide)) ?_
  walk_at "rv go"
  refine w_fld rfl ha R.cl R.nB (rfl2_b _ _) ?_
  refine w_fld rfl hq R.cl R.nT (rfl2_t _ _) ?_
  refine w_I (mulw s2 s3 (by decide) (by decide) (by decide)) ?_
  walk_at "rv go"
  exact mk_rat (Q := fun x H' => Q (.ref x) H') rfl R (Int.mul_pos l1.1 hn) ((s2.mul s3).mono (by decide)) fun x H' y z e2 r hr => k x H' y z (e.trans e2) hr r
theorem p_isAm {K : PySem.W.Frag} {C : Addr} {vs : List V} {H : Hp} {Q : VK} {E : XK} (h : spIsAm K C vs H Q E) : t_is_amount K C { nx := fun _ H' => Q .non H', rt := Q } (start ["value", "found"] vs) H := by
  obtain ⟨v, n, d, rfl, R, hv, s1, s2, k⟩ := h
  unfold t_is_amount
  walk_at "rv go"
  refine ⟨v, n, d, rfl, R, hv, fun q H1 e hq => ?_⟩
  walk_at "rv go"
  refine ⟨rfl, ?_⟩
  rw [decide_eq_false (show ¬ V.ref q = V.non from fun z => nomatch z)]
  walk_at "rv go"
  obtain ⟨l2, dy, hq2⟩ := id hq
  refine w_ownI hq2 ?_
  exact ⟨q, _, n, d, 0, 1, rfl, R, hq, .inl ⟨rfl, rfl⟩, s1, s2, sz_lit (M := 0) (by decide), sz_one (by decide), fun H2 e2 => k H2 (e.trans e2)⟩
theorem p_chkA {K : PySem.W.Frag} {C : Addr} {vs : List V} {H : Hp} {Q : VK} {E : XK} (h : spChkA K C vs H Q E) : t_checked_amount K C { nx := fun _ H' => Q .non H', rt := Q } (start ["value"] vs) H := by
  obtain ⟨v, n, d, rfl, R, hv, hn, s1, s2, k⟩ := h
  unfold t_checked_amount
  refine w_seq ?_
  walk_at "rv go"
  refine ⟨v, n, d, rfl, R, hv, s1, s2, fun H1 e => ?_⟩
  rw [decide_eq_true (show 0 ≤ n * 1 - 0 * d by omega)]
  walk_at "rv go"
  exact ⟨v, n, d, rfl, R, hv.same e, fun q H' e2 hq => k q H' (e.trans e2) hq⟩
def sub (xs : List Int) (f l : Nat) : List Int := (xs.drop f).take (l + 1 - f)
theorem sub_len {xs : List Int} {f l : Nat} (h : l < xs.length) : (sub xs f l).length = l + 1 - f := by
  unfold sub
  rw [List.length_take, List.length_drop]
  omega
theorem sub_hN {xs : List Int} {f l j : Nat} (h : j < l + 1 - f) : hN (sub xs f l) j = hN xs (f + j) := by
  unfold hN sub
  rw [List.getElem?_take_of_lt h, List.getElem?_drop]
theorem slice_tup {K : PySem.W.Frag} {H : Hp} {Q : VK} {t : Addr} {xs : List Int} {f l : Nat} (hfl : f ≤ l) (hl : l < xs.length) (hT : SqT K H t (xs.map V.int)) (k : ∀ x H', Same H H' → SqT K H' x ((sub xs f l).map V.int) → Q (.ref x) H') :
    rSlA K (.ref t) (some (f : Int)) (some ((l : Int) + 1)) H Q := by
  have e1 : ((l : Int) + 1) = ((l + 1 : Nat) : Int) := by omega
  rw [e1]
  have ln : (xs.map V.int).length = xs.length := List.length_map ..
  have z1 : HT.sIx (xs.map V.int).length 0 (some (f : Int)) = f := by
    rw [HT.sIx_nat, ln]
    omega
  have z2 : HT.sIx (xs.map V.int).length (xs.map V.int).length (some ((l + 1 : Nat) : Int)) = l + 1 := by
    rw [HT.sIx_nat, ln]
    omega
  refine ⟨t, _, rfl, hT, ?_, ?_⟩
  · rw [z1, z2, ln]
    rintro ⟨rfl, h2⟩
    have e : sub xs 0 l = xs := by
      unfold sub
      rw [List.drop_zero]
      exact List.take_of_length_le (by omega)
    exact k t H (Same.refl H) (by rw [e]; exact hT)
  · intro _ p np
    refine k p _ (same_new (Same.refl H) np) (sq_tup ?_)
    rw [upd_same]
    unfold cutV sub
    rw [z1, z2, List.map_take, List.map_drop]
theorem sqt_same {K : PySem.W.Frag} {H H' : Hp} {a : Addr} {xs : List V} (h : SqT K H a xs) (e : Same H H') : SqT K H' a xs := by
  rcases h with (h | ⟨o, h⟩) | h
  · exact .inl (.inl (e _ _ h))
  · exact .inl (.inr ⟨o, e _ _ h⟩)
  · exact .inr h
section
variable {K : PySem.W.Frag} {σ : L2.St} {H : Hp} {Q : VK} {slot : Nat} {tl te : TE} {tt : TT} {tr : TA} {g : TG} {a b : Addr} {xs ys : List V} {vs : List Nat}
/-- [.. for x in t if ..], t a tuple -/
theorem w_lcT (ht : ∀ Q : VK, Q (.ref a) H → tl σ H Q) (hx : SqT K H a xs) (J : Addr → Nat → List V → Hp → Prop) (h0 : ∀ D, H D = none → J D 0 [] (upd H D (.lst []))) (hl : ∀ D i acc H1, J D i acc H1 → SqT K H1 a xs)
    (hs : ∀ D i acc x H1, xs[i]? = some x → J D i acc H1 → g x (wipe σ vs) H1 fun σ2 H2 => wipe σ2 vs = wipe σ vs ∧ tt σ2 H2 fun b H3 => if b = true then te σ2 H3 fun y H4 => ∃ bcc, H4 D = some (.lst bcc) ∧ bcc.length < sizeLine ∧ ∃ ccc, J D (i + 1) ccc (upd H4 D (.lst (bcc ++ [y]))) else ∃ ccc, J D (i + 1) ccc H3)
    (hd : ∀ D acc H1, J D xs.length acc H1 → Q (.ref D) H1) : tLc (iTup K tl) g tt te vs σ H Q := by
  refine ht _ ⟨a, rfl, ⟨xs, hx⟩, fun D nD => ?_⟩
  exact lc_tup (fun i H1 => ∃ acc, J D i acc H1) ⟨[], h0 D nD⟩ (fun i H1 _ ⟨acc, q⟩ => hl D i acc H1 q) (fun i x H1 hx ⟨acc, q⟩ => hs D i acc x H1 hx q) fun H1 ⟨acc, q⟩ => hd D acc H1 q
/-- [.. for x, y in zip(t, u) if ..], two tuples -/
theorem w_lcZT (ht : ∀ AQ : List V → Hp → Prop, AQ [.ref a, .ref b] H → tr σ H AQ) (hx : SqT K H a xs) (hy : SqT K H b ys) (he : xs.length = ys.length) (J : Addr → Nat → List V → Hp → Prop) (h0 : ∀ D, H D = none → J D 0 [] (upd H D (.lst [])))
    (hl : ∀ D i acc H1, J D i acc H1 → SqT K H1 a xs ∧ SqT K H1 b ys)
    (hs : ∀ D i acc x y T H1, xs[i]? = some x → ys[i]? = some y → J D i acc H1 → H1 T = none → g (.ref T) (wipe σ vs) (upd H1 T (.tup [x, y])) fun σ2 H2 => wipe σ2 vs = wipe σ vs ∧ tt σ2 H2 fun b H3 => if b = true then te σ2 H3 fun y H4 => ∃ bcc, H4 D = some (.lst bcc) ∧ bcc.length < sizeLine ∧ ∃ ccc, J D (i + 1) ccc (upd H4 D (.lst (bcc ++ [y]))) else ∃ ccc, J D (i + 1) ccc H3)
    (hd : ∀ D acc H1, J D xs.length acc H1 → Q (.ref D) H1) : tLc (RZ.iZipA K tr) g tt te vs σ H Q := by
  refine ht _ ⟨a, b, xs, ys, rfl, .inr ⟨hx, hy, fun D nD => ?_⟩⟩
  refine ⟨fun i m H2 => m = xs.length - i ∧ i ≤ xs.length ∧ ∃ acc, J D i acc H2, ⟨xs.length, by simp, Nat.zero_le _, [], h0 D nD⟩, ?_⟩
  rintro i m H2 ⟨rfl, hi, acc, q⟩
  obtain ⟨q1, q2⟩ := hl D i acc H2 q
  by_cases hlt : i < xs.length
  · have k2 : i < ys.length := by omega
    refine .inr ⟨⟨xs, ys, xs[i], ys[i], q1, q2, List.getElem?_eq_getElem hlt, List.getElem?_eq_getElem k2⟩, fun H' => ∃ ccc, J D (i + 1) ccc H', fun H' z => ⟨xs.length - (i + 1), by omega, rfl, hlt, z⟩, ?_⟩
    rintro z H' ⟨T, x, y, rfl, nT, rfl, hx, hy⟩
    exact hs D i acc x y T H2 (hx xs q1) (hy ys q2) q nT
  · have e : i = xs.length := by omega
    subst e
    exact .inl ⟨⟨xs, ys, q1, q2, .inl (Nat.le_refl _)⟩, hd D acc H2 q⟩
theorem w_meth {C : Addr} {m : Str} {sp : Sp} {E : XK} {ta : TE} (q : ta σ H fun x H1 => ∃ a dx fs, x = .ref a ∧ H1 a = some (.ins C dx fs) ∧ fs.lookup m = none ∧ tr σ H1 fun vs H2 => sp (x :: (vs ++ [])) H2 Q E) : tMeth C m sp [] E ta tr σ H Q := q
end
theorem rfl2_over (t b : Int) : (rfl2 t b).lookup ("over" : Str) = none := by
  unfold rfl2
  rw [lookup_putF, if_neg (by decide +kernel), lookup_putF, if_neg (by decide +kernel)]
  rfl
theorem due_nn {h w : Nat → Int} {t b : Int} {f : Nat} : ∀ {k : Nat}, (∀ j, j < k → 1 ≤ w (f + j)) → 0 ≤ dueF h w t b f k
  | 0, _ => by simp [dueF]
  | k + 1, a => by
    have h1 := due_nn (h := h) (t := t) (b := b) (k := k) fun j hj => a j (by omega)
    have h2 := a k (by omega)
    unfold dueF
    split
    · have := Int.mul_nonneg (show 0 ≤ w (f + k) by omega) (show 0 ≤ t - h (f + k) * b by omega)
      omega
    · omega
theorem sub_mem {xs : List Int} {f l : Nat} {z : Int} (hl : l < xs.length) : z ∈ sub xs f l ↔ ∃ j, j < l + 1 - f ∧ z = hN xs (f + j) := by
  constructor
  · intro h
    obtain ⟨j, hj, e⟩ := hN_of_mem h
    rw [sub_len hl] at hj
    exact ⟨j, hj, by rw [e, sub_hN hj]⟩
  · rintro ⟨j, hj, rfl⟩
    rw [← sub_hN hj]
    exact hN_mem (by rw [sub_len hl]; exact hj)
theorem run_bounds {hs ws : List Int} {f l : Nat} {s : Int} (ok : PrOk hs ws) (hfl : f ≤ l) (hl : l < hs.length) (hs1 : HOk1 s) :
    Sz 110 (wLe (hN hs) (hN ws) s f (l + 1 - f)) ∧ Sz 240 (dueF (hN hs) (hN ws) s 1 f (l + 1 - f)) := by
  have h60 := ok.le
  have hwl := ok.eq
  have hw : ∀ j, j < l + 1 - f → WOk1 (hN ws (f + j)) := fun j hj => ok.ww _ (hN_mem (by omega))
  have hh : ∀ j, j < l + 1 - f → HOk1 (hN hs (f + j)) := fun j hj => ok.hh _ (hN_mem (by omega))
  have k60 : l + 1 - f ≤ 60 := by omega
  have b1 : Sz 110 (wLe (hN hs) (hN ws) s f (l + 1 - f)) := by
    have b := sumF_bound (g := fun c => if hN hs c ≤ s then hN ws c else 0) (f := f) (k := l + 1 - f) (M := 1000000000000000000000000000000) fun j hj => by
      have := (hw j hj).1
      have := (hw j hj).2
      split <;> omega
    have e : wLe (hN hs) (hN ws) s f (l + 1 - f) = sumF (fun c => if hN hs c ≤ s then hN ws c else 0) f (l + 1 - f) := rfl
    rw [← e] at b
    exact sz_lit (M := 60000000000000000000000000000000) (by omega)
  have b2 : Sz 210 (gLe (hN hs) (hN ws) s f (l + 1 - f)) := by
    have b := sumF_bound (g := fun c => if hN hs c ≤ s then hN ws c * hN hs c else 0) (f := f) (k := l + 1 - f) (M := 1000000000000000000000000000000000000000000000000000000000000) fun j hj => by
      have q : (hN ws (f + j) * hN hs (f + j)).natAbs ≤ 1000000000000000000000000000000000000000000000000000000000000 := by
        rw [Int.natAbs_mul]
        exact Nat.le_trans (Nat.mul_le_mul (wok_sz (hw j hj)) (hok_sz (hh j hj))) (by decide)
      split <;> omega
    have e : gLe (hN hs) (hN ws) s f (l + 1 - f) = sumF (fun c => if hN hs c ≤ s then hN ws c * hN hs c else 0) f (l + 1 - f) := rfl
    rw [← e] at b
    exact sz_lit (M := 60000000000000000000000000000000000000000000000000000000000000) (by omega)
  refine ⟨b1, ?_⟩
  rw [due_le (s := s) (n := s) (d := 1) (by omega) (by omega) (fun j hj z => by omega), Int.mul_one]
  exact (Sz.sub (k := 215) ((b1.mul (sz_lit (k := 100) (hok_sz hs1))).mono (by decide)) (b2.mono (by decide))).mono (by decide)
theorem p_lvA {K : PySem.W.Frag} {CP CR : Addr} {vs : List V} {H : Hp} {Q : VK} {E : XK} (h : spLvA K CP CR vs H Q E) : t_level_above K CP CR { nx := fun _ H' => Q .non H', rt := Q } (start ["profile", "first", "last", "volume", "heights", "widths", "steps", "wide", "held", "at", "step", "layer", "height", "width"] vs) H := by
  obtain ⟨p, hs, ws, f, l, q, vt, vb, rfl, P, R, ⟨dx, t1, t2, hp, h1, h2⟩, ok, hfl, hl, hq, v0, st, sb, k⟩ := h
  have h60 := ok.le
  have hwl := ok.eq
  have hw1 : ∀ j, j < l + 1 - f → 1 ≤ hN ws (f + j) := fun j hj => (ok.ww _ (hN_mem (by omega))).1
  unfold t_level_above
  refine w_seqA ?_
  refine w_sl ?_
  refine w_prop rfl hp ?_
  refine ⟨p, dx, _, _, rfl, hp, pfl_h _ _, ?_⟩
  walk_at "rv go"
  refine slice_tup hfl hl (sq_tup h1) fun x1 H1 e1 hx1 => ?_
  walk_at "rv go"
  refine w_prop rfl (e1 _ _ hp) ?_
  refine ⟨p, dx, _, _, rfl, e1 _ _ hp, pfl_w _ _, ?_⟩
  walk_at "rv go"
  refine slice_tup hfl (by omega) (sq_tup (e1 _ _ h2)) fun x2 H2 e2 hx2 => ?_
  walk_at "rv go"
  have hx1' := sqt_same hx1 e2
  have lsub : (sub hs f l).length = l + 1 - f := sub_len hl
  have lsubw : (sub ws f l).length = l + 1 - f := sub_len (by omega)
  refine w_ss ?_
  refine w_lcT (a := x1) (xs := (sub hs f l).map V.int) (fun Q q => by walk_at "rv go"; exact q) hx1' (fun D i acc H' => Same H2 H' ∧ H2 D = none ∧ H' D = some (.lst acc) ∧ acc = ((sub hs f l).take i).map V.int ∧ acc.length ≤ i)
    (fun D nD => ⟨same_new (Same.refl H2) nD, nD, upd_same, by rw [List.take_zero]; rfl, Nat.le_refl _⟩) (fun D i acc H' ⟨e, _⟩ => sqt_same hx1' e) ?_ ?_
  · rintro D i acc x H' hxi ⟨e, nD, hD, hacc, hl2⟩
    rw [List.getElem?_map] at hxi
    obtain ⟨z, hz, rfl⟩ := Option.map_eq_some_iff.mp hxi
    have il : i < (sub hs f l).length := (List.getElem?_eq_some_iff.mp hz).1
    refine ⟨rfl, ?_⟩
    walk_at "rv go"
    refine ⟨acc, hD, Nat.lt_of_lt_of_le (by omega : acc.length < 100001) (by decide), acc ++ [.int z], ?_, nD, upd_same, ?_, ?_⟩
    · exact fun c o hc => by
        rw [upd_ne (ne_of_none hc nD)]
        exact e _ _ hc
    · rw [List.take_add_one, hz, hacc]
      simp
    · rw [List.length_append]
      show acc.length + 1 ≤ i + 1
      omega
  rintro D acc H3 ⟨e3, nD, hD, hacc, _⟩
  rw [List.length_map, List.take_length] at hacc
  refine ⟨D, sub hs f l, rfl, sq_lst (by rw [hD, hacc]), by omega, fun out nd hm => ?_, fun S px hS hm npx => ?_⟩
  · have := nodup_le nd fun x hx => (hm x).mp hx
    omega
  -- the steps S
  have hmS : ∀ j, j < l + 1 - f → hN hs (f + j) ∈ S := fun j hj => (hm _).mpr ((sub_mem hl).mpr ⟨j, hj, rfl⟩)
  have hSm : ∀ i, i < S.length → ∃ j, j < l + 1 - f ∧ hN S i = hN hs (f + j) := fun i hi => (sub_mem hl).mp ((hm _).mp (hN_mem hi))
  have S0 : 0 < S.length := List.length_pos_of_mem (hmS 0 (by omega))
  have S60 : S.length ≤ 60 := by
    have nd : S.Nodup := List.Pairwise.imp (fun h => Int.ne_of_lt h) hS
    have := nodup_le nd fun x hx => (hm x).mp hx
    omega
  have hokS : ∀ i, i < S.length → HOk1 (hN S i) := fun i hi => by
    obtain ⟨j, hj, e⟩ := hSm i hi
    rw [e]
    exact ok.hh _ (hN_mem (by omega))
  have hmin : IsMin (hN hs) f (l + 1 - f) (hN S 0) := ⟨fun j hj => sorted_min hS (hmS j hj), hSm 0 S0⟩
  have e4 : Same H (upd H3 px (.lst (S.map V.int))) := same_new ((e1.trans e2).trans e3) npx
  have hx1'' : SqT K (upd H3 px (.lst (S.map V.int))) x1 ((sub hs f l).map V.int) := sqt_same hx1' (same_new e3 npx)
  have hx2'' : SqT K (upd H3 px (.lst (S.map V.int))) x2 ((sub ws f l).map V.int) := sqt_same hx2 (same_new e3 npx)
  have hpx : upd H3 px (.lst (S.map V.int)) px = some (.lst (S.map V.int)) := upd_same
  generalize upd H3 px (.lst (S.map V.int)) = H4 at e4 hx1'' hx2'' hpx
  walk_at "rv go"
  -- what is returned once the layer is found
  have fin : ∀ (i : Nat) (H' : Hp) (o9 o11 o12 o13 : Option V), i < S.length → Same H4 H' → dueF (hN hs) (hN ws) (hN S i) 1 f (l + 1 - f) * vb ≤ vt → (0 < i → 0 < vt) →
      (i + 1 = S.length ∨ (i + 1 < S.length ∧ vt ≤ (dueF (hN hs) (hN ws) (hN S i) 1 f (l + 1 - f) + wLe (hN hs) (hN ws) (hN S i) f (l + 1 - f) * (hN S (i + 1) - hN S i)) * vb)) →
      (tRet (tOp (rOwnI CR (spAdd K CR) E0) (tMeth CR "over" (spOver K CR) [] E0 (tOp (rOwnI CR (spSub K CR) E0) (tVar 3) (tVar 8)) (tCons (tVar 7) tNil)) (tVar 10))) { nx := fun _ H' => Q .non H', rt := Q }
        [some (.ref p), some (.int (f : Int)), some (.int (l : Int)), some (.ref q), some (.ref x1), some (.ref x2), some (.ref px), some (.int (wLe (hN hs) (hN ws) (hN S i) f (l + 1 - f))), some (.int (dueF (hN hs) (hN ws) (hN S i) 1 f (l + 1 - f))), o9, some (.int (hN S i)), o11, o12, o13] H' := by
    intro i H' o9 o11 o12 o13 hi e' hheld hpos hnext
    have hb := run_bounds ok hfl hl (hokS i hi)
    have wp : 0 < wLe (hN hs) (hN ws) (hN S i) f (l + 1 - f) := wLe_pos hw1 (by
      obtain ⟨j, hj, e⟩ := hSm i hi
      exact ⟨j, hj, by omega⟩)
    have ss : Sz 100 (hN S i) := sz_lit (hok_sz (hokS i hi))
    obtain ⟨lw, dq, hq'⟩ := hq.same (e4.trans e')
    have hh2 : ∀ j, j < l + 1 - f → hN S i < hN hs (f + j) → vt ≤ (dueF (hN hs) (hN ws) (hN S i) 1 f (l + 1 - f) + wLe (hN hs) (hN ws) (hN S i) f (l + 1 - f) * (hN hs (f + j) - hN S i)) * vb := fun j hj hlt => by
      rcases hnext with h | ⟨h, hv⟩
      · have := sorted_max hS h (hmS j hj)
        omega
      · refine Int.le_trans hv (Int.mul_le_mul_of_nonneg_right ?_ (by have := lw.1; omega))
        have n1 : ¬ hN hs (f + j) < hN S (i + 1) := fun z => by
          have := (sorted_next hS h (hmS j hj)).mp z
          omega
        have := Int.mul_le_mul_of_nonneg_left (show hN S (i + 1) - hN S i ≤ hN hs (f + j) - hN S i by omega) (show 0 ≤ wLe (hN hs) (hN ws) (hN S i) f (l + 1 - f) by omega)
        omega
    have hs0 : hN S 0 ≤ hN S i := sorted_min hS (hN_mem hi)
    have h0 : vt = 0 → hN S i = hN S 0 := fun z => by
      by_cases e : i = 0
      · rw [e]
      · have := hpos (by omega)
        omega
    have lay := fun n d hd e => layer_ok (n := n) (d := d) lw.1 hd rfl rfl wp e hheld hh2 hmin hs0 h0
    generalize wLe (hN hs) (hN ws) (hN S i) f (l + 1 - f) = wide at *
    generalize dueF (hN hs) (hN ws) (hN S i) 1 f (l + 1 - f) = held at *
    walk_at "rv go"
    refine w_meth ?_
    walk_at "rv go"
    refine w_binI hq' ?_
    refine ⟨q, _, vt, vb, held, 1, rfl, R, ⟨lw, dq, hq'⟩, .inl ⟨rfl, rfl⟩, st.mono (by decide), sb.mono (by decide), hb.2.mono (by decide), sz_one (by decide), fun r H5 n1 d1 e5 hr red1 => ?_⟩
    have sd1 : Sz 300 d1 := red1.szb (by rw [Int.mul_one]; exact sb)
    have sn1 : Sz 600 n1 := red1.szt ((Sz.sub (k := 550) (by rw [Int.mul_one]; exact st.mono (by decide)) ((hb.2.mul sb).mono (by decide))).mono (by decide))
    obtain ⟨lr, dr, hr'⟩ := id hr
    refine ⟨r, dr, _, rfl, hr', rfl2_over _ _, ?_⟩
    walk_at "rv go"
    refine ⟨r, _, n1, d1, wide, 1, rfl, R, hr, .inl ⟨rfl, rfl⟩, wp, sn1.mono (by decide), sd1.mono (by decide), hb.1.mono (by decide), sz_one (by decide), fun r2 H6 n2 d2 e6 hr2 red2 => ?_⟩
    have sd2 : Sz 410 d2 := red2.szb (sd1.mul hb.1)
    have sn2 : Sz 600 n2 := red2.szt (by rw [Int.mul_one]; exact sn1)
    obtain ⟨lr2, dr2, hr2'⟩ := id hr2
    walk_at "rv go"
    refine w_binI hr2' ?_
    refine ⟨r2, _, n2, d2, hN S i, 1, rfl, R, hr2, .inl ⟨rfl, rfl⟩, sn2.mono (by decide), sd2.mono (by decide), ss.mono (by decide), sz_one (by decide), fun r3 H7 n d e7 hr3 red3 => ?_⟩
    refine k r3 H7 n d ((((e4.trans e').trans e5).trans e6).trans e7) hr3 (lay n d red3.pos (lv_three lr.1 lr2.1 red1.eq red2.eq red3.eq)) ?_ ?_
    · exact (red3.szt (Sz.add (k := 600) (by rw [Int.mul_one]; exact sn2) ((ss.mul sd2).mono (by decide)))).mono (by decide)
    · exact (red3.szb (by rw [Int.mul_one]; exact sd2)).mono (by decide)
  refine w_seq ?_
  refine w_forE (a := px) (xs := S.map V.int) (fun AQ q => by walk_at "rv go"; exact q) (sq_lst hpx)
    (fun i σ' H' => i < S.length ∧ Same H4 H' ∧ (∃ o9 o10 o11 o12 o13, σ' = [some (.ref p), some (.int (f : Int)), some (.int (l : Int)), some (.ref q), some (.ref x1), some (.ref x2), some (.ref px), some (.int (wLt (hN hs) (hN ws) (hN S i) f (l + 1 - f))), some (.int (dueF (hN hs) (hN ws) (hN S i) 1 f (l + 1 - f))), o9, o10, o11, o12, o13]) ∧
      dueF (hN hs) (hN ws) (hN S i) 1 f (l + 1 - f) * vb ≤ vt ∧ (0 < i → 0 < vt))
    ⟨S0, Same.refl _, ⟨none, none, none, none, none, by rw [wLt_min hmin.1, due_min hmin.1]; rfl⟩, by rw [due_min hmin.1]; omega, fun z => absurd z (Nat.lt_irrefl 0)⟩ (fun i σ' H' ⟨_, e, _⟩ => sq_lst (e _ _ hpx)) ?_ ?_
  · rintro i x T σ' H5 hxi ⟨hi, e5, ⟨o9, o10, o11, o12, o13, rfl⟩, hheld, hpos⟩ nT
    rw [List.getElem?_map] at hxi
    obtain ⟨z, hz, rfl⟩ := Option.map_eq_some_iff.mp hxi
    have ez : z = hN S i := by
      unfold hN
      rw [hz]
      rfl
    subst ez
    refine ⟨T, _, rfl, sq_tup upd_same, rfl, _, _, rfl, ?_⟩
    refine ⟨_, _, rfl, rfl, ?_⟩
    have e5' : Same H4 (upd H5 T (.tup [.int (i : Int), .int (hN S i)])) := same_new e5 nT
    generalize upd H5 T (.tup [.int (i : Int), .int (hN S i)]) = H6 at e5'
    walk_at "rv go"
    refine w_lcZT (a := x1) (b := x2) (xs := (sub hs f l).map V.int) (ys := (sub ws f l).map V.int) (fun AQ q => by walk_at "rv go"; exact q) (sqt_same hx1'' e5') (sqt_same hx2'' e5') (by rw [List.length_map, List.length_map, lsub, lsubw])
      (fun D j acc H' => Same H6 H' ∧ H6 D = none ∧ H' D = some (.lst acc) ∧ ∃ zs : List Int, acc = zs.map V.int ∧ zs.sum = wEq (hN hs) (hN ws) (hN S i) f j ∧ zs.length ≤ j)
      (fun D nD => ⟨same_new (Same.refl H6) nD, nD, upd_same, [], rfl, rfl, Nat.le_refl _⟩) (fun D j acc H' ⟨e, _⟩ => ⟨sqt_same (sqt_same hx1'' e5') e, sqt_same (sqt_same hx2'' e5') e⟩) ?_ ?_
    · rintro D j acc x y T2 H' hx hy ⟨e, nD, hD, zs, rfl, hzs, hzl⟩ nT2
      rw [List.getElem?_map] at hx hy
      obtain ⟨a1, ha1, rfl⟩ := Option.map_eq_some_iff.mp hx
      obtain ⟨b1, hb1, rfl⟩ := Option.map_eq_some_iff.mp hy
      have jl : j < l + 1 - f := by
        have := (List.getElem?_eq_some_iff.mp ha1).1
        omega
      have ea : a1 = hN hs (f + j) := by
        rw [← sub_hN jl]
        unfold hN
        rw [ha1]
        rfl
      have eb : b1 = hN ws (f + j) := by
        rw [← sub_hN jl]
        unfold hN
        rw [hb1]
        rfl
      subst ea eb
      have DT : D ≠ T2 := ne_of_none hD nT2
      have eq1 : wEq (hN hs) (hN ws) (hN S i) f (j + 1) = wEq (hN hs) (hN ws) (hN S i) f j + if hN hs (f + j) = hN S i then hN ws (f + j) else 0 := rfl
      refine ⟨T2, _, rfl, sq_tup upd_same, rfl, _, _, rfl, _, _, rfl, rfl, rfl, ?_⟩
      walk_at "rv go"
      refine w_both (fun z => ?_) (fun z => ?_)
      · walk_at "rv go"
        refine ⟨zs.map V.int, by rw [upd_ne DT]; exact hD, Nat.lt_of_lt_of_le (by rw [List.length_map]; omega : _ < 100001) (by decide), (zs ++ [hN ws (f + j)]).map V.int, ?_, nD, ?_, zs ++ [hN ws (f + j)], rfl, ?_, ?_⟩
        · exact fun c o hc => by
            rw [upd_ne (ne_of_none hc nD), upd_ne (ne_of_none (e _ _ hc) nT2)]
            exact e _ _ hc
        · rw [upd_same, map_app]
        · rw [eq1, if_pos z, List.sum_append, hzs]
          simp
        · rw [List.length_append]
          show zs.length + 1 ≤ j + 1
          omega
      · exact ⟨_, same_new e nT2, nD, by rw [upd_ne DT]; exact hD, zs, rfl, by rw [eq1, if_neg z, Int.add_zero]; exact hzs, by omega⟩
    rintro D acc H7 ⟨e7, nD, hD, zs, rfl, hzs, hzl⟩
    rw [List.length_map, lsub] at hzs
    walk_at "rv go"
    refine ⟨D, zs, rfl, sq_lst hD, ?_⟩
    rw [hzs]
    walk_at "rv go"
    rw [← wLe_eq]
    have e47 : Same H4 H7 := e5'.trans e7
    have hpx7 := e47 _ _ hpx
    refine w_seq ?_
    walk_at "rv go"
    refine w_lenL (sq_lst hpx7) ?_
    walk_at "rv go"
    rw [List.length_map]
    refine w_both (fun z => ?_) (fun z => ?_)
    · exact fin i H7 _ _ _ _ hi e47 hheld hpos (.inl (by omega))
    · have hi2 : i + 1 < S.length := by omega
      have hb := run_bounds ok hfl hl (hokS i hi)
      have sl : Sz 101 (hN S (i + 1) - hN S i) := Sz.sub (sz_lit (hok_sz (hokS _ hi2))) (sz_lit (hok_sz (hokS _ hi)))
      walk_at "rv go"
      refine w_ixL (sq_lst hpx7) (by rw [show (i : Int) + 1 = ((i + 1 : Nat) : Int) by omega]; exact at_hN hi2) ?_
      walk_at "rv go"
      refine w_I (mulw hb.1 sl (by decide) (by decide) (by decide)) ?_
      walk_at "rv go"
      refine w_seq ?_
      walk_at "rv go"
      obtain ⟨lw, dq, hq'⟩ := hq.same (e4.trans e47)
      have sh2 : Sz 250 (dueF (hN hs) (hN ws) (hN S i) 1 f (l + 1 - f) + wLe (hN hs) (hN ws) (hN S i) f (l + 1 - f) * (hN S (i + 1) - hN S i)) := (Sz.add (k := 240) hb.2 ((hb.1.mul sl).mono (by decide))).mono (by decide)
      refine w_ownI hq' ?_
      refine ⟨q, _, vt, vb, _, 1, rfl, R, ⟨lw, dq, hq'⟩, .inl ⟨rfl, rfl⟩, st.mono (by decide), sb.mono (by decide), sh2.mono (by decide), sz_one (by decide), fun H8 e8 => ?_⟩
      walk_at "rv go"
      refine w_both (fun y => ?_) (fun y => ?_)
      · exact fin i H8 _ _ _ _ hi (e47.trans e8) hheld hpos (.inr ⟨hi2, by omega⟩)
      · walk_at "rv go"
        have lt := sorted_lt hS (show i < i + 1 by omega) hi2
        have d1 := due_le (h := hN hs) (w := hN ws) (f := f) (k := l + 1 - f) (s := hN S i) (n := hN S i) (d := 1) (by omega) (by omega) (fun j hj z => by omega)
        have d2 := due_le (h := hN hs) (w := hN ws) (f := f) (k := l + 1 - f) (s := hN S i) (n := hN S (i + 1)) (d := 1) (by omega) (by omega) (fun j hj z => by
          have : ¬ hN hs (f + j) < hN S (i + 1) := fun y => by
            have := (sorted_next hS hi2 (hmS j hj)).mp y
            omega
          omega)
        have eh : dueF (hN hs) (hN ws) (hN S i) 1 f (l + 1 - f) + wLe (hN hs) (hN ws) (hN S i) f (l + 1 - f) * (hN S (i + 1) - hN S i) = dueF (hN hs) (hN ws) (hN S (i + 1)) 1 f (l + 1 - f) := by
          rw [d1, d2, Int.mul_sub]
          omega
        have ew : wLe (hN hs) (hN ws) (hN S i) f (l + 1 - f) = wLt (hN hs) (hN ws) (hN S (i + 1)) f (l + 1 - f) := (wLt_next fun j hj => sorted_next hS hi2 (hmS j hj)).symm
        rw [eh] at y ⊢
        rw [ew]
        refine ⟨hi2, e47.trans e8, ⟨_, _, _, _, _, rfl⟩, by omega, fun _ => ?_⟩
        have nn := due_nn (h := hN hs) (w := hN ws) (t := hN S (i + 1)) (b := 1) (f := f) (k := l + 1 - f) hw1
        have := Int.mul_nonneg nn (show 0 ≤ vb by have := lw.1; omega)
        omega
  · rintro σ' H' ⟨hi, _⟩
    rw [List.length_map] at hi
    exact absurd hi (Nat.lt_irrefl _)
theorem p_lvF {K : PySem.W.Frag} {CP CR : Addr} {vs : List V} {H : Hp} {Q : VK} {E : XK} (h : spLvF K CP CR vs H Q E) : t_level_for K CP CR { nx := fun _ H' => Q .non H', rt := Q } (start ["profile", "first", "last", "volume"] vs) H := by
  obtain ⟨p, hs, ws, f, l, v, t, b, rfl, P, R, hp, ok, hfl, hl, hv, ht, st, sb, k⟩ := h
  unfold t_level_for
  walk_at "rv go"
  refine ⟨p, hs, ws, f, l, rfl, P, hp, ok.le, hfl, hl, ?_⟩
  walk_at "rv go"
  refine ⟨v, t, b, rfl, R, hv, ht, st.mono (by decide), sb.mono (by decide), fun q H1 e hq => ?_⟩
  walk_at "rv go"
  exact ⟨p, hs, ws, f, l, q, t, b, rfl, P, R, hp.same e, ok, hfl, hl, hq, ht, st, sb, fun r H2 n d e2 => k r H2 n d (e.trans e2)⟩
end Rv
namespace Rv
open PySem PySem.Spec PyProof.Rows L2
theorem mk_prof21 {K : PySem.W.Frag} {C : Addr} {H : Hp} {Q : Addr → Hp → Prop} {E : XK} {a : Addr} {wv : V} {us dvs : List V} {hs ws : List Int} (hu : us ++ dvs = [.ref a, wv]) (P : PCls K C) (ha : H a = some (.lst (hs.map V.int))) (h1 : 1 ≤ hs.length) (h60 : hs.length ≤ 60) (hok : ∀ z ∈ hs, HOk1 z)
    (hw : (wv = .non ∧ ws = List.replicate hs.length 1) ∨ ∃ b, wv = .ref b ∧ H b = some (.lst (ws.map V.int)) ∧ ws.length = hs.length ∧ ∀ z ∈ ws, WOk1 z) (k : ∀ x H', H x = none → Same H H' → ProfAt K C H' x hs ws → Q x H') :
    ∀ x dx, H x = none → H dx = none → dx ≠ x → spInit K C (.ref x :: (us ++ dvs)) (upd (upd H dx (.own x)) x (.ins C dx [])) (fun v H2 => v = .non ∧ Q x H2) E := by
  intro x dx nx ndx hne
  rw [hu]
  have s0 : Same H (upd (upd H dx (.own x)) x (.ins C dx [])) := fun b o hb => by
    rw [upd_ne (ne_of_none hb nx), upd_ne (ne_of_none hb ndx)]
    exact hb
  refine ⟨x, dx, a, wv, hs, ws, rfl, P, upd_same, s0 _ _ ha, h1, h60, hok, ?_, fun H' hp hf => ⟨rfl, k x H' nx (fun b o hb => hf b o (ne_of_none hb nx) (s0 b o hb)) hp⟩⟩
  rcases hw with h | ⟨b, h1, h2, h3⟩
  · exact .inl h
  · exact .inr ⟨b, h1, s0 _ _ h2, h3⟩
def spLIs (K : PySem.W.Frag) (C : Addr) : Sp := fun vs H Q _ => ∃ q n d p b, vs = [.ref q, .int p, .int b] ∧ RCls K C ∧ RatAt C H q n d ∧ Sz 4000 n ∧ Sz 4000 d ∧ Sz 4000 p ∧ Sz 4000 b ∧ Q (.bl (decide (n * b = p * d))) H
def spLBelow (K : PySem.W.Frag) : Sp := fun vs H Q _ => ∃ a c hs ws, ∃ f l : Nat, ∃ p q, vs = [.ref a, .ref c, .int (f : Int), .int (l : Int), .int p, .int q] ∧ SqL K H a (hs.map V.int) ∧ SqL K H c (ws.map V.int) ∧ PrOk hs ws ∧ f ≤ l ∧ l < hs.length ∧ Sz 1000 p ∧ Sz 1000 q ∧ Q (.int (dueF (hN hs) (hN ws) p q f (l + 1 - f))) H
def spLRun (K : PySem.W.Frag) : Sp := fun vs H Q _ => ∃ d c, ∃ n : Int, vs = [.ref d, .int n] ∧ DrawsAt H d c ∧ 0 < n ∧ n ≤ 60 ∧ ∀ r H' (f l : Nat), f ≤ l → (l : Int) < n → But d H H' → DrawsAt H' d c → H' r = some (.tup [.int (f : Int), .int (l : Int)]) → Q (.ref r) H'
def spLNum2 (K : PySem.W.Frag) (C : Addr) : Sp := fun vs H Q _ => ∃ p q b, vs = [.int p, .int q, .bl b] ∧ RCls K C ∧ 0 < q ∧ q < 2 ^ 200 ∧ ∀ v H' t e, Same H H' → Num C H' v t e → t * q = p * e → t.natAbs ≤ p.natAbs → e ≤ q → Q v H'
def t__law_is (K : PySem.W.Frag) (C_Ratio : Addr) : TS :=
  (tSeq (tIfS (tNot (tB (tCB (rIsi K) (tCons (tVar 0) (tCons (tC (.ref C_Ratio)) tNil))))) (tRet (tC (.bl false))) tNext)
    (tRet (tOp rEq (tOp oMulW (tProp C_Ratio (getSp C_Ratio "reduced_top") [] E0 (tVar 0)) (tVar 2)) (tOp oMulW (tVar 1) (tProp C_Ratio (getSp C_Ratio "reduced_bottom") [] E0 (tVar 0))))))
def t__law_below (K : PySem.W.Frag) : TS :=
  (tSeq (tAsg (tC (.int 0)) (gName 6))
    (tSeq (tFor (iRng2 (tCons (tVar 2) (tCons (tOp oAdd (tVar 3) (tC (.int 1))) tNil))) (gName 7) (tIfS (tTest (tOp oGt (tVar 4) (tOp oMulW (tOp (rIxL K) (tVar 0) (tVar 7)) (tVar 5)))) (tAsg (tOp oAdd (tVar 6) (tOp oMulW (tOp (rIxL K) (tVar 1) (tVar 7)) (tOp oSub (tVar 4) (tOp oMulW (tOp (rIxL K) (tVar 0) (tVar 7)) (tVar 5))))) (gName 6)) tNext))
    (tRet (tVar 6))))
def t__law_run (K : PySem.W.Frag) : TS :=
  (tSeq (tAsg (tCall (spDraw K) [] E0 (tCons (tVar 0) (tCons (tVar 1) tNil))) (gName 2))
    (tRet (tTup (tCons (tVar 2) (tCons (tOp oAdd (tVar 2) (tCall (spDraw K) [] E0 (tCons (tVar 0) (tCons (tOp oSub (tVar 1) (tVar 2)) tNil)))) tNil)))))
def t__law_number (K : PySem.W.Frag) (C_Ratio : Addr) : TS :=
  (tSeq (tIfS (tAnd (tB (tVar 2)) (tTest (tOp rEq (tOp oMod (tVar 0) (tVar 1)) (tC (.int 0))))) (tRet (tOp oDiv (tVar 0) (tVar 1))) tNext)
    (tRet (tMake C_Ratio (spRInit K C_Ratio) [] E0 (tCons (tVar 0) (tCons (tVar 1) tNil)))))
local macro_rules | `(tactic| walk_at "rv st") => `(tactic| first
  | with_reducible refine iteT ?_ | with_reducible refine iteF ?_ | with_reducible refine w_nx ?_ | with_reducible refine w_yes ?_ | with_reducible refine w_rt ?_ | with_reducible refine iteNT ?_ | with_reducible refine iteNF ?_ | with_reducible refine iteNRf ?_ | with_reducible refine iteRf ?_ | with_reducible refine w_seqA ?_ | with_reducible refine w_seqD ?_ | with_reducible refine w_seqP ?_ | with_reducible refine w_asg ?_ | with_reducible refine w_ret ?_ | with_reducible refine w_drop ?_ | with_reducible refine w_ifs ?_ | with_reducible refine w_next ?_ | with_reducible refine w_par ?_
  | with_reducible refine w_op ?_ | with_reducible refine w_un ?_ | ((with_reducible show tVar _ _ _ _); refine' w_var ?hv ?_; (case hv => exact rfl)) | with_reducible refine w_c ?_ | with_reducible refine w_test ?_ | with_reducible refine w_tB ?_
  | with_reducible refine w_bl ?_ | with_reducible refine w_I0 ?_ | with_reducible refine w_U ?_ | with_reducible refine w_eqI ?_ | with_reducible refine w_neI ?_
  | with_reducible refine w_cons ?_ | with_reducible refine w_nil ?_ | with_reducible refine w_gn ?_ | with_reducible refine w_gsub ?_ | with_reducible refine w_and ?_ | with_reducible refine w_or ?_ | with_reducible refine w_not ?_
  | with_reducible refine w_andV ?_ | with_reducible refine w_orV ?_ | with_reducible refine w_notV ?_ | with_reducible refine w_if ?_ | with_reducible refine w_cb ?_ | with_reducible refine w_call ?_ | with_reducible refine w_lst ?_ | with_reducible refine w_tup ?_
  | with_reducible refine w_sl ?_ | with_reducible refine w_noPart ?_ | with_reducible refine w_part ?_ | with_reducible refine w_ex1 ?_ | with_reducible refine w_exb ?_ | with_reducible refine w_intB ?_ | with_reducible refine w_intI ?_ | with_reducible refine w_abs ?_)
local macro_rules | `(tactic| walk_at "rv ix") => `(tactic| ((with_reducible show rIxL _ _ _ _ _); refine' w_ixL (sq_lst ?ha) ?hb ?_; (case ha => first | exact upd_same | assumption); (case hb => first | exact rfl | assumption)))
local macro_rules | `(tactic| walk_at "rv ar") => `(tactic| first
  | (refine' w_I ?hc ?_; (case hc => first | (show (0 : Int) < _; first | assumption | decide | omega) | exact pow_c (by decide) (by decide) (by first | decide | omega) (by first | decide | omega) | exact mul_r (by first | decide | omega) (by first | decide | omega) | exact mul_l (by first | decide | omega) (by first | decide | omega) | exact divw (by first | assumption | decide | omega) (by first | assumption | decide | omega))))
local macro_rules | `(tactic| walk_at "rv go") => `(tactic| repeat first | walk_at "rv st" | walk_at "rv ix" | ((with_reducible show rI _ _ _ _ _ _); walk_at "rv ar"))
theorem p_lis {K : PySem.W.Frag} {C : Addr} {vs : List V} {H : Hp} {Q : VK} {E : XK} (h : spLIs K C vs H Q E) : t__law_is K C { nx := fun _ H' => Q .non H', rt := Q } (start ["_law_value", "_law_top", "_law_bottom"] vs) H := by
  obtain ⟨q, n, d, p, b, rfl, R, ⟨lw, dx, hq⟩, s1, s2, s3, s4, k⟩ := h
  unfold t__law_is
  refine w_seq ?_
  walk_at "rv go"
  refine isi_of (.own C) (.base (.ins hq R.cl R.cA R.cG R.cT R.cM)) kit_self ?_
  walk_at "rv go"
  refine w_prop rfl hq ?_
  refine ⟨q, dx, _, _, rfl, hq, rfl2_t _ _, ?_⟩
  walk_at "rv go"
  refine w_I (mulw s1 s4 (by decide) (by decide) (by decide)) ?_
  walk_at "rv go"
  refine w_prop rfl hq ?_
  refine ⟨q, dx, _, _, rfl, hq, rfl2_b _ _, ?_⟩
  refine w_I (mulw s3 s2 (by decide) (by decide) (by decide)) ?_
  walk_at "rv go"
  exact k
theorem p_lbelow {K : PySem.W.Frag} {vs : List V} {H : Hp} {Q : VK} {E : XK} (h : spLBelow K vs H Q E) : t__law_below K { nx := fun _ H' => Q .non H', rt := Q } (start ["_law_heights_here", "_law_widths_here", "_law_first", "_law_last", "_law_top", "_law_bottom", "_law_found", "_law_at"] vs) H := by
  obtain ⟨a, c, hs, ws, f, l, p, q, rfl, hH, hW, ok, hfl, hl, sp, sq, k⟩ := h
  have h60 := ok.le
  have hwl := ok.eq
  unfold t__law_below
  walk_at "rv go"
  refine w_seq ?_
  refine w_forT2 (lo := f) (m := l + 1 - f) (hi := (l : Int) + 1) (by omega) (by omega) ⟨by omega, by omega⟩ (fun AQ q => by walk_at "rv go"; exact q)
    (fun j σ' H' => H' = H ∧ f ≤ j ∧ ∃ o7, σ' = [some (.ref a), some (.ref c), some (.int (f : Int)), some (.int (l : Int)), some (.int p), some (.int q), some (.int (dueF (hN hs) (hN ws) p q f (j - f))), o7]) ⟨rfl, Nat.le_refl _, none, by rw [Nat.sub_self]; rfl⟩ ?_ ?_
  · rintro j σ' H' hj1 hj2 ⟨rfl, hj3, o7, rfl⟩
    have hjl : j < hs.length := by omega
    have sh : Sz 100 (hN hs j) := sz_lit (hok_sz (ok.hh _ (hN_mem hjl)))
    have sw : Sz 100 (hN ws j) := sz_lit (wok_sz (ok.ww _ (hN_mem (by omega))))
    have ed : dueF (hN hs) (hN ws) p q f (j + 1 - f) = dueF (hN hs) (hN ws) p q f (j - f) + if hN hs j * q < p then hN ws j * (p - hN hs j * q) else 0 := by
      rw [show j + 1 - f = (j - f) + 1 by omega]
      show dueF (hN hs) (hN ws) p q f (j - f) + _ = _
      rw [show f + (j - f) = j by omega]
    refine w_ifs ?_
    walk_at "rv go"
    refine w_ixL hH (at_hN hjl) ?_
    walk_at "rv go"
    refine w_I (mulw sh sq (by decide) (by decide) (by decide)) ?_
    walk_at "rv go"
    refine w_both (fun z => ?_) (fun z => ?_)
    · rw [if_pos z] at ed
      walk_at "rv go"
      refine w_ixL hW (at_hN (by omega)) ?_
      walk_at "rv go"
      refine w_ixL hH (at_hN hjl) ?_
      walk_at "rv go"
      refine w_I (mulw sh sq (by decide) (by decide) (by decide)) ?_
      walk_at "rv go"
      refine w_I (mulw (k := 1101) sw ((sp.mono (by decide)).sub (sh.mul sq)) (by decide) (by decide) (by decide)) ?_
      walk_at "rv go"
      exact ⟨rfl, by omega, _, by rw [ed]; rfl⟩
    · rw [if_neg z, Int.add_zero] at ed
      walk_at "rv go"
      exact ⟨rfl, by omega, _, by rw [ed]; rfl⟩
  · rintro σ' H' ⟨rfl, hj3, o7, rfl⟩
    walk_at "rv go"
    rw [show f + (l + 1 - f) - f = l + 1 - f by omega]
    exact k
theorem p_lrun {K : PySem.W.Frag} {vs : List V} {H : Hp} {Q : VK} {E : XK} (h : spLRun K vs H Q E) : t__law_run K { nx := fun _ H' => Q .non H', rt := Q } (start ["_law_draws_here", "_law_many", "_law_first"] vs) H := by
  obtain ⟨d, c, n, rfl, hD, n0, n60, k⟩ := h
  unfold t__law_run
  walk_at "rv go"
  refine draw_call hD n0 (Int.lt_of_le_of_lt n60 (by decide)) fun r1 H1 r1a r1b e1 D1 => ?_
  walk_at "rv go"
  refine draw_call D1 (by omega) (Int.lt_of_le_of_lt (b := 60) (by omega) (by decide)) fun r2 H2 r2a r2b e2 D2 => ?_
  walk_at "rv go"
  refine ⟨szl (by show 2 ≤ 100000; decide), fun r nr => ?_⟩
  obtain ⟨f, rfl⟩ : ∃ f : Nat, r1 = (f : Int) := ⟨r1.toNat, by omega⟩
  obtain ⟨g, rfl⟩ : ∃ g : Nat, r2 = (g : Int) := ⟨r2.toNat, by omega⟩
  refine k r _ f (f + g) (by omega) (by omega) ((e1.trans e2).new nr) (D2.new (same_new (Same.refl H2) nr)) ?_
  rw [upd_same, Int.natCast_add]
theorem abs_div {p q t : Int} (hq : 0 < q) (e : t * q = p) : t.natAbs ≤ p.natAbs := by
  rw [← e, Int.natAbs_mul]
  have : t.natAbs * 1 ≤ t.natAbs * q.natAbs := Nat.mul_le_mul_left _ (by omega)
  omega
theorem p_lnum2 {K : PySem.W.Frag} {C : Addr} {vs : List V} {H : Hp} {Q : VK} {E : XK} (h : spLNum2 K C vs H Q E) : t__law_number K C { nx := fun _ H' => Q .non H', rt := Q } (start ["_law_top", "_law_bottom", "_law_plain"] vs) H := by
  obtain ⟨p, q, b, rfl, R, hq, hq2, k⟩ := h
  have sq : Sz 201 q := by
    have e : (2 : Int) ^ 200 = ((2 ^ 200 : Nat) : Int) := rfl
    have e2 : (2 ^ 200 : Nat) < 2 ^ 201 := by decide
    unfold Sz
    omega
  have fin : ∀ N : L2.St → Hp → Prop, (tRet (tMake C (spRInit K C) [] E0 (tCons (tVar 0) (tCons (tVar 1) tNil)))) { nx := fun _ H' => Q .non H', rt := Q } [some (.int p), some (.int q), some (.bl b)] H := fun N => by
    walk_at "rv go"
    refine w_make ?_
    walk_at "rv go"
    exact mk_rat (Q := fun x H' => Q (.ref x) H') rfl R hq (sq.mono (by decide)) fun x H' t e s r hr => k _ H' t e s (.inr ⟨x, rfl, hr⟩) r.eq r.lt r.le
  unfold t__law_number
  refine w_seq ?_
  walk_at "rv go"
  refine w_bool (fun z => ?_) (fun z => ?_)
  · walk_at "rv go"
    refine w_both (fun z2 => ?_) (fun z2 => ?_)
    · walk_at "rv go"
      have e : p / q * q = p := Int.ediv_mul_cancel_of_emod_eq_zero z2
      exact k _ H (p / q) 1 (Same.refl H) (.inl ⟨rfl, rfl⟩) (by rw [Int.mul_one]; exact e) (abs_div hq e) (by omega)
    · walk_at "rv go"
      exact fin fun _ _ => True
  · walk_at "rv go"
    exact fin fun _ _ => True
end Rv
/-! Calls by keywords alone. -/
namespace Rv
open PySem PySem.Spec PyProof.Rows L2
/-- a def of the module, called with the keywords ks alone (gV: their values in the parameters' order) -/
structure CalK (P : Program) (w : World) (K : PySem.W.Frag) (mg : Str → Option Value) (base : Heap) (CX : CXT) (k : Nat) (x : Str) (ps : List Str) (sp : Sp) (ks : List Str) (gV : List V → List V → List V) : Prop where
  ex : ∃ f fd g, FnOk P w K mg base CX k f fd ps sp ∧ mg x = some (.ref f) ∧ PySem.W.keepIn K (.ref f) = true ∧ KBn K fd ps 0 ks g gV
/-- a class made so -/
structure CalMK (P : Program) (w : World) (K : PySem.W.Frag) (mg : Str → Option Value) (base : Heap) (CX : CXT) (k : Nat) (x : Str) (C : Addr) (ps : List Str) (sp : Sp) (ks : List Str) (gV : List V → List V → List V) : Prop where
  ex : ∃ f fd g, FnOk P w K mg base CX k f fd ps sp ∧ Mk K C f ∧ mg x = some (.ref C) ∧ KBn K fd ps 1 ks g gV
section
variable {X : Cx} {CX : CXT} {k : Nat} {x : Str} {ps ks : List Str} {sp : Sp} {E : XK} {p pos : Pos} {kws : List Keyword} {tk : TA} {C : Addr} {gV : List V → List V → List V}
theorem pe_calk (c : CalK X.prog X.w X.K X.mg X.base CX k x ps sp ks gV) (hr : Room k X.A) (hg : Gl X x) (hx : Passes CX X E) (hkw : PK X kws tk)
    (hall : (backToKw pos (keywordEach kws X.env)).all (·.1.isSome) = true := by rfl) (hks : (backToKw pos (keywordEach kws X.env)).filterMap (·.1) = ks := by rfl) (hdb : (x == ("__debug__" : Str)) = false := by decide)
    (hpl : ((backTo pos (starEach [] X.env)).any (·.1) || (backToKw pos (keywordEach kws X.env)).any (·.1.isNone)) = false := by rfl)
    {n : Nat} (hn : ks.length = n := by rfl) : PE X (.Call (.Name x p) [] kws pos) (tCallN 0 n sp gV E tNil tk) := by
  subst hn
  obtain ⟨f, fd, g, F, hm, hk, hb⟩ := c.ex
  refine ⟨fun pins s σ H Q I h => ?_⟩
  refine wpAny_Call_Name_kw (ld_glob I hg hm ?_ hdb)
  refine PySem.W.callWith_KW0 (h₀ := X.base) I.ok.mod.kin hk hall ?_ hpl
  refine thn (hkw.run pos pins s σ H _ I h) fun ws s2 ⟨zs, H2, I2, rz, l1, l2, q2⟩ => ⟨I2.kIn, ?_⟩
  rw [hks]
  exact run_fnN (us := []) (vs := []) F hr hb hx I2 .nil rz rfl l2 q2
theorem pe_calmk (c : CalMK X.prog X.w X.K X.mg X.base CX k x C ps sp ks gV) (hr : Room (k + 1) X.A) (hg : Gl X x) (hx : Passes CX X E) (hkw : PK X kws tk)
    (hall : (backToKw pos (keywordEach kws X.env)).all (·.1.isSome) = true := by rfl) (hks : (backToKw pos (keywordEach kws X.env)).filterMap (·.1) = ks := by rfl) (hdb : (x == ("__debug__" : Str)) = false := by decide)
    (hpl : ((backTo pos (starEach [] X.env)).any (·.1) || (backToKw pos (keywordEach kws X.env)).any (·.1.isNone)) = false := by rfl)
    {n : Nat} (hn : ks.length = n := by rfl) : PE X (.Call (.Name x p) [] kws pos) (tMakeK C 0 n sp gV E tNil tk) := by
  subst hn
  obtain ⟨f, fd, g, F, M, hm, hb⟩ := c.ex
  exact pe_makeK0 M F hr hg hm hb hx hkw hall hks hdb hpl
end
/-- no defaults: what the keywords bind -/
theorem FunD.kb0 {K : PySem.W.Frag} {x qual : Str} {params : Arguments} {body : List Stmt} {scope : Scope} {kws : List (Str × V)} {f : Addr} {fd : FuncData} {ps : List Str} (F : FunD K x qual params body scope [] kws f fd) (ks : List Str) (g : {α : Type} → List α → List α → List α)
    (hrel : ∀ {vs zs : List V} {us ws : List Value}, Vals vs us → Vals zs ws → Vals (g vs zs) (g us ws))
    (h : ∀ (kV doc pm : Value) (an : Option Addr) (cdv ct : Value) (ws : List Value), ws.length = ks.length → bindArgs (PySem.W.fnOf x qual params body scope .none kV doc pm an cdv ct) ⟨[], ks.zip ws⟩ = pure (ps.zip (g [] ws))) :
    KBn K fd ps 0 ks (fun us ws => g us ws) (fun vs zs => g vs zs) := by
  obtain ⟨oc, od, dV, kV, doc, pm, an, cdv, ct, osl, rfl, lk, hcd, hD, hK⟩ := F.ex
  rcases hD with ⟨_, rfl⟩ | ⟨e, _⟩
  · refine ⟨fun s us ws X l1 l2 => ?_, fun r1 r2 => hrel r1 r2⟩
    have e : us = [] := List.eq_nil_of_length_eq_zero l1
    subst e
    exact .of_eq (h kV doc pm an cdv ct ws l2)
  · exact absurd rfl e
/-- keywords in the parameters' order, by places -/
def pick {α : Type} (is : List Nat) (zs : List α) : List α := is.filterMap fun i => zs[i]?
theorem pick_vals {is : List Nat} : ∀ {zs : List V} {ws : List Value}, Vals zs ws → Vals (pick is zs) (pick is ws) := by
  intro zs ws r
  unfold pick
  induction is with
  | nil => exact .nil
  | cons i t ih =>
    rw [List.filterMap_cons, List.filterMap_cons]
    by_cases h : i < zs.length
    · obtain ⟨u, hu, ru⟩ := r.get (List.getElem?_eq_getElem h)
      rw [List.getElem?_eq_getElem h, hu]
      exact .cons ru ih
    · have h2 : ¬ i < ws.length := by rw [← r.length]; exact h
      rw [List.getElem?_eq_none (by omega), List.getElem?_eq_none (by omega)]
      exact ih
end Rv
namespace Rv
open PySem PySem.Spec PyProof.Rows L2
def pd (q : Pr) : PyData := .tuple [.int (q.1 : Int), .int (q.2 : Int)]
theorem dp_prs {K : PySem.W.Frag} {H : Hp} : ∀ {xs : List V} {L : List Pr}, PrsAt H xs L → DpAll K H xs (L.map pd)
  | _, _, .nil => .nil
  | _, _, .cons ⟨t, h1, h2⟩ r => by
    rw [h1]
    exact .cons (.tup (sq_tup h2) (.cons (.int _) (.cons (.int _) .nil))) (dp_prs r)
theorem lay_prs : ∀ L : List Pr, PyData.canLayAll0 (L.map pd) = true ∧ PyData.depthAll (L.map pd) ≤ 1
  | [] => ⟨by simp [PyData.canLayAll0], by simp [PyData.depthAll]⟩
  | q :: r => by
    have h := lay_prs r
    exact ⟨by simp [PyData.canLayAll0, PyData.canLay0, pd, h.1], by simp [PyData.depthAll, PyData.depth, pd, h.2]⟩
theorem shL_prs (L : List Pr) : SeqAt.shaped (.list (L.map pd)) = true := by
  have h := lay_prs L
  have h2 : PyData.depthAll (L.map pd) + 1 ≤ 64 := by omega
  simp [SeqAt.shaped, PyData.canLay0, PyData.depth, h.1, h2]
theorem eqD_prs {K : PySem.W.Frag} {H : Hp} {Q : VK} {a b : Addr} {xs ys : List V} {L : List Pr} (h1 : H a = some (.lst xs)) (g1 : PrsAt H xs L) (h2 : H b = some (.lst ys)) (g2 : PrsAt H ys L) (q : Q (.bl true) H) : rEqD K (.ref a) (.ref b) H Q := by
  refine ⟨.list (L.map pd), .list (L.map pd), .lst (sq_lst h1) (dp_prs g1), .lst (sq_lst h2) (dp_prs g2), shL_prs L, shL_prs L, ?_⟩
  rw [SeqAt.eqv_refl _ (SeqAt.canLay_of_shaped (shL_prs L))]
  exact q
theorem neD_prs {K : PySem.W.Frag} {H : Hp} {Q : VK} {a b : Addr} {xs ys : List V} {L : List Pr} (h1 : H a = some (.lst xs)) (g1 : PrsAt H xs L) (h2 : H b = some (.lst ys)) (g2 : PrsAt H ys L) (q : Q (.bl (!true)) H) : rNeD K (.ref a) (.ref b) H Q := by
  refine ⟨.list (L.map pd), .list (L.map pd), .lst (sq_lst h1) (dp_prs g1), .lst (sq_lst h2) (dp_prs g2), shL_prs L, shL_prs L, ?_⟩
  rw [SeqAt.eqv_refl _ (SeqAt.canLay_of_shaped (shL_prs L))]
  exact q
theorem ProfAt.but {K : PySem.W.Frag} {C : Addr} {H H' : Hp} {p d c : Addr} {hs ws : List Int} (h : ProfAt K C H p hs ws) (D : DrawsAt H d c) (b : But d H H') : ProfAt K C H' p hs ws := by
  obtain ⟨dx, t1, t2, g0, g1, g2⟩ := h
  obtain ⟨ns', pos', num', seed', hd', _⟩ := D
  have ne1 : p ≠ d := fun z => by
    rw [z, hd'] at g0
    cases g0
  have ne2 : t1 ≠ d := fun z => by
    rw [z, hd'] at g1
    cases g1
  have ne3 : t2 ≠ d := fun z => by
    rw [z, hd'] at g2
    cases g2
  exact ⟨dx, t1, t2, b _ _ ne1 g0, b _ _ ne2 g1, b _ _ ne3 g2⟩
/-- a for over range(n), n drawn -/
def iRn (n : Nat) : TI := fun _ H R => R (Itr 0 n) H
theorem w_forI {σ : L2.St} {H : Hp} {D : Ends} {tr : TA} {s1 : TS} {g : TG} (q : tr σ H fun vs H1 => ∃ j : Int, vs = [.int j] ∧ -(2 ^ 62) ≤ j ∧ j < 2 ^ 62 ∧ tFor (iRn j.toNat) g s1 D σ H1) : tFor (iRng1 tr) g s1 D σ H := q
theorem w_forRn {σ : L2.St} {H : Hp} {D : Ends} {s1 : TS} {slot n : Nat} (Pv : Nat → L2.St → Hp → Prop) (h0 : Pv 0 σ H)
    (hs : ∀ i σ' H', i < n → Pv i σ' H' → s1 { D with nx := Pv (i + 1), ct := Pv (i + 1), bk := D.nx } (σ'.set slot (some (.int (i : Int)))) H') (hd : ∀ σ' H', Pv n σ' H' → D.nx σ' H') : tFor (iRn n) (gName slot) s1 D σ H := by
  refine for_range Pv h0 (fun i σ' H' hi q => ?_) hd
  show s1 _ (σ'.set slot (some (.int ((0 : Int) + (i : Int))))) H'
  rw [Int.zero_add]
  exact hs i σ' H' hi q
theorem due_ratio {x b bt t top dd : Int} (hb : 0 < b) (h1 : x * b = t * dd) (h2 : t * bt = top * b) : x * bt = top * dd := by
  refine Int.eq_of_mul_eq_mul_right (a := b) (by omega) ?_
  calc x * bt * b = (x * b) * bt := by ac_rfl
    _ = (t * bt) * dd := by rw [h1]; ac_rfl
    _ = top * dd * b := by rw [h2]; ac_rfl
theorem sz_due {x b t dd : Int} {j k : Nat} (h : x * b = t * dd) (hb : 0 < b) (s : Sz j t) (s2 : Sz k dd) : Sz (j + k) x := by
  have s1 := s.mul s2
  rw [← h] at s1
  unfold Sz at *
  rw [Int.natAbs_mul] at s1
  have : x.natAbs * 1 ≤ x.natAbs * b.natAbs := Nat.mul_le_mul_left _ (by omega)
  omega

def spRims (K : PySem.W.Frag) (C : Addr) : Sp := fun vs H Q _ => ∃ p hs ws, ∃ T : List Pr, ∃ i : Nat, vs = [.ref p, .int (i : Int)] ∧ PCls K C ∧ ProfAt K C H p hs ws ∧ hs.length ≤ 60 ∧ Srt T ∧ (∀ q : Pr, q ∈ T ↔ MaxRun (mark (hf hs) hs.length) hs.length true q.1 q.2) ∧ i + 1 < T.length ∧
  ∀ r H', Same H H' → H' r = some (.tup ([hN (crs hs T) i, hN (crs hs T) (i + 1)].map V.int)) → Q (.ref r) H'
def spLaw26 (K : PySem.W.Frag) (CP CR : Addr) : Sp := fun vs H Q _ => ∃ (a : Addr) (ns : List Int), vs = [.ref a] ∧ SqL K H a (ns.map V.int) ∧ PCls K CP ∧ RCls K CR ∧ ∀ H', Q (.bl true) H'
theorem pw_unique {α : Type} {R : α → α → Prop} (irr : ∀ a, ¬ R a a) (asy : ∀ a b, R a b → ¬ R b a) : ∀ {L M : List α}, L.Pairwise R → M.Pairwise R → (∀ p, p ∈ L ↔ p ∈ M) → L = M
  | [], [], _, _, _ => rfl
  | [], y :: s, _, _, h => absurd ((h y).mpr List.mem_cons_self) (by simp)
  | x :: r, [], _, _, h => absurd ((h x).mp List.mem_cons_self) (by simp)
  | x :: r, y :: s, hL, hM, h => by
    obtain ⟨hx, hr⟩ := List.pairwise_cons.mp hL
    obtain ⟨hy, hs⟩ := List.pairwise_cons.mp hM
    have exy : x = y := by
      rcases List.mem_cons.mp ((h x).mp List.mem_cons_self) with e | m1
      · exact e
      · rcases List.mem_cons.mp ((h y).mpr List.mem_cons_self) with e | m2
        · exact e.symm
        · exact absurd (hy x m1) (asy _ _ (hx y m2))
    subst exy
    refine congrArg (x :: ·) (pw_unique irr asy hr hs fun p => ⟨fun m => ?_, fun m => ?_⟩)
    · rcases List.mem_cons.mp ((h p).mp (List.mem_cons_of_mem _ m)) with e | k
      · subst e
        exact absurd (hx p m) (irr p)
      · exact k
    · rcases List.mem_cons.mp ((h p).mpr (List.mem_cons_of_mem _ m)) with e | k
      · subst e
        exact absurd (hy p m) (irr p)
      · exact k
theorem lex_irr (p : Tr) : ¬ LexT p p := by
  unfold LexT
  omega
theorem lex_asy (p q : Tr) : LexT p q → ¬ LexT q p := by
  unfold LexT
  omega
theorem eqD_os {K : PySem.W.Frag} {H : Hp} {Q : VK} {a b : Addr} {xs ys : List V} {M : List (Option Tr)} (h1 : H a = some (.lst xs)) (g1 : OsAt H xs M) (h2 : H b = some (.lst ys)) (g2 : OsAt H ys M) (q : Q (.bl true) H) : rEqD K (.ref a) (.ref b) H Q := by
  refine ⟨.list (M.map pdO), .list (M.map pdO), .lst (sq_lst h1) (dp_os g1), .lst (sq_lst h2) (dp_os g2), sh_os M, sh_os M, ?_⟩
  rw [SeqAt.eqv_refl _ (SeqAt.canLay_of_shaped (sh_os M))]
  exact q
theorem neD_ints {K : PySem.W.Frag} {H : Hp} {Q : VK} {a b : Addr} {zs : List Int} (h1 : SqT K H a (zs.map V.int)) (h2 : SqT K H b (zs.map V.int)) (q : Q (.bl (!true)) H) : rNeD K (.ref a) (.ref b) H Q := by
  refine ⟨.tuple (zs.map PyData.int), .tuple (zs.map PyData.int), .tup h1 (dp_ints zs), .tup h2 (dp_ints zs), shT_ints zs, shT_ints zs, ?_⟩
  rw [SeqAt.eqv_refl _ (SeqAt.canLay_of_shaped (shT_ints zs))]
  exact q
section
variable {σ : L2.St} {H : Hp} {Q : VK} {n m : Nat} {sp : Sp} {gV : List V → List V → List V} {E : XK} {t tk : TA} {C : Addr}
theorem w_calln (q : t σ H fun vs H1 => tk σ H1 fun zs H2 => vs.length = n ∧ zs.length = m ∧ sp (gV vs zs) H2 Q E) : tCallN n m sp gV E t tk σ H Q := q
theorem w_makek (q : t σ H fun vs H1 => tk σ H1 fun zs H2 => vs.length = n ∧ zs.length = m ∧ ∀ x dx, H2 x = none → H2 dx = none → dx ≠ x → sp (gV (.ref x :: vs) zs) (upd (upd H2 dx (.own x)) x (.ins C dx [])) (fun v H3 => v = .non ∧ Q (.ref x) H3) E) : tMakeK C n m sp gV E t tk σ H Q := q
end
def t_rims (K : PySem.W.Frag) (C_Profile : Addr) : TS :=
  (tSeq (tAsg (tCall (spTops K C_Profile) [] E0 (tCons (tVar 0) tNil)) (gName 2))
    (tSeq (tIfS (tNot (tB (tCall (spWithin K) [] E0 (tCons (tVar 1) (tCons (tC (.int 0)) (tCons (tOp oSub (tCB (cLen K) (tCons (tVar 2) tNil)) (tC (.int 2))) tNil)))))) tNever tNext)
    (tRet (tTup (tCons (tOp (rIxL K) (tVar 2) (tVar 1)) (tCons (tOp (rIxL K) (tVar 2) (tOp oAdd (tVar 1) (tC (.int 1)))) tNil))))))
def t_law26 (K : PySem.W.Frag) (C_Profile : Addr) (C_Ratio : Addr) : TS :=
  (tSeq (tAsg (tCall (spDraws K) [] E0 (tCons (tVar 0) tNil)) (gName 1))
    (tSeq (tAsg (tCall (spHeights K) [] E0 (tCons (tVar 1) tNil)) (gName 2))
    (tSeq (tAsg (tLc (iList K (tVar 2)) (gName 12) tYes (tOp oAdd (tC (.int 1)) (tCall (spDraw K) [] E0 (tCons (tVar 1) (tCons (tOp oPow (tC (.int 10)) (tC (.int 30))) tNil)))) [12]) (gName 3))
    (tSeq (tAsg (tMakeK C_Profile 0 2 (spInit K C_Profile) (fun vs zs => vs ++ pick [1, 0] zs) E0 tNil (tCons (tVar 3) (tCons (tVar 2) tNil))) (gName 4))
    (tSeq (tAsg (tCall (spDraw K) [] E0 (tCons (tVar 1) (tCons (tCB (cLen K) (tCons (tVar 2) tNil)) tNil))) (gName 5))
    (tSeq (tAsg (tOp oAdd (tVar 5) (tCall (spDraw K) [] E0 (tCons (tVar 1) (tCons (tOp oSub (tCB (cLen K) (tCons (tVar 2) tNil)) (tVar 5)) tNil)))) (gName 6))
    (tSeq (tAsg (tOp oAdd (tC (.int 1)) (tCall (spDraw K) [] E0 (tCons (tVar 1) (tCons (tC (.int 6)) tNil)))) (gName 7))
    (tSeq (tAsg (tOp oAdd (tOp oMulW (tOp (rIxL K) (tVar 2) (tVar 5)) (tVar 7)) (tCall (spDraw K) [] E0 (tCons (tVar 1) (tCons (tC (.int 60)) tNil)))) (gName 8))
    (tSeq (tAsg (tOp oAdd (tC (.int 1)) (tCall (spDraw K) [] E0 (tCons (tVar 1) (tCons (tOp oPow (tC (.int 10)) (tC (.int 30))) tNil)))) (gName 9))
    (tSeq (tAsg (tCallN 0 4 (spVolU K C_Profile C_Ratio) (fun _ zs => pick [3, 2, 1, 0] zs) E0 tNil (tCons (tMake C_Ratio (spRInit K C_Ratio) [] E0 (tCons (tVar 8) (tCons (tVar 7) tNil))) (tCons (tVar 6) (tCons (tVar 5) (tCons (tVar 4) tNil))))) (gName 10))
    (tSeq (tIfS (tNot (tB (tCB (rIsi K) (tCons (tVar 10) (tCons (tC (.ref C_Ratio)) tNil))))) (tRet (tC (.bl false))) tNext)
    (tSeq (tIfS (tTest (tOp rNe (tOp oMulW (tProp C_Ratio (getSp C_Ratio "reduced_top") [] E0 (tVar 10)) (tVar 7)) (tOp oMulW (tCall (spLBelow K) [] E0 (tCons (tVar 2) (tCons (tVar 3) (tCons (tVar 5) (tCons (tVar 6) (tCons (tVar 8) (tCons (tVar 7) tNil))))))) (tProp C_Ratio (getSp C_Ratio "reduced_bottom") [] E0 (tVar 10))))) (tRet (tC (.bl false))) tNext)
    (tSeq (tAsg (tCallN 0 4 (spLvF K C_Profile C_Ratio) (fun _ zs => pick [2, 3, 1, 0] zs) E0 tNil (tCons (tMake C_Ratio (spRInit K C_Ratio) [] E0 (tCons (tVar 9) (tCons (tVar 7) tNil))) (tCons (tVar 6) (tCons (tVar 4) (tCons (tVar 5) tNil))))) (gName 10))
    (tSeq (tIfS (tNot (tB (tCB (rIsi K) (tCons (tVar 10) (tCons (tC (.ref C_Ratio)) tNil))))) (tRet (tC (.bl false))) tNext)
    (tSeq (tIfS (tTest (tOp rNe (tOp oMulW (tCall (spLBelow K) [] E0 (tCons (tVar 2) (tCons (tVar 3) (tCons (tVar 5) (tCons (tVar 6) (tCons (tProp C_Ratio (getSp C_Ratio "reduced_top") [] E0 (tVar 10)) (tCons (tProp C_Ratio (getSp C_Ratio "reduced_bottom") [] E0 (tVar 10)) tNil))))))) (tVar 7)) (tOp oMulW (tVar 9) (tProp C_Ratio (getSp C_Ratio "reduced_bottom") [] E0 (tVar 10))))) (tRet (tC (.bl false))) tNext)
    (tSeq (tFor (iRng1 (tCons (tOp oSub (tCB (cLen K) (tCons (tCall (spPeaks K C_Profile) [] E0 (tCons (tVar 4) tNil)) tNil)) (tC (.int 1))) tNil)) (gName 11) (tIfS (tTest (tOp (rNeD K) (tCallN 0 2 (spRims K C_Profile) (fun _ zs => pick [1, 0] zs) E0 tNil (tCons (tVar 11) (tCons (tVar 4) tNil))) (tCall (spRims K C_Profile) [] E0 (tCons (tVar 4) (tCons (tVar 11) tNil))))) (tRet (tC (.bl false))) tNext))
    (tSeq (tIfS (tOr (tTest (tOp (rNeD K) (tCallN 0 1 (spPeaks K C_Profile) (fun _ zs => pick [0] zs) E0 tNil (tCons (tVar 4) tNil)) (tCall (spPeaks K C_Profile) [] E0 (tCons (tVar 4) tNil)))) (tTest (tOp (rNeD K) (tCallN 0 1 (spValleys K C_Profile) (fun _ zs => pick [0] zs) E0 tNil (tCons (tVar 4) tNil)) (tCall (spValleys K C_Profile) [] E0 (tCons (tVar 4) tNil))))) (tRet (tC (.bl false))) tNext)
    (tRet (tOp (rEqD K) (tCallN 0 1 (spLakes K C_Profile) (fun _ zs => pick [0] zs) E0 tNil (tCons (tVar 4) tNil)) (tCall (spLakes K C_Profile) [] E0 (tCons (tVar 4) tNil)))))))))))))))))))))
local macro_rules | `(tactic| walk_at "rv st") => `(tactic| first
  | with_reducible refine iteT ?_ | with_reducible refine iteF ?_ | with_reducible refine w_nx ?_ | with_reducible refine w_yes ?_ | with_reducible refine w_rt ?_ | with_reducible refine iteNT ?_ | with_reducible refine iteNF ?_ | with_reducible refine iteNRf ?_ | with_reducible refine iteRf ?_ | with_reducible refine w_seqA ?_ | with_reducible refine w_seqD ?_ | with_reducible refine w_seqP ?_ | with_reducible refine w_asg ?_ | with_reducible refine w_ret ?_ | with_reducible refine w_drop ?_ | with_reducible refine w_ifs ?_ | with_reducible refine w_next ?_ | with_reducible refine w_par ?_
  | with_reducible refine w_op ?_ | with_reducible refine w_un ?_ | ((with_reducible show tVar _ _ _ _); refine' w_var ?hv ?_; (case hv => exact rfl)) | with_reducible refine w_c ?_ | with_reducible refine w_test ?_ | with_reducible refine w_tB ?_
  | with_reducible refine w_bl ?_ | with_reducible refine w_I0 ?_ | with_reducible refine w_U ?_ | with_reducible refine w_eqI ?_ | with_reducible refine w_neI ?_
  | with_reducible refine w_cons ?_ | with_reducible refine w_nil ?_ | with_reducible refine w_gn ?_ | with_reducible refine w_gsub ?_ | with_reducible refine w_and ?_ | with_reducible refine w_or ?_ | with_reducible refine w_not ?_
  | with_reducible refine w_andV ?_ | with_reducible refine w_orV ?_ | with_reducible refine w_notV ?_ | with_reducible refine w_if ?_ | with_reducible refine w_cb ?_ | with_reducible refine w_call ?_ | with_reducible refine w_lst ?_ | with_reducible refine w_tup ?_
  | with_reducible refine w_sl ?_ | with_reducible refine w_noPart ?_ | with_reducible refine w_part ?_ | with_reducible refine w_ex1 ?_ | with_reducible refine w_exb ?_ | with_reducible refine w_intB ?_ | with_reducible refine w_intI ?_ | with_reducible refine w_abs ?_)
local macro_rules | `(tactic| walk_at "rv ix") => `(tactic| ((with_reducible show rIxL _ _ _ _ _); refine' w_ixL (sq_lst ?ha) ?hb ?_; (case ha => first | exact upd_same | assumption); (case hb => first | exact rfl | assumption)))
local macro_rules | `(tactic| walk_at "rv ar") => `(tactic| first
  | (refine' w_I ?hc ?_; (case hc => first | (show (0 : Int) < _; first | assumption | decide | omega) | exact pow_c (by decide) (by decide) (by first | decide | omega) (by first | decide | omega) | exact mul_r (by first | decide | omega) (by first | decide | omega) | exact mul_l (by first | decide | omega) (by first | decide | omega) | exact divw (by first | assumption | decide | omega) (by first | assumption | decide | omega))))
local macro_rules | `(tactic| walk_at "rv go") => `(tactic| repeat first | walk_at "rv st" | walk_at "rv ix" | ((with_reducible show rI _ _ _ _ _ _); walk_at "rv ar"))
theorem p_rims {K : PySem.W.Frag} {C : Addr} {vs : List V} {H : Hp} {Q : VK} {E : XK} (h : spRims K C vs H Q E) : t_rims K C { nx := fun _ H' => Q .non H', rt := Q } (start ["profile", "valley", "tops"] vs) H := by
  obtain ⟨p, hs, ws, T, i, rfl, P, hp, h60, hST, hMT, hi, k⟩ := h
  unfold t_rims
  walk_at "rv go"
  refine ⟨p, hs, ws, rfl, P, hp, h60, fun r H1 L e1 nr hr l60 hS hM => ?_⟩
  obtain rfl : L = T := srt_unique hS hST fun q => (hM q).trans (hMT q).symm
  have hr2 : H1 r = some (.lst ((crs hs L).map V.int)) := hr
  have lc : (crs hs L).length = L.length := List.length_map ..
  walk_at "rv go"
  refine w_seq ?_
  walk_at "rv go"
  refine w_lenL (sq_lst hr2) ?_
  walk_at "rv go"
  rw [List.length_map, lc]
  refine ⟨.int (i : Int), _, _, rfl, .int _, ?_⟩
  have e : inI 0 ((L.length : Int) - 2) (.int (i : Int)) = true := by
    show (decide ((0 : Int) ≤ (i : Int)) && decide ((i : Int) ≤ (L.length : Int) - 2)) = true
    rw [decide_eq_true (show (0 : Int) ≤ (i : Int) by omega), decide_eq_true (show (i : Int) ≤ (L.length : Int) - 2 by omega)]
    rfl
  rw [e]
  walk_at "rv go"
  refine w_ixL (sq_lst hr2) (at_hN (by omega)) ?_
  walk_at "rv go"
  refine w_ixL (sq_lst hr2) (by rw [show (i : Int) + 1 = ((i + 1 : Nat) : Int) by omega]; exact at_hN (by omega)) ?_
  walk_at "rv go"
  refine ⟨szl (by show 2 ≤ 100000; decide), fun t nt => ?_⟩
  exact k t _ (same_new e1 nt) upd_same
theorem p_law26 {K : PySem.W.Frag} {CP CR : Addr} {vs : List V} {H : Hp} {Q : VK} {E : XK} (h : spLaw26 K CP CR vs H Q E) : t_law26 K CP CR { nx := fun _ H' => Q .non H', rt := Q } (start ["_law_script", "_law_draws_here", "_law_tall_here", "_law_wide", "_law_ground", "_law_begin", "_law_end", "_law_bottom", "_law_top", "_law_held", "_law_told", "_law_place", "_law_one"] vs) H := by
  obtain ⟨a, ns, rfl, hS, P, R, k⟩ := h
  unfold t_law26
  walk_at "rv go"
  refine ⟨a, ns, rfl, hS, fun d c H1 nd nc e1 D1 => ?_⟩
  walk_at "rv go"
  refine ⟨d, c, rfl, D1, fun ha H2 hs l1' l60 hok b2 D2 nha hh => ?_⟩
  have had : ha ≠ d := D1.nd nha
  walk_at "rv go"
  -- the widths
  refine w_lcl ?_
  walk_at "rv go"
  refine ⟨ha, rfl, ?_⟩
  refine w_lcA (sq_lst hh) (fun D i acc H' => ∃ ws : List Int, acc = ws.map V.int ∧ ws.length = i ∧ (∀ z ∈ ws, WOk1 z) ∧ But d H2 H' ∧ DrawsAt H' d c ∧ H' D = some (.lst acc) ∧ D ≠ d ∧ D ≠ c ∧ H2 D = none)
    (fun D nD => ⟨[], rfl, rfl, (fun _ h => nomatch h), (But.refl d H2).new nD, D2.new (same_new (Same.refl H2) nD), upd_same, D2.nd nD, D2.nc nD, nD⟩) (fun D i acc H' ⟨_, _, _, _, b, _⟩ => sq_lst (b _ _ had hh)) ?_ ?_
  · rintro D i acc x H' hx ⟨ws, rfl, hl, wok, b, DD, hD', nDd, nDc, nD⟩
    refine ⟨rfl, ?_⟩
    walk_at "rv go"
    refine draw_call DD (by decide) (by decide) fun r H4 ra rb e4 D4 => ?_
    walk_at "rv go"
    have il : i < hs.length := by
      have := (List.getElem?_eq_some_iff.mp hx).1
      rw [List.length_map] at this
      exact this
    have e30 : (10 : Int) ^ Int.toNat 30 = 1000000000000000000000000000000 := by decide
    rw [e30] at rb
    refine ⟨ws.map V.int, e4 _ _ nDd hD', Nat.lt_of_lt_of_le (by rw [List.length_map]; omega : _ < 100001) (by decide), (ws ++ [1 + r]).map V.int, ws ++ [1 + r], rfl, by rw [List.length_append]; show ws.length + 1 = i + 1; omega, fun y hy => ?_, ?_, D4.wr nDd nDc, ?_, nDd, nDc, nD⟩
    · rcases List.mem_append.mp hy with h | h
      · exact wok y h
      · rw [List.mem_singleton.mp h]
        exact ⟨by omega, by omega⟩
    · exact fun c o nc h => by
        have q := (b.trans e4) c o nc h
        rw [upd_ne (ne_of_none h nD)]
        exact q
    · rw [upd_same, map_app]
  rintro hw acc H3 ⟨ws, rfl, hlw, wok, b3, D3, hwa, nDd, nDc, nD⟩
  rw [List.length_map] at hlw
  have hh3 := b3 _ _ had hh
  have ok : PrOk hs ws := ⟨l1', l60, hlw, hok, wok⟩
  walk_at "rv go"
  refine w_makek ?_
  walk_at "rv go"
  refine ⟨rfl, rfl, mk_prof21 (us := [.ref ha, .ref hw]) (dvs := []) rfl P hh3 l1' l60 hok (.inr ⟨hw, rfl, hwa, hlw, wok⟩) fun pa H5 np e5 hp5 => ?_⟩
  have hh5 := e5 _ _ hh3
  have hw5 := e5 _ _ hwa
  have D5 := D3.new e5
  walk_at "rv go"
  refine w_lenL (sq_lst hh5) ?_
  walk_at "rv go"
  rw [List.length_map]
  refine draw_call D5 (by omega) (Int.lt_of_le_of_lt (b := 60) (by omega) (by decide)) fun r1 H6 r1a r1b b6 D6 => ?_
  obtain ⟨f, rfl⟩ : ∃ f : Nat, r1 = (f : Int) := ⟨r1.toNat, by omega⟩
  have hh6 := b6 _ _ had hh5
  walk_at "rv go"
  refine w_lenL (sq_lst hh6) ?_
  walk_at "rv go"
  rw [List.length_map]
  refine draw_call D6 (by omega) (Int.lt_of_le_of_lt (b := 60) (by omega) (by decide)) fun r2 H7 r2a r2b b7 D7 => ?_
  obtain ⟨g, rfl⟩ : ∃ g : Nat, r2 = (g : Int) := ⟨r2.toNat, by omega⟩
  have hh7 := b7 _ _ had hh6
  walk_at "rv go"
  obtain ⟨l, hl⟩ : ∃ l : Nat, l = f + g := ⟨_, rfl⟩
  have el : (f : Int) + (g : Int) = (l : Int) := by omega
  rw [el]
  have fl : f ≤ l := by omega
  have ll : l < hs.length := by omega
  refine draw_call D7 (by decide) (by decide) fun r3 H8 r3a r3b b8 D8 => ?_
  walk_at "rv go"
  obtain ⟨bt, hbt⟩ : ∃ bt : Int, bt = 1 + r3 := ⟨_, rfl⟩
  rw [← hbt]
  have bt0 : 0 < bt := by omega
  have sbt : Sz 4 bt := sz_lit (M := 7) (by omega)
  have hh8 := b8 _ _ had hh7
  refine w_ixL (sq_lst hh8) (at_hN (by omega)) ?_
  have sbase : Sz 100 (hN hs f) := sz_lit (hok_sz (hok _ (hN_mem (by omega))))
  walk_at "rv go"
  refine w_I (mulw sbase sbt (by decide) (by decide) (by decide)) ?_
  walk_at "rv go"
  refine draw_call D8 (by decide) (by decide) fun r4 H9 r4a r4b b9 D9 => ?_
  walk_at "rv go"
  have stop : Sz 110 (hN hs f * bt + r4) := (Sz.add (k := 104) (sbase.mul sbt) (sz_lit (M := 60) (by omega))).mono (by decide)
  generalize hN hs f * bt + r4 = top at stop
  refine draw_call D9 (by decide) (by decide) fun r5 H10 r5a r5b b10 D10 => ?_
  have e30 : (10 : Int) ^ Int.toNat 30 = 1000000000000000000000000000000 := by decide
  rw [e30] at r5b
  walk_at "rv go"
  obtain ⟨held, hheld⟩ : ∃ held : Int, held = 1 + r5 := ⟨_, rfl⟩
  rw [← hheld]
  have sheld : Sz 101 held := sz_lit (M := 1000000000000000000000000000000) (by omega)
  have bAll : But d H5 H10 := ((b6.trans b7).trans b8).trans (b9.trans b10)
  have hh10 := bAll _ _ had hh5
  have hw10 := bAll _ _ nDd hw5
  have hp10 := hp5.but D5 bAll
  refine w_calln ?_
  walk_at "rv go"
  refine w_make ?_
  walk_at "rv go"
  refine mk_rat (us := [.int top, .int bt]) (dvs := []) rfl R bt0 (sbt.mono (by decide)) fun x1 H11 t1 b1 e11 rd1 hr1 => ?_
  walk_at "rv go"
  refine ⟨rfl, rfl, pa, hs, ws, f, l, .ref x1, t1, b1, rfl, P, R, hp10.same e11, ok, fl, ll, .inr ⟨x1, rfl, hr1⟩, (rd1.szt stop).mono (by decide), (rd1.szb sbt).mono (by decide), fun q1 H12 n1 d1 e12 hq1 heq1 sn1 sd1 => ?_⟩
  obtain ⟨lq1, dq1, hq1'⟩ := id hq1
  have e1012 := e11.trans e12
  walk_at "rv go"
  refine w_seq ?_
  walk_at "rv go"
  refine isi_of (.own CR) (.base (.ins hq1' R.cl R.cA R.cG R.cT R.cM)) kit_self ?_
  walk_at "rv go"
  refine w_seq ?_
  walk_at "rv go"
  refine w_prop rfl hq1' ?_
  refine ⟨q1, dq1, _, _, rfl, hq1', rfl2_t _ _, ?_⟩
  walk_at "rv go"
  refine w_I (mulw sn1 sbt (by decide) (by decide) (by decide)) ?_
  walk_at "rv go"
  refine ⟨ha, hw, hs, ws, f, l, top, bt, rfl, sq_lst (e1012 _ _ hh10), sq_lst (e1012 _ _ hw10), ok, fl, ll, stop.mono (by decide), sbt.mono (by decide), ?_⟩
  walk_at "rv go"
  refine w_prop rfl hq1' ?_
  refine ⟨q1, dq1, _, _, rfl, hq1', rfl2_b _ _, ?_⟩
  have eq1 := vol_fin (t := 0) (p := 0) rd1.pos heq1 (due_scale rd1.pos bt0 rd1.eq (l + 1 - f))
  have sdue : Sz 2004 (dueF (hN hs) (hN ws) top bt f (l + 1 - f)) := sz_due eq1.symm lq1.1 sn1 sbt
  refine w_I (mulw sdue sd1 (by decide) (by decide) (by decide)) ?_
  walk_at "rv go"
  rw [decide_eq_true eq1]
  walk_at "rv go"
  -- the level
  refine w_calln ?_
  walk_at "rv go"
  refine w_make ?_
  walk_at "rv go"
  refine mk_rat (us := [.int held, .int bt]) (dvs := []) rfl R bt0 (sbt.mono (by decide)) fun x2 H13 t2 b2 e13 rd2 hr2 => ?_
  have t0 : 0 ≤ t2 := by
    have p2 : 0 ≤ held * b2 := Int.mul_nonneg (by omega) (by have := rd2.pos; omega)
    rw [← rd2.eq] at p2
    exact Int.le_of_mul_le_mul_right (a := bt) (by omega) bt0
  have e1013 := e1012.trans e13
  walk_at "rv go"
  refine ⟨rfl, rfl, pa, hs, ws, f, l, .ref x2, t2, b2, rfl, P, R, hp10.same e1013, ok, fl, ll, .inr ⟨x2, rfl, hr2⟩, t0, (rd2.szt sheld).mono (by decide), (rd2.szb sbt).mono (by decide), fun q2 H14 n2 d2 e14 hq2 lv sn2 sd2 => ?_⟩
  obtain ⟨lq2, dq2, hq2'⟩ := id hq2
  have e1014 := e1013.trans e14
  walk_at "rv go"
  refine w_seq ?_
  walk_at "rv go"
  refine isi_of (.own CR) (.base (.ins hq2' R.cl R.cA R.cG R.cT R.cM)) kit_self ?_
  walk_at "rv go"
  refine w_seq ?_
  walk_at "rv go"
  refine w_prop rfl hq2' ?_
  refine ⟨q2, dq2, _, _, rfl, hq2', rfl2_t _ _, ?_⟩
  walk_at "rv go"
  refine w_prop rfl hq2' ?_
  refine ⟨q2, dq2, _, _, rfl, hq2', rfl2_b _ _, ?_⟩
  walk_at "rv go"
  refine ⟨ha, hw, hs, ws, f, l, n2, d2, rfl, sq_lst (e1014 _ _ hh10), sq_lst (e1014 _ _ hw10), ok, fl, ll, sn2, sd2, ?_⟩
  walk_at "rv go"
  have sdue2 : Sz 1101 (dueF (hN hs) (hN ws) n2 d2 f (l + 1 - f)) := sz_due lv.due rd2.pos (rd2.szt sheld) sd2
  refine w_I (mulw sdue2 sbt (by decide) (by decide) (by decide)) ?_
  walk_at "rv go"
  refine w_prop rfl hq2' ?_
  refine ⟨q2, dq2, _, _, rfl, hq2', rfl2_b _ _, ?_⟩
  refine w_I (mulw sheld sd2 (by decide) (by decide) (by decide)) ?_
  walk_at "rv go"
  rw [decide_eq_true (due_ratio rd2.pos lv.due rd2.eq)]
  walk_at "rv go"
  -- rims by name
  have hp14 := hp10.same e1014
  refine w_seq ?_
  refine w_forI ?_
  walk_at "rv go"
  refine ⟨pa, hs, ws, rfl, P, hp14, l60, fun r H15 xs T e15 nr hr hPr hT60 hST hMT => ?_⟩
  have hp15 := hp14.same e15
  walk_at "rv go"
  refine w_lenL (sq_lst hr) ?_
  walk_at "rv go"
  have hxl := hPr.len
  refine ⟨(xs.length : Int) - 1, rfl, by omega, by omega, ?_⟩
  refine w_forRn (fun _ σ' H' => Same H15 H' ∧ ∃ o11 o12, σ' = [some (.ref a), some (.ref d), some (.ref ha), some (.ref hw), some (.ref pa), some (.int (f : Int)), some (.int (l : Int)), some (.int bt), some (.int top), some (.int held), some (.ref q2), o11, o12]) ⟨Same.refl H15, _, _, rfl⟩ ?_ ?_
  · rintro i σ' H' hi ⟨e', o11, o12, rfl⟩
    refine w_ifs ?_
    walk_at "rv go"
    refine w_calln ?_
    walk_at "rv go"
    refine ⟨rfl, rfl, pa, hs, ws, T, i, rfl, P, hp15.same e', l60, hST, hMT, by omega, fun u1 G1 c1 hu1 => ?_⟩
    walk_at "rv go"
    refine ⟨pa, hs, ws, T, i, rfl, P, (hp15.same e').same c1, l60, hST, hMT, by omega, fun u2 G2 c2 hu2 => ?_⟩
    refine neD_ints (sq_tup (c2 _ _ hu1)) (sq_tup hu2) ?_
    walk_at "rv go"
    exact ⟨(e'.trans c1).trans c2, _, _, rfl⟩
  rintro σ' H16 ⟨e16, o11, o12, rfl⟩
  have hp16 := hp15.same e16
  refine w_seq ?_
  walk_at "rv go"
  refine w_calln ?_
  walk_at "rv go"
  refine ⟨rfl, rfl, pa, hs, ws, rfl, P, hp16, l60, fun u1 G1 x1s L1 c1 nu1 hu1 hP1 _ hS1 hM1 => ?_⟩
  walk_at "rv go"
  refine ⟨pa, hs, ws, rfl, P, hp16.same c1, l60, fun u2 G2 x2s L2 c2 nu2 hu2 hP2 _ hS2 hM2 => ?_⟩
  obtain rfl : L1 = L2 := srt_unique hS1 hS2 fun q => (hM1 q).trans (hM2 q).symm
  refine neD_prs (c2 _ _ hu1) (hP1.mono fun t ys ht => c2 _ _ ht) hu2 hP2 ?_
  walk_at "rv go"
  refine w_calln ?_
  walk_at "rv go"
  refine ⟨rfl, rfl, pa, hs, ws, rfl, P, (hp16.same c1).same c2, l60, fun u3 G3 x3s L3 c3 nu3 hu3 hP3 hS3 hM3 => ?_⟩
  walk_at "rv go"
  refine ⟨pa, hs, ws, rfl, P, ((hp16.same c1).same c2).same c3, l60, fun u4 G4 x4s L4 c4 nu4 hu4 hP4 hS4 hM4 => ?_⟩
  obtain rfl : L3 = L4 := srt_unique hS3 hS4 fun q => (hM3 q).trans (hM4 q).symm
  refine neD_prs (c4 _ _ hu3) (hP3.mono fun t ys ht => c4 _ _ ht) hu4 hP4 ?_
  walk_at "rv go"
  have hp17 := (((hp16.same c1).same c2).same c3).same c4
  refine w_calln ?_
  walk_at "rv go"
  refine ⟨rfl, rfl, pa, hs, ws, rfl, P, hp17, l60, fun u5 G5 x5s M5 T5 c5 nu5 hu5 hP5 _ hX5 hS5 hM5 hK5 => ?_⟩
  walk_at "rv go"
  refine ⟨pa, hs, ws, rfl, P, hp17.same c5, l60, fun u6 G6 x6s M6 T6 c6 nu6 hu6 hP6 _ hX6 hS6 hM6 hK6 => ?_⟩
  obtain rfl : T5 = T6 := srt_unique hS5 hS6 fun q => (hM5 q).trans (hM6 q).symm
  obtain rfl : M5 = M6 := pw_unique lex_irr lex_asy hX5 hX6 fun q => (hK5 q).trans (hK6 q).symm
  refine eqD_os (c6 _ _ hu5) (trs_os (hP5.mono fun t ys ht => c6 _ _ ht)) hu6 (trs_os hP6) ?_
  exact k G6
end Rv
namespace Rv
open PySem PySem.Spec PyProof.Rows L2
theorem sc__law_draws : FnScope ["_law_script"] ["_law_script"] (defScope s__law_draws) := ⟨rfl, rfl, rfl, by decide +kernel, rfl, by decide +kernel, by decide +kernel⟩
theorem d__law_draws {P : Program} {w : World} {K : PySem.W.Frag} {mg : Str → Option Value} {base : Heap} {CX : CXT} {f : Addr} {cdv : Value} {A : Around} {outer : List Env} {s : Shared} {H : Hp} {E : XK} 
    (hr : Room 0 (A.deeper (envOfC "_law_draws" (defScope s__law_draws) s.heap.objs.size f cdv))) :
    PSs (cxOf CX P w K mg base ["_law_script"] "_law_draws" (defScope s__law_draws) f cdv A outer s H E) (defBody s__law_draws) (t__law_draws K) :=
  (pss_one (ps_ret (pe_lst (pa_cons (pe_slice sl_list (pv 0) po_none (po_some pe_int)) (pa_cons pe_int (pa_cons pe_int (pa_cons pe_int pa_nil)))))))
theorem ok__law_draws {P : Program} {w : World} {K : PySem.W.Frag} {mg : Str → Option Value} {base : Heap} {f : Addr} {fd : FuncData} (F : FunD K "_law_draws" "_law_draws" (defArgs s__law_draws) (defBody s__law_draws) (defScope s__law_draws) [] [] f fd)  : FnOk P w K mg base CX0 1 f fd ["_law_script"] (spDraws K) :=
  F.ok sc__law_draws (fun vs H Q E h => by first | (obtain ⟨_, rfl, _⟩ := h; rfl) | (obtain ⟨_, _, rfl, _⟩ := h; rfl) | (obtain ⟨_, _, _, rfl, _⟩ := h; rfl) | (obtain ⟨_, _, _, _, rfl, _⟩ := h; rfl) | (obtain ⟨_, _, _, _, _, rfl, _⟩ := h; rfl) | (obtain ⟨_, _, _, _, _, _, rfl, _⟩ := h; rfl) | (obtain ⟨_, _, _, _, _, _, _, rfl, _⟩ := h; rfl) | (obtain ⟨_, _, _, _, _, _, _, _, rfl, _⟩ := h; rfl) | (obtain ⟨_, _, _, _, _, _, _, _, _, rfl, _⟩ := h; rfl)) (fun cdv A outer s H vs Q E hr h => ⟨_, d__law_draws  hr, p_draws h⟩)
theorem sc__law_draw : FnScope ["_law_draws_here", "_law_many", "_law_cells", "_law_value", "_law_cell", "_law_mixed"] ["_law_draws_here", "_law_many"] (defScope s__law_draw) := ⟨rfl, rfl, rfl, by decide +kernel, rfl, by decide +kernel, by decide +kernel⟩
theorem d__law_draw {P : Program} {w : World} {K : PySem.W.Frag} {mg : Str → Option Value} {base : Heap} {CX : CXT} {f : Addr} {cdv : Value} {A : Around} {outer : List Env} {s : Shared} {H : Hp} {E : XK} (m_len : mg "len" = none)
    (hr : Room 0 (A.deeper (envOfC "_law_draw" (defScope s__law_draw) s.heap.objs.size f cdv))) :
    PSs (cxOf CX P w K mg base ["_law_draws_here", "_law_many", "_law_cells", "_law_value", "_law_cell", "_law_mixed"] "_law_draw" (defScope s__law_draw) f cdv A outer s H E) (defBody s__law_draw) (t__law_draw K) :=
  (pss_cons (ps_set (i := 2) sc__law_draw.nd rfl (by first | exact Or.inl rfl | exact Or.inr rfl) (pe_ix ix_list (pv 0) pe_int (fun _ _ => rfl)))
    (pss_cons (ps_if (PW.pt (pw_and (pt_cmpR op_eq (pe_ix ix_list (pv 0) pe_int (fun _ _ => rfl)) pe_int (nomark _)) (pw_and (pt_cmpR op_lt (pe_ix ix_list (pv 0) pe_int (fun _ _ => rfl)) (pe_callB call_len_seq (by rfl) m_len (by decide +kernel) (pa_cons (pv 2) pa_nil)) (nomark _)) (pw_and1 (pt_cmpR op_ge (pe_ix ix_list (pv 2) (pe_ix ix_list (pv 0) pe_int (fun _ _ => rfl)) (fun _ _ => rfl)) (pe_op op_pow pe_int pe_int) (nomark _)))))) (pss_cons (ps_asg (pe_ix ix_list (pv 2) (pe_ix ix_list (pv 0) pe_int (fun _ _ => rfl)) (fun _ _ => rfl)) (pg_sub (pv 0) pe_int set_list))
    (pss_one (ps_asg (pe_op op_add (pe_ix ix_list (pv 0) pe_int (fun _ _ => rfl)) pe_int) (pg_sub (pv 0) pe_int set_list)))) pss_nil)
    (pss_cons (ps_if (pt_cmpR op_gt (pe_ix ix_list (pv 0) pe_int (fun _ _ => rfl)) pe_int (nomark _)) (pss_cons (ps_set (i := 3) sc__law_draw.nd rfl (by first | exact Or.inl rfl | exact Or.inr rfl) (pe_op op_mod (pe_ix ix_list (pv 0) pe_int (fun _ _ => rfl)) (pv 1)))
    (pss_cons (ps_asg (pe_op op_fdivW (pe_ix ix_list (pv 0) pe_int (fun _ _ => rfl)) (pv 1)) (pg_sub (pv 0) pe_int set_list))
    (pss_one (ps_ret (pv 3))))) pss_nil)
    (pss_cons (ps_set (i := 4) sc__law_draw.nd rfl (by first | exact Or.inl rfl | exact Or.inr rfl) pe_int)
    (pss_cons (ps_if (pt_cmpR op_lt (pe_ix ix_list (pv 0) pe_int (fun _ _ => rfl)) (pe_callB call_len_seq (by rfl) m_len (by decide +kernel) (pa_cons (pv 2) pa_nil)) (nomark _)) (pss_cons (ps_set (i := 4) sc__law_draw.nd rfl (by first | exact Or.inl rfl | exact Or.inr rfl) (pe_ix ix_list (pv 2) (pe_ix ix_list (pv 0) pe_int (fun _ _ => rfl)) (fun _ _ => rfl)))
    (pss_one (ps_asg (pe_op op_add (pe_ix ix_list (pv 0) pe_int (fun _ _ => rfl)) pe_int) (pg_sub (pv 0) pe_int set_list)))) pss_nil)
    (pss_cons (ps_asg (pe_op op_mod (pe_op op_add (pe_op op_add (pe_op op_mul (pe_ix ix_list (pv 0) pe_int (fun _ _ => rfl)) pe_int) (pe_op op_mod (pv 4) pe_int)) pe_int) pe_int) (pg_sub (pv 0) pe_int set_list))
    (pss_cons (ps_set (i := 5) sc__law_draw.nd rfl (by first | exact Or.inl rfl | exact Or.inr rfl) (pe_op op_mod (pe_op op_pow (pe_ix ix_list (pv 0) pe_int (fun _ _ => rfl)) pe_int) pe_int))
    (pss_cons (ps_if (pt_cmpR op_gt (pv 1) (pe_op op_pow pe_int pe_int) (nomark _)) (pss_one (ps_set (i := 5) sc__law_draw.nd rfl (by first | exact Or.inl rfl | exact Or.inr rfl) (pe_op op_add (pe_op op_pow (pv 5) pe_int) (pv 5)))) pss_nil)
    (pss_one (ps_ret (pe_op op_mod (pv 5) (pv 1))))))))))))
theorem ok__law_draw {P : Program} {w : World} {K : PySem.W.Frag} {mg : Str → Option Value} {base : Heap} {f : Addr} {fd : FuncData} (F : FunD K "_law_draw" "_law_draw" (defArgs s__law_draw) (defBody s__law_draw) (defScope s__law_draw) [] [] f fd) (m_len : mg "len" = none) : FnOk P w K mg base CX0 1 f fd ["_law_draws_here", "_law_many"] (spDraw K) :=
  F.ok sc__law_draw (fun vs H Q E h => by first | (obtain ⟨_, rfl, _⟩ := h; rfl) | (obtain ⟨_, _, rfl, _⟩ := h; rfl) | (obtain ⟨_, _, _, rfl, _⟩ := h; rfl) | (obtain ⟨_, _, _, _, rfl, _⟩ := h; rfl) | (obtain ⟨_, _, _, _, _, rfl, _⟩ := h; rfl) | (obtain ⟨_, _, _, _, _, _, rfl, _⟩ := h; rfl) | (obtain ⟨_, _, _, _, _, _, _, rfl, _⟩ := h; rfl) | (obtain ⟨_, _, _, _, _, _, _, _, rfl, _⟩ := h; rfl) | (obtain ⟨_, _, _, _, _, _, _, _, _, rfl, _⟩ := h; rfl)) (fun cdv A outer s H vs Q E hr h => ⟨_, d__law_draw m_len hr, p_draw h⟩)
theorem sc_is_whole : FnScope ["value"] ["value"] (defScope s_is_whole) := ⟨rfl, rfl, rfl, by decide +kernel, rfl, by decide +kernel, by decide +kernel⟩
theorem d_is_whole {P : Program} {w : World} {K : PySem.W.Frag} {mg : Str → Option Value} {base : Heap} {CX : CXT} {f : Addr} {cdv : Value} {A : Around} {outer : List Env} {s : Shared} {H : Hp} {E : XK} (m_int : mg "int" = none) (m_isinstance : mg "isinstance" = none) (m_bool : mg "bool" = none)
    (hr : Room 0 (A.deeper (envOfC "is_whole" (defScope s_is_whole) s.heap.objs.size f cdv))) :
    PSs (cxOf CX P w K mg base ["value"] "is_whole" (defScope s_is_whole) f cdv A outer s H E) (defBody s_is_whole) (t_is_whole K) :=
  (pss_one (ps_ret (pe_and (pe_callB call_isi (by rfl) m_isinstance (by decide +kernel) (pa_cons (pv 0) (pa_cons (pe_bltn (by rfl) m_int (by decide +kernel) rfl) pa_nil))) (pe_one (pe_not (pe_callB call_isi (by rfl) m_isinstance (by decide +kernel) (pa_cons (pv 0) (pa_cons (pe_bltn (by rfl) m_bool (by decide +kernel) rfl) pa_nil))))))))
theorem ok_is_whole {P : Program} {w : World} {K : PySem.W.Frag} {mg : Str → Option Value} {base : Heap} {f : Addr} {fd : FuncData} (F : FunD K "is_whole" "is_whole" (defArgs s_is_whole) (defBody s_is_whole) (defScope s_is_whole) [] [] f fd) (m_int : mg "int" = none) (m_isinstance : mg "isinstance" = none) (m_bool : mg "bool" = none) : FnOk P w K mg base CX0 1 f fd ["value"] (spWhole K) :=
  F.ok sc_is_whole (fun vs H Q E h => by first | (obtain ⟨_, rfl, _⟩ := h; rfl) | (obtain ⟨_, _, rfl, _⟩ := h; rfl) | (obtain ⟨_, _, _, rfl, _⟩ := h; rfl) | (obtain ⟨_, _, _, _, rfl, _⟩ := h; rfl) | (obtain ⟨_, _, _, _, _, rfl, _⟩ := h; rfl) | (obtain ⟨_, _, _, _, _, _, rfl, _⟩ := h; rfl) | (obtain ⟨_, _, _, _, _, _, _, rfl, _⟩ := h; rfl) | (obtain ⟨_, _, _, _, _, _, _, _, rfl, _⟩ := h; rfl) | (obtain ⟨_, _, _, _, _, _, _, _, _, rfl, _⟩ := h; rfl)) (fun cdv A outer s H vs Q E hr h => ⟨_, d_is_whole m_int m_isinstance m_bool hr, p_whole h⟩)
theorem sc_is_whole_within : FnScope ["value", "least", "greatest"] ["value", "least", "greatest"] (defScope s_is_whole_within) := ⟨rfl, rfl, rfl, by decide +kernel, rfl, by decide +kernel, by decide +kernel⟩
theorem d_is_whole_within {P : Program} {w : World} {K : PySem.W.Frag} {mg : Str → Option Value} {base : Heap} {CX : CXT} {f : Addr} {cdv : Value} {A : Around} {outer : List Env} {s : Shared} {H : Hp} {E : XK} (c_is_whole : Cal P w K mg base CX0 1 "is_whole" ["value"] (spWhole K))
    (hr : Room 1 (A.deeper (envOfC "is_whole_within" (defScope s_is_whole_within) s.heap.objs.size f cdv))) :
    PSs (cxOf CX P w K mg base ["value", "least", "greatest"] "is_whole_within" (defScope s_is_whole_within) f cdv A outer s H E) (defBody s_is_whole_within) (t_is_whole_within K) :=
  (pss_one (ps_ret (pe_and (pe_cal c_is_whole (hr.mono (by decide)) rfl pass0 (pa_cons (pv 0) pa_nil)) (pe_one (pe_chain op_le op_le (pv 1) (pv 0) (pv 2))))))
theorem ok_is_whole_within {P : Program} {w : World} {K : PySem.W.Frag} {mg : Str → Option Value} {base : Heap} {f : Addr} {fd : FuncData} (F : FunD K "is_whole_within" "is_whole_within" (defArgs s_is_whole_within) (defBody s_is_whole_within) (defScope s_is_whole_within) [] [] f fd) (c_is_whole : Cal P w K mg base CX0 1 "is_whole" ["value"] (spWhole K)) : FnOk P w K mg base CX0 2 f fd ["value", "least", "greatest"] (spWithin K) :=
  F.ok sc_is_whole_within (fun vs H Q E h => by first | (obtain ⟨_, rfl, _⟩ := h; rfl) | (obtain ⟨_, _, rfl, _⟩ := h; rfl) | (obtain ⟨_, _, _, rfl, _⟩ := h; rfl) | (obtain ⟨_, _, _, _, rfl, _⟩ := h; rfl) | (obtain ⟨_, _, _, _, _, rfl, _⟩ := h; rfl) | (obtain ⟨_, _, _, _, _, _, rfl, _⟩ := h; rfl) | (obtain ⟨_, _, _, _, _, _, _, rfl, _⟩ := h; rfl) | (obtain ⟨_, _, _, _, _, _, _, _, rfl, _⟩ := h; rfl) | (obtain ⟨_, _, _, _, _, _, _, _, _, rfl, _⟩ := h; rfl)) (fun cdv A outer s H vs Q E hr h => ⟨_, d_is_whole_within c_is_whole hr, p_within h⟩)
theorem sc_first_outside : FnScope ["values", "least", "greatest", "index", "value"] ["values", "least", "greatest"] (defScope s_first_outside) := ⟨rfl, rfl, rfl, by decide +kernel, rfl, by decide +kernel, by decide +kernel⟩
theorem d_first_outside {P : Program} {w : World} {K : PySem.W.Frag} {mg : Str → Option Value} {base : Heap} {CX : CXT} {f : Addr} {cdv : Value} {A : Around} {outer : List Env} {s : Shared} {H : Hp} {E : XK} (m_enumerate : mg "enumerate" = none) (c_is_whole_within : Cal P w K mg base CX0 2 "is_whole_within" ["value", "least", "greatest"] (spWithin K))
    (hr : Room 2 (A.deeper (envOfC "first_outside" (defScope s_first_outside) s.heap.objs.size f cdv))) :
    PSs (cxOf CX P w K mg base ["values", "least", "greatest", "index", "value"] "first_outside" (defScope s_first_outside) f cdv A outer s H E) (defBody s_first_outside) (t_first_outside K) :=
  (pss_cons (ps_for (passes_of rfl) rfl (pi_enum (by rfl) m_enumerate (pa_cons (pv 0) pa_nil)) (pg_tup (by rfl) (pgs_cons (pg_name (i := 3) sc_first_outside.nd rfl (by first | exact Or.inl rfl | exact Or.inr rfl)) (pgs_cons (pg_name (i := 4) sc_first_outside.nd rfl (by first | exact Or.inl rfl | exact Or.inr rfl)) pgs_nil))) (pss_one (ps_if (pt_not (pt_val (pe_cal c_is_whole_within (hr.mono (by decide)) rfl pass0 (pa_cons (pv 4) (pa_cons (pv 1) (pa_cons (pv 2) pa_nil)))))) (pss_one (ps_ret (pv 3))) pss_nil)))
    (pss_one (ps_ret pe_non)))
theorem ok_first_outside {P : Program} {w : World} {K : PySem.W.Frag} {mg : Str → Option Value} {base : Heap} {f : Addr} {fd : FuncData} (F : FunD K "first_outside" "first_outside" (defArgs s_first_outside) (defBody s_first_outside) (defScope s_first_outside) [] [] f fd) (m_enumerate : mg "enumerate" = none) (c_is_whole_within : Cal P w K mg base CX0 2 "is_whole_within" ["value", "least", "greatest"] (spWithin K)) : FnOk P w K mg base CX0 3 f fd ["values", "least", "greatest"] (spOutside K) :=
  F.ok sc_first_outside (fun vs H Q E h => by first | (obtain ⟨_, rfl, _⟩ := h; rfl) | (obtain ⟨_, _, rfl, _⟩ := h; rfl) | (obtain ⟨_, _, _, rfl, _⟩ := h; rfl) | (obtain ⟨_, _, _, _, rfl, _⟩ := h; rfl) | (obtain ⟨_, _, _, _, _, rfl, _⟩ := h; rfl) | (obtain ⟨_, _, _, _, _, _, rfl, _⟩ := h; rfl) | (obtain ⟨_, _, _, _, _, _, _, rfl, _⟩ := h; rfl) | (obtain ⟨_, _, _, _, _, _, _, _, rfl, _⟩ := h; rfl) | (obtain ⟨_, _, _, _, _, _, _, _, _, rfl, _⟩ := h; rfl)) (fun cdv A outer s H vs Q E hr h => ⟨_, d_first_outside m_enumerate c_is_whole_within hr, p_outside h⟩)
theorem sc_is_row : FnScope ["values", "least", "most"] ["values", "least", "most"] (defScope s_is_row) := ⟨rfl, rfl, rfl, by decide +kernel, rfl, by decide +kernel, by decide +kernel⟩
theorem d_is_row {P : Program} {w : World} {K : PySem.W.Frag} {mg : Str → Option Value} {base : Heap} {CX : CXT} {f : Addr} {cdv : Value} {A : Around} {outer : List Env} {s : Shared} {H : Hp} {E : XK} (m_tuple : mg "tuple" = none) (m_list : mg "list" = none) (m_isinstance : mg "isinstance" = none) (m_len : mg "len" = none)
    (hr : Room 0 (A.deeper (envOfC "is_row" (defScope s_is_row) s.heap.objs.size f cdv))) :
    PSs (cxOf CX P w K mg base ["values", "least", "most"] "is_row" (defScope s_is_row) f cdv A outer s H E) (defBody s_is_row) (t_is_row K) :=
  (pss_one (ps_ret (pe_and (pe_callB call_isiT (by rfl) m_isinstance (by decide +kernel) (pa_cons (pv 0) (pa_cons (pe_tup (pa_cons (pe_bltn (by rfl) m_list (by decide +kernel) rfl) (pa_cons (pe_bltn (by rfl) m_tuple (by decide +kernel) rfl) pa_nil))) pa_nil))) (pe_one (pe_chain op_le op_le (pv 1) (pe_callB call_len_seq (by rfl) m_len (by decide +kernel) (pa_cons (pv 0) pa_nil)) (pv 2))))))
theorem ok_is_row {P : Program} {w : World} {K : PySem.W.Frag} {mg : Str → Option Value} {base : Heap} {f : Addr} {fd : FuncData} (F : FunD K "is_row" "is_row" (defArgs s_is_row) (defBody s_is_row) (defScope s_is_row) [] [] f fd) (m_tuple : mg "tuple" = none) (m_list : mg "list" = none) (m_isinstance : mg "isinstance" = none) (m_len : mg "len" = none) : FnOk P w K mg base CX0 1 f fd ["values", "least", "most"] (spRow K) :=
  F.ok sc_is_row (fun vs H Q E h => by first | (obtain ⟨_, rfl, _⟩ := h; rfl) | (obtain ⟨_, _, rfl, _⟩ := h; rfl) | (obtain ⟨_, _, _, rfl, _⟩ := h; rfl) | (obtain ⟨_, _, _, _, rfl, _⟩ := h; rfl) | (obtain ⟨_, _, _, _, _, rfl, _⟩ := h; rfl) | (obtain ⟨_, _, _, _, _, _, rfl, _⟩ := h; rfl) | (obtain ⟨_, _, _, _, _, _, _, rfl, _⟩ := h; rfl) | (obtain ⟨_, _, _, _, _, _, _, _, rfl, _⟩ := h; rfl) | (obtain ⟨_, _, _, _, _, _, _, _, _, rfl, _⟩ := h; rfl)) (fun cdv A outer s H vs Q E hr h => ⟨_, d_is_row m_tuple m_list m_isinstance m_len hr, p_row h⟩)
theorem sc_check_heights : FnScope ["heights", "wrong"] ["heights"] (defScope s_check_heights) := ⟨rfl, rfl, rfl, by decide +kernel, rfl, by decide +kernel, by decide +kernel⟩
theorem d_check_heights {P : Program} {w : World} {K : PySem.W.Frag} {mg : Str → Option Value} {base : Heap} {CX : CXT} {f : Addr} {cdv : Value} {A : Around} {outer : List Env} {s : Shared} {H : Hp} {E : XK} (m_MOST_COLUMNS : ∃ u, mg "MOST_COLUMNS" = some (.int 60 u)) (c_is_row : Cal P w K mg base CX0 1 "is_row" ["values", "least", "most"] (spRow K)) (m_GREATEST : ∃ u, mg "GREATEST" = some (.int 1000000000000000000000000000000 u)) (c_first_outside : Cal P w K mg base CX0 3 "first_outside" ["values", "least", "greatest"] (spOutside K))
    (hr : Room 3 (A.deeper (envOfC "check_heights" (defScope s_check_heights) s.heap.objs.size f cdv))) :
    PSs (cxOf CX P w K mg base ["heights", "wrong"] "check_heights" (defScope s_check_heights) f cdv A outer s H E) (defBody s_check_heights) (t_check_heights K) :=
  (pss_cons (ps_if (pt_not (pt_val (pe_cal c_is_row (hr.mono (by decide)) rfl pass0 (pa_cons (pv 0) (pa_cons pe_int (pa_cons (pe_gint m_MOST_COLUMNS rfl) pa_nil)))))) (pss_one ps_never) pss_nil)
    (pss_cons (ps_set (i := 1) sc_check_heights.nd rfl (by first | exact Or.inl rfl | exact Or.inr rfl) (pe_cal c_first_outside (hr.mono (by decide)) rfl pass0 (pa_cons (pv 0) (pa_cons (pe_un un_neg (pe_gint m_GREATEST rfl)) (pa_cons (pe_gint m_GREATEST rfl) pa_nil)))))
    (pss_one (ps_if (pt_cmpR op_notN (pv 1) pe_non (nomark _)) (pss_one ps_never) pss_nil))))
theorem ok_check_heights {P : Program} {w : World} {K : PySem.W.Frag} {mg : Str → Option Value} {base : Heap} {f : Addr} {fd : FuncData} (F : FunD K "check_heights" "check_heights" (defArgs s_check_heights) (defBody s_check_heights) (defScope s_check_heights) [] [] f fd) (m_MOST_COLUMNS : ∃ u, mg "MOST_COLUMNS" = some (.int 60 u)) (c_is_row : Cal P w K mg base CX0 1 "is_row" ["values", "least", "most"] (spRow K)) (m_GREATEST : ∃ u, mg "GREATEST" = some (.int 1000000000000000000000000000000 u)) (c_first_outside : Cal P w K mg base CX0 3 "first_outside" ["values", "least", "greatest"] (spOutside K)) : FnOk P w K mg base CX0 4 f fd ["heights"] (spCheckH K) :=
  F.ok sc_check_heights (fun vs H Q E h => by first | (obtain ⟨_, rfl, _⟩ := h; rfl) | (obtain ⟨_, _, rfl, _⟩ := h; rfl) | (obtain ⟨_, _, _, rfl, _⟩ := h; rfl) | (obtain ⟨_, _, _, _, rfl, _⟩ := h; rfl) | (obtain ⟨_, _, _, _, _, rfl, _⟩ := h; rfl) | (obtain ⟨_, _, _, _, _, _, rfl, _⟩ := h; rfl) | (obtain ⟨_, _, _, _, _, _, _, rfl, _⟩ := h; rfl) | (obtain ⟨_, _, _, _, _, _, _, _, rfl, _⟩ := h; rfl) | (obtain ⟨_, _, _, _, _, _, _, _, _, rfl, _⟩ := h; rfl)) (fun cdv A outer s H vs Q E hr h => ⟨_, d_check_heights m_MOST_COLUMNS c_is_row m_GREATEST c_first_outside hr, p_checkH h⟩)
theorem sc_check_widths : FnScope ["widths", "many", "wrong"] ["widths", "many"] (defScope s_check_widths) := ⟨rfl, rfl, rfl, by decide +kernel, rfl, by decide +kernel, by decide +kernel⟩
theorem d_check_widths {P : Program} {w : World} {K : PySem.W.Frag} {mg : Str → Option Value} {base : Heap} {CX : CXT} {f : Addr} {cdv : Value} {A : Around} {outer : List Env} {s : Shared} {H : Hp} {E : XK} (c_is_row : Cal P w K mg base CX0 1 "is_row" ["values", "least", "most"] (spRow K)) (m_GREATEST : ∃ u, mg "GREATEST" = some (.int 1000000000000000000000000000000 u)) (c_first_outside : Cal P w K mg base CX0 3 "first_outside" ["values", "least", "greatest"] (spOutside K))
    (hr : Room 3 (A.deeper (envOfC "check_widths" (defScope s_check_widths) s.heap.objs.size f cdv))) :
    PSs (cxOf CX P w K mg base ["widths", "many", "wrong"] "check_widths" (defScope s_check_widths) f cdv A outer s H E) (defBody s_check_widths) (t_check_widths K) :=
  (pss_cons (ps_if (pt_not (pt_val (pe_cal c_is_row (hr.mono (by decide)) rfl pass0 (pa_cons (pv 0) (pa_cons (pv 1) (pa_cons (pv 1) pa_nil)))))) (pss_one ps_never) pss_nil)
    (pss_cons (ps_set (i := 2) sc_check_widths.nd rfl (by first | exact Or.inl rfl | exact Or.inr rfl) (pe_cal c_first_outside (hr.mono (by decide)) rfl pass0 (pa_cons (pv 0) (pa_cons pe_int (pa_cons (pe_gint m_GREATEST rfl) pa_nil)))))
    (pss_one (ps_if (pt_cmpR op_notN (pv 2) pe_non (nomark _)) (pss_one ps_never) pss_nil))))
theorem ok_check_widths {P : Program} {w : World} {K : PySem.W.Frag} {mg : Str → Option Value} {base : Heap} {f : Addr} {fd : FuncData} (F : FunD K "check_widths" "check_widths" (defArgs s_check_widths) (defBody s_check_widths) (defScope s_check_widths) [] [] f fd) (c_is_row : Cal P w K mg base CX0 1 "is_row" ["values", "least", "most"] (spRow K)) (m_GREATEST : ∃ u, mg "GREATEST" = some (.int 1000000000000000000000000000000 u)) (c_first_outside : Cal P w K mg base CX0 3 "first_outside" ["values", "least", "greatest"] (spOutside K)) : FnOk P w K mg base CX0 4 f fd ["widths", "many"] (spCheckW K) :=
  F.ok sc_check_widths (fun vs H Q E h => by first | (obtain ⟨_, rfl, _⟩ := h; rfl) | (obtain ⟨_, _, rfl, _⟩ := h; rfl) | (obtain ⟨_, _, _, rfl, _⟩ := h; rfl) | (obtain ⟨_, _, _, _, rfl, _⟩ := h; rfl) | (obtain ⟨_, _, _, _, _, rfl, _⟩ := h; rfl) | (obtain ⟨_, _, _, _, _, _, rfl, _⟩ := h; rfl) | (obtain ⟨_, _, _, _, _, _, _, rfl, _⟩ := h; rfl) | (obtain ⟨_, _, _, _, _, _, _, _, rfl, _⟩ := h; rfl) | (obtain ⟨_, _, _, _, _, _, _, _, _, rfl, _⟩ := h; rfl)) (fun cdv A outer s H vs Q E hr h => ⟨_, d_check_widths c_is_row m_GREATEST c_first_outside hr, p_checkW h⟩)
theorem sc_Profile___init__ : FnScope ["self", "heights", "widths"] ["self", "heights", "widths"] (defScope s_Profile___init__) := ⟨rfl, rfl, rfl, by decide +kernel, rfl, by decide +kernel, by decide +kernel⟩
theorem d_Profile___init__ {P : Program} {w : World} {K : PySem.W.Frag} {mg : Str → Option Value} {base : Heap} {C_Profile : Addr} {CX : CXT} {f : Addr} {cdv : Value} {A : Around} {outer : List Env} {s : Shared} {H : Hp} {E : XK} (c_check_heights : Cal P w K mg base CX0 4 "check_heights" ["heights"] (spCheckH K)) (m_len : mg "len" = none) (c_check_widths : Cal P w K mg base CX0 4 "check_widths" ["widths", "many"] (spCheckW K)) (m_tuple : mg "tuple" = none)
    (hr : Room 4 (A.deeper (envOfC "Profile.__init__" (defScope s_Profile___init__) s.heap.objs.size f cdv))) :
    PSs (cxOf CX P w K mg base ["self", "heights", "widths"] "Profile.__init__" (defScope s_Profile___init__) f cdv A outer s H E) (defBody s_Profile___init__) (t_Profile___init__ K C_Profile) :=
  (pss_cons (ps_expr (pe_cal c_check_heights (hr.mono (by decide)) rfl pass0 (pa_cons (pv 1) pa_nil)))
    (pss_cons (ps_if (pt_cmpR op_isN (pv 2) pe_non (nomark _)) (pss_one (ps_set (i := 2) sc_Profile___init__.nd rfl (by first | exact Or.inl rfl | exact Or.inr rfl) (pe_op op_rep (pe_lst (pa_cons pe_int pa_nil)) (pe_callB call_len_seq (by rfl) m_len (by decide +kernel) (pa_cons (pv 1) pa_nil))))) pss_nil)
    (pss_cons (ps_expr (pe_cal c_check_widths (hr.mono (by decide)) rfl pass0 (pa_cons (pv 2) (pa_cons (pe_callB call_len_seq (by rfl) m_len (by decide +kernel) (pa_cons (pv 1) pa_nil)) pa_nil))))
    (pss_cons (ps_fld (pv 0) (pe_callTy call_tuple_of (by rfl) m_tuple (by decide +kernel) (pa_cons (pv 1) pa_nil)) rfl)
    (pss_one (ps_fld (pv 0) (pe_callTy call_tuple_of (by rfl) m_tuple (by decide +kernel) (pa_cons (pv 2) pa_nil)) rfl))))))
theorem ok_Profile___init__ {P : Program} {w : World} {K : PySem.W.Frag} {mg : Str → Option Value} {base : Heap} {C_Profile : Addr} {f : Addr} {fd : FuncData} (F : FunD K "__init__" "Profile.__init__" (defArgs s_Profile___init__) (defBody s_Profile___init__) (defScope s_Profile___init__) [.non] [] f fd) (c_check_heights : Cal P w K mg base CX0 4 "check_heights" ["heights"] (spCheckH K)) (m_len : mg "len" = none) (c_check_widths : Cal P w K mg base CX0 4 "check_widths" ["widths", "many"] (spCheckW K)) (m_tuple : mg "tuple" = none) : FnOk P w K mg base CX0 5 f fd ["self", "heights", "widths"] (spInit K C_Profile) :=
  F.ok sc_Profile___init__ (fun vs H Q E h => by first | (obtain ⟨_, rfl, _⟩ := h; rfl) | (obtain ⟨_, _, rfl, _⟩ := h; rfl) | (obtain ⟨_, _, _, rfl, _⟩ := h; rfl) | (obtain ⟨_, _, _, _, rfl, _⟩ := h; rfl) | (obtain ⟨_, _, _, _, _, rfl, _⟩ := h; rfl) | (obtain ⟨_, _, _, _, _, _, rfl, _⟩ := h; rfl) | (obtain ⟨_, _, _, _, _, _, _, rfl, _⟩ := h; rfl) | (obtain ⟨_, _, _, _, _, _, _, _, rfl, _⟩ := h; rfl) | (obtain ⟨_, _, _, _, _, _, _, _, _, rfl, _⟩ := h; rfl)) (fun cdv A outer s H vs Q E hr h => ⟨_, d_Profile___init__ c_check_heights m_len c_check_widths m_tuple hr, p_init h⟩)
theorem sc_Profile___len__ : FnScope ["self"] ["self"] (defScope s_Profile___len__) := ⟨rfl, rfl, rfl, by decide +kernel, rfl, by decide +kernel, by decide +kernel⟩
theorem d_Profile___len__ {P : Program} {w : World} {K : PySem.W.Frag} {mg : Str → Option Value} {base : Heap} {C_Profile : Addr} {CX : CXT} {f : Addr} {cdv : Value} {A : Around} {outer : List Env} {s : Shared} {H : Hp} {E : XK} (m_len : mg "len" = none)
    (hr : Room 0 (A.deeper (envOfC "Profile.__len__" (defScope s_Profile___len__) s.heap.objs.size f cdv))) :
    PSs (cxOf CX P w K mg base ["self"] "Profile.__len__" (defScope s_Profile___len__) f cdv A outer s H E) (defBody s_Profile___len__) (t_Profile___len__ K C_Profile) :=
  (pss_one (ps_ret (pe_callB call_len_seq (by rfl) m_len (by decide +kernel) (pa_cons (pe_fld (pv 0) rfl) pa_nil))))
theorem ok_Profile___len__ {P : Program} {w : World} {K : PySem.W.Frag} {mg : Str → Option Value} {base : Heap} {C_Profile : Addr} {f : Addr} {fd : FuncData} (F : FunD K "__len__" "Profile.__len__" (defArgs s_Profile___len__) (defBody s_Profile___len__) (defScope s_Profile___len__) [] [] f fd) (m_len : mg "len" = none) : FnOk P w K mg base CX0 1 f fd ["self"] (spPLen K C_Profile) :=
  F.ok sc_Profile___len__ (fun vs H Q E h => by first | (obtain ⟨_, rfl, _⟩ := h; rfl) | (obtain ⟨_, _, rfl, _⟩ := h; rfl) | (obtain ⟨_, _, _, rfl, _⟩ := h; rfl) | (obtain ⟨_, _, _, _, rfl, _⟩ := h; rfl) | (obtain ⟨_, _, _, _, _, rfl, _⟩ := h; rfl) | (obtain ⟨_, _, _, _, _, _, rfl, _⟩ := h; rfl) | (obtain ⟨_, _, _, _, _, _, _, rfl, _⟩ := h; rfl) | (obtain ⟨_, _, _, _, _, _, _, _, rfl, _⟩ := h; rfl) | (obtain ⟨_, _, _, _, _, _, _, _, _, rfl, _⟩ := h; rfl)) (fun cdv A outer s H vs Q E hr h => ⟨_, d_Profile___len__ m_len hr, p_plen h⟩)
theorem sc_common_divisor : FnScope ["first", "second"] ["first", "second"] (defScope s_common_divisor) := ⟨rfl, rfl, rfl, by decide +kernel, rfl, by decide +kernel, by decide +kernel⟩
theorem d_common_divisor {P : Program} {w : World} {K : PySem.W.Frag} {mg : Str → Option Value} {base : Heap} {CX : CXT} {f : Addr} {cdv : Value} {A : Around} {outer : List Env} {s : Shared} {H : Hp} {E : XK} 
    (hr : Room 0 (A.deeper (envOfC "common_divisor" (defScope s_common_divisor) s.heap.objs.size f cdv))) :
    PSs (cxOf CX P w K mg base ["first", "second"] "common_divisor" (defScope s_common_divisor) f cdv A outer s H E) (defBody s_common_divisor) (t_common_divisor K) :=
  (pss_cons (ps_while (passes_of rfl) (pt_cmpR op_ne (pv 1) pe_int (nomark _)) (pss_one (ps_par (by rfl) sc_common_divisor.nd rfl rfl (by decide) rfl rfl (pa_cons (pv 1) (pa_cons (pe_op op_mod (pv 0) (pv 1)) pa_nil)) (by rfl))))
    (pss_one (ps_ret (pv 0))))
theorem ok_common_divisor {P : Program} {w : World} {K : PySem.W.Frag} {mg : Str → Option Value} {base : Heap} {f : Addr} {fd : FuncData} (F : FunD K "common_divisor" "common_divisor" (defArgs s_common_divisor) (defBody s_common_divisor) (defScope s_common_divisor) [] [] f fd)  : FnOk P w K mg base CX0 1 f fd ["first", "second"] (spGcd K) :=
  F.ok sc_common_divisor (fun vs H Q E h => by first | (obtain ⟨_, rfl, _⟩ := h; rfl) | (obtain ⟨_, _, rfl, _⟩ := h; rfl) | (obtain ⟨_, _, _, rfl, _⟩ := h; rfl) | (obtain ⟨_, _, _, _, rfl, _⟩ := h; rfl) | (obtain ⟨_, _, _, _, _, rfl, _⟩ := h; rfl) | (obtain ⟨_, _, _, _, _, _, rfl, _⟩ := h; rfl) | (obtain ⟨_, _, _, _, _, _, _, rfl, _⟩ := h; rfl) | (obtain ⟨_, _, _, _, _, _, _, _, rfl, _⟩ := h; rfl) | (obtain ⟨_, _, _, _, _, _, _, _, _, rfl, _⟩ := h; rfl)) (fun cdv A outer s H vs Q E hr h => ⟨_, d_common_divisor  hr, p_gcd h⟩)
theorem sc_gap : FnScope ["left", "right"] ["left", "right"] (defScope s_gap) := ⟨rfl, rfl, rfl, by decide +kernel, rfl, by decide +kernel, by decide +kernel⟩
theorem d_gap {P : Program} {w : World} {K : PySem.W.Frag} {mg : Str → Option Value} {base : Heap} {C_Ratio : Addr} {CX : CXT} {f : Addr} {cdv : Value} {A : Around} {outer : List Env} {s : Shared} {H : Hp} {E : XK} 
    (hr : Room 0 (A.deeper (envOfC "gap" (defScope s_gap) s.heap.objs.size f cdv))) :
    PSs (cxOf CX P w K mg base ["left", "right"] "gap" (defScope s_gap) f cdv A outer s H E) (defBody s_gap) (t_gap K C_Ratio) :=
  (pss_one (ps_ret (pe_op op_sub (pe_op op_mulW (pe_fld (pv 0) rfl) (pe_fld (pv 1) rfl)) (pe_op op_mulW (pe_fld (pv 1) rfl) (pe_fld (pv 0) rfl)))))
theorem ok_gap {P : Program} {w : World} {K : PySem.W.Frag} {mg : Str → Option Value} {base : Heap} {C_Ratio : Addr} {f : Addr} {fd : FuncData} (F : FunD K "gap" "gap" (defArgs s_gap) (defBody s_gap) (defScope s_gap) [] [] f fd)  : FnOk P w K mg base CX0 1 f fd ["left", "right"] (spGap K C_Ratio) :=
  F.ok sc_gap (fun vs H Q E h => by first | (obtain ⟨_, rfl, _⟩ := h; rfl) | (obtain ⟨_, _, rfl, _⟩ := h; rfl) | (obtain ⟨_, _, _, rfl, _⟩ := h; rfl) | (obtain ⟨_, _, _, _, rfl, _⟩ := h; rfl) | (obtain ⟨_, _, _, _, _, rfl, _⟩ := h; rfl) | (obtain ⟨_, _, _, _, _, _, rfl, _⟩ := h; rfl) | (obtain ⟨_, _, _, _, _, _, _, rfl, _⟩ := h; rfl) | (obtain ⟨_, _, _, _, _, _, _, _, rfl, _⟩ := h; rfl) | (obtain ⟨_, _, _, _, _, _, _, _, _, rfl, _⟩ := h; rfl)) (fun cdv A outer s H vs Q E hr h => ⟨_, d_gap  hr, p_gap h⟩)
theorem sc_Ratio___init__ : FnScope ["self", "numerator", "denominator", "divisor"] ["self", "numerator", "denominator"] (defScope s_Ratio___init__) := ⟨rfl, rfl, rfl, by decide +kernel, rfl, by decide +kernel, by decide +kernel⟩
theorem d_Ratio___init__ {P : Program} {w : World} {K : PySem.W.Frag} {mg : Str → Option Value} {base : Heap} {C_Ratio : Addr} {CX : CXT} {f : Addr} {cdv : Value} {A : Around} {outer : List Env} {s : Shared} {H : Hp} {E : XK} (c_is_whole : Cal P w K mg base CX0 1 "is_whole" ["value"] (spWhole K)) (m_abs : mg "abs" = none) (c_common_divisor : Cal P w K mg base CX0 1 "common_divisor" ["first", "second"] (spGcd K))
    (hr : Room 1 (A.deeper (envOfC "Ratio.__init__" (defScope s_Ratio___init__) s.heap.objs.size f cdv))) :
    PSs (cxOf CX P w K mg base ["self", "numerator", "denominator", "divisor"] "Ratio.__init__" (defScope s_Ratio___init__) f cdv A outer s H E) (defBody s_Ratio___init__) (t_Ratio___init__ K C_Ratio) :=
  (pss_cons (ps_if (pt_not (pt_val (pe_cal c_is_whole (hr.mono (by decide)) rfl pass0 (pa_cons (pv 1) pa_nil)))) (pss_one ps_never) pss_nil)
    (pss_cons (ps_if (PW.pt (pw_or (pt_not (pt_val (pe_cal c_is_whole (hr.mono (by decide)) rfl pass0 (pa_cons (pv 2) pa_nil)))) (pw_or1 (pt_cmpR op_eq (pv 2) pe_int (nomark _))))) (pss_one ps_never) pss_nil)
    (pss_cons (ps_set (i := 3) sc_Ratio___init__.nd rfl (by first | exact Or.inl rfl | exact Or.inr rfl) (pe_cal c_common_divisor (hr.mono (by decide)) rfl pass0 (pa_cons (pe_callB call_abs (by rfl) m_abs (by decide +kernel) (pa_cons (pv 1) pa_nil)) (pa_cons (pe_callB call_abs (by rfl) m_abs (by decide +kernel) (pa_cons (pv 2) pa_nil)) pa_nil))))
    (pss_cons (ps_if (pt_cmpR op_lt (pv 2) pe_int (nomark _)) (pss_one (ps_set (i := 3) sc_Ratio___init__.nd rfl (by first | exact Or.inl rfl | exact Or.inr rfl) (pe_un un_neg (pv 3)))) pss_nil)
    (pss_cons (ps_fld (pv 0) (pe_op op_fdivW (pv 1) (pv 3)) rfl)
    (pss_one (ps_fld (pv 0) (pe_op op_fdivW (pv 2) (pv 3)) rfl)))))))
theorem ok_Ratio___init__ {P : Program} {w : World} {K : PySem.W.Frag} {mg : Str → Option Value} {base : Heap} {C_Ratio : Addr} {f : Addr} {fd : FuncData} (F : FunD K "__init__" "Ratio.__init__" (defArgs s_Ratio___init__) (defBody s_Ratio___init__) (defScope s_Ratio___init__) [.int 1] [] f fd) (c_is_whole : Cal P w K mg base CX0 1 "is_whole" ["value"] (spWhole K)) (m_abs : mg "abs" = none) (c_common_divisor : Cal P w K mg base CX0 1 "common_divisor" ["first", "second"] (spGcd K)) : FnOk P w K mg base CX0 2 f fd ["self", "numerator", "denominator"] (spRInit K C_Ratio) :=
  F.ok sc_Ratio___init__ (fun vs H Q E h => by first | (obtain ⟨_, rfl, _⟩ := h; rfl) | (obtain ⟨_, _, rfl, _⟩ := h; rfl) | (obtain ⟨_, _, _, rfl, _⟩ := h; rfl) | (obtain ⟨_, _, _, _, rfl, _⟩ := h; rfl) | (obtain ⟨_, _, _, _, _, rfl, _⟩ := h; rfl) | (obtain ⟨_, _, _, _, _, _, rfl, _⟩ := h; rfl) | (obtain ⟨_, _, _, _, _, _, _, rfl, _⟩ := h; rfl) | (obtain ⟨_, _, _, _, _, _, _, _, rfl, _⟩ := h; rfl) | (obtain ⟨_, _, _, _, _, _, _, _, _, rfl, _⟩ := h; rfl)) (fun cdv A outer s H vs Q E hr h => ⟨_, d_Ratio___init__ c_is_whole m_abs c_common_divisor hr, p_rinit h⟩)
theorem sc_as_ratio : FnScope ["value"] ["value"] (defScope s_as_ratio) := ⟨rfl, rfl, rfl, by decide +kernel, rfl, by decide +kernel, by decide +kernel⟩
theorem d_as_ratio {P : Program} {w : World} {K : PySem.W.Frag} {mg : Str → Option Value} {base : Heap} {C_Ratio : Addr} {CX : CXT} {f : Addr} {cdv : Value} {A : Around} {outer : List Env} {s : Shared} {H : Hp} {E : XK} (g_Ratio : mg "Ratio" = some (.ref C_Ratio)) (m_isinstance : mg "isinstance" = none) (c_is_whole : Cal P w K mg base CX0 1 "is_whole" ["value"] (spWhole K)) (cm1_Ratio : CalM P w K mg base CX0 2 "Ratio" C_Ratio ["self", "numerator", "denominator"] (spRInit K C_Ratio) [.int 1])
    (hr : Room 3 (A.deeper (envOfC "as_ratio" (defScope s_as_ratio) s.heap.objs.size f cdv))) :
    PSs (cxOf CX P w K mg base ["value"] "as_ratio" (defScope s_as_ratio) f cdv A outer s H E) (defBody s_as_ratio) (t_as_ratio K C_Ratio) :=
  (pss_cons (ps_if (pt_val (pe_callB call_isi (by rfl) m_isinstance (by decide +kernel) (pa_cons (pv 0) (pa_cons (pe_glob rfl g_Ratio rfl) pa_nil)))) (pss_one (ps_ret (pv 0))) pss_nil)
    (pss_cons (ps_if (pt_val (pe_cal c_is_whole (hr.mono (by decide)) rfl pass0 (pa_cons (pv 0) pa_nil))) (pss_one (ps_ret (pe_calm cm1_Ratio (hr.mono (by decide)) rfl pass0 (pa_cons (pv 0) pa_nil)))) pss_nil)
    (pss_one (ps_ret pe_non))))
theorem ok_as_ratio {P : Program} {w : World} {K : PySem.W.Frag} {mg : Str → Option Value} {base : Heap} {C_Ratio : Addr} {f : Addr} {fd : FuncData} (F : FunD K "as_ratio" "as_ratio" (defArgs s_as_ratio) (defBody s_as_ratio) (defScope s_as_ratio) [] [] f fd) (g_Ratio : mg "Ratio" = some (.ref C_Ratio)) (m_isinstance : mg "isinstance" = none) (c_is_whole : Cal P w K mg base CX0 1 "is_whole" ["value"] (spWhole K)) (cm1_Ratio : CalM P w K mg base CX0 2 "Ratio" C_Ratio ["self", "numerator", "denominator"] (spRInit K C_Ratio) [.int 1]) : FnOk P w K mg base CX0 4 f fd ["value"] (spAsR K C_Ratio) :=
  F.ok sc_as_ratio (fun vs H Q E h => by first | (obtain ⟨_, rfl, _⟩ := h; rfl) | (obtain ⟨_, _, rfl, _⟩ := h; rfl) | (obtain ⟨_, _, _, rfl, _⟩ := h; rfl) | (obtain ⟨_, _, _, _, rfl, _⟩ := h; rfl) | (obtain ⟨_, _, _, _, _, rfl, _⟩ := h; rfl) | (obtain ⟨_, _, _, _, _, _, rfl, _⟩ := h; rfl) | (obtain ⟨_, _, _, _, _, _, _, rfl, _⟩ := h; rfl) | (obtain ⟨_, _, _, _, _, _, _, _, rfl, _⟩ := h; rfl) | (obtain ⟨_, _, _, _, _, _, _, _, _, rfl, _⟩ := h; rfl)) (fun cdv A outer s H vs Q E hr h => ⟨_, d_as_ratio g_Ratio m_isinstance c_is_whole cm1_Ratio hr, p_asR h⟩)
theorem sc_Ratio___add__ : FnScope ["self", "other", "right", "top"] ["self", "other"] (defScope s_Ratio___add__) := ⟨rfl, rfl, rfl, by decide +kernel, rfl, by decide +kernel, by decide +kernel⟩
theorem d_Ratio___add__ {P : Program} {w : World} {K : PySem.W.Frag} {mg : Str → Option Value} {base : Heap} {C_Ratio : Addr} {CX : CXT} {f : Addr} {cdv : Value} {A : Around} {outer : List Env} {s : Shared} {H : Hp} {E : XK} (c_as_ratio : Cal P w K mg base CX0 4 "as_ratio" ["value"] (spAsR K C_Ratio)) (cm2_Ratio : CalM P w K mg base CX0 2 "Ratio" C_Ratio ["self", "numerator", "denominator"] (spRInit K C_Ratio) [])
    (hr : Room 4 (A.deeper (envOfC "Ratio.__add__" (defScope s_Ratio___add__) s.heap.objs.size f cdv))) :
    PSs (cxOf CX P w K mg base ["self", "other", "right", "top"] "Ratio.__add__" (defScope s_Ratio___add__) f cdv A outer s H E) (defBody s_Ratio___add__) (t_Ratio___add__ K C_Ratio) :=
  (pss_cons (ps_set (i := 2) sc_Ratio___add__.nd rfl (by first | exact Or.inl rfl | exact Or.inr rfl) (pe_cal c_as_ratio (hr.mono (by decide)) rfl pass0 (pa_cons (pv 1) pa_nil)))
    (pss_cons (ps_if (pt_cmpR op_isN (pv 2) pe_non (nomark _)) (pss_one ps_never) pss_nil)
    (pss_cons (ps_set (i := 3) sc_Ratio___add__.nd rfl (by first | exact Or.inl rfl | exact Or.inr rfl) (pe_op op_add (pe_op op_mulW (pe_fld (pv 0) rfl) (pe_fld (pv 2) rfl)) (pe_op op_mulW (pe_fld (pv 2) rfl) (pe_fld (pv 0) rfl))))
    (pss_one (ps_ret (pe_calm cm2_Ratio (hr.mono (by decide)) rfl pass0 (pa_cons (pv 3) (pa_cons (pe_op op_mulW (pe_fld (pv 0) rfl) (pe_fld (pv 2) rfl)) pa_nil))))))))
theorem ok_Ratio___add__ {P : Program} {w : World} {K : PySem.W.Frag} {mg : Str → Option Value} {base : Heap} {C_Ratio : Addr} {f : Addr} {fd : FuncData} (F : FunD K "__add__" "Ratio.__add__" (defArgs s_Ratio___add__) (defBody s_Ratio___add__) (defScope s_Ratio___add__) [] [] f fd) (c_as_ratio : Cal P w K mg base CX0 4 "as_ratio" ["value"] (spAsR K C_Ratio)) (cm2_Ratio : CalM P w K mg base CX0 2 "Ratio" C_Ratio ["self", "numerator", "denominator"] (spRInit K C_Ratio) []) : FnOk P w K mg base CX0 5 f fd ["self", "other"] (spAdd K C_Ratio) :=
  F.ok sc_Ratio___add__ (fun vs H Q E h => by first | (obtain ⟨_, rfl, _⟩ := h; rfl) | (obtain ⟨_, _, rfl, _⟩ := h; rfl) | (obtain ⟨_, _, _, rfl, _⟩ := h; rfl) | (obtain ⟨_, _, _, _, rfl, _⟩ := h; rfl) | (obtain ⟨_, _, _, _, _, rfl, _⟩ := h; rfl) | (obtain ⟨_, _, _, _, _, _, rfl, _⟩ := h; rfl) | (obtain ⟨_, _, _, _, _, _, _, rfl, _⟩ := h; rfl) | (obtain ⟨_, _, _, _, _, _, _, _, rfl, _⟩ := h; rfl) | (obtain ⟨_, _, _, _, _, _, _, _, _, rfl, _⟩ := h; rfl)) (fun cdv A outer s H vs Q E hr h => ⟨_, d_Ratio___add__ c_as_ratio cm2_Ratio hr, p_add h⟩)
theorem sc_Ratio___sub__ : FnScope ["self", "other", "right"] ["self", "other"] (defScope s_Ratio___sub__) := ⟨rfl, rfl, rfl, by decide +kernel, rfl, by decide +kernel, by decide +kernel⟩
theorem d_Ratio___sub__ {P : Program} {w : World} {K : PySem.W.Frag} {mg : Str → Option Value} {base : Heap} {C_Ratio : Addr} {CX : CXT} {f : Addr} {cdv : Value} {A : Around} {outer : List Env} {s : Shared} {H : Hp} {E : XK} (c_as_ratio : Cal P w K mg base CX0 4 "as_ratio" ["value"] (spAsR K C_Ratio)) (c_gap : Cal P w K mg base CX0 1 "gap" ["left", "right"] (spGap K C_Ratio)) (cm2_Ratio : CalM P w K mg base CX0 2 "Ratio" C_Ratio ["self", "numerator", "denominator"] (spRInit K C_Ratio) [])
    (hr : Room 4 (A.deeper (envOfC "Ratio.__sub__" (defScope s_Ratio___sub__) s.heap.objs.size f cdv))) :
    PSs (cxOf CX P w K mg base ["self", "other", "right"] "Ratio.__sub__" (defScope s_Ratio___sub__) f cdv A outer s H E) (defBody s_Ratio___sub__) (t_Ratio___sub__ K C_Ratio) :=
  (pss_cons (ps_set (i := 2) sc_Ratio___sub__.nd rfl (by first | exact Or.inl rfl | exact Or.inr rfl) (pe_cal c_as_ratio (hr.mono (by decide)) rfl pass0 (pa_cons (pv 1) pa_nil)))
    (pss_cons (ps_if (pt_cmpR op_isN (pv 2) pe_non (nomark _)) (pss_one ps_never) pss_nil)
    (pss_one (ps_ret (pe_calm cm2_Ratio (hr.mono (by decide)) rfl pass0 (pa_cons (pe_cal c_gap (hr.mono (by decide)) rfl pass0 (pa_cons (pv 0) (pa_cons (pv 2) pa_nil))) (pa_cons (pe_op op_mulW (pe_fld (pv 0) rfl) (pe_fld (pv 2) rfl)) pa_nil)))))))
theorem ok_Ratio___sub__ {P : Program} {w : World} {K : PySem.W.Frag} {mg : Str → Option Value} {base : Heap} {C_Ratio : Addr} {f : Addr} {fd : FuncData} (F : FunD K "__sub__" "Ratio.__sub__" (defArgs s_Ratio___sub__) (defBody s_Ratio___sub__) (defScope s_Ratio___sub__) [] [] f fd) (c_as_ratio : Cal P w K mg base CX0 4 "as_ratio" ["value"] (spAsR K C_Ratio)) (c_gap : Cal P w K mg base CX0 1 "gap" ["left", "right"] (spGap K C_Ratio)) (cm2_Ratio : CalM P w K mg base CX0 2 "Ratio" C_Ratio ["self", "numerator", "denominator"] (spRInit K C_Ratio) []) : FnOk P w K mg base CX0 5 f fd ["self", "other"] (spSub K C_Ratio) :=
  F.ok sc_Ratio___sub__ (fun vs H Q E h => by first | (obtain ⟨_, rfl, _⟩ := h; rfl) | (obtain ⟨_, _, rfl, _⟩ := h; rfl) | (obtain ⟨_, _, _, rfl, _⟩ := h; rfl) | (obtain ⟨_, _, _, _, rfl, _⟩ := h; rfl) | (obtain ⟨_, _, _, _, _, rfl, _⟩ := h; rfl) | (obtain ⟨_, _, _, _, _, _, rfl, _⟩ := h; rfl) | (obtain ⟨_, _, _, _, _, _, _, rfl, _⟩ := h; rfl) | (obtain ⟨_, _, _, _, _, _, _, _, rfl, _⟩ := h; rfl) | (obtain ⟨_, _, _, _, _, _, _, _, _, rfl, _⟩ := h; rfl)) (fun cdv A outer s H vs Q E hr h => ⟨_, d_Ratio___sub__ c_as_ratio c_gap cm2_Ratio hr, p_sub h⟩)
theorem sc_Ratio___mul__ : FnScope ["self", "other", "right"] ["self", "other"] (defScope s_Ratio___mul__) := ⟨rfl, rfl, rfl, by decide +kernel, rfl, by decide +kernel, by decide +kernel⟩
theorem d_Ratio___mul__ {P : Program} {w : World} {K : PySem.W.Frag} {mg : Str → Option Value} {base : Heap} {C_Ratio : Addr} {CX : CXT} {f : Addr} {cdv : Value} {A : Around} {outer : List Env} {s : Shared} {H : Hp} {E : XK} (c_as_ratio : Cal P w K mg base CX0 4 "as_ratio" ["value"] (spAsR K C_Ratio)) (cm2_Ratio : CalM P w K mg base CX0 2 "Ratio" C_Ratio ["self", "numerator", "denominator"] (spRInit K C_Ratio) [])
    (hr : Room 4 (A.deeper (envOfC "Ratio.__mul__" (defScope s_Ratio___mul__) s.heap.objs.size f cdv))) :
    PSs (cxOf CX P w K mg base ["self", "other", "right"] "Ratio.__mul__" (defScope s_Ratio___mul__) f cdv A outer s H E) (defBody s_Ratio___mul__) (t_Ratio___mul__ K C_Ratio) :=
  (pss_cons (ps_set (i := 2) sc_Ratio___mul__.nd rfl (by first | exact Or.inl rfl | exact Or.inr rfl) (pe_cal c_as_ratio (hr.mono (by decide)) rfl pass0 (pa_cons (pv 1) pa_nil)))
    (pss_cons (ps_if (pt_cmpR op_isN (pv 2) pe_non (nomark _)) (pss_one ps_never) pss_nil)
    (pss_one (ps_ret (pe_calm cm2_Ratio (hr.mono (by decide)) rfl pass0 (pa_cons (pe_op op_mulW (pe_fld (pv 0) rfl) (pe_fld (pv 2) rfl)) (pa_cons (pe_op op_mulW (pe_fld (pv 0) rfl) (pe_fld (pv 2) rfl)) pa_nil)))))))
theorem ok_Ratio___mul__ {P : Program} {w : World} {K : PySem.W.Frag} {mg : Str → Option Value} {base : Heap} {C_Ratio : Addr} {f : Addr} {fd : FuncData} (F : FunD K "__mul__" "Ratio.__mul__" (defArgs s_Ratio___mul__) (defBody s_Ratio___mul__) (defScope s_Ratio___mul__) [] [] f fd) (c_as_ratio : Cal P w K mg base CX0 4 "as_ratio" ["value"] (spAsR K C_Ratio)) (cm2_Ratio : CalM P w K mg base CX0 2 "Ratio" C_Ratio ["self", "numerator", "denominator"] (spRInit K C_Ratio) []) : FnOk P w K mg base CX0 5 f fd ["self", "other"] (spMul K C_Ratio) :=
  F.ok sc_Ratio___mul__ (fun vs H Q E h => by first | (obtain ⟨_, rfl, _⟩ := h; rfl) | (obtain ⟨_, _, rfl, _⟩ := h; rfl) | (obtain ⟨_, _, _, rfl, _⟩ := h; rfl) | (obtain ⟨_, _, _, _, rfl, _⟩ := h; rfl) | (obtain ⟨_, _, _, _, _, rfl, _⟩ := h; rfl) | (obtain ⟨_, _, _, _, _, _, rfl, _⟩ := h; rfl) | (obtain ⟨_, _, _, _, _, _, _, rfl, _⟩ := h; rfl) | (obtain ⟨_, _, _, _, _, _, _, _, rfl, _⟩ := h; rfl) | (obtain ⟨_, _, _, _, _, _, _, _, _, rfl, _⟩ := h; rfl)) (fun cdv A outer s H vs Q E hr h => ⟨_, d_Ratio___mul__ c_as_ratio cm2_Ratio hr, p_mul h⟩)
theorem sc_Ratio___gt__ : FnScope ["self", "other", "right"] ["self", "other"] (defScope s_Ratio___gt__) := ⟨rfl, rfl, rfl, by decide +kernel, rfl, by decide +kernel, by decide +kernel⟩
theorem d_Ratio___gt__ {P : Program} {w : World} {K : PySem.W.Frag} {mg : Str → Option Value} {base : Heap} {C_Ratio : Addr} {CX : CXT} {f : Addr} {cdv : Value} {A : Around} {outer : List Env} {s : Shared} {H : Hp} {E : XK} (c_as_ratio : Cal P w K mg base CX0 4 "as_ratio" ["value"] (spAsR K C_Ratio)) (c_gap : Cal P w K mg base CX0 1 "gap" ["left", "right"] (spGap K C_Ratio))
    (hr : Room 4 (A.deeper (envOfC "Ratio.__gt__" (defScope s_Ratio___gt__) s.heap.objs.size f cdv))) :
    PSs (cxOf CX P w K mg base ["self", "other", "right"] "Ratio.__gt__" (defScope s_Ratio___gt__) f cdv A outer s H E) (defBody s_Ratio___gt__) (t_Ratio___gt__ K C_Ratio) :=
  (pss_cons (ps_set (i := 2) sc_Ratio___gt__.nd rfl (by first | exact Or.inl rfl | exact Or.inr rfl) (pe_cal c_as_ratio (hr.mono (by decide)) rfl pass0 (pa_cons (pv 1) pa_nil)))
    (pss_cons (ps_if (pt_cmpR op_isN (pv 2) pe_non (nomark _)) (pss_one ps_never) pss_nil)
    (pss_one (ps_ret (pe_cmpR op_gt (pe_cal c_gap (hr.mono (by decide)) rfl pass0 (pa_cons (pv 0) (pa_cons (pv 2) pa_nil))) pe_int (nomark _))))))
theorem ok_Ratio___gt__ {P : Program} {w : World} {K : PySem.W.Frag} {mg : Str → Option Value} {base : Heap} {C_Ratio : Addr} {f : Addr} {fd : FuncData} (F : FunD K "__gt__" "Ratio.__gt__" (defArgs s_Ratio___gt__) (defBody s_Ratio___gt__) (defScope s_Ratio___gt__) [] [] f fd) (c_as_ratio : Cal P w K mg base CX0 4 "as_ratio" ["value"] (spAsR K C_Ratio)) (c_gap : Cal P w K mg base CX0 1 "gap" ["left", "right"] (spGap K C_Ratio)) : FnOk P w K mg base CX0 5 f fd ["self", "other"] (spGt K C_Ratio) :=
  F.ok sc_Ratio___gt__ (fun vs H Q E h => by first | (obtain ⟨_, rfl, _⟩ := h; rfl) | (obtain ⟨_, _, rfl, _⟩ := h; rfl) | (obtain ⟨_, _, _, rfl, _⟩ := h; rfl) | (obtain ⟨_, _, _, _, rfl, _⟩ := h; rfl) | (obtain ⟨_, _, _, _, _, rfl, _⟩ := h; rfl) | (obtain ⟨_, _, _, _, _, _, rfl, _⟩ := h; rfl) | (obtain ⟨_, _, _, _, _, _, _, rfl, _⟩ := h; rfl) | (obtain ⟨_, _, _, _, _, _, _, _, rfl, _⟩ := h; rfl) | (obtain ⟨_, _, _, _, _, _, _, _, _, rfl, _⟩ := h; rfl)) (fun cdv A outer s H vs Q E hr h => ⟨_, d_Ratio___gt__ c_as_ratio c_gap hr, p_gt h⟩)
theorem sc_Ratio___le__ : FnScope ["self", "other", "right"] ["self", "other"] (defScope s_Ratio___le__) := ⟨rfl, rfl, rfl, by decide +kernel, rfl, by decide +kernel, by decide +kernel⟩
theorem d_Ratio___le__ {P : Program} {w : World} {K : PySem.W.Frag} {mg : Str → Option Value} {base : Heap} {C_Ratio : Addr} {CX : CXT} {f : Addr} {cdv : Value} {A : Around} {outer : List Env} {s : Shared} {H : Hp} {E : XK} (c_as_ratio : Cal P w K mg base CX0 4 "as_ratio" ["value"] (spAsR K C_Ratio)) (c_gap : Cal P w K mg base CX0 1 "gap" ["left", "right"] (spGap K C_Ratio))
    (hr : Room 4 (A.deeper (envOfC "Ratio.__le__" (defScope s_Ratio___le__) s.heap.objs.size f cdv))) :
    PSs (cxOf CX P w K mg base ["self", "other", "right"] "Ratio.__le__" (defScope s_Ratio___le__) f cdv A outer s H E) (defBody s_Ratio___le__) (t_Ratio___le__ K C_Ratio) :=
  (pss_cons (ps_set (i := 2) sc_Ratio___le__.nd rfl (by first | exact Or.inl rfl | exact Or.inr rfl) (pe_cal c_as_ratio (hr.mono (by decide)) rfl pass0 (pa_cons (pv 1) pa_nil)))
    (pss_cons (ps_if (pt_cmpR op_isN (pv 2) pe_non (nomark _)) (pss_one ps_never) pss_nil)
    (pss_one (ps_ret (pe_cmpR op_le (pe_cal c_gap (hr.mono (by decide)) rfl pass0 (pa_cons (pv 0) (pa_cons (pv 2) pa_nil))) pe_int (nomark _))))))
theorem ok_Ratio___le__ {P : Program} {w : World} {K : PySem.W.Frag} {mg : Str → Option Value} {base : Heap} {C_Ratio : Addr} {f : Addr} {fd : FuncData} (F : FunD K "__le__" "Ratio.__le__" (defArgs s_Ratio___le__) (defBody s_Ratio___le__) (defScope s_Ratio___le__) [] [] f fd) (c_as_ratio : Cal P w K mg base CX0 4 "as_ratio" ["value"] (spAsR K C_Ratio)) (c_gap : Cal P w K mg base CX0 1 "gap" ["left", "right"] (spGap K C_Ratio)) : FnOk P w K mg base CX0 5 f fd ["self", "other"] (spLe K C_Ratio) :=
  F.ok sc_Ratio___le__ (fun vs H Q E h => by first | (obtain ⟨_, rfl, _⟩ := h; rfl) | (obtain ⟨_, _, rfl, _⟩ := h; rfl) | (obtain ⟨_, _, _, rfl, _⟩ := h; rfl) | (obtain ⟨_, _, _, _, rfl, _⟩ := h; rfl) | (obtain ⟨_, _, _, _, _, rfl, _⟩ := h; rfl) | (obtain ⟨_, _, _, _, _, _, rfl, _⟩ := h; rfl) | (obtain ⟨_, _, _, _, _, _, _, rfl, _⟩ := h; rfl) | (obtain ⟨_, _, _, _, _, _, _, _, rfl, _⟩ := h; rfl) | (obtain ⟨_, _, _, _, _, _, _, _, _, rfl, _⟩ := h; rfl)) (fun cdv A outer s H vs Q E hr h => ⟨_, d_Ratio___le__ c_as_ratio c_gap hr, p_le h⟩)
theorem sc_Ratio___ge__ : FnScope ["self", "other", "right"] ["self", "other"] (defScope s_Ratio___ge__) := ⟨rfl, rfl, rfl, by decide +kernel, rfl, by decide +kernel, by decide +kernel⟩
theorem d_Ratio___ge__ {P : Program} {w : World} {K : PySem.W.Frag} {mg : Str → Option Value} {base : Heap} {C_Ratio : Addr} {CX : CXT} {f : Addr} {cdv : Value} {A : Around} {outer : List Env} {s : Shared} {H : Hp} {E : XK} (c_as_ratio : Cal P w K mg base CX0 4 "as_ratio" ["value"] (spAsR K C_Ratio)) (c_gap : Cal P w K mg base CX0 1 "gap" ["left", "right"] (spGap K C_Ratio))
    (hr : Room 4 (A.deeper (envOfC "Ratio.__ge__" (defScope s_Ratio___ge__) s.heap.objs.size f cdv))) :
    PSs (cxOf CX P w K mg base ["self", "other", "right"] "Ratio.__ge__" (defScope s_Ratio___ge__) f cdv A outer s H E) (defBody s_Ratio___ge__) (t_Ratio___ge__ K C_Ratio) :=
  (pss_cons (ps_set (i := 2) sc_Ratio___ge__.nd rfl (by first | exact Or.inl rfl | exact Or.inr rfl) (pe_cal c_as_ratio (hr.mono (by decide)) rfl pass0 (pa_cons (pv 1) pa_nil)))
    (pss_cons (ps_if (pt_cmpR op_isN (pv 2) pe_non (nomark _)) (pss_one ps_never) pss_nil)
    (pss_one (ps_ret (pe_cmpR op_ge (pe_cal c_gap (hr.mono (by decide)) rfl pass0 (pa_cons (pv 0) (pa_cons (pv 2) pa_nil))) pe_int (nomark _))))))
theorem ok_Ratio___ge__ {P : Program} {w : World} {K : PySem.W.Frag} {mg : Str → Option Value} {base : Heap} {C_Ratio : Addr} {f : Addr} {fd : FuncData} (F : FunD K "__ge__" "Ratio.__ge__" (defArgs s_Ratio___ge__) (defBody s_Ratio___ge__) (defScope s_Ratio___ge__) [] [] f fd) (c_as_ratio : Cal P w K mg base CX0 4 "as_ratio" ["value"] (spAsR K C_Ratio)) (c_gap : Cal P w K mg base CX0 1 "gap" ["left", "right"] (spGap K C_Ratio)) : FnOk P w K mg base CX0 5 f fd ["self", "other"] (spGe K C_Ratio) :=
  F.ok sc_Ratio___ge__ (fun vs H Q E h => by first | (obtain ⟨_, rfl, _⟩ := h; rfl) | (obtain ⟨_, _, rfl, _⟩ := h; rfl) | (obtain ⟨_, _, _, rfl, _⟩ := h; rfl) | (obtain ⟨_, _, _, _, rfl, _⟩ := h; rfl) | (obtain ⟨_, _, _, _, _, rfl, _⟩ := h; rfl) | (obtain ⟨_, _, _, _, _, _, rfl, _⟩ := h; rfl) | (obtain ⟨_, _, _, _, _, _, _, rfl, _⟩ := h; rfl) | (obtain ⟨_, _, _, _, _, _, _, _, rfl, _⟩ := h; rfl) | (obtain ⟨_, _, _, _, _, _, _, _, _, rfl, _⟩ := h; rfl)) (fun cdv A outer s H vs Q E hr h => ⟨_, d_Ratio___ge__ c_as_ratio c_gap hr, p_ge h⟩)
theorem sc_Ratio_over : FnScope ["self", "other", "right"] ["self", "other"] (defScope s_Ratio_over) := ⟨rfl, rfl, rfl, by decide +kernel, rfl, by decide +kernel, by decide +kernel⟩
theorem d_Ratio_over {P : Program} {w : World} {K : PySem.W.Frag} {mg : Str → Option Value} {base : Heap} {C_Ratio : Addr} {CX : CXT} {f : Addr} {cdv : Value} {A : Around} {outer : List Env} {s : Shared} {H : Hp} {E : XK} (c_as_ratio : Cal P w K mg base CX0 4 "as_ratio" ["value"] (spAsR K C_Ratio)) (cm2_Ratio : CalM P w K mg base CX0 2 "Ratio" C_Ratio ["self", "numerator", "denominator"] (spRInit K C_Ratio) [])
    (hr : Room 4 (A.deeper (envOfC "Ratio.over" (defScope s_Ratio_over) s.heap.objs.size f cdv))) :
    PSs (cxOf CX P w K mg base ["self", "other", "right"] "Ratio.over" (defScope s_Ratio_over) f cdv A outer s H E) (defBody s_Ratio_over) (t_Ratio_over K C_Ratio) :=
  (pss_cons (ps_set (i := 2) sc_Ratio_over.nd rfl (by first | exact Or.inl rfl | exact Or.inr rfl) (pe_cal c_as_ratio (hr.mono (by decide)) rfl pass0 (pa_cons (pv 1) pa_nil)))
    (pss_cons (ps_if (PW.pt (pw_or (pt_cmpR op_isN (pv 2) pe_non (nomark _)) (pw_or1 (pt_cmpR op_eq (pe_fld (pv 2) rfl) pe_int (nomark _))))) (pss_one ps_never) pss_nil)
    (pss_one (ps_ret (pe_calm cm2_Ratio (hr.mono (by decide)) rfl pass0 (pa_cons (pe_op op_mulW (pe_fld (pv 0) rfl) (pe_fld (pv 2) rfl)) (pa_cons (pe_op op_mulW (pe_fld (pv 0) rfl) (pe_fld (pv 2) rfl)) pa_nil)))))))
theorem ok_Ratio_over {P : Program} {w : World} {K : PySem.W.Frag} {mg : Str → Option Value} {base : Heap} {C_Ratio : Addr} {f : Addr} {fd : FuncData} (F : FunD K "over" "Ratio.over" (defArgs s_Ratio_over) (defBody s_Ratio_over) (defScope s_Ratio_over) [] [] f fd) (c_as_ratio : Cal P w K mg base CX0 4 "as_ratio" ["value"] (spAsR K C_Ratio)) (cm2_Ratio : CalM P w K mg base CX0 2 "Ratio" C_Ratio ["self", "numerator", "denominator"] (spRInit K C_Ratio) []) : FnOk P w K mg base CX0 5 f fd ["self", "other"] (spOver K C_Ratio) :=
  F.ok sc_Ratio_over (fun vs H Q E h => by first | (obtain ⟨_, rfl, _⟩ := h; rfl) | (obtain ⟨_, _, rfl, _⟩ := h; rfl) | (obtain ⟨_, _, _, rfl, _⟩ := h; rfl) | (obtain ⟨_, _, _, _, rfl, _⟩ := h; rfl) | (obtain ⟨_, _, _, _, _, rfl, _⟩ := h; rfl) | (obtain ⟨_, _, _, _, _, _, rfl, _⟩ := h; rfl) | (obtain ⟨_, _, _, _, _, _, _, rfl, _⟩ := h; rfl) | (obtain ⟨_, _, _, _, _, _, _, _, rfl, _⟩ := h; rfl) | (obtain ⟨_, _, _, _, _, _, _, _, _, rfl, _⟩ := h; rfl)) (fun cdv A outer s H vs Q E hr h => ⟨_, d_Ratio_over c_as_ratio cm2_Ratio hr, p_over h⟩)
theorem sc_checked_number : FnScope ["value", "found"] ["value"] (defScope s_checked_number) := ⟨rfl, rfl, rfl, by decide +kernel, rfl, by decide +kernel, by decide +kernel⟩
theorem d_checked_number {P : Program} {w : World} {K : PySem.W.Frag} {mg : Str → Option Value} {base : Heap} {C_Ratio : Addr} {CX : CXT} {f : Addr} {cdv : Value} {A : Around} {outer : List Env} {s : Shared} {H : Hp} {E : XK} (c_as_ratio : Cal P w K mg base CX0 4 "as_ratio" ["value"] (spAsR K C_Ratio))
    (hr : Room 4 (A.deeper (envOfC "checked_number" (defScope s_checked_number) s.heap.objs.size f cdv))) :
    PSs (cxOf CX P w K mg base ["value", "found"] "checked_number" (defScope s_checked_number) f cdv A outer s H E) (defBody s_checked_number) (t_checked_number K C_Ratio) :=
  (pss_cons (ps_set (i := 1) sc_checked_number.nd rfl (by first | exact Or.inl rfl | exact Or.inr rfl) (pe_cal c_as_ratio (hr.mono (by decide)) rfl pass0 (pa_cons (pv 0) pa_nil)))
    (pss_cons (ps_if (pt_cmpR op_isN (pv 1) pe_non (nomark _)) (pss_one ps_never) pss_nil)
    (pss_one (ps_ret (pv 1)))))
theorem ok_checked_number {P : Program} {w : World} {K : PySem.W.Frag} {mg : Str → Option Value} {base : Heap} {C_Ratio : Addr} {f : Addr} {fd : FuncData} (F : FunD K "checked_number" "checked_number" (defArgs s_checked_number) (defBody s_checked_number) (defScope s_checked_number) [] [] f fd) (c_as_ratio : Cal P w K mg base CX0 4 "as_ratio" ["value"] (spAsR K C_Ratio)) : FnOk P w K mg base CX0 5 f fd ["value"] (spChkN K C_Ratio) :=
  F.ok sc_checked_number (fun vs H Q E h => by first | (obtain ⟨_, rfl, _⟩ := h; rfl) | (obtain ⟨_, _, rfl, _⟩ := h; rfl) | (obtain ⟨_, _, _, rfl, _⟩ := h; rfl) | (obtain ⟨_, _, _, _, rfl, _⟩ := h; rfl) | (obtain ⟨_, _, _, _, _, rfl, _⟩ := h; rfl) | (obtain ⟨_, _, _, _, _, _, rfl, _⟩ := h; rfl) | (obtain ⟨_, _, _, _, _, _, _, rfl, _⟩ := h; rfl) | (obtain ⟨_, _, _, _, _, _, _, _, rfl, _⟩ := h; rfl) | (obtain ⟨_, _, _, _, _, _, _, _, _, rfl, _⟩ := h; rfl)) (fun cdv A outer s H vs Q E hr h => ⟨_, d_checked_number c_as_ratio hr, p_chkN h⟩)
theorem sc_is_amount : FnScope ["value", "found"] ["value"] (defScope s_is_amount) := ⟨rfl, rfl, rfl, by decide +kernel, rfl, by decide +kernel, by decide +kernel⟩
theorem d_is_amount {P : Program} {w : World} {K : PySem.W.Frag} {mg : Str → Option Value} {base : Heap} {C_Ratio : Addr} {CX : CXT} {f : Addr} {cdv : Value} {A : Around} {outer : List Env} {s : Shared} {H : Hp} {E : XK} (c_as_ratio : Cal P w K mg base CX0 4 "as_ratio" ["value"] (spAsR K C_Ratio)) (co_ge : CalO P w K mg base CX0 5 C_Ratio "__ge__" (spGe K C_Ratio)) (oc_R : OpC K C_Ratio)
    (hr : Room 5 (A.deeper (envOfC "is_amount" (defScope s_is_amount) s.heap.objs.size f cdv))) :
    PSs (cxOf CX P w K mg base ["value", "found"] "is_amount" (defScope s_is_amount) f cdv A outer s H E) (defBody s_is_amount) (t_is_amount K C_Ratio) :=
  (pss_cons (ps_set (i := 1) sc_is_amount.nd rfl (by first | exact Or.inl rfl | exact Or.inr rfl) (pe_cal c_as_ratio (hr.mono (by decide)) rfl pass0 (pa_cons (pv 0) pa_nil)))
    (pss_one (ps_ret (pe_and (pe_cmpR op_notN (pv 1) pe_non (nomark _)) (pe_one (pe_cmpR (op_ownC (fun _ _ => rfl) co_ge oc_R (hr.mono (by decide)) pass0) (pv 1) pe_int (nomark _)))))))
theorem ok_is_amount {P : Program} {w : World} {K : PySem.W.Frag} {mg : Str → Option Value} {base : Heap} {C_Ratio : Addr} {f : Addr} {fd : FuncData} (F : FunD K "is_amount" "is_amount" (defArgs s_is_amount) (defBody s_is_amount) (defScope s_is_amount) [] [] f fd) (c_as_ratio : Cal P w K mg base CX0 4 "as_ratio" ["value"] (spAsR K C_Ratio)) (co_ge : CalO P w K mg base CX0 5 C_Ratio "__ge__" (spGe K C_Ratio)) (oc_R : OpC K C_Ratio) : FnOk P w K mg base CX0 6 f fd ["value"] (spIsAm K C_Ratio) :=
  F.ok sc_is_amount (fun vs H Q E h => by first | (obtain ⟨_, rfl, _⟩ := h; rfl) | (obtain ⟨_, _, rfl, _⟩ := h; rfl) | (obtain ⟨_, _, _, rfl, _⟩ := h; rfl) | (obtain ⟨_, _, _, _, rfl, _⟩ := h; rfl) | (obtain ⟨_, _, _, _, _, rfl, _⟩ := h; rfl) | (obtain ⟨_, _, _, _, _, _, rfl, _⟩ := h; rfl) | (obtain ⟨_, _, _, _, _, _, _, rfl, _⟩ := h; rfl) | (obtain ⟨_, _, _, _, _, _, _, _, rfl, _⟩ := h; rfl) | (obtain ⟨_, _, _, _, _, _, _, _, _, rfl, _⟩ := h; rfl)) (fun cdv A outer s H vs Q E hr h => ⟨_, d_is_amount c_as_ratio co_ge oc_R hr, p_isAm h⟩)
theorem sc_checked_amount : FnScope ["value"] ["value"] (defScope s_checked_amount) := ⟨rfl, rfl, rfl, by decide +kernel, rfl, by decide +kernel, by decide +kernel⟩
theorem d_checked_amount {P : Program} {w : World} {K : PySem.W.Frag} {mg : Str → Option Value} {base : Heap} {C_Ratio : Addr} {CX : CXT} {f : Addr} {cdv : Value} {A : Around} {outer : List Env} {s : Shared} {H : Hp} {E : XK} (c_is_amount : Cal P w K mg base CX0 6 "is_amount" ["value"] (spIsAm K C_Ratio)) (c_checked_number : Cal P w K mg base CX0 5 "checked_number" ["value"] (spChkN K C_Ratio))
    (hr : Room 6 (A.deeper (envOfC "checked_amount" (defScope s_checked_amount) s.heap.objs.size f cdv))) :
    PSs (cxOf CX P w K mg base ["value"] "checked_amount" (defScope s_checked_amount) f cdv A outer s H E) (defBody s_checked_amount) (t_checked_amount K C_Ratio) :=
  (pss_cons (ps_if (pt_not (pt_val (pe_cal c_is_amount (hr.mono (by decide)) rfl pass0 (pa_cons (pv 0) pa_nil)))) (pss_one ps_never) pss_nil)
    (pss_one (ps_ret (pe_cal c_checked_number (hr.mono (by decide)) rfl pass0 (pa_cons (pv 0) pa_nil)))))
theorem ok_checked_amount {P : Program} {w : World} {K : PySem.W.Frag} {mg : Str → Option Value} {base : Heap} {C_Ratio : Addr} {f : Addr} {fd : FuncData} (F : FunD K "checked_amount" "checked_amount" (defArgs s_checked_amount) (defBody s_checked_amount) (defScope s_checked_amount) [] [] f fd) (c_is_amount : Cal P w K mg base CX0 6 "is_amount" ["value"] (spIsAm K C_Ratio)) (c_checked_number : Cal P w K mg base CX0 5 "checked_number" ["value"] (spChkN K C_Ratio)) : FnOk P w K mg base CX0 7 f fd ["value"] (spChkA K C_Ratio) :=
  F.ok sc_checked_amount (fun vs H Q E h => by first | (obtain ⟨_, rfl, _⟩ := h; rfl) | (obtain ⟨_, _, rfl, _⟩ := h; rfl) | (obtain ⟨_, _, _, rfl, _⟩ := h; rfl) | (obtain ⟨_, _, _, _, rfl, _⟩ := h; rfl) | (obtain ⟨_, _, _, _, _, rfl, _⟩ := h; rfl) | (obtain ⟨_, _, _, _, _, _, rfl, _⟩ := h; rfl) | (obtain ⟨_, _, _, _, _, _, _, rfl, _⟩ := h; rfl) | (obtain ⟨_, _, _, _, _, _, _, _, rfl, _⟩ := h; rfl) | (obtain ⟨_, _, _, _, _, _, _, _, _, rfl, _⟩ := h; rfl)) (fun cdv A outer s H vs Q E hr h => ⟨_, d_checked_amount c_is_amount c_checked_number hr, p_chkA h⟩)
theorem sc_is_column : FnScope ["profile", "value"] ["profile", "value"] (defScope s_is_column) := ⟨rfl, rfl, rfl, by decide +kernel, rfl, by decide +kernel, by decide +kernel⟩
theorem d_is_column {P : Program} {w : World} {K : PySem.W.Frag} {mg : Str → Option Value} {base : Heap} {C_Profile : Addr} {CX : CXT} {f : Addr} {cdv : Value} {A : Around} {outer : List Env} {s : Shared} {H : Hp} {E : XK} (m_len : mg "len" = none) (cu_len : CalU P w K mg base CX0 1 C_Profile "__len__" (spPLen K C_Profile)) (c_is_whole_within : Cal P w K mg base CX0 2 "is_whole_within" ["value", "least", "greatest"] (spWithin K))
    (hr : Room 2 (A.deeper (envOfC "is_column" (defScope s_is_column) s.heap.objs.size f cdv))) :
    PSs (cxOf CX P w K mg base ["profile", "value"] "is_column" (defScope s_is_column) f cdv A outer s H E) (defBody s_is_column) (t_is_column K C_Profile) :=
  (pss_one (ps_ret (pe_cal c_is_whole_within (hr.mono (by decide)) rfl pass0 (pa_cons (pv 1) (pa_cons pe_int (pa_cons (pe_op op_sub (pe_callB (call_lenO cu_len (hr.mono (by decide)) pass0) (by rfl) m_len (by decide +kernel) (pa_cons (pv 0) pa_nil)) pe_int) pa_nil))))))
theorem ok_is_column {P : Program} {w : World} {K : PySem.W.Frag} {mg : Str → Option Value} {base : Heap} {C_Profile : Addr} {f : Addr} {fd : FuncData} (F : FunD K "is_column" "is_column" (defArgs s_is_column) (defBody s_is_column) (defScope s_is_column) [] [] f fd) (m_len : mg "len" = none) (cu_len : CalU P w K mg base CX0 1 C_Profile "__len__" (spPLen K C_Profile)) (c_is_whole_within : Cal P w K mg base CX0 2 "is_whole_within" ["value", "least", "greatest"] (spWithin K)) : FnOk P w K mg base CX0 3 f fd ["profile", "value"] (spIsCol K C_Profile) :=
  F.ok sc_is_column (fun vs H Q E h => by first | (obtain ⟨_, rfl, _⟩ := h; rfl) | (obtain ⟨_, _, rfl, _⟩ := h; rfl) | (obtain ⟨_, _, _, rfl, _⟩ := h; rfl) | (obtain ⟨_, _, _, _, rfl, _⟩ := h; rfl) | (obtain ⟨_, _, _, _, _, rfl, _⟩ := h; rfl) | (obtain ⟨_, _, _, _, _, _, rfl, _⟩ := h; rfl) | (obtain ⟨_, _, _, _, _, _, _, rfl, _⟩ := h; rfl) | (obtain ⟨_, _, _, _, _, _, _, _, rfl, _⟩ := h; rfl) | (obtain ⟨_, _, _, _, _, _, _, _, _, rfl, _⟩ := h; rfl)) (fun cdv A outer s H vs Q E hr h => ⟨_, d_is_column m_len cu_len c_is_whole_within hr, p_isCol h⟩)
theorem sc_check_column : FnScope ["profile", "value"] ["profile", "value"] (defScope s_check_column) := ⟨rfl, rfl, rfl, by decide +kernel, rfl, by decide +kernel, by decide +kernel⟩
theorem d_check_column {P : Program} {w : World} {K : PySem.W.Frag} {mg : Str → Option Value} {base : Heap} {C_Profile : Addr} {CX : CXT} {f : Addr} {cdv : Value} {A : Around} {outer : List Env} {s : Shared} {H : Hp} {E : XK} (c_is_column : Cal P w K mg base CX0 3 "is_column" ["profile", "value"] (spIsCol K C_Profile))
    (hr : Room 3 (A.deeper (envOfC "check_column" (defScope s_check_column) s.heap.objs.size f cdv))) :
    PSs (cxOf CX P w K mg base ["profile", "value"] "check_column" (defScope s_check_column) f cdv A outer s H E) (defBody s_check_column) (t_check_column K C_Profile) :=
  (pss_one (ps_if (pt_not (pt_val (pe_cal c_is_column (hr.mono (by decide)) rfl pass0 (pa_cons (pv 0) (pa_cons (pv 1) pa_nil))))) (pss_one ps_never) pss_nil))
theorem ok_check_column {P : Program} {w : World} {K : PySem.W.Frag} {mg : Str → Option Value} {base : Heap} {C_Profile : Addr} {f : Addr} {fd : FuncData} (F : FunD K "check_column" "check_column" (defArgs s_check_column) (defBody s_check_column) (defScope s_check_column) [] [] f fd) (c_is_column : Cal P w K mg base CX0 3 "is_column" ["profile", "value"] (spIsCol K C_Profile)) : FnOk P w K mg base CX0 4 f fd ["profile", "value"] (spChkCol K C_Profile) :=
  F.ok sc_check_column (fun vs H Q E h => by first | (obtain ⟨_, rfl, _⟩ := h; rfl) | (obtain ⟨_, _, rfl, _⟩ := h; rfl) | (obtain ⟨_, _, _, rfl, _⟩ := h; rfl) | (obtain ⟨_, _, _, _, rfl, _⟩ := h; rfl) | (obtain ⟨_, _, _, _, _, rfl, _⟩ := h; rfl) | (obtain ⟨_, _, _, _, _, _, rfl, _⟩ := h; rfl) | (obtain ⟨_, _, _, _, _, _, _, rfl, _⟩ := h; rfl) | (obtain ⟨_, _, _, _, _, _, _, _, rfl, _⟩ := h; rfl) | (obtain ⟨_, _, _, _, _, _, _, _, _, rfl, _⟩ := h; rfl)) (fun cdv A outer s H vs Q E hr h => ⟨_, d_check_column c_is_column hr, p_chkCol h⟩)
theorem sc_check_run : FnScope ["profile", "first", "last"] ["profile", "first", "last"] (defScope s_check_run) := ⟨rfl, rfl, rfl, by decide +kernel, rfl, by decide +kernel, by decide +kernel⟩
theorem d_check_run {P : Program} {w : World} {K : PySem.W.Frag} {mg : Str → Option Value} {base : Heap} {C_Profile : Addr} {CX : CXT} {f : Addr} {cdv : Value} {A : Around} {outer : List Env} {s : Shared} {H : Hp} {E : XK} (c_check_column : Cal P w K mg base CX0 4 "check_column" ["profile", "value"] (spChkCol K C_Profile)) (m_len : mg "len" = none) (cu_len : CalU P w K mg base CX0 1 C_Profile "__len__" (spPLen K C_Profile)) (c_is_whole_within : Cal P w K mg base CX0 2 "is_whole_within" ["value", "least", "greatest"] (spWithin K))
    (hr : Room 4 (A.deeper (envOfC "check_run" (defScope s_check_run) s.heap.objs.size f cdv))) :
    PSs (cxOf CX P w K mg base ["profile", "first", "last"] "check_run" (defScope s_check_run) f cdv A outer s H E) (defBody s_check_run) (t_check_run K C_Profile) :=
  (pss_cons (ps_expr (pe_cal c_check_column (hr.mono (by decide)) rfl pass0 (pa_cons (pv 0) (pa_cons (pv 1) pa_nil))))
    (pss_one (ps_if (pt_not (pt_val (pe_cal c_is_whole_within (hr.mono (by decide)) rfl pass0 (pa_cons (pv 2) (pa_cons (pv 1) (pa_cons (pe_op op_sub (pe_callB (call_lenO cu_len (hr.mono (by decide)) pass0) (by rfl) m_len (by decide +kernel) (pa_cons (pv 0) pa_nil)) pe_int) pa_nil)))))) (pss_one ps_never) pss_nil)))
theorem ok_check_run {P : Program} {w : World} {K : PySem.W.Frag} {mg : Str → Option Value} {base : Heap} {C_Profile : Addr} {f : Addr} {fd : FuncData} (F : FunD K "check_run" "check_run" (defArgs s_check_run) (defBody s_check_run) (defScope s_check_run) [] [] f fd) (c_check_column : Cal P w K mg base CX0 4 "check_column" ["profile", "value"] (spChkCol K C_Profile)) (m_len : mg "len" = none) (cu_len : CalU P w K mg base CX0 1 C_Profile "__len__" (spPLen K C_Profile)) (c_is_whole_within : Cal P w K mg base CX0 2 "is_whole_within" ["value", "least", "greatest"] (spWithin K)) : FnOk P w K mg base CX0 5 f fd ["profile", "first", "last"] (spChkRun K C_Profile) :=
  F.ok sc_check_run (fun vs H Q E h => by first | (obtain ⟨_, rfl, _⟩ := h; rfl) | (obtain ⟨_, _, rfl, _⟩ := h; rfl) | (obtain ⟨_, _, _, rfl, _⟩ := h; rfl) | (obtain ⟨_, _, _, _, rfl, _⟩ := h; rfl) | (obtain ⟨_, _, _, _, _, rfl, _⟩ := h; rfl) | (obtain ⟨_, _, _, _, _, _, rfl, _⟩ := h; rfl) | (obtain ⟨_, _, _, _, _, _, _, rfl, _⟩ := h; rfl) | (obtain ⟨_, _, _, _, _, _, _, _, rfl, _⟩ := h; rfl) | (obtain ⟨_, _, _, _, _, _, _, _, _, rfl, _⟩ := h; rfl)) (fun cdv A outer s H vs Q E hr h => ⟨_, d_check_run c_check_column m_len cu_len c_is_whole_within hr, p_chkRun h⟩)
theorem sc_volume_below : FnScope ["profile", "first", "last", "level", "heights", "widths", "wet", "wide", "ground", "column"] ["profile", "first", "last", "level"] (defScope s_volume_below) := ⟨rfl, rfl, rfl, by decide +kernel, rfl, by decide +kernel, by decide +kernel⟩
theorem d_volume_below {P : Program} {w : World} {K : PySem.W.Frag} {mg : Str → Option Value} {base : Heap} {C_Profile : Addr} {C_Ratio : Addr} {CX : CXT} {f : Addr} {cdv : Value} {A : Around} {outer : List Env} {s : Shared} {H : Hp} {E : XK} (cp_heights : CalP P w K mg base CX0 1 C_Profile "heights" (getSp C_Profile "column_heights")) (cp_widths : CalP P w K mg base CX0 1 C_Profile "widths" (getSp C_Profile "column_widths")) (m_range : mg "range" = none) (co_gt : CalO P w K mg base CX0 5 C_Ratio "__gt__" (spGt K C_Ratio)) (oc_R : OpC K C_Ratio) (m_sum : mg "sum" = none) (co_mul : CalO P w K mg base CX0 5 C_Ratio "__mul__" (spMul K C_Ratio)) (on_mul : OpN K C_Ratio "mul") (co_sub : CalO P w K mg base CX0 5 C_Ratio "__sub__" (spSub K C_Ratio)) (on_sub : OpN K C_Ratio "sub")
    (hr : Room 5 (A.deeper (envOfC "volume_below" (defScope s_volume_below) s.heap.objs.size f cdv))) :
    PSs (cxOf CX P w K mg base ["profile", "first", "last", "level", "heights", "widths", "wet", "wide", "ground", "column"] "volume_below" (defScope s_volume_below) f cdv A outer s H E) (defBody s_volume_below) (t_volume_below K C_Profile C_Ratio) :=
  (pss_cons (ps_set (i := 4) sc_volume_below.nd rfl (by first | exact Or.inl rfl | exact Or.inr rfl) (pe_calp cp_heights (hr.mono (by decide)) pass0 (pv 0) rfl))
    (pss_cons (ps_set (i := 5) sc_volume_below.nd rfl (by first | exact Or.inl rfl | exact Or.inr rfl) (pe_calp cp_widths (hr.mono (by decide)) pass0 (pv 0) rfl))
    (pss_cons (ps_setLc (i := 6) (own := [("column", 9)]) (g := (gName 9)) (tt := (tTest (tOp (rOwn C_Ratio (spGt K C_Ratio) E0) (tVar 3) (tOp (rIxT K) (tVar 4) (tVar 9))))) (te := (tVar 9)) rfl sc_volume_below.nd rfl rfl (sw_true rfl rfl rfl (by decide +kernel)) (pi_range2 rfl m_range (pa_cons (pv 1) (pa_cons (pe_op op_add (pv 2) pe_int) pa_nil))) (blkOk_by (N := ["profile", "first", "last", "level", "heights", "widths", "wet", "wide", "ground", "column"]) (sc := defScope s_volume_below) (by decide +kernel)) (fun _ _ _ _ _ => (pg_name (i := 9) sc_volume_below.nd rfl (by first | exact Or.inl rfl | exact Or.inr rfl))) (fun _ _ _ _ _ => (pts_one (pt_cmpR (op_ownC (fun _ _ => rfl) co_gt oc_R (hr.mono (by decide)) pass0) (pv 3) (pe_ix ix_tup (pv 4) (pv 9) (fun _ _ => rfl)) (nomark _)))) (fun _ _ _ _ _ => (pv 9)))
    (pss_cons (ps_set (i := 7) sc_volume_below.nd rfl (by first | exact Or.inl rfl | exact Or.inr rfl) (pe_callB (cr_sum rfl) (by rfl) m_sum (by decide +kernel) (pa_cons (pe_lc (own := [("column", 9)]) (g := (gName 9)) (tt := tYes) (te := (tOp (rIxT K) (tVar 5) (tVar 9))) rfl sc_volume_below.nd (pi_list (pv 6)) (blkOk_by (N := ["profile", "first", "last", "level", "heights", "widths", "wet", "wide", "ground", "column"]) (sc := defScope s_volume_below) (by decide +kernel)) (fun _ _ _ _ _ => (pg_name (i := 9) sc_volume_below.nd rfl (by first | exact Or.inl rfl | exact Or.inr rfl))) (fun _ _ _ _ _ => pts_nil) (fun _ _ _ _ _ => (pe_ix ix_tup (pv 5) (pv 9) (fun _ _ => rfl)))) pa_nil)))
    (pss_cons (ps_set (i := 8) sc_volume_below.nd rfl (by first | exact Or.inl rfl | exact Or.inr rfl) (pe_callB (cr_sum rfl) (by rfl) m_sum (by decide +kernel) (pa_cons (pe_lc (own := [("column", 9)]) (g := (gName 9)) (tt := tYes) (te := (tOp oMulW (tOp (rIxT K) (tVar 5) (tVar 9)) (tOp (rIxT K) (tVar 4) (tVar 9)))) rfl sc_volume_below.nd (pi_list (pv 6)) (blkOk_by (N := ["profile", "first", "last", "level", "heights", "widths", "wet", "wide", "ground", "column"]) (sc := defScope s_volume_below) (by decide +kernel)) (fun _ _ _ _ _ => (pg_name (i := 9) sc_volume_below.nd rfl (by first | exact Or.inl rfl | exact Or.inr rfl))) (fun _ _ _ _ _ => pts_nil) (fun _ _ _ _ _ => (pe_op op_mulW (pe_ix ix_tup (pv 5) (pv 9) (fun _ _ => rfl)) (pe_ix ix_tup (pv 4) (pv 9) (fun _ _ => rfl))))) pa_nil)))
    (pss_one (ps_ret (pe_op (op_ownSub co_sub oc_R on_sub (hr.mono (by decide)) pass0) (pe_op (op_ownMul co_mul oc_R on_mul (hr.mono (by decide)) pass0) (pv 3) (pv 7)) (pv 8)))))))))
theorem ok_volume_below {P : Program} {w : World} {K : PySem.W.Frag} {mg : Str → Option Value} {base : Heap} {C_Profile : Addr} {C_Ratio : Addr} {f : Addr} {fd : FuncData} (F : FunD K "volume_below" "volume_below" (defArgs s_volume_below) (defBody s_volume_below) (defScope s_volume_below) [] [] f fd) (cp_heights : CalP P w K mg base CX0 1 C_Profile "heights" (getSp C_Profile "column_heights")) (cp_widths : CalP P w K mg base CX0 1 C_Profile "widths" (getSp C_Profile "column_widths")) (m_range : mg "range" = none) (co_gt : CalO P w K mg base CX0 5 C_Ratio "__gt__" (spGt K C_Ratio)) (oc_R : OpC K C_Ratio) (m_sum : mg "sum" = none) (co_mul : CalO P w K mg base CX0 5 C_Ratio "__mul__" (spMul K C_Ratio)) (on_mul : OpN K C_Ratio "mul") (co_sub : CalO P w K mg base CX0 5 C_Ratio "__sub__" (spSub K C_Ratio)) (on_sub : OpN K C_Ratio "sub") : FnOk P w K mg base CX0 6 f fd ["profile", "first", "last", "level"] (spVolB K C_Profile C_Ratio) :=
  F.ok sc_volume_below (fun vs H Q E h => by first | (obtain ⟨_, rfl, _⟩ := h; rfl) | (obtain ⟨_, _, rfl, _⟩ := h; rfl) | (obtain ⟨_, _, _, rfl, _⟩ := h; rfl) | (obtain ⟨_, _, _, _, rfl, _⟩ := h; rfl) | (obtain ⟨_, _, _, _, _, rfl, _⟩ := h; rfl) | (obtain ⟨_, _, _, _, _, _, rfl, _⟩ := h; rfl) | (obtain ⟨_, _, _, _, _, _, _, rfl, _⟩ := h; rfl) | (obtain ⟨_, _, _, _, _, _, _, _, rfl, _⟩ := h; rfl) | (obtain ⟨_, _, _, _, _, _, _, _, _, rfl, _⟩ := h; rfl)) (fun cdv A outer s H vs Q E hr h => ⟨_, d_volume_below cp_heights cp_widths m_range co_gt oc_R m_sum co_mul on_mul co_sub on_sub hr, p_volB h⟩)
theorem sc_volume_up_to : FnScope ["profile", "first", "last", "level"] ["profile", "first", "last", "level"] (defScope s_volume_up_to) := ⟨rfl, rfl, rfl, by decide +kernel, rfl, by decide +kernel, by decide +kernel⟩
theorem d_volume_up_to {P : Program} {w : World} {K : PySem.W.Frag} {mg : Str → Option Value} {base : Heap} {C_Profile : Addr} {C_Ratio : Addr} {CX : CXT} {f : Addr} {cdv : Value} {A : Around} {outer : List Env} {s : Shared} {H : Hp} {E : XK} (c_check_run : Cal P w K mg base CX0 5 "check_run" ["profile", "first", "last"] (spChkRun K C_Profile)) (c_checked_number : Cal P w K mg base CX0 5 "checked_number" ["value"] (spChkN K C_Ratio)) (c_volume_below : Cal P w K mg base CX0 6 "volume_below" ["profile", "first", "last", "level"] (spVolB K C_Profile C_Ratio))
    (hr : Room 6 (A.deeper (envOfC "volume_up_to" (defScope s_volume_up_to) s.heap.objs.size f cdv))) :
    PSs (cxOf CX P w K mg base ["profile", "first", "last", "level"] "volume_up_to" (defScope s_volume_up_to) f cdv A outer s H E) (defBody s_volume_up_to) (t_volume_up_to K C_Profile C_Ratio) :=
  (pss_cons (ps_expr (pe_cal c_check_run (hr.mono (by decide)) rfl pass0 (pa_cons (pv 0) (pa_cons (pv 1) (pa_cons (pv 2) pa_nil)))))
    (pss_one (ps_ret (pe_cal c_volume_below (hr.mono (by decide)) rfl pass0 (pa_cons (pv 0) (pa_cons (pv 1) (pa_cons (pv 2) (pa_cons (pe_cal c_checked_number (hr.mono (by decide)) rfl pass0 (pa_cons (pv 3) pa_nil)) pa_nil))))))))
theorem ok_volume_up_to {P : Program} {w : World} {K : PySem.W.Frag} {mg : Str → Option Value} {base : Heap} {C_Profile : Addr} {C_Ratio : Addr} {f : Addr} {fd : FuncData} (F : FunD K "volume_up_to" "volume_up_to" (defArgs s_volume_up_to) (defBody s_volume_up_to) (defScope s_volume_up_to) [] [] f fd) (c_check_run : Cal P w K mg base CX0 5 "check_run" ["profile", "first", "last"] (spChkRun K C_Profile)) (c_checked_number : Cal P w K mg base CX0 5 "checked_number" ["value"] (spChkN K C_Ratio)) (c_volume_below : Cal P w K mg base CX0 6 "volume_below" ["profile", "first", "last", "level"] (spVolB K C_Profile C_Ratio)) : FnOk P w K mg base CX0 7 f fd ["profile", "first", "last", "level"] (spVolU K C_Profile C_Ratio) :=
  F.ok sc_volume_up_to (fun vs H Q E h => by first | (obtain ⟨_, rfl, _⟩ := h; rfl) | (obtain ⟨_, _, rfl, _⟩ := h; rfl) | (obtain ⟨_, _, _, rfl, _⟩ := h; rfl) | (obtain ⟨_, _, _, _, rfl, _⟩ := h; rfl) | (obtain ⟨_, _, _, _, _, rfl, _⟩ := h; rfl) | (obtain ⟨_, _, _, _, _, _, rfl, _⟩ := h; rfl) | (obtain ⟨_, _, _, _, _, _, _, rfl, _⟩ := h; rfl) | (obtain ⟨_, _, _, _, _, _, _, _, rfl, _⟩ := h; rfl) | (obtain ⟨_, _, _, _, _, _, _, _, _, rfl, _⟩ := h; rfl)) (fun cdv A outer s H vs Q E hr h => ⟨_, d_volume_up_to c_check_run c_checked_number c_volume_below hr, p_volU h⟩)
theorem sc_level_above : FnScope ["profile", "first", "last", "volume", "heights", "widths", "steps", "wide", "held", "at", "step", "layer", "height", "width"] ["profile", "first", "last", "volume"] (defScope s_level_above) := ⟨rfl, rfl, rfl, by decide +kernel, rfl, by decide +kernel, by decide +kernel⟩
theorem d_level_above {P : Program} {w : World} {K : PySem.W.Frag} {mg : Str → Option Value} {base : Heap} {C_Profile : Addr} {C_Ratio : Addr} {CX : CXT} {f : Addr} {cdv : Value} {A : Around} {outer : List Env} {s : Shared} {H : Hp} {E : XK} (cp_heights : CalP P w K mg base CX0 1 C_Profile "heights" (getSp C_Profile "column_heights")) (cp_widths : CalP P w K mg base CX0 1 C_Profile "widths" (getSp C_Profile "column_widths")) (m_int : mg "int" = none) (m_sorted : mg "sorted" = none) (m_set : mg "set" = none) (m_enumerate : mg "enumerate" = none) (m_zip : mg "zip" = none) (m_sum : mg "sum" = none) (m_len : mg "len" = none) (co_le : CalO P w K mg base CX0 5 C_Ratio "__le__" (spLe K C_Ratio)) (oc_R : OpC K C_Ratio) (co_sub : CalO P w K mg base CX0 5 C_Ratio "__sub__" (spSub K C_Ratio)) (on_sub : OpN K C_Ratio "sub") (ct_over : CalT P w K mg base CX0 5 C_Ratio "over" ["self", "other"] (spOver K C_Ratio)) (co_add : CalO P w K mg base CX0 5 C_Ratio "__add__" (spAdd K C_Ratio)) (on_add : OpN K C_Ratio "add")
    (hr : Room 5 (A.deeper (envOfC "level_above" (defScope s_level_above) s.heap.objs.size f cdv))) :
    PSs (cxOf CX P w K mg base ["profile", "first", "last", "volume", "heights", "widths", "steps", "wide", "held", "at", "step", "layer", "height", "width"] "level_above" (defScope s_level_above) f cdv A outer s H E) (defBody s_level_above) (t_level_above K C_Profile C_Ratio) :=
  (pss_cons (ps_set (i := 4) sc_level_above.nd rfl (by first | exact Or.inl rfl | exact Or.inr rfl) (pe_slice sl_tupA (pe_calp cp_heights (hr.mono (by decide)) pass0 (pv 0) rfl) (po_some (pv 1)) (po_some (pe_op op_add (pv 2) pe_int))))
    (pss_cons (ps_set (i := 5) sc_level_above.nd rfl (by first | exact Or.inl rfl | exact Or.inr rfl) (pe_slice sl_tupA (pe_calp cp_widths (hr.mono (by decide)) pass0 (pv 0) rfl) (po_some (pv 1)) (po_some (pe_op op_add (pv 2) pe_int))))
    (pss_cons (ps_set (i := 6) sc_level_above.nd rfl (by first | exact Or.inl rfl | exact Or.inr rfl) (pe_sortSet (by rfl) (by rfl) m_sorted (by rfl) m_set (pe_lc (own := [("height", 12)]) (g := (gName 12)) (tt := tYes) (te := (tCB cInt (tCons (tVar 12) tNil))) rfl sc_level_above.nd (pi_tup (pv 4)) (blkOk_by (N := ["profile", "first", "last", "volume", "heights", "widths", "steps", "wide", "held", "at", "step", "layer", "height", "width"]) (sc := defScope s_level_above) (by decide +kernel)) (fun _ _ _ _ _ => (pg_name (i := 12) sc_level_above.nd rfl (by first | exact Or.inl rfl | exact Or.inr rfl))) (fun _ _ _ _ _ => pts_nil) (fun _ _ _ _ _ => (pe_callTy call_int1 (by rfl) m_int (by decide +kernel) (pa_cons (pv 12) pa_nil))))))
    (pss_cons (ps_set (i := 7) sc_level_above.nd rfl (by first | exact Or.inl rfl | exact Or.inr rfl) pe_int)
    (pss_cons (ps_set (i := 8) sc_level_above.nd rfl (by first | exact Or.inl rfl | exact Or.inr rfl) pe_int)
    (pss_cons (ps_for (passes_of rfl) rfl (pi_enum (by rfl) m_enumerate (pa_cons (pv 6) pa_nil)) (pg_tup (by rfl) (pgs_cons (pg_name (i := 9) sc_level_above.nd rfl (by first | exact Or.inl rfl | exact Or.inr rfl)) (pgs_cons (pg_name (i := 10) sc_level_above.nd rfl (by first | exact Or.inl rfl | exact Or.inr rfl)) pgs_nil))) (pss_cons (ps_set (i := 7) sc_level_above.nd rfl (by first | exact Or.inl rfl | exact Or.inr rfl) (pe_op op_add (pv 7) (pe_callB (cr_sum rfl) (by rfl) m_sum (by decide +kernel) (pa_cons (pe_lc (own := [("height", 12), ("width", 13)]) (g := (gTup K 2 (gCons (gName 12) (gCons (gName 13) gNil)))) (tt := (tTest (tOp rEq (tVar 12) (tVar 10)))) (te := (tVar 13)) rfl sc_level_above.nd (RZ.pi_zipA (by rfl) m_zip (pa_cons (pv 4) (pa_cons (pv 5) pa_nil))) (blkOk_by (N := ["profile", "first", "last", "volume", "heights", "widths", "steps", "wide", "held", "at", "step", "layer", "height", "width"]) (sc := defScope s_level_above) (by decide +kernel)) (fun _ _ _ _ _ => (pg_tup (by rfl) (pgs_cons (pg_name (i := 12) sc_level_above.nd rfl (by first | exact Or.inl rfl | exact Or.inr rfl)) (pgs_cons (pg_name (i := 13) sc_level_above.nd rfl (by first | exact Or.inl rfl | exact Or.inr rfl)) pgs_nil)))) (fun _ _ _ _ _ => (pts_one (pt_cmpR op_eq (pv 12) (pv 10) (nomark _)))) (fun _ _ _ _ _ => (pv 13))) pa_nil))))
    (pss_cons (ps_if (pt_cmpR op_eq (pe_op op_add (pv 9) pe_int) (pe_callB call_len_seq (by rfl) m_len (by decide +kernel) (pa_cons (pv 6) pa_nil)) (nomark _)) (pss_one ps_break) pss_nil)
    (pss_cons (ps_set (i := 11) sc_level_above.nd rfl (by first | exact Or.inl rfl | exact Or.inr rfl) (pe_op op_mulW (pv 7) (pe_op op_sub (pe_ix ix_list (pv 6) (pe_op op_add (pv 9) pe_int) (fun _ _ => rfl)) (pv 10))))
    (pss_cons (ps_if (pt_cmpR (op_ownC (fun _ _ => rfl) co_le oc_R (hr.mono (by decide)) pass0) (pv 3) (pe_op op_add (pv 8) (pv 11)) (nomark _)) (pss_one ps_break) pss_nil)
    (pss_one (ps_set (i := 8) sc_level_above.nd rfl (by first | exact Or.inl rfl | exact Or.inr rfl) (pe_op op_add (pv 8) (pv 11)))))))))
    (pss_one (ps_ret (pe_op (op_ownAdd co_add oc_R on_add (hr.mono (by decide)) pass0) (pe_calt ct_over (hr.mono (by decide)) pass0 (pe_op (op_ownSub co_sub oc_R on_sub (hr.mono (by decide)) pass0) (pv 3) (pv 8)) (pa_cons (pv 7) pa_nil)) (pv 10))))))))))
theorem ok_level_above {P : Program} {w : World} {K : PySem.W.Frag} {mg : Str → Option Value} {base : Heap} {C_Profile : Addr} {C_Ratio : Addr} {f : Addr} {fd : FuncData} (F : FunD K "level_above" "level_above" (defArgs s_level_above) (defBody s_level_above) (defScope s_level_above) [] [] f fd) (cp_heights : CalP P w K mg base CX0 1 C_Profile "heights" (getSp C_Profile "column_heights")) (cp_widths : CalP P w K mg base CX0 1 C_Profile "widths" (getSp C_Profile "column_widths")) (m_int : mg "int" = none) (m_sorted : mg "sorted" = none) (m_set : mg "set" = none) (m_enumerate : mg "enumerate" = none) (m_zip : mg "zip" = none) (m_sum : mg "sum" = none) (m_len : mg "len" = none) (co_le : CalO P w K mg base CX0 5 C_Ratio "__le__" (spLe K C_Ratio)) (oc_R : OpC K C_Ratio) (co_sub : CalO P w K mg base CX0 5 C_Ratio "__sub__" (spSub K C_Ratio)) (on_sub : OpN K C_Ratio "sub") (ct_over : CalT P w K mg base CX0 5 C_Ratio "over" ["self", "other"] (spOver K C_Ratio)) (co_add : CalO P w K mg base CX0 5 C_Ratio "__add__" (spAdd K C_Ratio)) (on_add : OpN K C_Ratio "add") : FnOk P w K mg base CX0 6 f fd ["profile", "first", "last", "volume"] (spLvA K C_Profile C_Ratio) :=
  F.ok sc_level_above (fun vs H Q E h => by first | (obtain ⟨_, rfl, _⟩ := h; rfl) | (obtain ⟨_, _, rfl, _⟩ := h; rfl) | (obtain ⟨_, _, _, rfl, _⟩ := h; rfl) | (obtain ⟨_, _, _, _, rfl, _⟩ := h; rfl) | (obtain ⟨_, _, _, _, _, rfl, _⟩ := h; rfl) | (obtain ⟨_, _, _, _, _, _, rfl, _⟩ := h; rfl) | (obtain ⟨_, _, _, _, _, _, _, rfl, _⟩ := h; rfl) | (obtain ⟨_, _, _, _, _, _, _, _, rfl, _⟩ := h; rfl) | (obtain ⟨_, _, _, _, _, _, _, _, _, rfl, _⟩ := h; rfl)) (fun cdv A outer s H vs Q E hr h => ⟨_, d_level_above cp_heights cp_widths m_int m_sorted m_set m_enumerate m_zip m_sum m_len co_le oc_R co_sub on_sub ct_over co_add on_add hr, p_lvA h⟩)
theorem sc_level_for : FnScope ["profile", "first", "last", "volume"] ["profile", "first", "last", "volume"] (defScope s_level_for) := ⟨rfl, rfl, rfl, by decide +kernel, rfl, by decide +kernel, by decide +kernel⟩
theorem d_level_for {P : Program} {w : World} {K : PySem.W.Frag} {mg : Str → Option Value} {base : Heap} {C_Profile : Addr} {C_Ratio : Addr} {CX : CXT} {f : Addr} {cdv : Value} {A : Around} {outer : List Env} {s : Shared} {H : Hp} {E : XK} (c_check_run : Cal P w K mg base CX0 5 "check_run" ["profile", "first", "last"] (spChkRun K C_Profile)) (c_checked_amount : Cal P w K mg base CX0 7 "checked_amount" ["value"] (spChkA K C_Ratio)) (c_level_above : Cal P w K mg base CX0 6 "level_above" ["profile", "first", "last", "volume"] (spLvA K C_Profile C_Ratio))
    (hr : Room 7 (A.deeper (envOfC "level_for" (defScope s_level_for) s.heap.objs.size f cdv))) :
    PSs (cxOf CX P w K mg base ["profile", "first", "last", "volume"] "level_for" (defScope s_level_for) f cdv A outer s H E) (defBody s_level_for) (t_level_for K C_Profile C_Ratio) :=
  (pss_cons (ps_expr (pe_cal c_check_run (hr.mono (by decide)) rfl pass0 (pa_cons (pv 0) (pa_cons (pv 1) (pa_cons (pv 2) pa_nil)))))
    (pss_one (ps_ret (pe_cal c_level_above (hr.mono (by decide)) rfl pass0 (pa_cons (pv 0) (pa_cons (pv 1) (pa_cons (pv 2) (pa_cons (pe_cal c_checked_amount (hr.mono (by decide)) rfl pass0 (pa_cons (pv 3) pa_nil)) pa_nil))))))))
theorem ok_level_for {P : Program} {w : World} {K : PySem.W.Frag} {mg : Str → Option Value} {base : Heap} {C_Profile : Addr} {C_Ratio : Addr} {f : Addr} {fd : FuncData} (F : FunD K "level_for" "level_for" (defArgs s_level_for) (defBody s_level_for) (defScope s_level_for) [] [] f fd) (c_check_run : Cal P w K mg base CX0 5 "check_run" ["profile", "first", "last"] (spChkRun K C_Profile)) (c_checked_amount : Cal P w K mg base CX0 7 "checked_amount" ["value"] (spChkA K C_Ratio)) (c_level_above : Cal P w K mg base CX0 6 "level_above" ["profile", "first", "last", "volume"] (spLvA K C_Profile C_Ratio)) : FnOk P w K mg base CX0 8 f fd ["profile", "first", "last", "volume"] (spLvF K C_Profile C_Ratio) :=
  F.ok sc_level_for (fun vs H Q E h => by first | (obtain ⟨_, rfl, _⟩ := h; rfl) | (obtain ⟨_, _, rfl, _⟩ := h; rfl) | (obtain ⟨_, _, _, rfl, _⟩ := h; rfl) | (obtain ⟨_, _, _, _, rfl, _⟩ := h; rfl) | (obtain ⟨_, _, _, _, _, rfl, _⟩ := h; rfl) | (obtain ⟨_, _, _, _, _, _, rfl, _⟩ := h; rfl) | (obtain ⟨_, _, _, _, _, _, _, rfl, _⟩ := h; rfl) | (obtain ⟨_, _, _, _, _, _, _, _, rfl, _⟩ := h; rfl) | (obtain ⟨_, _, _, _, _, _, _, _, _, rfl, _⟩ := h; rfl)) (fun cdv A outer s H vs Q E hr h => ⟨_, d_level_for c_check_run c_checked_amount c_level_above hr, p_lvF h⟩)
theorem sc_stretches : FnScope ["heights", "runs", "first", "column"] ["heights"] (defScope s_stretches) := ⟨rfl, rfl, rfl, by decide +kernel, rfl, by decide +kernel, by decide +kernel⟩
theorem d_stretches {P : Program} {w : World} {K : PySem.W.Frag} {mg : Str → Option Value} {base : Heap} {CX : CXT} {f : Addr} {cdv : Value} {A : Around} {outer : List Env} {s : Shared} {H : Hp} {E : XK} (m_len : mg "len" = none) (m_range : mg "range" = none)
    (hr : Room 0 (A.deeper (envOfC "stretches" (defScope s_stretches) s.heap.objs.size f cdv))) :
    PSs (cxOf CX P w K mg base ["heights", "runs", "first", "column"] "stretches" (defScope s_stretches) f cdv A outer s H E) (defBody s_stretches) (t_stretches K) :=
  (pss_cons (ps_set (i := 1) sc_stretches.nd rfl (by first | exact Or.inl rfl | exact Or.inr rfl) (pe_lst pa_nil))
    (pss_cons (ps_set (i := 2) sc_stretches.nd rfl (by first | exact Or.inl rfl | exact Or.inr rfl) pe_int)
    (pss_cons (ps_for (passes_of rfl) rfl (pi_range1 rfl m_range (pa_cons (pe_callB call_len_seq (by rfl) m_len (by decide +kernel) (pa_cons (pv 0) pa_nil)) pa_nil)) (pg_name (i := 3) sc_stretches.nd rfl (by first | exact Or.inl rfl | exact Or.inr rfl)) (pss_one (ps_if (PW.pt (pw_or (pt_cmpR op_eq (pe_op op_add (pv 3) pe_int) (pe_callB call_len_seq (by rfl) m_len (by decide +kernel) (pa_cons (pv 0) pa_nil)) (nomark _)) (pw_or1 (pt_cmpR op_ne (pe_ix ix_tup (pv 0) (pe_op op_add (pv 3) pe_int) (fun _ _ => rfl)) (pe_ix ix_tup (pv 0) (pv 3) (fun _ _ => rfl)) (nomark _))))) (pss_cons (ps_expr (pe_bm PySem.F.plainAttrs_list PySem.F.slot_list_append PySem.F.type_list_append mt_append (pv 1) (pa_cons (pe_tup (pa_cons (pv 2) (pa_cons (pv 3) pa_nil))) pa_nil)))
    (pss_one (ps_set (i := 2) sc_stretches.nd rfl (by first | exact Or.inl rfl | exact Or.inr rfl) (pe_op op_add (pv 3) pe_int)))) pss_nil)))
    (pss_one (ps_ret (pv 1))))))
theorem ok_stretches {P : Program} {w : World} {K : PySem.W.Frag} {mg : Str → Option Value} {base : Heap} {f : Addr} {fd : FuncData} (F : FunD K "stretches" "stretches" (defArgs s_stretches) (defBody s_stretches) (defScope s_stretches) [] [] f fd) (m_len : mg "len" = none) (m_range : mg "range" = none) : FnOk P w K mg base CX0 1 f fd ["heights"] (spStretches K) :=
  F.ok sc_stretches (fun vs H Q E h => by first | (obtain ⟨_, rfl, _⟩ := h; rfl) | (obtain ⟨_, _, rfl, _⟩ := h; rfl) | (obtain ⟨_, _, _, rfl, _⟩ := h; rfl) | (obtain ⟨_, _, _, _, rfl, _⟩ := h; rfl) | (obtain ⟨_, _, _, _, _, rfl, _⟩ := h; rfl) | (obtain ⟨_, _, _, _, _, _, rfl, _⟩ := h; rfl) | (obtain ⟨_, _, _, _, _, _, _, rfl, _⟩ := h; rfl) | (obtain ⟨_, _, _, _, _, _, _, _, rfl, _⟩ := h; rfl) | (obtain ⟨_, _, _, _, _, _, _, _, _, rfl, _⟩ := h; rfl)) (fun cdv A outer s H vs Q E hr h => ⟨_, d_stretches m_len m_range hr, p_stretches h⟩)
theorem sc_is_peak : FnScope ["heights", "first", "last", "left_is_lower", "right_is_lower"] ["heights", "first", "last"] (defScope s_is_peak) := ⟨rfl, rfl, rfl, by decide +kernel, rfl, by decide +kernel, by decide +kernel⟩
theorem d_is_peak {P : Program} {w : World} {K : PySem.W.Frag} {mg : Str → Option Value} {base : Heap} {CX : CXT} {f : Addr} {cdv : Value} {A : Around} {outer : List Env} {s : Shared} {H : Hp} {E : XK} (m_len : mg "len" = none)
    (hr : Room 0 (A.deeper (envOfC "is_peak" (defScope s_is_peak) s.heap.objs.size f cdv))) :
    PSs (cxOf CX P w K mg base ["heights", "first", "last", "left_is_lower", "right_is_lower"] "is_peak" (defScope s_is_peak) f cdv A outer s H E) (defBody s_is_peak) (t_is_peak K) :=
  (pss_cons (ps_set (i := 3) sc_is_peak.nd rfl (by first | exact Or.inl rfl | exact Or.inr rfl) (pe_or (pe_cmpR op_eq (pv 1) pe_int (nomark _)) (pe_one (pe_cmpR op_lt (pe_ix ix_tup (pv 0) (pe_op op_sub (pv 1) pe_int) (fun _ _ => rfl)) (pe_ix ix_tup (pv 0) (pv 1) (fun _ _ => rfl)) (nomark _)))))
    (pss_cons (ps_set (i := 4) sc_is_peak.nd rfl (by first | exact Or.inl rfl | exact Or.inr rfl) (pe_or (pe_cmpR op_eq (pe_op op_add (pv 2) pe_int) (pe_callB call_len_seq (by rfl) m_len (by decide +kernel) (pa_cons (pv 0) pa_nil)) (nomark _)) (pe_one (pe_cmpR op_lt (pe_ix ix_tup (pv 0) (pe_op op_add (pv 2) pe_int) (fun _ _ => rfl)) (pe_ix ix_tup (pv 0) (pv 2) (fun _ _ => rfl)) (nomark _)))))
    (pss_one (ps_ret (pe_and (pv 3) (pe_one (pv 4)))))))
theorem ok_is_peak {P : Program} {w : World} {K : PySem.W.Frag} {mg : Str → Option Value} {base : Heap} {f : Addr} {fd : FuncData} (F : FunD K "is_peak" "is_peak" (defArgs s_is_peak) (defBody s_is_peak) (defScope s_is_peak) [] [] f fd) (m_len : mg "len" = none) : FnOk P w K mg base CX0 1 f fd ["heights", "first", "last"] (spIsPeak K) :=
  F.ok sc_is_peak (fun vs H Q E h => by first | (obtain ⟨_, rfl, _⟩ := h; rfl) | (obtain ⟨_, _, rfl, _⟩ := h; rfl) | (obtain ⟨_, _, _, rfl, _⟩ := h; rfl) | (obtain ⟨_, _, _, _, rfl, _⟩ := h; rfl) | (obtain ⟨_, _, _, _, _, rfl, _⟩ := h; rfl) | (obtain ⟨_, _, _, _, _, _, rfl, _⟩ := h; rfl) | (obtain ⟨_, _, _, _, _, _, _, rfl, _⟩ := h; rfl) | (obtain ⟨_, _, _, _, _, _, _, _, rfl, _⟩ := h; rfl) | (obtain ⟨_, _, _, _, _, _, _, _, _, rfl, _⟩ := h; rfl)) (fun cdv A outer s H vs Q E hr h => ⟨_, d_is_peak m_len hr, p_isPeak h⟩)
theorem sc_peaks : FnScope ["profile", "heights", "first", "last"] ["profile"] (defScope s_peaks) := ⟨rfl, rfl, rfl, by decide +kernel, rfl, by decide +kernel, by decide +kernel⟩
theorem d_peaks {P : Program} {w : World} {K : PySem.W.Frag} {mg : Str → Option Value} {base : Heap} {C_Profile : Addr} {CX : CXT} {f : Addr} {cdv : Value} {A : Around} {outer : List Env} {s : Shared} {H : Hp} {E : XK} (cp_heights : CalP P w K mg base CX0 1 C_Profile "heights" (getSp C_Profile "column_heights")) (c_stretches : Cal P w K mg base CX0 1 "stretches" ["heights"] (spStretches K)) (c_is_peak : Cal P w K mg base CX0 1 "is_peak" ["heights", "first", "last"] (spIsPeak K))
    (hr : Room 2 (A.deeper (envOfC "peaks" (defScope s_peaks) s.heap.objs.size f cdv))) :
    PSs (cxOf CX P w K mg base ["profile", "heights", "first", "last"] "peaks" (defScope s_peaks) f cdv A outer s H E) (defBody s_peaks) (t_peaks K C_Profile) :=
  (pss_cons (ps_set (i := 1) sc_peaks.nd rfl (by first | exact Or.inl rfl | exact Or.inr rfl) (pe_calp cp_heights (hr.mono (by decide)) pass0 (pv 0) rfl))
    (pss_one (ps_ret (pe_lc (own := [("first", 2), ("last", 3)]) (g := (gTup K 2 (gCons (gName 2) (gCons (gName 3) gNil)))) (tt := (tB (tCall (spIsPeak K) [] E0 (tCons (tVar 1) (tCons (tVar 2) (tCons (tVar 3) tNil)))))) (te := (tTup (tCons (tVar 2) (tCons (tVar 3) tNil)))) rfl sc_peaks.nd (pi_list (pe_cal c_stretches (hr.mono (by decide)) rfl pass0 (pa_cons (pv 1) pa_nil))) (blkOk_by (N := ["profile", "heights", "first", "last"]) (sc := defScope s_peaks) (by decide +kernel)) (fun _ _ _ _ _ => (pg_tup (by rfl) (pgs_cons (pg_name (i := 2) sc_peaks.nd rfl (by first | exact Or.inl rfl | exact Or.inr rfl)) (pgs_cons (pg_name (i := 3) sc_peaks.nd rfl (by first | exact Or.inl rfl | exact Or.inr rfl)) pgs_nil)))) (fun _ _ _ _ _ => (pts_one (pt_val (pe_cal c_is_peak (hr.mono (by decide)) rfl pass0 (pa_cons (pv 1) (pa_cons (pv 2) (pa_cons (pv 3) pa_nil))))))) (fun _ _ _ _ _ => (pe_tup (pa_cons (pv 2) (pa_cons (pv 3) pa_nil))))))))
theorem ok_peaks {P : Program} {w : World} {K : PySem.W.Frag} {mg : Str → Option Value} {base : Heap} {C_Profile : Addr} {f : Addr} {fd : FuncData} (F : FunD K "peaks" "peaks" (defArgs s_peaks) (defBody s_peaks) (defScope s_peaks) [] [] f fd) (cp_heights : CalP P w K mg base CX0 1 C_Profile "heights" (getSp C_Profile "column_heights")) (c_stretches : Cal P w K mg base CX0 1 "stretches" ["heights"] (spStretches K)) (c_is_peak : Cal P w K mg base CX0 1 "is_peak" ["heights", "first", "last"] (spIsPeak K)) : FnOk P w K mg base CX0 3 f fd ["profile"] (spPeaks K C_Profile) :=
  F.ok sc_peaks (fun vs H Q E h => by first | (obtain ⟨_, rfl, _⟩ := h; rfl) | (obtain ⟨_, _, rfl, _⟩ := h; rfl) | (obtain ⟨_, _, _, rfl, _⟩ := h; rfl) | (obtain ⟨_, _, _, _, rfl, _⟩ := h; rfl) | (obtain ⟨_, _, _, _, _, rfl, _⟩ := h; rfl) | (obtain ⟨_, _, _, _, _, _, rfl, _⟩ := h; rfl) | (obtain ⟨_, _, _, _, _, _, _, rfl, _⟩ := h; rfl) | (obtain ⟨_, _, _, _, _, _, _, _, rfl, _⟩ := h; rfl) | (obtain ⟨_, _, _, _, _, _, _, _, _, rfl, _⟩ := h; rfl)) (fun cdv A outer s H vs Q E hr h => ⟨_, d_peaks cp_heights c_stretches c_is_peak hr, p_peaks h⟩)
theorem sc_peak_heights : FnScope ["profile", "first", "last"] ["profile"] (defScope s_peak_heights) := ⟨rfl, rfl, rfl, by decide +kernel, rfl, by decide +kernel, by decide +kernel⟩
theorem d_peak_heights {P : Program} {w : World} {K : PySem.W.Frag} {mg : Str → Option Value} {base : Heap} {C_Profile : Addr} {CX : CXT} {f : Addr} {cdv : Value} {A : Around} {outer : List Env} {s : Shared} {H : Hp} {E : XK} (c_peaks : Cal P w K mg base CX0 3 "peaks" ["profile"] (spPeaks K C_Profile)) (cp_heights : CalP P w K mg base CX0 1 C_Profile "heights" (getSp C_Profile "column_heights"))
    (hr : Room 3 (A.deeper (envOfC "peak_heights" (defScope s_peak_heights) s.heap.objs.size f cdv))) :
    PSs (cxOf CX P w K mg base ["profile", "first", "last"] "peak_heights" (defScope s_peak_heights) f cdv A outer s H E) (defBody s_peak_heights) (t_peak_heights K C_Profile) :=
  (pss_one (ps_ret (pe_lc (own := [("first", 1), ("last", 2)]) (g := (gTup K 2 (gCons (gName 1) (gCons (gName 2) gNil)))) (tt := tYes) (te := (tOp (rIxT K) (tProp C_Profile (getSp C_Profile "column_heights") [] E0 (tVar 0)) (tVar 1))) rfl sc_peak_heights.nd (pi_list (pe_cal c_peaks (hr.mono (by decide)) rfl pass0 (pa_cons (pv 0) pa_nil))) (blkOk_by (N := ["profile", "first", "last"]) (sc := defScope s_peak_heights) (by decide +kernel)) (fun _ _ _ _ _ => (pg_tup (by rfl) (pgs_cons (pg_name (i := 1) sc_peak_heights.nd rfl (by first | exact Or.inl rfl | exact Or.inr rfl)) (pgs_cons (pg_name (i := 2) sc_peak_heights.nd rfl (by first | exact Or.inl rfl | exact Or.inr rfl)) pgs_nil)))) (fun _ _ _ _ _ => pts_nil) (fun _ _ _ _ _ => (pe_ix ix_tup (pe_calp cp_heights (hr.mono (by decide)) pass0 (pv 0) rfl) (pv 1) (fun _ _ => rfl))))))
theorem ok_peak_heights {P : Program} {w : World} {K : PySem.W.Frag} {mg : Str → Option Value} {base : Heap} {C_Profile : Addr} {f : Addr} {fd : FuncData} (F : FunD K "peak_heights" "peak_heights" (defArgs s_peak_heights) (defBody s_peak_heights) (defScope s_peak_heights) [] [] f fd) (c_peaks : Cal P w K mg base CX0 3 "peaks" ["profile"] (spPeaks K C_Profile)) (cp_heights : CalP P w K mg base CX0 1 C_Profile "heights" (getSp C_Profile "column_heights")) : FnOk P w K mg base CX0 4 f fd ["profile"] (spTops K C_Profile) :=
  F.ok sc_peak_heights (fun vs H Q E h => by first | (obtain ⟨_, rfl, _⟩ := h; rfl) | (obtain ⟨_, _, rfl, _⟩ := h; rfl) | (obtain ⟨_, _, _, rfl, _⟩ := h; rfl) | (obtain ⟨_, _, _, _, rfl, _⟩ := h; rfl) | (obtain ⟨_, _, _, _, _, rfl, _⟩ := h; rfl) | (obtain ⟨_, _, _, _, _, _, rfl, _⟩ := h; rfl) | (obtain ⟨_, _, _, _, _, _, _, rfl, _⟩ := h; rfl) | (obtain ⟨_, _, _, _, _, _, _, _, rfl, _⟩ := h; rfl) | (obtain ⟨_, _, _, _, _, _, _, _, _, rfl, _⟩ := h; rfl)) (fun cdv A outer s H vs Q E hr h => ⟨_, d_peak_heights c_peaks cp_heights hr, p_tops h⟩)
theorem sc_valleys : FnScope ["profile", "tops", "left", "right"] ["profile"] (defScope s_valleys) := ⟨rfl, rfl, rfl, by decide +kernel, rfl, by decide +kernel, by decide +kernel⟩
theorem d_valleys {P : Program} {w : World} {K : PySem.W.Frag} {mg : Str → Option Value} {base : Heap} {C_Profile : Addr} {CX : CXT} {f : Addr} {cdv : Value} {A : Around} {outer : List Env} {s : Shared} {H : Hp} {E : XK} (c_peaks : Cal P w K mg base CX0 3 "peaks" ["profile"] (spPeaks K C_Profile)) (m_zip : mg "zip" = none)
    (hr : Room 3 (A.deeper (envOfC "valleys" (defScope s_valleys) s.heap.objs.size f cdv))) :
    PSs (cxOf CX P w K mg base ["profile", "tops", "left", "right"] "valleys" (defScope s_valleys) f cdv A outer s H E) (defBody s_valleys) (t_valleys K C_Profile) :=
  (pss_cons (ps_set (i := 1) sc_valleys.nd rfl (by first | exact Or.inl rfl | exact Or.inr rfl) (pe_cal c_peaks (hr.mono (by decide)) rfl pass0 (pa_cons (pv 0) pa_nil)))
    (pss_one (ps_ret (pe_lc (own := [("left", 2), ("right", 3)]) (g := (gTup K 2 (gCons (gName 2) (gCons (gName 3) gNil)))) (tt := tYes) (te := (tTup (tCons (tOp oAdd (tOp (rIxT K) (tVar 2) (tC (.int 1))) (tC (.int 1))) (tCons (tOp oSub (tOp (rIxT K) (tVar 3) (tC (.int 0))) (tC (.int 1))) tNil)))) rfl sc_valleys.nd (pi_zip (by rfl) m_zip (pa_cons (pv 1) (pa_cons (pe_slice sl_list (pv 1) (po_some pe_int) po_none) pa_nil))) (blkOk_by (N := ["profile", "tops", "left", "right"]) (sc := defScope s_valleys) (by decide +kernel)) (fun _ _ _ _ _ => (pg_tup (by rfl) (pgs_cons (pg_name (i := 2) sc_valleys.nd rfl (by first | exact Or.inl rfl | exact Or.inr rfl)) (pgs_cons (pg_name (i := 3) sc_valleys.nd rfl (by first | exact Or.inl rfl | exact Or.inr rfl)) pgs_nil)))) (fun _ _ _ _ _ => pts_nil) (fun _ _ _ _ _ => (pe_tup (pa_cons (pe_op op_add (pe_ix ix_tup (pv 2) pe_int (fun _ _ => rfl)) pe_int) (pa_cons (pe_op op_sub (pe_ix ix_tup (pv 3) pe_int (fun _ _ => rfl)) pe_int) pa_nil))))))))
theorem ok_valleys {P : Program} {w : World} {K : PySem.W.Frag} {mg : Str → Option Value} {base : Heap} {C_Profile : Addr} {f : Addr} {fd : FuncData} (F : FunD K "valleys" "valleys" (defArgs s_valleys) (defBody s_valleys) (defScope s_valleys) [] [] f fd) (c_peaks : Cal P w K mg base CX0 3 "peaks" ["profile"] (spPeaks K C_Profile)) (m_zip : mg "zip" = none) : FnOk P w K mg base CX0 4 f fd ["profile"] (spValleys K C_Profile) :=
  F.ok sc_valleys (fun vs H Q E h => by first | (obtain ⟨_, rfl, _⟩ := h; rfl) | (obtain ⟨_, _, rfl, _⟩ := h; rfl) | (obtain ⟨_, _, _, rfl, _⟩ := h; rfl) | (obtain ⟨_, _, _, _, rfl, _⟩ := h; rfl) | (obtain ⟨_, _, _, _, _, rfl, _⟩ := h; rfl) | (obtain ⟨_, _, _, _, _, _, rfl, _⟩ := h; rfl) | (obtain ⟨_, _, _, _, _, _, _, rfl, _⟩ := h; rfl) | (obtain ⟨_, _, _, _, _, _, _, _, rfl, _⟩ := h; rfl) | (obtain ⟨_, _, _, _, _, _, _, _, _, rfl, _⟩ := h; rfl)) (fun cdv A outer s H vs Q E hr h => ⟨_, d_valleys c_peaks m_zip hr, p_valleys h⟩)
theorem sc_rims : FnScope ["profile", "valley", "tops"] ["profile", "valley"] (defScope s_rims) := ⟨rfl, rfl, rfl, by decide +kernel, rfl, by decide +kernel, by decide +kernel⟩
theorem d_rims {P : Program} {w : World} {K : PySem.W.Frag} {mg : Str → Option Value} {base : Heap} {C_Profile : Addr} {CX : CXT} {f : Addr} {cdv : Value} {A : Around} {outer : List Env} {s : Shared} {H : Hp} {E : XK} (c_peak_heights : Cal P w K mg base CX0 4 "peak_heights" ["profile"] (spTops K C_Profile)) (m_len : mg "len" = none) (c_is_whole_within : Cal P w K mg base CX0 2 "is_whole_within" ["value", "least", "greatest"] (spWithin K))
    (hr : Room 4 (A.deeper (envOfC "rims" (defScope s_rims) s.heap.objs.size f cdv))) :
    PSs (cxOf CX P w K mg base ["profile", "valley", "tops"] "rims" (defScope s_rims) f cdv A outer s H E) (defBody s_rims) (t_rims K C_Profile) :=
  (pss_cons (ps_set (i := 2) sc_rims.nd rfl (by first | exact Or.inl rfl | exact Or.inr rfl) (pe_cal c_peak_heights (hr.mono (by decide)) rfl pass0 (pa_cons (pv 0) pa_nil)))
    (pss_cons (ps_if (pt_not (pt_val (pe_cal c_is_whole_within (hr.mono (by decide)) rfl pass0 (pa_cons (pv 1) (pa_cons pe_int (pa_cons (pe_op op_sub (pe_callB call_len_seq (by rfl) m_len (by decide +kernel) (pa_cons (pv 2) pa_nil)) pe_int) pa_nil)))))) (pss_one ps_never) pss_nil)
    (pss_one (ps_ret (pe_tup (pa_cons (pe_ix ix_list (pv 2) (pv 1) (fun _ _ => rfl)) (pa_cons (pe_ix ix_list (pv 2) (pe_op op_add (pv 1) pe_int) (fun _ _ => rfl)) pa_nil)))))))
theorem ok_rims {P : Program} {w : World} {K : PySem.W.Frag} {mg : Str → Option Value} {base : Heap} {C_Profile : Addr} {f : Addr} {fd : FuncData} (F : FunD K "rims" "rims" (defArgs s_rims) (defBody s_rims) (defScope s_rims) [] [] f fd) (c_peak_heights : Cal P w K mg base CX0 4 "peak_heights" ["profile"] (spTops K C_Profile)) (m_len : mg "len" = none) (c_is_whole_within : Cal P w K mg base CX0 2 "is_whole_within" ["value", "least", "greatest"] (spWithin K)) : FnOk P w K mg base CX0 5 f fd ["profile", "valley"] (spRims K C_Profile) :=
  F.ok sc_rims (fun vs H Q E h => by first | (obtain ⟨_, rfl, _⟩ := h; rfl) | (obtain ⟨_, _, rfl, _⟩ := h; rfl) | (obtain ⟨_, _, _, rfl, _⟩ := h; rfl) | (obtain ⟨_, _, _, _, rfl, _⟩ := h; rfl) | (obtain ⟨_, _, _, _, _, rfl, _⟩ := h; rfl) | (obtain ⟨_, _, _, _, _, _, rfl, _⟩ := h; rfl) | (obtain ⟨_, _, _, _, _, _, _, rfl, _⟩ := h; rfl) | (obtain ⟨_, _, _, _, _, _, _, _, rfl, _⟩ := h; rfl) | (obtain ⟨_, _, _, _, _, _, _, _, _, rfl, _⟩ := h; rfl)) (fun cdv A outer s H vs Q E hr h => ⟨_, d_rims c_peak_heights m_len c_is_whole_within hr, p_rims h⟩)
theorem sc_bounds : FnScope ["tops", "peak", "height"] ["tops", "peak", "height"] (defScope s_bounds) := ⟨rfl, rfl, rfl, by decide +kernel, rfl, by decide +kernel, by decide +kernel⟩
theorem d_bounds {P : Program} {w : World} {K : PySem.W.Frag} {mg : Str → Option Value} {base : Heap} {CX : CXT} {f : Addr} {cdv : Value} {A : Around} {outer : List Env} {s : Shared} {H : Hp} {E : XK} (m_len : mg "len" = none)
    (hr : Room 0 (A.deeper (envOfC "bounds" (defScope s_bounds) s.heap.objs.size f cdv))) :
    PSs (cxOf CX P w K mg base ["tops", "peak", "height"] "bounds" (defScope s_bounds) f cdv A outer s H E) (defBody s_bounds) (t_bounds K) :=
  (pss_cons (ps_if (PW.pt (pw_or (pt_cmpR op_eq (pv 1) pe_int (nomark _)) (pw_or1 (pt_cmpR op_eq (pv 1) (pe_op op_sub (pe_callB call_len_seq (by rfl) m_len (by decide +kernel) (pa_cons (pv 0) pa_nil)) pe_int) (nomark _))))) (pss_one (ps_ret (pe_cmpR op_ge (pe_ix ix_list (pv 0) (pv 1) (fun _ _ => rfl)) (pv 2) (nomark _)))) pss_nil)
    (pss_one (ps_ret (pe_cmpR op_gt (pe_ix ix_list (pv 0) (pv 1) (fun _ _ => rfl)) (pv 2) (nomark _)))))
theorem ok_bounds {P : Program} {w : World} {K : PySem.W.Frag} {mg : Str → Option Value} {base : Heap} {f : Addr} {fd : FuncData} (F : FunD K "bounds" "bounds" (defArgs s_bounds) (defBody s_bounds) (defScope s_bounds) [] [] f fd) (m_len : mg "len" = none) : FnOk P w K mg base CX0 1 f fd ["tops", "peak", "height"] (spBounds K) :=
  F.ok sc_bounds (fun vs H Q E h => by first | (obtain ⟨_, rfl, _⟩ := h; rfl) | (obtain ⟨_, _, rfl, _⟩ := h; rfl) | (obtain ⟨_, _, _, rfl, _⟩ := h; rfl) | (obtain ⟨_, _, _, _, rfl, _⟩ := h; rfl) | (obtain ⟨_, _, _, _, _, rfl, _⟩ := h; rfl) | (obtain ⟨_, _, _, _, _, _, rfl, _⟩ := h; rfl) | (obtain ⟨_, _, _, _, _, _, _, rfl, _⟩ := h; rfl) | (obtain ⟨_, _, _, _, _, _, _, _, rfl, _⟩ := h; rfl) | (obtain ⟨_, _, _, _, _, _, _, _, _, rfl, _⟩ := h; rfl)) (fun cdv A outer s H vs Q E hr h => ⟨_, d_bounds m_len hr, p_bounds h⟩)
theorem sc_lakes_from : FnScope ["tops", "first", "found", "height", "last"] ["tops", "first"] (defScope s_lakes_from) := ⟨rfl, rfl, rfl, by decide +kernel, rfl, by decide +kernel, by decide +kernel⟩
theorem d_lakes_from {P : Program} {w : World} {K : PySem.W.Frag} {mg : Str → Option Value} {base : Heap} {CX : CXT} {f : Addr} {cdv : Value} {A : Around} {outer : List Env} {s : Shared} {H : Hp} {E : XK} (m_len : mg "len" = none) (m_range : mg "range" = none) (c_bounds : Cal P w K mg base CX0 1 "bounds" ["tops", "peak", "height"] (spBounds K))
    (hr : Room 1 (A.deeper (envOfC "lakes_from" (defScope s_lakes_from) s.heap.objs.size f cdv))) :
    PSs (cxOf CX P w K mg base ["tops", "first", "found", "height", "last"] "lakes_from" (defScope s_lakes_from) f cdv A outer s H E) (defBody s_lakes_from) (t_lakes_from K) :=
  (pss_cons (ps_set (i := 2) sc_lakes_from.nd rfl (by first | exact Or.inl rfl | exact Or.inr rfl) (pe_lst pa_nil))
    (pss_cons (ps_set (i := 3) sc_lakes_from.nd rfl (by first | exact Or.inl rfl | exact Or.inr rfl) (pe_ix ix_list (pv 0) (pe_op op_add (pv 1) pe_int) (fun _ _ => rfl)))
    (pss_cons (ps_for (passes_of rfl) rfl (pi_range2 rfl m_range (pa_cons (pe_op op_add (pv 1) pe_int) (pa_cons (pe_op op_sub (pe_callB call_len_seq (by rfl) m_len (by decide +kernel) (pa_cons (pv 0) pa_nil)) pe_int) pa_nil))) (pg_name (i := 4) sc_lakes_from.nd rfl (by first | exact Or.inl rfl | exact Or.inr rfl)) (pss_cons (ps_if (pt_cmpR op_gt (pe_ix ix_list (pv 0) (pv 4) (fun _ _ => rfl)) (pv 3) (nomark _)) (pss_one (ps_set (i := 3) sc_lakes_from.nd rfl (by first | exact Or.inl rfl | exact Or.inr rfl) (pe_ix ix_list (pv 0) (pv 4) (fun _ _ => rfl)))) pss_nil)
    (pss_one (ps_if (PW.pt (pw_and (pt_val (pe_cal c_bounds (hr.mono (by decide)) rfl pass0 (pa_cons (pv 0) (pa_cons (pv 1) (pa_cons (pv 3) pa_nil))))) (pw_and1 (pt_val (pe_cal c_bounds (hr.mono (by decide)) rfl pass0 (pa_cons (pv 0) (pa_cons (pe_op op_add (pv 4) pe_int) (pa_cons (pv 3) pa_nil)))))))) (pss_one (ps_expr (pe_bm PySem.F.plainAttrs_list PySem.F.slot_list_append PySem.F.type_list_append mt_append (pv 2) (pa_cons (pe_tup (pa_cons (pv 3) (pa_cons (pv 1) (pa_cons (pv 4) pa_nil)))) pa_nil)))) pss_nil))))
    (pss_one (ps_ret (pv 2))))))
theorem ok_lakes_from {P : Program} {w : World} {K : PySem.W.Frag} {mg : Str → Option Value} {base : Heap} {f : Addr} {fd : FuncData} (F : FunD K "lakes_from" "lakes_from" (defArgs s_lakes_from) (defBody s_lakes_from) (defScope s_lakes_from) [] [] f fd) (m_len : mg "len" = none) (m_range : mg "range" = none) (c_bounds : Cal P w K mg base CX0 1 "bounds" ["tops", "peak", "height"] (spBounds K)) : FnOk P w K mg base CX0 2 f fd ["tops", "first"] (spFrom K) :=
  F.ok sc_lakes_from (fun vs H Q E h => by first | (obtain ⟨_, rfl, _⟩ := h; rfl) | (obtain ⟨_, _, rfl, _⟩ := h; rfl) | (obtain ⟨_, _, _, rfl, _⟩ := h; rfl) | (obtain ⟨_, _, _, _, rfl, _⟩ := h; rfl) | (obtain ⟨_, _, _, _, _, rfl, _⟩ := h; rfl) | (obtain ⟨_, _, _, _, _, _, rfl, _⟩ := h; rfl) | (obtain ⟨_, _, _, _, _, _, _, rfl, _⟩ := h; rfl) | (obtain ⟨_, _, _, _, _, _, _, _, rfl, _⟩ := h; rfl) | (obtain ⟨_, _, _, _, _, _, _, _, _, rfl, _⟩ := h; rfl)) (fun cdv A outer s H vs Q E hr h => ⟨_, d_lakes_from m_len m_range c_bounds hr, p_from h⟩)
theorem sc_lakes : FnScope ["profile", "tops", "found", "first", "heights", "lake", "height"] ["profile"] (defScope s_lakes) := ⟨rfl, rfl, rfl, by decide +kernel, rfl, by decide +kernel, by decide +kernel⟩
theorem d_lakes {P : Program} {w : World} {K : PySem.W.Frag} {mg : Str → Option Value} {base : Heap} {C_Profile : Addr} {CX : CXT} {f : Addr} {cdv : Value} {A : Around} {outer : List Env} {s : Shared} {H : Hp} {E : XK} (c_peak_heights : Cal P w K mg base CX0 4 "peak_heights" ["profile"] (spTops K C_Profile)) (m_len : mg "len" = none) (m_range : mg "range" = none) (c_lakes_from : Cal P w K mg base CX0 2 "lakes_from" ["tops", "first"] (spFrom K)) (m_int : mg "int" = none) (m_sorted : mg "sorted" = none) (m_set : mg "set" = none)
    (hr : Room 4 (A.deeper (envOfC "lakes" (defScope s_lakes) s.heap.objs.size f cdv))) :
    PSs (cxOf CX P w K mg base ["profile", "tops", "found", "first", "heights", "lake", "height"] "lakes" (defScope s_lakes) f cdv A outer s H E) (defBody s_lakes) (t_lakes K C_Profile) :=
  (pss_cons (ps_set (i := 1) sc_lakes.nd rfl (by first | exact Or.inl rfl | exact Or.inr rfl) (pe_cal c_peak_heights (hr.mono (by decide)) rfl pass0 (pa_cons (pv 0) pa_nil)))
    (pss_cons (ps_set (i := 2) sc_lakes.nd rfl (by first | exact Or.inl rfl | exact Or.inr rfl) (pe_lst pa_nil))
    (pss_cons (ps_for (passes_of rfl) rfl (pi_range1 rfl m_range (pa_cons (pe_op op_sub (pe_callB call_len_seq (by rfl) m_len (by decide +kernel) (pa_cons (pv 1) pa_nil)) pe_int) pa_nil)) (pg_name (i := 3) sc_lakes.nd rfl (by first | exact Or.inl rfl | exact Or.inr rfl)) (pss_one (ps_expr (pe_bm PySem.F.plainAttrs_list PySem.F.slot_list_extend PySem.F.type_list_extend mt_extend (pv 2) (pa_cons (pe_cal c_lakes_from (hr.mono (by decide)) rfl pass0 (pa_cons (pv 1) (pa_cons (pv 3) pa_nil))) pa_nil)))))
    (pss_cons (ps_set (i := 4) sc_lakes.nd rfl (by first | exact Or.inl rfl | exact Or.inr rfl) (pe_sortSet (by rfl) (by rfl) m_sorted (by rfl) m_set (pe_lc (own := [("lake", 5)]) (g := (gName 5)) (tt := tYes) (te := (tCB cInt (tCons (tOp (rIxT K) (tVar 5) (tC (.int 0))) tNil))) rfl sc_lakes.nd (pi_list (pv 2)) (blkOk_by (N := ["profile", "tops", "found", "first", "heights", "lake", "height"]) (sc := defScope s_lakes) (by decide +kernel)) (fun _ _ _ _ _ => (pg_name (i := 5) sc_lakes.nd rfl (by first | exact Or.inl rfl | exact Or.inr rfl))) (fun _ _ _ _ _ => pts_nil) (fun _ _ _ _ _ => (pe_callTy call_int1 (by rfl) m_int (by decide +kernel) (pa_cons (pe_ix ix_tup (pv 5) pe_int (fun _ _ => rfl)) pa_nil))))))
    (pss_one (ps_ret (pe_lc2 (own := [("height", 6), ("lake", 5)]) (vs1 := [5]) (g := (gName 6)) (tt := tYes) (wi1 := (iList K (tVar 2))) (g1 := (gName 5)) (tt1 := (tTest (tOp rEq (tOp (rIxT K) (tVar 5) (tC (.int 0))) (tVar 6)))) (te := (tVar 5)) rfl sc_lakes.nd (pi_list (pv 4)) (blkOk_by (N := ["profile", "tops", "found", "first", "heights", "lake", "height"]) (sc := defScope s_lakes) (by decide +kernel)) (by decide) (fun _ _ _ _ _ => (pg_name (i := 6) sc_lakes.nd rfl (by first | exact Or.inl rfl | exact Or.inr rfl))) (fun _ _ _ _ _ => pts_nil) (fun _ _ _ _ _ => (pi_list (pv 2))) (fun _ _ _ _ _ => (pg_name (i := 5) sc_lakes.nd rfl (by first | exact Or.inl rfl | exact Or.inr rfl))) (fun _ _ _ _ _ => (pts_one (pt_cmpR op_eq (pe_ix ix_tup (pv 5) pe_int (fun _ _ => rfl)) (pv 6) (nomark _)))) (fun _ _ _ _ _ => (pv 5)))))))))
theorem ok_lakes {P : Program} {w : World} {K : PySem.W.Frag} {mg : Str → Option Value} {base : Heap} {C_Profile : Addr} {f : Addr} {fd : FuncData} (F : FunD K "lakes" "lakes" (defArgs s_lakes) (defBody s_lakes) (defScope s_lakes) [] [] f fd) (c_peak_heights : Cal P w K mg base CX0 4 "peak_heights" ["profile"] (spTops K C_Profile)) (m_len : mg "len" = none) (m_range : mg "range" = none) (c_lakes_from : Cal P w K mg base CX0 2 "lakes_from" ["tops", "first"] (spFrom K)) (m_int : mg "int" = none) (m_sorted : mg "sorted" = none) (m_set : mg "set" = none) : FnOk P w K mg base CX0 5 f fd ["profile"] (spLakes K C_Profile) :=
  F.ok sc_lakes (fun vs H Q E h => by first | (obtain ⟨_, rfl, _⟩ := h; rfl) | (obtain ⟨_, _, rfl, _⟩ := h; rfl) | (obtain ⟨_, _, _, rfl, _⟩ := h; rfl) | (obtain ⟨_, _, _, _, rfl, _⟩ := h; rfl) | (obtain ⟨_, _, _, _, _, rfl, _⟩ := h; rfl) | (obtain ⟨_, _, _, _, _, _, rfl, _⟩ := h; rfl) | (obtain ⟨_, _, _, _, _, _, _, rfl, _⟩ := h; rfl) | (obtain ⟨_, _, _, _, _, _, _, _, rfl, _⟩ := h; rfl) | (obtain ⟨_, _, _, _, _, _, _, _, _, rfl, _⟩ := h; rfl)) (fun cdv A outer s H vs Q E hr h => ⟨_, d_lakes c_peak_heights m_len m_range c_lakes_from m_int m_sorted m_set hr, p_lakes h⟩)
theorem sc__law_tall : FnScope ["_law_draws_here", "_law_many", "_law_size", "_law_k"] ["_law_draws_here"] (defScope s__law_tall) := ⟨rfl, rfl, rfl, by decide +kernel, rfl, by decide +kernel, by decide +kernel⟩
theorem d__law_tall {P : Program} {w : World} {K : PySem.W.Frag} {mg : Str → Option Value} {base : Heap} {CX : CXT} {f : Addr} {cdv : Value} {A : Around} {outer : List Env} {s : Shared} {H : Hp} {E : XK} (c__law_draw : Cal P w K mg base CX0 1 "_law_draw" ["_law_draws_here", "_law_many"] (spDraw K)) (m_int : mg "int" = none) (m_range : mg "range" = none)
    (hr : Room 1 (A.deeper (envOfC "_law_tall" (defScope s__law_tall) s.heap.objs.size f cdv))) :
    PSs (cxOf CX P w K mg base ["_law_draws_here", "_law_many", "_law_size", "_law_k"] "_law_tall" (defScope s__law_tall) f cdv A outer s H E) (defBody s__law_tall) (t__law_heights K) :=
  (pss_cons (ps_set (i := 1) sc__law_tall.nd rfl (by first | exact Or.inl rfl | exact Or.inr rfl) (pe_op op_add pe_int (pe_cal c__law_draw (hr.mono (by decide)) rfl pass0 (pa_cons (pv 0) (pa_cons (pe_ix ix_list (pe_lst (pa_cons pe_int (pa_cons pe_int pa_nil))) (pe_callTy call_int1 (by rfl) m_int (by decide +kernel) (pa_cons (pe_cmpR op_eq (pe_cal c__law_draw (hr.mono (by decide)) rfl pass0 (pa_cons (pv 0) (pa_cons pe_int pa_nil))) pe_int (nomark _)) pa_nil)) (fun _ _ => rfl)) pa_nil)))))
    (pss_cons (ps_set (i := 2) sc__law_tall.nd rfl (by first | exact Or.inl rfl | exact Or.inr rfl) (pe_ix ix_list (pe_lst (pa_cons pe_int (pa_cons pe_int (pa_cons (pe_op op_pow pe_int pe_int) (pa_cons (pe_op op_pow pe_int pe_int) pa_nil))))) (pe_cal c__law_draw (hr.mono (by decide)) rfl pass0 (pa_cons (pv 0) (pa_cons pe_int pa_nil))) (fun _ _ => rfl)))
    (pss_one (ps_ret (pe_lc (own := [("_law_k", 3)]) (g := (gName 3)) (tt := tYes) (te := (tOp oSub (tCall (spDraw K) [] E0 (tCons (tVar 0) (tCons (tOp oAdd (tOp oMul (tC (.int 2)) (tVar 2)) (tC (.int 1))) tNil))) (tVar 2))) rfl sc__law_tall.nd (pi_range1 rfl m_range (pa_cons (pv 1) pa_nil)) (blkOk_by (N := ["_law_draws_here", "_law_many", "_law_size", "_law_k"]) (sc := defScope s__law_tall) (by decide +kernel)) (fun _ _ _ _ _ => (pg_name (i := 3) sc__law_tall.nd rfl (by first | exact Or.inl rfl | exact Or.inr rfl))) (fun _ _ _ _ _ => pts_nil) (fun _ _ _ _ _ => (pe_op op_sub (pe_cal c__law_draw (hr.mono (by decide)) rfl pass0 (pa_cons (pv 0) (pa_cons (pe_op op_add (pe_op op_mul pe_int (pv 2)) pe_int) pa_nil))) (pv 2))))))))
theorem ok__law_tall {P : Program} {w : World} {K : PySem.W.Frag} {mg : Str → Option Value} {base : Heap} {f : Addr} {fd : FuncData} (F : FunD K "_law_tall" "_law_tall" (defArgs s__law_tall) (defBody s__law_tall) (defScope s__law_tall) [] [] f fd) (c__law_draw : Cal P w K mg base CX0 1 "_law_draw" ["_law_draws_here", "_law_many"] (spDraw K)) (m_int : mg "int" = none) (m_range : mg "range" = none) : FnOk P w K mg base CX0 2 f fd ["_law_draws_here"] (spHeights K) :=
  F.ok sc__law_tall (fun vs H Q E h => by first | (obtain ⟨_, rfl, _⟩ := h; rfl) | (obtain ⟨_, _, rfl, _⟩ := h; rfl) | (obtain ⟨_, _, _, rfl, _⟩ := h; rfl) | (obtain ⟨_, _, _, _, rfl, _⟩ := h; rfl) | (obtain ⟨_, _, _, _, _, rfl, _⟩ := h; rfl) | (obtain ⟨_, _, _, _, _, _, rfl, _⟩ := h; rfl) | (obtain ⟨_, _, _, _, _, _, _, rfl, _⟩ := h; rfl) | (obtain ⟨_, _, _, _, _, _, _, _, rfl, _⟩ := h; rfl) | (obtain ⟨_, _, _, _, _, _, _, _, _, rfl, _⟩ := h; rfl)) (fun cdv A outer s H vs Q E hr h => ⟨_, d__law_tall c__law_draw m_int m_range hr, p_heights h⟩)
theorem sc__law_below : FnScope ["_law_tall_here", "_law_wide", "_law_begin", "_law_end", "_law_top", "_law_bottom", "_law_found", "_law_at"] ["_law_tall_here", "_law_wide", "_law_begin", "_law_end", "_law_top", "_law_bottom"] (defScope s__law_below) := ⟨rfl, rfl, rfl, by decide +kernel, rfl, by decide +kernel, by decide +kernel⟩
theorem d__law_below {P : Program} {w : World} {K : PySem.W.Frag} {mg : Str → Option Value} {base : Heap} {CX : CXT} {f : Addr} {cdv : Value} {A : Around} {outer : List Env} {s : Shared} {H : Hp} {E : XK} (m_range : mg "range" = none)
    (hr : Room 0 (A.deeper (envOfC "_law_below" (defScope s__law_below) s.heap.objs.size f cdv))) :
    PSs (cxOf CX P w K mg base ["_law_tall_here", "_law_wide", "_law_begin", "_law_end", "_law_top", "_law_bottom", "_law_found", "_law_at"] "_law_below" (defScope s__law_below) f cdv A outer s H E) (defBody s__law_below) (t__law_below K) :=
  (pss_cons (ps_set (i := 6) sc__law_below.nd rfl (by first | exact Or.inl rfl | exact Or.inr rfl) pe_int)
    (pss_cons (ps_for (passes_of rfl) rfl (pi_range2 rfl m_range (pa_cons (pv 2) (pa_cons (pe_op op_add (pv 3) pe_int) pa_nil))) (pg_name (i := 7) sc__law_below.nd rfl (by first | exact Or.inl rfl | exact Or.inr rfl)) (pss_one (ps_if (pt_cmpR op_gt (pv 4) (pe_op op_mulW (pe_ix ix_list (pv 0) (pv 7) (fun _ _ => rfl)) (pv 5)) (nomark _)) (pss_one (ps_set (i := 6) sc__law_below.nd rfl (by first | exact Or.inl rfl | exact Or.inr rfl) (pe_op op_add (pv 6) (pe_op op_mulW (pe_ix ix_list (pv 1) (pv 7) (fun _ _ => rfl)) (pe_op op_sub (pv 4) (pe_op op_mulW (pe_ix ix_list (pv 0) (pv 7) (fun _ _ => rfl)) (pv 5))))))) pss_nil)))
    (pss_one (ps_ret (pv 6)))))
theorem ok__law_below {P : Program} {w : World} {K : PySem.W.Frag} {mg : Str → Option Value} {base : Heap} {f : Addr} {fd : FuncData} (F : FunD K "_law_below" "_law_below" (defArgs s__law_below) (defBody s__law_below) (defScope s__law_below) [] [] f fd) (m_range : mg "range" = none) : FnOk P w K mg base CX0 1 f fd ["_law_tall_here", "_law_wide", "_law_begin", "_law_end", "_law_top", "_law_bottom"] (spLBelow K) :=
  F.ok sc__law_below (fun vs H Q E h => by first | (obtain ⟨_, rfl, _⟩ := h; rfl) | (obtain ⟨_, _, rfl, _⟩ := h; rfl) | (obtain ⟨_, _, _, rfl, _⟩ := h; rfl) | (obtain ⟨_, _, _, _, rfl, _⟩ := h; rfl) | (obtain ⟨_, _, _, _, _, rfl, _⟩ := h; rfl) | (obtain ⟨_, _, _, _, _, _, rfl, _⟩ := h; rfl) | (obtain ⟨_, _, _, _, _, _, _, rfl, _⟩ := h; rfl) | (obtain ⟨_, _, _, _, _, _, _, _, rfl, _⟩ := h; rfl) | (obtain ⟨_, _, _, _, _, _, _, _, _, rfl, _⟩ := h; rfl)) (fun cdv A outer s H vs Q E hr h => ⟨_, d__law_below m_range hr, p_lbelow h⟩)
theorem sc_law : FnScope ["_law_script", "_law_draws_here", "_law_tall_here", "_law_wide", "_law_ground", "_law_begin", "_law_end", "_law_bottom", "_law_top", "_law_held", "_law_told", "_law_place", "_law_one"] ["_law_script"] (defScope s_law) := ⟨rfl, rfl, rfl, by decide +kernel, rfl, by decide +kernel, by decide +kernel⟩
theorem d_law {P : Program} {w : World} {K : PySem.W.Frag} {mg : Str → Option Value} {base : Heap} {C_Profile : Addr} {C_Ratio : Addr} {CX : CXT} {f : Addr} {cdv : Value} {A : Around} {outer : List Env} {s : Shared} {H : Hp} {E : XK} (c__law_draws : Cal P w K mg base CX0 1 "_law_draws" ["_law_script"] (spDraws K)) (c__law_tall : Cal P w K mg base CX0 2 "_law_tall" ["_law_draws_here"] (spHeights K)) (c__law_draw : Cal P w K mg base CX0 1 "_law_draw" ["_law_draws_here", "_law_many"] (spDraw K)) (ck_Profile_widths_heights : CalMK P w K mg base CX0 5 "Profile" C_Profile ["self", "heights", "widths"] (spInit K C_Profile) ["widths", "heights"] (fun vs zs => vs ++ pick [1, 0] zs)) (m_len : mg "len" = none) (cm2_Ratio : CalM P w K mg base CX0 2 "Ratio" C_Ratio ["self", "numerator", "denominator"] (spRInit K C_Ratio) []) (ck_volume_up_to_level_last_first_profile : CalK P w K mg base CX0 7 "volume_up_to" ["profile", "first", "last", "level"] (spVolU K C_Profile C_Ratio) ["level", "last", "first", "profile"] (fun _ zs => pick [3, 2, 1, 0] zs)) (g_Ratio : mg "Ratio" = some (.ref C_Ratio)) (m_isinstance : mg "isinstance" = none) (cp_top : CalP P w K mg base CX0 1 C_Ratio "top" (getSp C_Ratio "reduced_top")) (c__law_below : Cal P w K mg base CX0 1 "_law_below" ["_law_tall_here", "_law_wide", "_law_begin", "_law_end", "_law_top", "_law_bottom"] (spLBelow K)) (cp_bottom : CalP P w K mg base CX0 1 C_Ratio "bottom" (getSp C_Ratio "reduced_bottom")) (ck_level_for_volume_last_profile_first : CalK P w K mg base CX0 8 "level_for" ["profile", "first", "last", "volume"] (spLvF K C_Profile C_Ratio) ["volume", "last", "profile", "first"] (fun _ zs => pick [2, 3, 1, 0] zs)) (c_peaks : Cal P w K mg base CX0 3 "peaks" ["profile"] (spPeaks K C_Profile)) (m_range : mg "range" = none) (ck_rims_valley_profile : CalK P w K mg base CX0 5 "rims" ["profile", "valley"] (spRims K C_Profile) ["valley", "profile"] (fun _ zs => pick [1, 0] zs)) (c_rims : Cal P w K mg base CX0 5 "rims" ["profile", "valley"] (spRims K C_Profile)) (ck_peaks_profile : CalK P w K mg base CX0 3 "peaks" ["profile"] (spPeaks K C_Profile) ["profile"] (fun _ zs => pick [0] zs)) (ck_valleys_profile : CalK P w K mg base CX0 4 "valleys" ["profile"] (spValleys K C_Profile) ["profile"] (fun _ zs => pick [0] zs)) (c_valleys : Cal P w K mg base CX0 4 "valleys" ["profile"] (spValleys K C_Profile)) (ck_lakes_profile : CalK P w K mg base CX0 5 "lakes" ["profile"] (spLakes K C_Profile) ["profile"] (fun _ zs => pick [0] zs)) (c_lakes : Cal P w K mg base CX0 5 "lakes" ["profile"] (spLakes K C_Profile))
    (hr : Room 9 (A.deeper (envOfC "law" (defScope s_law) s.heap.objs.size f cdv))) :
    PSs (cxOf CX P w K mg base ["_law_script", "_law_draws_here", "_law_tall_here", "_law_wide", "_law_ground", "_law_begin", "_law_end", "_law_bottom", "_law_top", "_law_held", "_law_told", "_law_place", "_law_one"] "law" (defScope s_law) f cdv A outer s H E) (defBody s_law) (t_law26 K C_Profile C_Ratio) :=
  (pss_cons (ps_set (i := 1) sc_law.nd rfl (by first | exact Or.inl rfl | exact Or.inr rfl) (pe_cal c__law_draws (hr.mono (by decide)) rfl pass0 (pa_cons (pv 0) pa_nil)))
    (pss_cons (ps_set (i := 2) sc_law.nd rfl (by first | exact Or.inl rfl | exact Or.inr rfl) (pe_cal c__law_tall (hr.mono (by decide)) rfl pass0 (pa_cons (pv 1) pa_nil)))
    (pss_cons (ps_setLc (i := 3) (own := [("_law_one", 12)]) (g := (gName 12)) (tt := tYes) (te := (tOp oAdd (tC (.int 1)) (tCall (spDraw K) [] E0 (tCons (tVar 1) (tCons (tOp oPow (tC (.int 10)) (tC (.int 30))) tNil))))) rfl sc_law.nd rfl rfl (sw_true rfl rfl rfl (by decide +kernel)) (pi_list (pv 2)) (blkOk_by (N := ["_law_script", "_law_draws_here", "_law_tall_here", "_law_wide", "_law_ground", "_law_begin", "_law_end", "_law_bottom", "_law_top", "_law_held", "_law_told", "_law_place", "_law_one"]) (sc := defScope s_law) (by decide +kernel)) (fun _ _ _ _ _ => (pg_name (i := 12) sc_law.nd rfl (by first | exact Or.inl rfl | exact Or.inr rfl))) (fun _ _ _ _ _ => pts_nil) (fun _ _ _ _ _ => (pe_op op_add pe_int (pe_cal c__law_draw (hr.mono (by decide)) rfl pass0 (pa_cons (pv 1) (pa_cons (pe_op op_pow pe_int pe_int) pa_nil))))))
    (pss_cons (ps_set (i := 4) sc_law.nd rfl (by first | exact Or.inl rfl | exact Or.inr rfl) (pe_calmk ck_Profile_widths_heights (hr.mono (by decide)) (by rfl) pass0 (pk_cons (pv 3) (pk_cons (pv 2) pk_nil))))
    (pss_cons (ps_set (i := 5) sc_law.nd rfl (by first | exact Or.inl rfl | exact Or.inr rfl) (pe_cal c__law_draw (hr.mono (by decide)) rfl pass0 (pa_cons (pv 1) (pa_cons (pe_callB call_len_seq (by rfl) m_len (by decide +kernel) (pa_cons (pv 2) pa_nil)) pa_nil))))
    (pss_cons (ps_set (i := 6) sc_law.nd rfl (by first | exact Or.inl rfl | exact Or.inr rfl) (pe_op op_add (pv 5) (pe_cal c__law_draw (hr.mono (by decide)) rfl pass0 (pa_cons (pv 1) (pa_cons (pe_op op_sub (pe_callB call_len_seq (by rfl) m_len (by decide +kernel) (pa_cons (pv 2) pa_nil)) (pv 5)) pa_nil)))))
    (pss_cons (ps_set (i := 7) sc_law.nd rfl (by first | exact Or.inl rfl | exact Or.inr rfl) (pe_op op_add pe_int (pe_cal c__law_draw (hr.mono (by decide)) rfl pass0 (pa_cons (pv 1) (pa_cons pe_int pa_nil)))))
    (pss_cons (ps_set (i := 8) sc_law.nd rfl (by first | exact Or.inl rfl | exact Or.inr rfl) (pe_op op_add (pe_op op_mulW (pe_ix ix_list (pv 2) (pv 5) (fun _ _ => rfl)) (pv 7)) (pe_cal c__law_draw (hr.mono (by decide)) rfl pass0 (pa_cons (pv 1) (pa_cons pe_int pa_nil)))))
    (pss_cons (ps_set (i := 9) sc_law.nd rfl (by first | exact Or.inl rfl | exact Or.inr rfl) (pe_op op_add pe_int (pe_cal c__law_draw (hr.mono (by decide)) rfl pass0 (pa_cons (pv 1) (pa_cons (pe_op op_pow pe_int pe_int) pa_nil)))))
    (pss_cons (ps_set (i := 10) sc_law.nd rfl (by first | exact Or.inl rfl | exact Or.inr rfl) (pe_calk ck_volume_up_to_level_last_first_profile (hr.mono (by decide)) (by rfl) pass0 (pk_cons (pe_calm cm2_Ratio (hr.mono (by decide)) (by rfl) pass0 (pa_cons (pv 8) (pa_cons (pv 7) pa_nil))) (pk_cons (pv 6) (pk_cons (pv 5) (pk_cons (pv 4) pk_nil))))))
    (pss_cons (ps_if (pt_not (pt_val (pe_callB call_isi (by rfl) m_isinstance (by decide +kernel) (pa_cons (pv 10) (pa_cons (pe_glob rfl g_Ratio rfl) pa_nil))))) (pss_one (ps_ret pe_bl)) pss_nil)
    (pss_cons (ps_if (pt_cmpR op_ne (pe_op op_mulW (pe_calp cp_top (hr.mono (by decide)) pass0 (pv 10) rfl) (pv 7)) (pe_op op_mulW (pe_cal c__law_below (hr.mono (by decide)) rfl pass0 (pa_cons (pv 2) (pa_cons (pv 3) (pa_cons (pv 5) (pa_cons (pv 6) (pa_cons (pv 8) (pa_cons (pv 7) pa_nil))))))) (pe_calp cp_bottom (hr.mono (by decide)) pass0 (pv 10) rfl)) (nomark _)) (pss_one (ps_ret pe_bl)) pss_nil)
    (pss_cons (ps_set (i := 10) sc_law.nd rfl (by first | exact Or.inl rfl | exact Or.inr rfl) (pe_calk ck_level_for_volume_last_profile_first (hr.mono (by decide)) (by rfl) pass0 (pk_cons (pe_calm cm2_Ratio (hr.mono (by decide)) (by rfl) pass0 (pa_cons (pv 9) (pa_cons (pv 7) pa_nil))) (pk_cons (pv 6) (pk_cons (pv 4) (pk_cons (pv 5) pk_nil))))))
    (pss_cons (ps_if (pt_not (pt_val (pe_callB call_isi (by rfl) m_isinstance (by decide +kernel) (pa_cons (pv 10) (pa_cons (pe_glob rfl g_Ratio rfl) pa_nil))))) (pss_one (ps_ret pe_bl)) pss_nil)
    (pss_cons (ps_if (pt_cmpR op_ne (pe_op op_mulW (pe_cal c__law_below (hr.mono (by decide)) rfl pass0 (pa_cons (pv 2) (pa_cons (pv 3) (pa_cons (pv 5) (pa_cons (pv 6) (pa_cons (pe_calp cp_top (hr.mono (by decide)) pass0 (pv 10) rfl) (pa_cons (pe_calp cp_bottom (hr.mono (by decide)) pass0 (pv 10) rfl) pa_nil))))))) (pv 7)) (pe_op op_mulW (pv 9) (pe_calp cp_bottom (hr.mono (by decide)) pass0 (pv 10) rfl)) (nomark _)) (pss_one (ps_ret pe_bl)) pss_nil)
    (pss_cons (ps_for (passes_of rfl) rfl (pi_range1 rfl m_range (pa_cons (pe_op op_sub (pe_callB call_len_seq (by rfl) m_len (by decide +kernel) (pa_cons (pe_cal c_peaks (hr.mono (by decide)) (by rfl) pass0 (pa_cons (pv 4) pa_nil)) pa_nil)) pe_int) pa_nil)) (pg_name (i := 11) sc_law.nd rfl (by first | exact Or.inl rfl | exact Or.inr rfl)) (pss_one (ps_if (pt_cmpR (op_neD hr.units) (pe_calk ck_rims_valley_profile (hr.mono (by decide)) (by rfl) pass0 (pk_cons (pv 11) (pk_cons (pv 4) pk_nil))) (pe_cal c_rims (hr.mono (by decide)) (by rfl) pass0 (pa_cons (pv 4) (pa_cons (pv 11) pa_nil))) (nomark _)) (pss_one (ps_ret pe_bl)) pss_nil)))
    (pss_cons (ps_if (PW.pt (pw_or (pt_cmpR (op_neD hr.units) (pe_calk ck_peaks_profile (hr.mono (by decide)) (by rfl) pass0 (pk_cons (pv 4) pk_nil)) (pe_cal c_peaks (hr.mono (by decide)) (by rfl) pass0 (pa_cons (pv 4) pa_nil)) (nomark _)) (pw_or1 (pt_cmpR (op_neD hr.units) (pe_calk ck_valleys_profile (hr.mono (by decide)) (by rfl) pass0 (pk_cons (pv 4) pk_nil)) (pe_cal c_valleys (hr.mono (by decide)) (by rfl) pass0 (pa_cons (pv 4) pa_nil)) (nomark _))))) (pss_one (ps_ret pe_bl)) pss_nil)
    (pss_one (ps_ret (pe_cmpR (op_eqD hr.units) (pe_calk ck_lakes_profile (hr.mono (by decide)) (by rfl) pass0 (pk_cons (pv 4) pk_nil)) (pe_cal c_lakes (hr.mono (by decide)) (by rfl) pass0 (pa_cons (pv 4) pa_nil)) (nomark _)))))))))))))))))))))
theorem ok_law {P : Program} {w : World} {K : PySem.W.Frag} {mg : Str → Option Value} {base : Heap} {C_Profile : Addr} {C_Ratio : Addr} {f : Addr} {fd : FuncData} (F : FunD K "law" "law" (defArgs s_law) (defBody s_law) (defScope s_law) [] [] f fd) (c__law_draws : Cal P w K mg base CX0 1 "_law_draws" ["_law_script"] (spDraws K)) (c__law_tall : Cal P w K mg base CX0 2 "_law_tall" ["_law_draws_here"] (spHeights K)) (c__law_draw : Cal P w K mg base CX0 1 "_law_draw" ["_law_draws_here", "_law_many"] (spDraw K)) (ck_Profile_widths_heights : CalMK P w K mg base CX0 5 "Profile" C_Profile ["self", "heights", "widths"] (spInit K C_Profile) ["widths", "heights"] (fun vs zs => vs ++ pick [1, 0] zs)) (m_len : mg "len" = none) (cm2_Ratio : CalM P w K mg base CX0 2 "Ratio" C_Ratio ["self", "numerator", "denominator"] (spRInit K C_Ratio) []) (ck_volume_up_to_level_last_first_profile : CalK P w K mg base CX0 7 "volume_up_to" ["profile", "first", "last", "level"] (spVolU K C_Profile C_Ratio) ["level", "last", "first", "profile"] (fun _ zs => pick [3, 2, 1, 0] zs)) (g_Ratio : mg "Ratio" = some (.ref C_Ratio)) (m_isinstance : mg "isinstance" = none) (cp_top : CalP P w K mg base CX0 1 C_Ratio "top" (getSp C_Ratio "reduced_top")) (c__law_below : Cal P w K mg base CX0 1 "_law_below" ["_law_tall_here", "_law_wide", "_law_begin", "_law_end", "_law_top", "_law_bottom"] (spLBelow K)) (cp_bottom : CalP P w K mg base CX0 1 C_Ratio "bottom" (getSp C_Ratio "reduced_bottom")) (ck_level_for_volume_last_profile_first : CalK P w K mg base CX0 8 "level_for" ["profile", "first", "last", "volume"] (spLvF K C_Profile C_Ratio) ["volume", "last", "profile", "first"] (fun _ zs => pick [2, 3, 1, 0] zs)) (c_peaks : Cal P w K mg base CX0 3 "peaks" ["profile"] (spPeaks K C_Profile)) (m_range : mg "range" = none) (ck_rims_valley_profile : CalK P w K mg base CX0 5 "rims" ["profile", "valley"] (spRims K C_Profile) ["valley", "profile"] (fun _ zs => pick [1, 0] zs)) (c_rims : Cal P w K mg base CX0 5 "rims" ["profile", "valley"] (spRims K C_Profile)) (ck_peaks_profile : CalK P w K mg base CX0 3 "peaks" ["profile"] (spPeaks K C_Profile) ["profile"] (fun _ zs => pick [0] zs)) (ck_valleys_profile : CalK P w K mg base CX0 4 "valleys" ["profile"] (spValleys K C_Profile) ["profile"] (fun _ zs => pick [0] zs)) (c_valleys : Cal P w K mg base CX0 4 "valleys" ["profile"] (spValleys K C_Profile)) (ck_lakes_profile : CalK P w K mg base CX0 5 "lakes" ["profile"] (spLakes K C_Profile) ["profile"] (fun _ zs => pick [0] zs)) (c_lakes : Cal P w K mg base CX0 5 "lakes" ["profile"] (spLakes K C_Profile)) : FnOk P w K mg base CX0 10 f fd ["_law_script"] (spLaw26 K C_Profile C_Ratio) :=
  F.ok sc_law (fun vs H Q E h => by first | (obtain ⟨_, rfl, _⟩ := h; rfl) | (obtain ⟨_, _, rfl, _⟩ := h; rfl) | (obtain ⟨_, _, _, rfl, _⟩ := h; rfl) | (obtain ⟨_, _, _, _, rfl, _⟩ := h; rfl) | (obtain ⟨_, _, _, _, _, rfl, _⟩ := h; rfl) | (obtain ⟨_, _, _, _, _, _, rfl, _⟩ := h; rfl) | (obtain ⟨_, _, _, _, _, _, _, rfl, _⟩ := h; rfl) | (obtain ⟨_, _, _, _, _, _, _, _, rfl, _⟩ := h; rfl) | (obtain ⟨_, _, _, _, _, _, _, _, _, rfl, _⟩ := h; rfl)) (fun cdv A outer s H vs Q E hr h => ⟨_, d_law c__law_draws c__law_tall c__law_draw ck_Profile_widths_heights m_len cm2_Ratio ck_volume_up_to_level_last_first_profile g_Ratio m_isinstance cp_top c__law_below cp_bottom ck_level_for_volume_last_profile_first c_peaks m_range ck_rims_valley_profile c_rims ck_peaks_profile ck_valleys_profile c_valleys ck_lakes_profile c_lakes hr, p_law26 h⟩)
theorem sc_get_heights : FnScope ["self"] ["self"] (defScope s_get_heights) := ⟨rfl, rfl, rfl, by decide +kernel, rfl, by decide +kernel, by decide +kernel⟩
theorem ok_get_heights {P : Program} {w : World} {K : PySem.W.Frag} {mg : Str → Option Value} {base : Heap} {C f : Addr} {fd : FuncData} (F : FunD K "heights" "Profile.heights" (defArgs s_get_heights) (defBody s_get_heights) (defScope s_get_heights) [] [] f fd) (c : Cls K C) (n : NoAttr K C "column_heights") : FnOk P w K mg base CX0 1 f fd ["self"] (getSp C "column_heights") := by
  obtain ⟨oc, od, dV, kV, doc, pm, an, cdv, ct, osl, rfl, lk, hcd, _, _⟩ := F.ex
  exact fn_getter (N := ["self"]) lk hcd sc_get_heights rfl rfl c n
theorem sc_get_widths : FnScope ["self"] ["self"] (defScope s_get_widths) := ⟨rfl, rfl, rfl, by decide +kernel, rfl, by decide +kernel, by decide +kernel⟩
theorem ok_get_widths {P : Program} {w : World} {K : PySem.W.Frag} {mg : Str → Option Value} {base : Heap} {C f : Addr} {fd : FuncData} (F : FunD K "widths" "Profile.widths" (defArgs s_get_widths) (defBody s_get_widths) (defScope s_get_widths) [] [] f fd) (c : Cls K C) (n : NoAttr K C "column_widths") : FnOk P w K mg base CX0 1 f fd ["self"] (getSp C "column_widths") := by
  obtain ⟨oc, od, dV, kV, doc, pm, an, cdv, ct, osl, rfl, lk, hcd, _, _⟩ := F.ex
  exact fn_getter (N := ["self"]) lk hcd sc_get_widths rfl rfl c n
theorem sc_get_top : FnScope ["self"] ["self"] (defScope s_get_top) := ⟨rfl, rfl, rfl, by decide +kernel, rfl, by decide +kernel, by decide +kernel⟩
theorem ok_get_top {P : Program} {w : World} {K : PySem.W.Frag} {mg : Str → Option Value} {base : Heap} {C f : Addr} {fd : FuncData} (F : FunD K "top" "Ratio.top" (defArgs s_get_top) (defBody s_get_top) (defScope s_get_top) [] [] f fd) (c : Cls K C) (n : NoAttr K C "reduced_top") : FnOk P w K mg base CX0 1 f fd ["self"] (getSp C "reduced_top") := by
  obtain ⟨oc, od, dV, kV, doc, pm, an, cdv, ct, osl, rfl, lk, hcd, _, _⟩ := F.ex
  exact fn_getter (N := ["self"]) lk hcd sc_get_top rfl rfl c n
theorem sc_get_bottom : FnScope ["self"] ["self"] (defScope s_get_bottom) := ⟨rfl, rfl, rfl, by decide +kernel, rfl, by decide +kernel, by decide +kernel⟩
theorem ok_get_bottom {P : Program} {w : World} {K : PySem.W.Frag} {mg : Str → Option Value} {base : Heap} {C f : Addr} {fd : FuncData} (F : FunD K "bottom" "Ratio.bottom" (defArgs s_get_bottom) (defBody s_get_bottom) (defScope s_get_bottom) [] [] f fd) (c : Cls K C) (n : NoAttr K C "reduced_bottom") : FnOk P w K mg base CX0 1 f fd ["self"] (getSp C "reduced_bottom") := by
  obtain ⟨oc, od, dV, kV, doc, pm, an, cdv, ct, osl, rfl, lk, hcd, _, _⟩ := F.ex
  exact fn_getter (N := ["self"]) lk hcd sc_get_bottom rfl rfl c n
theorem exb_heights {K : PySem.W.Frag} (h : exB K = true) : prB K "Profile" "heights" = true := (He.ba h).1
theorem exb_widths {K : PySem.W.Frag} (h : exB K = true) : prB K "Profile" "widths" = true := (He.ba (He.ba h).2).1
theorem exb_top {K : PySem.W.Frag} (h : exB K = true) : prB K "Ratio" "top" = true := (He.ba (He.ba (He.ba h).2).2).1
theorem exb_bottom {K : PySem.W.Frag} (h : exB K = true) : prB K "Ratio" "bottom" = true := (He.ba (He.ba (He.ba (He.ba h).2).2).2).1
theorem exb_cls {K : PySem.W.Frag} (h : exB K = true) : clB K "Profile" = true := (He.ba (He.ba (He.ba (He.ba (He.ba h).2).2).2).2).1
theorem exb_clsR {K : PySem.W.Frag} (h : exB K = true) : clB K "Ratio" = true := (He.ba (He.ba (He.ba (He.ba (He.ba (He.ba h).2).2).2).2).2).1
theorem exb_ki {K : PySem.W.Frag} (h : exB K = true) : kiB K "Ratio" = true := (He.ba (He.ba (He.ba (He.ba (He.ba (He.ba (He.ba h).2).2).2).2).2).2).1
theorem exb_opc {K : PySem.W.Frag} (h : exB K = true) : opcB K "Ratio" = true := (He.ba (He.ba (He.ba (He.ba (He.ba (He.ba (He.ba (He.ba h).2).2).2).2).2).2).2).1
theorem exb_add {K : PySem.W.Frag} (h : exB K = true) : opnB K "Ratio" "add" = true := (He.ba (He.ba (He.ba (He.ba (He.ba (He.ba (He.ba (He.ba (He.ba h).2).2).2).2).2).2).2).2).1
theorem exb_sub {K : PySem.W.Frag} (h : exB K = true) : opnB K "Ratio" "sub" = true := (He.ba (He.ba (He.ba (He.ba (He.ba (He.ba (He.ba (He.ba (He.ba (He.ba h).2).2).2).2).2).2).2).2).2).1
theorem exb_mul {K : PySem.W.Frag} (h : exB K = true) : opnB K "Ratio" "mul" = true := (He.ba (He.ba (He.ba (He.ba (He.ba (He.ba (He.ba (He.ba (He.ba (He.ba h).2).2).2).2).2).2).2).2).2).2
theorem facts {P : Program} {w : World} {K : PySem.W.Frag} {h : Heap} {mg : Str → Option Value} {f : Addr} (X : K.In h) (G : h.Ns mainGlobals mg) (hfa : mg ("law" : Str) = some (.ref f)) (c : SaysR fa fn gts exB K) :
    ∃ fd : FuncData, (∀ (s : Shared) (v : Value), BindsTo s fd ⟨[v], []⟩ [("_law_script", v)]) ∧ (PCls K (He.ga K "Profile") ∧ RCls K (He.ga K "Ratio")) ∧ ∀ base : Heap, K.In base → base.Ns mainGlobals mg → FnOk P w K mg base CX0 10 f fd ["_law_script"] (spLaw26 K (He.ga K "Profile") (He.ga K "Ratio")) := by
  obtain ⟨fd0, F0⟩ := c.d.def_ 0 (d := D__law_draws) rfl
  obtain ⟨fd1, F1⟩ := c.d.def_ 1 (d := D__law_draw) rfl
  obtain ⟨fd2, F2⟩ := c.d.def_ 2 (d := D_is_whole) rfl
  obtain ⟨fd3, F3⟩ := c.d.def_ 3 (d := D_is_whole_within) rfl
  obtain ⟨fd4, F4⟩ := c.d.def_ 4 (d := D_first_outside) rfl
  obtain ⟨fd5, F5⟩ := c.d.def_ 5 (d := D_is_row) rfl
  obtain ⟨fd6, F6⟩ := c.d.def_ 6 (d := D_check_heights) rfl
  obtain ⟨fd7, F7⟩ := c.d.def_ 7 (d := D_check_widths) rfl
  obtain ⟨fd8, F8⟩ := c.d.def_ 8 (d := D_Profile___init__) rfl
  obtain ⟨fd9, F9⟩ := c.d.def_ 9 (d := D_Profile___len__) rfl
  obtain ⟨fd10, F10⟩ := c.d.def_ 10 (d := D_common_divisor) rfl
  obtain ⟨fd11, F11⟩ := c.d.def_ 11 (d := D_gap) rfl
  obtain ⟨fd12, F12⟩ := c.d.def_ 12 (d := D_Ratio___init__) rfl
  obtain ⟨fd13, F13⟩ := c.d.def_ 13 (d := D_as_ratio) rfl
  obtain ⟨fd14, F14⟩ := c.d.def_ 14 (d := D_Ratio___add__) rfl
  obtain ⟨fd15, F15⟩ := c.d.def_ 15 (d := D_Ratio___sub__) rfl
  obtain ⟨fd16, F16⟩ := c.d.def_ 16 (d := D_Ratio___mul__) rfl
  obtain ⟨fd17, F17⟩ := c.d.def_ 17 (d := D_Ratio___gt__) rfl
  obtain ⟨fd18, F18⟩ := c.d.def_ 18 (d := D_Ratio___le__) rfl
  obtain ⟨fd19, F19⟩ := c.d.def_ 19 (d := D_Ratio___ge__) rfl
  obtain ⟨fd20, F20⟩ := c.d.def_ 20 (d := D_Ratio_over) rfl
  obtain ⟨fd21, F21⟩ := c.d.def_ 21 (d := D_checked_number) rfl
  obtain ⟨fd22, F22⟩ := c.d.def_ 22 (d := D_is_amount) rfl
  obtain ⟨fd23, F23⟩ := c.d.def_ 23 (d := D_checked_amount) rfl
  obtain ⟨fd24, F24⟩ := c.d.def_ 24 (d := D_is_column) rfl
  obtain ⟨fd25, F25⟩ := c.d.def_ 25 (d := D_check_column) rfl
  obtain ⟨fd26, F26⟩ := c.d.def_ 26 (d := D_check_run) rfl
  obtain ⟨fd27, F27⟩ := c.d.def_ 27 (d := D_volume_below) rfl
  obtain ⟨fd28, F28⟩ := c.d.def_ 28 (d := D_volume_up_to) rfl
  obtain ⟨fd29, F29⟩ := c.d.def_ 29 (d := D_level_above) rfl
  obtain ⟨fd30, F30⟩ := c.d.def_ 30 (d := D_level_for) rfl
  obtain ⟨fd31, F31⟩ := c.d.def_ 31 (d := D_stretches) rfl
  obtain ⟨fd32, F32⟩ := c.d.def_ 32 (d := D_is_peak) rfl
  obtain ⟨fd33, F33⟩ := c.d.def_ 33 (d := D_peaks) rfl
  obtain ⟨fd34, F34⟩ := c.d.def_ 34 (d := D_peak_heights) rfl
  obtain ⟨fd35, F35⟩ := c.d.def_ 35 (d := D_valleys) rfl
  obtain ⟨fd36, F36⟩ := c.d.def_ 36 (d := D_rims) rfl
  obtain ⟨fd37, F37⟩ := c.d.def_ 37 (d := D_bounds) rfl
  obtain ⟨fd38, F38⟩ := c.d.def_ 38 (d := D_lakes_from) rfl
  obtain ⟨fd39, F39⟩ := c.d.def_ 39 (d := D_lakes) rfl
  obtain ⟨fd40, F40⟩ := c.d.def_ 40 (d := D__law_tall) rfl
  obtain ⟨fd41, F41⟩ := c.d.def_ 41 (d := D__law_below) rfl
  obtain ⟨fd42, F42⟩ := c.d.def_ 42 (d := D_law) rfl
  have e := hfa.symm.trans (He.glo_ok X G (c.d.fact 65 (f := .glo "law") rfl))
  cases e
  have b := FunD.bindsA (ps := ["_law_script"]) F42 fun _ _ _ _ _ _ us hl => match us, hl with | [_], _ => rfl
  have sdP : PCls K (He.ga K "Profile") := pcls_of (He.cls_ok (c.d.fact 16 (f := .cls "Profile") rfl)) (He.noat_ok (c.d.fact 19 (f := .noat "Profile" "column_heights") rfl)) (He.noat_ok (c.d.fact 20 (f := .noat "Profile" "column_widths") rfl)) (exb_cls c.x)
  have sdR : RCls K (He.ga K "Ratio") := rcls_of (He.cls_ok (c.d.fact 18 (f := .cls "Ratio") rfl)) (He.noat_ok (c.d.fact 22 (f := .noat "Ratio" "reduced_top") rfl)) (He.noat_ok (c.d.fact 23 (f := .noat "Ratio" "reduced_bottom") rfl)) (exb_clsR c.x) (exb_ki c.x)
  have sd := And.intro sdP sdR
  refine ⟨fd42, fun s v => b s [v] rfl, sd, fun base _ _ => ?_⟩
  have m_len := He.free_ok X G (c.d.fact 0 (f := .free "len") rfl)
  have m_int := He.free_ok X G (c.d.fact 1 (f := .free "int") rfl)
  have m_isinstance := He.free_ok X G (c.d.fact 2 (f := .free "isinstance") rfl)
  have m_bool := He.free_ok X G (c.d.fact 3 (f := .free "bool") rfl)
  have m_enumerate := He.free_ok X G (c.d.fact 4 (f := .free "enumerate") rfl)
  have m_tuple := He.free_ok X G (c.d.fact 5 (f := .free "tuple") rfl)
  have m_list := He.free_ok X G (c.d.fact 6 (f := .free "list") rfl)
  have m_MOST_COLUMNS := He.int_ok X G (c.d.fact 7 (f := .int "MOST_COLUMNS" 60) rfl)
  have m_GREATEST := He.int_ok X G (c.d.fact 8 (f := .int "GREATEST" 1000000000000000000000000000000) rfl)
  have m_abs := He.free_ok X G (c.d.fact 9 (f := .free "abs") rfl)
  have m_range := He.free_ok X G (c.d.fact 10 (f := .free "range") rfl)
  have m_sum := He.free_ok X G (c.d.fact 11 (f := .free "sum") rfl)
  have m_sorted := He.free_ok X G (c.d.fact 12 (f := .free "sorted") rfl)
  have m_set := He.free_ok X G (c.d.fact 13 (f := .free "set") rfl)
  have m_zip := He.free_ok X G (c.d.fact 14 (f := .free "zip") rfl)
  have g_Profile := He.glo_ok X G (c.d.fact 15 (f := .glo "Profile") rfl)
  have k_Profile := He.cls_ok (c.d.fact 16 (f := .cls "Profile") rfl)
  have g_Ratio := He.glo_ok X G (c.d.fact 17 (f := .glo "Ratio") rfl)
  have k_Ratio := He.cls_ok (c.d.fact 18 (f := .cls "Ratio") rfl)
  have nH := He.noat_ok (c.d.fact 19 (f := .noat "Profile" "column_heights") rfl)
  have nW := He.noat_ok (c.d.fact 20 (f := .noat "Profile" "column_widths") rfl)
  have mk := He.mkr_ok (c.d.fact 21 (f := .mkr "Profile") rfl)
  have nT := He.noat_ok (c.d.fact 22 (f := .noat "Ratio" "reduced_top") rfl)
  have nB := He.noat_ok (c.d.fact 23 (f := .noat "Ratio" "reduced_bottom") rfl)
  have mkR := He.mkr_ok (c.d.fact 24 (f := .mkr "Ratio") rfl)
  obtain ⟨fg0, Fg0⟩ := c.g 0 (g := G_heights) rfl
  have cp_heights : CalP P w K mg base CX0 1 (He.ga K "Profile") "heights" (getSp (He.ga K "Profile") "column_heights") := ⟨_, _, fg0, ok_get_heights Fg0 k_Profile nH, k_Profile, pr_of (exb_heights c.x), Fg0.bindsN fun _ _ _ _ _ _ us hl => match us, hl with | [_], _ => rfl⟩
  obtain ⟨fg1, Fg1⟩ := c.g 1 (g := G_widths) rfl
  have cp_widths : CalP P w K mg base CX0 1 (He.ga K "Profile") "widths" (getSp (He.ga K "Profile") "column_widths") := ⟨_, _, fg1, ok_get_widths Fg1 k_Profile nW, k_Profile, pr_of (exb_widths c.x), Fg1.bindsN fun _ _ _ _ _ _ us hl => match us, hl with | [_], _ => rfl⟩
  obtain ⟨fg2, Fg2⟩ := c.g 2 (g := G_top) rfl
  have cp_top : CalP P w K mg base CX0 1 (He.ga K "Ratio") "top" (getSp (He.ga K "Ratio") "reduced_top") := ⟨_, _, fg2, ok_get_top Fg2 k_Ratio nT, k_Ratio, pr_of (exb_top c.x), Fg2.bindsN fun _ _ _ _ _ _ us hl => match us, hl with | [_], _ => rfl⟩
  obtain ⟨fg3, Fg3⟩ := c.g 3 (g := G_bottom) rfl
  have cp_bottom : CalP P w K mg base CX0 1 (He.ga K "Ratio") "bottom" (getSp (He.ga K "Ratio") "reduced_bottom") := ⟨_, _, fg3, ok_get_bottom Fg3 k_Ratio nB, k_Ratio, pr_of (exb_bottom c.x), Fg3.bindsN fun _ _ _ _ _ _ us hl => match us, hl with | [_], _ => rfl⟩
  have oc_R := opc_of (exb_opc c.x)
  have on_add := opn_of (exb_add c.x)
  have on_sub := opn_of (exb_sub c.x)
  have on_mul := opn_of (exb_mul c.x)
  have c__law_draws : Cal P w K mg base CX0 1 "_law_draws" ["_law_script"] (spDraws K) := ⟨_, fd0, ok__law_draws F0 , He.glo_ok X G (c.d.fact 25 (f := .glo "_law_draws") rfl), F0.kp, F0.bindsN fun _ _ _ _ _ _ us hl => match us, hl with | [_], _ => rfl⟩
  have c__law_draw : Cal P w K mg base CX0 1 "_law_draw" ["_law_draws_here", "_law_many"] (spDraw K) := ⟨_, fd1, ok__law_draw F1 m_len, He.glo_ok X G (c.d.fact 26 (f := .glo "_law_draw") rfl), F1.kp, F1.bindsN fun _ _ _ _ _ _ us hl => match us, hl with | [_, _], _ => rfl⟩
  have c_is_whole : Cal P w K mg base CX0 1 "is_whole" ["value"] (spWhole K) := ⟨_, fd2, ok_is_whole F2 m_int m_isinstance m_bool, He.glo_ok X G (c.d.fact 27 (f := .glo "is_whole") rfl), F2.kp, F2.bindsN fun _ _ _ _ _ _ us hl => match us, hl with | [_], _ => rfl⟩
  have c_is_whole_within : Cal P w K mg base CX0 2 "is_whole_within" ["value", "least", "greatest"] (spWithin K) := ⟨_, fd3, ok_is_whole_within F3 c_is_whole, He.glo_ok X G (c.d.fact 28 (f := .glo "is_whole_within") rfl), F3.kp, F3.bindsN fun _ _ _ _ _ _ us hl => match us, hl with | [_, _, _], _ => rfl⟩
  have c_first_outside : Cal P w K mg base CX0 3 "first_outside" ["values", "least", "greatest"] (spOutside K) := ⟨_, fd4, ok_first_outside F4 m_enumerate c_is_whole_within, He.glo_ok X G (c.d.fact 29 (f := .glo "first_outside") rfl), F4.kp, F4.bindsN fun _ _ _ _ _ _ us hl => match us, hl with | [_, _, _], _ => rfl⟩
  have c_is_row : Cal P w K mg base CX0 1 "is_row" ["values", "least", "most"] (spRow K) := ⟨_, fd5, ok_is_row F5 m_tuple m_list m_isinstance m_len, He.glo_ok X G (c.d.fact 30 (f := .glo "is_row") rfl), F5.kp, F5.bindsN fun _ _ _ _ _ _ us hl => match us, hl with | [_, _, _], _ => rfl⟩
  have c_check_heights : Cal P w K mg base CX0 4 "check_heights" ["heights"] (spCheckH K) := ⟨_, fd6, ok_check_heights F6 m_MOST_COLUMNS c_is_row m_GREATEST c_first_outside, He.glo_ok X G (c.d.fact 31 (f := .glo "check_heights") rfl), F6.kp, F6.bindsN fun _ _ _ _ _ _ us hl => match us, hl with | [_], _ => rfl⟩
  have c_check_widths : Cal P w K mg base CX0 4 "check_widths" ["widths", "many"] (spCheckW K) := ⟨_, fd7, ok_check_widths F7 c_is_row m_GREATEST c_first_outside, He.glo_ok X G (c.d.fact 32 (f := .glo "check_widths") rfl), F7.kp, F7.bindsN fun _ _ _ _ _ _ us hl => match us, hl with | [_, _], _ => rfl⟩
  obtain ⟨ds1, v1, b1⟩ := F8.binds1 (ps := ["self", "heights", "widths"]) 2 0 (show ([V.non] : List V) ≠ [] from List.cons_ne_nil _ _) rfl (fun _ _ _ _ _ _ _ us its h1 h2 => match us, its, h1, h2 with | [_, _], [_], _, _ => ⟨_, rfl, rfl⟩)
  obtain ⟨ds2, v2, b2⟩ := F8.binds1 (ps := ["self", "heights", "widths"]) 3 1 (show ([V.non] : List V) ≠ [] from List.cons_ne_nil _ _) rfl (fun _ _ _ _ _ _ _ us its h1 h2 => match us, its, h1, h2 with | [_, _, _], [_], _, _ => ⟨_, rfl, rfl⟩)
  have cm1_Profile : CalM P w K mg base CX0 5 "Profile" (He.ga K "Profile") ["self", "heights", "widths"] (spInit K (He.ga K "Profile")) [.non] := ⟨_, fd8, ds1, ok_Profile___init__ F8 c_check_heights m_len c_check_widths m_tuple, mk, g_Profile, b1, v1⟩
  have cm2_Profile : CalM P w K mg base CX0 5 "Profile" (He.ga K "Profile") ["self", "heights", "widths"] (spInit K (He.ga K "Profile")) [] := ⟨_, fd8, ds2, ok_Profile___init__ F8 c_check_heights m_len c_check_widths m_tuple, mk, g_Profile, b2, v2⟩
  obtain ⟨_, kb_ck_Profile_widths_heights⟩ := F8.kbindsD (ps := ["self", "heights", "widths"]) 1 ["widths", "heights"] (fun vs _ zs => vs ++ pick [1, 0] zs) (List.cons_ne_nil _ _) (fun r1 _ r3 => r1.append (pick_vals r3)) (fun _ _ _ _ _ _ _ us its ws h1 h2 h3 => match us, its, ws, h1, h2, h3 with | [_], [_], [_, _], _, _, _ => ⟨_, rfl, rfl⟩)
  have ck_Profile_widths_heights : CalMK P w K mg base CX0 5 "Profile" (He.ga K "Profile") ["self", "heights", "widths"] (spInit K (He.ga K "Profile")) ["widths", "heights"] (fun vs zs => vs ++ pick [1, 0] zs) := ⟨_, fd8, _, ok_Profile___init__ F8 c_check_heights m_len c_check_widths m_tuple, mk, g_Profile, kb_ck_Profile_widths_heights⟩
  have me_len := He.meth_ok (c.d.fact 33 (f := .meth "Profile" "__len__") rfl)
  have cu_len : CalU P w K mg base CX0 1 (He.ga K "Profile") "__len__" (spPLen K (He.ga K "Profile")) := ⟨_, fd9, ok_Profile___len__ F9 m_len, me_len.at_, me_len.fn, F9.bindsN fun _ _ _ _ _ _ us hl => match us, hl with | [_], _ => rfl⟩
  have c_common_divisor : Cal P w K mg base CX0 1 "common_divisor" ["first", "second"] (spGcd K) := ⟨_, fd10, ok_common_divisor F10 , He.glo_ok X G (c.d.fact 34 (f := .glo "common_divisor") rfl), F10.kp, F10.bindsN fun _ _ _ _ _ _ us hl => match us, hl with | [_, _], _ => rfl⟩
  have c_gap : Cal P w K mg base CX0 1 "gap" ["left", "right"] (spGap K (He.ga K "Ratio")) := ⟨_, fd11, ok_gap F11 , He.glo_ok X G (c.d.fact 35 (f := .glo "gap") rfl), F11.kp, F11.bindsN fun _ _ _ _ _ _ us hl => match us, hl with | [_, _], _ => rfl⟩
  obtain ⟨dr1, vr1, br1⟩ := F12.binds1 (ps := ["self", "numerator", "denominator"]) 2 0 (show ([V.int 1] : List V) ≠ [] from List.cons_ne_nil _ _) rfl (fun _ _ _ _ _ _ _ us its h1 h2 => match us, its, h1, h2 with | [_, _], [_], _, _ => ⟨_, rfl, rfl⟩)
  obtain ⟨dr2, vr2, br2⟩ := F12.binds1 (ps := ["self", "numerator", "denominator"]) 3 1 (show ([V.int 1] : List V) ≠ [] from List.cons_ne_nil _ _) rfl (fun _ _ _ _ _ _ _ us its h1 h2 => match us, its, h1, h2 with | [_, _, _], [_], _, _ => ⟨_, rfl, rfl⟩)
  have cm1_Ratio : CalM P w K mg base CX0 2 "Ratio" (He.ga K "Ratio") ["self", "numerator", "denominator"] (spRInit K (He.ga K "Ratio")) [.int 1] := ⟨_, fd12, dr1, ok_Ratio___init__ F12 c_is_whole m_abs c_common_divisor, mkR, g_Ratio, br1, vr1⟩
  have cm2_Ratio : CalM P w K mg base CX0 2 "Ratio" (He.ga K "Ratio") ["self", "numerator", "denominator"] (spRInit K (He.ga K "Ratio")) [] := ⟨_, fd12, dr2, ok_Ratio___init__ F12 c_is_whole m_abs c_common_divisor, mkR, g_Ratio, br2, vr2⟩
  have c_as_ratio : Cal P w K mg base CX0 4 "as_ratio" ["value"] (spAsR K (He.ga K "Ratio")) := ⟨_, fd13, ok_as_ratio F13 g_Ratio m_isinstance c_is_whole cm1_Ratio, He.glo_ok X G (c.d.fact 36 (f := .glo "as_ratio") rfl), F13.kp, F13.bindsN fun _ _ _ _ _ _ us hl => match us, hl with | [_], _ => rfl⟩
  have me_add := He.meth_ok (c.d.fact 37 (f := .meth "Ratio" "__add__") rfl)
  have co_add : CalO P w K mg base CX0 5 (He.ga K "Ratio") "__add__" (spAdd K (He.ga K "Ratio")) := ⟨_, fd14, ok_Ratio___add__ F14 c_as_ratio cm2_Ratio, me_add.at_, me_add.fn, F14.bindsN fun _ _ _ _ _ _ us hl => match us, hl with | [_, _], _ => rfl⟩
  have me_sub := He.meth_ok (c.d.fact 38 (f := .meth "Ratio" "__sub__") rfl)
  have co_sub : CalO P w K mg base CX0 5 (He.ga K "Ratio") "__sub__" (spSub K (He.ga K "Ratio")) := ⟨_, fd15, ok_Ratio___sub__ F15 c_as_ratio c_gap cm2_Ratio, me_sub.at_, me_sub.fn, F15.bindsN fun _ _ _ _ _ _ us hl => match us, hl with | [_, _], _ => rfl⟩
  have me_mul := He.meth_ok (c.d.fact 39 (f := .meth "Ratio" "__mul__") rfl)
  have co_mul : CalO P w K mg base CX0 5 (He.ga K "Ratio") "__mul__" (spMul K (He.ga K "Ratio")) := ⟨_, fd16, ok_Ratio___mul__ F16 c_as_ratio cm2_Ratio, me_mul.at_, me_mul.fn, F16.bindsN fun _ _ _ _ _ _ us hl => match us, hl with | [_, _], _ => rfl⟩
  have me_gt := He.meth_ok (c.d.fact 40 (f := .meth "Ratio" "__gt__") rfl)
  have co_gt : CalO P w K mg base CX0 5 (He.ga K "Ratio") "__gt__" (spGt K (He.ga K "Ratio")) := ⟨_, fd17, ok_Ratio___gt__ F17 c_as_ratio c_gap, me_gt.at_, me_gt.fn, F17.bindsN fun _ _ _ _ _ _ us hl => match us, hl with | [_, _], _ => rfl⟩
  have me_le := He.meth_ok (c.d.fact 41 (f := .meth "Ratio" "__le__") rfl)
  have co_le : CalO P w K mg base CX0 5 (He.ga K "Ratio") "__le__" (spLe K (He.ga K "Ratio")) := ⟨_, fd18, ok_Ratio___le__ F18 c_as_ratio c_gap, me_le.at_, me_le.fn, F18.bindsN fun _ _ _ _ _ _ us hl => match us, hl with | [_, _], _ => rfl⟩
  have me_ge := He.meth_ok (c.d.fact 42 (f := .meth "Ratio" "__ge__") rfl)
  have co_ge : CalO P w K mg base CX0 5 (He.ga K "Ratio") "__ge__" (spGe K (He.ga K "Ratio")) := ⟨_, fd19, ok_Ratio___ge__ F19 c_as_ratio c_gap, me_ge.at_, me_ge.fn, F19.bindsN fun _ _ _ _ _ _ us hl => match us, hl with | [_, _], _ => rfl⟩
  have me_over := He.meth_ok (c.d.fact 43 (f := .meth "Ratio" "over") rfl)
  have ct_over : CalT P w K mg base CX0 5 (He.ga K "Ratio") "over" ["self", "other"] (spOver K (He.ga K "Ratio")) := ⟨_, fd20, ok_Ratio_over F20 c_as_ratio cm2_Ratio, k_Ratio, me_over, F20.bindsN fun _ _ _ _ _ _ us hl => match us, hl with | [_, _], _ => rfl⟩
  have c_checked_number : Cal P w K mg base CX0 5 "checked_number" ["value"] (spChkN K (He.ga K "Ratio")) := ⟨_, fd21, ok_checked_number F21 c_as_ratio, He.glo_ok X G (c.d.fact 44 (f := .glo "checked_number") rfl), F21.kp, F21.bindsN fun _ _ _ _ _ _ us hl => match us, hl with | [_], _ => rfl⟩
  have c_is_amount : Cal P w K mg base CX0 6 "is_amount" ["value"] (spIsAm K (He.ga K "Ratio")) := ⟨_, fd22, ok_is_amount F22 c_as_ratio co_ge oc_R, He.glo_ok X G (c.d.fact 45 (f := .glo "is_amount") rfl), F22.kp, F22.bindsN fun _ _ _ _ _ _ us hl => match us, hl with | [_], _ => rfl⟩
  have c_checked_amount : Cal P w K mg base CX0 7 "checked_amount" ["value"] (spChkA K (He.ga K "Ratio")) := ⟨_, fd23, ok_checked_amount F23 c_is_amount c_checked_number, He.glo_ok X G (c.d.fact 46 (f := .glo "checked_amount") rfl), F23.kp, F23.bindsN fun _ _ _ _ _ _ us hl => match us, hl with | [_], _ => rfl⟩
  have c_is_column : Cal P w K mg base CX0 3 "is_column" ["profile", "value"] (spIsCol K (He.ga K "Profile")) := ⟨_, fd24, ok_is_column F24 m_len cu_len c_is_whole_within, He.glo_ok X G (c.d.fact 47 (f := .glo "is_column") rfl), F24.kp, F24.bindsN fun _ _ _ _ _ _ us hl => match us, hl with | [_, _], _ => rfl⟩
  have c_check_column : Cal P w K mg base CX0 4 "check_column" ["profile", "value"] (spChkCol K (He.ga K "Profile")) := ⟨_, fd25, ok_check_column F25 c_is_column, He.glo_ok X G (c.d.fact 48 (f := .glo "check_column") rfl), F25.kp, F25.bindsN fun _ _ _ _ _ _ us hl => match us, hl with | [_, _], _ => rfl⟩
  have c_check_run : Cal P w K mg base CX0 5 "check_run" ["profile", "first", "last"] (spChkRun K (He.ga K "Profile")) := ⟨_, fd26, ok_check_run F26 c_check_column m_len cu_len c_is_whole_within, He.glo_ok X G (c.d.fact 49 (f := .glo "check_run") rfl), F26.kp, F26.bindsN fun _ _ _ _ _ _ us hl => match us, hl with | [_, _, _], _ => rfl⟩
  have c_volume_below : Cal P w K mg base CX0 6 "volume_below" ["profile", "first", "last", "level"] (spVolB K (He.ga K "Profile") (He.ga K "Ratio")) := ⟨_, fd27, ok_volume_below F27 cp_heights cp_widths m_range co_gt oc_R m_sum co_mul on_mul co_sub on_sub, He.glo_ok X G (c.d.fact 50 (f := .glo "volume_below") rfl), F27.kp, F27.bindsN fun _ _ _ _ _ _ us hl => match us, hl with | [_, _, _, _], _ => rfl⟩
  have c_volume_up_to : Cal P w K mg base CX0 7 "volume_up_to" ["profile", "first", "last", "level"] (spVolU K (He.ga K "Profile") (He.ga K "Ratio")) := ⟨_, fd28, ok_volume_up_to F28 c_check_run c_checked_number c_volume_below, He.glo_ok X G (c.d.fact 51 (f := .glo "volume_up_to") rfl), F28.kp, F28.bindsN fun _ _ _ _ _ _ us hl => match us, hl with | [_, _, _, _], _ => rfl⟩
  have ck_volume_up_to_level_last_first_profile : CalK P w K mg base CX0 7 "volume_up_to" ["profile", "first", "last", "level"] (spVolU K (He.ga K "Profile") (He.ga K "Ratio")) ["level", "last", "first", "profile"] (fun _ zs => pick [3, 2, 1, 0] zs) := ⟨_, fd28, _, ok_volume_up_to F28 c_check_run c_checked_number c_volume_below, He.glo_ok X G (c.d.fact 51 (f := .glo "volume_up_to") rfl), F28.kp, FunD.kb0 F28 ["level", "last", "first", "profile"] (fun _ zs => pick [3, 2, 1, 0] zs) (fun _ r => pick_vals r) (fun _ _ _ _ _ _ ws hl => match ws, hl with | [_, _, _, _], _ => rfl)⟩
  have c_level_above : Cal P w K mg base CX0 6 "level_above" ["profile", "first", "last", "volume"] (spLvA K (He.ga K "Profile") (He.ga K "Ratio")) := ⟨_, fd29, ok_level_above F29 cp_heights cp_widths m_int m_sorted m_set m_enumerate m_zip m_sum m_len co_le oc_R co_sub on_sub ct_over co_add on_add, He.glo_ok X G (c.d.fact 52 (f := .glo "level_above") rfl), F29.kp, F29.bindsN fun _ _ _ _ _ _ us hl => match us, hl with | [_, _, _, _], _ => rfl⟩
  have c_level_for : Cal P w K mg base CX0 8 "level_for" ["profile", "first", "last", "volume"] (spLvF K (He.ga K "Profile") (He.ga K "Ratio")) := ⟨_, fd30, ok_level_for F30 c_check_run c_checked_amount c_level_above, He.glo_ok X G (c.d.fact 53 (f := .glo "level_for") rfl), F30.kp, F30.bindsN fun _ _ _ _ _ _ us hl => match us, hl with | [_, _, _, _], _ => rfl⟩
  have ck_level_for_volume_last_profile_first : CalK P w K mg base CX0 8 "level_for" ["profile", "first", "last", "volume"] (spLvF K (He.ga K "Profile") (He.ga K "Ratio")) ["volume", "last", "profile", "first"] (fun _ zs => pick [2, 3, 1, 0] zs) := ⟨_, fd30, _, ok_level_for F30 c_check_run c_checked_amount c_level_above, He.glo_ok X G (c.d.fact 53 (f := .glo "level_for") rfl), F30.kp, FunD.kb0 F30 ["volume", "last", "profile", "first"] (fun _ zs => pick [2, 3, 1, 0] zs) (fun _ r => pick_vals r) (fun _ _ _ _ _ _ ws hl => match ws, hl with | [_, _, _, _], _ => rfl)⟩
  have c_stretches : Cal P w K mg base CX0 1 "stretches" ["heights"] (spStretches K) := ⟨_, fd31, ok_stretches F31 m_len m_range, He.glo_ok X G (c.d.fact 54 (f := .glo "stretches") rfl), F31.kp, F31.bindsN fun _ _ _ _ _ _ us hl => match us, hl with | [_], _ => rfl⟩
  have c_is_peak : Cal P w K mg base CX0 1 "is_peak" ["heights", "first", "last"] (spIsPeak K) := ⟨_, fd32, ok_is_peak F32 m_len, He.glo_ok X G (c.d.fact 55 (f := .glo "is_peak") rfl), F32.kp, F32.bindsN fun _ _ _ _ _ _ us hl => match us, hl with | [_, _, _], _ => rfl⟩
  have c_peaks : Cal P w K mg base CX0 3 "peaks" ["profile"] (spPeaks K (He.ga K "Profile")) := ⟨_, fd33, ok_peaks F33 cp_heights c_stretches c_is_peak, He.glo_ok X G (c.d.fact 56 (f := .glo "peaks") rfl), F33.kp, F33.bindsN fun _ _ _ _ _ _ us hl => match us, hl with | [_], _ => rfl⟩
  have ck_peaks_profile : CalK P w K mg base CX0 3 "peaks" ["profile"] (spPeaks K (He.ga K "Profile")) ["profile"] (fun _ zs => pick [0] zs) := ⟨_, fd33, _, ok_peaks F33 cp_heights c_stretches c_is_peak, He.glo_ok X G (c.d.fact 56 (f := .glo "peaks") rfl), F33.kp, FunD.kb0 F33 ["profile"] (fun _ zs => pick [0] zs) (fun _ r => pick_vals r) (fun _ _ _ _ _ _ ws hl => match ws, hl with | [_], _ => rfl)⟩
  have c_peak_heights : Cal P w K mg base CX0 4 "peak_heights" ["profile"] (spTops K (He.ga K "Profile")) := ⟨_, fd34, ok_peak_heights F34 c_peaks cp_heights, He.glo_ok X G (c.d.fact 57 (f := .glo "peak_heights") rfl), F34.kp, F34.bindsN fun _ _ _ _ _ _ us hl => match us, hl with | [_], _ => rfl⟩
  have c_valleys : Cal P w K mg base CX0 4 "valleys" ["profile"] (spValleys K (He.ga K "Profile")) := ⟨_, fd35, ok_valleys F35 c_peaks m_zip, He.glo_ok X G (c.d.fact 58 (f := .glo "valleys") rfl), F35.kp, F35.bindsN fun _ _ _ _ _ _ us hl => match us, hl with | [_], _ => rfl⟩
  have ck_valleys_profile : CalK P w K mg base CX0 4 "valleys" ["profile"] (spValleys K (He.ga K "Profile")) ["profile"] (fun _ zs => pick [0] zs) := ⟨_, fd35, _, ok_valleys F35 c_peaks m_zip, He.glo_ok X G (c.d.fact 58 (f := .glo "valleys") rfl), F35.kp, FunD.kb0 F35 ["profile"] (fun _ zs => pick [0] zs) (fun _ r => pick_vals r) (fun _ _ _ _ _ _ ws hl => match ws, hl with | [_], _ => rfl)⟩
  have c_rims : Cal P w K mg base CX0 5 "rims" ["profile", "valley"] (spRims K (He.ga K "Profile")) := ⟨_, fd36, ok_rims F36 c_peak_heights m_len c_is_whole_within, He.glo_ok X G (c.d.fact 59 (f := .glo "rims") rfl), F36.kp, F36.bindsN fun _ _ _ _ _ _ us hl => match us, hl with | [_, _], _ => rfl⟩
  have ck_rims_valley_profile : CalK P w K mg base CX0 5 "rims" ["profile", "valley"] (spRims K (He.ga K "Profile")) ["valley", "profile"] (fun _ zs => pick [1, 0] zs) := ⟨_, fd36, _, ok_rims F36 c_peak_heights m_len c_is_whole_within, He.glo_ok X G (c.d.fact 59 (f := .glo "rims") rfl), F36.kp, FunD.kb0 F36 ["valley", "profile"] (fun _ zs => pick [1, 0] zs) (fun _ r => pick_vals r) (fun _ _ _ _ _ _ ws hl => match ws, hl with | [_, _], _ => rfl)⟩
  have c_bounds : Cal P w K mg base CX0 1 "bounds" ["tops", "peak", "height"] (spBounds K) := ⟨_, fd37, ok_bounds F37 m_len, He.glo_ok X G (c.d.fact 60 (f := .glo "bounds") rfl), F37.kp, F37.bindsN fun _ _ _ _ _ _ us hl => match us, hl with | [_, _, _], _ => rfl⟩
  have c_lakes_from : Cal P w K mg base CX0 2 "lakes_from" ["tops", "first"] (spFrom K) := ⟨_, fd38, ok_lakes_from F38 m_len m_range c_bounds, He.glo_ok X G (c.d.fact 61 (f := .glo "lakes_from") rfl), F38.kp, F38.bindsN fun _ _ _ _ _ _ us hl => match us, hl with | [_, _], _ => rfl⟩
  have c_lakes : Cal P w K mg base CX0 5 "lakes" ["profile"] (spLakes K (He.ga K "Profile")) := ⟨_, fd39, ok_lakes F39 c_peak_heights m_len m_range c_lakes_from m_int m_sorted m_set, He.glo_ok X G (c.d.fact 62 (f := .glo "lakes") rfl), F39.kp, F39.bindsN fun _ _ _ _ _ _ us hl => match us, hl with | [_], _ => rfl⟩
  have ck_lakes_profile : CalK P w K mg base CX0 5 "lakes" ["profile"] (spLakes K (He.ga K "Profile")) ["profile"] (fun _ zs => pick [0] zs) := ⟨_, fd39, _, ok_lakes F39 c_peak_heights m_len m_range c_lakes_from m_int m_sorted m_set, He.glo_ok X G (c.d.fact 62 (f := .glo "lakes") rfl), F39.kp, FunD.kb0 F39 ["profile"] (fun _ zs => pick [0] zs) (fun _ r => pick_vals r) (fun _ _ _ _ _ _ ws hl => match ws, hl with | [_], _ => rfl)⟩
  have c__law_tall : Cal P w K mg base CX0 2 "_law_tall" ["_law_draws_here"] (spHeights K) := ⟨_, fd40, ok__law_tall F40 c__law_draw m_int m_range, He.glo_ok X G (c.d.fact 63 (f := .glo "_law_tall") rfl), F40.kp, F40.bindsN fun _ _ _ _ _ _ us hl => match us, hl with | [_], _ => rfl⟩
  have c__law_below : Cal P w K mg base CX0 1 "_law_below" ["_law_tall_here", "_law_wide", "_law_begin", "_law_end", "_law_top", "_law_bottom"] (spLBelow K) := ⟨_, fd41, ok__law_below F41 m_range, He.glo_ok X G (c.d.fact 64 (f := .glo "_law_below") rfl), F41.kp, F41.bindsN fun _ _ _ _ _ _ us hl => match us, hl with | [_, _, _, _, _, _], _ => rfl⟩
  exact ok_law F42 c__law_draws c__law_tall c__law_draw ck_Profile_widths_heights m_len cm2_Ratio ck_volume_up_to_level_last_first_profile g_Ratio m_isinstance cp_top c__law_below cp_bottom ck_level_for_volume_last_profile_first c_peaks m_range ck_rims_valley_profile c_rims ck_peaks_profile ck_valleys_profile c_valleys ck_lakes_profile c_lakes
end Rv
open PySem PySem.W PySem.Calls PyProof.Rows
theorem PySem.Challenge.cw_rainvalleys_k26_volumes_by_name_holds : PySem.Challenge.rw_rainvalleys_k26_volumes_by_name.Holds := by
  w_on; o_law
  refine HandSHeadRun.head_any (r := OpenLaw.row PySem.Challenge.rw_rainvalleys_k26_volumes_by_name) (q := view (OpenLaw.row PySem.Challenge.rw_rainvalleys_k26_volumes_by_name).prog [52]) (H := Rv.hk) (ob := Rv.ob) (M := 12000) (loose := Rv.loose) (d := HandSHeadRun.topDef (OpenLaw.row PySem.Challenge.rw_rainvalleys_k26_volumes_by_name).prog 52) (kwd := []) Rv.ob_eq
    (by kernel_rfl) (fun s => by kernel_rfl) Rv.run (by kernel_rfl) (by kernel_rfl) (by kernel_rfl) (by rfl) (by first | assumption | decide +kernel) (by decide +kernel) ⟨rfl, rfl, rfl, rfl, rfl, by decide +kernel⟩ ?hw ?hc
  case hw => w_witness2
  case hc =>
    refine L2.walk_ofE (l := PySem.Challenge.rw_rainvalleys_k26_volumes_by_name) (n := 63) (k := 10) (x := "_law_script") (CX := L2.CX0) rfl (by decide) (by kernel_rfl) ⟨rfl, by decide, by decide⟩ ?F (fun _ _ _ _ z => z)
    intro w mg fa h Y G hmg0
    obtain ⟨K, KX, c⟩ := Y
    have hmg : mg ("law" : PySem.Str) = some (.ref fa) := by
      have e : (HandSHeadRun.topDef (OpenLaw.row PySem.Challenge.rw_rainvalleys_k26_volumes_by_name).prog 52).name = ("law" : PySem.Str) := by kernel_rfl
      rw [← e]
      exact hmg0
    obtain ⟨fd, hb, sd, hF⟩ := Rv.facts (P := (PySem.Challenge.rw_rainvalleys_k26_volumes_by_name).prog) (w := w) KX G hmg c
    exact ⟨K, fd, _, KX, hb, fun H a ns hl hO hS => ⟨a, ns, rfl, hS, sd.1, sd.2, fun _ => rfl⟩, hF⟩

