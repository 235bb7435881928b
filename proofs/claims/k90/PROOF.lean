import PyProof.Rows.All
import Wide.All
import OpenK.AllK
import Wide.FinOn
import KE.KStateDown
import HandS.ForMost
import HandS.ForExc
import HandS.Defaults
import HandS.Property
import HandS.MakeKw
import HandS.IsInst
import HandS.Flow
import HandS.Style
import HandS.Wide
import HandS.OwnEq
import HandS.Conv
import HandS.Deep
import HandS.Head0
import HandS.Head1
import HandS.Head2
import HandS.HeadEnd
import HandS.HeadHook1
import HandS.HeadHook2
import KE.GoesMore
import OpenK.KOps
import KE.KOpsOwn
import HandS.MakeKwOnly
import HandS.FStr
import HandS.List
import HandS.TupAny
import HandS.More
import HandS.ExcInit
import HandS.Exc
import KE.KExcInit
import HandS.ExcOwn
import HandS.ExcIs
import HandS.ExcField
import KE.KExcIs
import HandS.HotCalls
import HandS.Dict
import KE.KCallOwn
import PyProof.Conv_bool
import PyProof.Rows.FactsN_abs
import HandS.TryOnly
import HandS.Zip
import PySem.Challenge.RW_rainvalleys_k90_error_classes
set_option Elab.async false
set_option linter.all false
set_option maxRecDepth 100000
set_option maxHeartbeats 4000000
/-! Words of this proof: operators on values by short names, the steps of a reading, what a call of a def asks. -/
namespace Rv
open PySem PySem.Spec PyProof.Rows L2
abbrev cInt : List V → Hp → VK → Prop := fun xs H Q => (∃ i, xs = [.int i] ∧ Q (.int i) H) ∨ ∃ k, xs = [.bl k] ∧ Q (.int (if k then 1 else 0)) H
abbrev cAbs : List V → Hp → VK → Prop := fun xs H Q => ∃ i, xs = [.int i] ∧ Q (.int (if i < 0 then -i else i)) H
section
variable {K : PySem.W.Frag} {σ : L2.St} {H : Hp} {Q : VK} {D : Ends} {v x y : V} {i j : Int} {n : Nat} {ta tb te to ti : TE} {t u c : TT} {tr : TA} {b : Bool} {r : R2} {s1 s2 : TS} {g : TG} {p : Addr} {xs : List V} {TQ : Bool → Hp → Prop} {AQ : List V → Hp → Prop} {HQ : Hp → Prop} {GQ : L2.St → Hp → Prop}
theorem w_var (h : σ[n]? = some (some v)) (q : Q v H) : tVar n σ H Q := ⟨v, h, q⟩
theorem w_c (q : Q v H) : tC v σ H Q := q
theorem w_op (q : ta σ H fun x H1 => tb σ H1 fun y H2 => r x y H2 Q) : tOp r ta tb σ H Q := q
theorem w_un {r : V → Hp → VK → Prop} (q : ta σ H fun x H1 => r x H1 Q) : tUn r ta σ H Q := q
theorem w_U {g : Int → V} (q : Q (g i) H) : rU g (.int i) H Q := ⟨i, rfl, q⟩
theorem w_test (q : ta σ H fun x H' => ∃ k, x = .bl k ∧ TQ k H') : tTest ta σ H TQ := q
theorem w_tB (q : ta σ H fun x H' => ∃ k, x = .bl k ∧ TQ k H') : tB ta σ H TQ := q
theorem w_bl (q : TQ b H) : ∃ k, V.bl b = .bl k ∧ TQ k H := ⟨b, rfl, q⟩
theorem w_I0 {g : Int → Int → V} (q : Q (g i j) H) : rI0 g (.int i) (.int j) H Q := ⟨i, j, rfl, rfl, q⟩
theorem w_I {C : Int → Int → Prop} {g : Int → Int → V} (hc : C i j) (q : Q (g i j) H) : rI C g (.int i) (.int j) H Q := ⟨i, j, rfl, rfl, hc, q⟩
theorem w_eqI (q : Q (.bl (decide (i = j))) H) : rEq (.int i) (.int j) H Q := ⟨rfl, by
  have e : decide (V.int i = V.int j) = decide (i = j) := by
    by_cases h : i = j
    · rw [h, decide_eq_true rfl, decide_eq_true rfl]
    · rw [decide_eq_false h, decide_eq_false (fun z => h (V.int.inj z))]
  rw [e]
  exact q⟩
theorem w_neI (q : Q (.bl (!decide (i = j))) H) : rNe (.int i) (.int j) H Q := ⟨rfl, by
  have e : decide (V.int i = V.int j) = decide (i = j) := by
    by_cases h : i = j
    · rw [h, decide_eq_true rfl, decide_eq_true rfl]
    · rw [decide_eq_false h, decide_eq_false (fun z => h (V.int.inj z))]
  rw [e]
  exact q⟩
theorem w_cons (q : ta σ H fun x H1 => tr σ H1 fun xs H2 => AQ (x :: xs) H2) : tCons ta tr σ H AQ := q
theorem w_nil (q : AQ [] H) : tNil σ H AQ := q
theorem w_seqA (q : te σ H fun x H1 => g x σ H1 (s2 D)) : tSeq (tAsg te g) s2 D σ H := q
theorem w_seqD (q : te σ H fun _ H1 => s2 D σ H1) : tSeq (tDrop te) s2 D σ H := q
theorem w_seqP {m : Nat} (q : tr σ H fun vs H1 => ∃ v w, vs = [v, w] ∧ s2 D ((σ.set n (some v)).set m (some w)) H1) : tSeq (tPar n m tr) s2 D σ H := q
theorem w_next (q : D.nx σ H) : tNext D σ H := q
theorem w_asg (q : te σ H fun x H1 => g x σ H1 D.nx) : tAsg te g D σ H := q
theorem w_gn (q : GQ (σ.set n (some v)) H) : gName n v σ H GQ := q
theorem w_gsub {s : TSet} (q : to σ H fun o H1 => ti σ H1 fun i H2 => s o i v H2 fun H3 => GQ σ H3) : gSub to ti s v σ H GQ := q
theorem w_ret (q : te σ H D.rt) : tRet te D σ H := q
theorem w_drop (q : te σ H fun _ H1 => D.nx σ H1) : tDrop te D σ H := q
theorem w_ifs (q : c σ H fun b H1 => if b = true then s1 D σ H1 else s2 D σ H1) : tIfS c s1 s2 D σ H := q
theorem w_if (q : c σ H fun b H1 => if b = true then ta σ H1 Q else tb σ H1 Q) : tIf c ta tb σ H Q := q
theorem w_and (q : t σ H fun c H1 => if c = true then u σ H1 TQ else TQ false H1) : tAnd t u σ H TQ := q
theorem w_or (q : t σ H fun c H1 => if c = true then TQ true H1 else u σ H1 TQ) : tOr t u σ H TQ := q
theorem w_not (q : t σ H fun c H1 => TQ (!c) H1) : tNot t σ H TQ := q
theorem w_andV (q : ta σ H fun x H1 => ∃ c, x = .bl c ∧ if c = true then tb σ H1 Q else Q (.bl false) H1) : tAndV ta tb σ H Q := q
theorem w_orV (q : ta σ H fun x H1 => ∃ c, x = .bl c ∧ if c = true then Q (.bl true) H1 else tb σ H1 Q) : tOrV ta tb σ H Q := q
theorem w_notV (q : ta σ H fun x H1 => ∃ c, x = .bl c ∧ Q (.bl (!c)) H1) : tNotV ta σ H Q := q
theorem w_ixL (h : SqL K H p xs) (ha : atI xs i = some v) (q : Q v H) : rIxL K (.ref p) (.int i) H Q := ⟨p, xs, i, v, rfl, rfl, h, ha, q⟩
theorem w_cb {r : List V → Hp → VK → Prop} (q : tr σ H fun vs H1 => r vs H1 Q) : tCB r tr σ H Q := q
theorem w_intB (q : Q (.int (if b then 1 else 0)) H) : cInt [.bl b] H Q := .inr ⟨b, rfl, q⟩
theorem w_intI (q : Q (.int i) H) : cInt [.int i] H Q := .inl ⟨i, rfl, q⟩
theorem w_abs (q : Q (.int (if i < 0 then -i else i)) H) : cAbs [.int i] H Q := ⟨i, rfl, q⟩
theorem w_call {sp : Sp} {dvs : List V} {E : XK} (q : tr σ H fun vs H1 => sp (vs ++ dvs) H1 Q E) : tCall sp dvs E tr σ H Q := q
theorem w_lst (q : tr σ H fun xs H1 => xs.length ≤ sizeLine ∧ ∀ p, H1 p = none → Q (.ref p) (upd H1 p (.lst xs))) : tLst tr σ H Q := q
theorem w_tup (q : tr σ H fun xs H1 => xs.length ≤ sizeLine ∧ ∀ p, H1 p = none → Q (.ref p) (upd H1 p (.tup xs))) : tTup tr σ H Q := q
theorem w_par {m : Nat} (q : tr σ H fun vs H1 => ∃ v w, vs = [v, w] ∧ D.nx ((σ.set n (some v)).set m (some w)) H1) : tPar n m tr D σ H := q
theorem w_sl {r : V → Option Int → Option Int → Hp → VK → Prop} {tl th : TO} (q : te σ H fun x H1 => tl σ H1 fun l H2 => th σ H2 fun u H3 => r x l u H3 Q) : tSl r te tl th σ H Q := q
theorem w_noPart {OQ : Option Int → Hp → Prop} (q : OQ none H) : tNoPart σ H OQ := q
theorem w_part {OQ : Option Int → Hp → Prop} (q : te σ H fun x H1 => ∃ i, x = .int i ∧ OQ (some i) H1) : tPart te σ H OQ := q
theorem w_ex1 {P : Int → Prop} (q : P i) : ∃ j, V.int i = .int j ∧ P j := ⟨i, rfl, q⟩
theorem w_exb {P : Bool → Prop} (q : P b) : ∃ j, V.bl b = .bl j ∧ P j := ⟨b, rfl, q⟩
theorem w_nx {f : L2.St → Hp → Prop} {r : VK} {k c : L2.St → Hp → Prop} {σ : L2.St} {H : Hp} (q : f σ H) : Ends.nx ⟨f, r, k, c⟩ σ H := q
theorem w_rt {f : L2.St → Hp → Prop} {r : VK} {k c : L2.St → Hp → Prop} {v : V} {H : Hp} (q : r v H) : Ends.rt ⟨f, r, k, c⟩ v H := q
theorem w_yes {TQ : Bool → Hp → Prop} {σ : L2.St} {H : Hp} (q : TQ true H) : tYes σ H TQ := q
theorem iteNT {A B : Prop} (h : B) : if (!true) = true then A else B := iteF h
theorem iteNF {A B : Prop} (h : A) : if (!false) = true then A else B := iteT h
theorem iteRf {α : Type} [DecidableEq α] {z : α} {A B : Prop} (h : A) : if decide (z = z) = true then A else B := by
  rw [decide_eq_true rfl]
  exact iteT h
theorem iteNRf {α : Type} [DecidableEq α] {z : α} {A B : Prop} (h : B) : if (!decide (z = z)) = true then A else B := by
  rw [decide_eq_true rfl]
  exact iteF h
end
theorem pow_c {i j : Int} (h : 0 ≤ j) (h2 : j ≤ 1000000) (h3 : -18446744073709551616 < i) (h4 : i < 18446744073709551616) : CPow i j := ⟨h, h2, by
  have e : (2 : Nat) ^ 64 = 18446744073709551616 := by decide
  omega⟩
theorem mul_l {i j : Int} (h3 : -18446744073709551616 < i) (h4 : i < 18446744073709551616) : CMul i j := .inl ⟨by
  have e : (2 : Int) ^ 64 = 18446744073709551616 := by decide
  omega, by
  have e : (2 : Int) ^ 64 = 18446744073709551616 := by decide
  omega⟩
theorem mul_r {i j : Int} (h3 : -18446744073709551616 < j) (h4 : j < 18446744073709551616) : CMul i j := .inr ⟨by
  have e : (2 : Int) ^ 64 = 18446744073709551616 := by decide
  omega, by
  have e : (2 : Int) ^ 64 = 18446744073709551616 := by decide
  omega⟩
/-- all that H tracked, but the object at d, stands as it was -/
def But (d : Addr) (H H' : Hp) : Prop := ∀ b o, b ≠ d → H b = some o → H' b = some o
theorem But.free {d : Addr} {H H' : Hp} (e : But d H H') {l : Addr} (n : l ≠ d) (h : H' l = none) : H l = none := by
  cases q : H l with
  | none => rfl
  | some o =>
    rw [e l o n q] at h
    cases h
theorem sq_lst {K : PySem.W.Frag} {H : Hp} {a : Addr} {xs : List V} (h : H a = some (.lst xs)) : SqL K H a xs := .inl (.inl h)
end Rv
namespace Rv
open PySem PySem.Spec PyProof.Rows L2
end Rv
namespace Rv
open PySem PySem.Spec PyProof.Rows L2
end Rv
namespace Rv
open PySem PySem.Spec PyProof.Rows L2
end Rv
namespace Rv
open PySem PySem.Spec PyProof.Rows L2
/-! what the top leaves behind, beyond defs and methods: properties, an own ==, getters -/
def prA (K : PySem.W.Frag) (x f : Str) : Addr := He.ma K (He.ga K x) f
def gtA (K : PySem.W.Frag) (x f : Str) : Addr := match PySem.W.recIn K (prA K x f) "property" with
  | some (.ref g :: _) => g
  | _ => 0
/-- the text of a function at an address -/
def txt (K : PySem.W.Frag) (a : Addr) : He.FnW := match K.lookup a with
  | some o => (match o.data with
    | .func z => some (z.name, z.qualname, z.params, z.body, z.scope, z.globals, z.closure, z.builtins)
    | _ => none)
  | none => none
def isNn : Value → Bool
  | .none => true
  | _ => false
def txB (K : PySem.W.Frag) (a : Addr) (q : Str) : Bool := PySem.W.keepIn K (.ref a) && (match K.lookup a with
  | some o => (match o.data with
    | .func z => PySem.W.codeIn K z.code q && isNn z.defaults
    | _ => false)
  | none => false)
/-- a getter: its class, the property's name, its function's text -/
structure Gt where
  cl : Str
  pr : Str
  qual : Str
  params : Arguments
  body : List Stmt
  scope : Scope
def Gt.val (g : Gt) : He.FnW := some (g.pr, g.qual, g.params, .stmts g.body, g.scope, mainGlobals, [], builtinsNs)
/-! the hook: facts, defs, getters, one more test -/
abbrev AlR : Type := He.AlD × (Bool × List He.FnW)
def obsR (fa : List He.Fa) (fn : List He.DefD) (gs : List Gt) (ex : PySem.W.Frag → Bool) (K : PySem.W.Frag) : AlR :=
  (He.obsD fa fn K, (ex K && gs.all fun g => txB K (gtA K g.cl g.pr) g.qual, gs.map fun g => txt K (gtA K g.cl g.pr)))
def valR (fn : List He.DefD) (gs : List Gt) : AlR := (He.valD fn, (true, gs.map Gt.val))
def SaysR (fa : List He.Fa) (fn : List He.DefD) (gs : List Gt) (ex : PySem.W.Frag → Bool) (K : PySem.W.Frag) : Prop := obsR fa fn gs ex K = valR fn gs
end Rv
namespace Rv
open PySem PySem.Spec PyProof.Rows L2
/-! the hook with the addresses said -/
def obsRL (as : List Addr) (fa : List He.Fa) (fn : List He.DefD) (gs : List Gt) (ex : PySem.W.Frag → Bool) (g : Addr → Option Obj) : AlR := obsR fa fn gs ex (He.frG g as)
def hookL (as : List Addr) (fa : List He.Fa) (fn : List He.DefD) (gs : List Gt) (ex : PySem.W.Frag → Bool) : PySem.W.Hook where
  α := AlR
  obs := fun s => obsRL as fa fn gs ex s.heap.get?
  val := fun _ => valR fn gs
  says := fun _ h => ∃ K : PySem.W.Frag, K.In h ∧ SaysR fa fn gs ex K
  of := fun _ _ e => ⟨_, He.frG_in, e⟩
  keeps := fun _ _ _ ⟨K, hK, c⟩ k => ⟨K, PySem.W.Frag.In.keeps hK k, c⟩
theorem obsRL_eq {as : List Addr} {fa : List He.Fa} {fn : List He.DefD} {gs : List Gt} {ex : PySem.W.Frag → Bool} {g : Addr → Option Obj} {s : Shared} (h : ∀ a, g a = s.heap.get? a) : obsRL as fa fn gs ex g = (hookL as fa fn gs ex).obs s := by
  have e : g = s.heap.get? := funext h
  rw [e] <;> rfl
end Rv
namespace Rv
open PySem PySem.Spec PyProof.Rows L2
/-! ### the law's draws: a list of the cells, a place, a number in use, a seed -/
theorem divw {i j : Int} (h : 0 < j) (hb : j < 2 ^ 200) : CDivW i j := by
  refine wide_div (b := 201) h ?_ (by decide) (by decide)
  have e : (2 : Int) ^ 200 = ((2 ^ 200 : Nat) : Int) := rfl
  have e2 : (2 ^ 200 : Nat) < 2 ^ 201 := by decide
  omega
local macro_rules | `(tactic| walk_at "rv st") => `(tactic| first
  | with_reducible refine iteT ?_ | with_reducible refine iteF ?_ | with_reducible refine w_nx ?_ | with_reducible refine w_yes ?_ | with_reducible refine w_rt ?_ | with_reducible refine iteNT ?_ | with_reducible refine iteNF ?_ | with_reducible refine iteNRf ?_ | with_reducible refine iteRf ?_ | with_reducible refine w_seqA ?_ | with_reducible refine w_seqD ?_ | with_reducible refine w_seqP ?_ | with_reducible refine w_asg ?_ | with_reducible refine w_ret ?_ | with_reducible refine w_drop ?_ | with_reducible refine w_ifs ?_ | with_reducible refine w_next ?_ | with_reducible refine w_par ?_
  | with_reducible refine w_op ?_ | with_reducible refine w_un ?_ | ((with_reducible show tVar _ _ _ _); refine' w_var ?hv ?_; (case hv => exact rfl)) | with_reducible refine w_c ?_ | with_reducible refine w_test ?_ | with_reducible refine w_tB ?_
  | with_reducible refine w_bl ?_ | with_reducible refine w_I0 ?_ | with_reducible refine w_U ?_ | with_reducible refine w_eqI ?_ | with_reducible refine w_neI ?_
  | with_reducible refine w_cons ?_ | with_reducible refine w_nil ?_ | with_reducible refine w_gn ?_ | with_reducible refine w_gsub ?_ | with_reducible refine w_and ?_ | with_reducible refine w_or ?_ | with_reducible refine w_not ?_
  | with_reducible refine w_andV ?_ | with_reducible refine w_orV ?_ | with_reducible refine w_notV ?_ | with_reducible refine w_if ?_ | with_reducible refine w_cb ?_ | with_reducible refine w_call ?_ | with_reducible refine w_lst ?_ | with_reducible refine w_tup ?_
  | with_reducible refine w_sl ?_ | with_reducible refine w_noPart ?_ | with_reducible refine w_part ?_ | with_reducible refine w_ex1 ?_ | with_reducible refine w_exb ?_ | with_reducible refine w_intB ?_ | with_reducible refine w_intI ?_ | with_reducible refine w_abs ?_)
local macro_rules | `(tactic| walk_at "rv ix") => `(tactic| ((with_reducible show rIxL _ _ _ _ _); refine' w_ixL (sq_lst ?ha) ?hb ?_; (case ha => first | exact upd_same | assumption); (case hb => first | exact rfl | assumption)))
local macro_rules | `(tactic| walk_at "rv ar") => `(tactic| first
  | (refine' w_I ?hc ?_; (case hc => first | (show (0 : Int) < _; first | assumption | decide | omega) | exact pow_c (by decide) (by decide) (by first | decide | omega) (by first | decide | omega) | exact mul_r (by first | decide | omega) (by first | decide | omega) | exact mul_l (by first | decide | omega) (by first | decide | omega) | exact divw (by first | assumption | decide | omega) (by first | assumption | decide | omega))))
local macro_rules | `(tactic| walk_at "rv go") => `(tactic| repeat first | walk_at "rv st" | walk_at "rv ix" | ((with_reducible show rI _ _ _ _ _ _); walk_at "rv ar"))
end Rv
/-! enumerate of a tuple, and of a list or a tuple. -/
namespace PySem
open Sem (wp)
open AutoSeq1 (wpAny_loadPart')
end PySem
namespace Rv
open PySem PySem.Spec PyProof.Rows L2
end Rv
namespace Rv
open PySem PySem.Spec PyProof.Rows L2
/-! values: is it an integer -/
local macro_rules | `(tactic| walk_at "rv st") => `(tactic| first
  | with_reducible refine iteT ?_ | with_reducible refine iteF ?_ | with_reducible refine w_nx ?_ | with_reducible refine w_yes ?_ | with_reducible refine w_rt ?_ | with_reducible refine iteNT ?_ | with_reducible refine iteNF ?_ | with_reducible refine iteNRf ?_ | with_reducible refine iteRf ?_ | with_reducible refine w_seqA ?_ | with_reducible refine w_seqD ?_ | with_reducible refine w_seqP ?_ | with_reducible refine w_asg ?_ | with_reducible refine w_ret ?_ | with_reducible refine w_drop ?_ | with_reducible refine w_ifs ?_ | with_reducible refine w_next ?_ | with_reducible refine w_par ?_
  | with_reducible refine w_op ?_ | with_reducible refine w_un ?_ | ((with_reducible show tVar _ _ _ _); refine' w_var ?hv ?_; (case hv => exact rfl)) | with_reducible refine w_c ?_ | with_reducible refine w_test ?_ | with_reducible refine w_tB ?_
  | with_reducible refine w_bl ?_ | with_reducible refine w_I0 ?_ | with_reducible refine w_U ?_ | with_reducible refine w_eqI ?_ | with_reducible refine w_neI ?_
  | with_reducible refine w_cons ?_ | with_reducible refine w_nil ?_ | with_reducible refine w_gn ?_ | with_reducible refine w_gsub ?_ | with_reducible refine w_and ?_ | with_reducible refine w_or ?_ | with_reducible refine w_not ?_
  | with_reducible refine w_andV ?_ | with_reducible refine w_orV ?_ | with_reducible refine w_notV ?_ | with_reducible refine w_if ?_ | with_reducible refine w_cb ?_ | with_reducible refine w_call ?_ | with_reducible refine w_lst ?_ | with_reducible refine w_tup ?_
  | with_reducible refine w_sl ?_ | with_reducible refine w_noPart ?_ | with_reducible refine w_part ?_ | with_reducible refine w_ex1 ?_ | with_reducible refine w_exb ?_ | with_reducible refine w_intB ?_ | with_reducible refine w_intI ?_ | with_reducible refine w_abs ?_)
local macro_rules | `(tactic| walk_at "rv ix") => `(tactic| ((with_reducible show rIxL _ _ _ _ _); refine' w_ixL (sq_lst ?ha) ?hb ?_; (case ha => first | exact upd_same | assumption); (case hb => first | exact rfl | assumption)))
local macro_rules | `(tactic| walk_at "rv ar") => `(tactic| first
  | (refine' w_I ?hc ?_; (case hc => first | (show (0 : Int) < _; first | assumption | decide | omega) | exact pow_c (by decide) (by decide) (by first | decide | omega) (by first | decide | omega) | exact mul_r (by first | decide | omega) (by first | decide | omega) | exact mul_l (by first | decide | omega) (by first | decide | omega) | exact divw (by first | assumption | decide | omega) (by first | assumption | decide | omega))))
local macro_rules | `(tactic| walk_at "rv go") => `(tactic| repeat first | walk_at "rv st" | walk_at "rv ix" | ((with_reducible show rI _ _ _ _ _ _); walk_at "rv ar"))
end Rv
/-! Operators, comparisons and len of instances of a class with its own defs for them. -/
namespace Rv
open PySem PySem.Spec PyProof.Rows L2
end Rv
namespace Rv
open PySem PySem.Spec PyProof.Rows L2
/-! fractions in the heap -/
local macro_rules | `(tactic| walk_at "rv st") => `(tactic| first
  | with_reducible refine iteT ?_ | with_reducible refine iteF ?_ | with_reducible refine w_nx ?_ | with_reducible refine w_yes ?_ | with_reducible refine w_rt ?_ | with_reducible refine iteNT ?_ | with_reducible refine iteNF ?_ | with_reducible refine iteNRf ?_ | with_reducible refine iteRf ?_ | with_reducible refine w_seqA ?_ | with_reducible refine w_seqD ?_ | with_reducible refine w_seqP ?_ | with_reducible refine w_asg ?_ | with_reducible refine w_ret ?_ | with_reducible refine w_drop ?_ | with_reducible refine w_ifs ?_ | with_reducible refine w_next ?_ | with_reducible refine w_par ?_
  | with_reducible refine w_op ?_ | with_reducible refine w_un ?_ | ((with_reducible show tVar _ _ _ _); refine' w_var ?hv ?_; (case hv => exact rfl)) | with_reducible refine w_c ?_ | with_reducible refine w_test ?_ | with_reducible refine w_tB ?_
  | with_reducible refine w_bl ?_ | with_reducible refine w_I0 ?_ | with_reducible refine w_U ?_ | with_reducible refine w_eqI ?_ | with_reducible refine w_neI ?_
  | with_reducible refine w_cons ?_ | with_reducible refine w_nil ?_ | with_reducible refine w_gn ?_ | with_reducible refine w_gsub ?_ | with_reducible refine w_and ?_ | with_reducible refine w_or ?_ | with_reducible refine w_not ?_
  | with_reducible refine w_andV ?_ | with_reducible refine w_orV ?_ | with_reducible refine w_notV ?_ | with_reducible refine w_if ?_ | with_reducible refine w_cb ?_ | with_reducible refine w_call ?_ | with_reducible refine w_lst ?_ | with_reducible refine w_tup ?_
  | with_reducible refine w_sl ?_ | with_reducible refine w_noPart ?_ | with_reducible refine w_part ?_ | with_reducible refine w_ex1 ?_ | with_reducible refine w_exb ?_ | with_reducible refine w_intB ?_ | with_reducible refine w_intI ?_ | with_reducible refine w_abs ?_)
local macro_rules | `(tactic| walk_at "rv ix") => `(tactic| ((with_reducible show rIxL _ _ _ _ _); refine' w_ixL (sq_lst ?ha) ?hb ?_; (case ha => first | exact upd_same | assumption); (case hb => first | exact rfl | assumption)))
local macro_rules | `(tactic| walk_at "rv ar") => `(tactic| first
  | (refine' w_I ?hc ?_; (case hc => first | (show (0 : Int) < _; first | assumption | decide | omega) | exact pow_c (by decide) (by decide) (by first | decide | omega) (by first | decide | omega) | exact mul_r (by first | decide | omega) (by first | decide | omega) | exact mul_l (by first | decide | omega) (by first | decide | omega) | exact divw (by first | assumption | decide | omega) (by first | assumption | decide | omega))))
local macro_rules | `(tactic| walk_at "rv go") => `(tactic| repeat first | walk_at "rv st" | walk_at "rv ix" | ((with_reducible show rI _ _ _ _ _ _); walk_at "rv ar"))
end Rv
/-! The head's tests of the classes Profile and Ratio. -/
namespace Rv
open PySem PySem.Spec PyProof.Rows L2
end Rv
namespace Rv
open PySem PySem.Spec PyProof.Rows L2
local macro_rules | `(tactic| walk_at "rv st") => `(tactic| first
  | with_reducible refine iteT ?_ | with_reducible refine iteF ?_ | with_reducible refine w_nx ?_ | with_reducible refine w_yes ?_ | with_reducible refine w_rt ?_ | with_reducible refine iteNT ?_ | with_reducible refine iteNF ?_ | with_reducible refine iteNRf ?_ | with_reducible refine iteRf ?_ | with_reducible refine w_seqA ?_ | with_reducible refine w_seqD ?_ | with_reducible refine w_seqP ?_ | with_reducible refine w_asg ?_ | with_reducible refine w_ret ?_ | with_reducible refine w_drop ?_ | with_reducible refine w_ifs ?_ | with_reducible refine w_next ?_ | with_reducible refine w_par ?_
  | with_reducible refine w_op ?_ | with_reducible refine w_un ?_ | ((with_reducible show tVar _ _ _ _); refine' w_var ?hv ?_; (case hv => exact rfl)) | with_reducible refine w_c ?_ | with_reducible refine w_test ?_ | with_reducible refine w_tB ?_
  | with_reducible refine w_bl ?_ | with_reducible refine w_I0 ?_ | with_reducible refine w_U ?_ | with_reducible refine w_eqI ?_ | with_reducible refine w_neI ?_
  | with_reducible refine w_cons ?_ | with_reducible refine w_nil ?_ | with_reducible refine w_gn ?_ | with_reducible refine w_gsub ?_ | with_reducible refine w_and ?_ | with_reducible refine w_or ?_ | with_reducible refine w_not ?_
  | with_reducible refine w_andV ?_ | with_reducible refine w_orV ?_ | with_reducible refine w_notV ?_ | with_reducible refine w_if ?_ | with_reducible refine w_cb ?_ | with_reducible refine w_call ?_ | with_reducible refine w_lst ?_ | with_reducible refine w_tup ?_
  | with_reducible refine w_sl ?_ | with_reducible refine w_noPart ?_ | with_reducible refine w_part ?_ | with_reducible refine w_ex1 ?_ | with_reducible refine w_exb ?_ | with_reducible refine w_intB ?_ | with_reducible refine w_intI ?_ | with_reducible refine w_abs ?_)
local macro_rules | `(tactic| walk_at "rv ix") => `(tactic| ((with_reducible show rIxL _ _ _ _ _); refine' w_ixL (sq_lst ?ha) ?hb ?_; (case ha => first | exact upd_same | assumption); (case hb => first | exact rfl | assumption)))
local macro_rules | `(tactic| walk_at "rv ar") => `(tactic| first
  | (refine' w_I ?hc ?_; (case hc => first | (show (0 : Int) < _; first | assumption | decide | omega) | exact pow_c (by decide) (by decide) (by first | decide | omega) (by first | decide | omega) | exact mul_r (by first | decide | omega) (by first | decide | omega) | exact mul_l (by first | decide | omega) (by first | decide | omega) | exact divw (by first | assumption | decide | omega) (by first | assumption | decide | omega))))
local macro_rules | `(tactic| walk_at "rv go") => `(tactic| repeat first | walk_at "rv st" | walk_at "rv ix" | ((with_reducible show rI _ _ _ _ _ _); walk_at "rv ar"))
end Rv
namespace Rv
open PySem PySem.Spec PyProof.Rows L2
local macro_rules | `(tactic| walk_at "rv st") => `(tactic| first
  | with_reducible refine iteT ?_ | with_reducible refine iteF ?_ | with_reducible refine w_nx ?_ | with_reducible refine w_yes ?_ | with_reducible refine w_rt ?_ | with_reducible refine iteNT ?_ | with_reducible refine iteNF ?_ | with_reducible refine iteNRf ?_ | with_reducible refine iteRf ?_ | with_reducible refine w_seqA ?_ | with_reducible refine w_seqD ?_ | with_reducible refine w_seqP ?_ | with_reducible refine w_asg ?_ | with_reducible refine w_ret ?_ | with_reducible refine w_drop ?_ | with_reducible refine w_ifs ?_ | with_reducible refine w_next ?_ | with_reducible refine w_par ?_
  | with_reducible refine w_op ?_ | with_reducible refine w_un ?_ | ((with_reducible show tVar _ _ _ _); refine' w_var ?hv ?_; (case hv => exact rfl)) | with_reducible refine w_c ?_ | with_reducible refine w_test ?_ | with_reducible refine w_tB ?_
  | with_reducible refine w_bl ?_ | with_reducible refine w_I0 ?_ | with_reducible refine w_U ?_ | with_reducible refine w_eqI ?_ | with_reducible refine w_neI ?_
  | with_reducible refine w_cons ?_ | with_reducible refine w_nil ?_ | with_reducible refine w_gn ?_ | with_reducible refine w_gsub ?_ | with_reducible refine w_and ?_ | with_reducible refine w_or ?_ | with_reducible refine w_not ?_
  | with_reducible refine w_andV ?_ | with_reducible refine w_orV ?_ | with_reducible refine w_notV ?_ | with_reducible refine w_if ?_ | with_reducible refine w_cb ?_ | with_reducible refine w_call ?_ | with_reducible refine w_lst ?_ | with_reducible refine w_tup ?_
  | with_reducible refine w_sl ?_ | with_reducible refine w_noPart ?_ | with_reducible refine w_part ?_ | with_reducible refine w_ex1 ?_ | with_reducible refine w_exb ?_ | with_reducible refine w_intB ?_ | with_reducible refine w_intI ?_ | with_reducible refine w_abs ?_)
local macro_rules | `(tactic| walk_at "rv ix") => `(tactic| ((with_reducible show rIxL _ _ _ _ _); refine' w_ixL (sq_lst ?ha) ?hb ?_; (case ha => first | exact upd_same | assumption); (case hb => first | exact rfl | assumption)))
local macro_rules | `(tactic| walk_at "rv ar") => `(tactic| first
  | (refine' w_I ?hc ?_; (case hc => first | (show (0 : Int) < _; first | assumption | decide | omega) | exact pow_c (by decide) (by decide) (by first | decide | omega) (by first | decide | omega) | exact mul_r (by first | decide | omega) (by first | decide | omega) | exact mul_l (by first | decide | omega) (by first | decide | omega) | exact divw (by first | assumption | decide | omega) (by first | assumption | decide | omega))))
local macro_rules | `(tactic| walk_at "rv go") => `(tactic| repeat first | walk_at "rv st" | walk_at "rv ix" | ((with_reducible show rI _ _ _ _ _ _); walk_at "rv ar"))
end Rv
/-! Calls by keywords alone. -/
namespace Rv
open PySem PySem.Spec PyProof.Rows L2
end Rv
/-! Defs that are run where no guard is under way: what repr of lists and tuples asks. -/
namespace Rv
open PySem PySem.Spec PyProof.Rows L2
end Rv
/-! Texts of lists of ints, and of own instances whose def makes a text. -/
namespace Rv
open PySem PySem.Spec PyProof.Rows L2
end Rv
/-! t[::-1] of a tuple. -/
namespace Rv
open PySem PySem.Spec PyProof.Rows L2
end Rv
/-! Comparisons of an int with an instance of an own class: the int declines, the class's own def answers; own comparisons with values of any kind. -/
namespace Rv
open PySem PySem.Spec PyProof.Rows L2
end Rv
/-! Own comparisons with values of any kind, in both orders. -/
namespace Rv
open PySem PySem.Spec PyProof.Rows L2
/-! lowest terms -/
end Rv
/-! != of instances with an own == and no own !=; + of two own instances. -/
namespace PySem.W
open PySem PySem.Spec PyProof.Rows
end PySem.W
namespace Rv
open PySem PySem.Spec PyProof.Rows L2
end Rv
/-! Base.__init__(self, ..) where Base is an own class under ValueError that has no __init__ of its own. -/
namespace Rv
open PySem PySem.Spec PyProof.Rows L2
end Rv
/-! An own exception class called with keywords: BaseException.__new__ takes them, the own __init__ binds them. -/
namespace PySem.HandSPX
open PySem PySem.W PySem.Calls PyProof.Rows Builtin Builtin.ObjectAttr
end PySem.HandSPX
/-! Own exceptions under any base of the standard ones: fields set in __init__. -/
namespace Rv
open PySem PySem.W PySem.Calls PyProof.Rows PySem.HandSPX Builtin Builtin.ObjectAttr
end Rv
namespace Rv
open PySem PySem.Spec PyProof.Rows L2
/-! readings and rules -/
end Rv
/-! A test of the written part: is the class at C such an exception class. -/
namespace Rv
open PySem PySem.Spec PyProof.Rows L2
/-- own classes, then the standard class's mro -/
def tlB (bmB : List Value) : List Value → Bool
  | .ref _ :: r => tlB bmB r
  | l => decide (l = bmB)
def cxB (K : PySem.W.Frag) (C : Addr) (newId : String) (bmB : List Value) : Bool := match K.lookup C with
  | some ⟨.type m, _, .cls z, sl⟩ => decide (m = "type") && (match z.mro, sl.toList with
    | .ref D :: r, [_, _, _, _, some (.builtin n), _] => decide (D = C) && (decide (n = newId) && (!z.hasDel && (z.hasDict && tlB bmB r)))
    | _, _ => false)
  | _ => false
/-- all of it by one test -/
def oxB (K : PySem.W.Frag) (x : Str) (newId : String) (bmB : List Value) : Bool := cxB K (He.ga K x) newId bmB && (He.eqO (PySem.W.findIn K (.ref (He.ga K x)) "__setattr__") (some (some (.builtin "object.__setattr__"))) &&
  (decide (PySem.W.subIn K (.ref (He.ga K x)) (.type "BaseException") = some true) && (decide (PySem.W.typeIn K (.ref (He.ga K x)) = some (.type "type")) && PySem.W.keepIn K (.ref (He.ga K x)))))
/-- an own Base without an __init__ -/
def bgB (K : PySem.W.Frag) (x : Str) (i : String) : Bool := PySem.W.readsIn K (He.ga K x) (.type "type") && (He.eqO (PySem.W.specialIn K (.ref (He.ga K x)) "__getattribute__") (some (some (.builtin "type.__getattribute__"))) &&
  (PySem.W.handedIn (.builtin i) && (match PySem.W.findCls K (.ref (He.ga K x)) (.type "type") "__init__" with
    | some (.val (.builtin n)) => decide (n = i)
    | _ => false)))
end Rv
namespace Rv
open PySem PySem.Spec PyProof.Rows L2
/-! exceptions of own classes: raised in defs, caught in the law -/
/-! .. at the state in which the call stands -/
abbrev bm_OverflowError : List Value := [.type "OverflowError", .type "ArithmeticError", .type "Exception", .type "BaseException", .type "object"]
abbrev bm_ValueError : List Value := [.type "ValueError", .type "Exception", .type "BaseException", .type "object"]
abbrev bm_IndexError : List Value := [.type "IndexError", .type "LookupError", .type "Exception", .type "BaseException", .type "object"]
def ecB (K : PySem.W.Frag) (x : Str) : Bool := He.eqO (PySem.W.findIn K (.ref (He.ga K x)) "__getattribute__") (some (some (.builtin "BaseException.__getattribute__"))) && (He.eqO (PySem.W.findIn K (.ref (He.ga K x)) "__getattr__") (some none) &&
  (decide (PySem.W.subIn K (.ref (He.ga K x)) (.type "BaseException") = some true) && (PySem.W.hasDictIn K (He.ga K x) && (He.eqO (PySem.W.findIn K (.ref (He.ga K x)) "__class__") (some (some (.builtin "object.__class__"))) &&
  (He.eqO (PySem.W.specialIn K (.builtin "object.__class__") "__get__") (some (some (.builtin "getset_descriptor.__get__"))) && (decide (PySem.W.takesIn K (.builtin "object.__class__") = some true) && decide (PySem.W.mroIn K (He.ga K x) (.type "object") = some true)))))))
def viB (K : PySem.W.Frag) (b : String) : Bool := match PySem.W.findCls K (.type b) (.type "type") "__init__" with
  | some (.val (.builtin n)) => decide (n = b ++ ".__init__")
  | _ => false
end Rv
namespace Rv
open PySem PySem.Spec PyProof.Rows L2
end Rv
/-! try with several clauses 'except C as n' of one name n. -/
namespace Rv
open PySem PySem.Spec PyProof.Rows L2
end Rv
/-! Own defs that are called while an exception is handled (they raise nothing themselves), and repr there. -/
namespace Rv
open PySem PySem.Spec PyProof.Rows L2 L2H
end Rv
namespace Rv
open PySem PySem.Spec PyProof.Rows L2
local macro_rules | `(tactic| walk_at "rv st") => `(tactic| first
  | with_reducible refine iteT ?_ | with_reducible refine iteF ?_ | with_reducible refine w_nx ?_ | with_reducible refine w_yes ?_ | with_reducible refine w_rt ?_ | with_reducible refine iteNT ?_ | with_reducible refine iteNF ?_ | with_reducible refine iteNRf ?_ | with_reducible refine iteRf ?_ | with_reducible refine w_seqA ?_ | with_reducible refine w_seqD ?_ | with_reducible refine w_seqP ?_ | with_reducible refine w_asg ?_ | with_reducible refine w_ret ?_ | with_reducible refine w_drop ?_ | with_reducible refine w_ifs ?_ | with_reducible refine w_next ?_ | with_reducible refine w_par ?_
  | with_reducible refine w_op ?_ | with_reducible refine w_un ?_ | ((with_reducible show tVar _ _ _ _); refine' w_var ?hv ?_; (case hv => exact rfl)) | with_reducible refine w_c ?_ | with_reducible refine w_test ?_ | with_reducible refine w_tB ?_
  | with_reducible refine w_bl ?_ | with_reducible refine w_I0 ?_ | with_reducible refine w_U ?_ | with_reducible refine w_eqI ?_ | with_reducible refine w_neI ?_
  | with_reducible refine w_cons ?_ | with_reducible refine w_nil ?_ | with_reducible refine w_gn ?_ | with_reducible refine w_gsub ?_ | with_reducible refine w_and ?_ | with_reducible refine w_or ?_ | with_reducible refine w_not ?_
  | with_reducible refine w_andV ?_ | with_reducible refine w_orV ?_ | with_reducible refine w_notV ?_ | with_reducible refine w_if ?_ | with_reducible refine w_cb ?_ | with_reducible refine w_call ?_ | with_reducible refine w_lst ?_ | with_reducible refine w_tup ?_
  | with_reducible refine w_sl ?_ | with_reducible refine w_noPart ?_ | with_reducible refine w_part ?_ | with_reducible refine w_ex1 ?_ | with_reducible refine w_exb ?_ | with_reducible refine w_intB ?_ | with_reducible refine w_intI ?_ | with_reducible refine w_abs ?_)
local macro_rules | `(tactic| walk_at "rv ix") => `(tactic| ((with_reducible show rIxL _ _ _ _ _); refine' w_ixL (sq_lst ?ha) ?hb ?_; (case ha => first | exact upd_same | assumption); (case hb => first | exact rfl | assumption)))
local macro_rules | `(tactic| walk_at "rv ar") => `(tactic| first
  | (refine' w_I ?hc ?_; (case hc => first | (show (0 : Int) < _; first | assumption | decide | omega) | exact pow_c (by decide) (by decide) (by first | decide | omega) (by first | decide | omega) | exact mul_r (by first | decide | omega) (by first | decide | omega) | exact mul_l (by first | decide | omega) (by first | decide | omega) | exact divw (by first | assumption | decide | omega) (by first | assumption | decide | omega))))
local macro_rules | `(tactic| walk_at "rv go") => `(tactic| repeat first | walk_at "rv st" | walk_at "rv ix" | ((with_reducible show rI _ _ _ _ _ _); walk_at "rv ar"))
end Rv
namespace Rv
open PySem PySem.Spec PyProof.Rows L2
local macro_rules | `(tactic| walk_at "rv st") => `(tactic| first
  | with_reducible refine iteT ?_ | with_reducible refine iteF ?_ | with_reducible refine w_nx ?_ | with_reducible refine w_yes ?_ | with_reducible refine w_rt ?_ | with_reducible refine iteNT ?_ | with_reducible refine iteNF ?_ | with_reducible refine iteNRf ?_ | with_reducible refine iteRf ?_ | with_reducible refine w_seqA ?_ | with_reducible refine w_seqD ?_ | with_reducible refine w_seqP ?_ | with_reducible refine w_asg ?_ | with_reducible refine w_ret ?_ | with_reducible refine w_drop ?_ | with_reducible refine w_ifs ?_ | with_reducible refine w_next ?_ | with_reducible refine w_par ?_
  | with_reducible refine w_op ?_ | with_reducible refine w_un ?_ | ((with_reducible show tVar _ _ _ _); refine' w_var ?hv ?_; (case hv => exact rfl)) | with_reducible refine w_c ?_ | with_reducible refine w_test ?_ | with_reducible refine w_tB ?_
  | with_reducible refine w_bl ?_ | with_reducible refine w_I0 ?_ | with_reducible refine w_U ?_ | with_reducible refine w_eqI ?_ | with_reducible refine w_neI ?_
  | with_reducible refine w_cons ?_ | with_reducible refine w_nil ?_ | with_reducible refine w_gn ?_ | with_reducible refine w_gsub ?_ | with_reducible refine w_and ?_ | with_reducible refine w_or ?_ | with_reducible refine w_not ?_
  | with_reducible refine w_andV ?_ | with_reducible refine w_orV ?_ | with_reducible refine w_notV ?_ | with_reducible refine w_if ?_ | with_reducible refine w_cb ?_ | with_reducible refine w_call ?_ | with_reducible refine w_lst ?_ | with_reducible refine w_tup ?_
  | with_reducible refine w_sl ?_ | with_reducible refine w_noPart ?_ | with_reducible refine w_part ?_ | with_reducible refine w_ex1 ?_ | with_reducible refine w_exb ?_ | with_reducible refine w_intB ?_ | with_reducible refine w_intI ?_ | with_reducible refine w_abs ?_)
local macro_rules | `(tactic| walk_at "rv ix") => `(tactic| ((with_reducible show rIxL _ _ _ _ _); refine' w_ixL (sq_lst ?ha) ?hb ?_; (case ha => first | exact upd_same | assumption); (case hb => first | exact rfl | assumption)))
local macro_rules | `(tactic| walk_at "rv ar") => `(tactic| first
  | (refine' w_I ?hc ?_; (case hc => first | (show (0 : Int) < _; first | assumption | decide | omega) | exact pow_c (by decide) (by decide) (by first | decide | omega) (by first | decide | omega) | exact mul_r (by first | decide | omega) (by first | decide | omega) | exact mul_l (by first | decide | omega) (by first | decide | omega) | exact divw (by first | assumption | decide | omega) (by first | assumption | decide | omega))))
local macro_rules | `(tactic| walk_at "rv go") => `(tactic| repeat first | walk_at "rv st" | walk_at "rv ix" | ((with_reducible show rI _ _ _ _ _ _); walk_at "rv ar"))
end Rv
namespace Rv
open PySem PySem.Spec PyProof.Rows L2
local macro_rules | `(tactic| walk_at "rv st") => `(tactic| first
  | with_reducible refine iteT ?_ | with_reducible refine iteF ?_ | with_reducible refine w_nx ?_ | with_reducible refine w_yes ?_ | with_reducible refine w_rt ?_ | with_reducible refine iteNT ?_ | with_reducible refine iteNF ?_ | with_reducible refine iteNRf ?_ | with_reducible refine iteRf ?_ | with_reducible refine w_seqA ?_ | with_reducible refine w_seqD ?_ | with_reducible refine w_seqP ?_ | with_reducible refine w_asg ?_ | with_reducible refine w_ret ?_ | with_reducible refine w_drop ?_ | with_reducible refine w_ifs ?_ | with_reducible refine w_next ?_ | with_reducible refine w_par ?_
  | with_reducible refine w_op ?_ | with_reducible refine w_un ?_ | ((with_reducible show tVar _ _ _ _); refine' w_var ?hv ?_; (case hv => exact rfl)) | with_reducible refine w_c ?_ | with_reducible refine w_test ?_ | with_reducible refine w_tB ?_
  | with_reducible refine w_bl ?_ | with_reducible refine w_I0 ?_ | with_reducible refine w_U ?_ | with_reducible refine w_eqI ?_ | with_reducible refine w_neI ?_
  | with_reducible refine w_cons ?_ | with_reducible refine w_nil ?_ | with_reducible refine w_gn ?_ | with_reducible refine w_gsub ?_ | with_reducible refine w_and ?_ | with_reducible refine w_or ?_ | with_reducible refine w_not ?_
  | with_reducible refine w_andV ?_ | with_reducible refine w_orV ?_ | with_reducible refine w_notV ?_ | with_reducible refine w_if ?_ | with_reducible refine w_cb ?_ | with_reducible refine w_call ?_ | with_reducible refine w_lst ?_ | with_reducible refine w_tup ?_
  | with_reducible refine w_sl ?_ | with_reducible refine w_noPart ?_ | with_reducible refine w_part ?_ | with_reducible refine w_ex1 ?_ | with_reducible refine w_exb ?_ | with_reducible refine w_intB ?_ | with_reducible refine w_intI ?_ | with_reducible refine w_abs ?_)
local macro_rules | `(tactic| walk_at "rv ix") => `(tactic| ((with_reducible show rIxL _ _ _ _ _); refine' w_ixL (sq_lst ?ha) ?hb ?_; (case ha => first | exact upd_same | assumption); (case hb => first | exact rfl | assumption)))
local macro_rules | `(tactic| walk_at "rv ar") => `(tactic| first
  | (refine' w_I ?hc ?_; (case hc => first | (show (0 : Int) < _; first | assumption | decide | omega) | exact pow_c (by decide) (by decide) (by first | decide | omega) (by first | decide | omega) | exact mul_r (by first | decide | omega) (by first | decide | omega) | exact mul_l (by first | decide | omega) (by first | decide | omega) | exact divw (by first | assumption | decide | omega) (by first | assumption | decide | omega))))
local macro_rules | `(tactic| walk_at "rv go") => `(tactic| repeat first | walk_at "rv st" | walk_at "rv ix" | ((with_reducible show rI _ _ _ _ _ _); walk_at "rv ar"))
end Rv
namespace Rv
open PySem PySem.Spec PyProof.Rows L2
local macro_rules | `(tactic| walk_at "rv st") => `(tactic| first
  | with_reducible refine iteT ?_ | with_reducible refine iteF ?_ | with_reducible refine w_nx ?_ | with_reducible refine w_yes ?_ | with_reducible refine w_rt ?_ | with_reducible refine iteNT ?_ | with_reducible refine iteNF ?_ | with_reducible refine iteNRf ?_ | with_reducible refine iteRf ?_ | with_reducible refine w_seqA ?_ | with_reducible refine w_seqD ?_ | with_reducible refine w_seqP ?_ | with_reducible refine w_asg ?_ | with_reducible refine w_ret ?_ | with_reducible refine w_drop ?_ | with_reducible refine w_ifs ?_ | with_reducible refine w_next ?_ | with_reducible refine w_par ?_
  | with_reducible refine w_op ?_ | with_reducible refine w_un ?_ | ((with_reducible show tVar _ _ _ _); refine' w_var ?hv ?_; (case hv => exact rfl)) | with_reducible refine w_c ?_ | with_reducible refine w_test ?_ | with_reducible refine w_tB ?_
  | with_reducible refine w_bl ?_ | with_reducible refine w_I0 ?_ | with_reducible refine w_U ?_ | with_reducible refine w_eqI ?_ | with_reducible refine w_neI ?_
  | with_reducible refine w_cons ?_ | with_reducible refine w_nil ?_ | with_reducible refine w_gn ?_ | with_reducible refine w_gsub ?_ | with_reducible refine w_and ?_ | with_reducible refine w_or ?_ | with_reducible refine w_not ?_
  | with_reducible refine w_andV ?_ | with_reducible refine w_orV ?_ | with_reducible refine w_notV ?_ | with_reducible refine w_if ?_ | with_reducible refine w_cb ?_ | with_reducible refine w_call ?_ | with_reducible refine w_lst ?_ | with_reducible refine w_tup ?_
  | with_reducible refine w_sl ?_ | with_reducible refine w_noPart ?_ | with_reducible refine w_part ?_ | with_reducible refine w_ex1 ?_ | with_reducible refine w_exb ?_ | with_reducible refine w_intB ?_ | with_reducible refine w_intI ?_ | with_reducible refine w_abs ?_)
local macro_rules | `(tactic| walk_at "rv ix") => `(tactic| ((with_reducible show rIxL _ _ _ _ _); refine' w_ixL (sq_lst ?ha) ?hb ?_; (case ha => first | exact upd_same | assumption); (case hb => first | exact rfl | assumption)))
local macro_rules | `(tactic| walk_at "rv ar") => `(tactic| first
  | (refine' w_I ?hc ?_; (case hc => first | (show (0 : Int) < _; first | assumption | decide | omega) | exact pow_c (by decide) (by decide) (by first | decide | omega) (by first | decide | omega) | exact mul_r (by first | decide | omega) (by first | decide | omega) | exact mul_l (by first | decide | omega) (by first | decide | omega) | exact divw (by first | assumption | decide | omega) (by first | assumption | decide | omega))))
local macro_rules | `(tactic| walk_at "rv go") => `(tactic| repeat first | walk_at "rv st" | walk_at "rv ix" | ((with_reducible show rI _ _ _ _ _ _); walk_at "rv ar"))
end Rv
namespace Rv
open PySem PySem.Spec PyProof.Rows L2
local macro_rules | `(tactic| walk_at "rv st") => `(tactic| first
  | with_reducible refine iteT ?_ | with_reducible refine iteF ?_ | with_reducible refine w_nx ?_ | with_reducible refine w_yes ?_ | with_reducible refine w_rt ?_ | with_reducible refine iteNT ?_ | with_reducible refine iteNF ?_ | with_reducible refine iteNRf ?_ | with_reducible refine iteRf ?_ | with_reducible refine w_seqA ?_ | with_reducible refine w_seqD ?_ | with_reducible refine w_seqP ?_ | with_reducible refine w_asg ?_ | with_reducible refine w_ret ?_ | with_reducible refine w_drop ?_ | with_reducible refine w_ifs ?_ | with_reducible refine w_next ?_ | with_reducible refine w_par ?_
  | with_reducible refine w_op ?_ | with_reducible refine w_un ?_ | ((with_reducible show tVar _ _ _ _); refine' w_var ?hv ?_; (case hv => exact rfl)) | with_reducible refine w_c ?_ | with_reducible refine w_test ?_ | with_reducible refine w_tB ?_
  | with_reducible refine w_bl ?_ | with_reducible refine w_I0 ?_ | with_reducible refine w_U ?_ | with_reducible refine w_eqI ?_ | with_reducible refine w_neI ?_
  | with_reducible refine w_cons ?_ | with_reducible refine w_nil ?_ | with_reducible refine w_gn ?_ | with_reducible refine w_gsub ?_ | with_reducible refine w_and ?_ | with_reducible refine w_or ?_ | with_reducible refine w_not ?_
  | with_reducible refine w_andV ?_ | with_reducible refine w_orV ?_ | with_reducible refine w_notV ?_ | with_reducible refine w_if ?_ | with_reducible refine w_cb ?_ | with_reducible refine w_call ?_ | with_reducible refine w_lst ?_ | with_reducible refine w_tup ?_
  | with_reducible refine w_sl ?_ | with_reducible refine w_noPart ?_ | with_reducible refine w_part ?_ | with_reducible refine w_ex1 ?_ | with_reducible refine w_exb ?_ | with_reducible refine w_intB ?_ | with_reducible refine w_intI ?_ | with_reducible refine w_abs ?_)
local macro_rules | `(tactic| walk_at "rv ix") => `(tactic| ((with_reducible show rIxL _ _ _ _ _); refine' w_ixL (sq_lst ?ha) ?hb ?_; (case ha => first | exact upd_same | assumption); (case hb => first | exact rfl | assumption)))
local macro_rules | `(tactic| walk_at "rv ar") => `(tactic| first
  | (refine' w_I ?hc ?_; (case hc => first | (show (0 : Int) < _; first | assumption | decide | omega) | exact pow_c (by decide) (by decide) (by first | decide | omega) (by first | decide | omega) | exact mul_r (by first | decide | omega) (by first | decide | omega) | exact mul_l (by first | decide | omega) (by first | decide | omega) | exact divw (by first | assumption | decide | omega) (by first | assumption | decide | omega))))
local macro_rules | `(tactic| walk_at "rv go") => `(tactic| repeat first | walk_at "rv st" | walk_at "rv ix" | ((with_reducible show rI _ _ _ _ _ _); walk_at "rv ar"))
end Rv
namespace RvM
open PySem PySem.Spec PyProof.Rows L2 Rv
local macro_rules | `(tactic| walk_at "rv st") => `(tactic| first
  | with_reducible refine iteT ?_ | with_reducible refine iteF ?_ | with_reducible refine w_nx ?_ | with_reducible refine w_yes ?_ | with_reducible refine w_rt ?_ | with_reducible refine iteNT ?_ | with_reducible refine iteNF ?_ | with_reducible refine iteNRf ?_ | with_reducible refine iteRf ?_ | with_reducible refine w_seqA ?_ | with_reducible refine w_seqD ?_ | with_reducible refine w_seqP ?_ | with_reducible refine w_asg ?_ | with_reducible refine w_ret ?_ | with_reducible refine w_drop ?_ | with_reducible refine w_ifs ?_ | with_reducible refine w_next ?_ | with_reducible refine w_par ?_
  | with_reducible refine w_op ?_ | with_reducible refine w_un ?_ | ((with_reducible show tVar _ _ _ _); refine' w_var ?hv ?_; (case hv => exact rfl)) | with_reducible refine w_c ?_ | with_reducible refine w_test ?_ | with_reducible refine w_tB ?_
  | with_reducible refine w_bl ?_ | with_reducible refine w_I0 ?_ | with_reducible refine w_U ?_ | with_reducible refine w_eqI ?_ | with_reducible refine w_neI ?_
  | with_reducible refine w_cons ?_ | with_reducible refine w_nil ?_ | with_reducible refine w_gn ?_ | with_reducible refine w_gsub ?_ | with_reducible refine w_and ?_ | with_reducible refine w_or ?_ | with_reducible refine w_not ?_
  | with_reducible refine w_andV ?_ | with_reducible refine w_orV ?_ | with_reducible refine w_notV ?_ | with_reducible refine w_if ?_ | with_reducible refine w_cb ?_ | with_reducible refine w_call ?_ | with_reducible refine w_lst ?_ | with_reducible refine w_tup ?_
  | with_reducible refine w_sl ?_ | with_reducible refine w_noPart ?_ | with_reducible refine w_part ?_ | with_reducible refine w_ex1 ?_ | with_reducible refine w_exb ?_ | with_reducible refine w_intB ?_ | with_reducible refine w_intI ?_ | with_reducible refine w_abs ?_)
local macro_rules | `(tactic| walk_at "rv ix") => `(tactic| ((with_reducible show rIxL _ _ _ _ _); refine' w_ixL (sq_lst ?ha) ?hb ?_; (case ha => first | exact upd_same | assumption); (case hb => first | exact rfl | assumption)))
local macro_rules | `(tactic| walk_at "rv ar") => `(tactic| first
  | (refine' w_I ?hc ?_; (case hc => first | (show (0 : Int) < _; first | assumption | decide | omega) | exact pow_c (by decide) (by decide) (by first | decide | omega) (by first | decide | omega) | exact mul_r (by first | decide | omega) (by first | decide | omega) | exact mul_l (by first | decide | omega) (by first | decide | omega) | exact divw (by first | assumption | decide | omega) (by first | assumption | decide | omega))))
local macro_rules | `(tactic| walk_at "rv go") => `(tactic| repeat first | walk_at "rv st" | walk_at "rv ix" | ((with_reducible show rI _ _ _ _ _ _); walk_at "rv ar"))
end RvM
/-! str, bool, abs and unary minus of own instances. -/
namespace PySem.W
open PySem PySem.Calls PyProof.Rows Builtin
end PySem.W
namespace Rv
open PySem PySem.Spec PyProof.Rows L2
end Rv
namespace Rv
open PySem PySem.Spec PyProof.Rows L2
local macro_rules | `(tactic| walk_at "rv st") => `(tactic| first
  | with_reducible refine iteT ?_ | with_reducible refine iteF ?_ | with_reducible refine w_nx ?_ | with_reducible refine w_yes ?_ | with_reducible refine w_rt ?_ | with_reducible refine iteNT ?_ | with_reducible refine iteNF ?_ | with_reducible refine iteNRf ?_ | with_reducible refine iteRf ?_ | with_reducible refine w_seqA ?_ | with_reducible refine w_seqD ?_ | with_reducible refine w_seqP ?_ | with_reducible refine w_asg ?_ | with_reducible refine w_ret ?_ | with_reducible refine w_drop ?_ | with_reducible refine w_ifs ?_ | with_reducible refine w_next ?_ | with_reducible refine w_par ?_
  | with_reducible refine w_op ?_ | with_reducible refine w_un ?_ | ((with_reducible show tVar _ _ _ _); refine' w_var ?hv ?_; (case hv => exact rfl)) | with_reducible refine w_c ?_ | with_reducible refine w_test ?_ | with_reducible refine w_tB ?_
  | with_reducible refine w_bl ?_ | with_reducible refine w_I0 ?_ | with_reducible refine w_U ?_ | with_reducible refine w_eqI ?_ | with_reducible refine w_neI ?_
  | with_reducible refine w_cons ?_ | with_reducible refine w_nil ?_ | with_reducible refine w_gn ?_ | with_reducible refine w_gsub ?_ | with_reducible refine w_and ?_ | with_reducible refine w_or ?_ | with_reducible refine w_not ?_
  | with_reducible refine w_andV ?_ | with_reducible refine w_orV ?_ | with_reducible refine w_notV ?_ | with_reducible refine w_if ?_ | with_reducible refine w_cb ?_ | with_reducible refine w_call ?_ | with_reducible refine w_lst ?_ | with_reducible refine w_tup ?_
  | with_reducible refine w_sl ?_ | with_reducible refine w_noPart ?_ | with_reducible refine w_part ?_ | with_reducible refine w_ex1 ?_ | with_reducible refine w_exb ?_ | with_reducible refine w_intB ?_ | with_reducible refine w_intI ?_ | with_reducible refine w_abs ?_)
local macro_rules | `(tactic| walk_at "rv ix") => `(tactic| ((with_reducible show rIxL _ _ _ _ _); refine' w_ixL (sq_lst ?ha) ?hb ?_; (case ha => first | exact upd_same | assumption); (case hb => first | exact rfl | assumption)))
local macro_rules | `(tactic| walk_at "rv ar") => `(tactic| first
  | (refine' w_I ?hc ?_; (case hc => first | (show (0 : Int) < _; first | assumption | decide | omega) | exact pow_c (by decide) (by decide) (by first | decide | omega) (by first | decide | omega) | exact mul_r (by first | decide | omega) (by first | decide | omega) | exact mul_l (by first | decide | omega) (by first | decide | omega) | exact divw (by first | assumption | decide | omega) (by first | assumption | decide | omega))))
local macro_rules | `(tactic| walk_at "rv go") => `(tactic| repeat first | walk_at "rv st" | walk_at "rv ix" | ((with_reducible show rI _ _ _ _ _ _); walk_at "rv ar"))
end Rv
/-! Own exceptions held as values: made by position and by name, their fields, isinstance; repr of plain data and of {}. -/
namespace Rv
open PySem PySem.Spec PyProof.Rows L2
end Rv
namespace Rv
open PySem PySem.Spec PyProof.Rows L2
abbrev bm_RuntimeError : List Value := [.type "RuntimeError", .type "Exception", .type "BaseException", .type "object"]
abbrev bm_KeyError : List Value := [.type "KeyError", .type "LookupError", .type "Exception", .type "BaseException", .type "object"]
end Rv
namespace Rv
open PySem PySem.Spec PyProof.Rows L2
/-! exceptions as values, by the classes' places -/
def cAt (Cs : List Addr) (i : Nat) : Addr := Cs.getD i 0
def dueN (i : Nat) : List Int := ([[0, 1], [0, 1], [0, 1], [0, 1], [0, 1], [0, 1], [0, 1], [0, 1], [0, 1], [0, 1], [2, 6], [2, 6], [3, 6], [4], [5]] : List (List Int)).getD i []
def tyV (CE : Addr) (j : Nat) : Value := ([.ref CE, .type "ValueError", .type "IndexError", .type "KeyError", .type "OverflowError", .type "RuntimeError", .type "LookupError", .type "TypeError"] : List Value).getD j .none
def ga90 (K : PySem.W.Frag) : List Addr := [He.ga K "InvalidNumber", He.ga K "InvalidProfile", He.ga K "InvalidWidths", He.ga K "InvalidWeights", He.ga K "InvalidObservations", He.ga K "InvalidOperations", He.ga K "ParseError", He.ga K "InvalidCommand", He.ga K "InvalidCascade", He.ga K "ScriptError", He.ga K "InvalidColumn", He.ga K "InvalidValley", He.ga K "UnknownName", He.ga K "LimitExceeded", He.ga K "NothingToUndo"]
def e90B (K : PySem.W.Frag) : Bool := (List.range 15).all fun i => ((List.range 8).all fun j => decide (PySem.W.kitOne K (.ref (cAt (ga90 K) i)) (tyV (He.ga K "RainError") j) = some ((dueN i).contains (j : Int)))) && (List.range 15).all fun j => decide (PySem.W.kitOne K (.ref (cAt (ga90 K) i)) (.ref (cAt (ga90 K) j)) = some (decide (j = i)))
/-! evaluation that only brings new objects -/
/-! the promises -/
local macro_rules | `(tactic| walk_at "rv st") => `(tactic| first
  | with_reducible refine iteT ?_ | with_reducible refine iteF ?_ | with_reducible refine w_nx ?_ | with_reducible refine w_yes ?_ | with_reducible refine w_rt ?_ | with_reducible refine iteNT ?_ | with_reducible refine iteNF ?_ | with_reducible refine iteNRf ?_ | with_reducible refine iteRf ?_ | with_reducible refine w_seqA ?_ | with_reducible refine w_seqD ?_ | with_reducible refine w_seqP ?_ | with_reducible refine w_asg ?_ | with_reducible refine w_ret ?_ | with_reducible refine w_drop ?_ | with_reducible refine w_ifs ?_ | with_reducible refine w_next ?_ | with_reducible refine w_par ?_
  | with_reducible refine w_op ?_ | with_reducible refine w_un ?_ | ((with_reducible show tVar _ _ _ _); refine' w_var ?hv ?_; (case hv => exact rfl)) | with_reducible refine w_c ?_ | with_reducible refine w_test ?_ | with_reducible refine w_tB ?_
  | with_reducible refine w_bl ?_ | with_reducible refine w_I0 ?_ | with_reducible refine w_U ?_ | with_reducible refine w_eqI ?_ | with_reducible refine w_neI ?_
  | with_reducible refine w_cons ?_ | with_reducible refine w_nil ?_ | with_reducible refine w_gn ?_ | with_reducible refine w_gsub ?_ | with_reducible refine w_and ?_ | with_reducible refine w_or ?_ | with_reducible refine w_not ?_
  | with_reducible refine w_andV ?_ | with_reducible refine w_orV ?_ | with_reducible refine w_notV ?_ | with_reducible refine w_if ?_ | with_reducible refine w_cb ?_ | with_reducible refine w_call ?_ | with_reducible refine w_lst ?_ | with_reducible refine w_tup ?_
  | with_reducible refine w_sl ?_ | with_reducible refine w_noPart ?_ | with_reducible refine w_part ?_ | with_reducible refine w_ex1 ?_ | with_reducible refine w_exb ?_ | with_reducible refine w_intB ?_ | with_reducible refine w_intI ?_ | with_reducible refine w_abs ?_)
local macro_rules | `(tactic| walk_at "rv ix") => `(tactic| ((with_reducible show rIxL _ _ _ _ _); refine' w_ixL (sq_lst ?ha) ?hb ?_; (case ha => first | exact upd_same | assumption); (case hb => first | exact rfl | assumption)))
local macro_rules | `(tactic| walk_at "rv ar") => `(tactic| first
  | (refine' w_I ?hc ?_; (case hc => first | (show (0 : Int) < _; first | assumption | decide | omega) | exact pow_c (by decide) (by decide) (by first | decide | omega) (by first | decide | omega) | exact mul_r (by first | decide | omega) (by first | decide | omega) | exact mul_l (by first | decide | omega) (by first | decide | omega) | exact divw (by first | assumption | decide | omega) (by first | assumption | decide | omega))))
local macro_rules | `(tactic| walk_at "rv go") => `(tactic| repeat first | walk_at "rv st" | walk_at "rv ix" | ((with_reducible show rI _ _ _ _ _ _); walk_at "rv ar"))
end Rv
namespace Rv
open PySem PySem.Spec PyProof.Rows L2
def top (i : Nat) : Stmt := PySem.Challenge.pw_rainvalleys_k90_error_classes.main.body.getD i (.Pass ⟨0, 0, 0, 0⟩)
abbrev s_InvalidNumber___init__ : Stmt := inClass (top 2) 0
abbrev s_InvalidProfile___init__ : Stmt := inClass (top 3) 0
abbrev s_InvalidWidths___init__ : Stmt := inClass (top 4) 0
abbrev s_InvalidWeights___init__ : Stmt := inClass (top 5) 0
abbrev s_InvalidObservations___init__ : Stmt := inClass (top 6) 0
abbrev s_InvalidOperations___init__ : Stmt := inClass (top 7) 0
abbrev s_ParseError___init__ : Stmt := inClass (top 8) 0
abbrev s_InvalidCommand___init__ : Stmt := inClass (top 9) 0
abbrev s_InvalidCascade___init__ : Stmt := inClass (top 10) 0
abbrev s_ScriptError___init__ : Stmt := inClass (top 11) 0
abbrev s_InvalidColumn___init__ : Stmt := inClass (top 12) 0
abbrev s_InvalidValley___init__ : Stmt := inClass (top 13) 0
abbrev s_UnknownName___init__ : Stmt := inClass (top 14) 0
abbrev s_LimitExceeded___init__ : Stmt := inClass (top 15) 0
abbrev s_NothingToUndo___init__ : Stmt := inClass (top 16) 0
abbrev s__law_pool : Stmt := top 18
abbrev s__law_take : Stmt := top 19
abbrev s__law_errors : Stmt := top 20
abbrev s__law_named : Stmt := top 21
abbrev s__law_field : Stmt := top 22
abbrev s__law_bases : Stmt := top 23
abbrev s__law_classes : Stmt := top 24
abbrev s_law : Stmt := top 25
def D_InvalidNumber___init__ : He.DefD := ⟨("InvalidNumber", some "__init__"), "__init__", "InvalidNumber.__init__", defArgs s_InvalidNumber___init__, defBody s_InvalidNumber___init__, defScope s_InvalidNumber___init__, [], []⟩
def D_InvalidProfile___init__ : He.DefD := ⟨("InvalidProfile", some "__init__"), "__init__", "InvalidProfile.__init__", defArgs s_InvalidProfile___init__, defBody s_InvalidProfile___init__, defScope s_InvalidProfile___init__, [], []⟩
def D_InvalidWidths___init__ : He.DefD := ⟨("InvalidWidths", some "__init__"), "__init__", "InvalidWidths.__init__", defArgs s_InvalidWidths___init__, defBody s_InvalidWidths___init__, defScope s_InvalidWidths___init__, [], []⟩
def D_InvalidWeights___init__ : He.DefD := ⟨("InvalidWeights", some "__init__"), "__init__", "InvalidWeights.__init__", defArgs s_InvalidWeights___init__, defBody s_InvalidWeights___init__, defScope s_InvalidWeights___init__, [], []⟩
def D_InvalidObservations___init__ : He.DefD := ⟨("InvalidObservations", some "__init__"), "__init__", "InvalidObservations.__init__", defArgs s_InvalidObservations___init__, defBody s_InvalidObservations___init__, defScope s_InvalidObservations___init__, [], []⟩
def D_InvalidOperations___init__ : He.DefD := ⟨("InvalidOperations", some "__init__"), "__init__", "InvalidOperations.__init__", defArgs s_InvalidOperations___init__, defBody s_InvalidOperations___init__, defScope s_InvalidOperations___init__, [], []⟩
def D_ParseError___init__ : He.DefD := ⟨("ParseError", some "__init__"), "__init__", "ParseError.__init__", defArgs s_ParseError___init__, defBody s_ParseError___init__, defScope s_ParseError___init__, [], []⟩
def D_InvalidCommand___init__ : He.DefD := ⟨("InvalidCommand", some "__init__"), "__init__", "InvalidCommand.__init__", defArgs s_InvalidCommand___init__, defBody s_InvalidCommand___init__, defScope s_InvalidCommand___init__, [], []⟩
def D_InvalidCascade___init__ : He.DefD := ⟨("InvalidCascade", some "__init__"), "__init__", "InvalidCascade.__init__", defArgs s_InvalidCascade___init__, defBody s_InvalidCascade___init__, defScope s_InvalidCascade___init__, [], []⟩
def D_ScriptError___init__ : He.DefD := ⟨("ScriptError", some "__init__"), "__init__", "ScriptError.__init__", defArgs s_ScriptError___init__, defBody s_ScriptError___init__, defScope s_ScriptError___init__, [], []⟩
def D_InvalidColumn___init__ : He.DefD := ⟨("InvalidColumn", some "__init__"), "__init__", "InvalidColumn.__init__", defArgs s_InvalidColumn___init__, defBody s_InvalidColumn___init__, defScope s_InvalidColumn___init__, [], []⟩
def D_InvalidValley___init__ : He.DefD := ⟨("InvalidValley", some "__init__"), "__init__", "InvalidValley.__init__", defArgs s_InvalidValley___init__, defBody s_InvalidValley___init__, defScope s_InvalidValley___init__, [], []⟩
def D_UnknownName___init__ : He.DefD := ⟨("UnknownName", some "__init__"), "__init__", "UnknownName.__init__", defArgs s_UnknownName___init__, defBody s_UnknownName___init__, defScope s_UnknownName___init__, [], []⟩
def D_LimitExceeded___init__ : He.DefD := ⟨("LimitExceeded", some "__init__"), "__init__", "LimitExceeded.__init__", defArgs s_LimitExceeded___init__, defBody s_LimitExceeded___init__, defScope s_LimitExceeded___init__, [], []⟩
def D_NothingToUndo___init__ : He.DefD := ⟨("NothingToUndo", some "__init__"), "__init__", "NothingToUndo.__init__", defArgs s_NothingToUndo___init__, defBody s_NothingToUndo___init__, defScope s_NothingToUndo___init__, [], []⟩
def D__law_pool : He.DefD := ⟨("_law_pool", none), "_law_pool", "_law_pool", defArgs s__law_pool, defBody s__law_pool, defScope s__law_pool, [], []⟩
def D__law_take : He.DefD := ⟨("_law_take", none), "_law_take", "_law_take", defArgs s__law_take, defBody s__law_take, defScope s__law_take, [], []⟩
def D__law_errors : He.DefD := ⟨("_law_errors", none), "_law_errors", "_law_errors", defArgs s__law_errors, defBody s__law_errors, defScope s__law_errors, [], []⟩
def D__law_named : He.DefD := ⟨("_law_named", none), "_law_named", "_law_named", defArgs s__law_named, defBody s__law_named, defScope s__law_named, [], []⟩
def D__law_field : He.DefD := ⟨("_law_field", none), "_law_field", "_law_field", defArgs s__law_field, defBody s__law_field, defScope s__law_field, [], []⟩
def D__law_bases : He.DefD := ⟨("_law_bases", none), "_law_bases", "_law_bases", defArgs s__law_bases, defBody s__law_bases, defScope s__law_bases, [], []⟩
def D__law_classes : He.DefD := ⟨("_law_classes", none), "_law_classes", "_law_classes", defArgs s__law_classes, defBody s__law_classes, defScope s__law_classes, [], []⟩
def D_law : He.DefD := ⟨("law", none), "law", "law", defArgs s_law, defBody s_law, defScope s_law, [], []⟩
def fn : List He.DefD := [D_InvalidNumber___init__, D_InvalidProfile___init__, D_InvalidWidths___init__, D_InvalidWeights___init__, D_InvalidObservations___init__, D_InvalidOperations___init__, D_ParseError___init__, D_InvalidCommand___init__, D_InvalidCascade___init__, D_ScriptError___init__, D_InvalidColumn___init__, D_InvalidValley___init__, D_UnknownName___init__, D_LimitExceeded___init__, D_NothingToUndo___init__, D__law_pool, D__law_take, D__law_errors, D__law_named, D__law_field, D__law_bases, D__law_classes, D_law]
def loose : List PySem.Str := [("__name__" : PySem.Str), ("RainError" : PySem.Str), ("InvalidNumber" : PySem.Str), ("InvalidProfile" : PySem.Str), ("InvalidWidths" : PySem.Str), ("InvalidWeights" : PySem.Str), ("InvalidObservations" : PySem.Str), ("InvalidOperations" : PySem.Str), ("ParseError" : PySem.Str), ("InvalidCommand" : PySem.Str), ("InvalidCascade" : PySem.Str), ("ScriptError" : PySem.Str), ("InvalidColumn" : PySem.Str), ("InvalidValley" : PySem.Str), ("UnknownName" : PySem.Str), ("LimitExceeded" : PySem.Str), ("NothingToUndo" : PySem.Str), ("_law_pool" : PySem.Str), ("_law_take" : PySem.Str), ("_law_errors" : PySem.Str), ("_law_named" : PySem.Str), ("_law_field" : PySem.Str), ("_law_bases" : PySem.Str), ("_law_classes" : PySem.Str)]
def fa : List He.Fa := [.free "IndexError", .free "KeyError", .free "OverflowError", .free "RuntimeError", .free "int", .free "isinstance", .free "ValueError", .free "TypeError", .free "LookupError", .free "len", .free "min", .free "max", .free "range", .free "repr", .glo "InvalidCascade", .glo "InvalidColumn", .glo "InvalidCommand", .glo "InvalidNumber", .glo "InvalidObservations", .glo "InvalidOperations", .glo "InvalidProfile", .glo "InvalidValley", .glo "InvalidWeights", .glo "InvalidWidths", .glo "LimitExceeded", .glo "NothingToUndo", .glo "ParseError", .glo "ScriptError", .glo "UnknownName", .glo "RainError", .meth "InvalidNumber" "__init__", .meth "InvalidProfile" "__init__", .meth "InvalidWidths" "__init__", .meth "InvalidWeights" "__init__", .meth "InvalidObservations" "__init__", .meth "InvalidOperations" "__init__", .meth "ParseError" "__init__", .meth "InvalidCommand" "__init__", .meth "InvalidCascade" "__init__", .meth "ScriptError" "__init__", .meth "InvalidColumn" "__init__", .meth "InvalidValley" "__init__", .meth "UnknownName" "__init__", .meth "LimitExceeded" "__init__", .meth "NothingToUndo" "__init__", .glo "_law_pool", .glo "_law_take", .glo "_law_errors", .glo "_law_named", .glo "_law_field", .glo "_law_bases", .glo "_law_classes", .glo "law"]
def gts : List Gt := []
def exB (K : PySem.W.Frag) : Bool := oxB K "InvalidNumber" "ValueError.__new__" bm_ValueError && (xfB K (He.ga K "InvalidNumber") && (decide (PySem.W.findIn K (.ref (He.ga K "InvalidNumber")) "value" = some none) && (ecB K "InvalidNumber" && (bgB K "RainError" "ValueError.__init__" && (oxB K "InvalidProfile" "ValueError.__new__" bm_ValueError && (xfB K (He.ga K "InvalidProfile") && (decide (PySem.W.findIn K (.ref (He.ga K "InvalidProfile")) "index" = some none) && (ecB K "InvalidProfile" && (oxB K "InvalidWidths" "ValueError.__new__" bm_ValueError && (xfB K (He.ga K "InvalidWidths") && (decide (PySem.W.findIn K (.ref (He.ga K "InvalidWidths")) "index" = some none) && (ecB K "InvalidWidths" && (oxB K "InvalidWeights" "ValueError.__new__" bm_ValueError && (xfB K (He.ga K "InvalidWeights") && (decide (PySem.W.findIn K (.ref (He.ga K "InvalidWeights")) "index" = some none) && (ecB K "InvalidWeights" && (oxB K "InvalidObservations" "ValueError.__new__" bm_ValueError && (xfB K (He.ga K "InvalidObservations") && (decide (PySem.W.findIn K (.ref (He.ga K "InvalidObservations")) "index" = some none) && (ecB K "InvalidObservations" && (oxB K "InvalidOperations" "ValueError.__new__" bm_ValueError && (xfB K (He.ga K "InvalidOperations") && (decide (PySem.W.findIn K (.ref (He.ga K "InvalidOperations")) "index" = some none) && (ecB K "InvalidOperations" && (oxB K "ParseError" "ValueError.__new__" bm_ValueError && (xfB K (He.ga K "ParseError") && (decide (PySem.W.findIn K (.ref (He.ga K "ParseError")) "value" = some none) && (ecB K "ParseError" && (oxB K "InvalidCommand" "ValueError.__new__" bm_ValueError && (xfB K (He.ga K "InvalidCommand") && (decide (PySem.W.findIn K (.ref (He.ga K "InvalidCommand")) "value" = some none) && (ecB K "InvalidCommand" && (oxB K "InvalidCascade" "ValueError.__new__" bm_ValueError && (xfB K (He.ga K "InvalidCascade") && (decide (PySem.W.findIn K (.ref (He.ga K "InvalidCascade")) "name" = some none) && (ecB K "InvalidCascade" && (oxB K "ScriptError" "ValueError.__new__" bm_ValueError && (xfB K (He.ga K "ScriptError") && (decide (PySem.W.findIn K (.ref (He.ga K "ScriptError")) "line" = some none) && (ecB K "ScriptError" && (oxB K "InvalidColumn" "IndexError.__new__" bm_IndexError && (xfB K (He.ga K "InvalidColumn") && (decide (PySem.W.findIn K (.ref (He.ga K "InvalidColumn")) "value" = some none) && (ecB K "InvalidColumn" && (viB K "IndexError" && (oxB K "InvalidValley" "IndexError.__new__" bm_IndexError && (xfB K (He.ga K "InvalidValley") && (decide (PySem.W.findIn K (.ref (He.ga K "InvalidValley")) "value" = some none) && (ecB K "InvalidValley" && (oxB K "UnknownName" "LookupError.__new__" bm_KeyError && (xfB K (He.ga K "UnknownName") && (decide (PySem.W.findIn K (.ref (He.ga K "UnknownName")) "name" = some none) && (ecB K "UnknownName" && (viB K "KeyError" && (oxB K "LimitExceeded" "OverflowError.__new__" bm_OverflowError && (xfB K (He.ga K "LimitExceeded") && (decide (PySem.W.findIn K (.ref (He.ga K "LimitExceeded")) "limit" = some none) && (ecB K "LimitExceeded" && (viB K "OverflowError" && (oxB K "NothingToUndo" "RuntimeError.__new__" bm_RuntimeError && (xfB K (He.ga K "NothingToUndo") && (decide (PySem.W.findIn K (.ref (He.ga K "NothingToUndo")) "count" = some none) && (ecB K "NothingToUndo" && (viB K "RuntimeError" && (e90B K)))))))))))))))))))))))))))))))))))))))))))))))))))))))))))))))))
abbrev RR : PySem.W.OpenRow := PySem.W.OpenLaw.row PySem.Challenge.rw_rainvalleys_k90_error_classes
abbrev hk : PySem.W.Hook := hookL (List.range 1400) fa fn gts exB
def ob (s : PySem.W.SharedT) : AlR := obsRL (List.range 1400) fa fn gts exB (HandSHeadRun.getT s)
theorem ob_eq (s : PySem.W.SharedT) : ob s = hk.obs s.abs := obsRL_eq (HandSHeadRun.getT_eq s)
theorem run (w : World) : HandSHeadRun.RunEq RR (PySem.W.view RR.prog [25]) hk ob 6000 loose w := by
  intro os
  kernel_rfl
end Rv
open PySem PySem.W PySem.Calls PyProof.Rows

set_option Elab.async false
set_option linter.all false
set_option maxRecDepth 100000
set_option maxHeartbeats 4000000
/-! Words of this proof: operators on values by short names, the steps of a reading, what a call of a def asks. -/
namespace Rv
open PySem PySem.Spec PyProof.Rows L2
abbrev oAdd : R2 := rI0 fun i j => .int (i + j)
abbrev oSub : R2 := rI0 fun i j => .int (i - j)
abbrev oMul : R2 := rI CMul fun i j => .int (i * j)
abbrev oDiv : R2 := rI CDivW fun i j => .int (i / j)
abbrev oMod : R2 := rI (fun _ j => 0 < j) fun i j => .int (i % j)
abbrev oPow : R2 := rI CPow fun i j => .int (i ^ j.toNat)
abbrev oGt : R2 := rI0 fun i j => .bl (decide (j < i))
abbrev oGe : R2 := rI0 fun i j => .bl (decide (j ≤ i))
abbrev cLen (K : PySem.W.Frag) : List V → Hp → VK → Prop := fun xs H Q => ∃ p ys, xs = [.ref p] ∧ (SqL K H p ys ∨ SqT K H p ys) ∧ Q (.int ys.length) H
abbrev cMax2 : List V → Hp → VK → Prop := fun xs H Q => ∃ i j, xs = [.int i, .int j] ∧ Q (.int (if j > i then j else i)) H
abbrev cMin2 : List V → Hp → VK → Prop := fun xs H Q => ∃ i j, xs = [.int i, .int j] ∧ Q (.int (if j < i then j else i)) H
/-- a def of the module as its callers see it -/
structure Cal (P : Program) (w : World) (K : PySem.W.Frag) (mg : Str → Option Value) (base : Heap) (CX : CXT) (k : Nat) (x : Str) (ps : List Str) (sp : Sp) : Prop where
  ex : ∃ f fd, FnOk P w K mg base CX k f fd ps sp ∧ mg x = some (.ref f) ∧ PySem.W.keepIn K (.ref f) = true ∧ Binds K fd ps []
section
variable {X : Cx} {CX : CXT} {k : Nat} {x : Str} {ps : List Str} {sp : Sp} {E : XK} {p pos : Pos} {e : Expr} {es : List Expr} {t : TA}
theorem pe_cal (c : Cal X.prog X.w X.K X.mg X.base CX k x ps sp) (hr : Room k X.A) (hg : Gl X x) (hx : Passes CX X E) (ha : PA X (e :: es) t) (hdb : (x == ("__debug__" : Str)) = false := by decide)
    (he : starEach (e :: es) X.env = (false, eval e X.env) :: starEach es X.env := by rfl) (hpl : (backTo pos (starEach es X.env)).any (·.1) = false := by rfl) :
    PE X (.Call (.Name x p) (e :: es) [] pos) (tCall sp [] E t) := by
  obtain ⟨f, fd, F, hm, hk, hb⟩ := c.ex
  first
    | exact pe_call F hr hg hm hk hb .nil hx ha hdb he hpl
    | exact pe_call F hr hg hm hk hb .nil hx ha
end
section
variable {K : PySem.W.Frag} {σ : L2.St} {H : Hp} {Q : VK} {D : Ends} {v x y : V} {i j : Int} {n : Nat} {ta tb te to ti : TE} {t u c : TT} {tr : TA} {b : Bool} {r : R2} {s1 s2 : TS} {g : TG} {p : Addr} {xs : List V} {TQ : Bool → Hp → Prop} {AQ : List V → Hp → Prop} {HQ : Hp → Prop} {GQ : L2.St → Hp → Prop}
theorem w_seq (q : s1 { D with nx := s2 D } σ H) : tSeq s1 s2 D σ H := q
theorem w_setL {k : Int} {j : Nat} (h : H p = some (.lst xs)) (hj : ixN xs.length k = some j) (q : HQ (upd H p (.lst (xs.set j v)))) : rSetL (.ref p) (.int k) v H HQ := ⟨p, xs, k, j, rfl, rfl, h, hj, q⟩
theorem w_lenL (h : SqL K H p xs) (q : Q (.int xs.length) H) : cLen K [.ref p] H Q := ⟨p, xs, rfl, .inl h, q⟩
theorem w_slL {lo hi : Option Int} (h : SqL K H p xs) (q : ∀ q', H q' = none → Q (.ref q') (upd H q' (.lst (cutV xs lo hi)))) : rSlL K (.ref p) lo hi H Q := ⟨p, xs, rfl, h, q⟩
/-- a test whose answer is open: both ways -/
theorem w_both {c A B : Prop} [Decidable c] (h1 : c → A) (h2 : ¬ c → B) : if decide c = true then A else B := by
  by_cases h : c
  · rw [decide_eq_true h]
    exact iteT (h1 h)
  · rw [decide_eq_false h]
    exact iteF (h2 h)
end
theorem But.refl (d : Addr) (H : Hp) : But d H H := fun _ _ _ h => h
theorem But.trans {d : Addr} {H H1 H2 : Hp} (a : But d H H1) (b : But d H1 H2) : But d H H2 := fun c o n h => b c o n (a c o n h)
theorem But.wr {d : Addr} {H H' : Hp} {o : HO} (a : But d H H') : But d H (upd H' d o) := fun c u n h => by
  rw [upd_ne n]
  exact a c u n h
theorem But.new {d p : Addr} {H H' : Hp} {o : HO} (a : But d H H') (h : H' p = none) : But d H (upd H' p o) := fun c u n z => by
  have q := a c u n z
  rw [upd_ne (ne_of_none q h)]
  exact q
theorem But.same {d : Addr} {H H' : Hp} (a : Same H H') : But d H H' := fun c u _ z => a c u z
theorem same_new {p : Addr} {H H' : Hp} {o : HO} (a : Same H H') (h : H' p = none) : Same H (upd H' p o) := fun c u z => by
  have q := a c u z
  rw [upd_ne (ne_of_none q h)]
  exact q
theorem sq_tup {K : PySem.W.Frag} {H : Hp} {a : Addr} {xs : List V} (h : H a = some (.tup xs)) : SqT K H a xs := .inl (.inl h)
theorem at_nat {xs : List V} {j : Nat} {v : V} (h : xs[j]? = some v) : atI xs (j : Int) = some v := atI_nat h
theorem szl {n : Nat} (h : n ≤ 100000) : n ≤ sizeLine := Nat.le_trans h (by decide)
end Rv
namespace Rv
open PySem PySem.Spec PyProof.Rows L2
end Rv
namespace Rv
open PySem PySem.Spec PyProof.Rows L2
section
variable {K : PySem.W.Frag} {σ : L2.St} {H : Hp} {Q : VK} {D : Ends} {v x y : V} {i j : Int} {n slot : Nat} {ta tb tc te to ti tv tl : TE} {t u c tt : TT} {tr : TA} {b : Bool} {r r' : R2} {s1 s2 : TS} {g : TG} {p a d C dx : Addr} {xs : List V} {f : Str} {fs : List (Str × V)} {GQ2 : Hp → Prop}
/-- for i in range(n) -/
theorem w_forR {n : Nat} (hn : n ≤ 100000) (ha : ∀ AQ : List V → Hp → Prop, AQ [.int (n : Int)] H → tr σ H AQ) (Pv : Nat → L2.St → Hp → Prop) (h0 : Pv 0 σ H)
    (hs : ∀ i σ' H', i < n → Pv i σ' H' → s1 { D with nx := Pv (i + 1), ct := Pv (i + 1), bk := D.nx } (σ'.set slot (some (.int (i : Int)))) H') (hd : ∀ σ' H', Pv n σ' H' → D.nx σ' H') : tFor (iRng1 tr) (gName slot) s1 D σ H := by
  refine ha _ ⟨(n : Int), rfl, by omega, by omega, ?_⟩
  rw [show ((n : Int)).toNat = n from Int.toNat_natCast n]
  refine for_range Pv h0 (fun i σ' H' hi q => ?_) hd
  show s1 _ (σ'.set slot (some (.int (0 + (i : Int))))) H'
  rw [Int.zero_add]
  exact hs i σ' H' hi q
/-- [e for x in range(n)] -/
theorem w_lcR {n : Nat} (hn : n ≤ 100000) (ha : ∀ AQ : List V → Hp → Prop, AQ [.int (n : Int)] H → tr σ H AQ) (J : Addr → List V → Hp → Prop) (h0 : ∀ D, H D = none → J D [] (upd H D (.lst [])))
    (hs : ∀ D acc H1, acc.length < n → J D acc H1 → te ((σ.set slot none).set slot (some (.int (acc.length : Int)))) H1 fun y H2 => ∃ bcc, H2 D = some (.lst bcc) ∧ bcc.length < sizeLine ∧ ∃ ccc, ccc.length = acc.length + 1 ∧ J D ccc (upd H2 D (.lst (bcc ++ [y]))))
    (hd : ∀ D acc H1, acc.length = n → J D acc H1 → Q (.ref D) H1) : tLc (iRng1 tr) (gName slot) tYes te [slot] σ H Q := by
  refine ha _ ⟨(n : Int), rfl, by omega, by omega, ?_⟩
  rw [show ((n : Int)).toNat = n from Int.toNat_natCast n]
  intro D nD
  refine lc_range (fun i H1 => ∃ acc, acc.length = i ∧ J D acc H1) ⟨[], rfl, h0 D nD⟩ ?_ (fun H1 ⟨acc, e, q⟩ => hd D acc H1 e q)
  rintro i H1 hi ⟨acc, rfl, q⟩
  refine ⟨?_, ?_⟩
  · show ((σ.set slot none).set slot _).set slot none = σ.set slot none
    rw [List.set_set, List.set_set]
  · show te _ H1 _
    rw [Int.zero_add]
    exact hs D acc H1 hi q
/-- what a turn of a comprehension ends with -/
theorem w_app {J : Addr → List V → Hp → Prop} {D2 : Addr} {acc : List V} {H2 : Hp} (h : H2 D2 = some (.lst acc)) (hl : acc.length ≤ 100000) (q : J D2 (acc ++ [y]) (upd H2 D2 (.lst (acc ++ [y])))) :
    ∃ bcc, H2 D2 = some (.lst bcc) ∧ bcc.length < sizeLine ∧ ∃ ccc, ccc.length = acc.length + 1 ∧ J D2 ccc (upd H2 D2 (.lst (bcc ++ [y]))) :=
  ⟨acc, h, Nat.lt_of_lt_of_le (by omega : acc.length < 100001) (by decide), acc ++ [y], by rw [List.length_append]; rfl, q⟩
end
end Rv
namespace Rv
open PySem PySem.Spec PyProof.Rows L2
section
variable {K : PySem.W.Frag} {σ : L2.St} {H : Hp} {Q : VK} {D : Ends} {v x y : V} {i j : Int} {n slot : Nat} {ta tb tc te to ti tv tl : TE} {t u c tt : TT} {tr : TA} {b b2 : Bool} {g : TG} {p a l : Addr} {xs ys : List V} {vs : List Nat}
theorem w_bm {r : V → List V → Hp → VK → Prop} (hn : σ[n]? = some (some (.ref l))) (hl : H l = some (.lst xs)) (q : tr σ H fun ws H2 => r (.ref l) ws H2 Q) : tBM K "list" r (tVar n) tr σ H Q := ⟨_, hn, .inl ⟨rfl, _, sq_lst hl⟩, q⟩
theorem w_appR (hl : H l = some (.lst xs)) (hz : xs.length ≤ 100000) (q : Q .non (upd H l (.lst (xs ++ [y])))) : rAppend (.ref l) [y] H Q := ⟨l, xs, y, rfl, rfl, hl, Nat.lt_of_lt_of_le (by omega : xs.length < 100001) (by decide), q⟩
/-- a list, two lists that are at hand -/
def iAt (K : PySem.W.Frag) (a : Addr) : TI := fun _ H R => (∃ xs, SqL K H a xs) ∧ R (Itl K a) H
end
end Rv
namespace Rv
open PySem PySem.Spec PyProof.Rows L2
/-! what the top leaves behind, beyond defs and methods: properties, an own ==, getters -/
theorem gt_fun {K : PySem.W.Frag} {g : Gt} {a : Addr} (e : txt K a = g.val) (c : txB K a g.qual = true) : ∃ z, FunD K g.pr g.qual g.params g.body g.scope [] [] a z := by
  obtain ⟨kp, c⟩ := He.ba c
  unfold txt at e
  cases q : K.lookup a with
  | none =>
    rw [q] at e
    cases e
  | some o =>
    obtain ⟨o1, o2, o3, o4⟩ := o
    rw [q] at e c
    cases o3 with
    | func z =>
      obtain ⟨z1, z2, z3, z4, z5, z6, z7, z8, z9, z10, z11, z12, z13, z14, z15⟩ := z
      have e2 : (some (z1, z2, z3, z4, z5, z6, z7, z15) : He.FnW) = some (g.pr, g.qual, g.params, .stmts g.body, g.scope, mainGlobals, [], builtinsNs) := e
      simp only [Option.some.injEq, Prod.mk.injEq] at e2
      obtain ⟨r1, r2, r3, r4, r5, r6, r7, r8⟩ := e2
      subst r1 r2 r3 r4 r5 r6 r7 r8
      obtain ⟨u1, u2⟩ := He.ba (show (PySem.W.codeIn K z13 _ && isNn z8) = true from c)
      cases z8 with
      | none => exact ⟨_, ⟨o1, o2, _, z9, z10, z11, z12, z13, z14, o4, rfl, q, u1, .inl ⟨rfl, rfl⟩, .inl rfl⟩, kp⟩
      | _ => cases u2
    | _ => cases c
/-! the hook: facts, defs, getters, one more test -/
section
variable {fa : List He.Fa} {fn : List He.DefD} {gs : List Gt} {ex : PySem.W.Frag → Bool} {K : PySem.W.Frag}
theorem SaysR.d (c : SaysR fa fn gs ex K) : He.SaysD fa fn K := congrArg (fun z : AlR => z.1) c
theorem SaysR.x (c : SaysR fa fn gs ex K) : ex K = true := (He.ba (show (ex K && gs.all fun g => txB K (gtA K g.cl g.pr) g.qual) = true from congrArg (fun z : AlR => z.2.1) c)).1
theorem SaysR.g (c : SaysR fa fn gs ex K) (i : Nat) {g : Gt} (h : gs[i]? = some g := by rfl) : ∃ z, FunD K g.pr g.qual g.params g.body g.scope [] [] (gtA K g.cl g.pr) z := by
  have c1 := (He.ba (show (ex K && gs.all fun g => txB K (gtA K g.cl g.pr) g.qual) = true from congrArg (fun z : AlR => z.2.1) c)).2
  have e : gs.map (fun g => txt K (gtA K g.cl g.pr)) = gs.map Gt.val := congrArg (fun z : AlR => z.2.2) c
  have e2 : (gs.map fun g => txt K (gtA K g.cl g.pr))[i]? = (gs.map Gt.val)[i]? := by rw [e]
  rw [List.getElem?_map, List.getElem?_map, h] at e2
  exact gt_fun (Option.some.inj e2) (List.all_eq_true.mp c1 g (List.mem_of_getElem? h))
end
end Rv
namespace Rv
open PySem PySem.Spec PyProof.Rows L2
/-! the hook with the addresses said -/
end Rv
namespace Rv
open PySem PySem.Spec PyProof.Rows L2
/-! ### the law's draws: a list of the cells, a place, a number in use, a seed -/
def DrawsAt (H : Hp) (d c : Addr) : Prop := ∃ (ns : List Int) (pos num seed : Int), H d = some (.lst [.ref c, .int pos, .int num, .int seed]) ∧ H c = some (.lst (ns.map V.int)) ∧ c ≠ d ∧ 0 ≤ pos ∧ 0 ≤ num ∧ 0 ≤ seed ∧ seed < 2147483647
theorem DrawsAt.new {H H' : Hp} {d c : Addr} (h : DrawsAt H d c) (e : Same H H') : DrawsAt H' d c := by
  obtain ⟨ns, pos, num, seed, h1, h2, h3⟩ := h
  exact ⟨ns, pos, num, seed, e _ _ h1, e _ _ h2, h3⟩
theorem DrawsAt.wr {H : Hp} {d c a : Addr} {o : HO} (h : DrawsAt H d c) (n1 : a ≠ d) (n2 : a ≠ c) : DrawsAt (upd H a o) d c := by
  obtain ⟨ns, pos, num, seed, h1, h2, h3⟩ := h
  exact ⟨ns, pos, num, seed, by rw [upd_ne n1.symm]; exact h1, by rw [upd_ne n2.symm]; exact h2, h3⟩
theorem DrawsAt.nd {H : Hp} {d c a : Addr} (h : DrawsAt H d c) (n : H a = none) : a ≠ d := by
  obtain ⟨ns, pos, num, seed, h1, h2, h3⟩ := h
  intro e
  rw [e, h1] at n
  cases n
theorem cut_map (ns : List Int) (lo hi : Option Int) : ∃ ms : List Int, cutV (ns.map V.int) lo hi = ms.map V.int := by
  unfold cutV
  rw [← List.map_drop, ← List.map_take]
  exact ⟨_, rfl⟩
local macro_rules | `(tactic| walk_at "rv st") => `(tactic| first
  | with_reducible refine iteT ?_ | with_reducible refine iteF ?_ | with_reducible refine w_nx ?_ | with_reducible refine w_yes ?_ | with_reducible refine w_rt ?_ | with_reducible refine iteNT ?_ | with_reducible refine iteNF ?_ | with_reducible refine iteNRf ?_ | with_reducible refine iteRf ?_ | with_reducible refine w_seqA ?_ | with_reducible refine w_seqD ?_ | with_reducible refine w_seqP ?_ | with_reducible refine w_asg ?_ | with_reducible refine w_ret ?_ | with_reducible refine w_drop ?_ | with_reducible refine w_ifs ?_ | with_reducible refine w_next ?_ | with_reducible refine w_par ?_
  | with_reducible refine w_op ?_ | with_reducible refine w_un ?_ | ((with_reducible show tVar _ _ _ _); refine' w_var ?hv ?_; (case hv => exact rfl)) | with_reducible refine w_c ?_ | with_reducible refine w_test ?_ | with_reducible refine w_tB ?_
  | with_reducible refine w_bl ?_ | with_reducible refine w_I0 ?_ | with_reducible refine w_U ?_ | with_reducible refine w_eqI ?_ | with_reducible refine w_neI ?_
  | with_reducible refine w_cons ?_ | with_reducible refine w_nil ?_ | with_reducible refine w_gn ?_ | with_reducible refine w_gsub ?_ | with_reducible refine w_and ?_ | with_reducible refine w_or ?_ | with_reducible refine w_not ?_
  | with_reducible refine w_andV ?_ | with_reducible refine w_orV ?_ | with_reducible refine w_notV ?_ | with_reducible refine w_if ?_ | with_reducible refine w_cb ?_ | with_reducible refine w_call ?_ | with_reducible refine w_lst ?_ | with_reducible refine w_tup ?_
  | with_reducible refine w_sl ?_ | with_reducible refine w_noPart ?_ | with_reducible refine w_part ?_ | with_reducible refine w_ex1 ?_ | with_reducible refine w_exb ?_ | with_reducible refine w_intB ?_ | with_reducible refine w_intI ?_ | with_reducible refine w_abs ?_)
local macro_rules | `(tactic| walk_at "rv ix") => `(tactic| ((with_reducible show rIxL _ _ _ _ _); refine' w_ixL (sq_lst ?ha) ?hb ?_; (case ha => first | exact upd_same | assumption); (case hb => first | exact rfl | assumption)))
local macro_rules | `(tactic| walk_at "rv ar") => `(tactic| first
  | (refine' w_I ?hc ?_; (case hc => first | (show (0 : Int) < _; first | assumption | decide | omega) | exact pow_c (by decide) (by decide) (by first | decide | omega) (by first | decide | omega) | exact mul_r (by first | decide | omega) (by first | decide | omega) | exact mul_l (by first | decide | omega) (by first | decide | omega) | exact divw (by first | assumption | decide | omega) (by first | assumption | decide | omega))))
local macro_rules | `(tactic| walk_at "rv go") => `(tactic| repeat first | walk_at "rv st" | walk_at "rv ix" | ((with_reducible show rI _ _ _ _ _ _); walk_at "rv ar"))
end Rv
/-! enumerate of a tuple, and of a list or a tuple. -/
namespace PySem
end PySem
namespace Rv
open PySem PySem.Spec PyProof.Rows L2
end Rv
namespace Rv
open PySem PySem.Spec PyProof.Rows L2
/-! values: is it an integer -/
inductive Whole (K : PySem.W.Frag) (H : Hp) : V → Prop where
  | int (i : Int) : Whole K H (.int i)
  | bl (b : Bool) : Whole K H (.bl b)
  | other {v : V} {t : Value} (h : TyX K H v t) (k : PySem.W.kitOne K t (.type "int") = some false) (n1 : ∀ i, v ≠ .int i) : Whole K H v
def isI : V → Bool
  | .int _ => true
  | _ => false
/-- a row that is a list or a tuple -/
def RowAt (K : PySem.W.Frag) (H : Hp) (a : Addr) (xs : List V) : Prop := H a = some (.lst xs) ∨ H a = some (.tup xs)
theorem RowAt.same {K : PySem.W.Frag} {H H' : Hp} {a : Addr} {xs : List V} (h : RowAt K H a xs) (e : Same H H') : RowAt K H' a xs := h.elim (fun h => .inl (e _ _ h)) fun h => .inr (e _ _ h)
def pfl (t1 t2 : Addr) : List (Str × V) := putF "column_widths" (.ref t2) (putF "column_heights" (.ref t1) [])
/-- a Profile stands at p -/
def ProfAt (K : PySem.W.Frag) (C : Addr) (H : Hp) (p : Addr) (hs ws : List Int) : Prop := ∃ dx t1 t2, H p = some (.ins C dx (pfl t1 t2)) ∧ H t1 = some (.tup (hs.map V.int)) ∧ H t2 = some (.tup (ws.map V.int))
theorem ProfAt.same {K : PySem.W.Frag} {C : Addr} {H H' : Hp} {p : Addr} {hs ws : List Int} (h : ProfAt K C H p hs ws) (e : Same H H') : ProfAt K C H' p hs ws := by
  obtain ⟨dx, t1, t2, h1, h2, h3⟩ := h
  exact ⟨dx, t1, t2, e _ _ h1, e _ _ h2, e _ _ h3⟩
local macro_rules | `(tactic| walk_at "rv st") => `(tactic| first
  | with_reducible refine iteT ?_ | with_reducible refine iteF ?_ | with_reducible refine w_nx ?_ | with_reducible refine w_yes ?_ | with_reducible refine w_rt ?_ | with_reducible refine iteNT ?_ | with_reducible refine iteNF ?_ | with_reducible refine iteNRf ?_ | with_reducible refine iteRf ?_ | with_reducible refine w_seqA ?_ | with_reducible refine w_seqD ?_ | with_reducible refine w_seqP ?_ | with_reducible refine w_asg ?_ | with_reducible refine w_ret ?_ | with_reducible refine w_drop ?_ | with_reducible refine w_ifs ?_ | with_reducible refine w_next ?_ | with_reducible refine w_par ?_
  | with_reducible refine w_op ?_ | with_reducible refine w_un ?_ | ((with_reducible show tVar _ _ _ _); refine' w_var ?hv ?_; (case hv => exact rfl)) | with_reducible refine w_c ?_ | with_reducible refine w_test ?_ | with_reducible refine w_tB ?_
  | with_reducible refine w_bl ?_ | with_reducible refine w_I0 ?_ | with_reducible refine w_U ?_ | with_reducible refine w_eqI ?_ | with_reducible refine w_neI ?_
  | with_reducible refine w_cons ?_ | with_reducible refine w_nil ?_ | with_reducible refine w_gn ?_ | with_reducible refine w_gsub ?_ | with_reducible refine w_and ?_ | with_reducible refine w_or ?_ | with_reducible refine w_not ?_
  | with_reducible refine w_andV ?_ | with_reducible refine w_orV ?_ | with_reducible refine w_notV ?_ | with_reducible refine w_if ?_ | with_reducible refine w_cb ?_ | with_reducible refine w_call ?_ | with_reducible refine w_lst ?_ | with_reducible refine w_tup ?_
  | with_reducible refine w_sl ?_ | with_reducible refine w_noPart ?_ | with_reducible refine w_part ?_ | with_reducible refine w_ex1 ?_ | with_reducible refine w_exb ?_ | with_reducible refine w_intB ?_ | with_reducible refine w_intI ?_ | with_reducible refine w_abs ?_)
local macro_rules | `(tactic| walk_at "rv ix") => `(tactic| ((with_reducible show rIxL _ _ _ _ _); refine' w_ixL (sq_lst ?ha) ?hb ?_; (case ha => first | exact upd_same | assumption); (case hb => first | exact rfl | assumption)))
local macro_rules | `(tactic| walk_at "rv ar") => `(tactic| first
  | (refine' w_I ?hc ?_; (case hc => first | (show (0 : Int) < _; first | assumption | decide | omega) | exact pow_c (by decide) (by decide) (by first | decide | omega) (by first | decide | omega) | exact mul_r (by first | decide | omega) (by first | decide | omega) | exact mul_l (by first | decide | omega) (by first | decide | omega) | exact divw (by first | assumption | decide | omega) (by first | assumption | decide | omega))))
local macro_rules | `(tactic| walk_at "rv go") => `(tactic| repeat first | walk_at "rv st" | walk_at "rv ix" | ((with_reducible show rI _ _ _ _ _ _); walk_at "rv ar"))
theorem ty_same {K : PySem.W.Frag} {H H' : Hp} {v : V} {t : Value} (h : TyX K H v t) (e : Same H H') : TyX K H' v t := by
  cases h with
  | base h =>
    cases h with
    | non => exact .base .non
    | bl x => exact .base (.bl x)
    | int i => exact .base (.int i)
    | str x => exact .base (.str x)
    | flt x => exact .base (.flt x)
    | lst h => exact .base (.lst (e _ _ h))
    | frz h => exact .base (.frz (e _ _ h))
    | tup h => exact .base (.tup (e _ _ h))
    | dK h => exact .base (.dK (e _ _ h))
    | dT h => exact .base (.dT (e _ _ h))
    | ins h cl ha hn htk hm => exact .base (.ins (e _ _ h) cl ha hn htk hm)
  | byt b => exact .byt b
  | set h => exact .set (e _ _ h)
  | kList h c => exact .kList h c
  | kTuple h c => exact .kTuple h c
  | kDict h c => exact .kDict h c
  | fTuple h => exact .fTuple (e _ _ h)
  | fDict h => exact .fDict (e _ _ h)
theorem Whole.same {K : PySem.W.Frag} {H H' : Hp} {v : V} (h : Whole K H v) (e : Same H H') : Whole K H' v := by
  cases h with
  | int i => exact .int i
  | bl b => exact .bl b
  | other h k n => exact .other (ty_same h e) k n
theorem sqT_same0 {K : PySem.W.Frag} {H H' : Hp} {a : Addr} {xs : List V} (h : SqT K H a xs) (e : Same H H') : SqT K H' a xs := by
  rcases h with (h | ⟨o, h⟩) | h
  · exact .inl (.inl (e _ _ h))
  · exact .inl (.inr ⟨o, e _ _ h⟩)
  · exact .inr h
theorem dp_ints {K : PySem.W.Frag} {H : Hp} : ∀ zs : List Int, DpAll K H (zs.map V.int) (zs.map PyData.int)
  | [] => .nil
  | z :: r => .cons (.int z) (dp_ints r)
theorem lay_ints : ∀ zs : List Int, PyData.canLayAll0 (zs.map PyData.int) = true ∧ PyData.depthAll (zs.map PyData.int) = 0
  | [] => ⟨by simp [PyData.canLayAll0], by simp [PyData.depthAll]⟩
  | z :: r => by
    have h := lay_ints r
    exact ⟨by simp [PyData.canLayAll0, PyData.canLay0, h.1], by simp [PyData.depthAll, PyData.depth, h.2]⟩
theorem shL_ints (zs : List Int) : SeqAt.shaped (.list (zs.map PyData.int)) = true := by
  have h := lay_ints zs
  simp [SeqAt.shaped, PyData.canLay0, PyData.depth, h.1, h.2]
end Rv
/-! Operators, comparisons and len of instances of a class with its own defs for them. -/
namespace Rv
open PySem PySem.Spec PyProof.Rows L2
end Rv
namespace Rv
open PySem PySem.Spec PyProof.Rows L2
def Sz (k : Nat) (z : Int) : Prop := z.natAbs < 2 ^ k
theorem Sz.mono {j k : Nat} {z : Int} (h : Sz j z) (e : j ≤ k) : Sz k z := Nat.lt_of_lt_of_le h (Nat.pow_le_pow_right (by decide) e)
/-! fractions in the heap -/
def rfl2 (t b : Int) : List (Str × V) := putF "reduced_bottom" (.int b) (putF "reduced_top" (.int t) [])
/-- a Ratio t / b in lowest terms stands at p -/
def RatAt (C : Addr) (H : Hp) (p : Addr) (t b : Int) : Prop := (0 < b ∧ Int.gcd t b = 1) ∧ ∃ dx, H p = some (.ins C dx (rfl2 t b))
theorem RatAt.same {C : Addr} {H H' : Hp} {p : Addr} {t b : Int} (h : RatAt C H p t b) (e : Same H H') : RatAt C H' p t b := by
  obtain ⟨l, dx, h1⟩ := h
  exact ⟨l, dx, e _ _ h1⟩
/-- a number: an int or a Ratio -/
def Num (C : Addr) (H : Hp) (v : V) (n d : Int) : Prop := (v = .int n ∧ d = 1) ∨ ∃ p, v = .ref p ∧ RatAt C H p n d
theorem Num.same {C : Addr} {H H' : Hp} {v : V} {n d : Int} (h : Num C H v n d) (e : Same H H') : Num C H' v n d := by
  rcases h with h | ⟨p, h1, h2⟩
  · exact .inl h
  · exact .inr ⟨p, h1, h2.same e⟩
/-- what is told of the class Ratio -/
structure RCls (K : PySem.W.Frag) (C : Addr) : Prop where
  cl : Cls K C
  nT : NoAttr K C "reduced_top"
  nB : NoAttr K C "reduced_bottom"
  cA : PySem.W.findIn K (.ref C) "__class__" = some (some (.builtin "object.__class__"))
  cG : PySem.W.specialIn K (.builtin "object.__class__") "__get__" = some (some (.builtin "getset_descriptor.__get__"))
  cT : PySem.W.takesIn K (.builtin "object.__class__") = some true
  cM : PySem.W.mroIn K C (.type "object") = some true
  ki : PySem.W.kitOne K (.type "int") (.ref C) = some false
def hN (hs : List Int) (i : Nat) : Int := (hs[i]?).getD 0
local macro_rules | `(tactic| walk_at "rv st") => `(tactic| first
  | with_reducible refine iteT ?_ | with_reducible refine iteF ?_ | with_reducible refine w_nx ?_ | with_reducible refine w_yes ?_ | with_reducible refine w_rt ?_ | with_reducible refine iteNT ?_ | with_reducible refine iteNF ?_ | with_reducible refine iteNRf ?_ | with_reducible refine iteRf ?_ | with_reducible refine w_seqA ?_ | with_reducible refine w_seqD ?_ | with_reducible refine w_seqP ?_ | with_reducible refine w_asg ?_ | with_reducible refine w_ret ?_ | with_reducible refine w_drop ?_ | with_reducible refine w_ifs ?_ | with_reducible refine w_next ?_ | with_reducible refine w_par ?_
  | with_reducible refine w_op ?_ | with_reducible refine w_un ?_ | ((with_reducible show tVar _ _ _ _); refine' w_var ?hv ?_; (case hv => exact rfl)) | with_reducible refine w_c ?_ | with_reducible refine w_test ?_ | with_reducible refine w_tB ?_
  | with_reducible refine w_bl ?_ | with_reducible refine w_I0 ?_ | with_reducible refine w_U ?_ | with_reducible refine w_eqI ?_ | with_reducible refine w_neI ?_
  | with_reducible refine w_cons ?_ | with_reducible refine w_nil ?_ | with_reducible refine w_gn ?_ | with_reducible refine w_gsub ?_ | with_reducible refine w_and ?_ | with_reducible refine w_or ?_ | with_reducible refine w_not ?_
  | with_reducible refine w_andV ?_ | with_reducible refine w_orV ?_ | with_reducible refine w_notV ?_ | with_reducible refine w_if ?_ | with_reducible refine w_cb ?_ | with_reducible refine w_call ?_ | with_reducible refine w_lst ?_ | with_reducible refine w_tup ?_
  | with_reducible refine w_sl ?_ | with_reducible refine w_noPart ?_ | with_reducible refine w_part ?_ | with_reducible refine w_ex1 ?_ | with_reducible refine w_exb ?_ | with_reducible refine w_intB ?_ | with_reducible refine w_intI ?_ | with_reducible refine w_abs ?_)
local macro_rules | `(tactic| walk_at "rv ix") => `(tactic| ((with_reducible show rIxL _ _ _ _ _); refine' w_ixL (sq_lst ?ha) ?hb ?_; (case ha => first | exact upd_same | assumption); (case hb => first | exact rfl | assumption)))
local macro_rules | `(tactic| walk_at "rv ar") => `(tactic| first
  | (refine' w_I ?hc ?_; (case hc => first | (show (0 : Int) < _; first | assumption | decide | omega) | exact pow_c (by decide) (by decide) (by first | decide | omega) (by first | decide | omega) | exact mul_r (by first | decide | omega) (by first | decide | omega) | exact mul_l (by first | decide | omega) (by first | decide | omega) | exact divw (by first | assumption | decide | omega) (by first | assumption | decide | omega))))
local macro_rules | `(tactic| walk_at "rv go") => `(tactic| repeat first | walk_at "rv st" | walk_at "rv ix" | ((with_reducible show rI _ _ _ _ _ _); walk_at "rv ar"))
end Rv
/-! The head's tests of the classes Profile and Ratio. -/
namespace Rv
open PySem PySem.Spec PyProof.Rows L2
end Rv
namespace Rv
open PySem PySem.Spec PyProof.Rows L2
local macro_rules | `(tactic| walk_at "rv st") => `(tactic| first
  | with_reducible refine iteT ?_ | with_reducible refine iteF ?_ | with_reducible refine w_nx ?_ | with_reducible refine w_yes ?_ | with_reducible refine w_rt ?_ | with_reducible refine iteNT ?_ | with_reducible refine iteNF ?_ | with_reducible refine iteNRf ?_ | with_reducible refine iteRf ?_ | with_reducible refine w_seqA ?_ | with_reducible refine w_seqD ?_ | with_reducible refine w_seqP ?_ | with_reducible refine w_asg ?_ | with_reducible refine w_ret ?_ | with_reducible refine w_drop ?_ | with_reducible refine w_ifs ?_ | with_reducible refine w_next ?_ | with_reducible refine w_par ?_
  | with_reducible refine w_op ?_ | with_reducible refine w_un ?_ | ((with_reducible show tVar _ _ _ _); refine' w_var ?hv ?_; (case hv => exact rfl)) | with_reducible refine w_c ?_ | with_reducible refine w_test ?_ | with_reducible refine w_tB ?_
  | with_reducible refine w_bl ?_ | with_reducible refine w_I0 ?_ | with_reducible refine w_U ?_ | with_reducible refine w_eqI ?_ | with_reducible refine w_neI ?_
  | with_reducible refine w_cons ?_ | with_reducible refine w_nil ?_ | with_reducible refine w_gn ?_ | with_reducible refine w_gsub ?_ | with_reducible refine w_and ?_ | with_reducible refine w_or ?_ | with_reducible refine w_not ?_
  | with_reducible refine w_andV ?_ | with_reducible refine w_orV ?_ | with_reducible refine w_notV ?_ | with_reducible refine w_if ?_ | with_reducible refine w_cb ?_ | with_reducible refine w_call ?_ | with_reducible refine w_lst ?_ | with_reducible refine w_tup ?_
  | with_reducible refine w_sl ?_ | with_reducible refine w_noPart ?_ | with_reducible refine w_part ?_ | with_reducible refine w_ex1 ?_ | with_reducible refine w_exb ?_ | with_reducible refine w_intB ?_ | with_reducible refine w_intI ?_ | with_reducible refine w_abs ?_)
local macro_rules | `(tactic| walk_at "rv ix") => `(tactic| ((with_reducible show rIxL _ _ _ _ _); refine' w_ixL (sq_lst ?ha) ?hb ?_; (case ha => first | exact upd_same | assumption); (case hb => first | exact rfl | assumption)))
local macro_rules | `(tactic| walk_at "rv ar") => `(tactic| first
  | (refine' w_I ?hc ?_; (case hc => first | (show (0 : Int) < _; first | assumption | decide | omega) | exact pow_c (by decide) (by decide) (by first | decide | omega) (by first | decide | omega) | exact mul_r (by first | decide | omega) (by first | decide | omega) | exact mul_l (by first | decide | omega) (by first | decide | omega) | exact divw (by first | assumption | decide | omega) (by first | assumption | decide | omega))))
local macro_rules | `(tactic| walk_at "rv go") => `(tactic| repeat first | walk_at "rv st" | walk_at "rv ix" | ((with_reducible show rI _ _ _ _ _ _); walk_at "rv ar"))
end Rv
namespace Rv
open PySem PySem.Spec PyProof.Rows L2
local macro_rules | `(tactic| walk_at "rv st") => `(tactic| first
  | with_reducible refine iteT ?_ | with_reducible refine iteF ?_ | with_reducible refine w_nx ?_ | with_reducible refine w_yes ?_ | with_reducible refine w_rt ?_ | with_reducible refine iteNT ?_ | with_reducible refine iteNF ?_ | with_reducible refine iteNRf ?_ | with_reducible refine iteRf ?_ | with_reducible refine w_seqA ?_ | with_reducible refine w_seqD ?_ | with_reducible refine w_seqP ?_ | with_reducible refine w_asg ?_ | with_reducible refine w_ret ?_ | with_reducible refine w_drop ?_ | with_reducible refine w_ifs ?_ | with_reducible refine w_next ?_ | with_reducible refine w_par ?_
  | with_reducible refine w_op ?_ | with_reducible refine w_un ?_ | ((with_reducible show tVar _ _ _ _); refine' w_var ?hv ?_; (case hv => exact rfl)) | with_reducible refine w_c ?_ | with_reducible refine w_test ?_ | with_reducible refine w_tB ?_
  | with_reducible refine w_bl ?_ | with_reducible refine w_I0 ?_ | with_reducible refine w_U ?_ | with_reducible refine w_eqI ?_ | with_reducible refine w_neI ?_
  | with_reducible refine w_cons ?_ | with_reducible refine w_nil ?_ | with_reducible refine w_gn ?_ | with_reducible refine w_gsub ?_ | with_reducible refine w_and ?_ | with_reducible refine w_or ?_ | with_reducible refine w_not ?_
  | with_reducible refine w_andV ?_ | with_reducible refine w_orV ?_ | with_reducible refine w_notV ?_ | with_reducible refine w_if ?_ | with_reducible refine w_cb ?_ | with_reducible refine w_call ?_ | with_reducible refine w_lst ?_ | with_reducible refine w_tup ?_
  | with_reducible refine w_sl ?_ | with_reducible refine w_noPart ?_ | with_reducible refine w_part ?_ | with_reducible refine w_ex1 ?_ | with_reducible refine w_exb ?_ | with_reducible refine w_intB ?_ | with_reducible refine w_intI ?_ | with_reducible refine w_abs ?_)
local macro_rules | `(tactic| walk_at "rv ix") => `(tactic| ((with_reducible show rIxL _ _ _ _ _); refine' w_ixL (sq_lst ?ha) ?hb ?_; (case ha => first | exact upd_same | assumption); (case hb => first | exact rfl | assumption)))
local macro_rules | `(tactic| walk_at "rv ar") => `(tactic| first
  | (refine' w_I ?hc ?_; (case hc => first | (show (0 : Int) < _; first | assumption | decide | omega) | exact pow_c (by decide) (by decide) (by first | decide | omega) (by first | decide | omega) | exact mul_r (by first | decide | omega) (by first | decide | omega) | exact mul_l (by first | decide | omega) (by first | decide | omega) | exact divw (by first | assumption | decide | omega) (by first | assumption | decide | omega))))
local macro_rules | `(tactic| walk_at "rv go") => `(tactic| repeat first | walk_at "rv st" | walk_at "rv ix" | ((with_reducible show rI _ _ _ _ _ _); walk_at "rv ar"))
end Rv
/-! Calls by keywords alone. -/
namespace Rv
open PySem PySem.Spec PyProof.Rows L2
end Rv
/-! Defs that are run where no guard is under way: what repr of lists and tuples asks. -/
namespace Rv
open PySem PySem.Spec PyProof.Rows L2
/-- a def's promise, told of callers without guards alone -/
structure FnOkG (P : Program) (w : World) (K : PySem.W.Frag) (mg : Str → Option Value) (base : Heap) (CX : CXT) (k : Nat) (f : Addr) (fd : FuncData) (ps : List Str) (sp : Sp) : Prop where
  len : ∀ vs H Q E, sp vs H Q E → vs.length = ps.length
  run : ∀ (A : Around) (outer : List Env) (s : Shared) (H : Hp) (args : Args) (us : List Value) (vs : List V) (Q : VK) (E : XK), A.guards = some [] → Room k A → Env0 P w K mg base A outer s H → BindsTo s fd args (ps.zip us) → Vals vs us → sp vs H Q E →
    codeAny (model P w) A (.call (.ref f) args) (CR CX outer P w H s Q E) s
section
variable {P : Program} {w : World} {K : PySem.W.Frag} {mg : Str → Option Value} {base : Heap} {CX : CXT} {k : Nat} {f : Addr} {fd : FuncData} {N ps : List Str} {sp : Sp} {x qual : Str} {params : Arguments} {body : List Stmt} {scope : Scope} {dvs : List V} {kws : List (Str × V)}
theorem FnOk.g (F : FnOk P w K mg base CX k f fd ps sp) : FnOkG P w K mg base CX k f fd ps sp := ⟨F.len, fun A outer s H args us vs Q E _ => F.run A outer s H args us vs Q E⟩
theorem guards_deeper {A : Around} {env : Env} (h : A.guards = some []) : (A.deeper env).guards = some [] := h
theorem FunD.okG (F : FunD K x qual params body scope dvs kws f fd) (S : FnScope N ps scope) (len : ∀ vs H Q E, sp vs H Q E → vs.length = ps.length)
    (hbody : ∀ (cdv : Value) (A : Around) (outer : List Env) (s : Shared) (H : Hp) (vs : List V) (Q : VK) (E : XK), (A.deeper (envOfC qual scope s.heap.objs.size f cdv)).guards = some [] → Room k (A.deeper (envOfC qual scope s.heap.objs.size f cdv)) → sp vs H Q E →
      ∃ t, PSs (cxOf CX P w K mg base N qual scope f cdv A outer s H E) body t ∧ t { nx := fun _ H' => Q .non H', rt := Q } (start N vs) H) : FnOkG P w K mg base CX (k + 1) f fd ps sp := by
  obtain ⟨oc, od, dV, kV, doc, pm, an, cdv, ct, osl, rfl, lk, hcd, _, _⟩ := F.ex
  refine ⟨len, fun A outer s H args us vs Q E hg hr e0 hb r hsp => ?_⟩
  have hl := len _ _ _ _ hsp
  have KX : K.In s.heap := e0.mod.kin.keeps fun b o e => (e0.bs b o e).1
  have lim : s.heap.NoLimit := e0.mod.nolimit.keeps fun b o e => (e0.bs b o e).1
  have hkind : ∀ y ∈ ps.zip us, scope.names.lookup y.1 = some .local ∨ (scope.names.lookup y.1 = some .cell ∧ ((cellsFrom (s.heap.objs.size + 1) scope.names []).lookup y.1).isSome = true) := by
    rintro ⟨n, v⟩ hy
    rcases S.par n (List.of_mem_zip hy).1 with q | q
    · exact .inl q
    · exact .inr ⟨q, PySem.W.cellsFrom_some _ _ _ (.inl q)⟩
  refine codeAny_call_function hr.depth (KX _ _ lk) rfl S.co S.gen rfl (PySem.W.codeRec_of KX hcd) (hb _ _ _ _ (wpAny_newFunctionEnv_cells S.kind hkind fun env he s1 x1 => ?_))
  subst he
  refine ⟨lim.keeps x1.toInCall.keep, codeAny_func ?_⟩
  obtain ⟨t, ht, hq⟩ := hbody cdv A outer s H vs Q E (guards_deeper hg) (hr.deeper _) hsp
  have I : Inv (cxOf CX P w K mg base N qual scope f cdv A outer s H E) [] (start N vs) H s1 := inv_start S hr.hd e0 hl r x1
  refine wpAny_mono (ht.run [] s1 (start N vs) H _ I hq) (fun fl s' hs => ?_) fun e s' hs => hs
  cases fl with
  | ret u =>
    obtain ⟨v, σ', H', J, rv, q⟩ := hs
    exact ⟨v, H', J.os, J.bare, J.base, J.hok, rv, q⟩
  | next =>
    obtain ⟨σ', H', J, q⟩ := hs
    exact ⟨.non, H', J.os, J.bare, J.base, J.hok, rfl, q⟩
  | brk =>
    obtain ⟨_, _, _, q⟩ := hs
    exact q.elim
  | cont =>
    obtain ⟨_, _, _, q⟩ := hs
    exact q.elim
end
/-- the law is called where nothing is under way -/
theorem law_callG {P : Program} {w : World} {K : PySem.W.Frag} {mg mb : Str → Option Value} {CX : CXT} {k : Nat} {fa a : Addr} {fd : FuncData} {x : Str} {sp : Sp} {s₁ : Shared} {vs : List Value} {ns : List Int}
    (KX : K.In s₁.heap) (hns : s₁.heap.Ns mainGlobals mg) (hb : s₁.heap.Ns builtinsNs mb) (hbb : ∀ x : Str, x ≠ "__name__" → mb x = bootBuiltins x) (hlim : s₁.heap.NoLimit) (hg : s₁.gens = #[])
    (ha : s₁.heap.get? a = some { cls := .type "list", data := .seq vs.toArray }) (hi : IntsAre vs ns) (hl : ns.length ≤ sizeLine) (hr : Room k callerA)
    (F : ∀ base : Heap, K.In base → base.Ns mainGlobals mg → FnOkG P w K mg base CX k fa fd [x] sp) (hbind : ∀ (s : Shared) (u : Value), BindsTo s fd ⟨[u], []⟩ [(x, u)])
    (hsp : ∀ H : Hp, Only H → SqL K H a (ns.map V.int) → sp [.ref a] H (fun v _ => v = .bl true) fun _ _ _ => False)
    (hCX : ∀ H e s', CX [] H s₁ (fun _ _ _ => False) e s' → False) :
    codeAny (model P w) callerA (.call (.ref fa) ⟨[.ref a], []⟩) (fun r s' => r = .ok (.ret (.bool true)) ∧ OldK s₁.heap s'.heap ∧ s'.os = s₁.os ∧ AllBare s'.gens) s₁ := by
  have rv := vals_ints hi
  have lenV := hi.length
  have core : ∀ H : Hp, Only H → SqL K H a (ns.map V.int) → HOk P w H s₁.heap → (∀ b, H b ≠ none → b = a) → (H a ≠ none → K.lookup a = none) →
      codeAny (model P w) callerA (.call (.ref fa) ⟨[.ref a], []⟩) (fun r s' => r = .ok (.ret (.bool true)) ∧ OldK s₁.heap s'.heap ∧ s'.os = s₁.os ∧ AllBare s'.gens) s₁ := by
    intro H hO hS hok hA hK
    have base_of : ∀ {b : Addr} {o : Obj}, s₁.heap.get? b = some o → H b = none → (hidT s₁.heap H).get? b = some o := fun e n => hidT_get e n
    have noA : ∀ {b : Addr} {o : Obj} {es : Array DictEntry} {ep : Nat}, s₁.heap.get? b = some o → o.data = .dict es ep → H b = none := by
      intro b o es ep e d
      cases q : H b with
      | none => rfl
      | some u =>
        have e' : b = a := hA b (by rw [q]; simp)
        subst e'
        rw [ha] at e
        cases e
        have d' : Data.seq vs.toArray _ = Data.dict es ep := d
        cases d'
    have nsK : ∀ {b : Addr} {m : Str → Option Value}, s₁.heap.Ns b m → (hidT s₁.heap H).Ns b m := fun {b m} ⟨o, es, ep, e, d, r⟩ => ⟨o, es, ep, base_of e (noA e d), d, r⟩
    have hKb : K.In (hidT s₁.heap H) := fun b o e => base_of (KX b o e) (by
      cases q : H b with
      | none => rfl
      | some u =>
        have e' : b = a := hA b (by rw [q]; simp)
        subst e'
        rw [hK (by rw [q]; simp)] at e
        cases e)
    obtain ⟨mc, l1, l2⟩ := hlim
    have hM : Mod K mg (hidT s₁.heap H) := ⟨hKb, nsK hns, ⟨mb, nsK hb, hbb⟩, ⟨mc, nsK l1, l2⟩⟩
    have e0 : Env0 P w K mg (hidT s₁.heap H) callerA [] s₁ H := ⟨rfl, hM, fun b o e => of_hidT e, Nat.le_of_eq (hidT_size _ _), trivial, fun b hb => absurd (show b ∈ ([] : List Addr) from hb) (by simp), hok, .of_eq hg⟩
    refine codeAny_mono ((F _ hKb (nsK hns)).run callerA [] s₁ H ⟨[.ref a], []⟩ [.ref a] [.ref a] _ _ rfl hr e0 (hbind s₁ (.ref a)) (.cons rfl .nil) (hsp H hO hS)) fun r s' h => ?_
    cases r with
    | error e => exact (hCX H e s' h).elim
    | ok fl =>
      cases fl with
      | next => exact h.elim
      | brk => exact h.elim
      | cont => exact h.elim
      | ret u =>
        obtain ⟨v, H', os, bare, un, hok', r', q⟩ := h
        have q' : v = .bl true := q
        subst q'
        obtain rfl : u = Value.bool true := r'
        refine ⟨rfl, OldK.of_keep fun b o e => ?_, os, bare⟩
        cases q : H b with
        | none => exact un.keep b o e q (by intro z; exact absurd (show b ∈ ([] : List Addr) from z) (by simp)) (by simp)
        | some u =>
          rcases hO b with z | ⟨ob, xs, z⟩
          · rw [q] at z
            cases z
          · have z2 := un.frzs b ob _ z
            obtain ⟨e1, _⟩ := hok b _ z
            obtain ⟨e2, _⟩ := hok' b _ z2
            rw [e] at e1
            cases e1
            exact e2
  cases hk : K.lookup a with
  | some o =>
    have e := KX a o hk
    rw [ha] at e
    cases e
    refine core (fun _ => none) (fun _ => .inl rfl) (.inr ⟨_, vs.toArray, _, hk, rfl, rfl, rfl, by rw [List.size_toArray, lenV]; exact hl, by simpa using rv⟩) (fun b u z => by
      have z' : (none : Option HO) = some u := z
      cases z') (fun b z => absurd rfl z) fun z => absurd rfl z
  | none =>
    refine core (fun b => if b = a then some (.frz { cls := .type "list", data := .seq vs.toArray } (.lst (ns.map V.int))) else none) (fun b => ?_) (.inl (.inr ⟨{ cls := .type "list", data := .seq vs.toArray }, if_pos rfl⟩)) (fun b u z => ?_) (fun b z => ?_) fun _ => hk
    · by_cases hb : b = a
      · exact .inr ⟨_, _, if_pos hb⟩
      · exact .inl (if_neg hb)
    · by_cases hb : b = a
      · have z' := (if_pos hb).symm.trans z
        cases z'
        subst hb
        exact ⟨ha, by rw [List.length_map]; exact hl, vs, _, rv, ha⟩
      · have z' := (if_neg hb).symm.trans z
        cases z'
    · by_cases hb : b = a
      · exact hb
      · exact absurd (if_neg hb) z
theorem walk_ofG {l : PySem.W.OpenLaw} {n k : Nat} {q : Program} {loose : List Str} {XP : (Str → Option Value) → Heap → Prop} {YP : World → Heap → Prop} {d : DefRec} {CX : CXT} {x : Str}
    (hn : l.most = some n) (hn2 : n ≤ sizeLine) (hdf : d.params.defaults = []) (hr : Room k callerA)
    (F : ∀ (w : World) (mg : Str → Option Value) (fa : Addr) (h : Heap), YP w h → h.Ns mainGlobals mg → mg d.name = some (.ref fa) →
      ∃ (K : PySem.W.Frag) (fd : FuncData) (sp : Sp), K.In h ∧ (∀ (s : Shared) (u : Value), BindsTo s fd ⟨[u], []⟩ [(x, u)]) ∧
        (∀ (H : Hp) (a : Addr) (ns : List Int), ns.length ≤ n → Only H → SqL K H a (ns.map V.int) → sp [.ref a] H (fun v _ => v = .bl true) fun _ _ _ => False) ∧
        ∀ base : Heap, K.In base → base.Ns mainGlobals mg → FnOkG l.prog w K mg base CX k fa fd [x] sp)
    (hCX : ∀ (H : Hp) (s : Shared) (e : Value) (s' : Shared), CX [] H s (fun _ _ _ => False) e s' → False) :
    PySem.W.WalkO q loose XP YP l.row.toRowW d [] (fun f vs => PySem.call f vs) := by
  refine Att.attach_call hn hdf fun w s₀ s₁ mg mb fa o pm cd doc a vs ns G Y ho hd hcd hmg hobj hints hlen hg => ?_
  obtain ⟨K, fd, sp, KX, hb, hsp, hF⟩ := F w mg fa _ Y G.T.g hmg
  exact law_callG KX G.T.g G.T.b G.T.builtins G.T.nolimit hg hobj hints (Nat.le_trans hlen hn2) hr hF hb (fun H hO hS => hsp H a ns hlen hO hS) fun H e s' => hCX H s₁ e s'
end Rv
/-! Texts of lists of ints, and of own instances whose def makes a text. -/
namespace Rv
open PySem PySem.Spec PyProof.Rows L2
theorem sizeLine_big : 200000 ≤ sizeLine := by decide
theorem small_log {z : Int} (h : z.natAbs < 10 ^ 32) : z.natAbs.log2 < 1920 := by
  by_cases h0 : z.natAbs = 0
  · rw [h0]; decide
  · exact (Nat.log2_lt h0).mpr (Nat.lt_of_lt_of_le h (by decide))
theorem ints_showable : ∀ {zs : List Int}, (∀ z ∈ zs, z.natAbs < 10 ^ 32) → PyData.showableAll (zs.map PyData.int) = true
  | [], _ => by simp [PyData.showableAll]
  | z :: r, h => by
    simp only [List.map_cons, PyData.showableAll, PyData.showable, Bool.and_eq_true, decide_eq_true_eq]
    exact ⟨small_log (h z List.mem_cons_self), ints_showable fun y hy => h y (List.mem_cons_of_mem _ hy)⟩
theorem ints_dict : ∀ zs : List Int, PyData.hasDictAll (zs.map PyData.int) = false
  | [] => by simp [PyData.hasDictAll]
  | z :: r => by simp only [List.map_cons, PyData.hasDictAll, PyData.hasDict, ints_dict r, Bool.or_false]
end Rv
/-! t[::-1] of a tuple. -/
namespace Rv
open PySem PySem.Spec PyProof.Rows L2
end Rv
/-! Comparisons of an int with an instance of an own class: the int declines, the class's own def answers; own comparisons with values of any kind. -/
namespace Rv
open PySem PySem.Spec PyProof.Rows L2
end Rv
/-! Own comparisons with values of any kind, in both orders. -/
namespace Rv
open PySem PySem.Spec PyProof.Rows L2
/-! lowest terms -/
end Rv
/-! != of instances with an own == and no own !=; + of two own instances. -/
namespace PySem.W
open PySem PySem.Spec PyProof.Rows
end PySem.W
namespace Rv
open PySem PySem.Spec PyProof.Rows L2
end Rv
/-! Base.__init__(self, ..) where Base is an own class under ValueError that has no __init__ of its own. -/
namespace Rv
open PySem PySem.Spec PyProof.Rows L2
end Rv
/-! An own exception class called with keywords: BaseException.__new__ takes them, the own __init__ binds them. -/
namespace PySem.HandSPX
open PySem PySem.W PySem.Calls PyProof.Rows Builtin Builtin.ObjectAttr
/-- a standard class whose __new__ may be another one's: what a class under it asks -/
structure XBase (B idN idI : String) (mB : List Value) : Prop where
  new : ∃ (Bn inN : String) (mN : List Value), ExcBaseFacts Bn idN inN mN ∧ mB.contains (.type Bn) = true
  noA : mB.contains (.type "AttributeError") = false
  noN : mB.contains (.type "NameError") = false
  hasB : mB.contains (.type B) = true
  ini : Slot B "__init__" idI
  iniE : entryFor table idI = some Builtin.«BaseException.__init__»
  iniS : splitId idI = some (B, "__init__")
  iniK : builtinKind idI = some .slot
  iniR : Manifest.signature? idI = some ⟨.positional, "*", B, .self, [⟨"args", .varPos, false⟩]⟩
  noSt : (B != "*") = true
theorem XBase.of {B idN idI : String} {mB : List Value} (F : ExcBaseFacts B idN idI mB) : XBase B idN idI mB := ⟨⟨B, idI, mB, F, F.hasB⟩, F.noAttr, F.noName, F.hasB, F.init, F.initEntry, F.initSplit, F.initKind, F.initRow, F.noStar⟩
theorem xbase_KeyError : XBase "KeyError" "LookupError.__new__" "KeyError.__init__" [.type "KeyError", .type "LookupError", .type "Exception", .type "BaseException", .type "object"] where
  new := ⟨_, _, _, PySem.F.excBase_LookupError, by decide +kernel⟩
  noA := by decide +kernel
  noN := by decide +kernel
  hasB := by decide +kernel
  ini := .of (n := "__init__") (owner := "KeyError") (by rw [typeLookup_type, builtinLookup_eq_fast] <;> kernel_rfl) (by decide +kernel) (by decide +kernel) (by decide +kernel) (by first | exact .inl (by decide +kernel) | exact .inr (by decide +kernel)) (by rw [isSubtype_type] <;> kernel_rfl)
  iniE := entryFor_alias (by rw [fastTable_eq_tree]; kernel_rfl) (id' := "BaseException.__init__") (by first | rfl | decide +kernel) (by decide +kernel) (by rw [fastTable_eq_tree]; kernel_rfl)
  iniS := by kernel_rfl
  iniK := by kernel_rfl
  iniR := by kernel_rfl
  noSt := by decide +kernel
section
variable {M : Model} {A : Around} {E : Value → Shared → Prop} {h : Heap} {g : Array GenState} {d : Drawn} {t : Nat} {os : OsState}
variable {nm q : Str} {C N : Addr} {bs mC mB : List Value} {hdct : Bool} {sn : List Str} {sub : List Value} {ab : Bool} {col : Option Bool} {dd : Option Addr} {k0 k1 k2 k3 k5 : Option Value} {B idN idI : String} {rest : List Value} {kw : List (Str × Value)}
theorem check_new_ownK {Bn inN : String} {mN : List Value} (FB : ExcBaseFacts Bn idN inN mN) (nB : mB.contains (.type Bn) = true) (tl : ∀ X : String, mC.contains (.type X) = mB.contains (.type X)) {Q : Unit → Shared → Prop}
    (at0 : h.get? C = some (excClassObj nm q C N bs mC hdct sn sub ab col dd k0 k1 k2 k3 k5 idN)) (go : Q () ⟨h, g, d, t, os⟩) : wpAny M A (checkBuiltinCall idN ⟨.ref C :: rest, kw⟩) Q E ⟨h, g, d, t, os⟩ := by
  have inB : (Value.ref C :: mC).contains (.type Bn) = true := by rw [List.contains_cons, tl, nB, Bool.or_true]
  have nst := FB.noStar
  simp only [checkBuiltinCall, FB.newKind, FB.newSplit, FB.newRow]
  repeat (first | refine wpAny_loadPart_at at0 ?_ | (refine wpAny_isSubtype_exc at0 ?_; rw [inB]) | refine wpAny_staticBase_exc at0 ?_ | refine wpAny_madeBy_exc at0 ?_ | simp only [bne_self_eq_false, Bool.false_eq_true, if_false] | wp_step)
  exact go
theorem check_type_callK {Q : Unit → Shared → Prop} (at0 : h.get? C = some (excClassObj nm q C N bs mC hdct sn sub ab col dd k0 k1 k2 k3 k5 idN))
    (go : Q () ⟨h, g, d, t, os⟩) : wpAny M A (checkBuiltinCall "type.__call__" ⟨.ref C :: rest, kw⟩) Q E ⟨h, g, d, t, os⟩ := by
  have u3 := tc_sub
  have tl : (⟨h, g, d, t, os⟩ : Shared).TypeIs (.ref C) "type" := ⟨_, at0, rfl⟩
  simp only [checkBuiltinCall, tc_kind, tc_split]
  repeat (any_goals (first | assumption | with_reducible refine wpAny_loadPart_at at0 ?_ | with_reducible refine wpAny_onRaise ?_ | with_reducible refine wpAny_map ?_ | wp_step))
end
section
variable {prog : Program} {w : World} {A : Around} {E : Value → Shared → Prop} {R : Result → Shared → Prop} {h : Heap} {g : Array GenState} {d : Drawn} {t : Nat} {os : OsState}
variable {nm q : Str} {C N : Addr} {bs mC mB : List Value} {hdct : Bool} {sn : List Str} {sub : List Value} {ab : Bool} {col : Option Bool} {dd : Option Addr} {k0 k1 k2 k3 k5 : Option Value} {B idN idI : String} {rest : List Value} {kw : List (Str × Value)}
theorem new_ownK {Bn inN : String} {mN : List Value} (FB : ExcBaseFacts Bn idN inN mN) (nB : mB.contains (.type Bn) = true) (XB : XBase B idN idI mB) (lr : rest.length ≤ sizeLine) (tl : ∀ X : String, mC.contains (.type X) = mB.contains (.type X))
    (at0 : h.get? C = some (excClassObj nm q C N bs mC hdct sn sub ab col dd k0 k1 k2 k3 k5 idN))
    (go : R (.ok (.ret (.ref (h.objs.size + 1)))) ⟨(h.push { cls := .type "tuple", data := .seq rest.toArray }).push
      { cls := .ref C, data := .fields #[.ref h.objs.size, .none, .none, .none, .bool false, .none] }, g, d, t, os⟩) :
    codeAny (model prog w) A (.builtin idN ⟨.ref C :: rest, kw⟩) R ⟨h, g, d, t, os⟩ := by
  have fe := FB.ends
  have inB : (Value.ref C :: mC).contains (.type Bn) = true := by rw [List.contains_cons, tl, nB, Bool.or_true]
  have ninA : (Value.ref C :: mC).contains (.type "AttributeError") = false := by rw [List.contains_cons, tl, XB.noA]; rfl
  have ninN : (Value.ref C :: mC).contains (.type "NameError") = false := by rw [List.contains_cons, tl, XB.noN]; rfl
  refine codeAny_builtinAt FB.entry ?_
  unfold Builtin.«BaseException.__new__»
  refine wpAt_bind ?_
  refine (show wpAt _ _ _ (stack >>= _) _ _ _ from wpAt_bind (wpAt_stack fun _ _ => wpAt_of_wpAny ?_))
  wp_walk
  refine wpAt_of_wpAny ?_
  rw [FB.owner]
  repeat (first | with_reducible refine wpAny_madeHere_exc FB.canon at0 ?_ | with_reducible refine wpAny_loadPart_at at0 ?_ | (with_reducible refine wpAny_isSubtype_exc at0 ?_; first | rw [inB] | rw [ninA] | rw [ninN]) | wp_step)
  show R _ _
  rw [Heap.size_push]
  exact go
theorem type_call_ownK {Bn inN : String} {mN : List Value} (FB : ExcBaseFacts Bn idN inN mN) (nB : mB.contains (.type Bn) = true) (XB : XBase B idN idI mB) (lr : rest.length ≤ sizeLine) (tl : ∀ X : String, mC.contains (.type X) = mB.contains (.type X)) {fI : Addr} {Q : Fin → Shared → Prop}
    (at0 : h.get? C = some (excClassObj nm q C N bs mC hdct sn sub ab col dd k0 k1 k2 k3 k5 idN))
    (ini : W.Looks (model prog w) h (typeLookup (.ref C) "__init__") (some (.ref fI))) (bnd : ∀ self, W.Looks (model prog w) h (bindSpecial (.ref fI) self) (.ref fI, [self]))
    (go : codeAny (model prog w) A (.call (.ref fI) ⟨.ref (h.objs.size + 1) :: rest, kw⟩)
      (fun r s2 => match r with | .ok (.ret u) => u = .none ∧ Q (.done (.ret (.ref (h.objs.size + 1)))) s2 | .ok _ => False | .error er => E er s2)
      ⟨(h.push (W.kdv_tup rest)).push (excO C h.objs.size), g, d, t, os⟩) :
    wpAny (model prog w) A (Builtin.«type.__call__» ⟨.ref C :: rest, kw⟩) Q E ⟨h, g, d, t, os⟩ := by
  repeat (first | with_reducible refine wpAny_loadPart_at at0 ?_ | with_reducible refine wpAny_madeBy_exc at0 ?_ | wp_step)
  refine codeAny_call_builtin_code (Code.quiet_builtin _ FB.quiet) (check_new_ownK FB nB tl at0 ?_)
  refine new_ownK FB nB XB lr tl at0 ?_
  show wpAny _ _ _ _ _ _
  have kp : ∀ b o, h.get? b = some o → ((h.push (W.kdv_tup rest)).push (excO C h.objs.size)).get? b = some o := fun b o e => Heap.get?_push_of_some _ (Heap.get?_push_of_some _ e)
  have at1 := kp _ _ at0
  have atE : ((h.push (W.kdv_tup rest)).push (excO C h.objs.size)).get? (h.objs.size + 1) = some (excO C h.objs.size) := by heap_get
  have selfIn : (Value.ref C :: mC).contains (.ref C) = true := by simp
  have ini2 := ini.keeps kp
  have bnd2 := (bnd (.ref (h.objs.size + 1))).keeps kp
  unfold isInstance
  repeat (first | with_reducible refine wpAny_loadPart_at atE ?_ | (with_reducible refine wpAny_isSubtype_exc at1 ?_; rw [selfIn]) | wp_step)
  refine (show wpAny _ _ (typeLookup (.ref C) _) _ _ _ from ini2.at ?_)
  refine wpAny_holding (wpAny_bind (bnd2.at ?_))
  refine wpAny_bind (wpAny_call (codeAny_mono go fun r s' zz => ?_))
  rcases r with e | (v | _ | _ | _) <;> first | exact zz | exact zz.elim | skip
  obtain ⟨rfl, zz⟩ := zz
  first
    | exact wpAny_pure (wpAny_pure zz)
    | (wp_walk; exact zz)
theorem call_ownK (XB : XBase B idN idI mB) (lr : rest.length ≤ sizeLine) (tl : ∀ X : String, mC.contains (.type X) = mB.contains (.type X)) {fI : Addr}
    (at0 : h.get? C = some (excClassObj nm q C N bs mC hdct sn sub ab col dd k0 k1 k2 k3 k5 idN))
    (ini : W.Looks (model prog w) h (typeLookup (.ref C) "__init__") (some (.ref fI))) (bnd : ∀ self, W.Looks (model prog w) h (bindSpecial (.ref fI) self) (.ref fI, [self]))
    (go : codeAny (model prog w) (A.under (.builtin "type.__call__" ⟨.ref C :: rest, kw⟩)) (.call (.ref fI) ⟨.ref (h.objs.size + 1) :: rest, kw⟩) (W.InitBack (h.objs.size + 1) R)
      ⟨(h.push (W.kdv_tup rest)).push (excO C h.objs.size), g, d, t, os⟩) :
    codeAny (model prog w) A (.call (.ref C) ⟨rest, kw⟩) R ⟨h, g, d, t, os⟩ := by
  obtain ⟨_, _, _, FB, nB⟩ := XB.new
  have u1 := tc_lookup
  have u2 := tc_bind (.ref C)
  have tyC : (⟨h, g, d, t, os⟩ : Shared).TypeIs (.ref C) "type" := ⟨_, at0, rfl⟩
  refine codeAny_of_tree ?_
  show wpAny _ _ (callAny (.ref C) _) _ _ _
  repeat (any_goals (first | assumption | with_reducible refine wpAny_loadPart_at at0 ?_ | wp_step))
  refine ⟨rfl, ?_⟩
  refine codeAny_call_builtin_at (Code.quiet_builtin _ (by decide +kernel)) entry_typeCall (check_type_callK at0 (type_call_ownK FB nB XB lr tl at0 ini bnd ?_))
  refine codeAny_mono go fun r s' zz => ?_
  rcases r with e | (v | _ | _ | _) <;> exact zz
/-- B.__init__(e, ..): the args are laid anew -/
theorem init_baseX (XB : XBase B idN idI mB) (tl : ∀ X : String, mC.contains (.type X) = mB.contains (.type X)) {e t0 : Addr}
    (at0 : h.get? C = some (excClassObj nm q C N bs mC hdct sn sub ab col dd k0 k1 k2 k3 k5 idN)) (he : h.get? e = some (excO C t0)) (lr : rest.length ≤ sizeLine)
    (go : ∀ h2 t1, (∀ b o, b ≠ e → h.get? b = some o → h2.get? b = some o) → h2.get? e = some (excO C t1) → R (.ok (.ret .none)) ⟨h2, g, d, t, os⟩) :
    codeAny (model prog w) A (.call (.builtin idI) ⟨.ref e :: rest, []⟩) R ⟨h, g, d, t, os⟩ := by
  have inB : (Value.ref C :: mC).contains (.type B) = true := by rw [List.contains_cons, tl, XB.hasB, Bool.or_true]
  have nst := XB.noSt
  refine codeAny_call_builtin XB.ini.plain XB.iniE ?_
  refine (?_ : wpAny _ _ (checkBuiltinCall idI ⟨.ref e :: rest, []⟩) _ _ _)
  simp only [checkBuiltinCall, XB.iniK, XB.iniS, XB.iniR]
  repeat (first | (with_reducible refine wpAny_loadPart_at he ?_) | with_reducible refine wpAny_loadPart_at at0 ?_ | (with_reducible refine wpAny_isSubtype_exc at0 ?_; rw [inB]) | wp_step)
  refine wpAny_onRaise ?_
  rw [show ∀ (x y : String) (n : Nat), Bind.check ⟨.positional, "*", B, .self, [⟨"args", .varPos, false⟩]⟩ x y n (List.map (fun x => x.fst) ({ pos := Value.ref e :: rest } : Args).kw) = pure () from fun _ _ _ => check_star_args _ _ _ _ _ _]
  refine wpAny_pure ?_
  wp_walk
  refine go _ h.objs.size (fun b o hb ho => ?_) ?_
  · rw [Heap.get?_update_other _ _ (Ne.symm hb)]
    exact Heap.get?_push_of_some _ ho
  · rw [Heap.get?_update_self _ (Heap.get?_push_of_some _ he) rfl] <;> rfl
end
end PySem.HandSPX
/-! Own exceptions under any base of the standard ones: fields set in __init__. -/
namespace Rv
open PySem PySem.W PySem.Calls PyProof.Rows PySem.HandSPX Builtin Builtin.ObjectAttr
section
variable {prog : Program} {w : World} {A : Around} {R : Result → Shared → Prop} {hp : Heap} {g : Array GenState} {dr : Drawn} {t : Nat} {os : OsState}
variable {K : W.Frag} {nm : Str} {tk : Tok} {v : Value} {x C : Addr} {fv : Array Value} {cd : ClassData}
/-- an mro by which a store passes -/
structure Mok (m : List Value) : Prop where
  ps : ∀ self, refuseLoop self "__setattr__" m = pure ()
  ne : m.isEmpty = false
  ob : m.contains (.type "object") = true
theorem set_first (X : K.In hp) (gx : hp.get? x = some { cls := .ref C, data := .fields fv }) (gc : W.clsIn K C = some cd) (m : Mok cd.mro) (gd : cd.hasDict = true) (ga : W.findIn K (.ref C) nm = some none)
    (q : ∀ h2 u dx, (∀ b o, b ≠ x → hp.get? b = some o → h2.get? b = some o) → hp.objs.size ≤ dx → dx ≠ x → h2.get? x = some { cls := .ref C, dict := some dx, data := .fields fv } →
      h2.Ns1 dx (fun y => if y = nm then some v else none) → R (.ok (.ret .none)) ⟨h2, g, dr, u, os⟩) :
    codeAny (model prog w) A (.call (.builtin "object.__setattr__") ⟨[.ref x, .str nm tk, v], []⟩) R ⟨hp, g, dr, t, os⟩ := by
  have J : W.InstAt hp x { cls := .ref C, data := .fields fv } C none := ⟨gx, rfl, rfl, trivial⟩
  have S := F.store_object
  have n0 : x ≠ hp.objs.size := Nat.ne_of_lt (Heap.lt_size gx)
  have inO : W.Looks (model prog w) hp (isInstance (.ref x) (.type "object")) true := J.type.andThen (W.looks_mroIn X (by
    unfold W.mroIn
    rw [gc, Option.bind_some, if_neg (by rw [m.ne]; decide), m.ob]))
  refine codeAny_call_builtin S.slot.plain S.entry (@W.check_slot (model prog w) _ _ ⟨hp, g, dr, t, os⟩ "object.__setattr__" "object" "__setattr__" (.ref x) [.str nm tk, v] [] _ S.kind S.split inO (S.args (.ref x) (.str nm tk) v) ?_)
  have mr : W.Looks (model prog w) hp (mroOf (.ref C)) cd.mro := (W.looks_clsIn X gc).andThen .now
  have tn : W.Looks (model prog w) hp (storeTaker? none) none := .now
  have ck : W.Looks (model prog w) hp (classData C) cd := W.looks_clsIn X gc
  rw [W.osa_eq, refuse_eq]
  refine wpAny_bind (wpAny_bind (J.type.at (wpAny_bind (mr.at ?_))))
  rw [m.ps]
  refine wpAny_pure (wpAny_bind (J.type.at (wpAny_bind ((W.looks_findIn X ga).at (wpAny_bind (tn.at ?_))))))
  show wpAny _ _ (storeInOwnDict (.ref x) (.ref C) (.str nm tk) nm v false) _ _ _
  obtain ⟨z1, z2, z3, z4, z5, z6, z7, z8, z9, z10, z11⟩ := cd
  dsimp only at gd
  subst gd
  unfold storeInOwnDict ownDictForStores
  repeat (first | with_reducible refine HandSPX.store_in_new ?_ ?_ | with_reducible refine wpAny_loadPart_at gx ?_ | with_reducible refine ck.at ?_ | wp_step)
  · exact ⟨_, #[], _, (Heap.get?_update_ne _ _ _ _ n0.symm).trans (Heap.get?_push_at rfl rfl), rfl, fun e he => absurd he (by simp), fun _ => rfl⟩
  · intro h2 u hn hs
    have gx1 : (hp.push { cls := .type "dict", data := .dict #[] }).get? x = some { cls := .ref C, data := .fields fv } := Heap.get?_push_of_some _ gx
    refine q h2 u hp.objs.size (fun b o hb ho => ?_) (Nat.le_refl _) n0.symm ?_ hn
    · have w1 := Heap.get?_push_of_some { cls := .type "dict", data := .dict #[] } ho
      exact ((hs.2 b (Nat.ne_of_lt (Heap.lt_size ho))).trans (Heap.get?_update_ne _ _ _ _ hb)).trans w1
    · exact (hs.2 x n0).trans (Heap.get?_update_self _ gx1 rfl)
end
end Rv
namespace Rv
open PySem PySem.Spec PyProof.Rows L2
/-- an own exception class, directly or not under the standard class B -/
structure OexG (K : PySem.W.Frag) (C : Addr) (B newId initId : String) (bmB : List Value) : Prop where
  bf : PySem.HandSPX.XBase B newId initId bmB
  cls : ∃ nm q N bs bm sn sub ab col dd k0 k1 k2 k3 k5, K.lookup C = some (excClassObj nm q C N bs bm true sn sub ab col dd k0 k1 k2 k3 k5 newId) ∧ (∀ Y : String, bm.contains (.type Y) = bmB.contains (.type Y)) ∧ Mok (.ref C :: bm)
  sa : PySem.W.findIn K (.ref C) "__setattr__" = some (some (.builtin "object.__setattr__"))
  exC : PySem.W.subIn K (.ref C) (.type "BaseException") = some true
  tyC : PySem.W.typeIn K (.ref C) = some (.type "type")
  kC : PySem.W.keepIn K (.ref C) = true
/-- B.__init__(self, ..) in such a class: nothing of it is told -/
theorem base_init {X : Cx} {pins : List (Addr × Obj)} {σ : L2.St} {H : Hp} {s : Shared} {a C : Addr} {A : Around} {E : Value → Shared → Prop} {B newId initId : String} {bmB : List Value} {us : List Value} {Q : Value → Shared → Prop} (T : OexG X.K C B newId initId bmB) (I : Inv X pins σ H s)
    (e : H a = some (exo a C none)) (hl : us.length ≤ sizeLine) (h : ∀ s2, Inv X pins σ H s2 → Q .none s2) : wpAny (model X.prog X.w) A (call (.builtin initId) (.ref a :: us)) Q E s := by
  obtain ⟨nm, q, N, bs, bm, sn, sub, ab, col, dd, k0, k1, k2, k3, k5, lk, hT, _⟩ := T.cls
  obtain ⟨ta0, ho⟩ := exo_at I.hok e
  obtain ⟨hp, g, d, t, os⟩ := s
  refine wpAny_call (PySem.HandSPX.init_baseX T.bf hT (I.kIn _ _ lk) ho hl fun h2 t2 kk hx => ?_)
  have J := I.write (t' := t) (x := a) (e := a) (o := exo a C none) (by rw [e]; exact True.intro) (.inl rfl) kk ⟨_, hx⟩ (exo_ok hx)
  have same : upd H a (exo a C none) = H := by
    funext b
    by_cases z : b = a
    · rw [z, upd_same, e]
    · rw [upd_ne z]
  rw [same] at J
  exact h _ J
theorem mok_ref {C : Addr} {m : List Value} (h : Mok m) : Mok (.ref C :: m) := ⟨fun self => by rw [refuseLoop_ref]; exact h.ps self, rfl, by rw [List.contains_cons, h.ob, Bool.or_true]⟩
theorem mok_ve : Mok [.type "ValueError", .type "Exception", .type "BaseException", .type "object"] := ⟨fun self => F.store_ValueError.passes self, rfl, by decide +kernel⟩
theorem mok_oe : Mok [.type "OverflowError", .type "ArithmeticError", .type "Exception", .type "BaseException", .type "object"] := ⟨fun self => F.store_OverflowError.passes self, rfl, by decide +kernel⟩
theorem mok_ie : Mok [.type "IndexError", .type "LookupError", .type "Exception", .type "BaseException", .type "object"] := ⟨fun self => F.store_IndexError.passes self, rfl, by decide +kernel⟩
section
variable {X : Cx} {pins : List (Addr × Obj)} {σ : L2.St} {H : Hp} {s : Shared} {a C : Addr} {f : Str} {y : V} {u : Value} {Q : Unit → Shared → Prop} {E : Value → Shared → Prop} {A : Around} {B newId initId : String} {bmB : List Value}
/-- self.f = y, the first field -/
theorem first_field (T : OexG X.K C B newId initId bmB) (I : Inv X pins σ H s) (e : H a = some (exo a C none)) (no : PySem.W.findIn X.K (.ref C) f = some none) (ry : RelV y u)
    (h : ∀ dx s2, H dx = none → dx ≠ a → Inv X pins σ (upd (upd H dx (exd dx [(f, y)])) a (exo a C (some dx))) s2 → Q () s2) : wpAny (model X.prog X.w) A (setAttr (.ref a) f u) Q E s := by
  obtain ⟨nm, q, N, bs, bm, sn, sub, ab, col, dd, k0, k1, k2, k3, k5, lk, _, mk⟩ := T.cls
  have ci : PySem.W.clsIn X.K C = some { name := nm, bases := bs, mro := .ref C :: bm, ns := N, qualname := q, hasDict := true, slotNames := sn, subclasses := sub, abstract := ab, collection := col, hasDel := false } := by
    unfold PySem.W.clsIn
    rw [lk] <;> rfl
  obtain ⟨ta0, ho⟩ := exo_at I.hok e
  obtain ⟨hp, g, d, t, os⟩ := s
  refine PySem.W.set_plain I.kIn (ox := { cls := .ref C, dict := none, data := .fields #[.ref ta0, .none, .none, .none, .bool false, .none] }) (od := none) ⟨ho, rfl, rfl, trivial⟩ T.sa ?_
  refine set_first I.kIn ho ci mk rfl no fun h2 tk2 dx kk dn dne hx hn => ?_
  have fr : H dx = none := I.hok.fresh dn
  have nd : ∀ {b : Addr} {o : Obj}, hp.get? b = some o → b ≠ dx := fun {b o} z => Nat.ne_of_lt (Nat.lt_of_lt_of_le (Heap.lt_size z) dn)
  have na : ∀ {b : Addr}, H b = none → b ≠ a := fun {b} n z => by
    rw [z, e] at n
    cases n
  have U : Un X.fs [] H (upd (upd H dx (exd dx [(f, y)])) a (exo a C (some dx))) hp h2 := {
    keep := fun b o z n _ _ => kk b o (na n) z
    slot := fun b o z n _ _ => ⟨o.slots, kk b o (na n) z⟩
    free := fun b o z n _ => by
      rw [upd_ne (na n), upd_ne (nd z)]
      exact n
    there := fun b o z _ => by
      by_cases w : b = a
      · exact ⟨_, by rw [w]; exact hx⟩
      · exact ⟨o, kk b o w z⟩
    tups := fun b xs z => by
      rw [upd_ne (at_ne e z exo_tup), upd_ne (ne_of_none z fr)]
      exact z
    frzs := fun b o v z => by
      rw [upd_ne (at_ne e z exo_frz), upd_ne (ne_of_none z fr)]
      exact z
    tbls := fun b ps z => ⟨#[], by rw [upd_ne (at_ne e z exo_tbl), upd_ne (ne_of_none z fr), z]; simp⟩ }
  refine h dx _ fr dne (I.un (t' := tk2) U fun b o z => ?_)
  by_cases w : b = a
  · subst w
    rw [upd_same] at z
    cases z
    exact exo_ok hx
  · rw [upd_ne w] at z
    by_cases w2 : b = dx
    · subst w2
      rw [upd_same] at z
      cases z
      exact exd_ok hn (relO_put (fs := []) ry fun _ => True.intro)
    · rw [upd_ne w2] at z
      refine (I.hok b o z).stay (fun c v c0 zz => kk c v ?_ zz) (fun c c0 => ?_) (fun c xs c0 => ?_)
      · rcases c0 with c0 | c0
        · rw [c0]
          exact w
        · exact at_ne e c0 exo_own
      · rw [upd_ne (at_ne e c0 exo_own), upd_ne (ne_of_none c0 fr)]
        exact c0
      · rw [upd_ne (at_ne e c0 exo_tup), upd_ne (ne_of_none c0 fr)]
        exact c0
end
/-! readings and rules -/
/-- Base.__init__(self, ..) by the standard initId -/
def tBaseI (K : PySem.W.Frag) (C : Addr) (B newId initId : String) (bmB : List Value) (ta : TA) : TE := fun σ H Q => ta σ H fun vs H1 => ∃ (a : Addr) (ws : List V), vs = .ref a :: ws ∧ ws.length ≤ 1000 ∧ OexG K C B newId initId bmB ∧ H1 a = some (exo a C none) ∧ Q .non H1
/-- self.f = e, the first field of it -/
def tFst (K : PySem.W.Frag) (C : Addr) (B newId initId : String) (bmB : List Value) (f : Str) (to te : TE) : TS := fun D σ H => te σ H fun y H1 => to σ H1 fun x H2 => ∃ a : Addr, x = .ref a ∧ OexG K C B newId initId bmB ∧ PySem.W.findIn K (.ref C) f = some none ∧
  H2 a = some (exo a C none) ∧ ∀ dx, H2 dx = none → dx ≠ a → D.nx σ (upd (upd H2 dx (exd dx [(f, y)])) a (exo a C (some dx)))
theorem ps_fst {X : Cx} {o e : Expr} {to te : TE} {f : Str} {p2 pos : Pos} {C : Addr} {B newId initId : String} {bmB : List Value} (ho : PE X o to) (he : PE X e te) (hs : swapsWith e (some (.Attribute o f p2)) pos.line X.env = pure false := by rfl) : PS X (.Assign [.Attribute o f p2] e pos) (tFst X.K C B newId initId bmB f to te) := by
  refine ⟨fun pins s σ H D I h => plainObj_wpAny_Assign_Attribute (thn (he.run pins s σ H _ I h) fun v s1 z1 => ?_) hs⟩
  obtain ⟨y, H1, I1, r1, q1⟩ := z1
  refine thn (ho.run pins s1 σ H1 _ I1 q1) fun u s2 z2 => ?_
  obtain ⟨x, H2, I2, r2, a, ex, T, no, ea, q⟩ := z2
  subst ex
  have e0 : u = Value.ref a := r2
  subst e0
  exact first_field T I2 ea no r1 fun dx s3 n ne J => ⟨σ, _, J, q dx n ne⟩
/-- what the top has made of an own Base without an __init__ -/
structure BaseG (K : PySem.W.Frag) (D : Addr) (initId : String) : Prop where
  rd : PySem.W.readsIn K D (.type "type") = true
  ga : PySem.W.specialIn K (.ref D) "__getattribute__" = some (some (.builtin "type.__getattribute__"))
  vi : PySem.W.findCls K (.ref D) (.type "type") "__init__" = some (.val (.builtin initId))
  hi : PySem.W.handedIn (.builtin initId) = true
theorem pe_ownbaseG {X : Cx} {e : Expr} {es : List Expr} {ta : TA} {D C : Addr} {bx : Str} {p1 p2 pos : Pos} {pl : Sem Bool} {B newId initId : String} {bmB : List Value} (T : BaseG X.K D initId) (hg : Gl X bx) (hm : X.mg bx = some (.ref D)) (ha : PA X (e :: es) ta) (hdb : (bx == ("__debug__" : Str)) = false := by decide)
    (hc : eval (.Call (.Attribute (.Name bx p1) "__init__" p2) (e :: es) [] pos) X.env = (do let ov ← eval (.Name bx p1) X.env; standAt p2.atName; let (f, first) ← holding [ov] (getMethod ov "__init__" pl); callWith pos f first (backTo pos (starEach (e :: es) X.env)) (backToKw pos (keywordEach [] X.env))) := by rfl)
    (he : starEach (e :: es) X.env = (false, eval e X.env) :: starEach es X.env := by rfl) (hpl : (backTo pos (starEach es X.env)).any (·.1) = false := by rfl) :
    PE X (.Call (.Attribute (.Name bx p1) "__init__" p2) (e :: es) [] pos) (tBaseI X.K C B newId initId bmB ta) := by
  refine ⟨fun pins s σ H Q I h => PySem.W.methodCall_KW (ld_glob I hg hm ?_ hdb) hc⟩
  refine PySem.W.method_cls I.kIn T.ga (PySem.W.cls_value I.kIn T.rd T.vi T.hi ?_)
  show wpAny _ _ (callWith pos (Value.builtin initId) [] (backTo pos (starEach (e :: es) X.env)) []) _ _ _
  refine callWith_method1 (thn (ha.run pos pins _ σ H _ (I.tok _) h) fun us s1 z => ?_) he hpl
  obtain ⟨vs, H1, I1, r1, a, ws, ev, hl, O, ea, q⟩ := z
  subst ev
  cases r1 with
  | @cons _ u0 _ ur ra rw' =>
    have e0 : u0 = Value.ref a := ra
    subst e0
    have le : ur.length ≤ sizeLine := by
      have := Paired.length rw'
      rw [sizeLine_eq]
      omega
    exact base_init O I1 ea le fun s2 J => ⟨.non, H1, J, rfl, q⟩
/-- B.__init__(self, ..), B a standard class by its name -/
theorem pe_stdbase {X : Cx} {e : Expr} {es : List Expr} {ta : TA} {C : Addr} {n : String} {bx : Str} {p1 p2 pos : Pos} {pl : Sem Bool} {B newId initId : String} {bmB : List Value} (hg : Gl X bx) (hm : X.mg bx = none) (hb : bootBuiltins bx = some (.type n))
    (ht : typeOf (.type n) = pure (.type "type")) (hst : Manifest.isStub n = false) (vi : PySem.W.findCls X.K (.type n) (.type "type") "__init__" = some (.val (.builtin initId))) (hi : PySem.W.handedIn (.builtin initId) = true) (ha : PA X (e :: es) ta)
    (hc : eval (.Call (.Attribute (.Name bx p1) "__init__" p2) (e :: es) [] pos) X.env = (do let ov ← eval (.Name bx p1) X.env; standAt p2.atName; let (f, first) ← holding [ov] (getMethod ov "__init__" pl); callWith pos f first (backTo pos (starEach (e :: es) X.env)) (backToKw pos (keywordEach [] X.env))) := by rfl)
    (h1 : bx ≠ "__name__" := by decide) (h2 : (bx == ("__debug__" : Str)) = false := by decide)
    (he : starEach (e :: es) X.env = (false, eval e X.env) :: starEach es X.env := by rfl) (hpl : (backTo pos (starEach es X.env)).any (·.1) = false := by rfl) :
    PE X (.Call (.Attribute (.Name bx p1) "__init__" p2) (e :: es) [] pos) (tBaseI X.K C B newId initId bmB ta) := by
  refine ⟨fun pins s σ H Q I h => PySem.W.methodCall_KW (ld_blt I hg hm hb ?_ h1 h2) hc⟩
  obtain ⟨m, fr⟩ := I.fr
  refine PySem.W.method_type fr I.ok.mod.kin ht hst vi hi ?_
  show wpAny _ _ (callWith pos (Value.builtin initId) [] (backTo pos (starEach (e :: es) X.env)) []) _ _ _
  refine callWith_method1 (thn (ha.run pos pins _ σ H _ (I.tok _) h) fun us s1 z => ?_) he hpl
  obtain ⟨vs, H1, I1, r1, a, ws, ev, hl, O, ea, q⟩ := z
  subst ev
  cases r1 with
  | @cons _ u0 _ ur ra rw' =>
    have e0 : u0 = Value.ref a := ra
    subst e0
    have le : ur.length ≤ sizeLine := by
      have := Paired.length rw'
      rw [sizeLine_eq]
      omega
    exact base_init O I1 ea le fun s2 J => ⟨.non, H1, J, rfl, q⟩
/-- the heap with a new exception of the class at C, its args behind it -/
abbrev hNew (h : Heap) (us : List Value) (C : Addr) : Heap := (h.push (PySem.W.kdv_tup us)).push (PySem.HandSPX.excO C h.objs.size)
abbrev aNew (h : Heap) : Addr := h.objs.size + 1
theorem hNew_old {h : Heap} {us : List Value} {C : Addr} : ∀ b o, h.get? b = some o → (hNew h us C).get? b = some o := fun _ _ e => (Heap.get?_push_of_some _ e |> Heap.get?_push_of_some _)
theorem hNew_at {h : Heap} {us : List Value} {C : Addr} : (hNew h us C).get? (aNew h) = some (PySem.HandSPX.excO C h.objs.size) := by heap_get
end Rv
/-! A test of the written part: is the class at C such an exception class. -/
namespace Rv
open PySem PySem.Spec PyProof.Rows L2
theorem tl_ok {bmB : List Value} (h0 : Mok bmB) : ∀ l : List Value, tlB bmB l = true → Mok l ∧ ∀ Y : String, l.contains (.type Y) = bmB.contains (.type Y)
  | .ref c :: r, e => by
    obtain ⟨z1, z2⟩ := tl_ok h0 r (show tlB bmB r = true from e)
    refine ⟨mok_ref z1, fun Y => ?_⟩
    rw [List.contains_cons, z2]
    rfl
  | [], e => by
    have z : [] = bmB := of_decide_eq_true e
    subst z
    exact ⟨h0, fun _ => rfl⟩
  | .none :: r, e => by have z := of_decide_eq_true (show decide (_ = bmB) = true from e); subst z; exact ⟨h0, fun _ => rfl⟩
  | .ellipsis :: r, e => by have z := of_decide_eq_true (show decide (_ = bmB) = true from e); subst z; exact ⟨h0, fun _ => rfl⟩
  | .notImplemented :: r, e => by have z := of_decide_eq_true (show decide (_ = bmB) = true from e); subst z; exact ⟨h0, fun _ => rfl⟩
  | .bool _ :: r, e => by have z := of_decide_eq_true (show decide (_ = bmB) = true from e); subst z; exact ⟨h0, fun _ => rfl⟩
  | .int _ _ :: r, e => by have z := of_decide_eq_true (show decide (_ = bmB) = true from e); subst z; exact ⟨h0, fun _ => rfl⟩
  | .float _ _ :: r, e => by have z := of_decide_eq_true (show decide (_ = bmB) = true from e); subst z; exact ⟨h0, fun _ => rfl⟩
  | .str _ _ :: r, e => by have z := of_decide_eq_true (show decide (_ = bmB) = true from e); subst z; exact ⟨h0, fun _ => rfl⟩
  | .bytes _ _ :: r, e => by have z := of_decide_eq_true (show decide (_ = bmB) = true from e); subst z; exact ⟨h0, fun _ => rfl⟩
  | .type _ :: r, e => by have z := of_decide_eq_true (show decide (_ = bmB) = true from e); subst z; exact ⟨h0, fun _ => rfl⟩
  | .builtin _ :: r, e => by have z := of_decide_eq_true (show decide (_ = bmB) = true from e); subst z; exact ⟨h0, fun _ => rfl⟩
theorem cx_ok {K : PySem.W.Frag} {C : Addr} {newId : String} {bmB : List Value} (h0 : Mok bmB) (h : cxB K C newId bmB = true) :
    ∃ nm q N bs bm sn sub ab col dd k0 k1 k2 k3 k5, K.lookup C = some (excClassObj nm q C N bs bm true sn sub ab col dd k0 k1 k2 k3 k5 newId) ∧ (∀ Y : String, bm.contains (.type Y) = bmB.contains (.type Y)) ∧ Mok (.ref C :: bm) := by
  unfold cxB at h
  split at h
  · rename_i m dd z sl lk
    obtain ⟨e1, h⟩ := He.ba h
    have e1 := of_decide_eq_true e1
    subst e1
    split at h
    · rename_i D r j0 j1 j2 j3 n j5 hm hs
      obtain ⟨_, h⟩ := He.ba h
      obtain ⟨e2, h⟩ := He.ba h
      obtain ⟨e3, h⟩ := He.ba h
      obtain ⟨e4, h⟩ := He.ba h
      obtain ⟨e5, e6⟩ := He.ba h
      have e2 := of_decide_eq_true e2
      have e3 := of_decide_eq_true e3
      subst e2 e3
      obtain ⟨w1, w2, w3, w4, w5, w6, w7, w8, w9, w10, w11⟩ := z
      dsimp only at hm e4 e5
      have e4 : w11 = false := by
        cases w11 with
        | false => rfl
        | true => cases e4
      subst hm e4 e5
      have e7 : sl = #[j0, j1, j2, j3, some (.builtin n), j5] := by
        obtain ⟨l⟩ := sl
        simp only at hs
        rw [hs]
      subst e7
      obtain ⟨y1, y2⟩ := tl_ok h0 r e6
      exact ⟨_, _, _, _, r, _, _, _, _, _, _, _, _, _, _, lk, y2, mok_ref y1⟩
    · cases h
  · cases h
theorem ox_okX {K : PySem.W.Frag} {x : Str} {B newId initId : String} {bmB : List Value} (bf : PySem.HandSPX.XBase B newId initId bmB) (h0 : Mok bmB) (h : oxB K x newId bmB = true) : OexG K (He.ga K x) B newId initId bmB := by
  obtain ⟨h1, h⟩ := He.ba h
  obtain ⟨h2, h⟩ := He.ba h
  obtain ⟨h3, h⟩ := He.ba h
  obtain ⟨h4, h5⟩ := He.ba h
  exact ⟨bf, cx_ok h0 h1, He.eqO_ok h2, of_decide_eq_true h3, of_decide_eq_true h4, h5⟩
theorem ox_ok {K : PySem.W.Frag} {x : Str} {B newId initId : String} {bmB : List Value} (bf : ExcBaseFacts B newId initId bmB) (h0 : Mok bmB) (h : oxB K x newId bmB = true) : OexG K (He.ga K x) B newId initId bmB := ox_okX (.of bf) h0 h
theorem bg_ok {K : PySem.W.Frag} {x : Str} {i : String} (h : bgB K x i = true) : BaseG K (He.ga K x) i := by
  obtain ⟨h1, h⟩ := He.ba h
  obtain ⟨h2, h⟩ := He.ba h
  obtain ⟨h3, h4⟩ := He.ba h
  refine ⟨h1, He.eqO_ok h2, ?_, h3⟩
  cases e : PySem.W.findCls K (.ref (He.ga K x)) (.type "type") "__init__" with
  | none =>
    rw [e] at h4
    cases h4
  | some f =>
    rw [e] at h4
    cases f with
    | val v =>
      cases v with
      | builtin n =>
        have z : n = i := of_decide_eq_true h4
        rw [z]
      | _ => cases h4
    | _ => cases h4
end Rv
namespace Rv
open PySem PySem.Spec PyProof.Rows L2
/-! exceptions of own classes: raised in defs, caught in the law -/
/-- an own exception class with its __init__ -/
structure CalX (P : Program) (w : World) (K : PySem.W.Frag) (mg : Str → Option Value) (base : Heap) (CX : CXT) (k : Nat) (x : Str) (C : Addr) (ps : List Str) (sp : Sp) (dvs : List V) (B newId initId : String) (bmB : List Value) : Prop where
  ex : ∃ f fd ds, FnOk P w K mg base CX k f fd ps sp ∧ OexG K C B newId initId bmB ∧ PySem.W.findIn K (.ref C) "__init__" = some (some (.ref f)) ∧ PySem.W.typeIn K (.ref f) = some (.type "function") ∧ mg x = some (.ref C) ∧ Binds K fd ps ds ∧ Vals dvs ds
/-! .. at the state in which the call stands -/
/-- an own exception's __init__(self, v): its one field is set -/
def spExc (K : PySem.W.Frag) (C : Addr) (B newId initId : String) (bmB : List Value) (f : Str) : Sp := fun vs H Q _ => ∃ p v, vs = [.ref p, v] ∧ OexG K C B newId initId bmB ∧ PySem.W.findIn K (.ref C) f = some none ∧ H p = some (exo p C none) ∧
  ∀ dx, H dx = none → dx ≠ p → Q .non (upd (upd H dx (exd dx [(f, v)])) p (exo p C (some dx)))
theorem ec_of {K : PySem.W.Frag} {x : Str} (h : ecB K x = true) : ExcC K (He.ga K x) := by
  obtain ⟨h1, h⟩ := He.ba h
  obtain ⟨h2, h⟩ := He.ba h
  obtain ⟨h3, h⟩ := He.ba h
  obtain ⟨h4, h⟩ := He.ba h
  obtain ⟨h5, h⟩ := He.ba h
  obtain ⟨h6, h⟩ := He.ba h
  obtain ⟨h7, h8⟩ := He.ba h
  exact ⟨He.eqO_ok h1, He.eqO_ok h2, of_decide_eq_true h3, h4, He.eqO_ok h5, He.eqO_ok h6, of_decide_eq_true h7, of_decide_eq_true h8⟩
theorem vi_ok {K : PySem.W.Frag} {b : String} (h : viB K b = true) : PySem.W.findCls K (.type b) (.type "type") "__init__" = some (.val (.builtin (b ++ ".__init__"))) := by
  unfold viB at h
  split at h
  · rename_i n e
    rw [e, of_decide_eq_true h]
  · cases h
theorem p_exc {K : PySem.W.Frag} {C : Addr} {B newId initId : String} {bmB : List Value} {f : Str} {vs : List V} {H : Hp} {Q : VK} {E : XK} (m : Str) (h : spExc K C B newId initId bmB f vs H Q E) {N : List Str} (hN : ∀ p v, start N [.ref p, v] = [some (V.ref p), some v]) :
    tSeq (tDrop (tBaseI K C B newId initId bmB (tCons (tVar 0) (tCons (tC (.str m)) tNil)))) (tFst K C B newId initId bmB f (tVar 0) (tVar 1)) { nx := fun _ H' => Q .non H', rt := Q } (start N vs) H := by
  obtain ⟨p, v, rfl, T, no, hp, k⟩ := h
  rw [hN]
  refine w_seqD ?_
  refine ⟨_, rfl, ?_⟩
  refine ⟨p, [.str m], rfl, by show 1 ≤ 1000; decide, T, hp, ?_⟩
  refine ⟨_, rfl, ?_⟩
  refine ⟨_, rfl, ?_⟩
  exact ⟨p, rfl, T, no, hp, fun dx nd ne => k dx nd ne⟩
end Rv
namespace Rv
open PySem PySem.Spec PyProof.Rows L2
end Rv
/-! try with several clauses 'except C as n' of one name n. -/
namespace Rv
open PySem PySem.Spec PyProof.Rows L2
end Rv
/-! Own defs that are called while an exception is handled (they raise nothing themselves), and repr there. -/
namespace Rv
open PySem PySem.Spec PyProof.Rows L2 L2H
/-- repr of a value of any kind: built-in data, or an instance of the class at C -/
def cReprA (K : PySem.W.Frag) (C : Addr) (sp : Sp) : List V → Hp → VK → Prop := fun xs H Q => ∃ v, xs = [v] ∧
  ((∃ d, Dp K H v d ∧ d.showable = true ∧ d.hasDict = false ∧ d.depth ≤ 10 ∧ d.shown.length ≤ sizeLine ∧ Q (.str d.shown) H) ∨
   ∃ a dx fs, v = .ref a ∧ H a = some (.ins C dx fs) ∧ sp [.ref a] H (fun z H' => ∃ y, z = .str y ∧ Q (.str y) H') E0)
end Rv
namespace Rv
open PySem PySem.Spec PyProof.Rows L2
theorem eqvAll_ints : ∀ zs ws : List Int, PyData.eqvAll (zs.map PyData.int) (ws.map PyData.int) = decide (zs = ws)
  | [], [] => rfl
  | [], _ :: _ => rfl
  | _ :: _, [] => rfl
  | x :: xs, y :: ys => by
    have ih := eqvAll_ints xs ys
    simp only [List.map_cons, PyData.eqvAll, PyData.eqv, ih]
    by_cases h : x = y
    · subst h
      simp
    · simp [h]
theorem eqD_L {K : PySem.W.Frag} {H : Hp} {Q : VK} {a b : Addr} {zs ws : List Int} (h1 : H a = some (.lst (zs.map V.int))) (h2 : H b = some (.lst (ws.map V.int))) (q : Q (.bl (decide (zs = ws))) H) : rEqD K (.ref a) (.ref b) H Q := by
  refine ⟨.list (zs.map PyData.int), .list (ws.map PyData.int), .lst (sq_lst h1) (dp_ints zs), .lst (sq_lst h2) (dp_ints ws), shL_ints zs, shL_ints ws, ?_⟩
  rw [show PyData.eqv (.list (zs.map PyData.int)) (.list (ws.map PyData.int)) = decide (zs = ws) by rw [← eqvAll_ints]; simp only [PyData.eqv]]
  exact q
/-- all that lies at H lies at H', but for a list at f -/
def Kx (f : Addr) (H H' : Hp) : Prop := ∀ b o, H b = some o → ((∀ xs, o ≠ .lst xs) ∨ b ≠ f) → H' b = some o
theorem Kx.refl (f : Addr) (H : Hp) : Kx f H H := fun _ _ h _ => h
theorem ProfAt.kx {K : PySem.W.Frag} {C : Addr} {H H' : Hp} {f p : Addr} {hs ws : List Int} (h : ProfAt K C H p hs ws) (e : Kx f H H') : ProfAt K C H' p hs ws := by
  obtain ⟨dx, t1, t2, h0, h1, h2⟩ := h
  exact ⟨dx, t1, t2, e _ _ h0 (.inl fun _ z => nomatch z), e _ _ h1 (.inl fun _ z => nomatch z), e _ _ h2 (.inl fun _ z => nomatch z)⟩
theorem st_is {s : TS} {D : Ends} {σ : L2.St} (σ' : L2.St) {H : Hp} (e : σ = σ') (q : s D σ' H) : s D σ H := by
  subst e
  exact q
theorem w_forLn {K : PySem.W.Frag} {σ : L2.St} {H : Hp} {D : Ends} {tl : TE} {s1 : TS} {g : TG} (q : tl σ H fun x H1 => ∃ a, x = .ref a ∧ tFor (iAt K a) g s1 D σ H1) : tFor (iList K tl) g s1 D σ H := q
theorem w_forLa {K : PySem.W.Frag} {σ : L2.St} {H : Hp} {D : Ends} {s1 : TS} {g : TG} {a : Addr} {xs : List V} (hx : SqL K H a xs) (Pv : Nat → L2.St → Hp → Prop) (h0 : Pv 0 σ H) (hl : ∀ i σ' H', i ≤ xs.length → Pv i σ' H' → SqL K H' a xs)
    (hs : ∀ i x σ' H', xs[i]? = some x → Pv i σ' H' → g x σ' H' fun σ2 H2 => s1 { D with nx := Pv (i + 1), ct := Pv (i + 1), bk := D.nx } σ2 H2) (hd : ∀ σ' H', Pv xs.length σ' H' → D.nx σ' H') : tFor (iAt K a) g s1 D σ H :=
  ⟨⟨xs, hx⟩, for_list Pv h0 hl hs hd⟩
def OddR (H : Hp) (v : V) : Prop := v = .non ∨ (∃ b, v = .bl b) ∨ (∃ s, v = .str s) ∨ (∃ p xs, v = .ref p ∧ H p = some (.lst xs)) ∨ (∃ p xs, v = .ref p ∧ H p = some (.tup xs)) ∨ ∃ p kvs, v = .ref p ∧ H p = some (.dK kvs)
theorem OddR.same {H H' : Hp} {v : V} (h : OddR H v) (e : Same H H') : OddR H' v := by
  rcases h with h | h | h | ⟨p, xs, h1, h2⟩ | ⟨p, xs, h1, h2⟩ | ⟨p, xs, h1, h2⟩
  · exact .inl h
  · exact .inr (.inl h)
  · exact .inr (.inr (.inl h))
  · exact .inr (.inr (.inr (.inl ⟨p, xs, h1, e _ _ h2⟩)))
  · exact .inr (.inr (.inr (.inr (.inl ⟨p, xs, h1, e _ _ h2⟩))))
  · exact .inr (.inr (.inr (.inr (.inr ⟨p, xs, h1, e _ _ h2⟩))))
local macro_rules | `(tactic| walk_at "rv st") => `(tactic| first
  | with_reducible refine iteT ?_ | with_reducible refine iteF ?_ | with_reducible refine w_nx ?_ | with_reducible refine w_yes ?_ | with_reducible refine w_rt ?_ | with_reducible refine iteNT ?_ | with_reducible refine iteNF ?_ | with_reducible refine iteNRf ?_ | with_reducible refine iteRf ?_ | with_reducible refine w_seqA ?_ | with_reducible refine w_seqD ?_ | with_reducible refine w_seqP ?_ | with_reducible refine w_asg ?_ | with_reducible refine w_ret ?_ | with_reducible refine w_drop ?_ | with_reducible refine w_ifs ?_ | with_reducible refine w_next ?_ | with_reducible refine w_par ?_
  | with_reducible refine w_op ?_ | with_reducible refine w_un ?_ | ((with_reducible show tVar _ _ _ _); refine' w_var ?hv ?_; (case hv => exact rfl)) | with_reducible refine w_c ?_ | with_reducible refine w_test ?_ | with_reducible refine w_tB ?_
  | with_reducible refine w_bl ?_ | with_reducible refine w_I0 ?_ | with_reducible refine w_U ?_ | with_reducible refine w_eqI ?_ | with_reducible refine w_neI ?_
  | with_reducible refine w_cons ?_ | with_reducible refine w_nil ?_ | with_reducible refine w_gn ?_ | with_reducible refine w_gsub ?_ | with_reducible refine w_and ?_ | with_reducible refine w_or ?_ | with_reducible refine w_not ?_
  | with_reducible refine w_andV ?_ | with_reducible refine w_orV ?_ | with_reducible refine w_notV ?_ | with_reducible refine w_if ?_ | with_reducible refine w_cb ?_ | with_reducible refine w_call ?_ | with_reducible refine w_lst ?_ | with_reducible refine w_tup ?_
  | with_reducible refine w_sl ?_ | with_reducible refine w_noPart ?_ | with_reducible refine w_part ?_ | with_reducible refine w_ex1 ?_ | with_reducible refine w_exb ?_ | with_reducible refine w_intB ?_ | with_reducible refine w_intI ?_ | with_reducible refine w_abs ?_)
local macro_rules | `(tactic| walk_at "rv ix") => `(tactic| ((with_reducible show rIxL _ _ _ _ _); refine' w_ixL (sq_lst ?ha) ?hb ?_; (case ha => first | exact upd_same | assumption); (case hb => first | exact rfl | assumption)))
local macro_rules | `(tactic| walk_at "rv ar") => `(tactic| first
  | (refine' w_I ?hc ?_; (case hc => first | (show (0 : Int) < _; first | assumption | decide | omega) | exact pow_c (by decide) (by decide) (by first | decide | omega) (by first | decide | omega) | exact mul_r (by first | decide | omega) (by first | decide | omega) | exact mul_l (by first | decide | omega) (by first | decide | omega) | exact divw (by first | assumption | decide | omega) (by first | assumption | decide | omega))))
local macro_rules | `(tactic| walk_at "rv go") => `(tactic| repeat first | walk_at "rv st" | walk_at "rv ix" | ((with_reducible show rI _ _ _ _ _ _); walk_at "rv ar"))
end Rv
namespace Rv
open PySem PySem.Spec PyProof.Rows L2
local macro_rules | `(tactic| walk_at "rv st") => `(tactic| first
  | with_reducible refine iteT ?_ | with_reducible refine iteF ?_ | with_reducible refine w_nx ?_ | with_reducible refine w_yes ?_ | with_reducible refine w_rt ?_ | with_reducible refine iteNT ?_ | with_reducible refine iteNF ?_ | with_reducible refine iteNRf ?_ | with_reducible refine iteRf ?_ | with_reducible refine w_seqA ?_ | with_reducible refine w_seqD ?_ | with_reducible refine w_seqP ?_ | with_reducible refine w_asg ?_ | with_reducible refine w_ret ?_ | with_reducible refine w_drop ?_ | with_reducible refine w_ifs ?_ | with_reducible refine w_next ?_ | with_reducible refine w_par ?_
  | with_reducible refine w_op ?_ | with_reducible refine w_un ?_ | ((with_reducible show tVar _ _ _ _); refine' w_var ?hv ?_; (case hv => exact rfl)) | with_reducible refine w_c ?_ | with_reducible refine w_test ?_ | with_reducible refine w_tB ?_
  | with_reducible refine w_bl ?_ | with_reducible refine w_I0 ?_ | with_reducible refine w_U ?_ | with_reducible refine w_eqI ?_ | with_reducible refine w_neI ?_
  | with_reducible refine w_cons ?_ | with_reducible refine w_nil ?_ | with_reducible refine w_gn ?_ | with_reducible refine w_gsub ?_ | with_reducible refine w_and ?_ | with_reducible refine w_or ?_ | with_reducible refine w_not ?_
  | with_reducible refine w_andV ?_ | with_reducible refine w_orV ?_ | with_reducible refine w_notV ?_ | with_reducible refine w_if ?_ | with_reducible refine w_cb ?_ | with_reducible refine w_call ?_ | with_reducible refine w_lst ?_ | with_reducible refine w_tup ?_
  | with_reducible refine w_sl ?_ | with_reducible refine w_noPart ?_ | with_reducible refine w_part ?_ | with_reducible refine w_ex1 ?_ | with_reducible refine w_exb ?_ | with_reducible refine w_intB ?_ | with_reducible refine w_intI ?_ | with_reducible refine w_abs ?_)
local macro_rules | `(tactic| walk_at "rv ix") => `(tactic| ((with_reducible show rIxL _ _ _ _ _); refine' w_ixL (sq_lst ?ha) ?hb ?_; (case ha => first | exact upd_same | assumption); (case hb => first | exact rfl | assumption)))
local macro_rules | `(tactic| walk_at "rv ar") => `(tactic| first
  | (refine' w_I ?hc ?_; (case hc => first | (show (0 : Int) < _; first | assumption | decide | omega) | exact pow_c (by decide) (by decide) (by first | decide | omega) (by first | decide | omega) | exact mul_r (by first | decide | omega) (by first | decide | omega) | exact mul_l (by first | decide | omega) (by first | decide | omega) | exact divw (by first | assumption | decide | omega) (by first | assumption | decide | omega))))
local macro_rules | `(tactic| walk_at "rv go") => `(tactic| repeat first | walk_at "rv st" | walk_at "rv ix" | ((with_reducible show rI _ _ _ _ _ _); walk_at "rv ar"))
theorem sok_str (s : String) : PyData.strOk (Str.ofString s) = true := by
  unfold PyData.strOk Str.ofString
  rw [cpsOfBytes_string]
  simp only [List.all_toArray, List.all_map, List.all_eq_true, Function.comp, decide_eq_true_eq]
  intro c _
  have h := c.valid
  simp only [UInt32.isValidChar, Nat.isValidChar] at h
  show c.val.toNat < _
  omega
theorem sok_app {a b : Str} (h : PyData.strOk a = true) (g : PyData.strOk b = true) : PyData.strOk (a ++ b) = true := by
  unfold PyData.strOk at *
  show (a.cps ++ b.cps).all _ = true
  rw [Array.all_append, h, g]
  rfl
theorem sql_same {K : PySem.W.Frag} {H H' : Hp} {a : Addr} {xs : List V} (h : SqL K H a xs) (e : Same H H') : SqL K H' a xs := by
  rcases h with (h | ⟨o, h⟩) | h
  · exact .inl (.inl (e _ _ h))
  · exact .inl (.inr ⟨o, e _ _ h⟩)
  · exact .inr h
mutual
theorem dp_same {K : PySem.W.Frag} {H H' : Hp} (e : Same H H') : ∀ (d : PyData) (v : V), Dp K H v d → Dp K H' v d
  | .none, _, h => by cases h; exact .non
  | .bool b, _, h => by cases h; exact .bl b
  | .int i, _, h => by cases h; exact .int i
  | .str x, _, h => by cases h; exact .str x
  | .list ds, _, h => by
    cases h with
    | lst h1 h2 => exact .lst (sql_same h1 e) (dp_sameA e ds _ h2)
  | .tuple ds, _, h => by
    cases h with
    | tup h1 h2 => exact .tup (sqT_same0 h1 e) (dp_sameA e ds _ h2)
  | .dict _, _, h => by cases h
theorem dp_sameA {K : PySem.W.Frag} {H H' : Hp} (e : Same H H') : ∀ (ds : List PyData) (vs : List V), DpAll K H vs ds → DpAll K H' vs ds
  | [], _, h => by cases h; exact .nil
  | d :: r, _, h => by
    cases h with
    | cons h1 h2 => exact .cons (dp_same e d _ h1) (dp_sameA e r _ h2)
end
end Rv
namespace Rv
open PySem PySem.Spec PyProof.Rows L2
local macro_rules | `(tactic| walk_at "rv st") => `(tactic| first
  | with_reducible refine iteT ?_ | with_reducible refine iteF ?_ | with_reducible refine w_nx ?_ | with_reducible refine w_yes ?_ | with_reducible refine w_rt ?_ | with_reducible refine iteNT ?_ | with_reducible refine iteNF ?_ | with_reducible refine iteNRf ?_ | with_reducible refine iteRf ?_ | with_reducible refine w_seqA ?_ | with_reducible refine w_seqD ?_ | with_reducible refine w_seqP ?_ | with_reducible refine w_asg ?_ | with_reducible refine w_ret ?_ | with_reducible refine w_drop ?_ | with_reducible refine w_ifs ?_ | with_reducible refine w_next ?_ | with_reducible refine w_par ?_
  | with_reducible refine w_op ?_ | with_reducible refine w_un ?_ | ((with_reducible show tVar _ _ _ _); refine' w_var ?hv ?_; (case hv => exact rfl)) | with_reducible refine w_c ?_ | with_reducible refine w_test ?_ | with_reducible refine w_tB ?_
  | with_reducible refine w_bl ?_ | with_reducible refine w_I0 ?_ | with_reducible refine w_U ?_ | with_reducible refine w_eqI ?_ | with_reducible refine w_neI ?_
  | with_reducible refine w_cons ?_ | with_reducible refine w_nil ?_ | with_reducible refine w_gn ?_ | with_reducible refine w_gsub ?_ | with_reducible refine w_and ?_ | with_reducible refine w_or ?_ | with_reducible refine w_not ?_
  | with_reducible refine w_andV ?_ | with_reducible refine w_orV ?_ | with_reducible refine w_notV ?_ | with_reducible refine w_if ?_ | with_reducible refine w_cb ?_ | with_reducible refine w_call ?_ | with_reducible refine w_lst ?_ | with_reducible refine w_tup ?_
  | with_reducible refine w_sl ?_ | with_reducible refine w_noPart ?_ | with_reducible refine w_part ?_ | with_reducible refine w_ex1 ?_ | with_reducible refine w_exb ?_ | with_reducible refine w_intB ?_ | with_reducible refine w_intI ?_ | with_reducible refine w_abs ?_)
local macro_rules | `(tactic| walk_at "rv ix") => `(tactic| ((with_reducible show rIxL _ _ _ _ _); refine' w_ixL (sq_lst ?ha) ?hb ?_; (case ha => first | exact upd_same | assumption); (case hb => first | exact rfl | assumption)))
local macro_rules | `(tactic| walk_at "rv ar") => `(tactic| first
  | (refine' w_I ?hc ?_; (case hc => first | (show (0 : Int) < _; first | assumption | decide | omega) | exact pow_c (by decide) (by decide) (by first | decide | omega) (by first | decide | omega) | exact mul_r (by first | decide | omega) (by first | decide | omega) | exact mul_l (by first | decide | omega) (by first | decide | omega) | exact divw (by first | assumption | decide | omega) (by first | assumption | decide | omega))))
local macro_rules | `(tactic| walk_at "rv go") => `(tactic| repeat first | walk_at "rv st" | walk_at "rv ix" | ((with_reducible show rI _ _ _ _ _ _); walk_at "rv ar"))
/-- the text of a fraction's repr -/
def rtext (t b : Int) : Str := ((((("Ratio(" : Str) ++ (toString t : String)) ++ (", " : Str)) ++ (toString b : String)) ++ (")" : Str))
theorem rtext_ok (t b : Int) : PyData.strOk (rtext t b) = true := sok_app (sok_app (sok_app (sok_app (sok_str _) (sok_str _)) (sok_str _)) (sok_str _)) (sok_str _)
/-- a value that the law hands in, and its repr's text -/
inductive Odd (C : Addr) (H : Hp) : V → Str → Prop where
  | non : Odd C H .non (PyData.none).shown
  | bl (b : Bool) : Odd C H (.bl b) (PyData.bool b).shown
  | int (i : Int) (h : i.natAbs < 10 ^ 40) : Odd C H (.int i) (PyData.int i).shown
  | str (x : Str) (h1 : PyData.strOk (reprText x) = true) (h2 : (reprText x).length ≤ 1000) : Odd C H (.str x) (PyData.str x).shown
  | tup {a : Addr} (zs : List Int) (h : H a = some (.tup (zs.map V.int))) (hl : zs.length ≤ 1) (hz : ∀ z ∈ zs, z.natAbs < 10 ^ 32) (h1 : PyData.strOk (PyData.tuple (zs.map PyData.int)).shown = true) (h2 : (PyData.tuple (zs.map PyData.int)).shown.length ≤ 1000) : Odd C H (.ref a) (PyData.tuple (zs.map PyData.int)).shown
  | lst {a : Addr} (zs : List Int) (h : H a = some (.lst (zs.map V.int))) (hl : zs.length ≤ 1) (hz : ∀ z ∈ zs, z.natAbs < 10 ^ 32) (h1 : PyData.strOk (PyData.list (zs.map PyData.int)).shown = true) (h2 : (PyData.list (zs.map PyData.int)).shown.length ≤ 1000) : Odd C H (.ref a) (PyData.list (zs.map PyData.int)).shown
  | rat {a : Addr} (t b : Int) (h : RatAt C H a t b) (ht : t.natAbs < 10 ^ 40) (hb : b.natAbs < 10 ^ 40) : Odd C H (.ref a) (rtext t b)
theorem Odd.same {C : Addr} {H H' : Hp} {v : V} {y : Str} (o : Odd C H v y) (e : Same H H') : Odd C H' v y := by
  cases o with
  | non => exact .non
  | bl b => exact .bl b
  | int i h => exact .int i h
  | str x h1 h2 => exact .str x h1 h2
  | tup zs h hl hz h1 h2 => exact .tup zs (e _ _ h) hl hz h1 h2
  | lst zs h hl hz h1 h2 => exact .lst zs (e _ _ h) hl hz h1 h2
  | rat t b h ht hb => exact .rat t b (h.same e) ht hb
theorem Odd.ok {C : Addr} {H : Hp} {v : V} {y : Str} (o : Odd C H v y) : PyData.strOk y = true := by
  cases o with
  | non => exact sok_str "None"
  | bl b =>
    cases b
    · exact sok_str "False"
    · exact sok_str "True"
  | int i h => exact sok_str _
  | str x h1 h2 => exact h1
  | tup zs h hl hz h1 h2 => exact h1
  | lst zs h hl hz h1 h2 => exact h1
  | rat t b h ht hb => exact rtext_ok t b
theorem big_log {z : Int} (h : z.natAbs < 10 ^ 40) : z.natAbs.log2 < 1920 := by
  by_cases h0 : z.natAbs = 0
  · rw [h0]; decide
  · exact (Nat.log2_lt h0).mpr (Nat.lt_of_lt_of_le h (by decide))
theorem big_text {z : Int} (h : z.natAbs < 10 ^ 40) : (Str.ofString (toString z)).length ≤ 41 := by
  have := int_text_length_le10 (k := 40) (by decide) h
  rw [PySem.ofString_length]
  exact this
/-- repr(fraction) -/
def spRRepr (K : PySem.W.Frag) (C : Addr) : Sp := fun vs H Q _ => ∃ a t b, vs = [.ref a] ∧ RCls K C ∧ RatAt C H a t b ∧ t.natAbs < 10 ^ 40 ∧ b.natAbs < 10 ^ 40 ∧ Q (.str (rtext t b)) H
theorem Odd.rp {K : PySem.W.Frag} {C : Addr} {H : Hp} {Q : VK} {v : V} {y : Str} (R : RCls K C) (o : Odd C H v y) (q : Q (.str y) H) : cReprA K C (spRRepr K C) [v] H Q := by
  have sb := sizeLine_big
  refine ⟨v, rfl, ?_⟩
  cases o with
  | non => exact .inl ⟨.none, .non, by simp [PyData.showable], by simp [PyData.hasDict], by simp [PyData.depth], by show (Str.ofString "None").length ≤ sizeLine; decide, q⟩
  | bl b => exact .inl ⟨.bool b, .bl b, by simp [PyData.showable], by simp [PyData.hasDict], by simp [PyData.depth], by cases b <;> decide, q⟩
  | int i h => exact .inl ⟨.int i, .int i, by simpa [PyData.showable] using big_log h, by simp [PyData.hasDict], by simp [PyData.depth], by have := big_text h; show (Str.ofString (toString i)).length ≤ sizeLine; omega, q⟩
  | str x h1 h2 => exact .inl ⟨.str x, .str x, by simp [PyData.showable], by simp [PyData.hasDict], by simp [PyData.depth], by show (reprText x).length ≤ sizeLine; omega, q⟩
  | tup zs h hl hz h1 h2 => exact .inl ⟨.tuple (zs.map PyData.int), .tup (sq_tup h) (dp_ints zs), by simpa [PyData.showable] using ints_showable hz, by simp [PyData.hasDict, ints_dict], by have := (lay_ints zs).2; simp only [PyData.depth, this]; omega, by omega, q⟩
  | lst zs h hl hz h1 h2 => exact .inl ⟨.list (zs.map PyData.int), .lst (sq_lst h) (dp_ints zs), by simpa [PyData.showable] using ints_showable hz, by simp [PyData.hasDict, ints_dict], by have := (lay_ints zs).2; simp only [PyData.depth, this]; omega, by omega, q⟩
  | @rat a t b h ht hb =>
    obtain ⟨l, dx, h'⟩ := id h
    exact .inr ⟨a, dx, _, rfl, h', a, t, b, rfl, R, h, ht, hb, _, rfl, q⟩
end Rv
namespace Rv
open PySem PySem.Spec PyProof.Rows L2
local macro_rules | `(tactic| walk_at "rv st") => `(tactic| first
  | with_reducible refine iteT ?_ | with_reducible refine iteF ?_ | with_reducible refine w_nx ?_ | with_reducible refine w_yes ?_ | with_reducible refine w_rt ?_ | with_reducible refine iteNT ?_ | with_reducible refine iteNF ?_ | with_reducible refine iteNRf ?_ | with_reducible refine iteRf ?_ | with_reducible refine w_seqA ?_ | with_reducible refine w_seqD ?_ | with_reducible refine w_seqP ?_ | with_reducible refine w_asg ?_ | with_reducible refine w_ret ?_ | with_reducible refine w_drop ?_ | with_reducible refine w_ifs ?_ | with_reducible refine w_next ?_ | with_reducible refine w_par ?_
  | with_reducible refine w_op ?_ | with_reducible refine w_un ?_ | ((with_reducible show tVar _ _ _ _); refine' w_var ?hv ?_; (case hv => exact rfl)) | with_reducible refine w_c ?_ | with_reducible refine w_test ?_ | with_reducible refine w_tB ?_
  | with_reducible refine w_bl ?_ | with_reducible refine w_I0 ?_ | with_reducible refine w_U ?_ | with_reducible refine w_eqI ?_ | with_reducible refine w_neI ?_
  | with_reducible refine w_cons ?_ | with_reducible refine w_nil ?_ | with_reducible refine w_gn ?_ | with_reducible refine w_gsub ?_ | with_reducible refine w_and ?_ | with_reducible refine w_or ?_ | with_reducible refine w_not ?_
  | with_reducible refine w_andV ?_ | with_reducible refine w_orV ?_ | with_reducible refine w_notV ?_ | with_reducible refine w_if ?_ | with_reducible refine w_cb ?_ | with_reducible refine w_call ?_ | with_reducible refine w_lst ?_ | with_reducible refine w_tup ?_
  | with_reducible refine w_sl ?_ | with_reducible refine w_noPart ?_ | with_reducible refine w_part ?_ | with_reducible refine w_ex1 ?_ | with_reducible refine w_exb ?_ | with_reducible refine w_intB ?_ | with_reducible refine w_intI ?_ | with_reducible refine w_abs ?_)
local macro_rules | `(tactic| walk_at "rv ix") => `(tactic| ((with_reducible show rIxL _ _ _ _ _); refine' w_ixL (sq_lst ?ha) ?hb ?_; (case ha => first | exact upd_same | assumption); (case hb => first | exact rfl | assumption)))
local macro_rules | `(tactic| walk_at "rv ar") => `(tactic| first
  | (refine' w_I ?hc ?_; (case hc => first | (show (0 : Int) < _; first | assumption | decide | omega) | exact pow_c (by decide) (by decide) (by first | decide | omega) (by first | decide | omega) | exact mul_r (by first | decide | omega) (by first | decide | omega) | exact mul_l (by first | decide | omega) (by first | decide | omega) | exact divw (by first | assumption | decide | omega) (by first | assumption | decide | omega))))
local macro_rules | `(tactic| walk_at "rv go") => `(tactic| repeat first | walk_at "rv st" | walk_at "rv ix" | ((with_reducible show rI _ _ _ _ _ _); walk_at "rv ar"))
end Rv
namespace Rv
open PySem PySem.Spec PyProof.Rows L2
local macro_rules | `(tactic| walk_at "rv st") => `(tactic| first
  | with_reducible refine iteT ?_ | with_reducible refine iteF ?_ | with_reducible refine w_nx ?_ | with_reducible refine w_yes ?_ | with_reducible refine w_rt ?_ | with_reducible refine iteNT ?_ | with_reducible refine iteNF ?_ | with_reducible refine iteNRf ?_ | with_reducible refine iteRf ?_ | with_reducible refine w_seqA ?_ | with_reducible refine w_seqD ?_ | with_reducible refine w_seqP ?_ | with_reducible refine w_asg ?_ | with_reducible refine w_ret ?_ | with_reducible refine w_drop ?_ | with_reducible refine w_ifs ?_ | with_reducible refine w_next ?_ | with_reducible refine w_par ?_
  | with_reducible refine w_op ?_ | with_reducible refine w_un ?_ | ((with_reducible show tVar _ _ _ _); refine' w_var ?hv ?_; (case hv => exact rfl)) | with_reducible refine w_c ?_ | with_reducible refine w_test ?_ | with_reducible refine w_tB ?_
  | with_reducible refine w_bl ?_ | with_reducible refine w_I0 ?_ | with_reducible refine w_U ?_ | with_reducible refine w_eqI ?_ | with_reducible refine w_neI ?_
  | with_reducible refine w_cons ?_ | with_reducible refine w_nil ?_ | with_reducible refine w_gn ?_ | with_reducible refine w_gsub ?_ | with_reducible refine w_and ?_ | with_reducible refine w_or ?_ | with_reducible refine w_not ?_
  | with_reducible refine w_andV ?_ | with_reducible refine w_orV ?_ | with_reducible refine w_notV ?_ | with_reducible refine w_if ?_ | with_reducible refine w_cb ?_ | with_reducible refine w_call ?_ | with_reducible refine w_lst ?_ | with_reducible refine w_tup ?_
  | with_reducible refine w_sl ?_ | with_reducible refine w_noPart ?_ | with_reducible refine w_part ?_ | with_reducible refine w_ex1 ?_ | with_reducible refine w_exb ?_ | with_reducible refine w_intB ?_ | with_reducible refine w_intI ?_ | with_reducible refine w_abs ?_)
local macro_rules | `(tactic| walk_at "rv ix") => `(tactic| ((with_reducible show rIxL _ _ _ _ _); refine' w_ixL (sq_lst ?ha) ?hb ?_; (case ha => first | exact upd_same | assumption); (case hb => first | exact rfl | assumption)))
local macro_rules | `(tactic| walk_at "rv ar") => `(tactic| first
  | (refine' w_I ?hc ?_; (case hc => first | (show (0 : Int) < _; first | assumption | decide | omega) | exact pow_c (by decide) (by decide) (by first | decide | omega) (by first | decide | omega) | exact mul_r (by first | decide | omega) (by first | decide | omega) | exact mul_l (by first | decide | omega) (by first | decide | omega) | exact divw (by first | assumption | decide | omega) (by first | assumption | decide | omega))))
local macro_rules | `(tactic| walk_at "rv go") => `(tactic| repeat first | walk_at "rv st" | walk_at "rv ix" | ((with_reducible show rI _ _ _ _ _ _); walk_at "rv ar"))
end Rv
namespace RvM
open PySem PySem.Spec PyProof.Rows L2 Rv
def PoolAt (H : Hp) (d : Addr) : Prop := ∃ num seed : Int, H d = some (.lst [.int num, .int seed]) ∧ 0 ≤ num ∧ 0 ≤ seed ∧ seed < 2147483647
theorem PoolAt.same {H H' : Hp} {d : Addr} (h : PoolAt H d) (e : Same H H') : PoolAt H' d := by
  obtain ⟨num, seed, h1, h2⟩ := h
  exact ⟨num, seed, e _ _ h1, h2⟩
theorem PoolAt.nd {H : Hp} {d a : Addr} (h : PoolAt H d) (n : H a = none) : a ≠ d := by
  obtain ⟨num, seed, h1, h2⟩ := h
  intro e
  rw [e, h1] at n
  cases n
def spPool (K : PySem.W.Frag) : Sp := fun vs H Q _ => ∃ (a : Addr) (ns : List Int), ∃ k : Nat, vs = [.ref a, .int (k : Int)] ∧ SqL K H a (ns.map V.int) ∧ ns.length ≤ 63 ∧ k ≤ 20 ∧ ∀ p H', H p = none → Same H H' → PoolAt H' p → Q (.ref p) H'
def spTake (K : PySem.W.Frag) : Sp := fun vs H Q _ => ∃ (d : Addr) (many : Int), vs = [.ref d, .int many] ∧ PoolAt H d ∧ 0 < many ∧ many < 2 ^ 200 ∧ ∀ r H', 0 ≤ r → r < many → But d H H' → PoolAt H' d → Q (.int r) H'
def t__law_pool (K : PySem.W.Frag) : TS :=
  (tSeq (tAsg (tOp (rIxL K) (tOp rCat (tSl (rSlL K) (tVar 0) (tPart (tVar 1)) (tPart (tOp oAdd (tVar 1) (tC (.int 1))))) (tLst (tCons (tC (.int 0)) tNil))) (tC (.int 0))) (gName 2))
    (tSeq (tAsg (tIf (tTest (tOp oGe (tVar 2) (tC (.int 0)))) (tVar 2) (tOp oSub (tUn (rU fun i => .int (-i)) (tC (.int 1))) (tVar 2))) (gName 3))
    (tSeq (tAsg (tOp oMod (tOp oMul (tOp oAdd (tOp oAdd (tOp oAdd (tOp oMod (tVar 3) (tC (.int 2147483629))) (tOp oMul (tOp oMul (tC (.int 7919)) (tVar 1)) (tVar 1))) (tOp oMul (tC (.int 31)) (tVar 1))) (tC (.int 17))) (tC (.int 48271))) (tC (.int 2147483647))) (gName 4))
    (tRet (tLst (tCons (tOp oMul (tVar 3) (tCB cInt (tCons (tOp oGe (tVar 3) (tOp oPow (tC (.int 10)) (tC (.int 18)))) tNil))) (tCons (tOp oMod (tOp oMul (tVar 4) (tVar 4)) (tC (.int 2147483629))) tNil)))))))
def t__law_take (K : PySem.W.Frag) : TS :=
  (tSeq (tIfS (tTest (tOp oGt (tOp (rIxL K) (tVar 0) (tC (.int 0))) (tC (.int 0)))) (tSeq (tAsg (tOp oMod (tOp (rIxL K) (tVar 0) (tC (.int 0))) (tVar 1)) (gName 2))
    (tSeq (tAsg (tOp oDiv (tOp (rIxL K) (tVar 0) (tC (.int 0))) (tVar 1)) (gSub (tVar 0) (tC (.int 0)) rSetL))
    (tRet (tVar 2)))) tNext)
    (tSeq (tAsg (tOp oMod (tOp oAdd (tOp oMul (tOp (rIxL K) (tVar 0) (tC (.int 1))) (tC (.int 48271))) (tC (.int 12345))) (tC (.int 2147483647))) (gSub (tVar 0) (tC (.int 1)) rSetL))
    (tRet (tOp oMod (tOp oDiv (tOp oMod (tOp oMul (tOp (rIxL K) (tVar 0) (tC (.int 1))) (tOp (rIxL K) (tVar 0) (tC (.int 1)))) (tC (.int 2147483629))) (tC (.int 64))) (tVar 1)))))
local macro_rules | `(tactic| walk_at "rv st") => `(tactic| first
  | with_reducible refine iteT ?_ | with_reducible refine iteF ?_ | with_reducible refine w_nx ?_ | with_reducible refine w_yes ?_ | with_reducible refine w_rt ?_ | with_reducible refine iteNT ?_ | with_reducible refine iteNF ?_ | with_reducible refine iteNRf ?_ | with_reducible refine iteRf ?_ | with_reducible refine w_seqA ?_ | with_reducible refine w_seqD ?_ | with_reducible refine w_seqP ?_ | with_reducible refine w_asg ?_ | with_reducible refine w_ret ?_ | with_reducible refine w_drop ?_ | with_reducible refine w_ifs ?_ | with_reducible refine w_next ?_ | with_reducible refine w_par ?_
  | with_reducible refine w_op ?_ | with_reducible refine w_un ?_ | ((with_reducible show tVar _ _ _ _); refine' w_var ?hv ?_; (case hv => exact rfl)) | with_reducible refine w_c ?_ | with_reducible refine w_test ?_ | with_reducible refine w_tB ?_
  | with_reducible refine w_bl ?_ | with_reducible refine w_I0 ?_ | with_reducible refine w_U ?_ | with_reducible refine w_eqI ?_ | with_reducible refine w_neI ?_
  | with_reducible refine w_cons ?_ | with_reducible refine w_nil ?_ | with_reducible refine w_gn ?_ | with_reducible refine w_gsub ?_ | with_reducible refine w_and ?_ | with_reducible refine w_or ?_ | with_reducible refine w_not ?_
  | with_reducible refine w_andV ?_ | with_reducible refine w_orV ?_ | with_reducible refine w_notV ?_ | with_reducible refine w_if ?_ | with_reducible refine w_cb ?_ | with_reducible refine w_call ?_ | with_reducible refine w_lst ?_ | with_reducible refine w_tup ?_
  | with_reducible refine w_sl ?_ | with_reducible refine w_noPart ?_ | with_reducible refine w_part ?_ | with_reducible refine w_ex1 ?_ | with_reducible refine w_exb ?_ | with_reducible refine w_intB ?_ | with_reducible refine w_intI ?_ | with_reducible refine w_abs ?_)
local macro_rules | `(tactic| walk_at "rv ix") => `(tactic| ((with_reducible show rIxL _ _ _ _ _); refine' w_ixL (sq_lst ?ha) ?hb ?_; (case ha => first | exact upd_same | assumption); (case hb => first | exact rfl | assumption)))
local macro_rules | `(tactic| walk_at "rv ar") => `(tactic| first
  | (refine' w_I ?hc ?_; (case hc => first | (show (0 : Int) < _; first | assumption | decide | omega) | exact pow_c (by decide) (by decide) (by first | decide | omega) (by first | decide | omega) | exact mul_r (by first | decide | omega) (by first | decide | omega) | exact mul_l (by first | decide | omega) (by first | decide | omega) | exact divw (by first | assumption | decide | omega) (by first | assumption | decide | omega))))
local macro_rules | `(tactic| walk_at "rv go") => `(tactic| repeat first | walk_at "rv st" | walk_at "rv ix" | ((with_reducible show rI _ _ _ _ _ _); walk_at "rv ar"))
theorem w_ifM {σ : L2.St} {H : Hp} {Q : VK} {c : TT} {ta tb : TE} {P : Int → Prop} (fin : ∀ z, P z → Q (.int z) H) (h : ∀ Q' : VK, (∀ z, P z → Q' (.int z) H) → tIf c ta tb σ H Q') : tIf c ta tb σ H Q := h Q fin
theorem p_pool {K : PySem.W.Frag} {vs : List V} {H : Hp} {Q : VK} {E : XK} (h : spPool K vs H Q E) : t__law_pool K { nx := fun _ H' => Q .non H', rt := Q } (start ["_law_script", "_law_k", "_law_cell", "_law_number", "_law_mixed"] vs) H := by
  obtain ⟨a, ns, k, rfl, hS, hl, hk, q⟩ := h
  unfold t__law_pool
  walk_at "rv go"
  refine w_slL hS fun p np => ?_
  obtain ⟨ms, em⟩ := cut_map ns (some (k : Int)) (some ((k : Int) + 1))
  have lm : ms.length ≤ 63 := by
    have q1 := cutV_length (ns.map V.int) (some (k : Int)) (some ((k : Int) + 1))
    rw [em, List.length_map, List.length_map] at q1
    omega
  rw [em]
  walk_at "rv go"
  refine ⟨szl (by show 1 ≤ 100000; decide), fun p2 n2 => ?_⟩
  have h1 := same_new (o := .lst [.int 0]) (Same.refl _) n2 _ _ (upd_same (H := H) (a := p) (o := .lst (ms.map V.int)))
  refine ⟨p, p2, _, _, rfl, rfl, h1, upd_same, szl (by rw [List.length_map]; show ms.length + 1 ≤ 100000; omega), fun p3 n3 => ?_⟩
  have e3 := same_new (o := .lst (ms.map V.int ++ [.int 0])) (same_new (o := .lst [.int 0]) (same_new (o := .lst (ms.map V.int)) (Same.refl H) np) n2) n3
  walk_at "rv go"
  have hy : ∃ y : Int, atI (ms.map V.int ++ [.int 0]) 0 = some (.int y) := by
    cases ms with
    | nil => exact ⟨0, rfl⟩
    | cons m r => exact ⟨m, at_nat (xs := List.map V.int (m :: r) ++ [.int 0]) (j := 0) rfl⟩
  obtain ⟨y, hy⟩ := hy
  refine w_ixL (sq_lst upd_same) hy ?_
  generalize upd (upd (upd H p (.lst (ms.map V.int))) p2 (.lst [.int 0])) p3 (.lst (ms.map V.int ++ [.int 0])) = G at e3 ⊢
  refine w_gn ?_
  refine w_seqA ?_
  refine w_ifM (P := fun z => 0 ≤ z) (fun z hz => ?_) (fun Q' fin => ?_)
  · walk_at "rv go"
    have m1 : 0 ≤ (z % 2147483629 + 7919 * (k : Int) * (k : Int) + 31 * (k : Int) + 17) * 48271 % 2147483647 := Int.emod_nonneg _ (by decide)
    have m2 : (z % 2147483629 + 7919 * (k : Int) * (k : Int) + 31 * (k : Int) + 17) * 48271 % 2147483647 < 2147483647 := Int.emod_lt_of_pos _ (by decide)
    generalize (z % 2147483629 + 7919 * (k : Int) * (k : Int) + 31 * (k : Int) + 17) * 48271 % 2147483647 = mx at m1 m2 ⊢
    have hb : ∀ w : Bool, (if w = true then (1 : Int) else 0) = 0 ∨ (if w = true then (1 : Int) else 0) = 1 := fun w => by cases w <;> simp
    have hb1 := hb (decide ((10 : Int) ^ Int.toNat 18 ≤ z))
    generalize (if decide ((10 : Int) ^ Int.toNat 18 ≤ z) = true then (1 : Int) else 0) = u at hb1 ⊢
    refine ⟨szl (by show 2 ≤ 100000; decide), fun r nr => ?_⟩
    refine q r _ ?_ (same_new e3 nr) ⟨_, _, upd_same, ?_, Int.emod_nonneg _ (by decide), Int.lt_of_lt_of_le (Int.emod_lt_of_pos _ (by decide)) (by decide)⟩
    · cases z : H r with
      | none => rfl
      | some o =>
        rw [e3 _ _ z] at nr
        cases nr
    · rcases hb1 with h | h
      · rw [h, Int.mul_zero]
        exact Int.le_refl _
      · rw [h, Int.mul_one]
        exact hz
  · refine w_if ?_
    walk_at "rv go"
    refine w_both (fun c => ?_) (fun c => ?_)
    · walk_at "rv go"
      exact fin _ c
    · walk_at "rv go"
      exact fin _ (by omega)
theorem take_call {K : PySem.W.Frag} {H : Hp} {Q : VK} {E : XK} {d : Addr} {many : Int} (h : PoolAt H d) (h1 : 0 < many) (h2 : many < 2 ^ 200) (k : ∀ r H', 0 ≤ r → r < many → But d H H' → PoolAt H' d → Q (.int r) H') :
    spTake K ([.ref d, .int many] ++ []) H Q E := ⟨d, many, rfl, h, h1, h2, k⟩
theorem p_take {K : PySem.W.Frag} {vs : List V} {H : Hp} {Q : VK} {E : XK} (h : spTake K vs H Q E) : t__law_take K { nx := fun _ H' => Q .non H', rt := Q } (start ["_law_pool_here", "_law_many", "_law_digit"] vs) H := by
  obtain ⟨d, many, rfl, ⟨num, seed, hd, hn, hs, hs2⟩, hm, hm2, k⟩ := h
  unfold t__law_take
  refine w_seq ?_
  walk_at "rv go"
  refine w_both (fun c => ?_) (fun c => ?_)
  · walk_at "rv go"
    refine w_setL hd rfl ?_
    walk_at "rv go"
    exact k _ _ (Int.emod_nonneg _ (by omega)) (Int.emod_lt_of_pos _ hm) (But.refl d H).wr ⟨num / many, seed, upd_same, Int.ediv_nonneg hn (by omega), hs, hs2⟩
  · walk_at "rv go"
    have s1 : 0 ≤ (seed * 48271 + 12345) % 2147483647 := Int.emod_nonneg _ (by decide)
    have s2 : (seed * 48271 + 12345) % 2147483647 < 2147483647 := Int.emod_lt_of_pos _ (by decide)
    refine w_setL hd rfl ?_
    generalize (seed * 48271 + 12345) % 2147483647 = sd at s1 s2 ⊢
    walk_at "rv go"
    exact k _ _ (Int.emod_nonneg _ (by omega)) (Int.emod_lt_of_pos _ hm) (But.refl d H).wr ⟨num, sd, upd_same, hn, s1, s2⟩
theorem dp_bools {K : PySem.W.Frag} {H : Hp} : ∀ bs : List Bool, DpAll K H (bs.map V.bl) (bs.map PyData.bool)
  | [] => .nil
  | b :: r => .cons (.bl b) (dp_bools r)
theorem lay_bools : ∀ bs : List Bool, PyData.canLayAll0 (bs.map PyData.bool) = true ∧ PyData.depthAll (bs.map PyData.bool) = 0
  | [] => ⟨by simp [PyData.canLayAll0], by simp [PyData.depthAll]⟩
  | b :: r => by
    have h := lay_bools r
    exact ⟨by simp [PyData.canLayAll0, PyData.canLay0, h.1], by simp [PyData.depthAll, PyData.depth, h.2]⟩
theorem shL_bools (bs : List Bool) : SeqAt.shaped (.list (bs.map PyData.bool)) = true := by
  have h := lay_bools bs
  simp [SeqAt.shaped, PyData.canLay0, PyData.depth, h.1, h.2]
theorem neB_ok {K : PySem.W.Frag} {H : Hp} {Q : VK} {a b : Addr} {bs : List Bool} (h1 : SqL K H a (bs.map V.bl)) (h2 : SqL K H b (bs.map V.bl)) (q : Q (.bl false) H) : rNeD K (.ref a) (.ref b) H Q := by
  refine ⟨.list (bs.map PyData.bool), .list (bs.map PyData.bool), .lst h1 (dp_bools bs), .lst h2 (dp_bools bs), shL_bools bs, shL_bools bs, ?_⟩
  rw [SeqAt.eqv_refl _ (SeqAt.canLay_of_shaped (shL_bools bs))]
  exact q
def iRn (n : Nat) : TI := fun _ H R => R (Itr 0 n) H
theorem w_forI {σ : L2.St} {H : Hp} {D : Ends} {tr : TA} {s1 : TS} {g : TG} (q : tr σ H fun vs H1 => ∃ j : Int, vs = [.int j] ∧ -(2 ^ 62) ≤ j ∧ j < 2 ^ 62 ∧ tFor (iRn j.toNat) g s1 D σ H1) : tFor (iRng1 tr) g s1 D σ H := q
theorem w_forRn {σ : L2.St} {H : Hp} {D : Ends} {s1 : TS} {slot n : Nat} (Pv : Nat → L2.St → Hp → Prop) (h0 : Pv 0 σ H)
    (hs : ∀ i σ' H', i < n → Pv i σ' H' → s1 { D with nx := Pv (i + 1), ct := Pv (i + 1), bk := D.nx } (σ'.set slot (some (.int (i : Int)))) H') (hd : ∀ σ' H', Pv n σ' H' → D.nx σ' H') : tFor (iRn n) (gName slot) s1 D σ H := by
  refine for_range Pv h0 (fun i σ' H' hi q => ?_) hd
  show s1 _ (σ'.set slot (some (.int ((0 : Int) + (i : Int))))) H'
  rw [Int.zero_add]
  exact hs i σ' H' hi q
/-- a for over a list that is just made -/
theorem w_forLn {K : PySem.W.Frag} {σ : L2.St} {H : Hp} {D : Ends} {tl : TE} {s1 : TS} {g : TG} (q : tl σ H fun x H1 => ∃ a, x = .ref a ∧ tFor (iAt K a) g s1 D σ H1) : tFor (iList K tl) g s1 D σ H := q
theorem w_forLa {K : PySem.W.Frag} {σ : L2.St} {H : Hp} {D : Ends} {s1 : TS} {g : TG} {a : Addr} {xs : List V} (hx : SqL K H a xs) (Pv : Nat → L2.St → Hp → Prop) (h0 : Pv 0 σ H) (hl : ∀ i σ' H', i ≤ xs.length → Pv i σ' H' → SqL K H' a xs)
    (hs : ∀ i x σ' H', xs[i]? = some x → Pv i σ' H' → g x σ' H' fun σ2 H2 => s1 { D with nx := Pv (i + 1), ct := Pv (i + 1), bk := D.nx } σ2 H2) (hd : ∀ σ' H', Pv xs.length σ' H' → D.nx σ' H') : tFor (iAt K a) g s1 D σ H :=
  ⟨⟨xs, hx⟩, for_list Pv h0 hl hs hd⟩
theorem same_but {H H1 H2 : Hp} {p : Addr} (e : Same H H1) (n : H p = none) (b : But p H1 H2) : Same H H2 := fun c o h => b c o (ne_of_none h n) (e c o h)
def OddR (H : Hp) (v : V) : Prop := v = .non ∨ (∃ b, v = .bl b) ∨ (∃ s, v = .str s) ∨ (∃ p xs, v = .ref p ∧ H p = some (.lst xs)) ∨ (∃ p xs, v = .ref p ∧ H p = some (.tup xs)) ∨ ∃ p kvs, v = .ref p ∧ H p = some (.dK kvs)
theorem OddR.same {H H' : Hp} {v : V} (h : OddR H v) (e : Same H H') : OddR H' v := by
  rcases h with h | h | h | ⟨p, xs, h1, h2⟩ | ⟨p, xs, h1, h2⟩ | ⟨p, xs, h1, h2⟩
  · exact .inl h
  · exact .inr (.inl h)
  · exact .inr (.inr (.inl h))
  · exact .inr (.inr (.inr (.inl ⟨p, xs, h1, e _ _ h2⟩)))
  · exact .inr (.inr (.inr (.inr (.inl ⟨p, xs, h1, e _ _ h2⟩))))
  · exact .inr (.inr (.inr (.inr (.inr ⟨p, xs, h1, e _ _ h2⟩))))
end RvM
/-! str, bool, abs and unary minus of own instances. -/
namespace PySem.W
open PySem PySem.Calls PyProof.Rows Builtin
end PySem.W
namespace Rv
open PySem PySem.Spec PyProof.Rows L2
end Rv
namespace Rv
open PySem PySem.Spec PyProof.Rows L2
local macro_rules | `(tactic| walk_at "rv st") => `(tactic| first
  | with_reducible refine iteT ?_ | with_reducible refine iteF ?_ | with_reducible refine w_nx ?_ | with_reducible refine w_yes ?_ | with_reducible refine w_rt ?_ | with_reducible refine iteNT ?_ | with_reducible refine iteNF ?_ | with_reducible refine iteNRf ?_ | with_reducible refine iteRf ?_ | with_reducible refine w_seqA ?_ | with_reducible refine w_seqD ?_ | with_reducible refine w_seqP ?_ | with_reducible refine w_asg ?_ | with_reducible refine w_ret ?_ | with_reducible refine w_drop ?_ | with_reducible refine w_ifs ?_ | with_reducible refine w_next ?_ | with_reducible refine w_par ?_
  | with_reducible refine w_op ?_ | with_reducible refine w_un ?_ | ((with_reducible show tVar _ _ _ _); refine' w_var ?hv ?_; (case hv => exact rfl)) | with_reducible refine w_c ?_ | with_reducible refine w_test ?_ | with_reducible refine w_tB ?_
  | with_reducible refine w_bl ?_ | with_reducible refine w_I0 ?_ | with_reducible refine w_U ?_ | with_reducible refine w_eqI ?_ | with_reducible refine w_neI ?_
  | with_reducible refine w_cons ?_ | with_reducible refine w_nil ?_ | with_reducible refine w_gn ?_ | with_reducible refine w_gsub ?_ | with_reducible refine w_and ?_ | with_reducible refine w_or ?_ | with_reducible refine w_not ?_
  | with_reducible refine w_andV ?_ | with_reducible refine w_orV ?_ | with_reducible refine w_notV ?_ | with_reducible refine w_if ?_ | with_reducible refine w_cb ?_ | with_reducible refine w_call ?_ | with_reducible refine w_lst ?_ | with_reducible refine w_tup ?_
  | with_reducible refine w_sl ?_ | with_reducible refine w_noPart ?_ | with_reducible refine w_part ?_ | with_reducible refine w_ex1 ?_ | with_reducible refine w_exb ?_ | with_reducible refine w_intB ?_ | with_reducible refine w_intI ?_ | with_reducible refine w_abs ?_)
local macro_rules | `(tactic| walk_at "rv ix") => `(tactic| ((with_reducible show rIxL _ _ _ _ _); refine' w_ixL (sq_lst ?ha) ?hb ?_; (case ha => first | exact upd_same | assumption); (case hb => first | exact rfl | assumption)))
local macro_rules | `(tactic| walk_at "rv ar") => `(tactic| first
  | (refine' w_I ?hc ?_; (case hc => first | (show (0 : Int) < _; first | assumption | decide | omega) | exact pow_c (by decide) (by decide) (by first | decide | omega) (by first | decide | omega) | exact mul_r (by first | decide | omega) (by first | decide | omega) | exact mul_l (by first | decide | omega) (by first | decide | omega) | exact divw (by first | assumption | decide | omega) (by first | assumption | decide | omega))))
local macro_rules | `(tactic| walk_at "rv go") => `(tactic| repeat first | walk_at "rv st" | walk_at "rv ix" | ((with_reducible show rI _ _ _ _ _ _); walk_at "rv ar"))
theorem w_neR {x y : V} {H : Hp} {Q : VK} (h : scal x y = true) (e : x = y) (q : Q (.bl false) H) : rNe x y H Q := ⟨h, by
  rw [decide_eq_true e]
  exact q⟩
/-- the values that are no whole numbers -/
def Od1 (C : Addr) (H : Hp) (x : V) : Prop := ∃ y, Odd C H x y ∧ isI x = false
theorem Od1.same {C : Addr} {H H' : Hp} {x : V} (h : Od1 C H x) (e : Same H H') : Od1 C H' x := by
  obtain ⟨y, h1, h2⟩ := h
  exact ⟨y, h1.same e, h2⟩
end Rv
/-! Own exceptions held as values: made by position and by name, their fields, isinstance; repr of plain data and of {}. -/
namespace Rv
open PySem PySem.Spec PyProof.Rows L2
/-- C(e) -/
def tMkx (C : Addr) (sp : Sp) (ta : TA) : TE := fun σ H Q => ta σ H fun vs H1 => vs.length ≤ 1000 ∧ ∀ a, H1 a = none → sp (.ref a :: (vs ++ [])) (upd H1 a (exo a C none)) (fun v H2 => v = .non ∧ Q (.ref a) H2) (fun _ _ _ => False)
/-- C(f = e) -/
def tMkxK (C : Addr) (sp : Sp) (ta : TA) : TE := fun σ H Q => ta σ H fun vs H1 => vs.length = 1 ∧ ∀ a, H1 a = none → sp (.ref a :: vs) (upd H1 a (exo a C none)) (fun v H2 => v = .non ∧ Q (.ref a) H2) (fun _ _ _ => False)
/-- .. with the keyword f -/
structure CalXK (P : Program) (w : World) (K : PySem.W.Frag) (mg : Str → Option Value) (base : Heap) (CX : CXT) (k : Nat) (x : Str) (C : Addr) (ps : List Str) (sp : Sp) (f : Str) (B newId initId : String) (bmB : List Value) : Prop where
  ex : ∃ fI fd, FnOk P w K mg base CX k fI fd ps sp ∧ OexG K C B newId initId bmB ∧ PySem.W.findIn K (.ref C) "__init__" = some (some (.ref fI)) ∧ PySem.W.typeIn K (.ref fI) = some (.type "function") ∧ mg x = some (.ref C) ∧ KBn K fd ps 1 [f] (fun us ws => us ++ ws) (fun vs zs => vs ++ zs)
section
variable {X : Cx} {CX : CXT} {k : Nat} {x f : Str} {C : Addr} {ps : List Str} {sp : Sp} {B newId initId : String} {bmB : List Value} {e : Expr} {es : List Expr} {ta : TA} {te : TE} {p pos kpos : Pos}
theorem pe_mkx (c : CalX X.prog X.w X.K X.mg X.base CX k x C ps sp [] B newId initId bmB) (hr : Room (k + 1) X.A) (hx : Passes CX X (fun _ _ _ => False)) (hg : Gl X x) (ha : PA X (e :: es) ta)
    (hdb : (x == ("__debug__" : Str)) = false := by decide) (he : starEach (e :: es) X.env = (false, eval e X.env) :: starEach es X.env := by rfl) (hpl : (backTo pos (starEach es X.env)).any (·.1) = false := by rfl) : PE X (.Call (.Name x p) (e :: es) [] pos) (tMkx C sp ta) := by
  obtain ⟨fI, fd, ds, F1, T, iC, tI, hm, hb, hd⟩ := c.ex
  refine ⟨fun pins s σ H Q I h => ?_⟩
  obtain ⟨nm, q, N, bs, bm, sn, sub, ab, col, dd, k0, k1, k2, k3, k5, lk, hT, _⟩ := T.cls
  refine wpAny_Call_Name_kw (ld_glob I hg hm ?_ hdb)
  refine PySem.W.callWith_K (h₀ := X.base) I.ok.mod.kin T.kC (thn (ha.run pos pins s σ H _ I h) fun us s1 z => ?_) he hpl
  obtain ⟨vs, H1, I1, rv0, hz, q1⟩ := z
  refine ⟨I1.kIn, (?_ : wpAny _ _ (call (.ref C) us) _ _ _)⟩
  obtain ⟨hp, g0, d0, u0, o0⟩ := s1
  have up1 : hp.objs.size ≤ aNew hp := Nat.le_succ _
  have free1 : H1 (aNew hp) = none := I1.hok.fresh up1
  have want := q1 (aNew hp) free1
  have I2 : Inv X pins σ (upd H1 (aNew hp) (exo (aNew hp) C none)) ⟨hNew hp us C, g0, d0, u0, o0⟩ := I1.laid (t' := u0) (o := exo (aNew hp) C none) hNew_old up1 (exo_ok hNew_at)
  have rel2 : Vals (.ref (aNew hp) :: (vs ++ [])) (.ref (aNew hp) :: (us ++ ds)) := .cons rfl (rv0.append hd)
  have len2 : (Value.ref (aNew hp) :: us ++ ds).length = ps.length := (rel2.length.symm).trans (F1.len _ _ _ _ want)
  have lu : us.length ≤ sizeLine := by
    have := Paired.length rv0
    rw [sizeLine_eq]
    omega
  refine wpAny_call (PySem.HandSPX.call_ownK T.bf lu hT (I1.kIn _ _ lk) (PySem.W.looks_findIn I1.kIn iC) (fun self => PySem.W.bind_fn I1.kIn self tI) (codeAny_mono (F1.run _ X.stack _ _ ⟨.ref (aNew hp) :: us, []⟩ (.ref (aNew hp) :: (us ++ ds)) _ _ (fun _ _ _ => False)
    (hr.make C us []) (I2.env0.make C us []) (hb _ (.ref (aNew hp) :: us) I2.kIn len2) rel2 want) fun r s2 back => ?_))
  match r, back with
  | .error er, back => exact hx pins σ _ _ er s2 I2 back
  | .ok (.ret u), back =>
    obtain ⟨v, H', I3, rv, ev, q3⟩ := I2.after back
    subst ev
    exact ⟨rv, ⟨.ref (aNew hp), H', I3, rfl, q3⟩⟩
  | .ok .next, back => exact back.elim
  | .ok .brk, back => exact back.elim
  | .ok .cont, back => exact back.elim
theorem pe_mkxk (c : CalXK X.prog X.w X.K X.mg X.base CX k x C ps sp f B newId initId bmB) (hr : Room (k + 1) X.A) (hx : Passes CX X (fun _ _ _ => False)) (hg : Gl X x) (hkw : PK X [⟨some f, e, kpos⟩] ta)
    (hdb : (x == ("__debug__" : Str)) = false := by decide) (hall : (backToKw pos (keywordEach [⟨some f, e, kpos⟩] X.env)).all (·.1.isSome) = true := by rfl) (hks : (backToKw pos (keywordEach [⟨some f, e, kpos⟩] X.env)).filterMap (·.1) = [f] := by rfl)
    (hpl : ((backTo pos (starEach [] X.env)).any (·.1) || (backToKw pos (keywordEach [⟨some f, e, kpos⟩] X.env)).any (·.1.isNone)) = false := by rfl) : PE X (.Call (.Name x p) [] [⟨some f, e, kpos⟩] pos) (tMkxK C sp ta) := by
  obtain ⟨fI, fd, F1, T, iC, tI, hm, hb⟩ := c.ex
  refine ⟨fun pins s σ H Q I h => ?_⟩
  obtain ⟨nm, q, N, bs, bm, sn, sub, ab, col, dd, k0, k1, k2, k3, k5, lk, hT, _⟩ := T.cls
  refine wpAny_Call_Name_kw (ld_glob I hg hm ?_ hdb)
  refine PySem.W.callWith_KW0 (h₀ := X.base) I.ok.mod.kin T.kC hall ?_ hpl
  refine thn (hkw.run pos pins s σ H _ I h) fun ws s1 z => ?_
  obtain ⟨vs, H1, I1, rv0, hz, q1⟩ := z
  rw [hks]
  match vs, ws, rv0, hz with
  | [v], [u], rv0, _ =>
  refine ⟨I1.kIn, (?_ : wpAny _ _ (call (.ref C) [] [(f, u)]) _ _ _)⟩
  obtain ⟨hp, g0, d0, u0, o0⟩ := s1
  have up1 : hp.objs.size ≤ aNew hp := Nat.le_succ _
  have free1 : H1 (aNew hp) = none := I1.hok.fresh up1
  have want := q1 (aNew hp) free1
  have I2 : Inv X pins σ (upd H1 (aNew hp) (exo (aNew hp) C none)) ⟨hNew hp [] C, g0, d0, u0, o0⟩ := I1.laid (t' := u0) (o := exo (aNew hp) C none) hNew_old up1 (exo_ok hNew_at)
  have rel2 : Vals [.ref (aNew hp), v] [.ref (aNew hp), u] := .cons rfl rv0
  refine wpAny_call (PySem.HandSPX.call_ownK T.bf (show [].length ≤ sizeLine from Nat.zero_le _) hT (I1.kIn _ _ lk) (PySem.W.looks_findIn I1.kIn iC) (fun self => PySem.W.bind_fn I1.kIn self tI) (codeAny_mono (F1.run _ X.stack _ _ ⟨[.ref (aNew hp)], [(f, u)]⟩ [.ref (aNew hp), u] _ _ (fun _ _ _ => False)
    (hr.make C [] [(f, u)]) (I2.env0.make C [] [(f, u)]) (hb.to _ [.ref (aNew hp)] [u] I2.kIn rfl rfl) rel2 want) fun r s2 back => ?_))
  match r, back with
  | .error er, back => exact hx pins σ _ _ er s2 I2 back
  | .ok (.ret u), back =>
    obtain ⟨v, H', I3, rv, ev, q3⟩ := I2.after back
    subst ev
    exact ⟨rv, ⟨.ref (aNew hp), H', I3, rfl, q3⟩⟩
  | .ok .next, back => exact back.elim
  | .ok .brk, back => exact back.elim
  | .ok .cont, back => exact back.elim
/-- an exception at a of the class at C with its one field -/
def ExAt (H : Hp) (a C : Addr) (f : Str) (v : V) : Prop := ∃ d, H a = some (exo a C (some d)) ∧ H d = some (exd d [(f, v)])
theorem ExAt.same {H H' : Hp} {a C : Addr} {f : Str} {v : V} (h : ExAt H a C f v) (e : Same H H') : ExAt H' a C f v := by
  obtain ⟨d, h1, h2⟩ := h
  exact ⟨d, e _ _ h1, e _ _ h2⟩
/-- e.f -/
def tXe (K : PySem.W.Frag) (f : Str) (te : TE) : TE := fun σ H Q => te σ H fun x H1 => ∃ a C v, x = .ref a ∧ XfC K C ∧ PySem.W.findIn K (.ref C) f = some none ∧ ExAt H1 a C f v ∧ Q v H1
theorem pe_xe {n : Str} (he : PE X e te) (hb : attributeBase e n X.env (eval e X.env) = eval e X.env := by rfl) : PE X (.Attribute e n pos) (tXe X.K n te) := by
  refine ⟨fun pins s σ H Q I h => ?_⟩
  refine attr_of hb (thn (he.run pins s σ H _ I h) fun u s1 hh => ?_)
  obtain ⟨x, H1, I1, rx, a, C, v, ex, T, hno, ⟨dd, ha, hd⟩, q⟩ := hh
  subst ex
  obtain rfl : u = Value.ref a := rx
  obtain ⟨t1, ho⟩ := exo_at I1.hok ha
  obtain ⟨mA, hns, hr⟩ := exd_at I1.hok hd
  obtain ⟨od, hod, hl⟩ := lookIn_ns hns
  obtain ⟨u, hu, ru⟩ := RelO.some_of (v := v) (o := mA n) (by
    have := hr n
    rw [show List.lookup n [(n, v)] = some v from by rw [List.lookup_cons_self]] at this
    exact this)
  have J : PySem.W.InstAt s1.heap a _ C (some od) := ⟨ho, rfl, rfl, hod⟩
  exact HandSPX.exc_get I1.kIn J T.ga T.gg T.exC (PySem.W.findObj_own T.hdC hno rfl (by rw [hl, hu])) (handed_of ru) ⟨v, H1, I1.tok _, ru, q⟩
/-- isinstance(e, c) -/
def rIsX (K : PySem.W.Frag) : List V → Hp → VK → Prop := fun xs H Q => ∃ (a C : Addr) (f : Str) (v c : V) (cv : Value) (b : Bool), xs = [.ref a, c] ∧ (∀ u, RelV c u → u = cv) ∧ ExcC K C ∧ ExAt H a C f v ∧ PySem.W.kitOne K (.ref C) cv = some b ∧ Q (.bl b) H
theorem call_isX : CallR X (.builtin "isinstance") (rIsX X.K) := by
  intro pins s σ H xs us Q I r h
  obtain ⟨a, C, f, v, c, cv, b, rfl, hcv, T, ⟨dd, ha, hd⟩, e, q⟩ := h
  cases r with
  | cons rx rr =>
    cases rr with
    | cons rt rr =>
      cases rr
      cases rx
      have ec := hcv _ rt
      subst ec
      obtain ⟨t1, ho⟩ := exo_at I.hok ha
      obtain ⟨mA, hns, hr⟩ := exd_at I.hok hd
      obtain ⟨od, hod, hl⟩ := lookIn_ns hns
      have J : PySem.W.InstAt s.heap a _ C (some od) := ⟨ho, rfl, rfl, hod⟩
      exact PySem.W.kia_one (PySem.W.kitx_exc (by obtain ⟨cd, hc, _⟩ := PySem.W.any_some T.hd; rw [hc]; rfl) T.hg T.hk T.hs T.ha T.hn T.ht T.hm) I.kIn J e (fun z => nomatch z) fun tk => ⟨.bl b, H, I.kept (t' := tk) fun _ _ z => z, rfl, q⟩
end
/-- repr of plain data, or of {} -/
def cReprP (K : PySem.W.Frag) : List V → Hp → VK → Prop := fun xs H Q => ∃ v, xs = [v] ∧
  ((∃ d, Dp K H v d ∧ d.showable = true ∧ d.hasDict = false ∧ d.depth ≤ 10 ∧ d.shown.length ≤ sizeLine ∧ Q (.str d.shown) H) ∨
   ∃ a, v = .ref a ∧ H a = some (.dK []) ∧ Q (.str (PyData.dict []).shown) H)
theorem call_reprP {X : Cx} (hg : X.A.guards = some []) (hr : Room 1 X.A) : CallR X (.builtin "repr") (cReprP X.K) := by
  intro pins s σ H xs us Q I r h
  obtain ⟨v, rfl, h⟩ := h
  obtain ⟨u, rfl, ru⟩ := vals1 r
  have hu := hr.un
  rcases h with ⟨d, hd, sh, nd, dp, sz, q⟩ | ⟨a, rfl, ha, q⟩
  · have go : ∀ {b : Addr}, Dp X.K H (.ref b) d → wpAny (model X.prog X.w) X.A (call (.builtin "repr") [.ref b]) (EP X pins σ Q) X.xe s := fun {b} hb => by
      obtain ⟨as, rd⟩ := Dp.reads I d (.ref b) (.ref b) hb rfl
      exact PySem.repr_of_reads' rd sh (fun e => by rw [nd] at e; cases e) hg (by omega) (fun b o e => e) (fun h' u tk hk => ⟨.str d.shown, H, I.kept hk, ⟨_, rfl⟩, q⟩) sz
    cases hd with
    | non =>
      cases (show u = Value.none from ru)
      exact PySem.P.repr_of_none ⟨.str _, H, I.tok _, ⟨_, rfl⟩, q⟩
    | bl b =>
      cases (show u = Value.bool b from ru)
      refine PySem.P.repr_of_bool ⟨.str _, H, I.tok _, ⟨_, rfl⟩, ?_⟩
      cases b <;> exact q
    | int i =>
      obtain ⟨t, rfl⟩ := (show ∃ t, u = Value.int i t from ru)
      refine PySem.P.repr_of_int (by simpa [PyData.showable] using sh) ⟨.str _, H, I.tok _, ⟨_, rfl⟩, q⟩
    | str x =>
      obtain ⟨t, rfl⟩ := (show ∃ t, u = Value.str x t from ru)
      exact PySem.P.repr_of_str ⟨.str _, H, I.tok _, ⟨_, rfl⟩, q⟩ sz
    | lst h1 h2 =>
      cases (show u = Value.ref _ from ru)
      exact go (.lst h1 h2)
    | tup h1 h2 =>
      cases (show u = Value.ref _ from ru)
      exact go (.tup h1 h2)
  · cases (show u = Value.ref a from ru)
    obtain ⟨_, ns, vs, kv, o, es, ep, h1, h2, h3, h4, h5, h6⟩ := I.hok a _ ha
    cases kv
    have he : es.toList = [] := by
      cases h7 : es.toList with
      | nil => rfl
      | cons x l =>
        rw [h7] at h5
        cases h5
    have rd : PySem.Reads s.heap (.ref a) (.dict []) (a :: [] ++ []) := .dict h1 h2.1 h3 (by rw [he]; exact .nil) (by rw [he]; exact .nil)
    refine PySem.repr_of_reads' rd (by simp [PyData.showable, PyData.showableKv]) (fun _ hm => ?_) hg (by simp only [PyData.depth, PyData.depthKv]; omega) (fun b o e => e) (fun h' u tk hk => ⟨.str _, H, I.kept hk, ⟨_, rfl⟩, q⟩) (by decide +kernel)
    have hm : sysModules = a := by simpa using hm
    rw [← hm] at ns
    exact Bool.noConfusion (show true = false from ns)
end Rv
namespace Rv
open PySem PySem.Spec PyProof.Rows L2
theorem mok_re : Mok bm_RuntimeError := ⟨fun self => F.store_RuntimeError.passes self, rfl, by decide +kernel⟩
theorem mok_ke : Mok bm_KeyError := ⟨fun _ => by kernel_rfl, rfl, by decide +kernel⟩
end Rv
namespace Rv
open PySem PySem.Spec PyProof.Rows L2
/-! exceptions as values, by the classes' places -/
structure KxE (K : PySem.W.Frag) (C : Addr) (B newId initId : String) (bmB : List Value) (f : Str) : Prop where
  ox : OexG K C B newId initId bmB
  xf : XfC K C
  no : PySem.W.findIn K (.ref C) f = some none
  ec : ExcC K C
def wayN (i : Nat) : Int := ([0, 1, 1, 1, 1, 1, 0, 0, 2, 5, 0, 0, 2, 3, 4] : List Int).getD i 0
def fldN (i : Nat) : Str := (["value", "index", "index", "index", "index", "index", "value", "value", "name", "line", "value", "value", "name", "limit", "count"] : List Str).getD i ""
def fldW (w : Int) : Str := if w = 0 then "value" else if w = 1 then "index" else if w = 2 then "name" else if w = 5 then "line" else if w = 3 then "limit" else "count"
theorem fld_way : ∀ i, i < 15 → fldN i = fldW (wayN i) := by decide +kernel
structure E90 (K : PySem.W.Frag) (Cs : List Addr) (CE : Addr) : Prop where
  x0 : KxE K (cAt Cs 0) "ValueError" "ValueError.__new__" "ValueError.__init__" bm_ValueError "value"
  x1 : KxE K (cAt Cs 1) "ValueError" "ValueError.__new__" "ValueError.__init__" bm_ValueError "index"
  x2 : KxE K (cAt Cs 2) "ValueError" "ValueError.__new__" "ValueError.__init__" bm_ValueError "index"
  x3 : KxE K (cAt Cs 3) "ValueError" "ValueError.__new__" "ValueError.__init__" bm_ValueError "index"
  x4 : KxE K (cAt Cs 4) "ValueError" "ValueError.__new__" "ValueError.__init__" bm_ValueError "index"
  x5 : KxE K (cAt Cs 5) "ValueError" "ValueError.__new__" "ValueError.__init__" bm_ValueError "index"
  x6 : KxE K (cAt Cs 6) "ValueError" "ValueError.__new__" "ValueError.__init__" bm_ValueError "value"
  x7 : KxE K (cAt Cs 7) "ValueError" "ValueError.__new__" "ValueError.__init__" bm_ValueError "value"
  x8 : KxE K (cAt Cs 8) "ValueError" "ValueError.__new__" "ValueError.__init__" bm_ValueError "name"
  x9 : KxE K (cAt Cs 9) "ValueError" "ValueError.__new__" "ValueError.__init__" bm_ValueError "line"
  x10 : KxE K (cAt Cs 10) "IndexError" "IndexError.__new__" "IndexError.__init__" bm_IndexError "value"
  x11 : KxE K (cAt Cs 11) "IndexError" "IndexError.__new__" "IndexError.__init__" bm_IndexError "value"
  x12 : KxE K (cAt Cs 12) "KeyError" "LookupError.__new__" "KeyError.__init__" bm_KeyError "name"
  x13 : KxE K (cAt Cs 13) "OverflowError" "OverflowError.__new__" "OverflowError.__init__" bm_OverflowError "limit"
  x14 : KxE K (cAt Cs 14) "RuntimeError" "RuntimeError.__new__" "RuntimeError.__init__" bm_RuntimeError "count"
  ty : ∀ i, i < 15 → ∀ j, j < 8 → PySem.W.kitOne K (.ref (cAt Cs i)) (tyV CE j) = some ((dueN i).contains (j : Int))
  cl : ∀ i, i < 15 → ∀ j, j < 15 → PySem.W.kitOne K (.ref (cAt Cs i)) (.ref (cAt Cs j)) = some (decide (j = i))
theorem e90_of {K : PySem.W.Frag} (a0 : oxB K "InvalidNumber" "ValueError.__new__" bm_ValueError = true) (b0 : xfB K (He.ga K "InvalidNumber") = true) (c0 : decide (PySem.W.findIn K (.ref (He.ga K "InvalidNumber")) "value" = some none) = true) (d0 : ecB K "InvalidNumber" = true) (a1 : oxB K "InvalidProfile" "ValueError.__new__" bm_ValueError = true) (b1 : xfB K (He.ga K "InvalidProfile") = true) (c1 : decide (PySem.W.findIn K (.ref (He.ga K "InvalidProfile")) "index" = some none) = true) (d1 : ecB K "InvalidProfile" = true) (a2 : oxB K "InvalidWidths" "ValueError.__new__" bm_ValueError = true) (b2 : xfB K (He.ga K "InvalidWidths") = true) (c2 : decide (PySem.W.findIn K (.ref (He.ga K "InvalidWidths")) "index" = some none) = true) (d2 : ecB K "InvalidWidths" = true) (a3 : oxB K "InvalidWeights" "ValueError.__new__" bm_ValueError = true) (b3 : xfB K (He.ga K "InvalidWeights") = true) (c3 : decide (PySem.W.findIn K (.ref (He.ga K "InvalidWeights")) "index" = some none) = true) (d3 : ecB K "InvalidWeights" = true) (a4 : oxB K "InvalidObservations" "ValueError.__new__" bm_ValueError = true) (b4 : xfB K (He.ga K "InvalidObservations") = true) (c4 : decide (PySem.W.findIn K (.ref (He.ga K "InvalidObservations")) "index" = some none) = true) (d4 : ecB K "InvalidObservations" = true) (a5 : oxB K "InvalidOperations" "ValueError.__new__" bm_ValueError = true) (b5 : xfB K (He.ga K "InvalidOperations") = true) (c5 : decide (PySem.W.findIn K (.ref (He.ga K "InvalidOperations")) "index" = some none) = true) (d5 : ecB K "InvalidOperations" = true) (a6 : oxB K "ParseError" "ValueError.__new__" bm_ValueError = true) (b6 : xfB K (He.ga K "ParseError") = true) (c6 : decide (PySem.W.findIn K (.ref (He.ga K "ParseError")) "value" = some none) = true) (d6 : ecB K "ParseError" = true) (a7 : oxB K "InvalidCommand" "ValueError.__new__" bm_ValueError = true) (b7 : xfB K (He.ga K "InvalidCommand") = true) (c7 : decide (PySem.W.findIn K (.ref (He.ga K "InvalidCommand")) "value" = some none) = true) (d7 : ecB K "InvalidCommand" = true) (a8 : oxB K "InvalidCascade" "ValueError.__new__" bm_ValueError = true) (b8 : xfB K (He.ga K "InvalidCascade") = true) (c8 : decide (PySem.W.findIn K (.ref (He.ga K "InvalidCascade")) "name" = some none) = true) (d8 : ecB K "InvalidCascade" = true) (a9 : oxB K "ScriptError" "ValueError.__new__" bm_ValueError = true) (b9 : xfB K (He.ga K "ScriptError") = true) (c9 : decide (PySem.W.findIn K (.ref (He.ga K "ScriptError")) "line" = some none) = true) (d9 : ecB K "ScriptError" = true) (a10 : oxB K "InvalidColumn" "IndexError.__new__" bm_IndexError = true) (b10 : xfB K (He.ga K "InvalidColumn") = true) (c10 : decide (PySem.W.findIn K (.ref (He.ga K "InvalidColumn")) "value" = some none) = true) (d10 : ecB K "InvalidColumn" = true) (a11 : oxB K "InvalidValley" "IndexError.__new__" bm_IndexError = true) (b11 : xfB K (He.ga K "InvalidValley") = true) (c11 : decide (PySem.W.findIn K (.ref (He.ga K "InvalidValley")) "value" = some none) = true) (d11 : ecB K "InvalidValley" = true) (a12 : oxB K "UnknownName" "LookupError.__new__" bm_KeyError = true) (b12 : xfB K (He.ga K "UnknownName") = true) (c12 : decide (PySem.W.findIn K (.ref (He.ga K "UnknownName")) "name" = some none) = true) (d12 : ecB K "UnknownName" = true) (a13 : oxB K "LimitExceeded" "OverflowError.__new__" bm_OverflowError = true) (b13 : xfB K (He.ga K "LimitExceeded") = true) (c13 : decide (PySem.W.findIn K (.ref (He.ga K "LimitExceeded")) "limit" = some none) = true) (d13 : ecB K "LimitExceeded" = true) (a14 : oxB K "NothingToUndo" "RuntimeError.__new__" bm_RuntimeError = true) (b14 : xfB K (He.ga K "NothingToUndo") = true) (c14 : decide (PySem.W.findIn K (.ref (He.ga K "NothingToUndo")) "count" = some none) = true) (d14 : ecB K "NothingToUndo" = true) (h : e90B K = true) : E90 K [He.ga K "InvalidNumber", He.ga K "InvalidProfile", He.ga K "InvalidWidths", He.ga K "InvalidWeights", He.ga K "InvalidObservations", He.ga K "InvalidOperations", He.ga K "ParseError", He.ga K "InvalidCommand", He.ga K "InvalidCascade", He.ga K "ScriptError", He.ga K "InvalidColumn", He.ga K "InvalidValley", He.ga K "UnknownName", He.ga K "LimitExceeded", He.ga K "NothingToUndo"] (He.ga K "RainError") := by
  have h1 := fun i (hi : i < 15) => He.ba (List.all_eq_true.mp h i (List.mem_range.mpr hi))
  exact ⟨⟨ox_ok PySem.F.excBase_ValueError mok_ve a0, xfB_ok b0, of_decide_eq_true c0, ec_of d0⟩, ⟨ox_ok PySem.F.excBase_ValueError mok_ve a1, xfB_ok b1, of_decide_eq_true c1, ec_of d1⟩, ⟨ox_ok PySem.F.excBase_ValueError mok_ve a2, xfB_ok b2, of_decide_eq_true c2, ec_of d2⟩, ⟨ox_ok PySem.F.excBase_ValueError mok_ve a3, xfB_ok b3, of_decide_eq_true c3, ec_of d3⟩, ⟨ox_ok PySem.F.excBase_ValueError mok_ve a4, xfB_ok b4, of_decide_eq_true c4, ec_of d4⟩, ⟨ox_ok PySem.F.excBase_ValueError mok_ve a5, xfB_ok b5, of_decide_eq_true c5, ec_of d5⟩, ⟨ox_ok PySem.F.excBase_ValueError mok_ve a6, xfB_ok b6, of_decide_eq_true c6, ec_of d6⟩, ⟨ox_ok PySem.F.excBase_ValueError mok_ve a7, xfB_ok b7, of_decide_eq_true c7, ec_of d7⟩, ⟨ox_ok PySem.F.excBase_ValueError mok_ve a8, xfB_ok b8, of_decide_eq_true c8, ec_of d8⟩, ⟨ox_ok PySem.F.excBase_ValueError mok_ve a9, xfB_ok b9, of_decide_eq_true c9, ec_of d9⟩, ⟨ox_ok PySem.F.excBase_IndexError mok_ie a10, xfB_ok b10, of_decide_eq_true c10, ec_of d10⟩, ⟨ox_ok PySem.F.excBase_IndexError mok_ie a11, xfB_ok b11, of_decide_eq_true c11, ec_of d11⟩, ⟨ox_okX PySem.HandSPX.xbase_KeyError mok_ke a12, xfB_ok b12, of_decide_eq_true c12, ec_of d12⟩, ⟨ox_ok PySem.F.excBase_OverflowError mok_oe a13, xfB_ok b13, of_decide_eq_true c13, ec_of d13⟩, ⟨ox_ok PySem.F.excBase_RuntimeError mok_re a14, xfB_ok b14, of_decide_eq_true c14, ec_of d14⟩, fun i hi j hj => of_decide_eq_true (List.all_eq_true.mp (h1 i hi).1 j (List.mem_range.mpr hj)), fun i hi j hj => of_decide_eq_true (List.all_eq_true.mp (h1 i hi).2 j (List.mem_range.mpr hj))⟩
theorem E90.kx {K : PySem.W.Frag} {Cs : List Addr} {CE : Addr} (X : E90 K Cs CE) : ∀ i, i < 15 → XfC K (cAt Cs i) ∧ PySem.W.findIn K (.ref (cAt Cs i)) (fldN i) = some none ∧ ExcC K (cAt Cs i)
  | 0, _ => ⟨X.x0.xf, X.x0.no, X.x0.ec⟩
  | 1, _ => ⟨X.x1.xf, X.x1.no, X.x1.ec⟩
  | 2, _ => ⟨X.x2.xf, X.x2.no, X.x2.ec⟩
  | 3, _ => ⟨X.x3.xf, X.x3.no, X.x3.ec⟩
  | 4, _ => ⟨X.x4.xf, X.x4.no, X.x4.ec⟩
  | 5, _ => ⟨X.x5.xf, X.x5.no, X.x5.ec⟩
  | 6, _ => ⟨X.x6.xf, X.x6.no, X.x6.ec⟩
  | 7, _ => ⟨X.x7.xf, X.x7.no, X.x7.ec⟩
  | 8, _ => ⟨X.x8.xf, X.x8.no, X.x8.ec⟩
  | 9, _ => ⟨X.x9.xf, X.x9.no, X.x9.ec⟩
  | 10, _ => ⟨X.x10.xf, X.x10.no, X.x10.ec⟩
  | 11, _ => ⟨X.x11.xf, X.x11.no, X.x11.ec⟩
  | 12, _ => ⟨X.x12.xf, X.x12.no, X.x12.ec⟩
  | 13, _ => ⟨X.x13.xf, X.x13.no, X.x13.ec⟩
  | 14, _ => ⟨X.x14.xf, X.x14.no, X.x14.ec⟩
  | n + 15, h => absurd h (by omega)
/-! evaluation that only brings new objects -/
def EvT (te : TE) (σ : L2.St) (H0 : Hp) (P : Hp → V → Prop) : Prop := ∀ (H : Hp) (Q : VK), Same H0 H → (∀ x H', Same H H' → P H' x → Q x H') → te σ H Q
def EvA (ta : TA) (σ : L2.St) (H0 : Hp) (P : Hp → List V → Prop) : Prop := ∀ (H : Hp) (Q : List V → Hp → Prop), Same H0 H → (∀ xs H', Same H H' → P H' xs → Q xs H') → ta σ H Q
inductive EAll {α : Type} (R : Hp → V → α → Prop) (H : Hp) : List V → List α → Prop
  | nil : EAll R H [] []
  | cons {x : V} {a : α} {xs : List V} {as : List α} : R H x a → EAll R H xs as → EAll R H (x :: xs) (a :: as)
def MonoR {α : Type} (R : Hp → V → α → Prop) : Prop := ∀ H H' x a, R H x a → Same H H' → R H' x a
section
variable {α : Type} {R : Hp → V → α → Prop} {H H0 : Hp} {xs ys : List V} {as bs : List α} {a : α} {te tb : TE} {ta : TA} {σ : L2.St}
theorem EAll.len (h : EAll R H xs as) : xs.length = as.length := by
  induction h with
  | nil => rfl
  | cons _ _ ih => rw [List.length_cons, List.length_cons, ih]
theorem EAll.same {H' : Hp} (m : MonoR R) (h : EAll R H xs as) (e : Same H H') : EAll R H' xs as := by
  induction h with
  | nil => exact .nil
  | cons r _ ih => exact .cons (m _ _ _ _ r e) ih
theorem EAll.app (h : EAll R H xs as) (g : EAll R H ys bs) : EAll R H (xs ++ ys) (as ++ bs) := by
  induction h with
  | nil => exact g
  | cons r _ ih => exact .cons r ih
theorem EAll.get (h : EAll R H xs as) : ∀ {i : Nat} {a : α}, as[i]? = some a → ∃ x, xs[i]? = some x ∧ R H x a := by
  induction h with
  | nil => intro i a e; simp at e
  | cons r _ ih =>
    intro i a e
    cases i with
    | zero => exact ⟨_, rfl, by cases (Option.some.inj e); exact r⟩
    | succ i => exact ih (by simpa using e)
def LstX (R : Hp → V → α → Prop) (as : List α) (H : Hp) (x : V) : Prop := ∃ p xs, x = .ref p ∧ H p = some (.lst xs) ∧ EAll R H xs as
theorem LstX.same {H' : Hp} {x : V} (m : MonoR R) (h : LstX R as H x) (e : Same H H') : LstX R as H' x := by
  obtain ⟨p, xs, rfl, h1, h2⟩ := h
  exact ⟨p, xs, rfl, e _ _ h1, h2.same m e⟩
theorem eva_nil : EvA tNil σ H0 fun H xs => EAll R H xs [] := fun H Q e k => k [] H (Same.refl H) .nil
theorem eva_cons (m : MonoR R) (h : EvT te σ H0 fun H x => R H x a) (t : EvA ta σ H0 fun H xs => EAll R H xs as) : EvA (tCons te ta) σ H0 fun H xs => EAll R H xs (a :: as) := fun H Q e k =>
  h H _ e fun x H1 e1 p1 => t H1 _ (e.trans e1) fun xs H2 e2 p2 => k _ H2 (e1.trans e2) (.cons (m _ _ _ _ p1 e2) p2)
theorem evt_lst (m : MonoR R) (hl : as.length ≤ 1000) (t : EvA ta σ H0 fun H xs => EAll R H xs as) : EvT (tLst ta) σ H0 (LstX R as) := fun H Q e k =>
  t H _ e fun xs H1 e1 p1 => ⟨szl (by rw [p1.len]; omega), fun p np => k _ _ (same_new e1 np) ⟨p, xs, rfl, upd_same, p1.same m (same_new (Same.refl H1) np)⟩⟩
theorem evt_cat (m : MonoR R) (hl : as.length + bs.length ≤ 1000) (h : EvT te σ H0 (LstX R as)) (g : EvT tb σ H0 (LstX R bs)) : EvT (tOp rCat te tb) σ H0 (LstX R (as ++ bs)) := fun H Q e k =>
  h H _ e fun x H1 e1 p1 => g H1 _ (e.trans e1) fun y H2 e2 p2 => by
    obtain ⟨p, xs, rfl, h1, h2⟩ := p1
    obtain ⟨q, ys, rfl, g1, g2⟩ := p2
    refine ⟨p, q, xs, ys, rfl, rfl, e2 _ _ h1, g1, szl (by rw [h2.len, g2.len]; omega), fun r nr => ?_⟩
    have e3 := same_new (o := .lst (xs ++ ys)) (Same.refl H2) nr
    exact k _ _ ((e1.trans e2).trans e3) ⟨r, _, rfl, upd_same, ((h2.same m e2).app g2).same m e3⟩
theorem evt_var {P : Hp → V → Prop} {n : Nat} {v : V} (h : σ[n]? = some (some v)) (p : ∀ H', Same H0 H' → P H' v) : EvT (tVar n) σ H0 P := fun H Q e k => ⟨v, h, k v H (Same.refl H) (p H e)⟩
theorem seq_ev {P : Hp → V → Prop} {n : Nat} {s2 : TS} {D : Ends} (h : EvT te σ H P) (k : ∀ x H', Same H H' → P H' x → s2 D (σ.set n (some x)) H') : tSeq (tAsg te (gName n)) s2 D σ H := w_seqA (h H _ (Same.refl H) fun x H' e p => w_gn (k x H' e p))
theorem ret_ev {P : Hp → V → Prop} {D : Ends} (h : EvT te σ H P) (k : ∀ x H', Same H H' → P H' x → D.rt x H') : tRet te D σ H := w_ret (h H _ (Same.refl H) k)
end
section
variable {K : PySem.W.Frag} {C : Addr} {B newId initId : String} {bmB : List Value} {f : Str} {σ : L2.St} {H0 : Hp} {v : V} {te : TE} {w : Int}
def ExV (C : Addr) (f : Str) (v : V) (H : Hp) (x : V) : Prop := ∃ e, x = .ref e ∧ ExAt H e C f v
theorem ini_end {H : Hp} {Q : VK} {a : Addr} (T : KxE K C B newId initId bmB f) (na : H a = none) (k : ∀ x H', Same H H' → ExV C f v H' x → Q x H') :
    spExc K C B newId initId bmB f [.ref a, v] (upd H a (exo a C none)) (fun z H2 => z = .non ∧ Q (.ref a) H2) (fun _ _ _ => False) := by
  refine ⟨a, v, rfl, T.ox, T.no, upd_same, fun dx nd ne => ⟨rfl, ?_⟩⟩
  rw [upd_ne ne] at nd
  refine k _ _ (fun b o hb => ?_) ⟨a, rfl, dx, upd_same, ?_⟩
  · rw [upd_ne (ne_of_none hb na), upd_ne (ne_of_none hb nd), upd_ne (ne_of_none hb na)]
    exact hb
  · rw [upd_ne ne, upd_same]
theorem evt_mkx {n : Nat} (T : KxE K C B newId initId bmB f) (hv : σ[n]? = some (some v)) : EvT (tMkx C (spExc K C B newId initId bmB f) (tCons (tVar n) tNil)) σ H0 (ExV C f v) := fun H Q e k =>
  ⟨v, hv, by show 1 ≤ 1000; decide, fun a na => ini_end T na k⟩
theorem evt_mkxk (T : KxE K C B newId initId bmB f) (hv : σ[0]? = some (some v)) : EvT (tMkxK C (spExc K C B newId initId bmB f) (tCons (tVar 0) tNil)) σ H0 (ExV C f v) := fun H Q e k =>
  ⟨v, hv, rfl, fun a na => ini_end T na k⟩
def PairV (C : Addr) (f : Str) (w : Int) (v : V) (H : Hp) (x : V) : Prop := ∃ q e, x = .ref q ∧ H q = some (.lst [.ref e, .int w]) ∧ ExAt H e C f v
theorem evt_pair (h : EvT te σ H0 (ExV C f v)) : EvT (tLst (tCons te (tCons (tC (.int w)) tNil))) σ H0 (PairV C f w v) := fun H Q e k =>
  h H _ e fun x H1 e1 p1 => by
    obtain ⟨a, rfl, h1⟩ := p1
    refine ⟨szl (by show 2 ≤ 100000; decide), fun q nq => ?_⟩
    have e2 := same_new (o := .lst [.ref a, .int w]) (Same.refl H1) nq
    exact k _ _ (e1.trans e2) ⟨q, a, rfl, upd_same, h1.same e2⟩
def IsB (_ : Hp) (x : V) (b : Bool) : Prop := x = .bl b
theorem mono_isB : MonoR IsB := fun _ _ _ _ h _ => h
theorem evt_is {e : Addr} {c : V} {cv : Value} {b : Bool} (hx : σ[0]? = some (some (.ref e))) (hE : ExAt H0 e C f v) (T : ExcC K C) (hc : ∀ u, RelV c u → u = cv) (hk : PySem.W.kitOne K (.ref C) cv = some b) : EvT (tCB (rIsX K) (tCons (tVar 0) (tCons (tC c) tNil))) σ H0 fun H x => IsB H x b := fun H Q e0 k =>
  ⟨_, hx, ⟨e, C, f, v, c, cv, b, rfl, hc, T, hE.same e0, hk, k _ H (Same.refl H) rfl⟩⟩
end
theorem isB_all {H : Hp} {xs : List V} {bs : List Bool} (h : EAll IsB H xs bs) : xs = bs.map V.bl := by
  induction h with
  | nil => rfl
  | cons r _ ih => rw [List.map_cons, ← ih, (show _ = _ from r)]
def PairX (Cs : List Addr) (v : V) (H : Hp) (x : V) (i : Nat) : Prop := PairV (cAt Cs i) (fldN i) (wayN i) v H x
def NmX (Cs : List Addr) (v : V) (H : Hp) (x : V) (i : Nat) : Prop := ExV (cAt Cs i) (fldN i) v H x
theorem mono_pair {Cs : List Addr} {v : V} : MonoR (PairX Cs v) := fun H H' x i h e => by
  obtain ⟨q, a, h0, h1, h2⟩ := h
  exact ⟨q, a, h0, e _ _ h1, h2.same e⟩
theorem mono_nm {Cs : List Addr} {v : V} : MonoR (NmX Cs v) := fun H H' x i h e => by
  obtain ⟨a, h0, h2⟩ := h
  exact ⟨a, h0, h2.same e⟩
/-! the promises -/
def spErrs90 (K : PySem.W.Frag) (Cs : List Addr) (CE : Addr) : Sp := fun vs H Q _ => ∃ v, vs = [v] ∧ E90 K Cs CE ∧ ∀ x H', Same H H' → LstX (PairX Cs v) (List.range 15) H' x → Q x H'
def spNamed90 (K : PySem.W.Frag) (Cs : List Addr) (CE : Addr) : Sp := fun vs H Q _ => ∃ v, vs = [v] ∧ E90 K Cs CE ∧ ∀ x H', Same H H' → LstX (NmX Cs v) (List.range 15) H' x → Q x H'
def spField90 (K : PySem.W.Frag) : Sp := fun vs H Q _ => ∃ (e C : Addr) (v : V) (w : Int), vs = [.ref e, .int w] ∧ XfC K C ∧ PySem.W.findIn K (.ref C) (fldW w) = some none ∧ ExAt H e C (fldW w) v ∧ Q v H
def spBases90 (K : PySem.W.Frag) (Cs : List Addr) (CE : Addr) : Sp := fun vs H Q _ => ∃ (e : Addr) (v : V) (i : Nat), vs = [.ref e] ∧ i < 15 ∧ E90 K Cs CE ∧ ExAt H e (cAt Cs i) (fldN i) v ∧ ∀ p H', Same H H' → H' p = some (.lst (((List.range 8).map fun j : Nat => (dueN i).contains (j : Int)).map V.bl)) → Q (.ref p) H'
def spClasses90 (K : PySem.W.Frag) (Cs : List Addr) (CE : Addr) : Sp := fun vs H Q _ => ∃ (e : Addr) (v : V) (i : Nat), vs = [.ref e] ∧ i < 15 ∧ E90 K Cs CE ∧ ExAt H e (cAt Cs i) (fldN i) v ∧ ∀ p H', Same H H' → H' p = some (.lst (((List.range 15).map fun j : Nat => decide (j = i)).map V.bl)) → Q (.ref p) H'
def spLaw90 (K : PySem.W.Frag) (Cs : List Addr) (CE : Addr) : Sp := fun vs H Q _ => ∃ (a : Addr) (ns : List Int), vs = [.ref a] ∧ ns.length ≤ 63 ∧ SqL K H a (ns.map V.int) ∧ E90 K Cs CE ∧ ∀ H', Q (.bl true) H'
def t_InvalidNumber___init__90 (K : PySem.W.Frag) (C_InvalidNumber : Addr) : TS :=
  (tSeq (tDrop (tBaseI K C_InvalidNumber "ValueError" "ValueError.__new__" "ValueError.__init__" bm_ValueError (tCons (tVar 0) (tCons (tC (.str "not a valid number here")) tNil))))
    (tFst K C_InvalidNumber "ValueError" "ValueError.__new__" "ValueError.__init__" bm_ValueError "value" (tVar 0) (tVar 1)))
def t_InvalidProfile___init__90 (K : PySem.W.Frag) (C_InvalidProfile : Addr) : TS :=
  (tSeq (tDrop (tBaseI K C_InvalidProfile "ValueError" "ValueError.__new__" "ValueError.__init__" bm_ValueError (tCons (tVar 0) (tCons (tC (.str "not valid heights of a profile")) tNil))))
    (tFst K C_InvalidProfile "ValueError" "ValueError.__new__" "ValueError.__init__" bm_ValueError "index" (tVar 0) (tVar 1)))
def t_InvalidWidths___init__90 (K : PySem.W.Frag) (C_InvalidWidths : Addr) : TS :=
  (tSeq (tDrop (tBaseI K C_InvalidWidths "ValueError" "ValueError.__new__" "ValueError.__init__" bm_ValueError (tCons (tVar 0) (tCons (tC (.str "not valid widths of a profile")) tNil))))
    (tFst K C_InvalidWidths "ValueError" "ValueError.__new__" "ValueError.__init__" bm_ValueError "index" (tVar 0) (tVar 1)))
def t_InvalidWeights___init__90 (K : PySem.W.Frag) (C_InvalidWeights : Addr) : TS :=
  (tSeq (tDrop (tBaseI K C_InvalidWeights "ValueError" "ValueError.__new__" "ValueError.__init__" bm_ValueError (tCons (tVar 0) (tCons (tC (.str "not valid weights of rain")) tNil))))
    (tFst K C_InvalidWeights "ValueError" "ValueError.__new__" "ValueError.__init__" bm_ValueError "index" (tVar 0) (tVar 1)))
def t_InvalidObservations___init__90 (K : PySem.W.Frag) (C_InvalidObservations : Addr) : TS :=
  (tSeq (tDrop (tBaseI K C_InvalidObservations "ValueError" "ValueError.__new__" "ValueError.__init__" bm_ValueError (tCons (tVar 0) (tCons (tC (.str "not valid observations")) tNil))))
    (tFst K C_InvalidObservations "ValueError" "ValueError.__new__" "ValueError.__init__" bm_ValueError "index" (tVar 0) (tVar 1)))
def t_InvalidOperations___init__90 (K : PySem.W.Frag) (C_InvalidOperations : Addr) : TS :=
  (tSeq (tDrop (tBaseI K C_InvalidOperations "ValueError" "ValueError.__new__" "ValueError.__init__" bm_ValueError (tCons (tVar 0) (tCons (tC (.str "not valid operations")) tNil))))
    (tFst K C_InvalidOperations "ValueError" "ValueError.__new__" "ValueError.__init__" bm_ValueError "index" (tVar 0) (tVar 1)))
def t_ParseError___init__90 (K : PySem.W.Frag) (C_ParseError : Addr) : TS :=
  (tSeq (tDrop (tBaseI K C_ParseError "ValueError" "ValueError.__new__" "ValueError.__init__" bm_ValueError (tCons (tVar 0) (tCons (tC (.str "not a text that can be read here")) tNil))))
    (tFst K C_ParseError "ValueError" "ValueError.__new__" "ValueError.__init__" bm_ValueError "value" (tVar 0) (tVar 1)))
def t_InvalidCommand___init__90 (K : PySem.W.Frag) (C_InvalidCommand : Addr) : TS :=
  (tSeq (tDrop (tBaseI K C_InvalidCommand "ValueError" "ValueError.__new__" "ValueError.__init__" bm_ValueError (tCons (tVar 0) (tCons (tC (.str "not a command")) tNil))))
    (tFst K C_InvalidCommand "ValueError" "ValueError.__new__" "ValueError.__init__" bm_ValueError "value" (tVar 0) (tVar 1)))
def t_InvalidCascade___init__90 (K : PySem.W.Frag) (C_InvalidCascade : Addr) : TS :=
  (tSeq (tDrop (tBaseI K C_InvalidCascade "ValueError" "ValueError.__new__" "ValueError.__init__" bm_ValueError (tCons (tVar 0) (tCons (tC (.str "not a valid cascade")) tNil))))
    (tFst K C_InvalidCascade "ValueError" "ValueError.__new__" "ValueError.__init__" bm_ValueError "name" (tVar 0) (tVar 1)))
def t_ScriptError___init__90 (K : PySem.W.Frag) (C_ScriptError : Addr) : TS :=
  (tSeq (tDrop (tBaseI K C_ScriptError "ValueError" "ValueError.__new__" "ValueError.__init__" bm_ValueError (tCons (tVar 0) (tCons (tC (.str "not a valid script")) tNil))))
    (tFst K C_ScriptError "ValueError" "ValueError.__new__" "ValueError.__init__" bm_ValueError "line" (tVar 0) (tVar 1)))
def t_InvalidColumn___init__90 (K : PySem.W.Frag) (C_InvalidColumn : Addr) : TS :=
  (tSeq (tDrop (tBaseI K C_InvalidColumn "IndexError" "IndexError.__new__" "IndexError.__init__" bm_IndexError (tCons (tVar 0) (tCons (tC (.str "not a column")) tNil))))
    (tFst K C_InvalidColumn "IndexError" "IndexError.__new__" "IndexError.__init__" bm_IndexError "value" (tVar 0) (tVar 1)))
def t_InvalidValley___init__90 (K : PySem.W.Frag) (C_InvalidValley : Addr) : TS :=
  (tSeq (tDrop (tBaseI K C_InvalidValley "IndexError" "IndexError.__new__" "IndexError.__init__" bm_IndexError (tCons (tVar 0) (tCons (tC (.str "not the number of a valley")) tNil))))
    (tFst K C_InvalidValley "IndexError" "IndexError.__new__" "IndexError.__init__" bm_IndexError "value" (tVar 0) (tVar 1)))
def t_UnknownName___init__90 (K : PySem.W.Frag) (C_UnknownName : Addr) : TS :=
  (tSeq (tDrop (tBaseI K C_UnknownName "KeyError" "LookupError.__new__" "KeyError.__init__" bm_KeyError (tCons (tVar 0) (tCons (tC (.str "unknown name")) tNil))))
    (tFst K C_UnknownName "KeyError" "LookupError.__new__" "KeyError.__init__" bm_KeyError "name" (tVar 0) (tVar 1)))
def t_LimitExceeded___init__90 (K : PySem.W.Frag) (C_LimitExceeded : Addr) : TS :=
  (tSeq (tDrop (tBaseI K C_LimitExceeded "OverflowError" "OverflowError.__new__" "OverflowError.__init__" bm_OverflowError (tCons (tVar 0) (tCons (tC (.str "limit exceeded")) tNil))))
    (tFst K C_LimitExceeded "OverflowError" "OverflowError.__new__" "OverflowError.__init__" bm_OverflowError "limit" (tVar 0) (tVar 1)))
def t_NothingToUndo___init__90 (K : PySem.W.Frag) (C_NothingToUndo : Addr) : TS :=
  (tSeq (tDrop (tBaseI K C_NothingToUndo "RuntimeError" "RuntimeError.__new__" "RuntimeError.__init__" bm_RuntimeError (tCons (tVar 0) (tCons (tC (.str "not so many operations")) tNil))))
    (tFst K C_NothingToUndo "RuntimeError" "RuntimeError.__new__" "RuntimeError.__init__" bm_RuntimeError "count" (tVar 0) (tVar 1)))
def t__law_errors90 (K : PySem.W.Frag) (C_InvalidNumber : Addr) (C_InvalidProfile : Addr) (C_InvalidWidths : Addr) (C_InvalidWeights : Addr) (C_InvalidObservations : Addr) (C_InvalidOperations : Addr) (C_ParseError : Addr) (C_InvalidCommand : Addr) (C_InvalidCascade : Addr) (C_ScriptError : Addr) (C_InvalidColumn : Addr) (C_InvalidValley : Addr) (C_UnknownName : Addr) (C_LimitExceeded : Addr) (C_NothingToUndo : Addr) (C_RainError : Addr) : TS :=
  (tSeq (tAsg (tLst (tCons (tLst (tCons (tMkx C_InvalidNumber (spExc K C_InvalidNumber "ValueError" "ValueError.__new__" "ValueError.__init__" bm_ValueError "value") (tCons (tVar 0) tNil)) (tCons (tC (.int 0)) tNil))) (tCons (tLst (tCons (tMkx C_InvalidProfile (spExc K C_InvalidProfile "ValueError" "ValueError.__new__" "ValueError.__init__" bm_ValueError "index") (tCons (tVar 0) tNil)) (tCons (tC (.int 1)) tNil))) (tCons (tLst (tCons (tMkx C_InvalidWidths (spExc K C_InvalidWidths "ValueError" "ValueError.__new__" "ValueError.__init__" bm_ValueError "index") (tCons (tVar 0) tNil)) (tCons (tC (.int 1)) tNil))) tNil)))) (gName 1))
    (tSeq (tAsg (tOp rCat (tVar 1) (tLst (tCons (tLst (tCons (tMkx C_InvalidWeights (spExc K C_InvalidWeights "ValueError" "ValueError.__new__" "ValueError.__init__" bm_ValueError "index") (tCons (tVar 0) tNil)) (tCons (tC (.int 1)) tNil))) tNil))) (gName 1))
    (tSeq (tAsg (tOp rCat (tVar 1) (tLst (tCons (tLst (tCons (tMkx C_InvalidObservations (spExc K C_InvalidObservations "ValueError" "ValueError.__new__" "ValueError.__init__" bm_ValueError "index") (tCons (tVar 0) tNil)) (tCons (tC (.int 1)) tNil))) (tCons (tLst (tCons (tMkx C_InvalidOperations (spExc K C_InvalidOperations "ValueError" "ValueError.__new__" "ValueError.__init__" bm_ValueError "index") (tCons (tVar 0) tNil)) (tCons (tC (.int 1)) tNil))) (tCons (tLst (tCons (tMkx C_ParseError (spExc K C_ParseError "ValueError" "ValueError.__new__" "ValueError.__init__" bm_ValueError "value") (tCons (tVar 0) tNil)) (tCons (tC (.int 0)) tNil))) tNil))))) (gName 1))
    (tSeq (tAsg (tOp rCat (tVar 1) (tLst (tCons (tLst (tCons (tMkx C_InvalidCommand (spExc K C_InvalidCommand "ValueError" "ValueError.__new__" "ValueError.__init__" bm_ValueError "value") (tCons (tVar 0) tNil)) (tCons (tC (.int 0)) tNil))) (tCons (tLst (tCons (tMkx C_InvalidCascade (spExc K C_InvalidCascade "ValueError" "ValueError.__new__" "ValueError.__init__" bm_ValueError "name") (tCons (tVar 0) tNil)) (tCons (tC (.int 2)) tNil))) (tCons (tLst (tCons (tMkx C_ScriptError (spExc K C_ScriptError "ValueError" "ValueError.__new__" "ValueError.__init__" bm_ValueError "line") (tCons (tVar 0) tNil)) (tCons (tC (.int 5)) tNil))) tNil))))) (gName 1))
    (tSeq (tAsg (tOp rCat (tVar 1) (tLst (tCons (tLst (tCons (tMkx C_InvalidColumn (spExc K C_InvalidColumn "IndexError" "IndexError.__new__" "IndexError.__init__" bm_IndexError "value") (tCons (tVar 0) tNil)) (tCons (tC (.int 0)) tNil))) (tCons (tLst (tCons (tMkx C_InvalidValley (spExc K C_InvalidValley "IndexError" "IndexError.__new__" "IndexError.__init__" bm_IndexError "value") (tCons (tVar 0) tNil)) (tCons (tC (.int 0)) tNil))) tNil)))) (gName 1))
    (tSeq (tAsg (tOp rCat (tVar 1) (tLst (tCons (tLst (tCons (tMkx C_UnknownName (spExc K C_UnknownName "KeyError" "LookupError.__new__" "KeyError.__init__" bm_KeyError "name") (tCons (tVar 0) tNil)) (tCons (tC (.int 2)) tNil))) tNil))) (gName 1))
    (tRet (tOp rCat (tVar 1) (tLst (tCons (tLst (tCons (tMkx C_LimitExceeded (spExc K C_LimitExceeded "OverflowError" "OverflowError.__new__" "OverflowError.__init__" bm_OverflowError "limit") (tCons (tVar 0) tNil)) (tCons (tC (.int 3)) tNil))) (tCons (tLst (tCons (tMkx C_NothingToUndo (spExc K C_NothingToUndo "RuntimeError" "RuntimeError.__new__" "RuntimeError.__init__" bm_RuntimeError "count") (tCons (tVar 0) tNil)) (tCons (tC (.int 4)) tNil))) tNil)))))))))))
def t__law_named90 (K : PySem.W.Frag) (C_InvalidNumber : Addr) (C_InvalidProfile : Addr) (C_InvalidWidths : Addr) (C_InvalidWeights : Addr) (C_InvalidObservations : Addr) (C_InvalidOperations : Addr) (C_ParseError : Addr) (C_InvalidCommand : Addr) (C_InvalidCascade : Addr) (C_ScriptError : Addr) (C_InvalidColumn : Addr) (C_InvalidValley : Addr) (C_UnknownName : Addr) (C_LimitExceeded : Addr) (C_NothingToUndo : Addr) (C_RainError : Addr) : TS :=
  (tSeq (tAsg (tLst (tCons (tMkxK C_InvalidNumber (spExc K C_InvalidNumber "ValueError" "ValueError.__new__" "ValueError.__init__" bm_ValueError "value") (tCons (tVar 0) tNil)) (tCons (tMkxK C_InvalidProfile (spExc K C_InvalidProfile "ValueError" "ValueError.__new__" "ValueError.__init__" bm_ValueError "index") (tCons (tVar 0) tNil)) tNil))) (gName 1))
    (tSeq (tAsg (tOp rCat (tVar 1) (tLst (tCons (tMkxK C_InvalidWidths (spExc K C_InvalidWidths "ValueError" "ValueError.__new__" "ValueError.__init__" bm_ValueError "index") (tCons (tVar 0) tNil)) (tCons (tMkxK C_InvalidWeights (spExc K C_InvalidWeights "ValueError" "ValueError.__new__" "ValueError.__init__" bm_ValueError "index") (tCons (tVar 0) tNil)) tNil)))) (gName 1))
    (tSeq (tAsg (tOp rCat (tVar 1) (tLst (tCons (tMkxK C_InvalidObservations (spExc K C_InvalidObservations "ValueError" "ValueError.__new__" "ValueError.__init__" bm_ValueError "index") (tCons (tVar 0) tNil)) (tCons (tMkxK C_InvalidOperations (spExc K C_InvalidOperations "ValueError" "ValueError.__new__" "ValueError.__init__" bm_ValueError "index") (tCons (tVar 0) tNil)) tNil)))) (gName 1))
    (tSeq (tAsg (tOp rCat (tVar 1) (tLst (tCons (tMkxK C_ParseError (spExc K C_ParseError "ValueError" "ValueError.__new__" "ValueError.__init__" bm_ValueError "value") (tCons (tVar 0) tNil)) tNil))) (gName 1))
    (tSeq (tAsg (tOp rCat (tVar 1) (tLst (tCons (tMkxK C_InvalidCommand (spExc K C_InvalidCommand "ValueError" "ValueError.__new__" "ValueError.__init__" bm_ValueError "value") (tCons (tVar 0) tNil)) (tCons (tMkxK C_InvalidCascade (spExc K C_InvalidCascade "ValueError" "ValueError.__new__" "ValueError.__init__" bm_ValueError "name") (tCons (tVar 0) tNil)) (tCons (tMkxK C_ScriptError (spExc K C_ScriptError "ValueError" "ValueError.__new__" "ValueError.__init__" bm_ValueError "line") (tCons (tVar 0) tNil)) tNil))))) (gName 1))
    (tSeq (tAsg (tOp rCat (tVar 1) (tLst (tCons (tMkxK C_InvalidColumn (spExc K C_InvalidColumn "IndexError" "IndexError.__new__" "IndexError.__init__" bm_IndexError "value") (tCons (tVar 0) tNil)) tNil))) (gName 1))
    (tSeq (tAsg (tOp rCat (tVar 1) (tLst (tCons (tMkxK C_InvalidValley (spExc K C_InvalidValley "IndexError" "IndexError.__new__" "IndexError.__init__" bm_IndexError "value") (tCons (tVar 0) tNil)) (tCons (tMkxK C_UnknownName (spExc K C_UnknownName "KeyError" "LookupError.__new__" "KeyError.__init__" bm_KeyError "name") (tCons (tVar 0) tNil)) tNil)))) (gName 1))
    (tRet (tOp rCat (tVar 1) (tLst (tCons (tMkxK C_LimitExceeded (spExc K C_LimitExceeded "OverflowError" "OverflowError.__new__" "OverflowError.__init__" bm_OverflowError "limit") (tCons (tVar 0) tNil)) (tCons (tMkxK C_NothingToUndo (spExc K C_NothingToUndo "RuntimeError" "RuntimeError.__new__" "RuntimeError.__init__" bm_RuntimeError "count") (tCons (tVar 0) tNil)) tNil))))))))))))
def t__law_field90 (K : PySem.W.Frag) : TS :=
  (tSeq (tIfS (tTest (tOp rEq (tVar 1) (tC (.int 0)))) (tRet (tXe K "value" (tVar 0))) tNext)
    (tSeq (tIfS (tTest (tOp rEq (tVar 1) (tC (.int 1)))) (tRet (tXe K "index" (tVar 0))) tNext)
    (tSeq (tIfS (tTest (tOp rEq (tVar 1) (tC (.int 2)))) (tRet (tXe K "name" (tVar 0))) tNext)
    (tSeq (tIfS (tTest (tOp rEq (tVar 1) (tC (.int 5)))) (tRet (tXe K "line" (tVar 0))) tNext)
    (tRet (tIf (tTest (tOp rEq (tVar 1) (tC (.int 3)))) (tXe K "limit" (tVar 0)) (tXe K "count" (tVar 0))))))))
def t__law_bases90 (K : PySem.W.Frag) (C_InvalidNumber : Addr) (C_InvalidProfile : Addr) (C_InvalidWidths : Addr) (C_InvalidWeights : Addr) (C_InvalidObservations : Addr) (C_InvalidOperations : Addr) (C_ParseError : Addr) (C_InvalidCommand : Addr) (C_InvalidCascade : Addr) (C_ScriptError : Addr) (C_InvalidColumn : Addr) (C_InvalidValley : Addr) (C_UnknownName : Addr) (C_LimitExceeded : Addr) (C_NothingToUndo : Addr) (C_RainError : Addr) : TS :=
  (tSeq (tAsg (tLst (tCons (tCB (rIsX K) (tCons (tVar 0) (tCons (tC (.ref C_RainError)) tNil))) (tCons (tCB (rIsX K) (tCons (tVar 0) (tCons (tC (.ty "ValueError")) tNil))) (tCons (tCB (rIsX K) (tCons (tVar 0) (tCons (tC (.ty "IndexError")) tNil))) tNil)))) (gName 1))
    (tSeq (tAsg (tOp rCat (tVar 1) (tLst (tCons (tCB (rIsX K) (tCons (tVar 0) (tCons (tC (.ty "KeyError")) tNil))) (tCons (tCB (rIsX K) (tCons (tVar 0) (tCons (tC (.ty "OverflowError")) tNil))) tNil)))) (gName 1))
    (tSeq (tAsg (tOp rCat (tVar 1) (tLst (tCons (tCB (rIsX K) (tCons (tVar 0) (tCons (tC (.ty "RuntimeError")) tNil))) tNil))) (gName 1))
    (tRet (tOp rCat (tVar 1) (tLst (tCons (tCB (rIsX K) (tCons (tVar 0) (tCons (tC (.ty "LookupError")) tNil))) (tCons (tCB (rIsX K) (tCons (tVar 0) (tCons (tC (.ty "TypeError")) tNil))) tNil))))))))
def t__law_classes90 (K : PySem.W.Frag) (C_InvalidNumber : Addr) (C_InvalidProfile : Addr) (C_InvalidWidths : Addr) (C_InvalidWeights : Addr) (C_InvalidObservations : Addr) (C_InvalidOperations : Addr) (C_ParseError : Addr) (C_InvalidCommand : Addr) (C_InvalidCascade : Addr) (C_ScriptError : Addr) (C_InvalidColumn : Addr) (C_InvalidValley : Addr) (C_UnknownName : Addr) (C_LimitExceeded : Addr) (C_NothingToUndo : Addr) (C_RainError : Addr) : TS :=
  (tSeq (tAsg (tLst (tCons (tCB (rIsX K) (tCons (tVar 0) (tCons (tC (.ref C_InvalidNumber)) tNil))) (tCons (tCB (rIsX K) (tCons (tVar 0) (tCons (tC (.ref C_InvalidProfile)) tNil))) tNil))) (gName 1))
    (tSeq (tAsg (tOp rCat (tVar 1) (tLst (tCons (tCB (rIsX K) (tCons (tVar 0) (tCons (tC (.ref C_InvalidWidths)) tNil))) tNil))) (gName 1))
    (tSeq (tAsg (tOp rCat (tVar 1) (tLst (tCons (tCB (rIsX K) (tCons (tVar 0) (tCons (tC (.ref C_InvalidWeights)) tNil))) (tCons (tCB (rIsX K) (tCons (tVar 0) (tCons (tC (.ref C_InvalidObservations)) tNil))) tNil)))) (gName 1))
    (tSeq (tAsg (tOp rCat (tVar 1) (tLst (tCons (tCB (rIsX K) (tCons (tVar 0) (tCons (tC (.ref C_InvalidOperations)) tNil))) (tCons (tCB (rIsX K) (tCons (tVar 0) (tCons (tC (.ref C_ParseError)) tNil))) tNil)))) (gName 1))
    (tSeq (tAsg (tOp rCat (tVar 1) (tLst (tCons (tCB (rIsX K) (tCons (tVar 0) (tCons (tC (.ref C_InvalidCommand)) tNil))) (tCons (tCB (rIsX K) (tCons (tVar 0) (tCons (tC (.ref C_InvalidCascade)) tNil))) tNil)))) (gName 1))
    (tSeq (tAsg (tOp rCat (tVar 1) (tLst (tCons (tCB (rIsX K) (tCons (tVar 0) (tCons (tC (.ref C_ScriptError)) tNil))) (tCons (tCB (rIsX K) (tCons (tVar 0) (tCons (tC (.ref C_InvalidColumn)) tNil))) tNil)))) (gName 1))
    (tSeq (tAsg (tOp rCat (tVar 1) (tLst (tCons (tCB (rIsX K) (tCons (tVar 0) (tCons (tC (.ref C_InvalidValley)) tNil))) (tCons (tCB (rIsX K) (tCons (tVar 0) (tCons (tC (.ref C_UnknownName)) tNil))) tNil)))) (gName 1))
    (tRet (tOp rCat (tVar 1) (tLst (tCons (tCB (rIsX K) (tCons (tVar 0) (tCons (tC (.ref C_LimitExceeded)) tNil))) (tCons (tCB (rIsX K) (tCons (tVar 0) (tCons (tC (.ref C_NothingToUndo)) tNil))) tNil))))))))))))
def t_place90 (K : PySem.W.Frag) (C_InvalidNumber : Addr) (C_InvalidProfile : Addr) (C_InvalidWidths : Addr) (C_InvalidWeights : Addr) (C_InvalidObservations : Addr) (C_InvalidOperations : Addr) (C_ParseError : Addr) (C_InvalidCommand : Addr) (C_InvalidCascade : Addr) (C_ScriptError : Addr) (C_InvalidColumn : Addr) (C_InvalidValley : Addr) (C_UnknownName : Addr) (C_LimitExceeded : Addr) (C_NothingToUndo : Addr) (C_RainError : Addr) : TS :=
  (tSeq (tAsg (tOp (rIxL K) (tVar 5) (tVar 7)) (gLst K 2 (gCons (gName 8) (gCons (gName 9) gNil))))
    (tSeq (tIfS (tTest (tOp rNe (tCB (cReprP K) (tCons (tCall (spField90 K) [] E0 (tCons (tVar 8) (tCons (tVar 9) tNil))) tNil)) (tCB (cReprP K) (tCons (tVar 4) tNil)))) (tRet (tC (.bl false))) tNext)
    (tSeq (tIfS (tTest (tOp rNe (tCB (cReprP K) (tCons (tCall (spField90 K) [] E0 (tCons (tOp (rIxL K) (tVar 6) (tVar 7)) (tCons (tVar 9) tNil))) tNil)) (tCB (cReprP K) (tCons (tVar 4) tNil)))) (tRet (tC (.bl false))) tNext)
    (tSeq (tAsg (tLc (iRng1 (tCons (tC (.int 8)) tNil)) (gName 12) tYes (tOp (rInD K) (tVar 12) (tOp (rIxL K) (tVar 1) (tVar 7))) [12]) (gName 10))
    (tSeq (tIfS (tOr (tTest (tOp (rNeD K) (tCall (spBases90 K [C_InvalidNumber, C_InvalidProfile, C_InvalidWidths, C_InvalidWeights, C_InvalidObservations, C_InvalidOperations, C_ParseError, C_InvalidCommand, C_InvalidCascade, C_ScriptError, C_InvalidColumn, C_InvalidValley, C_UnknownName, C_LimitExceeded, C_NothingToUndo] C_RainError) [] E0 (tCons (tVar 8) tNil)) (tVar 10))) (tTest (tOp (rNeD K) (tCall (spBases90 K [C_InvalidNumber, C_InvalidProfile, C_InvalidWidths, C_InvalidWeights, C_InvalidObservations, C_InvalidOperations, C_ParseError, C_InvalidCommand, C_InvalidCascade, C_ScriptError, C_InvalidColumn, C_InvalidValley, C_UnknownName, C_LimitExceeded, C_NothingToUndo] C_RainError) [] E0 (tCons (tOp (rIxL K) (tVar 6) (tVar 7)) tNil)) (tVar 10)))) (tRet (tC (.bl false))) tNext)
    (tIfS (tTest (tOp (rNeD K) (tCall (spClasses90 K [C_InvalidNumber, C_InvalidProfile, C_InvalidWidths, C_InvalidWeights, C_InvalidObservations, C_InvalidOperations, C_ParseError, C_InvalidCommand, C_InvalidCascade, C_ScriptError, C_InvalidColumn, C_InvalidValley, C_UnknownName, C_LimitExceeded, C_NothingToUndo] C_RainError) [] E0 (tCons (tVar 8) tNil)) (tLc (iRng1 (tCons (tC (.int 15)) tNil)) (gName 12) tYes (tOp rEq (tVar 12) (tVar 7)) [12]))) (tRet (tC (.bl false))) tNext))))))
def t_law90 (K : PySem.W.Frag) (C_InvalidNumber : Addr) (C_InvalidProfile : Addr) (C_InvalidWidths : Addr) (C_InvalidWeights : Addr) (C_InvalidObservations : Addr) (C_InvalidOperations : Addr) (C_ParseError : Addr) (C_InvalidCommand : Addr) (C_InvalidCascade : Addr) (C_ScriptError : Addr) (C_InvalidColumn : Addr) (C_InvalidValley : Addr) (C_UnknownName : Addr) (C_LimitExceeded : Addr) (C_NothingToUndo : Addr) (C_RainError : Addr) : TS :=
  (tSeq (tAsg (tOp rCat (tOp rRep (tLst (tCons (tLst (tCons (tC (.int 0)) (tCons (tC (.int 1)) tNil))) tNil)) (tC (.int 10))) (tLst (tCons (tLst (tCons (tC (.int 2)) (tCons (tC (.int 6)) tNil))) (tCons (tLst (tCons (tC (.int 2)) (tCons (tC (.int 6)) tNil))) (tCons (tLst (tCons (tC (.int 3)) (tCons (tC (.int 6)) tNil))) (tCons (tLst (tCons (tC (.int 4)) tNil)) (tCons (tLst (tCons (tC (.int 5)) tNil)) tNil))))))) (gName 1))
    (tSeq (tFor (iRng1 (tCons (tCB cMax2 (tCons (tC (.int 1)) (tCons (tCB cMin2 (tCons (tC (.int 10)) (tCons (tCB (cLen K) (tCons (tVar 0) tNil)) tNil))) tNil))) tNil)) (gName 2) (tSeq (tAsg (tCall (RvM.spPool K) [] E0 (tCons (tVar 0) (tCons (tVar 2) tNil))) (gName 3))
    (tFor (iList K (tLst (tCons (tOp (rIxL K) (tLst (tCons (tC .non) (tCons (tC (.bl true)) (tCons (tUn (rU fun i => .int (-i)) (tC (.int 1))) (tCons (tC (.int 0)) (tCons (tC (.str "aB")) (tCons (tC (.str "")) (tCons (tTup (tCons (tC (.int 1)) (tCons (tC (.int 2)) tNil))) (tCons (tLst (tCons (tC (.int 3)) tNil)) (tCons tDNewK (tCons (tOp oPow (tC (.int 10)) (tC (.int 20))) tNil))))))))))) (tCall (RvM.spTake K) [] E0 (tCons (tVar 3) (tCons (tC (.int 10)) tNil)))) (tCons (tC .non) tNil)))) (gName 4) (tSeq (tPar 5 6 (tCons (tCall (spErrs90 K [C_InvalidNumber, C_InvalidProfile, C_InvalidWidths, C_InvalidWeights, C_InvalidObservations, C_InvalidOperations, C_ParseError, C_InvalidCommand, C_InvalidCascade, C_ScriptError, C_InvalidColumn, C_InvalidValley, C_UnknownName, C_LimitExceeded, C_NothingToUndo] C_RainError) [] E0 (tCons (tVar 4) tNil)) (tCons (tCall (spNamed90 K [C_InvalidNumber, C_InvalidProfile, C_InvalidWidths, C_InvalidWeights, C_InvalidObservations, C_InvalidOperations, C_ParseError, C_InvalidCommand, C_InvalidCascade, C_ScriptError, C_InvalidColumn, C_InvalidValley, C_UnknownName, C_LimitExceeded, C_NothingToUndo] C_RainError) [] E0 (tCons (tVar 4) tNil)) tNil)))
    (tFor (iRng1 (tCons (tC (.int 15)) tNil)) (gName 7) (t_place90 K C_InvalidNumber C_InvalidProfile C_InvalidWidths C_InvalidWeights C_InvalidObservations C_InvalidOperations C_ParseError C_InvalidCommand C_InvalidCascade C_ScriptError C_InvalidColumn C_InvalidValley C_UnknownName C_LimitExceeded C_NothingToUndo C_RainError))))))
    (tSeq (tAsg (tLst (tCons (tC (.int 3)) tNil)) (gName 11))
    (tSeq (tAsg (tMkx C_InvalidNumber (spExc K C_InvalidNumber "ValueError" "ValueError.__new__" "ValueError.__init__" bm_ValueError "value") (tCons (tVar 11) tNil)) (gName 8))
    (tSeq (tDrop (tBM K "list" rAppend (tVar 11) (tCons (tC (.int 4)) tNil)))
    (tRet (tOp (rEqD K) (tXe K "value" (tVar 8)) (tLst (tCons (tC (.int 3)) (tCons (tC (.int 4)) tNil))))))))))
local macro_rules | `(tactic| walk_at "rv st") => `(tactic| first
  | with_reducible refine iteT ?_ | with_reducible refine iteF ?_ | with_reducible refine w_nx ?_ | with_reducible refine w_yes ?_ | with_reducible refine w_rt ?_ | with_reducible refine iteNT ?_ | with_reducible refine iteNF ?_ | with_reducible refine iteNRf ?_ | with_reducible refine iteRf ?_ | with_reducible refine w_seqA ?_ | with_reducible refine w_seqD ?_ | with_reducible refine w_seqP ?_ | with_reducible refine w_asg ?_ | with_reducible refine w_ret ?_ | with_reducible refine w_drop ?_ | with_reducible refine w_ifs ?_ | with_reducible refine w_next ?_ | with_reducible refine w_par ?_
  | with_reducible refine w_op ?_ | with_reducible refine w_un ?_ | ((with_reducible show tVar _ _ _ _); refine' w_var ?hv ?_; (case hv => exact rfl)) | with_reducible refine w_c ?_ | with_reducible refine w_test ?_ | with_reducible refine w_tB ?_
  | with_reducible refine w_bl ?_ | with_reducible refine w_I0 ?_ | with_reducible refine w_U ?_ | with_reducible refine w_eqI ?_ | with_reducible refine w_neI ?_
  | with_reducible refine w_cons ?_ | with_reducible refine w_nil ?_ | with_reducible refine w_gn ?_ | with_reducible refine w_gsub ?_ | with_reducible refine w_and ?_ | with_reducible refine w_or ?_ | with_reducible refine w_not ?_
  | with_reducible refine w_andV ?_ | with_reducible refine w_orV ?_ | with_reducible refine w_notV ?_ | with_reducible refine w_if ?_ | with_reducible refine w_cb ?_ | with_reducible refine w_call ?_ | with_reducible refine w_lst ?_ | with_reducible refine w_tup ?_
  | with_reducible refine w_sl ?_ | with_reducible refine w_noPart ?_ | with_reducible refine w_part ?_ | with_reducible refine w_ex1 ?_ | with_reducible refine w_exb ?_ | with_reducible refine w_intB ?_ | with_reducible refine w_intI ?_ | with_reducible refine w_abs ?_)
local macro_rules | `(tactic| walk_at "rv ix") => `(tactic| ((with_reducible show rIxL _ _ _ _ _); refine' w_ixL (sq_lst ?ha) ?hb ?_; (case ha => first | exact upd_same | assumption); (case hb => first | exact rfl | assumption)))
local macro_rules | `(tactic| walk_at "rv ar") => `(tactic| first
  | (refine' w_I ?hc ?_; (case hc => first | (show (0 : Int) < _; first | assumption | decide | omega) | exact pow_c (by decide) (by decide) (by first | decide | omega) (by first | decide | omega) | exact mul_r (by first | decide | omega) (by first | decide | omega) | exact mul_l (by first | decide | omega) (by first | decide | omega) | exact divw (by first | assumption | decide | omega) (by first | assumption | decide | omega))))
local macro_rules | `(tactic| walk_at "rv go") => `(tactic| repeat first | walk_at "rv st" | walk_at "rv ix" | ((with_reducible show rI _ _ _ _ _ _); walk_at "rv ar"))
theorem p_ini_InvalidNumber {K : PySem.W.Frag} {C : Addr} {vs : List V} {H : Hp} {Q : VK} {E : XK} (h : spExc K C "ValueError" "ValueError.__new__" "ValueError.__init__" bm_ValueError "value" vs H Q E) : t_InvalidNumber___init__90 K C { nx := fun _ H' => Q .non H', rt := Q } (start ["self", "value"] vs) H := p_exc "not a valid number here" h fun _ _ => rfl
theorem p_ini_InvalidProfile {K : PySem.W.Frag} {C : Addr} {vs : List V} {H : Hp} {Q : VK} {E : XK} (h : spExc K C "ValueError" "ValueError.__new__" "ValueError.__init__" bm_ValueError "index" vs H Q E) : t_InvalidProfile___init__90 K C { nx := fun _ H' => Q .non H', rt := Q } (start ["self", "index"] vs) H := p_exc "not valid heights of a profile" h fun _ _ => rfl
theorem p_ini_InvalidWidths {K : PySem.W.Frag} {C : Addr} {vs : List V} {H : Hp} {Q : VK} {E : XK} (h : spExc K C "ValueError" "ValueError.__new__" "ValueError.__init__" bm_ValueError "index" vs H Q E) : t_InvalidWidths___init__90 K C { nx := fun _ H' => Q .non H', rt := Q } (start ["self", "index"] vs) H := p_exc "not valid widths of a profile" h fun _ _ => rfl
theorem p_ini_InvalidWeights {K : PySem.W.Frag} {C : Addr} {vs : List V} {H : Hp} {Q : VK} {E : XK} (h : spExc K C "ValueError" "ValueError.__new__" "ValueError.__init__" bm_ValueError "index" vs H Q E) : t_InvalidWeights___init__90 K C { nx := fun _ H' => Q .non H', rt := Q } (start ["self", "index"] vs) H := p_exc "not valid weights of rain" h fun _ _ => rfl
theorem p_ini_InvalidObservations {K : PySem.W.Frag} {C : Addr} {vs : List V} {H : Hp} {Q : VK} {E : XK} (h : spExc K C "ValueError" "ValueError.__new__" "ValueError.__init__" bm_ValueError "index" vs H Q E) : t_InvalidObservations___init__90 K C { nx := fun _ H' => Q .non H', rt := Q } (start ["self", "index"] vs) H := p_exc "not valid observations" h fun _ _ => rfl
theorem p_ini_InvalidOperations {K : PySem.W.Frag} {C : Addr} {vs : List V} {H : Hp} {Q : VK} {E : XK} (h : spExc K C "ValueError" "ValueError.__new__" "ValueError.__init__" bm_ValueError "index" vs H Q E) : t_InvalidOperations___init__90 K C { nx := fun _ H' => Q .non H', rt := Q } (start ["self", "index"] vs) H := p_exc "not valid operations" h fun _ _ => rfl
theorem p_ini_ParseError {K : PySem.W.Frag} {C : Addr} {vs : List V} {H : Hp} {Q : VK} {E : XK} (h : spExc K C "ValueError" "ValueError.__new__" "ValueError.__init__" bm_ValueError "value" vs H Q E) : t_ParseError___init__90 K C { nx := fun _ H' => Q .non H', rt := Q } (start ["self", "value"] vs) H := p_exc "not a text that can be read here" h fun _ _ => rfl
theorem p_ini_InvalidCommand {K : PySem.W.Frag} {C : Addr} {vs : List V} {H : Hp} {Q : VK} {E : XK} (h : spExc K C "ValueError" "ValueError.__new__" "ValueError.__init__" bm_ValueError "value" vs H Q E) : t_InvalidCommand___init__90 K C { nx := fun _ H' => Q .non H', rt := Q } (start ["self", "value"] vs) H := p_exc "not a command" h fun _ _ => rfl
theorem p_ini_InvalidCascade {K : PySem.W.Frag} {C : Addr} {vs : List V} {H : Hp} {Q : VK} {E : XK} (h : spExc K C "ValueError" "ValueError.__new__" "ValueError.__init__" bm_ValueError "name" vs H Q E) : t_InvalidCascade___init__90 K C { nx := fun _ H' => Q .non H', rt := Q } (start ["self", "name"] vs) H := p_exc "not a valid cascade" h fun _ _ => rfl
theorem p_ini_ScriptError {K : PySem.W.Frag} {C : Addr} {vs : List V} {H : Hp} {Q : VK} {E : XK} (h : spExc K C "ValueError" "ValueError.__new__" "ValueError.__init__" bm_ValueError "line" vs H Q E) : t_ScriptError___init__90 K C { nx := fun _ H' => Q .non H', rt := Q } (start ["self", "line"] vs) H := p_exc "not a valid script" h fun _ _ => rfl
theorem p_ini_InvalidColumn {K : PySem.W.Frag} {C : Addr} {vs : List V} {H : Hp} {Q : VK} {E : XK} (h : spExc K C "IndexError" "IndexError.__new__" "IndexError.__init__" bm_IndexError "value" vs H Q E) : t_InvalidColumn___init__90 K C { nx := fun _ H' => Q .non H', rt := Q } (start ["self", "value"] vs) H := p_exc "not a column" h fun _ _ => rfl
theorem p_ini_InvalidValley {K : PySem.W.Frag} {C : Addr} {vs : List V} {H : Hp} {Q : VK} {E : XK} (h : spExc K C "IndexError" "IndexError.__new__" "IndexError.__init__" bm_IndexError "value" vs H Q E) : t_InvalidValley___init__90 K C { nx := fun _ H' => Q .non H', rt := Q } (start ["self", "value"] vs) H := p_exc "not the number of a valley" h fun _ _ => rfl
theorem p_ini_UnknownName {K : PySem.W.Frag} {C : Addr} {vs : List V} {H : Hp} {Q : VK} {E : XK} (h : spExc K C "KeyError" "LookupError.__new__" "KeyError.__init__" bm_KeyError "name" vs H Q E) : t_UnknownName___init__90 K C { nx := fun _ H' => Q .non H', rt := Q } (start ["self", "name"] vs) H := p_exc "unknown name" h fun _ _ => rfl
theorem p_ini_LimitExceeded {K : PySem.W.Frag} {C : Addr} {vs : List V} {H : Hp} {Q : VK} {E : XK} (h : spExc K C "OverflowError" "OverflowError.__new__" "OverflowError.__init__" bm_OverflowError "limit" vs H Q E) : t_LimitExceeded___init__90 K C { nx := fun _ H' => Q .non H', rt := Q } (start ["self", "limit"] vs) H := p_exc "limit exceeded" h fun _ _ => rfl
theorem p_ini_NothingToUndo {K : PySem.W.Frag} {C : Addr} {vs : List V} {H : Hp} {Q : VK} {E : XK} (h : spExc K C "RuntimeError" "RuntimeError.__new__" "RuntimeError.__init__" bm_RuntimeError "count" vs H Q E) : t_NothingToUndo___init__90 K C { nx := fun _ H' => Q .non H', rt := Q } (start ["self", "count"] vs) H := p_exc "not so many operations" h fun _ _ => rfl
theorem p_errs90 {K : PySem.W.Frag} {c0 : Addr} {c1 : Addr} {c2 : Addr} {c3 : Addr} {c4 : Addr} {c5 : Addr} {c6 : Addr} {c7 : Addr} {c8 : Addr} {c9 : Addr} {c10 : Addr} {c11 : Addr} {c12 : Addr} {c13 : Addr} {c14 : Addr} {cE : Addr} {vs : List V} {H : Hp} {Q : VK} {E : XK} (h : spErrs90 K [c0, c1, c2, c3, c4, c5, c6, c7, c8, c9, c10, c11, c12, c13, c14] cE vs H Q E) : t__law_errors90 K c0 c1 c2 c3 c4 c5 c6 c7 c8 c9 c10 c11 c12 c13 c14 cE { nx := fun _ H' => Q .non H', rt := Q } (start ["_law_one", "_law_found"] vs) H := by
  obtain ⟨v, rfl, X, k⟩ := h
  unfold t__law_errors90
  refine seq_ev (P := LstX (PairX [c0, c1, c2, c3, c4, c5, c6, c7, c8, c9, c10, c11, c12, c13, c14] v) [0, 1, 2]) (evt_lst mono_pair (by decide) (eva_cons mono_pair (a := 0) (evt_pair (evt_mkx X.x0 rfl)) (eva_cons mono_pair (a := 1) (evt_pair (evt_mkx X.x1 rfl)) (eva_cons mono_pair (a := 2) (evt_pair (evt_mkx X.x2 rfl)) eva_nil)))) fun x0 H0 e0 p0 => ?_
  have e := e0
  refine seq_ev (P := LstX (PairX [c0, c1, c2, c3, c4, c5, c6, c7, c8, c9, c10, c11, c12, c13, c14] v) [0, 1, 2, 3]) (evt_cat mono_pair (as := [0, 1, 2]) (bs := [3]) (by decide) (evt_var rfl fun _ e => p0.same mono_pair e) (evt_lst mono_pair (by decide) (eva_cons mono_pair (a := 3) (evt_pair (evt_mkx X.x3 rfl)) eva_nil))) fun x1 H1 e1 p1 => ?_
  have e := e.trans e1
  refine seq_ev (P := LstX (PairX [c0, c1, c2, c3, c4, c5, c6, c7, c8, c9, c10, c11, c12, c13, c14] v) [0, 1, 2, 3, 4, 5, 6]) (evt_cat mono_pair (as := [0, 1, 2, 3]) (bs := [4, 5, 6]) (by decide) (evt_var rfl fun _ e => p1.same mono_pair e) (evt_lst mono_pair (by decide) (eva_cons mono_pair (a := 4) (evt_pair (evt_mkx X.x4 rfl)) (eva_cons mono_pair (a := 5) (evt_pair (evt_mkx X.x5 rfl)) (eva_cons mono_pair (a := 6) (evt_pair (evt_mkx X.x6 rfl)) eva_nil))))) fun x2 H2 e2 p2 => ?_
  have e := e.trans e2
  refine seq_ev (P := LstX (PairX [c0, c1, c2, c3, c4, c5, c6, c7, c8, c9, c10, c11, c12, c13, c14] v) [0, 1, 2, 3, 4, 5, 6, 7, 8, 9]) (evt_cat mono_pair (as := [0, 1, 2, 3, 4, 5, 6]) (bs := [7, 8, 9]) (by decide) (evt_var rfl fun _ e => p2.same mono_pair e) (evt_lst mono_pair (by decide) (eva_cons mono_pair (a := 7) (evt_pair (evt_mkx X.x7 rfl)) (eva_cons mono_pair (a := 8) (evt_pair (evt_mkx X.x8 rfl)) (eva_cons mono_pair (a := 9) (evt_pair (evt_mkx X.x9 rfl)) eva_nil))))) fun x3 H3 e3 p3 => ?_
  have e := e.trans e3
  refine seq_ev (P := LstX (PairX [c0, c1, c2, c3, c4, c5, c6, c7, c8, c9, c10, c11, c12, c13, c14] v) [0, 1, 2, 3, 4, 5, 6, 7, 8, 9, 10, 11]) (evt_cat mono_pair (as := [0, 1, 2, 3, 4, 5, 6, 7, 8, 9]) (bs := [10, 11]) (by decide) (evt_var rfl fun _ e => p3.same mono_pair e) (evt_lst mono_pair (by decide) (eva_cons mono_pair (a := 10) (evt_pair (evt_mkx X.x10 rfl)) (eva_cons mono_pair (a := 11) (evt_pair (evt_mkx X.x11 rfl)) eva_nil)))) fun x4 H4 e4 p4 => ?_
  have e := e.trans e4
  refine seq_ev (P := LstX (PairX [c0, c1, c2, c3, c4, c5, c6, c7, c8, c9, c10, c11, c12, c13, c14] v) [0, 1, 2, 3, 4, 5, 6, 7, 8, 9, 10, 11, 12]) (evt_cat mono_pair (as := [0, 1, 2, 3, 4, 5, 6, 7, 8, 9, 10, 11]) (bs := [12]) (by decide) (evt_var rfl fun _ e => p4.same mono_pair e) (evt_lst mono_pair (by decide) (eva_cons mono_pair (a := 12) (evt_pair (evt_mkx X.x12 rfl)) eva_nil))) fun x5 H5 e5 p5 => ?_
  have e := e.trans e5
  refine ret_ev (P := LstX (PairX [c0, c1, c2, c3, c4, c5, c6, c7, c8, c9, c10, c11, c12, c13, c14] v) [0, 1, 2, 3, 4, 5, 6, 7, 8, 9, 10, 11, 12, 13, 14]) (evt_cat mono_pair (as := [0, 1, 2, 3, 4, 5, 6, 7, 8, 9, 10, 11, 12]) (bs := [13, 14]) (by decide) (evt_var rfl fun _ e => p5.same mono_pair e) (evt_lst mono_pair (by decide) (eva_cons mono_pair (a := 13) (evt_pair (evt_mkx X.x13 rfl)) (eva_cons mono_pair (a := 14) (evt_pair (evt_mkx X.x14 rfl)) eva_nil)))) fun x6 H6 e6 p6 => ?_
  exact k _ _ (e.trans e6) p6
theorem p_named90 {K : PySem.W.Frag} {c0 : Addr} {c1 : Addr} {c2 : Addr} {c3 : Addr} {c4 : Addr} {c5 : Addr} {c6 : Addr} {c7 : Addr} {c8 : Addr} {c9 : Addr} {c10 : Addr} {c11 : Addr} {c12 : Addr} {c13 : Addr} {c14 : Addr} {cE : Addr} {vs : List V} {H : Hp} {Q : VK} {E : XK} (h : spNamed90 K [c0, c1, c2, c3, c4, c5, c6, c7, c8, c9, c10, c11, c12, c13, c14] cE vs H Q E) : t__law_named90 K c0 c1 c2 c3 c4 c5 c6 c7 c8 c9 c10 c11 c12 c13 c14 cE { nx := fun _ H' => Q .non H', rt := Q } (start ["_law_one", "_law_found"] vs) H := by
  obtain ⟨v, rfl, X, k⟩ := h
  unfold t__law_named90
  refine seq_ev (P := LstX (NmX [c0, c1, c2, c3, c4, c5, c6, c7, c8, c9, c10, c11, c12, c13, c14] v) [0, 1]) (evt_lst mono_nm (by decide) (eva_cons mono_nm (a := 0) (evt_mkxk X.x0 rfl) (eva_cons mono_nm (a := 1) (evt_mkxk X.x1 rfl) eva_nil))) fun x0 H0 e0 p0 => ?_
  have e := e0
  refine seq_ev (P := LstX (NmX [c0, c1, c2, c3, c4, c5, c6, c7, c8, c9, c10, c11, c12, c13, c14] v) [0, 1, 2, 3]) (evt_cat mono_nm (as := [0, 1]) (bs := [2, 3]) (by decide) (evt_var rfl fun _ e => p0.same mono_nm e) (evt_lst mono_nm (by decide) (eva_cons mono_nm (a := 2) (evt_mkxk X.x2 rfl) (eva_cons mono_nm (a := 3) (evt_mkxk X.x3 rfl) eva_nil)))) fun x1 H1 e1 p1 => ?_
  have e := e.trans e1
  refine seq_ev (P := LstX (NmX [c0, c1, c2, c3, c4, c5, c6, c7, c8, c9, c10, c11, c12, c13, c14] v) [0, 1, 2, 3, 4, 5]) (evt_cat mono_nm (as := [0, 1, 2, 3]) (bs := [4, 5]) (by decide) (evt_var rfl fun _ e => p1.same mono_nm e) (evt_lst mono_nm (by decide) (eva_cons mono_nm (a := 4) (evt_mkxk X.x4 rfl) (eva_cons mono_nm (a := 5) (evt_mkxk X.x5 rfl) eva_nil)))) fun x2 H2 e2 p2 => ?_
  have e := e.trans e2
  refine seq_ev (P := LstX (NmX [c0, c1, c2, c3, c4, c5, c6, c7, c8, c9, c10, c11, c12, c13, c14] v) [0, 1, 2, 3, 4, 5, 6]) (evt_cat mono_nm (as := [0, 1, 2, 3, 4, 5]) (bs := [6]) (by decide) (evt_var rfl fun _ e => p2.same mono_nm e) (evt_lst mono_nm (by decide) (eva_cons mono_nm (a := 6) (evt_mkxk X.x6 rfl) eva_nil))) fun x3 H3 e3 p3 => ?_
  have e := e.trans e3
  refine seq_ev (P := LstX (NmX [c0, c1, c2, c3, c4, c5, c6, c7, c8, c9, c10, c11, c12, c13, c14] v) [0, 1, 2, 3, 4, 5, 6, 7, 8, 9]) (evt_cat mono_nm (as := [0, 1, 2, 3, 4, 5, 6]) (bs := [7, 8, 9]) (by decide) (evt_var rfl fun _ e => p3.same mono_nm e) (evt_lst mono_nm (by decide) (eva_cons mono_nm (a := 7) (evt_mkxk X.x7 rfl) (eva_cons mono_nm (a := 8) (evt_mkxk X.x8 rfl) (eva_cons mono_nm (a := 9) (evt_mkxk X.x9 rfl) eva_nil))))) fun x4 H4 e4 p4 => ?_
  have e := e.trans e4
  refine seq_ev (P := LstX (NmX [c0, c1, c2, c3, c4, c5, c6, c7, c8, c9, c10, c11, c12, c13, c14] v) [0, 1, 2, 3, 4, 5, 6, 7, 8, 9, 10]) (evt_cat mono_nm (as := [0, 1, 2, 3, 4, 5, 6, 7, 8, 9]) (bs := [10]) (by decide) (evt_var rfl fun _ e => p4.same mono_nm e) (evt_lst mono_nm (by decide) (eva_cons mono_nm (a := 10) (evt_mkxk X.x10 rfl) eva_nil))) fun x5 H5 e5 p5 => ?_
  have e := e.trans e5
  refine seq_ev (P := LstX (NmX [c0, c1, c2, c3, c4, c5, c6, c7, c8, c9, c10, c11, c12, c13, c14] v) [0, 1, 2, 3, 4, 5, 6, 7, 8, 9, 10, 11, 12]) (evt_cat mono_nm (as := [0, 1, 2, 3, 4, 5, 6, 7, 8, 9, 10]) (bs := [11, 12]) (by decide) (evt_var rfl fun _ e => p5.same mono_nm e) (evt_lst mono_nm (by decide) (eva_cons mono_nm (a := 11) (evt_mkxk X.x11 rfl) (eva_cons mono_nm (a := 12) (evt_mkxk X.x12 rfl) eva_nil)))) fun x6 H6 e6 p6 => ?_
  have e := e.trans e6
  refine ret_ev (P := LstX (NmX [c0, c1, c2, c3, c4, c5, c6, c7, c8, c9, c10, c11, c12, c13, c14] v) [0, 1, 2, 3, 4, 5, 6, 7, 8, 9, 10, 11, 12, 13, 14]) (evt_cat mono_nm (as := [0, 1, 2, 3, 4, 5, 6, 7, 8, 9, 10, 11, 12]) (bs := [13, 14]) (by decide) (evt_var rfl fun _ e => p6.same mono_nm e) (evt_lst mono_nm (by decide) (eva_cons mono_nm (a := 13) (evt_mkxk X.x13 rfl) (eva_cons mono_nm (a := 14) (evt_mkxk X.x14 rfl) eva_nil)))) fun x7 H7 e7 p7 => ?_
  exact k _ _ (e.trans e7) p7
theorem p_field90 {K : PySem.W.Frag} {vs : List V} {H : Hp} {Q : VK} {E : XK} (h : spField90 K vs H Q E) : t__law_field90 K { nx := fun _ H' => Q .non H', rt := Q } (start ["_law_error", "_law_way"] vs) H := by
  obtain ⟨e, C, v, w, rfl, T, no, hE, k⟩ := h
  unfold t__law_field90
  have fin : ∀ {f : Str}, fldW w = f → tXe K f (tVar 0) [some (.ref e), some (.int w)] H Q := fun {f} hf => ⟨_, rfl, e, C, v, rfl, T, hf ▸ no, hf ▸ hE, k⟩
  refine w_seq ?_
  walk_at "rv go"
  refine w_both (fun c1 => ?_) (fun c1 => ?_)
  · walk_at "rv go"
    exact fin (by unfold fldW; rw [if_pos c1])
  refine w_nx ?_
  refine w_seq ?_
  walk_at "rv go"
  refine w_both (fun c2 => ?_) (fun c2 => ?_)
  · walk_at "rv go"
    exact fin (by unfold fldW; rw [if_neg c1, if_pos c2])
  refine w_nx ?_
  refine w_seq ?_
  walk_at "rv go"
  refine w_both (fun c3 => ?_) (fun c3 => ?_)
  · walk_at "rv go"
    exact fin (by unfold fldW; rw [if_neg c1, if_neg c2, if_pos c3])
  refine w_nx ?_
  refine w_seq ?_
  walk_at "rv go"
  refine w_both (fun c4 => ?_) (fun c4 => ?_)
  · walk_at "rv go"
    exact fin (by unfold fldW; rw [if_neg c1, if_neg c2, if_neg c3, if_pos c4])
  refine w_nx ?_
  walk_at "rv go"
  refine w_both (fun c5 => ?_) (fun c5 => ?_)
  · exact fin (by unfold fldW; rw [if_neg c1, if_neg c2, if_neg c3, if_neg c4, if_pos c5])
  · exact fin (by unfold fldW; rw [if_neg c1, if_neg c2, if_neg c3, if_neg c4, if_neg c5])
theorem p_bases90 {K : PySem.W.Frag} {c0 : Addr} {c1 : Addr} {c2 : Addr} {c3 : Addr} {c4 : Addr} {c5 : Addr} {c6 : Addr} {c7 : Addr} {c8 : Addr} {c9 : Addr} {c10 : Addr} {c11 : Addr} {c12 : Addr} {c13 : Addr} {c14 : Addr} {cE : Addr} {vs : List V} {H : Hp} {Q : VK} {E : XK} (h : spBases90 K [c0, c1, c2, c3, c4, c5, c6, c7, c8, c9, c10, c11, c12, c13, c14] cE vs H Q E) : t__law_bases90 K c0 c1 c2 c3 c4 c5 c6 c7 c8 c9 c10 c11 c12 c13 c14 cE { nx := fun _ H' => Q .non H', rt := Q } (start ["_law_error", "_law_found"] vs) H := by
  obtain ⟨e, v, i, rfl, hi, X, hE, k⟩ := h
  obtain ⟨_, _, T⟩ := X.kx i hi
  obtain ⟨f, hf⟩ : ∃ f, f = (fun j : Nat => (dueN i).contains (j : Int)) := ⟨_, rfl⟩
  have G : ∀ j, j < 8 → PySem.W.kitOne K (.ref (cAt [c0, c1, c2, c3, c4, c5, c6, c7, c8, c9, c10, c11, c12, c13, c14] i)) (tyV cE j) = some (f j) := fun j hj => by rw [hf]; exact X.ty i hi j hj
  rw [← hf] at k
  clear hf
  unfold t__law_bases90
  refine seq_ev (P := LstX IsB [f 0, f 1, f 2]) (evt_lst mono_isB (by simp) (eva_cons (a := f 0) mono_isB (evt_is rfl hE T (fun _ r => r) (G 0 (by decide))) (eva_cons (a := f 1) mono_isB (evt_is rfl hE T (fun _ r => r) (G 1 (by decide))) (eva_cons (a := f 2) mono_isB (evt_is rfl hE T (fun _ r => r) (G 2 (by decide))) eva_nil)))) fun x0 H0 e0 p0 => ?_
  have s := e0
  refine seq_ev (P := LstX IsB [f 0, f 1, f 2, f 3, f 4]) (evt_cat mono_isB (as := [f 0, f 1, f 2]) (bs := [f 3, f 4]) (by simp) (evt_var rfl fun _ s2 => p0.same mono_isB s2) (evt_lst mono_isB (by simp) (eva_cons (a := f 3) mono_isB (evt_is rfl (hE.same s) T (fun _ r => r) (G 3 (by decide))) (eva_cons (a := f 4) mono_isB (evt_is rfl (hE.same s) T (fun _ r => r) (G 4 (by decide))) eva_nil)))) fun x1 H1 e1 p1 => ?_
  have s := s.trans e1
  refine seq_ev (P := LstX IsB [f 0, f 1, f 2, f 3, f 4, f 5]) (evt_cat mono_isB (as := [f 0, f 1, f 2, f 3, f 4]) (bs := [f 5]) (by simp) (evt_var rfl fun _ s2 => p1.same mono_isB s2) (evt_lst mono_isB (by simp) (eva_cons (a := f 5) mono_isB (evt_is rfl (hE.same s) T (fun _ r => r) (G 5 (by decide))) eva_nil))) fun x2 H2 e2 p2 => ?_
  have s := s.trans e2
  refine ret_ev (P := LstX IsB [f 0, f 1, f 2, f 3, f 4, f 5, f 6, f 7]) (evt_cat mono_isB (as := [f 0, f 1, f 2, f 3, f 4, f 5]) (bs := [f 6, f 7]) (by simp) (evt_var rfl fun _ s2 => p2.same mono_isB s2) (evt_lst mono_isB (by simp) (eva_cons (a := f 6) mono_isB (evt_is rfl (hE.same s) T (fun _ r => r) (G 6 (by decide))) (eva_cons (a := f 7) mono_isB (evt_is rfl (hE.same s) T (fun _ r => r) (G 7 (by decide))) eva_nil)))) fun x3 H3 e3 p3 => ?_
  obtain ⟨p, xs, rfl, hp, hl⟩ := p3
  rw [isB_all hl] at hp
  exact k p _ (s.trans e3) hp
theorem p_classes90 {K : PySem.W.Frag} {c0 : Addr} {c1 : Addr} {c2 : Addr} {c3 : Addr} {c4 : Addr} {c5 : Addr} {c6 : Addr} {c7 : Addr} {c8 : Addr} {c9 : Addr} {c10 : Addr} {c11 : Addr} {c12 : Addr} {c13 : Addr} {c14 : Addr} {cE : Addr} {vs : List V} {H : Hp} {Q : VK} {E : XK} (h : spClasses90 K [c0, c1, c2, c3, c4, c5, c6, c7, c8, c9, c10, c11, c12, c13, c14] cE vs H Q E) : t__law_classes90 K c0 c1 c2 c3 c4 c5 c6 c7 c8 c9 c10 c11 c12 c13 c14 cE { nx := fun _ H' => Q .non H', rt := Q } (start ["_law_error", "_law_found"] vs) H := by
  obtain ⟨e, v, i, rfl, hi, X, hE, k⟩ := h
  obtain ⟨_, _, T⟩ := X.kx i hi
  obtain ⟨f, hf⟩ : ∃ f, f = (fun j : Nat => decide (j = i)) := ⟨_, rfl⟩
  have G : ∀ j, j < 15 → PySem.W.kitOne K (.ref (cAt [c0, c1, c2, c3, c4, c5, c6, c7, c8, c9, c10, c11, c12, c13, c14] i)) (.ref (cAt [c0, c1, c2, c3, c4, c5, c6, c7, c8, c9, c10, c11, c12, c13, c14] j)) = some (f j) := fun j hj => by rw [hf]; exact X.cl i hi j hj
  rw [← hf] at k
  clear hf
  unfold t__law_classes90
  refine seq_ev (P := LstX IsB [f 0, f 1]) (evt_lst mono_isB (by simp) (eva_cons (a := f 0) mono_isB (evt_is rfl hE T (fun _ r => r) (G 0 (by decide))) (eva_cons (a := f 1) mono_isB (evt_is rfl hE T (fun _ r => r) (G 1 (by decide))) eva_nil))) fun x0 H0 e0 p0 => ?_
  have s := e0
  refine seq_ev (P := LstX IsB [f 0, f 1, f 2]) (evt_cat mono_isB (as := [f 0, f 1]) (bs := [f 2]) (by simp) (evt_var rfl fun _ s2 => p0.same mono_isB s2) (evt_lst mono_isB (by simp) (eva_cons (a := f 2) mono_isB (evt_is rfl (hE.same s) T (fun _ r => r) (G 2 (by decide))) eva_nil))) fun x1 H1 e1 p1 => ?_
  have s := s.trans e1
  refine seq_ev (P := LstX IsB [f 0, f 1, f 2, f 3, f 4]) (evt_cat mono_isB (as := [f 0, f 1, f 2]) (bs := [f 3, f 4]) (by simp) (evt_var rfl fun _ s2 => p1.same mono_isB s2) (evt_lst mono_isB (by simp) (eva_cons (a := f 3) mono_isB (evt_is rfl (hE.same s) T (fun _ r => r) (G 3 (by decide))) (eva_cons (a := f 4) mono_isB (evt_is rfl (hE.same s) T (fun _ r => r) (G 4 (by decide))) eva_nil)))) fun x2 H2 e2 p2 => ?_
  have s := s.trans e2
  refine seq_ev (P := LstX IsB [f 0, f 1, f 2, f 3, f 4, f 5, f 6]) (evt_cat mono_isB (as := [f 0, f 1, f 2, f 3, f 4]) (bs := [f 5, f 6]) (by simp) (evt_var rfl fun _ s2 => p2.same mono_isB s2) (evt_lst mono_isB (by simp) (eva_cons (a := f 5) mono_isB (evt_is rfl (hE.same s) T (fun _ r => r) (G 5 (by decide))) (eva_cons (a := f 6) mono_isB (evt_is rfl (hE.same s) T (fun _ r => r) (G 6 (by decide))) eva_nil)))) fun x3 H3 e3 p3 => ?_
  have s := s.trans e3
  refine seq_ev (P := LstX IsB [f 0, f 1, f 2, f 3, f 4, f 5, f 6, f 7, f 8]) (evt_cat mono_isB (as := [f 0, f 1, f 2, f 3, f 4, f 5, f 6]) (bs := [f 7, f 8]) (by simp) (evt_var rfl fun _ s2 => p3.same mono_isB s2) (evt_lst mono_isB (by simp) (eva_cons (a := f 7) mono_isB (evt_is rfl (hE.same s) T (fun _ r => r) (G 7 (by decide))) (eva_cons (a := f 8) mono_isB (evt_is rfl (hE.same s) T (fun _ r => r) (G 8 (by decide))) eva_nil)))) fun x4 H4 e4 p4 => ?_
  have s := s.trans e4
  refine seq_ev (P := LstX IsB [f 0, f 1, f 2, f 3, f 4, f 5, f 6, f 7, f 8, f 9, f 10]) (evt_cat mono_isB (as := [f 0, f 1, f 2, f 3, f 4, f 5, f 6, f 7, f 8]) (bs := [f 9, f 10]) (by simp) (evt_var rfl fun _ s2 => p4.same mono_isB s2) (evt_lst mono_isB (by simp) (eva_cons (a := f 9) mono_isB (evt_is rfl (hE.same s) T (fun _ r => r) (G 9 (by decide))) (eva_cons (a := f 10) mono_isB (evt_is rfl (hE.same s) T (fun _ r => r) (G 10 (by decide))) eva_nil)))) fun x5 H5 e5 p5 => ?_
  have s := s.trans e5
  refine seq_ev (P := LstX IsB [f 0, f 1, f 2, f 3, f 4, f 5, f 6, f 7, f 8, f 9, f 10, f 11, f 12]) (evt_cat mono_isB (as := [f 0, f 1, f 2, f 3, f 4, f 5, f 6, f 7, f 8, f 9, f 10]) (bs := [f 11, f 12]) (by simp) (evt_var rfl fun _ s2 => p5.same mono_isB s2) (evt_lst mono_isB (by simp) (eva_cons (a := f 11) mono_isB (evt_is rfl (hE.same s) T (fun _ r => r) (G 11 (by decide))) (eva_cons (a := f 12) mono_isB (evt_is rfl (hE.same s) T (fun _ r => r) (G 12 (by decide))) eva_nil)))) fun x6 H6 e6 p6 => ?_
  have s := s.trans e6
  refine ret_ev (P := LstX IsB [f 0, f 1, f 2, f 3, f 4, f 5, f 6, f 7, f 8, f 9, f 10, f 11, f 12, f 13, f 14]) (evt_cat mono_isB (as := [f 0, f 1, f 2, f 3, f 4, f 5, f 6, f 7, f 8, f 9, f 10, f 11, f 12]) (bs := [f 13, f 14]) (by simp) (evt_var rfl fun _ s2 => p6.same mono_isB s2) (evt_lst mono_isB (by simp) (eva_cons (a := f 13) mono_isB (evt_is rfl (hE.same s) T (fun _ r => r) (G 13 (by decide))) (eva_cons (a := f 14) mono_isB (evt_is rfl (hE.same s) T (fun _ r => r) (G 14 (by decide))) eva_nil)))) fun x7 H7 e7 p7 => ?_
  obtain ⟨p, xs, rfl, hp, hl⟩ := p7
  rw [isB_all hl] at hp
  exact k p _ (s.trans e7) hp
/-- a value that the law hands in, and its repr's text -/
inductive Od90 (K : PySem.W.Frag) (H : Hp) : V → Str → Prop
  | dp {v : V} {d : PyData} (h : Dp K H v d) (h1 : d.showable = true) (h2 : d.hasDict = false) (h3 : d.depth ≤ 10) (h4 : d.shown.length ≤ sizeLine) : Od90 K H v d.shown
  | dic {a : Addr} (h : H a = some (.dK [])) : Od90 K H (.ref a) (PyData.dict []).shown
theorem Od90.same {K : PySem.W.Frag} {H H' : Hp} {v : V} {y : Str} (o : Od90 K H v y) (e : Same H H') : Od90 K H' v y := by
  cases o with
  | dp h h1 h2 h3 h4 => exact .dp (dp_same e _ _ h) h1 h2 h3 h4
  | dic h => exact .dic (e _ _ h)
theorem Od90.rp {K : PySem.W.Frag} {H : Hp} {Q : VK} {v : V} {y : Str} (o : Od90 K H v y) (q : Q (.str y) H) : cReprP K [v] H Q := by
  refine ⟨v, rfl, ?_⟩
  cases o with
  | dp h h1 h2 h3 h4 => exact .inl ⟨_, h, h1, h2, h3, h4, q⟩
  | dic h => exact .inr ⟨_, rfl, h, q⟩
def RowR (H : Hp) (x : V) (as : List Int) : Prop := ∃ q, x = .ref q ∧ H q = some (.lst (as.map V.int))
theorem mono_row : MonoR RowR := fun H H' x a h e => by
  obtain ⟨q, h0, h1⟩ := h
  exact ⟨q, h0, e _ _ h1⟩
def rows90 : List (List Int) := List.replicate 10 [0, 1] ++ [[2, 6], [2, 6], [3, 6], [4], [5]]
theorem rows_at : ∀ i, i < 15 → rows90[i]? = some (dueN i) := by decide +kernel
theorem rng_at {n i : Nat} (h : i < n) : (List.range n)[i]? = some i := by rw [List.getElem?_range h]
/-- [e for k in range(n)], e a bool -/
theorem w_lcB {σ : L2.St} {H : Hp} {Q : VK} {slot n : Nat} {tr : TA} {te : TE} {g : Nat → Bool} (hn : n ≤ 1000) (ha : ∀ AQ : List V → Hp → Prop, AQ [.int (n : Int)] H → tr σ H AQ)
    (hs : ∀ j, j < n → ∀ H1 (Q : VK), Same H H1 → (∀ H2, Same H1 H2 → Q (.bl (g j)) H2) → te ((σ.set slot none).set slot (some (.int (j : Int)))) H1 Q)
    (k : ∀ D H1, H D = none → Same H H1 → H1 D = some (.lst (((List.range n).map g).map V.bl)) → Q (.ref D) H1) : tLc (iRng1 tr) (gName slot) tYes te [slot] σ H Q := by
  refine w_lcR (n := n) (by omega) ha (fun D acc H' => Same H H' ∧ H D = none ∧ acc.length ≤ n ∧ acc = ((List.range acc.length).map g).map V.bl ∧ H' D = some (.lst acc)) (fun D nD => ?_) ?_ ?_
  · exact ⟨same_new (Same.refl H) nD, nD, Nat.zero_le _, rfl, upd_same⟩
  · rintro D acc H1 hl ⟨e, nD, _, hacc, hD⟩
    refine hs acc.length hl H1 _ e fun H2 e2 => ?_
    refine w_app (J := fun D acc H' => Same H H' ∧ H D = none ∧ acc.length ≤ n ∧ acc = ((List.range acc.length).map g).map V.bl ∧ H' D = some (.lst acc)) (e2 _ _ hD) (by omega) ?_
    refine ⟨fun c o hc => ?_, nD, by rw [List.length_append]; show acc.length + 1 ≤ n; omega, ?_, upd_same⟩
    · rw [upd_ne (ne_of_none hc nD)]
      exact e2 _ _ (e _ _ hc)
    · rw [List.length_append]
      show acc ++ [V.bl (g acc.length)] = ((List.range (acc.length + 1)).map g).map V.bl
      rw [List.range_succ, List.map_append, List.map_append, ← hacc]
      rfl
  · rintro D acc H1 hl ⟨e, nD, _, hacc, hD⟩
    rw [hl] at hacc
    exact k D H1 nD e (by rw [hD, hacc])
theorem any_contains (l : List Int) (j : Int) : ((l.map PyData.int).any fun z => PyData.eqv z (.int j)) = l.contains j := by
  induction l with
  | nil => rfl
  | cons a r ih =>
    rw [List.map_cons, List.any_cons, ih, List.contains_cons]
    have e : PyData.eqv (.int a) (.int j) = (j == a) := by
      simp only [PyData.eqv]
      by_cases h : a = j
      · subst h
        rfl
      · rw [beq_eq_false_iff_ne.mpr h, beq_eq_false_iff_ne.mpr (fun z => h z.symm)]
    rw [e]
theorem in_ints {K : PySem.W.Frag} {H : Hp} {Q : VK} {p : Addr} {l : List Int} {j : Int} (h : H p = some (.lst (l.map V.int))) (q : Q (.bl (l.contains j)) H) : rInD K (.int j) (.ref p) H Q := by
  refine ⟨.int j, l.map PyData.int, .int j, .lst (sq_lst h) (dp_ints l), by simp [SeqAt.shaped, PyData.canLay0, PyData.depth], shL_ints l, ?_⟩
  rw [any_contains]
  exact q
theorem field_call {K : PySem.W.Frag} {Cs : List Addr} {CE e : Addr} {v : V} {i : Nat} {H : Hp} {Q : VK} {E : XK} (X : E90 K Cs CE) (hi : i < 15) (h : ExAt H e (cAt Cs i) (fldN i) v) (q : Q v H) : spField90 K ([.ref e, .int (wayN i)] ++ []) H Q E := by
  obtain ⟨T, no, _⟩ := X.kx i hi
  rw [fld_way i hi] at no h
  exact ⟨e, _, v, _, rfl, T, no, h, q⟩
/-- what stands while the places are gone through -/
structure St90 (K : PySem.W.Frag) (Cs : List Addr) (H : Hp) (r p5 p6 : Addr) (v : V) (y : Str) : Prop where
  rows : ∃ xs, H r = some (.lst xs) ∧ EAll RowR H xs rows90
  errs : ∃ xs, H p5 = some (.lst xs) ∧ EAll (PairX Cs v) H xs (List.range 15)
  nms : ∃ xs, H p6 = some (.lst xs) ∧ EAll (NmX Cs v) H xs (List.range 15)
  odd : Od90 K H v y
theorem St90.same {K : PySem.W.Frag} {Cs : List Addr} {H H' : Hp} {r p5 p6 : Addr} {v : V} {y : Str} (h : St90 K Cs H r p5 p6 v y) (e : Same H H') : St90 K Cs H' r p5 p6 v y := by
  obtain ⟨⟨x1, h1, g1⟩, ⟨x2, h2, g2⟩, ⟨x3, h3, g3⟩, o⟩ := h
  exact ⟨⟨x1, e _ _ h1, g1.same mono_row e⟩, ⟨x2, e _ _ h2, g2.same mono_pair e⟩, ⟨x3, e _ _ h3, g3.same mono_nm e⟩, o.same e⟩
theorem place_ok {K : PySem.W.Frag} {c0 : Addr} {c1 : Addr} {c2 : Addr} {c3 : Addr} {c4 : Addr} {c5 : Addr} {c6 : Addr} {c7 : Addr} {c8 : Addr} {c9 : Addr} {c10 : Addr} {c11 : Addr} {c12 : Addr} {c13 : Addr} {c14 : Addr} {cE a0 r p5 p6 : Addr} {o2 o3 : Option V} {w : V} {y : Str} {o8 o9 o10 o11 : Option V} {i : Nat} {H : Hp} {D : Ends} (X : E90 K [c0, c1, c2, c3, c4, c5, c6, c7, c8, c9, c10, c11, c12, c13, c14] cE) (hi : i < 15) (S : St90 K [c0, c1, c2, c3, c4, c5, c6, c7, c8, c9, c10, c11, c12, c13, c14] H r p5 p6 w y)
    (k : ∀ H' q8 q9 q10, Same H H' → D.nx [some (.ref a0), some (.ref r), o2, o3, some w, some (.ref p5), some (.ref p6), some (.int (i : Int)), q8, q9, q10, o11, none] H') :
    t_place90 K c0 c1 c2 c3 c4 c5 c6 c7 c8 c9 c10 c11 c12 c13 c14 cE D [some (.ref a0), some (.ref r), o2, o3, some w, some (.ref p5), some (.ref p6), some (.int (i : Int)), o8, o9, o10, o11, none] H := by
  obtain ⟨x5, h5, g5⟩ := S.errs
  obtain ⟨z5, hz5, q, e, rfl, hq, hE⟩ := g5.get (rng_at hi)
  obtain ⟨x6, h6, g6⟩ := S.nms
  obtain ⟨z6, hz6, eb, rfl, hE2⟩ := g6.get (rng_at hi)
  unfold t_place90
  walk_at "rv go"
  refine w_ixL (sq_lst h5) (at_nat hz5) ?_
  refine ⟨q, _, rfl, sq_lst hq, rfl, ?_⟩
  refine ⟨_, _, rfl, ?_⟩
  refine w_gn ?_
  refine ⟨_, _, rfl, ?_⟩
  refine w_gn ?_
  refine ⟨rfl, ?_⟩
  refine st_is [some (.ref a0), some (.ref r), o2, o3, some w, some (.ref p5), some (.ref p6), some (.int (i : Int)), some (.ref e), some (.int (wayN i)), o10, o11, none] rfl ?_
  refine w_seq ?_
  walk_at "rv go"
  refine field_call X hi hE ?_
  walk_at "rv go"
  refine S.odd.rp ?_
  walk_at "rv go"
  refine S.odd.rp ?_
  walk_at "rv go"
  refine w_neR rfl rfl ?_
  walk_at "rv go"
  refine w_seq ?_
  walk_at "rv go"
  refine w_ixL (sq_lst h6) (at_nat hz6) ?_
  walk_at "rv go"
  refine field_call X hi hE2 ?_
  walk_at "rv go"
  refine S.odd.rp ?_
  walk_at "rv go"
  refine S.odd.rp ?_
  walk_at "rv go"
  refine w_neR rfl rfl ?_
  walk_at "rv go"
  obtain ⟨xr, hr, gr⟩ := S.rows
  obtain ⟨zr, hzr, qr, rfl, hqr⟩ := gr.get (rows_at i hi)
  refine w_lcB (n := 8) (g := fun j : Nat => (dueN i).contains (j : Int)) (by decide) (fun AQ q => q) (fun j hj H1 Q e1 kk => ?_) fun Dd H1 nD e1 hD => ?_
  · walk_at "rv go"
    refine w_ixL (sq_lst (e1 _ _ hr)) (at_nat hzr) ?_
    exact in_ints (e1 _ _ hqr) (kk H1 (Same.refl H1))
  refine w_gn ?_
  refine st_is [some (.ref a0), some (.ref r), o2, o3, some w, some (.ref p5), some (.ref p6), some (.int (i : Int)), some (.ref e), some (.int (wayN i)), some (.ref Dd), o11, none] rfl ?_
  refine w_seq ?_
  walk_at "rv go"
  refine ⟨e, w, i, rfl, hi, X, hE.same e1, fun p H2 e2 hp => ?_⟩
  walk_at "rv go"
  refine RvM.neB_ok (sq_lst hp) (sq_lst (e2 _ _ hD)) ?_
  walk_at "rv go"
  refine w_ixL (sq_lst (e2 _ _ (e1 _ _ h6))) (at_nat hz6) ?_
  walk_at "rv go"
  have e12 := e1.trans e2
  refine ⟨eb, w, i, rfl, hi, X, hE2.same e12, fun p2 H3 e3 hp2 => ?_⟩
  walk_at "rv go"
  refine RvM.neB_ok (sq_lst hp2) (sq_lst (e3 _ _ (e2 _ _ hD))) ?_
  walk_at "rv go"
  have e13 := e12.trans e3
  refine ⟨e, w, i, rfl, hi, X, hE.same e13, fun p3 H4 e4 hp3 => ?_⟩
  walk_at "rv go"
  refine w_lcB (n := 15) (g := fun j : Nat => decide (j = i)) (by decide) (fun AQ q => q) (fun j hj H5 Q e5 kk => ?_) fun Dc H5 nD5 e5 hD5 => ?_
  · walk_at "rv go"
    have z := kk H5 (Same.refl H5)
    rw [show decide (j = i) = decide ((j : Int) = (i : Int)) from decide_eq_decide.mpr (by omega)] at z
    exact z
  refine RvM.neB_ok (sq_lst (e5 _ _ hp3)) (sq_lst hD5) ?_
  refine w_exb ?_
  refine iteF ?_
  refine w_next ?_
  exact k _ _ _ _ ((e13.trans e4).trans e5)
theorem evt_ints {σ : L2.St} {H0 : Hp} {ta : TA} {as : List Int} (hl : as.length ≤ 1000) (h : ∀ (H : Hp) (Q : List V → Hp → Prop), Q (as.map V.int) H → ta σ H Q) : EvT (tLst ta) σ H0 fun H x => RowR H x as := fun H Q e k =>
  h H _ ⟨szl (by rw [List.length_map]; omega), fun p np => k _ _ (same_new (Same.refl H) np) ⟨p, rfl, upd_same⟩⟩
theorem EAll.rep {α : Type} {R : Hp → V → α → Prop} {H : Hp} {xs : List V} {as : List α} (h : EAll R H xs as) : ∀ n : Nat, EAll R H (List.replicate n xs).flatten (List.replicate n as).flatten
  | 0 => .nil
  | n + 1 => by
    rw [List.replicate_succ, List.replicate_succ, List.flatten_cons, List.flatten_cons]
    exact h.app (EAll.rep h n)
theorem evt_rep {α : Type} {R : Hp → V → α → Prop} {σ : L2.St} {H0 : Hp} {te : TE} {as : List α} {n : Nat} (m : MonoR R) (hl : as.length * n ≤ 1000) (hn : n ≤ 1000) (h : EvT te σ H0 (LstX R as)) : EvT (tOp rRep te (tC (.int (n : Int)))) σ H0 (LstX R (List.replicate n as).flatten) := fun H Q e k =>
  h H _ e fun x H1 e1 p1 => by
    obtain ⟨p, xs, rfl, h1, h2⟩ := p1
    refine ⟨p, (n : Int), xs, rfl, rfl, h1, by omega, by omega, by rw [Int.toNat_natCast, h2.len]; exact szl (by omega), fun q nq => ?_⟩
    rw [Int.toNat_natCast]
    have e2 := same_new (o := .lst (List.replicate n xs).flatten) (Same.refl H1) nq
    exact k _ _ (e1.trans e2) ⟨q, _, rfl, upd_same, (h2.rep n).same m e2⟩
theorem none_of {H H' : Hp} {c : Addr} (e : Same H H') (h : H' c = none) : H c = none := by
  cases q : H c with
  | none => rfl
  | some o =>
    rw [e _ _ q] at h
    cases h
theorem od_non {K : PySem.W.Frag} {H : Hp} : Od90 K H .non (PyData.none).shown := .dp .non (by simp [PyData.showable]) (by simp [PyData.hasDict]) (by simp [PyData.depth]) (by show (Str.ofString "None").length ≤ sizeLine; decide)
theorem od_int {K : PySem.W.Frag} {H : Hp} (i : Int) (h : i.natAbs < 10 ^ 40) : Od90 K H (.int i) (PyData.int i).shown := by
  have sb := sizeLine_big
  have := big_text h
  exact .dp (.int i) (by simpa [PyData.showable] using big_log h) (by simp [PyData.hasDict]) (by simp [PyData.depth]) (by show (Str.ofString (toString i)).length ≤ sizeLine; omega)
theorem od_str {K : PySem.W.Frag} {H : Hp} (x : Str) (h : (reprText x).length ≤ 1000) : Od90 K H (.str x) (PyData.str x).shown := by
  have sb := sizeLine_big
  exact .dp (.str x) (by simp [PyData.showable]) (by simp [PyData.hasDict]) (by simp [PyData.depth]) (by show (reprText x).length ≤ sizeLine; omega)
theorem od_tup {K : PySem.W.Frag} {H : Hp} {a : Addr} (zs : List Int) (h : H a = some (.tup (zs.map V.int))) (hz : ∀ z ∈ zs, z.natAbs < 10 ^ 32) (h2 : (PyData.tuple (zs.map PyData.int)).shown.length ≤ 1000) : Od90 K H (.ref a) (PyData.tuple (zs.map PyData.int)).shown := by
  have sb := sizeLine_big
  exact .dp (.tup (sq_tup h) (dp_ints zs)) (by simpa [PyData.showable] using ints_showable hz) (by simp [PyData.hasDict, ints_dict]) (by have := (lay_ints zs).2; simp only [PyData.depth, this]; omega) (by omega)
theorem od_lst {K : PySem.W.Frag} {H : Hp} {a : Addr} (zs : List Int) (h : H a = some (.lst (zs.map V.int))) (hz : ∀ z ∈ zs, z.natAbs < 10 ^ 32) (h2 : (PyData.list (zs.map PyData.int)).shown.length ≤ 1000) : Od90 K H (.ref a) (PyData.list (zs.map PyData.int)).shown := by
  have sb := sizeLine_big
  exact .dp (.lst (sq_lst h) (dp_ints zs)) (by simpa [PyData.showable] using ints_showable hz) (by simp [PyData.hasDict, ints_dict]) (by have := (lay_ints zs).2; simp only [PyData.depth, this]; omega) (by omega)
theorem od_all {K : PySem.W.Frag} {H : Hp} {t l d : Addr} (h1 : H t = some (.tup [.int 1, .int 2])) (h2 : H l = some (.lst [.int 3])) (h3 : H d = some (.dK [])) :
    ∀ (m : Nat) (x : V), ([.non, .bl true, .int (-1), .int 0, .str "aB", .str "", .ref t, .ref l, .ref d, .int 100000000000000000000] : List V)[m]? = some x → ∃ y, Od90 K H x y := fun m x hx => by
  match m, hx with
  | 0, hx => obtain rfl := Option.some.inj hx; exact ⟨_, od_non⟩
  | 1, hx => obtain rfl := Option.some.inj hx; exact ⟨_, .dp (.bl true) (by simp [PyData.showable]) (by simp [PyData.hasDict]) (by simp [PyData.depth]) (by decide)⟩
  | 2, hx => obtain rfl := Option.some.inj hx; exact ⟨_, od_int (-1) (by decide)⟩
  | 3, hx => obtain rfl := Option.some.inj hx; exact ⟨_, od_int 0 (by decide)⟩
  | 4, hx => obtain rfl := Option.some.inj hx; exact ⟨_, od_str "aB" (by decide +kernel)⟩
  | 5, hx => obtain rfl := Option.some.inj hx; exact ⟨_, od_str "" (by decide +kernel)⟩
  | 6, hx => obtain rfl := Option.some.inj hx; exact ⟨_, od_tup [1, 2] h1 (by decide) (by decide +kernel)⟩
  | 7, hx => obtain rfl := Option.some.inj hx; exact ⟨_, od_lst [3] h2 (by decide) (by decide +kernel)⟩
  | 8, hx => obtain rfl := Option.some.inj hx; exact ⟨_, .dic h3⟩
  | 9, hx => obtain rfl := Option.some.inj hx; exact ⟨_, od_int 100000000000000000000 (by decide)⟩
theorem p_law90 {K : PySem.W.Frag} {c0 : Addr} {c1 : Addr} {c2 : Addr} {c3 : Addr} {c4 : Addr} {c5 : Addr} {c6 : Addr} {c7 : Addr} {c8 : Addr} {c9 : Addr} {c10 : Addr} {c11 : Addr} {c12 : Addr} {c13 : Addr} {c14 : Addr} {cE : Addr} {vs : List V} {H : Hp} {Q : VK} {E : XK} (h : spLaw90 K [c0, c1, c2, c3, c4, c5, c6, c7, c8, c9, c10, c11, c12, c13, c14] cE vs H Q E) : t_law90 K c0 c1 c2 c3 c4 c5 c6 c7 c8 c9 c10 c11 c12 c13 c14 cE { nx := fun _ H' => Q .non H', rt := Q } (start ["_law_script", "_law_rows", "_law_k", "_law_pool_here", "_law_one", "_law_errors_here", "_law_named_here", "_law_place", "_law_error", "_law_way", "_law_due", "_law_kept", "_law_number"] vs) H := by
  obtain ⟨a0, ns, rfl, hl63, hS, X, k⟩ := h
  unfold t_law90
  refine seq_ev (P := LstX RowR rows90) (evt_cat mono_row (as := (List.replicate 10 [[0, 1]]).flatten) (bs := [[2, 6], [2, 6], [3, 6], [4], [5]]) (by decide)
    (evt_rep (n := 10) mono_row (by decide) (by decide) (evt_lst mono_row (by decide) (eva_cons (a := [0, 1]) mono_row (evt_ints (by decide) fun _ _ q => q) eva_nil)))
    (evt_lst mono_row (by decide) (eva_cons (a := [2, 6]) mono_row (evt_ints (by decide) fun _ _ q => q) (eva_cons (a := [2, 6]) mono_row (evt_ints (by decide) fun _ _ q => q) (eva_cons (a := [3, 6]) mono_row (evt_ints (by decide) fun _ _ q => q) (eva_cons (a := [4]) mono_row (evt_ints (by decide) fun _ _ q => q) (eva_cons (a := [5]) mono_row (evt_ints (by decide) fun _ _ q => q) eva_nil))))))) fun x G1 e01 p1 => ?_
  obtain ⟨r, xr, rfl, hr, gr⟩ := p1
  refine st_is [some (.ref a0), some (.ref r), none, none, none, none, none, none, none, none, none, none, none] rfl ?_
  refine w_seq ?_
  refine RvM.w_forI ?_
  walk_at "rv go"
  refine w_lenL (e01.seq hS) ?_
  walk_at "rv go"
  rw [List.length_map]
  refine ⟨10, _, rfl, ?_⟩
  walk_at "rv go"
  refine ⟨1, _, rfl, ?_⟩
  walk_at "rv go"
  obtain ⟨j, hj, j10⟩ : ∃ j : Int, j = (if (if (ns.length : Int) < 10 then (ns.length : Int) else 10) > 1 then (if (ns.length : Int) < 10 then (ns.length : Int) else 10) else 1) ∧ 1 ≤ j ∧ j ≤ 10 := ⟨_, rfl, by split <;> split <;> omega⟩
  rw [← hj]
  refine ⟨j, rfl, by omega, by omega, ?_⟩
  refine RvM.w_forRn (fun _ σ' H' => Same G1 H' ∧ ∃ o2 o3 o4 o5 o6 o7 o8 o9 o10, σ' = [some (.ref a0), some (.ref r), o2, o3, o4, o5, o6, o7, o8, o9, o10, none, none]) ⟨Same.refl G1, _, _, _, _, _, _, _, _, _, rfl⟩ ?_ ?_
  · rintro i σ' H1 hi ⟨e1, o2, o3, o4, o5, o6, o7, o8, o9, o10, rfl⟩
    walk_at "rv go"
    refine ⟨a0, ns, i, rfl, e1.seq (e01.seq hS), hl63, by omega, fun p H2 np e2 P2 => ?_⟩
    walk_at "rv go"
    refine RvM.w_forLn ?_
    walk_at "rv go"
    refine ⟨szl (by show 2 ≤ 100000; decide), fun t nt => ?_⟩
    have f1 := same_new (o := .tup [.int 1, .int 2]) (Same.refl H2) nt
    have q1 : (upd H2 t (.tup [.int 1, .int 2])) t = some (.tup [.int 1, .int 2]) := upd_same
    generalize upd H2 t (.tup [.int 1, .int 2]) = H3 at f1 q1 ⊢
    walk_at "rv go"
    refine ⟨szl (by show 1 ≤ 100000; decide), fun l nl => ?_⟩
    have f2 := same_new (o := .lst [.int 3]) (Same.refl H3) nl
    have q2 : (upd H3 l (.lst [.int 3])) l = some (.lst [.int 3]) := upd_same
    generalize upd H3 l (.lst [.int 3]) = H4 at f2 q2 ⊢
    walk_at "rv go"
    intro d nd
    have f3 := same_new (o := .dK []) (Same.refl H4) nd
    have q3 : (upd H4 d (.dK [])) d = some (.dK []) := upd_same
    generalize upd H4 d (.dK []) = H5 at f3 q3 ⊢
    walk_at "rv go"
    refine ⟨szl (by show 10 ≤ 100000; decide), fun b nb => ?_⟩
    rw [show (10 : Int) ^ (20 : Int).toNat = 100000000000000000000 by decide +kernel]
    generalize hL : ([.non, .bl true, .int (-1), .int 0, .str "aB", .str "", .ref t, .ref l, .ref d, .int 100000000000000000000] : List V) = L
    have f4 := same_new (o := .lst L) (Same.refl H5) nb
    have q4 : (upd H5 b (.lst L)) b = some (.lst L) := upd_same
    generalize upd H5 b (.lst L) = H6 at f4 q4 ⊢
    walk_at "rv go"
    have f5 := ((f1.trans f2).trans f3).trans f4
    refine RvM.take_call (P2.same f5) (by decide) (by decide) fun rr H7 r0 r1 b7 P7 => ?_
    have e7 : Same H1 H7 := RvM.same_but (e2.trans f5) np b7
    have e17 : Same G1 H7 := e1.trans e7
    have nP : ∀ {c : Addr} {o : HO}, H2 c = none → H6 c = some o → H7 c = some o := fun {c o} n h => b7 _ _ (fun z => by
      obtain ⟨_, _, hp, _⟩ := P2
      rw [← z, n] at hp
      cases hp) h
    have n2 : ∀ {c : Addr}, H3 c = none → H2 c = none := fun {c} h => none_of f1 h
    have t7 := nP nt (f4 _ _ (f3 _ _ (f2 _ _ q1)))
    have l7 := nP (none_of f1 nl) (f4 _ _ (f3 _ _ q2))
    have d7 := nP (none_of (f1.trans f2) nd) (f4 _ _ q3)
    have b7' := nP (none_of ((f1.trans f2).trans f3) nb) q4
    obtain ⟨m, rfl⟩ : ∃ m : Nat, rr = (m : Int) := ⟨rr.toNat, by omega⟩
    have hm : m < L.length := by rw [← hL]; show m < 10; omega
    obtain ⟨w, hw⟩ : ∃ w, L[m]? = some w := ⟨_, List.getElem?_eq_getElem hm⟩
    obtain ⟨y, ow⟩ := od_all (K := K) t7 l7 d7 m w (by rw [hL]; exact hw)
    refine w_ixL (sq_lst b7') (at_nat hw) ?_
    walk_at "rv go"
    refine ⟨szl (by show 2 ≤ 100000; decide), fun g ng => ⟨g, rfl, ?_⟩⟩
    have f8 := same_new (o := .lst [w, .non]) (Same.refl H7) ng
    have q8 : (upd H7 g (.lst [w, .non])) g = some (.lst [w, .non]) := upd_same
    generalize upd H7 g (.lst [w, .non]) = H8 at f8 q8 ⊢
    have O : ∀ (m : Nat) (x : V), ([w, .non] : List V)[m]? = some x → ∃ y, Od90 K H8 x y := fun m x hx => by
      match m, hx with
      | 0, hx => obtain rfl := Option.some.inj hx; exact ⟨_, ow.same f8⟩
      | 1, hx => obtain rfl := Option.some.inj hx; exact ⟨_, od_non⟩
    have e18 := e17.trans f8
    refine RvM.w_forLa (sq_lst q8) (fun _ σ' H' => Same H8 H' ∧ ∃ o4 o5 o6 o7 o8 o9 o10, σ' = [some (.ref a0), some (.ref r), some (.int (i : Int)), some (.ref p), o4, o5, o6, o7, o8, o9, o10, none, none]) ⟨Same.refl H8, _, _, _, _, _, _, _, rfl⟩ (fun _ σ' H' _ ⟨e, _⟩ => sq_lst (e _ _ q8)) ?_ ?_
    · rintro m x σ' H9 hx ⟨e9, o4, o5, o6, o7, o8, o9, o10, rfl⟩
      obtain ⟨y, od⟩ := O m x hx
      refine w_gn ?_
      refine st_is [some (.ref a0), some (.ref r), some (.int (i : Int)), some (.ref p), some x, o5, o6, o7, o8, o9, o10, none, none] rfl ?_
      walk_at "rv go"
      refine ⟨x, rfl, X, fun z5 G5 g5 L5 => ?_⟩
      walk_at "rv go"
      refine ⟨x, rfl, X, fun z6 G6 g6 L6 => ?_⟩
      walk_at "rv go"
      obtain ⟨p5, x5, rfl, h5, k5⟩ := L5.same mono_pair g6
      obtain ⟨p6, x6, rfl, h6, k6⟩ := L6
      refine ⟨_, _, rfl, ?_⟩
      refine st_is [some (.ref a0), some (.ref r), some (.int (i : Int)), some (.ref p), some x, some (.ref p5), some (.ref p6), o7, o8, o9, o10, none, none] rfl ?_
      have g56 := g5.trans g6
      have e1G : Same G1 G6 := (e18.trans e9).trans g56
      have S : St90 K [c0, c1, c2, c3, c4, c5, c6, c7, c8, c9, c10, c11, c12, c13, c14] G6 r p5 p6 x y := ⟨⟨xr, e1G _ _ hr, gr.same mono_row e1G⟩, ⟨x5, h5, k5⟩, ⟨x6, h6, k6⟩, (od.same e9).same g56⟩
      refine w_forR (n := 15) (by decide) (fun AQ q => q) (fun _ σ' H' => Same G6 H' ∧ ∃ o7 o8 o9 o10, σ' = [some (.ref a0), some (.ref r), some (.int (i : Int)), some (.ref p), some x, some (.ref p5), some (.ref p6), o7, o8, o9, o10, none, none]) ⟨Same.refl G6, _, _, _, _, rfl⟩ ?_ ?_
      · rintro n σ' H10 hn ⟨e10, o7, o8, o9, o10, rfl⟩
        refine st_is [some (.ref a0), some (.ref r), some (.int (i : Int)), some (.ref p), some x, some (.ref p5), some (.ref p6), some (.int (n : Int)), o8, o9, o10, none, none] rfl ?_
        exact place_ok X hn (S.same e10) fun H' q8 q9 q10 e => ⟨e10.trans e, _, _, _, _, rfl⟩
      · rintro σ' H10 ⟨e10, o7, o8, o9, o10, rfl⟩
        exact ⟨(e9.trans g56).trans e10, _, _, _, _, _, _, _, rfl⟩
    · rintro σ' H9 ⟨e9, o4, o5, o6, o7, o8, o9, o10, rfl⟩
      exact ⟨e18.trans e9, _, _, _, _, _, _, _, _, _, rfl⟩
  · rintro σ' H1 ⟨e1, o2, o3, o4, o5, o6, o7, o8, o9, o10, rfl⟩
    walk_at "rv go"
    refine ⟨szl (by show 1 ≤ 100000; decide), fun c nc => ?_⟩
    have q1 : (upd H1 c (.lst [.int 3])) c = some (.lst [.int 3]) := upd_same
    generalize upd H1 c (.lst [.int 3]) = H2 at q1 ⊢
    refine w_gn ?_
    refine st_is [some (.ref a0), some (.ref r), o2, o3, o4, o5, o6, o7, o8, o9, o10, some (.ref c), none] rfl ?_
    refine seq_ev (P := ExV c0 "value" (.ref c)) (evt_mkx (C := c0) X.x0 rfl) fun x H3 e3 px => ?_
    obtain ⟨e', rfl, dd, he, hd⟩ := px
    refine st_is [some (.ref a0), some (.ref r), o2, o3, o4, o5, o6, o7, some (.ref e'), o9, o10, some (.ref c), none] rfl ?_
    refine w_seqD ?_
    refine w_bm rfl (e3 _ _ q1) ?_
    walk_at "rv go"
    refine w_appR (e3 _ _ q1) (by decide) ?_
    have nce : e' ≠ c := fun z => by
      have := e3 _ _ q1
      rw [← z, he] at this
      cases this
    have ncd : dd ≠ c := fun z => by
      have := e3 _ _ q1
      rw [← z, hd] at this
      cases this
    walk_at "rv go"
    refine ⟨_, rfl, e', _, .ref c, rfl, X.x0.xf, X.x0.no, ⟨dd, by rw [upd_ne nce]; exact he, by rw [upd_ne ncd]; exact hd⟩, ?_⟩
    walk_at "rv go"
    refine ⟨szl (by show 2 ≤ 100000; decide), fun f nf => ?_⟩
    have hc : upd H3 c (.lst ([.int 3] ++ [.int 4])) c = some (.lst (([3, 4] : List Int).map V.int)) := upd_same
    refine eqD_L (zs := [3, 4]) (ws := [3, 4]) (by rw [upd_ne (ne_of_none hc nf)]; exact hc) upd_same ?_
    exact k _
theorem kb1x {K : PySem.W.Frag} {x qual : Str} {params : Arguments} {body : List Stmt} {scope : Scope} {kws : List (Str × V)} {f : Addr} {fd : FuncData} {ps : List Str} {n : Nat} (F : FunD K x qual params body scope [] kws f fd) (ks : List Str)
    (h : ∀ (kV doc pm : Value) (an : Option Addr) (cdv ct : Value) (us ws : List Value), us.length = n → ws.length = ks.length → bindArgs (PySem.W.fnOf x qual params body scope .none kV doc pm an cdv ct) ⟨us, ks.zip ws⟩ = pure (ps.zip (us ++ ws))) :
    KBn K fd ps n ks (fun us ws => us ++ ws) (fun vs zs => vs ++ zs) := by
  obtain ⟨oc, od, dV, kV, doc, pm, an, cdv, ct, osl, rfl, lk, hcd, hD, hK⟩ := F.ex
  rcases hD with ⟨_, rfl⟩ | ⟨e, _⟩
  · exact ⟨fun s us ws _ l1 l2 => .of_eq (h kV doc pm an cdv ct us ws l1 l2), fun r1 r2 => r1.append r2⟩
  · exact absurd rfl e
theorem u1 {k : Nat} {A : Around} (r : Room k A) : A.units + 65 < cLine := by
  have := r.un
  omega
end Rv
namespace Rv
open PySem PySem.Spec PyProof.Rows L2
theorem sc_InvalidNumber___init__ : FnScope ["self", "value"] ["self", "value"] (defScope s_InvalidNumber___init__) := ⟨rfl, rfl, rfl, by decide +kernel, rfl, by decide +kernel, by decide +kernel⟩
theorem d_InvalidNumber___init__ {P : Program} {w : World} {K : PySem.W.Frag} {mg : Str → Option Value} {base : Heap} {C_InvalidNumber : Addr} {CX : CXT} {f : Addr} {cdv : Value} {A : Around} {outer : List Env} {s : Shared} {H : Hp} {E : XK} (bg_RainError : BaseG K C_RainError "ValueError.__init__") (g_RainError : mg "RainError" = some (.ref C_RainError))
    (hr : Room 0 (A.deeper (envOfC "InvalidNumber.__init__" (defScope s_InvalidNumber___init__) s.heap.objs.size f cdv))) :
    PSs (cxOf CX P w K mg base ["self", "value"] "InvalidNumber.__init__" (defScope s_InvalidNumber___init__) f cdv A outer s H E) (defBody s_InvalidNumber___init__) (t_InvalidNumber___init__90 K C_InvalidNumber) :=
  (pss_cons (ps_expr (pe_ownbaseG bg_RainError (by rfl) g_RainError (pa_cons (pv 0) (pa_cons pe_str pa_nil))))
    (pss_one (ps_fst (pv 0) (pv 1))))
theorem ok_InvalidNumber___init__ {P : Program} {w : World} {K : PySem.W.Frag} {mg : Str → Option Value} {base : Heap} {C_InvalidNumber : Addr} {f : Addr} {fd : FuncData} (F : FunD K "__init__" "InvalidNumber.__init__" (defArgs s_InvalidNumber___init__) (defBody s_InvalidNumber___init__) (defScope s_InvalidNumber___init__) [] [] f fd) (bg_RainError : BaseG K C_RainError "ValueError.__init__") (g_RainError : mg "RainError" = some (.ref C_RainError)) : FnOk P w K mg base CX0 1 f fd ["self", "value"] (spExc K C_InvalidNumber "ValueError" "ValueError.__new__" "ValueError.__init__" bm_ValueError "value") :=
  F.ok sc_InvalidNumber___init__ (fun vs H Q E h => by first | (obtain ⟨_, rfl, _⟩ := h; rfl) | (obtain ⟨_, _, rfl, _⟩ := h; rfl) | (obtain ⟨_, _, _, rfl, _⟩ := h; rfl) | (obtain ⟨_, _, _, _, rfl, _⟩ := h; rfl) | (obtain ⟨_, _, _, _, _, rfl, _⟩ := h; rfl) | (obtain ⟨_, _, _, _, _, _, rfl, _⟩ := h; rfl) | (obtain ⟨_, _, _, _, _, _, _, rfl, _⟩ := h; rfl) | (obtain ⟨_, _, _, _, _, _, _, _, rfl, _⟩ := h; rfl) | (obtain ⟨_, _, _, _, _, _, _, _, _, rfl, _⟩ := h; rfl) | (obtain ⟨_, _, _, _, _, _, _, _, _, _, rfl, _⟩ := h; rfl) | (obtain ⟨_, _, _, _, _, _, _, _, _, _, _, rfl, _⟩ := h; rfl) | (obtain ⟨_, _, _, _, _, _, _, _, _, _, _, _, rfl, _⟩ := h; rfl) | (obtain ⟨_, _, _, _, _, _, _, _, _, _, _, _, _, rfl, _⟩ := h; rfl) | (obtain ⟨_, _, _, _, _, _, _, _, _, _, _, _, _, _, rfl, _⟩ := h; rfl) | (obtain ⟨_, _, _, _, _, _, _, _, _, _, _, _, _, _, _, rfl, _⟩ := h; rfl) | (obtain ⟨_, _, _, _, _, _, _, _, _, _, _, _, _, _, _, _, rfl, _⟩ := h; rfl) | (obtain ⟨_, _, _, _, _, _, _, _, _, _, _, _, _, _, _, _, _, rfl, _⟩ := h; rfl) | (obtain ⟨_, _, _, _, _, _, _, _, _, _, _, _, _, _, _, _, _, _, rfl, _⟩ := h; rfl) | (obtain ⟨_, _, _, _, _, _, _, _, _, _, _, _, _, _, _, _, _, _, _, rfl, _⟩ := h; rfl) | (obtain ⟨_, _, _, _, _, _, _, _, _, _, _, _, _, _, _, _, _, _, _, _, rfl, _⟩ := h; rfl) | (obtain ⟨_, _, _, _, _, _, _, _, _, _, _, _, _, _, _, _, _, _, _, _, _, rfl, _⟩ := h; rfl) | (obtain ⟨_, _, _, _, _, _, _, _, _, _, _, _, _, _, _, _, _, _, _, _, _, _, rfl, _⟩ := h; rfl) | (obtain ⟨_, _, _, _, _, _, _, _, _, _, _, _, _, _, _, _, _, _, _, _, _, _, _, rfl, _⟩ := h; rfl) | (obtain ⟨_, _, _, _, _, _, _, _, _, _, _, _, _, _, _, _, _, _, _, _, _, _, _, _, rfl, _⟩ := h; rfl) | (obtain ⟨_, _, _, _, _, _, _, _, _, _, _, _, _, _, _, _, _, _, _, _, _, _, _, _, _, rfl, _⟩ := h; rfl)) (fun cdv A outer s H vs Q E hr h => ⟨_, d_InvalidNumber___init__ bg_RainError g_RainError hr, p_ini_InvalidNumber h⟩)
theorem sc_InvalidProfile___init__ : FnScope ["self", "index"] ["self", "index"] (defScope s_InvalidProfile___init__) := ⟨rfl, rfl, rfl, by decide +kernel, rfl, by decide +kernel, by decide +kernel⟩
theorem d_InvalidProfile___init__ {P : Program} {w : World} {K : PySem.W.Frag} {mg : Str → Option Value} {base : Heap} {C_InvalidProfile : Addr} {CX : CXT} {f : Addr} {cdv : Value} {A : Around} {outer : List Env} {s : Shared} {H : Hp} {E : XK} (bg_RainError : BaseG K C_RainError "ValueError.__init__") (g_RainError : mg "RainError" = some (.ref C_RainError))
    (hr : Room 0 (A.deeper (envOfC "InvalidProfile.__init__" (defScope s_InvalidProfile___init__) s.heap.objs.size f cdv))) :
    PSs (cxOf CX P w K mg base ["self", "index"] "InvalidProfile.__init__" (defScope s_InvalidProfile___init__) f cdv A outer s H E) (defBody s_InvalidProfile___init__) (t_InvalidProfile___init__90 K C_InvalidProfile) :=
  (pss_cons (ps_expr (pe_ownbaseG bg_RainError (by rfl) g_RainError (pa_cons (pv 0) (pa_cons pe_str pa_nil))))
    (pss_one (ps_fst (pv 0) (pv 1))))
theorem ok_InvalidProfile___init__ {P : Program} {w : World} {K : PySem.W.Frag} {mg : Str → Option Value} {base : Heap} {C_InvalidProfile : Addr} {f : Addr} {fd : FuncData} (F : FunD K "__init__" "InvalidProfile.__init__" (defArgs s_InvalidProfile___init__) (defBody s_InvalidProfile___init__) (defScope s_InvalidProfile___init__) [] [] f fd) (bg_RainError : BaseG K C_RainError "ValueError.__init__") (g_RainError : mg "RainError" = some (.ref C_RainError)) : FnOk P w K mg base CX0 1 f fd ["self", "index"] (spExc K C_InvalidProfile "ValueError" "ValueError.__new__" "ValueError.__init__" bm_ValueError "index") :=
  F.ok sc_InvalidProfile___init__ (fun vs H Q E h => by first | (obtain ⟨_, rfl, _⟩ := h; rfl) | (obtain ⟨_, _, rfl, _⟩ := h; rfl) | (obtain ⟨_, _, _, rfl, _⟩ := h; rfl) | (obtain ⟨_, _, _, _, rfl, _⟩ := h; rfl) | (obtain ⟨_, _, _, _, _, rfl, _⟩ := h; rfl) | (obtain ⟨_, _, _, _, _, _, rfl, _⟩ := h; rfl) | (obtain ⟨_, _, _, _, _, _, _, rfl, _⟩ := h; rfl) | (obtain ⟨_, _, _, _, _, _, _, _, rfl, _⟩ := h; rfl) | (obtain ⟨_, _, _, _, _, _, _, _, _, rfl, _⟩ := h; rfl) | (obtain ⟨_, _, _, _, _, _, _, _, _, _, rfl, _⟩ := h; rfl) | (obtain ⟨_, _, _, _, _, _, _, _, _, _, _, rfl, _⟩ := h; rfl) | (obtain ⟨_, _, _, _, _, _, _, _, _, _, _, _, rfl, _⟩ := h; rfl) | (obtain ⟨_, _, _, _, _, _, _, _, _, _, _, _, _, rfl, _⟩ := h; rfl) | (obtain ⟨_, _, _, _, _, _, _, _, _, _, _, _, _, _, rfl, _⟩ := h; rfl) | (obtain ⟨_, _, _, _, _, _, _, _, _, _, _, _, _, _, _, rfl, _⟩ := h; rfl) | (obtain ⟨_, _, _, _, _, _, _, _, _, _, _, _, _, _, _, _, rfl, _⟩ := h; rfl) | (obtain ⟨_, _, _, _, _, _, _, _, _, _, _, _, _, _, _, _, _, rfl, _⟩ := h; rfl) | (obtain ⟨_, _, _, _, _, _, _, _, _, _, _, _, _, _, _, _, _, _, rfl, _⟩ := h; rfl) | (obtain ⟨_, _, _, _, _, _, _, _, _, _, _, _, _, _, _, _, _, _, _, rfl, _⟩ := h; rfl) | (obtain ⟨_, _, _, _, _, _, _, _, _, _, _, _, _, _, _, _, _, _, _, _, rfl, _⟩ := h; rfl) | (obtain ⟨_, _, _, _, _, _, _, _, _, _, _, _, _, _, _, _, _, _, _, _, _, rfl, _⟩ := h; rfl) | (obtain ⟨_, _, _, _, _, _, _, _, _, _, _, _, _, _, _, _, _, _, _, _, _, _, rfl, _⟩ := h; rfl) | (obtain ⟨_, _, _, _, _, _, _, _, _, _, _, _, _, _, _, _, _, _, _, _, _, _, _, rfl, _⟩ := h; rfl) | (obtain ⟨_, _, _, _, _, _, _, _, _, _, _, _, _, _, _, _, _, _, _, _, _, _, _, _, rfl, _⟩ := h; rfl) | (obtain ⟨_, _, _, _, _, _, _, _, _, _, _, _, _, _, _, _, _, _, _, _, _, _, _, _, _, rfl, _⟩ := h; rfl)) (fun cdv A outer s H vs Q E hr h => ⟨_, d_InvalidProfile___init__ bg_RainError g_RainError hr, p_ini_InvalidProfile h⟩)
theorem sc_InvalidWidths___init__ : FnScope ["self", "index"] ["self", "index"] (defScope s_InvalidWidths___init__) := ⟨rfl, rfl, rfl, by decide +kernel, rfl, by decide +kernel, by decide +kernel⟩
theorem d_InvalidWidths___init__ {P : Program} {w : World} {K : PySem.W.Frag} {mg : Str → Option Value} {base : Heap} {C_InvalidWidths : Addr} {CX : CXT} {f : Addr} {cdv : Value} {A : Around} {outer : List Env} {s : Shared} {H : Hp} {E : XK} (bg_RainError : BaseG K C_RainError "ValueError.__init__") (g_RainError : mg "RainError" = some (.ref C_RainError))
    (hr : Room 0 (A.deeper (envOfC "InvalidWidths.__init__" (defScope s_InvalidWidths___init__) s.heap.objs.size f cdv))) :
    PSs (cxOf CX P w K mg base ["self", "index"] "InvalidWidths.__init__" (defScope s_InvalidWidths___init__) f cdv A outer s H E) (defBody s_InvalidWidths___init__) (t_InvalidWidths___init__90 K C_InvalidWidths) :=
  (pss_cons (ps_expr (pe_ownbaseG bg_RainError (by rfl) g_RainError (pa_cons (pv 0) (pa_cons pe_str pa_nil))))
    (pss_one (ps_fst (pv 0) (pv 1))))
theorem ok_InvalidWidths___init__ {P : Program} {w : World} {K : PySem.W.Frag} {mg : Str → Option Value} {base : Heap} {C_InvalidWidths : Addr} {f : Addr} {fd : FuncData} (F : FunD K "__init__" "InvalidWidths.__init__" (defArgs s_InvalidWidths___init__) (defBody s_InvalidWidths___init__) (defScope s_InvalidWidths___init__) [] [] f fd) (bg_RainError : BaseG K C_RainError "ValueError.__init__") (g_RainError : mg "RainError" = some (.ref C_RainError)) : FnOk P w K mg base CX0 1 f fd ["self", "index"] (spExc K C_InvalidWidths "ValueError" "ValueError.__new__" "ValueError.__init__" bm_ValueError "index") :=
  F.ok sc_InvalidWidths___init__ (fun vs H Q E h => by first | (obtain ⟨_, rfl, _⟩ := h; rfl) | (obtain ⟨_, _, rfl, _⟩ := h; rfl) | (obtain ⟨_, _, _, rfl, _⟩ := h; rfl) | (obtain ⟨_, _, _, _, rfl, _⟩ := h; rfl) | (obtain ⟨_, _, _, _, _, rfl, _⟩ := h; rfl) | (obtain ⟨_, _, _, _, _, _, rfl, _⟩ := h; rfl) | (obtain ⟨_, _, _, _, _, _, _, rfl, _⟩ := h; rfl) | (obtain ⟨_, _, _, _, _, _, _, _, rfl, _⟩ := h; rfl) | (obtain ⟨_, _, _, _, _, _, _, _, _, rfl, _⟩ := h; rfl) | (obtain ⟨_, _, _, _, _, _, _, _, _, _, rfl, _⟩ := h; rfl) | (obtain ⟨_, _, _, _, _, _, _, _, _, _, _, rfl, _⟩ := h; rfl) | (obtain ⟨_, _, _, _, _, _, _, _, _, _, _, _, rfl, _⟩ := h; rfl) | (obtain ⟨_, _, _, _, _, _, _, _, _, _, _, _, _, rfl, _⟩ := h; rfl) | (obtain ⟨_, _, _, _, _, _, _, _, _, _, _, _, _, _, rfl, _⟩ := h; rfl) | (obtain ⟨_, _, _, _, _, _, _, _, _, _, _, _, _, _, _, rfl, _⟩ := h; rfl) | (obtain ⟨_, _, _, _, _, _, _, _, _, _, _, _, _, _, _, _, rfl, _⟩ := h; rfl) | (obtain ⟨_, _, _, _, _, _, _, _, _, _, _, _, _, _, _, _, _, rfl, _⟩ := h; rfl) | (obtain ⟨_, _, _, _, _, _, _, _, _, _, _, _, _, _, _, _, _, _, rfl, _⟩ := h; rfl) | (obtain ⟨_, _, _, _, _, _, _, _, _, _, _, _, _, _, _, _, _, _, _, rfl, _⟩ := h; rfl) | (obtain ⟨_, _, _, _, _, _, _, _, _, _, _, _, _, _, _, _, _, _, _, _, rfl, _⟩ := h; rfl) | (obtain ⟨_, _, _, _, _, _, _, _, _, _, _, _, _, _, _, _, _, _, _, _, _, rfl, _⟩ := h; rfl) | (obtain ⟨_, _, _, _, _, _, _, _, _, _, _, _, _, _, _, _, _, _, _, _, _, _, rfl, _⟩ := h; rfl) | (obtain ⟨_, _, _, _, _, _, _, _, _, _, _, _, _, _, _, _, _, _, _, _, _, _, _, rfl, _⟩ := h; rfl) | (obtain ⟨_, _, _, _, _, _, _, _, _, _, _, _, _, _, _, _, _, _, _, _, _, _, _, _, rfl, _⟩ := h; rfl) | (obtain ⟨_, _, _, _, _, _, _, _, _, _, _, _, _, _, _, _, _, _, _, _, _, _, _, _, _, rfl, _⟩ := h; rfl)) (fun cdv A outer s H vs Q E hr h => ⟨_, d_InvalidWidths___init__ bg_RainError g_RainError hr, p_ini_InvalidWidths h⟩)
theorem sc_InvalidWeights___init__ : FnScope ["self", "index"] ["self", "index"] (defScope s_InvalidWeights___init__) := ⟨rfl, rfl, rfl, by decide +kernel, rfl, by decide +kernel, by decide +kernel⟩
theorem d_InvalidWeights___init__ {P : Program} {w : World} {K : PySem.W.Frag} {mg : Str → Option Value} {base : Heap} {C_InvalidWeights : Addr} {CX : CXT} {f : Addr} {cdv : Value} {A : Around} {outer : List Env} {s : Shared} {H : Hp} {E : XK} (bg_RainError : BaseG K C_RainError "ValueError.__init__") (g_RainError : mg "RainError" = some (.ref C_RainError))
    (hr : Room 0 (A.deeper (envOfC "InvalidWeights.__init__" (defScope s_InvalidWeights___init__) s.heap.objs.size f cdv))) :
    PSs (cxOf CX P w K mg base ["self", "index"] "InvalidWeights.__init__" (defScope s_InvalidWeights___init__) f cdv A outer s H E) (defBody s_InvalidWeights___init__) (t_InvalidWeights___init__90 K C_InvalidWeights) :=
  (pss_cons (ps_expr (pe_ownbaseG bg_RainError (by rfl) g_RainError (pa_cons (pv 0) (pa_cons pe_str pa_nil))))
    (pss_one (ps_fst (pv 0) (pv 1))))
theorem ok_InvalidWeights___init__ {P : Program} {w : World} {K : PySem.W.Frag} {mg : Str → Option Value} {base : Heap} {C_InvalidWeights : Addr} {f : Addr} {fd : FuncData} (F : FunD K "__init__" "InvalidWeights.__init__" (defArgs s_InvalidWeights___init__) (defBody s_InvalidWeights___init__) (defScope s_InvalidWeights___init__) [] [] f fd) (bg_RainError : BaseG K C_RainError "ValueError.__init__") (g_RainError : mg "RainError" = some (.ref C_RainError)) : FnOk P w K mg base CX0 1 f fd ["self", "index"] (spExc K C_InvalidWeights "ValueError" "ValueError.__new__" "ValueError.__init__" bm_ValueError "index") :=
  F.ok sc_InvalidWeights___init__ (fun vs H Q E h => by first | (obtain ⟨_, rfl, _⟩ := h; rfl) | (obtain ⟨_, _, rfl, _⟩ := h; rfl) | (obtain ⟨_, _, _, rfl, _⟩ := h; rfl) | (obtain ⟨_, _, _, _, rfl, _⟩ := h; rfl) | (obtain ⟨_, _, _, _, _, rfl, _⟩ := h; rfl) | (obtain ⟨_, _, _, _, _, _, rfl, _⟩ := h; rfl) | (obtain ⟨_, _, _, _, _, _, _, rfl, _⟩ := h; rfl) | (obtain ⟨_, _, _, _, _, _, _, _, rfl, _⟩ := h; rfl) | (obtain ⟨_, _, _, _, _, _, _, _, _, rfl, _⟩ := h; rfl) | (obtain ⟨_, _, _, _, _, _, _, _, _, _, rfl, _⟩ := h; rfl) | (obtain ⟨_, _, _, _, _, _, _, _, _, _, _, rfl, _⟩ := h; rfl) | (obtain ⟨_, _, _, _, _, _, _, _, _, _, _, _, rfl, _⟩ := h; rfl) | (obtain ⟨_, _, _, _, _, _, _, _, _, _, _, _, _, rfl, _⟩ := h; rfl) | (obtain ⟨_, _, _, _, _, _, _, _, _, _, _, _, _, _, rfl, _⟩ := h; rfl) | (obtain ⟨_, _, _, _, _, _, _, _, _, _, _, _, _, _, _, rfl, _⟩ := h; rfl) | (obtain ⟨_, _, _, _, _, _, _, _, _, _, _, _, _, _, _, _, rfl, _⟩ := h; rfl) | (obtain ⟨_, _, _, _, _, _, _, _, _, _, _, _, _, _, _, _, _, rfl, _⟩ := h; rfl) | (obtain ⟨_, _, _, _, _, _, _, _, _, _, _, _, _, _, _, _, _, _, rfl, _⟩ := h; rfl) | (obtain ⟨_, _, _, _, _, _, _, _, _, _, _, _, _, _, _, _, _, _, _, rfl, _⟩ := h; rfl) | (obtain ⟨_, _, _, _, _, _, _, _, _, _, _, _, _, _, _, _, _, _, _, _, rfl, _⟩ := h; rfl) | (obtain ⟨_, _, _, _, _, _, _, _, _, _, _, _, _, _, _, _, _, _, _, _, _, rfl, _⟩ := h; rfl) | (obtain ⟨_, _, _, _, _, _, _, _, _, _, _, _, _, _, _, _, _, _, _, _, _, _, rfl, _⟩ := h; rfl) | (obtain ⟨_, _, _, _, _, _, _, _, _, _, _, _, _, _, _, _, _, _, _, _, _, _, _, rfl, _⟩ := h; rfl) | (obtain ⟨_, _, _, _, _, _, _, _, _, _, _, _, _, _, _, _, _, _, _, _, _, _, _, _, rfl, _⟩ := h; rfl) | (obtain ⟨_, _, _, _, _, _, _, _, _, _, _, _, _, _, _, _, _, _, _, _, _, _, _, _, _, rfl, _⟩ := h; rfl)) (fun cdv A outer s H vs Q E hr h => ⟨_, d_InvalidWeights___init__ bg_RainError g_RainError hr, p_ini_InvalidWeights h⟩)
theorem sc_InvalidObservations___init__ : FnScope ["self", "index"] ["self", "index"] (defScope s_InvalidObservations___init__) := ⟨rfl, rfl, rfl, by decide +kernel, rfl, by decide +kernel, by decide +kernel⟩
theorem d_InvalidObservations___init__ {P : Program} {w : World} {K : PySem.W.Frag} {mg : Str → Option Value} {base : Heap} {C_InvalidObservations : Addr} {CX : CXT} {f : Addr} {cdv : Value} {A : Around} {outer : List Env} {s : Shared} {H : Hp} {E : XK} (bg_RainError : BaseG K C_RainError "ValueError.__init__") (g_RainError : mg "RainError" = some (.ref C_RainError))
    (hr : Room 0 (A.deeper (envOfC "InvalidObservations.__init__" (defScope s_InvalidObservations___init__) s.heap.objs.size f cdv))) :
    PSs (cxOf CX P w K mg base ["self", "index"] "InvalidObservations.__init__" (defScope s_InvalidObservations___init__) f cdv A outer s H E) (defBody s_InvalidObservations___init__) (t_InvalidObservations___init__90 K C_InvalidObservations) :=
  (pss_cons (ps_expr (pe_ownbaseG bg_RainError (by rfl) g_RainError (pa_cons (pv 0) (pa_cons pe_str pa_nil))))
    (pss_one (ps_fst (pv 0) (pv 1))))
theorem ok_InvalidObservations___init__ {P : Program} {w : World} {K : PySem.W.Frag} {mg : Str → Option Value} {base : Heap} {C_InvalidObservations : Addr} {f : Addr} {fd : FuncData} (F : FunD K "__init__" "InvalidObservations.__init__" (defArgs s_InvalidObservations___init__) (defBody s_InvalidObservations___init__) (defScope s_InvalidObservations___init__) [] [] f fd) (bg_RainError : BaseG K C_RainError "ValueError.__init__") (g_RainError : mg "RainError" = some (.ref C_RainError)) : FnOk P w K mg base CX0 1 f fd ["self", "index"] (spExc K C_InvalidObservations "ValueError" "ValueError.__new__" "ValueError.__init__" bm_ValueError "index") :=
  F.ok sc_InvalidObservations___init__ (fun vs H Q E h => by first | (obtain ⟨_, rfl, _⟩ := h; rfl) | (obtain ⟨_, _, rfl, _⟩ := h; rfl) | (obtain ⟨_, _, _, rfl, _⟩ := h; rfl) | (obtain ⟨_, _, _, _, rfl, _⟩ := h; rfl) | (obtain ⟨_, _, _, _, _, rfl, _⟩ := h; rfl) | (obtain ⟨_, _, _, _, _, _, rfl, _⟩ := h; rfl) | (obtain ⟨_, _, _, _, _, _, _, rfl, _⟩ := h; rfl) | (obtain ⟨_, _, _, _, _, _, _, _, rfl, _⟩ := h; rfl) | (obtain ⟨_, _, _, _, _, _, _, _, _, rfl, _⟩ := h; rfl) | (obtain ⟨_, _, _, _, _, _, _, _, _, _, rfl, _⟩ := h; rfl) | (obtain ⟨_, _, _, _, _, _, _, _, _, _, _, rfl, _⟩ := h; rfl) | (obtain ⟨_, _, _, _, _, _, _, _, _, _, _, _, rfl, _⟩ := h; rfl) | (obtain ⟨_, _, _, _, _, _, _, _, _, _, _, _, _, rfl, _⟩ := h; rfl) | (obtain ⟨_, _, _, _, _, _, _, _, _, _, _, _, _, _, rfl, _⟩ := h; rfl) | (obtain ⟨_, _, _, _, _, _, _, _, _, _, _, _, _, _, _, rfl, _⟩ := h; rfl) | (obtain ⟨_, _, _, _, _, _, _, _, _, _, _, _, _, _, _, _, rfl, _⟩ := h; rfl) | (obtain ⟨_, _, _, _, _, _, _, _, _, _, _, _, _, _, _, _, _, rfl, _⟩ := h; rfl) | (obtain ⟨_, _, _, _, _, _, _, _, _, _, _, _, _, _, _, _, _, _, rfl, _⟩ := h; rfl) | (obtain ⟨_, _, _, _, _, _, _, _, _, _, _, _, _, _, _, _, _, _, _, rfl, _⟩ := h; rfl) | (obtain ⟨_, _, _, _, _, _, _, _, _, _, _, _, _, _, _, _, _, _, _, _, rfl, _⟩ := h; rfl) | (obtain ⟨_, _, _, _, _, _, _, _, _, _, _, _, _, _, _, _, _, _, _, _, _, rfl, _⟩ := h; rfl) | (obtain ⟨_, _, _, _, _, _, _, _, _, _, _, _, _, _, _, _, _, _, _, _, _, _, rfl, _⟩ := h; rfl) | (obtain ⟨_, _, _, _, _, _, _, _, _, _, _, _, _, _, _, _, _, _, _, _, _, _, _, rfl, _⟩ := h; rfl) | (obtain ⟨_, _, _, _, _, _, _, _, _, _, _, _, _, _, _, _, _, _, _, _, _, _, _, _, rfl, _⟩ := h; rfl) | (obtain ⟨_, _, _, _, _, _, _, _, _, _, _, _, _, _, _, _, _, _, _, _, _, _, _, _, _, rfl, _⟩ := h; rfl)) (fun cdv A outer s H vs Q E hr h => ⟨_, d_InvalidObservations___init__ bg_RainError g_RainError hr, p_ini_InvalidObservations h⟩)
theorem sc_InvalidOperations___init__ : FnScope ["self", "index"] ["self", "index"] (defScope s_InvalidOperations___init__) := ⟨rfl, rfl, rfl, by decide +kernel, rfl, by decide +kernel, by decide +kernel⟩
theorem d_InvalidOperations___init__ {P : Program} {w : World} {K : PySem.W.Frag} {mg : Str → Option Value} {base : Heap} {C_InvalidOperations : Addr} {CX : CXT} {f : Addr} {cdv : Value} {A : Around} {outer : List Env} {s : Shared} {H : Hp} {E : XK} (bg_RainError : BaseG K C_RainError "ValueError.__init__") (g_RainError : mg "RainError" = some (.ref C_RainError))
    (hr : Room 0 (A.deeper (envOfC "InvalidOperations.__init__" (defScope s_InvalidOperations___init__) s.heap.objs.size f cdv))) :
    PSs (cxOf CX P w K mg base ["self", "index"] "InvalidOperations.__init__" (defScope s_InvalidOperations___init__) f cdv A outer s H E) (defBody s_InvalidOperations___init__) (t_InvalidOperations___init__90 K C_InvalidOperations) :=
  (pss_cons (ps_expr (pe_ownbaseG bg_RainError (by rfl) g_RainError (pa_cons (pv 0) (pa_cons pe_str pa_nil))))
    (pss_one (ps_fst (pv 0) (pv 1))))
theorem ok_InvalidOperations___init__ {P : Program} {w : World} {K : PySem.W.Frag} {mg : Str → Option Value} {base : Heap} {C_InvalidOperations : Addr} {f : Addr} {fd : FuncData} (F : FunD K "__init__" "InvalidOperations.__init__" (defArgs s_InvalidOperations___init__) (defBody s_InvalidOperations___init__) (defScope s_InvalidOperations___init__) [] [] f fd) (bg_RainError : BaseG K C_RainError "ValueError.__init__") (g_RainError : mg "RainError" = some (.ref C_RainError)) : FnOk P w K mg base CX0 1 f fd ["self", "index"] (spExc K C_InvalidOperations "ValueError" "ValueError.__new__" "ValueError.__init__" bm_ValueError "index") :=
  F.ok sc_InvalidOperations___init__ (fun vs H Q E h => by first | (obtain ⟨_, rfl, _⟩ := h; rfl) | (obtain ⟨_, _, rfl, _⟩ := h; rfl) | (obtain ⟨_, _, _, rfl, _⟩ := h; rfl) | (obtain ⟨_, _, _, _, rfl, _⟩ := h; rfl) | (obtain ⟨_, _, _, _, _, rfl, _⟩ := h; rfl) | (obtain ⟨_, _, _, _, _, _, rfl, _⟩ := h; rfl) | (obtain ⟨_, _, _, _, _, _, _, rfl, _⟩ := h; rfl) | (obtain ⟨_, _, _, _, _, _, _, _, rfl, _⟩ := h; rfl) | (obtain ⟨_, _, _, _, _, _, _, _, _, rfl, _⟩ := h; rfl) | (obtain ⟨_, _, _, _, _, _, _, _, _, _, rfl, _⟩ := h; rfl) | (obtain ⟨_, _, _, _, _, _, _, _, _, _, _, rfl, _⟩ := h; rfl) | (obtain ⟨_, _, _, _, _, _, _, _, _, _, _, _, rfl, _⟩ := h; rfl) | (obtain ⟨_, _, _, _, _, _, _, _, _, _, _, _, _, rfl, _⟩ := h; rfl) | (obtain ⟨_, _, _, _, _, _, _, _, _, _, _, _, _, _, rfl, _⟩ := h; rfl) | (obtain ⟨_, _, _, _, _, _, _, _, _, _, _, _, _, _, _, rfl, _⟩ := h; rfl) | (obtain ⟨_, _, _, _, _, _, _, _, _, _, _, _, _, _, _, _, rfl, _⟩ := h; rfl) | (obtain ⟨_, _, _, _, _, _, _, _, _, _, _, _, _, _, _, _, _, rfl, _⟩ := h; rfl) | (obtain ⟨_, _, _, _, _, _, _, _, _, _, _, _, _, _, _, _, _, _, rfl, _⟩ := h; rfl) | (obtain ⟨_, _, _, _, _, _, _, _, _, _, _, _, _, _, _, _, _, _, _, rfl, _⟩ := h; rfl) | (obtain ⟨_, _, _, _, _, _, _, _, _, _, _, _, _, _, _, _, _, _, _, _, rfl, _⟩ := h; rfl) | (obtain ⟨_, _, _, _, _, _, _, _, _, _, _, _, _, _, _, _, _, _, _, _, _, rfl, _⟩ := h; rfl) | (obtain ⟨_, _, _, _, _, _, _, _, _, _, _, _, _, _, _, _, _, _, _, _, _, _, rfl, _⟩ := h; rfl) | (obtain ⟨_, _, _, _, _, _, _, _, _, _, _, _, _, _, _, _, _, _, _, _, _, _, _, rfl, _⟩ := h; rfl) | (obtain ⟨_, _, _, _, _, _, _, _, _, _, _, _, _, _, _, _, _, _, _, _, _, _, _, _, rfl, _⟩ := h; rfl) | (obtain ⟨_, _, _, _, _, _, _, _, _, _, _, _, _, _, _, _, _, _, _, _, _, _, _, _, _, rfl, _⟩ := h; rfl)) (fun cdv A outer s H vs Q E hr h => ⟨_, d_InvalidOperations___init__ bg_RainError g_RainError hr, p_ini_InvalidOperations h⟩)
theorem sc_ParseError___init__ : FnScope ["self", "value"] ["self", "value"] (defScope s_ParseError___init__) := ⟨rfl, rfl, rfl, by decide +kernel, rfl, by decide +kernel, by decide +kernel⟩
theorem d_ParseError___init__ {P : Program} {w : World} {K : PySem.W.Frag} {mg : Str → Option Value} {base : Heap} {C_ParseError : Addr} {CX : CXT} {f : Addr} {cdv : Value} {A : Around} {outer : List Env} {s : Shared} {H : Hp} {E : XK} (bg_RainError : BaseG K C_RainError "ValueError.__init__") (g_RainError : mg "RainError" = some (.ref C_RainError))
    (hr : Room 0 (A.deeper (envOfC "ParseError.__init__" (defScope s_ParseError___init__) s.heap.objs.size f cdv))) :
    PSs (cxOf CX P w K mg base ["self", "value"] "ParseError.__init__" (defScope s_ParseError___init__) f cdv A outer s H E) (defBody s_ParseError___init__) (t_ParseError___init__90 K C_ParseError) :=
  (pss_cons (ps_expr (pe_ownbaseG bg_RainError (by rfl) g_RainError (pa_cons (pv 0) (pa_cons pe_str pa_nil))))
    (pss_one (ps_fst (pv 0) (pv 1))))
theorem ok_ParseError___init__ {P : Program} {w : World} {K : PySem.W.Frag} {mg : Str → Option Value} {base : Heap} {C_ParseError : Addr} {f : Addr} {fd : FuncData} (F : FunD K "__init__" "ParseError.__init__" (defArgs s_ParseError___init__) (defBody s_ParseError___init__) (defScope s_ParseError___init__) [] [] f fd) (bg_RainError : BaseG K C_RainError "ValueError.__init__") (g_RainError : mg "RainError" = some (.ref C_RainError)) : FnOk P w K mg base CX0 1 f fd ["self", "value"] (spExc K C_ParseError "ValueError" "ValueError.__new__" "ValueError.__init__" bm_ValueError "value") :=
  F.ok sc_ParseError___init__ (fun vs H Q E h => by first | (obtain ⟨_, rfl, _⟩ := h; rfl) | (obtain ⟨_, _, rfl, _⟩ := h; rfl) | (obtain ⟨_, _, _, rfl, _⟩ := h; rfl) | (obtain ⟨_, _, _, _, rfl, _⟩ := h; rfl) | (obtain ⟨_, _, _, _, _, rfl, _⟩ := h; rfl) | (obtain ⟨_, _, _, _, _, _, rfl, _⟩ := h; rfl) | (obtain ⟨_, _, _, _, _, _, _, rfl, _⟩ := h; rfl) | (obtain ⟨_, _, _, _, _, _, _, _, rfl, _⟩ := h; rfl) | (obtain ⟨_, _, _, _, _, _, _, _, _, rfl, _⟩ := h; rfl) | (obtain ⟨_, _, _, _, _, _, _, _, _, _, rfl, _⟩ := h; rfl) | (obtain ⟨_, _, _, _, _, _, _, _, _, _, _, rfl, _⟩ := h; rfl) | (obtain ⟨_, _, _, _, _, _, _, _, _, _, _, _, rfl, _⟩ := h; rfl) | (obtain ⟨_, _, _, _, _, _, _, _, _, _, _, _, _, rfl, _⟩ := h; rfl) | (obtain ⟨_, _, _, _, _, _, _, _, _, _, _, _, _, _, rfl, _⟩ := h; rfl) | (obtain ⟨_, _, _, _, _, _, _, _, _, _, _, _, _, _, _, rfl, _⟩ := h; rfl) | (obtain ⟨_, _, _, _, _, _, _, _, _, _, _, _, _, _, _, _, rfl, _⟩ := h; rfl) | (obtain ⟨_, _, _, _, _, _, _, _, _, _, _, _, _, _, _, _, _, rfl, _⟩ := h; rfl) | (obtain ⟨_, _, _, _, _, _, _, _, _, _, _, _, _, _, _, _, _, _, rfl, _⟩ := h; rfl) | (obtain ⟨_, _, _, _, _, _, _, _, _, _, _, _, _, _, _, _, _, _, _, rfl, _⟩ := h; rfl) | (obtain ⟨_, _, _, _, _, _, _, _, _, _, _, _, _, _, _, _, _, _, _, _, rfl, _⟩ := h; rfl) | (obtain ⟨_, _, _, _, _, _, _, _, _, _, _, _, _, _, _, _, _, _, _, _, _, rfl, _⟩ := h; rfl) | (obtain ⟨_, _, _, _, _, _, _, _, _, _, _, _, _, _, _, _, _, _, _, _, _, _, rfl, _⟩ := h; rfl) | (obtain ⟨_, _, _, _, _, _, _, _, _, _, _, _, _, _, _, _, _, _, _, _, _, _, _, rfl, _⟩ := h; rfl) | (obtain ⟨_, _, _, _, _, _, _, _, _, _, _, _, _, _, _, _, _, _, _, _, _, _, _, _, rfl, _⟩ := h; rfl) | (obtain ⟨_, _, _, _, _, _, _, _, _, _, _, _, _, _, _, _, _, _, _, _, _, _, _, _, _, rfl, _⟩ := h; rfl)) (fun cdv A outer s H vs Q E hr h => ⟨_, d_ParseError___init__ bg_RainError g_RainError hr, p_ini_ParseError h⟩)
theorem sc_InvalidCommand___init__ : FnScope ["self", "value"] ["self", "value"] (defScope s_InvalidCommand___init__) := ⟨rfl, rfl, rfl, by decide +kernel, rfl, by decide +kernel, by decide +kernel⟩
theorem d_InvalidCommand___init__ {P : Program} {w : World} {K : PySem.W.Frag} {mg : Str → Option Value} {base : Heap} {C_InvalidCommand : Addr} {CX : CXT} {f : Addr} {cdv : Value} {A : Around} {outer : List Env} {s : Shared} {H : Hp} {E : XK} (bg_RainError : BaseG K C_RainError "ValueError.__init__") (g_RainError : mg "RainError" = some (.ref C_RainError))
    (hr : Room 0 (A.deeper (envOfC "InvalidCommand.__init__" (defScope s_InvalidCommand___init__) s.heap.objs.size f cdv))) :
    PSs (cxOf CX P w K mg base ["self", "value"] "InvalidCommand.__init__" (defScope s_InvalidCommand___init__) f cdv A outer s H E) (defBody s_InvalidCommand___init__) (t_InvalidCommand___init__90 K C_InvalidCommand) :=
  (pss_cons (ps_expr (pe_ownbaseG bg_RainError (by rfl) g_RainError (pa_cons (pv 0) (pa_cons pe_str pa_nil))))
    (pss_one (ps_fst (pv 0) (pv 1))))
theorem ok_InvalidCommand___init__ {P : Program} {w : World} {K : PySem.W.Frag} {mg : Str → Option Value} {base : Heap} {C_InvalidCommand : Addr} {f : Addr} {fd : FuncData} (F : FunD K "__init__" "InvalidCommand.__init__" (defArgs s_InvalidCommand___init__) (defBody s_InvalidCommand___init__) (defScope s_InvalidCommand___init__) [] [] f fd) (bg_RainError : BaseG K C_RainError "ValueError.__init__") (g_RainError : mg "RainError" = some (.ref C_RainError)) : FnOk P w K mg base CX0 1 f fd ["self", "value"] (spExc K C_InvalidCommand "ValueError" "ValueError.__new__" "ValueError.__init__" bm_ValueError "value") :=
  F.ok sc_InvalidCommand___init__ (fun vs H Q E h => by first | (obtain ⟨_, rfl, _⟩ := h; rfl) | (obtain ⟨_, _, rfl, _⟩ := h; rfl) | (obtain ⟨_, _, _, rfl, _⟩ := h; rfl) | (obtain ⟨_, _, _, _, rfl, _⟩ := h; rfl) | (obtain ⟨_, _, _, _, _, rfl, _⟩ := h; rfl) | (obtain ⟨_, _, _, _, _, _, rfl, _⟩ := h; rfl) | (obtain ⟨_, _, _, _, _, _, _, rfl, _⟩ := h; rfl) | (obtain ⟨_, _, _, _, _, _, _, _, rfl, _⟩ := h; rfl) | (obtain ⟨_, _, _, _, _, _, _, _, _, rfl, _⟩ := h; rfl) | (obtain ⟨_, _, _, _, _, _, _, _, _, _, rfl, _⟩ := h; rfl) | (obtain ⟨_, _, _, _, _, _, _, _, _, _, _, rfl, _⟩ := h; rfl) | (obtain ⟨_, _, _, _, _, _, _, _, _, _, _, _, rfl, _⟩ := h; rfl) | (obtain ⟨_, _, _, _, _, _, _, _, _, _, _, _, _, rfl, _⟩ := h; rfl) | (obtain ⟨_, _, _, _, _, _, _, _, _, _, _, _, _, _, rfl, _⟩ := h; rfl) | (obtain ⟨_, _, _, _, _, _, _, _, _, _, _, _, _, _, _, rfl, _⟩ := h; rfl) | (obtain ⟨_, _, _, _, _, _, _, _, _, _, _, _, _, _, _, _, rfl, _⟩ := h; rfl) | (obtain ⟨_, _, _, _, _, _, _, _, _, _, _, _, _, _, _, _, _, rfl, _⟩ := h; rfl) | (obtain ⟨_, _, _, _, _, _, _, _, _, _, _, _, _, _, _, _, _, _, rfl, _⟩ := h; rfl) | (obtain ⟨_, _, _, _, _, _, _, _, _, _, _, _, _, _, _, _, _, _, _, rfl, _⟩ := h; rfl) | (obtain ⟨_, _, _, _, _, _, _, _, _, _, _, _, _, _, _, _, _, _, _, _, rfl, _⟩ := h; rfl) | (obtain ⟨_, _, _, _, _, _, _, _, _, _, _, _, _, _, _, _, _, _, _, _, _, rfl, _⟩ := h; rfl) | (obtain ⟨_, _, _, _, _, _, _, _, _, _, _, _, _, _, _, _, _, _, _, _, _, _, rfl, _⟩ := h; rfl) | (obtain ⟨_, _, _, _, _, _, _, _, _, _, _, _, _, _, _, _, _, _, _, _, _, _, _, rfl, _⟩ := h; rfl) | (obtain ⟨_, _, _, _, _, _, _, _, _, _, _, _, _, _, _, _, _, _, _, _, _, _, _, _, rfl, _⟩ := h; rfl) | (obtain ⟨_, _, _, _, _, _, _, _, _, _, _, _, _, _, _, _, _, _, _, _, _, _, _, _, _, rfl, _⟩ := h; rfl)) (fun cdv A outer s H vs Q E hr h => ⟨_, d_InvalidCommand___init__ bg_RainError g_RainError hr, p_ini_InvalidCommand h⟩)
theorem sc_InvalidCascade___init__ : FnScope ["self", "name"] ["self", "name"] (defScope s_InvalidCascade___init__) := ⟨rfl, rfl, rfl, by decide +kernel, rfl, by decide +kernel, by decide +kernel⟩
theorem d_InvalidCascade___init__ {P : Program} {w : World} {K : PySem.W.Frag} {mg : Str → Option Value} {base : Heap} {C_InvalidCascade : Addr} {CX : CXT} {f : Addr} {cdv : Value} {A : Around} {outer : List Env} {s : Shared} {H : Hp} {E : XK} (bg_RainError : BaseG K C_RainError "ValueError.__init__") (g_RainError : mg "RainError" = some (.ref C_RainError))
    (hr : Room 0 (A.deeper (envOfC "InvalidCascade.__init__" (defScope s_InvalidCascade___init__) s.heap.objs.size f cdv))) :
    PSs (cxOf CX P w K mg base ["self", "name"] "InvalidCascade.__init__" (defScope s_InvalidCascade___init__) f cdv A outer s H E) (defBody s_InvalidCascade___init__) (t_InvalidCascade___init__90 K C_InvalidCascade) :=
  (pss_cons (ps_expr (pe_ownbaseG bg_RainError (by rfl) g_RainError (pa_cons (pv 0) (pa_cons pe_str pa_nil))))
    (pss_one (ps_fst (pv 0) (pv 1))))
theorem ok_InvalidCascade___init__ {P : Program} {w : World} {K : PySem.W.Frag} {mg : Str → Option Value} {base : Heap} {C_InvalidCascade : Addr} {f : Addr} {fd : FuncData} (F : FunD K "__init__" "InvalidCascade.__init__" (defArgs s_InvalidCascade___init__) (defBody s_InvalidCascade___init__) (defScope s_InvalidCascade___init__) [] [] f fd) (bg_RainError : BaseG K C_RainError "ValueError.__init__") (g_RainError : mg "RainError" = some (.ref C_RainError)) : FnOk P w K mg base CX0 1 f fd ["self", "name"] (spExc K C_InvalidCascade "ValueError" "ValueError.__new__" "ValueError.__init__" bm_ValueError "name") :=
  F.ok sc_InvalidCascade___init__ (fun vs H Q E h => by first | (obtain ⟨_, rfl, _⟩ := h; rfl) | (obtain ⟨_, _, rfl, _⟩ := h; rfl) | (obtain ⟨_, _, _, rfl, _⟩ := h; rfl) | (obtain ⟨_, _, _, _, rfl, _⟩ := h; rfl) | (obtain ⟨_, _, _, _, _, rfl, _⟩ := h; rfl) | (obtain ⟨_, _, _, _, _, _, rfl, _⟩ := h; rfl) | (obtain ⟨_, _, _, _, _, _, _, rfl, _⟩ := h; rfl) | (obtain ⟨_, _, _, _, _, _, _, _, rfl, _⟩ := h; rfl) | (obtain ⟨_, _, _, _, _, _, _, _, _, rfl, _⟩ := h; rfl) | (obtain ⟨_, _, _, _, _, _, _, _, _, _, rfl, _⟩ := h; rfl) | (obtain ⟨_, _, _, _, _, _, _, _, _, _, _, rfl, _⟩ := h; rfl) | (obtain ⟨_, _, _, _, _, _, _, _, _, _, _, _, rfl, _⟩ := h; rfl) | (obtain ⟨_, _, _, _, _, _, _, _, _, _, _, _, _, rfl, _⟩ := h; rfl) | (obtain ⟨_, _, _, _, _, _, _, _, _, _, _, _, _, _, rfl, _⟩ := h; rfl) | (obtain ⟨_, _, _, _, _, _, _, _, _, _, _, _, _, _, _, rfl, _⟩ := h; rfl) | (obtain ⟨_, _, _, _, _, _, _, _, _, _, _, _, _, _, _, _, rfl, _⟩ := h; rfl) | (obtain ⟨_, _, _, _, _, _, _, _, _, _, _, _, _, _, _, _, _, rfl, _⟩ := h; rfl) | (obtain ⟨_, _, _, _, _, _, _, _, _, _, _, _, _, _, _, _, _, _, rfl, _⟩ := h; rfl) | (obtain ⟨_, _, _, _, _, _, _, _, _, _, _, _, _, _, _, _, _, _, _, rfl, _⟩ := h; rfl) | (obtain ⟨_, _, _, _, _, _, _, _, _, _, _, _, _, _, _, _, _, _, _, _, rfl, _⟩ := h; rfl) | (obtain ⟨_, _, _, _, _, _, _, _, _, _, _, _, _, _, _, _, _, _, _, _, _, rfl, _⟩ := h; rfl) | (obtain ⟨_, _, _, _, _, _, _, _, _, _, _, _, _, _, _, _, _, _, _, _, _, _, rfl, _⟩ := h; rfl) | (obtain ⟨_, _, _, _, _, _, _, _, _, _, _, _, _, _, _, _, _, _, _, _, _, _, _, rfl, _⟩ := h; rfl) | (obtain ⟨_, _, _, _, _, _, _, _, _, _, _, _, _, _, _, _, _, _, _, _, _, _, _, _, rfl, _⟩ := h; rfl) | (obtain ⟨_, _, _, _, _, _, _, _, _, _, _, _, _, _, _, _, _, _, _, _, _, _, _, _, _, rfl, _⟩ := h; rfl)) (fun cdv A outer s H vs Q E hr h => ⟨_, d_InvalidCascade___init__ bg_RainError g_RainError hr, p_ini_InvalidCascade h⟩)
theorem sc_ScriptError___init__ : FnScope ["self", "line"] ["self", "line"] (defScope s_ScriptError___init__) := ⟨rfl, rfl, rfl, by decide +kernel, rfl, by decide +kernel, by decide +kernel⟩
theorem d_ScriptError___init__ {P : Program} {w : World} {K : PySem.W.Frag} {mg : Str → Option Value} {base : Heap} {C_ScriptError : Addr} {CX : CXT} {f : Addr} {cdv : Value} {A : Around} {outer : List Env} {s : Shared} {H : Hp} {E : XK} (bg_RainError : BaseG K C_RainError "ValueError.__init__") (g_RainError : mg "RainError" = some (.ref C_RainError))
    (hr : Room 0 (A.deeper (envOfC "ScriptError.__init__" (defScope s_ScriptError___init__) s.heap.objs.size f cdv))) :
    PSs (cxOf CX P w K mg base ["self", "line"] "ScriptError.__init__" (defScope s_ScriptError___init__) f cdv A outer s H E) (defBody s_ScriptError___init__) (t_ScriptError___init__90 K C_ScriptError) :=
  (pss_cons (ps_expr (pe_ownbaseG bg_RainError (by rfl) g_RainError (pa_cons (pv 0) (pa_cons pe_str pa_nil))))
    (pss_one (ps_fst (pv 0) (pv 1))))
theorem ok_ScriptError___init__ {P : Program} {w : World} {K : PySem.W.Frag} {mg : Str → Option Value} {base : Heap} {C_ScriptError : Addr} {f : Addr} {fd : FuncData} (F : FunD K "__init__" "ScriptError.__init__" (defArgs s_ScriptError___init__) (defBody s_ScriptError___init__) (defScope s_ScriptError___init__) [] [] f fd) (bg_RainError : BaseG K C_RainError "ValueError.__init__") (g_RainError : mg "RainError" = some (.ref C_RainError)) : FnOk P w K mg base CX0 1 f fd ["self", "line"] (spExc K C_ScriptError "ValueError" "ValueError.__new__" "ValueError.__init__" bm_ValueError "line") :=
  F.ok sc_ScriptError___init__ (fun vs H Q E h => by first | (obtain ⟨_, rfl, _⟩ := h; rfl) | (obtain ⟨_, _, rfl, _⟩ := h; rfl) | (obtain ⟨_, _, _, rfl, _⟩ := h; rfl) | (obtain ⟨_, _, _, _, rfl, _⟩ := h; rfl) | (obtain ⟨_, _, _, _, _, rfl, _⟩ := h; rfl) | (obtain ⟨_, _, _, _, _, _, rfl, _⟩ := h; rfl) | (obtain ⟨_, _, _, _, _, _, _, rfl, _⟩ := h; rfl) | (obtain ⟨_, _, _, _, _, _, _, _, rfl, _⟩ := h; rfl) | (obtain ⟨_, _, _, _, _, _, _, _, _, rfl, _⟩ := h; rfl) | (obtain ⟨_, _, _, _, _, _, _, _, _, _, rfl, _⟩ := h; rfl) | (obtain ⟨_, _, _, _, _, _, _, _, _, _, _, rfl, _⟩ := h; rfl) | (obtain ⟨_, _, _, _, _, _, _, _, _, _, _, _, rfl, _⟩ := h; rfl) | (obtain ⟨_, _, _, _, _, _, _, _, _, _, _, _, _, rfl, _⟩ := h; rfl) | (obtain ⟨_, _, _, _, _, _, _, _, _, _, _, _, _, _, rfl, _⟩ := h; rfl) | (obtain ⟨_, _, _, _, _, _, _, _, _, _, _, _, _, _, _, rfl, _⟩ := h; rfl) | (obtain ⟨_, _, _, _, _, _, _, _, _, _, _, _, _, _, _, _, rfl, _⟩ := h; rfl) | (obtain ⟨_, _, _, _, _, _, _, _, _, _, _, _, _, _, _, _, _, rfl, _⟩ := h; rfl) | (obtain ⟨_, _, _, _, _, _, _, _, _, _, _, _, _, _, _, _, _, _, rfl, _⟩ := h; rfl) | (obtain ⟨_, _, _, _, _, _, _, _, _, _, _, _, _, _, _, _, _, _, _, rfl, _⟩ := h; rfl) | (obtain ⟨_, _, _, _, _, _, _, _, _, _, _, _, _, _, _, _, _, _, _, _, rfl, _⟩ := h; rfl) | (obtain ⟨_, _, _, _, _, _, _, _, _, _, _, _, _, _, _, _, _, _, _, _, _, rfl, _⟩ := h; rfl) | (obtain ⟨_, _, _, _, _, _, _, _, _, _, _, _, _, _, _, _, _, _, _, _, _, _, rfl, _⟩ := h; rfl) | (obtain ⟨_, _, _, _, _, _, _, _, _, _, _, _, _, _, _, _, _, _, _, _, _, _, _, rfl, _⟩ := h; rfl) | (obtain ⟨_, _, _, _, _, _, _, _, _, _, _, _, _, _, _, _, _, _, _, _, _, _, _, _, rfl, _⟩ := h; rfl) | (obtain ⟨_, _, _, _, _, _, _, _, _, _, _, _, _, _, _, _, _, _, _, _, _, _, _, _, _, rfl, _⟩ := h; rfl)) (fun cdv A outer s H vs Q E hr h => ⟨_, d_ScriptError___init__ bg_RainError g_RainError hr, p_ini_ScriptError h⟩)
theorem sc_InvalidColumn___init__ : FnScope ["self", "value"] ["self", "value"] (defScope s_InvalidColumn___init__) := ⟨rfl, rfl, rfl, by decide +kernel, rfl, by decide +kernel, by decide +kernel⟩
theorem d_InvalidColumn___init__ {P : Program} {w : World} {K : PySem.W.Frag} {mg : Str → Option Value} {base : Heap} {C_InvalidColumn : Addr} {CX : CXT} {f : Addr} {cdv : Value} {A : Around} {outer : List Env} {s : Shared} {H : Hp} {E : XK} (vi_IndexError : PySem.W.findCls K (.type "IndexError") (.type "type") "__init__" = some (.val (.builtin "IndexError.__init__"))) (m_IndexError : mg "IndexError" = none)
    (hr : Room 0 (A.deeper (envOfC "InvalidColumn.__init__" (defScope s_InvalidColumn___init__) s.heap.objs.size f cdv))) :
    PSs (cxOf CX P w K mg base ["self", "value"] "InvalidColumn.__init__" (defScope s_InvalidColumn___init__) f cdv A outer s H E) (defBody s_InvalidColumn___init__) (t_InvalidColumn___init__90 K C_InvalidColumn) :=
  (pss_cons (ps_expr (pe_stdbase (by rfl) m_IndexError (by decide +kernel) (by rfl) (by decide +kernel) vi_IndexError (by decide +kernel) (pa_cons (pv 0) (pa_cons pe_str pa_nil))))
    (pss_one (ps_fst (pv 0) (pv 1))))
theorem ok_InvalidColumn___init__ {P : Program} {w : World} {K : PySem.W.Frag} {mg : Str → Option Value} {base : Heap} {C_InvalidColumn : Addr} {f : Addr} {fd : FuncData} (F : FunD K "__init__" "InvalidColumn.__init__" (defArgs s_InvalidColumn___init__) (defBody s_InvalidColumn___init__) (defScope s_InvalidColumn___init__) [] [] f fd) (vi_IndexError : PySem.W.findCls K (.type "IndexError") (.type "type") "__init__" = some (.val (.builtin "IndexError.__init__"))) (m_IndexError : mg "IndexError" = none) : FnOk P w K mg base CX0 1 f fd ["self", "value"] (spExc K C_InvalidColumn "IndexError" "IndexError.__new__" "IndexError.__init__" bm_IndexError "value") :=
  F.ok sc_InvalidColumn___init__ (fun vs H Q E h => by first | (obtain ⟨_, rfl, _⟩ := h; rfl) | (obtain ⟨_, _, rfl, _⟩ := h; rfl) | (obtain ⟨_, _, _, rfl, _⟩ := h; rfl) | (obtain ⟨_, _, _, _, rfl, _⟩ := h; rfl) | (obtain ⟨_, _, _, _, _, rfl, _⟩ := h; rfl) | (obtain ⟨_, _, _, _, _, _, rfl, _⟩ := h; rfl) | (obtain ⟨_, _, _, _, _, _, _, rfl, _⟩ := h; rfl) | (obtain ⟨_, _, _, _, _, _, _, _, rfl, _⟩ := h; rfl) | (obtain ⟨_, _, _, _, _, _, _, _, _, rfl, _⟩ := h; rfl) | (obtain ⟨_, _, _, _, _, _, _, _, _, _, rfl, _⟩ := h; rfl) | (obtain ⟨_, _, _, _, _, _, _, _, _, _, _, rfl, _⟩ := h; rfl) | (obtain ⟨_, _, _, _, _, _, _, _, _, _, _, _, rfl, _⟩ := h; rfl) | (obtain ⟨_, _, _, _, _, _, _, _, _, _, _, _, _, rfl, _⟩ := h; rfl) | (obtain ⟨_, _, _, _, _, _, _, _, _, _, _, _, _, _, rfl, _⟩ := h; rfl) | (obtain ⟨_, _, _, _, _, _, _, _, _, _, _, _, _, _, _, rfl, _⟩ := h; rfl) | (obtain ⟨_, _, _, _, _, _, _, _, _, _, _, _, _, _, _, _, rfl, _⟩ := h; rfl) | (obtain ⟨_, _, _, _, _, _, _, _, _, _, _, _, _, _, _, _, _, rfl, _⟩ := h; rfl) | (obtain ⟨_, _, _, _, _, _, _, _, _, _, _, _, _, _, _, _, _, _, rfl, _⟩ := h; rfl) | (obtain ⟨_, _, _, _, _, _, _, _, _, _, _, _, _, _, _, _, _, _, _, rfl, _⟩ := h; rfl) | (obtain ⟨_, _, _, _, _, _, _, _, _, _, _, _, _, _, _, _, _, _, _, _, rfl, _⟩ := h; rfl) | (obtain ⟨_, _, _, _, _, _, _, _, _, _, _, _, _, _, _, _, _, _, _, _, _, rfl, _⟩ := h; rfl) | (obtain ⟨_, _, _, _, _, _, _, _, _, _, _, _, _, _, _, _, _, _, _, _, _, _, rfl, _⟩ := h; rfl) | (obtain ⟨_, _, _, _, _, _, _, _, _, _, _, _, _, _, _, _, _, _, _, _, _, _, _, rfl, _⟩ := h; rfl) | (obtain ⟨_, _, _, _, _, _, _, _, _, _, _, _, _, _, _, _, _, _, _, _, _, _, _, _, rfl, _⟩ := h; rfl) | (obtain ⟨_, _, _, _, _, _, _, _, _, _, _, _, _, _, _, _, _, _, _, _, _, _, _, _, _, rfl, _⟩ := h; rfl)) (fun cdv A outer s H vs Q E hr h => ⟨_, d_InvalidColumn___init__ vi_IndexError m_IndexError hr, p_ini_InvalidColumn h⟩)
theorem sc_InvalidValley___init__ : FnScope ["self", "value"] ["self", "value"] (defScope s_InvalidValley___init__) := ⟨rfl, rfl, rfl, by decide +kernel, rfl, by decide +kernel, by decide +kernel⟩
theorem d_InvalidValley___init__ {P : Program} {w : World} {K : PySem.W.Frag} {mg : Str → Option Value} {base : Heap} {C_InvalidValley : Addr} {CX : CXT} {f : Addr} {cdv : Value} {A : Around} {outer : List Env} {s : Shared} {H : Hp} {E : XK} (vi_IndexError : PySem.W.findCls K (.type "IndexError") (.type "type") "__init__" = some (.val (.builtin "IndexError.__init__"))) (m_IndexError : mg "IndexError" = none)
    (hr : Room 0 (A.deeper (envOfC "InvalidValley.__init__" (defScope s_InvalidValley___init__) s.heap.objs.size f cdv))) :
    PSs (cxOf CX P w K mg base ["self", "value"] "InvalidValley.__init__" (defScope s_InvalidValley___init__) f cdv A outer s H E) (defBody s_InvalidValley___init__) (t_InvalidValley___init__90 K C_InvalidValley) :=
  (pss_cons (ps_expr (pe_stdbase (by rfl) m_IndexError (by decide +kernel) (by rfl) (by decide +kernel) vi_IndexError (by decide +kernel) (pa_cons (pv 0) (pa_cons pe_str pa_nil))))
    (pss_one (ps_fst (pv 0) (pv 1))))
theorem ok_InvalidValley___init__ {P : Program} {w : World} {K : PySem.W.Frag} {mg : Str → Option Value} {base : Heap} {C_InvalidValley : Addr} {f : Addr} {fd : FuncData} (F : FunD K "__init__" "InvalidValley.__init__" (defArgs s_InvalidValley___init__) (defBody s_InvalidValley___init__) (defScope s_InvalidValley___init__) [] [] f fd) (vi_IndexError : PySem.W.findCls K (.type "IndexError") (.type "type") "__init__" = some (.val (.builtin "IndexError.__init__"))) (m_IndexError : mg "IndexError" = none) : FnOk P w K mg base CX0 1 f fd ["self", "value"] (spExc K C_InvalidValley "IndexError" "IndexError.__new__" "IndexError.__init__" bm_IndexError "value") :=
  F.ok sc_InvalidValley___init__ (fun vs H Q E h => by first | (obtain ⟨_, rfl, _⟩ := h; rfl) | (obtain ⟨_, _, rfl, _⟩ := h; rfl) | (obtain ⟨_, _, _, rfl, _⟩ := h; rfl) | (obtain ⟨_, _, _, _, rfl, _⟩ := h; rfl) | (obtain ⟨_, _, _, _, _, rfl, _⟩ := h; rfl) | (obtain ⟨_, _, _, _, _, _, rfl, _⟩ := h; rfl) | (obtain ⟨_, _, _, _, _, _, _, rfl, _⟩ := h; rfl) | (obtain ⟨_, _, _, _, _, _, _, _, rfl, _⟩ := h; rfl) | (obtain ⟨_, _, _, _, _, _, _, _, _, rfl, _⟩ := h; rfl) | (obtain ⟨_, _, _, _, _, _, _, _, _, _, rfl, _⟩ := h; rfl) | (obtain ⟨_, _, _, _, _, _, _, _, _, _, _, rfl, _⟩ := h; rfl) | (obtain ⟨_, _, _, _, _, _, _, _, _, _, _, _, rfl, _⟩ := h; rfl) | (obtain ⟨_, _, _, _, _, _, _, _, _, _, _, _, _, rfl, _⟩ := h; rfl) | (obtain ⟨_, _, _, _, _, _, _, _, _, _, _, _, _, _, rfl, _⟩ := h; rfl) | (obtain ⟨_, _, _, _, _, _, _, _, _, _, _, _, _, _, _, rfl, _⟩ := h; rfl) | (obtain ⟨_, _, _, _, _, _, _, _, _, _, _, _, _, _, _, _, rfl, _⟩ := h; rfl) | (obtain ⟨_, _, _, _, _, _, _, _, _, _, _, _, _, _, _, _, _, rfl, _⟩ := h; rfl) | (obtain ⟨_, _, _, _, _, _, _, _, _, _, _, _, _, _, _, _, _, _, rfl, _⟩ := h; rfl) | (obtain ⟨_, _, _, _, _, _, _, _, _, _, _, _, _, _, _, _, _, _, _, rfl, _⟩ := h; rfl) | (obtain ⟨_, _, _, _, _, _, _, _, _, _, _, _, _, _, _, _, _, _, _, _, rfl, _⟩ := h; rfl) | (obtain ⟨_, _, _, _, _, _, _, _, _, _, _, _, _, _, _, _, _, _, _, _, _, rfl, _⟩ := h; rfl) | (obtain ⟨_, _, _, _, _, _, _, _, _, _, _, _, _, _, _, _, _, _, _, _, _, _, rfl, _⟩ := h; rfl) | (obtain ⟨_, _, _, _, _, _, _, _, _, _, _, _, _, _, _, _, _, _, _, _, _, _, _, rfl, _⟩ := h; rfl) | (obtain ⟨_, _, _, _, _, _, _, _, _, _, _, _, _, _, _, _, _, _, _, _, _, _, _, _, rfl, _⟩ := h; rfl) | (obtain ⟨_, _, _, _, _, _, _, _, _, _, _, _, _, _, _, _, _, _, _, _, _, _, _, _, _, rfl, _⟩ := h; rfl)) (fun cdv A outer s H vs Q E hr h => ⟨_, d_InvalidValley___init__ vi_IndexError m_IndexError hr, p_ini_InvalidValley h⟩)
theorem sc_UnknownName___init__ : FnScope ["self", "name"] ["self", "name"] (defScope s_UnknownName___init__) := ⟨rfl, rfl, rfl, by decide +kernel, rfl, by decide +kernel, by decide +kernel⟩
theorem d_UnknownName___init__ {P : Program} {w : World} {K : PySem.W.Frag} {mg : Str → Option Value} {base : Heap} {C_UnknownName : Addr} {CX : CXT} {f : Addr} {cdv : Value} {A : Around} {outer : List Env} {s : Shared} {H : Hp} {E : XK} (vi_KeyError : PySem.W.findCls K (.type "KeyError") (.type "type") "__init__" = some (.val (.builtin "KeyError.__init__"))) (m_KeyError : mg "KeyError" = none)
    (hr : Room 0 (A.deeper (envOfC "UnknownName.__init__" (defScope s_UnknownName___init__) s.heap.objs.size f cdv))) :
    PSs (cxOf CX P w K mg base ["self", "name"] "UnknownName.__init__" (defScope s_UnknownName___init__) f cdv A outer s H E) (defBody s_UnknownName___init__) (t_UnknownName___init__90 K C_UnknownName) :=
  (pss_cons (ps_expr (pe_stdbase (by rfl) m_KeyError (by decide +kernel) (by rfl) (by decide +kernel) vi_KeyError (by decide +kernel) (pa_cons (pv 0) (pa_cons pe_str pa_nil))))
    (pss_one (ps_fst (pv 0) (pv 1))))
theorem ok_UnknownName___init__ {P : Program} {w : World} {K : PySem.W.Frag} {mg : Str → Option Value} {base : Heap} {C_UnknownName : Addr} {f : Addr} {fd : FuncData} (F : FunD K "__init__" "UnknownName.__init__" (defArgs s_UnknownName___init__) (defBody s_UnknownName___init__) (defScope s_UnknownName___init__) [] [] f fd) (vi_KeyError : PySem.W.findCls K (.type "KeyError") (.type "type") "__init__" = some (.val (.builtin "KeyError.__init__"))) (m_KeyError : mg "KeyError" = none) : FnOk P w K mg base CX0 1 f fd ["self", "name"] (spExc K C_UnknownName "KeyError" "LookupError.__new__" "KeyError.__init__" bm_KeyError "name") :=
  F.ok sc_UnknownName___init__ (fun vs H Q E h => by first | (obtain ⟨_, rfl, _⟩ := h; rfl) | (obtain ⟨_, _, rfl, _⟩ := h; rfl) | (obtain ⟨_, _, _, rfl, _⟩ := h; rfl) | (obtain ⟨_, _, _, _, rfl, _⟩ := h; rfl) | (obtain ⟨_, _, _, _, _, rfl, _⟩ := h; rfl) | (obtain ⟨_, _, _, _, _, _, rfl, _⟩ := h; rfl) | (obtain ⟨_, _, _, _, _, _, _, rfl, _⟩ := h; rfl) | (obtain ⟨_, _, _, _, _, _, _, _, rfl, _⟩ := h; rfl) | (obtain ⟨_, _, _, _, _, _, _, _, _, rfl, _⟩ := h; rfl) | (obtain ⟨_, _, _, _, _, _, _, _, _, _, rfl, _⟩ := h; rfl) | (obtain ⟨_, _, _, _, _, _, _, _, _, _, _, rfl, _⟩ := h; rfl) | (obtain ⟨_, _, _, _, _, _, _, _, _, _, _, _, rfl, _⟩ := h; rfl) | (obtain ⟨_, _, _, _, _, _, _, _, _, _, _, _, _, rfl, _⟩ := h; rfl) | (obtain ⟨_, _, _, _, _, _, _, _, _, _, _, _, _, _, rfl, _⟩ := h; rfl) | (obtain ⟨_, _, _, _, _, _, _, _, _, _, _, _, _, _, _, rfl, _⟩ := h; rfl) | (obtain ⟨_, _, _, _, _, _, _, _, _, _, _, _, _, _, _, _, rfl, _⟩ := h; rfl) | (obtain ⟨_, _, _, _, _, _, _, _, _, _, _, _, _, _, _, _, _, rfl, _⟩ := h; rfl) | (obtain ⟨_, _, _, _, _, _, _, _, _, _, _, _, _, _, _, _, _, _, rfl, _⟩ := h; rfl) | (obtain ⟨_, _, _, _, _, _, _, _, _, _, _, _, _, _, _, _, _, _, _, rfl, _⟩ := h; rfl) | (obtain ⟨_, _, _, _, _, _, _, _, _, _, _, _, _, _, _, _, _, _, _, _, rfl, _⟩ := h; rfl) | (obtain ⟨_, _, _, _, _, _, _, _, _, _, _, _, _, _, _, _, _, _, _, _, _, rfl, _⟩ := h; rfl) | (obtain ⟨_, _, _, _, _, _, _, _, _, _, _, _, _, _, _, _, _, _, _, _, _, _, rfl, _⟩ := h; rfl) | (obtain ⟨_, _, _, _, _, _, _, _, _, _, _, _, _, _, _, _, _, _, _, _, _, _, _, rfl, _⟩ := h; rfl) | (obtain ⟨_, _, _, _, _, _, _, _, _, _, _, _, _, _, _, _, _, _, _, _, _, _, _, _, rfl, _⟩ := h; rfl) | (obtain ⟨_, _, _, _, _, _, _, _, _, _, _, _, _, _, _, _, _, _, _, _, _, _, _, _, _, rfl, _⟩ := h; rfl)) (fun cdv A outer s H vs Q E hr h => ⟨_, d_UnknownName___init__ vi_KeyError m_KeyError hr, p_ini_UnknownName h⟩)
theorem sc_LimitExceeded___init__ : FnScope ["self", "limit"] ["self", "limit"] (defScope s_LimitExceeded___init__) := ⟨rfl, rfl, rfl, by decide +kernel, rfl, by decide +kernel, by decide +kernel⟩
theorem d_LimitExceeded___init__ {P : Program} {w : World} {K : PySem.W.Frag} {mg : Str → Option Value} {base : Heap} {C_LimitExceeded : Addr} {CX : CXT} {f : Addr} {cdv : Value} {A : Around} {outer : List Env} {s : Shared} {H : Hp} {E : XK} (vi_OverflowError : PySem.W.findCls K (.type "OverflowError") (.type "type") "__init__" = some (.val (.builtin "OverflowError.__init__"))) (m_OverflowError : mg "OverflowError" = none)
    (hr : Room 0 (A.deeper (envOfC "LimitExceeded.__init__" (defScope s_LimitExceeded___init__) s.heap.objs.size f cdv))) :
    PSs (cxOf CX P w K mg base ["self", "limit"] "LimitExceeded.__init__" (defScope s_LimitExceeded___init__) f cdv A outer s H E) (defBody s_LimitExceeded___init__) (t_LimitExceeded___init__90 K C_LimitExceeded) :=
  (pss_cons (ps_expr (pe_stdbase (by rfl) m_OverflowError (by decide +kernel) (by rfl) (by decide +kernel) vi_OverflowError (by decide +kernel) (pa_cons (pv 0) (pa_cons pe_str pa_nil))))
    (pss_one (ps_fst (pv 0) (pv 1))))
theorem ok_LimitExceeded___init__ {P : Program} {w : World} {K : PySem.W.Frag} {mg : Str → Option Value} {base : Heap} {C_LimitExceeded : Addr} {f : Addr} {fd : FuncData} (F : FunD K "__init__" "LimitExceeded.__init__" (defArgs s_LimitExceeded___init__) (defBody s_LimitExceeded___init__) (defScope s_LimitExceeded___init__) [] [] f fd) (vi_OverflowError : PySem.W.findCls K (.type "OverflowError") (.type "type") "__init__" = some (.val (.builtin "OverflowError.__init__"))) (m_OverflowError : mg "OverflowError" = none) : FnOk P w K mg base CX0 1 f fd ["self", "limit"] (spExc K C_LimitExceeded "OverflowError" "OverflowError.__new__" "OverflowError.__init__" bm_OverflowError "limit") :=
  F.ok sc_LimitExceeded___init__ (fun vs H Q E h => by first | (obtain ⟨_, rfl, _⟩ := h; rfl) | (obtain ⟨_, _, rfl, _⟩ := h; rfl) | (obtain ⟨_, _, _, rfl, _⟩ := h; rfl) | (obtain ⟨_, _, _, _, rfl, _⟩ := h; rfl) | (obtain ⟨_, _, _, _, _, rfl, _⟩ := h; rfl) | (obtain ⟨_, _, _, _, _, _, rfl, _⟩ := h; rfl) | (obtain ⟨_, _, _, _, _, _, _, rfl, _⟩ := h; rfl) | (obtain ⟨_, _, _, _, _, _, _, _, rfl, _⟩ := h; rfl) | (obtain ⟨_, _, _, _, _, _, _, _, _, rfl, _⟩ := h; rfl) | (obtain ⟨_, _, _, _, _, _, _, _, _, _, rfl, _⟩ := h; rfl) | (obtain ⟨_, _, _, _, _, _, _, _, _, _, _, rfl, _⟩ := h; rfl) | (obtain ⟨_, _, _, _, _, _, _, _, _, _, _, _, rfl, _⟩ := h; rfl) | (obtain ⟨_, _, _, _, _, _, _, _, _, _, _, _, _, rfl, _⟩ := h; rfl) | (obtain ⟨_, _, _, _, _, _, _, _, _, _, _, _, _, _, rfl, _⟩ := h; rfl) | (obtain ⟨_, _, _, _, _, _, _, _, _, _, _, _, _, _, _, rfl, _⟩ := h; rfl) | (obtain ⟨_, _, _, _, _, _, _, _, _, _, _, _, _, _, _, _, rfl, _⟩ := h; rfl) | (obtain ⟨_, _, _, _, _, _, _, _, _, _, _, _, _, _, _, _, _, rfl, _⟩ := h; rfl) | (obtain ⟨_, _, _, _, _, _, _, _, _, _, _, _, _, _, _, _, _, _, rfl, _⟩ := h; rfl) | (obtain ⟨_, _, _, _, _, _, _, _, _, _, _, _, _, _, _, _, _, _, _, rfl, _⟩ := h; rfl) | (obtain ⟨_, _, _, _, _, _, _, _, _, _, _, _, _, _, _, _, _, _, _, _, rfl, _⟩ := h; rfl) | (obtain ⟨_, _, _, _, _, _, _, _, _, _, _, _, _, _, _, _, _, _, _, _, _, rfl, _⟩ := h; rfl) | (obtain ⟨_, _, _, _, _, _, _, _, _, _, _, _, _, _, _, _, _, _, _, _, _, _, rfl, _⟩ := h; rfl) | (obtain ⟨_, _, _, _, _, _, _, _, _, _, _, _, _, _, _, _, _, _, _, _, _, _, _, rfl, _⟩ := h; rfl) | (obtain ⟨_, _, _, _, _, _, _, _, _, _, _, _, _, _, _, _, _, _, _, _, _, _, _, _, rfl, _⟩ := h; rfl) | (obtain ⟨_, _, _, _, _, _, _, _, _, _, _, _, _, _, _, _, _, _, _, _, _, _, _, _, _, rfl, _⟩ := h; rfl)) (fun cdv A outer s H vs Q E hr h => ⟨_, d_LimitExceeded___init__ vi_OverflowError m_OverflowError hr, p_ini_LimitExceeded h⟩)
theorem sc_NothingToUndo___init__ : FnScope ["self", "count"] ["self", "count"] (defScope s_NothingToUndo___init__) := ⟨rfl, rfl, rfl, by decide +kernel, rfl, by decide +kernel, by decide +kernel⟩
theorem d_NothingToUndo___init__ {P : Program} {w : World} {K : PySem.W.Frag} {mg : Str → Option Value} {base : Heap} {C_NothingToUndo : Addr} {CX : CXT} {f : Addr} {cdv : Value} {A : Around} {outer : List Env} {s : Shared} {H : Hp} {E : XK} (vi_RuntimeError : PySem.W.findCls K (.type "RuntimeError") (.type "type") "__init__" = some (.val (.builtin "RuntimeError.__init__"))) (m_RuntimeError : mg "RuntimeError" = none)
    (hr : Room 0 (A.deeper (envOfC "NothingToUndo.__init__" (defScope s_NothingToUndo___init__) s.heap.objs.size f cdv))) :
    PSs (cxOf CX P w K mg base ["self", "count"] "NothingToUndo.__init__" (defScope s_NothingToUndo___init__) f cdv A outer s H E) (defBody s_NothingToUndo___init__) (t_NothingToUndo___init__90 K C_NothingToUndo) :=
  (pss_cons (ps_expr (pe_stdbase (by rfl) m_RuntimeError (by decide +kernel) (by rfl) (by decide +kernel) vi_RuntimeError (by decide +kernel) (pa_cons (pv 0) (pa_cons pe_str pa_nil))))
    (pss_one (ps_fst (pv 0) (pv 1))))
theorem ok_NothingToUndo___init__ {P : Program} {w : World} {K : PySem.W.Frag} {mg : Str → Option Value} {base : Heap} {C_NothingToUndo : Addr} {f : Addr} {fd : FuncData} (F : FunD K "__init__" "NothingToUndo.__init__" (defArgs s_NothingToUndo___init__) (defBody s_NothingToUndo___init__) (defScope s_NothingToUndo___init__) [] [] f fd) (vi_RuntimeError : PySem.W.findCls K (.type "RuntimeError") (.type "type") "__init__" = some (.val (.builtin "RuntimeError.__init__"))) (m_RuntimeError : mg "RuntimeError" = none) : FnOk P w K mg base CX0 1 f fd ["self", "count"] (spExc K C_NothingToUndo "RuntimeError" "RuntimeError.__new__" "RuntimeError.__init__" bm_RuntimeError "count") :=
  F.ok sc_NothingToUndo___init__ (fun vs H Q E h => by first | (obtain ⟨_, rfl, _⟩ := h; rfl) | (obtain ⟨_, _, rfl, _⟩ := h; rfl) | (obtain ⟨_, _, _, rfl, _⟩ := h; rfl) | (obtain ⟨_, _, _, _, rfl, _⟩ := h; rfl) | (obtain ⟨_, _, _, _, _, rfl, _⟩ := h; rfl) | (obtain ⟨_, _, _, _, _, _, rfl, _⟩ := h; rfl) | (obtain ⟨_, _, _, _, _, _, _, rfl, _⟩ := h; rfl) | (obtain ⟨_, _, _, _, _, _, _, _, rfl, _⟩ := h; rfl) | (obtain ⟨_, _, _, _, _, _, _, _, _, rfl, _⟩ := h; rfl) | (obtain ⟨_, _, _, _, _, _, _, _, _, _, rfl, _⟩ := h; rfl) | (obtain ⟨_, _, _, _, _, _, _, _, _, _, _, rfl, _⟩ := h; rfl) | (obtain ⟨_, _, _, _, _, _, _, _, _, _, _, _, rfl, _⟩ := h; rfl) | (obtain ⟨_, _, _, _, _, _, _, _, _, _, _, _, _, rfl, _⟩ := h; rfl) | (obtain ⟨_, _, _, _, _, _, _, _, _, _, _, _, _, _, rfl, _⟩ := h; rfl) | (obtain ⟨_, _, _, _, _, _, _, _, _, _, _, _, _, _, _, rfl, _⟩ := h; rfl) | (obtain ⟨_, _, _, _, _, _, _, _, _, _, _, _, _, _, _, _, rfl, _⟩ := h; rfl) | (obtain ⟨_, _, _, _, _, _, _, _, _, _, _, _, _, _, _, _, _, rfl, _⟩ := h; rfl) | (obtain ⟨_, _, _, _, _, _, _, _, _, _, _, _, _, _, _, _, _, _, rfl, _⟩ := h; rfl) | (obtain ⟨_, _, _, _, _, _, _, _, _, _, _, _, _, _, _, _, _, _, _, rfl, _⟩ := h; rfl) | (obtain ⟨_, _, _, _, _, _, _, _, _, _, _, _, _, _, _, _, _, _, _, _, rfl, _⟩ := h; rfl) | (obtain ⟨_, _, _, _, _, _, _, _, _, _, _, _, _, _, _, _, _, _, _, _, _, rfl, _⟩ := h; rfl) | (obtain ⟨_, _, _, _, _, _, _, _, _, _, _, _, _, _, _, _, _, _, _, _, _, _, rfl, _⟩ := h; rfl) | (obtain ⟨_, _, _, _, _, _, _, _, _, _, _, _, _, _, _, _, _, _, _, _, _, _, _, rfl, _⟩ := h; rfl) | (obtain ⟨_, _, _, _, _, _, _, _, _, _, _, _, _, _, _, _, _, _, _, _, _, _, _, _, rfl, _⟩ := h; rfl) | (obtain ⟨_, _, _, _, _, _, _, _, _, _, _, _, _, _, _, _, _, _, _, _, _, _, _, _, _, rfl, _⟩ := h; rfl)) (fun cdv A outer s H vs Q E hr h => ⟨_, d_NothingToUndo___init__ vi_RuntimeError m_RuntimeError hr, p_ini_NothingToUndo h⟩)
theorem sc__law_pool : FnScope ["_law_script", "_law_k", "_law_cell", "_law_number", "_law_mixed"] ["_law_script", "_law_k"] (defScope s__law_pool) := ⟨rfl, rfl, rfl, by decide +kernel, rfl, by decide +kernel, by decide +kernel⟩
theorem d__law_pool {P : Program} {w : World} {K : PySem.W.Frag} {mg : Str → Option Value} {base : Heap} {CX : CXT} {f : Addr} {cdv : Value} {A : Around} {outer : List Env} {s : Shared} {H : Hp} {E : XK} (m_int : mg "int" = none)
    (hr : Room 0 (A.deeper (envOfC "_law_pool" (defScope s__law_pool) s.heap.objs.size f cdv))) :
    PSs (cxOf CX P w K mg base ["_law_script", "_law_k", "_law_cell", "_law_number", "_law_mixed"] "_law_pool" (defScope s__law_pool) f cdv A outer s H E) (defBody s__law_pool) (RvM.t__law_pool K) :=
  (pss_cons (ps_set (i := 2) sc__law_pool.nd rfl (by first | exact Or.inl rfl | exact Or.inr rfl) (pe_ix ix_list (pe_op op_cat (pe_slice sl_list (pv 0) (po_some (pv 1)) (po_some (pe_op op_add (pv 1) pe_int))) (pe_lst (pa_cons pe_int pa_nil))) pe_int (fun _ _ => rfl)))
    (pss_cons (ps_set (i := 3) sc__law_pool.nd rfl (by first | exact Or.inl rfl | exact Or.inr rfl) (pe_ifExp (pt_cmpR op_ge (pv 2) pe_int (nomark _)) (pv 2) (pe_op op_sub (pe_un un_neg pe_int) (pv 2))))
    (pss_cons (ps_set (i := 4) sc__law_pool.nd rfl (by first | exact Or.inl rfl | exact Or.inr rfl) (pe_op op_mod (pe_op op_mul (pe_op op_add (pe_op op_add (pe_op op_add (pe_op op_mod (pv 3) pe_int) (pe_op op_mul (pe_op op_mul pe_int (pv 1)) (pv 1))) (pe_op op_mul pe_int (pv 1))) pe_int) pe_int) pe_int))
    (pss_one (ps_ret (pe_lst (pa_cons (pe_op op_mul (pv 3) (pe_callTy call_int1 (by rfl) m_int (by decide +kernel) (pa_cons (pe_cmpR op_ge (pv 3) (pe_op op_pow pe_int pe_int) (nomark _)) pa_nil))) (pa_cons (pe_op op_mod (pe_op op_mul (pv 4) (pv 4)) pe_int) pa_nil))))))))
theorem ok__law_pool {P : Program} {w : World} {K : PySem.W.Frag} {mg : Str → Option Value} {base : Heap} {f : Addr} {fd : FuncData} (F : FunD K "_law_pool" "_law_pool" (defArgs s__law_pool) (defBody s__law_pool) (defScope s__law_pool) [] [] f fd) (m_int : mg "int" = none) : FnOk P w K mg base CX0 1 f fd ["_law_script", "_law_k"] (RvM.spPool K) :=
  F.ok sc__law_pool (fun vs H Q E h => by first | (obtain ⟨_, rfl, _⟩ := h; rfl) | (obtain ⟨_, _, rfl, _⟩ := h; rfl) | (obtain ⟨_, _, _, rfl, _⟩ := h; rfl) | (obtain ⟨_, _, _, _, rfl, _⟩ := h; rfl) | (obtain ⟨_, _, _, _, _, rfl, _⟩ := h; rfl) | (obtain ⟨_, _, _, _, _, _, rfl, _⟩ := h; rfl) | (obtain ⟨_, _, _, _, _, _, _, rfl, _⟩ := h; rfl) | (obtain ⟨_, _, _, _, _, _, _, _, rfl, _⟩ := h; rfl) | (obtain ⟨_, _, _, _, _, _, _, _, _, rfl, _⟩ := h; rfl) | (obtain ⟨_, _, _, _, _, _, _, _, _, _, rfl, _⟩ := h; rfl) | (obtain ⟨_, _, _, _, _, _, _, _, _, _, _, rfl, _⟩ := h; rfl) | (obtain ⟨_, _, _, _, _, _, _, _, _, _, _, _, rfl, _⟩ := h; rfl) | (obtain ⟨_, _, _, _, _, _, _, _, _, _, _, _, _, rfl, _⟩ := h; rfl) | (obtain ⟨_, _, _, _, _, _, _, _, _, _, _, _, _, _, rfl, _⟩ := h; rfl) | (obtain ⟨_, _, _, _, _, _, _, _, _, _, _, _, _, _, _, rfl, _⟩ := h; rfl) | (obtain ⟨_, _, _, _, _, _, _, _, _, _, _, _, _, _, _, _, rfl, _⟩ := h; rfl) | (obtain ⟨_, _, _, _, _, _, _, _, _, _, _, _, _, _, _, _, _, rfl, _⟩ := h; rfl) | (obtain ⟨_, _, _, _, _, _, _, _, _, _, _, _, _, _, _, _, _, _, rfl, _⟩ := h; rfl) | (obtain ⟨_, _, _, _, _, _, _, _, _, _, _, _, _, _, _, _, _, _, _, rfl, _⟩ := h; rfl) | (obtain ⟨_, _, _, _, _, _, _, _, _, _, _, _, _, _, _, _, _, _, _, _, rfl, _⟩ := h; rfl) | (obtain ⟨_, _, _, _, _, _, _, _, _, _, _, _, _, _, _, _, _, _, _, _, _, rfl, _⟩ := h; rfl) | (obtain ⟨_, _, _, _, _, _, _, _, _, _, _, _, _, _, _, _, _, _, _, _, _, _, rfl, _⟩ := h; rfl) | (obtain ⟨_, _, _, _, _, _, _, _, _, _, _, _, _, _, _, _, _, _, _, _, _, _, _, rfl, _⟩ := h; rfl) | (obtain ⟨_, _, _, _, _, _, _, _, _, _, _, _, _, _, _, _, _, _, _, _, _, _, _, _, rfl, _⟩ := h; rfl) | (obtain ⟨_, _, _, _, _, _, _, _, _, _, _, _, _, _, _, _, _, _, _, _, _, _, _, _, _, rfl, _⟩ := h; rfl)) (fun cdv A outer s H vs Q E hr h => ⟨_, d__law_pool m_int hr, RvM.p_pool h⟩)
theorem sc__law_take : FnScope ["_law_pool_here", "_law_many", "_law_digit"] ["_law_pool_here", "_law_many"] (defScope s__law_take) := ⟨rfl, rfl, rfl, by decide +kernel, rfl, by decide +kernel, by decide +kernel⟩
theorem d__law_take {P : Program} {w : World} {K : PySem.W.Frag} {mg : Str → Option Value} {base : Heap} {CX : CXT} {f : Addr} {cdv : Value} {A : Around} {outer : List Env} {s : Shared} {H : Hp} {E : XK} 
    (hr : Room 0 (A.deeper (envOfC "_law_take" (defScope s__law_take) s.heap.objs.size f cdv))) :
    PSs (cxOf CX P w K mg base ["_law_pool_here", "_law_many", "_law_digit"] "_law_take" (defScope s__law_take) f cdv A outer s H E) (defBody s__law_take) (RvM.t__law_take K) :=
  (pss_cons (ps_if (pt_cmpR op_gt (pe_ix ix_list (pv 0) pe_int (fun _ _ => rfl)) pe_int (nomark _)) (pss_cons (ps_set (i := 2) sc__law_take.nd rfl (by first | exact Or.inl rfl | exact Or.inr rfl) (pe_op op_mod (pe_ix ix_list (pv 0) pe_int (fun _ _ => rfl)) (pv 1)))
    (pss_cons (ps_asg (pe_op op_fdivW (pe_ix ix_list (pv 0) pe_int (fun _ _ => rfl)) (pv 1)) (pg_sub (pv 0) pe_int set_list))
    (pss_one (ps_ret (pv 2))))) pss_nil)
    (pss_cons (ps_asg (pe_op op_mod (pe_op op_add (pe_op op_mul (pe_ix ix_list (pv 0) pe_int (fun _ _ => rfl)) pe_int) pe_int) pe_int) (pg_sub (pv 0) pe_int set_list))
    (pss_one (ps_ret (pe_op op_mod (pe_op op_fdivW (pe_op op_mod (pe_op op_mul (pe_ix ix_list (pv 0) pe_int (fun _ _ => rfl)) (pe_ix ix_list (pv 0) pe_int (fun _ _ => rfl))) pe_int) pe_int) (pv 1))))))
theorem ok__law_take {P : Program} {w : World} {K : PySem.W.Frag} {mg : Str → Option Value} {base : Heap} {f : Addr} {fd : FuncData} (F : FunD K "_law_take" "_law_take" (defArgs s__law_take) (defBody s__law_take) (defScope s__law_take) [] [] f fd)  : FnOk P w K mg base CX0 1 f fd ["_law_pool_here", "_law_many"] (RvM.spTake K) :=
  F.ok sc__law_take (fun vs H Q E h => by first | (obtain ⟨_, rfl, _⟩ := h; rfl) | (obtain ⟨_, _, rfl, _⟩ := h; rfl) | (obtain ⟨_, _, _, rfl, _⟩ := h; rfl) | (obtain ⟨_, _, _, _, rfl, _⟩ := h; rfl) | (obtain ⟨_, _, _, _, _, rfl, _⟩ := h; rfl) | (obtain ⟨_, _, _, _, _, _, rfl, _⟩ := h; rfl) | (obtain ⟨_, _, _, _, _, _, _, rfl, _⟩ := h; rfl) | (obtain ⟨_, _, _, _, _, _, _, _, rfl, _⟩ := h; rfl) | (obtain ⟨_, _, _, _, _, _, _, _, _, rfl, _⟩ := h; rfl) | (obtain ⟨_, _, _, _, _, _, _, _, _, _, rfl, _⟩ := h; rfl) | (obtain ⟨_, _, _, _, _, _, _, _, _, _, _, rfl, _⟩ := h; rfl) | (obtain ⟨_, _, _, _, _, _, _, _, _, _, _, _, rfl, _⟩ := h; rfl) | (obtain ⟨_, _, _, _, _, _, _, _, _, _, _, _, _, rfl, _⟩ := h; rfl) | (obtain ⟨_, _, _, _, _, _, _, _, _, _, _, _, _, _, rfl, _⟩ := h; rfl) | (obtain ⟨_, _, _, _, _, _, _, _, _, _, _, _, _, _, _, rfl, _⟩ := h; rfl) | (obtain ⟨_, _, _, _, _, _, _, _, _, _, _, _, _, _, _, _, rfl, _⟩ := h; rfl) | (obtain ⟨_, _, _, _, _, _, _, _, _, _, _, _, _, _, _, _, _, rfl, _⟩ := h; rfl) | (obtain ⟨_, _, _, _, _, _, _, _, _, _, _, _, _, _, _, _, _, _, rfl, _⟩ := h; rfl) | (obtain ⟨_, _, _, _, _, _, _, _, _, _, _, _, _, _, _, _, _, _, _, rfl, _⟩ := h; rfl) | (obtain ⟨_, _, _, _, _, _, _, _, _, _, _, _, _, _, _, _, _, _, _, _, rfl, _⟩ := h; rfl) | (obtain ⟨_, _, _, _, _, _, _, _, _, _, _, _, _, _, _, _, _, _, _, _, _, rfl, _⟩ := h; rfl) | (obtain ⟨_, _, _, _, _, _, _, _, _, _, _, _, _, _, _, _, _, _, _, _, _, _, rfl, _⟩ := h; rfl) | (obtain ⟨_, _, _, _, _, _, _, _, _, _, _, _, _, _, _, _, _, _, _, _, _, _, _, rfl, _⟩ := h; rfl) | (obtain ⟨_, _, _, _, _, _, _, _, _, _, _, _, _, _, _, _, _, _, _, _, _, _, _, _, rfl, _⟩ := h; rfl) | (obtain ⟨_, _, _, _, _, _, _, _, _, _, _, _, _, _, _, _, _, _, _, _, _, _, _, _, _, rfl, _⟩ := h; rfl)) (fun cdv A outer s H vs Q E hr h => ⟨_, d__law_take  hr, RvM.p_take h⟩)
theorem sc__law_errors : FnScope ["_law_one", "_law_found"] ["_law_one"] (defScope s__law_errors) := ⟨rfl, rfl, rfl, by decide +kernel, rfl, by decide +kernel, by decide +kernel⟩
theorem d__law_errors {P : Program} {w : World} {K : PySem.W.Frag} {mg : Str → Option Value} {base : Heap} {C_InvalidNumber : Addr} {C_InvalidProfile : Addr} {C_InvalidWidths : Addr} {C_InvalidWeights : Addr} {C_InvalidObservations : Addr} {C_InvalidOperations : Addr} {C_ParseError : Addr} {C_InvalidCommand : Addr} {C_InvalidCascade : Addr} {C_ScriptError : Addr} {C_InvalidColumn : Addr} {C_InvalidValley : Addr} {C_UnknownName : Addr} {C_LimitExceeded : Addr} {C_NothingToUndo : Addr} {C_RainError : Addr} {CX : CXT} {f : Addr} {cdv : Value} {A : Around} {outer : List Env} {s : Shared} {H : Hp} {E : XK} (cx_InvalidWidths : CalX P w K mg base CX0 1 "InvalidWidths" C_InvalidWidths ["self", "index"] (spExc K C_InvalidWidths "ValueError" "ValueError.__new__" "ValueError.__init__" bm_ValueError "index") [] "ValueError" "ValueError.__new__" "ValueError.__init__" bm_ValueError) (cx_InvalidProfile : CalX P w K mg base CX0 1 "InvalidProfile" C_InvalidProfile ["self", "index"] (spExc K C_InvalidProfile "ValueError" "ValueError.__new__" "ValueError.__init__" bm_ValueError "index") [] "ValueError" "ValueError.__new__" "ValueError.__init__" bm_ValueError) (cx_InvalidNumber : CalX P w K mg base CX0 1 "InvalidNumber" C_InvalidNumber ["self", "value"] (spExc K C_InvalidNumber "ValueError" "ValueError.__new__" "ValueError.__init__" bm_ValueError "value") [] "ValueError" "ValueError.__new__" "ValueError.__init__" bm_ValueError) (cx_InvalidWeights : CalX P w K mg base CX0 1 "InvalidWeights" C_InvalidWeights ["self", "index"] (spExc K C_InvalidWeights "ValueError" "ValueError.__new__" "ValueError.__init__" bm_ValueError "index") [] "ValueError" "ValueError.__new__" "ValueError.__init__" bm_ValueError) (cx_ParseError : CalX P w K mg base CX0 1 "ParseError" C_ParseError ["self", "value"] (spExc K C_ParseError "ValueError" "ValueError.__new__" "ValueError.__init__" bm_ValueError "value") [] "ValueError" "ValueError.__new__" "ValueError.__init__" bm_ValueError) (cx_InvalidOperations : CalX P w K mg base CX0 1 "InvalidOperations" C_InvalidOperations ["self", "index"] (spExc K C_InvalidOperations "ValueError" "ValueError.__new__" "ValueError.__init__" bm_ValueError "index") [] "ValueError" "ValueError.__new__" "ValueError.__init__" bm_ValueError) (cx_InvalidObservations : CalX P w K mg base CX0 1 "InvalidObservations" C_InvalidObservations ["self", "index"] (spExc K C_InvalidObservations "ValueError" "ValueError.__new__" "ValueError.__init__" bm_ValueError "index") [] "ValueError" "ValueError.__new__" "ValueError.__init__" bm_ValueError) (cx_ScriptError : CalX P w K mg base CX0 1 "ScriptError" C_ScriptError ["self", "line"] (spExc K C_ScriptError "ValueError" "ValueError.__new__" "ValueError.__init__" bm_ValueError "line") [] "ValueError" "ValueError.__new__" "ValueError.__init__" bm_ValueError) (cx_InvalidCascade : CalX P w K mg base CX0 1 "InvalidCascade" C_InvalidCascade ["self", "name"] (spExc K C_InvalidCascade "ValueError" "ValueError.__new__" "ValueError.__init__" bm_ValueError "name") [] "ValueError" "ValueError.__new__" "ValueError.__init__" bm_ValueError) (cx_InvalidCommand : CalX P w K mg base CX0 1 "InvalidCommand" C_InvalidCommand ["self", "value"] (spExc K C_InvalidCommand "ValueError" "ValueError.__new__" "ValueError.__init__" bm_ValueError "value") [] "ValueError" "ValueError.__new__" "ValueError.__init__" bm_ValueError) (cx_InvalidValley : CalX P w K mg base CX0 1 "InvalidValley" C_InvalidValley ["self", "value"] (spExc K C_InvalidValley "IndexError" "IndexError.__new__" "IndexError.__init__" bm_IndexError "value") [] "IndexError" "IndexError.__new__" "IndexError.__init__" bm_IndexError) (cx_InvalidColumn : CalX P w K mg base CX0 1 "InvalidColumn" C_InvalidColumn ["self", "value"] (spExc K C_InvalidColumn "IndexError" "IndexError.__new__" "IndexError.__init__" bm_IndexError "value") [] "IndexError" "IndexError.__new__" "IndexError.__init__" bm_IndexError) (cx_UnknownName : CalX P w K mg base CX0 1 "UnknownName" C_UnknownName ["self", "name"] (spExc K C_UnknownName "KeyError" "LookupError.__new__" "KeyError.__init__" bm_KeyError "name") [] "KeyError" "LookupError.__new__" "KeyError.__init__" bm_KeyError) (cx_NothingToUndo : CalX P w K mg base CX0 1 "NothingToUndo" C_NothingToUndo ["self", "count"] (spExc K C_NothingToUndo "RuntimeError" "RuntimeError.__new__" "RuntimeError.__init__" bm_RuntimeError "count") [] "RuntimeError" "RuntimeError.__new__" "RuntimeError.__init__" bm_RuntimeError) (cx_LimitExceeded : CalX P w K mg base CX0 1 "LimitExceeded" C_LimitExceeded ["self", "limit"] (spExc K C_LimitExceeded "OverflowError" "OverflowError.__new__" "OverflowError.__init__" bm_OverflowError "limit") [] "OverflowError" "OverflowError.__new__" "OverflowError.__init__" bm_OverflowError)
    (hr : Room 3 (A.deeper (envOfC "_law_errors" (defScope s__law_errors) s.heap.objs.size f cdv))) :
    PSs (cxOf CX P w K mg base ["_law_one", "_law_found"] "_law_errors" (defScope s__law_errors) f cdv A outer s H E) (defBody s__law_errors) (t__law_errors90 K C_InvalidNumber C_InvalidProfile C_InvalidWidths C_InvalidWeights C_InvalidObservations C_InvalidOperations C_ParseError C_InvalidCommand C_InvalidCascade C_ScriptError C_InvalidColumn C_InvalidValley C_UnknownName C_LimitExceeded C_NothingToUndo C_RainError) :=
  (pss_cons (ps_set (i := 1) sc__law_errors.nd rfl (by first | exact Or.inl rfl | exact Or.inr rfl) (pe_lst (pa_cons (pe_lst (pa_cons (pe_mkx cx_InvalidNumber (hr.mono (by decide)) pass0 (by rfl) (pa_cons (pv 0) pa_nil)) (pa_cons pe_int pa_nil))) (pa_cons (pe_lst (pa_cons (pe_mkx cx_InvalidProfile (hr.mono (by decide)) pass0 (by rfl) (pa_cons (pv 0) pa_nil)) (pa_cons pe_int pa_nil))) (pa_cons (pe_lst (pa_cons (pe_mkx cx_InvalidWidths (hr.mono (by decide)) pass0 (by rfl) (pa_cons (pv 0) pa_nil)) (pa_cons pe_int pa_nil))) pa_nil)))))
    (pss_cons (ps_set (i := 1) sc__law_errors.nd rfl (by first | exact Or.inl rfl | exact Or.inr rfl) (pe_op op_cat (pv 1) (pe_lst (pa_cons (pe_lst (pa_cons (pe_mkx cx_InvalidWeights (hr.mono (by decide)) pass0 (by rfl) (pa_cons (pv 0) pa_nil)) (pa_cons pe_int pa_nil))) pa_nil))))
    (pss_cons (ps_set (i := 1) sc__law_errors.nd rfl (by first | exact Or.inl rfl | exact Or.inr rfl) (pe_op op_cat (pv 1) (pe_lst (pa_cons (pe_lst (pa_cons (pe_mkx cx_InvalidObservations (hr.mono (by decide)) pass0 (by rfl) (pa_cons (pv 0) pa_nil)) (pa_cons pe_int pa_nil))) (pa_cons (pe_lst (pa_cons (pe_mkx cx_InvalidOperations (hr.mono (by decide)) pass0 (by rfl) (pa_cons (pv 0) pa_nil)) (pa_cons pe_int pa_nil))) (pa_cons (pe_lst (pa_cons (pe_mkx cx_ParseError (hr.mono (by decide)) pass0 (by rfl) (pa_cons (pv 0) pa_nil)) (pa_cons pe_int pa_nil))) pa_nil))))))
    (pss_cons (ps_set (i := 1) sc__law_errors.nd rfl (by first | exact Or.inl rfl | exact Or.inr rfl) (pe_op op_cat (pv 1) (pe_lst (pa_cons (pe_lst (pa_cons (pe_mkx cx_InvalidCommand (hr.mono (by decide)) pass0 (by rfl) (pa_cons (pv 0) pa_nil)) (pa_cons pe_int pa_nil))) (pa_cons (pe_lst (pa_cons (pe_mkx cx_InvalidCascade (hr.mono (by decide)) pass0 (by rfl) (pa_cons (pv 0) pa_nil)) (pa_cons pe_int pa_nil))) (pa_cons (pe_lst (pa_cons (pe_mkx cx_ScriptError (hr.mono (by decide)) pass0 (by rfl) (pa_cons (pv 0) pa_nil)) (pa_cons pe_int pa_nil))) pa_nil))))))
    (pss_cons (ps_set (i := 1) sc__law_errors.nd rfl (by first | exact Or.inl rfl | exact Or.inr rfl) (pe_op op_cat (pv 1) (pe_lst (pa_cons (pe_lst (pa_cons (pe_mkx cx_InvalidColumn (hr.mono (by decide)) pass0 (by rfl) (pa_cons (pv 0) pa_nil)) (pa_cons pe_int pa_nil))) (pa_cons (pe_lst (pa_cons (pe_mkx cx_InvalidValley (hr.mono (by decide)) pass0 (by rfl) (pa_cons (pv 0) pa_nil)) (pa_cons pe_int pa_nil))) pa_nil)))))
    (pss_cons (ps_set (i := 1) sc__law_errors.nd rfl (by first | exact Or.inl rfl | exact Or.inr rfl) (pe_op op_cat (pv 1) (pe_lst (pa_cons (pe_lst (pa_cons (pe_mkx cx_UnknownName (hr.mono (by decide)) pass0 (by rfl) (pa_cons (pv 0) pa_nil)) (pa_cons pe_int pa_nil))) pa_nil))))
    (pss_one (ps_ret (pe_op op_cat (pv 1) (pe_lst (pa_cons (pe_lst (pa_cons (pe_mkx cx_LimitExceeded (hr.mono (by decide)) pass0 (by rfl) (pa_cons (pv 0) pa_nil)) (pa_cons pe_int pa_nil))) (pa_cons (pe_lst (pa_cons (pe_mkx cx_NothingToUndo (hr.mono (by decide)) pass0 (by rfl) (pa_cons (pv 0) pa_nil)) (pa_cons pe_int pa_nil))) pa_nil))))))))))))
theorem ok__law_errors {P : Program} {w : World} {K : PySem.W.Frag} {mg : Str → Option Value} {base : Heap} {C_InvalidNumber : Addr} {C_InvalidProfile : Addr} {C_InvalidWidths : Addr} {C_InvalidWeights : Addr} {C_InvalidObservations : Addr} {C_InvalidOperations : Addr} {C_ParseError : Addr} {C_InvalidCommand : Addr} {C_InvalidCascade : Addr} {C_ScriptError : Addr} {C_InvalidColumn : Addr} {C_InvalidValley : Addr} {C_UnknownName : Addr} {C_LimitExceeded : Addr} {C_NothingToUndo : Addr} {C_RainError : Addr} {f : Addr} {fd : FuncData} (F : FunD K "_law_errors" "_law_errors" (defArgs s__law_errors) (defBody s__law_errors) (defScope s__law_errors) [] [] f fd) (cx_InvalidWidths : CalX P w K mg base CX0 1 "InvalidWidths" C_InvalidWidths ["self", "index"] (spExc K C_InvalidWidths "ValueError" "ValueError.__new__" "ValueError.__init__" bm_ValueError "index") [] "ValueError" "ValueError.__new__" "ValueError.__init__" bm_ValueError) (cx_InvalidProfile : CalX P w K mg base CX0 1 "InvalidProfile" C_InvalidProfile ["self", "index"] (spExc K C_InvalidProfile "ValueError" "ValueError.__new__" "ValueError.__init__" bm_ValueError "index") [] "ValueError" "ValueError.__new__" "ValueError.__init__" bm_ValueError) (cx_InvalidNumber : CalX P w K mg base CX0 1 "InvalidNumber" C_InvalidNumber ["self", "value"] (spExc K C_InvalidNumber "ValueError" "ValueError.__new__" "ValueError.__init__" bm_ValueError "value") [] "ValueError" "ValueError.__new__" "ValueError.__init__" bm_ValueError) (cx_InvalidWeights : CalX P w K mg base CX0 1 "InvalidWeights" C_InvalidWeights ["self", "index"] (spExc K C_InvalidWeights "ValueError" "ValueError.__new__" "ValueError.__init__" bm_ValueError "index") [] "ValueError" "ValueError.__new__" "ValueError.__init__" bm_ValueError) (cx_ParseError : CalX P w K mg base CX0 1 "ParseError" C_ParseError ["self", "value"] (spExc K C_ParseError "ValueError" "ValueError.__new__" "ValueError.__init__" bm_ValueError "value") [] "ValueError" "ValueError.__new__" "ValueError.__init__" bm_ValueError) (cx_InvalidOperations : CalX P w K mg base CX0 1 "InvalidOperations" C_InvalidOperations ["self", "index"] (spExc K C_InvalidOperations "ValueError" "ValueError.__new__" "ValueError.__init__" bm_ValueError "index") [] "ValueError" "ValueError.__new__" "ValueError.__init__" bm_ValueError) (cx_InvalidObservations : CalX P w K mg base CX0 1 "InvalidObservations" C_InvalidObservations ["self", "index"] (spExc K C_InvalidObservations "ValueError" "ValueError.__new__" "ValueError.__init__" bm_ValueError "index") [] "ValueError" "ValueError.__new__" "ValueError.__init__" bm_ValueError) (cx_ScriptError : CalX P w K mg base CX0 1 "ScriptError" C_ScriptError ["self", "line"] (spExc K C_ScriptError "ValueError" "ValueError.__new__" "ValueError.__init__" bm_ValueError "line") [] "ValueError" "ValueError.__new__" "ValueError.__init__" bm_ValueError) (cx_InvalidCascade : CalX P w K mg base CX0 1 "InvalidCascade" C_InvalidCascade ["self", "name"] (spExc K C_InvalidCascade "ValueError" "ValueError.__new__" "ValueError.__init__" bm_ValueError "name") [] "ValueError" "ValueError.__new__" "ValueError.__init__" bm_ValueError) (cx_InvalidCommand : CalX P w K mg base CX0 1 "InvalidCommand" C_InvalidCommand ["self", "value"] (spExc K C_InvalidCommand "ValueError" "ValueError.__new__" "ValueError.__init__" bm_ValueError "value") [] "ValueError" "ValueError.__new__" "ValueError.__init__" bm_ValueError) (cx_InvalidValley : CalX P w K mg base CX0 1 "InvalidValley" C_InvalidValley ["self", "value"] (spExc K C_InvalidValley "IndexError" "IndexError.__new__" "IndexError.__init__" bm_IndexError "value") [] "IndexError" "IndexError.__new__" "IndexError.__init__" bm_IndexError) (cx_InvalidColumn : CalX P w K mg base CX0 1 "InvalidColumn" C_InvalidColumn ["self", "value"] (spExc K C_InvalidColumn "IndexError" "IndexError.__new__" "IndexError.__init__" bm_IndexError "value") [] "IndexError" "IndexError.__new__" "IndexError.__init__" bm_IndexError) (cx_UnknownName : CalX P w K mg base CX0 1 "UnknownName" C_UnknownName ["self", "name"] (spExc K C_UnknownName "KeyError" "LookupError.__new__" "KeyError.__init__" bm_KeyError "name") [] "KeyError" "LookupError.__new__" "KeyError.__init__" bm_KeyError) (cx_NothingToUndo : CalX P w K mg base CX0 1 "NothingToUndo" C_NothingToUndo ["self", "count"] (spExc K C_NothingToUndo "RuntimeError" "RuntimeError.__new__" "RuntimeError.__init__" bm_RuntimeError "count") [] "RuntimeError" "RuntimeError.__new__" "RuntimeError.__init__" bm_RuntimeError) (cx_LimitExceeded : CalX P w K mg base CX0 1 "LimitExceeded" C_LimitExceeded ["self", "limit"] (spExc K C_LimitExceeded "OverflowError" "OverflowError.__new__" "OverflowError.__init__" bm_OverflowError "limit") [] "OverflowError" "OverflowError.__new__" "OverflowError.__init__" bm_OverflowError) : FnOk P w K mg base CX0 4 f fd ["_law_one"] (spErrs90 K [C_InvalidNumber, C_InvalidProfile, C_InvalidWidths, C_InvalidWeights, C_InvalidObservations, C_InvalidOperations, C_ParseError, C_InvalidCommand, C_InvalidCascade, C_ScriptError, C_InvalidColumn, C_InvalidValley, C_UnknownName, C_LimitExceeded, C_NothingToUndo] C_RainError) :=
  F.ok sc__law_errors (fun vs H Q E h => by first | (obtain ⟨_, rfl, _⟩ := h; rfl) | (obtain ⟨_, _, rfl, _⟩ := h; rfl) | (obtain ⟨_, _, _, rfl, _⟩ := h; rfl) | (obtain ⟨_, _, _, _, rfl, _⟩ := h; rfl) | (obtain ⟨_, _, _, _, _, rfl, _⟩ := h; rfl) | (obtain ⟨_, _, _, _, _, _, rfl, _⟩ := h; rfl) | (obtain ⟨_, _, _, _, _, _, _, rfl, _⟩ := h; rfl) | (obtain ⟨_, _, _, _, _, _, _, _, rfl, _⟩ := h; rfl) | (obtain ⟨_, _, _, _, _, _, _, _, _, rfl, _⟩ := h; rfl) | (obtain ⟨_, _, _, _, _, _, _, _, _, _, rfl, _⟩ := h; rfl) | (obtain ⟨_, _, _, _, _, _, _, _, _, _, _, rfl, _⟩ := h; rfl) | (obtain ⟨_, _, _, _, _, _, _, _, _, _, _, _, rfl, _⟩ := h; rfl) | (obtain ⟨_, _, _, _, _, _, _, _, _, _, _, _, _, rfl, _⟩ := h; rfl) | (obtain ⟨_, _, _, _, _, _, _, _, _, _, _, _, _, _, rfl, _⟩ := h; rfl) | (obtain ⟨_, _, _, _, _, _, _, _, _, _, _, _, _, _, _, rfl, _⟩ := h; rfl) | (obtain ⟨_, _, _, _, _, _, _, _, _, _, _, _, _, _, _, _, rfl, _⟩ := h; rfl) | (obtain ⟨_, _, _, _, _, _, _, _, _, _, _, _, _, _, _, _, _, rfl, _⟩ := h; rfl) | (obtain ⟨_, _, _, _, _, _, _, _, _, _, _, _, _, _, _, _, _, _, rfl, _⟩ := h; rfl) | (obtain ⟨_, _, _, _, _, _, _, _, _, _, _, _, _, _, _, _, _, _, _, rfl, _⟩ := h; rfl) | (obtain ⟨_, _, _, _, _, _, _, _, _, _, _, _, _, _, _, _, _, _, _, _, rfl, _⟩ := h; rfl) | (obtain ⟨_, _, _, _, _, _, _, _, _, _, _, _, _, _, _, _, _, _, _, _, _, rfl, _⟩ := h; rfl) | (obtain ⟨_, _, _, _, _, _, _, _, _, _, _, _, _, _, _, _, _, _, _, _, _, _, rfl, _⟩ := h; rfl) | (obtain ⟨_, _, _, _, _, _, _, _, _, _, _, _, _, _, _, _, _, _, _, _, _, _, _, rfl, _⟩ := h; rfl) | (obtain ⟨_, _, _, _, _, _, _, _, _, _, _, _, _, _, _, _, _, _, _, _, _, _, _, _, rfl, _⟩ := h; rfl) | (obtain ⟨_, _, _, _, _, _, _, _, _, _, _, _, _, _, _, _, _, _, _, _, _, _, _, _, _, rfl, _⟩ := h; rfl)) (fun cdv A outer s H vs Q E hr h => ⟨_, d__law_errors cx_InvalidWidths cx_InvalidProfile cx_InvalidNumber cx_InvalidWeights cx_ParseError cx_InvalidOperations cx_InvalidObservations cx_ScriptError cx_InvalidCascade cx_InvalidCommand cx_InvalidValley cx_InvalidColumn cx_UnknownName cx_NothingToUndo cx_LimitExceeded hr, p_errs90 h⟩)
theorem sc__law_named : FnScope ["_law_one", "_law_found"] ["_law_one"] (defScope s__law_named) := ⟨rfl, rfl, rfl, by decide +kernel, rfl, by decide +kernel, by decide +kernel⟩
theorem d__law_named {P : Program} {w : World} {K : PySem.W.Frag} {mg : Str → Option Value} {base : Heap} {C_InvalidNumber : Addr} {C_InvalidProfile : Addr} {C_InvalidWidths : Addr} {C_InvalidWeights : Addr} {C_InvalidObservations : Addr} {C_InvalidOperations : Addr} {C_ParseError : Addr} {C_InvalidCommand : Addr} {C_InvalidCascade : Addr} {C_ScriptError : Addr} {C_InvalidColumn : Addr} {C_InvalidValley : Addr} {C_UnknownName : Addr} {C_LimitExceeded : Addr} {C_NothingToUndo : Addr} {C_RainError : Addr} {CX : CXT} {f : Addr} {cdv : Value} {A : Around} {outer : List Env} {s : Shared} {H : Hp} {E : XK} (cxk_InvalidProfile : CalXK P w K mg base CX0 1 "InvalidProfile" C_InvalidProfile ["self", "index"] (spExc K C_InvalidProfile "ValueError" "ValueError.__new__" "ValueError.__init__" bm_ValueError "index") "index" "ValueError" "ValueError.__new__" "ValueError.__init__" bm_ValueError) (cxk_InvalidNumber : CalXK P w K mg base CX0 1 "InvalidNumber" C_InvalidNumber ["self", "value"] (spExc K C_InvalidNumber "ValueError" "ValueError.__new__" "ValueError.__init__" bm_ValueError "value") "value" "ValueError" "ValueError.__new__" "ValueError.__init__" bm_ValueError) (cxk_InvalidWeights : CalXK P w K mg base CX0 1 "InvalidWeights" C_InvalidWeights ["self", "index"] (spExc K C_InvalidWeights "ValueError" "ValueError.__new__" "ValueError.__init__" bm_ValueError "index") "index" "ValueError" "ValueError.__new__" "ValueError.__init__" bm_ValueError) (cxk_InvalidWidths : CalXK P w K mg base CX0 1 "InvalidWidths" C_InvalidWidths ["self", "index"] (spExc K C_InvalidWidths "ValueError" "ValueError.__new__" "ValueError.__init__" bm_ValueError "index") "index" "ValueError" "ValueError.__new__" "ValueError.__init__" bm_ValueError) (cxk_InvalidOperations : CalXK P w K mg base CX0 1 "InvalidOperations" C_InvalidOperations ["self", "index"] (spExc K C_InvalidOperations "ValueError" "ValueError.__new__" "ValueError.__init__" bm_ValueError "index") "index" "ValueError" "ValueError.__new__" "ValueError.__init__" bm_ValueError) (cxk_InvalidObservations : CalXK P w K mg base CX0 1 "InvalidObservations" C_InvalidObservations ["self", "index"] (spExc K C_InvalidObservations "ValueError" "ValueError.__new__" "ValueError.__init__" bm_ValueError "index") "index" "ValueError" "ValueError.__new__" "ValueError.__init__" bm_ValueError) (cxk_ParseError : CalXK P w K mg base CX0 1 "ParseError" C_ParseError ["self", "value"] (spExc K C_ParseError "ValueError" "ValueError.__new__" "ValueError.__init__" bm_ValueError "value") "value" "ValueError" "ValueError.__new__" "ValueError.__init__" bm_ValueError) (cxk_ScriptError : CalXK P w K mg base CX0 1 "ScriptError" C_ScriptError ["self", "line"] (spExc K C_ScriptError "ValueError" "ValueError.__new__" "ValueError.__init__" bm_ValueError "line") "line" "ValueError" "ValueError.__new__" "ValueError.__init__" bm_ValueError) (cxk_InvalidCascade : CalXK P w K mg base CX0 1 "InvalidCascade" C_InvalidCascade ["self", "name"] (spExc K C_InvalidCascade "ValueError" "ValueError.__new__" "ValueError.__init__" bm_ValueError "name") "name" "ValueError" "ValueError.__new__" "ValueError.__init__" bm_ValueError) (cxk_InvalidCommand : CalXK P w K mg base CX0 1 "InvalidCommand" C_InvalidCommand ["self", "value"] (spExc K C_InvalidCommand "ValueError" "ValueError.__new__" "ValueError.__init__" bm_ValueError "value") "value" "ValueError" "ValueError.__new__" "ValueError.__init__" bm_ValueError) (cxk_InvalidColumn : CalXK P w K mg base CX0 1 "InvalidColumn" C_InvalidColumn ["self", "value"] (spExc K C_InvalidColumn "IndexError" "IndexError.__new__" "IndexError.__init__" bm_IndexError "value") "value" "IndexError" "IndexError.__new__" "IndexError.__init__" bm_IndexError) (cxk_UnknownName : CalXK P w K mg base CX0 1 "UnknownName" C_UnknownName ["self", "name"] (spExc K C_UnknownName "KeyError" "LookupError.__new__" "KeyError.__init__" bm_KeyError "name") "name" "KeyError" "LookupError.__new__" "KeyError.__init__" bm_KeyError) (cxk_InvalidValley : CalXK P w K mg base CX0 1 "InvalidValley" C_InvalidValley ["self", "value"] (spExc K C_InvalidValley "IndexError" "IndexError.__new__" "IndexError.__init__" bm_IndexError "value") "value" "IndexError" "IndexError.__new__" "IndexError.__init__" bm_IndexError) (cxk_NothingToUndo : CalXK P w K mg base CX0 1 "NothingToUndo" C_NothingToUndo ["self", "count"] (spExc K C_NothingToUndo "RuntimeError" "RuntimeError.__new__" "RuntimeError.__init__" bm_RuntimeError "count") "count" "RuntimeError" "RuntimeError.__new__" "RuntimeError.__init__" bm_RuntimeError) (cxk_LimitExceeded : CalXK P w K mg base CX0 1 "LimitExceeded" C_LimitExceeded ["self", "limit"] (spExc K C_LimitExceeded "OverflowError" "OverflowError.__new__" "OverflowError.__init__" bm_OverflowError "limit") "limit" "OverflowError" "OverflowError.__new__" "OverflowError.__init__" bm_OverflowError)
    (hr : Room 3 (A.deeper (envOfC "_law_named" (defScope s__law_named) s.heap.objs.size f cdv))) :
    PSs (cxOf CX P w K mg base ["_law_one", "_law_found"] "_law_named" (defScope s__law_named) f cdv A outer s H E) (defBody s__law_named) (t__law_named90 K C_InvalidNumber C_InvalidProfile C_InvalidWidths C_InvalidWeights C_InvalidObservations C_InvalidOperations C_ParseError C_InvalidCommand C_InvalidCascade C_ScriptError C_InvalidColumn C_InvalidValley C_UnknownName C_LimitExceeded C_NothingToUndo C_RainError) :=
  (pss_cons (ps_set (i := 1) sc__law_named.nd rfl (by first | exact Or.inl rfl | exact Or.inr rfl) (pe_lst (pa_cons (pe_mkxk cxk_InvalidNumber (hr.mono (by decide)) pass0 (by rfl) (pk_cons (pv 0) pk_nil)) (pa_cons (pe_mkxk cxk_InvalidProfile (hr.mono (by decide)) pass0 (by rfl) (pk_cons (pv 0) pk_nil)) pa_nil))))
    (pss_cons (ps_set (i := 1) sc__law_named.nd rfl (by first | exact Or.inl rfl | exact Or.inr rfl) (pe_op op_cat (pv 1) (pe_lst (pa_cons (pe_mkxk cxk_InvalidWidths (hr.mono (by decide)) pass0 (by rfl) (pk_cons (pv 0) pk_nil)) (pa_cons (pe_mkxk cxk_InvalidWeights (hr.mono (by decide)) pass0 (by rfl) (pk_cons (pv 0) pk_nil)) pa_nil)))))
    (pss_cons (ps_set (i := 1) sc__law_named.nd rfl (by first | exact Or.inl rfl | exact Or.inr rfl) (pe_op op_cat (pv 1) (pe_lst (pa_cons (pe_mkxk cxk_InvalidObservations (hr.mono (by decide)) pass0 (by rfl) (pk_cons (pv 0) pk_nil)) (pa_cons (pe_mkxk cxk_InvalidOperations (hr.mono (by decide)) pass0 (by rfl) (pk_cons (pv 0) pk_nil)) pa_nil)))))
    (pss_cons (ps_set (i := 1) sc__law_named.nd rfl (by first | exact Or.inl rfl | exact Or.inr rfl) (pe_op op_cat (pv 1) (pe_lst (pa_cons (pe_mkxk cxk_ParseError (hr.mono (by decide)) pass0 (by rfl) (pk_cons (pv 0) pk_nil)) pa_nil))))
    (pss_cons (ps_set (i := 1) sc__law_named.nd rfl (by first | exact Or.inl rfl | exact Or.inr rfl) (pe_op op_cat (pv 1) (pe_lst (pa_cons (pe_mkxk cxk_InvalidCommand (hr.mono (by decide)) pass0 (by rfl) (pk_cons (pv 0) pk_nil)) (pa_cons (pe_mkxk cxk_InvalidCascade (hr.mono (by decide)) pass0 (by rfl) (pk_cons (pv 0) pk_nil)) (pa_cons (pe_mkxk cxk_ScriptError (hr.mono (by decide)) pass0 (by rfl) (pk_cons (pv 0) pk_nil)) pa_nil))))))
    (pss_cons (ps_set (i := 1) sc__law_named.nd rfl (by first | exact Or.inl rfl | exact Or.inr rfl) (pe_op op_cat (pv 1) (pe_lst (pa_cons (pe_mkxk cxk_InvalidColumn (hr.mono (by decide)) pass0 (by rfl) (pk_cons (pv 0) pk_nil)) pa_nil))))
    (pss_cons (ps_set (i := 1) sc__law_named.nd rfl (by first | exact Or.inl rfl | exact Or.inr rfl) (pe_op op_cat (pv 1) (pe_lst (pa_cons (pe_mkxk cxk_InvalidValley (hr.mono (by decide)) pass0 (by rfl) (pk_cons (pv 0) pk_nil)) (pa_cons (pe_mkxk cxk_UnknownName (hr.mono (by decide)) pass0 (by rfl) (pk_cons (pv 0) pk_nil)) pa_nil)))))
    (pss_one (ps_ret (pe_op op_cat (pv 1) (pe_lst (pa_cons (pe_mkxk cxk_LimitExceeded (hr.mono (by decide)) pass0 (by rfl) (pk_cons (pv 0) pk_nil)) (pa_cons (pe_mkxk cxk_NothingToUndo (hr.mono (by decide)) pass0 (by rfl) (pk_cons (pv 0) pk_nil)) pa_nil)))))))))))))
theorem ok__law_named {P : Program} {w : World} {K : PySem.W.Frag} {mg : Str → Option Value} {base : Heap} {C_InvalidNumber : Addr} {C_InvalidProfile : Addr} {C_InvalidWidths : Addr} {C_InvalidWeights : Addr} {C_InvalidObservations : Addr} {C_InvalidOperations : Addr} {C_ParseError : Addr} {C_InvalidCommand : Addr} {C_InvalidCascade : Addr} {C_ScriptError : Addr} {C_InvalidColumn : Addr} {C_InvalidValley : Addr} {C_UnknownName : Addr} {C_LimitExceeded : Addr} {C_NothingToUndo : Addr} {C_RainError : Addr} {f : Addr} {fd : FuncData} (F : FunD K "_law_named" "_law_named" (defArgs s__law_named) (defBody s__law_named) (defScope s__law_named) [] [] f fd) (cxk_InvalidProfile : CalXK P w K mg base CX0 1 "InvalidProfile" C_InvalidProfile ["self", "index"] (spExc K C_InvalidProfile "ValueError" "ValueError.__new__" "ValueError.__init__" bm_ValueError "index") "index" "ValueError" "ValueError.__new__" "ValueError.__init__" bm_ValueError) (cxk_InvalidNumber : CalXK P w K mg base CX0 1 "InvalidNumber" C_InvalidNumber ["self", "value"] (spExc K C_InvalidNumber "ValueError" "ValueError.__new__" "ValueError.__init__" bm_ValueError "value") "value" "ValueError" "ValueError.__new__" "ValueError.__init__" bm_ValueError) (cxk_InvalidWeights : CalXK P w K mg base CX0 1 "InvalidWeights" C_InvalidWeights ["self", "index"] (spExc K C_InvalidWeights "ValueError" "ValueError.__new__" "ValueError.__init__" bm_ValueError "index") "index" "ValueError" "ValueError.__new__" "ValueError.__init__" bm_ValueError) (cxk_InvalidWidths : CalXK P w K mg base CX0 1 "InvalidWidths" C_InvalidWidths ["self", "index"] (spExc K C_InvalidWidths "ValueError" "ValueError.__new__" "ValueError.__init__" bm_ValueError "index") "index" "ValueError" "ValueError.__new__" "ValueError.__init__" bm_ValueError) (cxk_InvalidOperations : CalXK P w K mg base CX0 1 "InvalidOperations" C_InvalidOperations ["self", "index"] (spExc K C_InvalidOperations "ValueError" "ValueError.__new__" "ValueError.__init__" bm_ValueError "index") "index" "ValueError" "ValueError.__new__" "ValueError.__init__" bm_ValueError) (cxk_InvalidObservations : CalXK P w K mg base CX0 1 "InvalidObservations" C_InvalidObservations ["self", "index"] (spExc K C_InvalidObservations "ValueError" "ValueError.__new__" "ValueError.__init__" bm_ValueError "index") "index" "ValueError" "ValueError.__new__" "ValueError.__init__" bm_ValueError) (cxk_ParseError : CalXK P w K mg base CX0 1 "ParseError" C_ParseError ["self", "value"] (spExc K C_ParseError "ValueError" "ValueError.__new__" "ValueError.__init__" bm_ValueError "value") "value" "ValueError" "ValueError.__new__" "ValueError.__init__" bm_ValueError) (cxk_ScriptError : CalXK P w K mg base CX0 1 "ScriptError" C_ScriptError ["self", "line"] (spExc K C_ScriptError "ValueError" "ValueError.__new__" "ValueError.__init__" bm_ValueError "line") "line" "ValueError" "ValueError.__new__" "ValueError.__init__" bm_ValueError) (cxk_InvalidCascade : CalXK P w K mg base CX0 1 "InvalidCascade" C_InvalidCascade ["self", "name"] (spExc K C_InvalidCascade "ValueError" "ValueError.__new__" "ValueError.__init__" bm_ValueError "name") "name" "ValueError" "ValueError.__new__" "ValueError.__init__" bm_ValueError) (cxk_InvalidCommand : CalXK P w K mg base CX0 1 "InvalidCommand" C_InvalidCommand ["self", "value"] (spExc K C_InvalidCommand "ValueError" "ValueError.__new__" "ValueError.__init__" bm_ValueError "value") "value" "ValueError" "ValueError.__new__" "ValueError.__init__" bm_ValueError) (cxk_InvalidColumn : CalXK P w K mg base CX0 1 "InvalidColumn" C_InvalidColumn ["self", "value"] (spExc K C_InvalidColumn "IndexError" "IndexError.__new__" "IndexError.__init__" bm_IndexError "value") "value" "IndexError" "IndexError.__new__" "IndexError.__init__" bm_IndexError) (cxk_UnknownName : CalXK P w K mg base CX0 1 "UnknownName" C_UnknownName ["self", "name"] (spExc K C_UnknownName "KeyError" "LookupError.__new__" "KeyError.__init__" bm_KeyError "name") "name" "KeyError" "LookupError.__new__" "KeyError.__init__" bm_KeyError) (cxk_InvalidValley : CalXK P w K mg base CX0 1 "InvalidValley" C_InvalidValley ["self", "value"] (spExc K C_InvalidValley "IndexError" "IndexError.__new__" "IndexError.__init__" bm_IndexError "value") "value" "IndexError" "IndexError.__new__" "IndexError.__init__" bm_IndexError) (cxk_NothingToUndo : CalXK P w K mg base CX0 1 "NothingToUndo" C_NothingToUndo ["self", "count"] (spExc K C_NothingToUndo "RuntimeError" "RuntimeError.__new__" "RuntimeError.__init__" bm_RuntimeError "count") "count" "RuntimeError" "RuntimeError.__new__" "RuntimeError.__init__" bm_RuntimeError) (cxk_LimitExceeded : CalXK P w K mg base CX0 1 "LimitExceeded" C_LimitExceeded ["self", "limit"] (spExc K C_LimitExceeded "OverflowError" "OverflowError.__new__" "OverflowError.__init__" bm_OverflowError "limit") "limit" "OverflowError" "OverflowError.__new__" "OverflowError.__init__" bm_OverflowError) : FnOk P w K mg base CX0 4 f fd ["_law_one"] (spNamed90 K [C_InvalidNumber, C_InvalidProfile, C_InvalidWidths, C_InvalidWeights, C_InvalidObservations, C_InvalidOperations, C_ParseError, C_InvalidCommand, C_InvalidCascade, C_ScriptError, C_InvalidColumn, C_InvalidValley, C_UnknownName, C_LimitExceeded, C_NothingToUndo] C_RainError) :=
  F.ok sc__law_named (fun vs H Q E h => by first | (obtain ⟨_, rfl, _⟩ := h; rfl) | (obtain ⟨_, _, rfl, _⟩ := h; rfl) | (obtain ⟨_, _, _, rfl, _⟩ := h; rfl) | (obtain ⟨_, _, _, _, rfl, _⟩ := h; rfl) | (obtain ⟨_, _, _, _, _, rfl, _⟩ := h; rfl) | (obtain ⟨_, _, _, _, _, _, rfl, _⟩ := h; rfl) | (obtain ⟨_, _, _, _, _, _, _, rfl, _⟩ := h; rfl) | (obtain ⟨_, _, _, _, _, _, _, _, rfl, _⟩ := h; rfl) | (obtain ⟨_, _, _, _, _, _, _, _, _, rfl, _⟩ := h; rfl) | (obtain ⟨_, _, _, _, _, _, _, _, _, _, rfl, _⟩ := h; rfl) | (obtain ⟨_, _, _, _, _, _, _, _, _, _, _, rfl, _⟩ := h; rfl) | (obtain ⟨_, _, _, _, _, _, _, _, _, _, _, _, rfl, _⟩ := h; rfl) | (obtain ⟨_, _, _, _, _, _, _, _, _, _, _, _, _, rfl, _⟩ := h; rfl) | (obtain ⟨_, _, _, _, _, _, _, _, _, _, _, _, _, _, rfl, _⟩ := h; rfl) | (obtain ⟨_, _, _, _, _, _, _, _, _, _, _, _, _, _, _, rfl, _⟩ := h; rfl) | (obtain ⟨_, _, _, _, _, _, _, _, _, _, _, _, _, _, _, _, rfl, _⟩ := h; rfl) | (obtain ⟨_, _, _, _, _, _, _, _, _, _, _, _, _, _, _, _, _, rfl, _⟩ := h; rfl) | (obtain ⟨_, _, _, _, _, _, _, _, _, _, _, _, _, _, _, _, _, _, rfl, _⟩ := h; rfl) | (obtain ⟨_, _, _, _, _, _, _, _, _, _, _, _, _, _, _, _, _, _, _, rfl, _⟩ := h; rfl) | (obtain ⟨_, _, _, _, _, _, _, _, _, _, _, _, _, _, _, _, _, _, _, _, rfl, _⟩ := h; rfl) | (obtain ⟨_, _, _, _, _, _, _, _, _, _, _, _, _, _, _, _, _, _, _, _, _, rfl, _⟩ := h; rfl) | (obtain ⟨_, _, _, _, _, _, _, _, _, _, _, _, _, _, _, _, _, _, _, _, _, _, rfl, _⟩ := h; rfl) | (obtain ⟨_, _, _, _, _, _, _, _, _, _, _, _, _, _, _, _, _, _, _, _, _, _, _, rfl, _⟩ := h; rfl) | (obtain ⟨_, _, _, _, _, _, _, _, _, _, _, _, _, _, _, _, _, _, _, _, _, _, _, _, rfl, _⟩ := h; rfl) | (obtain ⟨_, _, _, _, _, _, _, _, _, _, _, _, _, _, _, _, _, _, _, _, _, _, _, _, _, rfl, _⟩ := h; rfl)) (fun cdv A outer s H vs Q E hr h => ⟨_, d__law_named cxk_InvalidProfile cxk_InvalidNumber cxk_InvalidWeights cxk_InvalidWidths cxk_InvalidOperations cxk_InvalidObservations cxk_ParseError cxk_ScriptError cxk_InvalidCascade cxk_InvalidCommand cxk_InvalidColumn cxk_UnknownName cxk_InvalidValley cxk_NothingToUndo cxk_LimitExceeded hr, p_named90 h⟩)
theorem sc__law_field : FnScope ["_law_error", "_law_way"] ["_law_error", "_law_way"] (defScope s__law_field) := ⟨rfl, rfl, rfl, by decide +kernel, rfl, by decide +kernel, by decide +kernel⟩
theorem d__law_field {P : Program} {w : World} {K : PySem.W.Frag} {mg : Str → Option Value} {base : Heap} {CX : CXT} {f : Addr} {cdv : Value} {A : Around} {outer : List Env} {s : Shared} {H : Hp} {E : XK} 
    (hr : Room 1 (A.deeper (envOfC "_law_field" (defScope s__law_field) s.heap.objs.size f cdv))) :
    PSs (cxOf CX P w K mg base ["_law_error", "_law_way"] "_law_field" (defScope s__law_field) f cdv A outer s H E) (defBody s__law_field) (t__law_field90 K) :=
  (pss_cons (ps_if (pt_cmpR op_eq (pv 1) pe_int (nomark _)) (pss_one (ps_ret (pe_xe (pv 0)))) pss_nil)
    (pss_cons (ps_if (pt_cmpR op_eq (pv 1) pe_int (nomark _)) (pss_one (ps_ret (pe_xe (pv 0)))) pss_nil)
    (pss_cons (ps_if (pt_cmpR op_eq (pv 1) pe_int (nomark _)) (pss_one (ps_ret (pe_xe (pv 0)))) pss_nil)
    (pss_cons (ps_if (pt_cmpR op_eq (pv 1) pe_int (nomark _)) (pss_one (ps_ret (pe_xe (pv 0)))) pss_nil)
    (pss_one (ps_ret (pe_ifExp (pt_cmpR op_eq (pv 1) pe_int (nomark _)) (pe_xe (pv 0)) (pe_xe (pv 0)))))))))
theorem ok__law_field {P : Program} {w : World} {K : PySem.W.Frag} {mg : Str → Option Value} {base : Heap} {f : Addr} {fd : FuncData} (F : FunD K "_law_field" "_law_field" (defArgs s__law_field) (defBody s__law_field) (defScope s__law_field) [] [] f fd)  : FnOk P w K mg base CX0 2 f fd ["_law_error", "_law_way"] (spField90 K) :=
  F.ok sc__law_field (fun vs H Q E h => by first | (obtain ⟨_, rfl, _⟩ := h; rfl) | (obtain ⟨_, _, rfl, _⟩ := h; rfl) | (obtain ⟨_, _, _, rfl, _⟩ := h; rfl) | (obtain ⟨_, _, _, _, rfl, _⟩ := h; rfl) | (obtain ⟨_, _, _, _, _, rfl, _⟩ := h; rfl) | (obtain ⟨_, _, _, _, _, _, rfl, _⟩ := h; rfl) | (obtain ⟨_, _, _, _, _, _, _, rfl, _⟩ := h; rfl) | (obtain ⟨_, _, _, _, _, _, _, _, rfl, _⟩ := h; rfl) | (obtain ⟨_, _, _, _, _, _, _, _, _, rfl, _⟩ := h; rfl) | (obtain ⟨_, _, _, _, _, _, _, _, _, _, rfl, _⟩ := h; rfl) | (obtain ⟨_, _, _, _, _, _, _, _, _, _, _, rfl, _⟩ := h; rfl) | (obtain ⟨_, _, _, _, _, _, _, _, _, _, _, _, rfl, _⟩ := h; rfl) | (obtain ⟨_, _, _, _, _, _, _, _, _, _, _, _, _, rfl, _⟩ := h; rfl) | (obtain ⟨_, _, _, _, _, _, _, _, _, _, _, _, _, _, rfl, _⟩ := h; rfl) | (obtain ⟨_, _, _, _, _, _, _, _, _, _, _, _, _, _, _, rfl, _⟩ := h; rfl) | (obtain ⟨_, _, _, _, _, _, _, _, _, _, _, _, _, _, _, _, rfl, _⟩ := h; rfl) | (obtain ⟨_, _, _, _, _, _, _, _, _, _, _, _, _, _, _, _, _, rfl, _⟩ := h; rfl) | (obtain ⟨_, _, _, _, _, _, _, _, _, _, _, _, _, _, _, _, _, _, rfl, _⟩ := h; rfl) | (obtain ⟨_, _, _, _, _, _, _, _, _, _, _, _, _, _, _, _, _, _, _, rfl, _⟩ := h; rfl) | (obtain ⟨_, _, _, _, _, _, _, _, _, _, _, _, _, _, _, _, _, _, _, _, rfl, _⟩ := h; rfl) | (obtain ⟨_, _, _, _, _, _, _, _, _, _, _, _, _, _, _, _, _, _, _, _, _, rfl, _⟩ := h; rfl) | (obtain ⟨_, _, _, _, _, _, _, _, _, _, _, _, _, _, _, _, _, _, _, _, _, _, rfl, _⟩ := h; rfl) | (obtain ⟨_, _, _, _, _, _, _, _, _, _, _, _, _, _, _, _, _, _, _, _, _, _, _, rfl, _⟩ := h; rfl) | (obtain ⟨_, _, _, _, _, _, _, _, _, _, _, _, _, _, _, _, _, _, _, _, _, _, _, _, rfl, _⟩ := h; rfl) | (obtain ⟨_, _, _, _, _, _, _, _, _, _, _, _, _, _, _, _, _, _, _, _, _, _, _, _, _, rfl, _⟩ := h; rfl)) (fun cdv A outer s H vs Q E hr h => ⟨_, d__law_field  hr, p_field90 h⟩)
theorem sc__law_bases : FnScope ["_law_error", "_law_found"] ["_law_error"] (defScope s__law_bases) := ⟨rfl, rfl, rfl, by decide +kernel, rfl, by decide +kernel, by decide +kernel⟩
theorem d__law_bases {P : Program} {w : World} {K : PySem.W.Frag} {mg : Str → Option Value} {base : Heap} {C_InvalidNumber : Addr} {C_InvalidProfile : Addr} {C_InvalidWidths : Addr} {C_InvalidWeights : Addr} {C_InvalidObservations : Addr} {C_InvalidOperations : Addr} {C_ParseError : Addr} {C_InvalidCommand : Addr} {C_InvalidCascade : Addr} {C_ScriptError : Addr} {C_InvalidColumn : Addr} {C_InvalidValley : Addr} {C_UnknownName : Addr} {C_LimitExceeded : Addr} {C_NothingToUndo : Addr} {C_RainError : Addr} {CX : CXT} {f : Addr} {cdv : Value} {A : Around} {outer : List Env} {s : Shared} {H : Hp} {E : XK} (m_IndexError : mg "IndexError" = none) (m_isinstance : mg "isinstance" = none) (m_ValueError : mg "ValueError" = none) (g_RainError : mg "RainError" = some (.ref C_RainError)) (m_OverflowError : mg "OverflowError" = none) (m_KeyError : mg "KeyError" = none) (m_RuntimeError : mg "RuntimeError" = none) (m_TypeError : mg "TypeError" = none) (m_LookupError : mg "LookupError" = none)
    (hr : Room 1 (A.deeper (envOfC "_law_bases" (defScope s__law_bases) s.heap.objs.size f cdv))) :
    PSs (cxOf CX P w K mg base ["_law_error", "_law_found"] "_law_bases" (defScope s__law_bases) f cdv A outer s H E) (defBody s__law_bases) (t__law_bases90 K C_InvalidNumber C_InvalidProfile C_InvalidWidths C_InvalidWeights C_InvalidObservations C_InvalidOperations C_ParseError C_InvalidCommand C_InvalidCascade C_ScriptError C_InvalidColumn C_InvalidValley C_UnknownName C_LimitExceeded C_NothingToUndo C_RainError) :=
  (pss_cons (ps_set (i := 1) sc__law_bases.nd rfl (by first | exact Or.inl rfl | exact Or.inr rfl) (pe_lst (pa_cons (pe_callB call_isX (by rfl) m_isinstance (by decide +kernel) (pa_cons (pv 0) (pa_cons (pe_glob rfl g_RainError rfl) pa_nil))) (pa_cons (pe_callB call_isX (by rfl) m_isinstance (by decide +kernel) (pa_cons (pv 0) (pa_cons (pe_bltn (by rfl) m_ValueError (by decide +kernel) rfl) pa_nil))) (pa_cons (pe_callB call_isX (by rfl) m_isinstance (by decide +kernel) (pa_cons (pv 0) (pa_cons (pe_bltn (by rfl) m_IndexError (by decide +kernel) rfl) pa_nil))) pa_nil)))))
    (pss_cons (ps_set (i := 1) sc__law_bases.nd rfl (by first | exact Or.inl rfl | exact Or.inr rfl) (pe_op op_cat (pv 1) (pe_lst (pa_cons (pe_callB call_isX (by rfl) m_isinstance (by decide +kernel) (pa_cons (pv 0) (pa_cons (pe_bltn (by rfl) m_KeyError (by decide +kernel) rfl) pa_nil))) (pa_cons (pe_callB call_isX (by rfl) m_isinstance (by decide +kernel) (pa_cons (pv 0) (pa_cons (pe_bltn (by rfl) m_OverflowError (by decide +kernel) rfl) pa_nil))) pa_nil)))))
    (pss_cons (ps_set (i := 1) sc__law_bases.nd rfl (by first | exact Or.inl rfl | exact Or.inr rfl) (pe_op op_cat (pv 1) (pe_lst (pa_cons (pe_callB call_isX (by rfl) m_isinstance (by decide +kernel) (pa_cons (pv 0) (pa_cons (pe_bltn (by rfl) m_RuntimeError (by decide +kernel) rfl) pa_nil))) pa_nil))))
    (pss_one (ps_ret (pe_op op_cat (pv 1) (pe_lst (pa_cons (pe_callB call_isX (by rfl) m_isinstance (by decide +kernel) (pa_cons (pv 0) (pa_cons (pe_bltn (by rfl) m_LookupError (by decide +kernel) rfl) pa_nil))) (pa_cons (pe_callB call_isX (by rfl) m_isinstance (by decide +kernel) (pa_cons (pv 0) (pa_cons (pe_bltn (by rfl) m_TypeError (by decide +kernel) rfl) pa_nil))) pa_nil)))))))))
theorem ok__law_bases {P : Program} {w : World} {K : PySem.W.Frag} {mg : Str → Option Value} {base : Heap} {C_InvalidNumber : Addr} {C_InvalidProfile : Addr} {C_InvalidWidths : Addr} {C_InvalidWeights : Addr} {C_InvalidObservations : Addr} {C_InvalidOperations : Addr} {C_ParseError : Addr} {C_InvalidCommand : Addr} {C_InvalidCascade : Addr} {C_ScriptError : Addr} {C_InvalidColumn : Addr} {C_InvalidValley : Addr} {C_UnknownName : Addr} {C_LimitExceeded : Addr} {C_NothingToUndo : Addr} {C_RainError : Addr} {f : Addr} {fd : FuncData} (F : FunD K "_law_bases" "_law_bases" (defArgs s__law_bases) (defBody s__law_bases) (defScope s__law_bases) [] [] f fd) (m_IndexError : mg "IndexError" = none) (m_isinstance : mg "isinstance" = none) (m_ValueError : mg "ValueError" = none) (g_RainError : mg "RainError" = some (.ref C_RainError)) (m_OverflowError : mg "OverflowError" = none) (m_KeyError : mg "KeyError" = none) (m_RuntimeError : mg "RuntimeError" = none) (m_TypeError : mg "TypeError" = none) (m_LookupError : mg "LookupError" = none) : FnOk P w K mg base CX0 2 f fd ["_law_error"] (spBases90 K [C_InvalidNumber, C_InvalidProfile, C_InvalidWidths, C_InvalidWeights, C_InvalidObservations, C_InvalidOperations, C_ParseError, C_InvalidCommand, C_InvalidCascade, C_ScriptError, C_InvalidColumn, C_InvalidValley, C_UnknownName, C_LimitExceeded, C_NothingToUndo] C_RainError) :=
  F.ok sc__law_bases (fun vs H Q E h => by first | (obtain ⟨_, rfl, _⟩ := h; rfl) | (obtain ⟨_, _, rfl, _⟩ := h; rfl) | (obtain ⟨_, _, _, rfl, _⟩ := h; rfl) | (obtain ⟨_, _, _, _, rfl, _⟩ := h; rfl) | (obtain ⟨_, _, _, _, _, rfl, _⟩ := h; rfl) | (obtain ⟨_, _, _, _, _, _, rfl, _⟩ := h; rfl) | (obtain ⟨_, _, _, _, _, _, _, rfl, _⟩ := h; rfl) | (obtain ⟨_, _, _, _, _, _, _, _, rfl, _⟩ := h; rfl) | (obtain ⟨_, _, _, _, _, _, _, _, _, rfl, _⟩ := h; rfl) | (obtain ⟨_, _, _, _, _, _, _, _, _, _, rfl, _⟩ := h; rfl) | (obtain ⟨_, _, _, _, _, _, _, _, _, _, _, rfl, _⟩ := h; rfl) | (obtain ⟨_, _, _, _, _, _, _, _, _, _, _, _, rfl, _⟩ := h; rfl) | (obtain ⟨_, _, _, _, _, _, _, _, _, _, _, _, _, rfl, _⟩ := h; rfl) | (obtain ⟨_, _, _, _, _, _, _, _, _, _, _, _, _, _, rfl, _⟩ := h; rfl) | (obtain ⟨_, _, _, _, _, _, _, _, _, _, _, _, _, _, _, rfl, _⟩ := h; rfl) | (obtain ⟨_, _, _, _, _, _, _, _, _, _, _, _, _, _, _, _, rfl, _⟩ := h; rfl) | (obtain ⟨_, _, _, _, _, _, _, _, _, _, _, _, _, _, _, _, _, rfl, _⟩ := h; rfl) | (obtain ⟨_, _, _, _, _, _, _, _, _, _, _, _, _, _, _, _, _, _, rfl, _⟩ := h; rfl) | (obtain ⟨_, _, _, _, _, _, _, _, _, _, _, _, _, _, _, _, _, _, _, rfl, _⟩ := h; rfl) | (obtain ⟨_, _, _, _, _, _, _, _, _, _, _, _, _, _, _, _, _, _, _, _, rfl, _⟩ := h; rfl) | (obtain ⟨_, _, _, _, _, _, _, _, _, _, _, _, _, _, _, _, _, _, _, _, _, rfl, _⟩ := h; rfl) | (obtain ⟨_, _, _, _, _, _, _, _, _, _, _, _, _, _, _, _, _, _, _, _, _, _, rfl, _⟩ := h; rfl) | (obtain ⟨_, _, _, _, _, _, _, _, _, _, _, _, _, _, _, _, _, _, _, _, _, _, _, rfl, _⟩ := h; rfl) | (obtain ⟨_, _, _, _, _, _, _, _, _, _, _, _, _, _, _, _, _, _, _, _, _, _, _, _, rfl, _⟩ := h; rfl) | (obtain ⟨_, _, _, _, _, _, _, _, _, _, _, _, _, _, _, _, _, _, _, _, _, _, _, _, _, rfl, _⟩ := h; rfl)) (fun cdv A outer s H vs Q E hr h => ⟨_, d__law_bases m_IndexError m_isinstance m_ValueError g_RainError m_OverflowError m_KeyError m_RuntimeError m_TypeError m_LookupError hr, p_bases90 h⟩)
theorem sc__law_classes : FnScope ["_law_error", "_law_found"] ["_law_error"] (defScope s__law_classes) := ⟨rfl, rfl, rfl, by decide +kernel, rfl, by decide +kernel, by decide +kernel⟩
theorem d__law_classes {P : Program} {w : World} {K : PySem.W.Frag} {mg : Str → Option Value} {base : Heap} {C_InvalidNumber : Addr} {C_InvalidProfile : Addr} {C_InvalidWidths : Addr} {C_InvalidWeights : Addr} {C_InvalidObservations : Addr} {C_InvalidOperations : Addr} {C_ParseError : Addr} {C_InvalidCommand : Addr} {C_InvalidCascade : Addr} {C_ScriptError : Addr} {C_InvalidColumn : Addr} {C_InvalidValley : Addr} {C_UnknownName : Addr} {C_LimitExceeded : Addr} {C_NothingToUndo : Addr} {C_RainError : Addr} {CX : CXT} {f : Addr} {cdv : Value} {A : Around} {outer : List Env} {s : Shared} {H : Hp} {E : XK} (g_InvalidProfile : mg "InvalidProfile" = some (.ref C_InvalidProfile)) (m_isinstance : mg "isinstance" = none) (g_InvalidNumber : mg "InvalidNumber" = some (.ref C_InvalidNumber)) (g_InvalidWidths : mg "InvalidWidths" = some (.ref C_InvalidWidths)) (g_InvalidObservations : mg "InvalidObservations" = some (.ref C_InvalidObservations)) (g_InvalidWeights : mg "InvalidWeights" = some (.ref C_InvalidWeights)) (g_ParseError : mg "ParseError" = some (.ref C_ParseError)) (g_InvalidOperations : mg "InvalidOperations" = some (.ref C_InvalidOperations)) (g_InvalidCascade : mg "InvalidCascade" = some (.ref C_InvalidCascade)) (g_InvalidCommand : mg "InvalidCommand" = some (.ref C_InvalidCommand)) (g_InvalidColumn : mg "InvalidColumn" = some (.ref C_InvalidColumn)) (g_ScriptError : mg "ScriptError" = some (.ref C_ScriptError)) (g_UnknownName : mg "UnknownName" = some (.ref C_UnknownName)) (g_InvalidValley : mg "InvalidValley" = some (.ref C_InvalidValley)) (g_NothingToUndo : mg "NothingToUndo" = some (.ref C_NothingToUndo)) (g_LimitExceeded : mg "LimitExceeded" = some (.ref C_LimitExceeded))
    (hr : Room 1 (A.deeper (envOfC "_law_classes" (defScope s__law_classes) s.heap.objs.size f cdv))) :
    PSs (cxOf CX P w K mg base ["_law_error", "_law_found"] "_law_classes" (defScope s__law_classes) f cdv A outer s H E) (defBody s__law_classes) (t__law_classes90 K C_InvalidNumber C_InvalidProfile C_InvalidWidths C_InvalidWeights C_InvalidObservations C_InvalidOperations C_ParseError C_InvalidCommand C_InvalidCascade C_ScriptError C_InvalidColumn C_InvalidValley C_UnknownName C_LimitExceeded C_NothingToUndo C_RainError) :=
  (pss_cons (ps_set (i := 1) sc__law_classes.nd rfl (by first | exact Or.inl rfl | exact Or.inr rfl) (pe_lst (pa_cons (pe_callB call_isX (by rfl) m_isinstance (by decide +kernel) (pa_cons (pv 0) (pa_cons (pe_glob rfl g_InvalidNumber rfl) pa_nil))) (pa_cons (pe_callB call_isX (by rfl) m_isinstance (by decide +kernel) (pa_cons (pv 0) (pa_cons (pe_glob rfl g_InvalidProfile rfl) pa_nil))) pa_nil))))
    (pss_cons (ps_set (i := 1) sc__law_classes.nd rfl (by first | exact Or.inl rfl | exact Or.inr rfl) (pe_op op_cat (pv 1) (pe_lst (pa_cons (pe_callB call_isX (by rfl) m_isinstance (by decide +kernel) (pa_cons (pv 0) (pa_cons (pe_glob rfl g_InvalidWidths rfl) pa_nil))) pa_nil))))
    (pss_cons (ps_set (i := 1) sc__law_classes.nd rfl (by first | exact Or.inl rfl | exact Or.inr rfl) (pe_op op_cat (pv 1) (pe_lst (pa_cons (pe_callB call_isX (by rfl) m_isinstance (by decide +kernel) (pa_cons (pv 0) (pa_cons (pe_glob rfl g_InvalidWeights rfl) pa_nil))) (pa_cons (pe_callB call_isX (by rfl) m_isinstance (by decide +kernel) (pa_cons (pv 0) (pa_cons (pe_glob rfl g_InvalidObservations rfl) pa_nil))) pa_nil)))))
    (pss_cons (ps_set (i := 1) sc__law_classes.nd rfl (by first | exact Or.inl rfl | exact Or.inr rfl) (pe_op op_cat (pv 1) (pe_lst (pa_cons (pe_callB call_isX (by rfl) m_isinstance (by decide +kernel) (pa_cons (pv 0) (pa_cons (pe_glob rfl g_InvalidOperations rfl) pa_nil))) (pa_cons (pe_callB call_isX (by rfl) m_isinstance (by decide +kernel) (pa_cons (pv 0) (pa_cons (pe_glob rfl g_ParseError rfl) pa_nil))) pa_nil)))))
    (pss_cons (ps_set (i := 1) sc__law_classes.nd rfl (by first | exact Or.inl rfl | exact Or.inr rfl) (pe_op op_cat (pv 1) (pe_lst (pa_cons (pe_callB call_isX (by rfl) m_isinstance (by decide +kernel) (pa_cons (pv 0) (pa_cons (pe_glob rfl g_InvalidCommand rfl) pa_nil))) (pa_cons (pe_callB call_isX (by rfl) m_isinstance (by decide +kernel) (pa_cons (pv 0) (pa_cons (pe_glob rfl g_InvalidCascade rfl) pa_nil))) pa_nil)))))
    (pss_cons (ps_set (i := 1) sc__law_classes.nd rfl (by first | exact Or.inl rfl | exact Or.inr rfl) (pe_op op_cat (pv 1) (pe_lst (pa_cons (pe_callB call_isX (by rfl) m_isinstance (by decide +kernel) (pa_cons (pv 0) (pa_cons (pe_glob rfl g_ScriptError rfl) pa_nil))) (pa_cons (pe_callB call_isX (by rfl) m_isinstance (by decide +kernel) (pa_cons (pv 0) (pa_cons (pe_glob rfl g_InvalidColumn rfl) pa_nil))) pa_nil)))))
    (pss_cons (ps_set (i := 1) sc__law_classes.nd rfl (by first | exact Or.inl rfl | exact Or.inr rfl) (pe_op op_cat (pv 1) (pe_lst (pa_cons (pe_callB call_isX (by rfl) m_isinstance (by decide +kernel) (pa_cons (pv 0) (pa_cons (pe_glob rfl g_InvalidValley rfl) pa_nil))) (pa_cons (pe_callB call_isX (by rfl) m_isinstance (by decide +kernel) (pa_cons (pv 0) (pa_cons (pe_glob rfl g_UnknownName rfl) pa_nil))) pa_nil)))))
    (pss_one (ps_ret (pe_op op_cat (pv 1) (pe_lst (pa_cons (pe_callB call_isX (by rfl) m_isinstance (by decide +kernel) (pa_cons (pv 0) (pa_cons (pe_glob rfl g_LimitExceeded rfl) pa_nil))) (pa_cons (pe_callB call_isX (by rfl) m_isinstance (by decide +kernel) (pa_cons (pv 0) (pa_cons (pe_glob rfl g_NothingToUndo rfl) pa_nil))) pa_nil)))))))))))))
theorem ok__law_classes {P : Program} {w : World} {K : PySem.W.Frag} {mg : Str → Option Value} {base : Heap} {C_InvalidNumber : Addr} {C_InvalidProfile : Addr} {C_InvalidWidths : Addr} {C_InvalidWeights : Addr} {C_InvalidObservations : Addr} {C_InvalidOperations : Addr} {C_ParseError : Addr} {C_InvalidCommand : Addr} {C_InvalidCascade : Addr} {C_ScriptError : Addr} {C_InvalidColumn : Addr} {C_InvalidValley : Addr} {C_UnknownName : Addr} {C_LimitExceeded : Addr} {C_NothingToUndo : Addr} {C_RainError : Addr} {f : Addr} {fd : FuncData} (F : FunD K "_law_classes" "_law_classes" (defArgs s__law_classes) (defBody s__law_classes) (defScope s__law_classes) [] [] f fd) (g_InvalidProfile : mg "InvalidProfile" = some (.ref C_InvalidProfile)) (m_isinstance : mg "isinstance" = none) (g_InvalidNumber : mg "InvalidNumber" = some (.ref C_InvalidNumber)) (g_InvalidWidths : mg "InvalidWidths" = some (.ref C_InvalidWidths)) (g_InvalidObservations : mg "InvalidObservations" = some (.ref C_InvalidObservations)) (g_InvalidWeights : mg "InvalidWeights" = some (.ref C_InvalidWeights)) (g_ParseError : mg "ParseError" = some (.ref C_ParseError)) (g_InvalidOperations : mg "InvalidOperations" = some (.ref C_InvalidOperations)) (g_InvalidCascade : mg "InvalidCascade" = some (.ref C_InvalidCascade)) (g_InvalidCommand : mg "InvalidCommand" = some (.ref C_InvalidCommand)) (g_InvalidColumn : mg "InvalidColumn" = some (.ref C_InvalidColumn)) (g_ScriptError : mg "ScriptError" = some (.ref C_ScriptError)) (g_UnknownName : mg "UnknownName" = some (.ref C_UnknownName)) (g_InvalidValley : mg "InvalidValley" = some (.ref C_InvalidValley)) (g_NothingToUndo : mg "NothingToUndo" = some (.ref C_NothingToUndo)) (g_LimitExceeded : mg "LimitExceeded" = some (.ref C_LimitExceeded)) : FnOk P w K mg base CX0 2 f fd ["_law_error"] (spClasses90 K [C_InvalidNumber, C_InvalidProfile, C_InvalidWidths, C_InvalidWeights, C_InvalidObservations, C_InvalidOperations, C_ParseError, C_InvalidCommand, C_InvalidCascade, C_ScriptError, C_InvalidColumn, C_InvalidValley, C_UnknownName, C_LimitExceeded, C_NothingToUndo] C_RainError) :=
  F.ok sc__law_classes (fun vs H Q E h => by first | (obtain ⟨_, rfl, _⟩ := h; rfl) | (obtain ⟨_, _, rfl, _⟩ := h; rfl) | (obtain ⟨_, _, _, rfl, _⟩ := h; rfl) | (obtain ⟨_, _, _, _, rfl, _⟩ := h; rfl) | (obtain ⟨_, _, _, _, _, rfl, _⟩ := h; rfl) | (obtain ⟨_, _, _, _, _, _, rfl, _⟩ := h; rfl) | (obtain ⟨_, _, _, _, _, _, _, rfl, _⟩ := h; rfl) | (obtain ⟨_, _, _, _, _, _, _, _, rfl, _⟩ := h; rfl) | (obtain ⟨_, _, _, _, _, _, _, _, _, rfl, _⟩ := h; rfl) | (obtain ⟨_, _, _, _, _, _, _, _, _, _, rfl, _⟩ := h; rfl) | (obtain ⟨_, _, _, _, _, _, _, _, _, _, _, rfl, _⟩ := h; rfl) | (obtain ⟨_, _, _, _, _, _, _, _, _, _, _, _, rfl, _⟩ := h; rfl) | (obtain ⟨_, _, _, _, _, _, _, _, _, _, _, _, _, rfl, _⟩ := h; rfl) | (obtain ⟨_, _, _, _, _, _, _, _, _, _, _, _, _, _, rfl, _⟩ := h; rfl) | (obtain ⟨_, _, _, _, _, _, _, _, _, _, _, _, _, _, _, rfl, _⟩ := h; rfl) | (obtain ⟨_, _, _, _, _, _, _, _, _, _, _, _, _, _, _, _, rfl, _⟩ := h; rfl) | (obtain ⟨_, _, _, _, _, _, _, _, _, _, _, _, _, _, _, _, _, rfl, _⟩ := h; rfl) | (obtain ⟨_, _, _, _, _, _, _, _, _, _, _, _, _, _, _, _, _, _, rfl, _⟩ := h; rfl) | (obtain ⟨_, _, _, _, _, _, _, _, _, _, _, _, _, _, _, _, _, _, _, rfl, _⟩ := h; rfl) | (obtain ⟨_, _, _, _, _, _, _, _, _, _, _, _, _, _, _, _, _, _, _, _, rfl, _⟩ := h; rfl) | (obtain ⟨_, _, _, _, _, _, _, _, _, _, _, _, _, _, _, _, _, _, _, _, _, rfl, _⟩ := h; rfl) | (obtain ⟨_, _, _, _, _, _, _, _, _, _, _, _, _, _, _, _, _, _, _, _, _, _, rfl, _⟩ := h; rfl) | (obtain ⟨_, _, _, _, _, _, _, _, _, _, _, _, _, _, _, _, _, _, _, _, _, _, _, rfl, _⟩ := h; rfl) | (obtain ⟨_, _, _, _, _, _, _, _, _, _, _, _, _, _, _, _, _, _, _, _, _, _, _, _, rfl, _⟩ := h; rfl) | (obtain ⟨_, _, _, _, _, _, _, _, _, _, _, _, _, _, _, _, _, _, _, _, _, _, _, _, _, rfl, _⟩ := h; rfl)) (fun cdv A outer s H vs Q E hr h => ⟨_, d__law_classes g_InvalidProfile m_isinstance g_InvalidNumber g_InvalidWidths g_InvalidObservations g_InvalidWeights g_ParseError g_InvalidOperations g_InvalidCascade g_InvalidCommand g_InvalidColumn g_ScriptError g_UnknownName g_InvalidValley g_NothingToUndo g_LimitExceeded hr, p_classes90 h⟩)
theorem sc_law : FnScope ["_law_script", "_law_rows", "_law_k", "_law_pool_here", "_law_one", "_law_errors_here", "_law_named_here", "_law_place", "_law_error", "_law_way", "_law_due", "_law_kept", "_law_number"] ["_law_script"] (defScope s_law) := ⟨rfl, rfl, rfl, by decide +kernel, rfl, by decide +kernel, by decide +kernel⟩
theorem d_law {P : Program} {w : World} {K : PySem.W.Frag} {mg : Str → Option Value} {base : Heap} {C_InvalidNumber : Addr} {C_InvalidProfile : Addr} {C_InvalidWidths : Addr} {C_InvalidWeights : Addr} {C_InvalidObservations : Addr} {C_InvalidOperations : Addr} {C_ParseError : Addr} {C_InvalidCommand : Addr} {C_InvalidCascade : Addr} {C_ScriptError : Addr} {C_InvalidColumn : Addr} {C_InvalidValley : Addr} {C_UnknownName : Addr} {C_LimitExceeded : Addr} {C_NothingToUndo : Addr} {C_RainError : Addr} {CX : CXT} {f : Addr} {cdv : Value} {A : Around} {outer : List Env} {s : Shared} {H : Hp} {E : XK} (m_len : mg "len" = none) (m_min : mg "min" = none) (m_max : mg "max" = none) (m_range : mg "range" = none) (c__law_pool : Cal P w K mg base CX0 1 "_law_pool" ["_law_script", "_law_k"] (RvM.spPool K)) (c__law_take : Cal P w K mg base CX0 1 "_law_take" ["_law_pool_here", "_law_many"] (RvM.spTake K)) (c__law_named : Cal P w K mg base CX0 4 "_law_named" ["_law_one"] (spNamed90 K [C_InvalidNumber, C_InvalidProfile, C_InvalidWidths, C_InvalidWeights, C_InvalidObservations, C_InvalidOperations, C_ParseError, C_InvalidCommand, C_InvalidCascade, C_ScriptError, C_InvalidColumn, C_InvalidValley, C_UnknownName, C_LimitExceeded, C_NothingToUndo] C_RainError)) (c__law_errors : Cal P w K mg base CX0 4 "_law_errors" ["_law_one"] (spErrs90 K [C_InvalidNumber, C_InvalidProfile, C_InvalidWidths, C_InvalidWeights, C_InvalidObservations, C_InvalidOperations, C_ParseError, C_InvalidCommand, C_InvalidCascade, C_ScriptError, C_InvalidColumn, C_InvalidValley, C_UnknownName, C_LimitExceeded, C_NothingToUndo] C_RainError)) (c__law_field : Cal P w K mg base CX0 2 "_law_field" ["_law_error", "_law_way"] (spField90 K)) (m_repr : mg "repr" = none) (c__law_bases : Cal P w K mg base CX0 2 "_law_bases" ["_law_error"] (spBases90 K [C_InvalidNumber, C_InvalidProfile, C_InvalidWidths, C_InvalidWeights, C_InvalidObservations, C_InvalidOperations, C_ParseError, C_InvalidCommand, C_InvalidCascade, C_ScriptError, C_InvalidColumn, C_InvalidValley, C_UnknownName, C_LimitExceeded, C_NothingToUndo] C_RainError)) (c__law_classes : Cal P w K mg base CX0 2 "_law_classes" ["_law_error"] (spClasses90 K [C_InvalidNumber, C_InvalidProfile, C_InvalidWidths, C_InvalidWeights, C_InvalidObservations, C_InvalidOperations, C_ParseError, C_InvalidCommand, C_InvalidCascade, C_ScriptError, C_InvalidColumn, C_InvalidValley, C_UnknownName, C_LimitExceeded, C_NothingToUndo] C_RainError)) (cx_InvalidNumber : CalX P w K mg base CX0 1 "InvalidNumber" C_InvalidNumber ["self", "value"] (spExc K C_InvalidNumber "ValueError" "ValueError.__new__" "ValueError.__init__" bm_ValueError "value") [] "ValueError" "ValueError.__new__" "ValueError.__init__" bm_ValueError) (hgd : A.guards = some [])
    (hr : Room 5 (A.deeper (envOfC "law" (defScope s_law) s.heap.objs.size f cdv))) :
    PSs (cxOf CX P w K mg base ["_law_script", "_law_rows", "_law_k", "_law_pool_here", "_law_one", "_law_errors_here", "_law_named_here", "_law_place", "_law_error", "_law_way", "_law_due", "_law_kept", "_law_number"] "law" (defScope s_law) f cdv A outer s H E) (defBody s_law) (t_law90 K C_InvalidNumber C_InvalidProfile C_InvalidWidths C_InvalidWeights C_InvalidObservations C_InvalidOperations C_ParseError C_InvalidCommand C_InvalidCascade C_ScriptError C_InvalidColumn C_InvalidValley C_UnknownName C_LimitExceeded C_NothingToUndo C_RainError) :=
  (pss_cons (ps_set (i := 1) sc_law.nd rfl (by first | exact Or.inl rfl | exact Or.inr rfl) (pe_op op_cat (pe_op op_rep (pe_lst (pa_cons (pe_lst (pa_cons pe_int (pa_cons pe_int pa_nil))) pa_nil)) pe_int) (pe_lst (pa_cons (pe_lst (pa_cons pe_int (pa_cons pe_int pa_nil))) (pa_cons (pe_lst (pa_cons pe_int (pa_cons pe_int pa_nil))) (pa_cons (pe_lst (pa_cons pe_int (pa_cons pe_int pa_nil))) (pa_cons (pe_lst (pa_cons pe_int pa_nil)) (pa_cons (pe_lst (pa_cons pe_int pa_nil)) pa_nil))))))))
    (pss_cons (ps_for (passes_of rfl) rfl (pi_range1 rfl m_range (pa_cons (pe_callB (call_max2 rfl) (by rfl) m_max (by decide +kernel) (pa_cons pe_int (pa_cons (pe_callB (call_min2 rfl) (by rfl) m_min (by decide +kernel) (pa_cons pe_int (pa_cons (pe_callB call_len_seq (by rfl) m_len (by decide +kernel) (pa_cons (pv 0) pa_nil)) pa_nil))) pa_nil))) pa_nil)) (pg_name (i := 2) sc_law.nd rfl (by first | exact Or.inl rfl | exact Or.inr rfl)) (pss_cons (ps_set (i := 3) sc_law.nd rfl (by first | exact Or.inl rfl | exact Or.inr rfl) (pe_cal c__law_pool (hr.mono (by decide)) rfl pass0 (pa_cons (pv 0) (pa_cons (pv 2) pa_nil))))
    (pss_one (ps_for (passes_of rfl) rfl (pi_list (pe_lst (pa_cons (pe_ix ix_list (pe_lst (pa_cons pe_non (pa_cons pe_bl (pa_cons (pe_un un_neg pe_int) (pa_cons pe_int (pa_cons pe_str (pa_cons pe_str (pa_cons (pe_tup (pa_cons pe_int (pa_cons pe_int pa_nil))) (pa_cons (pe_lst (pa_cons pe_int pa_nil)) (pa_cons pe_dnewK (pa_cons (pe_op op_pow pe_int pe_int) pa_nil))))))))))) (pe_cal c__law_take (hr.mono (by decide)) rfl pass0 (pa_cons (pv 3) (pa_cons pe_int pa_nil))) (fun _ _ => rfl)) (pa_cons pe_non pa_nil)))) (pg_name (i := 4) sc_law.nd rfl (by first | exact Or.inl rfl | exact Or.inr rfl)) (pss_cons (ps_par (by rfl) sc_law.nd rfl rfl (by decide) rfl rfl (pa_cons (pe_cal c__law_errors (hr.mono (by decide)) rfl pass0 (pa_cons (pv 4) pa_nil)) (pa_cons (pe_cal c__law_named (hr.mono (by decide)) rfl pass0 (pa_cons (pv 4) pa_nil)) pa_nil)) (by rfl))
    (pss_one (ps_for (passes_of rfl) rfl (pi_range1 rfl m_range (pa_cons pe_int pa_nil)) (pg_name (i := 7) sc_law.nd rfl (by first | exact Or.inl rfl | exact Or.inr rfl)) (pss_cons (ps_asg (pe_ix ix_list (pv 5) (pv 7) (fun _ _ => rfl)) (pg_lst (by rfl) (pgs_cons (pg_name (i := 8) sc_law.nd rfl (by first | exact Or.inl rfl | exact Or.inr rfl)) (pgs_cons (pg_name (i := 9) sc_law.nd rfl (by first | exact Or.inl rfl | exact Or.inr rfl)) pgs_nil))))
    (pss_cons (ps_if (pt_cmpR op_ne (pe_callB (call_reprP hgd (hr.mono (by decide))) (by rfl) m_repr (by decide +kernel) (pa_cons (pe_cal c__law_field (hr.mono (by decide)) rfl pass0 (pa_cons (pv 8) (pa_cons (pv 9) pa_nil))) pa_nil)) (pe_callB (call_reprP hgd (hr.mono (by decide))) (by rfl) m_repr (by decide +kernel) (pa_cons (pv 4) pa_nil)) (nomark _)) (pss_one (ps_ret pe_bl)) pss_nil)
    (pss_cons (ps_if (pt_cmpR op_ne (pe_callB (call_reprP hgd (hr.mono (by decide))) (by rfl) m_repr (by decide +kernel) (pa_cons (pe_cal c__law_field (hr.mono (by decide)) rfl pass0 (pa_cons (pe_ix ix_list (pv 6) (pv 7) (fun _ _ => rfl)) (pa_cons (pv 9) pa_nil))) pa_nil)) (pe_callB (call_reprP hgd (hr.mono (by decide))) (by rfl) m_repr (by decide +kernel) (pa_cons (pv 4) pa_nil)) (nomark _)) (pss_one (ps_ret pe_bl)) pss_nil)
    (pss_cons (ps_setLc (i := 10) (own := [("_law_number", 12)]) (g := (gName 12)) (tt := tYes) (te := (tOp (rInD K) (tVar 12) (tOp (rIxL K) (tVar 1) (tVar 7)))) rfl sc_law.nd rfl rfl (sw_true rfl rfl rfl (by decide +kernel)) (pi_range1 rfl m_range (pa_cons pe_int pa_nil)) (blkOk_by (N := ["_law_script", "_law_rows", "_law_k", "_law_pool_here", "_law_one", "_law_errors_here", "_law_named_here", "_law_place", "_law_error", "_law_way", "_law_due", "_law_kept", "_law_number"]) (sc := defScope s_law) (by decide +kernel)) (fun _ _ _ _ _ => (pg_name (i := 12) sc_law.nd rfl (by first | exact Or.inl rfl | exact Or.inr rfl))) (fun _ _ _ _ _ => pts_nil) (fun _ _ _ _ _ => (pe_cmpR (op_inD (u1 hr)) (pv 12) (pe_ix ix_list (pv 1) (pv 7) (fun _ _ => rfl)) (by rfl))))
    (pss_cons (ps_if (PW.pt (pw_or (pt_cmpR (op_neD hr.units) (pe_cal c__law_bases (hr.mono (by decide)) rfl pass0 (pa_cons (pv 8) pa_nil)) (pv 10) (nomark _)) (pw_or1 (pt_cmpR (op_neD hr.units) (pe_cal c__law_bases (hr.mono (by decide)) rfl pass0 (pa_cons (pe_ix ix_list (pv 6) (pv 7) (fun _ _ => rfl)) pa_nil)) (pv 10) (nomark _))))) (pss_one (ps_ret pe_bl)) pss_nil)
    (pss_one (ps_if (pt_cmpR (op_neD hr.units) (pe_cal c__law_classes (hr.mono (by decide)) rfl pass0 (pa_cons (pv 8) pa_nil)) (pe_lc (own := [("_law_number", 12)]) (g := (gName 12)) (tt := tYes) (te := (tOp rEq (tVar 12) (tVar 7))) rfl sc_law.nd (pi_range1 rfl m_range (pa_cons pe_int pa_nil)) (blkOk_by (N := ["_law_script", "_law_rows", "_law_k", "_law_pool_here", "_law_one", "_law_errors_here", "_law_named_here", "_law_place", "_law_error", "_law_way", "_law_due", "_law_kept", "_law_number"]) (sc := defScope s_law) (by decide +kernel)) (fun _ _ _ _ _ => (pg_name (i := 12) sc_law.nd rfl (by first | exact Or.inl rfl | exact Or.inr rfl))) (fun _ _ _ _ _ => pts_nil) (fun _ _ _ _ _ => (pe_cmpR op_eq (pv 12) (pv 7) (nomark _)))) (nomark _)) (pss_one (ps_ret pe_bl)) pss_nil))))))))))))))
    (pss_cons (ps_set (i := 11) sc_law.nd rfl (by first | exact Or.inl rfl | exact Or.inr rfl) (pe_lst (pa_cons pe_int pa_nil)))
    (pss_cons (ps_set (i := 8) sc_law.nd rfl (by first | exact Or.inl rfl | exact Or.inr rfl) (pe_mkx cx_InvalidNumber (hr.mono (by decide)) pass0 (by rfl) (pa_cons (pv 11) pa_nil)))
    (pss_cons (ps_expr (pe_bm PySem.F.plainAttrs_list PySem.F.slot_list_append PySem.F.type_list_append mt_append (pv 11) (pa_cons pe_int pa_nil)))
    (pss_one (ps_ret (pe_cmpR (op_eqD hr.units) (pe_xe (pv 8)) (pe_lst (pa_cons pe_int (pa_cons pe_int pa_nil))) (nomark _)))))))))
theorem ok_law {P : Program} {w : World} {K : PySem.W.Frag} {mg : Str → Option Value} {base : Heap} {C_InvalidNumber : Addr} {C_InvalidProfile : Addr} {C_InvalidWidths : Addr} {C_InvalidWeights : Addr} {C_InvalidObservations : Addr} {C_InvalidOperations : Addr} {C_ParseError : Addr} {C_InvalidCommand : Addr} {C_InvalidCascade : Addr} {C_ScriptError : Addr} {C_InvalidColumn : Addr} {C_InvalidValley : Addr} {C_UnknownName : Addr} {C_LimitExceeded : Addr} {C_NothingToUndo : Addr} {C_RainError : Addr} {f : Addr} {fd : FuncData} (F : FunD K "law" "law" (defArgs s_law) (defBody s_law) (defScope s_law) [] [] f fd) (m_len : mg "len" = none) (m_min : mg "min" = none) (m_max : mg "max" = none) (m_range : mg "range" = none) (c__law_pool : Cal P w K mg base CX0 1 "_law_pool" ["_law_script", "_law_k"] (RvM.spPool K)) (c__law_take : Cal P w K mg base CX0 1 "_law_take" ["_law_pool_here", "_law_many"] (RvM.spTake K)) (c__law_named : Cal P w K mg base CX0 4 "_law_named" ["_law_one"] (spNamed90 K [C_InvalidNumber, C_InvalidProfile, C_InvalidWidths, C_InvalidWeights, C_InvalidObservations, C_InvalidOperations, C_ParseError, C_InvalidCommand, C_InvalidCascade, C_ScriptError, C_InvalidColumn, C_InvalidValley, C_UnknownName, C_LimitExceeded, C_NothingToUndo] C_RainError)) (c__law_errors : Cal P w K mg base CX0 4 "_law_errors" ["_law_one"] (spErrs90 K [C_InvalidNumber, C_InvalidProfile, C_InvalidWidths, C_InvalidWeights, C_InvalidObservations, C_InvalidOperations, C_ParseError, C_InvalidCommand, C_InvalidCascade, C_ScriptError, C_InvalidColumn, C_InvalidValley, C_UnknownName, C_LimitExceeded, C_NothingToUndo] C_RainError)) (c__law_field : Cal P w K mg base CX0 2 "_law_field" ["_law_error", "_law_way"] (spField90 K)) (m_repr : mg "repr" = none) (c__law_bases : Cal P w K mg base CX0 2 "_law_bases" ["_law_error"] (spBases90 K [C_InvalidNumber, C_InvalidProfile, C_InvalidWidths, C_InvalidWeights, C_InvalidObservations, C_InvalidOperations, C_ParseError, C_InvalidCommand, C_InvalidCascade, C_ScriptError, C_InvalidColumn, C_InvalidValley, C_UnknownName, C_LimitExceeded, C_NothingToUndo] C_RainError)) (c__law_classes : Cal P w K mg base CX0 2 "_law_classes" ["_law_error"] (spClasses90 K [C_InvalidNumber, C_InvalidProfile, C_InvalidWidths, C_InvalidWeights, C_InvalidObservations, C_InvalidOperations, C_ParseError, C_InvalidCommand, C_InvalidCascade, C_ScriptError, C_InvalidColumn, C_InvalidValley, C_UnknownName, C_LimitExceeded, C_NothingToUndo] C_RainError)) (cx_InvalidNumber : CalX P w K mg base CX0 1 "InvalidNumber" C_InvalidNumber ["self", "value"] (spExc K C_InvalidNumber "ValueError" "ValueError.__new__" "ValueError.__init__" bm_ValueError "value") [] "ValueError" "ValueError.__new__" "ValueError.__init__" bm_ValueError) : FnOkG P w K mg base CX0 6 f fd ["_law_script"] (spLaw90 K [C_InvalidNumber, C_InvalidProfile, C_InvalidWidths, C_InvalidWeights, C_InvalidObservations, C_InvalidOperations, C_ParseError, C_InvalidCommand, C_InvalidCascade, C_ScriptError, C_InvalidColumn, C_InvalidValley, C_UnknownName, C_LimitExceeded, C_NothingToUndo] C_RainError) :=
  Rv.FunD.okG F sc_law (fun vs H Q E h => by first | (obtain ⟨_, rfl, _⟩ := h; rfl) | (obtain ⟨_, _, rfl, _⟩ := h; rfl) | (obtain ⟨_, _, _, rfl, _⟩ := h; rfl) | (obtain ⟨_, _, _, _, rfl, _⟩ := h; rfl) | (obtain ⟨_, _, _, _, _, rfl, _⟩ := h; rfl) | (obtain ⟨_, _, _, _, _, _, rfl, _⟩ := h; rfl) | (obtain ⟨_, _, _, _, _, _, _, rfl, _⟩ := h; rfl) | (obtain ⟨_, _, _, _, _, _, _, _, rfl, _⟩ := h; rfl) | (obtain ⟨_, _, _, _, _, _, _, _, _, rfl, _⟩ := h; rfl) | (obtain ⟨_, _, _, _, _, _, _, _, _, _, rfl, _⟩ := h; rfl) | (obtain ⟨_, _, _, _, _, _, _, _, _, _, _, rfl, _⟩ := h; rfl) | (obtain ⟨_, _, _, _, _, _, _, _, _, _, _, _, rfl, _⟩ := h; rfl) | (obtain ⟨_, _, _, _, _, _, _, _, _, _, _, _, _, rfl, _⟩ := h; rfl) | (obtain ⟨_, _, _, _, _, _, _, _, _, _, _, _, _, _, rfl, _⟩ := h; rfl) | (obtain ⟨_, _, _, _, _, _, _, _, _, _, _, _, _, _, _, rfl, _⟩ := h; rfl) | (obtain ⟨_, _, _, _, _, _, _, _, _, _, _, _, _, _, _, _, rfl, _⟩ := h; rfl) | (obtain ⟨_, _, _, _, _, _, _, _, _, _, _, _, _, _, _, _, _, rfl, _⟩ := h; rfl) | (obtain ⟨_, _, _, _, _, _, _, _, _, _, _, _, _, _, _, _, _, _, rfl, _⟩ := h; rfl) | (obtain ⟨_, _, _, _, _, _, _, _, _, _, _, _, _, _, _, _, _, _, _, rfl, _⟩ := h; rfl) | (obtain ⟨_, _, _, _, _, _, _, _, _, _, _, _, _, _, _, _, _, _, _, _, rfl, _⟩ := h; rfl) | (obtain ⟨_, _, _, _, _, _, _, _, _, _, _, _, _, _, _, _, _, _, _, _, _, rfl, _⟩ := h; rfl) | (obtain ⟨_, _, _, _, _, _, _, _, _, _, _, _, _, _, _, _, _, _, _, _, _, _, rfl, _⟩ := h; rfl) | (obtain ⟨_, _, _, _, _, _, _, _, _, _, _, _, _, _, _, _, _, _, _, _, _, _, _, rfl, _⟩ := h; rfl) | (obtain ⟨_, _, _, _, _, _, _, _, _, _, _, _, _, _, _, _, _, _, _, _, _, _, _, _, rfl, _⟩ := h; rfl) | (obtain ⟨_, _, _, _, _, _, _, _, _, _, _, _, _, _, _, _, _, _, _, _, _, _, _, _, _, rfl, _⟩ := h; rfl)) (fun cdv A outer s H vs Q E hgd hr h => ⟨_, d_law m_len m_min m_max m_range c__law_pool c__law_take c__law_named c__law_errors c__law_field m_repr c__law_bases c__law_classes cx_InvalidNumber hgd hr, p_law90 h⟩)
theorem exb_ox_InvalidNumber {K : PySem.W.Frag} (h : exB K = true) : oxB K "InvalidNumber" "ValueError.__new__" bm_ValueError = true := (He.ba h).1
theorem exb_xf_InvalidNumber {K : PySem.W.Frag} (h : exB K = true) : xfB K (He.ga K "InvalidNumber") = true := (He.ba (He.ba h).2).1
theorem exb_no_InvalidNumber {K : PySem.W.Frag} (h : exB K = true) : decide (PySem.W.findIn K (.ref (He.ga K "InvalidNumber")) "value" = some none) = true := (He.ba (He.ba (He.ba h).2).2).1
theorem exb_ec_InvalidNumber {K : PySem.W.Frag} (h : exB K = true) : ecB K "InvalidNumber" = true := (He.ba (He.ba (He.ba (He.ba h).2).2).2).1
theorem exb_bg_RainError {K : PySem.W.Frag} (h : exB K = true) : bgB K "RainError" "ValueError.__init__" = true := (He.ba (He.ba (He.ba (He.ba (He.ba h).2).2).2).2).1
theorem exb_ox_InvalidProfile {K : PySem.W.Frag} (h : exB K = true) : oxB K "InvalidProfile" "ValueError.__new__" bm_ValueError = true := (He.ba (He.ba (He.ba (He.ba (He.ba (He.ba h).2).2).2).2).2).1
theorem exb_xf_InvalidProfile {K : PySem.W.Frag} (h : exB K = true) : xfB K (He.ga K "InvalidProfile") = true := (He.ba (He.ba (He.ba (He.ba (He.ba (He.ba (He.ba h).2).2).2).2).2).2).1
theorem exb_no_InvalidProfile {K : PySem.W.Frag} (h : exB K = true) : decide (PySem.W.findIn K (.ref (He.ga K "InvalidProfile")) "index" = some none) = true := (He.ba (He.ba (He.ba (He.ba (He.ba (He.ba (He.ba (He.ba h).2).2).2).2).2).2).2).1
theorem exb_ec_InvalidProfile {K : PySem.W.Frag} (h : exB K = true) : ecB K "InvalidProfile" = true := (He.ba (He.ba (He.ba (He.ba (He.ba (He.ba (He.ba (He.ba (He.ba h).2).2).2).2).2).2).2).2).1
theorem exb_ox_InvalidWidths {K : PySem.W.Frag} (h : exB K = true) : oxB K "InvalidWidths" "ValueError.__new__" bm_ValueError = true := (He.ba (He.ba (He.ba (He.ba (He.ba (He.ba (He.ba (He.ba (He.ba (He.ba h).2).2).2).2).2).2).2).2).2).1
theorem exb_xf_InvalidWidths {K : PySem.W.Frag} (h : exB K = true) : xfB K (He.ga K "InvalidWidths") = true := (He.ba (He.ba (He.ba (He.ba (He.ba (He.ba (He.ba (He.ba (He.ba (He.ba (He.ba h).2).2).2).2).2).2).2).2).2).2).1
theorem exb_no_InvalidWidths {K : PySem.W.Frag} (h : exB K = true) : decide (PySem.W.findIn K (.ref (He.ga K "InvalidWidths")) "index" = some none) = true := (He.ba (He.ba (He.ba (He.ba (He.ba (He.ba (He.ba (He.ba (He.ba (He.ba (He.ba (He.ba h).2).2).2).2).2).2).2).2).2).2).2).1
theorem exb_ec_InvalidWidths {K : PySem.W.Frag} (h : exB K = true) : ecB K "InvalidWidths" = true := (He.ba (He.ba (He.ba (He.ba (He.ba (He.ba (He.ba (He.ba (He.ba (He.ba (He.ba (He.ba (He.ba h).2).2).2).2).2).2).2).2).2).2).2).2).1
theorem exb_ox_InvalidWeights {K : PySem.W.Frag} (h : exB K = true) : oxB K "InvalidWeights" "ValueError.__new__" bm_ValueError = true := (He.ba (He.ba (He.ba (He.ba (He.ba (He.ba (He.ba (He.ba (He.ba (He.ba (He.ba (He.ba (He.ba (He.ba h).2).2).2).2).2).2).2).2).2).2).2).2).2).1
theorem exb_xf_InvalidWeights {K : PySem.W.Frag} (h : exB K = true) : xfB K (He.ga K "InvalidWeights") = true := (He.ba (He.ba (He.ba (He.ba (He.ba (He.ba (He.ba (He.ba (He.ba (He.ba (He.ba (He.ba (He.ba (He.ba (He.ba h).2).2).2).2).2).2).2).2).2).2).2).2).2).2).1
theorem exb_no_InvalidWeights {K : PySem.W.Frag} (h : exB K = true) : decide (PySem.W.findIn K (.ref (He.ga K "InvalidWeights")) "index" = some none) = true := (He.ba (He.ba (He.ba (He.ba (He.ba (He.ba (He.ba (He.ba (He.ba (He.ba (He.ba (He.ba (He.ba (He.ba (He.ba (He.ba h).2).2).2).2).2).2).2).2).2).2).2).2).2).2).2).1
theorem exb_ec_InvalidWeights {K : PySem.W.Frag} (h : exB K = true) : ecB K "InvalidWeights" = true := (He.ba (He.ba (He.ba (He.ba (He.ba (He.ba (He.ba (He.ba (He.ba (He.ba (He.ba (He.ba (He.ba (He.ba (He.ba (He.ba (He.ba h).2).2).2).2).2).2).2).2).2).2).2).2).2).2).2).2).1
theorem exb_ox_InvalidObservations {K : PySem.W.Frag} (h : exB K = true) : oxB K "InvalidObservations" "ValueError.__new__" bm_ValueError = true := (He.ba (He.ba (He.ba (He.ba (He.ba (He.ba (He.ba (He.ba (He.ba (He.ba (He.ba (He.ba (He.ba (He.ba (He.ba (He.ba (He.ba (He.ba h).2).2).2).2).2).2).2).2).2).2).2).2).2).2).2).2).2).1
theorem exb_xf_InvalidObservations {K : PySem.W.Frag} (h : exB K = true) : xfB K (He.ga K "InvalidObservations") = true := (He.ba (He.ba (He.ba (He.ba (He.ba (He.ba (He.ba (He.ba (He.ba (He.ba (He.ba (He.ba (He.ba (He.ba (He.ba (He.ba (He.ba (He.ba (He.ba h).2).2).2).2).2).2).2).2).2).2).2).2).2).2).2).2).2).2).1
theorem exb_no_InvalidObservations {K : PySem.W.Frag} (h : exB K = true) : decide (PySem.W.findIn K (.ref (He.ga K "InvalidObservations")) "index" = some none) = true := (He.ba (He.ba (He.ba (He.ba (He.ba (He.ba (He.ba (He.ba (He.ba (He.ba (He.ba (He.ba (He.ba (He.ba (He.ba (He.ba (He.ba (He.ba (He.ba (He.ba h).2).2).2).2).2).2).2).2).2).2).2).2).2).2).2).2).2).2).2).1
theorem exb_ec_InvalidObservations {K : PySem.W.Frag} (h : exB K = true) : ecB K "InvalidObservations" = true := (He.ba (He.ba (He.ba (He.ba (He.ba (He.ba (He.ba (He.ba (He.ba (He.ba (He.ba (He.ba (He.ba (He.ba (He.ba (He.ba (He.ba (He.ba (He.ba (He.ba (He.ba h).2).2).2).2).2).2).2).2).2).2).2).2).2).2).2).2).2).2).2).2).1
theorem exb_ox_InvalidOperations {K : PySem.W.Frag} (h : exB K = true) : oxB K "InvalidOperations" "ValueError.__new__" bm_ValueError = true := (He.ba (He.ba (He.ba (He.ba (He.ba (He.ba (He.ba (He.ba (He.ba (He.ba (He.ba (He.ba (He.ba (He.ba (He.ba (He.ba (He.ba (He.ba (He.ba (He.ba (He.ba (He.ba h).2).2).2).2).2).2).2).2).2).2).2).2).2).2).2).2).2).2).2).2).2).1
theorem exb_xf_InvalidOperations {K : PySem.W.Frag} (h : exB K = true) : xfB K (He.ga K "InvalidOperations") = true := (He.ba (He.ba (He.ba (He.ba (He.ba (He.ba (He.ba (He.ba (He.ba (He.ba (He.ba (He.ba (He.ba (He.ba (He.ba (He.ba (He.ba (He.ba (He.ba (He.ba (He.ba (He.ba (He.ba h).2).2).2).2).2).2).2).2).2).2).2).2).2).2).2).2).2).2).2).2).2).2).1
theorem exb_no_InvalidOperations {K : PySem.W.Frag} (h : exB K = true) : decide (PySem.W.findIn K (.ref (He.ga K "InvalidOperations")) "index" = some none) = true := (He.ba (He.ba (He.ba (He.ba (He.ba (He.ba (He.ba (He.ba (He.ba (He.ba (He.ba (He.ba (He.ba (He.ba (He.ba (He.ba (He.ba (He.ba (He.ba (He.ba (He.ba (He.ba (He.ba (He.ba h).2).2).2).2).2).2).2).2).2).2).2).2).2).2).2).2).2).2).2).2).2).2).2).1
theorem exb_ec_InvalidOperations {K : PySem.W.Frag} (h : exB K = true) : ecB K "InvalidOperations" = true := (He.ba (He.ba (He.ba (He.ba (He.ba (He.ba (He.ba (He.ba (He.ba (He.ba (He.ba (He.ba (He.ba (He.ba (He.ba (He.ba (He.ba (He.ba (He.ba (He.ba (He.ba (He.ba (He.ba (He.ba (He.ba h).2).2).2).2).2).2).2).2).2).2).2).2).2).2).2).2).2).2).2).2).2).2).2).2).1
theorem exb_ox_ParseError {K : PySem.W.Frag} (h : exB K = true) : oxB K "ParseError" "ValueError.__new__" bm_ValueError = true := (He.ba (He.ba (He.ba (He.ba (He.ba (He.ba (He.ba (He.ba (He.ba (He.ba (He.ba (He.ba (He.ba (He.ba (He.ba (He.ba (He.ba (He.ba (He.ba (He.ba (He.ba (He.ba (He.ba (He.ba (He.ba (He.ba h).2).2).2).2).2).2).2).2).2).2).2).2).2).2).2).2).2).2).2).2).2).2).2).2).2).1
theorem exb_xf_ParseError {K : PySem.W.Frag} (h : exB K = true) : xfB K (He.ga K "ParseError") = true := (He.ba (He.ba (He.ba (He.ba (He.ba (He.ba (He.ba (He.ba (He.ba (He.ba (He.ba (He.ba (He.ba (He.ba (He.ba (He.ba (He.ba (He.ba (He.ba (He.ba (He.ba (He.ba (He.ba (He.ba (He.ba (He.ba (He.ba h).2).2).2).2).2).2).2).2).2).2).2).2).2).2).2).2).2).2).2).2).2).2).2).2).2).2).1
theorem exb_no_ParseError {K : PySem.W.Frag} (h : exB K = true) : decide (PySem.W.findIn K (.ref (He.ga K "ParseError")) "value" = some none) = true := (He.ba (He.ba (He.ba (He.ba (He.ba (He.ba (He.ba (He.ba (He.ba (He.ba (He.ba (He.ba (He.ba (He.ba (He.ba (He.ba (He.ba (He.ba (He.ba (He.ba (He.ba (He.ba (He.ba (He.ba (He.ba (He.ba (He.ba (He.ba h).2).2).2).2).2).2).2).2).2).2).2).2).2).2).2).2).2).2).2).2).2).2).2).2).2).2).2).1
theorem exb_ec_ParseError {K : PySem.W.Frag} (h : exB K = true) : ecB K "ParseError" = true := (He.ba (He.ba (He.ba (He.ba (He.ba (He.ba (He.ba (He.ba (He.ba (He.ba (He.ba (He.ba (He.ba (He.ba (He.ba (He.ba (He.ba (He.ba (He.ba (He.ba (He.ba (He.ba (He.ba (He.ba (He.ba (He.ba (He.ba (He.ba (He.ba h).2).2).2).2).2).2).2).2).2).2).2).2).2).2).2).2).2).2).2).2).2).2).2).2).2).2).2).2).1
theorem exb_ox_InvalidCommand {K : PySem.W.Frag} (h : exB K = true) : oxB K "InvalidCommand" "ValueError.__new__" bm_ValueError = true := (He.ba (He.ba (He.ba (He.ba (He.ba (He.ba (He.ba (He.ba (He.ba (He.ba (He.ba (He.ba (He.ba (He.ba (He.ba (He.ba (He.ba (He.ba (He.ba (He.ba (He.ba (He.ba (He.ba (He.ba (He.ba (He.ba (He.ba (He.ba (He.ba (He.ba h).2).2).2).2).2).2).2).2).2).2).2).2).2).2).2).2).2).2).2).2).2).2).2).2).2).2).2).2).2).1
theorem exb_xf_InvalidCommand {K : PySem.W.Frag} (h : exB K = true) : xfB K (He.ga K "InvalidCommand") = true := (He.ba (He.ba (He.ba (He.ba (He.ba (He.ba (He.ba (He.ba (He.ba (He.ba (He.ba (He.ba (He.ba (He.ba (He.ba (He.ba (He.ba (He.ba (He.ba (He.ba (He.ba (He.ba (He.ba (He.ba (He.ba (He.ba (He.ba (He.ba (He.ba (He.ba (He.ba h).2).2).2).2).2).2).2).2).2).2).2).2).2).2).2).2).2).2).2).2).2).2).2).2).2).2).2).2).2).2).1
theorem exb_no_InvalidCommand {K : PySem.W.Frag} (h : exB K = true) : decide (PySem.W.findIn K (.ref (He.ga K "InvalidCommand")) "value" = some none) = true := (He.ba (He.ba (He.ba (He.ba (He.ba (He.ba (He.ba (He.ba (He.ba (He.ba (He.ba (He.ba (He.ba (He.ba (He.ba (He.ba (He.ba (He.ba (He.ba (He.ba (He.ba (He.ba (He.ba (He.ba (He.ba (He.ba (He.ba (He.ba (He.ba (He.ba (He.ba (He.ba h).2).2).2).2).2).2).2).2).2).2).2).2).2).2).2).2).2).2).2).2).2).2).2).2).2).2).2).2).2).2).2).1
theorem exb_ec_InvalidCommand {K : PySem.W.Frag} (h : exB K = true) : ecB K "InvalidCommand" = true := (He.ba (He.ba (He.ba (He.ba (He.ba (He.ba (He.ba (He.ba (He.ba (He.ba (He.ba (He.ba (He.ba (He.ba (He.ba (He.ba (He.ba (He.ba (He.ba (He.ba (He.ba (He.ba (He.ba (He.ba (He.ba (He.ba (He.ba (He.ba (He.ba (He.ba (He.ba (He.ba (He.ba h).2).2).2).2).2).2).2).2).2).2).2).2).2).2).2).2).2).2).2).2).2).2).2).2).2).2).2).2).2).2).2).2).1
theorem exb_ox_InvalidCascade {K : PySem.W.Frag} (h : exB K = true) : oxB K "InvalidCascade" "ValueError.__new__" bm_ValueError = true := (He.ba (He.ba (He.ba (He.ba (He.ba (He.ba (He.ba (He.ba (He.ba (He.ba (He.ba (He.ba (He.ba (He.ba (He.ba (He.ba (He.ba (He.ba (He.ba (He.ba (He.ba (He.ba (He.ba (He.ba (He.ba (He.ba (He.ba (He.ba (He.ba (He.ba (He.ba (He.ba (He.ba (He.ba h).2).2).2).2).2).2).2).2).2).2).2).2).2).2).2).2).2).2).2).2).2).2).2).2).2).2).2).2).2).2).2).2).2).1
theorem exb_xf_InvalidCascade {K : PySem.W.Frag} (h : exB K = true) : xfB K (He.ga K "InvalidCascade") = true := (He.ba (He.ba (He.ba (He.ba (He.ba (He.ba (He.ba (He.ba (He.ba (He.ba (He.ba (He.ba (He.ba (He.ba (He.ba (He.ba (He.ba (He.ba (He.ba (He.ba (He.ba (He.ba (He.ba (He.ba (He.ba (He.ba (He.ba (He.ba (He.ba (He.ba (He.ba (He.ba (He.ba (He.ba (He.ba h).2).2).2).2).2).2).2).2).2).2).2).2).2).2).2).2).2).2).2).2).2).2).2).2).2).2).2).2).2).2).2).2).2).2).1
theorem exb_no_InvalidCascade {K : PySem.W.Frag} (h : exB K = true) : decide (PySem.W.findIn K (.ref (He.ga K "InvalidCascade")) "name" = some none) = true := (He.ba (He.ba (He.ba (He.ba (He.ba (He.ba (He.ba (He.ba (He.ba (He.ba (He.ba (He.ba (He.ba (He.ba (He.ba (He.ba (He.ba (He.ba (He.ba (He.ba (He.ba (He.ba (He.ba (He.ba (He.ba (He.ba (He.ba (He.ba (He.ba (He.ba (He.ba (He.ba (He.ba (He.ba (He.ba (He.ba h).2).2).2).2).2).2).2).2).2).2).2).2).2).2).2).2).2).2).2).2).2).2).2).2).2).2).2).2).2).2).2).2).2).2).2).1
theorem exb_ec_InvalidCascade {K : PySem.W.Frag} (h : exB K = true) : ecB K "InvalidCascade" = true := (He.ba (He.ba (He.ba (He.ba (He.ba (He.ba (He.ba (He.ba (He.ba (He.ba (He.ba (He.ba (He.ba (He.ba (He.ba (He.ba (He.ba (He.ba (He.ba (He.ba (He.ba (He.ba (He.ba (He.ba (He.ba (He.ba (He.ba (He.ba (He.ba (He.ba (He.ba (He.ba (He.ba (He.ba (He.ba (He.ba (He.ba h).2).2).2).2).2).2).2).2).2).2).2).2).2).2).2).2).2).2).2).2).2).2).2).2).2).2).2).2).2).2).2).2).2).2).2).2).1
theorem exb_ox_ScriptError {K : PySem.W.Frag} (h : exB K = true) : oxB K "ScriptError" "ValueError.__new__" bm_ValueError = true := (He.ba (He.ba (He.ba (He.ba (He.ba (He.ba (He.ba (He.ba (He.ba (He.ba (He.ba (He.ba (He.ba (He.ba (He.ba (He.ba (He.ba (He.ba (He.ba (He.ba (He.ba (He.ba (He.ba (He.ba (He.ba (He.ba (He.ba (He.ba (He.ba (He.ba (He.ba (He.ba (He.ba (He.ba (He.ba (He.ba (He.ba (He.ba h).2).2).2).2).2).2).2).2).2).2).2).2).2).2).2).2).2).2).2).2).2).2).2).2).2).2).2).2).2).2).2).2).2).2).2).2).2).1
theorem exb_xf_ScriptError {K : PySem.W.Frag} (h : exB K = true) : xfB K (He.ga K "ScriptError") = true := (He.ba (He.ba (He.ba (He.ba (He.ba (He.ba (He.ba (He.ba (He.ba (He.ba (He.ba (He.ba (He.ba (He.ba (He.ba (He.ba (He.ba (He.ba (He.ba (He.ba (He.ba (He.ba (He.ba (He.ba (He.ba (He.ba (He.ba (He.ba (He.ba (He.ba (He.ba (He.ba (He.ba (He.ba (He.ba (He.ba (He.ba (He.ba (He.ba h).2).2).2).2).2).2).2).2).2).2).2).2).2).2).2).2).2).2).2).2).2).2).2).2).2).2).2).2).2).2).2).2).2).2).2).2).2).2).1
theorem exb_no_ScriptError {K : PySem.W.Frag} (h : exB K = true) : decide (PySem.W.findIn K (.ref (He.ga K "ScriptError")) "line" = some none) = true := (He.ba (He.ba (He.ba (He.ba (He.ba (He.ba (He.ba (He.ba (He.ba (He.ba (He.ba (He.ba (He.ba (He.ba (He.ba (He.ba (He.ba (He.ba (He.ba (He.ba (He.ba (He.ba (He.ba (He.ba (He.ba (He.ba (He.ba (He.ba (He.ba (He.ba (He.ba (He.ba (He.ba (He.ba (He.ba (He.ba (He.ba (He.ba (He.ba (He.ba h).2).2).2).2).2).2).2).2).2).2).2).2).2).2).2).2).2).2).2).2).2).2).2).2).2).2).2).2).2).2).2).2).2).2).2).2).2).2).2).1
theorem exb_ec_ScriptError {K : PySem.W.Frag} (h : exB K = true) : ecB K "ScriptError" = true := (He.ba (He.ba (He.ba (He.ba (He.ba (He.ba (He.ba (He.ba (He.ba (He.ba (He.ba (He.ba (He.ba (He.ba (He.ba (He.ba (He.ba (He.ba (He.ba (He.ba (He.ba (He.ba (He.ba (He.ba (He.ba (He.ba (He.ba (He.ba (He.ba (He.ba (He.ba (He.ba (He.ba (He.ba (He.ba (He.ba (He.ba (He.ba (He.ba (He.ba (He.ba h).2).2).2).2).2).2).2).2).2).2).2).2).2).2).2).2).2).2).2).2).2).2).2).2).2).2).2).2).2).2).2).2).2).2).2).2).2).2).2).2).1
theorem exb_ox_InvalidColumn {K : PySem.W.Frag} (h : exB K = true) : oxB K "InvalidColumn" "IndexError.__new__" bm_IndexError = true := (He.ba (He.ba (He.ba (He.ba (He.ba (He.ba (He.ba (He.ba (He.ba (He.ba (He.ba (He.ba (He.ba (He.ba (He.ba (He.ba (He.ba (He.ba (He.ba (He.ba (He.ba (He.ba (He.ba (He.ba (He.ba (He.ba (He.ba (He.ba (He.ba (He.ba (He.ba (He.ba (He.ba (He.ba (He.ba (He.ba (He.ba (He.ba (He.ba (He.ba (He.ba (He.ba h).2).2).2).2).2).2).2).2).2).2).2).2).2).2).2).2).2).2).2).2).2).2).2).2).2).2).2).2).2).2).2).2).2).2).2).2).2).2).2).2).2).1
theorem exb_xf_InvalidColumn {K : PySem.W.Frag} (h : exB K = true) : xfB K (He.ga K "InvalidColumn") = true := (He.ba (He.ba (He.ba (He.ba (He.ba (He.ba (He.ba (He.ba (He.ba (He.ba (He.ba (He.ba (He.ba (He.ba (He.ba (He.ba (He.ba (He.ba (He.ba (He.ba (He.ba (He.ba (He.ba (He.ba (He.ba (He.ba (He.ba (He.ba (He.ba (He.ba (He.ba (He.ba (He.ba (He.ba (He.ba (He.ba (He.ba (He.ba (He.ba (He.ba (He.ba (He.ba (He.ba h).2).2).2).2).2).2).2).2).2).2).2).2).2).2).2).2).2).2).2).2).2).2).2).2).2).2).2).2).2).2).2).2).2).2).2).2).2).2).2).2).2).2).1
theorem exb_no_InvalidColumn {K : PySem.W.Frag} (h : exB K = true) : decide (PySem.W.findIn K (.ref (He.ga K "InvalidColumn")) "value" = some none) = true := (He.ba (He.ba (He.ba (He.ba (He.ba (He.ba (He.ba (He.ba (He.ba (He.ba (He.ba (He.ba (He.ba (He.ba (He.ba (He.ba (He.ba (He.ba (He.ba (He.ba (He.ba (He.ba (He.ba (He.ba (He.ba (He.ba (He.ba (He.ba (He.ba (He.ba (He.ba (He.ba (He.ba (He.ba (He.ba (He.ba (He.ba (He.ba (He.ba (He.ba (He.ba (He.ba (He.ba (He.ba h).2).2).2).2).2).2).2).2).2).2).2).2).2).2).2).2).2).2).2).2).2).2).2).2).2).2).2).2).2).2).2).2).2).2).2).2).2).2).2).2).2).2).2).1
theorem exb_ec_InvalidColumn {K : PySem.W.Frag} (h : exB K = true) : ecB K "InvalidColumn" = true := (He.ba (He.ba (He.ba (He.ba (He.ba (He.ba (He.ba (He.ba (He.ba (He.ba (He.ba (He.ba (He.ba (He.ba (He.ba (He.ba (He.ba (He.ba (He.ba (He.ba (He.ba (He.ba (He.ba (He.ba (He.ba (He.ba (He.ba (He.ba (He.ba (He.ba (He.ba (He.ba (He.ba (He.ba (He.ba (He.ba (He.ba (He.ba (He.ba (He.ba (He.ba (He.ba (He.ba (He.ba (He.ba h).2).2).2).2).2).2).2).2).2).2).2).2).2).2).2).2).2).2).2).2).2).2).2).2).2).2).2).2).2).2).2).2).2).2).2).2).2).2).2).2).2).2).2).2).1
theorem exb_vi_IndexError {K : PySem.W.Frag} (h : exB K = true) : viB K "IndexError" = true := (He.ba (He.ba (He.ba (He.ba (He.ba (He.ba (He.ba (He.ba (He.ba (He.ba (He.ba (He.ba (He.ba (He.ba (He.ba (He.ba (He.ba (He.ba (He.ba (He.ba (He.ba (He.ba (He.ba (He.ba (He.ba (He.ba (He.ba (He.ba (He.ba (He.ba (He.ba (He.ba (He.ba (He.ba (He.ba (He.ba (He.ba (He.ba (He.ba (He.ba (He.ba (He.ba (He.ba (He.ba (He.ba (He.ba h).2).2).2).2).2).2).2).2).2).2).2).2).2).2).2).2).2).2).2).2).2).2).2).2).2).2).2).2).2).2).2).2).2).2).2).2).2).2).2).2).2).2).2).2).2).1
theorem exb_ox_InvalidValley {K : PySem.W.Frag} (h : exB K = true) : oxB K "InvalidValley" "IndexError.__new__" bm_IndexError = true := (He.ba (He.ba (He.ba (He.ba (He.ba (He.ba (He.ba (He.ba (He.ba (He.ba (He.ba (He.ba (He.ba (He.ba (He.ba (He.ba (He.ba (He.ba (He.ba (He.ba (He.ba (He.ba (He.ba (He.ba (He.ba (He.ba (He.ba (He.ba (He.ba (He.ba (He.ba (He.ba (He.ba (He.ba (He.ba (He.ba (He.ba (He.ba (He.ba (He.ba (He.ba (He.ba (He.ba (He.ba (He.ba (He.ba (He.ba h).2).2).2).2).2).2).2).2).2).2).2).2).2).2).2).2).2).2).2).2).2).2).2).2).2).2).2).2).2).2).2).2).2).2).2).2).2).2).2).2).2).2).2).2).2).2).1
theorem exb_xf_InvalidValley {K : PySem.W.Frag} (h : exB K = true) : xfB K (He.ga K "InvalidValley") = true := (He.ba (He.ba (He.ba (He.ba (He.ba (He.ba (He.ba (He.ba (He.ba (He.ba (He.ba (He.ba (He.ba (He.ba (He.ba (He.ba (He.ba (He.ba (He.ba (He.ba (He.ba (He.ba (He.ba (He.ba (He.ba (He.ba (He.ba (He.ba (He.ba (He.ba (He.ba (He.ba (He.ba (He.ba (He.ba (He.ba (He.ba (He.ba (He.ba (He.ba (He.ba (He.ba (He.ba (He.ba (He.ba (He.ba (He.ba (He.ba h).2).2).2).2).2).2).2).2).2).2).2).2).2).2).2).2).2).2).2).2).2).2).2).2).2).2).2).2).2).2).2).2).2).2).2).2).2).2).2).2).2).2).2).2).2).2).2).1
theorem exb_no_InvalidValley {K : PySem.W.Frag} (h : exB K = true) : decide (PySem.W.findIn K (.ref (He.ga K "InvalidValley")) "value" = some none) = true := (He.ba (He.ba (He.ba (He.ba (He.ba (He.ba (He.ba (He.ba (He.ba (He.ba (He.ba (He.ba (He.ba (He.ba (He.ba (He.ba (He.ba (He.ba (He.ba (He.ba (He.ba (He.ba (He.ba (He.ba (He.ba (He.ba (He.ba (He.ba (He.ba (He.ba (He.ba (He.ba (He.ba (He.ba (He.ba (He.ba (He.ba (He.ba (He.ba (He.ba (He.ba (He.ba (He.ba (He.ba (He.ba (He.ba (He.ba (He.ba (He.ba h).2).2).2).2).2).2).2).2).2).2).2).2).2).2).2).2).2).2).2).2).2).2).2).2).2).2).2).2).2).2).2).2).2).2).2).2).2).2).2).2).2).2).2).2).2).2).2).2).1
theorem exb_ec_InvalidValley {K : PySem.W.Frag} (h : exB K = true) : ecB K "InvalidValley" = true := (He.ba (He.ba (He.ba (He.ba (He.ba (He.ba (He.ba (He.ba (He.ba (He.ba (He.ba (He.ba (He.ba (He.ba (He.ba (He.ba (He.ba (He.ba (He.ba (He.ba (He.ba (He.ba (He.ba (He.ba (He.ba (He.ba (He.ba (He.ba (He.ba (He.ba (He.ba (He.ba (He.ba (He.ba (He.ba (He.ba (He.ba (He.ba (He.ba (He.ba (He.ba (He.ba (He.ba (He.ba (He.ba (He.ba (He.ba (He.ba (He.ba (He.ba h).2).2).2).2).2).2).2).2).2).2).2).2).2).2).2).2).2).2).2).2).2).2).2).2).2).2).2).2).2).2).2).2).2).2).2).2).2).2).2).2).2).2).2).2).2).2).2).2).2).1
theorem exb_ox_UnknownName {K : PySem.W.Frag} (h : exB K = true) : oxB K "UnknownName" "LookupError.__new__" bm_KeyError = true := (He.ba (He.ba (He.ba (He.ba (He.ba (He.ba (He.ba (He.ba (He.ba (He.ba (He.ba (He.ba (He.ba (He.ba (He.ba (He.ba (He.ba (He.ba (He.ba (He.ba (He.ba (He.ba (He.ba (He.ba (He.ba (He.ba (He.ba (He.ba (He.ba (He.ba (He.ba (He.ba (He.ba (He.ba (He.ba (He.ba (He.ba (He.ba (He.ba (He.ba (He.ba (He.ba (He.ba (He.ba (He.ba (He.ba (He.ba (He.ba (He.ba (He.ba (He.ba h).2).2).2).2).2).2).2).2).2).2).2).2).2).2).2).2).2).2).2).2).2).2).2).2).2).2).2).2).2).2).2).2).2).2).2).2).2).2).2).2).2).2).2).2).2).2).2).2).2).2).1
theorem exb_xf_UnknownName {K : PySem.W.Frag} (h : exB K = true) : xfB K (He.ga K "UnknownName") = true := (He.ba (He.ba (He.ba (He.ba (He.ba (He.ba (He.ba (He.ba (He.ba (He.ba (He.ba (He.ba (He.ba (He.ba (He.ba (He.ba (He.ba (He.ba (He.ba (He.ba (He.ba (He.ba (He.ba (He.ba (He.ba (He.ba (He.ba (He.ba (He.ba (He.ba (He.ba (He.ba (He.ba (He.ba (He.ba (He.ba (He.ba (He.ba (He.ba (He.ba (He.ba (He.ba (He.ba (He.ba (He.ba (He.ba (He.ba (He.ba (He.ba (He.ba (He.ba (He.ba h).2).2).2).2).2).2).2).2).2).2).2).2).2).2).2).2).2).2).2).2).2).2).2).2).2).2).2).2).2).2).2).2).2).2).2).2).2).2).2).2).2).2).2).2).2).2).2).2).2).2).2).1
theorem exb_no_UnknownName {K : PySem.W.Frag} (h : exB K = true) : decide (PySem.W.findIn K (.ref (He.ga K "UnknownName")) "name" = some none) = true := (He.ba (He.ba (He.ba (He.ba (He.ba (He.ba (He.ba (He.ba (He.ba (He.ba (He.ba (He.ba (He.ba (He.ba (He.ba (He.ba (He.ba (He.ba (He.ba (He.ba (He.ba (He.ba (He.ba (He.ba (He.ba (He.ba (He.ba (He.ba (He.ba (He.ba (He.ba (He.ba (He.ba (He.ba (He.ba (He.ba (He.ba (He.ba (He.ba (He.ba (He.ba (He.ba (He.ba (He.ba (He.ba (He.ba (He.ba (He.ba (He.ba (He.ba (He.ba (He.ba (He.ba h).2).2).2).2).2).2).2).2).2).2).2).2).2).2).2).2).2).2).2).2).2).2).2).2).2).2).2).2).2).2).2).2).2).2).2).2).2).2).2).2).2).2).2).2).2).2).2).2).2).2).2).2).1
theorem exb_ec_UnknownName {K : PySem.W.Frag} (h : exB K = true) : ecB K "UnknownName" = true := (He.ba (He.ba (He.ba (He.ba (He.ba (He.ba (He.ba (He.ba (He.ba (He.ba (He.ba (He.ba (He.ba (He.ba (He.ba (He.ba (He.ba (He.ba (He.ba (He.ba (He.ba (He.ba (He.ba (He.ba (He.ba (He.ba (He.ba (He.ba (He.ba (He.ba (He.ba (He.ba (He.ba (He.ba (He.ba (He.ba (He.ba (He.ba (He.ba (He.ba (He.ba (He.ba (He.ba (He.ba (He.ba (He.ba (He.ba (He.ba (He.ba (He.ba (He.ba (He.ba (He.ba (He.ba h).2).2).2).2).2).2).2).2).2).2).2).2).2).2).2).2).2).2).2).2).2).2).2).2).2).2).2).2).2).2).2).2).2).2).2).2).2).2).2).2).2).2).2).2).2).2).2).2).2).2).2).2).2).1
theorem exb_vi_KeyError {K : PySem.W.Frag} (h : exB K = true) : viB K "KeyError" = true := (He.ba (He.ba (He.ba (He.ba (He.ba (He.ba (He.ba (He.ba (He.ba (He.ba (He.ba (He.ba (He.ba (He.ba (He.ba (He.ba (He.ba (He.ba (He.ba (He.ba (He.ba (He.ba (He.ba (He.ba (He.ba (He.ba (He.ba (He.ba (He.ba (He.ba (He.ba (He.ba (He.ba (He.ba (He.ba (He.ba (He.ba (He.ba (He.ba (He.ba (He.ba (He.ba (He.ba (He.ba (He.ba (He.ba (He.ba (He.ba (He.ba (He.ba (He.ba (He.ba (He.ba (He.ba (He.ba h).2).2).2).2).2).2).2).2).2).2).2).2).2).2).2).2).2).2).2).2).2).2).2).2).2).2).2).2).2).2).2).2).2).2).2).2).2).2).2).2).2).2).2).2).2).2).2).2).2).2).2).2).2).2).1
theorem exb_ox_LimitExceeded {K : PySem.W.Frag} (h : exB K = true) : oxB K "LimitExceeded" "OverflowError.__new__" bm_OverflowError = true := (He.ba (He.ba (He.ba (He.ba (He.ba (He.ba (He.ba (He.ba (He.ba (He.ba (He.ba (He.ba (He.ba (He.ba (He.ba (He.ba (He.ba (He.ba (He.ba (He.ba (He.ba (He.ba (He.ba (He.ba (He.ba (He.ba (He.ba (He.ba (He.ba (He.ba (He.ba (He.ba (He.ba (He.ba (He.ba (He.ba (He.ba (He.ba (He.ba (He.ba (He.ba (He.ba (He.ba (He.ba (He.ba (He.ba (He.ba (He.ba (He.ba (He.ba (He.ba (He.ba (He.ba (He.ba (He.ba (He.ba h).2).2).2).2).2).2).2).2).2).2).2).2).2).2).2).2).2).2).2).2).2).2).2).2).2).2).2).2).2).2).2).2).2).2).2).2).2).2).2).2).2).2).2).2).2).2).2).2).2).2).2).2).2).2).2).1
theorem exb_xf_LimitExceeded {K : PySem.W.Frag} (h : exB K = true) : xfB K (He.ga K "LimitExceeded") = true := (He.ba (He.ba (He.ba (He.ba (He.ba (He.ba (He.ba (He.ba (He.ba (He.ba (He.ba (He.ba (He.ba (He.ba (He.ba (He.ba (He.ba (He.ba (He.ba (He.ba (He.ba (He.ba (He.ba (He.ba (He.ba (He.ba (He.ba (He.ba (He.ba (He.ba (He.ba (He.ba (He.ba (He.ba (He.ba (He.ba (He.ba (He.ba (He.ba (He.ba (He.ba (He.ba (He.ba (He.ba (He.ba (He.ba (He.ba (He.ba (He.ba (He.ba (He.ba (He.ba (He.ba (He.ba (He.ba (He.ba (He.ba h).2).2).2).2).2).2).2).2).2).2).2).2).2).2).2).2).2).2).2).2).2).2).2).2).2).2).2).2).2).2).2).2).2).2).2).2).2).2).2).2).2).2).2).2).2).2).2).2).2).2).2).2).2).2).2).2).1
theorem exb_no_LimitExceeded {K : PySem.W.Frag} (h : exB K = true) : decide (PySem.W.findIn K (.ref (He.ga K "LimitExceeded")) "limit" = some none) = true := (He.ba (He.ba (He.ba (He.ba (He.ba (He.ba (He.ba (He.ba (He.ba (He.ba (He.ba (He.ba (He.ba (He.ba (He.ba (He.ba (He.ba (He.ba (He.ba (He.ba (He.ba (He.ba (He.ba (He.ba (He.ba (He.ba (He.ba (He.ba (He.ba (He.ba (He.ba (He.ba (He.ba (He.ba (He.ba (He.ba (He.ba (He.ba (He.ba (He.ba (He.ba (He.ba (He.ba (He.ba (He.ba (He.ba (He.ba (He.ba (He.ba (He.ba (He.ba (He.ba (He.ba (He.ba (He.ba (He.ba (He.ba (He.ba h).2).2).2).2).2).2).2).2).2).2).2).2).2).2).2).2).2).2).2).2).2).2).2).2).2).2).2).2).2).2).2).2).2).2).2).2).2).2).2).2).2).2).2).2).2).2).2).2).2).2).2).2).2).2).2).2).2).1
theorem exb_ec_LimitExceeded {K : PySem.W.Frag} (h : exB K = true) : ecB K "LimitExceeded" = true := (He.ba (He.ba (He.ba (He.ba (He.ba (He.ba (He.ba (He.ba (He.ba (He.ba (He.ba (He.ba (He.ba (He.ba (He.ba (He.ba (He.ba (He.ba (He.ba (He.ba (He.ba (He.ba (He.ba (He.ba (He.ba (He.ba (He.ba (He.ba (He.ba (He.ba (He.ba (He.ba (He.ba (He.ba (He.ba (He.ba (He.ba (He.ba (He.ba (He.ba (He.ba (He.ba (He.ba (He.ba (He.ba (He.ba (He.ba (He.ba (He.ba (He.ba (He.ba (He.ba (He.ba (He.ba (He.ba (He.ba (He.ba (He.ba (He.ba h).2).2).2).2).2).2).2).2).2).2).2).2).2).2).2).2).2).2).2).2).2).2).2).2).2).2).2).2).2).2).2).2).2).2).2).2).2).2).2).2).2).2).2).2).2).2).2).2).2).2).2).2).2).2).2).2).2).2).1
theorem exb_vi_OverflowError {K : PySem.W.Frag} (h : exB K = true) : viB K "OverflowError" = true := (He.ba (He.ba (He.ba (He.ba (He.ba (He.ba (He.ba (He.ba (He.ba (He.ba (He.ba (He.ba (He.ba (He.ba (He.ba (He.ba (He.ba (He.ba (He.ba (He.ba (He.ba (He.ba (He.ba (He.ba (He.ba (He.ba (He.ba (He.ba (He.ba (He.ba (He.ba (He.ba (He.ba (He.ba (He.ba (He.ba (He.ba (He.ba (He.ba (He.ba (He.ba (He.ba (He.ba (He.ba (He.ba (He.ba (He.ba (He.ba (He.ba (He.ba (He.ba (He.ba (He.ba (He.ba (He.ba (He.ba (He.ba (He.ba (He.ba (He.ba h).2).2).2).2).2).2).2).2).2).2).2).2).2).2).2).2).2).2).2).2).2).2).2).2).2).2).2).2).2).2).2).2).2).2).2).2).2).2).2).2).2).2).2).2).2).2).2).2).2).2).2).2).2).2).2).2).2).2).2).1
theorem exb_ox_NothingToUndo {K : PySem.W.Frag} (h : exB K = true) : oxB K "NothingToUndo" "RuntimeError.__new__" bm_RuntimeError = true := (He.ba (He.ba (He.ba (He.ba (He.ba (He.ba (He.ba (He.ba (He.ba (He.ba (He.ba (He.ba (He.ba (He.ba (He.ba (He.ba (He.ba (He.ba (He.ba (He.ba (He.ba (He.ba (He.ba (He.ba (He.ba (He.ba (He.ba (He.ba (He.ba (He.ba (He.ba (He.ba (He.ba (He.ba (He.ba (He.ba (He.ba (He.ba (He.ba (He.ba (He.ba (He.ba (He.ba (He.ba (He.ba (He.ba (He.ba (He.ba (He.ba (He.ba (He.ba (He.ba (He.ba (He.ba (He.ba (He.ba (He.ba (He.ba (He.ba (He.ba (He.ba h).2).2).2).2).2).2).2).2).2).2).2).2).2).2).2).2).2).2).2).2).2).2).2).2).2).2).2).2).2).2).2).2).2).2).2).2).2).2).2).2).2).2).2).2).2).2).2).2).2).2).2).2).2).2).2).2).2).2).2).2).1
theorem exb_xf_NothingToUndo {K : PySem.W.Frag} (h : exB K = true) : xfB K (He.ga K "NothingToUndo") = true := (He.ba (He.ba (He.ba (He.ba (He.ba (He.ba (He.ba (He.ba (He.ba (He.ba (He.ba (He.ba (He.ba (He.ba (He.ba (He.ba (He.ba (He.ba (He.ba (He.ba (He.ba (He.ba (He.ba (He.ba (He.ba (He.ba (He.ba (He.ba (He.ba (He.ba (He.ba (He.ba (He.ba (He.ba (He.ba (He.ba (He.ba (He.ba (He.ba (He.ba (He.ba (He.ba (He.ba (He.ba (He.ba (He.ba (He.ba (He.ba (He.ba (He.ba (He.ba (He.ba (He.ba (He.ba (He.ba (He.ba (He.ba (He.ba (He.ba (He.ba (He.ba (He.ba h).2).2).2).2).2).2).2).2).2).2).2).2).2).2).2).2).2).2).2).2).2).2).2).2).2).2).2).2).2).2).2).2).2).2).2).2).2).2).2).2).2).2).2).2).2).2).2).2).2).2).2).2).2).2).2).2).2).2).2).2).2).1
theorem exb_no_NothingToUndo {K : PySem.W.Frag} (h : exB K = true) : decide (PySem.W.findIn K (.ref (He.ga K "NothingToUndo")) "count" = some none) = true := (He.ba (He.ba (He.ba (He.ba (He.ba (He.ba (He.ba (He.ba (He.ba (He.ba (He.ba (He.ba (He.ba (He.ba (He.ba (He.ba (He.ba (He.ba (He.ba (He.ba (He.ba (He.ba (He.ba (He.ba (He.ba (He.ba (He.ba (He.ba (He.ba (He.ba (He.ba (He.ba (He.ba (He.ba (He.ba (He.ba (He.ba (He.ba (He.ba (He.ba (He.ba (He.ba (He.ba (He.ba (He.ba (He.ba (He.ba (He.ba (He.ba (He.ba (He.ba (He.ba (He.ba (He.ba (He.ba (He.ba (He.ba (He.ba (He.ba (He.ba (He.ba (He.ba (He.ba h).2).2).2).2).2).2).2).2).2).2).2).2).2).2).2).2).2).2).2).2).2).2).2).2).2).2).2).2).2).2).2).2).2).2).2).2).2).2).2).2).2).2).2).2).2).2).2).2).2).2).2).2).2).2).2).2).2).2).2).2).2).2).1
theorem exb_ec_NothingToUndo {K : PySem.W.Frag} (h : exB K = true) : ecB K "NothingToUndo" = true := (He.ba (He.ba (He.ba (He.ba (He.ba (He.ba (He.ba (He.ba (He.ba (He.ba (He.ba (He.ba (He.ba (He.ba (He.ba (He.ba (He.ba (He.ba (He.ba (He.ba (He.ba (He.ba (He.ba (He.ba (He.ba (He.ba (He.ba (He.ba (He.ba (He.ba (He.ba (He.ba (He.ba (He.ba (He.ba (He.ba (He.ba (He.ba (He.ba (He.ba (He.ba (He.ba (He.ba (He.ba (He.ba (He.ba (He.ba (He.ba (He.ba (He.ba (He.ba (He.ba (He.ba (He.ba (He.ba (He.ba (He.ba (He.ba (He.ba (He.ba (He.ba (He.ba (He.ba (He.ba h).2).2).2).2).2).2).2).2).2).2).2).2).2).2).2).2).2).2).2).2).2).2).2).2).2).2).2).2).2).2).2).2).2).2).2).2).2).2).2).2).2).2).2).2).2).2).2).2).2).2).2).2).2).2).2).2).2).2).2).2).2).2).2).1
theorem exb_vi_RuntimeError {K : PySem.W.Frag} (h : exB K = true) : viB K "RuntimeError" = true := (He.ba (He.ba (He.ba (He.ba (He.ba (He.ba (He.ba (He.ba (He.ba (He.ba (He.ba (He.ba (He.ba (He.ba (He.ba (He.ba (He.ba (He.ba (He.ba (He.ba (He.ba (He.ba (He.ba (He.ba (He.ba (He.ba (He.ba (He.ba (He.ba (He.ba (He.ba (He.ba (He.ba (He.ba (He.ba (He.ba (He.ba (He.ba (He.ba (He.ba (He.ba (He.ba (He.ba (He.ba (He.ba (He.ba (He.ba (He.ba (He.ba (He.ba (He.ba (He.ba (He.ba (He.ba (He.ba (He.ba (He.ba (He.ba (He.ba (He.ba (He.ba (He.ba (He.ba (He.ba (He.ba h).2).2).2).2).2).2).2).2).2).2).2).2).2).2).2).2).2).2).2).2).2).2).2).2).2).2).2).2).2).2).2).2).2).2).2).2).2).2).2).2).2).2).2).2).2).2).2).2).2).2).2).2).2).2).2).2).2).2).2).2).2).2).2).2).1
theorem exb_e90 {K : PySem.W.Frag} (h : exB K = true) : e90B K = true := (He.ba (He.ba (He.ba (He.ba (He.ba (He.ba (He.ba (He.ba (He.ba (He.ba (He.ba (He.ba (He.ba (He.ba (He.ba (He.ba (He.ba (He.ba (He.ba (He.ba (He.ba (He.ba (He.ba (He.ba (He.ba (He.ba (He.ba (He.ba (He.ba (He.ba (He.ba (He.ba (He.ba (He.ba (He.ba (He.ba (He.ba (He.ba (He.ba (He.ba (He.ba (He.ba (He.ba (He.ba (He.ba (He.ba (He.ba (He.ba (He.ba (He.ba (He.ba (He.ba (He.ba (He.ba (He.ba (He.ba (He.ba (He.ba (He.ba (He.ba (He.ba (He.ba (He.ba (He.ba (He.ba h).2).2).2).2).2).2).2).2).2).2).2).2).2).2).2).2).2).2).2).2).2).2).2).2).2).2).2).2).2).2).2).2).2).2).2).2).2).2).2).2).2).2).2).2).2).2).2).2).2).2).2).2).2).2).2).2).2).2).2).2).2).2).2).2).2
theorem facts {P : Program} {w : World} {K : PySem.W.Frag} {h : Heap} {mg : Str → Option Value} {f : Addr} (X : K.In h) (G : h.Ns mainGlobals mg) (hfa : mg ("law" : Str) = some (.ref f)) (c : SaysR fa fn gts exB K) :
    ∃ fd : FuncData, (∀ (s : Shared) (v : Value), BindsTo s fd ⟨[v], []⟩ [("_law_script", v)]) ∧ (E90 K [He.ga K "InvalidNumber", He.ga K "InvalidProfile", He.ga K "InvalidWidths", He.ga K "InvalidWeights", He.ga K "InvalidObservations", He.ga K "InvalidOperations", He.ga K "ParseError", He.ga K "InvalidCommand", He.ga K "InvalidCascade", He.ga K "ScriptError", He.ga K "InvalidColumn", He.ga K "InvalidValley", He.ga K "UnknownName", He.ga K "LimitExceeded", He.ga K "NothingToUndo"] (He.ga K "RainError")) ∧ ∀ base : Heap, K.In base → base.Ns mainGlobals mg → FnOkG P w K mg base CX0 6 f fd ["_law_script"] (spLaw90 K [(He.ga K "InvalidNumber"), (He.ga K "InvalidProfile"), (He.ga K "InvalidWidths"), (He.ga K "InvalidWeights"), (He.ga K "InvalidObservations"), (He.ga K "InvalidOperations"), (He.ga K "ParseError"), (He.ga K "InvalidCommand"), (He.ga K "InvalidCascade"), (He.ga K "ScriptError"), (He.ga K "InvalidColumn"), (He.ga K "InvalidValley"), (He.ga K "UnknownName"), (He.ga K "LimitExceeded"), (He.ga K "NothingToUndo")] (He.ga K "RainError")) := by
  obtain ⟨fd0, F0⟩ := c.d.def_ 0 (d := D_InvalidNumber___init__) rfl
  obtain ⟨fd1, F1⟩ := c.d.def_ 1 (d := D_InvalidProfile___init__) rfl
  obtain ⟨fd2, F2⟩ := c.d.def_ 2 (d := D_InvalidWidths___init__) rfl
  obtain ⟨fd3, F3⟩ := c.d.def_ 3 (d := D_InvalidWeights___init__) rfl
  obtain ⟨fd4, F4⟩ := c.d.def_ 4 (d := D_InvalidObservations___init__) rfl
  obtain ⟨fd5, F5⟩ := c.d.def_ 5 (d := D_InvalidOperations___init__) rfl
  obtain ⟨fd6, F6⟩ := c.d.def_ 6 (d := D_ParseError___init__) rfl
  obtain ⟨fd7, F7⟩ := c.d.def_ 7 (d := D_InvalidCommand___init__) rfl
  obtain ⟨fd8, F8⟩ := c.d.def_ 8 (d := D_InvalidCascade___init__) rfl
  obtain ⟨fd9, F9⟩ := c.d.def_ 9 (d := D_ScriptError___init__) rfl
  obtain ⟨fd10, F10⟩ := c.d.def_ 10 (d := D_InvalidColumn___init__) rfl
  obtain ⟨fd11, F11⟩ := c.d.def_ 11 (d := D_InvalidValley___init__) rfl
  obtain ⟨fd12, F12⟩ := c.d.def_ 12 (d := D_UnknownName___init__) rfl
  obtain ⟨fd13, F13⟩ := c.d.def_ 13 (d := D_LimitExceeded___init__) rfl
  obtain ⟨fd14, F14⟩ := c.d.def_ 14 (d := D_NothingToUndo___init__) rfl
  obtain ⟨fd15, F15⟩ := c.d.def_ 15 (d := D__law_pool) rfl
  obtain ⟨fd16, F16⟩ := c.d.def_ 16 (d := D__law_take) rfl
  obtain ⟨fd17, F17⟩ := c.d.def_ 17 (d := D__law_errors) rfl
  obtain ⟨fd18, F18⟩ := c.d.def_ 18 (d := D__law_named) rfl
  obtain ⟨fd19, F19⟩ := c.d.def_ 19 (d := D__law_field) rfl
  obtain ⟨fd20, F20⟩ := c.d.def_ 20 (d := D__law_bases) rfl
  obtain ⟨fd21, F21⟩ := c.d.def_ 21 (d := D__law_classes) rfl
  obtain ⟨fd22, F22⟩ := c.d.def_ 22 (d := D_law) rfl
  have e := hfa.symm.trans (He.glo_ok X G (c.d.fact 52 (f := .glo "law") rfl))
  cases e
  have b := FunD.bindsA (ps := ["_law_script"]) F22 fun _ _ _ _ _ _ us hl => match us, hl with | [_], _ => rfl
  have sd : E90 K [He.ga K "InvalidNumber", He.ga K "InvalidProfile", He.ga K "InvalidWidths", He.ga K "InvalidWeights", He.ga K "InvalidObservations", He.ga K "InvalidOperations", He.ga K "ParseError", He.ga K "InvalidCommand", He.ga K "InvalidCascade", He.ga K "ScriptError", He.ga K "InvalidColumn", He.ga K "InvalidValley", He.ga K "UnknownName", He.ga K "LimitExceeded", He.ga K "NothingToUndo"] (He.ga K "RainError") := e90_of (exb_ox_InvalidNumber c.x) (exb_xf_InvalidNumber c.x) (exb_no_InvalidNumber c.x) (exb_ec_InvalidNumber c.x) (exb_ox_InvalidProfile c.x) (exb_xf_InvalidProfile c.x) (exb_no_InvalidProfile c.x) (exb_ec_InvalidProfile c.x) (exb_ox_InvalidWidths c.x) (exb_xf_InvalidWidths c.x) (exb_no_InvalidWidths c.x) (exb_ec_InvalidWidths c.x) (exb_ox_InvalidWeights c.x) (exb_xf_InvalidWeights c.x) (exb_no_InvalidWeights c.x) (exb_ec_InvalidWeights c.x) (exb_ox_InvalidObservations c.x) (exb_xf_InvalidObservations c.x) (exb_no_InvalidObservations c.x) (exb_ec_InvalidObservations c.x) (exb_ox_InvalidOperations c.x) (exb_xf_InvalidOperations c.x) (exb_no_InvalidOperations c.x) (exb_ec_InvalidOperations c.x) (exb_ox_ParseError c.x) (exb_xf_ParseError c.x) (exb_no_ParseError c.x) (exb_ec_ParseError c.x) (exb_ox_InvalidCommand c.x) (exb_xf_InvalidCommand c.x) (exb_no_InvalidCommand c.x) (exb_ec_InvalidCommand c.x) (exb_ox_InvalidCascade c.x) (exb_xf_InvalidCascade c.x) (exb_no_InvalidCascade c.x) (exb_ec_InvalidCascade c.x) (exb_ox_ScriptError c.x) (exb_xf_ScriptError c.x) (exb_no_ScriptError c.x) (exb_ec_ScriptError c.x) (exb_ox_InvalidColumn c.x) (exb_xf_InvalidColumn c.x) (exb_no_InvalidColumn c.x) (exb_ec_InvalidColumn c.x) (exb_ox_InvalidValley c.x) (exb_xf_InvalidValley c.x) (exb_no_InvalidValley c.x) (exb_ec_InvalidValley c.x) (exb_ox_UnknownName c.x) (exb_xf_UnknownName c.x) (exb_no_UnknownName c.x) (exb_ec_UnknownName c.x) (exb_ox_LimitExceeded c.x) (exb_xf_LimitExceeded c.x) (exb_no_LimitExceeded c.x) (exb_ec_LimitExceeded c.x) (exb_ox_NothingToUndo c.x) (exb_xf_NothingToUndo c.x) (exb_no_NothingToUndo c.x) (exb_ec_NothingToUndo c.x) (exb_e90 c.x)
  refine ⟨fd22, fun s v => b s [v] rfl, sd, fun base _ _ => ?_⟩
  have m_IndexError := He.free_ok X G (c.d.fact 0 (f := .free "IndexError") rfl)
  have m_KeyError := He.free_ok X G (c.d.fact 1 (f := .free "KeyError") rfl)
  have m_OverflowError := He.free_ok X G (c.d.fact 2 (f := .free "OverflowError") rfl)
  have m_RuntimeError := He.free_ok X G (c.d.fact 3 (f := .free "RuntimeError") rfl)
  have m_int := He.free_ok X G (c.d.fact 4 (f := .free "int") rfl)
  have m_isinstance := He.free_ok X G (c.d.fact 5 (f := .free "isinstance") rfl)
  have m_ValueError := He.free_ok X G (c.d.fact 6 (f := .free "ValueError") rfl)
  have m_TypeError := He.free_ok X G (c.d.fact 7 (f := .free "TypeError") rfl)
  have m_LookupError := He.free_ok X G (c.d.fact 8 (f := .free "LookupError") rfl)
  have m_len := He.free_ok X G (c.d.fact 9 (f := .free "len") rfl)
  have m_min := He.free_ok X G (c.d.fact 10 (f := .free "min") rfl)
  have m_max := He.free_ok X G (c.d.fact 11 (f := .free "max") rfl)
  have m_range := He.free_ok X G (c.d.fact 12 (f := .free "range") rfl)
  have m_repr := He.free_ok X G (c.d.fact 13 (f := .free "repr") rfl)
  have g_InvalidCascade := He.glo_ok X G (c.d.fact 14 (f := .glo "InvalidCascade") rfl)
  have g_InvalidColumn := He.glo_ok X G (c.d.fact 15 (f := .glo "InvalidColumn") rfl)
  have g_InvalidCommand := He.glo_ok X G (c.d.fact 16 (f := .glo "InvalidCommand") rfl)
  have g_InvalidNumber := He.glo_ok X G (c.d.fact 17 (f := .glo "InvalidNumber") rfl)
  have g_InvalidObservations := He.glo_ok X G (c.d.fact 18 (f := .glo "InvalidObservations") rfl)
  have g_InvalidOperations := He.glo_ok X G (c.d.fact 19 (f := .glo "InvalidOperations") rfl)
  have g_InvalidProfile := He.glo_ok X G (c.d.fact 20 (f := .glo "InvalidProfile") rfl)
  have g_InvalidValley := He.glo_ok X G (c.d.fact 21 (f := .glo "InvalidValley") rfl)
  have g_InvalidWeights := He.glo_ok X G (c.d.fact 22 (f := .glo "InvalidWeights") rfl)
  have g_InvalidWidths := He.glo_ok X G (c.d.fact 23 (f := .glo "InvalidWidths") rfl)
  have g_LimitExceeded := He.glo_ok X G (c.d.fact 24 (f := .glo "LimitExceeded") rfl)
  have g_NothingToUndo := He.glo_ok X G (c.d.fact 25 (f := .glo "NothingToUndo") rfl)
  have g_ParseError := He.glo_ok X G (c.d.fact 26 (f := .glo "ParseError") rfl)
  have g_ScriptError := He.glo_ok X G (c.d.fact 27 (f := .glo "ScriptError") rfl)
  have g_UnknownName := He.glo_ok X G (c.d.fact 28 (f := .glo "UnknownName") rfl)
  have g_RainError := He.glo_ok X G (c.d.fact 29 (f := .glo "RainError") rfl)
  have ox_InvalidNumber := ox_ok PySem.F.excBase_ValueError mok_ve (exb_ox_InvalidNumber c.x)
  have xf_InvalidNumber := xfB_ok (exb_xf_InvalidNumber c.x)
  have no_InvalidNumber_value := of_decide_eq_true (exb_no_InvalidNumber c.x)
  have ec_InvalidNumber := ec_of (exb_ec_InvalidNumber c.x)
  have bg_RainError := bg_ok (exb_bg_RainError c.x)
  have ox_InvalidProfile := ox_ok PySem.F.excBase_ValueError mok_ve (exb_ox_InvalidProfile c.x)
  have xf_InvalidProfile := xfB_ok (exb_xf_InvalidProfile c.x)
  have no_InvalidProfile_index := of_decide_eq_true (exb_no_InvalidProfile c.x)
  have ec_InvalidProfile := ec_of (exb_ec_InvalidProfile c.x)
  have ox_InvalidWidths := ox_ok PySem.F.excBase_ValueError mok_ve (exb_ox_InvalidWidths c.x)
  have xf_InvalidWidths := xfB_ok (exb_xf_InvalidWidths c.x)
  have no_InvalidWidths_index := of_decide_eq_true (exb_no_InvalidWidths c.x)
  have ec_InvalidWidths := ec_of (exb_ec_InvalidWidths c.x)
  have ox_InvalidWeights := ox_ok PySem.F.excBase_ValueError mok_ve (exb_ox_InvalidWeights c.x)
  have xf_InvalidWeights := xfB_ok (exb_xf_InvalidWeights c.x)
  have no_InvalidWeights_index := of_decide_eq_true (exb_no_InvalidWeights c.x)
  have ec_InvalidWeights := ec_of (exb_ec_InvalidWeights c.x)
  have ox_InvalidObservations := ox_ok PySem.F.excBase_ValueError mok_ve (exb_ox_InvalidObservations c.x)
  have xf_InvalidObservations := xfB_ok (exb_xf_InvalidObservations c.x)
  have no_InvalidObservations_index := of_decide_eq_true (exb_no_InvalidObservations c.x)
  have ec_InvalidObservations := ec_of (exb_ec_InvalidObservations c.x)
  have ox_InvalidOperations := ox_ok PySem.F.excBase_ValueError mok_ve (exb_ox_InvalidOperations c.x)
  have xf_InvalidOperations := xfB_ok (exb_xf_InvalidOperations c.x)
  have no_InvalidOperations_index := of_decide_eq_true (exb_no_InvalidOperations c.x)
  have ec_InvalidOperations := ec_of (exb_ec_InvalidOperations c.x)
  have ox_ParseError := ox_ok PySem.F.excBase_ValueError mok_ve (exb_ox_ParseError c.x)
  have xf_ParseError := xfB_ok (exb_xf_ParseError c.x)
  have no_ParseError_value := of_decide_eq_true (exb_no_ParseError c.x)
  have ec_ParseError := ec_of (exb_ec_ParseError c.x)
  have ox_InvalidCommand := ox_ok PySem.F.excBase_ValueError mok_ve (exb_ox_InvalidCommand c.x)
  have xf_InvalidCommand := xfB_ok (exb_xf_InvalidCommand c.x)
  have no_InvalidCommand_value := of_decide_eq_true (exb_no_InvalidCommand c.x)
  have ec_InvalidCommand := ec_of (exb_ec_InvalidCommand c.x)
  have ox_InvalidCascade := ox_ok PySem.F.excBase_ValueError mok_ve (exb_ox_InvalidCascade c.x)
  have xf_InvalidCascade := xfB_ok (exb_xf_InvalidCascade c.x)
  have no_InvalidCascade_name := of_decide_eq_true (exb_no_InvalidCascade c.x)
  have ec_InvalidCascade := ec_of (exb_ec_InvalidCascade c.x)
  have ox_ScriptError := ox_ok PySem.F.excBase_ValueError mok_ve (exb_ox_ScriptError c.x)
  have xf_ScriptError := xfB_ok (exb_xf_ScriptError c.x)
  have no_ScriptError_line := of_decide_eq_true (exb_no_ScriptError c.x)
  have ec_ScriptError := ec_of (exb_ec_ScriptError c.x)
  have ox_InvalidColumn := ox_ok PySem.F.excBase_IndexError mok_ie (exb_ox_InvalidColumn c.x)
  have xf_InvalidColumn := xfB_ok (exb_xf_InvalidColumn c.x)
  have no_InvalidColumn_value := of_decide_eq_true (exb_no_InvalidColumn c.x)
  have ec_InvalidColumn := ec_of (exb_ec_InvalidColumn c.x)
  have vi_IndexError := vi_ok (exb_vi_IndexError c.x)
  have ox_InvalidValley := ox_ok PySem.F.excBase_IndexError mok_ie (exb_ox_InvalidValley c.x)
  have xf_InvalidValley := xfB_ok (exb_xf_InvalidValley c.x)
  have no_InvalidValley_value := of_decide_eq_true (exb_no_InvalidValley c.x)
  have ec_InvalidValley := ec_of (exb_ec_InvalidValley c.x)
  have ox_UnknownName := ox_okX PySem.HandSPX.xbase_KeyError mok_ke (exb_ox_UnknownName c.x)
  have xf_UnknownName := xfB_ok (exb_xf_UnknownName c.x)
  have no_UnknownName_name := of_decide_eq_true (exb_no_UnknownName c.x)
  have ec_UnknownName := ec_of (exb_ec_UnknownName c.x)
  have vi_KeyError := vi_ok (exb_vi_KeyError c.x)
  have ox_LimitExceeded := ox_ok PySem.F.excBase_OverflowError mok_oe (exb_ox_LimitExceeded c.x)
  have xf_LimitExceeded := xfB_ok (exb_xf_LimitExceeded c.x)
  have no_LimitExceeded_limit := of_decide_eq_true (exb_no_LimitExceeded c.x)
  have ec_LimitExceeded := ec_of (exb_ec_LimitExceeded c.x)
  have vi_OverflowError := vi_ok (exb_vi_OverflowError c.x)
  have ox_NothingToUndo := ox_ok PySem.F.excBase_RuntimeError mok_re (exb_ox_NothingToUndo c.x)
  have xf_NothingToUndo := xfB_ok (exb_xf_NothingToUndo c.x)
  have no_NothingToUndo_count := of_decide_eq_true (exb_no_NothingToUndo c.x)
  have ec_NothingToUndo := ec_of (exb_ec_NothingToUndo c.x)
  have vi_RuntimeError := vi_ok (exb_vi_RuntimeError c.x)
  have me_ini_InvalidNumber := He.meth_ok (c.d.fact 30 (f := .meth "InvalidNumber" "__init__") rfl)
  have cx_InvalidNumber : CalX P w K mg base CX0 1 "InvalidNumber" (He.ga K "InvalidNumber") ["self", "value"] (spExc K (He.ga K "InvalidNumber") "ValueError" "ValueError.__new__" "ValueError.__init__" bm_ValueError "value") [] "ValueError" "ValueError.__new__" "ValueError.__init__" bm_ValueError := ⟨_, fd0, [], ok_InvalidNumber___init__ F0 bg_RainError g_RainError, ox_InvalidNumber, me_ini_InvalidNumber.at_, beq_iff_eq.mp me_ini_InvalidNumber.fn, g_InvalidNumber, F0.bindsN fun _ _ _ _ _ _ us hl => match us, hl with | [_, _], _ => rfl, .nil⟩
  have cxk_InvalidNumber : CalXK P w K mg base CX0 1 "InvalidNumber" (He.ga K "InvalidNumber") ["self", "value"] (spExc K (He.ga K "InvalidNumber") "ValueError" "ValueError.__new__" "ValueError.__init__" bm_ValueError "value") "value" "ValueError" "ValueError.__new__" "ValueError.__init__" bm_ValueError := ⟨_, fd0, ok_InvalidNumber___init__ F0 bg_RainError g_RainError, ox_InvalidNumber, me_ini_InvalidNumber.at_, beq_iff_eq.mp me_ini_InvalidNumber.fn, g_InvalidNumber, kb1x F0 ["value"] fun _ _ _ _ _ _ us ws h1 h2 => match us, ws, h1, h2 with | [_], [_], _, _ => rfl⟩
  have me_ini_InvalidProfile := He.meth_ok (c.d.fact 31 (f := .meth "InvalidProfile" "__init__") rfl)
  have cx_InvalidProfile : CalX P w K mg base CX0 1 "InvalidProfile" (He.ga K "InvalidProfile") ["self", "index"] (spExc K (He.ga K "InvalidProfile") "ValueError" "ValueError.__new__" "ValueError.__init__" bm_ValueError "index") [] "ValueError" "ValueError.__new__" "ValueError.__init__" bm_ValueError := ⟨_, fd1, [], ok_InvalidProfile___init__ F1 bg_RainError g_RainError, ox_InvalidProfile, me_ini_InvalidProfile.at_, beq_iff_eq.mp me_ini_InvalidProfile.fn, g_InvalidProfile, F1.bindsN fun _ _ _ _ _ _ us hl => match us, hl with | [_, _], _ => rfl, .nil⟩
  have cxk_InvalidProfile : CalXK P w K mg base CX0 1 "InvalidProfile" (He.ga K "InvalidProfile") ["self", "index"] (spExc K (He.ga K "InvalidProfile") "ValueError" "ValueError.__new__" "ValueError.__init__" bm_ValueError "index") "index" "ValueError" "ValueError.__new__" "ValueError.__init__" bm_ValueError := ⟨_, fd1, ok_InvalidProfile___init__ F1 bg_RainError g_RainError, ox_InvalidProfile, me_ini_InvalidProfile.at_, beq_iff_eq.mp me_ini_InvalidProfile.fn, g_InvalidProfile, kb1x F1 ["index"] fun _ _ _ _ _ _ us ws h1 h2 => match us, ws, h1, h2 with | [_], [_], _, _ => rfl⟩
  have me_ini_InvalidWidths := He.meth_ok (c.d.fact 32 (f := .meth "InvalidWidths" "__init__") rfl)
  have cx_InvalidWidths : CalX P w K mg base CX0 1 "InvalidWidths" (He.ga K "InvalidWidths") ["self", "index"] (spExc K (He.ga K "InvalidWidths") "ValueError" "ValueError.__new__" "ValueError.__init__" bm_ValueError "index") [] "ValueError" "ValueError.__new__" "ValueError.__init__" bm_ValueError := ⟨_, fd2, [], ok_InvalidWidths___init__ F2 bg_RainError g_RainError, ox_InvalidWidths, me_ini_InvalidWidths.at_, beq_iff_eq.mp me_ini_InvalidWidths.fn, g_InvalidWidths, F2.bindsN fun _ _ _ _ _ _ us hl => match us, hl with | [_, _], _ => rfl, .nil⟩
  have cxk_InvalidWidths : CalXK P w K mg base CX0 1 "InvalidWidths" (He.ga K "InvalidWidths") ["self", "index"] (spExc K (He.ga K "InvalidWidths") "ValueError" "ValueError.__new__" "ValueError.__init__" bm_ValueError "index") "index" "ValueError" "ValueError.__new__" "ValueError.__init__" bm_ValueError := ⟨_, fd2, ok_InvalidWidths___init__ F2 bg_RainError g_RainError, ox_InvalidWidths, me_ini_InvalidWidths.at_, beq_iff_eq.mp me_ini_InvalidWidths.fn, g_InvalidWidths, kb1x F2 ["index"] fun _ _ _ _ _ _ us ws h1 h2 => match us, ws, h1, h2 with | [_], [_], _, _ => rfl⟩
  have me_ini_InvalidWeights := He.meth_ok (c.d.fact 33 (f := .meth "InvalidWeights" "__init__") rfl)
  have cx_InvalidWeights : CalX P w K mg base CX0 1 "InvalidWeights" (He.ga K "InvalidWeights") ["self", "index"] (spExc K (He.ga K "InvalidWeights") "ValueError" "ValueError.__new__" "ValueError.__init__" bm_ValueError "index") [] "ValueError" "ValueError.__new__" "ValueError.__init__" bm_ValueError := ⟨_, fd3, [], ok_InvalidWeights___init__ F3 bg_RainError g_RainError, ox_InvalidWeights, me_ini_InvalidWeights.at_, beq_iff_eq.mp me_ini_InvalidWeights.fn, g_InvalidWeights, F3.bindsN fun _ _ _ _ _ _ us hl => match us, hl with | [_, _], _ => rfl, .nil⟩
  have cxk_InvalidWeights : CalXK P w K mg base CX0 1 "InvalidWeights" (He.ga K "InvalidWeights") ["self", "index"] (spExc K (He.ga K "InvalidWeights") "ValueError" "ValueError.__new__" "ValueError.__init__" bm_ValueError "index") "index" "ValueError" "ValueError.__new__" "ValueError.__init__" bm_ValueError := ⟨_, fd3, ok_InvalidWeights___init__ F3 bg_RainError g_RainError, ox_InvalidWeights, me_ini_InvalidWeights.at_, beq_iff_eq.mp me_ini_InvalidWeights.fn, g_InvalidWeights, kb1x F3 ["index"] fun _ _ _ _ _ _ us ws h1 h2 => match us, ws, h1, h2 with | [_], [_], _, _ => rfl⟩
  have me_ini_InvalidObservations := He.meth_ok (c.d.fact 34 (f := .meth "InvalidObservations" "__init__") rfl)
  have cx_InvalidObservations : CalX P w K mg base CX0 1 "InvalidObservations" (He.ga K "InvalidObservations") ["self", "index"] (spExc K (He.ga K "InvalidObservations") "ValueError" "ValueError.__new__" "ValueError.__init__" bm_ValueError "index") [] "ValueError" "ValueError.__new__" "ValueError.__init__" bm_ValueError := ⟨_, fd4, [], ok_InvalidObservations___init__ F4 bg_RainError g_RainError, ox_InvalidObservations, me_ini_InvalidObservations.at_, beq_iff_eq.mp me_ini_InvalidObservations.fn, g_InvalidObservations, F4.bindsN fun _ _ _ _ _ _ us hl => match us, hl with | [_, _], _ => rfl, .nil⟩
  have cxk_InvalidObservations : CalXK P w K mg base CX0 1 "InvalidObservations" (He.ga K "InvalidObservations") ["self", "index"] (spExc K (He.ga K "InvalidObservations") "ValueError" "ValueError.__new__" "ValueError.__init__" bm_ValueError "index") "index" "ValueError" "ValueError.__new__" "ValueError.__init__" bm_ValueError := ⟨_, fd4, ok_InvalidObservations___init__ F4 bg_RainError g_RainError, ox_InvalidObservations, me_ini_InvalidObservations.at_, beq_iff_eq.mp me_ini_InvalidObservations.fn, g_InvalidObservations, kb1x F4 ["index"] fun _ _ _ _ _ _ us ws h1 h2 => match us, ws, h1, h2 with | [_], [_], _, _ => rfl⟩
  have me_ini_InvalidOperations := He.meth_ok (c.d.fact 35 (f := .meth "InvalidOperations" "__init__") rfl)
  have cx_InvalidOperations : CalX P w K mg base CX0 1 "InvalidOperations" (He.ga K "InvalidOperations") ["self", "index"] (spExc K (He.ga K "InvalidOperations") "ValueError" "ValueError.__new__" "ValueError.__init__" bm_ValueError "index") [] "ValueError" "ValueError.__new__" "ValueError.__init__" bm_ValueError := ⟨_, fd5, [], ok_InvalidOperations___init__ F5 bg_RainError g_RainError, ox_InvalidOperations, me_ini_InvalidOperations.at_, beq_iff_eq.mp me_ini_InvalidOperations.fn, g_InvalidOperations, F5.bindsN fun _ _ _ _ _ _ us hl => match us, hl with | [_, _], _ => rfl, .nil⟩
  have cxk_InvalidOperations : CalXK P w K mg base CX0 1 "InvalidOperations" (He.ga K "InvalidOperations") ["self", "index"] (spExc K (He.ga K "InvalidOperations") "ValueError" "ValueError.__new__" "ValueError.__init__" bm_ValueError "index") "index" "ValueError" "ValueError.__new__" "ValueError.__init__" bm_ValueError := ⟨_, fd5, ok_InvalidOperations___init__ F5 bg_RainError g_RainError, ox_InvalidOperations, me_ini_InvalidOperations.at_, beq_iff_eq.mp me_ini_InvalidOperations.fn, g_InvalidOperations, kb1x F5 ["index"] fun _ _ _ _ _ _ us ws h1 h2 => match us, ws, h1, h2 with | [_], [_], _, _ => rfl⟩
  have me_ini_ParseError := He.meth_ok (c.d.fact 36 (f := .meth "ParseError" "__init__") rfl)
  have cx_ParseError : CalX P w K mg base CX0 1 "ParseError" (He.ga K "ParseError") ["self", "value"] (spExc K (He.ga K "ParseError") "ValueError" "ValueError.__new__" "ValueError.__init__" bm_ValueError "value") [] "ValueError" "ValueError.__new__" "ValueError.__init__" bm_ValueError := ⟨_, fd6, [], ok_ParseError___init__ F6 bg_RainError g_RainError, ox_ParseError, me_ini_ParseError.at_, beq_iff_eq.mp me_ini_ParseError.fn, g_ParseError, F6.bindsN fun _ _ _ _ _ _ us hl => match us, hl with | [_, _], _ => rfl, .nil⟩
  have cxk_ParseError : CalXK P w K mg base CX0 1 "ParseError" (He.ga K "ParseError") ["self", "value"] (spExc K (He.ga K "ParseError") "ValueError" "ValueError.__new__" "ValueError.__init__" bm_ValueError "value") "value" "ValueError" "ValueError.__new__" "ValueError.__init__" bm_ValueError := ⟨_, fd6, ok_ParseError___init__ F6 bg_RainError g_RainError, ox_ParseError, me_ini_ParseError.at_, beq_iff_eq.mp me_ini_ParseError.fn, g_ParseError, kb1x F6 ["value"] fun _ _ _ _ _ _ us ws h1 h2 => match us, ws, h1, h2 with | [_], [_], _, _ => rfl⟩
  have me_ini_InvalidCommand := He.meth_ok (c.d.fact 37 (f := .meth "InvalidCommand" "__init__") rfl)
  have cx_InvalidCommand : CalX P w K mg base CX0 1 "InvalidCommand" (He.ga K "InvalidCommand") ["self", "value"] (spExc K (He.ga K "InvalidCommand") "ValueError" "ValueError.__new__" "ValueError.__init__" bm_ValueError "value") [] "ValueError" "ValueError.__new__" "ValueError.__init__" bm_ValueError := ⟨_, fd7, [], ok_InvalidCommand___init__ F7 bg_RainError g_RainError, ox_InvalidCommand, me_ini_InvalidCommand.at_, beq_iff_eq.mp me_ini_InvalidCommand.fn, g_InvalidCommand, F7.bindsN fun _ _ _ _ _ _ us hl => match us, hl with | [_, _], _ => rfl, .nil⟩
  have cxk_InvalidCommand : CalXK P w K mg base CX0 1 "InvalidCommand" (He.ga K "InvalidCommand") ["self", "value"] (spExc K (He.ga K "InvalidCommand") "ValueError" "ValueError.__new__" "ValueError.__init__" bm_ValueError "value") "value" "ValueError" "ValueError.__new__" "ValueError.__init__" bm_ValueError := ⟨_, fd7, ok_InvalidCommand___init__ F7 bg_RainError g_RainError, ox_InvalidCommand, me_ini_InvalidCommand.at_, beq_iff_eq.mp me_ini_InvalidCommand.fn, g_InvalidCommand, kb1x F7 ["value"] fun _ _ _ _ _ _ us ws h1 h2 => match us, ws, h1, h2 with | [_], [_], _, _ => rfl⟩
  have me_ini_InvalidCascade := He.meth_ok (c.d.fact 38 (f := .meth "InvalidCascade" "__init__") rfl)
  have cx_InvalidCascade : CalX P w K mg base CX0 1 "InvalidCascade" (He.ga K "InvalidCascade") ["self", "name"] (spExc K (He.ga K "InvalidCascade") "ValueError" "ValueError.__new__" "ValueError.__init__" bm_ValueError "name") [] "ValueError" "ValueError.__new__" "ValueError.__init__" bm_ValueError := ⟨_, fd8, [], ok_InvalidCascade___init__ F8 bg_RainError g_RainError, ox_InvalidCascade, me_ini_InvalidCascade.at_, beq_iff_eq.mp me_ini_InvalidCascade.fn, g_InvalidCascade, F8.bindsN fun _ _ _ _ _ _ us hl => match us, hl with | [_, _], _ => rfl, .nil⟩
  have cxk_InvalidCascade : CalXK P w K mg base CX0 1 "InvalidCascade" (He.ga K "InvalidCascade") ["self", "name"] (spExc K (He.ga K "InvalidCascade") "ValueError" "ValueError.__new__" "ValueError.__init__" bm_ValueError "name") "name" "ValueError" "ValueError.__new__" "ValueError.__init__" bm_ValueError := ⟨_, fd8, ok_InvalidCascade___init__ F8 bg_RainError g_RainError, ox_InvalidCascade, me_ini_InvalidCascade.at_, beq_iff_eq.mp me_ini_InvalidCascade.fn, g_InvalidCascade, kb1x F8 ["name"] fun _ _ _ _ _ _ us ws h1 h2 => match us, ws, h1, h2 with | [_], [_], _, _ => rfl⟩
  have me_ini_ScriptError := He.meth_ok (c.d.fact 39 (f := .meth "ScriptError" "__init__") rfl)
  have cx_ScriptError : CalX P w K mg base CX0 1 "ScriptError" (He.ga K "ScriptError") ["self", "line"] (spExc K (He.ga K "ScriptError") "ValueError" "ValueError.__new__" "ValueError.__init__" bm_ValueError "line") [] "ValueError" "ValueError.__new__" "ValueError.__init__" bm_ValueError := ⟨_, fd9, [], ok_ScriptError___init__ F9 bg_RainError g_RainError, ox_ScriptError, me_ini_ScriptError.at_, beq_iff_eq.mp me_ini_ScriptError.fn, g_ScriptError, F9.bindsN fun _ _ _ _ _ _ us hl => match us, hl with | [_, _], _ => rfl, .nil⟩
  have cxk_ScriptError : CalXK P w K mg base CX0 1 "ScriptError" (He.ga K "ScriptError") ["self", "line"] (spExc K (He.ga K "ScriptError") "ValueError" "ValueError.__new__" "ValueError.__init__" bm_ValueError "line") "line" "ValueError" "ValueError.__new__" "ValueError.__init__" bm_ValueError := ⟨_, fd9, ok_ScriptError___init__ F9 bg_RainError g_RainError, ox_ScriptError, me_ini_ScriptError.at_, beq_iff_eq.mp me_ini_ScriptError.fn, g_ScriptError, kb1x F9 ["line"] fun _ _ _ _ _ _ us ws h1 h2 => match us, ws, h1, h2 with | [_], [_], _, _ => rfl⟩
  have me_ini_InvalidColumn := He.meth_ok (c.d.fact 40 (f := .meth "InvalidColumn" "__init__") rfl)
  have cx_InvalidColumn : CalX P w K mg base CX0 1 "InvalidColumn" (He.ga K "InvalidColumn") ["self", "value"] (spExc K (He.ga K "InvalidColumn") "IndexError" "IndexError.__new__" "IndexError.__init__" bm_IndexError "value") [] "IndexError" "IndexError.__new__" "IndexError.__init__" bm_IndexError := ⟨_, fd10, [], ok_InvalidColumn___init__ F10 vi_IndexError m_IndexError, ox_InvalidColumn, me_ini_InvalidColumn.at_, beq_iff_eq.mp me_ini_InvalidColumn.fn, g_InvalidColumn, F10.bindsN fun _ _ _ _ _ _ us hl => match us, hl with | [_, _], _ => rfl, .nil⟩
  have cxk_InvalidColumn : CalXK P w K mg base CX0 1 "InvalidColumn" (He.ga K "InvalidColumn") ["self", "value"] (spExc K (He.ga K "InvalidColumn") "IndexError" "IndexError.__new__" "IndexError.__init__" bm_IndexError "value") "value" "IndexError" "IndexError.__new__" "IndexError.__init__" bm_IndexError := ⟨_, fd10, ok_InvalidColumn___init__ F10 vi_IndexError m_IndexError, ox_InvalidColumn, me_ini_InvalidColumn.at_, beq_iff_eq.mp me_ini_InvalidColumn.fn, g_InvalidColumn, kb1x F10 ["value"] fun _ _ _ _ _ _ us ws h1 h2 => match us, ws, h1, h2 with | [_], [_], _, _ => rfl⟩
  have me_ini_InvalidValley := He.meth_ok (c.d.fact 41 (f := .meth "InvalidValley" "__init__") rfl)
  have cx_InvalidValley : CalX P w K mg base CX0 1 "InvalidValley" (He.ga K "InvalidValley") ["self", "value"] (spExc K (He.ga K "InvalidValley") "IndexError" "IndexError.__new__" "IndexError.__init__" bm_IndexError "value") [] "IndexError" "IndexError.__new__" "IndexError.__init__" bm_IndexError := ⟨_, fd11, [], ok_InvalidValley___init__ F11 vi_IndexError m_IndexError, ox_InvalidValley, me_ini_InvalidValley.at_, beq_iff_eq.mp me_ini_InvalidValley.fn, g_InvalidValley, F11.bindsN fun _ _ _ _ _ _ us hl => match us, hl with | [_, _], _ => rfl, .nil⟩
  have cxk_InvalidValley : CalXK P w K mg base CX0 1 "InvalidValley" (He.ga K "InvalidValley") ["self", "value"] (spExc K (He.ga K "InvalidValley") "IndexError" "IndexError.__new__" "IndexError.__init__" bm_IndexError "value") "value" "IndexError" "IndexError.__new__" "IndexError.__init__" bm_IndexError := ⟨_, fd11, ok_InvalidValley___init__ F11 vi_IndexError m_IndexError, ox_InvalidValley, me_ini_InvalidValley.at_, beq_iff_eq.mp me_ini_InvalidValley.fn, g_InvalidValley, kb1x F11 ["value"] fun _ _ _ _ _ _ us ws h1 h2 => match us, ws, h1, h2 with | [_], [_], _, _ => rfl⟩
  have me_ini_UnknownName := He.meth_ok (c.d.fact 42 (f := .meth "UnknownName" "__init__") rfl)
  have cx_UnknownName : CalX P w K mg base CX0 1 "UnknownName" (He.ga K "UnknownName") ["self", "name"] (spExc K (He.ga K "UnknownName") "KeyError" "LookupError.__new__" "KeyError.__init__" bm_KeyError "name") [] "KeyError" "LookupError.__new__" "KeyError.__init__" bm_KeyError := ⟨_, fd12, [], ok_UnknownName___init__ F12 vi_KeyError m_KeyError, ox_UnknownName, me_ini_UnknownName.at_, beq_iff_eq.mp me_ini_UnknownName.fn, g_UnknownName, F12.bindsN fun _ _ _ _ _ _ us hl => match us, hl with | [_, _], _ => rfl, .nil⟩
  have cxk_UnknownName : CalXK P w K mg base CX0 1 "UnknownName" (He.ga K "UnknownName") ["self", "name"] (spExc K (He.ga K "UnknownName") "KeyError" "LookupError.__new__" "KeyError.__init__" bm_KeyError "name") "name" "KeyError" "LookupError.__new__" "KeyError.__init__" bm_KeyError := ⟨_, fd12, ok_UnknownName___init__ F12 vi_KeyError m_KeyError, ox_UnknownName, me_ini_UnknownName.at_, beq_iff_eq.mp me_ini_UnknownName.fn, g_UnknownName, kb1x F12 ["name"] fun _ _ _ _ _ _ us ws h1 h2 => match us, ws, h1, h2 with | [_], [_], _, _ => rfl⟩
  have me_ini_LimitExceeded := He.meth_ok (c.d.fact 43 (f := .meth "LimitExceeded" "__init__") rfl)
  have cx_LimitExceeded : CalX P w K mg base CX0 1 "LimitExceeded" (He.ga K "LimitExceeded") ["self", "limit"] (spExc K (He.ga K "LimitExceeded") "OverflowError" "OverflowError.__new__" "OverflowError.__init__" bm_OverflowError "limit") [] "OverflowError" "OverflowError.__new__" "OverflowError.__init__" bm_OverflowError := ⟨_, fd13, [], ok_LimitExceeded___init__ F13 vi_OverflowError m_OverflowError, ox_LimitExceeded, me_ini_LimitExceeded.at_, beq_iff_eq.mp me_ini_LimitExceeded.fn, g_LimitExceeded, F13.bindsN fun _ _ _ _ _ _ us hl => match us, hl with | [_, _], _ => rfl, .nil⟩
  have cxk_LimitExceeded : CalXK P w K mg base CX0 1 "LimitExceeded" (He.ga K "LimitExceeded") ["self", "limit"] (spExc K (He.ga K "LimitExceeded") "OverflowError" "OverflowError.__new__" "OverflowError.__init__" bm_OverflowError "limit") "limit" "OverflowError" "OverflowError.__new__" "OverflowError.__init__" bm_OverflowError := ⟨_, fd13, ok_LimitExceeded___init__ F13 vi_OverflowError m_OverflowError, ox_LimitExceeded, me_ini_LimitExceeded.at_, beq_iff_eq.mp me_ini_LimitExceeded.fn, g_LimitExceeded, kb1x F13 ["limit"] fun _ _ _ _ _ _ us ws h1 h2 => match us, ws, h1, h2 with | [_], [_], _, _ => rfl⟩
  have me_ini_NothingToUndo := He.meth_ok (c.d.fact 44 (f := .meth "NothingToUndo" "__init__") rfl)
  have cx_NothingToUndo : CalX P w K mg base CX0 1 "NothingToUndo" (He.ga K "NothingToUndo") ["self", "count"] (spExc K (He.ga K "NothingToUndo") "RuntimeError" "RuntimeError.__new__" "RuntimeError.__init__" bm_RuntimeError "count") [] "RuntimeError" "RuntimeError.__new__" "RuntimeError.__init__" bm_RuntimeError := ⟨_, fd14, [], ok_NothingToUndo___init__ F14 vi_RuntimeError m_RuntimeError, ox_NothingToUndo, me_ini_NothingToUndo.at_, beq_iff_eq.mp me_ini_NothingToUndo.fn, g_NothingToUndo, F14.bindsN fun _ _ _ _ _ _ us hl => match us, hl with | [_, _], _ => rfl, .nil⟩
  have cxk_NothingToUndo : CalXK P w K mg base CX0 1 "NothingToUndo" (He.ga K "NothingToUndo") ["self", "count"] (spExc K (He.ga K "NothingToUndo") "RuntimeError" "RuntimeError.__new__" "RuntimeError.__init__" bm_RuntimeError "count") "count" "RuntimeError" "RuntimeError.__new__" "RuntimeError.__init__" bm_RuntimeError := ⟨_, fd14, ok_NothingToUndo___init__ F14 vi_RuntimeError m_RuntimeError, ox_NothingToUndo, me_ini_NothingToUndo.at_, beq_iff_eq.mp me_ini_NothingToUndo.fn, g_NothingToUndo, kb1x F14 ["count"] fun _ _ _ _ _ _ us ws h1 h2 => match us, ws, h1, h2 with | [_], [_], _, _ => rfl⟩
  have c__law_pool : Cal P w K mg base CX0 1 "_law_pool" ["_law_script", "_law_k"] (RvM.spPool K) := ⟨_, fd15, ok__law_pool F15 m_int, He.glo_ok X G (c.d.fact 45 (f := .glo "_law_pool") rfl), F15.kp, F15.bindsN fun _ _ _ _ _ _ us hl => match us, hl with | [_, _], _ => rfl⟩
  have c__law_take : Cal P w K mg base CX0 1 "_law_take" ["_law_pool_here", "_law_many"] (RvM.spTake K) := ⟨_, fd16, ok__law_take F16 , He.glo_ok X G (c.d.fact 46 (f := .glo "_law_take") rfl), F16.kp, F16.bindsN fun _ _ _ _ _ _ us hl => match us, hl with | [_, _], _ => rfl⟩
  have c__law_errors : Cal P w K mg base CX0 4 "_law_errors" ["_law_one"] (spErrs90 K [(He.ga K "InvalidNumber"), (He.ga K "InvalidProfile"), (He.ga K "InvalidWidths"), (He.ga K "InvalidWeights"), (He.ga K "InvalidObservations"), (He.ga K "InvalidOperations"), (He.ga K "ParseError"), (He.ga K "InvalidCommand"), (He.ga K "InvalidCascade"), (He.ga K "ScriptError"), (He.ga K "InvalidColumn"), (He.ga K "InvalidValley"), (He.ga K "UnknownName"), (He.ga K "LimitExceeded"), (He.ga K "NothingToUndo")] (He.ga K "RainError")) := ⟨_, fd17, ok__law_errors F17 cx_InvalidWidths cx_InvalidProfile cx_InvalidNumber cx_InvalidWeights cx_ParseError cx_InvalidOperations cx_InvalidObservations cx_ScriptError cx_InvalidCascade cx_InvalidCommand cx_InvalidValley cx_InvalidColumn cx_UnknownName cx_NothingToUndo cx_LimitExceeded, He.glo_ok X G (c.d.fact 47 (f := .glo "_law_errors") rfl), F17.kp, F17.bindsN fun _ _ _ _ _ _ us hl => match us, hl with | [_], _ => rfl⟩
  have c__law_named : Cal P w K mg base CX0 4 "_law_named" ["_law_one"] (spNamed90 K [(He.ga K "InvalidNumber"), (He.ga K "InvalidProfile"), (He.ga K "InvalidWidths"), (He.ga K "InvalidWeights"), (He.ga K "InvalidObservations"), (He.ga K "InvalidOperations"), (He.ga K "ParseError"), (He.ga K "InvalidCommand"), (He.ga K "InvalidCascade"), (He.ga K "ScriptError"), (He.ga K "InvalidColumn"), (He.ga K "InvalidValley"), (He.ga K "UnknownName"), (He.ga K "LimitExceeded"), (He.ga K "NothingToUndo")] (He.ga K "RainError")) := ⟨_, fd18, ok__law_named F18 cxk_InvalidProfile cxk_InvalidNumber cxk_InvalidWeights cxk_InvalidWidths cxk_InvalidOperations cxk_InvalidObservations cxk_ParseError cxk_ScriptError cxk_InvalidCascade cxk_InvalidCommand cxk_InvalidColumn cxk_UnknownName cxk_InvalidValley cxk_NothingToUndo cxk_LimitExceeded, He.glo_ok X G (c.d.fact 48 (f := .glo "_law_named") rfl), F18.kp, F18.bindsN fun _ _ _ _ _ _ us hl => match us, hl with | [_], _ => rfl⟩
  have c__law_field : Cal P w K mg base CX0 2 "_law_field" ["_law_error", "_law_way"] (spField90 K) := ⟨_, fd19, ok__law_field F19 , He.glo_ok X G (c.d.fact 49 (f := .glo "_law_field") rfl), F19.kp, F19.bindsN fun _ _ _ _ _ _ us hl => match us, hl with | [_, _], _ => rfl⟩
  have c__law_bases : Cal P w K mg base CX0 2 "_law_bases" ["_law_error"] (spBases90 K [(He.ga K "InvalidNumber"), (He.ga K "InvalidProfile"), (He.ga K "InvalidWidths"), (He.ga K "InvalidWeights"), (He.ga K "InvalidObservations"), (He.ga K "InvalidOperations"), (He.ga K "ParseError"), (He.ga K "InvalidCommand"), (He.ga K "InvalidCascade"), (He.ga K "ScriptError"), (He.ga K "InvalidColumn"), (He.ga K "InvalidValley"), (He.ga K "UnknownName"), (He.ga K "LimitExceeded"), (He.ga K "NothingToUndo")] (He.ga K "RainError")) := ⟨_, fd20, ok__law_bases F20 m_IndexError m_isinstance m_ValueError g_RainError m_OverflowError m_KeyError m_RuntimeError m_TypeError m_LookupError, He.glo_ok X G (c.d.fact 50 (f := .glo "_law_bases") rfl), F20.kp, F20.bindsN fun _ _ _ _ _ _ us hl => match us, hl with | [_], _ => rfl⟩
  have c__law_classes : Cal P w K mg base CX0 2 "_law_classes" ["_law_error"] (spClasses90 K [(He.ga K "InvalidNumber"), (He.ga K "InvalidProfile"), (He.ga K "InvalidWidths"), (He.ga K "InvalidWeights"), (He.ga K "InvalidObservations"), (He.ga K "InvalidOperations"), (He.ga K "ParseError"), (He.ga K "InvalidCommand"), (He.ga K "InvalidCascade"), (He.ga K "ScriptError"), (He.ga K "InvalidColumn"), (He.ga K "InvalidValley"), (He.ga K "UnknownName"), (He.ga K "LimitExceeded"), (He.ga K "NothingToUndo")] (He.ga K "RainError")) := ⟨_, fd21, ok__law_classes F21 g_InvalidProfile m_isinstance g_InvalidNumber g_InvalidWidths g_InvalidObservations g_InvalidWeights g_ParseError g_InvalidOperations g_InvalidCascade g_InvalidCommand g_InvalidColumn g_ScriptError g_UnknownName g_InvalidValley g_NothingToUndo g_LimitExceeded, He.glo_ok X G (c.d.fact 51 (f := .glo "_law_classes") rfl), F21.kp, F21.bindsN fun _ _ _ _ _ _ us hl => match us, hl with | [_], _ => rfl⟩
  exact ok_law F22 m_len m_min m_max m_range c__law_pool c__law_take c__law_named c__law_errors c__law_field m_repr c__law_bases c__law_classes cx_InvalidNumber
end Rv
open PySem PySem.W PySem.Calls PyProof.Rows
theorem PySem.Challenge.cw_rainvalleys_k90_error_classes_holds : PySem.Challenge.rw_rainvalleys_k90_error_classes.Holds := by
  w_on; o_law
  refine HandSHeadRun.head_any (r := OpenLaw.row PySem.Challenge.rw_rainvalleys_k90_error_classes) (q := view (OpenLaw.row PySem.Challenge.rw_rainvalleys_k90_error_classes).prog [25]) (H := Rv.hk) (ob := Rv.ob) (M := 6000) (loose := Rv.loose) (d := HandSHeadRun.topDef (OpenLaw.row PySem.Challenge.rw_rainvalleys_k90_error_classes).prog 25) (kwd := []) Rv.ob_eq
    (by kernel_rfl) (fun s => by kernel_rfl) Rv.run (by kernel_rfl) (by kernel_rfl) (by kernel_rfl) (by rfl) (by first | assumption | decide +kernel) (by decide +kernel) ⟨rfl, rfl, rfl, rfl, rfl, by decide +kernel⟩ ?hw ?hc
  case hw => w_witness2
  case hc =>
    refine Rv.walk_ofG (l := PySem.Challenge.rw_rainvalleys_k90_error_classes) (n := 63) (k := 6) (x := "_law_script") (CX := L2.CX0) rfl (by decide) (by kernel_rfl) ⟨rfl, by decide, by decide⟩ ?F (fun _ _ _ _ z => z)
    intro w mg fa h Y G hmg0
    obtain ⟨K, KX, c⟩ := Y
    have hmg : mg ("law" : PySem.Str) = some (.ref fa) := by
      have e : (HandSHeadRun.topDef (OpenLaw.row PySem.Challenge.rw_rainvalleys_k90_error_classes).prog 25).name = ("law" : PySem.Str) := by kernel_rfl
      rw [← e]
      exact hmg0
    obtain ⟨fd, hb, sd, hF⟩ := Rv.facts (P := (PySem.Challenge.rw_rainvalleys_k90_error_classes).prog) (w := w) KX G hmg c
    exact ⟨K, fd, _, KX, hb, fun H a ns hl hO hS => ⟨a, ns, rfl, hl, hS, sd, fun _ => rfl⟩, hF⟩

