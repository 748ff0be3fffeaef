import PyProof.Rows.All
import Wide.All
import OpenK.AllK
import Wide.FinOn
import HandS.ForMost
import HandS.Codes
import HandS.Evl
import HandS.IsInst
import HandS.Rev
import HandS.Deep
import HandS.Small
import HandS.FStr
import HandS.More
import HandS.Style
import HandS.StrMore
import HandS.Flow
import HandS.Conv
import HandS.ClsMeth
import HandS.WrittenGet
import KE.GoesEnum
import KE.GoesEnumKw
import KE.KExcInit
import KE.KExcIs
import HandS.Exc
import HandS.ExcInit
import HandS.ExcField
import HandS.ExcIs
import HandS.TryOnly
import HandS.Lambda
import PyProof.ExcBaseAll.LookupError
import HandS.EndTab
import HandS.OwnEq
import HandS.ListItems
import KE.KCallOwn
import HandS.HeadHook4
import HandS.HeadWalk
import HandS.Head2
import PySem.Challenge.RW_listandpage_k05_schema_lines_refused
set_option Elab.async false
set_option linter.all false
set_option maxRecDepth 100000
set_option maxHeartbeats 4000000
namespace LP
open PySem L2
/-! ### the reading, rule by rule -/
section
variable {D : Ends} {σ : L2.St} {H : Hp} {Q : VK} {t u : TS} {c c' : TT} {te ta tb tc : TE} {r r' : R2} {g : TG} {v x y : V} {i : Nat} {K : PySem.W.Frag} {tas : TA}
theorem w_seq (h : t { D with nx := u D } σ H) : tSeq t u D σ H := h
theorem w_next (h : D.nx σ H) : tNext D σ H := h
theorem w_ifS (h : c σ H fun b H1 => if b = true then t D σ H1 else u D σ H1) : tIfS c t u D σ H := h
theorem w_asg (h : te σ H fun x H1 => g x σ H1 D.nx) : tAsg te g D σ H := h
theorem w_gName {k : L2.St → Hp → Prop} (h : k (σ.set i (some v)) H) : gName i v σ H k := h
theorem w_ret (h : te σ H D.rt) : tRet te D σ H := h
theorem w_retN (h : D.rt .non H) : tRetN D σ H := h
theorem w_drop (h : te σ H fun _ H1 => D.nx σ H1) : tDrop te D σ H := h
theorem w_var (e : σ[i]? = some (some v)) (h : Q v H) : tVar i σ H Q := ⟨v, e, h⟩
theorem w_c (h : Q v H) : tC v σ H Q := h
theorem w_op (h : ta σ H fun x H1 => tb σ H1 fun y H2 => r x y H2 Q) : tOp r ta tb σ H Q := h
theorem w_test {q : Bool → Hp → Prop} (h : te σ H fun x H1 => ∃ k, x = .bl k ∧ q k H1) : tTest te σ H q := h
theorem w_B {q : Bool → Hp → Prop} (h : te σ H fun x H1 => ∃ k, x = .bl k ∧ q k H1) : tB te σ H q := h
theorem w_kb {k : Bool} {q : Bool → Prop} (h : q k) : ∃ k', V.bl k = .bl k' ∧ q k' := ⟨k, rfl, h⟩
theorem w_I0 {g : Int → Int → V} {i j : Int} (h : Q (g i j) H) : rI0 g (.int i) (.int j) H Q := ⟨i, j, rfl, rfl, h⟩
theorem w_I {C : Int → Int → Prop} {g : Int → Int → V} {i j : Int} (hc : C i j) (h : Q (g i j) H) : rI C g (.int i) (.int j) H Q := ⟨i, j, rfl, rfl, hc, h⟩
theorem w_and {q : Bool → Hp → Prop} (h : c σ H fun b H1 => if b = true then c' σ H1 q else q false H1) : tAnd c c' σ H q := h
theorem w_or {q : Bool → Hp → Prop} (h : c σ H fun b H1 => if b = true then q true H1 else c' σ H1 q) : tOr c c' σ H q := h
theorem w_not {q : Bool → Hp → Prop} (h : c σ H fun b H1 => q (!b) H1) : tNot c σ H q := h
theorem w_andV (h : ta σ H fun x H1 => ∃ c, x = .bl c ∧ if c = true then tb σ H1 Q else Q (.bl false) H1) : tAndV ta tb σ H Q := h
theorem w_orV (h : ta σ H fun x H1 => ∃ c, x = .bl c ∧ if c = true then Q (.bl true) H1 else tb σ H1 Q) : tOrV ta tb σ H Q := h
theorem w_notV (h : ta σ H fun x H1 => ∃ c, x = .bl c ∧ Q (.bl (!c)) H1) : tNotV ta σ H Q := h
theorem w_ifE {t : TT} (h : t σ H fun c H1 => if c = true then ta σ H1 Q else tb σ H1 Q) : tIf t ta tb σ H Q := h
theorem w_nil {q : List V → Hp → Prop} (h : q [] H) : tNil σ H q := h
theorem w_cons {q : List V → Hp → Prop} (h : ta σ H fun x H1 => tas σ H1 fun xs H2 => q (x :: xs) H2) : tCons ta tas σ H q := h
theorem w_tup (h : tas σ H fun xs H1 => xs.length ≤ sizeLine ∧ ∀ p, H1 p = none → Q (.ref p) (upd H1 p (.tup xs))) : tTup tas σ H Q := h
theorem w_lst (h : tas σ H fun xs H1 => xs.length ≤ sizeLine ∧ ∀ p, H1 p = none → Q (.ref p) (upd H1 p (.lst xs))) : tLst tas σ H Q := h
theorem w_CB {r : List V → Hp → VK → Prop} (h : tas σ H fun vs H1 => r vs H1 Q) : tCB r tas σ H Q := h
theorem w_call {sp : Sp} {dvs : List V} {E : XK} (h : tas σ H fun vs H1 => sp (vs ++ dvs) H1 Q E) : tCall sp dvs E tas σ H Q := h
theorem w_chain (h : ta σ H fun x H1 => tb σ H1 fun y H2 => r x y H2 fun z H3 => ∃ k, z = .bl k ∧ (if k = true then tc σ H3 fun w' H4 => r' y w' H4 Q else Q (.bl false) H3)) : tChain r r' ta tb tc σ H Q := h
/-- lists, tuples, texts by their places -/
theorem w_ixL {p : Addr} {xs : List V} {i : Int} (h : SqL K H p xs) (e : atI xs i = some v) (q : Q v H) : rIxL K (.ref p) (.int i) H Q := ⟨p, xs, i, v, rfl, rfl, h, e, q⟩
theorem w_ixT {p : Addr} {xs : List V} {i : Int} (h : SqT K H p xs) (e : atI xs i = some v) (q : Q v H) : rIxT K (.ref p) (.int i) H Q := ⟨p, xs, i, v, rfl, rfl, h, e, q⟩
theorem w_fld {f : Str} {a C dx : Addr} {fs : List (Str × V)} (h : ta σ H fun x H1 => ∃ a C dx fs v, x = .ref a ∧ H1 a = some (.ins C dx fs) ∧ Cls K C ∧ NoAttr K C f ∧ fs.lookup f = some v ∧ Q v H1) : tFld K ta f σ H Q := h
theorem w_eq (h : scal x y = true) (q : Q (.bl (decide (x = y))) H) : rEq x y H Q := ⟨h, q⟩
theorem w_ne (h : scal x y = true) (q : Q (.bl (!decide (x = y))) H) : rNe x y H Q := ⟨h, q⟩
end
section
variable {σ : L2.St} {H : Hp} {Q : VK} {v : V} {i : Int} {to ti : TE} {ts : TSet}
theorem w_gSub {k : L2.St → Hp → Prop} (h : to σ H fun o H1 => ti σ H1 fun i H2 => ts o i v H2 fun H3 => k σ H3) : gSub to ti ts v σ H k := h
theorem w_setL {p : Addr} {xs : List V} {j : Nat} {k : Hp → Prop} (h : H p = some (.lst xs)) (e : ixN xs.length i = some j) (q : k (upd H p (.lst (xs.set j v)))) : rSetL (.ref p) (.int i) v H k := ⟨p, xs, i, j, rfl, rfl, h, e, q⟩
theorem fmod_lo {a b : Int} (h : 0 < b) : 0 ≤ a.fmod b := Int.fmod_nonneg_of_pos a h
theorem fmod_hi {a b : Int} (h : 0 < b) : a.fmod b < b := Int.fmod_lt_of_pos a h
theorem fdiv_lo {a b : Int} (ha : 0 ≤ a) (h : 0 < b) : 0 ≤ a.fdiv b := by
  rw [Int.fdiv_eq_ediv_of_nonneg a
          (by omega)]
  exact Int.ediv_nonneg ha (by omega)
end
/-! ### branches -/
theorem iteD {p A B : Prop} {_ : Decidable p} (h1 : p → A) (h2 : ¬ p → B) : if decide p = true then A else B := by
  by_cases h : p
  · rw [decide_eq_true h, if_pos rfl]
    exact h1 h
  · rw [decide_eq_false h, if_neg Bool.false_ne_true]
    exact h2 h
theorem iteND {p A B : Prop} {_ : Decidable p} (h1 : ¬ p → A) (h2 : p → B) : if (!decide p) = true then A else B := by
  by_cases h : p
  · rw [decide_eq_true h]
    exact iteF (h2 h)
  · rw [decide_eq_false h]
    exact iteT (h1 h)
theorem iteNF {A B : Prop} (h : A) : if (!false) = true then A else B := h
theorem iteNT {A B : Prop} (h : B) : if (!true) = true then A else B := iteF h
theorem iteB {b : Bool} {A B : Prop} (h1 : b = true → A) (h2 : b = false → B) : if b = true then A else B := by
  cases b with
  | true => exact iteT (h1 rfl)
  | false => exact iteF (h2 rfl)
/-! ### the heap without the bag -/
def del (b : Addr) (H : Hp) : Hp := fun a => if a = b then none else H a
theorem del_self {b : Addr} {H : Hp} : del b H b = none := by unfold del; rw [if_pos rfl]
theorem del_ne {b a : Addr} {H : Hp} (h : a ≠ b) : del b H a = H a := by unfold del; rw [if_neg h]
theorem del_some {b a : Addr} {H : Hp} {o : HO} (h : del b H a = some o) : a ≠ b ∧ H a = some o := by
  unfold del at h
  split at h
  · cases h
  · exact ⟨by assumption, h⟩
open Evl (Ex) in
theorem ex_del {b : Addr} {H : Hp} : Ex (del b H) H := fun a o h => (del_some h).2
open Evl (Ex) in
/-- what the heap without the bag holds stays, in the new heap without the bag too -/
theorem ex_dd {b : Addr} {H H' : Hp} (e : Ex (del b H) H') : Ex (del b H) (del b H') := fun a o h => by
  rw [del_ne (del_some h).1]
  exact e a o h
open Evl (Ex) in
theorem ex_upd_bag {b : Addr} {H : Hp} {o : HO} : Ex (del b H) (upd H b o) := fun a u h => by
  rw [upd_ne (del_some h).1]
  exact (del_some h).2
open Evl (Ex) in
theorem ex_dtrans {b : Addr} {H H1 H2 : Hp} (e : Ex (del b H) H1) (e' : Ex (del b H1) H2) : Ex (del b H) H2 := (ex_dd e).trans e'
open Evl (Ex) in
theorem ex_new_d {b p : Addr} {H : Hp} {o : HO} (h : H p = none) : Ex (del b H) (upd H p o) := ex_del.trans (Ex.new h)
/-- the bag of drawn numbers: n bounds how many were mixed -/
structure BagAt (H : Hp) (b : Addr) (n : Nat) : Prop where
  ex : ∃ d m t : Int, H b = some (.lst [.int d, .int m, .int t]) ∧ 0 ≤ d ∧ 0 ≤ m ∧ m < 2305843009214193951 ∧ 0 ≤ t ∧ t ≤ n
theorem BagAt.mono {H : Hp} {b : Addr} {n m : Nat} (h : BagAt H b n) (l : n ≤ m) : BagAt H b m := by
  obtain ⟨d, m', t, h1, h2, h3, h4, h5, h6⟩ := h.ex
  exact ⟨d, m', t, h1, h2, h3, h4, h5, by omega⟩
theorem BagAt.new {H : Hp} {b p : Addr} {n : Nat} {o : HO} (h : BagAt H b n) (f : H p = none) : BagAt (upd H p o) b n := by
  obtain ⟨d, m', t, h1, h2⟩ := h.ex
  exact ⟨d, m', t, by rw [upd_ne (ne_of_none h1 f)]; exact h1, h2⟩
theorem BagAt.upd {H : Hp} {b p : Addr} {n : Nat} {o : HO} (h : BagAt H b n) (f : b ≠ p) : BagAt (upd H p o) b n := by
  obtain ⟨d, m', t, h1, h2⟩ := h.ex
  exact ⟨d, m', t, by rw [upd_ne f]; exact h1, h2⟩
theorem BagAt.ne_none {H : Hp} {b p : Addr} {n : Nat} (h : BagAt H b n) (f : H p = none) : b ≠ p := by
  obtain ⟨d, m', t, h1, h2⟩ := h.ex
  exact ne_of_none h1 f
theorem BagAt.ext {H H' : Hp} {b : Addr} {n : Nat} (h : BagAt H b n) (e : Evl.Ex H H') : BagAt H' b n := by
  obtain ⟨d, m', t, h1, h2⟩ := h.ex
  exact ⟨d, m', t, e _ _ h1, h2⟩
theorem w_size {n : Nat} {p : Prop} (h : n ≤ sizeLine) (q : p) : n ≤ sizeLine ∧ p := ⟨h, q⟩
theorem w_rfl {α : Type} {x y : α} {p : Prop} (e : x = y) (h : p) : x = y ∧ p := ⟨e, h⟩
theorem BagAt.ne {H : Hp} {b p : Addr} {n : Nat} {xs : List V} (h : BagAt H b n) (f : H p = some (.lst xs)) (hx : ∀ i j k : Int, xs ≠ [.int i, .int j, .int k]) : p ≠ b := by
  obtain ⟨d, m', t, h1, _⟩ := h.ex
  intro e
  subst e
  rw [f] at h1
  injection h1 with h1
  injection h1 with h1
  exact hx _ _ _ h1

/-! ### what the module's names hold -/
structure Blt (mg : Str → Option Value) : Prop where
  len_ : mg "len" = none
  int_ : mg "int" = none
  abs_ : mg "abs" = none
  max_ : mg "max" = none
  min_ : mg "min" = none
  any_ : mg "any" = none
  all_ : mg "all" = none
  str_ : mg "str" = none
  bool_ : mg "bool" = none
  list_ : mg "list" = none
  tuple_ : mg "tuple" = none
  dict_ : mg "dict" = none
  isinstance_ : mg "isinstance" = none
  range_ : mg "range" = none
  reversed_ : mg "reversed" = none
  enumerate_ : mg "enumerate" = none
  zip_ : mg "zip" = none
section
variable {X : Cx} {k j : Nat} {x : Str} {sp : Sp} {dvs : List V} {p pos : Pos}
theorem pe_c0 (c : C8.Cal X.prog X.w X.K X.mg X.base k x sp dvs) (hr : Room j X.A) (hk : k ≤ j) (hg : Gl X x) (hdb : (x == ("__debug__" : Str)) = false := by decide) : PE X (.Call (.Name x p) [] [] pos) (tCall sp dvs C8.E0 tNil) := by
  obtain ⟨f,
          fd, ps, ds, F, hm, kp, b, d⟩ := c.ex
  exact pe_call0 F (hr.mono hk) hg hm kp b d C8.pass0 hdb
theorem hu64 {A : Around} (hr : Room j A) : A.units + 64 < cLine := by have := hr.un; omega
end
end LP
namespace LP
open PySem L2
/-! ### readings under names -/
def rInt1 : List V → Hp → VK → Prop := fun xs H Q => (∃ i, xs = [.int i] ∧ Q (.int i) H) ∨ ∃ k, xs = [.bl k] ∧ Q (.int (if k then 1 else 0)) H
def rAbs : List V → Hp → VK → Prop := fun xs H Q => ∃ i, xs = [.int i] ∧ Q (.int (if i < 0 then -i else i)) H
def rMax2 : List V → Hp → VK → Prop := fun ys H Q => ∃ j k, ys = [.int j, .int k] ∧ Q (.int (if k > j then k else j)) H
def rMin2 : List V → Hp → VK → Prop := fun xs H Q => ∃ i j, xs = [.int i, .int j] ∧ Q (.int (if j < i then j else i)) H
def rLenS (K : PySem.W.Frag) : List V → Hp → VK → Prop := fun us H Q => ∃ p ys, us = [.ref p] ∧ (SqL K H p ys ∨ SqT K H p ys) ∧ Q (.int ys.length) H
def rLenStr : List V → Hp → VK → Prop := fun xs H Q => ∃ z, xs = [.str z] ∧ z.length ≤ sizeLine ∧ Q (.int z.length) H
def rListS (K : PySem.W.Frag) : List V → Hp → VK → Prop := fun us H Q => ∃ p ys, us = [.ref p] ∧ (SqL K H p ys ∨ SqT K H p ys) ∧ ∀ l, H l = none → Q (.ref l) (upd H l (.lst ys))
def rTupS (K : PySem.W.Frag) : List V → Hp → VK → Prop := fun xs H Q => ∃ p ys, xs = [.ref p] ∧ ((SqL K H p ys ∧ ∀ l, H l = none → Q (.ref l) (upd H l (.tup ys))) ∨ (SqT K H p ys ∧ Q (.ref p) H))
def rDictS : List V → Hp → VK → Prop := fun xs H Q => ∃ (a : Addr) (kvs : List (Key × V)), xs = [.ref a] ∧ Rd H a (.dK kvs) ∧ ∀ p, H p = none → Q (.ref p) (upd H p (.dK kvs))
def rBoolL (K : PySem.W.Frag) : List V → Hp → VK → Prop := fun xs H Q => ∃ (a : Addr) (zs : List V), xs = [.ref a] ∧ SqL K H a zs ∧ Q (.bl (!zs.isEmpty)) H
def rAddS : R2 := fun x y H Q => ∃ i j, x = .str i ∧ y = .str j ∧ i.length + j.length ≤ sizeLine ∧ Q (.str (i ++ j)) H
def rIsN : R2 := fun v u H Q => u = .non ∧ Q (.bl (decide (v = .non))) H
def rNotN : R2 := fun v u H Q => u = .non ∧ Q (.bl (!decide (v = .non))) H
def rInSg : R2 := fun x y H Q => ∃ (c : Nat) (z : Str), x = .str ⟨#[c]⟩ ∧ y = .str z ∧ Q (.bl (decide (c ∈ z.cps.toList))) H
def rNotInSg : R2 := fun x y H Q => ∃ (c : Nat) (z : Str), x = .str ⟨#[c]⟩ ∧ y = .str z ∧ Q (.bl (!decide (c ∈ z.cps.toList))) H
def rSplit : V → List V → Hp → VK → Prop := fun x xs H Q => ∃ a b, x = .str a ∧ xs = [.str b] ∧ (b.length == 0) = false ∧ a.length + 2 ≤ sizeLine ∧ rNewStrs (Txt.split a b) H Q
def rJoin (K : PySem.W.Frag) : V → List V → Hp → VK → Prop := fun x xs H Q => ∃ a p, ∃ ys : List Str, x = .str a ∧ xs = [.ref p] ∧ (SqL K H p (ys.map V.str) ∨ SqT K H p (ys.map V.str)) ∧ (ys.map (·.length)).sum + ys.length * a.length ≤ 16777216 ∧ Q (.str (Txt.join a ys)) H
def rUpper : V → List V → Hp → VK → Prop := fun x xs H Q => ∃ a, x = .str a ∧ xs = [] ∧ a.length ≤ 5592405 ∧ Q (.str (Txt.upper a)) H
def rIsB (f : Str → Bool) : V → List V → Hp → VK → Prop := fun x xs H Q => ∃ a, x = .str a ∧ xs = [] ∧ True ∧ Q (.bl (f a)) H
def tTru (K : PySem.W.Frag) (ta : TE) : TT := fun σ H Q => ta σ H fun v H1 => ∃ b, TruV K v H1 b ∧ Q b H1
section
variable {to te : TE} {o e : Expr} {X : Cx}
theorem call_int1' : CallR X (.type "int") rInt1 := call_int1
theorem call_abs' : CallR X (.builtin "abs") rAbs := call_abs
theorem call_max2' (hc : X.calm = true) : CallR X (.builtin "max") rMax2 := call_max2 hc
theorem call_min2' (hc : X.calm = true) : CallR X (.builtin "min") rMin2 := call_min2 hc
theorem call_len_seq' : CallR X (.builtin "len") (rLenS X.K) := call_len_seq
theorem call_len_str' : CallR X (.builtin "len") rLenStr := call_len_str
theorem call_list_of' : CallR X (.type "list") (rListS X.K) := call_list_of
theorem call_tuple_of' : CallR X (.type "tuple") (rTupS X.K) := call_tuple_of
theorem call_dictD' : CallR X (.type "dict") rDictS := call_dictD
theorem call_boolL' : CallR X (.type "bool") (rBoolL X.K) := call_boolL
theorem op_add_str' : OpR X (binaryOp .Add) rAddS := op_add_str
theorem op_isN' : OpR X (compareOp .Is) rIsN := op_isN
theorem op_notN' : OpR X (compareOp .IsNot) rNotN := op_notN
theorem op_in_sign' : OpR X (compareOp .In) rInSg := op_in_sign
theorem op_notIn_sign' : OpR X (compareOp .NotIn) rNotInSg := op_notIn_sign
theorem pe_split' {apos pos : Pos} (ho : PE X o to) (he : PE X e te) (hs : starEach [e] X.env = [(false, eval e X.env)] := by rfl) (hbase : attributeBase o "split" X.env (eval o X.env) = eval o X.env := by rfl) (hline : (apos.endLine == pos.line) = true := by rfl) :
    PE X (.Call (.Attribute o "split" apos) [e] [] pos) (tM1 rSplit to te) := pe_split ho he hs hbase hline
theorem pe_join' {apos pos : Pos} (ho : PE X o to) (he : PE X e te) (hs : starEach [e] X.env = [(false, eval e X.env)] := by rfl) (hbase : attributeBase o "join" X.env (eval o X.env) = eval o X.env := by rfl) (hline : (apos.endLine == pos.line) = true := by rfl) :
    PE X (.Call (.Attribute o "join" apos) [e] [] pos) (tM1 (rJoin X.K) to te) := pe_join ho he hs hbase hline
theorem pe_upper' {apos pos : Pos} (ho : PE X o to) (hbase : attributeBase o "upper" X.env (eval o X.env) = eval o X.env := by rfl) (hline : (apos.endLine == pos.line) = true := by rfl) :
    PE X (.Call (.Attribute o "upper" apos) [] [] pos) (tM0 rUpper to) := pe_upper ho hbase hline
theorem mt_isascii' : MtR X "str.isascii" (rIsB Txt.isascii) := mt_isascii
theorem mt_isalpha' : MtR X "str.isalpha" (rIsB Txt.isalpha) := mt_isalpha
theorem mt_islower' : MtR X "str.islower" (rIsB Txt.islower) := mt_islower
theorem pt_truth' (he : PE X e te) (hw : ∀ whole, isTrue e X.env whole = (do let v ← whole; standAt e.pos; holding [v] (truthy v)) := by intro _; rfl) : PT X e (tTru X.K te) := pt_truth he hw
end
section
variable {K : PySem.W.Frag} {σ : L2.St} {H : Hp} {Q : VK} {v x y : V} {i j : Int} {to ti ta tb te : TE} {p : Addr} {xs ys : List V} {tas : TA}
theorem w_int1 (h : Q (.int i) H) : rInt1 [.int i] H Q := .inl ⟨i, rfl, h⟩
theorem w_intB {k : Bool} (h : Q (.int (if k then 1 else 0)) H) : rInt1 [.bl k] H Q := .inr ⟨k, rfl, h⟩
theorem w_abs (h : Q (.int (if i < 0 then -i else i)) H) : rAbs [.int i] H Q := ⟨i, rfl, h⟩
theorem w_max2 (h : Q (.int (if j > i then j else i)) H) : rMax2 [.int i, .int j] H Q := ⟨i, j, rfl, h⟩
theorem w_min2 (h : Q (.int (if j < i then j else i)) H) : rMin2 [.int i, .int j] H Q := ⟨i, j, rfl, h⟩
theorem w_lenL (h : SqL K H p ys) (q : Q (.int ys.length) H) : rLenS K [.ref p] H Q := ⟨p, ys, rfl, .inl h, q⟩
theorem w_lenT (h : SqT K H p ys) (q : Q (.int ys.length) H) : rLenS K [.ref p] H Q := ⟨p, ys, rfl, .inr h, q⟩
theorem w_lenStr {z : Str} (h : z.length ≤ sizeLine) (q : Q (.int z.length) H) : rLenStr [.str z] H Q := ⟨z, rfl, h, q⟩
theorem w_listL (h : SqL K H p ys) (q : ∀ l, H l = none → Q (.ref l) (upd H l (.lst ys))) : rListS K [.ref p] H Q := ⟨p, ys, rfl, .inl h, q⟩
theorem w_listT (h : SqT K H p ys) (q : ∀ l, H l = none → Q (.ref l) (upd H l (.lst ys))) : rListS K [.ref p] H Q := ⟨p, ys, rfl, .inr h, q⟩
theorem w_tupL (h : SqL K H p ys) (q : ∀ l, H l = none → Q (.ref l) (upd H l (.tup ys))) : rTupS K [.ref p] H Q := ⟨p, ys, rfl, .inl ⟨h, q⟩⟩
theorem w_boolL (h : SqL K H p ys) (q : Q (.bl (!ys.isEmpty)) H) : rBoolL K [.ref p] H Q := ⟨p, ys, rfl, h, q⟩
theorem w_addS {a b : Str} (h : a.length + b.length ≤ sizeLine) (q : Q (.str (a ++ b)) H) : rAddS (.str a) (.str b) H Q := ⟨a, b, rfl, rfl, h, q⟩
theorem w_isN (q : Q (.bl (decide (x = .non))) H) : rIsN x .non H Q := ⟨rfl, q⟩
theorem w_notN (q : Q (.bl (!decide (x = .non))) H) : rNotN x .non H Q := ⟨rfl, q⟩
theorem w_inSg {c : Nat} {z : Str} (q : Q (.bl (decide (c ∈ z.cps.toList))) H) : rInSg (.str ⟨#[c]⟩) (.str z) H Q := ⟨c, z, rfl, rfl, q⟩
theorem w_M0 {r : V → List V → Hp → VK → Prop} (h : to σ H fun x H1 => (∃ a, x = .str a) ∧ r x [] H1 Q) : tM0 r to σ H Q := h
theorem w_M1 {r : V → List V → Hp → VK → Prop} (h : to σ H fun x H1 => (∃ a, x = .str a) ∧ te σ H1 fun y H2 => r x [y] H2 Q) : tM1 r to te σ H Q := h
theorem w_str {z : Str} {p : Prop} (h : p) : (∃ a, V.str z = .str a) ∧ p := ⟨⟨z, rfl⟩, h⟩
theorem w_isB {f : Str → Bool} {z : Str} (q : Q (.bl (f z)) H) : rIsB f (.str z) [] H Q := ⟨z, rfl, rfl, trivial, q⟩
theorem w_split {a b : Str} (h : (b.length == 0) = false) (h2 : a.length + 2 ≤ sizeLine) (q : ∀ p, H p = none → Q (.ref p) (upd H p (.lst ((Txt.split a b).map V.str)))) : rSplit (.str a) [.str b] H Q := ⟨a, b, rfl, rfl, h, h2, q⟩
theorem w_join {a : Str} {ss : List Str} (h : SqL K H p (ss.map V.str)) (hl : (ss.map (·.length)).sum + ss.length * a.length ≤ 16777216) (q : Q (.str (Txt.join a ss)) H) : rJoin K (.str a) [.ref p] H Q := ⟨a, p, ss, rfl, rfl, .inl h, hl, q⟩
theorem w_upper {a : Str} (h : a.length ≤ 5592405) (q : Q (.str (Txt.upper a)) H) : rUpper (.str a) [] H Q := ⟨a, rfl, rfl, h, q⟩
theorem w_BM {T : String} {r : V → List V → Hp → VK → Prop} (h : to σ H fun x H1 => tyV K T x H1 ∧ tas σ H1 fun xs H2 => r x xs H2 Q) : tBM K T r to tas σ H Q := h
theorem w_BM0 {T : String} {r : V → List V → Hp → VK → Prop} (h : to σ H fun x H1 => tyV K T x H1 ∧ r x [] H1 Q) : tBM0 K T r to σ H Q := h
theorem w_tyS {z : Str} {q : Prop} (h : q) : tyV K "str" (.str z) H ∧ q := ⟨rfl, h⟩
theorem w_tyL {q : Prop} (hl : H p = some (.lst xs)) (h : q) : tyV K "list" (.ref p) H ∧ q := ⟨.inl ⟨rfl, xs, SqL.of hl⟩, h⟩
theorem w_app (hl : H p = some (.lst xs)) (hz : xs.length < sizeLine) (q : Q .non (upd H p (.lst (xs ++ [v])))) : rAppend (.ref p) [v] H Q := ⟨p, xs, v, rfl, rfl, hl, hz, q⟩
theorem w_ext {b : Addr} {zs : List V} (hl : H p = some (.lst xs)) (hb : H b = some (.lst zs)) (hz : xs.length + zs.length ≤ sizeLine) (q : Q .non (upd H p (.lst (xs ++ zs)))) : rExtend (.ref p) [.ref b] H Q := ⟨p, b, xs, zs, rfl, rfl, hl, hb, hz, q⟩
theorem w_cat {b : Addr} {zs : List V} (hl : H p = some (.lst xs)) (hb : H b = some (.lst zs)) (hz : xs.length + zs.length ≤ sizeLine) (q : ∀ l, H l = none → Q (.ref l) (upd H l (.lst (xs ++ zs)))) : rCat (.ref p) (.ref b) H Q := ⟨p, b, xs, zs, rfl, rfl, hl, hb, hz, q⟩
theorem w_ixS {z : Str} {c : Nat} (hz : z.length ≤ sizeLine) (e : atI z.cps.toList i = some c) (q : Q (.str ⟨#[c]⟩) H) : rIxS (.str z) (.int i) H Q := ⟨z, i, c, rfl, rfl, hz, e, q⟩
theorem w_inL {neg : Bool} (h : SqL K H p xs) (hx : flatV x = true) (hs : xs.all flatV = true) (q : Q (.bl (if neg then !inV x xs else inV x xs)) H) : rIn K neg x (.ref p) H Q := ⟨p, xs, rfl, .inl h, hx, hs, q⟩
theorem w_inT {neg : Bool} (h : SqT K H p xs) (hx : flatV x = true) (hs : xs.all flatV = true) (q : Q (.bl (if neg then !inV x xs else inV x xs)) H) : rIn K neg x (.ref p) H Q := ⟨p, xs, rfl, .inr h, hx, hs, q⟩
theorem w_sl {r : V → Option Int → Option Int → Hp → VK → Prop} {tl th : TO} (h : te σ H fun x H1 => tl σ H1 fun l H2 => th σ H2 fun u H3 => r x l u H3 Q) : tSl r te tl th σ H Q := h
theorem w_noPart {q : Option Int → Hp → Prop} (h : q none H) : tNoPart σ H q := h
theorem w_part {q : Option Int → Hp → Prop} (h : te σ H fun x H1 => ∃ i, x = .int i ∧ q (some i) H1) : tPart te σ H q := h
theorem w_ki {q : Int → Prop} (h : q i) : ∃ i', V.int i = .int i' ∧ q i' := ⟨i, rfl, h⟩
theorem w_slS {z : Str} {lo hi : Option Int} (h : z.length ≤ sizeLine) (q : Q (.str (cutS z lo hi)) H) : rSlS (.str z) lo hi H Q := ⟨z, rfl, h, q⟩
theorem w_tru {q : Bool → Hp → Prop} (h : te σ H fun x H' => ∃ k, TruV K x H' k ∧ q k H') : tTru K te σ H q := h
theorem w_truL {q : Bool → Prop} (h : SqL K H p xs) (hq : q (!xs.isEmpty)) : ∃ k, TruV K (.ref p) H k ∧ q k := ⟨_, .inl ⟨xs, h, rfl⟩, hq⟩
/-- any, all of a list of truth values -/
theorem w_any {bs : List Bool} (h : SqL K H p (bs.map V.bl)) (q : Q (.bl (bs.any id)) H) : rAny K [.ref p] H Q := ⟨p, bs, rfl, h, q⟩
theorem w_all {bs : List Bool} (h : SqL K H p (bs.map V.bl)) (q : Q (.bl (bs.all id)) H) : rAll K [.ref p] H Q := ⟨p, bs, rfl, h, q⟩
/-- for and comprehensions: what is walked -/
theorem w_for {wi : TI} {g : TG} {tb : TS} {D : Ends} (h : wi σ H fun J H1 => ∃ W : Nat → Nat → L2.St → Hp → Prop, (∃ m, W 0 m σ H1) ∧ ∀ i m σ H, W i m σ H → (J.stop i H ∧ D.nx σ H) ∨ (J.go i H ∧ ∃ Go : L2.St → Hp → Prop, (∀ σ' H', Go σ' H' → ∃ m', m' < m ∧ W (i + 1) m' σ' H') ∧ ∀ x H', J.yld i H x H' → g x σ H' fun σ2 H2 => tb { D with nx := Go, ct := Go, bk := D.nx } σ2 H2)) : tFor wi g tb D σ H := h
end
end LP
namespace LP
open PySem L2
section
variable {X : Cx} {K : PySem.W.Frag} {o e a : Expr} {es : List Expr} {te to ta : TE} {t : TA} {f : Str} {pos apos cpos : Pos} {tg : Expr}
theorem ix_tupK (hK : X.K = K) : IxR X (rIxT K) := hK ▸ ix_tup
theorem ix_listK (hK : X.K = K) : IxR X (rIxL K) := hK ▸ ix_list
theorem op_in_seqK (hK : X.K = K) : OpR X (compareOp .In) (rIn K false) := hK ▸ op_in_seq
theorem op_notIn_seqK (hK : X.K = K) : OpR X (compareOp .NotIn) (rIn K true) := hK ▸ op_notIn_seq
theorem op_eqDK (hK : X.K = K) (hu : X.A.units + 64 < cLine) : OpR X (compareOp .Eq) (rEqD K) := hK ▸ op_eqD hu
theorem op_neDK (hK : X.K = K) (hu : X.A.units + 64 < cLine) : OpR X (compareOp .NotEq) (rNeD K) := hK ▸ op_neD hu
theorem call_len_seqK (hK : X.K = K) : CallR X (.builtin "len") (rLenS K) := hK ▸ call_len_seq'
theorem call_list_ofK (hK : X.K = K) : CallR X (.type "list") (rListS K) := hK ▸ call_list_of'
theorem call_tuple_ofK (hK : X.K = K) : CallR X (.type "tuple") (rTupS K) := hK ▸ call_tuple_of'
theorem call_boolLK (hK : X.K = K) : CallR X (.type "bool") (rBoolL K) := hK ▸ call_boolL'
theorem cr_anyK (hK : X.K = K) (hc : X.calm = true) : CallR X (.builtin "any") (rAny K) := hK ▸ cr_any hc
theorem cr_allK (hK : X.K = K) (hc : X.calm = true) : CallR X (.builtin "all") (rAll K) := hK ▸ cr_all hc
theorem call_isiK1 (hK : X.K = K) : CallR X (.builtin "isinstance") (rIsi K) := hK ▸ call_isi
theorem sl_listK (hK : X.K = K) : SlR X (rSlL K) := hK ▸ sl_list
theorem pe_joinK (hK : X.K = K) (ho : PE X o to) (he : PE X e te) (hs : starEach [e] X.env = [(false, eval e X.env)] := by rfl) (hbase : attributeBase o "join" X.env (eval o X.env) = eval o X.env := by rfl) (hline : (apos.endLine == pos.line) = true := by rfl) :
    PE X (.Call (.Attribute o "join" apos) [e] [] pos) (tM1 (rJoin K) to te) := by
  subst hK
  exact pe_join' ho he hs hbase hline
theorem pe_fldK (hK : X.K = K) (he : PE X e ta) (hb : attributeBase e f X.env (eval e X.env) = eval e X.env) : PE X (.Attribute e f pos) (tFld K ta f) := by
  subst hK
  exact pe_fld he hb
theorem pi_listK (hK : X.K = K) (hl : PE X e te) : PI X tg e (iList K te) := by
  subst hK
  exact pi_list hl
theorem pi_tupK (hK : X.K = K) (hl : PE X e te) : PI X tg e (iTup K te) := by
  subst hK
  exact pi_tup hl
theorem pi_reversedK {p : Pos} (hK : X.K = K) (hg : Gl X "reversed") (hm : X.mg "reversed" = none) (ha : PA X [e] t) (hs : starEach [e] X.env = [(false, eval e X.env)] := by rfl) : PI X tg (.Call (.Name "reversed" p) [e] [] pos) (iRev K t) := by
  subst hK
  exact pi_reversed hg hm ha hs
theorem pg_tupK {k : Nat} {tt : TGs} {n : Nat} (hK : X.K = K) (hc : X.calm = true) (h : PGs X es tt) (hn : (assignEach es X.env).length = n := by rfl) (hst : (assignEach es X.env).findIdx? (·.1) = none := by rfl) : PG X (.Tuple es k pos) (gTup K n tt) := by
  subst hK
  exact pg_tup hc h hn hst
theorem pt_truthK (hK : X.K = K) (he : PE X e te) (hw : ∀ whole, isTrue e X.env whole = (do let v ← whole; standAt e.pos; holding [v] (truthy v)) := by intro _; rfl) : PT X e (tTru K te) := by
  subst hK
  exact pt_truth' he hw
theorem pe_bmK {T id : String} {name : Str} {r : V → List V → Hp → VK → Prop} (hK : X.K = K) (pa : PlainAttrs T) (slot : Slot T name id) (hty : typeOf (.builtin id) = pure (.type "method_descriptor")) (hm : MtR X id r) (ho : PE X o to) (ha : PA X (e :: es) t)
    (hbase : attributeBase o name X.env
            (eval o X.env) = eval o X.env := by rfl)
    (hfew :
            ((backTo cpos (starEach (e :: es) X.env)).all (fun x => !x.1) && (backToKw cpos (keywordEach [] X.env)).all (fun x => x.1.isSome)
      && decide
              ((e :: es).length + ([] : List Keyword).length + (if ([] : List Keyword).isEmpty then 0 else 1) < 30)) = true := by rfl)
    (hline :
            (apos.endLine == cpos.line) = true := by rfl) (hs : starEach (e :: es) X.env = (false, eval e X.env) :: starEach es X.env := by rfl) (hplain : (backTo cpos (starEach es X.env)).any (·.1) = false := by rfl) :
    PE X (.Call (.Attribute o name apos) (e :: es) [] cpos) (tBM K T r to t) := by
  subst hK
  exact pe_bm pa slot hty hm ho ha hbase hfew hline hs hplain
theorem pe_bm0K {T id : String} {name : Str} {r : V → List V → Hp → VK → Prop} (hK : X.K = K) (pa : PlainAttrs T) (slot : Slot T name id) (hty : typeOf (.builtin id) = pure (.type "method_descriptor")) (hm : MtR X id r) (ho : PE X o to)
    (hbase : attributeBase o name X.env (eval o X.env) = eval o X.env := by rfl) (hline : (apos.endLine == cpos.line) = true := by rfl) : PE X (.Call (.Attribute o name apos) [] [] cpos) (tBM0 K T r to) := by
  subst hK
  exact pe_bm0 pa slot hty hm ho hbase hline
end
end LP
namespace LP
open PySem L2
open Evl (Ex)
/-! ### rules of our own: a static method by its class or an instance, an own in, tuple of a dict -/
/-- C.m is a static method: its record at p, its def at g -/
structure SMet (K : PySem.W.Frag) (C : Addr) (mc : Value) (m : Str) (p g : Addr) : Prop where
  at_ : PySem.W.findCls K (.ref C) mc m = some (.get (.builtin "staticmethod.__get__") (.ref p) .none (.ref C))
  rc : ∃ rest, PySem.W.recIn K p "staticmethod" = some (.ref g :: rest)
  kp : PySem.W.keepIn K (.ref g) = true
/-- .. reached through an instance -/
structure SInst (K : PySem.W.Frag) (C : Addr) (m : Str) (p g : Addr) : Prop where
  pg : PySem.W.plainGet K C Str.empty =
          true
  ic : PySem.W.isClsIn K C =
          true
  at_ : PySem.W.findIn K
          (.ref C) m = some (some (.ref p))
  ty : PySem.W.typeIn K (.ref p) = some (.type "staticmethod")
  get : PySem.W.specialIn K (.ref p) "__get__" = some (some (.builtin "staticmethod.__get__"))
  tk : PySem.W.takesIn K
          (.ref p) = some false
  cp : PySem.W.copiedNames.contains m =
          false
  rc : ∃ rest, PySem.W.recIn K p "staticmethod" = some (.ref g :: rest)
  kp : PySem.W.keepIn K (.ref g) = true
def tSMeth (C : Addr) (sp : Sp) (E : XK) (ta : TE) (t : TA) : TE := fun σ H Q => ta σ H fun x H1 => x = .ref C ∧ t σ H1 fun vs H2 => sp vs H2 Q E
def tSInst (C : Addr) (m : Str) (sp : Sp) (E : XK) (ta : TE) (t : TA) : TE := fun σ H Q => ta σ H fun x H1 => ∃ a dx fs, x = .ref a ∧ H1 a = some (.ins C dx fs) ∧ fs.lookup m = none ∧ t σ H1 fun vs H2 => sp vs H2 Q E
section
variable {X : Cx} {CX : CXT} {k : Nat} {C p g : Addr} {mc : Value} {sp : Sp} {E : XK} {o e : Expr} {es : List Expr} {m : Str} {pos apos : Pos} {ta : TE} {t : TA} {pl : Sem Bool} {fd : FuncData} {ps : List Str}
theorem pe_smeth (he : PE X o ta) (r : ClX.CRead X.K C mc) (c : SMet X.K C mc m p g) (F : FnOk X.prog X.w X.K X.mg X.base CX k g fd ps sp) (hr : Room k X.A) (hb : Binds X.K fd ps []) (hx : Passes CX X E) (ha : PA X (e :: es) t)
    (hst : starEach
            (e :: es) X.env = (false, eval e X.env) :: starEach es X.env := by rfl) (hpl : (backTo pos (starEach es X.env)).any (·.1) = false := by rfl)
    (ht : eval (.Call (.Attribute o m apos) (e :: es) [] pos) X.env = (do let ov ← eval o X.env; standAt apos.atName; let (f, first) ← holding [ov] (getMethod ov m pl); callWith pos f first (backTo pos (starEach (e :: es) X.env)) (backToKw pos (keywordEach [] X.env))) := by rfl) :
    PE X (.Call (.Attribute o m apos) (e :: es) [] pos) (tSMeth C sp E ta t) := by
  refine ⟨fun pins s σ H Q I h => PySem.W.methodCall_KW (pl := pl) (thn (he.run pins s σ H _ I h) fun u s1 ⟨x, H1, I1, rx, ex, q⟩ => ?_) ht⟩
  subst ex
  cases (show u = Value.ref C from rx)
  obtain ⟨rest, hp⟩ := c.rc
  refine PySem.W.method_cls I1.kIn r.ga (PySem.W.cls_bind I1.kIn r.rd c.at_ (wpAny_call (PySem.W.sm_get (s := { s1 with toks := s1.toks + 1 }) I1.kIn hp (PySem.W.handed_on rfl ?_))))
  have I2 : Inv X pins σ H1 { s1 with toks := s1.toks + 1 } := I1.tok _
  refine PySem.W.callWith_K (first := []) (h₀ := X.base) I.ok.mod.kin c.kp (thn (ha.run pos pins _ σ H1 _ I2 q) fun us s3 ⟨vs, H2, I3, rv, q2⟩ => ⟨I3.kIn, ?_⟩) hst hpl
  exact run_fn (us := us) (vs := vs) F hr hb .nil hx I3 rv (by rw [List.append_nil]; exact q2)
theorem pe_sinst (he : PE X o ta) (c : SInst X.K C m p g) (F : FnOk X.prog X.w X.K X.mg X.base CX k g fd ps sp) (hr : Room k X.A) (hb : Binds X.K fd ps []) (hx : Passes CX X E) (ha : PA X (e :: es) t)
    (hst : starEach
            (e :: es) X.env = (false, eval e X.env) :: starEach es X.env := by rfl) (hpl : (backTo pos (starEach es X.env)).any (·.1) = false := by rfl)
    (ht : eval (.Call (.Attribute o m apos) (e :: es) [] pos) X.env = (do let ov ← eval o X.env; standAt apos.atName; let (f, first) ← holding [ov] (getMethod ov m pl); callWith pos f first (backTo pos (starEach (e :: es) X.env)) (backToKw pos (keywordEach [] X.env))) := by rfl) :
    PE X (.Call (.Attribute o m apos) (e :: es) [] pos) (tSInst C m sp E ta t) := by
  refine ⟨fun pins s σ H Q I h => PySem.W.methodCall_KW (pl := pl) (thn (he.run pins s σ H _ I h) fun u s1 ⟨x, H1, I1, rx, a, dx, fs, ex, ea, l, q⟩ => ?_) ht⟩
  subst ex
  cases (show u =
          Value.ref a from rx)
  obtain ⟨mA,
          O, rr, _, _, _⟩ := ins_get I1.hok ea
  have hn : mA m =
          none := RelO.none_of (by rw [← l]; exact rr m)
  obtain ⟨od, J, hl⟩ := O.look
  obtain ⟨rest, hp⟩ := c.rc
  have I2 : Inv X pins σ H1 { s1 with toks := s1.toks + 1 } := I1.tok _
  refine PySem.W.method_usual (r := some (.ref p)) I1.kIn J (PySem.W.plainGet_of (show PySem.W.plainGet X.K C m = true from c.pg)).1 (PySem.W.plainGet_of (show PySem.W.plainGet X.K C m = true from c.pg)).2 c.at_ ?_ ?_
  · show
          ((PySem.W.typeIn X.K (.ref p)).any fun t => t != .type "function" && t != .type "method_descriptor" && t != .type "wrapper_descriptor") = true
    rw [c.ty]
    decide +kernel
  · refine PySem.W.get_bind I1.kIn J (PySem.W.plainGet_of (show PySem.W.plainGet X.K C m = true from c.pg)).1 (ClX.find_cm c.ic c.at_ c.get c.tk c.cp (by rw [hl m, hn])) (PySem.W.plainGet_of (show PySem.W.plainGet X.K C m = true from c.pg)).2 (wpAny_call (PySem.W.sm_get (s := { s1 with toks := s1.toks + 1 }) I1.kIn hp (PySem.W.handed_on rfl ?_)))
    refine PySem.W.callWith_K (first := []) (h₀ := X.base) I.ok.mod.kin c.kp (thn (ha.run pos pins _ σ H1 _ I2 q) fun us s3 ⟨vs, H2, I3, rv, q2⟩ => ⟨I3.kIn, ?_⟩) hst hpl
    exact run_fn (us := us) (vs := vs) F hr hb .nil hx I3 rv (by rw [List.append_nil]; exact q2)
end
/-! ### x in o, o an instance of the class at C with __contains__ -/
def rOwnIn (C : Addr) (neg : Bool) (sp : Sp) (E : XK) : R2 := fun x y H Q => ∃ a dx fs, y = .ref a ∧ H a = some (.ins C dx fs) ∧ sp [y, x] H (fun v H' => ∃ b, v = .bl b ∧ Q (.bl (if neg then !b else b)) H') E
section
variable {X : Cx} {CX : CXT} {k : Nat} {C g : Addr} {sp : Sp} {E : XK} {fd : FuncData} {ps : List Str}
theorem contains_i {pins : List (Addr × Obj)} {σ : L2.St} {H : Hp} {s : Shared} {a dx : Addr} {fs : List (Str × V)} {v : Value} {A : Around} {Q : Bool → Shared → Prop} {Ex : Value → Shared → Prop} (I : Inv X pins σ H s) (e : H a = some (.ins C dx fs)) (hm : Meth X.K C "__contains__" g)
    (h : wpAny (model X.prog X.w) A (call (.ref g) [.ref a, v]) (fun r s' => wpAny (model X.prog X.w) A (truthy r) Q Ex s') Ex s) : wpAny (model X.prog X.w) A (contains (.ref a) v) Q Ex s := by
  obtain ⟨mA,
          O, _, _, _, _⟩ := ins_get I.hok e
  obtain ⟨od, J, hl⟩ := O.look
  unfold contains
  have look := PySem.W.looks_findIn (M := model X.prog X.w) I.kIn hm.at_
  refine wpAny_holding (wpAny_bind (wpAny_bind (J.type.here (look.here ?_))))
  rw [if_neg (show ¬ ((some (Value.ref g) == some Value.none) = true) by simp)]
  exact wpAny_bind (PySem.W.unlessNone_K I.kIn J hm.at_ hm.fn h)
theorem op_own_in (hm : Meth X.K C "__contains__" g) (F : FnOk X.prog X.w X.K X.mg X.base CX k g fd ps sp) (hr : Room k X.A) (hb : Binds X.K fd ps []) (hx : Passes CX X E) : OpR X (compareOp .In) (rOwnIn C false sp E) := by
  intro pins s σ H x y v u Q I rx ry h; obtain ⟨a, dx, fs, rfl, e, q⟩ := h
  cases (show u =
          Value.ref a from ry)
  refine wpAny_bind (contains_i I e hm ?_)
  refine thn (run_fn (us := [.ref a, v]) (vs := [.ref a, x]) F hr hb .nil hx I (.cons rfl (.cons rx .nil)) q) fun r s1 ⟨z, H1, I1, rz, b, ez, q1⟩ => ?_
  subst ez
  cases (show r = Value.bool b from rz)
  exact wpAny_truthy_bool (wpAny_pure ⟨.bl b, H1, I1, rfl, q1⟩)
theorem op_own_notin (hm : Meth X.K C "__contains__" g) (F : FnOk X.prog X.w X.K X.mg X.base CX k g fd ps sp) (hr : Room k X.A) (hb : Binds X.K fd ps []) (hx : Passes CX X E) : OpR X (compareOp .NotIn) (rOwnIn C true sp E) := by
  intro pins s σ H x y v u Q I rx ry h; obtain ⟨a, dx, fs, rfl, e, q⟩ := h
  cases (show u =
          Value.ref a from ry)
  refine wpAny_bind (contains_i I e hm ?_)
  refine thn (run_fn (us := [.ref a, v]) (vs := [.ref a, x]) F hr hb .nil hx I (.cons rfl (.cons rx .nil)) q) fun r s1 ⟨z, H1, I1, rz, b, ez, q1⟩ => ?_
  subst ez
  cases (show r = Value.bool b from rz)
  exact wpAny_truthy_bool (wpAny_pure ⟨.bl !b, H1, I1, rfl, q1⟩)
/-- a static method of the class at C, as a promise -/
structure SCal (P : Program) (w : World) (K : PySem.W.Frag) (mg : Str → Option Value) (base : Heap) (k : Nat) (C : Addr) (mc : Value) (m : Str) (sp : Sp) : Prop where
  ex : ∃ (p g : Addr) (fd : FuncData) (ps : List Str), ClX.CRead K C mc ∧ SMet K C mc m p g ∧ SInst K C m p g ∧ FnOk P w K mg base C8.CX0 k g fd ps sp ∧ Binds K fd ps []
theorem pe_sm {mc : Value} {j : Nat} {m : Str} {o e : Expr} {es : List Expr} {pos apos : Pos} {ta : TE} {t : TA} {pl : Sem Bool} (c : SCal X.prog X.w X.K X.mg X.base k C mc m sp) (hr : Room j X.A) (hk : k ≤ j) (he : PE X o ta) (ha : PA X (e :: es) t)
    (hst : starEach
            (e :: es) X.env = (false, eval e X.env) :: starEach es X.env := by rfl) (hpl : (backTo pos (starEach es X.env)).any (·.1) = false := by rfl)
    (ht : eval (.Call (.Attribute o m apos) (e :: es) [] pos) X.env = (do let ov ← eval o X.env; standAt apos.atName; let (f, first) ← holding [ov] (getMethod ov m pl); callWith pos f first (backTo pos (starEach (e :: es) X.env)) (backToKw pos (keywordEach [] X.env))) := by rfl) :
    PE X (.Call (.Attribute o m apos) (e :: es) [] pos) (tSMeth C sp C8.E0 ta t) := by
  obtain ⟨p, g, fd, ps, r, c1, c2, F, b⟩ := c.ex
  exact pe_smeth (pl := pl) he r c1 F (hr.mono hk) b C8.pass0 ha hst hpl ht
theorem pe_si {mc : Value} {j : Nat} {m : Str} {o e : Expr} {es : List Expr} {pos apos : Pos} {ta : TE} {t : TA} {pl : Sem Bool} (c : SCal X.prog X.w X.K X.mg X.base k C mc m sp) (hr : Room j X.A) (hk : k ≤ j) (he : PE X o ta) (ha : PA X (e :: es) t)
    (hst : starEach
            (e :: es) X.env = (false, eval e X.env) :: starEach es X.env := by rfl) (hpl : (backTo pos (starEach es X.env)).any (·.1) = false := by rfl)
    (ht : eval (.Call (.Attribute o m apos) (e :: es) [] pos) X.env = (do let ov ← eval o X.env; standAt apos.atName; let (f, first) ← holding [ov] (getMethod ov m pl); callWith pos f first (backTo pos (starEach (e :: es) X.env)) (backToKw pos (keywordEach [] X.env))) := by rfl) :
    PE X (.Call (.Attribute o m apos) (e :: es) [] pos) (tSInst C m sp C8.E0 ta t) := by
  obtain ⟨p, g, fd, ps, r, c1, c2, F, b⟩ := c.ex
  exact pe_sinst (pl := pl) he c2 F (hr.mono hk) b C8.pass0 ha hst hpl ht
/-- in and not in by the class's own method -/
theorem op_oin {j : Nat} {dvs : List V} (c : C8.Met X.prog X.w X.K X.mg X.base k C "__contains__" sp []) (hr : Room j X.A) (hk : k ≤ j) : OpR X (compareOp .In) (rOwnIn C false sp C8.E0) := by
  obtain ⟨f,
          fd, ps, ds, hc, hm, F, b, d⟩ := c.ex
  cases d
  exact op_own_in hm F (hr.mono hk) b C8.pass0
theorem op_onin {j : Nat} {dvs : List V} (c : C8.Met X.prog X.w X.K X.mg X.base k C "__contains__" sp []) (hr : Room j X.A) (hk : k ≤ j) : OpR X (compareOp .NotIn) (rOwnIn C true sp C8.E0) := by
  obtain ⟨f,
          fd, ps, ds, hc, hm, F, b, d⟩ := c.ex
  cases d
  exact op_own_notin hm F (hr.mono hk) b C8.pass0
end
section
variable {K : PySem.W.Frag} {σ : L2.St} {H : Hp} {Q : VK} {C : Addr} {sp : Sp} {E : XK} {ta : TE} {t : TA} {m : Str}
theorem w_smeth (h : ta σ H fun x H1 => x = .ref C ∧ t σ H1 fun vs H2 => sp vs H2 Q E) : tSMeth C sp E ta t σ H Q := h
theorem w_ownIn {neg : Bool} {a dx : Addr} {fs : List (Str × V)} {x : V} (e : H a = some (.ins C dx fs)) (h : sp [.ref a, x] H (fun v H' => ∃ b, v = .bl b ∧ Q (.bl (if neg then !b else b)) H') E) : rOwnIn C neg sp E x (.ref a) H Q := ⟨a, dx, fs, rfl, e, h⟩
end
/-! ### tuple(d), the keys of a dict -/
def rTupD : List V → Hp → VK → Prop := fun xs H Q => ∃ (a : Addr) (kvs : List (Key × V)), xs = [.ref a] ∧ Rd H a (.dK kvs) ∧ ∀ p, H p = none → Q (.ref p) (upd H p (.tup (kvs.map fun kv => kV kv.1)))
end LP
namespace LP
open PySem L2
open Evl (Ex)
section
variable {K : PySem.W.Frag} {a : Addr} {xs : List V} {g : TG} {tb : TS} {D : Ends} {σ : L2.St} {H H1 : Hp}
def kList (K : PySem.W.Frag) (x : V) (H1 : Hp) (R : It → Hp → Prop) : Prop := ∃ a, x = .ref a ∧ (∃ xs, SqL K H1 a xs) ∧ R (Itl K a) H1
def kTup (K : PySem.W.Frag) (x : V) (H1 : Hp) (R : It → Hp → Prop) : Prop := ∃ a, x = .ref a ∧ (∃ xs, SqT K H1 a xs) ∧ R (Itt K a) H1
def kRng1 (vs : List V) (H1 : Hp) (R : It → Hp → Prop) : Prop := ∃ j : Int, vs = [.int j] ∧ -(2 ^ 62) ≤ j ∧ j < 2 ^ 62 ∧ R (Itr 0 j.toNat) H1
def kStr (v : V) (H1 : Hp) (R : It → Hp → Prop) : Prop := ∃ x, v = .str x ∧ R (Its x) H1
def kRev (K : PySem.W.Frag) (vs : List V) (H1 : Hp) (R : It → Hp → Prop) : Prop := ∃ (a : Addr) (xs : List V), vs = [.ref a] ∧ SqL K H1 a xs ∧ R (Itv K a xs.length) H1
theorem w_iList {tl : TE} {R : It → Hp → Prop} (h : tl σ H fun x H1 => kList K x H1 R) : iList K tl σ H R := h
theorem w_kList {R : It → Hp → Prop} (h : SqL K H a xs) (q : R (Itl K a) H) : kList K (.ref a) H R := ⟨a, rfl, ⟨xs, h⟩, q⟩
theorem w_iTup {tl : TE} {R : It → Hp → Prop} (h : tl σ H fun x H1 => kTup K x H1 R) : iTup K tl σ H R := h
theorem w_kTup {R : It → Hp → Prop} (h : SqT K H a xs) (q : R (Itt K a) H) : kTup K (.ref a) H R := ⟨a, rfl, ⟨xs, h⟩, q⟩
theorem w_iRng1 {ta : TA} {R : It → Hp → Prop} (h : ta σ H fun vs H1 => kRng1 vs H1 R) : iRng1 ta σ H R := h
theorem w_kRng1 {j : Int} {R : It → Hp → Prop} (h1 : -(2 ^ 62) ≤ j) (h2 : j < 2 ^ 62) (q : R (Itr 0 j.toNat) H) : kRng1 [V.int j] H R := ⟨j, rfl, h1, h2, q⟩
theorem w_iStr {te : TE} {R : It → Hp → Prop} (h : te σ H fun v H1 => kStr v H1 R) : iStr te σ H R := h
theorem w_kStr {z : Str} {R : It → Hp → Prop} (h : R (Its z) H) : kStr (.str z) H R := ⟨z, rfl, h⟩
theorem w_iRev {ta : TA} {R : It → Hp → Prop} (h : ta σ H fun vs H1 => kRev K vs H1 R) : iRev K ta σ H R := h
theorem w_kRev {R : It → Hp → Prop} (h : SqL K H a xs) (q : R (Itv K a xs.length) H) : kRev K [V.ref a] H R := ⟨a, xs, rfl, h, q⟩
theorem w_lc {wi : TI} {tt : TT} {te : TE} {vs : List Nat} {Q : VK} (h : wi σ H fun J H1 => ∀ D, H1 D = none → ∃ W : Nat → Nat → Hp → Prop, (∃ m, W 0 m (upd H1 D (.lst []))) ∧ ∀ i m H, W i m H →
  (J.stop i H ∧ Q (.ref D) H) ∨ (J.go i H ∧ ∃ Go : Hp → Prop, (∀ H', Go H' → ∃ m', m' < m ∧ W (i + 1) m' H') ∧ ∀ x H', J.yld i H x H' → g x (wipe σ vs) H' fun σ2 H2 => wipe σ2 vs = wipe σ vs ∧ tt σ2 H2 fun b H3 =>
    if b = true then te σ2 H3 fun y H4 => ∃ got, H4 D = some (.lst got) ∧ got.length < sizeLine ∧ Go (upd H4 D (.lst (got ++ [y]))) else Go H3)) : tLc wi g tt te vs σ H Q := h
theorem w_yes {q : Bool → Hp → Prop} (h : q true H) : tYes σ H q := h
theorem w_gTup {n : Nat} {t : TGs} {k : L2.St → Hp → Prop} (h : SqT K H a xs) (hn : xs.length = n) (q : t xs σ H k) : gTup K n t (.ref a) σ H k := ⟨a, xs, rfl, h, hn, q⟩
theorem w_gCons {t : TG} {u : TGs} {v : V} {r : List V} {k : L2.St → Hp → Prop} (h : t v σ H fun σ' H' => u r σ' H' k) : gCons t u (v :: r) σ H k := ⟨v, r, rfl, h⟩
theorem w_gNil {k : L2.St → Hp → Prop} (h : k σ H) : gNil [] σ H k := ⟨rfl, h⟩
theorem w_par {i j : Nat} {ta : TA} (h : ta σ H fun vs H1 => ∃ v w, vs = [v, w] ∧ D.nx ((σ.set i (some v)).set j (some w)) H1) : tPar i j ta D σ H := h
theorem w_kPar {v w : V} {q : V → V → Prop} (h : q v w) : ∃ v' w', [v, w] = [v', w'] ∧ q v' w' := ⟨v, w, rfl, h⟩

/-- a for over a list: what is done, what is left -/
theorem loopL (Pv : List V → List V → L2.St → Hp → Prop) (h0 : Pv [] xs σ H) (hl : ∀ d r σ H, d ++ r = xs → Pv d r σ H → SqL K H a xs)
    (hs : ∀ d y r σ H, d ++ y :: r = xs → Pv d (y :: r) σ H → g y σ H fun σ2 H2 => tb { D with nx := Pv (d ++ [y]) r, ct := Pv (d ++ [y]) r, bk := D.nx } σ2 H2) (hd : ∀ σ H, Pv xs [] σ H → D.nx σ H) :
    ∃ W : Nat →
            Nat → L2.St → Hp → Prop, (∃ m, W 0 m σ H) ∧ ∀ i m σ H, W i m σ H →
      ((Itl K a).stop i H ∧ D.nx σ H) ∨ ((Itl K a).go i H ∧ ∃ N : L2.St → Hp → Prop, (∀ σ' H', N σ' H' → ∃ m', m' < m ∧ W (i + 1) m' σ' H') ∧ ∀ x H', (Itl K a).yld i H x H' → g x σ H' fun σ2 H2 => tb { D with nx := N, ct := N, bk := D.nx } σ2 H2) := by
  refine for_list (xs := xs) (fun i σ H => Pv (xs.take i) (xs.drop i) σ H) (by simpa using h0) (fun i σ H _ h => hl _ _ σ H (List.take_append_drop i xs) h) (fun i x σ H hx h => ?_) (fun σ H h => hd σ H (by simpa using h))
  have hlt : i < xs.length := (List.getElem?_eq_some_iff.mp hx).1
  have e1 : xs.drop i = x :: xs.drop (i + 1) := by
    rw [List.drop_eq_getElem_cons hlt, (List.getElem?_eq_some_iff.mp hx).2]
  have e2 : xs.take (i + 1) = xs.take i ++ [x] := by
    rw [List.take_succ, hx]
    rfl
  have z := hs (xs.take i) x (xs.drop (i + 1)) σ H (by rw [← e1]; exact List.take_append_drop i xs) (by rw [← e1]; exact h)
  rw [← e2] at z
  exact z
/-- a for over range(n) -/
theorem loopR {n : Nat} (Pv : Nat → L2.St → Hp → Prop) (h0 : Pv 0 σ H)
    (hs : ∀ i σ H, i < n → Pv i σ H → g (.int (i : Int)) σ H fun σ2 H2 => tb { D with nx := Pv (i + 1), ct := Pv (i + 1), bk := D.nx } σ2 H2) (hd : ∀ σ H, Pv n σ H → D.nx σ H) :
    ∃ W : Nat →
            Nat → L2.St → Hp → Prop, (∃ m, W 0 m σ H) ∧ ∀ i m σ H, W i m σ H →
      ((Itr 0 n).stop i H ∧ D.nx σ H) ∨ ((Itr 0 n).go i H ∧ ∃ N : L2.St → Hp → Prop, (∀ σ' H', N σ' H' → ∃ m', m' < m ∧ W (i + 1) m' σ' H') ∧ ∀ x H', (Itr 0 n).yld i H x H' → g x σ H' fun σ2 H2 => tb { D with nx := N, ct := N, bk := D.nx } σ2 H2) :=
  for_range Pv h0 (fun i σ H hi h => by rw [Int.zero_add]; exact hs i σ H hi h) hd
/-- a for over the signs of a text -/
theorem loopS {z : Str} (Pv : List Nat → List Nat → L2.St → Hp → Prop) (h0 : Pv [] z.cps.toList σ H)
    (hs : ∀ d c r σ H, d ++ c :: r = z.cps.toList → Pv d (c :: r) σ H → g (.str ⟨#[c]⟩) σ H fun σ2 H2 => tb { D with nx := Pv (d ++ [c]) r, ct := Pv (d ++ [c]) r, bk := D.nx } σ2 H2) (hd : ∀ σ H, Pv z.cps.toList [] σ H → D.nx σ H) :
    ∃ W : Nat →
            Nat → L2.St → Hp → Prop, (∃ m, W 0 m σ H) ∧ ∀ i m σ H, W i m σ H →
      ((Its z).stop i H ∧ D.nx σ H) ∨ ((Its z).go i H ∧ ∃ N : L2.St → Hp → Prop, (∀ σ' H', N σ' H' → ∃ m', m' < m ∧ W (i + 1) m' σ' H') ∧ ∀ x H', (Its z).yld i H x H' → g x σ H' fun σ2 H2 => tb { D with nx := N, ct := N, bk := D.nx } σ2 H2) := by
  have hz : z.cps.size = z.cps.toList.length := by simp
  refine ⟨fun i m σ H => m = z.cps.size - i ∧ i ≤ z.cps.size ∧ Pv (z.cps.toList.take i) (z.cps.toList.drop i) σ H, ⟨z.cps.size, by simp, Nat.zero_le _, by simpa using h0⟩, ?_⟩
  rintro i m σ H ⟨rfl, hi, p⟩
  by_cases hlt : i < z.cps.size
  · refine .inr ⟨hlt, fun σ H => Pv (z.cps.toList.take (i + 1)) (z.cps.toList.drop (i + 1)) σ H, fun σ' H' p' => ⟨z.cps.size - (i + 1), by omega, rfl, hlt, p'⟩, fun x H' y => ?_⟩
    obtain ⟨e, c, hc, rfl⟩ := y
    subst e
    have hx : z.cps.toList[i]? = some c := by rw [Array.getElem?_toList]; exact hc
    have hl : i < z.cps.toList.length := hz ▸ hlt
    have e1 : z.cps.toList.drop i = c :: z.cps.toList.drop (i + 1) := by
      rw [List.drop_eq_getElem_cons hl, (List.getElem?_eq_some_iff.mp hx).2]
    have e2 : z.cps.toList.take (i + 1) = z.cps.toList.take i ++ [c] := by
      rw [List.take_succ, hx]
      rfl
    have q := hs (z.cps.toList.take i) c (z.cps.toList.drop (i + 1)) σ H' (by rw [← e1]; exact List.take_append_drop i _) (by rw [← e1]; exact p)
    rw [← e2] at q
    exact q
  · refine .inl ⟨by show z.cps.size ≤ i; omega, hd σ H ?_⟩
    have : i = z.cps.toList.length := by omega
    rw [this, List.take_length, List.drop_length] at p
    exact p
/-- a for over reversed(list): the last item first -/
theorem loopV (Pv : List V → List V → L2.St → Hp → Prop) (h0 : Pv xs [] σ H) (hl : ∀ d r σ H, d ++ r = xs → Pv d r σ H → SqL K H a xs)
    (hs : ∀ d y r σ H, d ++ y :: r = xs → Pv (d ++ [y]) r σ H → g y σ H fun σ2 H2 => tb { D with nx := Pv d (y :: r), ct := Pv d (y :: r), bk := D.nx } σ2 H2) (hd : ∀ σ H, Pv [] xs σ H → D.nx σ H) :
    ∃ W : Nat →
            Nat → L2.St → Hp → Prop, (∃ m, W 0 m σ H) ∧ ∀ i m σ H, W i m σ H →
      ((Itv K a xs.length).stop i H ∧ D.nx σ H) ∨ ((Itv K a xs.length).go i H ∧ ∃ N : L2.St → Hp → Prop, (∀ σ' H', N σ' H' → ∃ m', m' < m ∧ W (i + 1) m' σ' H') ∧ ∀ x H', (Itv K a xs.length).yld i H x H' → g x σ H' fun σ2 H2 => tb { D with nx := N, ct := N, bk := D.nx } σ2 H2) := by
  refine ⟨fun i m σ H => m = xs.length - i ∧ i ≤ xs.length ∧ Pv (xs.take (xs.length - i)) (xs.drop (xs.length - i)) σ H, ⟨xs.length, by simp, Nat.zero_le _, by simpa using h0⟩, ?_⟩
  rintro i m σ H ⟨rfl, hi, p⟩
  by_cases hlt : i < xs.length
  · have hj : xs.length - 1 - i <
          xs.length := by omega
    have q := hl _ _ σ H (List.take_append_drop _ xs) p
    have hx : xs[xs.length - 1 - i]? = some xs[xs.length - 1 - i] := by simp [hj]
    refine .inr ⟨⟨hlt, xs, xs[xs.length - 1 - i], q, hx⟩, fun σ H => Pv (xs.take (xs.length - (i + 1))) (xs.drop (xs.length - (i + 1))) σ H, fun σ' H' p' => ⟨xs.length - (i + 1), by omega, rfl, hlt, p'⟩, fun x H' y => ?_⟩
    obtain ⟨e, y⟩ := y
    subst e
    have hxx := y xs q
    have ex : x = xs[xs.length - 1 - i] := by
      rw [hx] at hxx
      exact (Option.some.inj hxx).symm
    have n1 : xs.length - i = (xs.length - 1 - i) + 1 := by omega
    have n2 : xs.length - (i + 1) = xs.length - 1 - i := by omega
    have e1 : xs.drop (xs.length - 1 - i) = x :: xs.drop (xs.length - i) := by
      rw [List.drop_eq_getElem_cons hj, ex, n1]
    have e2 : xs.take (xs.length - i) = xs.take (xs.length - 1 - i) ++ [x] := by
      rw [n1, List.take_succ, hx, ex]
      rfl
    have z := hs (xs.take (xs.length - 1 - i)) x (xs.drop (xs.length - i)) σ H' (by rw [← e1]; exact List.take_append_drop _ xs) (by rw [← e2]; exact p)
    rw [← e1, ← n2] at z
    exact z
  · refine .inl ⟨by show xs.length ≤ i; omega, hd σ H ?_⟩
    have : xs.length - i = 0 := by omega
    rw [this] at p
    simpa using p
end
section
variable {K : PySem.W.Frag} {a : Addr} {xs : List V} {g : TG} {tt : TT} {te : TE} {vs : List Nat} {σ : L2.St} {H1 : Hp} {D : Addr} {Qd : Hp → Prop}
/-- a comprehension over a list, whatever its turns do -/
theorem compL (Pv : List V → List V → List V → Hp → Prop) (hlen : xs.length ≤ 90000) (h0 : Pv [] xs [] (upd H1 D (.lst []))) (hl : ∀ d r got H, d ++ r = xs → Pv d r got H → SqL K H a xs)
    (hs : ∀ d y r got H, d ++ y :: r = xs → H D = some (.lst got) → got.length ≤ d.length → Pv d (y :: r) got H → ∀ (k : V → Hp → Prop) (kn : Hp → Prop),
      (∀ y' H4, H4 D = some (.lst got) → Pv (d ++ [y]) r (got ++ [y']) (upd H4 D (.lst (got ++ [y']))) → k y' H4) → (∀ H3, H3 D = some (.lst got) → Pv (d ++ [y]) r got H3 → kn H3) →
      g y (wipe σ vs) H fun σ2 H2 => wipe σ2 vs = wipe σ vs ∧ tt σ2 H2 fun b H3 => if b = true then te σ2 H3 k else kn H3)
    (hd : ∀ got H, H D = some (.lst got) → got.length ≤ xs.length → Pv xs [] got H → Qd H) :
    ∃ W : Nat →
            Nat → Hp → Prop, (∃ m, W 0 m (upd H1 D (.lst []))) ∧ ∀ i m H, W i m H →
      ((Itl K a).stop i H ∧ Qd H) ∨ ((Itl K a).go i H ∧ ∃ Go : Hp → Prop, (∀ H', Go H' → ∃ m', m' < m ∧ W (i + 1) m' H') ∧ ∀ x H', (Itl K a).yld i H x H' → g x (wipe σ vs) H' fun σ2 H2 => wipe σ2 vs = wipe σ vs ∧ tt σ2 H2 fun b H3 =>
        if b = true then te σ2 H3 fun y H4 => ∃ got, H4 D = some (.lst got) ∧ got.length < sizeLine ∧ Go (upd H4 D (.lst (got ++ [y]))) else Go H3) := by
  have sz : ∀ n : Nat, n ≤ 90000 → n < sizeLine := fun n h => Nat.lt_of_le_of_lt h (by decide)
  refine lc_list (xs := xs) (fun i H => ∃ got, H D = some (.lst got) ∧ got.length ≤ i ∧ Pv (xs.take i) (xs.drop i) got H) ⟨[], upd_same, Nat.le_refl _, by simpa using h0⟩ (fun i H _ ⟨got, _, _, h⟩ => hl _ _ got H (List.take_append_drop i xs) h) (fun i x H hx ⟨got, ha, hacc, h⟩ => ?_) (fun H ⟨got, ha, hacc, h⟩ => hd got H ha hacc (by simpa using h))
  have hlt : i < xs.length := (List.getElem?_eq_some_iff.mp hx).1
  have e1 : xs.drop i = x :: xs.drop (i + 1) := by
    rw [List.drop_eq_getElem_cons hlt, (List.getElem?_eq_some_iff.mp hx).2]
  have e2 : xs.take (i + 1) = xs.take i ++ [x] := by
    rw [List.take_succ, hx]
    rfl
  refine hs (xs.take i) x (xs.drop (i + 1)) got H (by rw [← e1]; exact List.take_append_drop i xs) ha (by rw [List.length_take]; omega) (by rw [← e1]; exact h) _ _ (fun y' H4 h4 p => ?_) (fun H3 h3 p => ?_)
  · exact ⟨got, h4, sz _ (by omega), got ++ [y'], upd_same, by rw [List.length_append]; simp; omega, by rw [e2]; exact p⟩
  · exact ⟨got, h3, by omega, by rw [e2]; exact p⟩
theorem compR {n : Nat} (Pv : Nat → List V → Hp → Prop) (hlen : n ≤ 90000) (h0 : Pv 0 [] (upd H1 D (.lst [])))
    (hs : ∀ i got H, i < n → H D = some (.lst got) → got.length ≤ i → Pv i got H → ∀ (k : V → Hp → Prop) (kn : Hp → Prop),
      (∀ y' H4, H4 D = some (.lst got) → Pv (i + 1) (got ++ [y']) (upd H4 D (.lst (got ++ [y']))) → k y' H4) → (∀ H3, H3 D = some (.lst got) → Pv (i + 1) got H3 → kn H3) →
      g (.int (i : Int)) (wipe σ vs) H fun σ2 H2 => wipe σ2 vs = wipe σ vs ∧ tt σ2 H2 fun b H3 => if b = true then te σ2 H3 k else kn H3)
    (hd : ∀ got H, H D = some (.lst got) → got.length ≤ n → Pv n got H → Qd H) :
    ∃ W : Nat →
            Nat → Hp → Prop, (∃ m, W 0 m (upd H1 D (.lst []))) ∧ ∀ i m H, W i m H →
      ((Itr 0 n).stop i H ∧ Qd H) ∨ ((Itr 0 n).go i H ∧ ∃ Go : Hp → Prop, (∀ H', Go H' → ∃ m', m' < m ∧ W (i + 1) m' H') ∧ ∀ x H', (Itr 0 n).yld i H x H' → g x (wipe σ vs) H' fun σ2 H2 => wipe σ2 vs = wipe σ vs ∧ tt σ2 H2 fun b H3 =>
        if b = true then te σ2 H3 fun y H4 => ∃ got, H4 D = some (.lst got) ∧ got.length < sizeLine ∧ Go (upd H4 D (.lst (got ++ [y]))) else Go H3) := by
  have sz : ∀ n : Nat, n ≤ 90000 → n < sizeLine := fun n h => Nat.lt_of_le_of_lt h (by decide)
  refine lc_range (fun i H => ∃ got, H D = some (.lst got) ∧ got.length ≤ i ∧ Pv i got H) ⟨[], upd_same, Nat.le_refl _, h0⟩ (fun i H hi ⟨got, ha, hacc, h⟩ => ?_) (fun H ⟨got, ha, hacc, h⟩ => hd got H ha hacc h)
  rw [Int.zero_add]
  refine hs i got H hi ha hacc h _ _ (fun y' H4 h4 p => ?_) (fun H3 h3 p => ?_)
  · exact ⟨got, h4, sz _ (by omega), got ++ [y'], upd_same, by rw [List.length_append]; simp; omega, p⟩
  · exact ⟨got, h3, by omega, p⟩
/-- a comprehension whose turns make new things alone: each item has a value, or is left out -/
theorem compP (val : V → Option V) (hD : H1 D = none) (hx : SqL K H1 a xs) (hlen : xs.length ≤ 90000)
    (hs : ∀ y, y ∈ xs → ∀ H, Ex H1 H → ∀ (k : V → Hp → Prop) (kn : Hp → Prop), (∀ y' H4, Ex H H4 → val y = some y' → k y' H4) → (∀ H3, Ex H H3 → val y = none → kn H3) →
      g y (wipe σ vs) H fun σ2 H2 => wipe σ2 vs = wipe σ vs ∧ tt σ2 H2 fun b H3 => if b = true then te σ2 H3 k else kn H3)
    (hd : ∀ H, Ex H1 H → H D = some (.lst (xs.filterMap val)) → Qd H) :
    ∃ W : Nat →
            Nat → Hp → Prop, (∃ m, W 0 m (upd H1 D (.lst []))) ∧ ∀ i m H, W i m H →
      ((Itl K a).stop i H ∧ Qd H) ∨ ((Itl K a).go i H ∧ ∃ Go : Hp → Prop, (∀ H', Go H' → ∃ m', m' < m ∧ W (i + 1) m' H') ∧ ∀ x H', (Itl K a).yld i H x H' → g x (wipe σ vs) H' fun σ2 H2 => wipe σ2 vs = wipe σ vs ∧ tt σ2 H2 fun b H3 =>
        if b = true then te σ2 H3 fun y H4 => ∃ got, H4 D = some (.lst got) ∧ got.length < sizeLine ∧ Go (upd H4 D (.lst (got ++ [y]))) else Go H3) := by
  refine compL (xs := xs) (fun d _ got H => Ex H1 H ∧ got = d.filterMap val) hlen ⟨Ex.new hD, rfl⟩ (fun _ _ _ H _ h => Evl.ex_l h.1 hx) (fun d y r got H hd ha _ h k kn hk hn => ?_) (fun got H ha _ h => hd H h.1 (h.2 ▸ ha))
  obtain ⟨e, rfl⟩ := h
  refine hs y (by rw [← hd]; simp) H e k kn (fun y' H4 e4 hv => ?_) (fun H3 e3 hv => ?_)
  · exact hk y' H4 (e4 _ _ ha) ⟨(e.trans e4).mut hD, by rw [List.filterMap_append, List.filterMap_cons_some hv, List.filterMap_nil]⟩
  · exact hn H3 (e3 _ _ ha) ⟨e.trans e3, by rw [List.filterMap_append, List.filterMap_cons_none hv, List.filterMap_nil, List.append_nil]⟩
end
end LP
namespace LP
open PySem L2
def top (i : Nat) : Stmt := PySem.Challenge.pw_listandpage_k05_schema_lines_refused.main.body.getD i (.Pass ⟨0, 0, 0, 0⟩)
abbrev s__wall : Stmt := top 0
abbrev s_is_letters : Stmt := top 3
abbrev s_is_word : Stmt := top 4
abbrev s_is_link : Stmt := top 6
abbrev s_has_list : Stmt := top 7
abbrev s_may_lack : Stmt := top 8
abbrev s_ListandpageError : Stmt := top 10
abbrev s_BadSchema : Stmt := top 11
abbrev s_BadSchema___init__ : Stmt := inClass (top 11) 0
abbrev s_BadLine : Stmt := top 12
abbrev s_BadLine___init__ : Stmt := inClass (top 12) 0
abbrev s_NoName : Stmt := top 13
abbrev s_NoName___init__ : Stmt := inClass (top 13) 0
abbrev s_write_lines : Stmt := top 15
abbrev s__write_column : Stmt := top 16
abbrev s_read_lines : Stmt := top 17
abbrev s__is_head : Stmt := top 18
abbrev s__read_column : Stmt := top 19
abbrev s__read_link : Stmt := top 20
abbrev s_Schema : Stmt := top 26
abbrev s_Schema___init__ : Stmt := inClass (top 26) 0
abbrev s_Schema__take_columns : Stmt := inClass (top 26) 1
abbrev s_Schema__is_column : Stmt := inClass (top 26) 2
abbrev s_Schema__is_list : Stmt := inClass (top 26) 3
abbrev s_Schema_columns : Stmt := inClass (top 26) 4
abbrev s_Schema_lists : Stmt := inClass (top 26) 5
abbrev s_Schema_filled : Stmt := inClass (top 26) 6
abbrev s_Schema_read : Stmt := inClass (top 26) 7
abbrev s_Schema_is_name : Stmt := inClass (top 26) 8
abbrev s_Schema___len__ : Stmt := inClass (top 26) 9
abbrev s_Schema___contains__ : Stmt := inClass (top 26) 10
abbrev s_Schema___eq__ : Stmt := inClass (top 26) 11
abbrev s_Schema___str__ : Stmt := inClass (top 26) 12
abbrev s__meets : Stmt := top 27
abbrev s__law_start : Stmt := top 29
abbrev s__law_take : Stmt := top 30
abbrev s__law_of : Stmt := top 31
abbrev s__law_reserved : Stmt := top 32
abbrev s__law_draw_letters : Stmt := top 33
abbrev s__law_new_name : Stmt := top 34
abbrev s__law_all_links : Stmt := top 35
abbrev s__law_reach : Stmt := top 36
abbrev s__law_is_listed : Stmt := top 37
abbrev s__law_is_heavy : Stmt := top 38
abbrev s__law_names_taken : Stmt := top 39
abbrev s__law_allowed : Stmt := top 40
abbrev s__law_draw_columns : Stmt := top 41
abbrev s__law_draw_tables : Stmt := top 42
abbrev s__law_written : Stmt := top 43
abbrev s__law_is_letters : Stmt := top 44
abbrev s__law_read : Stmt := top 45
abbrev s__law_what_is_due : Stmt := top 46
abbrev s__law_what_comes : Stmt := top 47
abbrev s__law_spoilt_line : Stmt := top 48
abbrev s__law_spoilt : Stmt := top 49
abbrev s__law_is_right : Stmt := top 50
abbrev s_law : Stmt := top 51
end LP
namespace LP
open PySem L2
open Evl (Ex)
abbrev S (cs : List Nat) : Str := ⟨cs.toArray⟩
theorem S_tl (x : Str) : S x.cps.toList = x := by cases x; rfl
theorem S_inj {a b : List Nat} (e : S a = S b) : a = b := congrArg (fun z : Str => z.cps.toList) e
theorem str_ext {x y : Str} (h : x.cps.toList = y.cps.toList) : x = y := by rw [← S_tl x, ← S_tl y, h]
theorem len_tl (x : Str) : x.length = x.cps.toList.length := by simp [Str.length]
/-! ### names -/
def reservedL : List Str := ["all", "and", "any", "as", "else", "false", "for", "if", "in", "is", "lacks", "no", "not", "or", "return", "some", "super", "thing", "true", "user"]
def Low (w : Str) : Prop := ∀ c ∈ w.cps.toList, 97 ≤ c ∧ c ≤ 122
def IsWord (w : Str) : Prop := 1 ≤ w.length ∧ w.length ≤ 8 ∧ Low w
def IsName (w : Str) : Prop := IsWord w ∧ w ∉ reservedL
def vOpt : Option Str → V
  | none => .non
  | some x => .str x
def lettersS : Str := "abcdefghijklmnopqrstuvwxyz"
theorem letters_tl : lettersS.cps.toList = (List.range 26).map (· + 97) := by decide +kernel
theorem inV_str (w : Str) (xs : List Str) : inV (.str w) (xs.map V.str) = decide (w ∈ xs) := by
  unfold inV
  rw [List.any_map]
  by_cases h : w ∈ xs
  · rw [decide_eq_true h, List.any_eq_true]
    exact ⟨w, h, by simp [eqV]⟩
  · rw [decide_eq_false h, List.any_eq_false]
    intro x hx
    simp only [Function.comp, eqV, beq_iff_eq]
    intro e
    exact h (e ▸ hx)
theorem flat_strs (xs : List Str) : (xs.map V.str).all flatV = true := by
  rw [List.all_map, List.all_eq_true]
  intro x _
  rfl
theorem joinL_chars : ∀ cs : List Nat, TL.joinL [] (cs.map fun c => [c]) = cs
  | [] => rfl
  | [_] => rfl
  | c :: c' :: r => by
    show [c] ++ ([] ++ TL.joinL [] ((c' :: r).map fun c => [c])) = c :: c' :: r
    rw [joinL_chars (c' :: r)]
    rfl
theorem join_chars (cs : List Nat) : Txt.join "" (cs.map fun c => S [c]) = S cs := by
  have h := SX.join_S [] (cs.map fun c => [c])
  rw [List.map_map] at h
  rw [show ("" : Str) = SX.S [] by decide +kernel]
  refine Eq.trans h ?_
  rw [joinL_chars]
/-! ### the promises of the helpers that draw -/
def spOf (K : PySem.W.Frag) : Sp := fun vs H Q _ => ∃ (b p : Addr) (xs : List V) (n : Nat), vs = [.ref b, .ref p] ∧ BagAt H b n ∧ n < 100000000 ∧ SqL K (del b H) p xs ∧ xs ≠ [] ∧ xs.length ≤ 90000 ∧
  ∀ (v : V) (H' : Hp), v ∈ xs → BagAt H' b (n + 1) → Ex (del b H) H' → Q v H'
def spReserved : Sp := fun vs H Q _ => vs = [] ∧ ∀ p, H p = none → Q (.ref p) (upd H p (.lst (reservedL.map V.str)))
def spLetters : Sp := fun vs H Q _ => ∃ (b : Addr) (most : Int) (n : Nat), vs = [.ref b, .int most] ∧ BagAt H b n ∧ n < 90000000 ∧ 1 ≤ most ∧ most ≤ 1000 ∧
  ∀ (w : Str) (H' : Hp), 1 ≤ w.length → (w.length : Int) ≤ most → Low w → BagAt H' b (n + 1 + most.toNat) → Ex (del b H) H' → Q (.str w) H'
def spNewName (K : PySem.W.Frag) : Sp := fun vs H Q _ => ∃ (b t : Addr) (xs : List (Option Str)) (n : Nat), vs = [.ref b, .ref t] ∧ BagAt H b n ∧ n < 90000000 ∧ SqL K (del b H) t (xs.map vOpt) ∧ xs.length ≤ 600 ∧
  ∀ (w : Str) (H' : Hp), IsName w → some w ∉ xs → BagAt H' b (n + 9) → Ex (del b H) H' → Q (.str w) H'
end LP
namespace LP
open PySem L2
open Evl (Ex)
section
variable {K : PySem.W.Frag} {H : Hp} {p : Addr} {Q : VK}
theorem w_notInStr {w : Str} {xs : List Str} (h : SqL K H p (xs.map V.str)) (q : Q (.bl (!decide (w ∈ xs))) H) : rIn K true (.str w) (.ref p) H Q := by
  refine w_inL h rfl (flat_strs xs) ?_
  rw [inV_str]
  exact q
theorem w_inStr {w : Str} {xs : List Str} (h : SqL K H p (xs.map V.str)) (q : Q (.bl (decide (w ∈ xs))) H) : rIn K false (.str w) (.ref p) H Q := by
  refine w_inL h rfl (flat_strs xs) ?_
  rw [inV_str]
  exact q
theorem inV_opt (w : Str) (xs : List (Option Str)) : inV (.str w) (xs.map vOpt) = decide (some w ∈ xs) := by
  unfold inV
  rw [List.any_map]
  by_cases h : some w ∈ xs
  · rw [decide_eq_true h, List.any_eq_true]
    exact ⟨some w, h, by simp [vOpt, eqV]⟩
  · rw [decide_eq_false h, List.any_eq_false]
    intro x hx
    cases x with
    | none => simp [vOpt, eqV]
    | some y =>
      simp only [Function.comp, vOpt, eqV, beq_iff_eq]
      intro e
      exact h (e ▸ hx)
theorem flat_opts (xs : List (Option Str)) : (xs.map vOpt).all flatV = true := by
  rw [List.all_map, List.all_eq_true]
  intro x _
  cases x <;> rfl
theorem w_notInOpt {w : Str} {xs : List (Option Str)} (h : SqL K H p (xs.map vOpt)) (q : Q (.bl (!decide (some w ∈ xs))) H) : rIn K true (.str w) (.ref p) H Q := by
  refine w_inL h rfl (flat_opts xs) ?_
  rw [inV_opt]
  exact q
end
theorem cut_to {w : Str} {i : Int} (h : 0 ≤ i) : cutS w none (some i) = S (w.cps.toList.take i.toNat) := by
  rw [C8.cutS_slice, ← SX.S_tl w]
  exact SX.slice_to h
theorem cut_from {w : Str} {i : Int} (h : 0 ≤ i) : cutS w (some i) none = S (w.cps.toList.drop i.toNat) := by
  rw [C8.cutS_slice, ← SX.S_tl w]
  exact SX.slice_from h
theorem S_cat (a b : List Nat) : S a ++ S b = S (a ++ b) := SX.S_cat a b
theorem S_len (a : List Nat) : (S a).length = a.length := by simp [Str.length]
/-- a list without repetition in a shorter one: no -/
theorem pigeon {α : Type} [BEq α] [LawfulBEq α] : ∀ {l m : List α}, l.Nodup → (∀ x ∈ l, x ∈ m) → l.length ≤ m.length
  | [], m, _, _ => Nat.zero_le m.length
  | x :: r, m, nd, h => by
    have hx : x ∈ m := h x List.mem_cons_self
    have nd' := List.nodup_cons.mp nd
    have := pigeon (l := r) (m := m.erase x) nd'.2 fun y hy => (List.mem_erase_of_ne (fun e : y = x => nd'.1 (e ▸ hy))).mpr (h y (List.mem_cons_of_mem _ hy))
    rw [List.length_erase_of_mem hx] at this
    have hm : 0 < m.length := List.length_pos_of_mem hx
    rw [List.length_cons]
    omega
end LP
namespace LP
open PySem L2
open Evl (Ex)
/-! ### columns and tables as the program holds them -/
inductive Col where
  /-- a flag or a number: its kind, its name -/
  | plain (flag : Bool) (name : Str)
  | word (name : Str) (opt : Bool)
  | link (name target : Str) (opt : Bool) (lst : Option Str)
  deriving DecidableEq
namespace Col
def name : Col → Str
  | plain _ n => n
  | word n _ => n
  | link n _ _ _ => n
def kind : Col → Str
  | plain true _ => "flag"
  | plain false _ => "number"
  | word .. => "word"
  | link .. => "link"
def isLink : Col → Bool
  | link .. => true
  | _ => false
def target : Col → Str
  | link _ t _ _ => t
  | _ => ""
def lst : Col → Option Str
  | link _ _ _ l => l
  | _ => none
def opt : Col → Bool
  | word _ o => o
  | link _ _ o _ => o
  | _ => false
end Col
def Col.vals : Col → List V
  | .plain f n => [.str (if f then "flag" else "number"), .str n]
  | .word n o => [.str "word", .str n, .bl o]
  | .link n t o l => [.str "link", .str n, .str t, .bl o, vOpt l]
abbrev Tabs := List (Str × List Col)
def ColAt (H : Hp) (v : V) (c : Col) : Prop := ∃ a, v = .ref a ∧ H a = some (.tup c.vals)
abbrev ColsV (H : Hp) (vs : List V) (cs : List Col) : Prop := Paired (ColAt H) vs cs
def ColsAt (H : Hp) (p : Addr) (cs : List Col) : Prop := ∃ vs, H p = some (.lst vs) ∧ ColsV H vs cs
def TabAt (H : Hp) (v : V) (t : Str × List Col) : Prop := ∃ a p, v = .ref a ∧ H a = some (.tup [.str t.1, .ref p]) ∧ ColsAt H p t.2
abbrev TabsV (H : Hp) (vs : List V) (ts : Tabs) : Prop := Paired (TabAt H) vs ts
def TabsAt (H : Hp) (p : Addr) (ts : Tabs) : Prop := ∃ vs, H p = some (.lst vs) ∧ TabsV H vs ts
theorem paired_imp {α β : Type} {R R' : α → β → Prop} (h : ∀ a b, R a b → R' a b) : ∀ {l : List α} {m : List β}, Paired R l m → Paired R' l m
  | _, _, .nil => .nil
  | _, _, .cons x r => .cons (h _ _ x) (paired_imp h r)
theorem ColAt.ext {H H' : Hp} {v : V} {c : Col} (e : Ex H H') (h : ColAt H v c) : ColAt H' v c := by
  obtain ⟨a, ev, ha⟩ := h
  exact ⟨a, ev, e _ _ ha⟩
theorem ColsV.ext {H H' : Hp} {vs : List V} {cs : List Col} (e : Ex H H') (h : ColsV H vs cs) : ColsV H' vs cs := paired_imp (fun _ _ => ColAt.ext e) h
theorem ColsAt.ext {H H' : Hp} {p : Addr} {cs : List Col} (e : Ex H H') (h : ColsAt H p cs) : ColsAt H' p cs := by
  obtain ⟨vs, hp, hv⟩ := h
  exact ⟨vs, e _ _ hp, hv.ext e⟩
theorem TabAt.ext {H H' : Hp} {v : V} {t : Str × List Col} (e : Ex H H') (h : TabAt H v t) : TabAt H' v t := by
  obtain ⟨a, p, ev, ha, hc⟩ := h
  exact ⟨a, p, ev, e _ _ ha, hc.ext e⟩
theorem TabsV.ext {H H' : Hp} {vs : List V} {ts : Tabs} (e : Ex H H') (h : TabsV H vs ts) : TabsV H' vs ts := paired_imp (fun _ _ => TabAt.ext e) h
theorem TabsAt.ext {H H' : Hp} {p : Addr} {ts : Tabs} (e : Ex H H') (h : TabsAt H p ts) : TabsAt H' p ts := by
  obtain ⟨vs, hp, hv⟩ := h
  exact ⟨vs, e _ _ hp, hv.ext e⟩
theorem ColAt.upd {H : Hp} {v : V} {c : Col} {q : Addr} {xs : List V} {o : HO} (hq : H q = some (.lst xs)) (h : ColAt H v c) : ColAt (upd H q o) v c := by
  obtain ⟨a, ev, ha⟩ := h
  exact ⟨a, ev, by rw [upd_ne (ne_of ha hq (by intro z; cases z))]; exact ha⟩
theorem ColsV.upd {H : Hp} {vs : List V} {cs : List Col} {q : Addr} {xs : List V} {o : HO} (hq : H q = some (.lst xs)) (h : ColsV H vs cs) : ColsV (upd H q o) vs cs := paired_imp (fun _ _ => ColAt.upd hq) h
theorem BagAt.tup_ne {H : Hp} {b a : Addr} {n : Nat} {xs : List V} (h : BagAt H b n) (ha : H a = some (.tup xs)) : a ≠ b := by
  obtain ⟨d, m, t, h1, _⟩ := h.ex
  exact ne_of ha h1 (by intro z; cases z)
theorem ColAt.del {H : Hp} {b : Addr} {n : Nat} {v : V} {c : Col} (hB : BagAt H b n) (h : ColAt H v c) : ColAt (del b H) v c := by
  obtain ⟨a, ev, ha⟩ := h
  exact ⟨a, ev, by rw [del_ne (hB.tup_ne ha)]; exact ha⟩
theorem ColsV.del {H : Hp} {b : Addr} {n : Nat} {vs : List V} {cs : List Col} (hB : BagAt H b n) (h : ColsV H vs cs) : ColsV (del b H) vs cs := paired_imp (fun _ _ => ColAt.del hB) h
theorem ColsV.refs {H : Hp} {vs : List V} {cs : List Col} (h : ColsV H vs cs) : ∀ i j k : Int, vs ≠ [.int i, .int j, .int k] := by
  intro i j k e
  subst e
  cases h with
  | cons h _ =>
    obtain ⟨a, e, _⟩ := h
    cases e
theorem ColsAt.del {H : Hp} {b q : Addr} {n : Nat} {cs : List Col} (hB : BagAt H b n) (h : ColsAt H q cs) : ColsAt (del b H) q cs := by
  obtain ⟨vs, hq, hv⟩ := h
  exact ⟨vs, by rw [del_ne (hB.ne hq hv.refs)]; exact hq, hv.del hB⟩
theorem paired_len {α β : Type} {R : α → β → Prop} : ∀ {l : List α} {m : List β}, Paired R l m → l.length = m.length
  | _, _, .nil => rfl
  | _, _, .cons _ r => by rw [List.length_cons, List.length_cons, paired_len r]
/-- an item of the first list has its partner -/
theorem paired_mem {α β : Type} {R : α → β → Prop} : ∀ {l : List α} {m : List β}, Paired R l m → ∀ x ∈ l, ∃ y ∈ m, R x y
  | _, _, .cons (a := a) (b := b) h r, x, hx => by
    rcases List.mem_cons.1 hx with rfl | hx
    · exact ⟨b, List.mem_cons_self, h⟩
    · obtain ⟨y, hy, q⟩ := paired_mem r x hx
      exact ⟨y, List.mem_cons_of_mem _ hy, q⟩
theorem paired_app {α β : Type} {R : α → β → Prop} : ∀ {l l' : List α} {m m' : List β}, Paired R l m → Paired R l' m' → Paired R (l ++ l') (m ++ m')
  | _, _, _, _, .nil, q => q
  | _, _, _, _, .cons h r, q => .cons h (paired_app r q)
/-- cut where the first list is cut -/
theorem paired_cut {α β : Type} {R : α → β → Prop} : ∀ {d r : List α} {m : List β}, Paired R (d ++ r) m → ∃ md mr, m = md ++ mr ∧ Paired R d md ∧ Paired R r mr
  | [], r, m, h => ⟨[], m, rfl, .nil, h⟩
  | x :: d, r, _, .cons h q => by
    obtain ⟨md, mr, rfl, h1, h2⟩ := paired_cut (d := d) q
    exact ⟨_ :: md, mr, rfl, .cons h h1, h2⟩
theorem paired_cons {α β : Type} {R : α → β → Prop} {x : α} {r : List α} {m : List β} (h : Paired R (x :: r) m) : ∃ y mr, m = y :: mr ∧ R x y ∧ Paired R r mr := by
  cases h with
  | cons h q => exact ⟨_, _, rfl, h, q⟩
/-- what is told of each item alone -/
theorem paired_filterMap {α β γ δ : Type} {R : α → β → Prop} {R' : γ → δ → Prop} {f : α → Option γ} {g : β → Option δ}
    (h : ∀ a b, R a b → (f a = none ∧ g b = none) ∨ ∃ x y, f a = some x ∧ g b = some y ∧ R' x y) : ∀ {l : List α} {m : List β}, Paired R l m → Paired R' (l.filterMap f) (m.filterMap g)
  | _, _, .nil => .nil
  | _, _, .cons (a := a) (b := b) q r => by
    have ih := paired_filterMap h r
    rcases h a b q with ⟨h1, h2⟩ | ⟨x, y, h1, h2, h3⟩
    · rw [List.filterMap_cons_none h1, List.filterMap_cons_none h2]
      exact ih
    · rw [List.filterMap_cons_some h1, List.filterMap_cons_some h2]
      exact .cons h3 ih
/-! ### the places of a column's values -/
theorem Col.at0 (c : Col) : atI c.vals 0 = some (.str c.kind) := by
  cases c with
  | plain f n => cases f <;> rfl
  | word n o => rfl
  | link n t o l => rfl
theorem Col.at1 (c : Col) : atI c.vals 1 = some (.str c.name) := by
  cases c with
  | plain f n => cases f <;> rfl
  | word n o => rfl
  | link n t o l => rfl
theorem Col.at2 {c : Col} (h : c.isLink = true) : atI c.vals 2 = some (.str c.target) := by
  cases c with
  | link n t o l => rfl
  | _ => cases h
theorem Col.at3 {c : Col} (h : c.isLink = true) : atI c.vals 3 = some (.bl c.opt) := by
  cases c with
  | link n t o l => rfl
  | _ => cases h
theorem Col.at4 {c : Col} (h : c.isLink = true) : atI c.vals 4 = some (vOpt c.lst) := by
  cases c with
  | link n t o l => rfl
  | _ => cases h
theorem Col.kind_link (c : Col) : decide (V.str c.kind = V.str "link") = c.isLink := by
  cases c with
  | plain f n =>
    cases f with
    | true => show decide (V.str "flag" = V.str "link") = false; decide +kernel
    | false => show decide (V.str "number" = V.str "link") = false; decide +kernel
  | word n o => show decide (V.str "word" = V.str "link") = false; decide +kernel
  | link n t o l => exact decide_eq_true rfl
/-- a link of the columns that has been told -/
theorem vOpt_non (o : Option Str) : (!decide (vOpt o = V.non)) = o.isSome := by
  cases o with
  | none => rfl
  | some x => rfl
end LP
namespace LP
open PySem L2
open Evl (Ex)
/-! ### values of any kind, and what isinstance says of them -/
def tyD : PyData → String
  | .none => "NoneType"
  | .bool _ => "bool"
  | .int _ => "int"
  | .str _ => "str"
  | .list _ => "list"
  | .tuple _ => "tuple"
  | .dict _ => "dict"
theorem dp_ty {K : PySem.W.Frag} {H : Hp} {v : V} {d : PyData} (h : Dp K H v d) : TyX K H v (.type (tyD d)) := by
  cases h with
  | non => exact .base .non
  | bl b => exact .base (.bl b)
  | int i => exact .base (.int i)
  | str x => exact .base (.str x)
  | lst hs _ =>
    rcases hs with (h | ⟨o, h⟩) | ⟨o, its, n, h1, h2, _⟩
    · exact .base (.lst h)
    · exact .base (.frz h)
    · exact .kList h1 h2
  | tup hs _ =>
    rcases hs with (h | ⟨o, h⟩) | ⟨o, its, n, h1, h2, _⟩
    · exact .base (.tup h)
    · exact .fTuple h
    · exact .kTuple h1 h2
mutual
theorem dp_ext {K : PySem.W.Frag} {H H' : Hp} (e : Ex H H') : ∀ {v : V} {d : PyData}, Dp K H v d → Dp K H' v d
  | _, _, .non => .non
  | _, _, .bl b => .bl b
  | _, _, .int i => .int i
  | _, _, .str x => .str x
  | _, _, .lst h r => .lst (Evl.ex_l e h) (dpAll_ext e r)
  | _, _, .tup h r => .tup (Evl.ex_t e h) (dpAll_ext e r)
theorem dpAll_ext {K : PySem.W.Frag} {H H' : Hp} (e : Ex H H') : ∀ {vs : List V} {ds : List PyData}, DpAll K H vs ds → DpAll K H' vs ds
  | _, _, .nil => .nil
  | _, _, .cons h r => .cons (dp_ext e h) (dpAll_ext e r)
end
def isStrD (d : PyData) : Bool := match d with
  | .str _ => true
  | _ => false
section
variable {K : PySem.W.Frag} {H : Hp} {Q : VK} {v : V}
theorem w_isi {c t : String} {r : Bool} (ty : TyX K H v (.type t)) (hk : kitB t c = some r) (q : Q (.bl r) H) : rIsi K [v, .ty c] H Q := ⟨v, .ty c, .type t, .type c, r, rfl, .ty c, ty, kit_ty hk, q⟩
theorem w_isStr {d : PyData} (h : Dp K H v d) (q : Q (.bl (isStrD d)) H) : rIsi K [v, .ty "str"] H Q := by
  refine w_isi (dp_ty h) ?_ q
  cases d with
  | none => show kitB "NoneType" "str" = some false; decide +kernel
  | bool b => show kitB "bool" "str" = some false; decide +kernel
  | int i => show kitB "int" "str" = some false; decide +kernel
  | str x => show kitB "str" "str" = some true; decide +kernel
  | list l => show kitB "list" "str" = some false; decide +kernel
  | tuple l => show kitB "tuple" "str" = some false; decide +kernel
  | dict l => show kitB "dict" "str" = some false; decide +kernel
end
/-! ### letters -/
theorem letter_facts : ∀ c, c < 128 → Unicode.isAlpha c = (decide (65 ≤ c ∧ c ≤ 90) || decide (97 ≤ c ∧ c ≤ 122)) ∧ Unicode.isLower c = decide (97 ≤ c ∧ c ≤ 122) ∧ (Unicode.isUpper c || Unicode.isTitle c) = decide (65 ≤ c ∧ c ≤ 90) := by decide +kernel
def lettersB (w : Str) : Bool := Txt.isascii w && (Txt.isalpha w && Txt.islower w)
theorem lettersB_iff (w : Str) : lettersB w = true ↔ 1 ≤ w.length ∧ Low w := by
  unfold lettersB Txt.isascii Txt.isalpha Txt.islower Low
  simp only [Bool.and_eq_true, ← Array.all_toList, ← Array.any_toList, List.all_eq_true, List.any_eq_true, decide_eq_true_eq, Bool.not_eq_true']
  constructor
  · rintro ⟨h1, ⟨h2, h3⟩, h4, h5⟩
    refine ⟨by omega, fun c hc => ?_⟩
    have f := letter_facts c (h1 c hc)
    have a := h3 c hc
    rw [f.1, Bool.or_eq_true, decide_eq_true_eq, decide_eq_true_eq] at a
    rcases a with a | a
    · have b := List.any_eq_false.mp h5 c hc
      rw [f.2.2] at b
      exact absurd (decide_eq_true a) b
    · exact a
  · rintro ⟨h1, h2⟩
    have lt : ∀ c ∈ w.cps.toList, c < 128 := fun c hc => by have := h2 c hc; omega
    refine ⟨lt, ⟨by omega, fun c hc => ?_⟩, ?_, List.any_eq_false.mpr fun c hc => ?_⟩
    · rw [(letter_facts c (lt c hc)).1, Bool.or_eq_true, decide_eq_true_eq, decide_eq_true_eq]
      exact .inr (h2 c hc)
    · rw [len_tl] at h1
      cases e : w.cps.toList with
      | nil => rw [e] at h1; exact absurd h1 (by decide)
      | cons c r =>
        have hc : c ∈ w.cps.toList := by rw [e]; exact List.mem_cons_self
        exact ⟨c, List.mem_cons_self, by rw [(letter_facts c (lt c hc)).2.1]; exact decide_eq_true (h2 c hc)⟩
    · rw [(letter_facts c (lt c hc)).2.2]
      have := h2 c hc
      simp only [decide_eq_true_eq]
      omega
def wordB (w : Str) : Bool := lettersB w && decide (w.length ≤ 8)
theorem wordB_iff (w : Str) : wordB w = true ↔ IsWord w := by
  unfold wordB IsWord
  rw [Bool.and_eq_true, lettersB_iff, decide_eq_true_eq]
  constructor
  · rintro ⟨⟨h1, h2⟩, h3⟩; exact ⟨h1, h3, h2⟩
  · rintro ⟨h1, h2, h3⟩; exact ⟨⟨h1, h3⟩, h2⟩
def nameB (w : Str) : Bool := wordB w && !decide (w ∈ reservedL)
theorem nameB_iff (w : Str) : nameB w = true ↔ IsName w := by
  unfold nameB IsName
  rw [Bool.and_eq_true, wordB_iff, Bool.not_eq_true', decide_eq_false_iff_not]
def strD (f : Str → Bool) : PyData → Bool
  | .str w => f w
  | _ => false
/-! ### dicts with text keys -/
section
variable {K : PySem.W.Frag} {σ : L2.St} {H : Hp} {Q : VK} {v : V} {ta tb tc : TE} {D : Ends} {a : Addr} {kvs : List (Key × V)} {k : Str}
theorem w_dget (h : ta σ H fun x H1 => tb σ H1 fun y H2 => ∃ a v, x = .ref a ∧ DGet H2 a y (some v) ∧ Q v H2) : tDGet ta tb σ H Q := h
theorem w_din (h : ta σ H fun y H1 => tb σ H1 fun x H2 => ∃ a o, x = .ref a ∧ DGet H2 a y o ∧ Q (.bl o.isSome) H2) : tDIn ta tb σ H Q := h
theorem w_kGet (h : H a = some (.dK kvs)) (e : valV kvs (Sum.inr k : Key) = some v) (q : Q v H) : ∃ a' v', V.ref a = .ref a' ∧ DGet H a' (.str k) (some v') ∧ Q v' H := ⟨a, v, rfl, e ▸ DGet.k (k := Sum.inr k) h, q⟩
theorem w_kIn (h : H a = some (.dK kvs)) (q : Q (.bl (valV kvs (Sum.inr k : Key)).isSome) H) : ∃ a' o, V.ref a = .ref a' ∧ DGet H a' (.str k) o ∧ Q (.bl o.isSome) H := ⟨a, _, rfl, DGet.k (k := Sum.inr k) h, q⟩
theorem w_dput (h : tc σ H fun v H1 => ta σ H1 fun x H2 => tb σ H2 fun y H3 => ∃ a H4, x = .ref a ∧ DPut H3 a y v H4 ∧ D.nx σ H4) : sDPut ta tb tc D σ H := h
theorem w_kPut {q : Hp → Prop} (h : H a = some (.dK kvs)) (l : kvs.length < sizeLine) (hq : q (upd H a (.dK (putK kvs (Sum.inr k : Key) v)))) : ∃ a' H4, V.ref a = .ref a' ∧ DPut H a' (.str k) v H4 ∧ q H4 := ⟨a, _, rfl, DPut.k (k := Sum.inr k) h l, hq⟩
end
end LP
namespace LP
open PySem L2
open Evl (Ex)
section
variable {K : PySem.W.Frag} {a : Addr} {xs : List V} {g : TG} {tt : TT} {te : TE} {vs : List Nat} {σ : L2.St} {H1 : Hp} {D : Addr} {Qd : Hp → Prop}
/-- a comprehension beside a list of data: each item has a value, or is left out; nothing but new things comes of a turn -/
theorem compQ {α δ : Type} (zs : List α) (R : V → α → Prop) (f : α → Option δ) (R' : V → δ → Prop) (hD : H1 D = none) (hx : SqL K H1 a xs) (hlen : xs.length ≤ 90000) (hz : Paired R xs zs)
    (hs : ∀ y z, R y z → z ∈ zs → ∀ H, Ex H1 H → ∀ (k : V → Hp → Prop) (kn : Hp → Prop), (∀ y' d H4, Ex H H4 → f z = some d → R' y' d → k y' H4) → (∀ H3, Ex H H3 → f z = none → kn H3) →
      g y (wipe σ vs) H fun σ2 H2 => wipe σ2 vs = wipe σ vs ∧ tt σ2 H2 fun b H3 => if b = true then te σ2 H3 k else kn H3)
    (hd : ∀ got H, Ex H1 H → H D = some (.lst got) → Paired R' got (zs.filterMap f) → Qd H) :
    ∃ W : Nat →
            Nat → Hp → Prop, (∃ m, W 0 m (upd H1 D (.lst []))) ∧ ∀ i m H, W i m H →
      ((Itl K a).stop i H ∧ Qd H) ∨ ((Itl K a).go i H ∧ ∃ Go : Hp → Prop, (∀ H', Go H' → ∃ m', m' < m ∧ W (i + 1) m' H') ∧ ∀ x H', (Itl K a).yld i H x H' → g x (wipe σ vs) H' fun σ2 H2 => wipe σ2 vs = wipe σ vs ∧ tt σ2 H2 fun b H3 =>
        if b = true then te σ2 H3 fun y H4 => ∃ got, H4 D = some (.lst got) ∧ got.length < sizeLine ∧ Go (upd H4 D (.lst (got ++ [y]))) else Go H3) := by
  refine compL (xs := xs) (fun d r got H => Ex H1 H ∧ ∃ md mr, zs = md ++ mr ∧ Paired R d md ∧ Paired R r mr ∧ Paired R' got (md.filterMap f)) hlen ⟨Ex.new hD, [], zs, rfl, .nil, hz, .nil⟩ (fun _ _ _ H _ h => Evl.ex_l h.1 hx) (fun d y r got H hd ha _ h k kn hk hn => ?_) (fun got H ha _ h => ?_)
  · obtain ⟨e, md, mr, ez, p1, p2, p3⟩ := h
    obtain ⟨z, mr, rfl, rz, p2⟩ := paired_cons p2
    have ez' : zs = (md ++ [z]) ++ mr := by rw [ez, List.append_assoc]; rfl
    refine hs y z rz (by rw [ez]; simp) H e k kn (fun y' d' H4 e4 hv hr => ?_) (fun H3 e3 hv => ?_)
    · refine hk y' H4 (e4 _ _ ha) ⟨(e.trans e4).mut hD, md ++ [z], mr, ez', paired_app p1 (.cons rz .nil), p2, ?_⟩
      rw [List.filterMap_append, List.filterMap_cons_some hv, List.filterMap_nil]
      exact paired_app p3 (.cons hr .nil)
    · refine hn H3 (e3 _ _ ha) ⟨e.trans e3, md ++ [z], mr, ez', paired_app p1 (.cons rz .nil), p2, ?_⟩
      rw [List.filterMap_append, List.filterMap_cons_none hv, List.filterMap_nil, List.append_nil]
      exact p3
  · obtain ⟨e, md, mr, ez, p1, p2, p3⟩ := h
    cases p2
    rw [List.append_nil] at ez
    subst ez
    exact hd got H e ha p3
/-- the values of a list of texts (or None) -/
theorem vals_strs {got : List V} {l : List Str} (h : Paired (fun v x => v = V.str x) got l) : got = l.map V.str := by
  induction h with
  | nil => rfl
  | cons h _ ih => rw [List.map_cons, h, ih]
theorem vals_opts {got : List V} {l : List (Option Str)} (h : Paired (fun v x => v = vOpt x) got l) : got = l.map vOpt := by
  induction h with
  | nil => rfl
  | cons h _ ih => rw [List.map_cons, h, ih]
theorem vals_bls {got : List V} {l : List Bool} (h : Paired (fun v x => v = V.bl x) got l) : got = l.map V.bl := by
  induction h with
  | nil => rfl
  | cons h _ ih => rw [List.map_cons, h, ih]
theorem filterMap_some {α β : Type} (f : α → β) (l : List α) : l.filterMap (fun x => some (f x)) = l.map f := by
  induction l with
  | nil => rfl
  | cons x r ih => exact congrArg (f x :: ·) ih
theorem filterMap_if {α : Type} (p : α → Bool) (l : List α) : l.filterMap (fun x => if p x = true then some x else none) = l.filter p := by
  induction l with
  | nil => rfl
  | cons x r ih =>
    cases h : p x with
    | true => rw [List.filterMap_cons_some (by rw [if_pos h]), ih, List.filter_cons_of_pos h]
    | false => rw [List.filterMap_cons_none (by rw [h]; rfl), ih, List.filter_cons_of_neg (by rw [h]; exact Bool.false_ne_true)]
theorem filterMap_ifm {α β : Type} (p : α → Bool) (f : α → β) (l : List α) : l.filterMap (fun x => if p x = true then some (f x) else none) = (l.filter p).map f := by
  induction l with
  | nil => rfl
  | cons x r ih =>
    cases h : p x with
    | true => rw [List.filterMap_cons_some (by rw [if_pos h]), ih, List.filter_cons_of_pos h, List.map_cons]
    | false => rw [List.filterMap_cons_none (by rw [h]; rfl), ih, List.filter_cons_of_neg (by rw [h]; exact Bool.false_ne_true)]
end
end LP
namespace LP
open PySem L2
open PySem.W (KdlSrc)
section
variable {prog : Program}
        {w : World} {A : Around} {E : Value → Shared → Prop} {s : Shared} {T : String} {r d : Addr} {n : Nat} {P : Nat → Value → Prop} {OK : Heap → Prop}
/-- what list(x) can take, a tuple can be made of -/
theorem collect_src {Q : List Value → Shared → Prop} (src : KdlSrc prog w T r d n P OK) (calm : A.handled = none) (ok : OK s.heap) (few : n ≤ sizeLine)
    (q : ∀ (h' : Heap) (tk : Nat) (acc : Array Value), (∀ b o, s.heap.get? b = some o → h'.get? b = some o) → ItemsOf P acc n → Q acc.toList { s with heap := h', toks := tk }) : wpAny (model prog w) A (collect (.ref r)) Q E s := by
  have lt := src.there _ ok
  let S := s.heap.objs.size
  let s1 : Shared := { s with heap := s.heap.push { cls := .type "list", data := .seq ([] : List Value).toArray } }
  have hS : s1.heap.get? S = some { cls := .type "list", data := .seq #[] 0 } := Heap.get?_push_size _ rfl
  have up : ∀ b o, s.heap.get? b = some o → s1.heap.get? b = some o := fun b o e => Heap.get?_push_of_some _ e
  have ok1 : OK s1.heap := src.keep _ _ ok fun b _ o e => up b o e
  unfold collect
  refine wpAny_bind
          (wpAny_runValue (codeAny_builtin F.entry_proto_collect ?_))
  rw [Around.under_plainId F.plain_proto_collect _]; show wpAny _ A.in1 (newList [] >>= fun l => again (.builtin "list.__iadd__" ⟨[l, .ref r], []⟩)) _ _ s
  refine wpAny_bind (wpAny_newObj_type (wpAny_pure ⟨plainId_quiet F.plain_list_iadd _, codeAny_builtin F.entry_list_iadd ?_⟩))
  rw [Around.under_plainId F.plain_list_iadd _]; show wpAny _ A.in1 (Builtin.List.listExtendWith (.ref S) (.ref r) (.ref S)) _ _ s1
  let R : Result → Shared → Prop := fun rr s' => rr = .ok (.ret (.ref S)) ∧ ∃ (h' : Heap) (tk : Nat) (acc : Array Value) (c : Nat), s' = { s with heap := h', toks := tk } ∧ (∀ b o, s.heap.get? b = some o → h'.get? b = some o) ∧ h'.get? S = some { cls := .type "list", dict := none, data := .seq acc c, slots := #[] } ∧ ItemsOf P acc n
  have ext := PySem.W.kdl_extend (A := A) (R := R) src calm ok1 S (Nat.ne_of_gt lt.1) (Nat.ne_of_gt lt.2) (.ref S) 0 hS (fun h' tk acc c k e i => ⟨rfl, h', tk, acc, c, rfl, fun b o z => k b o (Nat.ne_of_lt (Heap.lt_size z)) (up b o z), e, i⟩) few
  have fin : ∀ {s' : Shared}, R (.ok (.ret (.ref S))) s' → wpAny (model prog w) A (load S >>= fun ob => match ob.data with | Data.seq xs _ => pure xs.toList | _ => unsupported "internal:collect") Q E s' := fun {s'} h => by
    obtain ⟨_, h', tk, acc, c, rfl, k, hS', i⟩ := h
    exact wpAny_bind (wpAny_load hS' (wpAny_pure (q h' tk acc k i)))
  refine wpAny_mono ext (fun f s' h => ?_) (fun e s' h => absurd h.1 (by simp))
  cases f with
  | done f =>
    cases h.1
    exact fin h
  | again c => exact ⟨h.1, codeAny_mono h.2 fun rr s'' z => by cases z.1; exact fin z⟩
theorem tuple_new_dict {Q : Value → Shared → Prop} (src : KdlSrc prog w "dict" r d n P OK) (calm : A.handled = none) (ok : OK s.heap) (few : n ≤ sizeLine)
    (q : ∀ (h' : Heap) (tk : Nat) (acc : Array Value), (∀ b o, s.heap.get? b = some o → h'.get? b = some o) → ItemsOf P acc n → Q (.ref h'.objs.size) { s with heap := h'.push { cls := .type "tuple", data := .seq acc }, toks := tk }) :
    codeAny (model prog w) A (.call (.builtin "tuple.__new__") ⟨[.type "tuple", .ref r], []⟩) (wants Q E) s := by
  refine codeAny_of_tree ?_
  show wpAny _ A.in1 (checkBuiltinCall "tuple.__new__" ⟨[.type "tuple", .ref r], []⟩ >>= fun _ => again (.builtin "tuple.__new__" ⟨[.type "tuple", .ref r], []⟩)) _ _ s
  refine wpAny_bind
          (wpAny_of_eq (F.newCall_tuple_1 _) (wpAny_pure ⟨plainId_quiet F.plain_tuple_new _, codeAny_builtin F.entry_tuple_new ?_⟩))
  rw [Around.under_plainId F.plain_tuple_new _]; have f1 := sub_tuple_self
  have f2 := init_tuple_lookup
  have f3 := madeHere_tuple
  have f4 := src.type s ok
  have calm1 : A.in1.handled = none := calm
  wp_walk using wpAny_typeOf f4, collect_src (A := A.in1) src calm1 ok few
  intro h' tk acc keep items
  have e : acc.toList.toArray =
          acc := by simp
  show wpAny _ _ (Builtin.Tuple.tupleExact acc.toList.toArray >>= fun z => ret z) _ _ _
  rw [e]
  unfold Builtin.Tuple.tupleExact; exact wpAny_bind (wpAny_newObj_type (wpAny_pure (q h' tk acc keep items)) (by show acc.size ≤ sizeLine; rw [items.1]; exact few))
theorem call_tuple_dict {Q : Value → Shared → Prop} (src : KdlSrc prog w "dict" r d n P OK) (calm : A.handled = none) (ok : OK s.heap) (few : n ≤ sizeLine)
    (q : ∀ (h' : Heap) (tk : Nat) (acc : Array Value), (∀ b o, s.heap.get? b = some o → h'.get? b = some o) → ItemsOf P acc n → Q (.ref h'.objs.size) { s with heap := h'.push { cls := .type "tuple", data := .seq acc }, toks := tk }) :
    wpAny (model prog w)
            A (call (.type "tuple") [.ref r]) Q E s := by
  have made := tuple_new_dict (A := A.in1) (E := E) (Q := fun obj s₁ => s₁.TypeIs obj "tuple" ∧ Q obj s₁) src calm ok few fun h' tk acc k i => ⟨⟨_, Heap.get?_push_size _ rfl, rfl⟩, q h' tk acc k i⟩
  refine callType_codes F.called_tuple (F.typeCall_tuple_1 _) F.entry_object_init made fun obj s₁ h₁ => ⟨h₁.1, F.args_object_init_2 obj _, ?_⟩
  exact object_init_meets F.called_tuple.init.lookup F.called_tuple.made (by decide) prog w A.in1 _ s₁ ⟨h₁.1, rfl, h₁.2⟩
end
section
variable {X : Cx}
theorem call_tupD (calm : X.calm = true) : CallR X (.type "tuple") rTupD := by
  intro pins s σ H xs us Q I rv q
  obtain ⟨a, kvs, rfl, hd, q⟩ := q
  obtain ⟨u, rfl, rx⟩ := vals1 rv
  cases rx
  obtain ⟨z,
          lo, vs, rel, dd⟩ := dk_rd I.hok hd
  obtain ⟨ep, hat⟩ := dd.dictAt
  have ek :
          (kvs.map fun kv => kV kv.1) = vs.map fun p => kV p.1 := by
    have e :=
            congrArg (List.map kV) rel.keys
    rw [List.map_map,
            List.map_map] at e
    exact e
  refine call_tuple_dict (PySem.W.kdl_dict (knd := mixKind X.prog X.w) (kvs := vs) (ep := ep) lo) (I.ok.hd calm) hat (by rw [← rel.length]; exact z) fun h' tk acc hk hacc => ?_
  have hv : Vals
          (vs.map fun p => kV p.1) acc.toList := keys_at (by rw [Array.length_toList]; exact hacc.1) fun j v e => hacc.2 j v (by rw [← Array.getElem?_toList]; exact e)
  have I1 : Inv X pins σ H { s with heap := h', toks := tk } := I.kept (t' := tk) hk
  have I2 : Inv X pins σ (upd H h'.objs.size (.tup (kvs.map fun kv => kV kv.1))) { s with heap := h'.push { cls := .type "tuple", data := .seq acc }, toks := tk } :=
    I1.laid (t' := tk) (fun b o e => Heap.get?_push_of_some _ e) (Nat.le_refl _) (show ObjOk X.prog X.w _ _ _ (.tup (kvs.map fun kv => kV kv.1)) from ⟨by rw [List.length_map]; exact z, acc.toList, by rw [ek]; exact hv, by
      rw [Array.toArray_toList]
      exact PyProof.Rows.IsTup.new _ _⟩)
  exact ⟨.ref h'.objs.size,
          _, I2, rfl, q _ (I1.hok.fresh (Nat.le_refl _))⟩
end
end LP
namespace LP
open PySem L2
/-! ### d.get(k, x), d a dict of the module with text keys, the key there -/
def tKGet (K : PySem.W.Frag) (d : Addr) (td ty tx : TE) : TE := fun σ H Q => td σ H fun x H1 => x = .ref d ∧ ty σ H1 fun y H2 => tx σ H2 fun _ H3 => ∃ k u0 v0, y = .str k ∧ PySem.W.nsIn K d k = some (some u0) ∧ RelV v0 u0 ∧ Q v0 H3
section
variable {X : Cx} {d : Addr} {es : Array DictEntry} {n : Nat} {o e f : Expr} {apos cpos : Pos} {td ty tx : TE}
theorem pe_kget2 (D : KDict X.K X.w d es n) (ho : PE X o td) (he : PE X e ty) (hf : PE X f tx) (m : M2 X o "get" apos e f cpos) : PE X (.Call (.Attribute o "get" apos) [e, f] [] cpos) (tKGet X.K d td ty tx) := by
  refine ⟨fun pins s σ H Q I h => ?_⟩; refine wpAny_Call_method m.base m.few m.line PySem.F.plainAttrs_dict PySem.F.slot_dict_get PySem.F.type_dict_get (thn (ho.run pins s σ H _ I h) fun u s1 ⟨x, H1, I1, rx, ex, q1⟩ => ?_)
  subst ex
  cases (show u = Value.ref d from rx)
  have at1 := I1.kIn d _ D.at_
  refine ⟨kd_type D I1, fun b eb => ?_, ?_⟩
  · cases eb
    exact ⟨_, at1, rfl⟩
  · rw [m.trees]
    refine Calls.callWith_builtin rfl (Calls.evalArgs_plain (Calls.spliced_cons (thn (he.run pins s1 σ H1 _ I1 q1) fun iv s2 ⟨y, H2, I2, ry, q2⟩ => Calls.spliced_cons (thn (hf.run pins s2 σ H2 _ I2 q2) fun fv s3 ⟨z, H3, I3, rz, k, u0, v0, ey, e0, r0, q3⟩ => Calls.spliced_nil ?_))))
    subst ey
    obtain ⟨t, rfl⟩ := (show ∃ t, iv = Value.str k t from ry)
    have mp := PySem.W.mapOf_K (prog := X.prog) (w := X.w) I3.kIn D.at_ D.lit
    have mt := meets_dict_get_default (PySem.strKind X.prog X.w) d (PySem.strKind_is X.prog X.w k t) D.low fv
    refine call_meetsIn PySem.F.slot_dict_get mp.typeIs PySem.F.entry_dict_get (PySem.F.args_dict_get_3 _ _ _) mt ⟨_, mp, ⟨v0, H3, I3.tok _, ?_, q3⟩⟩
    rw [PySem.W.find_K D.at_ e0]
    exact r0
end
end LP
namespace LP
open PySem L2
open Evl (Ex)
/-! ### what the helpers reckon -/
def reachStep (t : Str × List Col) (found : List Str) : List Str := if t.1 ∈ found then found ++ (t.2.filter Col.isLink).map Col.target else found
def reach (ts : Tabs) (n : Str) : List Str := ts.foldr reachStep [n]
def isListed (cs : List Col) : Bool := cs.any fun c => c.lst.isSome
def isHeavy (ts : Tabs) (c : Col) : Bool := c.isLink && ts.any fun t => decide (t.1 ∈ reach ts c.target) && isListed t.2
def linkLists (cs : List Col) (tg : Str) : List (Option Str) := (cs.filter fun c => c.isLink && decide (c.target = tg)).map Col.lst
def takenStep (tg : Str) (t : Str × List Col) : List (Option Str) := linkLists t.2 tg ++ if t.1 = tg then t.2.map (fun c => some c.name) else []
def namesTaken (ts : Tabs) (cs : List Col) (tg : Str) : List (Option Str) := ts.flatMap (takenStep tg) ++ linkLists cs tg
theorem taken_len (tg : Str) {ts : Tabs} (h : ∀ t ∈ ts, t.2.length ≤ 20) : (ts.flatMap (takenStep tg)).length ≤ 40 * ts.length := by
  induction ts with
  | nil => exact Nat.zero_le _
  | cons t r ih =>
    have := ih fun t' ht' => h t' (List.mem_cons_of_mem _ ht')
    have l1 := h t List.mem_cons_self
    rw [List.flatMap_cons, List.length_append, List.length_cons]
    have l2 : (takenStep tg t).length ≤ 40 := by
      unfold takenStep linkLists
      rw [List.length_append, List.length_map]
      have l3 := List.length_filter_le (fun c => c.isLink && decide (c.target = tg)) t.2
      split
      · rw [List.length_map]
        omega
      · rw [List.length_nil]
        omega
    omega
def listedOf (cs : List Col) : List Col := cs.filter fun c => c.lst.isSome
def Col.bare : Col → Col
  | .link n t o _ => .link n t o none
  | c => c
def allowStep (ts : Tabs) (first c : Col) : Option Col := if c.isLink = false ∨ c = first then some c else if isHeavy ts c = true then none else some c.bare
def allowed (ts : Tabs) (cs : List Col) : List Col :=
  match listedOf cs with
  | [] => cs
  | first :: _ => if cs.any (isHeavy ts) = true then cs.filterMap (allowStep ts first) else cs
/-- few tables, few columns -/
def Few (ts : Tabs) : Prop := ts.length ≤ 20 ∧ ∀ t ∈ ts, t.2.length ≤ 20
theorem reachStep_in {t : Str × List Col} {f : List Str} (h : t.1 ∈ f) : reachStep t f = f ++ (t.2.filter Col.isLink).map Col.target := by unfold reachStep; rw [if_pos h]
theorem reachStep_out {t : Str × List Col} {f : List Str} (h : ¬ t.1 ∈ f) : reachStep t f = f := by unfold reachStep; rw [if_neg h]
theorem reach_len {ts : Tabs} (h : ∀ t ∈ ts, t.2.length ≤ 20) (n : Str) : (ts.foldr reachStep [n]).length ≤ 1 + 20 * ts.length := by
  induction ts with
  | nil => show 1 ≤ 1 + 20 * 0; omega
  | cons t r ih =>
    have := ih fun t' ht' => h t' (List.mem_cons_of_mem _ ht')
    have l1 := h t List.mem_cons_self
    have l2 := List.length_filter_le Col.isLink t.2
    rw [List.foldr_cons, List.length_cons]
    unfold reachStep
    split
    · rw [List.length_append, List.length_map]
      unfold reachStep at this
      omega
    · unfold reachStep at this
      omega
/-! ### promises -/
section
variable (K : PySem.W.Frag)
/-- a list of columns, read -/
def ColsR (H : Hp) (p : Addr) (cs : List Col) : Prop := ∃ vs, SqL K H p vs ∧ ColsV H vs cs
def TabsR (H : Hp) (p : Addr) (ts : Tabs) : Prop := ∃ vs, SqL K H p vs ∧ TabsV H vs ts
variable {K}
theorem ColsR.ext {H H' : Hp} {p : Addr} {cs : List Col} (e : Ex H H') (h : ColsR K H p cs) : ColsR K H' p cs := by
  obtain ⟨vs, hp, hv⟩ := h
  exact ⟨vs, Evl.ex_l e hp, hv.ext e⟩
theorem TabsR.ext {H H' : Hp} {p : Addr} {ts : Tabs} (e : Ex H H') (h : TabsR K H p ts) : TabsR K H' p ts := by
  obtain ⟨vs, hp, hv⟩ := h
  exact ⟨vs, Evl.ex_l e hp, hv.ext e⟩
theorem ColsAt.read {H : Hp} {p : Addr} {cs : List Col} (h : ColsAt H p cs) : ColsR K H p cs := by
  obtain ⟨vs, hp, hv⟩ := h
  exact ⟨vs, SqL.of hp, hv⟩
theorem TabsAt.read {H : Hp} {p : Addr} {ts : Tabs} (h : TabsAt H p ts) : TabsR K H p ts := by
  obtain ⟨vs, hp, hv⟩ := h
  exact ⟨vs, SqL.of hp, hv⟩
variable (K)
def spAllLinks : Sp := fun vs H Q _ => ∃ (p : Addr) (cs : List Col), vs = [.ref p] ∧ ColsR K H p cs ∧ cs.length ≤ 20 ∧
  ∀ (q : Addr) (H' : Hp), H q = none → Ex H H' → ColsAt H' q (cs.filter Col.isLink) → Q (.ref q) H'
def spReach : Sp := fun vs H Q _ => ∃ (p : Addr) (ts : Tabs) (n : Str), vs = [.ref p, .str n] ∧ TabsR K H p ts ∧ Few ts ∧
  ∀ (q : Addr) (H' : Hp), H q = none → Ex H H' → H' q = some (.lst ((reach ts n).map V.str)) → Q (.ref q) H'
def spIsListed : Sp := fun vs H Q _ => ∃ (p : Addr) (cs : List Col), vs = [.ref p] ∧ ColsR K H p cs ∧ cs.length ≤ 20 ∧
  ∀ (H' : Hp), Ex H H' → Q (.bl (isListed cs)) H'
def spIsHeavy : Sp := fun vs H Q _ => ∃ (p : Addr) (ts : Tabs) (v : V) (c : Col), vs = [.ref p, v] ∧ TabsR K H p ts ∧ Few ts ∧ ColAt H v c ∧
  ∀ (H' : Hp), Ex H H' → Q (.bl (isHeavy ts c)) H'
def spNamesTaken : Sp := fun vs H Q _ => ∃ (p r : Addr) (ts : Tabs) (cs : List Col) (tg : Str), vs = [.ref p, .ref r, .str tg] ∧ TabsR K H p ts ∧ Few ts ∧ ColsR K H r cs ∧ cs.length ≤ 20 ∧
  ∀ (q : Addr) (H' : Hp), H q = none → Ex H H' → H' q = some (.lst ((namesTaken ts cs tg).map vOpt)) → Q (.ref q) H'
end
end LP
namespace LP
open PySem L2
open Evl (Ex)
section
variable {K : PySem.W.Frag} {a : Addr} {xs : List V} {g : TG} {tb : TS} {D : Ends} {σ : L2.St} {H H1 : Hp}
theorem loopT (Pv : List V → List V → L2.St → Hp → Prop) (h0 : Pv [] xs σ H) (hl : ∀ d r σ H, d ++ r = xs → Pv d r σ H → SqT K H a xs)
    (hs : ∀ d y r σ H, d ++ y :: r = xs → Pv d (y :: r) σ H → g y σ H fun σ2 H2 => tb { D with nx := Pv (d ++ [y]) r, ct := Pv (d ++ [y]) r, bk := D.nx } σ2 H2) (hd : ∀ σ H, Pv xs [] σ H → D.nx σ H) :
    ∃ W : Nat →
            Nat → L2.St → Hp → Prop, (∃ m, W 0 m σ H) ∧ ∀ i m σ H, W i m σ H →
      ((Itt K a).stop i H ∧ D.nx σ H) ∨ ((Itt K a).go i H ∧ ∃ N : L2.St → Hp → Prop, (∀ σ' H', N σ' H' → ∃ m', m' < m ∧ W (i + 1) m' σ' H') ∧ ∀ x H', (Itt K a).yld i H x H' → g x σ H' fun σ2 H2 => tb { D with nx := N, ct := N, bk := D.nx } σ2 H2) := by
  refine for_tup (xs := xs) (fun i σ H => Pv (xs.take i) (xs.drop i) σ H) (by simpa using h0) (fun i σ H _ h => hl _ _ σ H (List.take_append_drop i xs) h) (fun i x σ H hx h => ?_) (fun σ H h => hd σ H (by simpa using h))
  have hlt : i < xs.length := (List.getElem?_eq_some_iff.mp hx).1
  have e1 : xs.drop i = x :: xs.drop (i + 1) := by
    rw [List.drop_eq_getElem_cons hlt, (List.getElem?_eq_some_iff.mp hx).2]
  have e2 : xs.take (i + 1) = xs.take i ++ [x] := by
    rw [List.take_succ, hx]
    rfl
  have z := hs (xs.take i) x (xs.drop (i + 1)) σ H (by rw [← e1]; exact List.take_append_drop i xs) (by rw [← e1]; exact h)
  rw [← e2] at z
  exact z
end
section
variable {K : PySem.W.Frag} {a : Addr} {xs : List V} {g : TG} {tt : TT} {te : TE} {vs : List Nat} {σ : L2.St} {H1 : Hp} {D : Addr} {Qd : Hp → Prop}
theorem compLT (Pv : List V → List V → List V → Hp → Prop) (hlen : xs.length ≤ 90000) (h0 : Pv [] xs [] (upd H1 D (.lst []))) (hl : ∀ d r got H, d ++ r = xs → Pv d r got H → SqT K H a xs)
    (hs : ∀ d y r got H, d ++ y :: r = xs → H D = some (.lst got) → got.length ≤ d.length → Pv d (y :: r) got H → ∀ (k : V → Hp → Prop) (kn : Hp → Prop),
      (∀ y' H4, H4 D = some (.lst got) → Pv (d ++ [y]) r (got ++ [y']) (upd H4 D (.lst (got ++ [y']))) → k y' H4) → (∀ H3, H3 D = some (.lst got) → Pv (d ++ [y]) r got H3 → kn H3) →
      g y (wipe σ vs) H fun σ2 H2 => wipe σ2 vs = wipe σ vs ∧ tt σ2 H2 fun b H3 => if b = true then te σ2 H3 k else kn H3)
    (hd : ∀ got H, H D = some (.lst got) → got.length ≤ xs.length → Pv xs [] got H → Qd H) :
    ∃ W : Nat →
            Nat → Hp → Prop, (∃ m, W 0 m (upd H1 D (.lst []))) ∧ ∀ i m H, W i m H →
      ((Itt K a).stop i H ∧ Qd H) ∨ ((Itt K a).go i H ∧ ∃ Go : Hp → Prop, (∀ H', Go H' → ∃ m', m' < m ∧ W (i + 1) m' H') ∧ ∀ x H', (Itt K a).yld i H x H' → g x (wipe σ vs) H' fun σ2 H2 => wipe σ2 vs = wipe σ vs ∧ tt σ2 H2 fun b H3 =>
        if b = true then te σ2 H3 fun y H4 => ∃ got, H4 D = some (.lst got) ∧ got.length < sizeLine ∧ Go (upd H4 D (.lst (got ++ [y]))) else Go H3) := by
  have sz : ∀ n : Nat, n ≤ 90000 → n < sizeLine := fun n h => Nat.lt_of_le_of_lt h (by decide)
  refine lc_tup (xs := xs) (fun i H => ∃ got, H D = some (.lst got) ∧ got.length ≤ i ∧ Pv (xs.take i) (xs.drop i) got H) ⟨[], upd_same, Nat.le_refl _, by simpa using h0⟩ (fun i H _ ⟨got, _, _, h⟩ => hl _ _ got H (List.take_append_drop i xs) h) (fun i x H hx ⟨got, ha, hacc, h⟩ => ?_) (fun H ⟨got, ha, hacc, h⟩ => hd got H ha hacc (by simpa using h))
  have hlt : i < xs.length := (List.getElem?_eq_some_iff.mp hx).1
  have e1 : xs.drop i = x :: xs.drop (i + 1) := by
    rw [List.drop_eq_getElem_cons hlt, (List.getElem?_eq_some_iff.mp hx).2]
  have e2 : xs.take (i + 1) = xs.take i ++ [x] := by
    rw [List.take_succ, hx]
    rfl
  refine hs (xs.take i) x (xs.drop (i + 1)) got H (by rw [← e1]; exact List.take_append_drop i xs) ha (by rw [List.length_take]; omega) (by rw [← e1]; exact h) _ _ (fun y' H4 h4 p => ?_) (fun H3 h3 p => ?_)
  · exact ⟨got, h4, sz _ (by omega), got ++ [y'], upd_same, by rw [List.length_append]; simp; omega, by rw [e2]; exact p⟩
  · exact ⟨got, h3, by omega, by rw [e2]; exact p⟩
theorem compQT {α δ : Type} (zs : List α) (R : V → α → Prop) (f : α → Option δ) (R' : V → δ → Prop) (hD : H1 D = none) (hx : SqT K H1 a xs) (hlen : xs.length ≤ 90000) (hz : Paired R xs zs)
    (hs : ∀ y z, R y z → z ∈ zs → ∀ H, Ex H1 H → ∀ (k : V → Hp → Prop) (kn : Hp → Prop), (∀ y' d H4, Ex H H4 → f z = some d → R' y' d → k y' H4) → (∀ H3, Ex H H3 → f z = none → kn H3) →
      g y (wipe σ vs) H fun σ2 H2 => wipe σ2 vs = wipe σ vs ∧ tt σ2 H2 fun b H3 => if b = true then te σ2 H3 k else kn H3)
    (hd : ∀ got H, Ex H1 H → H D = some (.lst got) → Paired R' got (zs.filterMap f) → Qd H) :
    ∃ W : Nat →
            Nat → Hp → Prop, (∃ m, W 0 m (upd H1 D (.lst []))) ∧ ∀ i m H, W i m H →
      ((Itt K a).stop i H ∧ Qd H) ∨ ((Itt K a).go i H ∧ ∃ Go : Hp → Prop, (∀ H', Go H' → ∃ m', m' < m ∧ W (i + 1) m' H') ∧ ∀ x H', (Itt K a).yld i H x H' → g x (wipe σ vs) H' fun σ2 H2 => wipe σ2 vs = wipe σ vs ∧ tt σ2 H2 fun b H3 =>
        if b = true then te σ2 H3 fun y H4 => ∃ got, H4 D = some (.lst got) ∧ got.length < sizeLine ∧ Go (upd H4 D (.lst (got ++ [y]))) else Go H3) := by
  refine compLT (xs := xs) (fun d r got H => Ex H1 H ∧ ∃ md mr, zs = md ++ mr ∧ Paired R d md ∧ Paired R r mr ∧ Paired R' got (md.filterMap f)) hlen ⟨Ex.new hD, [], zs, rfl, .nil, hz, .nil⟩ (fun _ _ _ H _ h => Evl.ex_t h.1 hx) (fun d y r got H hd ha _ h k kn hk hn => ?_) (fun got H ha _ h => ?_)
  · obtain ⟨e, md, mr, ez, p1, p2, p3⟩ := h
    obtain ⟨z, mr, rfl, rz, p2⟩ := paired_cons p2
    have ez' : zs = (md ++ [z]) ++ mr := by rw [ez, List.append_assoc]; rfl
    refine hs y z rz (by rw [ez]; simp) H e k kn (fun y' d' H4 e4 hv hr => ?_) (fun H3 e3 hv => ?_)
    · refine hk y' H4 (e4 _ _ ha) ⟨(e.trans e4).mut hD, md ++ [z], mr, ez', paired_app p1 (.cons rz .nil), p2, ?_⟩
      rw [List.filterMap_append, List.filterMap_cons_some hv, List.filterMap_nil]
      exact paired_app p3 (.cons hr .nil)
    · refine hn H3 (e3 _ _ ha) ⟨e.trans e3, md ++ [z], mr, ez', paired_app p1 (.cons rz .nil), p2, ?_⟩
      rw [List.filterMap_append, List.filterMap_cons_none hv, List.filterMap_nil, List.append_nil]
      exact p3
  · obtain ⟨e, md, mr, ez, p1, p2, p3⟩ := h
    cases p2
    rw [List.append_nil] at ez
    subst ez
    exact hd got H e ha p3
end
end LP
namespace LP
open PySem L2
open Evl (Ex)
/-! ### columns as data that == compares -/
def SOk (x : Str) : Prop := PyData.strOk x = true
theorem SOk.low {x : Str} (h : Low x) : SOk x := by
  unfold SOk PyData.strOk
  rw [← Array.all_toList,
          List.all_eq_true]
  intro c hc
  have := h c hc
  exact decide_eq_true
          (by omega)
def dOpt : Option Str → PyData
  | none => .none
  | some x => .str x
def Col.ds : Col → List PyData
  | .plain f n => [.str (if f then "flag" else "number"), .str n]
  | .word n o => [.str "word", .str n, .bool o]
  | .link n t o l => [.str "link", .str n, .str t, .bool o, dOpt l]
def Col.data (c : Col) : PyData := .tuple c.ds
def Col.Ok : Col → Prop
  | .plain _ n => SOk n
  | .word n _ => SOk n
  | .link n t _ l => SOk n ∧ SOk t ∧ ∀ x, l = some x → SOk x
theorem dp_opt {K : PySem.W.Frag} {H : Hp} (l : Option Str) : Dp K H (vOpt l) (dOpt l) := by
  cases l with
  | none => exact .non
  | some x => exact .str x
theorem ColAt.dp {K : PySem.W.Frag} {H : Hp} {v : V} {c : Col} (h : ColAt H v c) : Dp K H v c.data := by
  obtain ⟨a, rfl, ha⟩ := h
  refine .tup (SqT.of ha) ?_
  cases c with
  | plain f n => exact .cons (.str _) (.cons (.str _) .nil)
  | word n o => exact .cons (.str _) (.cons (.str _) (.cons (.bl _) .nil))
  | link n t o l => exact .cons (.str _) (.cons (.str _) (.cons (.str _) (.cons (.bl _) (.cons (dp_opt l) .nil))))
theorem ColsV.dp {K : PySem.W.Frag} {H : Hp} {vs : List V} {cs : List Col} (h : ColsV H vs cs) : DpAll K H vs (cs.map Col.data) := by
  induction h with
  | nil => exact .nil
  | cons h _ ih => exact .cons h.dp ih
theorem Col.shaped {c : Col} (h : c.Ok) : SeqAt.shaped c.data = true := by
  unfold SeqAt.shaped
  rw [Bool.and_eq_true]
  have h4 : PyData.strOk "flag" = true := by decide +kernel
  have h5 : PyData.strOk "number" = true := by decide +kernel
  have h6 : PyData.strOk "word" = true := by decide +kernel
  have h7 : PyData.strOk "link" = true := by decide +kernel
  cases c with
  | plain f n =>
    have h1 : PyData.strOk n = true := h
    refine ⟨?_, ?_⟩
    · simp only [Col.data, Col.ds, PyData.canLay0, PyData.canLayAll0, h1, Bool.and_true, Bool.true_and]
      cases f <;> assumption
    · simp [Col.data, Col.ds, PyData.depth, PyData.depthAll]
  | word n o =>
    have h1 : PyData.strOk n = true := h
    refine ⟨?_, ?_⟩
    · simp only [Col.data, Col.ds, PyData.canLay0, PyData.canLayAll0, h1, h6, Bool.and_true, Bool.true_and]
    · simp [Col.data, Col.ds, PyData.depth, PyData.depthAll]
  | link n t o l =>
    obtain ⟨h1, h2, h3⟩ := h
    have h1 : PyData.strOk n = true := h1
    have h2 : PyData.strOk t = true := h2
    refine ⟨?_, ?_⟩
    · cases l with
      | none => simp only [Col.data, Col.ds, dOpt, PyData.canLay0, PyData.canLayAll0, h1, h2, h7, Bool.and_true, Bool.true_and]
      | some x =>
        have h3 : PyData.strOk x = true := h3 x rfl
        simp only [Col.data, Col.ds, dOpt, PyData.canLay0, PyData.canLayAll0, h1, h2, h3, h7, Bool.and_true, Bool.true_and]
    · cases l <;> simp [Col.data, Col.ds, dOpt, PyData.depth, PyData.depthAll]
theorem bdec {α : Type} [BEq α] [LawfulBEq α] [DecidableEq α] (a b : α) : (a == b) = decide (a = b) := by
  by_cases h : a = b
  · rw [decide_eq_true h, beq_iff_eq.mpr h]
  · rw [decide_eq_false h, beq_eq_false_iff_ne.mpr h]
theorem Col.eqv (c d : Col) : PyData.eqv c.data d.data = decide (c = d) := by
  have n1 : ((("flag" : Str)) == ("number" : Str)) = false := by decide +kernel
  have n2 : ((("number" : Str)) == ("flag" : Str)) = false := by decide +kernel
  have n3 : ((("word" : Str)) == ("link" : Str)) = false := by decide +kernel
  cases c with
  | plain f n =>
    cases d with
    | plain g m => cases f <;> cases g <;> simp [Col.data, Col.ds, PyData.eqv, PyData.eqvAll, n1, n2, bdec]
    | word m o => cases f <;> simp [Col.data, Col.ds, PyData.eqv, PyData.eqvAll]
    | link m t o l => cases f <;> simp [Col.data, Col.ds, PyData.eqv, PyData.eqvAll]
  | word n o =>
    cases d with
    | plain g m => cases g <;> simp [Col.data, Col.ds, PyData.eqv, PyData.eqvAll]
    | word m o' => simp [Col.data, Col.ds, PyData.eqv, PyData.eqvAll, bdec]
    | link m t o l => simp [Col.data, Col.ds, PyData.eqv, PyData.eqvAll]
  | link n t o l =>
    cases d with
    | plain g m => cases g <;> simp [Col.data, Col.ds, PyData.eqv, PyData.eqvAll]
    | word m o' => simp [Col.data, Col.ds, PyData.eqv, PyData.eqvAll]
    | link m t' o' l' => cases l <;> cases l' <;> simp [Col.data, Col.ds, dOpt, PyData.eqv, PyData.eqvAll, bdec]
theorem shapedL_cols {cs : List Col} (h : ∀ c ∈ cs, c.Ok) : SeqAt.shaped (.list (cs.map Col.data)) = true := by
  have key : ∀ cs : List Col, (∀ c ∈ cs, c.Ok) → PyData.canLayAll0 (cs.map Col.data) = true ∧ PyData.depthAll (cs.map Col.data) ≤ 63 := fun cs => by
    induction cs with
    | nil => exact fun _ => ⟨rfl, by show 0 ≤ 63; omega⟩
    | cons c r ih =>
      intro h
      obtain ⟨i1, i2⟩ := ih fun c hc => h c (List.mem_cons_of_mem _ hc)
      have s := Col.shaped (h c List.mem_cons_self)
      unfold SeqAt.shaped at s
      rw [Bool.and_eq_true, decide_eq_true_eq] at s
      have d1 : PyData.depth c.data ≤ 2 := by
        cases c with
        | plain f n => simp [Col.data, Col.ds, PyData.depth, PyData.depthAll]
        | word n o => simp [Col.data, Col.ds, PyData.depth, PyData.depthAll]
        | link n t o l => cases l <;> simp [Col.data, Col.ds, dOpt, PyData.depth, PyData.depthAll]
      rw [List.map_cons]
      refine ⟨?_, ?_⟩
      · simp only [PyData.canLayAll0, s.1, i1, Bool.and_self]
      · simp only [PyData.depthAll]
        omega
  obtain ⟨k1, k2⟩ := key cs h
  unfold SeqAt.shaped
  rw [Bool.and_eq_true, decide_eq_true_eq]
  exact ⟨by simp only [PyData.canLay0]; exact k1, by simp only [PyData.depth]; omega⟩
theorem eqv_nil (cs : List Col) : PyData.eqv (.list (cs.map Col.data)) (.list []) = cs.isEmpty := by
  cases cs with
  | nil => simp [PyData.eqv, PyData.eqvAll]
  | cons c r => simp [PyData.eqv, PyData.eqvAll]
theorem listed_link (cs : List Col) : ((cs.filter Col.isLink).filter fun c => c.lst.isSome) = listedOf cs := by
  unfold listedOf
  rw [List.filter_filter]
  refine List.filter_congr fun c _ => ?_
  cases c <;> simp [Col.lst, Col.isLink]
theorem shaped_nil : SeqAt.shaped (.list []) = true := by decide
def spAllowed (K : PySem.W.Frag) : Sp := fun vs H Q _ => ∃ (p r : Addr) (ts : Tabs) (cs : List Col), vs = [.ref p, .ref r] ∧ TabsR K H p ts ∧ Few ts ∧ ColsAt H r cs ∧ cs.length ≤ 20 ∧ (∀ c ∈ cs, c.Ok) ∧
  ∀ (q : Addr) (H' : Hp), Ex H H' → ColsAt H' q (allowed ts cs) → Q (.ref q) H'
end LP
namespace LP
open PySem L2
open Evl (Ex)
/-! ### columns and tables that may stand -/
structure PreCols (ts : Tabs) (cs : List Col) : Prop where
  nm : ∀ c ∈ cs, IsName c.name
  nd : (cs.map Col.name).Nodup
  tg : ∀ c ∈ cs, c.isLink = true → c.target ∈ ts.map (·.1)
  ls : ∀ c ∈ cs, ∀ l, c.lst = some l → IsName l
  fr : cs.Pairwise fun c c' => c.isLink = true → c.target = c'.target → ∀ l, c'.lst = some l → c.lst ≠ some l
  old : ∀ c ∈ cs, ∀ l, c.lst = some l → ∀ t ∈ ts, some l ∉ takenStep c.target t
/-- whether a table is listed or leads to a listed one, by the tables ahead of it -/
def meetOf (m : List (Str × Bool)) (cs : List Col) : Bool := isListed cs || cs.any fun c => c.isLink && (m.lookup c.target == some true)
def meetMap (ts : Tabs) : List (Str × Bool) := ts.foldl (fun m t => m ++ [(t.1, meetOf m t.2)]) []
def meets (ts : Tabs) (n : Str) : Bool := (meetMap ts).lookup n == some true
def Rule6 (ts : Tabs) (cs : List Col) : Prop := ∀ c ∈ cs, c.isLink = true → meets ts c.target = true → listedOf cs ≠ [] → listedOf cs = [c]
structure GoodCols (ts : Tabs) (cs : List Col) : Prop extends PreCols ts cs where
  few : cs.length ≤ 6
  r6 : Rule6 ts cs
inductive GoodTabs : Tabs → Prop where
  | nil : GoodTabs []
  | snoc {ts : Tabs} {n : Str} {cs : List Col} : GoodTabs ts → IsName n → n ∉ ts.map (·.1) → GoodCols ts cs → GoodTabs (ts ++ [(n, cs)])
theorem lst_link {c : Col} {l : Str} (h : c.lst = some l) : c.isLink = true := by
  cases c with
  | link n t o l => rfl
  | plain f n => cases h
  | word n o => cases h
theorem bare_name (c : Col) : c.bare.name = c.name := by cases c <;> rfl
theorem bare_target (c : Col) : c.bare.target = c.target := by cases c <;> rfl
theorem bare_link (c : Col) : c.bare.isLink = c.isLink := by cases c <;> rfl
theorem bare_lst (c : Col) : c.bare.lst = none := by cases c <;> rfl
/-- what stays of a column -/
structure Stays (c c' : Col) : Prop where
  nm : c'.name = c.name
  tg : c'.target = c.target
  lk : c'.isLink = c.isLink
  ls : c'.lst = c.lst ∨ c'.lst = none
theorem allow_stays {ts : Tabs} {f c c' : Col} (h : allowStep ts f c = some c') : Stays c c' := by
  unfold allowStep at h
  split at h
  · cases h
    exact ⟨rfl, rfl, rfl, .inl rfl⟩
  · split at h
    · cases h
    · cases h
      exact ⟨bare_name c, bare_target c, bare_link c, .inr (bare_lst c)⟩
theorem PreCols.filterMap {ts : Tabs} {cs : List Col} {f : Col → Option Col} (h : PreCols ts cs) (hf : ∀ c c', f c = some c' → Stays c c') : PreCols ts (cs.filterMap f) := by
  have mem : ∀ c' ∈ cs.filterMap f, ∃ c ∈ cs, Stays c c' := fun c' hc' => by
    obtain ⟨c, hc, e⟩ := List.mem_filterMap.mp hc'
    exact ⟨c, hc, hf c c' e⟩
  have lsm : ∀ {c c' : Col} {l : Str}, Stays c c' → c'.lst = some l → c.lst = some l := fun {c c' l} s e => by
    rcases s.ls with h | h
    · rw [← h]; exact e
    · rw [h] at e; cases e
  refine ⟨fun c' hc' => ?_, ?_, fun c' hc' hl => ?_, fun c' hc' l hl => ?_, ?_, fun c' hc' l hl t ht => ?_⟩
  · obtain ⟨c, hc, s⟩ := mem c' hc'
    rw [s.nm]
    exact h.nm c hc
  · have nd := List.pairwise_map.mp h.nd
    refine List.pairwise_map.mpr (nd.filterMap f fun a a' hn b hb b' hb' e => hn ?_)
    rw [← (hf a b hb).nm, ← (hf a' b' hb').nm]
    exact e
  · obtain ⟨c, hc, s⟩ := mem c' hc'
    rw [s.tg]
    exact h.tg c hc (s.lk ▸ hl)
  · obtain ⟨c, hc, s⟩ := mem c' hc'
    exact h.ls c hc l (lsm s hl)
  · refine h.fr.filterMap f fun a a' hn b hb b' hb' hl et l hbl hbl' => ?_
    have sa := hf a b hb
    have sb := hf a' b' hb'
    exact hn (sa.lk ▸ hl) (by rw [← sa.tg, ← sb.tg]; exact et) l (lsm sb hbl) (lsm sa hbl')
  · obtain ⟨c, hc, s⟩ := mem c' hc'
    rw [s.tg]
    exact h.old c hc l (lsm s hl) t ht
theorem allowed_eq (ts : Tabs) (cs : List Col) : (allowed ts cs = cs ∧ (listedOf cs = [] ∨ cs.any (isHeavy ts) = false)) ∨ ∃ f, f ∈ listedOf cs ∧ allowed ts cs = cs.filterMap (allowStep ts f) := by
  cases e : listedOf cs with
  | nil => exact .inl ⟨by unfold allowed; rw [e], .inl rfl⟩
  | cons f r =>
    cases ea : cs.any (isHeavy ts) with
    | false => exact .inl ⟨by unfold allowed; rw [e]; show (if cs.any (isHeavy ts) = true then _ else cs) = cs; rw [ea]; rfl, .inr rfl⟩
    | true =>
      refine .inr ⟨f, List.mem_cons_self, ?_⟩
      unfold allowed
      rw [e]
      show (if cs.any (isHeavy ts) = true then _ else cs) = _
      rw [ea]
      rfl
theorem PreCols.allowed {ts : Tabs} {cs : List Col} (h : PreCols ts cs) : PreCols ts (allowed ts cs) := by
  rcases allowed_eq ts cs with ⟨e, _⟩ | ⟨f, _, e⟩
  · rw [e]; exact h
  · rw [e]; exact h.filterMap fun _ _ => allow_stays
theorem allowed_len (ts : Tabs) (cs : List Col) : (allowed ts cs).length ≤ cs.length := by
  rcases allowed_eq ts cs with ⟨e, _⟩ | ⟨f, _, e⟩
  · rw [e]; exact Nat.le_refl _
  · rw [e]; exact List.length_filterMap_le _ _
/-! ### what leads to a listed table is heavy -/
theorem reachStep_sub {t : Str × List Col} {f g : List Str} (h : ∀ x ∈ f, x ∈ g) : ∀ x ∈ reachStep t f, x ∈ reachStep t g := fun x hx => by
  by_cases h1 : t.1 ∈ f
  · rw [reachStep_in h1] at hx
    rw [reachStep_in (h _ h1)]
    rcases List.mem_append.1 hx with hx | hx
    · exact List.mem_append.mpr (.inl (h x hx))
    · exact List.mem_append.mpr (.inr hx)
  · rw [reachStep_out h1] at hx
    by_cases h2 : t.1 ∈ g
    · rw [reachStep_in h2]
      exact List.mem_append.mpr (.inl (h x hx))
    · rw [reachStep_out h2]
      exact h x hx
theorem foldr_sub {ts : Tabs} {f g : List Str} (h : ∀ x ∈ f, x ∈ g) : ∀ x ∈ ts.foldr reachStep f, x ∈ ts.foldr reachStep g := by
  induction ts with
  | nil => exact h
  | cons t r ih => exact reachStep_sub ih
theorem foldr_keep {ts : Tabs} {f : List Str} : ∀ x ∈ f, x ∈ ts.foldr reachStep f := by
  induction ts with
  | nil => exact fun x h => h
  | cons t r ih =>
    intro x hx
    have := ih x hx
    rw [List.foldr_cons]
    by_cases h1 : t.1 ∈ r.foldr reachStep f
    · rw [reachStep_in h1]
      exact List.mem_append.mpr (.inl this)
    · rw [reachStep_out h1]
      exact this
theorem meetMap_snoc (ts : Tabs) (t : Str × List Col) : meetMap (ts ++ [t]) = meetMap ts ++ [(t.1, meetOf (meetMap ts) t.2)] := by
  unfold meetMap
  rw [List.foldl_append]
  rfl
theorem meetMap_keys (ts : Tabs) : (meetMap ts).map (·.1) = ts.map (·.1) := by
  have : ∀ (ts : Tabs) (m : List (Str × Bool)), (ts.foldl (fun m t => m ++ [(t.1, meetOf m t.2)]) m).map (·.1) = m.map (·.1) ++ ts.map (·.1) := fun ts => by
    induction ts with
    | nil => intro m; simp
    | cons t r ih => intro m; rw [List.foldl_cons, ih]; simp
  unfold meetMap
  rw [this]
  rfl
theorem lookup_app {m m' : List (Str × Bool)} {n : Str} (h : n ∉ m.map (·.1)) : (m ++ m').lookup n = m'.lookup n := by
  induction m with
  | nil => rfl
  | cons p r ih =>
    rw [List.cons_append, List.lookup_cons]
    have h1 : n ≠ p.1 := fun e => h (by rw [e]; exact List.mem_cons_self)
    rw [show (n == p.1) = false from beq_eq_false_iff_ne.mpr h1]
    exact ih fun hx => h (List.mem_cons_of_mem _ hx)
theorem lookup_left {m m' : List (Str × Bool)} {n : Str} {b : Bool} (h : m.lookup n = some b) : (m ++ m').lookup n = some b := by
  induction m with
  | nil => cases h
  | cons p r ih =>
    rw [List.lookup_cons] at h
    rw [List.cons_append, List.lookup_cons]
    split
    · rename_i e
      rw [e] at h
      exact h
    · rename_i e
      rw [e] at h
      exact ih h
theorem lookup_none {m : List (Str × Bool)} {n : Str} (h : n ∉ m.map (·.1)) : m.lookup n = none := by
  have := lookup_app (m' := []) h
  rw [List.append_nil] at this
  exact this
theorem meets_heavy {ts : Tabs} (g : GoodTabs ts) : ∀ n, meets ts n = true → ∃ t ∈ ts, t.1 ∈ reach ts n ∧ isListed t.2 = true := by
  induction g with
  | nil => intro n h; cases h
  | snoc g hn hx hc ih =>
    rename_i ts n0 cs
    intro n h
    unfold meets at h
    rw [meetMap_snoc] at h
    by_cases hm : n ∈ ts.map (·.1)
    · have hne : n0 ≠ n := fun e => hx (e ▸ hm)
      have h1 : meets ts n = true := by
        unfold meets
        cases e : (meetMap ts).lookup n with
        | none =>
          rw [lookup_app (m' := [(n0, meetOf (meetMap ts) cs)])] at h
          · rw [List.lookup_cons, show (n == n0) = false from beq_eq_false_iff_ne.mpr (Ne.symm hne)] at h
            cases h
          · intro hk
            obtain ⟨p, hp, rfl⟩ := List.mem_map.mp hk
            have : ∀ (m : List (Str × Bool)), p ∈ m → m.lookup p.1 ≠ none := fun m => by
              induction m with
              | nil => intro h; cases h
              | cons q r ih =>
                intro hq
                rw [List.lookup_cons]
                split
                · intro h; cases h
                · rename_i e
                  rcases List.mem_cons.1 hq with rfl | hq
                  · simp at e
                  · exact ih hq
            exact this _ hp e
        | some b =>
          rw [lookup_left e] at h
          exact h
      obtain ⟨t, ht, hr, hl⟩ := ih n h1
      refine ⟨t, List.mem_append.mpr (.inl ht), ?_, hl⟩
      unfold reach at hr ⊢
      rw [List.foldr_append, List.foldr_cons, List.foldr_nil, reachStep_out (by simpa using hne)]
      exact hr
    · rw [lookup_app (by rw [meetMap_keys]; exact hm), List.lookup_cons] at h
      split at h
      · rename_i e
        have e : n = n0 := beq_iff_eq.mp e
        subst e
        have h2 : meetOf (meetMap ts) cs = true := by simpa using h
        unfold meetOf at h2
        rw [Bool.or_eq_true] at h2
        rcases h2 with h2 | h2
        · exact ⟨(n, cs), by simp, foldr_keep _ (by simp), h2⟩
        · rw [List.any_eq_true] at h2
          obtain ⟨c, hc', h3⟩ := h2
          rw [Bool.and_eq_true] at h3
          obtain ⟨t, ht, hr, hl⟩ := ih c.target h3.2
          refine ⟨t, List.mem_append.mpr (.inl ht), ?_, hl⟩
          unfold reach at hr ⊢
          rw [List.foldr_append, List.foldr_cons, List.foldr_nil, reachStep_in (by simp)]
          refine foldr_sub (fun x hx => ?_) _ hr
          rw [List.mem_singleton.1 hx]
          exact List.mem_append.mpr (.inr (List.mem_map.mpr ⟨c, List.mem_filter.mpr ⟨hc', h3.1⟩, rfl⟩))
      · rw [List.lookup_nil] at h
        cases h
theorem heavy_of {ts : Tabs} (g : GoodTabs ts) {c : Col} (hl : c.isLink = true) (h : meets ts c.target = true) : isHeavy ts c = true := by
  obtain ⟨t, ht, hr, hls⟩ := meets_heavy g _ h
  unfold isHeavy
  rw [hl, Bool.true_and, List.any_eq_true]
  exact ⟨t, ht, by rw [decide_eq_true hr, hls]; rfl⟩
theorem all_one {α : Type} {l : List α} {f : α} (nd : l.Nodup) (hf : f ∈ l) (h : ∀ x ∈ l, x = f) : l = [f] := by
  cases l with
  | nil => cases hf
  | cons a r =>
    have ea := h a List.mem_cons_self
    subst ea
    cases r with
    | nil => rfl
    | cons b r =>
      have eb := h b (by simp)
      subst eb
      exact absurd (List.nodup_cons.mp nd).1 (by simp)
/-- what the rule of listed tables asks, of the columns that are left -/
theorem allowed_r6 {ts : Tabs} {cs : List Col} (g : GoodTabs ts) (pre : PreCols ts cs) : Rule6 ts (allowed ts cs) := by
  intro c hc hl hm hne
  have hv := heavy_of g hl hm
  have nd2 := pre.allowed.nd
  rcases allowed_eq ts cs with ⟨e, h1 | h1⟩ | ⟨f, hf, e⟩
  · rw [e] at hne
    exact absurd h1 hne
  · rw [e] at hc
    have : cs.any (isHeavy ts) = true := List.any_eq_true.mpr ⟨c, hc, hv⟩
    rw [h1] at this
    cases this
  · have hf' := List.mem_filter.mp hf
    have hfl : f.isLink = true := by
      cases ef : f.lst with
      | none => rw [ef] at hf'; cases hf'.2
      | some l => exact lst_link ef
    have look : ∀ c' ∈ allowed ts cs, c' = f ∨ c'.isLink = false ∨ (c'.lst = none ∧ isHeavy ts c' = false) := fun c' hc' => by
      rw [e] at hc'
      obtain ⟨c0, h0, es⟩ := List.mem_filterMap.mp hc'
      unfold allowStep at es
      split at es
      · rename_i ho
        cases es
        rcases ho with ho | ho
        · exact .inr (.inl ho)
        · exact .inl ho
      · rename_i ho
        split at es
        · cases es
        · rename_i hh
          cases es
          refine .inr (.inr ⟨bare_lst c0, ?_⟩)
          have e1 : isHeavy ts c0.bare = isHeavy ts c0 := by unfold isHeavy; rw [bare_link, bare_target]
          rw [e1]
          exact Bool.eq_false_iff.mpr hh
    have ecf : c = f := by
      rcases look c hc with h | h | ⟨_, h⟩
      · exact h
      · rw [hl] at h; cases h
      · rw [hv] at h; cases h
    subst ecf
    refine all_one ?_ (List.mem_filter.mpr ⟨hc, hf'.2⟩) fun x hx => ?_
    · exact List.Pairwise.filter _ ((List.pairwise_map.mp nd2).imp fun hn e => hn (congrArg Col.name e))
    · obtain ⟨hx1, hx2⟩ := List.mem_filter.mp hx
      rcases look x hx1 with h | h | ⟨h, _⟩
      · exact h
      · cases ex : x.lst with
        | none => rw [ex] at hx2; cases hx2
        | some l => rw [lst_link ex] at h; cases h
      · rw [h] at hx2; cases hx2
theorem IsName.ok {x : Str} (h : IsName x) : SOk x := SOk.low h.1.2.2
theorem GoodTabs.names {ts : Tabs} (g : GoodTabs ts) : ∀ t ∈ ts, IsName t.1 := by
  induction g with
  | nil => exact fun t h => absurd h List.not_mem_nil
  | snoc g hn hx hc ih =>
    intro t ht
    rcases List.mem_append.1 ht with h | h
    · exact ih t h
    · rw [List.mem_singleton.1 h]
      exact hn
theorem GoodTabs.cols {ts : Tabs} (g : GoodTabs ts) : ∀ t ∈ ts, t.2.length ≤ 6 := by
  induction g with
  | nil => exact fun t h => absurd h List.not_mem_nil
  | snoc g hn hx hc ih =>
    intro t ht
    rcases List.mem_append.1 ht with h | h
    · exact ih t h
    · rw [List.mem_singleton.1 h]
      exact hc.few
theorem GoodTabs.few {ts : Tabs} (g : GoodTabs ts) (h : ts.length ≤ 20) : Few ts := ⟨h, fun t ht => Nat.le_trans (g.cols t ht) (by omega)⟩
theorem PreCols.ok {ts : Tabs} {cs : List Col} (g : GoodTabs ts) (h : PreCols ts cs) : ∀ c ∈ cs, c.Ok := fun c hc => by
  have h1 := (h.nm c hc).ok
  cases c with
  | plain f n => exact h1
  | word n o => exact h1
  | link n t o l =>
    refine ⟨h1, ?_, fun x e => (h.ls _ hc x e).ok⟩
    have h2 : t ∈ ts.map (·.1) := h.tg _ hc rfl
    obtain ⟨t', ht', rfl⟩ := List.mem_map.mp h2
    exact (g.names t' ht').ok
/-- one more column -/
theorem PreCols.snoc {ts : Tabs} {cs : List Col} {c : Col} (h : PreCols ts cs) (hn : IsName c.name) (hx : c.name ∉ cs.map Col.name) (ht : c.isLink = true → c.target ∈ ts.map (·.1))
    (hl : ∀ l, c.lst = some l → IsName l ∧ some l ∉ namesTaken ts cs c.target) : PreCols ts (cs ++ [c]) := by
  refine ⟨fun c' hc' => ?_, ?_, fun c' hc' hk => ?_, fun c' hc' l e => ?_, ?_, fun c' hc' l e t ht' => ?_⟩
  · rcases List.mem_append.mp hc' with h1 | h1
    · exact h.nm c' h1
    · rw [List.mem_singleton.1 h1]; exact hn
  · rw [List.map_append, List.map_cons, List.map_nil]
    refine List.nodup_append.mpr ⟨h.nd, by simp, fun a ha b hb e => ?_⟩
    rw [List.mem_singleton.1 hb] at e
    exact hx (e ▸ ha)
  · rcases List.mem_append.mp hc' with h1 | h1
    · exact h.tg c' h1 hk
    · rw [List.mem_singleton.1 h1] at hk ⊢; exact ht hk
  · rcases List.mem_append.mp hc' with h1 | h1
    · exact h.ls c' h1 l e
    · rw [List.mem_singleton.1 h1] at e; exact (hl l e).1
  · refine List.pairwise_append.mpr ⟨h.fr, by simp, fun a ha b hb hk et l e1 e2 => ?_⟩
    rw [List.mem_singleton.1 hb] at et e1
    refine (hl l e1).2 (List.mem_append.mpr (.inr ?_))
    unfold linkLists
    exact List.mem_map.mpr ⟨a, List.mem_filter.mpr ⟨ha, by rw [hk, Bool.true_and]; exact decide_eq_true et⟩, e2⟩
  · rcases List.mem_append.mp hc' with h1 | h1
    · exact h.old c' h1 l e t ht'
    · rw [List.mem_singleton.1 h1] at e ⊢
      exact fun z => (hl l e).2 (List.mem_append.mpr (.inl (List.mem_flatMap.mpr ⟨t, ht', z⟩)))
theorem PreCols.nil (ts : Tabs) : PreCols ts [] := ⟨fun _ h => absurd h List.not_mem_nil, List.nodup_nil, fun _ h => absurd h List.not_mem_nil, fun _ h => absurd h List.not_mem_nil, List.Pairwise.nil, fun _ h => absurd h List.not_mem_nil⟩
/-! ### tables as data -/
def tData (t : Str × List Col) : PyData := .tuple [.str t.1, .list (t.2.map Col.data)]
theorem TabsV.dp {K : PySem.W.Frag} {H : Hp} {vs : List V} {ts : Tabs} (h : TabsV H vs ts) : DpAll K H vs (ts.map tData) := by
  induction h with
  | nil => exact .nil
  | cons h _ ih =>
    obtain ⟨a, p, rfl, ha, ⟨cvs, hp, hc⟩⟩ := h
    exact .cons (.tup (SqT.of ha) (.cons (.str _) (.cons (.lst (SqL.of hp) (ColsV.dp hc)) .nil))) ih
theorem GoodTabs.oks {ts : Tabs} (g : GoodTabs ts) : ∀ t ∈ ts, ∀ c ∈ t.2, c.Ok := by
  induction g with
  | nil => exact fun t h => absurd h List.not_mem_nil
  | snoc g hn hx hc ih =>
    intro t ht
    rcases List.mem_append.1 ht with h | h
    · exact ih t h
    · rw [List.mem_singleton.1 h]
      exact hc.toPreCols.ok g
theorem shapedL_tabs {ts : Tabs} (h1 : ∀ t ∈ ts, SOk t.1) (h2 : ∀ t ∈ ts, ∀ c ∈ t.2, c.Ok) : PyData.canLayAll0 (ts.map tData) = true ∧ PyData.depthAll (ts.map tData) ≤ 62 := by
  induction ts with
  | nil => exact ⟨rfl, by show 0 ≤ 62; omega⟩
  | cons t r ih =>
    obtain ⟨i1, i2⟩ := ih (fun t ht => h1 t (List.mem_cons_of_mem _ ht)) (fun t ht => h2 t (List.mem_cons_of_mem _ ht))
    have s1 : PyData.strOk t.1 = true := h1 t List.mem_cons_self
    have s2 := shapedL_cols (h2 t List.mem_cons_self)
    have d2 : ∀ cs : List Col, PyData.depthAll (cs.map Col.data) ≤ 2 := fun cs => by
      induction cs with
      | nil => show 0 ≤ 2; omega
      | cons c r ih =>
        have d1 : PyData.depth c.data ≤ 2 := by
          cases c with
          | plain f n => simp [Col.data, Col.ds, PyData.depth, PyData.depthAll]
          | word n o => simp [Col.data, Col.ds, PyData.depth, PyData.depthAll]
          | link n t o l => cases l <;> simp [Col.data, Col.ds, dOpt, PyData.depth, PyData.depthAll]
        rw [List.map_cons]
        simp only [PyData.depthAll]
        omega
    have d3 := d2 t.2
    unfold SeqAt.shaped at s2
    rw [Bool.and_eq_true] at s2
    refine ⟨?_, ?_⟩
    · rw [List.map_cons]
      unfold tData
      simp only [PyData.canLayAll0, PyData.canLay0, s1, Bool.true_and, Bool.and_true]
      rw [Bool.and_eq_true]
      exact ⟨by have := s2.1; simp only [PyData.canLay0] at this; exact this, i1⟩
    · rw [List.map_cons]
      unfold tData
      simp only [PyData.depthAll, PyData.depth]
      unfold tData at i2
      omega
theorem shaped_tabs {ts : Tabs} (g : GoodTabs ts) : SeqAt.shaped (.list (ts.map tData)) = true := by
  obtain ⟨h1, h2⟩ := shapedL_tabs (fun t ht => (g.names t ht).ok) g.oks
  unfold SeqAt.shaped
  rw [Bool.and_eq_true, decide_eq_true_eq]
  exact ⟨by simp only [PyData.canLay0]; exact h1, by simp only [PyData.depth]; omega⟩
theorem eqv_tnil (ts : Tabs) : PyData.eqv (.list (ts.map tData)) (.list []) = ts.isEmpty := by
  cases ts with
  | nil => simp [PyData.eqv, PyData.eqvAll]
  | cons c r => simp [PyData.eqv, PyData.eqvAll]
/-! ### promises of the two that draw -/
def spDrawColumns (K : PySem.W.Frag) : Sp := fun vs H Q _ => ∃ (b p : Addr) (ts : Tabs) (most : Int) (n : Nat), vs = [.ref b, .ref p, .int most] ∧ BagAt H b n ∧ n < 80000000 ∧ TabsR K (del b H) p ts ∧ GoodTabs ts ∧ ts.length ≤ 6 ∧ 0 ≤ most ∧ most ≤ 6 ∧
  ∀ (q : Addr) (H' : Hp) (cs : List Col), ColsAt (del b H') q cs → GoodCols ts cs → BagAt H' b (n + 200) → Ex (del b H) H' → Q (.ref q) H'
def spDrawTables (K : PySem.W.Frag) : Sp := fun vs H Q _ => ∃ (b : Addr) (least most : Int) (n : Nat), vs = [.ref b, .int least, .int most] ∧ BagAt H b n ∧ n < 70000000 ∧ 1 ≤ least ∧ least ≤ most ∧ most ≤ 6 ∧
  ∀ (q : Addr) (H' : Hp) (ts : Tabs), TabsAt (del b H') q ts → GoodTabs ts → least ≤ ts.length → (ts.length : Int) ≤ most → BagAt H' b (n + 2000) → Ex (del b H) H' → Q (.ref q) H'
end LP
namespace PySem
open Sem (wp)
set_option maxHeartbeats 1300000 in
theorem meets_enum_one {v : Value} {o : Obj} {H : Heap → Prop} (B : Begins v o H) :
    Meets (Builtin.«enumerate.__new__» ⟨[.type "enumerate", v], []⟩) (fun _ R s => H s.heap ∧
      R (.ok (.ret (.ref (s.heap.push o).objs.size))) { s with heap := (s.heap.push o).push { cls := .type "enumerate", data := .fields #[.none, .bool false, .ref s.heap.objs.size, rawInt 0, .none, .none] } }) :=
  .of_wp fun prog w A R st h => by
    obtain ⟨hp, g, d, tk, os⟩ := st; obtain ⟨h1, h⟩ := h
    have hsub := sub_enumerate
    have q1 : ∀ {A' : Around}
            {E : Value → Shared → Prop} {Q : Value → Shared → Prop}, Q (.ref hp.objs.size) ⟨hp.push o, g, d, tk, os⟩ → wpAny (model prog w) A' (pyIter v) Q E ⟨hp, g, d, tk, os⟩ :=
      fun q => B.iter prog w _ _ ⟨hp,
              g, d, tk, os⟩ _ h1 q
    wp_walk using q1
    refine wpAny_stack_any fun st0 => wpAny_pure ?_
    split
    · rename_i c _ _ _ _ _
      cases (c ==
              Value.type "enumerate")
      · wp_walk using q1
        exact ⟨_, rfl, h⟩
      · wp_walk using q1
        exact ⟨_, rfl, h⟩
    · wp_walk using q1
      exact ⟨_, rfl, h⟩
section
variable {prog : Program}
        {w : World} {A : Around} {E : Value → Shared → Prop} {s : Shared}
theorem call_enum_tuple {l : Addr} {items : Array Value} {Q : Value → Shared → Prop} (hL : s.heap.IsTuple l items)
    (h : ∀ h', IsEnum h' (s.heap.objs.size + 1) s.heap.objs.size 0 .none → h'.IsTupleIter s.heap.objs.size l 0 → h'.objs.size = s.heap.objs.size + 2 →
      (∀ b o,
              s.heap.get? b = some o → h'.get? b = some o) → Q (.ref (s.heap.objs.size + 1)) { s with heap := h' }) :
    wpAny (model prog w) A (call (.type "enumerate") [Value.ref l]) Q E s := by
  refine callType_new F.called_enumerate (by decide) (F.typeCall_enumerate_1 _) (F.newCall_enumerate_1 _)
    (fun obj => F.args_object_init_2 obj _) F.entry_enumerate_new (meets_enum_one (begins_tuple l items)) ⟨hL, ?_⟩
  have hz : (s.heap.push { cls := .type "tuple_iterator", data := .fields #[.ref l, .int 0 0] }).objs.size = s.heap.objs.size + 1 := Heap.size_push ..
  show _ ∧ _
  rw [hz]
  have he : IsEnum ((s.heap.push { cls := .type "tuple_iterator", data := .fields #[.ref l, .int 0 0] }).push
      { cls :=
              .type "enumerate", data := .fields #[.none, .bool false, .ref s.heap.objs.size, rawInt 0, .none, .none] }) (s.heap.objs.size + 1) s.heap.objs.size 0 .none := by
    have := Heap.get?_push_size (s.heap.push { cls := .type "tuple_iterator", data := .fields #[.ref l, .int 0 0] })
      (o := { cls :=
              .type "enumerate", data := .fields #[.none, .bool false, .ref s.heap.objs.size, rawInt 0, .none, .none] }) rfl
    rw [hz] at this; exact this
  refine ⟨⟨_,
          he, rfl⟩, h _ he ⟨_, Heap.get?_push_of_some _ (Heap.get?_push_size _ rfl), rfl, rfl⟩ (by rw [Heap.size_push, hz]) fun b o x => Heap.get?_push_of_some _ (Heap.get?_push_of_some _ x)⟩
end
end PySem
namespace LP
open PySem L2
/-- the tuple at a, each item in a new pair -/
def Iteu (K : PySem.W.Frag) (a : Addr) : It :=
  ⟨fun i H => ∃ (xs : List V) (x : V), SqT K H a xs ∧ xs[i]? = some x, fun i H v H' => ∃ T x, v = .ref T ∧ H T = none ∧ H' = upd H T (.tup [.int (i : Nat), x]) ∧ ∀ xs, SqT K H a xs → xs[i]? = some x, fun i H => ∃ xs : List V, SqT K H a xs ∧ xs.length = i⟩
theorem turn_enumT {P : Program} {w : World} {K : PySem.W.Frag} {elts : List Expr} {kk : Nat} {tpos : Pos} (a e it : Addr) :
    Turn P w K (.Tuple elts kk tpos) (Iteu K a) [e, it] e (fun i h => (∃ old, IsEnum h e it ((i : Nat) : Int) old) ∧ h.IsTupleIter it a i ∧ e ≠ it ∧ a ≠ it ∧ e ≠ a) where
  mem := by simp
  obj := fun i h st b hb => by
    obtain ⟨⟨old,
            he⟩, ⟨o, ho, hc, hd⟩, _⟩ := st
    have e' : b =
            e ∨ b = it := by simpa using hb
    rcases e' with z | z
    · rw [z]
      exact ⟨_, he, fun v q => nomatch q⟩
    · rw [z]
      exact ⟨o, ho, fun v q => by rw [hd] at q; cases q⟩
  keep := fun i h h' st k => let ⟨⟨old,
          he⟩, hi, hne⟩ := st; ⟨⟨old, k e (by simp) _ he⟩, hi.at fun o q => k it (by simp) o q, hne⟩
  item := by
    intro X hP hw hK hc i pins s σ H E I hf st hg; subst hP hw hK
    obtain ⟨⟨old, he⟩, hit, hne, hai, hea⟩ := st
    obtain ⟨xs, x, hq, hx⟩ := hg
    obtain ⟨its,
            rv, p, hz⟩ := I.tuple hq
    obtain ⟨u,
            hu, ru⟩ := rv.get hx
    have hel : e <
            s.heap.objs.size := Heap.lt_size he
    have hil : it <
            s.heap.objs.size := by obtain ⟨_, q, _⟩ := hit; exact Heap.lt_size q
    have pt : s.heap.IsTuple a its.toArray := p
    have hhd : X.A.in1.handled = none := I.ok.hd hc
    have hlt : i < its.toArray.size := by
      have := (List.getElem?_eq_some_iff.mp hu).1
      simpa using this
    refine wpAny_pyNext_enum_itemD (Draws.tuple hhd it a hai its.toArray) he ⟨hit, pt⟩ hlt hne (by simp [hne, hea]) fun y h' tk hy ho hst hT hsz hk => ?_
    have ey : y = u := by
      have q : its.toArray[i]? = some y := hy
      have q2 : its.toArray[i]? = some u := by simpa using hu
      exact Option.some.inj (q.symm.trans q2)
    subst ey
    refine ⟨_, rfl, wpAny_letOwnedTupleGo_enum (s := { s with heap := h', toks := tk + 1 }) ho fun h'' he' sb => ?_⟩
    have hT2 : h''.get? s.heap.objs.size = some { cls := .type "tuple", data := .seq #[.int i tk, y] } := (sb.2 _ (Nat.ne_of_gt hel)).trans hT
    have new : ObjOk X.prog X.w
            (upd H s.heap.objs.size (.tup [.int (i : Nat), x])) h'' s.heap.objs.size (.tup [.int (i : Nat), x]) :=
      ⟨by show 2 ≤ sizeLine; decide, [.int i tk, y], .cons ⟨_, rfl⟩ (.cons ru .nil), ⟨_, hT2, rfl, _, rfl⟩⟩
    have I1 : Inv X pins σ (upd H s.heap.objs.size (.tup [.int (i : Nat), x])) { s with heap := h'', toks := tk + 1 } :=
      I.turnedNew
              (ch := [e, it]) (fun b ob hb q => (sb.2 b (fun z => hb (by simp [z]))).trans (hk b ob (fun z => hb (by simp [z])) (fun z => hb (by simp [z])) q)) hf (Nat.le_refl _) new
    refine ⟨.ref s.heap.objs.size, _, I1, rfl, ⟨_, x, rfl, I.hok.fresh (Nat.le_refl _), rfl, fun ys hy => by rw [I.tuple_inj hy hq]; exact hx⟩, ⟨⟨y, ?_⟩, hst.1.at fun o q => (sb.2 it (Ne.symm hne)).trans q, hne, hai, hea⟩, fun b hb => ?_⟩
    · have e1 :
            ((i + 1 : Nat) : Int) = (i : Int) + 1 := by omega
      rw [e1]; exact he'
    · have hb' : b <
            s.heap.objs.size := by
        have e' : b =
                e ∨ b = it := by simpa using hb
        rcases e' with z | z
        · rw [z]; exact hel
        · rw [z]; exact hil
      rw [upd_ne
              (Nat.ne_of_lt hb')]
      exact (hf b hb).1
  done := by
    intro X hP hw hK hc i pins s σ H E I hf st hg; subst hP hw hK
    obtain ⟨⟨old, he⟩, hit, hne, hai, hea⟩ := st
    obtain ⟨xs, hq, hx⟩ := hg
    obtain ⟨its,
            rv, p, hz⟩ := I.tuple hq
    obtain ⟨f0,
            f1, f2, f3, f4, f5⟩ := hf it (by simp)
    have hl := rv.length
    have pt : s.heap.IsTuple a its.toArray := p
    have hhd : X.A.in1.handled = none := I.ok.hd hc
    have hn : its.toArray.size = i := by simp; omega
    have hst : s.heap.IsTupleIter it a its.toArray.size ∧ s.heap.IsTuple a its.toArray := by rw [hn]; exact ⟨hit, pt⟩
    refine wpAny_pyNext_enum_endD (Draws.tuple hhd it a hai its.toArray) he hst fun h' eb => ⟨rfl, I.turned (t' := s.toks) (fun b o hb q => eb b o hb q) f0 f1 f3 f4 f5⟩
  self := fun A i s Q E st h => let ⟨⟨_,
          he⟩, _⟩ := st; wpAny_pyIter_enum he h
def kEnumT (K : PySem.W.Frag) (vs : List V) (H1 : Hp) (R : It → Hp → Prop) : Prop := ∃ a xs, vs = [.ref a] ∧ SqT K H1 a xs ∧ R (Iteu K a) H1
def iEnumT (K : PySem.W.Frag) (ta : TA) : TI := fun σ H R => ta σ H fun vs H1 => kEnumT K vs H1 R
theorem pi_enumT {X : Cx} {e : Expr} {ta : TA} {p pos tpos : Pos} {elts : List Expr} {kk : Nat} (hg : Gl X "enumerate") (hm : X.mg "enumerate" = none) (ha : PA X [e] ta) (hs : starEach [e] X.env = [(false, eval e X.env)] := by rfl) :
    PI X (.Tuple elts kk tpos) (.Call (.Name "enumerate" p) [e] [] pos) (iEnumT X.K ta) := by
  refine ⟨fun pins s σ H R I h => ?_⟩; refine PyProof.Rows.Call_ (ld_blt I hg hm PyProof.Rows.boot_enumerate (PyProof.Rows.callWith_type1 (thn (ha.run pos pins s σ H _ I h) fun us s1 ⟨vs, H1, I1, r1, q1⟩ => ?_) hs rfl))
  obtain ⟨a,
          xs, ex, hq, q⟩ := q1
  subst ex
  cases r1 with
  | cons r rr =>
    cases rr
    cases r
    obtain ⟨its, rv, p', hz⟩ := I1.tuple hq
    have pt : s1.heap.IsTuple a its.toArray := p'
    have hal : a < s1.heap.objs.size := by obtain ⟨_, q, _⟩ := pt; exact Heap.lt_size q
    refine call_enum_tuple pt fun h' he hit hsz hk => wpAny_pyIter_enum he ?_
    have I2 : Inv X pins σ H1 { s1 with heap :=
            h' } := I1.kept (t' := s1.toks) hk
    refine ⟨s1.heap.objs.size + 1, [s1.heap.objs.size + 1, s1.heap.objs.size], _, _, H1, rfl, I2, turn_enumT a (s1.heap.objs.size + 1) s1.heap.objs.size, ⟨⟨.none, he⟩, hit, Nat.succ_ne_self _, Nat.ne_of_lt hal, Nat.ne_of_gt (Nat.lt_succ_of_lt hal)⟩, fun b hb => ?_, q⟩
    have e' : b =
            s1.heap.objs.size + 1 ∨ b = s1.heap.objs.size := by simpa using hb
    have hle : s1.heap.objs.size ≤
            b := by
      rcases e' with z | z
      · rw [z]
        exact Nat.le_add_right _ _
      · rw [z]; exact Nat.le_refl _
    exact Inv.fpOk I1 hle (I1.hok.fresh hle)
section
variable {X : Cx} {K : PySem.W.Frag} {e : Expr} {ta : TA} {p pos tpos : Pos} {elts : List Expr} {kk : Nat}
theorem pi_enumTK (hK : X.K = K) (hg : Gl X "enumerate") (hm : X.mg "enumerate" = none) (ha : PA X [e] ta) (hs : starEach [e] X.env = [(false, eval e X.env)] := by rfl) :
    PI X (.Tuple elts kk tpos) (.Call (.Name "enumerate" p) [e] [] pos) (iEnumT K ta) := hK ▸ pi_enumT hg hm ha hs
theorem pi_enumK (hK : X.K = K) (hg : Gl X "enumerate") (hm : X.mg "enumerate" = none) (ha : PA X [e] ta) (hs : starEach [e] X.env = [(false, eval e X.env)] := by rfl) :
    PI X (.Tuple elts kk tpos) (.Call (.Name "enumerate" p) [e] [] pos) (iEnum K ta) := hK ▸ pi_enum hg hm ha hs
end
section
variable {K : PySem.W.Frag} {a : Addr} {xs : List V} {g : TG} {tb : TS} {D : Ends} {σ : L2.St} {H H1 : Hp}
def kEnum (K : PySem.W.Frag) (vs : List V) (H1 : Hp) (R : It → Hp → Prop) : Prop := ∃ a xs, vs = [.ref a] ∧ SqL K H1 a xs ∧ R (Ite K a) H1
theorem w_iEnum {ta : TA} {R : It → Hp → Prop} (h : ta σ H fun vs H1 => kEnum K vs H1 R) : iEnum K ta σ H R := h
theorem w_kEnum {R : It → Hp → Prop} (h : SqL K H a xs) (q : R (Ite K a) H) : kEnum K [V.ref a] H R := ⟨a, xs, rfl, h, q⟩
theorem w_iEnumT {ta : TA} {R : It → Hp → Prop} (h : ta σ H fun vs H1 => kEnumT K vs H1 R) : iEnumT K ta σ H R := h
theorem w_kEnumT {R : It → Hp → Prop} (h : SqT K H a xs) (q : R (Iteu K a) H) : kEnumT K [V.ref a] H R := ⟨a, xs, rfl, h, q⟩
/-- a for over enumerate(list): the pair at T is new -/
theorem loopE (Pv : List V → List V → L2.St → Hp → Prop) (h0 : Pv [] xs σ H) (hl : ∀ d r σ H, d ++ r = xs → Pv d r σ H → SqL K H a xs)
    (hs : ∀ d y r σ H T, d ++ y :: r = xs → H T = none → Pv d (y :: r) σ H → g (.ref T) σ (upd H T (.tup [.int (d.length : Nat), y])) fun σ2 H2 => tb { D with nx := Pv (d ++ [y]) r, ct := Pv (d ++ [y]) r, bk := D.nx } σ2 H2) (hd : ∀ σ H, Pv xs [] σ H → D.nx σ H) :
    ∃ W : Nat →
            Nat → L2.St → Hp → Prop, (∃ m, W 0 m σ H) ∧ ∀ i m σ H, W i m σ H →
      ((Ite K a).stop i H ∧ D.nx σ H) ∨ ((Ite K a).go i H ∧ ∃ N : L2.St → Hp → Prop, (∀ σ' H', N σ' H' → ∃ m', m' < m ∧ W (i + 1) m' σ' H') ∧ ∀ x H', (Ite K a).yld i H x H' → g x σ H' fun σ2 H2 => tb { D with nx := N, ct := N, bk := D.nx } σ2 H2) := by
  refine ⟨fun i m σ H => m = xs.length - i ∧ i ≤ xs.length ∧ Pv (xs.take i) (xs.drop i) σ H, ⟨xs.length, by simp, Nat.zero_le _, by simpa using h0⟩, ?_⟩
  rintro i m σ H ⟨rfl, hi, p⟩
  have q := hl _ _ σ H (List.take_append_drop i xs) p
  by_cases hlt : i < xs.length
  · have hx : xs[i]? = some xs[i] := by simp [hlt]
    refine .inr ⟨⟨xs, xs[i], q, hx⟩, fun σ H => Pv (xs.take (i + 1)) (xs.drop (i + 1)) σ H, fun σ' H' p' => ⟨xs.length - (i + 1), by omega, rfl, hlt, p'⟩, fun x H' y => ?_⟩
    obtain ⟨T, x, rfl, hT, rfl, y⟩ := y
    have ex : x = xs[i] := by
      have z := y xs q
      rw [hx] at z
      exact (Option.some.inj z).symm
    have e1 : xs.drop i = x :: xs.drop (i + 1) := by
      rw [List.drop_eq_getElem_cons hlt, ex]
    have e2 : xs.take (i + 1) = xs.take i ++ [x] := by
      rw [List.take_succ, hx, ex]
      rfl
    have z := hs (xs.take i) x (xs.drop (i + 1)) σ H T (by rw [← e1]; exact List.take_append_drop i xs) hT (by rw [← e1]; exact p)
    rw [← e2, List.length_take, Nat.min_eq_left (Nat.le_of_lt hlt)] at z
    exact z
  · refine .inl ⟨⟨xs, q, by omega⟩, hd σ H ?_⟩
    have : i = xs.length := by omega
    rw [this, List.take_length, List.drop_length] at p
    exact p
/-- a for over enumerate(tuple): the pair at T is new -/
theorem loopET (Pv : List V → List V → L2.St → Hp → Prop) (h0 : Pv [] xs σ H) (hl : ∀ d r σ H, d ++ r = xs → Pv d r σ H → SqT K H a xs)
    (hs : ∀ d y r σ H T, d ++ y :: r = xs → H T = none → Pv d (y :: r) σ H → g (.ref T) σ (upd H T (.tup [.int (d.length : Nat), y])) fun σ2 H2 => tb { D with nx := Pv (d ++ [y]) r, ct := Pv (d ++ [y]) r, bk := D.nx } σ2 H2) (hd : ∀ σ H, Pv xs [] σ H → D.nx σ H) :
    ∃ W : Nat →
            Nat → L2.St → Hp → Prop, (∃ m, W 0 m σ H) ∧ ∀ i m σ H, W i m σ H →
      ((Iteu K a).stop i H ∧ D.nx σ H) ∨ ((Iteu K a).go i H ∧ ∃ N : L2.St → Hp → Prop, (∀ σ' H', N σ' H' → ∃ m', m' < m ∧ W (i + 1) m' σ' H') ∧ ∀ x H', (Iteu K a).yld i H x H' → g x σ H' fun σ2 H2 => tb { D with nx := N, ct := N, bk := D.nx } σ2 H2) := by
  refine ⟨fun i m σ H => m = xs.length - i ∧ i ≤ xs.length ∧ Pv (xs.take i) (xs.drop i) σ H, ⟨xs.length, by simp, Nat.zero_le _, by simpa using h0⟩, ?_⟩
  rintro i m σ H ⟨rfl, hi, p⟩
  have q := hl _ _ σ H (List.take_append_drop i xs) p
  by_cases hlt : i < xs.length
  · have hx : xs[i]? = some xs[i] := by simp [hlt]
    refine .inr ⟨⟨xs, xs[i], q, hx⟩, fun σ H => Pv (xs.take (i + 1)) (xs.drop (i + 1)) σ H, fun σ' H' p' => ⟨xs.length - (i + 1), by omega, rfl, hlt, p'⟩, fun x H' y => ?_⟩
    obtain ⟨T, x, rfl, hT, rfl, y⟩ := y
    have ex : x = xs[i] := by
      have z := y xs q
      rw [hx] at z
      exact (Option.some.inj z).symm
    have e1 : xs.drop i = x :: xs.drop (i + 1) := by
      rw [List.drop_eq_getElem_cons hlt, ex]
    have e2 : xs.take (i + 1) = xs.take i ++ [x] := by
      rw [List.take_succ, hx, ex]
      rfl
    have z := hs (xs.take i) x (xs.drop (i + 1)) σ H T (by rw [← e1]; exact List.take_append_drop i xs) hT (by rw [← e1]; exact p)
    rw [← e2, List.length_take, Nat.min_eq_left (Nat.le_of_lt hlt)] at z
    exact z
  · refine .inl ⟨⟨xs, q, by omega⟩, hd σ H ?_⟩
    have : i = xs.length := by omega
    rw [this, List.take_length, List.drop_length] at p
    exact p
end
section
variable {K : PySem.W.Frag} {σ : L2.St} {H : Hp} {Q : VK} {v : V} {ta tb tc : TE} {D : Ends} {a C dx : Addr} {kvs : List (Key × V)} {k : Str} {fs : List (Str × V)} {f m : Str} {t : TA} {sp : Sp} {dvs : List V} {E : XK}
theorem w_fldT (h : ta σ H fun x H1 => ∃ a C dx fs v, x = .ref a ∧ H1 a = some (.ins C dx fs) ∧ Cls K C ∧ NoAttr K C f ∧ fs.lookup f = some v ∧ Q v H1) : tFld K ta f σ H Q := h
theorem w_kFld {z : V → Prop} (e : H a = some (.ins C dx fs)) (c : Cls K C) (n : NoAttr K C f) (l : fs.lookup f = some v) (q : z v) : ∃ a' C dx fs v, V.ref a = .ref a' ∧ H a' = some (.ins C dx fs) ∧ Cls K C ∧ NoAttr K C f ∧ fs.lookup f = some v ∧ z v := ⟨a, C, dx, fs, v, rfl, e, c, n, l, q⟩
theorem w_dnotin (h : ta σ H fun y H1 => tb σ H1 fun x H2 => ∃ a o, x = .ref a ∧ DGet H2 a y o ∧ Q (.bl (!o.isSome)) H2) : tDNotIn ta tb σ H Q := h
theorem w_kNin {z : V → Prop} (h : H a = some (.dK kvs)) (q : z (.bl (!(valV kvs (Sum.inr k : Key)).isSome))) : ∃ a' o, V.ref a = .ref a' ∧ DGet H a' (.str k) o ∧ z (.bl (!o.isSome)) := ⟨a, _, rfl, DGet.k (k := Sum.inr k) h, q⟩
theorem w_kG {z : V → Prop} (h : H a = some (.dK kvs)) (e : valV kvs (Sum.inr k : Key) = some v) (q : z v) : ∃ a' v', V.ref a = .ref a' ∧ DGet H a' (.str k) (some v') ∧ z v' := ⟨a, v, rfl, e ▸ DGet.k (k := Sum.inr k) h, q⟩
theorem w_rU {g : Int → V} {i : Int} (q : Q (g i) H) : rU g (.int i) H Q := ⟨i, rfl, q⟩
theorem w_neg (h : ta σ H fun x H1 => rU (fun i => .int (-i)) x H1 Q) : tUn (rU fun i => .int (-i)) ta σ H Q := h
theorem w_methT (h : ta σ H fun x H1 => ∃ a dx fs, x = .ref a ∧ H1 a = some (.ins C dx fs) ∧ fs.lookup m = none ∧ t σ H1 fun vs H2 => sp (x :: (vs ++ dvs)) H2 Q E) : tMeth C m sp dvs E ta t σ H Q := h
theorem w_kMeth {z : Prop} (e : H a = some (.ins C dx fs)) (l : fs.lookup m = none) (q : z) : ∃ a' dx fs, V.ref a = .ref a' ∧ H a' = some (.ins C dx fs) ∧ fs.lookup m = none ∧ z := ⟨a, dx, fs, rfl, e, l, q⟩
end
section
variable {X : Cx} {K : PySem.W.Frag} {A : Around} {j : Nat}
theorem op_inDK (hK : X.K = K) (hu : X.A.units + 65 < cLine) : OpR X (compareOp .In) (rInD K) := hK ▸ op_inD hu
theorem hu65 (hr : Room j A) : A.units + 65 < cLine := by have := hr.un; omega
end
end LP
namespace LP
open PySem L2
open Evl (Ex)
def tJn (ts : List TE) : TE := fun σ H Q => tJs ts Str.empty σ H fun out H1 => Q (.str out) H1
def kFmt (x : V) (H1 : Hp) (Q : VK) : Prop := (∃ y : Str, x = .str y ∧ y.length ≤ sizeLine ∧ Q (.str y) H1) ∨ ∃ i : Int, x = .int i ∧ i.natAbs.log2 < 1920 ∧ Q (.str (toString i)) H1
section
variable {X : Cx} {v1 v2 : Expr} {rest : List Expr} {ts : List TE} {pos : Pos} {t te : TE} {σ : L2.St} {H : Hp} {Q : VK} {acc y : Str}
theorem pe_joinedN (h : PJ X (v1 :: v2 :: rest) ts) : PE X (.JoinedStr (v1 :: v2 :: rest) pos) (tJn ts) := pe_joined h
theorem w_jn (h : tJs ts Str.empty σ H fun out H1 => Q (.str out) H1) : tJn ts σ H Q := h
theorem w_jcons {q : Str → Hp → Prop} (h : t σ H fun x H1 => ∃ y : Str, x = .str y ∧ (acc ++ y).length ≤ sizeLine ∧ tJs ts (acc ++ y) σ H1 q) : tJs (t :: ts) acc σ H q := h
theorem w_jnil {q : Str → Hp → Prop} (h : q acc H) : tJs [] acc σ H q := h
theorem w_jstr {q : Str → Prop} (hz : (acc ++ y).length ≤ sizeLine) (h : q y) : ∃ y' : Str, V.str y = .str y' ∧ (acc ++ y').length ≤ sizeLine ∧ q y' := ⟨y, rfl, hz, h⟩
theorem w_fmt (h : te σ H fun x H1 => kFmt x H1 Q) : tFmt te σ H Q := h
theorem w_kfmt (hz : y.length ≤ sizeLine) (h : Q (.str y) H) : kFmt (.str y) H Q := .inl ⟨y, rfl, hz, h⟩
def kKeys (x : V) (H1 : Hp) (R : It → Hp → Prop) : Prop := ∃ d o, x = .ref d ∧ ((∃ kvs, H1 d = some (.frz o (.dK kvs)) ∧ R (Itk d o kvs) H1) ∨ ∃ kvs, H1 d = some (.frz o (.dT kvs)) ∧ R (Itkt d o kvs) H1)
theorem w_iKeys {R : It → Hp → Prop} (h : te σ H fun x H1 => kKeys x H1 R) : iKeys te σ H R := h
theorem w_kKeys {R : It → Hp → Prop} {d : Addr} {o : Obj} {kvs : List (Key × V)} (h : H d = some (.frz o (.dK kvs))) (q : R (Itk d o kvs) H) : kKeys (.ref d) H R := ⟨d, o, rfl, .inl ⟨kvs, h, q⟩⟩
end
theorem len_cat (x y : Str) : (x ++ y).length = x.length + y.length := by
  show (x.cps ++ y.cps).size = _
  rw [Array.size_append]
  rfl
theorem lenE : (Str.empty).length = 0 := rfl
theorem lenS1 : (Str.ofString " ").length = 1 := by decide
theorem lenS2 : (Str.ofString "?").length = 1 := by decide
theorem lenS3 : (Str.ofString "").length = 0 := by decide
theorem lenS4 : (Str.ofString " to ").length = 4 := by decide
theorem lenS5 : (Str.ofString " as ").length = 4 := by decide
theorem lenS6 : (Str.ofString "table ").length = 6 := by decide
theorem lenS7 : (Str.ofString "user ").length = 5 := by decide
theorem small_le {n : Nat} (h : n ≤ 100000) : n ≤ sizeLine := Nat.le_trans h (by decide)
section
variable {g : TG} {tb : TS} {D : Ends} {σ : L2.St} {H : Hp} {d : Addr} {o : Obj} {kvs : List (Key × V)}
/-- a for over the keys of a locked dict -/
theorem loopK (Pv : List (Key × V) → List (Key × V) → L2.St → Hp → Prop) (h0 : Pv [] kvs σ H) (hl : ∀ d' r σ H, d' ++ r = kvs → Pv d' r σ H → H d = some (.frz o (.dK kvs)))
    (hs : ∀ d' y r σ H, d' ++ y :: r = kvs → Pv d' (y :: r) σ H → g (kV y.1) σ H fun σ2 H2 => tb { D with nx := Pv (d' ++ [y]) r, ct := Pv (d' ++ [y]) r, bk := D.nx } σ2 H2) (hd : ∀ σ H, Pv kvs [] σ H → D.nx σ H) :
    ∃ W : Nat →
            Nat → L2.St → Hp → Prop, (∃ m, W 0 m σ H) ∧ ∀ i m σ H, W i m σ H →
      ((Itk d o kvs).stop i H ∧ D.nx σ H) ∨ ((Itk d o kvs).go i H ∧ ∃ N : L2.St → Hp → Prop, (∀ σ' H', N σ' H' → ∃ m', m' < m ∧ W (i + 1) m' σ' H') ∧ ∀ x H', (Itk d o kvs).yld i H x H' → g x σ H' fun σ2 H2 => tb { D with nx := N, ct := N, bk := D.nx } σ2 H2) := by
  refine ⟨fun i m σ H => m = kvs.length - i ∧ i ≤ kvs.length ∧ Pv (kvs.take i) (kvs.drop i) σ H, ⟨kvs.length, by simp, Nat.zero_le _, by simpa using h0⟩, ?_⟩
  rintro i m σ H ⟨rfl, hi, p⟩
  have q := hl _ _ σ H (List.take_append_drop i kvs) p
  by_cases hlt : i < kvs.length
  · refine .inr ⟨⟨q, hlt⟩, fun σ H => Pv (kvs.take (i + 1)) (kvs.drop (i + 1)) σ H, fun σ' H' p' => ⟨kvs.length - (i + 1), by omega, rfl, hlt, p'⟩, fun x H' y => ?_⟩
    obtain ⟨e, k, v, hx, rfl⟩ := y
    subst e
    have e0 : kvs[i] = (k, v) := (List.getElem?_eq_some_iff.mp hx).2
    have e1 : kvs.drop i = (k, v) :: kvs.drop (i + 1) := by
      rw [List.drop_eq_getElem_cons hlt, e0]
    have e2 : kvs.take (i + 1) = kvs.take i ++ [(k, v)] := by
      rw [List.take_succ, hx]
      rfl
    have z := hs (kvs.take i) (k, v) (kvs.drop (i + 1)) σ H' (by rw [← e1]; exact List.take_append_drop i kvs) (by rw [← e1]; exact p)
    rw [← e2] at z
    exact z
  · refine .inl ⟨⟨q, by omega⟩, hd σ H ?_⟩
    have : i = kvs.length := by omega
    rw [this, List.take_length, List.drop_length] at p
    exact p
end
theorem w_sfld {K : PySem.W.Frag} {σ : L2.St} {H : Hp} {ta tv : TE} {f : Str} {D : Ends} (h : tv σ H fun y H1 => ta σ H1 fun x H2 => ∃ a C dx fs, x = .ref a ∧ H2 a = some (.ins C dx fs) ∧ Cls K C ∧ NoAttr K C f ∧ fs.length < 1000 ∧ D.nx σ (upd H2 a (.ins C dx (putF f y fs)))) : sFld K ta tv f D σ H := h
theorem w_kSfld {K : PySem.W.Frag} {H : Hp} {a C dx : Addr} {fs : List (Str × V)} {f : Str} {y : V} {z : Hp → Prop} (e : H a = some (.ins C dx fs)) (c : Cls K C) (n : NoAttr K C f) (l : fs.length < 1000) (q : z (upd H a (.ins C dx (putF f y fs)))) :
    ∃ a' C dx fs, V.ref a = .ref a' ∧ H a' = some (.ins C dx fs) ∧ Cls K C ∧ NoAttr K C f ∧ fs.length < 1000 ∧ z (upd H a' (.ins C dx (putF f y fs))) := ⟨a, C, dx, fs, rfl, e, c, n, l, q⟩
theorem w_dnew {σ : L2.St} {H : Hp} {Q : VK} (h : ∀ d, H d = none → Q (.ref d) (upd H d (.dK []))) : tDNewK σ H Q := h
theorem ps_fldK {X : Cx} {K : PySem.W.Frag} {o value : Expr} {ta tv : TE} {f : Str} {pos pos' : Pos} (hK : X.K = K) (ha : PE X o ta) (hv : PE X value tv) (hs : swapsWith value (some (.Attribute o f pos')) pos.line X.env = pure false) : PS X (.Assign [.Attribute o f pos'] value pos) (sFld K ta tv f) := hK ▸ ps_fld ha hv hs
theorem w_kI2 {H : Hp} {a : Addr} {kvs : List (Key × V)} {k : Str} {z : Option V → Prop} (h : H a = some (.dK kvs)) (q : z (valV kvs (Sum.inr k : Key))) : ∃ a' o, V.ref a = .ref a' ∧ DGet H a' (.str k) o ∧ z o := ⟨a, _, rfl, DGet.k (k := Sum.inr k) h, q⟩
end LP
namespace LP
open PySem L2
open PySem.W (takerIn hasDictIn excOver excInitIn)
/-! ### own exceptions over LookupError -/
def bmL : List Value := [.type "LookupError", .type "Exception", .type "BaseException", .type "object"]
structure OexL (K : PySem.W.Frag) (C : Addr) : Prop where
  cls : excInitIn K C bmL "LookupError.__new__" = true
  ov : excOver K C bmL = true
  hd : hasDictIn K C = true
  sa : PySem.W.findIn K
          (.ref C) "__setattr__" = some (some (.builtin "object.__setattr__"))
  exC : PySem.W.subIn K
          (.ref C) (.type "BaseException") = some true
  tyC : PySem.W.typeIn K
          (.ref C) = some (.type "type")
  kC : PySem.W.keepIn K
          (.ref C) = true
section
variable {X : Cx} {pins : List (Addr × Obj)} {σ : L2.St} {H : Hp} {s : Shared} {a C : Addr} {f : Str} {y : V} {u : Value} {Q : Unit → Shared → Prop} {E : Value → Shared → Prop} {A : Around}
theorem ostL_new (T : OexL X.K C) (I : Inv X pins σ H s) (e : H a = some (exo a C none)) (hno : NoAttr X.K C f) (ry : RelV y u)
    (h : ∀ dx s', H dx = none → dx ≠ a →
      Inv X pins σ (upd (upd H dx (exd dx [(f, y)])) a (exo a C (some dx))) s' → Q () s') : wpAny (model X.prog X.w) A (setAttr (.ref a) f u) Q E s := by
  obtain ⟨t1,
          ho⟩ := exo_at I.hok e
  obtain ⟨cd, hc, hd'⟩ := PySem.W.any_some T.hd
  have hn : H s.heap.objs.size =
          none := I.hok.fresh (Nat.le_refl _)
  have hna : s.heap.objs.size ≠ a := fun z => by rw [z, e] at hn; cases hn
  refine PySem.W.set_plain (od := none) I.kIn ⟨ho, rfl, rfl, trivial⟩ T.sa ?_
  refine PySem.W.osa_openX (s := { s with toks := s.toks + 1 }) (od := none) PySem.F.store_LookupError I.kIn ⟨ho, rfl, rfl, trivial⟩ T.ov hno.taker fun b => ?_
  refine wpAny_bind (wpAny_pure (wpAny_bind (PySem.W.instanceDict_exc (s := { s with toks := s.toks + 1 }) ho (PySem.W.looks_clsIn I.kIn hc) hd' ?_)))
  show wpAny _ _ (Builtin.ObjectAttr.storeInDict s.heap.objs.size (.str f s.toks) f u) _ _ _
  have old : ∀ b o, s.heap.get? b = some o → (s.heap.push (PySem.W.dictOf [] 0)).get? b = some o := fun b o q => Heap.get?_push_of_some _ q
  have at1 : (s.heap.push (PySem.W.dictOf [] 0)).get? s.heap.objs.size = some (PySem.W.dictOf [] 0) := Heap.get?_push_size _ rfl
  have void : (s.heap.push (PySem.W.dictOf [] 0)).Ns s.heap.objs.size (fun _ => none) := ⟨_, #[], _, at1, rfl, (fun _ q => absurd q (by simp)), fun _ => rfl⟩
  have J1 : Inv X pins σ (upd H s.heap.objs.size (exd s.heap.objs.size [])) { s with heap := s.heap.push (PySem.W.dictOf [] 0) } :=
    I.laid (t' := s.toks) old (Nat.le_refl _) (exd_ok (Heap.Ns1.of_empty void) fun _ => True.intro)
  have ea1 : (upd H s.heap.objs.size (exd s.heap.objs.size [])) a = some (exo a C none) := by rw [upd_ne (Ne.symm hna)]; exact e
  have ho1 := old _ _ ho
  generalize hG : (s.heap.push (PySem.W.dictOf [] 0)).update a (fun o => { o with dict := some s.heap.objs.size }) = G
  have hxG : G.get? a = some { cls := .ref C, dict := some s.heap.objs.size, data := .fields #[.ref t1, .none, .none, .none, .bool false, .none] } := by
    rw [← hG]
    exact Heap.get?_update_self _ ho1 rfl
  have keepG : ∀ b o, b ≠ a → (s.heap.push (PySem.W.dictOf [] 0)).get? b = some o → G.get? b = some o := fun b o n q => by
    rw [← hG]
    exact (Heap.get?_update_ne _ _ _ _ n).trans q
  have J2 : Inv X pins σ (upd (upd H s.heap.objs.size (exd s.heap.objs.size [])) a (exo a C (some s.heap.objs.size))) { s with heap := G } :=
    J1.write (t' := s.toks) (x := a) (e := a) (by rw [ea1]; exact True.intro) (.inl rfl) keepG ⟨_, hxG⟩ (exo_ok hxG)
  have voidG : G.Ns s.heap.objs.size (fun _ => none) := ⟨_, #[], _, keepG _ _ hna at1, rfl, (fun _ q => absurd q (by simp)), fun _ => rfl⟩
  refine PySem.HandSPX.store_in_new voidG fun h' tk' hn' hs => ?_
  have ed2 : (upd (upd H s.heap.objs.size (exd s.heap.objs.size [])) a (exo a C (some s.heap.objs.size))) s.heap.objs.size = some (exd s.heap.objs.size []) := by rw [upd_ne hna]; exact upd_same
  have there : ∃ o, h'.get? s.heap.objs.size = some o := let ⟨o, _, _, q, _⟩ := hn'; ⟨o, q⟩
  have J3 := J2.write (t' := tk') (x := s.heap.objs.size) (e := s.heap.objs.size) (o := exd s.heap.objs.size [(f, y)]) (by rw [ed2]; exact True.intro) (.inl rfl) (fun b o n q => (hs.2 b n).trans q) there
    (exd_ok hn' (relO_put (fs := []) ry fun _ => True.intro))
  have same : upd (upd (upd H s.heap.objs.size (exd s.heap.objs.size [])) a (exo a C (some s.heap.objs.size))) s.heap.objs.size (exd s.heap.objs.size [(f, y)]) = upd (upd H s.heap.objs.size (exd s.heap.objs.size [(f, y)])) a (exo a C (some s.heap.objs.size)) := by
    funext b
    by_cases q1 : b = s.heap.objs.size
    · rw [q1, upd_same, upd_ne hna, upd_same]
    · rw [upd_ne q1]
      by_cases q2 : b = a
      · rw [q2, upd_same, upd_same]
      · rw [upd_ne q2, upd_ne q1, upd_ne q2, upd_ne q1]
  rw [same] at J3
  exact h _ _ hn hna J3
end
def kOst (K : PySem.W.Frag) (f : Str) (y x : V) (H : Hp) (q : Hp → Prop) : Prop := ∃ a C : Addr, x = .ref a ∧ OexL K C ∧ NoAttr K C f ∧ H a = some (exo a C none) ∧ ∀ dx, H dx = none → dx ≠ a → q (upd (upd H dx (exd dx [(f, y)])) a (exo a C (some dx)))
/-- self.f = e, self an exception that is being made -/
def tOstL (K : PySem.W.Frag) (f : Str) (to te : TE) : TS := fun D σ H => te σ H fun y H1 => to σ H1 fun x H2 => kOst K f y x H2 (D.nx σ)
/-- C(e, ..), C over LookupError, its __init__ keeping sp -/
def tMkL (C : Addr) (sp : Sp) (ta : TA) : L2.St → Hp → XK → Prop := fun σ H Q => ta σ H fun vs H1 => vs.length ≤ 1000 ∧ ∀ a, H1 a = none →
  sp (.ref a :: vs) (upd H1 a (exo a C none)) (fun v H2 => v = .non ∧ ∃ (d : Addr) (fs : List (Str × V)), H2 a = some (exo a C (some d)) ∧ H2 d = some (exd d fs) ∧ H1 d = none ∧ Q (.ref C) (some d) (upd (L2.del H2 a) d (.xd fs))) (fun _ _ _ => False)
section
variable {X : Cx} {K : PySem.W.Frag} {o e : Expr} {es : List Expr} {to te : TE} {ta : TA} {f : Str} {p p' pos : Pos}
theorem ps_ostL (hK : X.K = K) (ho : PE X o to) (he : PE X e te) (hs : swapsWith e (some (.Attribute o f p')) pos.line X.env = pure false) : PS X (.Assign [.Attribute o f p'] e pos) (tOstL K f to te) := by
  subst hK
  refine ⟨fun pins s σ H D I h => plainObj_wpAny_Assign_Attribute (thn (he.run pins s σ H _ I h) fun v s1 hv => ?_) hs⟩
  obtain ⟨y, H1, I1, r1, q1⟩ := hv
  refine thn (ho.run pins s1 σ H1 _ I1 q1) fun u s2 hu => ?_
  obtain ⟨x, H2, I2, r2, a, C, ex, T, n, ea, q⟩ := hu
  subst ex
  cases (show u = Value.ref a from r2)
  exact ostL_new T I2 ea n r1 fun dx s' n ne J => ⟨σ, _, J, q dx n ne⟩
theorem pmk_L {x : Str} {C fI : Addr} {k : Nat} {fd : FuncData} {ps : List Str} {sp : Sp} (T : OexL X.K C) (iC : PySem.W.findIn X.K (.ref C) "__init__" = some (some (.ref fI))) (tI : PySem.W.typeIn X.K (.ref fI) = some (.type "function"))
    (F1 : FnOk X.prog X.w X.K X.mg X.base C8.CX0 k fI fd ps sp) (hr : Room (k + 1) X.A) (hb : Binds X.K fd ps []) (hg : Gl X x) (hm : X.mg x = some (.ref C)) (ha : PA X (e :: es) ta)
    (hdb :
            (x == ("__debug__" : Str)) = false := by decide) (he : starEach (e :: es) X.env = (false, eval e X.env) :: starEach es X.env := by rfl) (hpl : (backTo pos (starEach es X.env)).any (·.1) = false := by rfl) :
    PMk X (.Call (.Name x p) (e :: es) [] pos) (tMkL C sp ta) := by
  intro pins s σ H Q I h
  refine wpAny_Call_Name_kw
          (ld_glob I hg hm ?_ hdb)
  refine PySem.W.callWith_K (h₀ := X.base) I.ok.mod.kin T.kC (thn (ha.run pos pins s σ H _ I h) fun us s1 hu => ?_) he hpl
  obtain ⟨vs, H1, I1, r1, hz, q1⟩ := hu
  refine ⟨I1.kIn, ?_⟩
  show wpAny _ _
          (call (.ref C) us) _ _ _
  obtain ⟨hp,
          g, dr, tk, os⟩ := s1
  obtain ⟨nm, N, qn, bs, bm, hdct, sn, sub, ab, col, dd, k0, k1, k2, k3, k5, hC, hT⟩ := PySem.W.excInit_of I1.kIn T.cls
  have new : hp.objs.size ≤ hp.objs.size + 1 := Nat.le_succ _
  have hq := q1 _ (I1.hok.fresh new)
  have kk : ∀ b u, hp.get? b = some u → ((hp.push (PySem.W.kdv_tup us)).push (PySem.HandSPX.excO C hp.objs.size)).get? b = some u := fun b u z => Heap.get?_push_of_some _ (Heap.get?_push_of_some _ z)
  have hget :
          ((hp.push (PySem.W.kdv_tup us)).push (PySem.HandSPX.excO C hp.objs.size)).get? (hp.objs.size + 1) = some (PySem.HandSPX.excO C hp.objs.size) := by heap_get
  have I2 : Inv X pins σ (upd H1 (hp.objs.size + 1) (exo (hp.objs.size + 1) C none)) ⟨(hp.push (PySem.W.kdv_tup us)).push (PySem.HandSPX.excO C hp.objs.size), g, dr, tk, os⟩ := I1.laid (t' := tk) kk new (exo_ok hget)
  have r2 : Vals
          (V.ref (hp.objs.size + 1) :: vs) (Value.ref (hp.objs.size + 1) :: us) := .cons rfl r1
  have hl : (Value.ref (hp.objs.size + 1) :: us).length = ps.length := r2.length.symm.trans (F1.len _ _ _ _ hq)
  have hus : us.length ≤
          sizeLine := by
    rw [← Paired.length r1]
    exact Nat.le_trans hz (by decide)
  have bnd := hb _ (Value.ref (hp.objs.size + 1) :: us) I2.kIn (by rw [List.append_nil]; exact hl)
  rw [List.append_nil] at bnd
  have go := F1.run _ X.stack _ _ ⟨Value.ref (hp.objs.size + 1) :: us, []⟩ (Value.ref (hp.objs.size + 1) :: us) _ _ (fun _ _ _ => False) (hr.make C us []) (I2.env0.make C us []) bnd r2 hq
  refine wpAny_call (PySem.HandSPX.call_own PySem.F.excBase_LookupError hT hC (PySem.W.looks_findIn I1.kIn iC) (fun self => PySem.W.bind_fn I1.kIn self tI) hus (codeAny_mono go fun r s' hq' => ?_))
  cases r with
  | error er => exact hq'.elim
  | ok fl =>
    cases fl with
    | ret u =>
      obtain ⟨v,
              H2, os2, bare2, un2, hok2, rv, ev, d, fs, ea, ed, hd1, q2⟩ := hq'
      subst ev
      obtain ⟨h2,
              g2, d2, t2, os'⟩ := s'
      exact ⟨rv, mk_end (raises_own T.exC T.tyC) I1 new kk un2 hok2 os2 bare2 ea ed hd1 q2⟩
    | next => exact hq'.elim
    | brk => exact hq'.elim
    | cont => exact hq'.elim
end
/-- raise C(..) -/
def tRaiseL (C : Addr) (sp : Sp) (ta : TA) (E : XK) : TS := fun _ σ H => tMkL C sp ta σ H fun cls d H' => E cls d H'
theorem ps_raiseL {X : Cx} {ex : Expr} {C : Addr} {sp : Sp} {ta : TA} {E : XK} {pos : Pos} (hc : X.calm = true) (tk : Takes X fun cls d _ H => E cls d H) (h : PMk X ex (tMkL C sp ta)) : PS X (.Raise (some ex) none pos) (tRaiseL C sp ta E) := ps_raise hc tk h
theorem w_ostL {K : PySem.W.Frag} {f : Str} {to te : TE} {D : Ends} {σ : L2.St} {H : Hp} (h : te σ H fun y H1 => to σ H1 fun x H2 => kOst K f y x H2 (D.nx σ)) : tOstL K f to te D σ H := h
theorem w_raiseL {C : Addr} {sp : Sp} {ta : TA} {E : XK} {D : Ends} {σ : L2.St} {H : Hp} (h : ta σ H fun vs H1 => vs.length ≤ 1000 ∧ ∀ a, H1 a = none →
    sp (.ref a :: vs) (upd H1 a (exo a C none)) (fun v H2 => v = .non ∧ ∃ (d : Addr) (fs : List (Str × V)), H2 a = some (exo a C (some d)) ∧ H2 d = some (exd d fs) ∧ H1 d = none ∧ E (.ref C) (some d) (upd (L2.del H2 a) d (.xd fs))) (fun _ _ _ => False)) : tRaiseL C sp ta E D σ H := h
theorem fnX {P : Program} {w : World} {K : PySem.W.Frag} {mg : Str → Option Value} {base : Heap} {x qual : Str} {st : Stmt} {f : Addr} {fd : FuncData} {N ps : List Str} {k : Nat} {sp : Sp} (F : C8.Fun K x qual st f fd) (S : FnScope N ps (C8.fnScope st)) (len : ∀ vs H Q E, sp vs H Q E → vs.length = ps.length)
    (hb : ∀ (cdv : Value) (A : Around) (outer : List Env) (s : Shared) (H : Hp) (vs : List V) (Q : VK) (E : XK), Room k (A.deeper (PyProof.Rows.envOfC qual (C8.fnScope st) s.heap.objs.size f cdv)) → sp vs H Q E →
      ∃ t, PSs (cxOf (L2.CX P w) P w K mg base N qual (C8.fnScope st) f cdv A outer s H E) (C8.fnBody st) t ∧ t { nx := fun _ H' => Q .non H', rt := Q } (L2.start N vs) H) : FnOk P w K mg base (L2.CX P w) (k + 1) f fd ps sp := by
  obtain ⟨oc,
          od, dV, kV, doc, pm, an, cdv, ct, osl, rfl, lk, hcd⟩ := F.ex
  exact fn_of lk hcd S len fun A outer s H vs Q E hr hsp => hb cdv A outer s H vs Q E hr hsp
/-- what a class over LookupError with one field is, all in one -/
def spExI (C : Addr) (f : Str) : Sp := fun vs H Q _ => ∃ (a : Addr) (v : V), vs = [.ref a, v] ∧ H a = some (exo a C none) ∧ ∀ dx, H dx = none → dx ≠ a → Q .non (upd (upd H dx (exd dx [(f, v)])) a (exo a C (some dx)))
structure ExC (P : Program) (w : World) (K : PySem.W.Frag) (mg : Str → Option Value) (base : Heap) (x : Str) (C fI : Addr) (fd : FuncData) (ps : List Str) (k : Nat) (sp : Sp) : Prop where
  T : OexL K C
  iC : PySem.W.findIn K (.ref C) "__init__" = some (some (.ref fI))
  tI : PySem.W.typeIn K (.ref fI) = some (.type "function")
  F : FnOk P w K mg base C8.CX0 k fI fd ps sp
  b : Binds K fd ps []
  mgC : mg x = some (.ref C)
end LP
namespace LP
open PySem L2
/-! ### isinstance(e, ..), e an own exception that the suite holds, with its dict -/
structure ExcK (K : PySem.W.Frag) (D : Addr) : Prop where
  hg : PySem.W.findIn K
          (.ref D) "__getattribute__" = some (some (.builtin "BaseException.__getattribute__"))
  hk : PySem.W.findIn K
          (.ref D) "__getattr__" = some none
  hs : PySem.W.subIn K
          (.ref D) (.type "BaseException") = some true
  hc : (PySem.W.clsIn K D).isSome = true
  ha : PySem.W.findIn K
          (.ref D) "__class__" = some (some (.builtin "object.__class__"))
  hn : PySem.W.specialIn K
          (.builtin "object.__class__") "__get__" = some (some (.builtin "getset_descriptor.__get__"))
  ht : PySem.W.takesIn K
          (.builtin "object.__class__") = some true
  hm : PySem.W.mroIn K D
          (.type "object") = some true
def kDict (cls : Value) (d : Option Addr) (D : Addr) (H : Hp) : Prop := cls = .ref D ∧ ∃ (dd : Addr) (fs : List (Str × V)), d = some dd ∧ H dd = some (.xd fs)
/-- one class -/
def rIsX (K : PySem.W.Frag) (D a : Addr) (cls : Value) (d : Option Addr) : List V → Hp → VK → Prop := fun xs H Q => ∃ (c : V) (u : Value) (b : Bool), xs = [.ref a, c] ∧ kDict cls d D H ∧ ClsV c u ∧ PySem.W.kitOne K (.ref D) u = some b ∧ Q (.bl b) H
/-- a tuple of classes -/
def rIsXT (K : PySem.W.Frag) (D a : Addr) (cls : Value) (d : Option Addr) : List V → Hp → VK → Prop := fun xs H Q => ∃ (tp : Addr) (cs : List V) (us : List Value) (b : Bool), xs = [.ref a, .ref tp] ∧ kDict cls d D H ∧ H tp = some (.tup cs) ∧ Paired ClsV cs us ∧
  PySem.W.kitAny K (.ref D) us = some b ∧ Q (.bl b) H
section
variable {X : Cx} {a D : Addr} {oe : Obj} {cls : Value} {d : Option Addr} {pn pins : List (Addr × Obj)} {σ : L2.St} {H : Hp} {s : Shared}
theorem inst_x (I : Inv (X.suite a ((a, oe) :: pn)) pins σ H s) (k : kDict cls d D H) (hz : Zc cls d oe) (hf : ∃ vs, oe.data = .fields vs) : ∃ od, PySem.W.InstAt s.heap a oe D (some od) := by
  obtain ⟨ec, dd, fs, ed, ea⟩ := k
  subst ec ed
  obtain ⟨at_, _⟩ := I.pin (a, oe) (List.mem_append_left _ List.mem_cons_self)
  obtain ⟨vs, hv⟩ := hf
  have hx : ObjOk X.prog X.w H s.heap dd (.xd fs) := I.hok dd _ ea
  obtain ⟨mA, hns, _⟩ := hx
  obtain ⟨od, ho, _⟩ := lookIn_ns hns
  exact ⟨od, at_, hz.1, by unfold PySem.W.notCls; rw [hv] <;> rfl, by rw [hz.2]; exact ho⟩
theorem call_isX (C : ExcK X.K D) (hz : Zc cls d oe) (hf : ∃ vs, oe.data = .fields vs) : CallR (X.suite a ((a, oe) :: pn)) (.builtin "isinstance") (rIsX X.K D a cls d) := by
  intro pins s σ H xs us Q I r h; obtain ⟨c, u, b, rfl, k, cv, e, q⟩ := h
  obtain ⟨u1,
          u2, rfl, r1, r2⟩ := vals2 r
  cases (show u1 =
          Value.ref a from r1)
  have e2 := cv.eq r2
  subst e2
  obtain ⟨od, J⟩ := inst_x I k hz hf
  exact PySem.W.kia_one (PySem.W.kitx_exc C.hc C.hg C.hk C.hs C.ha C.hn C.ht C.hm) I.kIn J e (fun z => nomatch z) fun tk => ⟨.bl b, H, I.tok tk, rfl, q⟩
theorem call_isXT (C : ExcK X.K D) (hz : Zc cls d oe) (hf : ∃ vs, oe.data = .fields vs) : CallR (X.suite a ((a, oe) :: pn)) (.builtin "isinstance") (rIsXT X.K D a cls d) := by
  intro pins s σ H xs us Q I r h; obtain ⟨tp, cs, ws, b, rfl, k, hT, cv, e, q⟩ := h
  obtain ⟨u1,
          u2, rfl, r1, r2⟩ := vals2 r
  cases (show u1 =
          Value.ref a from r1)
  cases (show u2 =
          Value.ref tp from r2)
  obtain ⟨od, J⟩ := inst_x I k hz hf
  obtain ⟨_,
          its, rv, o, h1, h2, n, h3⟩ := (show ObjOk X.prog X.w H s.heap tp (.tup cs) from I.hok tp _ hT)
  have e3 := ClsV.all cv rv
  subst e3
  obtain ⟨oc, od', dt, sl⟩ := o
  simp only at h2 h3
  subst h2 h3
  exact PySem.W.kia_tup (PySem.W.kitx_exc C.hc C.hg C.hk C.hs C.ha C.hn C.ht C.hm) I.kIn J h1 e (fun z => nomatch z) fun tk => ⟨.bl b, H, I.tok tk, rfl, q⟩
end
end LP
namespace LP
open PySem L2
/-! ### an own exception over ValueError with two fields -/
def spEx2 (C : Addr) (f g : Str) : Sp := fun vs H Q _ => ∃ (a : Addr) (v u : V), vs = [.ref a, v, u] ∧ H a = some (exo a C none) ∧ ∀ dx, H dx = none → dx ≠ a → Q .non (upd (upd (upd H dx (exd dx [(f, v)])) a (exo a C (some dx))) dx (exd dx [(g, u), (f, v)]))
structure ExV (P : Program) (w : World) (K : PySem.W.Frag) (mg : Str → Option Value) (base : Heap) (x : Str) (C fI : Addr) (fd : FuncData) (ps : List Str) (k : Nat) (sp : Sp) : Prop where
  T : OexC K C
  iC : PySem.W.findIn K (.ref C) "__init__" = some (some (.ref fI))
  tI : PySem.W.typeIn K (.ref fI) = some (.type "function")
  F : FnOk P w K mg base C8.CX0 k fI fd ps sp
  b : Binds K fd ps []
  mgC : mg x = some (.ref C)
/-- self.f = e, self an exception that is being made -/
def kOs2 (K : PySem.W.Frag) (f : Str) (y x : V) (H : Hp) (q : Hp → Prop) : Prop := ∃ a C : Addr, x = .ref a ∧ OexC K C ∧ PySem.W.findIn K (.ref C) f = some none ∧
  ((H a = some (exo a C none) ∧ ∀ dx, H dx = none → dx ≠ a → q (upd (upd H dx (exd dx [(f, y)])) a (exo a C (some dx)))) ∨
    ∃ (dx : Addr) (fs : List (Str × V)), H a = some (exo a C (some dx)) ∧ H dx = some (exd dx fs) ∧ fs.length ≤ 900 ∧ q (upd H dx (exd dx ((f, y) :: fs))))
def tOs2 (K : PySem.W.Frag) (f : Str) (to te : TE) : TS := fun D σ H => te σ H fun y H1 => to σ H1 fun x H2 => kOs2 K f y x H2 (D.nx σ)
theorem ps_os2 {X : Cx} {K : PySem.W.Frag} {o e : Expr} {to te : TE} {f : Str} {p' pos : Pos} (hK : X.K = K) (ho : PE X o to) (he : PE X e te) (hs : swapsWith e (some (.Attribute o f p')) pos.line X.env = pure false := by rfl) : PS X (.Assign [.Attribute o f p'] e pos) (tOs2 K f to te) := hK ▸ ps_ost ho he hs
theorem w_os2 {K : PySem.W.Frag} {f : Str} {to te : TE} {D : Ends} {σ : L2.St} {H : Hp} (h : te σ H fun y H1 => to σ H1 fun x H2 => kOs2 K f y x H2 (D.nx σ)) : tOs2 K f to te D σ H := h
/-- C(..) that is raised -/
def tMkV (C : Addr) (sp : Sp) (ta : TA) : L2.St → Hp → XK → Prop := fun σ H Q => ta σ H fun vs H1 => vs.length ≤ 1000 ∧ ∀ a, H1 a = none →
  sp (.ref a :: (vs ++ [])) (upd H1 a (exo a C none)) (fun v H2 => v = .non ∧ ∃ (d : Addr) (fs : List (Str × V)), H2 a = some (exo a C (some d)) ∧ H2 d = some (exd d fs) ∧ H1 d = none ∧ Q (.ref C) (some d) (upd (L2.del H2 a) d (.xd fs))) (fun _ _ _ => False)
def tRaiseV (C : Addr) (sp : Sp) (ta : TA) (E : XK) : TS := fun _ σ H => tMkV C sp ta σ H fun cls d H' => E cls d H'
theorem pmk_V {X : Cx} {e : Expr} {es : List Expr} {ta : TA} {p pos : Pos} {x : Str} {C fI : Addr} {k j : Nat} {fd : FuncData} {ps : List Str} {sp : Sp} (c : ExV X.prog X.w X.K X.mg X.base x C fI fd ps k sp) (hr : Room j X.A) (hk : k + 1 ≤ j) (hg : Gl X x) (ha : PA X (e :: es) ta)
    (hdb :
            (x == ("__debug__" : Str)) = false := by decide) (he : starEach (e :: es) X.env = (false, eval e X.env) :: starEach es X.env := by rfl) (hpl : (backTo pos (starEach es X.env)).any (·.1) = false := by rfl) :
    PMk X (.Call (.Name x p) (e :: es) [] pos) (tMkV C sp ta) := pmk_oex (dvs := []) (ds := []) c.T c.iC c.tI c.F (hr.mono hk) c.b .nil C8.pass0 hg c.mgC ha hdb he hpl
theorem ps_raiseV {X : Cx} {ex : Expr} {C : Addr} {sp : Sp} {ta : TA} {E : XK} {pos : Pos} (hc : X.calm = true) (tk : Takes X fun cls d _ H => E cls d H) (h : PMk X ex (tMkV C sp ta)) : PS X (.Raise (some ex) none pos) (tRaiseV C sp ta E) := ps_raise hc tk h
theorem w_raiseV {C : Addr} {sp : Sp} {ta : TA} {E : XK} {D : Ends} {σ : L2.St} {H : Hp} (h : ta σ H fun vs H1 => vs.length ≤ 1000 ∧ ∀ a, H1 a = none →
    sp (.ref a :: (vs ++ [])) (upd H1 a (exo a C none)) (fun v H2 => v = .non ∧ ∃ (d : Addr) (fs : List (Str × V)), H2 a = some (exo a C (some d)) ∧ H2 d = some (exd d fs) ∧ H1 d = none ∧ E (.ref C) (some d) (upd (L2.del H2 a) d (.xd fs))) (fun _ _ _ => False)) : tRaiseV C sp ta E D σ H := h
/-- what a def wishes that may refuse with two values -/
def Bad2 (C : Addr) (f g : Str) (v u : V) (H : Hp) (E : XK) : Prop := ∀ (dd : Addr) (H' : Hp), (∀ b o, H b = some o → H' b = some o) → H' dd = some (.xd [(g, u), (f, v)]) → E (.ref C) (some dd) H'
theorem raised2 {H : Hp} {C : Addr} {f g : Str} {v u : V} {E : XK} (k : Bad2 C f g v u H E) (a : Addr) (ha : H a = none) : spEx2 C f g [.ref a, v, u] (upd H a (exo a C none))
    (fun x H2 => x = .non ∧ ∃ (d : Addr) (fs : List (Str × V)), H2 a = some (exo a C (some d)) ∧ H2 d = some (exd d fs) ∧ H d = none ∧ E (.ref C) (some d) (upd (L2.del H2 a) d (.xd fs))) (fun _ _ _ => False) := by
  refine ⟨a, v, u, rfl, upd_same, fun dx hdx ne => ⟨rfl, dx, _, by rw [upd_ne ne.symm]; exact upd_same, upd_same, ?_, ?_⟩⟩
  · rw [upd_ne ne] at hdx
    exact hdx
  · rw [upd_ne ne] at hdx
    refine k dx _ (fun b o hb => ?_) upd_same
    have b1 : b ≠ dx := ne_of_none hb hdx
    have b2 : b ≠ a := ne_of_none hb ha
    rw [upd_ne b1, L2.del_ne b2, upd_ne b1, upd_ne b2, upd_ne b1, upd_ne b2]
    exact hb
/-! ### calls that may raise -/
structure CalX (P : Program) (w : World) (K : PySem.W.Frag) (mg : Str → Option Value) (base : Heap) (k : Nat) (x : Str) (sp : Sp) : Prop where
  ex : ∃ (f : Addr) (fd : FuncData) (ps : List Str), FnOk P w K mg base (L2.CX P w) k f fd ps sp ∧ mg x = some (.ref f) ∧ PySem.W.keepIn K (.ref f) = true ∧ Binds K fd ps []
structure MakX (P : Program) (w : World) (K : PySem.W.Frag) (mg : Str → Option Value) (base : Heap) (k : Nat) (x : Str) (C : Addr) (sp : Sp) : Prop where
  ex : ∃ (f : Addr) (fd : FuncData) (ps : List Str), Mk K C f ∧ FnOk P w K mg base (L2.CX P w) k f fd ps sp ∧ mg x = some (.ref C) ∧ Binds K fd ps []
section
variable {X : Cx} {k j : Nat} {x : Str} {C : Addr} {sp : Sp} {E : XK} {e : Expr} {es : List Expr} {p pos : Pos} {t : TA}
theorem pe_cx (c : CalX X.prog X.w X.K X.mg X.base k x sp) (hr : Room j X.A) (hk : k ≤ j) (hx : Passes (L2.CX X.prog X.w) X E) (hg : Gl X x) (ha : PA X (e :: es) t)
    (hdb :
            (x == ("__debug__" : Str)) = false := by decide) (he : starEach (e :: es) X.env = (false, eval e X.env) :: starEach es X.env := by rfl) (hpl : (backTo pos (starEach es X.env)).any (·.1) = false := by rfl) :
    PE X (.Call (.Name x p) (e :: es) [] pos) (tCall sp [] E t) := by
  obtain ⟨f, fd, ps, F, hm, kp, b⟩ := c.ex
  exact pe_call F (hr.mono hk) hg hm kp b .nil hx ha hdb he hpl
theorem pe_mkx (c : MakX X.prog X.w X.K X.mg X.base k x C sp) (hr : Room j X.A) (hk : k + 1 ≤ j) (hx : Passes (L2.CX X.prog X.w) X E) (hg : Gl X x) (ha : PA X (e :: es) t)
    (hdb :
            (x == ("__debug__" : Str)) = false := by decide) (he : starEach (e :: es) X.env = (false, eval e X.env) :: starEach es X.env := by rfl) (hpl : (backTo pos (starEach es X.env)).any (·.1) = false := by rfl) :
    PE X (.Call (.Name x p) (e :: es) [] pos) (tMake C sp [] E t) := by
  obtain ⟨f, fd, ps, M, F, hm, b⟩ := c.ex
  exact pe_make M F (hr.mono hk) hg hm b .nil hx ha hdb he hpl
theorem passE {X : Cx} {E : XK} (tk : Takes X fun cls d _ H => E cls d H) : Passes (L2.CX X.prog X.w) X E := passes_call tk fun _ _ _ _ h => h
end
/-! ### the class, told by its record -/
def oxcB (K : PySem.W.Frag) (C : Addr) : Bool := match K.lookup C with
  | some ⟨.type "type",
          _, .cls cd, sl⟩ => (match cd.mro, sl.toList with
    | .ref C' :: bm, [_, _, _, _, some (.builtin n), _] => C' == C && (n == "ValueError.__new__" && (!cd.hasDel && (cd.hasDict && PySem.HandSPX.refsVE bm)))
    | _, _ => false)
  | _ => false
theorem oxcB_ok {K : PySem.W.Frag} {C : Addr} (q : oxcB K C = true) : ∃ nm qn N bs bm sn sub ab col dd k0 k1 k2 k3 k5, K.lookup C = some (PySem.excClassObj nm qn C N bs bm true sn sub ab col dd k0 k1 k2 k3 k5 "ValueError.__new__") ∧ PySem.HandSPX.refsVE bm = true := by
  unfold oxcB at q
  split at q
  · rename_i dd cd sl ho
    split at q
    · rename_i CR bm k0 k1 k2 k3 n k5 hm hs
      simp only [Bool.and_eq_true,
              beq_iff_eq, Bool.not_eq_true'] at q
      obtain ⟨rfl, rfl, hdel, hdc, hv⟩ := q
      obtain ⟨nm,
              bs, mro, ns, qn, hd, sn, sub, ab, col, del⟩ := cd
      dsimp only at hm hdel hdc
      subst hm hdel hdc
      have hsl : sl = #[k0, k1, k2, k3, some (.builtin "ValueError.__new__"), k5] := by
        obtain ⟨l⟩ := sl
        simp only at hs
        rw [hs]
      subst hsl
      exact ⟨nm, qn, ns, bs, bm, sn, sub, ab, col, dd, k0, k1, k2, k3, k5, ho, hv⟩
    · cases q
  · cases q
def oxvB (K : PySem.W.Frag) (x : Str) : Bool := oxcB K (He.ga K x) && (He.eqO (PySem.W.findIn K (.ref (He.ga K x)) "__setattr__") (some (some (.builtin "object.__setattr__"))) &&
  (decide (PySem.W.subIn K (.ref (He.ga K x)) (.type "BaseException") = some true) && (decide (PySem.W.typeIn K (.ref (He.ga K x)) = some (.type "type")) && PySem.W.keepIn K (.ref (He.ga K x)))))
theorem oxvB_ok {K : PySem.W.Frag} {x : Str} (h : oxvB K x = true) : OexC K (He.ga K x) := by
  obtain ⟨h1, h⟩ := He.ba h
  obtain ⟨h2, h⟩ := He.ba h
  obtain ⟨h3, h⟩ := He.ba h
  obtain ⟨h4, h5⟩ := He.ba h
  exact ⟨oxcB_ok h1, He.eqO_ok h2, of_decide_eq_true h3, of_decide_eq_true h4, h5⟩
end LP
namespace LP
open PySem L2
/-! ### an instance of an own class beside ==, !=, in len and str -/
section
variable {M : Model} {prog : Program} {w : World} {A : Around} {E : Value → Shared → Prop} {s : Shared} {K : PySem.W.Frag} {x C f : Addr} {ox : Obj} {od : Option Obj}
/-- a special name that a builtin stands for -/
theorem bound_blt {name : Str} {id : String} {us : List Value} {Q : Option Value → Shared → Prop} (X : K.In s.heap) (I : PySem.W.InstAt s.heap x ox C od) (hs : PySem.W.findIn K (.ref C) name = some (some (.builtin id)))
    (hb : ∀ self, bindSpecial (.builtin id) self = pure (.builtin id, [self])) (h : wpAny M A (call (.builtin id) (.ref x :: us)) (fun v => Q (some v)) E s) : wpAny M A (callSpecialIfBound? (.ref x) name us) Q E s := by
  unfold callSpecialIfBound? bindSpecialIfBound?
  have look := PySem.W.looks_findIn (M := M) X hs
  have done : wpAny M A (call (.builtin id) ([.ref x] ++ us) >>= fun v => pure (some v)) Q E s := wpAny_bind (wpAny_mono h (fun _ _ q => wpAny_pure q) fun _ _ q => q)
  have bnd : PySem.W.Looks M s.heap (bindSpecial (.builtin id) (.ref x)) (.builtin id, [.ref x]) := PySem.W.Looks.of_pure (hb _)
  refine wpAny_holding (wpAny_bind (wpAny_bind (wpAny_bind (I.type.here (look.here ?_)))))
  refine wpAny_bind
          (wpAny_askSetting (wpAny_ite ?_))
  split
  · exact wpAny_bind (bnd.here (wpAny_pure done))
  · exact wpAny_tryCatch (wpAny_bind (bnd.here (wpAny_pure done)))
/-- what is wanted of a truth value, turned about -/
def Turned (Q : Value → Shared → Prop) (v : Value) (s' : Shared) : Prop := ∃ b : Bool, v = .bool b ∧ Q (.bool (!b)) s'
theorem ne_call {b : Value} {Q : Value → Shared → Prop} (hu : A.in1.units < cLine) (X : K.In s.heap) (I : PySem.W.InstAt s.heap x ox C od) (hm : PySem.W.mroIn K C (.type "object") = some true) (he : PySem.W.findIn K (.ref C) "__eq__" = some (some (.ref f)))
    (hf : PySem.W.isFn K (.ref f) = true) (h : wpAny (model prog w) A.in1 (call (.ref f) [.ref x, b]) (Turned Q) E s) : wpAny (model prog w) A (call (.builtin "object.__ne__") [.ref x, b]) Q E s := by
  refine wpAny_call (codeAny_call_builtin F.cmp_object.ne.plain F.cmpEntry_ne (PySem.W.check_slot (owner := "object") (n := "__ne__") (by decide +kernel) (by decide +kernel) (I.type.andThen (PySem.W.looks_mroIn X hm)) (F.cmpArgs_ne _ _) ?_))
  unfold Builtin.«object.__ne__»; refine wpAny_bind (wpAny_pure ?_)
  refine wpAny_bind
          (m := cRoomFor _ _) (wpAny_cRoomFor hu ?_)
  refine wpAny_bind (m := callSpecialIfBound? (.ref x) (Str.ofString "__eq__") [b]) (PySem.W.ifBound_K X I he hf (wpAny_mono h (fun r s' q => ?_) fun _ _ q => q))
  obtain ⟨k, rfl, q⟩ := q
  exact wpAny_bind (wpAny_truthy_bool (wpAny_pure q))
end
/-! ### promises run below a builtin -/
section
variable {X : Cx} {CX : CXT} {k : Nat} {C g : Addr} {sp : Sp} {E : XK} {fd : FuncData} {ps : List Str} {pins : List (Addr × Obj)} {σ : L2.St} {H : Hp} {s : Shared} {us : List Value} {vs : List V} {Q : VK} {A : Around}
/-- a def is called somewhere below the running body -/
theorem run_in (sb : L2.Sub X k A) (F : FnOk X.prog X.w X.K X.mg X.base CX k g fd ps sp) (hb : Binds X.K fd ps []) (hx : Passes CX X E) (I : Inv X pins σ H s) (r : Vals vs us) (h : sp vs H Q E) : wpAny (model X.prog X.w) A (call (.ref g) us) (EP X pins σ Q) X.xe s := by
  have fr : A.frames = X.A.frames := sb.fr
  have env : Env0 X.prog X.w X.K X.mg X.base A X.stack s H := by
    obtain ⟨a1, a2, a3, a4, a5, a6, a7, a8⟩ := I.env0
    exact ⟨by rw [fr]; exact a1, a2, a3, a4, a5, a6, a7, a8⟩
  have many : us.length = ps.length := by rw [← r.length]; exact F.len _ _ _ _ h
  have to : BindsTo s fd ⟨us, []⟩ (ps.zip us) := by
    have z := hb s us I.kIn (by rw [List.append_nil]; exact many)
    rw [List.append_nil] at z
    exact z
  refine wpAny_call (codeAny_mono (F.run A X.stack s H ⟨us, []⟩ us vs Q E sb.room env to r h) fun out s' q => ?_)
  match out, q with
  | .ok (.ret u), q => exact I.after q
  | .error e, q => exact hx pins σ H s e s' I q
/-- the type of what stands on the right -/
def TyAt (K : PySem.W.Frag) (C : Addr) (H : Hp) (y : V) (tb : Value) : Prop :=
  (∃ b dx gs, y = .ref b ∧ H b = some (.ins C dx gs) ∧ tb = .ref C) ∨ (y = .non ∧ tb = .type "NoneType") ∨ (∃ i, y = .int i ∧ tb = .type "int") ∨ (∃ z, y = .str z ∧ tb = .type "str") ∨ ∃ b xs, y = .ref b ∧ SqL K H b xs ∧ tb = .type "list"
theorem ty_looks {y : V} {u tb : Value} (I : Inv X pins σ H s) (ry : RelV y u) (t : TyAt X.K C H y tb) : PySem.W.Looks (model X.prog X.w) s.heap (typeOf u) tb ∧ PySem.W.notFirst X.K C tb = true := by
  rcases t with ⟨b, dx, gs, rfl, hb, rfl⟩ | ⟨rfl, rfl⟩ | ⟨i, rfl, rfl⟩ | ⟨z, rfl, rfl⟩ | ⟨b, xs, rfl, hb, rfl⟩
  · cases (show u = Value.ref b from ry)
    obtain ⟨mB, O, _⟩ := ins_get I.hok hb
    obtain ⟨od, J, _⟩ := O.look
    exact ⟨J.type, by simp [PySem.W.notFirst]⟩
  · cases (show u = Value.none from ry)
    exact ⟨PySem.W.Looks.of_pure rfl, rfl⟩
  · obtain ⟨t, rfl⟩ := ry
    exact ⟨PySem.W.Looks.of_pure rfl, rfl⟩
  · obtain ⟨t, rfl⟩ := ry
    exact ⟨PySem.W.Looks.of_pure rfl, rfl⟩
  · cases (show u = Value.ref b from ry)
    obtain ⟨its, r, ht, hz⟩ := I.list hb
    obtain ⟨o, ho, hc⟩ := ht.isList.typeIs
    refine ⟨?_, rfl⟩
    rw [← hc]
    exact (PySem.W.Looks.ld (part := none) ho).andThen .now
def rOwnEq (C : Addr) (neg : Bool) (sp : Sp) (E : XK) (K : PySem.W.Frag) : R2 := fun x y H Q => ∃ a dx fs tb, x = .ref a ∧ H a = some (.ins C dx fs) ∧ TyAt K C H y tb ∧ sp [x, y] H (fun v H' => ∃ b, v = .bl b ∧ Q (.bl (if neg then !b else b)) H') E
theorem op_own_eq (hm : Meth X.K C "__eq__" g) (F : FnOk X.prog X.w X.K X.mg X.base CX k g fd ps sp) (hr : Room k X.A) (hb : Binds X.K fd ps []) (hx : Passes CX X E) : OpR X (compareOp .Eq) (rOwnEq C false sp E X.K) := by
  intro pins s σ H x y v u Q I rx ry ⟨a, dx, fs, tb, ex, e, t, q⟩
  subst ex
  cases (show v =
          Value.ref a from rx)
  obtain ⟨mA, O, _⟩ := ins_get I.hok e
  obtain ⟨od, J, _⟩ := O.look
  obtain ⟨lt, nf⟩ := ty_looks I ry t
  obtain ⟨m, hF⟩ := I.fr
  refine PySem.W.cmp_K (op := .Eq) hr.units0 hF I.ok.mod.kin J lt nf hm.at_ hm.fn (wpAny_mono (run_in (us := [.ref a, u]) (vs := [.ref a, y]) ⟨hr, rfl⟩ F hb hx I (.cons rfl (.cons ry .nil)) q) (fun r s1 z => ?_) fun _ _ z => z)
  obtain ⟨z, H1, I1, rz, b, ez, q1⟩ := z
  subst ez
  cases (show r = Value.bool b from rz)
  exact ⟨.bl b, H1, I1, rfl, q1⟩
/-- !=: the class has no __ne__ of its own -/
structure NoNe (K : PySem.W.Frag) (C : Addr) : Prop where
  ne : PySem.W.findIn K (.ref C) "__ne__" = some (some (.builtin "object.__ne__"))
  ob : PySem.W.mroIn K C (.type "object") = some true
theorem op_own_ne (nn : NoNe X.K C) (hm : Meth X.K C "__eq__" g) (F : FnOk X.prog X.w X.K X.mg X.base CX k g fd ps sp) (hr : Room (k + 2) X.A) (hb : Binds X.K fd ps []) (hx : Passes CX X E) : OpR X (compareOp .NotEq) (rOwnEq C true sp E X.K) := by
  intro pins s σ H x y v u Q I rx ry ⟨a, dx, fs, tb, ex, e, t, q⟩
  subst ex
  cases (show v =
          Value.ref a from rx)
  obtain ⟨mA, O, _⟩ := ins_get I.hok e
  obtain ⟨od, J, _⟩ := O.look
  obtain ⟨lt, nf⟩ := ty_looks I ry t
  have sb : L2.Sub X k X.A.in1 := L2.Sub.in1 ⟨hr.mono (by omega), rfl⟩
  have call := ne_call (A := X.A) (E := X.xe) (b := u) (Q := fun r s' => (∃ b : Bool, r = .bool b) ∧ EP X pins σ Q r s') sb.room.units0 I.kIn J nn.ob hm.at_ hm.fn (wpAny_mono (run_in (us := [.ref a, u]) (vs := [.ref a, y]) sb F hb hx I (.cons rfl (.cons ry .nil)) q) (fun r s1 z => by
    obtain ⟨z, H1, I1, rz, b, ez, q1⟩ := z
    subst ez
    cases (show r = Value.bool b from rz)
    exact ⟨b, rfl, ⟨_, rfl⟩, .bl !b, H1, I1, rfl, q1⟩) fun _ _ z => z)
  have one : wpAny (model X.prog X.w) X.A (tryCompare (.ref a) "__ne__" u) (fun r s' => ∃ v, r = some v ∧ EP X pins σ Q v s') X.xe s := by
    unfold tryCompare
    refine wpAny_bind (bound_blt I.kIn J nn.ne PySem.F.cmp_object.ne.bind (wpAny_mono call (fun v s' hv => ?_) fun _ _ e => e))
    obtain ⟨⟨b, rfl⟩, z⟩ := hv
    exact wpAny_pure ⟨_, rfl, z⟩
  show wpAny (model X.prog X.w) X.A (richCompare .NotEq (.ref a) u) (EP X pins σ Q) X.xe s
  unfold richCompare
  simp only [oneThing_ref]
  refine wpAny_holding (wpAny_bind (wpAny_cRoomFor hr.units0 ?_))
  refine wpAny_bind (J.type.here (wpAny_bind (lt.here ?_)))
  have last : wpAny (model X.prog X.w) X.A (tryCompare (.ref a) "__ne__" u) (fun r s' => ∃ v, r = some v ∧ wpAny (model X.prog X.w) X.A (pure v) (EP X pins σ Q) X.xe s') X.xe s := wpAny_mono one (fun r s' ⟨v, ev, hv⟩ => ⟨v, ev, wpAny_pure hv⟩) fun _ _ z => z
  split
  · rename_i ht
    have z : PySem.W.subIn X.K tb (.ref C) = some false := by
      rcases Bool.or_eq_true_iff.mp nf with z | z
      · rw [beq_iff_eq.mp z] at ht
        simp at ht
      · exact beq_iff_eq.mp z
    refine wpAny_bind ((PySem.W.looks_subIn I.kIn z).here ?_)
    rw [if_neg Bool.false_ne_true]; refine wpAny_bind (wpAny_mono last (fun r s' q => ?_) fun _ _ z => z)
    obtain ⟨v, rfl, q⟩ := q
    exact q
  · refine wpAny_bind
          (wpAny_pure ?_)
    rw [if_neg Bool.false_ne_true]; refine wpAny_bind (wpAny_mono last (fun r s' q => ?_) fun _ _ z => z)
    obtain ⟨v, rfl, q⟩ := q
    exact q
/-- len of it, its text -/
def rOwnLen (C : Addr) (sp : Sp) (E : XK) : List V → Hp → VK → Prop := fun us H Q => ∃ a dx fs, us = [.ref a] ∧ H a = some (.ins C dx fs) ∧ sp [.ref a] H (fun v H' => ∃ n : Nat, v = .int n ∧ n ≤ sizeLine ∧ Q (.int n) H') E
theorem call_own_len (hm : Meth X.K C "__len__" g) (F : FnOk X.prog X.w X.K X.mg X.base CX k g fd ps sp) (hr : Room (k + 1) X.A) (hb : Binds X.K fd ps []) (hx : Passes CX X E) : CallR X (.builtin "len") (rOwnLen C sp E) := by
  intro pins s σ H xs us Q I r ⟨a, dx, fs, ex, e, q⟩
  subst ex
  obtain ⟨u,
          rfl, ru⟩ := vals1 r
  cases (show u =
          Value.ref a from ru)
  obtain ⟨mA, O, _⟩ := ins_get I.hok e
  obtain ⟨od, J, _⟩ := O.look
  obtain ⟨m, hF⟩ := I.fr
  refine PySem.W.len_K hF I.ok.mod.kin J hm.at_ hm.fn (wpAny_mono (run_in (us := [.ref a]) (vs := [.ref a]) (L2.Sub.in1 ⟨hr, rfl⟩) F hb hx I (.cons rfl .nil) q) (fun w s1 z => ?_) fun _ _ z => z)
  obtain ⟨z, H1, I1, rz, n, ez, hn, q1⟩ := z
  subst ez
  obtain ⟨t, rfl⟩ := rz
  have big : sizeLine = 16777216 := sizeLine_eq
  exact ⟨⟨Int.natCast_nonneg n, by omega⟩, .int n, H1, I1.tok _, ⟨_, rfl⟩, q1⟩
def rOwnStr (C : Addr) (sp : Sp) (E : XK) : List V → Hp → VK → Prop := fun us H Q => ∃ a dx fs, us = [.ref a] ∧ H a = some (.ins C dx fs) ∧ sp [.ref a] H (fun v H' => ∃ z, v = .str z ∧ Q (.str z) H') E
theorem call_own_str (hm : Meth X.K C "__str__" g) (F : FnOk X.prog X.w X.K X.mg X.base CX k g fd ps sp) (hr : Room (k + 2) X.A) (hb : Binds X.K fd ps []) (hx : Passes CX X E) : CallR X (.type "str") (rOwnStr C sp E) := by
  intro pins s σ H xs us Q I r ⟨a, dx, fs, ex, e, q⟩
  subst ex
  obtain ⟨u,
          rfl, ru⟩ := vals1 r
  cases (show u =
          Value.ref a from ru)
  obtain ⟨mA, O, _⟩ := ins_get I.hok e
  obtain ⟨od, J, _⟩ := O.look
  have sb : L2.Sub X k X.A.in1.in1 := L2.Sub.in1 (L2.Sub.in1 ⟨hr, rfl⟩)
  refine PySem.W.kso_call sb.room.units0 I.kIn J hm.at_ hm.fn (wpAny_mono (run_in (us := [.ref a]) (vs := [.ref a]) sb F hb hx I (.cons rfl .nil) q) (fun w s1 z => ?_) fun _ _ z => z)
  obtain ⟨z, H1, I1, rz, n, ez, q1⟩ := z
  subst ez
  obtain ⟨t, rfl⟩ := rz
  exact ⟨.str n, H1, I1, ⟨_, rfl⟩, q1⟩
end
end LP
namespace LP
open PySem L2
open Evl (Ex)
/-! ### tables that may break the rule of lists -/
structure PreTab (ts : Tabs) (t : Str × List Col) : Prop where
  nm : IsName t.1
  fr : t.1 ∉ ts.map (·.1)
  pre : PreCols ts t.2
  few : t.2.length ≤ 6
inductive PreTabs : Tabs → Prop where
  | nil : PreTabs []
  | snoc {ts : Tabs} {t : Str × List Col} : PreTabs ts → PreTab ts t → PreTabs (ts ++ [t])
theorem PreTabs.split : ∀ {ts : Tabs}, PreTabs ts → ∀ (td : Tabs) (t : Str × List Col) (tr : Tabs), ts = td ++ t :: tr → PreTabs td ∧ PreTab td t := by
  intro ts g
  induction g with
  | nil => intro td t tr e; cases td <;> cases e
  | @snoc ts x g hx ih =>
    intro td t tr e
    rcases List.eq_nil_or_concat tr with rfl | ⟨tr', z, rfl⟩
    · have e2 : ts ++ [x] = td ++ [t] := e
      obtain ⟨rfl, e3⟩ := List.append_inj' e2 rfl
      cases e3
      exact ⟨g, hx⟩
    · have e2 : ts ++ [x] = (td ++ t :: tr') ++ [z] := by rw [e]; simp
      obtain ⟨e3, e4⟩ := List.append_inj' e2 rfl
      exact ih td t tr' e3
theorem PreTabs.mem {ts : Tabs} (g : PreTabs ts) : ∀ t ∈ ts, ∃ td, PreTab td t := fun t ht => by
  obtain ⟨td, tr, e⟩ := List.append_of_mem ht
  exact ⟨td, (g.split td t tr e).2⟩
theorem PreTabs.names {ts : Tabs} (g : PreTabs ts) : ∀ t ∈ ts, IsName t.1 := fun t ht => let ⟨_, h⟩ := g.mem t ht; h.nm
theorem PreTabs.cols {ts : Tabs} (g : PreTabs ts) : ∀ t ∈ ts, t.2.length ≤ 6 := fun t ht => let ⟨_, h⟩ := g.mem t ht; h.few
theorem PreTabs.fewT {ts : Tabs} (g : PreTabs ts) (h : ts.length ≤ 20) : Few ts := ⟨h, fun t ht => Nat.le_trans (g.cols t ht) (by omega)⟩
theorem PreTabs.nodup {ts : Tabs} (g : PreTabs ts) : (ts.map (·.1)).Nodup := by
  induction g with
  | nil => exact List.nodup_nil
  | snoc g hx ih =>
    rw [List.map_append]; rw [List.nodup_append]
    refine ⟨ih, by simp, fun a ha b hb => ?_⟩
    simp only [List.map_cons,
            List.map_nil, List.mem_singleton] at hb
    rw [hb]
    rintro rfl
    exact hx.fr ha
theorem PreTab.low {ts : Tabs} {t : Str × List Col} (g : PreTabs ts) (h : PreTab ts t) : ∀ c ∈ t.2, c.Ok := fun c hc => by
  have nm := h.pre.nm c hc
  cases c with
  | plain f n => exact nm.ok
  | word n o => exact nm.ok
  | link n tg o l =>
    obtain ⟨t2, h2, e2⟩ := List.mem_map.mp (h.pre.tg _ hc rfl)
    exact ⟨nm.ok, by rw [show tg = t2.1 from e2.symm]; exact (g.names t2 h2).ok, fun x hx => (h.pre.ls _ hc x hx).ok⟩
theorem PreTabs.oks {ts : Tabs} (g : PreTabs ts) : ∀ t ∈ ts, ∀ c ∈ t.2, c.Ok := fun t ht => by
  obtain ⟨td, tr, e⟩ := List.append_of_mem ht
  obtain ⟨g1, h1⟩ := g.split td t tr e
  exact h1.low g1
/-! ### heavy and meeting are the same -/
theorem reach_from {ts : Tabs} {f : List Str} {x : Str} (h : x ∈ ts.foldr reachStep f) : ∃ y ∈ f, x ∈ ts.foldr reachStep [y] := by
  induction ts generalizing x with
  | nil => exact ⟨x, h, by simp⟩
  | cons t r ih =>
    rw [List.foldr_cons] at h
    by_cases h1 : t.1 ∈ r.foldr reachStep f
    · rw [reachStep_in h1] at h
      rcases List.mem_append.1 h with h | h
      · obtain ⟨y, hy, hx⟩ := ih h
        refine ⟨y, hy, ?_⟩
        rw [List.foldr_cons]
        by_cases h2 : t.1 ∈ r.foldr reachStep [y]
        · rw [reachStep_in h2]; exact List.mem_append.mpr (.inl hx)
        · rw [reachStep_out h2]; exact hx
      · obtain ⟨y, hy, hx⟩ := ih h1
        refine ⟨y, hy, ?_⟩
        rw [List.foldr_cons, reachStep_in hx]
        exact List.mem_append.mpr (.inr h)
    · rw [reachStep_out h1] at h
      obtain ⟨y, hy, hx⟩ := ih h
      refine ⟨y, hy, ?_⟩
      rw [List.foldr_cons]
      by_cases h2 : t.1 ∈ r.foldr reachStep [y]
      · rw [reachStep_in h2]; exact List.mem_append.mpr (.inl hx)
      · rw [reachStep_out h2]; exact hx
theorem reach_in {ts : Tabs} {f : List Str} {x : Str} (h : x ∈ ts.foldr reachStep f) : x ∈ f ∨ ∃ t ∈ ts, ∃ c ∈ t.2, c.isLink = true ∧ x = c.target := by
  induction ts generalizing x with
  | nil => exact .inl h
  | cons t r ih =>
    rw [List.foldr_cons] at h
    have up : x ∈ r.foldr reachStep f → x ∈ f ∨ ∃ t' ∈ t :: r, ∃ c ∈ t'.2, c.isLink = true ∧ x = c.target := fun h => by
      rcases ih h with h | ⟨t', ht, q⟩
      · exact .inl h
      · exact .inr ⟨t', List.mem_cons_of_mem _ ht, q⟩
    by_cases h1 : t.1 ∈ r.foldr reachStep f
    · rw [reachStep_in h1] at h
      rcases List.mem_append.1 h with h | h
      · exact up h
      · obtain ⟨c, hc, rfl⟩ := List.mem_map.mp h
        obtain ⟨hc, hl⟩ := List.mem_filter.mp hc
        exact .inr ⟨t, List.mem_cons_self, c, hc, hl, rfl⟩
    · rw [reachStep_out h1] at h
      exact up h
theorem GoodTabs.tgs {ts : Tabs} (g : GoodTabs ts) : ∀ t ∈ ts, ∀ c ∈ t.2, c.isLink = true → c.target ∈ ts.map (·.1) := by
  induction g with
  | nil => exact fun t h => absurd h List.not_mem_nil
  | snoc g hn hx hc ih =>
    intro t ht c hcm hl
    rw [List.map_append]
    rcases List.mem_append.1 ht with h | h
    · exact List.mem_append.mpr (.inl (ih t h c hcm hl))
    · rw [List.mem_singleton.1 h] at hcm
      exact List.mem_append.mpr (.inl (hc.tg c hcm hl))
theorem reach_names {ts : Tabs} (g : GoodTabs ts) {n x : Str} (h : x ∈ reach ts n) : x = n ∨ x ∈ ts.map (·.1) := by
  rcases reach_in h with h | ⟨t, ht, c, hc, hl, rfl⟩
  · exact .inl (List.mem_singleton.1 h)
  · exact .inr (g.tgs t ht c hc hl)
theorem meets_snoc {ts : Tabs} {t : Str × List Col} {n : Str} (hn : n ∈ ts.map (·.1)) (hx : t.1 ∉ ts.map (·.1)) : meets (ts ++ [t]) n = meets ts n := by
  unfold meets
  rw [meetMap_snoc]
  cases e : (meetMap ts).lookup n with
  | some b => rw [lookup_left e]
  | none =>
    have key : ∀ (m : List (Str × Bool)), n ∈ m.map (·.1) → m.lookup n ≠ none := fun m => by
      induction m with
      | nil => intro h; cases h
      | cons q r ih =>
        intro hq
        rw [List.lookup_cons]
        split
        · intro h; cases h
        · rename_i e
          rw [List.map_cons] at hq
          rcases List.mem_cons.1 hq with rfl | hq
          · simp at e
          · exact ih hq
    exact absurd e (key _ (by rw [meetMap_keys]; exact hn))
theorem meets_new {ts : Tabs} {t : Str × List Col} (hx : t.1 ∉ ts.map (·.1)) : meets (ts ++ [t]) t.1 = meetOf (meetMap ts) t.2 := by
  unfold meets
  rw [meetMap_snoc, lookup_app (by rw [meetMap_keys]; exact hx), List.lookup_cons, show (t.1 == t.1) = true from beq_self_eq_true _]
  cases meetOf (meetMap ts) t.2 <;> rfl
theorem heavy_up {ts : Tabs} (g : GoodTabs ts) : ∀ n x, x ∈ reach ts n → meets ts x = true → meets ts n = true := by
  induction g with
  | nil => intro n x h m; cases m
  | @snoc ts m cs g hm hx hc ih =>
    intro n x h hmx
    unfold reach at h
    rw [List.foldr_append, List.foldr_cons, List.foldr_nil] at h
    by_cases e : n = m
    · subst e
      rw [reachStep_in (by simp)] at h
      obtain ⟨y, hy, hxy⟩ := reach_from h
      rcases List.mem_append.1 hy with hy | hy
      · rw [List.mem_singleton.1 hy] at hxy
        rcases reach_in hxy with hxy | ⟨t, ht, c, hc', hl, rfl⟩
        · rw [List.mem_singleton.1 hxy] at hmx; exact hmx
        · have q := meets_heavy (g.snoc hm hx hc) c.target hmx
          have z := ih n c.target hxy (by rw [← meets_snoc (t := (n, cs)) (g.tgs t ht c hc' hl) hx]; exact hmx)
          exact absurd (by
            unfold meets at z
            cases e : (meetMap ts).lookup n with
            | none => rw [e] at z; cases z
            | some b =>
              have := PySem.mem_of_lookup e
              have : n ∈ (meetMap ts).map (·.1) := List.mem_map.mpr ⟨_, this, rfl⟩
              rw [meetMap_keys] at this
              exact this) hx
      · obtain ⟨c, hcm, rfl⟩ := List.mem_map.mp hy
        obtain ⟨hcm, hl⟩ := List.mem_filter.mp hcm
        have yn := hc.tg c hcm hl
        have xn : x ∈ ts.map (·.1) := by
          rcases reach_names g hxy with rfl | h
          · exact yn
          · exact h
        have my := ih c.target x hxy (by rw [← meets_snoc (t := (n, cs)) xn hx]; exact hmx)
        rw [show n = ((n, cs) : Str × List Col).1 from rfl, meets_new hx]
        unfold meetOf
        rw [Bool.or_eq_true, List.any_eq_true]
        refine .inr ⟨c, hcm, ?_⟩
        rw [hl, Bool.true_and]
        exact my
    · rw [reachStep_out (by simpa using fun z => e z.symm)] at h
      have hxn : x ∈ reach ts n := h
      rcases reach_names g hxn with rfl | xn
      · exact hmx
      · have mx : meets ts x = true := by rw [← meets_snoc (t := (m, cs)) xn hx]; exact hmx
        have mn := ih n x hxn mx
        have nn : n ∈ ts.map (·.1) := by
          unfold meets at mn
          cases e : (meetMap ts).lookup n with
          | none => rw [e] at mn; cases mn
          | some b =>
            have := PySem.mem_of_lookup e
            have : n ∈ (meetMap ts).map (·.1) := List.mem_map.mpr ⟨_, this, rfl⟩
            rw [meetMap_keys] at this
            exact this
        rw [meets_snoc (t := (m, cs)) nn hx]
        exact mn
theorem listed_meets {ts : Tabs} (g : GoodTabs ts) : ∀ t ∈ ts, isListed t.2 = true → meets ts t.1 = true := by
  induction g with
  | nil => exact fun t h => absurd h List.not_mem_nil
  | @snoc ts m cs g hm hx hc ih =>
    intro t ht hl
    rcases List.mem_append.1 ht with h | h
    · rw [meets_snoc (t := (m, cs)) (List.mem_map.mpr ⟨t, h, rfl⟩) hx]
      exact ih t h hl
    · rw [List.mem_singleton.1 h] at hl ⊢
      rw [meets_new (t := (m, cs)) hx]
      unfold meetOf
      rw [hl, Bool.true_or]
def leads' (td : Tabs) (c : Col) : Bool := c.isLink && ((meetMap td).lookup c.target == some true)
theorem heavy_eq {ts : Tabs} (g : GoodTabs ts) (c : Col) : isHeavy ts c = leads' ts c := by
  have e : leads' ts c = (c.isLink && meets ts c.target) := rfl
  rw [e]
  cases hl : c.isLink with
  | false => unfold isHeavy; rw [hl]; rfl
  | true =>
    rw [Bool.true_and]
    cases hm : meets ts c.target with
    | true => exact heavy_of g hl hm
    | false =>
      cases hh : isHeavy ts c with
      | false => rfl
      | true =>
        unfold isHeavy at hh
        rw [hl, Bool.true_and, List.any_eq_true] at hh
        obtain ⟨t, ht, h⟩ := hh
        rw [Bool.and_eq_true,
                decide_eq_true_eq] at h
        rw [heavy_up g c.target t.1 h.1 (listed_meets g t ht h.2)] at hm
        cases hm
/-! ### the first link that breaks the rule -/
def brkC (td : Tabs) (cs : List Col) (c : Col) : Bool := !(listedOf cs).isEmpty && (leads' td c && decide (listedOf cs ≠ [c]))
def brk (td : Tabs) (cs : List Col) : Option Nat := cs.findIdx? (brkC td cs)
def lawC (td : Tabs) (cs : List Col) (c : Col) : Bool := !(listedOf cs).isEmpty && (isHeavy td c && (c.lst.isNone || decide (1 < (listedOf cs).length)))
theorem law_brk {td : Tabs} {cs : List Col} (g : GoodTabs td) : ∀ c ∈ cs, lawC td cs c = brkC td cs c := by
  intro c hc
  unfold lawC brkC
  rw [heavy_eq g]
  by_cases hl : leads' td c = true
  · rw [hl, Bool.true_and, Bool.true_and]
    congr 1
    by_cases h1 : listedOf cs = [c]
    · have hs : c.lst.isSome = true := (List.mem_filter.mp (show c ∈ listedOf cs by rw [h1]; exact List.mem_cons_self)).2
      have : c.lst.isNone = false := by cases h : c.lst <;> simp [h] at hs ⊢
      rw [h1, this]
      simp
    · rw [decide_eq_true h1]
      cases e : c.lst with
      | none => rfl
      | some l =>
        have hm : c ∈ listedOf cs := List.mem_filter.mpr ⟨hc, by rw [e]; rfl⟩
        have : 1 < (listedOf cs).length := by
          match q : listedOf cs with
          | [] => rw [q] at hm; cases hm
          | [x] =>
            rw [q] at hm h1
            exact absurd (by rw [List.mem_singleton.1 hm]) h1
          | x :: y :: r => simp
        rw [decide_eq_true this]
        rfl
  · have : leads' td c = false := by simpa using hl
    rw [this]
    simp
theorem brk_none {td : Tabs} {cs : List Col} (h : brk td cs = none) : Rule6 td cs := by
  intro c hc hl hm hne
  have z := List.findIdx?_eq_none_iff.mp h c hc
  unfold brkC at z
  rw [show leads' td c = true from by show (c.isLink && meets td c.target) = true; rw [hl, hm]; rfl, Bool.true_and] at z
  have e1 : (!(listedOf cs).isEmpty) = true := by
    cases e : listedOf cs with
    | nil => exact absurd e hne
    | cons x r => rfl
  rw [e1, Bool.true_and, decide_eq_false_iff_not] at z
  exact Classical.not_not.mp z
theorem brk_some {td : Tabs} {cs : List Col} (g : Rule6 td cs) : brk td cs = none := by
  unfold brk
  rw [List.findIdx?_eq_none_iff]
  intro c hc
  unfold brkC
  cases hl : leads' td c with
  | false => simp
  | true =>
    have hl2 : (c.isLink && meets td c.target) = true := hl
    rw [Bool.and_eq_true] at hl2
    cases e : listedOf cs with
    | nil => simp
    | cons x r =>
      have := g c hc hl2.1 hl2.2 (by rw [e]; simp)
      rw [← e, this]
      simp
def dueFrom : Tabs → Tabs → Option (Nat × Nat)
  | _, [] => none
  | td, t :: tr => match brk td t.2 with
    | some i => some (td.length, i)
    | none => dueFrom (td ++ [t]) tr
def due (ts : Tabs) : Option (Nat × Nat) := dueFrom [] ts
theorem due_good {ts : Tabs} (g : PreTabs ts) (h : due ts = none) : GoodTabs ts := by
  have key : ∀ (tr td : Tabs), GoodTabs td → PreTabs (td ++ tr) → dueFrom td tr = none → GoodTabs (td ++ tr) := fun tr => by
    induction tr with
    | nil => intro td gd _ _; rw [List.append_nil]; exact gd
    | cons t tr ih =>
      intro td gd gp hd
      unfold dueFrom at hd
      cases e : brk td t.2 with
      | some i => rw [e] at hd; cases hd
      | none =>
        rw [e] at hd
        obtain ⟨_, pt⟩ := gp.split td t tr rfl
        have e2 : td ++ t :: tr = (td ++ [t]) ++ tr := by simp
        rw [e2] at gp ⊢
        obtain ⟨n, cs⟩ := t
        exact ih _ (gd.snoc pt.nm pt.fr ⟨pt.pre, pt.few, brk_none e⟩) gp hd
  exact key ts [] .nil g h
theorem due_of {ts : Tabs} (g : GoodTabs ts) : due ts = none := by
  have key : ∀ (tr td : Tabs), GoodTabs (td ++ tr) → dueFrom td tr = none := fun tr => by
    induction tr with
    | nil => intro td _; rfl
    | cons t tr ih =>
      intro td gp
      have q : ∀ {ts : Tabs}, GoodTabs ts → ∀ (td : Tabs) (t : Str × List Col) (tr : Tabs), ts = td ++ t :: tr → Rule6 td t.2 := by
        intro ts g
        induction g with
        | nil => intro td t tr e; cases td <;> cases e
        | @snoc ts n cs g hn hx hc ih =>
          intro td t tr e
          rcases List.eq_nil_or_concat tr with rfl | ⟨tr', z, rfl⟩
          · have e2 : ts ++ [(n, cs)] = td ++ [t] := e
            obtain ⟨rfl, e3⟩ := List.append_inj' e2 rfl
            cases e3
            exact hc.r6
          · have e2 : ts ++ [(n, cs)] = (td ++ t :: tr') ++ [z] := by rw [e]; simp
            obtain ⟨e3, e4⟩ := List.append_inj' e2 rfl
            exact ih td t tr' e3
      unfold dueFrom
      rw [brk_some (q gp td t tr rfl)]
      have e2 : td ++ t :: tr = (td ++ [t]) ++ tr := by simp
      rw [e2] at gp
      exact ih _ gp
  exact key ts [] g
/-- where it breaks: the tables ahead are good -/
theorem due_at {ts : Tabs} (g : PreTabs ts) {k i : Nat} (h : due ts = some (k, i)) : ∃ td t tr, ts = td ++ t :: tr ∧ td.length = k ∧ GoodTabs td ∧ PreTab td t ∧ brk td t.2 = some i := by
  have key : ∀ (tr td : Tabs), GoodTabs td → PreTabs (td ++ tr) → dueFrom td tr = some (k, i) → ∃ td' t tr', td ++ tr = td' ++ t :: tr' ∧ td'.length = k ∧ GoodTabs td' ∧ PreTab td' t ∧ brk td' t.2 = some i := fun tr => by
    induction tr with
    | nil => intro td _ _ hd; cases hd
    | cons t tr ih =>
      intro td gd gp hd
      obtain ⟨_, pt⟩ := gp.split td t tr rfl
      unfold dueFrom at hd
      cases e : brk td t.2 with
      | some j =>
        rw [e] at hd
        cases hd
        exact ⟨td, t, tr, rfl, rfl, gd, pt, e⟩
      | none =>
        rw [e] at hd
        have e2 : td ++ t :: tr = (td ++ [t]) ++ tr := by simp
        rw [e2] at gp ⊢
        obtain ⟨n, cs⟩ := t
        exact ih _ (gd.snoc pt.nm pt.fr ⟨pt.pre, pt.few, brk_none e⟩) gp hd
  exact key ts [] .nil g h
end LP
namespace LP
open PySem.Spec PyProof.Rows PySem L2
/-! ### xs == [], whatever xs holds -/
def rEqE (K : PySem.W.Frag) : R2 := fun x y H Q => ∃ a p xs, x = .ref a ∧ y = .ref p ∧ SqL K H a xs ∧ SqL K H p [] ∧ Q (.bl xs.isEmpty) H
theorem op_eqE {X : Cx} (hu : X.A.units < cLine) : OpR X (compareOp .Eq) (rEqE X.K) := by
  intro pins s σ H x y v u Q I rx ry h; obtain ⟨a, p, xs, rfl, rfl, ha, hp, q⟩ := h
  cases rx
  cases ry
  obtain ⟨its, r1, ⟨o1, n1, h1, h2, h3, h4⟩, _⟩ := I.list ha
  obtain ⟨its2, r2, ⟨o2, n2, k1, k2, k3, k4⟩, _⟩ := I.list hp
  have l1 := r1.length
  have l2 : its2.length = 0 := r2.length.symm
  have hl : s.heap.IsList a its.toArray := ⟨o1, h1, h2, n1, h4⟩
  have hl2 : s.heap.IsList p its2.toArray := ⟨o2, k1, k2, n2, k4⟩
  cases xs with
  | nil =>
    have e0 : its.length = 0 := l1.symm
    have z := SeqAt.RcAt.lists (A := X.A) (e := fun _ => true) hl hl2 (by simp [e0, l2]) hu (fun j j1 _ => by simp [e0] at j1)
    rw [show (List.range its.toArray.size).all (fun _ => true) = true by simp] at z
    exact z X.prog X.w _ _ ⟨.bl true, H, I, rfl, q⟩
  | cons x r =>
    have e0 : its.length = r.length + 1 := l1.symm
    have z := SeqAt.RcAt.lists_lengths (A := X.A) hl hl2 (by simp [e0, l2]) hu
    exact z X.prog X.w _ _ ⟨.bl false, H, I, rfl, q⟩
theorem op_eqEK {X : Cx} {K : PySem.W.Frag} (hK : X.K = K) (hu : X.A.units < cLine) : OpR X (compareOp .Eq) (rEqE K) := hK ▸ op_eqE hu
theorem w_eqE {K : PySem.W.Frag} {H : Hp} {a p : Addr} {xs : List V} {Q : VK} (h : SqL K H a xs) (hp : SqL K H p []) (q : Q (.bl xs.isEmpty) H) : rEqE K (.ref a) (.ref p) H Q := ⟨a, p, xs, rfl, rfl, h, hp, q⟩
/-! ### xs[::-1] -/
theorem pe_revLK {X : Cx} {K : PySem.W.Frag} {e : Expr} {te : TE} {k : Nat} {p1 p2 p3 pos : Pos} (hK : X.K = K) (he : PE X e te) : PE X (.Subscript e (.Slice none none (some (.UnaryOp .USub (.Constant (.int 1) k p1) p2)) p3) pos) (tRevL K te) := hK ▸ pe_revL he
end LP
namespace LP
open PySem PySem.Spec
open PyProof.Rows L2
/-- a classmethod, called by its class -/
structure CCal (P : Program) (w : World) (K : PySem.W.Frag) (mg : Str → Option Value) (base : Heap) (k : Nat) (C : Addr) (mc : Value) (m : Str) (sp : Sp) : Prop where
  ex : ∃ (p g : Addr) (fd : FuncData) (ps : List Str), ClX.CRead K C mc ∧ ClX.CMet K C mc m p g ∧ FnOk P w K mg base C8.CX0 k g fd ps sp ∧ Binds K fd ps []
/-- i-th slot: the class at C, made there -/
def tMakeL (i : Nat) (C : Addr) (sp : Sp) (dvs : List V) (E : XK) (t : TA) : TE := fun σ H Q => σ[i]? = some (some (.ref C)) ∧ t σ H fun vs H1 => ∀ x dx, H1 x = none → H1 dx = none → dx ≠ x →
  sp (.ref x ::
          (vs ++ dvs)) (upd (upd H1 dx (.own x)) x (.ins C dx [])) (fun v H2 => v = .non ∧ Q (.ref x) H2) E
section
variable {X : Cx} {k j i : Nat} {C : Addr} {x m : Str} {sp : Sp} {dvs : List V} {p pos apos : Pos} {e o : Expr} {es : List Expr} {ta : TE} {t : TA} {mc : Value} {pl : Sem Bool}
theorem pe_cm (c : CCal X.prog X.w X.K X.mg X.base k C mc m sp) (hr : Room j X.A) (hk : k ≤ j) (he : PE X o ta) (ha : PA X (e :: es) t)
    (hst : starEach
            (e :: es) X.env = (false, eval e X.env) :: starEach es X.env := by rfl) (hpl : (backTo pos (starEach es X.env)).any (·.1) = false := by rfl)
    (ht : eval (.Call (.Attribute o m apos) (e :: es) [] pos) X.env = (do let ov ← eval o X.env; standAt apos.atName; let (f, first) ← holding [ov] (getMethod ov m pl); callWith pos f first (backTo pos (starEach (e :: es) X.env)) (backToKw pos (keywordEach [] X.env))) := by rfl) :
    PE X (.Call (.Attribute o m apos) (e :: es) [] pos) (ClX.tCMeth C sp C8.E0 ta t) := by
  obtain ⟨p, g, fd, ps, r, c1, F, b⟩ := c.ex
  have F2 : FnR X.prog X.w X.K X.mg X.base C8.CX0 k g sp := (FnOk.raw F b .nil).imp fun vs H Q E h => by rw [List.append_nil]; exact h
  exact ClX.pe_cmeth (pl := pl) he r c1 F2 (hr.mono hk) C8.pass0 ha hst hpl ht
theorem pe_mkL (c : C8.Mak X.prog X.w X.K X.mg X.base k x C sp dvs) (hr : Room j X.A) (hk : k + 1 ≤ j) {y : Str} (hN : X.N[i]? = some y) (hv : Vis X.env.scope y) (ha : PA X (e :: es) t)
    (hdb : (y == ("__debug__" : Str)) = false := by decide) (hcd : (y == ("__classdict__" : Str)) = false := by decide) (he : starEach (e :: es) X.env = (false, eval e X.env) :: starEach es X.env := by rfl) (hpl : (backTo pos (starEach es X.env)).any (·.1) = false := by rfl) :
    PE X (.Call (.Name y p) (e :: es) [] pos) (tMakeL i C sp dvs C8.E0 t) := by
  obtain ⟨f,
          fd, ps, ds, M, F, hm, b, d⟩ := c.ex
  refine ⟨fun pins s σ H Q I h => ?_⟩; obtain ⟨hs, ht⟩ := h
  refine wpAny_Call_Name_kw (thn ((pe_var (pos := p) hN hv hdb hcd).run pins s σ H (fun v H1 => v = .ref C ∧ H1 = H) I ⟨.ref C, hs, rfl, rfl⟩) fun u s1 ⟨v, H1, I1, r1, q1⟩ => ?_)
  obtain ⟨rfl, rfl⟩ := q1
  cases r1
  refine PySem.W.callWith_K (h₀ := X.base) I.ok.mod.kin M.kp (thn (ha.run pos pins s1 σ _ _ I1 ht) fun us s2 ⟨vs, H2, I2, r, q⟩ => ⟨I2.kIn, ?_⟩) he hpl
  exact run_make M F (hr.mono hk) b d C8.pass0 I2 r q
end
def rListD4 : List V → Hp → VK → Prop := fun xs H Q => ∃ (a : Addr) (kvs : List (Key × V)), xs = [.ref a] ∧ Rd H a (.dK kvs) ∧ ∀ p, H p = none → Q (.ref p) (upd H p (.lst (kvs.map fun kv => kV kv.1)))
theorem call_listD4 {X : Cx} (hc : X.calm = true) : CallR X (.type "list") rListD4 := call_listD hc
theorem w_listD4 {H : Hp} {Q : VK} {a : Addr} {kvs : List (Key × V)} (h : H a = some (.dK kvs)) (q : ∀ p, H p = none → Q (.ref p) (upd H p (.lst (kvs.map fun kv => kV kv.1)))) : rListD4 [.ref a] H Q := ⟨a, kvs, rfl, .inl h, q⟩
def rRemSfx : V → List V → Hp → VK → Prop := fun x xs H Q => ∃ a b, x = .str a ∧ xs = [.str b] ∧ a.length ≤ sizeLine ∧ Q (.str (Txt.removesuffix a b)) H
theorem mt_removesuffix' {X : Cx} : MtR X "str.removesuffix" rRemSfx := mt_removesuffix
theorem w_remSfx {H : Hp} {Q : VK} {a b : Str} (h : a.length ≤ sizeLine) (q : Q (.str (Txt.removesuffix a b)) H) : rRemSfx (.str a) [.str b] H Q := ⟨a, b, rfl, rfl, h, q⟩
section
variable {σ : L2.St} {H : Hp} {Q : VK} {C : Addr} {sp : Sp} {E : XK} {ta : TE} {t : TA} {i : Nat} {dvs : List V}
theorem w_cmeth (h : ta σ H fun x H1 => x = .ref C ∧ t σ H1 fun vs H2 => sp (.ref C :: vs) H2 Q E) : ClX.tCMeth C sp E ta t σ H Q := h
theorem w_makeL (hs : σ[i]? = some (some (.ref C))) (h : t σ H fun vs H1 => ∀ x dx, H1 x = none → H1 dx = none → dx ≠ x → sp (.ref x :: (vs ++ dvs)) (upd (upd H1 dx (.own x)) x (.ins C dx [])) (fun v H2 => v = .non ∧ Q (.ref x) H2) E) : tMakeL i C sp dvs E t σ H Q := ⟨hs, h⟩
end
end LP
namespace PySem
open PyProof.Rows
section
variable {M : Model}
        {A : Around} {E : Value → Shared → Prop} {s : Shared} {env : Env}
/-- a built-in class called with keywords -/
theorem callWith_typeKw {pos : Pos} {T : String} {e : Expr} {kws : List Keyword} {Q : Value → Shared → Prop}
    (h : wpAny M A (spliced (backTo pos (starEach [e] env))) (fun vs s1 => wpAny M A (evalAll ((backToKw pos (keywordEach kws env)).map (·.2)))
      (fun kvs s2 => wpAny M A (call (.type T) vs (((backToKw pos (keywordEach kws env)).filterMap (·.1)).zip kvs)) Q E s2) E s1) E s)
    (hs : backTo pos (starEach [e] env) = [(false, eval e env)] := by rfl)
    (hall :
            (backToKw pos (keywordEach kws env)).all (·.1.isSome) = true := by rfl)
    (hkw :
            (backToKw pos (keywordEach kws env)).any (·.1.isNone) = false := by rfl) :
    wpAny M A (callWith pos (.type T) [] (backTo pos (starEach [e] env)) (backToKw pos (keywordEach kws env))) Q E s := by
  rw [hs] at h ⊢
  have hp : ([(false, eval e env)] : List (Bool × Sem Value)).any (·.1) = false := rfl
  unfold callWith
  refine wpAny_bind (wpAny_holding (wpAny_mono (evalArgs_kwB (f := .type T) (Q := fun a s2 => wpAny M A (call (.type T) ([] ++ a.pos) a.kw) Q E s2) hall h) (fun a s1 h1 => wpAny_bind (wpAny_standAt ?_)) fun _ _ x => x))
  simp only [hp, hkw, Bool.or_false]
  refine wpAny_bind
          (wpAny_pure ?_)
  exact wpAny_bind (wpAny_mono h1 (fun r s2 hr => wpAny_bind (wpAny_holding (wpAny_point (wpAny_pure hr)))) fun _ _ x => x)
end
end PySem
namespace LP
open PySem L2
/-- the list at a from the count k on, each item in a new pair -/
def Itek (K : PySem.W.Frag) (a : Addr) (k : Int) : It :=
  ⟨fun i H => ∃ (xs : List V) (x : V), SqL K H a xs ∧ xs[i]? = some x, fun i H v H' => ∃ T x, v = .ref T ∧ H T = none ∧ H' = upd H T (.tup [.int (k + (i : Nat)), x]) ∧ ∀ xs, SqL K H a xs → xs[i]? = some x, fun i H => ∃ xs : List V, SqL K H a xs ∧ xs.length = i⟩
theorem turn_enumk {P : Program} {w : World} {K : PySem.W.Frag} {elts : List Expr} {kk : Nat} {tpos : Pos} (a e it : Addr) (k : Int) :
    Turn P w K (.Tuple elts kk tpos) (Itek K a k) [e, it] e (fun i h => (∃ old, IsEnum h e it (k + ((i : Nat) : Int)) old) ∧ h.IsListIter it a i ∧ e ≠ it ∧ a ≠ it ∧ e ≠ a) where
  mem := by simp
  obj := fun i h st b hb => by
    obtain ⟨⟨old,
            he⟩, ⟨o, ho, hc, hd⟩, _⟩ := st
    have e' : b =
            e ∨ b = it := by simpa using hb
    rcases e' with z | z
    · rw [z]
      exact ⟨_, he, fun v q => nomatch q⟩
    · rw [z]
      exact ⟨o, ho, fun v q => by rw [hd] at q; cases q⟩
  keep := fun i h h' st k => let ⟨⟨old,
          he⟩, hi, hne⟩ := st; ⟨⟨old, k e (by simp) _ he⟩, hi.at fun o q => k it (by simp) o q, hne⟩
  item := by
    intro X hP hw hK hc i pins s σ H E I hf st hg; subst hP hw hK
    obtain ⟨⟨old, he⟩, hit, hne, hai, hea⟩ := st
    obtain ⟨xs, x, hq, hx⟩ := hg
    obtain ⟨its,
            rv, p, hz⟩ := I.list hq
    obtain ⟨u,
            hu, ru⟩ := rv.get hx
    have hel : e <
            s.heap.objs.size := Heap.lt_size he
    have hil : it <
            s.heap.objs.size := by obtain ⟨_, q, _⟩ := hit; exact Heap.lt_size q
    have pt : s.heap.IsList a its.toArray := p.isList
    have hhd : X.A.in1.handled = none := I.ok.hd hc
    have hlt : i < its.toArray.size := by
      have := (List.getElem?_eq_some_iff.mp hu).1
      simpa using this
    refine wpAny_pyNext_enum_itemC (Draws.list hhd it a hai its.toArray) he ⟨hit, pt⟩ hlt hne (by simp [hne, hea]) fun y h' tk hy ho hst hT hsz hk => ?_
    have ey : y = u := by
      have q : its.toArray[i]? = some y := hy
      have q2 : its.toArray[i]? = some u := by simpa using hu
      exact Option.some.inj (q.symm.trans q2)
    subst ey
    refine ⟨_, rfl, wpAny_letOwnedTupleGo_enum (s := { s with heap := h', toks := tk + 1 }) ho fun h'' he' sb => ?_⟩
    have hT2 : h''.get? s.heap.objs.size = some { cls := .type "tuple", data := .seq #[.int (k + (i : Nat)) tk, y] } := (sb.2 _ (Nat.ne_of_gt hel)).trans hT
    have new : ObjOk X.prog X.w (upd H s.heap.objs.size (.tup [.int (k + (i : Nat)), x])) h'' s.heap.objs.size (.tup [.int (k + (i : Nat)), x]) :=
      ⟨by show 2 ≤ sizeLine; decide, [.int (k + (i : Nat)) tk, y], .cons ⟨_, rfl⟩ (.cons ru .nil), ⟨_, hT2, rfl, _, rfl⟩⟩
    have I1 : Inv X pins σ (upd H s.heap.objs.size (.tup [.int (k + (i : Nat)), x])) { s with heap := h'', toks := tk + 1 } :=
      I.turnedNew
              (ch := [e, it]) (fun b ob hb q => (sb.2 b (fun z => hb (by simp [z]))).trans (hk b ob (fun z => hb (by simp [z])) (fun z => hb (by simp [z])) q)) hf (Nat.le_refl _) new
    refine ⟨.ref s.heap.objs.size, _, I1, rfl, ⟨_, x, rfl, I.hok.fresh (Nat.le_refl _), rfl, fun ys hy => by rw [I.list_inj hy hq]; exact hx⟩, ⟨⟨y, ?_⟩, hst.1.at fun o q => (sb.2 it (Ne.symm hne)).trans q, hne, hai, hea⟩, fun b hb => ?_⟩
    · have e1 : k + ((i + 1 : Nat) : Int) = (k + (i : Int)) + 1 := by omega
      rw [e1]; exact he'
    · have hb' : b <
            s.heap.objs.size := by
        have e' : b =
                e ∨ b = it := by simpa using hb
        rcases e' with z | z
        · rw [z]; exact hel
        · rw [z]; exact hil
      rw [upd_ne
              (Nat.ne_of_lt hb')]
      exact (hf b hb).1
  done := by
    intro X hP hw hK hc i pins s σ H E I hf st hg; subst hP hw hK
    obtain ⟨⟨old, he⟩, hit, hne, hai, hea⟩ := st
    obtain ⟨xs, hq, hx⟩ := hg
    obtain ⟨its,
            rv, p, hz⟩ := I.list hq
    obtain ⟨f0,
            f1, f2, f3, f4, f5⟩ := hf it (by simp)
    have hl := rv.length
    have pt : s.heap.IsList a its.toArray := p.isList
    have hhd : X.A.in1.handled = none := I.ok.hd hc
    have hn : its.toArray.size = i := by simp; omega
    have hst : s.heap.IsListIter it a its.toArray.size ∧ s.heap.IsList a its.toArray := by rw [hn]; exact ⟨hit, pt⟩
    refine wpAny_pyNext_enum_endD (Draws.list hhd it a hai its.toArray) he hst fun h' eb => ⟨rfl, I.turned (t' := s.toks) (fun b o hb q => eb b o hb q) f0 f1 f3 f4 f5⟩
  self := fun A i s Q E st h => let ⟨⟨_,
          he⟩, _⟩ := st; wpAny_pyIter_enum he h
def kEnumk (K : PySem.W.Frag) (vs : List V) (v : V) (H1 : Hp) (R : It → Hp → Prop) : Prop := ∃ a xs k, vs = [.ref a] ∧ v = .int k ∧ SqL K H1 a xs ∧ 0 ≤ k ∧ k < 1000 ∧ R (Itek K a k) H1
def iEnumk (K : PySem.W.Frag) (ta : TA) (tk : TE) : TI := fun σ H R => ta σ H fun vs H1 => tk σ H1 fun v H2 => kEnumk K vs v H2 R
theorem pi_enumk {X : Cx} {e ek : Expr} {ta : TA} {tk : TE} {p pos tpos kpos : Pos} {elts : List Expr} {kk : Nat} (hg : Gl X "enumerate") (hm : X.mg "enumerate" = none) (ha : PA X [e] ta) (hk : PE X ek tk) (hs : starEach [e] X.env = [(false, eval e X.env)] := by rfl) :
    PI X (.Tuple elts kk tpos) (.Call (.Name "enumerate" p) [e] [⟨some "start", ek, kpos⟩] pos) (iEnumk X.K ta tk) := by
  refine ⟨fun pins s σ H R I h => ?_⟩; refine wpAny_bind (ld_blt I hg hm PyProof.Rows.boot_enumerate (callWith_typeKw (thn (ha.run pos pins s σ H _ I h) fun us s1 ⟨vs, H1, I1, r1, q1⟩ => ?_) (by rw [hs]; rfl)))
  refine PyProof.Rows.kws_cons (thn (hk.run pins s1 σ H1 _ I1 q1) fun u s2 ⟨v, H2, I2, r2, q2⟩ => PyProof.Rows.kws_nil ?_)
  obtain ⟨a, xs, k, ex, ev, hq, k0, k1, q⟩ := q2
  subst ex ev
  cases r1 with
  | cons r rr =>
    cases rr
    cases r
    obtain ⟨t, rfl⟩ := r2
    obtain ⟨its, rv, p', hz⟩ := I2.list hq
    have pt : s2.heap.IsList a its.toArray := p'.isList
    have hal : a < s2.heap.objs.size := by obtain ⟨_, q, _⟩ := pt; exact Heap.lt_size q
    refine enum_begins_start (begins_list a its.toArray) pt (by omega) (by omega) fun h' he hit hsz hk => wpAny_pyIter_enum he ?_
    have I3 : Inv X pins σ H2 { s2 with heap := h' } := I2.kept (t' := s2.toks) hk
    refine ⟨s2.heap.objs.size + 1, [s2.heap.objs.size + 1, s2.heap.objs.size], _, _, H2, rfl, I3, turn_enumk a (s2.heap.objs.size + 1) s2.heap.objs.size k, ⟨⟨.none, by simpa using he⟩, ⟨_, hit, rfl, rfl⟩, Nat.succ_ne_self _, Nat.ne_of_lt hal, Nat.ne_of_gt (Nat.lt_succ_of_lt hal)⟩, fun b hb => ?_, q⟩
    have e' : b = s2.heap.objs.size + 1 ∨ b = s2.heap.objs.size := by simpa using hb
    have hle : s2.heap.objs.size ≤ b := by
      rcases e' with z | z
      · rw [z]
        exact Nat.le_add_right _ _
      · rw [z]; exact Nat.le_refl _
    exact Inv.fpOk I2 hle (I2.hok.fresh hle)
theorem pi_enumkK {X : Cx} {K : PySem.W.Frag} {e ek : Expr} {ta : TA} {tk : TE} {p pos tpos kpos : Pos} {elts : List Expr} {kk : Nat} (hK : X.K = K) (hg : Gl X "enumerate") (hm : X.mg "enumerate" = none) (ha : PA X [e] ta) (hk : PE X ek tk) (hs : starEach [e] X.env = [(false, eval e X.env)] := by rfl) :
    PI X (.Tuple elts kk tpos) (.Call (.Name "enumerate" p) [e] [⟨some "start", ek, kpos⟩] pos) (iEnumk K ta tk) := hK ▸ pi_enumk hg hm ha hk hs
section
variable {K : PySem.W.Frag} {a : Addr} {xs : List V} {k : Int} {g : TG} {tb : TS} {D : Ends} {σ : L2.St} {H H1 : Hp}
theorem w_iEnumk {ta : TA} {tk : TE} {R : It → Hp → Prop} (h : ta σ H fun vs H1 => tk σ H1 fun v H2 => kEnumk K vs v H2 R) : iEnumk K ta tk σ H R := h
theorem w_kEnumk {R : It → Hp → Prop} (h : SqL K H a xs) (k0 : 0 ≤ k) (k1 : k < 1000) (q : R (Itek K a k) H) : kEnumk K [V.ref a] (.int k) H R := ⟨a, xs, k, rfl, rfl, h, k0, k1, q⟩
/-- a for over enumerate(list, start=k): the pair at T is new -/
theorem loopEk (Pv : List V → List V → L2.St → Hp → Prop) (h0 : Pv [] xs σ H) (hl : ∀ d r σ H, d ++ r = xs → Pv d r σ H → SqL K H a xs)
    (hs : ∀ d y r σ H T, d ++ y :: r = xs → H T = none → Pv d (y :: r) σ H → g (.ref T) σ (upd H T (.tup [.int (k + (d.length : Nat)), y])) fun σ2 H2 => tb { D with nx := Pv (d ++ [y]) r, ct := Pv (d ++ [y]) r, bk := D.nx } σ2 H2) (hd : ∀ σ H, Pv xs [] σ H → D.nx σ H) :
    ∃ W : Nat →
            Nat → L2.St → Hp → Prop, (∃ m, W 0 m σ H) ∧ ∀ i m σ H, W i m σ H →
      ((Itek K a k).stop i H ∧ D.nx σ H) ∨ ((Itek K a k).go i H ∧ ∃ N : L2.St → Hp → Prop, (∀ σ' H', N σ' H' → ∃ m', m' < m ∧ W (i + 1) m' σ' H') ∧ ∀ x H', (Itek K a k).yld i H x H' → g x σ H' fun σ2 H2 => tb { D with nx := N, ct := N, bk := D.nx } σ2 H2) := by
  refine ⟨fun i m σ H => m = xs.length - i ∧ i ≤ xs.length ∧ Pv (xs.take i) (xs.drop i) σ H, ⟨xs.length, by simp, Nat.zero_le _, by simpa using h0⟩, ?_⟩
  rintro i m σ H ⟨rfl, hi, p⟩
  have q := hl _ _ σ H (List.take_append_drop i xs) p
  by_cases hlt : i < xs.length
  · have hx : xs[i]? = some xs[i] := by simp [hlt]
    refine .inr ⟨⟨xs, xs[i], q, hx⟩, fun σ H => Pv (xs.take (i + 1)) (xs.drop (i + 1)) σ H, fun σ' H' p' => ⟨xs.length - (i + 1), by omega, rfl, hlt, p'⟩, fun x H' y => ?_⟩
    obtain ⟨T, x, rfl, hT, rfl, y⟩ := y
    have ex : x = xs[i] := by
      have z := y xs q
      rw [hx] at z
      exact (Option.some.inj z).symm
    have e1 : xs.drop i = x :: xs.drop (i + 1) := by
      rw [List.drop_eq_getElem_cons hlt, ex]
    have e2 : xs.take (i + 1) = xs.take i ++ [x] := by
      rw [List.take_succ, hx, ex]
      rfl
    have z := hs (xs.take i) x (xs.drop (i + 1)) σ H T (by rw [← e1]; exact List.take_append_drop i xs) hT (by rw [← e1]; exact p)
    rw [← e2, List.length_take, Nat.min_eq_left (Nat.le_of_lt hlt)] at z
    exact z
  · have : i = xs.length := by omega
    refine .inl ⟨⟨xs, q, this.symm⟩, hd σ H ?_⟩
    rw [this, List.take_length, List.drop_length] at p
    exact p
end
end LP
namespace LP
open PySem.Spec PyProof.Rows PySem L2
/-! ### several clauses, each with its name -/
abbrev HdA := Value × Nat × (Addr → Value → Option Addr → TS)
def cutE (D : Ends) (i : Nat) : Ends := ⟨fun σ' H' => D.nx (σ'.set i none) H', D.rt, fun σ' H' => D.bk (σ'.set i none) H', fun σ' H' => D.ct (σ'.set i none) H'⟩
def wAll (K : PySem.W.Frag) (D : Ends) : List HdA → WX
  | [] => fun _ _ _ _ => False
  | q :: r => fun cls d σ H => ∃ b, PySem.W.exmOne K cls q.1 = some b ∧ (b = true → ∀ a, H a = none → q.2.2 a cls d (cutE D q.2.1) (σ.set q.2.1 (some (.ref a))) H) ∧ (b = false → wAll K D r cls d σ H)
inductive HAs (X : Cx) : List ExceptHandler → List HdA → Prop
  | nil : HAs X [] []
  | cons {x nm : Str} {c : Value} {i : Nat} {ts : Addr → Value → Option Addr → TS} {b0 : Stmt} {su : List Stmt} {np p2 : Pos} {hds : List ExceptHandler} {l : List HdA} (hi : X.N[i]? = some nm) (hl : X.env.kindOf nm = some .local) (hc : Names X x c)
      (hsu : ∀ (a : Addr) (oe : Obj) (cls : Value) (d : Option Addr) (pn : List (Addr × Obj)), Zc cls d oe → (∃ vs, oe.data = .fields vs) → PSs (X.suite a ((a, oe) :: pn)) (b0 :: su) (ts a cls d)) (r : HAs X hds l) :
      HAs X (.ExceptHandler (some (.Name x np)) (some nm) (b0 :: su) p2 :: hds) ((c, i, ts) :: l)
section
variable {X : Cx} {body : List Stmt} {h0 : ExceptHandler} {hds : List ExceptHandler} {l : List HdA} {pos : Pos} {tb : WX → TS}
theorem ps_try_all (hs : X.stack = X.env :: X.outer) (hf : X.env.frame = some X.env.locals) (hN : X.N.Nodup)
    (hb : ∀ (W : WX) (pn : List (Addr × Obj)) (xe : Value → Shared → Prop), Takes (X.tr pn xe) W → PSs (X.tr pn xe) body (tb W)) (hh : HAs X (h0 :: hds) l) :
    PS X (.Try body (h0 :: hds) [] [] pos) (fun D σ H => tb (wAll X.K D l) D σ H) := by
  constructor
  intro pins s σ H D I h
  have ok := I.ok
  have hfr : X.A.frames = some (X.env :: X.outer) := ok.frames.trans (congrArg some hs)
  apply wpAny_Try_except
  apply wpAny_mono ((hb (wAll X.K D l) (X.pn ++ pins) (fun e s1 => wpAny (model X.prog X.w) X.A (noteFrame e X.env) (fun _ s2 => wpAny (model X.prog X.w) X.A (setFlight e none)
    (fun _ s3 => wpAny (model X.prog X.w) X.A (handleBy e X.env (h0 :: hds)) (SP X pins D) X.xe s3) X.xe s2) X.xe s1) ?tk).run [] s σ H D (I.toTry _) h) ?nx (fun e s1 he => he)
  case nx =>
    intro f s1 hsp
    cases f <;> first
      | exact (let ⟨_, _, J, q⟩ := hsp; wpAny_execs_nil ⟨_, _, J.ofTry ok, q⟩)
      | exact (let ⟨_, _, J, q⟩ := hsp; ⟨_, _, J.ofTry ok, q⟩)
      | exact (let ⟨_, _, _, J, r, q⟩ := hsp; ⟨_, _, _, J.ofTry ok, r, q⟩)
  case tk =>
    rintro u s2 ⟨a, B, sI, ps2, σ2, H2, cls, d, rfl, JT, nb, up, sky, na, os, ag, w⟩
    have J : Inv X pins σ2 H2 sI := JT.ofTry ok
    have sky2 : Sky B (X.env :: X.outer) a (Zc cls d) X.env.locals s2.heap := hs ▸ sky
    show wpAny
            (model X.prog X.w) X.A (noteFrame (.ref a) X.env) _ _ _
    refine Sky.land Zc.steady hfr hf sky2 fun h3 fl up3 => ?_
    have J3 : Inv X pins σ2 H2 { s2 with heap := h3 } := J.landed nb fl.1 (up.trans up3) os ag
    obtain ⟨o3, vs3, e3, z3, d3⟩ := fl.there
    have off : a ∉ frs (X.env :: X.outer) := fun hm => by
      obtain ⟨_, o, eo, hno⟩ := fl.2.2.1.mem hm
      exact hno _ (Option.some.inj (e3.symm.trans eo) ▸ d3)
    have nL : a ≠ X.env.locals := fun z => off (List.mem_filterMap.mpr ⟨_, List.mem_cons_self, hf.trans (congrArg some z.symm)⟩)
    have nF : a ∉ X.fs := fun hm => let ⟨_, he, q⟩ := List.mem_filterMap.mp hm; off (List.mem_filterMap.mpr ⟨_, List.mem_cons_of_mem _ he, q⟩)
    have S3 := J3.suite e3 d3 na nL nF
    have go : ∀ (hd2 : List ExceptHandler) (l2 : List HdA), HAs X hd2 l2 → wAll X.K D l2 cls d σ2 H2 → wpAny (model X.prog X.w) X.A (handleBy (.ref a) X.env hd2) (SP X pins D) X.xe { s2 with heap := h3 } := by
      intro hd2 l2 hk
      induction hk with
      | nil => exact fun w => w.elim
      | @cons x nm c i ts b0 su np p2 hd3 l3 hi hl hc hsu r ih =>
        rintro ⟨b, hb1, hy, hn⟩
        refine wpAny_handleBy_cons
                (codeAny_handlers_test ?_) (by intro q; cases q)
        have LM := PySem.W.exm_one (M := model X.prog X.w) J3.kIn (show PySem.W.Looks (model X.prog X.w) h3 (typeOf (.ref a)) cls from fun A Q E s k q => wpAny_typeOf_ref (k _ _ e3) (by rw [z3.1]; exact q)) hb1
        have seen : ∀ {Q : Value → Shared → Prop} {E : Value → Shared → Prop}, Q c { s2 with heap := h3 } → wpAny (model X.prog X.w) (X.A.mark (some (.ref a))) (eval (.Name x np) X.env) Q E { s2 with heap := h3 } := fun {Q E} z => by
          rcases hc with ⟨hg, hdb, hm | ⟨hm, hv, hnn⟩⟩
          · exact ld_glob (X := X.suite a ((a, o3) :: (X.pn ++ pins))) S3 hg hm z hdb
          · exact ld_blt (X := X.suite a ((a, o3) :: (X.pn ++ pins))) S3 hg hm hv z hnn hdb
        apply seen
        apply LM.here
        cases b with
        | false => exact ih (hn rfl)
        | true =>
          apply codeAny_handlers_suite_as
          refine HandSPX.lands_againZ fl fun h4 fl4 up4 => ?_
          obtain ⟨o4, vs4, e4, z4, d4⟩ := fl4.there
          have S4 := (show Inv X pins σ2 H2 { s2 with heap := h4 } from J.landed nb fl4.1 ((up.trans up3).trans up4) os ag).suite e4 d4 na nL nF
          refine store_ok (X := X.suite a ((a, o4) :: (X.pn ++ pins))) (v := .ref a) S4 hN hi (.inl hl) rfl (fun s5 S5 => ?_) (.inr hl)
          apply wpAny_mono ((hsu a o4 cls d (X.pn ++ pins) z4 ⟨_, d4⟩).run [] s5 _ H2 _ S5 (hy rfl a na)) ?_ (fun _ _ z => z.elim)
          intro f s6 hsp
          cases f with
          | ret u =>
            obtain ⟨_, _, _, S6, r6, q6⟩ := hsp
            exact gone_ok (S6.unsuite ok) hN hi hl fun s7 J7 => ⟨_, _, _, J7, r6, q6⟩
          | next =>
            obtain ⟨_, _, S6, q6⟩ := hsp
            exact gone_ok (S6.unsuite ok) hN hi hl fun s7 J7 => ⟨_, _, J7, q6⟩
          | brk =>
            obtain ⟨_, _, S6, q6⟩ := hsp
            exact gone_ok (S6.unsuite ok) hN hi hl fun s7 J7 => ⟨_, _, J7, q6⟩
          | cont =>
            obtain ⟨_, _, S6, q6⟩ := hsp
            exact gone_ok (S6.unsuite ok) hN hi hl fun s7 J7 => ⟨_, _, J7, q6⟩
    exact go _ _ hh w
end
end LP
open PySem L2
local macro_rules | `(tactic| walk_at "side") => `(tactic| first | rfl | assumption | exact SqL.of (by assumption) | exact SqT.of (by assumption) | exact upd_same | exact SqL.of upd_same | exact SqT.of upd_same | (show _ ≠ _; omega) | omega | (dsimp only; omega) | exact ⟨by omega, by omega⟩ | exact .inl ⟨by omega, by omega⟩ | exact ⟨by decide, by decide, by omega⟩ | decide)
local macro_rules | `(tactic| walk_at "w0") => `(tactic| first
  | with_reducible refine' LP.w_seq ?_
  | with_reducible refine' LP.w_asg ?_
  | with_reducible refine' LP.w_ifS ?_
  | with_reducible refine' LP.w_ret ?_
  | with_reducible refine' LP.w_drop ?_
  | with_reducible refine' LP.w_next ?_
  | with_reducible refine' LP.w_retN ?_
  | with_reducible refine' LP.w_gName ?_
  | with_reducible refine' LP.w_op ?_
  | with_reducible refine' LP.w_c ?_
  | ((with_reducible refine' LP.w_var ?e ?_); (case e => rfl))
  | with_reducible refine' LP.w_kb ?_
  | with_reducible refine' LP.w_test ?_
  | with_reducible refine' LP.w_B ?_
  | with_reducible refine' LP.w_I0 ?_
  | ((with_reducible refine' LP.w_I ?e ?_); (case e => walk_at "side"))
  | with_reducible refine' LP.w_and ?_
  | with_reducible refine' LP.w_or ?_
  | with_reducible refine' LP.w_not ?_
  | with_reducible refine' LP.w_andV ?_
  | with_reducible refine' LP.w_orV ?_
  | with_reducible refine' LP.w_notV ?_
  | with_reducible refine' LP.w_ifE ?_
  | with_reducible refine' LP.w_nil ?_
  | with_reducible refine' LP.w_cons ?_
  | with_reducible refine' LP.w_tup ?_
  | with_reducible refine' LP.w_lst ?_
  | with_reducible refine' LP.w_CB ?_
  | with_reducible refine' LP.w_call ?_
  | with_reducible refine' LP.w_chain ?_
  | ((with_reducible refine' LP.w_ixL ?h ?e ?_); (case h => walk_at "side"); (case e => rfl))
  | ((with_reducible refine' LP.w_ixT ?h ?e ?_); (case h => walk_at "side"); (case e => rfl))
  | ((with_reducible refine' LP.w_eq ?e ?_); (case e => rfl))
  | ((with_reducible refine' LP.w_ne ?e ?_); (case e => rfl))
  | with_reducible refine' LP.w_int1 ?_
  | with_reducible refine' LP.w_intB ?_
  | with_reducible refine' LP.w_abs ?_
  | with_reducible refine' LP.w_max2 ?_
  | with_reducible refine' LP.w_min2 ?_
  | ((with_reducible refine' LP.w_lenL ?h ?_); (case h => walk_at "side"))
  | ((with_reducible refine' LP.w_lenT ?h ?_); (case h => walk_at "side"))
  | ((with_reducible refine' LP.w_lenStr ?h ?_); (case h => walk_at "size"))
  | with_reducible refine' LP.w_isN ?_
  | with_reducible refine' LP.w_notN ?_
  | with_reducible refine' LP.w_inSg ?_
  | with_reducible refine' LP.w_M0 ?_
  | with_reducible refine' LP.w_M1 ?_
  | with_reducible refine' LP.w_str ?_
  | with_reducible refine' LP.w_isB ?_
  | ((with_reducible refine' LP.w_upper ?h ?_); (case h => walk_at "size"))
  | with_reducible refine' LP.w_BM ?_
  | with_reducible refine' LP.w_BM0 ?_
  | with_reducible refine' LP.w_tyS ?_
  | ((with_reducible refine' LP.w_tyL ?h ?_); (case h => walk_at "side"))
  | ((with_reducible refine' LP.w_app ?h ?e ?_); (case h => walk_at "side"); (case e => walk_at "size"))
  | ((with_reducible refine' LP.w_addS ?h ?_); (case h => walk_at "size"))
  | with_reducible refine' LP.w_sl ?_
  | with_reducible refine' LP.w_noPart ?_
  | with_reducible refine' LP.w_part ?_
  | with_reducible refine' LP.w_ki ?_
  | ((with_reducible refine' LP.w_slS ?h ?_); (case h => walk_at "size"))
  | with_reducible refine' LP.w_tru ?_
  | ((with_reducible refine' LP.w_truL ?h ?_); (case h => walk_at "side"))
  | with_reducible refine' LP.w_gSub ?_
  | ((with_reducible refine' LP.w_setL ?h ?e ?_); (case h => walk_at "side"); (case e => rfl))
  | with_reducible refine' LP.w_iList ?_
  | ((with_reducible refine' LP.w_kList ?h ?_); (case h => walk_at "side"))
  | with_reducible refine' LP.w_iTup ?_
  | ((with_reducible refine' LP.w_kTup ?h ?_); (case h => walk_at "side"))
  | with_reducible refine' LP.w_iRng1 ?_
  | ((with_reducible refine' LP.w_kRng1 ?h ?e ?_); (case h => walk_at "side"); (case e => walk_at "side"))
  | with_reducible refine' LP.w_iStr ?_
  | with_reducible refine' LP.w_kStr ?_
  | with_reducible refine' LP.w_iRev ?_
  | ((with_reducible refine' LP.w_kRev ?h ?_); (case h => walk_at "side"))
  | with_reducible refine' LP.w_for ?_
  | with_reducible refine' LP.w_dget ?_
  | with_reducible refine' LP.w_din ?_
  | with_reducible refine' LP.w_dput ?_
  | with_reducible refine' LP.w_smeth ?_
  | with_reducible refine' LP.w_cmeth ?_
  | ((with_reducible refine' LP.w_makeL ?h ?_); (case h => rfl))
  | with_reducible refine' LP.w_iEnumk ?_
  | ((with_reducible refine' LP.w_kEnumk ?h ?h0 ?h1 ?_); (case h => walk_at "side"); (case h0 => decide); (case h1 => decide))
  | with_reducible refine' LP.w_iEnum ?_
  | with_reducible refine' LP.w_jn ?_
  | with_reducible refine' LP.w_ostL ?_
  | with_reducible refine' LP.w_raiseL ?_
  | with_reducible refine' LP.w_os2 ?_
  | with_reducible refine' LP.w_raiseV ?_
  | with_reducible refine' LP.w_sfld ?_
  | with_reducible refine' LP.w_dnew ?_
  | with_reducible refine' LP.w_jcons ?_
  | with_reducible refine' LP.w_jnil ?_
  | with_reducible refine' LP.w_fmt ?_
  | with_reducible refine' LP.w_iKeys ?_
  | ((with_reducible refine' LP.w_kEnum ?h ?_); (case h => walk_at "side"))
  | with_reducible refine' LP.w_iZip ?_
  | ((with_reducible refine' LP.w_kZip ?h1 ?h2 ?_); (case h1 => walk_at "side"); (case h2 => walk_at "side"))
  | with_reducible refine' LP.w_iEnumT ?_
  | ((with_reducible refine' LP.w_kEnumT ?h ?_); (case h => walk_at "side"))
  | with_reducible refine' LP.w_fldT ?_
  | with_reducible refine' LP.w_dnotin ?_
  | with_reducible refine' LP.w_neg ?_
  | with_reducible refine' LP.w_rU ?_
  | with_reducible refine' LP.w_methT ?_
  | with_reducible refine' LP.w_yes ?_
  | ((with_reducible refine' LP.w_gTup ?h ?e ?_); (case h => walk_at "side"); (case e => rfl))
  | with_reducible refine' LP.w_gCons ?_
  | with_reducible refine' LP.w_gNil ?_
  | with_reducible refine' LP.w_par ?_
  | ((with_reducible refine' LP.w_size ?e ?_); (case e => walk_at "size"))
  | ((with_reducible refine' LP.w_rfl ?e ?_); (case e => rfl))
  | with_reducible refine' LP.w_kPar ?_
  | with_reducible refine' LP.iteNF ?_
  | with_reducible refine' LP.iteNT ?_
  | with_reducible refine' L2.iteT ?_
  | with_reducible refine' L2.iteF ?_)
local macro_rules | `(tactic| walk_at "w1") => `(tactic| first | walk_at "w0" | with_reducible refine' LP.w_lc ?_)
local macro_rules | `(tactic| walk_at "w") => `(tactic| repeat walk_at "w1")
local macro_rules | `(tactic| walk_at "ws") => `(tactic| repeat walk_at "w0")
local macro_rules | `(tactic| walk_at "size") => `(tactic| first | assumption | decide | (refine Nat.le_trans ?_ (show 100000 ≤ sizeLine by decide); (first | assumption | omega | (simp only [List.length_cons, List.length_nil, List.length_append, List.length_map]; omega) | (simp; done))) | (refine Nat.lt_of_lt_of_le ?_ (show 100000 ≤ sizeLine by decide); (first | assumption | omega | (simp only [List.length_cons, List.length_nil, List.length_append, List.length_map]; omega) | (simp; done))) | omega)
local macro_rules | `(tactic| walk_at "js") => `(tactic| (refine LP.small_le ?_; first | omega | (simp only [LP.len_cat, LP.lenE, LP.lenS1, LP.lenS2, LP.lenS3, LP.lenS4, LP.lenS5, LP.lenS6, LP.lenS7]; omega)))
namespace LP
open PySem L2
open Evl (Ex)
def spTake : Sp := fun vs H Q _ => ∃ (b : Addr) (many : Int) (n : Nat), vs = [.ref b, .int many] ∧ BagAt H b n ∧ n < 100000000 ∧ 1 ≤ many ∧ many < 1073741824 ∧
  ∀ (z : Int) (H' : Hp), 0 ≤ z → z < many → BagAt H' b (n + 1) → Ex (del b H) H' → Q (.int z) H'
section
variable {base : Heap} {mg : Str → Option Value} {K : PySem.W.Frag} {w : World} {P : Program}
theorem ok_take {f : Addr} {fd : FuncData} (D : C8.Def K mg "_law_take" s__law_take f fd) (b : Binds K fd ["bag", "many"] []) (B : Blt mg) : C8.Cal P w K mg base 1 "_law_take" spTake [] := by
  have sc : FnScope ["bag", "many", "digit", "turn", "mixed"] ["bag", "many"] (C8.fnScope s__law_take) := C8.fnScope_by (by decide +kernel)
  refine C8.cal0 D b .nil sc (fun vs H Q E h => ?_) (fun cdv A outer s H vs Q E hr h => ?_)
  · obtain ⟨_, _, _, rfl, _⟩ := h
    rfl
  · obtain ⟨b, many, n, rfl, hB, hn, hm1, hm2, k⟩ := h
    obtain ⟨d, m, t, hb, h1, h2, h3, h4, h5⟩ := hB.ex
    refine ⟨_, (pss_cons (ps_if (pt_cmpR op_gt (pe_ix (ix_listK (K := K) rfl) (pv 0) pe_int (fun _ _ => rfl)) pe_int (nomark _))
        (pss_cons (ps_set (i := 2) sc.nd rfl (Or.inl rfl) (pe_op op_modN (pe_callTy call_int1' (by rfl) B.int_ (by decide +kernel) (pa_cons (pe_ix (ix_listK (K := K) rfl) (pv 0) pe_int (fun _ _ => rfl)) pa_nil)) (pv 1)))
        (pss_cons (ps_asg (pe_op op_fdivN (pe_ix (ix_listK (K := K) rfl) (pv 0) pe_int (fun _ _ => rfl)) (pv 1)) (pg_sub (pv 0) pe_int set_list))
        (pss_one (ps_ret (pv 2)))))
        pss_nil)
        (pss_cons (ps_asg (pe_op op_add (pe_ix (ix_listK (K := K) rfl) (pv 0) pe_int (fun _ _ => rfl)) pe_int) (pg_sub (pv 0) pe_int set_list))
        (pss_cons (ps_set (i := 3) sc.nd rfl (Or.inl rfl) (pe_ix (ix_listK (K := K) rfl) (pv 0) pe_int (fun _ _ => rfl)))
        (pss_cons (ps_set (i := 4) sc.nd rfl (Or.inl rfl) (pe_op op_modN (pe_callTy call_int1' (by rfl) B.int_ (by decide +kernel) (pa_cons (pe_op op_add (pe_op op_pow (pe_op op_add (pe_ix (ix_listK (K := K) rfl) (pv 0) pe_int (fun _ _ => rfl)) (pe_op op_mul pe_int (pv 3))) pe_int) (pe_op op_mul pe_int (pv 3))) pa_nil)) pe_int))
        (pss_cons (ps_set (i := 4) sc.nd rfl (Or.inl rfl) (pe_op op_modN (pe_callTy call_int1' (by rfl) B.int_ (by decide +kernel) (pa_cons (pe_op op_add (pe_op op_pow (pv 4) pe_int) (pe_op op_mul pe_int (pv 3))) pa_nil)) pe_int))
        (pss_one (ps_ret (pe_op op_modN (pe_callTy call_int1' (by rfl) B.int_ (by decide +kernel) (pa_cons (pe_op op_fdivN (pv 4) pe_int) pa_nil)) (pv 1))))))))), ?_⟩
    try dsimp only [cxOf, Cx.wish, Cx.nox]
    walk_at "w"
    refine iteD (fun hd => ?_) (fun hd => ?_)
    · walk_at "w"
      exact k _ _ (fmod_lo (by omega)) (fmod_hi (by omega)) ⟨d.fdiv many, m, t, upd_same, fdiv_lo h1 (by omega), h2, h3, h4, by omega⟩ ex_upd_bag
    · walk_at "w"
      have hx : 0 ≤ ((m + 15485863 * (t + 1)) ^ Int.toNat 2 + 32452867 * (t + 1)).fmod 2305843009213693951 ∧ ((m + 15485863 * (t + 1)) ^ Int.toNat 2 + 32452867 * (t + 1)).fmod 2305843009213693951 < 2305843009213693951 := ⟨fmod_lo (by decide), fmod_hi (by decide)⟩
      generalize ((m + 15485863 * (t + 1)) ^ Int.toNat 2 + 32452867 * (t + 1)).fmod 2305843009213693951 = M at hx ⊢
      walk_at "w"
      exact k _ _ (fmod_lo (by omega)) (fmod_hi (by omega)) ⟨d, m, t + 1, upd_same, h1, h2, h3, by omega, by omega⟩ ex_upd_bag
end
end LP
namespace LP
open PySem L2
open Evl (Ex)
section
variable {base : Heap} {mg : Str → Option Value} {K : PySem.W.Frag} {w : World} {P : Program}
theorem ok_of {f : Addr} {fd : FuncData} (D : C8.Def K mg "_law_of" s__law_of f fd) (b : Binds K fd ["bag", "some"] []) (B : Blt mg)
    (c__law_take : C8.Cal P w K mg base 1 "_law_take" spTake []) : C8.Cal P w K mg base 2 "_law_of" (spOf K) [] := by
  have sc : FnScope ["bag", "some"] ["bag", "some"] (C8.fnScope s__law_of) := C8.fnScope_by (by decide +kernel)
  refine C8.cal0 D b .nil sc (fun vs H Q E h => ?_) (fun cdv A outer s H vs Q E hr h => ?_)
  · obtain ⟨_, _, _, _, rfl, _⟩ := h
    rfl
  · obtain ⟨b, p, xs, n, rfl, hB, hn, hx, hne, hl, k⟩ := h
    refine ⟨_, (pss_one (ps_ret (pe_ix (ix_listK (K := K) rfl) (pv 1) (C8.pe_c c__law_take hr (by decide) rfl (pa_cons (pv 0) (pa_cons (pe_callB (call_len_seqK (K := K) rfl) (by rfl) B.len_ (by decide +kernel) (pa_cons (pv 1) pa_nil)) pa_nil))) (fun _ _ => rfl)))), ?_⟩
    try dsimp only [cxOf, Cx.wish, Cx.nox]
    have hx' : SqL K H p xs := Evl.ex_l ex_del hx
    have hp : 0 < xs.length := List.length_pos_iff.mpr hne
    walk_at "w"
    refine ⟨b, xs.length, n, rfl, hB, hn, by omega, by omega, fun z H' h0 h1 hB' e => ?_⟩
    obtain ⟨j, rfl⟩ : ∃ j : Nat, z = (j : Int) := ⟨z.toNat, by omega⟩
    have hj : j < xs.length := by omega
    have hx2 : SqL K H' p xs := Evl.ex_l e hx
    refine w_ixL hx2 (atI_nat (List.getElem?_eq_getElem hj)) ?_
    exact k _ H' (List.getElem_mem hj) hB' e
theorem ok_reserved {f : Addr} {fd : FuncData} (D : C8.Def K mg "_law_reserved" s__law_reserved f fd) (b : Binds K fd [] []) :
    C8.Cal P w K mg base 1 "_law_reserved" spReserved [] := by
  have sc : FnScope ["words"] [] (C8.fnScope s__law_reserved) := C8.fnScope_by (by decide +kernel)
  refine C8.cal0 D b .nil sc (fun vs H Q E h => ?_) (fun cdv A outer s H vs Q E hr h => ?_)
  · obtain ⟨rfl, _⟩ := h
    rfl
  · obtain ⟨rfl, k⟩ := h
    refine ⟨_, (pss_cons (ps_set (i := 0) sc.nd rfl (Or.inl rfl) pe_str)
        (pss_one (ps_ret (pe_split' (pv 0) pe_str)))), ?_⟩
    try dsimp only [cxOf, Cx.wish, Cx.nox]
    walk_at "w"
    refine w_split (by decide +kernel) (by decide +kernel) fun p hp => ?_
    have e : Txt.split "all and any as else false for if in is lacks no not or return some super thing true user" " " = reservedL := by decide +kernel
    rw [e]
    exact k p hp
theorem ok_letters {f : Addr} {fd : FuncData} (D : C8.Def K mg "_law_draw_letters" s__law_draw_letters f fd) (b : Binds K fd ["bag", "most"] []) (B : Blt mg)
    (c__law_take : C8.Cal P w K mg base 1 "_law_take" spTake []) : C8.Cal P w K mg base 2 "_law_draw_letters" spLetters [] := by
  have sc : FnScope ["bag", "most", "letters", "many", "turn"] ["bag", "most"] (C8.fnScope s__law_draw_letters) := C8.fnScope_by (by decide +kernel)
  refine C8.cal0 D b .nil sc (fun vs H Q E h => ?_) (fun cdv A outer s H vs Q E hr h => ?_)
  · obtain ⟨_, _, _, rfl, _⟩ := h
    rfl
  · obtain ⟨b, most, n, rfl, hB, hn, h1, h2, k⟩ := h
    refine ⟨_, (pss_cons (ps_set (i := 2) sc.nd rfl (Or.inr rfl) pe_str)
        (pss_cons (ps_set (i := 3) sc.nd rfl (Or.inl rfl) (pe_op op_add pe_int (C8.pe_c c__law_take hr (by decide) rfl (pa_cons (pv 0) (pa_cons (pv 1) pa_nil)))))
        (pss_one (ps_ret (pe_joinK (K := K) rfl pe_str (pe_lc (own := [("turn", 4)]) (g := (gName 4)) (by rfl) sc.nd (pi_range1 (by rfl) B.range_ (pa_cons (pv 3) pa_nil)) (blkOk_by (own := [("turn", 4)]) (N := ["bag", "most", "letters", "many", "turn"]) (sc := C8.fnScope s__law_draw_letters) (by decide +kernel)) (fun _ _ _ _ _ => (pg_name (i := 4) sc.nd rfl (Or.inl rfl))) (fun _ _ _ _ _ => pts_nil) (fun _ _ _ _ _ => (pe_ix ix_str (pv 2) (C8.pe_c c__law_take hr (by decide) rfl (pa_cons (pv 0) (pa_cons pe_int pa_nil))) (fun _ _ => rfl))))))))), ?_⟩
    try dsimp only [cxOf, Cx.wish, Cx.nox]
    walk_at "w"
    refine ⟨b, most, n, rfl, hB, by omega, h1, by omega, fun z H1 z0 z1 hB1 e1 => ?_⟩
    walk_at "w"
    intro D hD
    have bD := hB1.ne_none hD
    have fD : del b H D = none := Evl.fresh_back e1 hD
    refine compR (fun i acc H' => ∃ cs : List Nat, acc = cs.map (fun c => V.str (S [c])) ∧ cs.length = i ∧ (∀ c ∈ cs, 97 ≤ c ∧ c ≤ 122) ∧ BagAt H' b (n + 1 + i) ∧ Ex (del b H) H') (by omega)
      ⟨[], rfl, rfl, (fun _ hc => absurd hc List.not_mem_nil), (hB1.upd bD).mono (by omega), e1.mut fD⟩ (fun i acc H' hi ha hacc ⟨cs, ec, hcs, hlow, hB', e'⟩ kk kn hk hn' => ?_) (fun acc H' ha hacc ⟨cs, ec, hcs, hlow, hB', e'⟩ => ?_)
    · walk_at "w"
      refine ⟨b, 26, n + 1 + i, rfl, hB', by omega, by decide, by decide, fun y H2 y0 y1 hB2 e2 => ?_⟩
      obtain ⟨j, rfl⟩ : ∃ j : Nat, y = (j : Int) := ⟨y.toNat, by omega⟩
      have hj : j < 26 := by omega
      refine w_ixS (c := j + 97) (by decide +kernel) (atI_nat ?_) ?_
      · rw [show (Str.ofString "abcdefghijklmnopqrstuvwxyz").cps.toList = (List.range 26).map (· + 97) from letters_tl]
        simp [hj]
      · have bD2 : D ≠ b := bD.symm
        refine hk _ _ (e2 _ _ (by rw [del_ne bD2]; exact ha)) ⟨cs ++ [j + 97], ?_, ?_, ?_, hB2.upd bD, (ex_dtrans e' e2).mut fD⟩
        · rw [ec, List.map_append]
          rfl
        · rw [List.length_append, hcs]
          rfl
        · intro c hc
          rcases List.mem_append.1 hc with hc | hc
          · exact hlow c hc
          · rw [List.mem_singleton] at hc
            omega
    · have e3 : acc = (cs.map fun c => S [c]).map V.str := by rw [ec, List.map_map]; rfl
      refine w_join (ss := cs.map fun c => S [c]) (SqL.of (e3 ▸ ha)) ?_ ?_
      · have h0 : ∀ l : List Nat, (((l.map fun c => S [c]).map (·.length)).sum) = l.length := fun l => by
          induction l with
          | nil => rfl
          | cons c r ih =>
            rw [List.map_cons, List.map_cons, List.sum_cons, ih, List.length_cons]
            show 1 + r.length =
                    r.length + 1
            omega
        rw [h0, List.length_map, show ((Str.ofString "").length) = 0 by decide +kernel]
        omega
      · rw [show Txt.join (Str.ofString "") (cs.map fun c => S [c]) = S cs from join_chars cs]
        have hl : (S cs).length = cs.length := by simp [Str.length]
        exact k _ _ (by omega) (by omega) hlow (hB'.mono (by omega)) e'
end
end LP
namespace LP
open PySem L2
open Evl (Ex)
section
variable {K : PySem.W.Frag} {a : Addr} {g : TG} {tt : TT} {te : TE} {vs : List Nat} {σ : L2.St} {H1 : Hp} {D : Addr} {Qd : Hp → Prop}
/-- a comprehension over the signs of a text: each sign has its value, nothing but new things comes of a turn -/
theorem compS {z : Str} (val : Nat → V) (hD : H1 D = none) (hlen : z.length ≤ 90000)
    (hs : ∀ c, c ∈ z.cps.toList → ∀ H, Ex H1 H → ∀ (k : V → Hp → Prop) (kn : Hp → Prop), (∀ H4, Ex H H4 → k (val c) H4) →
      g (.str ⟨#[c]⟩) (wipe σ vs) H fun σ2 H2 => wipe σ2 vs = wipe σ vs ∧ tt σ2 H2 fun b H3 => if b = true then te σ2 H3 k else kn H3)
    (hd : ∀ H, Ex H1 H → H D = some (.lst (z.cps.toList.map val)) → Qd H) :
    ∃ W : Nat →
            Nat → Hp → Prop, (∃ m, W 0 m (upd H1 D (.lst []))) ∧ ∀ i m H, W i m H →
      ((Its z).stop i H ∧ Qd H) ∨ ((Its z).go i H ∧ ∃ Go : Hp → Prop, (∀ H', Go H' → ∃ m', m' < m ∧ W (i + 1) m' H') ∧ ∀ x H', (Its z).yld i H x H' → g x (wipe σ vs) H' fun σ2 H2 => wipe σ2 vs = wipe σ vs ∧ tt σ2 H2 fun b H3 =>
        if b = true then te σ2 H3 fun y H4 => ∃ got, H4 D = some (.lst got) ∧ got.length < sizeLine ∧ Go (upd H4 D (.lst (got ++ [y]))) else Go H3) := by
  have hz : z.cps.size = z.cps.toList.length := by simp
  have hl0 : z.cps.size ≤ 90000 := hlen
  refine ⟨fun i m H => m = z.cps.size - i ∧ i ≤ z.cps.size ∧ Ex H1 H ∧ H D = some (.lst ((z.cps.toList.take i).map val)), ⟨z.cps.size, by simp, Nat.zero_le _, Ex.new hD, upd_same⟩, ?_⟩
  rintro i m H ⟨rfl, hi, e, ha⟩
  by_cases hlt : i < z.cps.size
  · refine .inr ⟨hlt, fun H => Ex H1 H ∧ H D = some (.lst ((z.cps.toList.take (i + 1)).map val)), fun H' p' => ⟨z.cps.size - (i + 1), by omega, rfl, hlt, p'⟩, fun x H' y => ?_⟩
    obtain ⟨e', c, hc, rfl⟩ := y
    subst e'
    have hx : z.cps.toList[i]? = some c := by rw [Array.getElem?_toList]; exact hc
    have e2 : z.cps.toList.take (i + 1) = z.cps.toList.take i ++ [c] := by
      rw [List.take_succ, hx]
      rfl
    refine hs c (List.mem_of_getElem? hx) H' e _ _ fun H4 e4 => ?_
    refine ⟨_, e4 _ _ ha, ?_, (e.trans e4).mut hD, ?_⟩
    · have : ((z.cps.toList.take i).map val).length ≤ 90000 := by simp only [List.length_map, List.length_take]; omega
      exact Nat.lt_of_le_of_lt this (by decide)
    · rw [e2, List.map_append]
      exact upd_same
  · refine .inl ⟨by show z.cps.size ≤ i; omega, hd H e ?_⟩
    have : i = z.cps.toList.length := by omega
    rw [this, List.take_length] at ha
    exact ha
end
def spStart (K : PySem.W.Frag) : Sp := fun vs H Q _ => ∃ (p : Addr) (is : List Int) (k : Nat), vs = [.ref p, .int k] ∧ SqL K H p (is.map V.int) ∧ is.length ≤ 1000 ∧ k ≤ 60 ∧
  ∀ (q : Addr) (H' : Hp), H q = none → BagAt H' q 0 → Ex H H' → Q (.ref q) H'
def spDue (K : PySem.W.Frag) : Sp := fun vs H Q _ => ∃ (v : V) (d : PyData), vs = [v] ∧ Dp K H v d ∧ (∀ x, d = .str x → x.length ≤ 4000) ∧ ∀ H', Ex H H' → Q (.bl (strD nameB d)) H'
theorem mem_letters (c : Nat) : c ∈ (Str.ofString "abcdefghijklmnopqrstuvwxyz").cps.toList ↔ 97 ≤ c ∧ c ≤ 122 := by
  rw [show (Str.ofString "abcdefghijklmnopqrstuvwxyz").cps.toList = (List.range 26).map (· + 97) from letters_tl]
  simp only [List.mem_map,
          List.mem_range]
  constructor
  · rintro ⟨j, h, rfl⟩
    omega
  · rintro ⟨h1, h2⟩
    exact ⟨c - 97, by omega, by omega⟩
section
variable {base : Heap} {mg : Str → Option Value} {K : PySem.W.Frag} {w : World} {P : Program}
theorem ok_start {f : Addr} {fd : FuncData} (D : C8.Def K mg "_law_start" s__law_start f fd) (b : Binds K fd ["script", "at"] []) (B : Blt mg) : C8.Cal P w K mg base 1 "_law_start" (spStart K) [] := by
  have sc : FnScope ["script", "at", "cell", "digits"] ["script", "at"] (C8.fnScope s__law_start) := C8.fnScope_by (by decide +kernel)
  refine C8.cal0 D b .nil sc (fun vs H Q E h => ?_) (fun cdv A outer s H vs Q E hr h => ?_)
  · obtain ⟨_, _, _, rfl, _⟩ := h
    rfl
  · obtain ⟨p, is, k, rfl, hp, hn, hk, q⟩ := h
    refine ⟨_, (pss_cons (ps_set (i := 2) sc.nd rfl (Or.inl rfl) (pe_ifExp (pt_cmpR op_lt (pv 1) (pe_callB (call_len_seqK (K := K) rfl) (by rfl) B.len_ (by decide +kernel) (pa_cons (pv 0) pa_nil)) (nomark _)) (pe_ix (ix_listK (K := K) rfl) (pv 0) (pv 1) (fun _ _ => rfl)) pe_int))
        (pss_cons (ps_set (i := 3) sc.nd rfl (Or.inl rfl) (pe_ifExp (pt_cmpR op_ge (pe_callB call_abs' (by rfl) B.abs_ (by decide +kernel) (pa_cons (pv 2) pa_nil)) (pe_op op_pow pe_int pe_int) (nomark _)) (pe_callB call_abs' (by rfl) B.abs_ (by decide +kernel) (pa_cons (pv 2) pa_nil)) pe_int))
        (pss_one (ps_ret (pe_lst (pa_cons (pv 3) (pa_cons (pe_op op_add (pe_op op_add (pe_op op_modN (pe_callTy call_int1' (by rfl) B.int_ (by decide +kernel) (pa_cons (pv 2) pa_nil)) pe_int) (pe_op op_mul pe_int (pv 1))) pe_int) (pa_cons pe_int pa_nil)))))))), ?_⟩
    have end_ : ∀ cell : Int, ∀ d : Int, 0 ≤ d → ∀ q' : Addr, H q' = none → Q (.ref q') (upd H q' (.lst [.int d, .int (cell.fmod 2305843009213693951 + 7919 * k + 1), .int 0])) := fun cell d hd q' hq' => by
      have h1 : 0 ≤ cell.fmod 2305843009213693951 := fmod_lo (by decide)
      have h2 : cell.fmod 2305843009213693951 < 2305843009213693951 := fmod_hi (by decide)
      exact q q' _ hq' ⟨d, _, 0, upd_same, hd, by omega, by omega, by omega, by omega⟩ (Ex.new hq')
    walk_at "w"
    rw [List.length_map]
    refine iteD (fun h => ?_) (fun h => ?_)
    · have hlt : k < is.length := by omega
      walk_at "w"
      refine w_ixL hp (atI_nat (v := V.int is[k]) (by rw [List.getElem?_map, List.getElem?_eq_getElem hlt]; rfl)) ?_
      walk_at "w"
      refine iteD (fun h => ?_) (fun h => ?_)
      · walk_at "w"
        exact end_ _ _ (by split <;> omega)
      · walk_at "w"
        exact end_ _ _ (by omega)
    · walk_at "w"
      refine iteD (fun h => ?_) (fun h => ?_)
      · walk_at "w"
        exact end_ _ _ (by split <;> omega)
      · walk_at "w"
        exact end_ _ _ (by omega)
end
end LP
namespace LP
open PySem L2
open Evl (Ex)
/-- what the module's own constants hold -/
structure Cns (K : PySem.W.Frag) (mg : Str → Option Value) (ra C : Addr) : Prop where
  MOST_LETTERS_ : ∃ u, mg "MOST_LETTERS" = some u ∧ RelV (.int 8) u
  MOST_TABLES_ : ∃ u, mg "MOST_TABLES" = some u ∧ RelV (.int 6) u
  MOST_COLUMNS_ : ∃ u, mg "MOST_COLUMNS" = some u ∧ RelV (.int 6) u
  RESERVED_ : ∃ u, mg "RESERVED" = some u ∧ RelV (.ref ra) u
  res : ∀ H : Hp, SqT K H ra (reservedL.map V.str)
  Schema_ : ∃ u, mg "Schema" = some u ∧ RelV (.ref C) u
/-- a question about one value, answered by what it is -/
def spAsk (K : PySem.W.Frag) (f : PyData → Bool) : Sp := fun vs H Q _ => ∃ (v : V) (d : PyData), vs = [v] ∧ Dp K H v d ∧ (∀ x, d = .str x → x.length ≤ 4000) ∧ Q (.bl (f d)) H
def spIsLink : Sp := fun vs H Q _ => ∃ (v : V) (c : Col), vs = [v] ∧ ColAt H v c ∧ Q (.bl c.isLink) H
def spHasList : Sp := fun vs H Q _ => ∃ (v : V) (c : Col), vs = [v] ∧ ColAt H v c ∧ Q (.bl c.lst.isSome) H
def spMayLack : Sp := fun vs H Q _ => ∃ (v : V) (c : Col), vs = [v] ∧ ColAt H v c ∧ Q (.bl c.opt) H
section
variable {base : Heap} {mg : Str → Option Value} {K : PySem.W.Frag} {w : World} {P : Program} {ra C : Addr}
theorem ok_is_letters {f : Addr} {fd : FuncData} (D : C8.Def K mg "is_letters" s_is_letters f fd) (b : Binds K fd ["value"] []) (B : Blt mg) : C8.Cal P w K mg base 1 "is_letters" (spAsk K (strD lettersB)) [] := by
  have sc : FnScope ["value"] ["value"] (C8.fnScope s_is_letters) := C8.fnScope_by (by decide +kernel)
  refine C8.cal0 D b .nil sc (fun vs H Q E h => ?_) (fun cdv A outer s H vs Q E hr h => ?_)
  · obtain ⟨_, _, rfl, _⟩ := h
    rfl
  · obtain ⟨v, d, rfl, hd, hl, k⟩ := h
    refine ⟨_, (pss_one (ps_ret (pe_and (pe_callB (call_isiK1 (K := K) rfl) (by rfl) B.isinstance_ (by decide +kernel) (pa_cons (pv 0) (pa_cons (pe_bltn (v := .ty "str") (u := .type "str") (by rfl) B.str_ (by decide +kernel) rfl) pa_nil))) (pe_and (pe_bm0K (K := K) rfl PySem.F.plainAttrs_str PySem.F.slot_str_isascii PySem.F.type_str_isascii mt_isascii' (pv 0)) (pe_and (pe_m0 PySem.F.slot_str_isalpha PySem.F.type_str_isalpha mt_isalpha' (pv 0)) (pe_one (pe_bm0K (K := K) rfl PySem.F.plainAttrs_str PySem.F.slot_str_islower PySem.F.type_str_islower mt_islower' (pv 0)))))))), ?_⟩
    walk_at "w"
    refine w_isStr hd ?_
    cases hd with
    | str x =>
      have k : Q (.bl (Txt.isascii x && (Txt.isalpha x && Txt.islower x))) H := k
      unfold isStrD
      walk_at "w"
      refine iteB (fun h1 => ?_) (fun h1 => ?_)
      · rw [h1] at k
        walk_at "w"
        refine iteB (fun h2 => ?_) (fun h2 => ?_)
        · rw [h2] at k
          walk_at "w"
          exact k
        · rw [h2] at k
          exact k
      · rw [h1] at k
        exact k
    | _ => exact ⟨false, rfl, iteF k⟩
theorem ok_is_word {f : Addr} {fd : FuncData} (D : C8.Def K mg "is_word" s_is_word f fd) (b : Binds K fd ["value"] []) (B : Blt mg) (T : Cns K mg ra C)
    (c_is_letters : C8.Cal P w K mg base 1 "is_letters" (spAsk K (strD lettersB)) []) : C8.Cal P w K mg base 2 "is_word" (spAsk K (strD wordB)) [] := by
  have sc : FnScope ["value"] ["value"] (C8.fnScope s_is_word) := C8.fnScope_by (by decide +kernel)
  refine C8.cal0 D b .nil sc (fun vs H Q E h => ?_) (fun cdv A outer s H vs Q E hr h => ?_)
  · obtain ⟨_, _, rfl, _⟩ := h
    rfl
  · obtain ⟨v, d, rfl, hd, hl, k⟩ := h
    refine ⟨_, (pss_one (ps_ret (pe_and (C8.pe_c c_is_letters hr (by decide) rfl (pa_cons (pv 0) pa_nil)) (pe_one (pe_cmpR op_le (pe_callB call_len_str' (by rfl) B.len_ (by decide +kernel) (pa_cons (pv 0) pa_nil)) (C8.pe_gc rfl T.MOST_LETTERS_) (nomark _)))))), ?_⟩
    walk_at "w"
    refine ⟨v, d, rfl, hd, hl, ?_⟩
    cases hd with
    | str x =>
      have k : Q (.bl (lettersB x && decide (x.length ≤ 8))) H := k
      show ∃ c, V.bl (lettersB x) = .bl c ∧ _
      walk_at "w"
      refine iteB (fun h1 => ?_) (fun h1 => ?_)
      · rw [h1] at k
        walk_at "w"
        refine w_lenStr (Nat.le_trans (hl x rfl) (by decide)) ?_
        walk_at "w"
        rw [show decide ((x.length : Int) ≤ 8) = decide (x.length ≤ 8) by simp only [decide_eq_decide]; omega]
        exact k
      · rw [h1] at k
        exact k
    | _ => exact ⟨false, rfl, iteF k⟩
theorem ok_is_link {f : Addr} {fd : FuncData} (D : C8.Def K mg "is_link" s_is_link f fd) (b : Binds K fd ["column"] []) : C8.Cal P w K mg base 1 "is_link" spIsLink [] := by
  have sc : FnScope ["column"] ["column"] (C8.fnScope s_is_link) := C8.fnScope_by (by decide +kernel)
  refine C8.cal0 D b .nil sc (fun vs H Q E h => ?_) (fun cdv A outer s H vs Q E hr h => ?_)
  · obtain ⟨_, _, rfl, _⟩ := h
    rfl
  · obtain ⟨v, c, rfl, ⟨a, rfl, ha⟩, k⟩ := h
    refine ⟨_, (pss_one (ps_ret (pe_cmpR op_eq (pe_ix (ix_tupK (K := K) rfl) (pv 0) pe_int (fun _ _ => rfl)) pe_str (nomark _)))), ?_⟩
    walk_at "w"
    refine w_ixT (SqT.of ha) c.at0 ?_
    walk_at "w"
    rw [c.kind_link]
    exact k
theorem ok_has_list {f : Addr} {fd : FuncData} (D : C8.Def K mg "has_list" s_has_list f fd) (b : Binds K fd ["column"] []) (c_is_link : C8.Cal P w K mg base 1 "is_link" spIsLink []) : C8.Cal P w K mg base 2 "has_list" spHasList [] := by
  have sc : FnScope ["column"] ["column"] (C8.fnScope s_has_list) := C8.fnScope_by (by decide +kernel)
  refine C8.cal0 D b .nil sc (fun vs H Q E h => ?_) (fun cdv A outer s H vs Q E hr h => ?_)
  · obtain ⟨_, _, rfl, _⟩ := h
    rfl
  · obtain ⟨v, c, rfl, ⟨a, rfl, ha⟩, k⟩ := h
    refine ⟨_, (pss_one (ps_ret (pe_and (C8.pe_c c_is_link hr (by decide) rfl (pa_cons (pv 0) pa_nil)) (pe_one (pe_cmpR op_notN' (pe_ix (ix_tupK (K := K) rfl) (pv 0) pe_int (fun _ _ => rfl)) pe_non (nomark _)))))), ?_⟩
    walk_at "w"
    refine ⟨_, c, rfl, ⟨a, rfl, ha⟩, ?_⟩
    walk_at "w"
    refine iteB (fun h => ?_) (fun h => ?_)
    · walk_at "w"
      refine w_ixT (SqT.of ha) (Col.at4 h) ?_
      walk_at "w"
      rw [vOpt_non]
      exact k
    · have e : c.lst.isSome = false := by cases c <;> first | rfl | cases h
      rw [e] at k
      exact k
theorem ok_may_lack {f : Addr} {fd : FuncData} (D : C8.Def K mg "may_lack" s_may_lack f fd) (b : Binds K fd ["column"] []) (c_is_link : C8.Cal P w K mg base 1 "is_link" spIsLink []) : C8.Cal P w K mg base 2 "may_lack" spMayLack [] := by
  have sc : FnScope ["column"] ["column"] (C8.fnScope s_may_lack) := C8.fnScope_by (by decide +kernel)
  refine C8.cal0 D b .nil sc (fun vs H Q E h => ?_) (fun cdv A outer s H vs Q E hr h => ?_)
  · obtain ⟨_, _, rfl, _⟩ := h
    rfl
  · obtain ⟨v, c, rfl, ⟨a, rfl, ha⟩, k⟩ := h
    refine ⟨_, (pss_cons (ps_if (pt_val (C8.pe_c c_is_link hr (by decide) rfl (pa_cons (pv 0) pa_nil)))
        (pss_one (ps_ret (pe_ix (ix_tupK (K := K) rfl) (pv 0) pe_int (fun _ _ => rfl))))
        pss_nil)
        (pss_one (ps_ret (pe_and (pe_cmpR op_eq (pe_ix (ix_tupK (K := K) rfl) (pv 0) pe_int (fun _ _ => rfl)) pe_str (nomark _)) (pe_one (pe_ix (ix_tupK (K := K) rfl) (pv 0) pe_int (fun _ _ => rfl))))))), ?_⟩
    walk_at "w"
    refine ⟨_, c, rfl, ⟨a, rfl, ha⟩, ?_⟩
    walk_at "w"
    cases c with
    | link n t o l =>
      refine iteT ?_
      walk_at "w"
      exact k
    | plain fl n =>
      have e : decide (V.str (if fl = true then "flag" else "number") = V.str "word") = false := by
        cases fl with
        | true => show decide (V.str "flag" = V.str "word") = false; decide +kernel
        | false => show decide (V.str "number" = V.str "word") = false; decide +kernel
      refine iteF ?_
      walk_at "w"
      rw [e]
      exact iteF k
    | word n o =>
      refine iteF ?_
      walk_at "w"
      rw [show decide (V.str (Str.ofString "word") = V.str (Str.ofString "word")) = true from decide_eq_true rfl]
      refine iteT ?_
      walk_at "w"
      exact k
end
end LP
namespace LP
open PySem L2
open Evl (Ex)
/-! ### what a schema holds -/
abbrev Lists := List (Str × Str × Str)
def meths : List Str := ["__init__", "_take_columns", "_is_column", "_is_list", "columns", "lists", "filled", "read", "is_name", "__len__", "__contains__", "__eq__", "__str__"]
structure FsOk (fs : List (Str × V)) (dc dl : Addr) : Prop where
  c : fs.lookup ("_columns" : Str) = some (.ref dc)
  l : fs.lookup ("_lists" : Str) = some (.ref dl)
  no : ∀ m ∈ meths, fs.lookup m = none
structure SchC (K : PySem.W.Frag) (C : Addr) : Prop where
  cls : Cls K C
  columns_ : NoAttr K C "_columns"
  lists_ : NoAttr K C "_lists"
  user_ : NoAttr K C "user"
  tables_ : NoAttr K C "tables"
  lines_ : NoAttr K C "_lines"
def ColRow (H : Hp) (kv : Key × V) (t : Str × List Col) : Prop := kv.1 = .inr t.1 ∧ ∃ a vs, kv.2 = .ref a ∧ H a = some (.tup vs) ∧ ColsV H vs t.2
def ListEnt (H : Hp) (kv : Key × V) (e : Str × Str × Str) : Prop := kv.1 = .inr e.1 ∧ ∃ b, kv.2 = .ref b ∧ H b = some (.tup [.str e.2.1, .str e.2.2])
def ListRow (H : Hp) (a : Addr) (ls : Lists) : Prop := ∃ kvs, H a = some (.dK kvs) ∧ Paired (ListEnt H) kvs ls
abbrev Rows := List (Str × Addr × Lists)
def Rows.kvs (rs : Rows) : List (Key × V) := rs.map fun r => (.inr r.1, .ref r.2.1)
/-- the schema's instance at p, with its two dicts -/
structure Part (C : Addr) (H : Hp) (p dc dl : Addr) (cvs : List (Key × V)) (rs : Rows) (ts : Tabs) : Prop where
  ins : ∃ dx fs, H p = some (.ins C dx fs) ∧ FsOk fs dc dl
  hdc : H dc = some (.dK cvs)
  cols : Paired (ColRow H) cvs ts
  hdl : H dl = some (.dK rs.kvs)
  lst : ∀ r ∈ rs, ListRow H r.2.1 r.2.2
  nd : (rs.map fun r => r.2.1).Nodup
  dd : dc ≠ dl
  rd : ∀ r ∈ rs, r.2.1 ≠ dc ∧ r.2.1 ≠ dl
  kn : (rs.map fun r => r.1).Nodup
theorem ColRow.ext {H H' : Hp} {kv : Key × V} {t : Str × List Col} (e : Ex H H') (h : ColRow H kv t) : ColRow H' kv t := by
  obtain ⟨h1, a, vs, h2, h3, h4⟩ := h
  exact ⟨h1, a, vs, h2, e _ _ h3, h4.ext e⟩
theorem ListEnt.ext {H H' : Hp} {kv : Key × V} {t : Str × Str × Str} (e : Ex H H') (h : ListEnt H kv t) : ListEnt H' kv t := by
  obtain ⟨h1, a, h2, h3⟩ := h
  exact ⟨h1, a, h2, e _ _ h3⟩
theorem ListRow.ext {H H' : Hp} {a : Addr} {ls : Lists} (e : Ex H H') (h : ListRow H a ls) : ListRow H' a ls := by
  obtain ⟨kvs, h1, h2⟩ := h
  exact ⟨kvs, e _ _ h1, paired_imp (fun _ _ => ListEnt.ext e) h2⟩
theorem Part.ext {C : Addr} {H H' : Hp} {p dc dl : Addr} {cvs : List (Key × V)} {rs : Rows} {ts : Tabs} (e : Ex H H') (h : Part C H p dc dl cvs rs ts) : Part C H' p dc dl cvs rs ts := by
  obtain ⟨⟨dx, fs, h1, h2⟩, h3, h4, h5, h6, h7, h8, h9, h10⟩ := h
  exact ⟨⟨dx, fs, e _ _ h1, h2⟩, e _ _ h3, paired_imp (fun _ _ => ColRow.ext e) h4, e _ _ h5, fun r hr => (h6 r hr).ext e, h7, h8, h9, h10⟩
/-- a key among paired entries -/
theorem valV_pair {α : Type} {R : Key × V → Str × α → Prop} (hR : ∀ kv e, R kv e → kv.1 = .inr e.1) : ∀ {kvs : List (Key × V)} {es : List (Str × α)}, Paired R kvs es → ∀ n : Str,
    (valV kvs (Sum.inr n : Key) = none ∧ n ∉ es.map (·.1)) ∨ ∃ kv e, e ∈ es ∧ e.1 = n ∧ R kv e ∧ valV kvs (Sum.inr n : Key) = some kv.2 ∧ es.lookup n = some e.2
  | _, _, .nil, n => .inl ⟨rfl, List.not_mem_nil⟩
  | _, _, .cons (a := kv) (b := e) h r, n => by
    have k := hR _ _ h
    by_cases hn : e.1 = n
    · refine .inr ⟨kv, e, List.mem_cons_self, hn, h, valV_pos (by rw [k, hn]), ?_⟩
      rw [List.lookup_cons, show (n == e.1) = true by rw [hn]; exact beq_self_eq_true n]
    · have hk : kv.1 ≠ (.inr n : Key) := by
        rw [k]
        intro z
        exact hn (Sum.inr.inj z)
      rcases valV_pair hR r n with ⟨h1, h2⟩ | ⟨kv', e', h1, h2, h3, h4, h5⟩
      · refine .inl ⟨by rw [valV_neg hk]; exact h1, ?_⟩
        rw [List.map_cons, List.mem_cons]
        rintro (z | z)
        · exact hn z.symm
        · exact h2 z
      · refine .inr ⟨kv', e', List.mem_cons_of_mem _ h1, h2, h3, by rw [valV_neg hk]; exact h4, ?_⟩
        rw [List.lookup_cons, show (n == e.1) = false from beq_eq_false_iff_ne.mpr fun z => hn z.symm]
        exact h5
theorem Part.has {C : Addr} {H : Hp} {p dc dl : Addr} {cvs : List (Key × V)} {rs : Rows} {ts : Tabs} (h : Part C H p dc dl cvs rs ts) (n : Str) : (valV cvs (Sum.inr n : Key)).isSome = decide (n ∈ ts.map (·.1)) := by
  rcases valV_pair (fun _ _ h => h.1) h.cols n with ⟨h1, h2⟩ | ⟨kv, e, h1, h2, h3, h4, h5⟩
  · rw [h1, decide_eq_false h2]
    rfl
  · rw [h4, decide_eq_true (List.mem_map.mpr ⟨e, h1, h2⟩)]
    rfl
def spContains (K : PySem.W.Frag) (C : Addr) : Sp := fun vs H Q _ => ∃ (p : Addr) (v : V) (d : PyData) (dc dl : Addr) (cvs : List (Key × V)) (rs : Rows) (ts : Tabs), vs = [.ref p, v] ∧ Part C H p dc dl cvs rs ts ∧ Dp K H v d ∧
  Q (.bl (strD (fun n => decide (n ∈ ts.map (·.1))) d)) H
section
variable {base : Heap} {mg : Str → Option Value} {K : PySem.W.Frag} {w : World} {P : Program} {ra C : Addr}
theorem ok_contains {f : Addr} {fd : FuncData} (S : SchC K C) (me : Meth K C "__contains__" f) (F : C8.Fun K "__contains__" "Schema.__contains__" s_Schema___contains__ f fd) (b : Binds K fd ["self", "thing"] []) (B : Blt mg) :
    C8.Met P w K mg base 1 C "__contains__" (spContains K C) [] := by
  have sc : FnScope ["self", "thing"] ["self", "thing"] (C8.fnScope s_Schema___contains__) := C8.fnScope_by (by decide +kernel)
  refine C8.met0 S.cls me F b sc (fun vs H Q E h => ?_) (fun cdv A outer s H vs Q E hr h => ?_)
  · obtain ⟨_, _, _, _, _, _, _, _, rfl, _⟩ := h
    rfl
  · obtain ⟨p, v, d, dc, dl, cvs, rs, ts, rfl, hP, hd, k⟩ := h
    obtain ⟨⟨dx, fs, h1, h2⟩, h3, h4, h5, h6, h7, _, _, _⟩ := id hP
    refine ⟨_, (pss_one (ps_ret (pe_and (pe_callB (call_isiK1 (K := K) rfl) (by rfl) B.isinstance_ (by decide +kernel) (pa_cons (pv 1) (pa_cons (pe_bltn (v := .ty "str") (u := .type "str") (by rfl) B.str_ (by decide +kernel) rfl) pa_nil))) (pe_one ((pe_cmp (pc_din (hu_of hr) (pv 1) (pe_fldK (K := K) rfl (pv 0) rfl)) rfl)))))), ?_⟩
    walk_at "w"
    refine w_isStr hd ?_
    cases hd with
    | str x =>
      have k : Q (.bl (decide (x ∈ ts.map (·.1)))) H := k
      unfold isStrD
      walk_at "w"
      refine w_kFld h1 S.cls S.columns_ h2.c ?_
      refine w_kIn h3 ?_
      rw [hP.has]
      exact k
    | _ => exact ⟨false, rfl, iteF k⟩
theorem ok_is_name {p g : Addr} {fd : FuncData} {mc : Value} (r : ClX.CRead K C mc) (c1 : SMet K C mc "is_name" p g) (c2 : SInst K C "is_name" p g) (F : C8.Fun K "is_name" "Schema.is_name" s_Schema_is_name g fd) (b : Binds K fd ["value"] []) (B : Blt mg) (T : Cns K mg ra C)
    (c_is_word : C8.Cal P w K mg base 2 "is_word" (spAsk K (strD wordB)) []) : SCal P w K mg base 3 C mc "is_name" (spAsk K (strD nameB)) := by
  have sc : FnScope ["value"] ["value"] (C8.fnScope s_Schema_is_name) := C8.fnScope_by (by decide +kernel)
  refine ⟨p, g, fd, _, r, c1, c2, C8.fn0 F sc (fun vs H Q E h => ?_) (fun cdv A outer s H vs Q E hr h => ?_), b⟩
  · obtain ⟨_, _, rfl, _⟩ := h
    rfl
  · obtain ⟨v, d, rfl, hd, hl, k⟩ := h
    refine ⟨_, (pss_one (ps_ret (pe_and (C8.pe_c c_is_word hr (by decide) rfl (pa_cons (pv 0) pa_nil)) (pe_one (pe_cmpR (op_notIn_seqK (K := K) rfl) (pv 0) (C8.pe_gc rfl T.RESERVED_) (by rfl)))))), ?_⟩
    walk_at "w"
    refine ⟨v, d, rfl, hd, hl, ?_⟩
    cases hd with
    | str x =>
      have k : Q (.bl (wordB x && !decide (x ∈ reservedL))) H := k
      show ∃ c, V.bl (wordB x) = .bl c ∧ _
      walk_at "w"
      refine iteB (fun h1 => ?_) (fun h1 => ?_)
      · rw [h1] at k
        walk_at "w"
        refine w_inT (T.res H) rfl (flat_strs _) ?_
        rw [inV_str]
        exact k
      · rw [h1] at k
        exact k
    | _ => exact ⟨false, rfl, iteF k⟩
end
end LP
namespace LP
open PySem L2
open Evl (Ex)
theorem Part.cget {C : Addr} {H : Hp} {p dc dl : Addr} {cvs : List (Key × V)} {rs : Rows} {ts : Tabs} {n : Str} {cs : List Col} (h : Part C H p dc dl cvs rs ts) (e : ts.lookup n = some cs) :
    ∃ a vs, valV cvs (Sum.inr n : Key) = some (.ref a) ∧ H a = some (.tup vs) ∧ ColsV H vs cs := by
  rcases valV_pair (fun _ _ h => h.1) h.cols n with ⟨h1, h2⟩ | ⟨kv, t, h1, h2, ⟨h3, a, vs, h4, h5, h6⟩, h7, h8⟩
  · exact absurd (List.mem_map.mpr ⟨(n, cs), PySem.mem_of_lookup e, rfl⟩) h2
  · rw [e] at h8
    cases h8
    exact ⟨a, vs, by rw [h7, h4], h5, h6⟩
/-- the lists of each table -/
def Rows.mir (rs : Rows) : List (Str × Lists) := rs.map fun r => (r.1, r.2.2)
theorem rows_get : ∀ {rs : Rows} {n : Str} {ls : Lists}, rs.mir.lookup n = some ls → ∃ a, valV rs.kvs (Sum.inr n : Key) = some (.ref a) ∧ (n, a, ls) ∈ rs
  | [], _, _, h => by cases h
  | (m, a, l) :: r, n, ls, h => by
    have h : List.lookup n ((m, l) :: Rows.mir r) = some ls := h
    rw [List.lookup_cons] at h
    by_cases e : n = m
    · subst e
      rw [show (n == n) = true from beq_self_eq_true n] at h
      cases h
      exact ⟨a, valV_pos (p := ((.inr n, .ref a) : Key × V)) rfl, List.mem_cons_self⟩
    · rw [show (n == m) = false from beq_eq_false_iff_ne.mpr e] at h
      obtain ⟨b, h1, h2⟩ := rows_get (rs := r) h
      refine ⟨b, ?_, List.mem_cons_of_mem _ h2⟩
      exact (valV_neg (p := ((.inr m, .ref a) : Key × V)) (fun z => e (Sum.inr.inj z).symm)).trans h1
theorem ListRow.has {H : Hp} {a : Addr} {ls : Lists} {kvs : List (Key × V)} (h : Paired (ListEnt H) kvs ls) (n : Str) : (valV kvs (Sum.inr n : Key)).isSome = decide (n ∈ ls.map (·.1)) := by
  rcases valV_pair (fun _ _ h => h.1) h n with ⟨h1, h2⟩ | ⟨kv, e, h1, h2, h3, h4, h5⟩
  · rw [h1, decide_eq_false h2]
    rfl
  · rw [h4, decide_eq_true (List.mem_map.mpr ⟨e, h1, h2⟩)]
    rfl
def isListB (cs : List Col) (ls : Lists) : Option Str → Bool
  | none => true
  | some x => nameB x && !decide (x ∈ cs.map Col.name) && !decide (x ∈ ls.map (·.1))
def spIsList (K : PySem.W.Frag) (C : Addr) : Sp := fun vs H Q _ => ∃ (p : Addr) (t : Str) (l : Option Str) (dc dl : Addr) (cvs : List (Key × V)) (rs : Rows) (ts : Tabs) (cs : List Col) (ls : Lists), vs = [.ref p, .str t, vOpt l] ∧ Part C H p dc dl cvs rs ts ∧
  ts.lookup t = some cs ∧ rs.mir.lookup t = some ls ∧ cs.length ≤ 1000 ∧ (∀ x, l = some x → x.length ≤ 4000) ∧ ∀ H', Ex H H' → Q (.bl (isListB cs ls l)) H'
section
variable {base : Heap} {mg : Str → Option Value} {K : PySem.W.Frag} {w : World} {P : Program} {ra C : Addr}
theorem ok_is_list {f : Addr} {fd : FuncData} {mc : Value} (S : SchC K C) (me : Meth K C "_is_list" f) (F : C8.Fun K "_is_list" "Schema._is_list" s_Schema__is_list f fd) (b : Binds K fd ["self", "table", "name"] []) (B : Blt mg) (T : Cns K mg ra C)
    (c_is_name : SCal P w K mg base 3 C mc "is_name" (spAsk K (strD nameB))) :
    C8.Met P w K mg base 4 C "_is_list" (spIsList K C) [] := by
  have sc : FnScope ["self", "table", "name", "names", "column"] ["self", "table", "name"] (C8.fnScope s_Schema__is_list) := C8.fnScope_by (by decide +kernel)
  refine C8.met0 S.cls me F b sc (fun vs H Q E h => ?_) (fun cdv A outer s H vs Q E hr h => ?_)
  · obtain ⟨_, _, _, _, _, _, _, _, _, _, rfl, _⟩ := h
    rfl
  · obtain ⟨p, t, l, dc, dl, cvs, rs, ts, cs, ls, rfl, hP, ht, hr', hlen, hsz, k⟩ := h
    obtain ⟨⟨dx, fs, h1, h2⟩, h3, h4, h5, h6, h7, _, _, _⟩ := id hP
    obtain ⟨ca, cvals, g1, g2, g3⟩ := hP.cget ht
    obtain ⟨la, l1, l2⟩ := rows_get hr'
    obtain ⟨kvs, m1, m2⟩ := h6 _ l2
    have ll := paired_len g3
    refine ⟨_, (pss_cons (ps_if (pt_cmpR op_isN' (pv 2) pe_non (nomark _))
        (pss_one (ps_ret pe_bl))
        pss_nil)
        (pss_cons (ps_setLc (i := 3) (own := [("column", 4)]) (g := (gName 4)) (by rfl) sc.nd rfl rfl (sw_true rfl rfl rfl (by decide +kernel)) (pi_tupK (K := K) rfl (pe_dget (hu_of hr) (pe_fldK (K := K) rfl (pv 0) rfl) (pv 1) (fun _ _ => rfl))) (blkOk_by (own := [("column", 4)]) (N := ["self", "table", "name", "names", "column"]) (sc := C8.fnScope s_Schema__is_list) (by decide +kernel)) (fun _ _ _ _ _ => (pg_name (i := 4) sc.nd rfl (Or.inl rfl))) (fun _ _ _ _ _ => pts_nil) (fun _ _ _ _ _ => (pe_ix (ix_tupK (K := K) rfl) (pv 4) pe_int (fun _ _ => rfl))))
        (pss_one (ps_ret (pe_and (pe_sm c_is_name hr (by decide) (C8.pe_gc rfl T.Schema_) (pa_cons (pv 2) pa_nil)) (pe_and (pe_cmpR (op_notIn_seqK (K := K) rfl) (pv 2) (pv 3) (by rfl)) (pe_one ((pe_cmp (pc_dnotin (hu_of hr) (pv 2) (pe_dget (hu_of hr) (pe_fldK (K := K) rfl (pv 0) rfl) (pv 1) (fun _ _ => rfl))) rfl))))))))), ?_⟩
    walk_at "w"
    cases l with
    | none =>
      refine iteT ?_
      walk_at "w"
      exact k _ (Ex.refl _)
    | some x =>
      refine iteF ?_
      walk_at "w"
      refine w_kFld h1 S.cls S.columns_ h2.c ?_
      walk_at "w"
      refine w_kG h3 g1 ?_
      walk_at "w"
      intro D hD
      refine compQT cs (ColAt H) (fun c => some c.name) (fun v x => v = V.str x) hD (SqT.of g2) (by omega) g3 (fun y c hy hm H3 e3 kk kn hk hn => ?_) (fun acc H3 e3 hacc hp => ?_)
      · obtain ⟨a, rfl, ha⟩ := hy
        have ha3 := e3 _ _ ha
        walk_at "w"
        refine w_ixT (SqT.of ha3) c.at1 ?_
        exact hk _ _ _ (Ex.refl _) rfl rfl
      · rw [filterMap_some] at hp
        have ev := vals_strs hp
        walk_at "w"
        refine ⟨_, .str x, rfl, .str x, (fun y e => by cases e; exact hsz x rfl), ?_⟩
        show ∃ c, V.bl (nameB x) = .bl c ∧ _
        have k : ∀ H', Ex H H' → Q (.bl (nameB x && !decide (x ∈ cs.map Col.name) && !decide (x ∈ ls.map (·.1)))) H' := k
        walk_at "w"
        refine iteB (fun b1 => ?_) (fun b1 => ?_)
        · rw [b1] at k
          walk_at "w"
          refine w_notInStr (SqL.of (ev ▸ hacc)) ?_
          walk_at "w"
          refine iteND (fun b2 => ?_) (fun b2 => ?_)
          · rw [decide_eq_false b2] at k
            walk_at "w"
            refine w_kFld (e3 _ _ h1) S.cls S.lists_ h2.l ?_
            walk_at "w"
            refine w_kG (e3 _ _ h5) l1 ?_
            have m3 : H3 la = some (.dK kvs) := e3 _ _ m1
            refine w_kNin (k := x) (z := fun v => Q v H3) m3 ?_
            rw [ListRow.has (a := la) m2]
            exact k _ e3
          · rw [decide_eq_true b2] at k
            exact k _ e3
        · rw [b1] at k
          exact k _ e3
end
end LP
namespace LP
open PySem L2
open Evl (Ex)
structure LenC (K : PySem.W.Frag) (mg : Str → Option Value) (la : Addr) : Prop where
  LENGTHS_ : ∃ u, mg "LENGTHS" = some u ∧ RelV (.ref la) u
  at_ : ∀ c : Col, ∃ u, PySem.W.nsIn K la c.kind = some (some u) ∧ RelV (.int c.vals.length) u
theorem kitB_self {t : String} : kitB t t = some true := by
  unfold kitB
  rw [if_pos]
  exact beq_self_eq_true _
section
variable {K : PySem.W.Frag} {H : Hp} {Q : VK} {v : V} {σ : L2.St}
theorem w_isT {t : String} (h : TyX K H v (.type t)) (q : Q (.bl true) H) : rIsi K [v, .ty t] H Q := w_isi h kitB_self q
theorem ColAt.ty {c : Col} (h : ColAt H v c) : TyX K H v (.type "tuple") := dp_ty (K := K) (d := c.data) h.dp
theorem w_kgetT {d : Addr} {td ty tx : TE} (h : td σ H fun x H1 => x = .ref d ∧ ty σ H1 fun y H2 => tx σ H2 fun _ H3 => ∃ k u0 v0, y = .str k ∧ PySem.W.nsIn K d k = some (some u0) ∧ RelV v0 u0 ∧ Q v0 H3) : tKGet K d td ty tx σ H Q := h
end
theorem Col.len2 (c : Col) : 2 ≤ c.vals.length := by cases c <;> simp [Col.vals]
/-- a column that may stand behind columns of these names -/
structure ColIn (c : Col) (ns : List Str) (m : List (Str × Lists)) (ts : Tabs) : Prop where
  nm : IsName c.name
  nw : c.name ∉ ns
  lk : c.isLink = true → ∃ cs ls, ts.lookup c.target = some cs ∧ m.lookup c.target = some ls ∧ cs.length ≤ 1000 ∧ (∀ x, c.lst = some x → x.length ≤ 4000) ∧ isListB cs ls c.lst = true
def spIsColumn (K : PySem.W.Frag) (C : Addr) : Sp := fun vs H Q _ => ∃ (p nl : Addr) (v : V) (c : Col) (ns : List Str) (dc dl : Addr) (cvs : List (Key × V)) (rs : Rows) (ts : Tabs), vs = [.ref p, v, .ref nl] ∧ Part C H p dc dl cvs rs ts ∧ ColAt H v c ∧
  SqL K H nl (ns.map V.str) ∧ ColIn c ns rs.mir ts ∧ ∀ H', Ex H H' → Q (.bl true) H'
section
variable {base : Heap} {mg : Str → Option Value} {K : PySem.W.Frag} {w : World} {P : Program} {ra C la : Addr} {es : Array DictEntry} {ne : Nat}
theorem ok_is_column {f : Addr} {fd : FuncData} {mc : Value} (S : SchC K C) (me : Meth K C "_is_column" f) (F : C8.Fun K "_is_column" "Schema._is_column" s_Schema__is_column f fd) (b : Binds K fd ["self", "column", "names"] []) (B : Blt mg) (T : Cns K mg ra C)
    (LD : KDict K w la es ne) (LN : LenC K mg la) (c_is_name : SCal P w K mg base 3 C mc "is_name" (spAsk K (strD nameB))) (c_is_link : C8.Cal P w K mg base 1 "is_link" spIsLink []) (c___contains__ : C8.Met P w K mg base 1 C "__contains__" (spContains K C) [])
    (c__is_list : C8.Met P w K mg base 4 C "_is_list" (spIsList K C) []) :
    C8.Met P w K mg base 5 C "_is_column" (spIsColumn K C) [] := by
  have sc : FnScope ["self", "column", "names"] ["self", "column", "names"] (C8.fnScope s_Schema__is_column) := C8.fnScope_by (by decide +kernel)
  refine C8.met0 S.cls me F b sc (fun vs H Q E h => ?_) (fun cdv A outer s H vs Q E hr h => ?_)
  · obtain ⟨_, _, _, _, _, _, _, _, _, _, rfl, _⟩ := h
    rfl
  · obtain ⟨p, nl, v, c, ns, dc, dl, cvs, rs, ts, rfl, hP, ⟨a, rfl, ha⟩, hn, hc, k⟩ := h
    obtain ⟨⟨dx, fs, h1, h2⟩, h3, h4, h5, h6, h7, _, _, _⟩ := id hP
    have tt : SqT K H a c.vals := SqT.of ha
    refine ⟨_, (pss_cons (ps_if (PW.pt (pw_or (pt_not (pt_val (pe_callB (call_isiK1 (K := K) rfl) (by rfl) B.isinstance_ (by decide +kernel) (pa_cons (pv 1) (pa_cons (pe_bltn (v := .ty "tuple") (u := .type "tuple") (by rfl) B.tuple_ (by decide +kernel) rfl) pa_nil))))) (pw_or (pt_cmpR op_lt (pe_callB (call_len_seqK (K := K) rfl) (by rfl) B.len_ (by decide +kernel) (pa_cons (pv 1) pa_nil)) pe_int (nomark _)) (pw_or1 (pt_not (pt_val (pe_callB (call_isiK1 (K := K) rfl) (by rfl) B.isinstance_ (by decide +kernel) (pa_cons (pe_ix (ix_tupK (K := K) rfl) (pv 1) pe_int (fun _ _ => rfl)) (pa_cons (pe_bltn (v := .ty "str") (u := .type "str") (by rfl) B.str_ (by decide +kernel) rfl) pa_nil)))))))))
        (pss_one (ps_ret pe_bl))
        pss_nil)
        (pss_cons (ps_if (pt_cmpR op_ne ((pe_kget2 LD (C8.pe_gc rfl LN.LENGTHS_) (pe_ix (ix_tupK (K := K) rfl) (pv 1) pe_int (fun _ _ => rfl)) pe_int ⟨rfl, rfl, rfl, rfl⟩)) (pe_callB (call_len_seqK (K := K) rfl) (by rfl) B.len_ (by decide +kernel) (pa_cons (pv 1) pa_nil)) (nomark _))
        (pss_one (ps_ret pe_bl))
        pss_nil)
        (pss_cons (ps_if (PW.pt (pw_or (pt_not (pt_val (pe_sm c_is_name hr (by decide) (C8.pe_gc rfl T.Schema_) (pa_cons (pe_ix (ix_tupK (K := K) rfl) (pv 1) pe_int (fun _ _ => rfl)) pa_nil)))) (pw_or1 (pt_cmpR (op_in_seqK (K := K) rfl) (pe_ix (ix_tupK (K := K) rfl) (pv 1) pe_int (fun _ _ => rfl)) (pv 2) (by rfl)))))
        (pss_one (ps_ret pe_bl))
        pss_nil)
        (pss_cons (ps_if (pt_val (C8.pe_c c_is_link hr (by decide) rfl (pa_cons (pv 1) pa_nil)))
        (pss_one (ps_ret (pe_and (pe_cmpR (op_oin (dvs := []) c___contains__ hr (by decide)) (pe_ix (ix_tupK (K := K) rfl) (pv 1) pe_int (fun _ _ => rfl)) (pv 0) (by rfl)) (pe_and (pe_callB (call_isiK1 (K := K) rfl) (by rfl) B.isinstance_ (by decide +kernel) (pa_cons (pe_ix (ix_tupK (K := K) rfl) (pv 1) pe_int (fun _ _ => rfl)) (pa_cons (pe_bltn (v := .ty "bool") (u := .type "bool") (by rfl) B.bool_ (by decide +kernel) rfl) pa_nil))) (pe_one (C8.pe_mt c__is_list hr (by decide) (pv 0) (pa_cons (pe_ix (ix_tupK (K := K) rfl) (pv 1) pe_int (fun _ _ => rfl)) (pa_cons (pe_ix (ix_tupK (K := K) rfl) (pv 1) pe_int (fun _ _ => rfl)) pa_nil))))))))
        pss_nil)
        (pss_one (ps_ret (pe_or (pe_cmpR op_ne (pe_ix (ix_tupK (K := K) rfl) (pv 1) pe_int (fun _ _ => rfl)) pe_str (nomark _)) (pe_one (pe_callB (call_isiK1 (K := K) rfl) (by rfl) B.isinstance_ (by decide +kernel) (pa_cons (pe_ix (ix_tupK (K := K) rfl) (pv 1) pe_int (fun _ _ => rfl)) (pa_cons (pe_bltn (v := .ty "bool") (u := .type "bool") (by rfl) B.bool_ (by decide +kernel) rfl) pa_nil))))))))))), ?_⟩
    walk_at "w"
    refine w_isT (ColAt.ty (c := c) ⟨a, rfl, ha⟩) ?_
    walk_at "w"
    have l2 := c.len2
    refine iteD (fun h => absurd h (by omega)) (fun _ => ?_)
    walk_at "w"
    refine w_ixT tt c.at0 ?_
    walk_at "w"
    refine w_isT (.base (.str _)) ?_
    walk_at "w"
    refine w_kgetT ?_
    walk_at "w"
    refine w_ixT tt c.at0 ?_
    walk_at "w"
    obtain ⟨u, n1, n2⟩ := LN.at_ c
    refine ⟨_, u, _, rfl, n1, n2, ?_⟩
    walk_at "w"
    refine iteND (fun h => absurd rfl h) (fun _ => ?_)
    walk_at "w"
    refine w_ixT tt c.at1 ?_
    walk_at "w"
    refine ⟨_, .str c.name, rfl, .str _, (fun y e => by cases e; exact Nat.le_trans hc.nm.1.2.1 (by decide)), ?_⟩
    rw [show strD nameB (.str c.name) = true from (nameB_iff _).mpr hc.nm]
    walk_at "w"
    refine w_ixT tt c.at1 ?_
    walk_at "w"
    refine w_inStr hn ?_
    rw [decide_eq_false hc.nw]
    walk_at "w"
    refine ⟨_, c, rfl, ⟨a, rfl, ha⟩, ?_⟩
    walk_at "w"
    refine iteB (fun hL => ?_) (fun hL => ?_)
    · walk_at "w"
      obtain ⟨cs, ls, e1, e2, e3, e4, e5⟩ := hc.lk hL
      refine w_ixT tt (Col.at2 hL) ?_
      walk_at "w"
      refine w_ownIn h1 ?_
      refine ⟨p, _, .str c.target, dc, dl, cvs, rs, ts, rfl, hP, .str _, ?_⟩
      rw [show strD (fun n => decide (n ∈ ts.map (·.1))) (.str c.target) = true from decide_eq_true (List.mem_map.mpr ⟨_, PySem.mem_of_lookup e1, rfl⟩)]
      refine ⟨true, rfl, ?_⟩
      refine ⟨true, rfl, iteT ?_⟩
      walk_at "w"
      refine w_ixT tt (Col.at3 hL) ?_
      walk_at "w"
      refine w_isT (.base (.bl _)) ?_
      walk_at "w"
      refine w_kMeth h1 (h2.no _ (by decide)) ?_
      walk_at "w"
      refine w_ixT tt (Col.at2 hL) ?_
      walk_at "w"
      refine w_ixT tt (Col.at4 hL) ?_
      walk_at "w"
      refine ⟨p, c.target, c.lst, dc, dl, cvs, rs, ts, cs, ls, rfl, hP, e1, e2, e3, e4, fun H' ex => ?_⟩
      rw [e5]
      exact k _ ex
    · walk_at "w"
      cases c with
      | link n t o l => cases hL
      | plain fl n =>
        have e : decide (V.str (if fl = true then "flag" else "number") = V.str "word") = false := by
          cases fl with
          | true => show decide (V.str "flag" = V.str "word") = false; decide +kernel
          | false => show decide (V.str "number" = V.str "word") = false; decide +kernel
        walk_at "w"
        rw [e]
        walk_at "w"
        exact k _ (Ex.refl _)
      | word n o =>
        walk_at "w"
        rw [show decide (V.str (Str.ofString "word") = V.str (Str.ofString "word")) = true from decide_eq_true rfl]
        walk_at "w"
        refine w_isT (.base (.bl _)) ?_
        exact k _ (Ex.refl _)
end
end LP
namespace LP
open PySem L2
open Evl (Ex)
/-! ### whether any value is None or a name that a list may get -/
def isListD (cs : List Col) (ls : Lists) : PyData → Bool
  | .none => true
  | .str x => isListB cs ls (some x)
  | _ => false
theorem strD_str {f : Str → Bool} {d : PyData} (h : strD f d = true) : ∃ x, d = .str x ∧ f x = true := by
  cases d with
  | str x => exact ⟨x, rfl, h⟩
  | _ => cases h
theorem isListD_no {cs : List Col} {ls : Lists} {d : PyData} (hn : d ≠ .none) (h : strD nameB d = false) : isListD cs ls d = false := by
  cases d with
  | none => exact absurd rfl hn
  | str x =>
    have h : nameB x = false := h
    show (nameB x && !decide (x ∈ cs.map Col.name) && !decide (x ∈ ls.map (·.1))) = false
    rw [h]
    rfl
  | _ => rfl
def spIsListG (K : PySem.W.Frag) (C : Addr) : Sp := fun vs H Q _ => ∃ (p : Addr) (t : Str) (v : V) (d : PyData) (dc dl : Addr) (cvs : List (Key × V)) (rs : Rows) (ts : Tabs) (cs : List Col) (ls : Lists), vs = [.ref p, .str t, v] ∧ Part C H p dc dl cvs rs ts ∧ Dp K H v d ∧
  ts.lookup t = some cs ∧ rs.mir.lookup t = some ls ∧ cs.length ≤ 1000 ∧ (∀ x, d = .str x → x.length ≤ 4000) ∧ ∀ H', Ex H H' → Q (.bl (isListD cs ls d)) H'
section
variable {base : Heap} {mg : Str → Option Value} {K : PySem.W.Frag} {w : World} {P : Program} {ra C : Addr}
theorem ok_is_listG {f : Addr} {fd : FuncData} {mc : Value} (S : SchC K C) (me : Meth K C "_is_list" f) (F : C8.Fun K "_is_list" "Schema._is_list" s_Schema__is_list f fd) (b : Binds K fd ["self", "table", "name"] []) (B : Blt mg) (T : Cns K mg ra C)
    (c_is_name : SCal P w K mg base 3 C mc "is_name" (spAsk K (strD nameB))) :
    C8.Met P w K mg base 4 C "_is_list" (spIsListG K C) [] := by
  have sc : FnScope ["self", "table", "name", "names", "column"] ["self", "table", "name"] (C8.fnScope s_Schema__is_list) := C8.fnScope_by (by decide +kernel)
  refine C8.met0 S.cls me F b sc (fun vs H Q E h => ?_) (fun cdv A outer s H vs Q E hr h => ?_)
  · obtain ⟨_, _, _, _, _, _, _, _, _, _, _, rfl, _⟩ := h
    rfl
  · obtain ⟨p, t, v, d, dc, dl, cvs, rs, ts, cs, ls, rfl, hP, hd, ht, hr', hlen, hsz, k⟩ := h
    obtain ⟨⟨dx, fs, h1, h2⟩, h3, h4, h5, h6, h7, _, _, _⟩ := id hP
    obtain ⟨ca, cvals, g1, g2, g3⟩ := hP.cget ht
    obtain ⟨la, l1, l2⟩ := rows_get hr'
    obtain ⟨kvs, m1, m2⟩ := h6 _ l2
    have ll := paired_len g3
    refine ⟨_, (pss_cons (ps_if (pt_cmpR op_isN' (pv 2) pe_non (nomark _))
        (pss_one (ps_ret pe_bl))
        pss_nil)
        (pss_cons (ps_setLc (i := 3) (own := [("column", 4)]) (g := (gName 4)) (by rfl) sc.nd rfl rfl (sw_true rfl rfl rfl (by decide +kernel)) (pi_tupK (K := K) rfl (pe_dget (hu_of hr) (pe_fldK (K := K) rfl (pv 0) rfl) (pv 1) (fun _ _ => rfl))) (blkOk_by (own := [("column", 4)]) (N := ["self", "table", "name", "names", "column"]) (sc := C8.fnScope s_Schema__is_list) (by decide +kernel)) (fun _ _ _ _ _ => (pg_name (i := 4) sc.nd rfl (Or.inl rfl))) (fun _ _ _ _ _ => pts_nil) (fun _ _ _ _ _ => (pe_ix (ix_tupK (K := K) rfl) (pv 4) pe_int (fun _ _ => rfl))))
        (pss_one (ps_ret (pe_and (pe_sm c_is_name hr (by decide) (C8.pe_gc rfl T.Schema_) (pa_cons (pv 2) pa_nil)) (pe_and (pe_cmpR (op_notIn_seqK (K := K) rfl) (pv 2) (pv 3) (by rfl)) (pe_one ((pe_cmp (pc_dnotin (hu_of hr) (pv 2) (pe_dget (hu_of hr) (pe_fldK (K := K) rfl (pv 0) rfl) (pv 1) (fun _ _ => rfl))) rfl))))))))), ?_⟩
    walk_at "w"
    refine iteD (fun hv => ?_) (fun hv => ?_)
    · subst hv
      cases hd
      walk_at "w"
      exact k _ (Ex.refl _)
    · have hdn : d ≠ .none := fun e => by subst e; cases hd; exact hv rfl
      walk_at "w"
      refine w_kFld h1 S.cls S.columns_ h2.c ?_
      walk_at "w"
      refine w_kG h3 g1 ?_
      walk_at "w"
      intro D hD
      refine compQT cs (ColAt H) (fun c => some c.name) (fun v x => v = V.str x) hD (SqT.of g2) (by omega) g3 (fun y c hy hm H3 e3 kk kn hk hn => ?_) (fun acc H3 e3 hacc hp => ?_)
      · obtain ⟨a, rfl, ha⟩ := hy
        have ha3 := e3 _ _ ha
        walk_at "w"
        refine w_ixT (SqT.of ha3) c.at1 ?_
        exact hk _ _ _ (Ex.refl _) rfl rfl
      · rw [filterMap_some] at hp
        have ev := vals_strs hp
        walk_at "w"
        refine ⟨_, d, rfl, dp_ext e3 hd, hsz, ?_⟩
        walk_at "w"
        refine iteB (fun b1 => ?_) (fun b1 => ?_)
        · obtain ⟨x, rfl, hx⟩ := strD_str b1
          cases hd
          have k : ∀ H', Ex H H' → Q (.bl (nameB x && !decide (x ∈ cs.map Col.name) && !decide (x ∈ ls.map (·.1)))) H' := k
          rw [hx] at k
          walk_at "w"
          refine w_notInStr (SqL.of (ev ▸ hacc)) ?_
          walk_at "w"
          refine iteND (fun b2 => ?_) (fun b2 => ?_)
          · rw [decide_eq_false b2] at k
            walk_at "w"
            refine w_kFld (e3 _ _ h1) S.cls S.lists_ h2.l ?_
            walk_at "w"
            refine w_kG (e3 _ _ h5) l1 ?_
            have m3 : H3 la = some (.dK kvs) := e3 _ _ m1
            refine w_kNin (k := x) (z := fun v => Q v H3) m3 ?_
            rw [ListRow.has (a := la) m2]
            exact k _ e3
          · rw [decide_eq_true b2] at k
            exact k _ e3
        · rw [isListD_no hdn b1] at k
          exact k _ e3
end
end LP
namespace LP
open PySem L2
open Evl (Ex)
/-! ### d.get(k, x) of a module's dict, whatever text k is -/
def kGetP (K : PySem.W.Frag) (d : Addr) (y z : V) (H3 : Hp) (Q : VK) : Prop := ∃ k, y = .str k ∧ ((∃ u0 v0, PySem.W.nsIn K d k = some (some u0) ∧ RelV v0 u0 ∧ Q v0 H3) ∨ (PySem.W.nsIn K d k = some none ∧ Q z H3))
def tKGetD (K : PySem.W.Frag) (d : Addr) (td ty tx : TE) : TE := fun σ H Q => td σ H fun x H1 => x = .ref d ∧ ty σ H1 fun y H2 => tx σ H2 fun z H3 => kGetP K d y z H3 Q
section
variable {X : Cx} {d : Addr} {es : Array DictEntry} {n : Nat} {o e f : Expr} {apos cpos : Pos} {td ty tx : TE}
theorem pe_kgetD (D : KDict X.K X.w d es n) (ho : PE X o td) (he : PE X e ty) (hf : PE X f tx) (m : M2 X o "get" apos e f cpos) : PE X (.Call (.Attribute o "get" apos) [e, f] [] cpos) (tKGetD X.K d td ty tx) := by
  refine ⟨fun pins s σ H Q I h => ?_⟩; refine wpAny_Call_method m.base m.few m.line PySem.F.plainAttrs_dict PySem.F.slot_dict_get PySem.F.type_dict_get (thn (ho.run pins s σ H _ I h) fun u s1 ⟨x, H1, I1, rx, ex, q1⟩ => ?_)
  subst ex
  cases (show u = Value.ref d from rx)
  have at1 := I1.kIn d _ D.at_
  refine ⟨kd_type D I1, fun b eb => ?_, ?_⟩
  · cases eb
    exact ⟨_, at1, rfl⟩
  · rw [m.trees]
    refine Calls.callWith_builtin rfl (Calls.evalArgs_plain (Calls.spliced_cons (thn (he.run pins s1 σ H1 _ I1 q1) fun iv s2 ⟨y, H2, I2, ry, q2⟩ => Calls.spliced_cons (thn (hf.run pins s2 σ H2 _ I2 q2) fun fv s3 ⟨z, H3, I3, rz, k, ey, q3⟩ => Calls.spliced_nil ?_))))
    subst ey
    obtain ⟨t, rfl⟩ := (show ∃ t, iv = Value.str k t from ry)
    have mp := PySem.W.mapOf_K (prog := X.prog) (w := X.w) I3.kIn D.at_ D.lit
    have mt := meets_dict_get_default (PySem.strKind X.prog X.w) d (PySem.strKind_is X.prog X.w k t) D.low fv
    rcases q3 with ⟨u0, v0, e0, r0, q3⟩ | ⟨e0, q3⟩
    · refine call_meetsIn PySem.F.slot_dict_get mp.typeIs PySem.F.entry_dict_get (PySem.F.args_dict_get_3 _ _ _) mt ⟨_, mp, ⟨v0, H3, I3.tok _, ?_, q3⟩⟩
      rw [PySem.W.find_K D.at_ e0]
      exact r0
    · refine call_meetsIn PySem.F.slot_dict_get mp.typeIs PySem.F.entry_dict_get (PySem.F.args_dict_get_3 _ _ _) mt ⟨_, mp, ⟨z, H3, I3.tok _, ?_, q3⟩⟩
      rw [PySem.W.find_K D.at_ e0]
      exact rz
end
section
variable {K : PySem.W.Frag} {H : Hp} {Q : VK} {v : V} {σ : L2.St}
theorem w_kgetD {d : Addr} {td ty tx : TE} (h : td σ H fun x H1 => x = .ref d ∧ ty σ H1 fun y H2 => tx σ H2 fun z H3 => kGetP K d y z H3 Q) : tKGetD K d td ty tx σ H Q := h
theorem w_kgetI {d : Addr} {kk : Str} {n : Nat} (e : (∃ u, PySem.W.nsIn K d kk = some (some u) ∧ RelV (.int (n : Nat)) u) ∨ (PySem.W.nsIn K d kk = some none ∧ n = 0)) (q : Q (.int (n : Nat)) H) :
    kGetP K d (.str kk) (.int 0) H Q := by
  refine ⟨kk, rfl, ?_⟩
  rcases e with ⟨u, e1, e2⟩ | ⟨e1, e2⟩
  · exact .inl ⟨u, _, e1, e2, q⟩
  · subst e2
    exact .inr ⟨e1, q⟩
def isTuQ : PyData → Bool
  | .tuple _ => true
  | _ => false
def isBoQ : PyData → Bool
  | .bool _ => true
  | _ => false
theorem w_isTuQ {d : PyData} (h : Dp K H v d) (q : Q (.bl (isTuQ d)) H) : rIsi K [v, .ty "tuple"] H Q := by
  refine w_isi (dp_ty h) ?_ q
  cases d with
  | none => show kitB "NoneType" "tuple" = some false; decide +kernel
  | bool b => show kitB "bool" "tuple" = some false; decide +kernel
  | int i => show kitB "int" "tuple" = some false; decide +kernel
  | str x => show kitB "str" "tuple" = some false; decide +kernel
  | list l => show kitB "list" "tuple" = some false; decide +kernel
  | tuple l => show kitB "tuple" "tuple" = some true; decide +kernel
  | dict l => show kitB "dict" "tuple" = some false; decide +kernel
theorem w_isBoQ {d : PyData} (h : Dp K H v d) (q : Q (.bl (isBoQ d)) H) : rIsi K [v, .ty "bool"] H Q := by
  refine w_isi (dp_ty h) ?_ q
  cases d with
  | none => show kitB "NoneType" "bool" = some false; decide +kernel
  | bool b => show kitB "bool" "bool" = some true; decide +kernel
  | int i => show kitB "int" "bool" = some false; decide +kernel
  | str x => show kitB "str" "bool" = some false; decide +kernel
  | list l => show kitB "list" "bool" = some false; decide +kernel
  | tuple l => show kitB "tuple" "bool" = some false; decide +kernel
  | dict l => show kitB "dict" "bool" = some false; decide +kernel
end
/-! ### whether any value may stand as the next column -/
def lenD (k : Str) : Nat := if k = "flag" ∨ k = "number" then 2 else if k = "word" then 3 else if k = "link" then 5 else 0
def tgtD (m : List (Str × Lists)) (ts : Tabs) (l : PyData) : PyData → Bool
  | .str x => match ts.lookup x, m.lookup x with
    | some cs, some ls => isListD cs ls l
    | _, _ => false
  | _ => false
def oneB : List PyData → Bool
  | [o] => isBoQ o
  | _ => false
theorem look_of {β : Type} {n : Str} : ∀ {m : List (Str × β)}, n ∈ m.map (·.1) → ∃ v, m.lookup n = some v
  | [], h => by cases h
  | (x, v) :: r, h => by
    rw [List.lookup_cons]
    by_cases e : n = x
    · subst e
      rw [show (n == n) = true from beq_self_eq_true n]
      exact ⟨v, rfl⟩
    · rw [show (n == x) = false from beq_eq_false_iff_ne.mpr e]
      rw [List.map_cons] at h
      rcases List.mem_cons.mp h with h | h
      · exact absurd h e
      · exact look_of h
def restB (m : List (Str × Lists)) (ts : Tabs) (k : Str) (r : List PyData) : Bool :=
  if k = "link" then (match r with
    | [tg, o, l] => strD (fun x => decide (x ∈ ts.map (·.1))) tg && (isBoQ o && tgtD m ts l tg)
    | _ => false)
  else (!decide (k = "word") || oneB r)
def colB (ns : List Str) (m : List (Str × Lists)) (ts : Tabs) : PyData → Bool
  | .tuple (.str k :: n :: r) => decide (lenD k = r.length + 2) && (strD nameB n && (!strD (fun x => decide (x ∈ ns)) n && restB m ts k r))
  | _ => false
structure LenG (K : PySem.W.Frag) (mg : Str → Option Value) (la : Addr) : Prop where
  LENGTHS_ : ∃ u, mg "LENGTHS" = some u ∧ RelV (.ref la) u
  at_ : ∀ k : Str, (∃ u, PySem.W.nsIn K la k = some (some u) ∧ RelV (.int (lenD k : Nat)) u) ∨ (PySem.W.nsIn K la k = some none ∧ lenD k = 0)
def SzD (d : PyData) : Prop := ∀ xs, d = .tuple xs → ∀ y ∈ xs, ∀ x, y = .str x → x.length ≤ 4000
def spIsLinkG (K : PySem.W.Frag) : Sp := fun vs H Q _ => ∃ (a : Addr) (xs : List V) (k : Str), vs = [.ref a] ∧ SqT K H a xs ∧ atI xs 0 = some (.str k) ∧ Q (.bl (decide (k = "link"))) H
def spIsColumnG (K : PySem.W.Frag) (C : Addr) : Sp := fun vs H Q _ => ∃ (p nl : Addr) (v : V) (d : PyData) (ns : List Str) (dc dl : Addr) (cvs : List (Key × V)) (rs : Rows) (ts : Tabs), vs = [.ref p, v, .ref nl] ∧ Part C H p dc dl cvs rs ts ∧ Dp K H v d ∧ SzD d ∧
  SqL K H nl (ns.map V.str) ∧ (∀ t ∈ ts, t.2.length ≤ 1000) ∧ rs.mir.map (·.1) = ts.map (·.1) ∧ ∀ H', Ex H H' → Q (.bl (colB ns rs.mir ts d)) H'
theorem dpAll_len {K : PySem.W.Frag} {H : Hp} : ∀ {vs : List V} {ds : List PyData}, DpAll K H vs ds → vs.length = ds.length
  | _, _, .nil => rfl
  | _, _, .cons _ r => by rw [List.length_cons, List.length_cons, dpAll_len r]
section
variable {base : Heap} {mg : Str → Option Value} {K : PySem.W.Frag} {w : World} {P : Program} {ra C la : Addr} {es : Array DictEntry} {ne : Nat}
theorem ok_is_linkG {f : Addr} {fd : FuncData} (D : C8.Def K mg "is_link" s_is_link f fd) (b : Binds K fd ["column"] []) : C8.Cal P w K mg base 1 "is_link" (spIsLinkG K) [] := by
  have sc : FnScope ["column"] ["column"] (C8.fnScope s_is_link) := C8.fnScope_by (by decide +kernel)
  refine C8.cal0 D b .nil sc (fun vs H Q E h => ?_) (fun cdv A outer s H vs Q E hr h => ?_)
  · obtain ⟨_, _, _, rfl, _⟩ := h
    rfl
  · obtain ⟨a, xs, kk, rfl, ha, h0, k⟩ := h
    refine ⟨_, (pss_one (ps_ret (pe_cmpR op_eq (pe_ix (ix_tupK (K := K) rfl) (pv 0) pe_int (fun _ _ => rfl)) pe_str (nomark _)))), ?_⟩
    walk_at "w"
    refine w_ixT ha h0 ?_
    walk_at "w"
    rw [show decide (V.str kk = V.str (Str.ofString "link")) = decide (kk = "link") from by rw [decide_eq_decide]; exact ⟨fun h => V.str.inj h, fun h => by rw [h]⟩]
    exact k
theorem ok_is_columnG {f : Addr} {fd : FuncData} {mc : Value} (S : SchC K C) (me : Meth K C "_is_column" f) (F : C8.Fun K "_is_column" "Schema._is_column" s_Schema__is_column f fd) (b : Binds K fd ["self", "column", "names"] []) (B : Blt mg) (T : Cns K mg ra C)
    (LD : KDict K w la es ne) (LN : LenG K mg la) (c_is_name : SCal P w K mg base 3 C mc "is_name" (spAsk K (strD nameB))) (c_is_link : C8.Cal P w K mg base 1 "is_link" (spIsLinkG K) []) (c___contains__ : C8.Met P w K mg base 1 C "__contains__" (spContains K C) [])
    (c__is_list : C8.Met P w K mg base 4 C "_is_list" (spIsListG K C) []) :
    C8.Met P w K mg base 5 C "_is_column" (spIsColumnG K C) [] := by
  have sc : FnScope ["self", "column", "names"] ["self", "column", "names"] (C8.fnScope s_Schema__is_column) := C8.fnScope_by (by decide +kernel)
  refine C8.met0 S.cls me F b sc (fun vs H Q E h => ?_) (fun cdv A outer s H vs Q E hr h => ?_)
  · obtain ⟨_, _, _, _, _, _, _, _, _, _, rfl, _⟩ := h
    rfl
  · obtain ⟨p, nl, v, d, ns, dc, dl, cvs, rs, ts, rfl, hP, hd, hz, hn, hts, hmk, k⟩ := h
    obtain ⟨⟨dx, fs, h1, h2⟩, h3, h4, h5, h6, h7, _, _, _⟩ := id hP
    refine ⟨_, (pss_cons (ps_if (PW.pt (pw_or (pt_not (pt_val (pe_callB (call_isiK1 (K := K) rfl) (by rfl) B.isinstance_ (by decide +kernel) (pa_cons (pv 1) (pa_cons (pe_bltn (v := .ty "tuple") (u := .type "tuple") (by rfl) B.tuple_ (by decide +kernel) rfl) pa_nil))))) (pw_or (pt_cmpR op_lt (pe_callB (call_len_seqK (K := K) rfl) (by rfl) B.len_ (by decide +kernel) (pa_cons (pv 1) pa_nil)) pe_int (nomark _)) (pw_or1 (pt_not (pt_val (pe_callB (call_isiK1 (K := K) rfl) (by rfl) B.isinstance_ (by decide +kernel) (pa_cons (pe_ix (ix_tupK (K := K) rfl) (pv 1) pe_int (fun _ _ => rfl)) (pa_cons (pe_bltn (v := .ty "str") (u := .type "str") (by rfl) B.str_ (by decide +kernel) rfl) pa_nil)))))))))
        (pss_one (ps_ret pe_bl))
        pss_nil)
        (pss_cons (ps_if (pt_cmpR op_ne ((pe_kgetD LD (C8.pe_gc rfl LN.LENGTHS_) (pe_ix (ix_tupK (K := K) rfl) (pv 1) pe_int (fun _ _ => rfl)) pe_int ⟨rfl, rfl, rfl, rfl⟩)) (pe_callB (call_len_seqK (K := K) rfl) (by rfl) B.len_ (by decide +kernel) (pa_cons (pv 1) pa_nil)) (nomark _))
        (pss_one (ps_ret pe_bl))
        pss_nil)
        (pss_cons (ps_if (PW.pt (pw_or (pt_not (pt_val (pe_sm c_is_name hr (by decide) (C8.pe_gc rfl T.Schema_) (pa_cons (pe_ix (ix_tupK (K := K) rfl) (pv 1) pe_int (fun _ _ => rfl)) pa_nil)))) (pw_or1 (pt_cmpR (op_in_seqK (K := K) rfl) (pe_ix (ix_tupK (K := K) rfl) (pv 1) pe_int (fun _ _ => rfl)) (pv 2) (by rfl)))))
        (pss_one (ps_ret pe_bl))
        pss_nil)
        (pss_cons (ps_if (pt_val (C8.pe_c c_is_link hr (by decide) rfl (pa_cons (pv 1) pa_nil)))
        (pss_one (ps_ret (pe_and (pe_cmpR (op_oin (dvs := []) c___contains__ hr (by decide)) (pe_ix (ix_tupK (K := K) rfl) (pv 1) pe_int (fun _ _ => rfl)) (pv 0) (by rfl)) (pe_and (pe_callB (call_isiK1 (K := K) rfl) (by rfl) B.isinstance_ (by decide +kernel) (pa_cons (pe_ix (ix_tupK (K := K) rfl) (pv 1) pe_int (fun _ _ => rfl)) (pa_cons (pe_bltn (v := .ty "bool") (u := .type "bool") (by rfl) B.bool_ (by decide +kernel) rfl) pa_nil))) (pe_one (C8.pe_mt c__is_list hr (by decide) (pv 0) (pa_cons (pe_ix (ix_tupK (K := K) rfl) (pv 1) pe_int (fun _ _ => rfl)) (pa_cons (pe_ix (ix_tupK (K := K) rfl) (pv 1) pe_int (fun _ _ => rfl)) pa_nil))))))))
        pss_nil)
        (pss_one (ps_ret (pe_or (pe_cmpR op_ne (pe_ix (ix_tupK (K := K) rfl) (pv 1) pe_int (fun _ _ => rfl)) pe_str (nomark _)) (pe_one (pe_callB (call_isiK1 (K := K) rfl) (by rfl) B.isinstance_ (by decide +kernel) (pa_cons (pe_ix (ix_tupK (K := K) rfl) (pv 1) pe_int (fun _ _ => rfl)) (pa_cons (pe_bltn (v := .ty "bool") (u := .type "bool") (by rfl) B.bool_ (by decide +kernel) rfl) pa_nil))))))))))), ?_⟩
    walk_at "w"
    refine w_isTuQ hd ?_
    cases hd with
    | @tup a xs ds tt hds =>
      have lx := dpAll_len hds
      unfold isTuQ
      walk_at "w"
      refine iteD (fun h => ?_) (fun h => ?_)
      · have k0 : colB ns rs.mir ts (.tuple ds) = false := by
          match ds, lx with
          | [], _ => rfl
          | [d0], _ => cases d0 <;> rfl
          | _ :: _ :: _, lx => rw [List.length_cons, List.length_cons] at lx; omega
        rw [k0] at k
        walk_at "w"
        exact k _ (Ex.refl _)
      cases hds with
      | nil => exact absurd (by decide) h
      | @cons x0 xr0 d0 dr0 hd0 hr0 =>
      cases hr0 with
      | nil => exact absurd (by simp) h
      | @cons x1 xr d1 dr hd1 hr1 =>
      have z0 := hz _ rfl d0 (by simp)
      have z1 := hz _ rfl d1 (by simp)
      have lr := dpAll_len hr1
      walk_at "w"
      refine w_ixT (i := 0) (v := x0) tt (atI_nat (j := 0) (xs := x0 :: x1 :: xr) rfl) ?_
      walk_at "w"
      refine w_isStr hd0 ?_
      walk_at "w"
      cases hs : isStrD d0 with
      | false =>
        have k0 : colB ns rs.mir ts (.tuple (d0 :: d1 :: dr)) = false := by cases d0 <;> first | rfl | cases hs
        rw [k0] at k
        walk_at "w"
        exact k _ (Ex.refl _)
      | true =>
      obtain ⟨kk, rfl⟩ : ∃ kk, d0 = .str kk := by cases d0 <;> first | exact ⟨_, rfl⟩ | cases hs
      cases hd0
      walk_at "w"
      refine w_kgetD ?_
      walk_at "w"
      refine w_ixT (i := 0) (v := .str kk) tt (atI_nat (j := 0) (xs := .str kk :: x1 :: xr) rfl) ?_
      walk_at "w"
      refine w_kgetI (LN.at_ kk) ?_
      walk_at "w"
      have k : ∀ H', Ex H H' → Q (.bl (decide (lenD kk = dr.length + 2) && (strD nameB d1 && (!strD (fun x => decide (x ∈ ns)) d1 && restB rs.mir ts kk dr)))) H' := k
      refine iteND (fun hl => ?_) (fun hl => ?_)
      · have hl' : ¬ lenD kk = dr.length + 2 := fun e => hl (by rw [e, ← lr]; simp only [List.length_cons])
        rw [decide_eq_false hl'] at k
        walk_at "w"
        exact k _ (Ex.refl _)
      have hl' : lenD kk = dr.length + 2 := by
        have hl := V.int.inj hl
        simp only [List.length_cons] at hl
        omega
      rw [decide_eq_true hl'] at k
      have k : ∀ H', Ex H H' → Q (.bl (strD nameB d1 && (!strD (fun x => decide (x ∈ ns)) d1 && restB rs.mir ts kk dr))) H' := k
      walk_at "w"
      refine w_ixT (i := 1) (v := x1) tt (atI_nat (j := 1) (xs := .str kk :: x1 :: xr) rfl) ?_
      walk_at "w"
      refine ⟨x1, d1, rfl, hd1, z1, ?_⟩
      walk_at "w"
      cases hb : strD nameB d1 with
      | false =>
        rw [hb] at k
        walk_at "w"
        exact k _ (Ex.refl _)
      | true =>
      rw [hb] at k
      obtain ⟨nm, rfl, hnm⟩ := strD_str hb
      cases hd1
      have k : ∀ H', Ex H H' → Q (.bl (!decide (nm ∈ ns) && restB rs.mir ts kk dr)) H' := k
      walk_at "w"
      refine w_ixT (i := 1) (v := .str nm) tt (atI_nat (j := 1) (xs := .str kk :: .str nm :: xr) rfl) ?_
      walk_at "w"
      refine w_inStr hn ?_
      walk_at "w"
      refine iteD (fun hin => ?_) (fun hin => ?_)
      · rw [decide_eq_true hin] at k
        walk_at "w"
        exact k _ (Ex.refl _)
      rw [decide_eq_false hin] at k
      have k : ∀ H', Ex H H' → Q (.bl (restB rs.mir ts kk dr)) H' := k
      walk_at "w"
      refine ⟨a, _, kk, rfl, tt, atI_nat (j := 0) (xs := .str kk :: .str nm :: xr) rfl, ?_⟩
      walk_at "w"
      refine iteD (fun hk => ?_) (fun hk => ?_)
      · subst hk
        have ldr : dr.length = 3 := by
          have e : lenD "link" = 5 := by decide +kernel
          omega
        match dr, hr1, lr, ldr, k with
        | [d2, d3, d4], hr1, lr, _, k =>
        have k : ∀ H', Ex H H' → Q (.bl (strD (fun x => decide (x ∈ ts.map (·.1))) d2 && (isBoQ d3 && tgtD rs.mir ts d4 d2))) H' := k
        cases hr1 with
        | @cons x2 _ _ _ hd2 hr2 =>
        cases hr2 with
        | @cons x3 _ _ _ hd3 hr3 =>
        cases hr3 with
        | @cons x4 _ _ _ hd4 hr4 =>
        cases hr4
        have z4 := hz _ rfl d4 (by simp)
        walk_at "w"
        refine w_ownIn h1 ?_
        refine ⟨p, x2, d2, dc, dl, cvs, rs, ts, rfl, hP, hd2, ?_⟩
        cases hb2 : strD (fun x => decide (x ∈ ts.map (·.1))) d2 with
        | false =>
          rw [hb2] at k
          refine ⟨_, rfl, ⟨_, rfl, iteF ?_⟩⟩
          walk_at "w"
          exact k _ (Ex.refl _)
        | true =>
        rw [hb2] at k
        obtain ⟨tg, rfl, htg⟩ := strD_str hb2
        have htg := of_decide_eq_true htg
        cases hd2
        obtain ⟨cs, g1⟩ := look_of htg
        obtain ⟨ls, g2⟩ := look_of (show tg ∈ rs.mir.map (·.1) by rw [hmk]; exact htg)
        have k : ∀ H', Ex H H' → Q (.bl (isBoQ d3 && tgtD rs.mir ts d4 (.str tg))) H' := k
        have et : tgtD rs.mir ts d4 (.str tg) = isListD cs ls d4 := by
          unfold tgtD
          simp only [g1, g2]
        rw [et] at k
        refine ⟨_, rfl, ⟨_, rfl, iteT ?_⟩⟩
        walk_at "w"
        refine w_isBoQ hd3 ?_
        cases hb3 : isBoQ d3 with
        | false =>
          rw [hb3] at k
          refine ⟨_, rfl, iteF ?_⟩
          walk_at "w"
          exact k _ (Ex.refl _)
        | true =>
        rw [hb3] at k
        refine ⟨_, rfl, iteT ?_⟩
        walk_at "w"
        refine w_kMeth h1 (h2.no _ (by decide)) ?_
        walk_at "w"
        refine ⟨p, tg, x4, d4, dc, dl, cvs, rs, ts, cs, ls, rfl, hP, hd4, g1, g2, hts _ (PySem.mem_of_lookup g1), z4, fun H' ex => ?_⟩
        exact k _ ex
      · have er : restB rs.mir ts kk dr = (!decide (kk = "word") || oneB dr) := by
          unfold restB
          rw [if_neg hk]
        rw [er] at k
        walk_at "w"
        refine w_ixT (i := 0) (v := .str kk) tt (atI_nat (j := 0) (xs := .str kk :: .str nm :: xr) rfl) ?_
        walk_at "w"
        refine iteND (fun hw => ?_) (fun hw => ?_)
        · rw [decide_eq_false (show ¬ kk = "word" from fun e => hw (by rw [e]))] at k
          exact k _ (Ex.refl _)
        · have hw := V.str.inj hw
          subst hw
          have ldr : dr.length = 1 := by
            have e : lenD "word" = 3 := by decide +kernel
            have hl' : lenD "word" = dr.length + 2 := hl'
            omega
          obtain ⟨d2, rfl⟩ : ∃ d2, dr = [d2] := by
            match dr, ldr with
            | [d2], _ => exact ⟨d2, rfl⟩
          have k : ∀ H', Ex H H' → Q (.bl (isBoQ d2)) H' := k
          cases hr1 with
          | @cons x2 _ _ _ hd2 hr2 =>
          cases hr2
          walk_at "w"
          refine w_isBoQ hd2 ?_
          exact k _ (Ex.refl _)
    | _ =>
      unfold isTuQ
      walk_at "w"
      exact k _ (Ex.refl _)
end
end LP
namespace LP
open PySem L2
open Evl (Ex)
def isBoolD (d : PyData) : Bool := match d with
  | .bool _ => true
  | _ => false
theorem w_isBool {K : PySem.W.Frag} {H : Hp} {Q : VK} {v : V} {d : PyData} (h : Dp K H v d) (q : Q (.bl (isBoolD d)) H) : rIsi K [v, .ty "bool"] H Q := by
  refine w_isi (dp_ty h) ?_ q
  cases d with
  | none => show kitB "NoneType" "bool" = some false; decide +kernel
  | bool b => show kitB "bool" "bool" = some true; decide +kernel
  | int i => show kitB "int" "bool" = some false; decide +kernel
  | str x => show kitB "str" "bool" = some false; decide +kernel
  | list l => show kitB "list" "bool" = some false; decide +kernel
  | tuple l => show kitB "tuple" "bool" = some false; decide +kernel
  | dict l => show kitB "dict" "bool" = some false; decide +kernel
def sameB (d e : PyData) : Bool := PyData.eqv d e && decide (isBoolD d = isBoolD e)
def spSame (K : PySem.W.Frag) : Sp := fun vs H Q _ => ∃ (x y : V) (d e : PyData), vs = [x, y] ∧ Dp K H x d ∧ Dp K H y e ∧ SeqAt.shaped d = true ∧ SeqAt.shaped e = true ∧ Q (.bl (sameB d e)) H
/-- what the law's values are like -/
structure AnyOk (d : PyData) : Prop where
  sh : SeqAt.shaped d = true
  st : ∀ x, d = .str x → x.length ≤ 100
def Asc (x : Str) : Prop := ∀ c ∈ x.cps.toList, c < 128
theorem Asc.ok {x : Str} (h : Asc x) : SOk x := by
  unfold SOk PyData.strOk
  rw [← Array.all_toList,
          List.all_eq_true]
  intro c hc
  have := h c hc
  exact decide_eq_true
          (by omega)
theorem Low.asc {x : Str} (h : Low x) : Asc x := fun c hc => by have := h c hc; omega
theorem Asc.cat {x y : Str} (h : Asc x) (h' : Asc y) : Asc (x ++ y) := fun c hc => by
  have e : (x ++ y).cps.toList = x.cps.toList ++ y.cps.toList := by
    show (x.cps ++ y.cps).toList = _
    rw [Array.toList_append]
  rw [e] at hc
  rcases List.mem_append.1 hc with hc | hc
  · exact h c hc
  · exact h' c hc
theorem AnyOk.str {x : Str} (h : Asc x) (hl : x.length ≤ 100) : AnyOk (.str x) := ⟨by
  unfold SeqAt.shaped
  rw [Bool.and_eq_true]
  exact ⟨by simp only [PyData.canLay0]; exact h.ok, by simp [PyData.depth]⟩, fun y e => by cases e; exact hl⟩
def spValue (K : PySem.W.Frag) : Sp := fun vs H Q _ => ∃ (b : Addr) (n : Nat), vs = [.ref b] ∧ BagAt H b n ∧ n < 70000000 ∧ ∀ (v : V) (d : PyData) (H' : Hp), Dp K (del b H') v d → AnyOk d → BagAt H' b (n + 20) → Ex (del b H) H' → Q v H'
section
variable {base : Heap} {mg : Str → Option Value} {K : PySem.W.Frag} {w : World} {P : Program}
theorem res_asc : ∀ x ∈ reservedL, (∀ c ∈ x.cps.toList, c < 128) ∧ x.length ≤ 8 := by decide +kernel
theorem res_up : ∀ x ∈ reservedL, (∀ c ∈ (Txt.upper x).cps.toList, c < 128) ∧ (Txt.upper x).length ≤ 8 := by decide +kernel
theorem sg_asc : ∀ x ∈ (["A", "Z", "0", "9", " ", "_", "-", ".", "?", "'", "~", "a"] : List Str), (∀ c ∈ x.cps.toList, c < 128) ∧ x.length ≤ 1 := by decide +kernel
theorem end_asc : ∀ x ∈ (["s", "", " ", "a", "ing"] : List Str), (∀ c ∈ x.cps.toList, c < 128) ∧ x.length ≤ 3 := by decide +kernel
theorem take_asc {x : Str} (h : Asc x) (n : Nat) : Asc (S (x.cps.toList.take n)) := fun c hc => h c (List.mem_of_mem_take hc)
theorem drop_asc {x : Str} (h : Asc x) (n : Nat) : Asc (S (x.cps.toList.drop n)) := fun c hc => h c (List.mem_of_mem_drop hc)
end
end LP
namespace LP
open PySem L2
open Evl (Ex)
/-! ### what may change while a schema is made -/
def ExO (own : List Addr) (H H' : Hp) : Prop := ∀ a o, H a = some o → a ∉ own → H' a = some o
theorem ExO.refl {own : List Addr} {H : Hp} : ExO own H H := fun _ _ h _ => h
theorem ExO.of {own : List Addr} {H H' : Hp} (e : Ex H H') : ExO own H H' := fun _ _ h _ => e _ _ h
theorem ExO.trans {own : List Addr} {H H1 H2 : Hp} (a : ExO own H H1) (b : ExO own H1 H2) : ExO own H H2 := fun c o h n => b c o (a c o h n) n
theorem ExO.put {own : List Addr} {H H1 : Hp} {a : Addr} {o : HO} (e : ExO own H H1) (h : a ∈ own) : ExO own H (upd H1 a o) := fun c u hc n => by
  rw [upd_ne (show c ≠ a from fun z => n (by rw [z]; exact h))]
  exact e c u hc n
/-- .. and what is new may change -/
theorem ExO.mut {own : List Addr} {H H1 : Hp} {a : Addr} {o : HO} (e : ExO own H H1) (h : H a = none) : ExO own H (upd H1 a o) := fun c u hc n => by
  rw [upd_ne (ne_of_none hc h)]
  exact e c u hc n
def Rows.own (dc dl : Addr) (rs : Rows) : List Addr := dc :: dl :: rs.map fun r => r.2.1
/-! ### a column's list -/
def addCol (t : Str) (m : List (Str × Lists)) (c : Col) : List (Str × Lists) := match c.lst with
  | none => m
  | some l => m.map fun r => if r.1 = c.target then (r.1, r.2 ++ [(l, t, c.name)]) else r
def rsAdd (t : Str) (rs : Rows) (c : Col) : Rows := match c.lst with
  | none => rs
  | some l => rs.map fun r => if r.1 = c.target then (r.1, r.2.1, r.2.2 ++ [(l, t, c.name)]) else r
theorem rsAdd_mir (t : Str) (rs : Rows) (c : Col) : (rsAdd t rs c).mir = addCol t rs.mir c := by
  unfold rsAdd addCol
  cases c.lst with
  | none => rfl
  | some l =>
    show (List.map _ rs).map _ = List.map _ (List.map _ rs)
    rw [List.map_map,
            List.map_map]
    refine List.map_congr_left fun r _ => ?_
    simp only [Function.comp]
    by_cases h : r.1 = c.target
    · rw [if_pos h, if_pos h]
    · rw [if_neg h, if_neg h]
theorem rsAdd_adr (t : Str) (rs : Rows) (c : Col) : (rsAdd t rs c).map (fun r => r.2.1) = rs.map fun r => r.2.1 := by
  unfold rsAdd
  cases c.lst with
  | none => rfl
  | some l =>
    show (rs.map _).map _ = _
    rw [List.map_map]
    refine List.map_congr_left fun r _ => ?_
    simp only [Function.comp]
    by_cases h : r.1 = c.target
    · rw [if_pos h]
    · rw [if_neg h]
theorem rsAdd_key (t : Str) (rs : Rows) (c : Col) : (rsAdd t rs c).map (fun r => r.1) = rs.map fun r => r.1 := by
  unfold rsAdd
  cases c.lst with
  | none => rfl
  | some l =>
    show (rs.map _).map _ = _
    rw [List.map_map]
    refine List.map_congr_left fun r _ => ?_
    simp only [Function.comp]
    by_cases h : r.1 = c.target
    · rw [if_pos h]
    · rw [if_neg h]
theorem rsAdd_kvs (t : Str) (rs : Rows) (c : Col) : (rsAdd t rs c).kvs = rs.kvs := by
  unfold rsAdd
  cases c.lst with
  | none => rfl
  | some l =>
    show (rs.map _).map _ = rs.map _
    rw [List.map_map]
    refine List.map_congr_left fun r _ => ?_
    simp only [Function.comp]
    by_cases h : r.1 = c.target
    · rw [if_pos h]
    · rw [if_neg h]
theorem rsAdd_len (t : Str) (rs : Rows) (c : Col) {n : Nat} (h : ∀ r ∈ rs, r.2.2.length ≤ n) : ∀ r ∈ rsAdd t rs c, r.2.2.length ≤ n + 1 := by
  unfold rsAdd
  cases c.lst with
  | none => exact fun r hr => Nat.le_succ_of_le (h r hr)
  | some l =>
    intro r hr
    obtain ⟨r0, h0, rfl⟩ := List.mem_map.mp hr
    have := h r0 h0
    by_cases e : r0.1 = c.target
    · rw [if_pos e]
      show (r0.2.2 ++ [_]).length ≤ _
      rw [List.length_append]
      simpa using this
    · rw [if_neg e]
      omega
theorem eq_of_key : ∀ {rs : Rows} {r r' : Str × Addr × Lists}, (rs.map fun r => r.1).Nodup → r ∈ rs → r' ∈ rs → r.1 = r'.1 → r = r'
  | x :: xs, r, r', nd, h, h', e => by
    rw [List.map_cons,
            List.nodup_cons] at nd
    rcases List.mem_cons.1 h with q | q
    · rcases List.mem_cons.mp h' with q' | q'
      · rw [q, q']
      · refine absurd (List.mem_map.mpr ⟨r', q', ?_⟩) nd.1
        rw [← e, q]
    · rcases List.mem_cons.mp h' with q' | q'
      · refine absurd (List.mem_map.mpr ⟨r, q, ?_⟩) nd.1
        rw [e, q']
      · exact eq_of_key nd.2 q q' e
theorem eq_of_adr : ∀ {rs : Rows} {r r' : Str × Addr × Lists}, (rs.map fun r => r.2.1).Nodup → r ∈ rs → r' ∈ rs → r.2.1 = r'.2.1 → r = r'
  | x :: xs, r, r', nd, h, h', e => by
    rw [List.map_cons,
            List.nodup_cons] at nd
    rcases List.mem_cons.1 h with q | q
    · rcases List.mem_cons.mp h' with q' | q'
      · rw [q, q']
      · refine absurd (List.mem_map.mpr ⟨r', q', ?_⟩) nd.1
        rw [← e, q]
    · rcases List.mem_cons.mp h' with q' | q'
      · refine absurd (List.mem_map.mpr ⟨r, q, ?_⟩) nd.1
        rw [e, q']
      · exact eq_of_adr nd.2 q q' e
theorem ColRow.put {H : Hp} {a : Addr} {kvs : List (Key × V)} {o : HO} {kv : Key × V} {t : Str × List Col} (ha : H a = some (.dK kvs)) (h : ColRow H kv t) : ColRow (upd H a o) kv t := by
  obtain ⟨h1, b, vs, h2, h3, h4⟩ := h
  refine ⟨h1, b, vs, h2, by rw [upd_ne (ne_of h3 ha (by intro z; cases z))]; exact h3, paired_imp (fun v c hc => ?_) h4⟩
  obtain ⟨x, e, hx⟩ := hc
  exact ⟨x, e, by rw [upd_ne (ne_of hx ha (by intro z; cases z))]; exact hx⟩
theorem ListEnt.put {H : Hp} {a : Addr} {kvs : List (Key × V)} {o : HO} {kv : Key × V} {t : Str × Str × Str} (ha : H a = some (.dK kvs)) (h : ListEnt H kv t) : ListEnt (upd H a o) kv t := by
  obtain ⟨h1, b, h2, h3⟩ := h
  exact ⟨h1, b, h2, by rw [upd_ne (ne_of h3 ha (by intro z; cases z))]; exact h3⟩
theorem ListRow.put {H : Hp} {a b : Addr} {kvs : List (Key × V)} {o : HO} {ls : Lists} (ha : H a = some (.dK kvs)) (ne : b ≠ a) (h : ListRow H b ls) : ListRow (upd H a o) b ls := by
  obtain ⟨k, h1, h2⟩ := h
  exact ⟨k, by rw [upd_ne ne]; exact h1, paired_imp (fun _ _ => ListEnt.put ha) h2⟩
/-- a column's list has come -/
theorem Part.addList {C : Addr} {H : Hp} {p dc dl a b : Addr} {cvs kvs : List (Key × V)} {rs : Rows} {ts : Tabs} {ls : Lists} {c : Col} {t l : Str} (h : Part C H p dc dl cvs rs ts) (hl : c.lst = some l) (hr : (c.target, a, ls) ∈ rs) (ha : H a = some (.dK kvs)) (hk : Paired (ListEnt H) kvs ls)
    (hb : H b = some (.tup [.str t, .str c.name])) : Part C (upd H a (.dK (kvs ++ [(.inr l, .ref b)]))) p dc dl cvs (rsAdd t rs c) ts := by
  obtain ⟨⟨dx, fs, h1, h2⟩, h3, h4, h5, h6, h7, h8, h9, h10⟩ := h
  obtain ⟨d1, d2⟩ := h9 _ hr
  have hb' : ∀ o, (upd H a o) b = some (.tup [.str t, .str c.name]) := fun o => by rw [upd_ne (ne_of hb ha (by intro z; cases z))]; exact hb
  refine ⟨⟨dx, fs, by rw [upd_ne (ne_of h1 ha (by intro z; cases z))]; exact h1, h2⟩, by rw [upd_ne (Ne.symm d1)]; exact h3, paired_imp (fun _ _ => ColRow.put ha) h4, by rw [rsAdd_kvs, upd_ne (Ne.symm d2)]; exact h5, fun r hr' => ?_, by rw [rsAdd_adr]; exact h7, h8, fun r hr' => ?_, by rw [rsAdd_key]; exact h10⟩
  · unfold rsAdd at hr'
    rw [hl] at hr'
    obtain ⟨r0, h0, rfl⟩ := List.mem_map.mp hr'
    by_cases e : r0.1 = c.target
    · obtain rfl := eq_of_key h10 h0 hr e
      rw [if_pos rfl]
      exact ⟨_, upd_same, paired_app (paired_imp (fun _ _ => ListEnt.put ha) hk) (.cons ⟨rfl, b, rfl, hb' _⟩ .nil)⟩
    · rw [if_neg e]
      exact (h6 r0 h0).put ha fun z => e (congrArg (fun r => r.1) (eq_of_adr h7 h0 hr z))
  · have : r.2.1 ∈ rs.map fun r => r.2.1 := by
      rw [← rsAdd_adr t rs c]
      exact List.mem_map.mpr ⟨r, hr', rfl⟩
    obtain ⟨r0, h0, e⟩ := List.mem_map.mp this
    rw [← e]
    exact h9 r0 h0
theorem putK_new {kvs : List (Key × V)} {k : Key} {v : V} (h : valV kvs k = none) : putK kvs k v = kvs ++ [(k, v)] := by
  unfold putK
  rw [if_neg]
  unfold valV at h
  rw [Option.map_eq_none_iff, List.find?_eq_none] at h
  rw [List.any_eq_true]
  rintro ⟨x, hx, e⟩
  exact h x hx e
/-- columns that may stand in the next table -/
def ColsIn (t : Str) (cs : List Col) (m : List (Str × Lists)) (ts : Tabs) : Prop := ∀ d c r, d ++ c :: r = cs → ColIn c (d.map Col.name) (d.foldl (addCol t) m) ts
def spTakeCols (K : PySem.W.Frag) (C : Addr) : Sp := fun vs H Q _ => ∃ (p q : Addr) (i : V) (t : Str) (xs : List V) (cs : List Col) (dc dl : Addr) (cvs : List (Key × V)) (rs : Rows) (ts : Tabs), vs = [.ref p, i, .str t, .ref q] ∧ Part C H p dc dl cvs rs ts ∧
  H q = some (.lst xs) ∧ ColsV H xs cs ∧ cs.length ≤ 20 ∧ ts.length ≤ 100 ∧ t ∉ ts.map (·.1) ∧ rs.mir.map (·.1) = ts.map (·.1) ∧ (∀ r ∈ rs, r.2.2.length ≤ 500) ∧ ColsIn t cs rs.mir ts ∧
  ∀ (T D : Addr) (H' : Hp), H D = none → ExO (rs.own dc dl) H H' → Part C H' p dc dl (cvs ++ [(.inr t, .ref T)]) (cs.foldl (rsAdd t) rs ++ [(t, D, [])]) (ts ++ [(t, cs)]) → Q .non H'
end LP
namespace LP
open PySem L2
open Evl (Ex)
theorem foldl_adr (t : Str) : ∀ (cs : List Col) (rs : Rows), (cs.foldl (rsAdd t) rs).map (fun r => r.2.1) = rs.map fun r => r.2.1
  | [], _ => rfl
  | c :: r, rs => by rw [List.foldl_cons, foldl_adr t r, rsAdd_adr]
theorem foldl_mir (t : Str) : ∀ (cs : List Col) (rs : Rows), (cs.foldl (rsAdd t) rs).mir = cs.foldl (addCol t) rs.mir
  | [], _ => rfl
  | c :: r, rs => by rw [List.foldl_cons, foldl_mir t r, rsAdd_mir, List.foldl_cons]
theorem foldl_kvs (t : Str) : ∀ (cs : List Col) (rs : Rows), (cs.foldl (rsAdd t) rs).kvs = rs.kvs
  | [], _ => rfl
  | c :: r, rs => by rw [List.foldl_cons, foldl_kvs t r, rsAdd_kvs]
theorem foldl_key (t : Str) : ∀ (cs : List Col) (rs : Rows), (cs.foldl (rsAdd t) rs).map (fun r => r.1) = rs.map fun r => r.1
  | [], _ => rfl
  | c :: r, rs => by rw [List.foldl_cons, foldl_key t r, rsAdd_key]
theorem foldl_lens (t : Str) : ∀ (cs : List Col) (rs : Rows) (n : Nat), (∀ r ∈ rs, r.2.2.length ≤ n) → ∀ r ∈ cs.foldl (rsAdd t) rs, r.2.2.length ≤ n + cs.length
  | [], _, _, h => h
  | c :: r, rs, n, h => fun x hx => by
    have := foldl_lens t r (rsAdd t rs c) (n + 1) (rsAdd_len t rs c h) x hx
    rw [List.length_cons]
    omega
theorem own_eq (dc dl : Addr) (t : Str) (cs : List Col) (rs : Rows) : Rows.own dc dl (cs.foldl (rsAdd t) rs) = rs.own dc dl := by
  unfold Rows.own
  rw [foldl_adr]
theorem Col.lst_link {c : Col} {l : Str} (h : c.lst = some l) : c.isLink = true := by
  cases c <;> first | rfl | cases h
theorem ColAt.put {H : Hp} {a : Addr} {kvs : List (Key × V)} {o : HO} {v : V} {c : Col} (ha : H a = some (.dK kvs)) (h : ColAt H v c) : ColAt (L2.upd H a o) v c := by
  obtain ⟨x, e, hx⟩ := h
  exact ⟨x, e, by rw [upd_ne (ne_of hx ha (by intro z; cases z))]; exact hx⟩
theorem ColsV.put {H : Hp} {a : Addr} {kvs : List (Key × V)} {o : HO} {vs : List V} {cs : List Col} (ha : H a = some (.dK kvs)) (h : ColsV H vs cs) : ColsV (L2.upd H a o) vs cs := paired_imp (fun _ _ => ColAt.put ha) h
/-- a list that is no dict, no instance of ours, changes: the schema stays -/
theorem Part.upd {C : Addr} {H : Hp} {p dc dl q : Addr} {cvs : List (Key × V)} {rs : Rows} {ts : Tabs} {xs : List V} {o : HO} (hq : H q = some (.lst xs)) (h : Part C H p dc dl cvs rs ts) : Part C (upd H q o) p dc dl cvs rs ts := by
  obtain ⟨⟨dx, fs, h1, h2⟩, h3, h4, h5, h6, h7, h8, h9, h10⟩ := h
  have st : ∀ {a : Addr} {u : HO}, H a = some u → u ≠ .lst xs → (L2.upd H q o) a = some u := fun {a u} e n => by rw [upd_ne (ne_of e hq n)]; exact e
  refine ⟨⟨dx, fs, st h1 (by intro z; cases z), h2⟩, st h3 (by intro z; cases z), paired_imp (fun kv t h => ?_) h4, st h5 (by intro z; cases z), fun r hr => ?_, h7, h8, h9, h10⟩
  · obtain ⟨g1, b, vs, g2, g3, g4⟩ := h
    exact ⟨g1, b, vs, g2, st g3 (by intro z; cases z), g4.upd hq⟩
  · obtain ⟨k, g1, g2⟩ := h6 r hr
    refine ⟨k, st g1 (by intro z; cases z), paired_imp (fun kv e h => ?_) g2⟩
    obtain ⟨g3, b, g4, g5⟩ := h
    exact ⟨g3, b, g4, st g5 (by intro z; cases z)⟩
theorem rows_none {rs : Rows} {t : Str} (h : t ∉ rs.map fun r => r.1) : valV rs.kvs (Sum.inr t : Key) = none := by
  unfold valV
  rw [Option.map_eq_none_iff, List.find?_eq_none]
  intro kv hkv
  obtain ⟨r, hr, rfl⟩ := List.mem_map.mp hkv
  simp only [decide_eq_true_eq]
  intro e
  exact h (List.mem_map.mpr ⟨r, hr, Sum.inr.inj e⟩)
theorem ExO.back {own : List Addr} {H H1 : Hp} {D : Addr} (e : ExO own H H1) (h : ∀ a ∈ own, ∃ o, H1 a = some o) (hD : H1 D = none) : H D = none := by
  cases q : H D with
  | none => rfl
  | some o =>
    by_cases m : D ∈ own
    · obtain ⟨u, hu⟩ := h D m
      rw [hD] at hu
      cases hu
    · have := e D o q m
      rw [hD] at this
      cases this
theorem Part.there {C : Addr} {H : Hp} {p dc dl : Addr} {cvs : List (Key × V)} {rs : Rows} {ts : Tabs} (h : Part C H p dc dl cvs rs ts) : ∀ a ∈ rs.own dc dl, ∃ kv, H a = some (.dK kv) := fun a ha => by
  rcases List.mem_cons.1 ha with rfl | ha
  · exact ⟨_, h.hdc⟩
  · rcases List.mem_cons.1 ha with rfl | ha
    · exact ⟨_, h.hdl⟩
    · obtain ⟨r0, hr0, rfl⟩ := List.mem_map.mp ha
      obtain ⟨kv, g, _⟩ := h.lst r0 hr0
      exact ⟨kv, g⟩
theorem Part.addTab {C : Addr} {H : Hp} {p dc dl T D : Addr} {cvs : List (Key × V)} {rs : Rows} {ts : Tabs} {t : Str} {xs : List V} {cs : List Col} (h : Part C H p dc dl cvs rs ts) (hT : H T = some (.tup xs)) (hc : ColsV H xs cs) (hk : t ∉ rs.map fun r => r.1)
    (hD : (L2.upd H dc (.dK (cvs ++ [(.inr t, .ref T)]))) D = none) :
    Part C (L2.upd (L2.upd (L2.upd H dc (.dK (cvs ++ [(.inr t, .ref T)]))) D (.dK [])) dl (.dK (Rows.kvs (rs ++ [(t, D, [])])))) p dc dl (cvs ++ [(.inr t, .ref T)]) (rs ++ [(t, D, [])]) (ts ++ [(t, cs)]) := by
  obtain ⟨⟨dx, fs, h1, h2⟩, h3, h4, h5, h6, h7, h8, h9, h10⟩ := h
  have q1 : ∀ {a : Addr} {u : HO}, H a = some u → a ≠ dc → (L2.upd H dc (.dK (cvs ++ [(.inr t, .ref T)]))) a = some u := fun {a u} e n => by rw [upd_ne n]; exact e
  have s1 : (L2.upd H dc (.dK (cvs ++ [(.inr t, .ref T)]))) dc = some (.dK (cvs ++ [(.inr t, .ref T)])) := upd_same
  have hdl1 := q1 h5 (Ne.symm h8)
  have c1 : ∀ {kv t'}, ColRow H kv t' → ColRow (L2.upd H dc (.dK (cvs ++ [(.inr t, .ref T)]))) kv t' := fun h => h.put h3
  have l1 : ∀ {a : Addr} {ls}, a ≠ dc → ListRow H a ls → ListRow (L2.upd H dc (.dK (cvs ++ [(.inr t, .ref T)]))) a ls := fun n h => h.put h3 n
  have hT1 := q1 hT (ne_of hT h3 (by intro z; cases z))
  have hc1 := hc.put (o := .dK (cvs ++ [(.inr t, .ref T)])) h3
  have hp1 := q1 h1 (ne_of h1 h3 (by intro z; cases z))
  generalize (L2.upd H dc (.dK (cvs ++ [(.inr t, .ref T)]))) = H1 at hD s1 hdl1 c1 l1 hT1 hc1 hp1 ⊢
  have e2 : Ex H1 (L2.upd H1 D (.dK [])) := Ex.new hD
  have hD2 : (L2.upd H1 D (.dK [])) D = some (.dK []) := upd_same
  have Ddl : dl ≠ D := ne_of_none hdl1 hD
  have Ddc : dc ≠ D := ne_of_none s1 hD
  have Dad : ∀ r ∈ rs, r.2.1 ≠ D := fun r hr => by
    obtain ⟨k, g, _⟩ := l1 (h9 r hr).1 (h6 r hr)
    exact ne_of_none g hD
  generalize (L2.upd H1 D (.dK [])) = H2 at e2 hD2 ⊢
  have hdl2 := e2 _ _ hdl1
  refine ⟨⟨dx, fs, by rw [upd_ne (ne_of (e2 _ _ hp1) hdl2 (by intro z; cases z))]; exact e2 _ _ hp1, h2⟩, by rw [upd_ne h8]; exact e2 _ _ s1, paired_app (paired_imp (fun _ _ h => ((c1 h).ext e2).put hdl2) h4) (.cons ⟨rfl, T, xs, rfl, ?_, (hc1.ext e2).put hdl2⟩ .nil), upd_same, fun r hr => ?_, ?_, h8, fun r hr => ?_, ?_⟩
  · rw [upd_ne (ne_of (e2 _ _ hT1) hdl2 (by intro z; cases z))]
    exact e2 _ _ hT1
  · rcases List.mem_append.1 hr with hr | hr
    · exact ((l1 (h9 r hr).1 (h6 r hr)).ext e2).put hdl2 (h9 r hr).2
    · rw [List.mem_singleton] at hr
      subst hr
      exact ⟨[], by rw [upd_ne (Ne.symm Ddl)]; exact hD2, .nil⟩
  · rw [List.map_append]; rw [List.nodup_append]
    refine ⟨h7, by simp, fun a ha b hb => ?_⟩
    obtain ⟨r, hr, rfl⟩ := List.mem_map.mp ha
    simp only [List.map_cons,
            List.map_nil, List.mem_singleton] at hb
    rw [hb]
    exact Dad r hr
  · rcases List.mem_append.1 hr with hr | hr
    · exact h9 r hr
    · rw [List.mem_singleton] at hr
      subst hr
      exact ⟨Ne.symm Ddc, Ne.symm Ddl⟩
  · rw [List.map_append]; rw [List.nodup_append]
    refine ⟨h10, by simp, fun a ha b hb => ?_⟩
    simp only [List.map_cons,
            List.map_nil, List.mem_singleton] at hb
    rw [hb]
    rintro rfl
    exact hk ha
section
variable {base : Heap} {mg : Str → Option Value} {K : PySem.W.Frag} {w : World} {P : Program} {ra C : Addr}
theorem ok_take_columns {f : Addr} {fd : FuncData} (S : SchC K C) (me : Meth K C "_take_columns" f) (F : C8.Fun K "_take_columns" "Schema._take_columns" s_Schema__take_columns f fd) (b : Binds K fd ["self", "index", "table", "columns"] []) (B : Blt mg)
    (c_has_list : C8.Cal P w K mg base 2 "has_list" spHasList []) (c__is_column : C8.Met P w K mg base 5 C "_is_column" (spIsColumn K C) []) :
    C8.Met P w K mg base 6 C "_take_columns" (spTakeCols K C) [] := by
  have sc : FnScope ["self", "index", "table", "columns", "taken", "at", "column", "earlier"] ["self", "index", "table", "columns"] (C8.fnScope s_Schema__take_columns) := C8.fnScope_by (by decide +kernel)
  refine C8.met0 S.cls me F b sc (fun vs H Q E h => ?_) (fun cdv A outer s H vs Q E hr h => ?_)
  · obtain ⟨_, _, _, _, _, _, _, _, _, _, _, rfl, _⟩ := h
    rfl
  · obtain ⟨p, q, i, t, xs, cs, dc, dl, cvs, rs, ts, rfl, hP, hq, hc, hn1, hn2, hnt, hmk, hls, hin, k⟩ := h
    have lx := paired_len hc
    refine ⟨_, (pss_cons (ps_set (i := 4) sc.nd rfl (Or.inl rfl) (pe_lst pa_nil))
        (pss_cons (ps_for PassesOwn.never rfl (pi_enumK (K := K) rfl (by rfl) B.enumerate_ (pa_cons (pv 3) pa_nil)) (pg_tupK (K := K) (n := 2) rfl rfl (pgs_cons (pg_name (i := 5) sc.nd rfl (Or.inl rfl)) (pgs_cons (pg_name (i := 6) sc.nd rfl (Or.inl rfl)) pgs_nil)))
        (pss_cons (ps_if (pt_not (pt_val (C8.pe_mt c__is_column hr (by decide) (pv 0) (pa_cons (pv 6) (pa_cons (pe_lc (own := [("earlier", 7)]) (g := (gName 7)) (by rfl) sc.nd (pi_listK (K := K) rfl (pv 4)) (blkOk_by (own := [("earlier", 7)]) (N := ["self", "index", "table", "columns", "taken", "at", "column", "earlier"]) (sc := C8.fnScope s_Schema__take_columns) (by decide +kernel)) (fun _ _ _ _ _ => (pg_name (i := 7) sc.nd rfl (Or.inl rfl))) (fun _ _ _ _ _ => pts_nil) (fun _ _ _ _ _ => (pe_ix (ix_tupK (K := K) rfl) (pv 7) pe_int (fun _ _ => rfl)))) pa_nil)))))
        (pss_one ps_never)
        pss_nil)
        (pss_cons (ps_if (pt_val (C8.pe_c c_has_list hr (by decide) rfl (pa_cons (pv 6) pa_nil)))
        (pss_one (ps_dput (hu_of hr) (pe_dget (hu_of hr) (pe_fldK (K := K) rfl (pv 0) rfl) (pe_ix (ix_tupK (K := K) rfl) (pv 6) pe_int (fun _ _ => rfl)) (fun _ _ => rfl)) (pe_ix (ix_tupK (K := K) rfl) (pv 6) pe_int (fun _ _ => rfl)) (pe_tup (pa_cons (pv 2) (pa_cons (pe_ix (ix_tupK (K := K) rfl) (pv 6) pe_int (fun _ _ => rfl)) pa_nil))) rfl))
        pss_nil)
        (pss_one (ps_expr (pe_bmK (K := K) rfl PySem.F.plainAttrs_list PySem.F.slot_list_append PySem.F.type_list_append mt_append (pv 4) (pa_cons (pv 6) pa_nil)))))))
        (pss_cons (ps_dput (hu_of hr) (pe_fldK (K := K) rfl (pv 0) rfl) (pv 2) (pe_callTy (call_tuple_ofK (K := K) rfl) (by rfl) B.tuple_ (by decide +kernel) (pa_cons (pv 4) pa_nil)) rfl)
        (pss_one (ps_dput (hu_of hr) (pe_fldK (K := K) rfl (pv 0) rfl) (pv 2) pe_dnewK rfl))))), ?_⟩
    walk_at "w"
    intro tk htk
    have hq0 : SqL K (L2.upd H tk (.lst [])) q xs := SqL.of ((Ex.new htk) _ _ hq)
    walk_at "w"
    refine loopE (xs := xs) (fun d r σ' H' => ∃ x5 x6 md mr, σ' = [some (.ref p), some i, some (.str t), some (.ref q), some (.ref tk), x5, x6, none] ∧ cs = md ++ mr ∧ ColsV H' d md ∧ ColsV H' r mr ∧
      H' tk = some (.lst d) ∧ ExO (rs.own dc dl) H H' ∧ Part C H' p dc dl cvs (md.foldl (rsAdd t) rs) ts)
      ⟨_, _, [], cs, rfl, rfl, .nil, hc.ext (Ex.new htk), upd_same, ExO.of (Ex.new htk), hP.ext (Ex.new htk)⟩ (fun d r σ' H' e h => ?_) (fun d y r σ' H' Tp e hTp h => ?_) (fun σ' H' h => ?_)
    · obtain ⟨x5, x6, md, mr, rfl, ec, h1, h2, h3, h4, h5⟩ := h
      refine SqL.of (h4 _ _ hq ?_)
      intro z
      have ndk : ∀ a ∈ rs.own dc dl, ∃ kv, H a = some (.dK kv) := fun a ha => by
        rcases List.mem_cons.1 ha with rfl | ha
        · exact ⟨_, hP.hdc⟩
        · rcases List.mem_cons.1 ha with rfl | ha
          · exact ⟨_, hP.hdl⟩
          · obtain ⟨r0, hr0, rfl⟩ := List.mem_map.mp ha
            obtain ⟨kv, g, _⟩ := hP.lst r0 hr0
            exact ⟨kv, g⟩
      obtain ⟨kv, g⟩ := ndk _ z
      rw [hq] at g
      cases g
    · obtain ⟨x5, x6, md, mr, rfl, ec, h1, h2, h3, h4, h5⟩ := h
      obtain ⟨c, mr', rfl, hy, h2'⟩ := paired_cons h2
      have h2' : ColsV H' r mr' := h2'
      have cin := hin md c mr' ec.symm
      have hdl : d.length < sizeLine := Nat.lt_of_le_of_lt (m := 20) (by rw [paired_len h1]; rw [ec, List.length_append] at hn1; omega) (by decide)
      have hyE := hy
      obtain ⟨ca, rfl, hca⟩ := hy
      have h5n := h5.ext (Ex.new (o := .tup [.int (d.length : Nat), .ref ca]) hTp)
      have hTt : (L2.upd H' Tp (.tup [.int (d.length : Nat), .ref ca])) Tp = some (.tup [.int (d.length : Nat), .ref ca]) := upd_same
      have exT : Ex H' (L2.upd H' Tp (.tup [.int (d.length : Nat), .ref ca])) := Ex.new hTp
      generalize (L2.upd H' Tp (.tup [.int (d.length : Nat), .ref ca])) = H1 at h5n hTt exT ⊢
      obtain ⟨⟨dx, fs, i1, i2⟩, _, _, _, _, _, _, _, _⟩ := id h5n
      have htk1 : SqL K H1 tk d := SqL.of (exT _ _ h3)
      walk_at "w"
      refine w_kMeth i1 (i2.no _ (by decide)) ?_
      walk_at "w"
      intro D hD
      refine compQ md (ColAt H1) (fun c => some c.name) (fun v x => v = V.str x) hD (SqL.of (exT _ _ h3)) (by rw [paired_len h1]; rw [ec] at hn1; rw [List.length_append] at hn1; omega) (h1.ext exT) (fun y z hy hm H3 e3 kk kn hk hn => ?_) (fun acc H3 e3 hacc hp => ?_)
      · obtain ⟨a, rfl, ha⟩ := hy
        have ha3 := e3 _ _ ha
        walk_at "w"
        refine w_ixT (SqT.of ha3) z.at1 ?_
        exact hk _ _ _ (Ex.refl _) rfl rfl
      · rw [filterMap_some] at hp
        have ev := vals_strs hp
        walk_at "w"
        have h53 := h5n.ext e3
        refine ⟨p, D, .ref ca, c, md.map Col.name, dc, dl, cvs, _, ts, rfl, h53, (hyE.ext exT).ext e3, SqL.of (ev ▸ hacc), by rw [foldl_mir]; exact cin, fun H4 e4 => ?_⟩
        walk_at "w"
        have ex4 : Ex H' H4 := (exT.trans e3).trans e4
        have hc4 : ColAt H4 (.ref ca) c := hyE.ext ex4
        refine ⟨.ref ca, c, rfl, hc4, ?_⟩
        have h54 : Part C H4 p dc dl cvs (md.foldl (rsAdd t) rs) ts := h5.ext ex4
        have htk4 : H4 tk = some (.lst d) := ex4 _ _ h3
        have ec' : cs = (md ++ [c]) ++ mr' := by rw [ec, List.append_assoc]; rfl
        have hO4 : ExO (rs.own dc dl) H H4 := h4.trans (.of ex4)
        have tail : ∀ (H5 : Hp), Part C H5 p dc dl cvs ((md ++ [c]).foldl (rsAdd t) rs) ts → ExO (rs.own dc dl) H H5 → ColsV H5 d md → ColAt H5 (.ref ca) c → ColsV H5 r mr' → H5 tk = some (.lst d) →
            ∃ x5 x6 md' mr'', ([some (.ref p), some i, some (.str t), some (.ref q), some (.ref tk), some (.int (d.length : Nat)), some (.ref ca), none] : L2.St) = [some (.ref p), some i, some (.str t), some (.ref q), some (.ref tk), x5, x6, none] ∧ cs = md' ++ mr'' ∧ ColsV (L2.upd H5 tk (.lst (d ++ [.ref ca]))) (d ++ [.ref ca]) md' ∧ ColsV (L2.upd H5 tk (.lst (d ++ [.ref ca]))) r mr'' ∧
              (L2.upd H5 tk (.lst (d ++ [.ref ca]))) tk = some (.lst (d ++ [.ref ca])) ∧ ExO (rs.own dc dl) H (L2.upd H5 tk (.lst (d ++ [.ref ca]))) ∧ Part C (L2.upd H5 tk (.lst (d ++ [.ref ca]))) p dc dl cvs (md'.foldl (rsAdd t) rs) ts := fun H5 g1 g2 g3 g4 g5 g6 =>
          ⟨_, _, md ++ [c], mr', rfl, ec', paired_app (g3.upd g6) (.cons (g4.upd g6) .nil), g5.upd g6, upd_same, g2.mut htk, g1.upd g6⟩
        walk_at "w"
        refine iteB (fun hL => ?_) (fun hL => ?_)
        · obtain ⟨l, hl⟩ : ∃ l, c.lst = some l := Option.isSome_iff_exists.mp hL
          have hK := Col.lst_link hl
          have hca4 : H4 ca = some (.tup c.vals) := ex4 _ _ hca
          walk_at "w"
          refine w_ixT (SqT.of hca4) c.at1 ?_
          walk_at "w"
          intro bb hbb
          have ex5 : Ex H4 (L2.upd H4 bb (.tup [.str t, .str c.name])) := Ex.new hbb
          have hbb5 : (L2.upd H4 bb (.tup [.str t, .str c.name])) bb = some (.tup [.str t, .str c.name]) := upd_same
          generalize (L2.upd H4 bb (.tup [.str t, .str c.name])) = H5 at ex5 hbb5 ⊢
          have h55 := h54.ext ex5
          have hca5 : H5 ca = some (.tup c.vals) := ex5 _ _ hca4
          obtain ⟨⟨dx5, fs5, i5, j5⟩, _, _, _, _, _, _, _, _⟩ := id h55
          obtain ⟨cs', ls', e1, e2, e3', e4', e5'⟩ := cin.lk hK
          obtain ⟨la, l1, l2⟩ := rows_get (rs := md.foldl (rsAdd t) rs) (by rw [foldl_mir]; exact e2)
          obtain ⟨kvs, m1, m2⟩ := h55.lst _ l2
          have m1 : H5 la = some (.dK kvs) := m1
          have m2 : Paired (ListEnt H5) kvs ls' := m2
          walk_at "w"
          refine w_kFld i5 S.cls S.lists_ j5.l ?_
          walk_at "w"
          refine w_ixT (SqT.of hca5) (Col.at2 hK) ?_
          refine w_kG h55.hdl l1 ?_
          walk_at "w"
          refine w_ixT (SqT.of hca5) (Col.at4 hK) ?_
          rw [hl]
          have hlen : kvs.length < sizeLine := by
            have a1 := foldl_lens t md rs 500 hls _ l2
            have a2 : kvs.length = ls'.length := paired_len m2
            have a3 : ls'.length ≤ 500 + md.length := a1
            have a4 : md.length ≤ 20 := by rw [ec, List.length_append] at hn1; omega
            exact Nat.lt_of_le_of_lt (m := 1000) (by omega) (by decide)
          refine ⟨la, _, rfl, DPut.k (k := Sum.inr l) m1 hlen, ?_⟩
          rw [putK_new (show valV kvs (Sum.inr l : Key) = none from ?_)]
          · have hla : la ∈ rs.own dc dl := by
              rw [← own_eq dc dl t md rs]
              exact List.mem_cons_of_mem _ (List.mem_cons_of_mem _ (List.mem_map.mpr ⟨_, l2, rfl⟩))
            have h6 : Part C (L2.upd H5 la (.dK (kvs ++ [(.inr l, .ref bb)]))) p dc dl cvs ((md ++ [c]).foldl (rsAdd t) rs) ts := by
              rw [List.foldl_append]
              exact h55.addList hl l2 m1 m2 hbb5
            have tk6 : (L2.upd H5 la (.dK (kvs ++ [(.inr l, .ref bb)]))) tk = some (.lst d) := by
              rw [upd_ne (ne_of (ex5 _ _ htk4) m1 (by intro z; cases z))]
              exact ex5 _ _ htk4
            have T6 := tail _ h6 ((hO4.trans (.of ex5)).put hla) (((h1.ext ex4).ext ex5).put m1) ((hc4.ext ex5).put m1) ((((h2'.ext ex4)).ext ex5).put m1) tk6
            generalize (L2.upd H5 la (.dK (kvs ++ [(.inr l, .ref bb)]))) = H6 at h6 tk6 T6 ⊢
            walk_at "w"
            exact T6
          · have e6 : isListB cs' ls' (some l) = true := hl ▸ e5'
            unfold isListB at e6
            simp only [Bool.and_eq_true, Bool.not_eq_true', decide_eq_false_iff_not] at e6
            have := ListRow.has (a := la) m2 l
            rw [decide_eq_false e6.2] at this
            cases ev : valV kvs (Sum.inr l : Key) with
            | none => rfl
            | some v => rw [ev] at this; cases this
        · have T4 := tail H4 (by
              rw [List.foldl_append]
              show Part C H4 p dc dl cvs (rsAdd t (md.foldl (rsAdd t) rs) c) ts
              unfold rsAdd
              rw [show c.lst = none from Option.not_isSome_iff_eq_none.mp (by rw [hL]; exact Bool.false_ne_true)]
              exact h54) hO4 (h1.ext ex4) hc4 (h2'.ext ex4) htk4
          walk_at "w"
          exact T4
    · obtain ⟨x5, x6, md, mr, rfl, ec, h1, h2, h3, h4, h5⟩ := h
      cases h2
      rw [List.append_nil] at ec
      subst ec
      walk_at "w"
      refine w_tupL (SqL.of h3) fun T hT => ?_
      have ex1 : Ex H' (L2.upd H' T (.tup xs)) := Ex.new hT
      have hT1 : (L2.upd H' T (.tup xs)) T = some (.tup xs) := upd_same
      generalize (L2.upd H' T (.tup xs)) = H1 at ex1 hT1 ⊢
      have h51 := h5.ext ex1
      obtain ⟨⟨dx, fs, i1, i2⟩, g3, g4, g5, g6, g7, g8, g9, g10⟩ := id h51
      walk_at "w"
      refine w_kFld i1 S.cls S.columns_ i2.c ?_
      walk_at "w"
      have lc : cvs.length = ts.length := paired_len g4
      refine ⟨dc, _, rfl, DPut.k (k := Sum.inr t) g3 (Nat.lt_of_le_of_lt (m := 100) (by omega) (by decide)), ?_⟩
      rw [putK_new (show valV cvs (Sum.inr t : Key) = none from ?_)]
      · have kz : t ∉ (cs.foldl (rsAdd t) rs).map fun r => r.1 := by
          rw [foldl_key]
          rw [← hmk] at hnt
          unfold Rows.mir at hnt
          rw [List.map_map] at hnt
          exact hnt
        have adt := fun D hD => h51.addTab (t := t) (D := D) hT1 (h1.ext ex1) kz hD
        have st : ∀ {a : Addr} {u : HO}, H1 a = some u → a ≠ dc → (L2.upd H1 dc (.dK (cvs ++ [(.inr t, .ref T)]))) a = some u := fun {a u} e n => by rw [upd_ne n]; exact e
        have i3 := st i1 (ne_of i1 g3 (by intro z; cases z))
        have g5' := st g5 (Ne.symm g8)
        have fr : ∀ D, (L2.upd H1 dc (.dK (cvs ++ [(.inr t, .ref T)]))) D = none → H1 D = none := fun D hD => by
          by_cases e : D = dc
          · rw [e, upd_same] at hD
            cases hD
          · rw [upd_ne e] at hD
            exact hD
        have thO : ExO (rs.own dc dl) H H1 := h4.trans (.of ex1)
        walk_at "w"
        intro D hD
        have i4 := (Ex.new (o := .dK []) hD) _ _ i3
        have g6' := (Ex.new (o := .dK []) hD) _ _ g5'
        walk_at "w"
        refine w_kFld i4 S.cls S.lists_ i2.l ?_
        walk_at "w"
        refine ⟨dl, _, rfl, DPut.k (k := Sum.inr t) g6' ?_, ?_⟩
        · have e1 : (cs.foldl (rsAdd t) rs).kvs.length = ts.length := by
            rw [foldl_kvs]
            have := congrArg List.length hmk
            unfold Rows.mir at this
            simp only [List.length_map] at this
            show (rs.map _).length = _
            rw [List.length_map]
            exact this
          exact Nat.lt_of_le_of_lt (m := 100) (by omega) (by decide)
        · rw [putK_new (rows_none kz)]
          have HD1 : H D = none := thO.back (by rw [← own_eq dc dl t cs rs]; exact fun a ha => let ⟨kv, e⟩ := h51.there a ha; ⟨_, e⟩) (fr D hD)
          have hf := adt D hD
          have ek : Rows.kvs (cs.foldl (rsAdd t) rs ++ [(t, D, [])]) = (cs.foldl (rsAdd t) rs).kvs ++ [(.inr t, .ref D)] := by
            unfold Rows.kvs
            rw [List.map_append]
            rfl
          rw [ek] at hf
          exact k T D _ HD1 (((thO.put List.mem_cons_self).mut HD1).put (List.mem_cons_of_mem _ List.mem_cons_self)) hf
      · have := h51.has t
        rw [decide_eq_false hnt] at this
        cases ev : valV cvs (Sum.inr t : Key) with
        | none => rfl
        | some v => rw [ev] at this; cases this
end
end LP
namespace LP
open PySem L2
open Evl (Ex)
def Meets (H : Hp) (a : Addr) (m : List (Str × Bool)) : Prop := H a = some (.dK (m.map fun e => ((Sum.inr e.1 : Key), V.bl e.2)))
theorem meets_get {m : List (Str × Bool)} {n : Str} {b : Bool} (h : m.lookup n = some b) : valV (m.map fun e => ((Sum.inr e.1 : Key), V.bl e.2)) (Sum.inr n : Key) = some (.bl b) := by
  induction m with
  | nil => cases h
  | cons e r ih =>
    rw [List.lookup_cons] at h
    by_cases q : n = e.1
    · rw [show (n == e.1) = true by rw [q]; exact beq_self_eq_true _] at h
      cases h
      exact valV_pos (by rw [q])
    · rw [show (n == e.1) = false from beq_eq_false_iff_ne.mpr q] at h
      rw [List.map_cons, valV_neg (fun z => q (Sum.inr.inj z).symm)]
      exact ih h
def leads (m : List (Str × Bool)) (c : Col) : Bool := c.isLink && (m.lookup c.target == some true)
def spMeets (K : PySem.W.Frag) : Sp := fun vs H Q _ => ∃ (i : V) (a d : Addr) (xs : List V) (cs : List Col) (m : List (Str × Bool)), vs = [i, .ref a, .ref d] ∧ H a = some (.tup xs) ∧ ColsV H xs cs ∧ cs.length ≤ 20 ∧ (∀ c ∈ cs, c.Ok) ∧ Meets H d m ∧
  (∀ c ∈ cs, c.isLink = true → ∃ b, m.lookup c.target = some b) ∧ (∀ c ∈ cs, leads m c = true → listedOf cs ≠ [] → listedOf cs = [c]) ∧ ∀ H', Ex H H' → Q (.bl (meetOf m cs)) H'
theorem filter_ne {α : Type} (p : α → Bool) (l : List α) : (!(l.filter p).isEmpty) = l.any p := by
  induction l with
  | nil => rfl
  | cons c r ih =>
    cases h : p c with
    | true => rw [List.filter_cons_of_pos h, List.any_cons, h]; rfl
    | false => rw [List.filter_cons_of_neg (by rw [h]; exact Bool.false_ne_true), List.any_cons, h]; exact ih
theorem paired_empty {α β : Type} {R : α → β → Prop} {l : List α} {m : List β} (h : Paired R l m) : l.isEmpty = m.isEmpty := by cases h <;> rfl
theorem any_eqv (cs : List Col) (c : Col) : ((cs.map Col.data).any fun z => PyData.eqv z c.data) = decide (c ∈ cs) := by
  induction cs with
  | nil => rfl
  | cons e r ih =>
    rw [List.map_cons, List.any_cons, ih, Col.eqv]
    by_cases h : e = c
    · subst h
      rw [decide_eq_true rfl, decide_eq_true (show e ∈ e :: r from List.mem_cons_self)]
      rfl
    · rw [decide_eq_false h]
      by_cases h' : c ∈ r
      · rw [decide_eq_true h', decide_eq_true (List.mem_cons_of_mem _ h')]
        rfl
      · rw [decide_eq_false h', decide_eq_false (fun z => (List.mem_cons.mp z).elim (fun z => h z.symm) h')]
        rfl
theorem eqv_one (c : Col) : PyData.eqv (.list [c.data]) (.list [c.data]) = true := by
  simp [PyData.eqv, PyData.eqvAll, Col.eqv]
theorem listedOf_ne (cs : List Col) : (!(listedOf cs).isEmpty) = isListed cs := filter_ne (fun c : Col => c.lst.isSome) cs
section
variable {base : Heap} {mg : Str → Option Value} {K : PySem.W.Frag} {w : World} {P : Program}
theorem ok_meets {f : Addr} {fd : FuncData} (D : C8.Def K mg "_meets" s__meets f fd) (b : Binds K fd ["index", "columns", "meeting"] []) (B : Blt mg)
    (c_is_link : C8.Cal P w K mg base 1 "is_link" spIsLink []) (c_has_list : C8.Cal P w K mg base 2 "has_list" spHasList []) : C8.Cal P w K mg base 3 "_meets" (spMeets K) [] := by
  have sc : FnScope ["index", "columns", "meeting", "makers", "column", "leading", "at"] ["index", "columns", "meeting"] (C8.fnScope s__meets) := C8.fnScope_by (by decide +kernel)
  refine C8.cal0 D b .nil sc (fun vs H Q E h => ?_) (fun cdv A outer s H vs Q E hr h => ?_)
  · obtain ⟨_, _, _, _, _, _, rfl, _⟩ := h
    rfl
  · obtain ⟨i, a, d, xs, cs, m, rfl, ha, hc, hn, hok, hm, htg, hru, k⟩ := h
    have hat : SqT K H a xs := SqT.of ha
    have lx := paired_len hc
    refine ⟨_, (pss_cons (ps_setLc (i := 3) (own := [("column", 4)]) (g := (gName 4)) (by rfl) sc.nd rfl rfl (sw_true rfl rfl rfl (by decide +kernel)) (pi_tupK (K := K) rfl (pv 1)) (blkOk_by (own := [("column", 4)]) (N := ["index", "columns", "meeting", "makers", "column", "leading", "at"]) (sc := C8.fnScope s__meets) (by decide +kernel)) (fun _ _ _ _ _ => (pg_name (i := 4) sc.nd rfl (Or.inl rfl))) (fun _ _ _ _ _ => pts_one (pt_val (C8.pe_c c_has_list hr (by decide) rfl (pa_cons (pv 4) pa_nil)))) (fun _ _ _ _ _ => (pv 4)))
        (pss_cons (ps_setLc (i := 5) (own := [("column", 4)]) (g := (gName 4)) (by rfl) sc.nd rfl rfl (sw_true rfl rfl rfl (by decide +kernel)) (pi_tupK (K := K) rfl (pv 1)) (blkOk_by (own := [("column", 4)]) (N := ["index", "columns", "meeting", "makers", "column", "leading", "at"]) (sc := C8.fnScope s__meets) (by decide +kernel)) (fun _ _ _ _ _ => (pg_name (i := 4) sc.nd rfl (Or.inl rfl))) (fun _ _ _ _ _ => pts_one (PW.pt (pw_and (pt_val (C8.pe_c c_is_link hr (by decide) rfl (pa_cons (pv 4) pa_nil))) (pw_and1 (pt_val (pe_dget (hu_of hr) (pv 2) (pe_ix (ix_tupK (K := K) rfl) (pv 4) pe_int (fun _ _ => rfl)) (fun _ _ => rfl))))))) (fun _ _ _ _ _ => (pv 4)))
        (pss_cons (ps_for PassesOwn.never rfl (pi_enumTK (K := K) rfl (by rfl) B.enumerate_ (pa_cons (pv 1) pa_nil)) (pg_tupK (K := K) (n := 2) rfl rfl (pgs_cons (pg_name (i := 6) sc.nd rfl (Or.inl rfl)) (pgs_cons (pg_name (i := 4) sc.nd rfl (Or.inl rfl)) pgs_nil)))
        (pss_one (ps_if (PW.pt (pw_and (pt_truthK (K := K) rfl (pv 3)) (pw_and (pt_cmpR (op_inDK (K := K) rfl (hu65 hr)) (pv 4) (pv 5) (by rfl)) (pw_and1 (pt_cmpR (op_neDK (K := K) rfl (hu64 hr)) (pv 3) (pe_lst (pa_cons (pv 4) pa_nil)) (nomark _))))))
        (pss_one ps_never)
        pss_nil)))
        (pss_one (ps_ret (pe_or (pe_callTy (call_boolLK (K := K) rfl) (by rfl) B.bool_ (by decide +kernel) (pa_cons (pv 3) pa_nil)) (pe_one (pe_callTy (call_boolLK (K := K) rfl) (by rfl) B.bool_ (by decide +kernel) (pa_cons (pv 5) pa_nil))))))))), ?_⟩
    walk_at "w"
    intro D1 hD1
    refine compQT cs (ColAt H) (fun c => if c.lst.isSome = true then some c else none) (ColAt H) hD1 hat (by omega) hc (fun y c hy hmc H3 e3 kk kn hk hkn => ?_) (fun acc1 H1 e1 hacc1 hp1 => ?_)
    · have hy3 := hy.ext e3
      walk_at "w"
      refine ⟨y, c, rfl, hy3, ?_⟩
      walk_at "w"
      refine iteB (fun hL => ?_) (fun hL => ?_)
      · walk_at "w"
        exact hk _ _ _ (Ex.refl _) (by rw [if_pos hL]) hy
      · exact hkn _ (Ex.refl _) (by rw [if_neg (by rw [hL]; exact Bool.false_ne_true)])
    · rw [filterMap_if] at hp1
      have hat1 : SqT K H1 a xs := Evl.ex_t e1 hat
      have hp1 : ColsV H acc1 (listedOf cs) := hp1
      walk_at "w"
      intro D2 hD2
      refine compQT cs (ColAt H1) (fun c => if leads m c = true then some c else none) (ColAt H1) hD2 hat1 (by omega) (hc.ext e1) (fun y c hy hmc H3 e3 kk kn hk hkn => ?_) (fun acc2 H2 e2 hacc2 hp2 => ?_)
      · have hy3 := hy.ext e3
        walk_at "w"
        refine ⟨y, c, rfl, hy3, ?_⟩
        walk_at "w"
        refine iteB (fun hL => ?_) (fun hL => ?_)
        · obtain ⟨ca, rfl, hca⟩ := hy3
          obtain ⟨b', hb'⟩ := htg c hmc hL
          walk_at "w"
          refine w_ixT (SqT.of hca) (Col.at2 hL) ?_
          refine w_kG ((e1.trans e3) _ _ hm) (meets_get hb') ?_
          have el : leads m c = b' := by
            unfold leads
            rw [hL, hb']
            cases b' <;> rfl
          walk_at "w"
          refine iteB (fun hb => ?_) (fun hb => ?_)
          · walk_at "w"
            exact hk _ _ _ (Ex.refl _) (by rw [if_pos (el.trans hb)]) hy
          · exact hkn _ (Ex.refl _) (by rw [if_neg (by rw [el, hb]; exact Bool.false_ne_true)])
        · exact hkn _ (Ex.refl _) (by rw [if_neg (by unfold leads; rw [hL]; exact Bool.false_ne_true)])
      · rw [filterMap_if] at hp2
        have hat2 : SqT K H2 a xs := Evl.ex_t e2 hat1
        have hp2 : ColsV H1 acc2 (cs.filter (leads m)) := hp2
        have mk2 : SqL K H2 D1 acc1 := SqL.of (e2 _ _ hacc1)
        have ld2 : SqL K H2 D2 acc2 := SqL.of hacc2
        have v1 : ColsV H2 acc1 (listedOf cs) := (hp1.ext e1).ext e2
        have v2 : ColsV H2 acc2 (cs.filter (leads m)) := hp2.ext e2
        walk_at "w"
        refine loopET (xs := xs) (fun d' r σ' H' => ∃ x4 x6, σ' = [some i, some (.ref a), some (.ref d), some (.ref D1), x4, some (.ref D2), x6] ∧ Ex H2 H') ⟨_, _, rfl, Ex.refl _⟩ (fun d' r σ' H' e h => ?_) (fun d' y r σ' H' Tp e hTp h => ?_) (fun σ' H' h => ?_)
        · obtain ⟨_, _, _, ex⟩ := h
          exact Evl.ex_t ex hat2
        · obtain ⟨x4, x6, rfl, ex⟩ := h
          obtain ⟨c, hmc, hy⟩ := paired_mem hc y (by rw [← e]; simp)
          have exT : Ex H2 (L2.upd H' Tp (.tup [.int (d'.length : Nat), y])) := ex.trans (Ex.new hTp)
          have hTt : (L2.upd H' Tp (.tup [.int (d'.length : Nat), y])) Tp = some (.tup [.int (d'.length : Nat), y]) := upd_same
          generalize (L2.upd H' Tp (.tup [.int (d'.length : Nat), y])) = H3 at exT hTt ⊢
          have mk3 := Evl.ex_l exT mk2
          have ld3 := Evl.ex_l exT ld2
          have hy3 : ColAt H3 y c := ((hy.ext e1).ext e2).ext exT
          walk_at "w"
          rw [paired_empty v1, listedOf_ne]
          refine iteB (fun hL => ?_) (fun hL => ?_)
          · walk_at "w"
            have sh : ∀ l : List Col, (∀ x ∈ l, x ∈ cs) → SeqAt.shaped (.list (l.map Col.data)) = true := fun l hl => shapedL_cols fun x hx => hok x (hl x hx)
            refine ⟨c.data, (cs.filter (leads m)).map Col.data, hy3.dp, .lst ld3 (v2.ext exT).dp, Col.shaped (hok c hmc), sh _ (fun x hx => (List.mem_filter.mp hx).1), ?_⟩
            rw [any_eqv]
            walk_at "w"
            refine iteD (fun hM => ?_) (fun hM => ?_)
            · have one := hru c hmc (List.mem_filter.mp hM).2 (fun z => by
                have := listedOf_ne cs
                rw [z, hL] at this
                cases this)
              walk_at "w"
              intro L hL'
              have exL : Ex H3 (L2.upd H3 L (.lst [y])) := Ex.new hL'
              have hLL : (L2.upd H3 L (.lst [y])) L = some (.lst [y]) := upd_same
              generalize (L2.upd H3 L (.lst [y])) = H4 at exL hLL ⊢
              refine ⟨.list ((listedOf cs).map Col.data), .list [c.data], .lst (Evl.ex_l exL mk3) ((v1.ext exT).ext exL).dp, .lst (SqL.of hLL) (.cons (hy3.ext exL).dp .nil), sh _ (fun x hx => (List.mem_filter.mp hx).1), sh [c] (fun x hx => by rw [List.mem_singleton.1 hx]; exact hmc), ?_⟩
              rw [one]
              rw [show PyData.eqv (.list ([c].map Col.data)) (.list [c.data]) = true from eqv_one c]
              walk_at "w"
              exact ⟨_, _, rfl, exT.trans exL⟩
            · walk_at "w"
              exact ⟨_, _, rfl, exT⟩
          · walk_at "w"
            exact ⟨_, _, rfl, exT⟩
        · obtain ⟨x4, x6, rfl, ex⟩ := h
          have mk3 := Evl.ex_l ex mk2
          have ld3 := Evl.ex_l ex ld2
          walk_at "w"
          refine w_boolL mk3 ?_
          walk_at "w"
          rw [paired_empty v1, listedOf_ne]
          have k2 := k H' ((e1.trans e2).trans ex)
          unfold meetOf at k2
          refine iteB (fun hL => ?_) (fun hL => ?_)
          · rw [hL] at k2
            exact k2
          · rw [hL] at k2
            walk_at "w"
            refine w_boolL ld3 ?_
            rw [paired_empty v2, filter_ne]
            exact k2
end
end LP
namespace LP
open PySem L2
open Evl (Ex)
def sz (x : String) : Str := Str.ofString x
def colLine (c : Col) : Str :=
  let a : Str := (((Str.empty ++ c.kind) ++ sz " ") ++ c.name) ++ (if c.opt = true then sz "?" else sz "")
  let b : Str := if c.isLink = true then ((Str.empty ++ a) ++ sz " to ") ++ c.target else a
  match c.lst with
  | none => b
  | some l => ((Str.empty ++ b) ++ sz " as ") ++ l
def tabLines (t : Str × List Col) : List Str := ((Str.empty ++ sz "table ") ++ t.1) :: t.2.map colLine
def linesOf (u : Str) (ts : Tabs) : List Str := ((Str.empty ++ sz "user ") ++ u) :: ts.flatMap tabLines
structure Col.Sz (c : Col) : Prop where
  n : c.name.length ≤ 1000
  t : c.target.length ≤ 1000
  l : ∀ x, c.lst = some x → x.length ≤ 1000
structure TabSz (t : Str × List Col) : Prop where
  n : t.1.length ≤ 1000
  l : t.2.length ≤ 20
  c : ∀ c ∈ t.2, c.Sz
def spWriteLines : Sp := fun vs H Q _ => ∃ (u : Str) (dc : Addr) (cvs : List (Key × V)) (ts : Tabs), vs = [.str u, .ref dc] ∧ H dc = some (.dK cvs) ∧ Paired (ColRow H) cvs ts ∧ u.length ≤ 1000 ∧ ts.length ≤ 100 ∧ (ts.map (·.1)).Nodup ∧ (∀ t ∈ ts, TabSz t) ∧
  ∀ (q : Addr) (H' : Hp), Ex H H' → H' q = some (.lst ((linesOf u ts).map V.str)) → Q (.ref q) H'
def spWriteCol : Sp := fun vs H Q _ => ∃ (v : V) (c : Col), vs = [v] ∧ ColAt H v c ∧ c.Sz ∧ Q (.str (colLine c)) H
theorem Col.kind_len (c : Col) : c.kind.length ≤ 6 := by
  cases c with
  | plain f n =>
    cases f with
    | true => show (Str.ofString "flag").length ≤ 6; decide
    | false => show (Str.ofString "number").length ≤ 6; decide
  | word n o => show (Str.ofString "word").length ≤ 6; decide
  | link n t o l => show (Str.ofString "link").length ≤ 6; decide
theorem mark_len (b : Bool) : (if b = true then Str.ofString "?" else Str.ofString "").length ≤ 1 := by cases b <;> decide
section
variable {base : Heap} {mg : Str → Option Value} {K : PySem.W.Frag} {w : World} {P : Program}
theorem ok_write_column {f : Addr} {fd : FuncData} (D : C8.Def K mg "_write_column" s__write_column f fd) (b : Binds K fd ["column"] []) (c_is_link : C8.Cal P w K mg base 1 "is_link" spIsLink [])
    (c_has_list : C8.Cal P w K mg base 2 "has_list" spHasList []) (c_may_lack : C8.Cal P w K mg base 2 "may_lack" spMayLack []) : C8.Cal P w K mg base 3 "_write_column" spWriteCol [] := by
  have sc : FnScope ["column", "mark", "line"] ["column"] (C8.fnScope s__write_column) := C8.fnScope_by (by decide +kernel)
  refine C8.cal0 D b .nil sc (fun vs H Q E h => ?_) (fun cdv A outer s H vs Q E hr h => ?_)
  · obtain ⟨_, _, rfl, _⟩ := h
    rfl
  · obtain ⟨v, c, rfl, ⟨a, rfl, ha⟩, hz, k⟩ := h
    have tt : SqT K H a c.vals := SqT.of ha
    have z1 := hz.n
    have z2 := hz.t
    have z3 := c.kind_len
    have z4 := mark_len c.opt
    refine ⟨_, (pss_cons (ps_set (i := 1) sc.nd rfl (Or.inl rfl) (pe_ifExp (pt_val (C8.pe_c c_may_lack hr (by decide) rfl (pa_cons (pv 0) pa_nil))) pe_str pe_str))
        (pss_cons (ps_set (i := 2) sc.nd rfl (Or.inl rfl) (pe_joinedN (PJ.cons (pe_fmt (pe_ix (ix_tupK (K := K) rfl) (pv 0) pe_int (fun _ _ => rfl))) (PJ.cons pe_str (PJ.cons (pe_fmt (pe_ix (ix_tupK (K := K) rfl) (pv 0) pe_int (fun _ _ => rfl))) (PJ.cons (pe_fmt (pv 1)) PJ.nil))))))
        (pss_cons (ps_if (pt_val (C8.pe_c c_is_link hr (by decide) rfl (pa_cons (pv 0) pa_nil)))
        (pss_one (ps_set (i := 2) sc.nd rfl (Or.inl rfl) (pe_joinedN (PJ.cons (pe_fmt (pv 2)) (PJ.cons pe_str (PJ.cons (pe_fmt (pe_ix (ix_tupK (K := K) rfl) (pv 0) pe_int (fun _ _ => rfl))) PJ.nil))))))
        pss_nil)
        (pss_cons (ps_if (pt_val (C8.pe_c c_has_list hr (by decide) rfl (pa_cons (pv 0) pa_nil)))
        (pss_one (ps_set (i := 2) sc.nd rfl (Or.inl rfl) (pe_joinedN (PJ.cons (pe_fmt (pv 2)) (PJ.cons pe_str (PJ.cons (pe_fmt (pe_ix (ix_tupK (K := K) rfl) (pv 0) pe_int (fun _ _ => rfl))) PJ.nil))))))
        pss_nil)
        (pss_one (ps_ret (pv 2))))))), ?_⟩
    walk_at "w"
    refine ⟨_, c, rfl, ⟨a, rfl, ha⟩, ?_⟩
    walk_at "w"
    unfold colLine at k
    refine iteB (fun hL => ?_) (fun hL => ?_)
    all_goals
      rw [hL] at k
      walk_at "w"
      refine w_ixT tt c.at0 ?_
      refine w_kfmt (by walk_at "js") ?_
      refine w_jstr (by walk_at "js") ?_
      walk_at "w"
      refine w_jstr (by walk_at "js") ?_
      walk_at "w"
      refine w_ixT tt c.at1 ?_
      refine w_kfmt (by walk_at "js") ?_
      refine w_jstr (by walk_at "js") ?_
      walk_at "w"
      refine w_kfmt (by walk_at "js") ?_
      refine w_jstr (by walk_at "js") ?_
      walk_at "w"
      refine ⟨_, c, rfl, ⟨a, rfl, ha⟩, ?_⟩
      walk_at "w"
      refine iteB (fun hK => ?_) (fun hK => ?_)
      · rw [hK] at k
        walk_at "w"
        refine w_kfmt (by walk_at "js") ?_
        refine w_jstr (by walk_at "js") ?_
        walk_at "w"
        refine w_jstr (by walk_at "js") ?_
        walk_at "w"
        refine w_ixT tt (Col.at2 hK) ?_
        refine w_kfmt (by walk_at "js") ?_
        refine w_jstr (by walk_at "js") ?_
        walk_at "w"
        refine ⟨_, c, rfl, ⟨a, rfl, ha⟩, ?_⟩
        walk_at "w"
        cases hl : c.lst with
        | none =>
          rw [hl] at k
          refine iteF ?_
          walk_at "w"
          exact k
        | some x =>
          rw [hl] at k
          have zx := hz.l x hl
          refine iteT ?_
          walk_at "w"
          refine w_kfmt (by walk_at "js") ?_
          refine w_jstr (by walk_at "js") ?_
          walk_at "w"
          refine w_jstr (by walk_at "js") ?_
          walk_at "w"
          refine w_ixT tt (Col.at4 hK) ?_
          rw [hl]
          refine w_kfmt (y := x) (by walk_at "js") ?_
          refine w_jstr (by walk_at "js") ?_
          walk_at "w"
          exact k
      · have hl : c.lst = none := by cases c <;> first | rfl | cases hK
        rw [hK, hl] at k
        walk_at "w"
        refine ⟨_, c, rfl, ⟨a, rfl, ha⟩, ?_⟩
        rw [hl]
        refine ⟨false, rfl, iteF ?_⟩
        walk_at "w"
        exact k
theorem lines_len : ∀ {ts : Tabs}, (∀ t ∈ ts, TabSz t) → (ts.flatMap tabLines).length ≤ 21 * ts.length
  | [], _ => Nat.le_refl _
  | t :: r, h => by
    rw [List.flatMap_cons, List.length_append, List.length_cons]
    have i := lines_len (ts := r) fun x hx => h x (List.mem_cons_of_mem _ hx)
    have l := (h t List.mem_cons_self).l
    have : (tabLines t).length = t.2.length + 1 := by
      unfold tabLines
      rw [List.length_cons, List.length_map]
    omega
theorem lookup_mem {α : Type} : ∀ {l : List (Str × α)} {e : Str × α}, (l.map (·.1)).Nodup → e ∈ l → l.lookup e.1 = some e.2
  | x :: xs, e, nd, h => by
    rw [List.map_cons,
            List.nodup_cons] at nd
    rw [List.lookup_cons]
    rcases List.mem_cons.1 h with q | q
    · rw [q, show (x.1 == x.1) = true from beq_self_eq_true _]
    · have : e.1 ≠ x.1 := fun z => nd.1 (z ▸ List.mem_map.mpr ⟨e, q, rfl⟩)
      rw [show (e.1 == x.1) = false from beq_eq_false_iff_ne.mpr this]
      exact lookup_mem nd.2 q
theorem cgetP {H : Hp} {cvs : List (Key × V)} {ts : Tabs} {n : Str} {cs : List Col} (h : Paired (ColRow H) cvs ts) (e : ts.lookup n = some cs) :
    ∃ a vs, valV cvs (Sum.inr n : Key) = some (.ref a) ∧ H a = some (.tup vs) ∧ ColsV H vs cs := by
  rcases valV_pair (fun _ _ h => h.1) h n with ⟨h1, h2⟩ | ⟨kv, t, h1, h2, ⟨h3, a, vs, h4, h5, h6⟩, h7, h8⟩
  · exact absurd (List.mem_map.mpr ⟨(n, cs), PySem.mem_of_lookup e, rfl⟩) h2
  · rw [e] at h8
    cases h8
    exact ⟨a, vs, by rw [h7, h4], h5, h6⟩
theorem ColsV.exo {H H' : Hp} {L : Addr} {xs : List V} {vs : List V} {cs : List Col} (hL : H L = some (.lst xs)) (e : ExO [L] H H') (h : ColsV H vs cs) : ColsV H' vs cs := paired_imp (fun _ _ ⟨a, ev, ha⟩ => ⟨a, ev, e _ _ ha fun z => absurd (List.mem_singleton.mp z) (ne_of ha hL (by intro z; cases z))⟩) h
theorem w_kGf {H : Hp} {d : Addr} {o : Obj} {kvs : List (Key × V)} {k : Str} {v : V} {z : V → Prop} (h : H d = some (.frz o (.dK kvs))) (e : valV kvs (Sum.inr k : Key) = some v) (q : z v) : ∃ a' v', V.ref d = .ref a' ∧ DGet H a' (.str k) (some v') ∧ z v' :=
  ⟨d, v, rfl, .inl ⟨kvs, .inr k, .inr ⟨o, h⟩, rfl, e.symm⟩, q⟩
theorem ok_write_lines {f : Addr} {fd : FuncData} (D : C8.Def K mg "write_lines" s_write_lines f fd) (b : Binds K fd ["user", "columns"] []) (c__write_column : C8.Cal P w K mg base 3 "_write_column" spWriteCol []) : C8.Cal P w K mg base 4 "write_lines" spWriteLines [] := by
  have sc : FnScope ["user", "columns", "lines", "table", "column"] ["user", "columns"] (C8.fnScope s_write_lines) := C8.fnScope_by (by decide +kernel)
  refine C8.cal0 D b .nil sc (fun vs H Q E h => ?_) (fun cdv A outer s H vs Q E hr h => ?_)
  · obtain ⟨_, _, _, _, rfl, _⟩ := h
    rfl
  · obtain ⟨u, dc, cvs, ts, rfl, hd, hc, zu, zt, nd, ht, k⟩ := h
    refine ⟨_, (pss_cons (ps_set (i := 2) sc.nd rfl (Or.inl rfl) (pe_lst (pa_cons (pe_joinedN (PJ.cons pe_str (PJ.cons (pe_fmt (pv 0)) PJ.nil))) pa_nil)))
        (pss_cons (ps_lock (ps_for PassesOwn.never rfl (pi_keys (pv 1)) (pg_name (i := 3) sc.nd rfl (Or.inl rfl))
        (pss_cons (ps_expr (pe_bmK (K := K) rfl PySem.F.plainAttrs_list PySem.F.slot_list_append PySem.F.type_list_append mt_append (pv 2) (pa_cons (pe_joinedN (PJ.cons pe_str (PJ.cons (pe_fmt (pv 3)) PJ.nil))) pa_nil)))
        (pss_one (ps_expr (pe_bmK (K := K) rfl PySem.F.plainAttrs_list PySem.F.slot_list_extend PySem.F.type_list_extend mt_extend (pv 2) (pa_cons (pe_lc (own := [("column", 4)]) (g := (gName 4)) (by rfl) sc.nd (pi_tupK (K := K) rfl (pe_dget (hu_of hr) (pv 1) (pv 3) (fun _ _ => rfl))) (blkOk_by (own := [("column", 4)]) (N := ["user", "columns", "lines", "table", "column"]) (sc := C8.fnScope s_write_lines) (by decide +kernel)) (fun _ _ _ _ _ => (pg_name (i := 4) sc.nd rfl (Or.inl rfl))) (fun _ _ _ _ _ => pts_nil) (fun _ _ _ _ _ => (C8.pe_c c__write_column hr (by decide) rfl (pa_cons (pv 4) pa_nil)))) pa_nil)))))))
        (pss_one (ps_ret (pv 2))))), ?_⟩
    walk_at "w"
    refine w_jstr (by walk_at "js") ?_
    walk_at "w"
    refine w_kfmt (by walk_at "js") ?_
    refine w_jstr (by walk_at "js") ?_
    walk_at "w"
    intro L hL
    have Ldc : dc ≠ L := ne_of_none hd hL
    have e1 : Ex H (L2.upd H L (.lst [V.str (Str.empty ++ Str.ofString "user " ++ u)])) := Ex.new hL
    have hL1 : (L2.upd H L (.lst [V.str (Str.empty ++ Str.ofString "user " ++ u)])) L = some (.lst [V.str (Str.empty ++ Str.ofString "user " ++ u)]) := upd_same
    generalize (L2.upd H L (.lst [V.str (Str.empty ++ Str.ofString "user " ++ u)])) = H1 at e1 hL1 ⊢
    have hd1 := e1 _ _ hd
    have hc1 : Paired (ColRow H1) cvs ts := paired_imp (fun _ _ => ColRow.ext e1) hc
    walk_at "w"
    refine ⟨dc, .dK cvs, hd1, trivial, fun od => ?_⟩
    have hdF : (L2.upd H1 dc (.frz od (.dK cvs))) dc = some (.frz od (.dK cvs)) := upd_same
    have hcF : Paired (ColRow (L2.upd H1 dc (.frz od (.dK cvs)))) cvs ts := paired_imp (fun _ _ => ColRow.put hd1) hc1
    have hLF : (L2.upd H1 dc (.frz od (.dK cvs))) L = some (.lst [V.str (Str.empty ++ Str.ofString "user " ++ u)]) := by rw [upd_ne (Ne.symm Ldc)]; exact hL1
    have stF : ∀ a o, H1 a = some o → a ≠ dc → (L2.upd H1 dc (.frz od (.dK cvs))) a = some o := fun a o h n => by rw [upd_ne n]; exact h
    generalize (L2.upd H1 dc (.frz od (.dK cvs))) = HF at hdF hcF hLF stF ⊢
    walk_at "w"
    refine w_kKeys hdF ?_
    refine loopK (fun d' r σ' H' => ∃ x3 ms mr, σ' = [some (.str u), some (.ref dc), some (.ref L), x3, none] ∧ ts = ms ++ mr ∧ Paired (ColRow HF) d' ms ∧ Paired (ColRow HF) r mr ∧
        H' L = some (.lst (((Str.empty ++ Str.ofString "user " ++ u) :: ms.flatMap tabLines).map V.str)) ∧ ExO [L] HF H') ⟨_, [], ts, rfl, rfl, .nil, hcF, hLF, ExO.refl⟩ (fun d' r σ' H' e h => ?_) (fun d' y r σ' H' e h => ?_) (fun σ' H' h => ?_)
    · obtain ⟨x3, ms, mr, rfl, et, p1, p2, h1, h2⟩ := h
      exact h2 _ _ hdF fun z => Ldc (List.mem_singleton.mp z)
    · obtain ⟨x3, ms, mr, rfl, et, p1, p2, h1, h2⟩ := h
      obtain ⟨t, mr', rfl, hy, p2'⟩ := paired_cons p2
      obtain ⟨ky, vy⟩ := y
      obtain ⟨hk, _⟩ := id hy
      have hk : ky = .inr t.1 := hk
      subst hk
      have htm : t ∈ ts := by rw [et]; simp
      have hz := ht t htm
      have z1 := hz.n
      obtain ⟨ca, vs, g1, g2, g3⟩ := cgetP hcF (lookup_mem nd htm)
      show gName 3 (V.str t.1) _ _ _
      have hlen : (List.map V.str ((Str.empty ++ Str.ofString "user " ++ u) :: ms.flatMap tabLines)).length ≤ 2101 := by
        have := lines_len (ts := ms) fun x hx => ht x (by rw [et]; exact List.mem_append_left _ hx)
        rw [et, List.length_append] at zt
        rw [List.length_map, List.length_cons]
        omega
      have hsz : (List.map V.str ((Str.empty ++ Str.ofString "user " ++ u) :: ms.flatMap tabLines)).length < sizeLine := Nat.lt_of_le_of_lt hlen (by decide)
      walk_at "w"
      refine w_jstr (by walk_at "js") ?_
      walk_at "w"
      refine w_kfmt (by walk_at "js") ?_
      refine w_jstr (by walk_at "js") ?_
      walk_at "w0"
      walk_at "w0"
      refine w_app h1 hsz ?_
      have hL2 : (L2.upd H' L (.lst (List.map V.str ((Str.empty ++ Str.ofString "user " ++ u) :: ms.flatMap tabLines) ++ [V.str (Str.empty ++ Str.ofString "table " ++ t.1)]))) L = some (.lst (List.map V.str ((Str.empty ++ Str.ofString "user " ++ u) :: ms.flatMap tabLines) ++ [V.str (Str.empty ++ Str.ofString "table " ++ t.1)])) := upd_same
      have h22 : ExO [L] HF (L2.upd H' L (.lst (List.map V.str ((Str.empty ++ Str.ofString "user " ++ u) :: ms.flatMap tabLines) ++ [V.str (Str.empty ++ Str.ofString "table " ++ t.1)]))) := h2.put List.mem_cons_self
      generalize (L2.upd H' L (.lst (List.map V.str ((Str.empty ++ Str.ofString "user " ++ u) :: ms.flatMap tabLines) ++ [V.str (Str.empty ++ Str.ofString "table " ++ t.1)]))) = H2 at hL2 h22 ⊢
      have hd2 := h22 _ _ hdF fun z => Ldc (List.mem_singleton.mp z)
      have hca2 : SqT K H2 ca vs := SqT.of (h22 _ _ g2 fun z => absurd (List.mem_singleton.mp z) (ne_of g2 hLF (by intro z; cases z)))
      have g32 : ColsV H2 vs t.2 := g3.exo hLF h22
      walk_at "w"
      refine w_kGf hd2 g1 ?_
      walk_at "w"
      intro D hD
      refine compQT t.2 (ColAt H2) (fun c => some (colLine c)) (fun v x => v = V.str x) hD hca2 (by rw [paired_len g32]; have := hz.l; omega) g32 (fun y c hy hm H3 e3 kk kn hk hn => ?_) (fun acc H3 e3 hacc hp => ?_)
      · walk_at "w"
        exact ⟨y, c, rfl, hy.ext e3, hz.c c hm, hk _ _ _ (Ex.refl _) rfl rfl⟩
      · rw [filterMap_some] at hp
        have ev := vals_strs hp
        walk_at "w"
        have el : List.map V.str ((Str.empty ++ Str.ofString "user " ++ u) :: ms.flatMap tabLines) ++ [V.str (Str.empty ++ Str.ofString "table " ++ t.1)] ++ acc = List.map V.str ((Str.empty ++ Str.ofString "user " ++ u) :: (ms ++ [t]).flatMap tabLines) := by
          rw [ev, List.flatMap_append, List.map_cons, List.map_cons, List.map_append]
          simp [tabLines, sz]
        have al : acc.length ≤ 20 := by rw [ev, List.length_map, List.length_map]; exact hz.l
        refine w_ext (e3 _ _ hL2) hacc (small_le (by rw [List.length_append, List.length_singleton]; omega)) ?_
        rw [el]
        exact ⟨_, ms ++ [t], mr', rfl, by rw [et, List.append_assoc]; rfl, paired_app p1 (.cons hy .nil), p2', upd_same, (h22.trans (.of e3)).put List.mem_cons_self⟩
    · obtain ⟨x3, ms, mr, rfl, et, p1, p2, h1, h2⟩ := h
      cases p2
      rw [List.append_nil] at et
      subst et
      have hdE := h2 _ _ hdF fun z => Ldc (List.mem_singleton.mp z)
      refine ⟨hdE, ?_⟩
      walk_at "w"
      refine k L _ (fun a o h => ?_) (by rw [upd_ne (Ne.symm Ldc)]; exact h1)
      by_cases q : a = dc
      · subst q
        rw [hd] at h
        cases h
        exact upd_same
      · rw [upd_ne q]
        exact h2 _ _ (stF _ _ (e1 _ _ h) q) fun z => absurd (List.mem_singleton.mp z) (ne_of_none h hL)
end
end LP
namespace LP
open PySem L2
open Evl (Ex)
/-! ### valid tables may be taken one by one -/
theorem GoodTabs.split : ∀ {ts : Tabs}, GoodTabs ts → ∀ (td : Tabs) (t : Str × List Col) (tr : Tabs), ts = td ++ t :: tr → GoodTabs td ∧ IsName t.1 ∧ t.1 ∉ td.map (·.1) ∧ GoodCols td t.2 := by
  intro ts g
  induction g with
  | nil => intro td t tr e; cases td <;> cases e
  | @snoc ts n cs g hn hx hc ih =>
    intro td t tr e
    rcases List.eq_nil_or_concat tr with rfl | ⟨tr', z, rfl⟩
    · have e2 : ts ++ [(n, cs)] = td ++ [t] := e
      obtain ⟨rfl, e3⟩ := List.append_inj' e2 rfl
      cases e3
      exact ⟨g, hn, hx, hc⟩
    · have e2 : ts ++ [(n, cs)] = (td ++ t :: tr') ++ [z] := by rw [e]; simp
      obtain ⟨e3, e4⟩ := List.append_inj' e2 rfl
      exact ih td t tr' e3
theorem GoodTabs.nodup {ts : Tabs} (g : GoodTabs ts) : (ts.map (·.1)).Nodup := by
  induction g with
  | nil => exact List.nodup_nil
  | snoc g hn hx hc ih =>
    rw [List.map_append]; rw [List.nodup_append]
    refine ⟨ih, by simp, fun a ha b hb => ?_⟩
    simp only [List.map_cons,
            List.map_nil, List.mem_singleton] at hb
    rw [hb]
    rintro rfl
    exact hx ha
def mirOf (ts : Tabs) : List (Str × Lists) := ts.foldl (fun m t => t.2.foldl (addCol t.1) m ++ [(t.1, [])]) []
theorem mirOf_snoc (ts : Tabs) (t : Str × List Col) : mirOf (ts ++ [t]) = t.2.foldl (addCol t.1) (mirOf ts) ++ [(t.1, [])] := by
  unfold mirOf
  rw [List.foldl_append]
  rfl
theorem addCol_key (t : Str) (m : List (Str × Lists)) (c : Col) : (addCol t m c).map (·.1) = m.map (·.1) := by
  unfold addCol
  cases c.lst with
  | none => rfl
  | some l =>
    show (m.map _).map _ = _
    rw [List.map_map]
    refine List.map_congr_left fun r _ => ?_
    simp only [Function.comp]
    by_cases h : r.1 = c.target
    · rw [if_pos h]
    · rw [if_neg h]
theorem foldl_addKey (t : Str) : ∀ (cs : List Col) (m : List (Str × Lists)), (cs.foldl (addCol t) m).map (·.1) = m.map (·.1)
  | [], _ => rfl
  | c :: r, m => by rw [List.foldl_cons, foldl_addKey t r, addCol_key]
theorem mirOf_key {ts : Tabs} (g : GoodTabs ts) : (mirOf ts).map (·.1) = ts.map (·.1) := by
  induction g with
  | nil => rfl
  | snoc g hn hx hc ih => rw [mirOf_snoc, List.map_append, List.map_append, foldl_addKey, ih]; rfl
/-- where the lists come from -/
def Src (m : List (Str × Lists)) (S : Str → Str → Prop) : Prop := ∀ r ∈ m, ∀ e ∈ r.2, S r.1 e.1
theorem Src.add {t : Str} {m : List (Str × Lists)} {S : Str → Str → Prop} {c : Col} (h : Src m S) (hc : ∀ l, c.lst = some l → S c.target l) : Src (addCol t m c) S := by
  unfold addCol
  cases e : c.lst with
  | none => exact h
  | some l =>
    intro r hr x hx
    obtain ⟨r0, h0, rfl⟩ := List.mem_map.mp hr
    by_cases q : r0.1 = c.target
    · rw [if_pos q] at hx ⊢
      rcases List.mem_append.1 hx with hx | hx
      · exact h r0 h0 x hx
      · rw [List.mem_singleton.mp hx, show ((r0.1, r0.2 ++ [(l, t, c.name)]) : Str × Lists).1 = c.target from q]
        exact hc l e
    · rw [if_neg q] at hx ⊢
      exact h r0 h0 x hx
theorem Src.adds {t : Str} {S : Str → Str → Prop} : ∀ {cs : List Col} {m : List (Str × Lists)}, Src m S → (∀ c ∈ cs, ∀ l, c.lst = some l → S c.target l) → Src (cs.foldl (addCol t) m) S
  | [], _, h, _ => h
  | c :: r, m, h, hc => Src.adds (cs := r) (h.add (hc c List.mem_cons_self)) fun x hx => hc x (List.mem_cons_of_mem _ hx)
theorem mirOf_src : ∀ {ts : Tabs} {S : Str → Str → Prop}, GoodTabs ts → (∀ t ∈ ts, ∀ c ∈ t.2, ∀ l, c.lst = some l → S c.target l) → Src (mirOf ts) S := by
  intro ts S g
  induction g with
  | nil => exact fun _ r h => absurd h List.not_mem_nil
  | snoc g hn hx hc ih =>
    intro h
    rw [mirOf_snoc]
    have i := (ih fun t ht => h t (List.mem_append_left _ ht))
    intro r hr e he
    rcases List.mem_append.1 hr with hr | hr
    · exact (Src.adds i fun c hc => h _ (List.mem_append_right _ List.mem_cons_self) c hc) r hr e he
    · rw [List.mem_singleton.1 hr] at he
      exact absurd he List.not_mem_nil
theorem lookup_some {α : Type} : ∀ {l : List (Str × α)} {n : Str}, n ∈ l.map (·.1) → ∃ v, l.lookup n = some v
  | x :: xs, n, h => by
    rw [List.lookup_cons]
    by_cases e : n = x.1
    · rw [show (n == x.1) = true by rw [e]; exact beq_self_eq_true _]
      exact ⟨_, rfl⟩
    · rw [show (n == x.1) = false from beq_eq_false_iff_ne.mpr e]
      rw [List.map_cons] at h
      exact lookup_some ((List.mem_cons.mp h).resolve_left e)
theorem IsName.short {x : Str} (h : IsName x) : x.length ≤ 8 := h.1.2.1
theorem pre_colsIn {td : Tabs} {n : Str} {cs : List Col} (g : GoodTabs td) (h : PreCols td cs) : ColsIn n cs (mirOf td) td := by
  intro d c r e
  have hc : c ∈ cs := by rw [← e]; simp
  have nd := h.nd
  refine ⟨h.nm c hc, fun z => ?_, fun hL => ?_⟩
  · rw [← e, List.map_append, List.nodup_append] at nd
    exact nd.2.2 _ z _ (by rw [List.map_cons]; exact List.mem_cons_self) rfl
  · have htg := h.tg c hc hL
    obtain ⟨cs', hcs'⟩ := lookup_some htg
    obtain ⟨ls, hls⟩ := lookup_some (l := d.foldl (addCol n) (mirOf td)) (n := c.target) (by rw [foldl_addKey, mirOf_key g]; exact htg)
    have mt := PySem.mem_of_lookup hcs'
    refine ⟨cs', ls, hcs', hls, Nat.le_trans (g.cols _ mt) (by decide), fun x hx => Nat.le_trans (h.ls c hc x hx).short (by decide), ?_⟩
    cases hl : c.lst with
    | none => rfl
    | some l =>
      have old := h.old c hc l hl
      have o1 := old _ mt
      show (nameB l && !decide (l ∈ cs'.map Col.name) && !decide (l ∈ ls.map (·.1))) = true
      rw [(nameB_iff l).mpr (h.ls c hc l hl), decide_eq_false, decide_eq_false]
      · rfl
      · intro z
        obtain ⟨x, hx, rfl⟩ := List.mem_map.mp z
        have src : Src (d.foldl (addCol n) (mirOf td)) fun tg l => (∃ t ∈ td, ∃ c ∈ t.2, c.target = tg ∧ c.lst = some l) ∨ ∃ c ∈ d, c.target = tg ∧ c.lst = some l :=
          (mirOf_src g fun t ht c hc l hl => .inl ⟨t, ht, c, hc, rfl, hl⟩).adds fun c hc l hl => .inr ⟨c, hc, rfl, hl⟩
        rcases src _ (PySem.mem_of_lookup hls) x hx with ⟨t, ht, c', hc', e1, e2⟩ | ⟨c', hc', e1, e2⟩
        · refine old t ht ?_
          unfold takenStep linkLists
          refine List.mem_append_left _ (List.mem_map.mpr ⟨c', List.mem_filter.mpr ⟨hc', ?_⟩, e2⟩)
          rw [Col.lst_link e2, decide_eq_true e1]
          rfl
        · have pw := h.fr
          rw [← e, List.pairwise_append] at pw
          exact pw.2.2 c' hc' c List.mem_cons_self (Col.lst_link e2) e1 x.1 hl e2
      · intro z
        refine o1 ?_
        unfold takenStep
        rw [if_pos rfl]
        refine List.mem_append_right _ ?_
        obtain ⟨c', hc', e1⟩ := List.mem_map.mp z
        exact List.mem_map.mpr ⟨c', hc', by rw [e1]⟩
theorem good_colsIn {td : Tabs} {n : Str} {cs : List Col} (g : GoodTabs td) (h : GoodCols td cs) : ColsIn n cs (mirOf td) td := pre_colsIn g h.toPreCols
/-- the rows a schema's lists end with -/
theorem good_rule {td : Tabs} {cs : List Col} (h : GoodCols td cs) : ∀ c ∈ cs, leads (meetMap td) c = true → listedOf cs ≠ [] → listedOf cs = [c] := fun c hc hl hn => by
  unfold leads at hl
  rw [Bool.and_eq_true] at hl
  exact h.r6 c hc hl.1 hl.2 hn
theorem good_targets {td : Tabs} {cs : List Col} (h : PreCols td cs) : ∀ c ∈ cs, c.isLink = true → ∃ b, (meetMap td).lookup c.target = some b := fun c hc hl =>
  lookup_some (by rw [meetMap_keys]; exact h.tg c hc hl)
theorem good_sz {ts : Tabs} (g : GoodTabs ts) : ∀ t ∈ ts, TabSz t := by
  intro t ht
  obtain ⟨td, tr, e⟩ := List.append_of_mem ht
  obtain ⟨g1, g2, g3, g4⟩ := g.split td t tr e
  refine ⟨Nat.le_trans g2.short (by decide), Nat.le_trans g4.few (by decide), fun c hc => ⟨Nat.le_trans (g4.nm c hc).short (by decide), ?_, fun x hx => Nat.le_trans (g4.ls c hc x hx).short (by decide)⟩⟩
  cases hk : c.isLink with
  | true =>
    obtain ⟨t', h1, h2⟩ := List.mem_map.mp (g4.tg c hc hk)
    rw [← h2]
    exact Nat.le_trans (g1.names t' h1).short (by decide)
  | false =>
    have : c.target = "" := by cases c <;> first | rfl | cases hk
    rw [this]
    decide
end LP
namespace LP
open PySem L2
open Evl (Ex)
/-- a schema, made -/
structure SchAt (C : Addr) (H : Hp) (p : Addr) (u : Str) (ts : Tabs) : Prop where
  ex : ∃ (dc dl : Addr) (cvs : List (Key × V)) (rs : Rows) (dx : Addr) (fs : List (Str × V)) (tt ll : Addr), Part C H p dc dl cvs rs ts ∧ rs.mir = mirOf ts ∧ H p = some (.ins C dx fs) ∧ FsOk fs dc dl ∧ fs.lookup ("user" : Str) = some (.str u) ∧
    fs.lookup ("tables" : Str) = some (.ref tt) ∧ H tt = some (.tup (ts.map fun t => V.str t.1)) ∧ fs.lookup ("_lines" : Str) = some (.ref ll) ∧ H ll = some (.lst ((linesOf u ts).map V.str))
theorem SchAt.ext {C : Addr} {H H' : Hp} {p : Addr} {u : Str} {ts : Tabs} (e : Ex H H') (h : SchAt C H p u ts) : SchAt C H' p u ts := by
  obtain ⟨dc, dl, cvs, rs, dx, fs, tt, ll, h1, h2, h3, h4, h5, h6, h7, h8, h9⟩ := h.ex
  exact ⟨dc, dl, cvs, rs, dx, fs, tt, ll, h1.ext e, h2, e _ _ h3, h4, h5, h6, e _ _ h7, h8, e _ _ h9⟩
def spInit (C : Addr) : Sp := fun vs H Q _ => ∃ (p q dx : Addr) (u : Str) (ts : Tabs), vs = [.ref p, .str u, .ref q] ∧ H p = some (.ins C dx []) ∧ TabsAt H q ts ∧ GoodTabs ts ∧ 1 ≤ ts.length ∧ ts.length ≤ 6 ∧ u ∈ ts.map (·.1) ∧
  ∀ H', ExO [p] H H' → SchAt C H' p u ts → Q .non H'
/-- a field of the schema is set -/
theorem Part.setF {C : Addr} {H : Hp} {p dc dl dx dx' : Addr} {cvs : List (Key × V)} {rs : Rows} {ts : Tabs} {fs fs' : List (Str × V)} (h : Part C H p dc dl cvs rs ts) (hp : H p = some (.ins C dx fs)) (hf : FsOk fs' dc dl) : Part C (L2.upd H p (.ins C dx' fs')) p dc dl cvs rs ts := by
  obtain ⟨_, h3, h4, h5, h6, h7, h8, h9, h10⟩ := h
  have st : ∀ {a : Addr} {u : HO}, H a = some u → u ≠ .ins C dx fs → (L2.upd H p (.ins C dx' fs')) a = some u := fun {a u} e n => by rw [upd_ne (ne_of e hp n)]; exact e
  refine ⟨⟨dx', fs', upd_same, hf⟩, st h3 (by intro z; cases z), paired_imp (fun kv t h => ?_) h4, st h5 (by intro z; cases z), fun r hr => ?_, h7, h8, h9, h10⟩
  · obtain ⟨g1, b, vs, g2, g3, g4⟩ := h
    refine ⟨g1, b, vs, g2, st g3 (by intro z; cases z), paired_imp (fun v c hc => ?_) g4⟩
    obtain ⟨x, e, hx⟩ := hc
    exact ⟨x, e, st hx (by intro z; cases z)⟩
  · obtain ⟨k, g1, g2⟩ := h6 r hr
    refine ⟨k, st g1 (by intro z; cases z), paired_imp (fun kv e h => ?_) g2⟩
    obtain ⟨g3, b, g4, g5⟩ := h
    exact ⟨g3, b, g4, st g5 (by intro z; cases z)⟩
theorem FsOk.put {fs : List (Str × V)} {dc dl : Addr} {f : Str} {y : V} (h : FsOk fs dc dl) (hf : f ∉ ("_columns" : Str) :: ("_lists" : Str) :: meths) : FsOk (putF f y fs) dc dl := by
  refine ⟨?_, ?_, fun m hm => ?_⟩
  · rw [lookup_putF, if_neg (show ¬ (("_columns" : Str) = f) from fun z => hf (by rw [← z]; exact List.mem_cons_self))]
    exact h.c
  · rw [lookup_putF, if_neg (show ¬ (("_lists" : Str) = f) from fun z => hf (by rw [← z]; exact List.mem_cons_of_mem _ List.mem_cons_self))]
    exact h.l
  · rw [lookup_putF, if_neg (show ¬ (m = f) from fun z => hf (by rw [← z]; exact List.mem_cons_of_mem _ (List.mem_cons_of_mem _ hm)))]
    exact h.no m hm
theorem keepT {p C dx : Addr} {H H' : Hp} {a : Addr} {ys : List V} (hp : H p = some (.ins C dx [])) (x : ExO [p] H H') (h : H a = some (.tup ys)) : H' a = some (.tup ys) := x _ _ h fun z => by rw [List.mem_singleton.mp z, hp] at h; cases h
theorem keepL {p C dx : Addr} {H H' : Hp} {a : Addr} {ys : List V} (hp : H p = some (.ins C dx [])) (x : ExO [p] H H') (h : H a = some (.lst ys)) : H' a = some (.lst ys) := x _ _ h fun z => by rw [List.mem_singleton.mp z, hp] at h; cases h
theorem keepC {p C dx : Addr} {H H' : Hp} {vs : List V} {cs : List Col} (hp : H p = some (.ins C dx [])) (x : ExO [p] H H') (h : ColsV H vs cs) : ColsV H' vs cs := paired_imp (fun v c ⟨b, ev, hb⟩ => ⟨b, ev, keepT hp x hb⟩) h
theorem ExO.over {o1 o2 : List Addr} {H H1 H2 : Hp} (a : ExO o1 H H1) (b : ExO o2 H1 H2) (h : ∀ x ∈ o2, H x = none) : ExO o1 H H2 := fun c o hc n => b c o (a c o hc n) fun z => by
  rw [h c z] at hc
  cases hc
/-- another dict changes -/
theorem Part.other {C : Addr} {H : Hp} {p dc dl a : Addr} {cvs kvs : List (Key × V)} {rs : Rows} {ts : Tabs} {o : HO} (h : Part C H p dc dl cvs rs ts) (ha : H a = some (.dK kvs)) (n : a ∉ rs.own dc dl) : Part C (L2.upd H a o) p dc dl cvs rs ts := by
  obtain ⟨⟨dx, fs, h1, h2⟩, h3, h4, h5, h6, h7, h8, h9, h10⟩ := h
  have n1 : dc ≠ a := fun z => n (by rw [← z]; exact List.mem_cons_self)
  have n2 : dl ≠ a := fun z => n (by rw [← z]; exact List.mem_cons_of_mem _ List.mem_cons_self)
  refine ⟨⟨dx, fs, by rw [upd_ne (ne_of h1 ha (by intro z; cases z))]; exact h1, h2⟩, by rw [upd_ne n1]; exact h3, paired_imp (fun _ _ => ColRow.put ha) h4, by rw [upd_ne n2]; exact h5, fun r hr => (h6 r hr).put ha fun z => n ?_, h7, h8, h9, h10⟩
  rw [← z]
  exact List.mem_cons_of_mem _ (List.mem_cons_of_mem _ (List.mem_map.mpr ⟨r, hr, rfl⟩))
theorem meets_none {m : List (Str × Bool)} {n : Str} (h : n ∉ m.map (·.1)) : valV (m.map fun e => ((Sum.inr e.1 : Key), V.bl e.2)) (Sum.inr n : Key) = none := by
  unfold valV
  rw [Option.map_eq_none_iff, List.find?_eq_none]
  intro kv hkv
  obtain ⟨e, he, rfl⟩ := List.mem_map.mp hkv
  simp only [decide_eq_true_eq]
  intro z
  exact h (List.mem_map.mpr ⟨e, he, Sum.inr.inj z⟩)
theorem tup_keys {H : Hp} {cvs : List (Key × V)} {ts : Tabs} (h : Paired (ColRow H) cvs ts) : (cvs.map fun kv => kV kv.1) = ts.map fun t => V.str t.1 := by
  induction h with
  | nil => rfl
  | cons h _ ih => rw [List.map_cons, List.map_cons, ih, h.1]; rfl
section
variable {base : Heap} {mg : Str → Option Value} {K : PySem.W.Frag} {w : World} {P : Program} {ra C : Addr}
theorem ok_init {f : Addr} {fd : FuncData} {mc : Value} (S : SchC K C) (M : Mk K C f) (F : C8.Fun K "__init__" "Schema.__init__" s_Schema___init__ f fd) (b : Binds K fd ["self", "user", "tables"] []) (B : Blt mg) (T : Cns K mg ra C) (hmC : mg "Schema" = some (.ref C))
    (c_is_name : SCal P w K mg base 3 C mc "is_name" (spAsk K (strD nameB))) (c___contains__ : C8.Met P w K mg base 1 C "__contains__" (spContains K C) []) (c__take_columns : C8.Met P w K mg base 6 C "_take_columns" (spTakeCols K C) [])
    (c__meets : C8.Cal P w K mg base 3 "_meets" (spMeets K) []) (c_write_lines : C8.Cal P w K mg base 4 "write_lines" spWriteLines []) :
    C8.Mak P w K mg base 7 "Schema" C (spInit C) [] := by
  have sc : FnScope ["self", "user", "tables", "meeting", "index", "name", "columns"] ["self", "user", "tables"] (C8.fnScope s_Schema___init__) := C8.fnScope_by (by decide +kernel)
  refine C8.mak0 M hmC F b .nil sc (fun vs H Q E h => ?_) (fun cdv A outer s H vs Q E hr h => ?_)
  · obtain ⟨_, _, _, _, _, rfl, _⟩ := h
    rfl
  · obtain ⟨p, q, dx, u, ts, rfl, hp, ⟨xs, hq, hx⟩, g, l1, l2, hu, k⟩ := h
    have lx := paired_len hx
    refine ⟨_, (pss_cons (ps_if (pt_not (pt_chain op_le op_le pe_int (pe_callB (call_len_seqK (K := K) rfl) (by rfl) B.len_ (by decide +kernel) (pa_cons (pv 2) pa_nil)) (C8.pe_gc rfl T.MOST_TABLES_)))
        (pss_one ps_never)
        pss_nil)
        (pss_cons (ps_fldK (K := K) rfl (pv 0) pe_dnewK rfl)
        (pss_cons (ps_fldK (K := K) rfl (pv 0) pe_dnewK rfl)
        (pss_cons (ps_set (i := 3) sc.nd rfl (Or.inl rfl) pe_dnewK)
        (pss_cons (ps_for PassesOwn.never rfl (pi_enumK (K := K) rfl (by rfl) B.enumerate_ (pa_cons (pv 2) pa_nil)) (pg_tupK (K := K) (n := 2) rfl rfl (pgs_cons (pg_name (i := 4) sc.nd rfl (Or.inl rfl)) (pgs_cons (pg_tupK (K := K) (n := 2) rfl rfl (pgs_cons (pg_name (i := 5) sc.nd rfl (Or.inl rfl)) (pgs_cons (pg_name (i := 6) sc.nd rfl (Or.inl rfl)) pgs_nil))) pgs_nil)))
        (pss_cons (ps_if (PW.pt (pw_or (pt_not (pt_val (pe_sm c_is_name hr (by decide) (C8.pe_gc rfl T.Schema_) (pa_cons (pv 5) pa_nil)))) (pw_or (pt_cmp (pc_din (hu_of hr) (pv 5) (pe_fldK (K := K) rfl (pv 0) rfl))) (pw_or1 (pt_cmpR op_gt (pe_callB (call_len_seqK (K := K) rfl) (by rfl) B.len_ (by decide +kernel) (pa_cons (pv 6) pa_nil)) (C8.pe_gc rfl T.MOST_COLUMNS_) (nomark _))))))
        (pss_one ps_never)
        pss_nil)
        (pss_cons (ps_expr (C8.pe_mt c__take_columns hr (by decide) (pv 0) (pa_cons (pv 4) (pa_cons (pv 5) (pa_cons (pv 6) pa_nil)))))
        (pss_one (ps_dput (hu_of hr) (pv 3) (pv 5) (C8.pe_c c__meets hr (by decide) rfl (pa_cons (pv 4) (pa_cons (pe_dget (hu_of hr) (pe_fldK (K := K) rfl (pv 0) rfl) (pv 5) (fun _ _ => rfl)) (pa_cons (pv 3) pa_nil)))) rfl)))))
        (pss_cons (ps_if (pt_cmpR (op_onin (dvs := []) c___contains__ hr (by decide)) (pv 1) (pv 0) (by rfl))
        (pss_one ps_never)
        pss_nil)
        (pss_cons (ps_fldK (K := K) rfl (pv 0) (pv 1) rfl)
        (pss_cons (ps_fldK (K := K) rfl (pv 0) (pe_callTy (call_tupD rfl) (by rfl) B.tuple_ (by decide +kernel) (pa_cons (pe_fldK (K := K) rfl (pv 0) rfl) pa_nil)) rfl)
        (pss_one (ps_fldK (K := K) rfl (pv 0) (C8.pe_c c_write_lines hr (by decide) rfl (pa_cons (pv 1) (pa_cons (pe_fldK (K := K) rfl (pv 0) rfl) pa_nil))) rfl)))))))))), ?_⟩
    walk_at "w"
    refine iteD (fun _ => ?_) (fun h => absurd (by omega) h)
    walk_at "w"
    refine iteND (fun h => absurd (by omega) h) (fun _ => ?_)
    walk_at "w"
    intro dc hdc
    have hp1 : (L2.upd H dc (.dK [])) p = some (.ins C dx []) := by rw [upd_ne (ne_of_none hp hdc)]; exact hp
    have hc1 : (L2.upd H dc (.dK [])) dc = some (.dK []) := upd_same
    have x1 : ExO [p] H (L2.upd H dc (.dK [])) := ExO.of (Ex.new hdc)
    generalize (L2.upd H dc (.dK [])) = H1 at hp1 hc1 x1 ⊢
    walk_at "w"
    refine w_kSfld hp1 S.cls S.columns_ (by decide) ?_
    have hp2 : (L2.upd H1 p (.ins C dx (putF "_columns" (.ref dc) []))) p = some (.ins C dx (putF "_columns" (.ref dc) [])) := upd_same
    have hc2 : (L2.upd H1 p (.ins C dx (putF "_columns" (.ref dc) []))) dc = some (.dK []) := by rw [upd_ne (ne_of hc1 hp1 (by intro z; cases z))]; exact hc1
    have x2 : ExO [p] H (L2.upd H1 p (.ins C dx (putF "_columns" (.ref dc) []))) := x1.put List.mem_cons_self
    generalize (L2.upd H1 p (.ins C dx (putF "_columns" (.ref dc) []))) = H2 at hp2 hc2 x2 ⊢
    have one : ∀ {a : Addr}, a ∈ [p] → ∀ {G : Hp}, G p = some (.ins C dx []) → ∃ o, G a = some o := fun h _ e => by rw [List.mem_singleton.1 h]; exact ⟨_, e⟩
    walk_at "w"
    intro dl hdl
    have cdl : dc ≠ dl := ne_of_none hc2 hdl
    have hdl0 : H dl = none := x2.back (fun a ha => by rw [List.mem_singleton.1 ha]; exact ⟨_, hp2⟩) hdl
    have hp3 : (L2.upd H2 dl (.dK [])) p = some (.ins C dx (putF "_columns" (.ref dc) [])) := by rw [upd_ne (ne_of_none hp2 hdl)]; exact hp2
    have hc3 : (L2.upd H2 dl (.dK [])) dc = some (.dK []) := by rw [upd_ne cdl]; exact hc2
    have hl3 : (L2.upd H2 dl (.dK [])) dl = some (.dK []) := upd_same
    have x3 : ExO [p] H (L2.upd H2 dl (.dK [])) := x2.mut hdl0
    generalize (L2.upd H2 dl (.dK [])) = H3 at hp3 hc3 hl3 x3 ⊢
    have f5 : FsOk (putF "_lists" (.ref dl) (putF "_columns" (.ref dc) [])) dc dl := by
      have nm : ∀ m ∈ meths, ¬ m = ("_lists" : Str) ∧ ¬ m = ("_columns" : Str) := by decide +kernel
      refine ⟨?_, ?_, fun m hm => ?_⟩
      · rw [lookup_putF, if_neg (by decide +kernel), lookup_putF, if_pos rfl]
      · rw [lookup_putF, if_pos rfl]
      · rw [lookup_putF, if_neg (nm m hm).1, lookup_putF, if_neg (nm m hm).2]
        rfl
    have ln2 : (putF "_columns" (.ref dc) ([] : List (Str × V))).length ≤ 1 := length_putF _ _ _
    have ln5 : (putF "_lists" (.ref dl) (putF "_columns" (.ref dc) ([] : List (Str × V)))).length ≤ 2 := Nat.le_trans (length_putF _ _ _) (Nat.succ_le_succ ln2)
    walk_at "w"
    refine w_kSfld hp3 S.cls S.lists_ (by omega) ?_
    generalize (putF "_lists" (.ref dl) (putF "_columns" (.ref dc) [])) = fs at f5 ln5 ⊢
    have hp4 : (L2.upd H3 p (.ins C dx fs)) p = some (.ins C dx fs) := upd_same
    have hc4 : (L2.upd H3 p (.ins C dx fs)) dc = some (.dK []) := by rw [upd_ne (ne_of hc3 hp3 (by intro z; cases z))]; exact hc3
    have hl4 : (L2.upd H3 p (.ins C dx fs)) dl = some (.dK []) := by rw [upd_ne (ne_of hl3 hp3 (by intro z; cases z))]; exact hl3
    have x4 : ExO [p] H (L2.upd H3 p (.ins C dx fs)) := x3.put List.mem_cons_self
    generalize (L2.upd H3 p (.ins C dx fs)) = H4 at hp4 hc4 hl4 x4 ⊢
    walk_at "w"
    intro dm hdm
    have cdm : dc ≠ dm := ne_of_none hc4 hdm
    have ldm : dl ≠ dm := ne_of_none hl4 hdm
    have hdm0 : H dm = none := x4.back (fun a ha => by rw [List.mem_singleton.1 ha]; exact ⟨_, hp4⟩) hdm
    have e5 : Ex H4 (L2.upd H4 dm (.dK [])) := Ex.new hdm
    have hm5 : (L2.upd H4 dm (.dK [])) dm = some (.dK []) := upd_same
    have x5 : ExO [p] H (L2.upd H4 dm (.dK [])) := x4.mut hdm0
    generalize (L2.upd H4 dm (.dK [])) = H5 at e5 hm5 x5 ⊢
    have P5 : Part C H5 p dc dl [] [] [] := ⟨⟨dx, fs, e5 _ _ hp4, f5⟩, e5 _ _ hc4, .nil, e5 _ _ hl4, fun _ h => absurd h List.not_mem_nil, List.nodup_nil, cdl, fun _ h => absurd h List.not_mem_nil, List.nodup_nil⟩
    have hq5 : SqL K H5 q xs := SqL.of (x5 _ _ hq fun z => by rw [List.mem_singleton.mp z, hp] at hq; cases hq)
    walk_at "w"
    refine loopE (xs := xs) (fun d r σ' H' => ∃ x4 x5 x6 td tr cvs rs, σ' = [some (.ref p), some (.str u), some (.ref q), some (.ref dm), x4, x5, x6] ∧ ts = td ++ tr ∧ Paired (TabAt H) r tr ∧ Part C H' p dc dl cvs rs td ∧ rs.mir = mirOf td ∧ Meets H' dm (meetMap td) ∧ ExO [p] H H' ∧ H' p = some (.ins C dx fs) ∧
        (∀ r ∈ rs, H r.2.1 = none ∧ r.2.1 ≠ dm ∧ r.2.2.length ≤ 6 * td.length)) ⟨_, _, _, [], ts, [], [], rfl, rfl, hx, P5, rfl, hm5, x5, e5 _ _ hp4, fun _ h => absurd h List.not_mem_nil⟩ (fun d r σ' H' e h => ?_) (fun d y r σ' H' Tp e hTp h => ?_) (fun σ' H' h => ?_)
    · obtain ⟨_, _, _, _, _, _, _, _, _, _, _, _, _, x, _, _⟩ := h
      exact SqL.of (keepL hp x hq)
    · obtain ⟨x4, x5', x6, td, tr, cvs, rs, rfl, et, hr0, hP, hmi, hme, hO, hpf, hrs⟩ := h
      obtain ⟨t, tr', rfl, hy, hr1⟩ := paired_cons hr0
      obtain ⟨g1, g2, g3, g4⟩ := g.split td t tr' et
      obtain ⟨ya, pp, rfl, hya, vs, hpp, hcs⟩ := hy
      have hT1 : (L2.upd H' Tp (.tup [.int (d.length : Nat), .ref ya])) Tp = some (.tup [.int (d.length : Nat), .ref ya]) := upd_same
      have eT : Ex H' (L2.upd H' Tp (.tup [.int (d.length : Nat), .ref ya])) := Ex.new hTp
      generalize (L2.upd H' Tp (.tup [.int (d.length : Nat), .ref ya])) = H1 at hT1 eT ⊢
      have hO1 : ExO [p] H H1 := hO.trans (.of eT)
      have hP1 := hP.ext eT
      have hme1 : H1 dm = _ := eT _ _ hme
      obtain ⟨⟨dx1, fs1, i1, i2⟩, _, _, _, _, _, _, _, _⟩ := id hP1
      have hya1 := keepT hp hO1 hya
      have hpp1 : H1 pp = some (.lst vs) := keepL hp hO1 hpp
      have hpL : SqL K H1 pp vs := SqL.of hpp1
      have hcs1 : ColsV H1 vs t.2 := keepC hp hO1 hcs
      have lv := paired_len hcs1
      have few := g4.few
      walk_at "w"
      refine ⟨_, .str t.1, rfl, .str _, (fun y e => by cases e; exact Nat.le_trans g2.short (by decide)), ?_⟩
      rw [show strD nameB (.str t.1) = true from (nameB_iff _).mpr g2]
      walk_at "w"
      refine w_kFld i1 S.cls S.columns_ i2.c ?_
      refine w_kI2 hP1.hdc ?_
      rw [hP1.has, decide_eq_false g3]
      walk_at "w"
      refine iteD (fun h => absurd h (by omega)) (fun _ => ?_)
      walk_at "w"
      refine w_kMeth i1 (i2.no _ (by decide +kernel)) ?_
      walk_at "w"
      have mk : rs.mir.map (·.1) = td.map (·.1) := by rw [hmi]; exact mirOf_key g1
      have ltd : td.length ≤ 6 := by rw [et, List.length_append] at l2; omega
      have hown : ∀ a ∈ rs.own dc dl, H a = none := fun a ha => by
        rcases List.mem_cons.1 ha with rfl | ha
        · exact hdc
        · rcases List.mem_cons.1 ha with rfl | ha
          · exact hdl0
          · obtain ⟨r0, hr0, rfl⟩ := List.mem_map.mp ha
            exact (hrs r0 hr0).1
      have dmo : dm ∉ rs.own dc dl := fun ha => by
        rcases List.mem_cons.1 ha with z | ha
        · exact cdm z.symm
        · rcases List.mem_cons.1 ha with z | ha
          · exact ldm z.symm
          · obtain ⟨r0, hr0, z⟩ := List.mem_map.mp ha
            exact (hrs r0 hr0).2.1 z
      refine ⟨p, pp, _, t.1, vs, t.2, dc, dl, cvs, rs, td, rfl, hP1, hpp1, hcs1, by omega, by omega, g3, mk, fun r hr => by have := (hrs r hr).2.2; omega, by rw [hmi]; exact good_colsIn g1 g4, fun T D H3 hD hO3 hP3 => ?_⟩
      have hme3 : H3 dm = some (.dK ((meetMap td).map fun e => ((Sum.inr e.1 : Key), V.bl e.2))) := hO3 _ _ hme1 dmo
      have hp3' : H3 p = some (.ins C dx fs) := hO3 _ _ (eT _ _ hpf) fun z => by rw [hown p z] at hp; cases hp
      have hOO3 : ExO [p] H H3 := hO1.over hO3 hown
      have hD0 : H D = none := hO1.back (fun a ha => by rw [List.mem_singleton.1 ha]; exact ⟨_, i1⟩) hD
      have Ddm : D ≠ dm := fun z => by rw [z, hme1] at hD; cases hD
      obtain ⟨⟨dx3, fs3, j1, j2⟩, k3, _, _, _, _, _, _, _⟩ := id hP3
      have lk : (td ++ [(t.1, t.2)]).lookup t.1 = some t.2 := lookup_mem (l := td ++ [(t.1, t.2)]) (e := t) (by
        have := g.nodup
        rw [et] at this
        have e2 : td ++ t :: tr' = (td ++ [(t.1, t.2)]) ++ tr' := by simp
        rw [e2, List.map_append] at this
        exact (List.nodup_append.mp this).1) (by simp)
      obtain ⟨ca, cvals, c1, c2, c3⟩ := hP3.cget lk
      walk_at "w"
      refine w_kFld j1 S.cls S.columns_ j2.c ?_
      walk_at "w"
      refine w_kG k3 c1 ?_
      walk_at "w"
      refine ⟨_, ca, dm, cvals, t.2, meetMap td, rfl, c2, c3, by omega, g4.ok g1, hme3, good_targets g4.toPreCols, good_rule g4, fun H4 e4 => ?_⟩
      walk_at "w"
      have hm4 := e4 _ _ hme3
      have lm : (meetMap td).length = td.length := by have := congrArg List.length (meetMap_keys td); simpa using this
      refine ⟨dm, _, rfl, DPut.k (k := Sum.inr t.1) hm4 (Nat.lt_of_le_of_lt (m := 6) (by rw [List.length_map]; omega) (by decide)), ?_⟩
      rw [putK_new (meets_none (by rw [meetMap_keys]; exact g3))]
      have P4 := hP3.ext e4
      have ek : ((meetMap td).map fun e => ((Sum.inr e.1 : Key), V.bl e.2)) ++ [(Sum.inr t.1, V.bl (meetOf (meetMap td) t.2))] = (meetMap (td ++ [(t.1, t.2)])).map fun e => ((Sum.inr e.1 : Key), V.bl e.2) := by
        rw [meetMap_snoc, List.map_append]
        rfl
      rw [ek]
      have adr : ∀ r ∈ t.2.foldl (rsAdd t.1) rs ++ [(t.1, D, [])], H r.2.1 = none ∧ r.2.1 ≠ dm ∧ r.2.2.length ≤ 6 * (td ++ [(t.1, t.2)]).length := fun r hr => by
        rw [List.length_append,
                List.length_singleton]
        rcases List.mem_append.1 hr with hr | hr
        · have a1 : r.2.1 ∈ rs.map fun r => r.2.1 := by
            rw [← foldl_adr t.1 t.2 rs]
            exact List.mem_map.mpr ⟨r, hr, rfl⟩
          obtain ⟨r0, h0, e0⟩ := List.mem_map.mp a1
          have a2 := foldl_lens t.1 t.2 rs (6 * td.length) (fun r hr => (hrs r hr).2.2) r hr
          rw [← e0]
          exact ⟨(hrs r0 h0).1, (hrs r0 h0).2.1, by omega⟩
        · rw [List.mem_singleton.1 hr]
          exact ⟨hD0, Ddm, Nat.zero_le _⟩
      have dm4 : dm ∉ Rows.own dc dl (t.2.foldl (rsAdd t.1) rs ++ [(t.1, D, [])]) := fun ha => by
        rcases List.mem_cons.1 ha with z | ha
        · exact cdm z.symm
        · rcases List.mem_cons.1 ha with z | ha
          · exact ldm z.symm
          · obtain ⟨r0, hr0, z⟩ := List.mem_map.mp ha
            exact (adr r0 hr0).2.1 z
      exact ⟨_, _, _, td ++ [(t.1, t.2)], tr', cvs ++ [(.inr t.1, .ref T)], _, rfl, by rw [et]; simp, hr1, P4.other hm4 dm4, by rw [mirOf_snoc]; unfold Rows.mir; rw [List.map_append]; show (t.2.foldl (rsAdd t.1) rs).mir ++ _ = _; rw [foldl_mir, hmi]; rfl, upd_same, (hOO3.trans (.of e4)).mut hdm0, by rw [upd_ne (ne_of (e4 _ _ hp3') hm4 (by intro z; cases z))]; exact e4 _ _ hp3', adr⟩
    · obtain ⟨x4, x5', x6, td, tr, cvs, rs, rfl, et, hr0, hP, hmi, hme, hO, hpf, hrs⟩ := h
      cases hr0
      rw [List.append_nil] at et
      subst et
      obtain ⟨_, k1, k2, _, _, _, _, _, _⟩ := id hP
      walk_at "w"
      refine w_ownIn hpf ?_
      refine ⟨p, _, .str u, dc, dl, cvs, rs, ts, rfl, hP, .str u, ?_⟩
      rw [show strD (fun n => decide (n ∈ ts.map (·.1))) (.str u) = true from decide_eq_true hu]
      refine ⟨true, rfl, ?_⟩
      refine ⟨false, rfl, iteF ?_⟩
      walk_at "w"
      refine w_kSfld hpf S.cls S.user_ (by omega) ?_
      have ln6 : (putF "user" (.str u) fs).length ≤ 3 := Nat.le_trans (length_putF _ _ _) (Nat.succ_le_succ ln5)
      have f6 : FsOk (putF "user" (.str u) fs) dc dl := f5.put (by decide +kernel)
      have u6 : (putF "user" (.str u) fs).lookup ("user" : Str) = some (.str u) := by rw [lookup_putF, if_pos rfl]
      have P6 : Part C (L2.upd H' p (.ins C dx (putF "user" (.str u) fs))) p dc dl cvs rs ts := hP.setF hpf f6
      have O6 : ExO [p] H (L2.upd H' p (.ins C dx (putF "user" (.str u) fs))) := hO.put List.mem_cons_self
      have p6 : (L2.upd H' p (.ins C dx (putF "user" (.str u) fs))) p = some (.ins C dx (putF "user" (.str u) fs)) := upd_same
      generalize (L2.upd H' p (.ins C dx (putF "user" (.str u) fs))) = H6 at P6 O6 p6 ⊢
      generalize (putF "user" (.str u) fs) = fs6 at ln6 f6 u6 p6 ⊢
      walk_at "w"
      refine w_kFld p6 S.cls S.columns_ f6.c ?_
      walk_at "w"
      refine ⟨dc, cvs, rfl, .inl P6.hdc, fun tt htt => ?_⟩
      rw [tup_keys P6.cols]
      have e7 : Ex H6 (L2.upd H6 tt (.tup (ts.map fun t => V.str t.1))) := Ex.new htt
      have t7 : (L2.upd H6 tt (.tup (ts.map fun t => V.str t.1))) tt = some (.tup (ts.map fun t => V.str t.1)) := upd_same
      generalize (L2.upd H6 tt (.tup (ts.map fun t => V.str t.1))) = H7 at e7 t7 ⊢
      walk_at "w"
      have p7 := e7 _ _ p6
      refine w_kSfld p7 S.cls S.tables_ (by omega) ?_
      have ln8 : (putF "tables" (.ref tt) fs6).length ≤ 4 := Nat.le_trans (length_putF _ _ _) (Nat.succ_le_succ ln6)
      have f8 : FsOk (putF "tables" (.ref tt) fs6) dc dl := f6.put (by decide +kernel)
      have u8 : (putF "tables" (.ref tt) fs6).lookup ("user" : Str) = some (.str u) := by rw [lookup_putF, if_neg (by decide +kernel)]; exact u6
      have t8 : (putF "tables" (.ref tt) fs6).lookup ("tables" : Str) = some (.ref tt) := by rw [lookup_putF, if_pos rfl]
      have P8 : Part C (L2.upd H7 p (.ins C dx (putF "tables" (.ref tt) fs6))) p dc dl cvs rs ts := (P6.ext e7).setF p7 f8
      have O8 : ExO [p] H (L2.upd H7 p (.ins C dx (putF "tables" (.ref tt) fs6))) := (O6.trans (.of e7)).put List.mem_cons_self
      have p8 : (L2.upd H7 p (.ins C dx (putF "tables" (.ref tt) fs6))) p = some (.ins C dx (putF "tables" (.ref tt) fs6)) := upd_same
      have tt8 : (L2.upd H7 p (.ins C dx (putF "tables" (.ref tt) fs6))) tt = some (.tup (ts.map fun t => V.str t.1)) := by rw [upd_ne (ne_of t7 p7 (by intro z; cases z))]; exact t7
      generalize (L2.upd H7 p (.ins C dx (putF "tables" (.ref tt) fs6))) = H8 at P8 O8 p8 tt8 ⊢
      generalize (putF "tables" (.ref tt) fs6) = fs8 at ln8 f8 u8 t8 p8 ⊢
      walk_at "w"
      refine w_kFld p8 S.cls S.columns_ f8.c ?_
      walk_at "w"
      refine ⟨u, dc, cvs, ts, rfl, P8.hdc, P8.cols, ?_, by omega, g.nodup, good_sz g, fun ll H9 e9 hll => ?_⟩
      · obtain ⟨t, h1, h2⟩ := List.mem_map.mp hu
        rw [← h2]
        exact Nat.le_trans (g.names t h1).short (by decide)
      · walk_at "w"
        have p9 := e9 _ _ p8
        refine w_kSfld p9 S.cls S.lines_ (by omega) ?_
        have f10 : FsOk (putF "_lines" (.ref ll) fs8) dc dl := f8.put (by decide +kernel)
        refine k _ ((O8.trans (.of e9)).put List.mem_cons_self) ⟨dc, dl, cvs, rs, dx, _, tt, ll, (P8.ext e9).setF p9 f10, hmi, upd_same, f10, ?_, ?_, ?_, ?_, ?_⟩
        · rw [lookup_putF, if_neg (by decide +kernel)]; exact u8
        · rw [lookup_putF, if_neg (by decide +kernel)]; exact t8
        · rw [upd_ne (ne_of (e9 _ _ tt8) p9 (by intro z; cases z))]; exact e9 _ _ tt8
        · rw [lookup_putF, if_pos rfl]
        · rw [upd_ne (ne_of hll p9 (by intro z; cases z))]; exact hll
end
end LP
namespace LP
open PySem L2
open Evl (Ex)
section
variable {base : Heap} {mg : Str → Option Value} {K : PySem.W.Frag} {w : World} {P : Program} {C CN fI : Addr} {fdI : FuncData}
theorem ok_noname {f : Addr} {fd : FuncData} (T : OexL K CN) (n : NoAttr K CN "name") (F : C8.Fun K "__init__" "NoName.__init__" s_NoName___init__ f fd) (b : Binds K fd ["self", "name"] []) :
    FnOk P w K mg base C8.CX0 1 f fd ["self", "name"] (spExI CN "name") := by
  have sc : FnScope ["self", "name"] ["self", "name"] (C8.fnScope s_NoName___init__) := C8.fnScope_by (by decide +kernel)
  refine C8.fn0 F sc (fun vs H Q E h => ?_) (fun cdv A outer s H vs Q E hr h => ?_)
  · obtain ⟨_, _, rfl, _⟩ := h
    rfl
  · obtain ⟨a, v, rfl, ha, k⟩ := h
    refine ⟨_, (pss_one (ps_ostL (K := K) rfl (pv 0) (pv 1) rfl)), ?_⟩
    walk_at "w"
    exact ⟨a, CN, rfl, T, n, ha, k⟩
/-- what a def wishes that may refuse a name -/
def NoN (CN : Addr) (v : V) (H : Hp) (E : XK) : Prop := ∀ (dd : Addr) (H' : Hp), Ex H H' → H' dd = some (.xd [("name", v)]) → E (.ref CN) (some dd) H'
def spColumns (K : PySem.W.Frag) (C CN : Addr) : Sp := fun vs H Q E => ∃ (p : Addr) (v : V) (d : PyData) (u : Str) (ts : Tabs), vs = [.ref p, v] ∧ SchAt C H p u ts ∧ Dp K H v d ∧
  ((∃ n cs, d = .str n ∧ ts.lookup n = some cs ∧ ∀ a xs, H a = some (.tup xs) → ColsV H xs cs → Q (.ref a) H) ∨ (strD (fun n => decide (n ∈ ts.map (·.1))) d = false ∧ NoN CN v H E))
theorem raised {H : Hp} {CN : Addr} {v : V} {E : XK} (k : NoN CN v H E) (a : Addr) (ha : H a = none) : spExI CN "name" [.ref a, v] (upd H a (exo a CN none))
    (fun x H2 => x = .non ∧ ∃ (d : Addr) (fs : List (Str × V)), H2 a = some (exo a CN (some d)) ∧ H2 d = some (exd d fs) ∧ H d = none ∧ E (.ref CN) (some d) (upd (L2.del H2 a) d (.xd fs))) (fun _ _ _ => False) := by
  refine ⟨a, v, rfl, upd_same, fun dx hdx ne => ⟨rfl, dx, _, upd_same, by rw [upd_ne ne]; exact upd_same, ?_, ?_⟩⟩
  · rw [upd_ne ne] at hdx
    exact hdx
  · rw [upd_ne ne] at hdx
    refine k dx _ (fun b o hb => ?_) upd_same
    have b1 : b ≠ dx := ne_of_none hb hdx
    have b2 : b ≠ a := ne_of_none hb ha
    rw [upd_ne b1, L2.del_ne b2, upd_ne b2, upd_ne b1, upd_ne b2]
    exact hb
theorem ok_columns {f : Addr} {fd : FuncData} (S : SchC K C) (F : C8.Fun K "columns" "Schema.columns" s_Schema_columns f fd) (B : Blt mg) (NX : ExC P w K mg base "NoName" CN fI fdI ["self", "name"] 1 (spExI CN "name"))
    (c___contains__ : C8.Met P w K mg base 1 C "__contains__" (spContains K C) []) : FnOk P w K mg base (L2.CX P w) 3 f fd ["self", "table"] (spColumns K C CN) := by
  have sc : FnScope ["self", "table"] ["self", "table"] (C8.fnScope s_Schema_columns) := C8.fnScope_by (by decide +kernel)
  refine fnX F sc (fun vs H Q E h => ?_) (fun cdv A outer s H vs Q E hr h => ?_)
  · obtain ⟨_, _, _, _, _, rfl, _⟩ := h
    rfl
  · obtain ⟨p, v, d, u, ts, rfl, hS, hd, k⟩ := h
    obtain ⟨dc, dl, cvs, rs, dx, fs, tt, ll, hP, hm, hp, hf, _⟩ := hS.ex
    refine ⟨_, (pss_cons (ps_if (pt_cmpR (op_onin (dvs := []) c___contains__ hr (by decide)) (pv 1) (pv 0) (by rfl))
        (pss_one (ps_raiseL rfl (takes_of rfl rfl rfl rfl) (pmk_L NX.T NX.iC NX.tI NX.F (hr.mono (by decide)) NX.b (by rfl) NX.mgC (pa_cons (pv 1) pa_nil))))
        pss_nil)
        (pss_one (ps_ret (pe_dget (hu_of hr) (pe_fldK (K := K) rfl (pv 0) rfl) (pv 1) (fun _ _ => rfl))))), ?_⟩
    walk_at "w"
    refine w_ownIn hp ?_
    refine ⟨p, v, d, dc, dl, cvs, rs, ts, rfl, hP, hd, ?_⟩
    rcases k with ⟨n, cs, rfl, hl, k⟩ | ⟨hno, k⟩
    · rw [show strD (fun n => decide (n ∈ ts.map (·.1))) (.str n) = true from decide_eq_true (List.mem_map.mpr ⟨_, PySem.mem_of_lookup hl, rfl⟩)]
      cases hd
      refine ⟨true, rfl, false, rfl, iteF ?_⟩
      walk_at "w"
      refine w_kFld hp S.cls S.columns_ hf.c ?_
      walk_at "w"
      obtain ⟨ca, cvals, g1, g2, g3⟩ := hP.cget hl
      refine w_kG hP.hdc g1 ?_
      exact k ca cvals g2 g3
    · rw [hno]
      refine ⟨false, rfl, true, rfl, iteT ?_⟩
      walk_at "w"
      exact ⟨by simp, fun a ha => raised k a ha⟩
def spLists (K : PySem.W.Frag) (C CN : Addr) : Sp := fun vs H Q E => ∃ (p : Addr) (v : V) (d : PyData) (u : Str) (ts : Tabs), vs = [.ref p, v] ∧ SchAt C H p u ts ∧ Dp K H v d ∧
  ((∃ n ls, d = .str n ∧ n ∈ ts.map (·.1) ∧ (mirOf ts).lookup n = some ls ∧ ∀ D H', H D = none → Ex H H' → ListRow H' D ls → Q (.ref D) H') ∨ (strD (fun n => decide (n ∈ ts.map (·.1))) d = false ∧ NoN CN v H E))
theorem ok_lists {f : Addr} {fd : FuncData} (S : SchC K C) (F : C8.Fun K "lists" "Schema.lists" s_Schema_lists f fd) (B : Blt mg) (NX : ExC P w K mg base "NoName" CN fI fdI ["self", "name"] 1 (spExI CN "name"))
    (c___contains__ : C8.Met P w K mg base 1 C "__contains__" (spContains K C) []) : FnOk P w K mg base (L2.CX P w) 3 f fd ["self", "table"] (spLists K C CN) := by
  have sc : FnScope ["self", "table"] ["self", "table"] (C8.fnScope s_Schema_lists) := C8.fnScope_by (by decide +kernel)
  refine fnX F sc (fun vs H Q E h => ?_) (fun cdv A outer s H vs Q E hr h => ?_)
  · obtain ⟨_, _, _, _, _, rfl, _⟩ := h
    rfl
  · obtain ⟨p, v, d, u, ts, rfl, hS, hd, k⟩ := h
    obtain ⟨dc, dl, cvs, rs, dx, fs, tt, ll, hP, hm, hp, hf, _⟩ := hS.ex
    refine ⟨_, (pss_cons (ps_if (pt_cmpR (op_onin (dvs := []) c___contains__ hr (by decide)) (pv 1) (pv 0) (by rfl))
        (pss_one (ps_raiseL rfl (takes_of rfl rfl rfl rfl) (pmk_L NX.T NX.iC NX.tI NX.F (hr.mono (by decide)) NX.b (by rfl) NX.mgC (pa_cons (pv 1) pa_nil))))
        pss_nil)
        (pss_one (ps_ret (pe_callTy call_dictD' (by rfl) B.dict_ (by decide +kernel) (pa_cons (pe_dget (hu_of hr) (pe_fldK (K := K) rfl (pv 0) rfl) (pv 1) (fun _ _ => rfl)) pa_nil))))), ?_⟩
    walk_at "w"
    refine w_ownIn hp ?_
    refine ⟨p, v, d, dc, dl, cvs, rs, ts, rfl, hP, hd, ?_⟩
    rcases k with ⟨n, ls, rfl, hn, hl, k⟩ | ⟨hno, k⟩
    · rw [show strD (fun n => decide (n ∈ ts.map (·.1))) (.str n) = true from decide_eq_true hn]
      cases hd
      refine ⟨true, rfl, false, rfl, iteF ?_⟩
      walk_at "w"
      refine w_kFld hp S.cls S.lists_ hf.l ?_
      walk_at "w"
      obtain ⟨la, l1, l2⟩ := rows_get (rs := rs) (by rw [hm]; exact hl)
      refine w_kG hP.hdl l1 ?_
      obtain ⟨kvs, m1, m2⟩ := hP.lst _ l2
      walk_at "w"
      have m1 : H la = some (.dK kvs) := m1
      have fin : ∀ D, H D = none → Q (.ref D) (L2.upd H D (.dK kvs)) := fun D hD => k D _ hD (Ex.new hD) ⟨kvs, upd_same, paired_imp (fun _ _ => ListEnt.ext (Ex.new hD)) m2⟩
      exact ⟨la, kvs, rfl, .inl m1, fin⟩
    · rw [hno]
      refine ⟨false, rfl, true, rfl, iteT ?_⟩
      walk_at "w"
      exact ⟨by simp, fun a ha => raised k a ha⟩
end
end LP
namespace LP
open PySem L2
open Evl (Ex)
open LamX (GivesTo CodeO)
/-- what the law's own names of classes hold -/
structure LawC (K : PySem.W.Frag) (mg : Str → Option Value) (CN NR LE : Addr) : Prop where
  mgN : mg "NoName" = some (.ref CN)
  NoRow_ : ∃ u, mg "NoRow" = some u ∧ RelV (.ref NR) u
  ListandpageError_ : ∃ u, mg "ListandpageError" = some u ∧ RelV (.ref LE) u
  lk_ : mg "LookupError" = none
  ex : ExcK K CN
  xf : XfC K CN
  nn : PySem.W.findIn K (.ref CN) "name" = some none
  k1 : PySem.W.kitAny K (.ref CN) [.ref NR, .ref LE] = some false
  k2 : PySem.W.kitOne K (.ref CN) (.type "LookupError") = some true
  m1 : PySem.W.exmOne K (.ref CN) (.ref CN) = some true
/-- what _law_error makes of what it calls -/
def TTerr (CN : Addr) : (XK → Hp → VK → Prop) → Hp → VK → Prop := fun tl H Q =>
  tl (fun cls d H' => cls = .ref CN ∧ ∃ (dd : Addr) (v : V), d = some dd ∧ H' dd = some (.xd [("name", v)]) ∧ ∀ T H'', Ex H' H'' → H'' T = some (.tup [.str "name", v]) → Q (.ref T) H'') H fun _ H' => Q .non H'
end LP
namespace LP
open PySem L2
open Evl (Ex)
open LamX (GivesTo CodeO TabS Tabs ExtN TabB LamS lamEnv lamCx tLam)
/-- a def, its code object at c -/
structure FunC (K : PySem.W.Frag) (x qual : Str) (st : Stmt) (f : Addr) (fd : FuncData) (c : Addr) : Prop where
  ex : ∃ (oc : Value) (od : Option Addr) (dV kV doc pm : Value) (an : Option Addr) (ct : Value) (osl : Array (Option Value)),
    fd = PySem.W.fnOf x qual (C8.fnArgs st) (C8.fnBody st) (C8.fnScope st) dV kV doc pm an (.ref c) ct ∧ K.lookup f = some ⟨oc, od, .func fd, osl⟩ ∧ PySem.W.codeIn K (.ref c) qual = true
theorem fnC {P : Program} {w : World} {K : PySem.W.Frag} {mg : Str → Option Value} {base : Heap} {x qual : Str} {st : Stmt} {f c : Addr} {fd : FuncData} {N ps : List Str} {k : Nat} {sp : Sp} (F : FunC K x qual st f fd c) (S : FnScope N ps (C8.fnScope st)) (len : ∀ vs H Q E, sp vs H Q E → vs.length = ps.length)
    (hb : ∀ (A : Around) (outer : List Env) (s : Shared) (H : Hp) (vs : List V) (Q : VK) (E : XK), Room k (A.deeper (PyProof.Rows.envOfC qual (C8.fnScope st) s.heap.objs.size f (.ref c))) → sp vs H Q E →
      ∃ t, PSs (cxOf C8.CX0 P w K mg base N qual (C8.fnScope st) f (.ref c) A outer s H E).nox (C8.fnBody st) t ∧ t { nx := fun _ H' => Q .non H', rt := Q } (L2.start N vs) H) : FnOk P w K mg base C8.CX0 (k + 1) f fd ps sp := by
  obtain ⟨oc, od, dV, kV, doc, pm, an, ct, osl, rfl, lk, hcd⟩ := F.ex
  refine fn_of lk hcd S len fun A outer s H vs Q E hr hsp => ?_; obtain ⟨t, h, q⟩ := hb A outer s H vs Q E hr hsp
  exact ⟨t, h.nox, q⟩
/-- a method that may raise -/
structure MetX (P : Program) (w : World) (K : PySem.W.Frag) (mg : Str → Option Value) (base : Heap) (k : Nat) (C : Addr) (m : Str) (sp : Sp) : Prop where
  ex : ∃ (f : Addr) (fd : FuncData) (ps : List Str), Cls K C ∧ Meth K C m f ∧ FnOk P w K mg base (L2.CX P w) k f fd ps sp ∧ Binds K fd ps []
theorem passF {X : Cx} : Passes (L2.CX X.prog X.w) X (fun _ _ _ => False) := fun _ _ _ _ _ _ _ h => by
  obtain ⟨_,
          _, _, _, _, _, _, _, _, _, _, _, z⟩ := h
  exact z.elim
theorem pe_mx {X : Cx} {k j : Nat} {C : Addr} {m : Str} {sp : Sp} {E : XK} {o e : Expr} {es : List Expr} {pos apos : Pos} {ta : TE} {t : TA} {pl : Sem Bool} (c : MetX X.prog X.w X.K X.mg X.base k C m sp) (hr : Room j X.A) (hk : k ≤ j) (hx : Passes (L2.CX X.prog X.w) X E) (he : PE X o ta) (ha : PA X (e :: es) t)
    (hst : starEach
            (e :: es) X.env = (false, eval e X.env) :: starEach es X.env := by rfl) (hpl : (backTo pos (starEach es X.env)).any (·.1) = false := by rfl)
    (ht : eval (.Call (.Attribute o m apos) (e :: es) [] pos) X.env = (do let ov ← eval o X.env; standAt apos.atName; let (f, first) ← holding [ov] (getMethod ov m pl); callWith pos f first (backTo pos (starEach (e :: es) X.env)) (backToKw pos (keywordEach [] X.env))) := by rfl) :
    PE X (.Call (.Attribute o m apos) (e :: es) [] pos) (tMeth C m sp [] E ta t) := by
  obtain ⟨f, fd, ps, hc, hm, F, b⟩ := c.ex
  exact pe_meth (pl := pl) he hc hm F (hr.mono hk) b .nil hx ha hst hpl ht
/-- the heap without the tables of code objects -/
def noT (H : Hp) : Hp := fun a => match H a with
  | some (.tbl _) => none
  | o => o
theorem noT_ex {H : Hp} : Ex (noT H) H := fun a o h => by
  unfold noT at h
  split at h
  · cases h
  · exact h
theorem noT_some {H : Hp} {a : Addr} {o : HO} (h : noT H a = some o) : ∀ ps, o ≠ .tbl ps := fun ps z => by
  subst z
  have e := noT_ex a _ h
  unfold noT at h
  rw [e] at h
  cases h
theorem noT_of {H : Hp} {a : Addr} {o : HO} (h : H a = some o) (n : ∀ ps, o ≠ .tbl ps) : noT H a = some o := by
  unfold noT
  split
  · rename_i ps e
    rw [e] at h
    cases h
    exact absurd rfl (n ps)
  · exact h
theorem noT_ext {H H' : Hp} (e : ExtN H H') : Ex (noT H) (noT H') := fun a o h => noT_of (e a o (noT_ex a o h) (noT_some h)) (noT_some h)
theorem noT_mono {H H' : Hp} (e : Ex H H') : Ex (noT H) (noT H') := noT_ext (LamX.ExtN.of e)
end LP
namespace LP
open PySem.Spec PyProof.Rows PySem L2
/-! ### defs told by their statements -/
def dn (x : Str) (st : Stmt) : He.DefD := ⟨(x, none), x, x, C8.fnArgs st, C8.fnBody st, C8.fnScope st, [], []⟩
def dm (C m q : Str) (st : Stmt) : He.DefD := ⟨(C, some m), m, q, C8.fnArgs st, C8.fnBody st, C8.fnScope st, [], []⟩
theorem told_fun {K : PySem.W.Frag} {x q : Str} {st : Stmt} {f : Addr} {fd : FuncData} (F : FunD K x q (C8.fnArgs st) (C8.fnBody st) (C8.fnScope st) [] [] f fd) : C8.Fun K x q st f fd ∧ fd.defaults = .none := by
  obtain ⟨oc, od, dV, kV, doc, pm, an, cdv, ct, osl, e, lk, hc, hd, _⟩ := F.ex
  refine ⟨⟨oc, od, dV, kV, doc, pm, an, cdv, ct, osl, e, lk, hc⟩, ?_⟩
  rcases hd with ⟨_, z⟩ | ⟨z, _⟩
  · rw [e]
    exact z
  · exact absurd rfl z
section
variable {fa : List He.Fa} {fn : List He.DefD} {K : PySem.W.Frag} {h : Heap} {mg : Str → Option Value}
theorem told_def (c : He.SaysD fa fn K) (i : Nat) {x : Str} {st : Stmt} (hi : fn[i]? = some (dn x st)) (hg : mg x = some (.ref (He.ga K x))) : ∃ fd, C8.Def K mg x st (He.ga K x) fd ∧ fd.defaults = .none := by
  obtain ⟨fd, F⟩ := c.def_ i hi
  obtain ⟨a, b⟩ := told_fun F
  exact ⟨fd, ⟨a, hg, F.kp⟩, b⟩
theorem told_meth (c : He.SaysD fa fn K) (i : Nat) {C m q : Str} {st : Stmt} (hi : fn[i]? = some (dm C m q st)) : ∃ fd, C8.Fun K m q st (He.ma K (He.ga K C) m) fd ∧ fd.defaults = .none := by
  obtain ⟨fd, F⟩ := c.def_ i hi
  obtain ⟨a, b⟩ := told_fun F
  exact ⟨fd, a, b⟩
theorem is_ref {x : Str} {a : Addr} (e : mg x = some (.ref a)) : ∃ u, mg x = some u ∧ RelV (.ref a) u := ⟨_, e, rfl⟩
theorem is_int {x : Str} {i : Int} (e : ∃ t, mg x = some (.int i t)) : ∃ u, mg x = some u ∧ RelV (.int i) u := by
  obtain ⟨t, e⟩ := e
  exact ⟨_, e, t, rfl⟩
end
theorem bindLaw {K : PySem.W.Frag} {x : Str} {st : Stmt} {f : Addr} {fd : FuncData} (F : C8.Fun K x x st f fd) (df : fd.defaults = .none) (s : Shared) (u : Value) {p : Str}
    (e : ∀ (kV doc pm : Value) (an : Option Addr) (cdv ct : Value), bindArgs (PySem.W.fnOf x x (C8.fnArgs st) (C8.fnBody st) (C8.fnScope st) .none kV doc pm an cdv ct) ⟨[u], []⟩ = pure [(p, u)] := by intros; rfl) : BindsTo s fd ⟨[u], []⟩ [(p, u)] := by
  obtain ⟨oc,
          od, dV, kV, doc, pm, an, cdv, ct, osl, rfl, lk, hcd⟩ := F.ex
  have z : dV = .none := df
  subst z
  exact .of_eq (e kV doc pm an cdv ct)
/-! ### static methods -/
structure SDef where
  cls : Str
  name : Str
  qual : Str
  st : Stmt
def SDef.box (K : PySem.W.Frag) (d : SDef) : Addr := He.ma K (He.ga K d.cls) d.name
def SDef.ad (K : PySem.W.Frag) (d : SDef) : Addr := match PySem.W.recIn K (d.box K) "staticmethod" with
  | some (.ref g :: _) => g
  | _ => 0
def SDef.see (K : PySem.W.Frag) (d : SDef) : He.FnW := match K.lookup (d.ad K) with
  | some ⟨_, _, .func u, _⟩ => some (u.name, u.qualname, u.params, u.body, u.scope, u.globals, u.closure, u.builtins)
  | _ => none
def SDef.val (d : SDef) : He.FnW := some (d.name, d.qual, C8.fnArgs d.st, .stmts (C8.fnBody d.st), C8.fnScope d.st, mainGlobals, [], builtinsNs)
def noDfl : Value → Bool
  | .none => true
  | _ => false
def SDef.okF (K : PySem.W.Frag) (d : SDef) : Bool := match K.lookup (d.ad K) with
  | some ⟨_, _, .func u, _⟩ => PySem.W.codeIn K u.code d.qual && noDfl u.defaults
  | _ => false
def SDef.okM (K : PySem.W.Frag) (d : SDef) : Bool := match PySem.W.findCls K (.ref (He.ga K d.cls)) (.type "type") d.name with
  | some (.get (.builtin g) (.ref p) .none (.ref C)) => decide (g = "staticmethod.__get__") && (decide (p = d.box K) && decide (C = He.ga K d.cls))
  | _ => false
def SDef.okR (K : PySem.W.Frag) (d : SDef) : Bool := match PySem.W.recIn K (d.box K) "staticmethod" with
  | some (.ref _ :: _) => true
  | _ => false
def SDef.ok (K : PySem.W.Frag) (d : SDef) : Bool :=
  d.okF K && (d.okM K && (d.okR K && (PySem.W.keepIn K (.ref (d.ad K)) && (PySem.W.readsIn K (He.ga K d.cls) (.type "type") && (He.eqO (PySem.W.specialIn K (.ref (He.ga K d.cls)) "__getattribute__") (some (some (.builtin "type.__getattribute__"))) &&
    (PySem.W.plainGet K (He.ga K d.cls) Str.empty && (PySem.W.isClsIn K (He.ga K d.cls) && (He.eqO (PySem.W.findIn K (.ref (He.ga K d.cls)) d.name) (some (some (.ref (d.box K)))) && (decide (PySem.W.typeIn K (.ref (d.box K)) = some (.type "staticmethod")) &&
    (He.eqO (PySem.W.specialIn K (.ref (d.box K)) "__get__") (some (some (.builtin "staticmethod.__get__"))) && (decide (PySem.W.takesIn K (.ref (d.box K)) = some false) && !PySem.W.copiedNames.contains d.name)))))))))))
theorem SDef.fun_ {K : PySem.W.Frag} {d : SDef} (e : d.see K = d.val) (c : d.okF K = true) : ∃ fd, C8.Fun K d.name d.qual d.st (d.ad K) fd ∧ fd.defaults = .none := by
  unfold SDef.see at e
  unfold SDef.okF at c
  cases q : K.lookup (d.ad K) with
  | none =>
    rw [q] at c
    cases c
  | some o =>
    obtain ⟨oc, od, dt, osl⟩ := o
    rw [q] at c e
    cases dt with
    | func u =>
      obtain ⟨n1, n2, n3, n4, n5, n6, n7, n8, n9, n10, n11, n12, n13, n14, n15⟩ := u
      have e2 : (some (n1, n2, n3, n4, n5, n6, n7, n15) : He.FnW) = d.val := e
      unfold SDef.val at e2
      simp only [Option.some.injEq,
              Prod.mk.injEq] at e2
      obtain ⟨h1,
              h2, h3, h4, h5, h6, h7, h8⟩ := e2
      subst h1 h2 h3 h4 h5 h6 h7 h8
      obtain ⟨k1, k2⟩ := He.ba (show (PySem.W.codeIn K n13 d.qual && noDfl n8) = true from c)
      cases n8 with
      | none => exact ⟨_, ⟨oc, od, .none, n9, n10, n11, n12, n13, n14, osl, rfl, q, k1⟩, rfl⟩
      | _ => cases k2
    | _ => cases c
theorem SDef.rec_ {K : PySem.W.Frag} {d : SDef} (h : d.okR K = true) : ∃ rest, PySem.W.recIn K (d.box K) "staticmethod" = some (.ref (d.ad K) :: rest) := by
  unfold SDef.okR at h
  unfold SDef.ad
  split at h
  · rename_i g rest e
    rw [e]
    exact ⟨rest, rfl⟩
  · cases h
theorem SDef.at_ {K : PySem.W.Frag} {d : SDef} (h : d.okM K = true) : PySem.W.findCls K (.ref (He.ga K d.cls)) (.type "type") d.name = some (.get (.builtin "staticmethod.__get__") (.ref (d.box K)) .none (.ref (He.ga K d.cls))) := by
  unfold SDef.okM at h
  split at h
  · rename_i g p C e
    obtain ⟨h1, h⟩ := He.ba h
    obtain ⟨h2, h3⟩ := He.ba h
    rw [e, of_decide_eq_true h1, of_decide_eq_true h2, of_decide_eq_true h3]
  · cases h
theorem SDef.all {K : PySem.W.Frag} {d : SDef} (e : d.see K = d.val) (h : d.ok K = true) : (∃ fd, C8.Fun K d.name d.qual d.st (d.ad K) fd ∧ fd.defaults = .none) ∧ ClX.CRead K (He.ga K d.cls) (.type "type") ∧ SMet K (He.ga K d.cls) (.type "type") d.name (d.box K) (d.ad K) ∧
    SInst K (He.ga K d.cls) d.name (d.box K) (d.ad K) := by
  obtain ⟨h1, h⟩ := He.ba h
  obtain ⟨h2, h⟩ := He.ba h
  obtain ⟨h3, h⟩ := He.ba h
  obtain ⟨h4, h⟩ := He.ba h
  obtain ⟨h5, h⟩ := He.ba h
  obtain ⟨h6, h⟩ := He.ba h
  obtain ⟨h7, h⟩ := He.ba h
  obtain ⟨h8, h⟩ := He.ba h
  obtain ⟨h9, h⟩ := He.ba h
  obtain ⟨h10, h⟩ := He.ba h
  obtain ⟨h11, h⟩ := He.ba h
  obtain ⟨h12, h13⟩ := He.ba h
  have c : PySem.W.copiedNames.contains d.name = false := by
    cases z : PySem.W.copiedNames.contains d.name with
    | false => rfl
    | true =>
      rw [z] at h13
      cases h13
  exact ⟨SDef.fun_ e h1, ⟨h5, He.eqO_ok h6⟩, ⟨SDef.at_ h2, SDef.rec_ h3, h4⟩, ⟨h7, h8, He.eqO_ok h9, of_decide_eq_true h10, He.eqO_ok h11, of_decide_eq_true h12, c, SDef.rec_ h3, h4⟩⟩
/-! ### class methods -/
def SDef.adC (K : PySem.W.Frag) (d : SDef) : Addr := match PySem.W.recIn K (d.box K) "classmethod" with
  | some (.ref g :: _) => g
  | _ => 0
def SDef.seeC (K : PySem.W.Frag) (d : SDef) : He.FnW := match K.lookup (d.adC K) with
  | some ⟨_, _, .func u, _⟩ => some (u.name, u.qualname, u.params, u.body, u.scope, u.globals, u.closure, u.builtins)
  | _ => none
def SDef.okFC (K : PySem.W.Frag) (d : SDef) : Bool := match K.lookup (d.adC K) with
  | some ⟨_, _, .func u, _⟩ => PySem.W.codeIn K u.code d.qual && noDfl u.defaults
  | _ => false
def SDef.okMC (K : PySem.W.Frag) (d : SDef) : Bool := match PySem.W.findCls K (.ref (He.ga K d.cls)) (.type "type") d.name with
  | some (.get (.builtin g) (.ref p) .none (.ref C)) => decide (g = "classmethod.__get__") && (decide (p = d.box K) && decide (C = He.ga K d.cls))
  | _ => false
def SDef.okRC (K : PySem.W.Frag) (d : SDef) : Bool := match PySem.W.recIn K (d.box K) "classmethod" with
  | some (.ref _ :: _) => true
  | _ => false
def SDef.okC (K : PySem.W.Frag) (d : SDef) : Bool :=
  d.okFC K && (d.okMC K && (d.okRC K && (PySem.W.fnIn K (d.adC K) && (PySem.W.readsIn K (He.ga K d.cls) (.type "type") && He.eqO (PySem.W.specialIn K (.ref (He.ga K d.cls)) "__getattribute__") (some (some (.builtin "type.__getattribute__")))))))
theorem SDef.funC {K : PySem.W.Frag} {d : SDef} (e : d.seeC K = d.val) (c : d.okFC K = true) : ∃ fd, C8.Fun K d.name d.qual d.st (d.adC K) fd ∧ fd.defaults = .none := by
  unfold SDef.seeC at e
  unfold SDef.okFC at c
  cases q : K.lookup (d.adC K) with
  | none =>
    rw [q] at c
    cases c
  | some o =>
    obtain ⟨oc, od, dt, osl⟩ := o
    rw [q] at c e
    cases dt with
    | func u =>
      obtain ⟨n1, n2, n3, n4, n5, n6, n7, n8, n9, n10, n11, n12, n13, n14, n15⟩ := u
      have e2 : (some (n1, n2, n3, n4, n5, n6, n7, n15) : He.FnW) = d.val := e
      unfold SDef.val at e2
      simp only [Option.some.injEq,
              Prod.mk.injEq] at e2
      obtain ⟨h1,
              h2, h3, h4, h5, h6, h7, h8⟩ := e2
      subst h1 h2 h3 h4 h5 h6 h7 h8
      obtain ⟨k1, k2⟩ := He.ba (show (PySem.W.codeIn K n13 d.qual && noDfl n8) = true from c)
      cases n8 with
      | none => exact ⟨_, ⟨oc, od, .none, n9, n10, n11, n12, n13, n14, osl, rfl, q, k1⟩, rfl⟩
      | _ => cases k2
    | _ => cases c
theorem SDef.recC {K : PySem.W.Frag} {d : SDef} (h : d.okRC K = true) : ∃ rest, PySem.W.recIn K (d.box K) "classmethod" = some (.ref (d.adC K) :: rest) := by
  unfold SDef.okRC at h
  unfold SDef.adC
  split at h
  · rename_i g rest e
    rw [e]
    exact ⟨rest, rfl⟩
  · cases h
theorem SDef.atC {K : PySem.W.Frag} {d : SDef} (h : d.okMC K = true) : PySem.W.findCls K (.ref (He.ga K d.cls)) (.type "type") d.name = some (.get (.builtin "classmethod.__get__") (.ref (d.box K)) .none (.ref (He.ga K d.cls))) := by
  unfold SDef.okMC at h
  split at h
  · rename_i g p C e
    obtain ⟨h1, h⟩ := He.ba h
    obtain ⟨h2, h3⟩ := He.ba h
    rw [e, of_decide_eq_true h1, of_decide_eq_true h2, of_decide_eq_true h3]
  · cases h
theorem SDef.allC {K : PySem.W.Frag} {d : SDef} (e : d.seeC K = d.val) (h : d.okC K = true) : (∃ fd, C8.Fun K d.name d.qual d.st (d.adC K) fd ∧ fd.defaults = .none) ∧ ClX.CRead K (He.ga K d.cls) (.type "type") ∧ ClX.CMet K (He.ga K d.cls) (.type "type") d.name (d.box K) (d.adC K) := by
  obtain ⟨h1, h⟩ := He.ba h
  obtain ⟨h2, h⟩ := He.ba h
  obtain ⟨h3, h⟩ := He.ba h
  obtain ⟨h4, h⟩ := He.ba h
  obtain ⟨h5, h6⟩ := He.ba h
  exact ⟨SDef.funC e h1, ⟨h5, He.eqO_ok h6⟩, ⟨SDef.atC h2, SDef.recC h3, h4⟩⟩
/-! ### classes of errors -/
def oexB (K : PySem.W.Frag) (x : Str) : Bool := PySem.W.excInitIn K (He.ga K x) bmL "LookupError.__new__" && (PySem.W.excOver K (He.ga K x) bmL && (PySem.W.hasDictIn K (He.ga K x) && (He.eqO (PySem.W.findIn K (.ref (He.ga K x)) "__setattr__") (some (some (.builtin "object.__setattr__"))) &&
  (decide (PySem.W.subIn K (.ref (He.ga K x)) (.type "BaseException") = some true) && (decide (PySem.W.typeIn K (.ref (He.ga K x)) = some (.type "type")) && PySem.W.keepIn K (.ref (He.ga K x)))))))
theorem oexB_ok {K : PySem.W.Frag} {x : Str} (h : oexB K x = true) : OexL K (He.ga K x) := by
  obtain ⟨h1, h⟩ := He.ba h
  obtain ⟨h2, h⟩ := He.ba h
  obtain ⟨h3, h⟩ := He.ba h
  obtain ⟨h4, h⟩ := He.ba h
  obtain ⟨h5, h⟩ := He.ba h
  obtain ⟨h6, h7⟩ := He.ba h
  exact ⟨h1, h2, h3, He.eqO_ok h4, of_decide_eq_true h5, of_decide_eq_true h6, h7⟩
/-- the class's own __init__ is a plain def -/
def oinB (K : PySem.W.Frag) (x : Str) : Bool := He.eqO (PySem.W.findIn K (.ref (He.ga K x)) "__init__") (some (some (.ref (He.ma K (He.ga K x) "__init__")))) && decide (PySem.W.typeIn K (.ref (He.ma K (He.ga K x) "__init__")) = some (.type "function"))
theorem oinB_ok {K : PySem.W.Frag} {x : Str} (h : oinB K x = true) : PySem.W.findIn K (.ref (He.ga K x)) "__init__" = some (some (.ref (He.ma K (He.ga K x) "__init__"))) ∧ PySem.W.typeIn K (.ref (He.ma K (He.ga K x) "__init__")) = some (.type "function") := by
  obtain ⟨h1, h2⟩ := He.ba h
  exact ⟨He.eqO_ok h1, of_decide_eq_true h2⟩
def exkB (K : PySem.W.Frag) (x : Str) : Bool := He.eqO (PySem.W.findIn K (.ref (He.ga K x)) "__getattribute__") (some (some (.builtin "BaseException.__getattribute__"))) && (He.eqO (PySem.W.findIn K (.ref (He.ga K x)) "__getattr__") (some none) && (decide (PySem.W.subIn K (.ref (He.ga K x)) (.type "BaseException") = some true) &&
  ((PySem.W.clsIn K (He.ga K x)).isSome && (He.eqO (PySem.W.findIn K (.ref (He.ga K x)) "__class__") (some (some (.builtin "object.__class__"))) && (He.eqO (PySem.W.specialIn K (.builtin "object.__class__") "__get__") (some (some (.builtin "getset_descriptor.__get__"))) &&
  (decide (PySem.W.takesIn K (.builtin "object.__class__") = some true) && decide (PySem.W.mroIn K (He.ga K x) (.type "object") = some true)))))))
theorem exkB_ok {K : PySem.W.Frag} {x : Str} (h : exkB K x = true) : ExcK K (He.ga K x) := by
  obtain ⟨h1, h⟩ := He.ba h
  obtain ⟨h2, h⟩ := He.ba h
  obtain ⟨h3, h⟩ := He.ba h
  obtain ⟨h4, h⟩ := He.ba h
  obtain ⟨h5, h⟩ := He.ba h
  obtain ⟨h6, h⟩ := He.ba h
  obtain ⟨h7, h8⟩ := He.ba h
  exact ⟨He.eqO_ok h1, He.eqO_ok h2, of_decide_eq_true h3, h4, He.eqO_ok h5, He.eqO_ok h6, of_decide_eq_true h7, of_decide_eq_true h8⟩
/-! ### the Hook with static methods -/
abbrev AlS : Type := ((He.AlT × Bool) × List He.FnW) × List He.FnW
/-- a table stands empty, and is left out -/
theorem tabs_told {as : List Addr} {fa : List He.Fa} {fn : List He.DefD} {ts : List He.Tab} {tf : List He.Defn} {ex : PySem.W.Frag → Bool} {w : World} {h : Heap} {K : PySem.W.Frag} (eK : K = He.frT h.get? as)
    (a : He.obsT fa fn ts K = He.valT fn ts w) (b : ex K = true) (c : He.tabsB h.get? tf K = true) : He.SaysX fa fn ts tf ex w h K := by
  have each : ∀ p ∈ tf, PySem.W.codeHdIn K (He.cT K p).1 (He.cT K p).2 = true ∧ ∃ o, h.get? (He.cT K p).2 = some o ∧ He.emptyTab o = true := by
    intro p hp
    have z := List.all_eq_true.mp c p hp
    rw [Bool.and_eq_true] at z
    refine ⟨z.1, ?_⟩
    have z2 := z.2
    split at z2
    · rename_i o e
      exact ⟨o, e, z2⟩
    · cases z2
  refine ⟨a, b, fun p hp => (each p hp).1, fun p hp => ?_, fun p hp => ?_⟩
  · obtain ⟨_, o, e, t⟩ := each p hp
    rw [eK] at e ⊢
    exact He.frT_none e t
  · obtain ⟨_, o, e, t⟩ := each p hp
    rw [e]
    exact congrArg some (He.emptyTab_eq t)
structure Tell where
  n : Nat
  fa : List He.Fa
  fn : List He.DefD
  ts : List He.Tab
  tf : List He.Defn
  ex : PySem.W.Frag → Bool
  sd : List SDef
  cd : List SDef
/-- what is looked at: what the names reach, the model's own table of statics -/
def Tell.frag (t : Tell) (g : Addr → Option Obj) : PySem.W.Frag := He.frT g (cStatics :: He.asD g t.n)
def Tell.seeK (t : Tell) (g : Addr → Option Obj) (K : PySem.W.Frag) : AlS := (((He.obsT t.fa t.fn t.ts K, t.ex K && He.tabsB g t.tf K), t.sd.map fun d => d.see K), t.cd.map fun d => d.seeC K)
def Tell.see (t : Tell) (g : Addr → Option Obj) : AlS := t.seeK g (t.frag g)
def Tell.due (t : Tell) (w : World) : AlS := (((He.valT t.fn t.ts w, true), t.sd.map SDef.val), t.cd.map SDef.val)
structure Tell.Ok (t : Tell) (w : World) (h : Heap) (K : PySem.W.Frag) : Prop where
  x : He.SaysX t.fa t.fn t.ts t.tf t.ex w h K
  s : (t.sd.map fun d => d.see K) = t.sd.map SDef.val
  c : (t.cd.map fun d => d.seeC K) = t.cd.map SDef.val
theorem Tell.told {t : Tell} {w : World} {h : Heap} (e : t.see h.get? = t.due w) : t.Ok w h (t.frag h.get?) := by
  obtain ⟨e0, e7⟩ := Prod.mk.inj (show t.seeK h.get? (t.frag h.get?) = t.due w from e)
  obtain ⟨e1, e2⟩ := Prod.mk.inj e0
  obtain ⟨e3, e4⟩ := Prod.mk.inj e1
  obtain ⟨e5, e6⟩ := He.ba e4
  exact ⟨tabs_told rfl e3 e5 e6, e2, e7⟩
def Tell.hook (t : Tell) : PySem.W.Hook where
  α := AlS
  obs := fun s => t.see s.heap.get?
  val := fun w => t.due w
  says := fun w h => ∃ K : PySem.W.Frag, K.In h ∧ t.Ok w h K
  of := fun _ _ e => ⟨_, He.frT_in, Tell.told e⟩
  keeps := fun _ _ _ ⟨K, i, c⟩ k => ⟨K, PySem.W.Frag.In.keeps i k, ⟨c.x.t, c.x.more, c.x.hd, c.x.out, fun p m => k _ _ (c.x.empty p m)⟩, c.s, c.c⟩
theorem Tell.see_eq {t : Tell} {g : Addr → Option Obj} {s : Shared} (h : ∀ a, g a = s.heap.get? a) : t.see g = t.hook.obs s := by
  have e : g =
          s.heap.get? := funext h
  rw [e]
  rfl
theorem Tell.Ok.clsm {t : Tell} {w : World} {h : Heap} {K : PySem.W.Frag} (c : t.Ok w h K) (i : Nat) {d : SDef} (hi : t.cd[i]? = some d) : d.seeC K = d.val := by
  have e : (t.cd.map fun d => d.seeC K)[i]? = (t.cd.map SDef.val)[i]? := by rw [c.c]
  rw [List.getElem?_map, List.getElem?_map, hi] at e
  exact Option.some.inj e
theorem Tell.Ok.static {t : Tell} {w : World} {h : Heap} {K : PySem.W.Frag} (c : t.Ok w h K) (i : Nat) {d : SDef} (hi : t.sd[i]? = some d) : d.see K = d.val := by
  have e : (t.sd.map fun d => d.see K)[i]? = (t.sd.map SDef.val)[i]? := by rw [c.s]
  rw [List.getElem?_map, List.getElem?_map, hi] at e
  exact Option.some.inj e
end LP
namespace LP
open PySem L2
/-- a written dict's keys are texts of these -/
def keysB (K : PySem.W.Frag) (a : Addr) (ks : List Str) : Bool := match K.lookup a with
  | some ⟨_, _, .dict es _, _⟩ => es.toList.all fun e => match e.key with
    | .str s _ => decide (s ∈ ks)
    | _ => false
  | _ => false
theorem keysB_no {K : PySem.W.Frag} {a : Addr} {ks : List Str} {n : Str} (h : keysB K a ks = true) (hn : n ∉ ks) : PySem.W.nsIn K a n = some none := by
  unfold keysB at h
  unfold PySem.W.nsIn
  split at h
  · rename_i es _ _ ho
    rw [ho]
    have h2 := List.all_eq_true.mp h
    have f : es.toList.find? (fun e => e.key.isStr n) = none := by
      rw [List.find?_eq_none]
      intro e he z
      have w := h2 e he
      split at w
      · rename_i s t hk
        rw [hk] at z
        have z : (s == n) = true := z
        have w := of_decide_eq_true w
        rw [eq_of_beq z] at w
        exact hn w
      · cases w
    have g : es.toList.any (fun e => e.refKey) = false := by
      rw [List.any_eq_false]
      intro e he z
      have w := h2 e he
      unfold DictEntry.refKey at z
      split at w
      · rename_i s t hk
        rw [hk] at z
        cases z
      · cases w
    show (match es.toList.find? (fun e => e.key.isStr n) with | some e => some (some e.val) | none => if es.toList.any (fun e => e.refKey) then none else some none) = _
    rw [f, g]
    rfl
  · cases h
theorem lenG_of {K : PySem.W.Frag} {mg : Str → Option Value} {la : Addr} (hg : ∃ u, mg "LENGTHS" = some u ∧ RelV (.ref la) u) (hv : He.valsB K la [("flag", .int 2), ("number", .int 2), ("word", .int 3), ("link", .int 5)] = true) (hk : keysB K la ["flag", "number", "word", "link"] = true) : LenG K mg la := by
  refine ⟨hg, fun k => ?_⟩
  by_cases h1 : k = "flag"
  · subst h1
    exact .inl (He.valsB_ok hv (q := ("flag", .int 2)) (by simp))
  by_cases h2 : k = "number"
  · subst h2
    exact .inl (He.valsB_ok hv (q := ("number", .int 2)) (by simp))
  by_cases h3 : k = "word"
  · subst h3
    exact .inl (He.valsB_ok hv (q := ("word", .int 3)) (by simp))
  by_cases h4 : k = "link"
  · subst h4
    exact .inl (He.valsB_ok hv (q := ("link", .int 5)) (by simp))
  · refine .inr ⟨keysB_no hk (by simp [h1, h2, h3, h4]), ?_⟩
    unfold lenD
    rw [if_neg (by simp [h1, h2]), if_neg h3, if_neg h4]
end LP
namespace LP
open PySem.Spec PyProof.Rows PySem L2
def k05_fa_0 : List He.Fa := [.glo "is_letters", .glo "is_word", .glo "is_link", .glo "has_list", .glo "may_lack", .glo "write_lines", .glo "_write_column", .glo "read_lines", .glo "_is_head", .glo "_read_column", .glo "_read_link", .glo "_meets", .glo "_law_start", .glo "_law_take", .glo "_law_of", .glo "_law_reserved", .glo "_law_draw_letters", .glo "_law_new_name", .glo "_law_all_links", .glo "_law_reach", .glo "_law_is_listed", .glo "_law_is_heavy", .glo "_law_names_taken", .glo "_law_allowed", .glo "_law_draw_columns", .glo "_law_draw_tables", .glo "_law_written", .glo "_law_is_letters", .glo "_law_read", .glo "_law_what_is_due"]
def k05_fa_1 : List He.Fa := [.glo "_law_what_comes", .glo "_law_spoilt_line", .glo "_law_spoilt", .glo "_law_is_right", .glo "law", .free "len", .free "int", .free "abs", .free "max", .free "min", .free "any", .free "all", .free "str", .free "bool", .free "list", .free "tuple", .free "dict", .free "isinstance", .free "range", .free "reversed", .free "enumerate", .free "zip", .int "MOST_LETTERS" 8, .int "MOST_TABLES" 6, .int "MOST_COLUMNS" 6, .glo "RESERVED", .glo "Schema", .cls "Schema", .noat "Schema" "_columns", .noat "Schema" "_lists"]
def k05_fa_2 : List He.Fa := [.noat "Schema" "user", .noat "Schema" "tables", .noat "Schema" "_lines", .glo "LENGTHS", .noat "BadSchema" "table", .noat "BadSchema" "column", .noat "BadLine" "line", .glo "BadLine", .glo "BadSchema", .glo "ListandpageError", .exm "BadLine" "BadLine" true, .exm "BadSchema" "BadLine" false, .exm "BadSchema" "BadSchema" true, .mkr "Schema", .meth "Schema" "__contains__", .meth "Schema" "_is_list", .meth "Schema" "_is_column", .meth "Schema" "_take_columns", .meth "Schema" "__str__"]
def k05_fa : List He.Fa := k05_fa_0 ++ (k05_fa_1 ++ k05_fa_2)
def k05_fn_0 : List He.DefD := [dn "is_letters" s_is_letters, dn "is_word" s_is_word, dn "is_link" s_is_link, dn "has_list" s_has_list, dn "may_lack" s_may_lack, dn "write_lines" s_write_lines, dn "_write_column" s__write_column, dn "read_lines" s_read_lines, dn "_is_head" s__is_head, dn "_read_column" s__read_column, dn "_read_link" s__read_link, dn "_meets" s__meets, dn "_law_start" s__law_start, dn "_law_take" s__law_take, dn "_law_of" s__law_of, dn "_law_reserved" s__law_reserved, dn "_law_draw_letters" s__law_draw_letters, dn "_law_new_name" s__law_new_name, dn "_law_all_links" s__law_all_links, dn "_law_reach" s__law_reach, dn "_law_is_listed" s__law_is_listed, dn "_law_is_heavy" s__law_is_heavy, dn "_law_names_taken" s__law_names_taken, dn "_law_allowed" s__law_allowed, dn "_law_draw_columns" s__law_draw_columns, dn "_law_draw_tables" s__law_draw_tables, dn "_law_written" s__law_written, dn "_law_is_letters" s__law_is_letters, dn "_law_read" s__law_read, dn "_law_what_is_due" s__law_what_is_due]
def k05_fn_1 : List He.DefD := [dn "_law_what_comes" s__law_what_comes, dn "_law_spoilt_line" s__law_spoilt_line, dn "_law_spoilt" s__law_spoilt, dn "_law_is_right" s__law_is_right, dn "law" s_law, dm "Schema" "__init__" "Schema.__init__" s_Schema___init__, dm "Schema" "_take_columns" "Schema._take_columns" s_Schema__take_columns, dm "Schema" "_is_column" "Schema._is_column" s_Schema__is_column, dm "Schema" "_is_list" "Schema._is_list" s_Schema__is_list, dm "Schema" "__contains__" "Schema.__contains__" s_Schema___contains__, dm "Schema" "__str__" "Schema.__str__" s_Schema___str__, dm "BadSchema" "__init__" "BadSchema.__init__" s_BadSchema___init__, dm "BadLine" "__init__" "BadLine.__init__" s_BadLine___init__]
def k05_fn : List He.DefD := k05_fn_0 ++ k05_fn_1
def k05_ex : List (PySem.W.Frag → Bool) := [fun K => He.tupB K "RESERVED" (reservedL.map He.Dv.str), fun K => SDef.ok K (⟨"Schema", "is_name", "Schema.is_name", s_Schema_is_name⟩ : SDef), fun K => SDef.okC K (⟨"Schema", "read", "Schema.read", s_Schema_read⟩ : SDef), fun K => He.valsB K (He.ga K "LENGTHS") [("flag", .int 2), ("number", .int 2), ("word", .int 3), ("link", .int 5)], fun K => keysB K (He.ga K "LENGTHS") ["flag", "number", "word", "link"], fun K => oxvB K "BadSchema", fun K => oinB K "BadSchema", fun K => oxvB K "BadLine", fun K => oinB K "BadLine", fun K => exkB K "BadLine", fun K => L2.xfB K (He.ga K "BadLine"), fun K => L2.xfB K (He.ga K "BadSchema"), fun K => decide (PySem.W.kitOne K (.ref (He.ga K "BadLine")) (.ref (He.ga K "BadSchema")) = some false), fun K => decide (PySem.W.kitOne K (.ref (He.ga K "BadLine")) (.ref (He.ga K "ListandpageError")) = some true), fun K => decide ((He.cT K ("_law_is_right", none)).2 ≠ (He.cT K ("law", none)).2)]
def k05_tell : Tell := ⟨6, k05_fa, k05_fn, [(fun K => He.ga K "LENGTHS", ["flag", "number", "word", "link"])], [("_law_is_right", none), ("law", none)], fun K => k05_ex.all fun e => e K, [⟨"Schema", "is_name", "Schema.is_name", s_Schema_is_name⟩], [⟨"Schema", "read", "Schema.read", s_Schema_read⟩]⟩
def k05_names_0 : List Str := ["_wall", "MOST_LETTERS", "is_letters", "is_word", "is_link", "has_list", "may_lack", "ListandpageError", "BadSchema", "BadLine", "NoName", "write_lines", "_write_column", "read_lines", "_is_head", "_read_column", "_read_link", "MOST_TABLES", "MOST_COLUMNS", "RESERVED", "LENGTHS", "Schema", "_meets", "_law_start", "_law_take", "_law_of", "_law_reserved", "_law_draw_letters", "_law_new_name", "_law_all_links"]
def k05_names_1 : List Str := ["_law_reach", "_law_is_listed", "_law_is_heavy", "_law_names_taken", "_law_allowed", "_law_draw_columns", "_law_draw_tables", "_law_written", "_law_is_letters", "_law_read", "_law_what_is_due", "_law_what_comes", "_law_spoilt_line", "_law_spoilt", "_law_is_right"]
def k05_names : List Str := k05_names_0 ++ k05_names_1
abbrev k05_R : PySem.W.OpenRow := PySem.W.OpenLaw.row PySem.Challenge.rw_listandpage_k05_schema_lines_refused
def k05_ob (s : PySem.W.SharedT) : AlS := k05_tell.see (HandSHeadRun.getT s)
theorem k05_ob_eq (s : PySem.W.SharedT) : k05_ob s = k05_tell.hook.obs s.abs := Tell.see_eq (HandSHeadRun.getT_eq s)
end LP
namespace LP
open PySem.Spec PyProof.Rows PySem L2
abbrev k05_Run (w : World) : Prop := HandSHeadRun.RunEq k05_R (PySem.W.view k05_R.prog [51]) k05_tell.hook k05_ob 4000 k05_names w
theorem k05_run_false (w : World) : k05_Run (w.withFollow "special-get-raises" false) := by
  intro os
  kernel_rfl
theorem k05_run_true (w : World) : k05_Run (w.withFollow "special-get-raises" true) := by
  intro os
  kernel_rfl
theorem k05_run (w : World) : k05_Run w := PySem.W.byRow2 "special-get-raises" k05_run_false k05_run_true w
end LP
namespace LP
open PySem L2
open Evl (Ex)
/-- the word that stands in for one that is taken -/
def alt (w : Str) (c e : Nat) : Str := S (w.cps.toList.take 6 ++ [c] ++ [e])
theorem alt_inj {w : Str} {c e c' e' : Nat} (h : alt w c e = alt w c' e') : c = c' ∧ e = e' := by
  have := S_inj h
  simpa using this
theorem alt_word {w : Str} {c e : Nat} (hw : Low w) (hc : 97 ≤ c ∧ c ≤ 122) (he : 97 ≤ e ∧ e ≤ 122) : IsWord (alt w c e) := by
  refine ⟨?_, ?_, fun x hx => ?_⟩
  · unfold alt
    rw [S_len]
    simp
  · unfold alt
    rw [S_len]
    simp
    omega
  · have hx : x ∈ w.cps.toList.take 6 ++ [c] ++ [e] := hx
    simp only [List.mem_append, List.mem_singleton] at hx
    rcases hx with (hx | rfl) | rfl
    · exact hw x (List.mem_of_mem_take hx)
    · exact hc
    · exact he
theorem pairs_nodup {l m : List Nat} (hl : l.Nodup) (hm : m.Nodup) : (l.flatMap fun c => m.map fun e => (c, e)).Nodup := by
  induction l with
  | nil => exact List.nodup_nil
  | cons c r ih =>
    have h := List.nodup_cons.mp hl
    rw [List.flatMap_cons]
    refine List.nodup_append.mpr ⟨?_, ih h.2, ?_⟩
    · exact List.pairwise_map.mpr (List.Pairwise.imp (R := (· ≠ ·)) (fun {x y} hne exy => hne (Prod.mk.inj exy).2) hm)
    · intro x hx y hy e
      obtain ⟨e1, _, rfl⟩ := List.mem_map.mp hx
      obtain ⟨c', hc', hy⟩ := List.mem_flatMap.mp hy
      obtain ⟨e2, _, rfl⟩ := List.mem_map.mp hy
      have := (Prod.mk.inj e).1
      exact h.1 (this ▸ hc')
theorem pairs_len (l m : List Nat) : (l.flatMap fun c => m.map fun e => (c, e)).length = l.length * m.length := by
  induction l with
  | nil => simp
  | cons c r ih =>
    rw [List.flatMap_cons, List.length_append, ih, List.length_map, List.length_cons, Nat.succ_mul]
    omega
theorem alt_all {w : Str} {m : List (Option Str)} (h : ∀ c ∈ lettersS.cps.toList, ∀ e ∈ lettersS.cps.toList, some (alt w c e) ∈ m) : 676 ≤ m.length := by
  have ln : lettersS.cps.toList.Nodup := by rw [letters_tl]; decide
  have nd : ((lettersS.cps.toList.flatMap fun c => lettersS.cps.toList.map fun e => (c, e)).map fun p => some (alt w p.1 p.2)).Nodup := by
    refine List.pairwise_map.mpr (List.Pairwise.imp (R := (· ≠ ·)) (fun {x y} hne exy => ?_) (pairs_nodup ln ln))
    obtain ⟨h1, h2⟩ := alt_inj (Option.some.inj exy)
    exact hne (Prod.ext h1 h2)
  have := pigeon (m := m) nd fun x hx => by
    obtain ⟨p, hp, rfl⟩ := List.mem_map.mp hx
    obtain ⟨c, hc, hp⟩ := List.mem_flatMap.mp hp
    obtain ⟨e, he, rfl⟩ := List.mem_map.mp hp
    exact h c hc e he
  rw [List.length_map, pairs_len, letters_tl] at this
  simpa using this
theorem letters_in {c : Nat} (h : c ∈ lettersS.cps.toList) : 97 ≤ c ∧ c ≤ 122 := by
  rw [letters_tl] at h
  obtain ⟨j, hj, rfl⟩ := List.mem_map.mp h
  have := List.mem_range.mp hj
  omega
section
variable {base : Heap} {mg : Str → Option Value} {K : PySem.W.Frag} {w : World} {P : Program}
theorem ok_new_name {f : Addr} {fd : FuncData} (D : C8.Def K mg "_law_new_name" s__law_new_name f fd) (b : Binds K fd ["bag", "taken"] [])
    (c__law_draw_letters : C8.Cal P w K mg base 2 "_law_draw_letters" spLetters []) (c__law_reserved : C8.Cal P w K mg base 1 "_law_reserved" spReserved []) :
    C8.Cal P w K mg base 3 "_law_new_name" (spNewName K) [] := by
  have sc : FnScope ["bag", "taken", "word", "first", "last", "other"] ["bag", "taken"] (C8.fnScope s__law_new_name) := C8.fnScope_by (by decide +kernel)
  refine C8.cal0 D b .nil sc (fun vs H Q E h => ?_) (fun cdv A outer s H vs Q E hr h => ?_)
  · obtain ⟨_, _, _, _, rfl, _⟩ := h
    rfl
  · obtain ⟨b, t, xs, n, rfl, hB, hn, hx, hl, k⟩ := h
    refine ⟨_, (pss_cons (ps_set (i := 2) sc.nd rfl (Or.inl rfl) (C8.pe_c c__law_draw_letters hr (by decide) rfl (pa_cons (pv 0) (pa_cons pe_int pa_nil))))
        (C8.pss_cut (ps_if (PW.pt (pw_and (pt_cmpR (op_notIn_seqK (K := K) rfl) (pv 2) (pv 1) (by rfl)) (pw_and1 (pt_cmpR (op_notIn_seqK (K := K) rfl) (pv 2) (pe_c0 c__law_reserved hr (by decide) rfl) (by rfl)))))
        (pss_one (ps_ret (pv 2)))
        pss_nil)
        (pss_cons (ps_for PassesOwn.never rfl (pi_str pe_str) (pg_name (i := 3) sc.nd rfl (Or.inl rfl))
        (pss_one (ps_for PassesOwn.never rfl (pi_str pe_str) (pg_name (i := 4) sc.nd rfl (Or.inl rfl))
        (pss_cons (ps_set (i := 5) sc.nd rfl (Or.inl rfl) (pe_op op_add_str' (pe_op op_add_str' (pe_slice sl_str (pv 2) po_none (po_some pe_int)) (pv 3)) (pv 4)))
        (pss_one (ps_if (PW.pt (pw_and (pt_cmpR (op_notIn_seqK (K := K) rfl) (pv 5) (pv 1) (by rfl)) (pw_and1 (pt_cmpR (op_notIn_seqK (K := K) rfl) (pv 5) (pe_c0 c__law_reserved hr (by decide) rfl) (by rfl)))))
        (pss_one (ps_ret (pv 5)))
        pss_nil))))))
        (pss_one (ps_ret (pv 2)))))), ?_⟩
    try dsimp only [cxOf, Cx.wish, Cx.nox]
    walk_at "w"
    refine ⟨b, 8, n, rfl, hB, by omega, by decide, by decide, fun w H1 w1 w2 hw hB1 e1 => ?_⟩
    walk_at "w"
    refine ⟨fun σ' H' => σ' = [some (.ref b), some (.ref t), some (.str w), none, none, none] ∧ Ex H1 H', ?_, ?_⟩
    · walk_at "w"
      refine w_notInOpt (Evl.ex_l e1 hx) ?_
      walk_at "w"
      refine iteND (fun h1 => ?_) (fun h1 => ?_)
      · walk_at "w"
        refine ⟨rfl, fun p hp => ?_⟩
        refine w_notInStr (xs := reservedL) (SqL.of upd_same) ?_
        walk_at "w"
        refine iteND (fun h2 => ?_) (fun h2 => ?_)
        · walk_at "w"
          exact k _ _ ⟨⟨w1, by omega, hw⟩, h2⟩ h1 (hB1.new hp |>.mono (by omega)) (ex_dtrans e1 (ex_new_d hp))
        · walk_at "w"
          exact Ex.new hp
      · walk_at "w"
        exact Ex.refl _
    · rintro _ H2 ⟨rfl, e2⟩
      walk_at "w"
      refine loopS (fun d r σ' H' => (∃ x y z, σ' = [some (.ref b), some (.ref t), some (.str w), x, y, z]) ∧ Ex H1 H' ∧ ∀ c ∈ d, ∀ e ∈ lettersS.cps.toList, some (alt w c e) ∈ xs ++ reservedL.map some)
        ⟨⟨_, _, _, rfl⟩, e2, fun c hc => absurd hc List.not_mem_nil⟩ ?_ ?_
      · rintro d c r _ H3 hd ⟨⟨x, y, z, rfl⟩, e3, h3⟩
        have hc : 97 ≤ c ∧ c ≤ 122 := letters_in (by rw [show lettersS.cps.toList = d ++ c :: r from hd.symm]; simp)
        walk_at "w"
        refine loopS (fun d2 r2 σ' H' => (∃ y z, σ' = [some (.ref b), some (.ref t), some (.str w), some (.str (S [c])), y, z]) ∧ Ex H1 H' ∧ ∀ e ∈ d2, some (alt w c e) ∈ xs ++ reservedL.map some)
          ⟨⟨_, _, rfl⟩, e3, fun c hc => absurd hc List.not_mem_nil⟩ ?_ ?_
        · rintro d2 e r2 _ H4 hd2 ⟨⟨y, z, rfl⟩, e4, h4⟩
          have he : 97 ≤ e ∧ e ≤ 122 := letters_in (by rw [show lettersS.cps.toList = d2 ++ e :: r2 from hd2.symm]; simp)
          walk_at "w"
          have cut : cutS w none (some 6) = S (w.cps.toList.take 6) := cut_to (by decide)
          have ls : (w.cps.toList.take 6).length ≤ 6 := by rw [List.length_take]; omega
          have sz : ∀ m : Nat, m ≤ 100 → m ≤ sizeLine := fun m h => Nat.le_trans h (by decide)
          rw [cut]
          refine w_addS (sz _ (by rw [S_len, S_len]; simp only [List.length_cons, List.length_nil]; omega)) ?_
          rw [S_cat]
          walk_at "w"
          refine w_addS (sz _ (by rw [S_len, S_len, List.length_append]; simp only [List.length_cons, List.length_nil]; omega)) ?_
          rw [S_cat]
          rw [show S (w.cps.toList.take 6 ++ [c] ++ [e]) = alt w c e from rfl]
          have ext : Ex (del b H) H4 := (ex_dtrans e1 (ex_del.trans e4))
          walk_at "w"
          refine w_notInOpt (Evl.ex_l ext hx) ?_
          walk_at "w"
          refine iteND (fun h5 => ?_) (fun h5 => ?_)
          · walk_at "w"
            refine ⟨rfl, fun p hp => ?_⟩
            refine w_notInStr (xs := reservedL) (SqL.of upd_same) ?_
            walk_at "w"
            refine iteND (fun h6 => ?_) (fun h6 => ?_)
            · walk_at "w"
              exact k _ _ ⟨alt_word hw hc he, h6⟩ h5 (((hB1.ext e4).new hp).mono (by omega)) (ext.trans (Ex.new hp))
            · walk_at "w"
              refine ⟨⟨_, _, rfl⟩, e4.trans (Ex.new hp), fun e' he' => ?_⟩
              rcases List.mem_append.mp he' with he' | he'
              · exact h4 e' he'
              · rw [List.mem_singleton.mp he']
                exact List.mem_append.mpr (.inr (List.mem_map.mpr ⟨_, h6, rfl⟩))
          · walk_at "w"
            refine ⟨⟨_, _, rfl⟩, e4, fun e' he' => ?_⟩
            rcases List.mem_append.mp he' with he' | he'
            · exact h4 e' he'
            · rw [List.mem_singleton.mp he']
              exact List.mem_append.mpr (.inl h5)
        · rintro _ H4 ⟨⟨y, z, rfl⟩, e4, h4⟩
          exact ⟨⟨_, _, _, rfl⟩, e4, fun c' hc' e he => by
            rcases List.mem_append.mp hc' with hc' | hc'
            · exact h3 c' hc' e he
            · rw [List.mem_singleton.mp hc']
              exact h4 e he⟩
      · rintro _ H3 ⟨⟨x, y, z, rfl⟩, e3, h3⟩
        have := alt_all h3
        rw [List.length_append, List.length_map, show reservedL.length = 20 by decide] at this
        omega
end
end LP
namespace LP
open PySem L2
open Evl (Ex)
section
variable {base : Heap} {mg : Str → Option Value} {K : PySem.W.Frag} {w : World} {P : Program}
theorem ok_all_links {f : Addr} {fd : FuncData} (D : C8.Def K mg "_law_all_links" s__law_all_links f fd) (b : Binds K fd ["columns"] []) :
    C8.Cal P w K mg base 1 "_law_all_links" (spAllLinks K) [] := by
  have sc : FnScope ["columns", "column"] ["columns"] (C8.fnScope s__law_all_links) := C8.fnScope_by (by decide +kernel)
  refine C8.cal0 D b .nil sc (fun vs H Q E h => ?_) (fun cdv A outer s H vs Q E hr h => ?_)
  · obtain ⟨_, _, rfl, _⟩ := h
    rfl
  · obtain ⟨p, cs, rfl, ⟨cvs, hx, hc⟩, hl, k⟩ := h
    refine ⟨_, (pss_one (ps_ret (pe_lc (own := [("column", 1)]) (g := (gName 1)) (by rfl) sc.nd (pi_listK (K := K) rfl (pv 0)) (blkOk_by (own := [("column", 1)]) (N := ["columns", "column"]) (sc := C8.fnScope s__law_all_links) (by decide +kernel)) (fun _ _ _ _ _ => (pg_name (i := 1) sc.nd rfl (Or.inl rfl))) (fun _ _ _ _ _ => pts_one (pt_cmpR op_eq (pe_ix (ix_tupK (K := K) rfl) (pv 1) pe_int (fun _ _ => rfl)) pe_str (nomark _))) (fun _ _ _ _ _ => (pv 1))))), ?_⟩
    have ll := paired_len hc
    walk_at "w"
    intro D hD
    refine compQ cs (ColAt H) (fun c => if c.isLink = true then some c else none) (ColAt H) hD hx (by omega) hc (fun y c hy _ H2 e2 kk kn hk hn => ?_) (fun acc H2 e2 ha hp => ?_)
    · obtain ⟨a, rfl, ha⟩ := hy
      have ha2 : H2 a = some (.tup c.vals) := e2 _ _ ha
      walk_at "w"
      refine w_ixT (SqT.of ha2) c.at0 ?_
      walk_at "w"
      rw [c.kind_link]
      refine iteB (fun h => ?_) (fun h => ?_)
      · walk_at "w"
        exact hk _ c _ (Ex.refl _) (by rw [if_pos h]) ⟨a, rfl, ha⟩
      · exact hn _ (Ex.refl _) (by rw [h]; rfl)
    · rw [filterMap_if] at hp
      exact k D H2 hD e2 ⟨acc, ha, ColsV.ext e2 hp⟩
theorem ok_is_listed {f : Addr} {fd : FuncData} (D : C8.Def K mg "_law_is_listed" s__law_is_listed f fd) (b : Binds K fd ["columns"] []) (B : Blt mg)
    (c__law_all_links : C8.Cal P w K mg base 1 "_law_all_links" (spAllLinks K) []) : C8.Cal P w K mg base 2 "_law_is_listed" (spIsListed K) [] := by
  have sc : FnScope ["columns", "column"] ["columns"] (C8.fnScope s__law_is_listed) := C8.fnScope_by (by decide +kernel)
  refine C8.cal0 D b .nil sc (fun vs H Q E h => ?_) (fun cdv A outer s H vs Q E hr h => ?_)
  · obtain ⟨_, _, rfl, _⟩ := h
    rfl
  · obtain ⟨p, cs, rfl, hc, hl, k⟩ := h
    refine ⟨_, (pss_one (ps_ret (pe_callB (cr_anyK (K := K) rfl rfl) (by rfl) B.any_ (by decide +kernel) (pa_cons (pe_lc (own := [("column", 1)]) (g := (gName 1)) (by rfl) sc.nd (pi_listK (K := K) rfl (C8.pe_c c__law_all_links hr (by decide) rfl (pa_cons (pv 0) pa_nil))) (blkOk_by (own := [("column", 1)]) (N := ["columns", "column"]) (sc := C8.fnScope s__law_is_listed) (by decide +kernel)) (fun _ _ _ _ _ => (pg_name (i := 1) sc.nd rfl (Or.inl rfl))) (fun _ _ _ _ _ => pts_nil) (fun _ _ _ _ _ => (pe_cmpR op_notN' (pe_ix (ix_tupK (K := K) rfl) (pv 1) pe_int (fun _ _ => rfl)) pe_non (nomark _)))) pa_nil)))), ?_⟩
    walk_at "w"
    refine ⟨p, cs, rfl, hc, hl, fun q H1 hq e1 ⟨lvs, hlv, hcl⟩ => ?_⟩
    walk_at "w"
    intro D hD
    have ll := paired_len hcl
    have lf := List.length_filter_le Col.isLink cs
    refine compQ (cs.filter Col.isLink) (ColAt H1) (fun c => some c.lst.isSome) (fun v x => v = V.bl x) hD (SqL.of hlv) (by omega) hcl (fun y c hy hm H2 e2 kk kn hk hn => ?_) (fun acc H2 e2 ha hp => ?_)
    · obtain ⟨a, rfl, ha⟩ := hy
      have ha2 : H2 a = some (.tup c.vals) := e2 _ _ ha
      have hL : c.isLink = true := (List.mem_filter.mp hm).2
      walk_at "w"
      refine w_ixT (SqT.of ha2) (Col.at4 hL) ?_
      walk_at "w"
      exact hk _ _ _ (Ex.refl _) rfl (congrArg V.bl (vOpt_non c.lst))
    · rw [filterMap_some] at hp
      refine w_any (bs := (cs.filter Col.isLink).map fun c => c.lst.isSome) (SqL.of (vals_bls hp ▸ ha)) ?_
      have e3 : (((cs.filter Col.isLink).map fun c => c.lst.isSome).any id) = isListed cs := by
        unfold isListed
        rw [List.any_map, List.any_filter]
        congr 1
        funext c
        cases c <;> rfl
      rw [e3]
      exact k _ (e1.trans e2)
theorem ok_reach {f : Addr} {fd : FuncData} (D : C8.Def K mg "_law_reach" s__law_reach f fd) (b : Binds K fd ["tables", "name"] []) (B : Blt mg)
    (c__law_all_links : C8.Cal P w K mg base 1 "_law_all_links" (spAllLinks K) []) : C8.Cal P w K mg base 2 "_law_reach" (spReach K) [] := by
  have sc : FnScope ["tables", "name", "found", "other", "columns", "column"] ["tables", "name"] (C8.fnScope s__law_reach) := C8.fnScope_by (by decide +kernel)
  refine C8.cal0 D b .nil sc (fun vs H Q E h => ?_) (fun cdv A outer s H vs Q E hr h => ?_)
  · obtain ⟨_, _, _, rfl, _⟩ := h
    rfl
  · obtain ⟨p, ts, n, rfl, ⟨tvs, hx, ht⟩, hf, k⟩ := h
    refine ⟨_, (pss_cons (ps_set (i := 2) sc.nd rfl (Or.inl rfl) (pe_lst (pa_cons (pv 1) pa_nil)))
        (pss_cons (ps_for PassesOwn.never rfl (pi_reversedK (K := K) rfl (by rfl) B.reversed_ (pa_cons (pe_callTy (call_list_ofK (K := K) rfl) (by rfl) B.list_ (by decide +kernel) (pa_cons (pv 0) pa_nil)) pa_nil)) (pg_tupK (K := K) (n := 2) rfl rfl (pgs_cons (pg_name (i := 3) sc.nd rfl (Or.inl rfl)) (pgs_cons (pg_name (i := 4) sc.nd rfl (Or.inl rfl)) pgs_nil)))
        (pss_one (ps_if (pt_cmpR (op_in_seqK (K := K) rfl) (pv 3) (pv 2) (by rfl))
        (pss_one (ps_set (i := 2) sc.nd rfl (Or.inl rfl) (pe_op op_cat (pv 2) (pe_lc (own := [("column", 5)]) (g := (gName 5)) (by rfl) sc.nd (pi_listK (K := K) rfl (C8.pe_c c__law_all_links hr (by decide) rfl (pa_cons (pv 4) pa_nil))) (blkOk_by (own := [("column", 5)]) (N := ["tables", "name", "found", "other", "columns", "column"]) (sc := C8.fnScope s__law_reach) (by decide +kernel)) (fun _ _ _ _ _ => (pg_name (i := 5) sc.nd rfl (Or.inl rfl))) (fun _ _ _ _ _ => pts_nil) (fun _ _ _ _ _ => (pe_ix (ix_tupK (K := K) rfl) (pv 5) pe_int (fun _ _ => rfl)))))))
        pss_nil)))
        (pss_one (ps_ret (pv 2))))), ?_⟩
    have ll := paired_len ht
    walk_at "w"
    intro q0 hq0
    walk_at "w"
    refine w_listL (Evl.ex_l (Ex.new hq0) hx) fun l hl => ?_
    have q0l : q0 ≠ l := ne_of_none upd_same hl
    have hl0 : H l = none := Evl.fresh_back (Ex.new hq0) hl
    walk_at "w"
    refine loopV (xs := tvs) (fun d r σ' H' => Ex H H' ∧ H' l = some (.lst tvs) ∧ ∃ md mr, ts = md ++ mr ∧ TabsV H d md ∧ TabsV H r mr ∧ ∃ x y q, σ' = [some (.ref p), some (.str n), some (.ref q), x, y, none] ∧ H q = none ∧ H' q = some (.lst ((mr.foldr reachStep [n]).map V.str)))
      ⟨(Ex.new hq0).trans (Ex.new hl), upd_same, ts, [], by rw [List.append_nil], ht, .nil, _, _, q0, rfl, hq0, ?_⟩ (fun d r σ' H' _ h => SqL.of h.2.1) (fun d y r σ' H' hd h => ?_) (fun σ' H' h => ?_)
    · rw [upd_ne q0l]
      exact upd_same
    · obtain ⟨e', hl', md, mr, ets, pd, pr, x, y0, q, rfl, hq, hq'⟩ := h
      obtain ⟨md1, mt, emd, pd1, pt⟩ := paired_cut pd
      obtain ⟨t, mt1, emt, ⟨a, pc, rfl, ha, hc⟩, pt1⟩ := paired_cons pt
      cases pt1
      subst emt
      subst emd
      have tin : t ∈ ts := by rw [ets]; simp
      have lt := hf.2 t tin
      have lr : mr.length ≤ 20 := by
        have := hf.1
        rw [ets, List.length_append] at this
        omega
      have ha' := e' _ _ ha
      have fl : (mr.foldr reachStep [n]).length ≤ 1 + 20 * mr.length := reach_len (fun t' ht' => hf.2 t' (by rw [ets]; simp [ht'])) n
      walk_at "w"
      refine w_inStr (SqL.of hq') ?_
      walk_at "w"
      have fin : ∀ {H'' : Hp} {q'' : Addr} {z : List Str}, z = reachStep t (mr.foldr reachStep [n]) → Ex H H'' → H'' l = some (.lst tvs) → H q'' = none → H'' q'' = some (.lst (z.map V.str)) →
          (Ex H H'' ∧ H'' l = some (.lst tvs) ∧ ∃ md' mr', ts = md' ++ mr' ∧ TabsV H d md' ∧ TabsV H (.ref a :: r) mr' ∧ ∃ x y q, [some (V.ref p), some (.str n), some (.ref q''), some (.str t.1), some (.ref pc), none] = [some (.ref p), some (.str n), some (.ref q), x, y, none] ∧ H q = none ∧ H'' q = some (.lst ((mr'.foldr reachStep [n]).map V.str))) := fun {H'' q'' z} ez e hl2 hq2 hz =>
        ⟨e, hl2, md1, t :: mr, by rw [ets, List.append_assoc]; rfl, pd1, .cons ⟨a, pc, rfl, ha, hc⟩ pr, _, _, q'', rfl, hq2, by rw [hz, ez]; rfl⟩
      refine iteD (fun h1 => ?_) (fun h1 => ?_)
      · walk_at "w"
        refine ⟨pc, t.2, rfl, (hc.ext e').read, by omega, fun q1 H1 hq1 e1 ⟨lvs, hlv, hcl⟩ => ?_⟩
        walk_at "w"
        intro D hD
        have l1 := paired_len hcl
        have l2 := List.length_filter_le Col.isLink t.2
        have eD : Ex H H1 := e'.trans e1
        refine compQ (t.2.filter Col.isLink) (ColAt H1) (fun c => some c.target) (fun v x => v = V.str x) hD (SqL.of hlv) (by omega) hcl (fun y c hy hm H2 e2 kk kn hk hn => ?_) (fun acc H2 e2 ha2 hp => ?_)
        · obtain ⟨a2, rfl, ha2⟩ := hy
          have ha3 : H2 a2 = some (.tup c.vals) := e2 _ _ ha2
          have hL : c.isLink = true := (List.mem_filter.mp hm).2
          walk_at "w"
          refine w_ixT (SqT.of ha3) (Col.at2 hL) ?_
          exact hk _ _ _ (Ex.refl _) rfl rfl
        · rw [filterMap_some] at hp
          have ev := vals_strs hp
          refine w_cat ((e1.trans e2) _ _ hq') ha2 (Nat.le_trans ?_ (show 100000 ≤ sizeLine by decide)) fun q2 hq2 => ?_
          · rw [ev, List.length_map, List.length_map, List.length_map]
            omega
          · walk_at "w"
            refine fin (z := (mr.foldr reachStep [n]) ++ (t.2.filter Col.isLink).map Col.target) (reachStep_in h1).symm ((eD.trans e2).trans (Ex.new hq2)) ((e1.trans e2).trans (Ex.new hq2) _ _ hl') (Evl.fresh_back (eD.trans e2) hq2) ?_
            rw [upd_same, ev, List.map_append]
      · walk_at "w"
        exact fin (z := mr.foldr reachStep [n]) (reachStep_out h1).symm e' hl' hq hq'
    · obtain ⟨e', hl', md, mr, ets, pd, pr, x, y0, q, rfl, hq, hq'⟩ := h
      cases pd
      have ets : ts = mr := ets
      walk_at "w"
      exact k q H' hq e' (by rw [hq', ets]; rfl)
end
end LP
namespace LP
open PySem L2
open Evl (Ex)
section
variable {base : Heap} {mg : Str → Option Value} {K : PySem.W.Frag} {w : World} {P : Program}
theorem ok_is_heavy {f : Addr} {fd : FuncData} (D : C8.Def K mg "_law_is_heavy" s__law_is_heavy f fd) (b : Binds K fd ["tables", "column"] []) (B : Blt mg)
    (c__law_reach : C8.Cal P w K mg base 2 "_law_reach" (spReach K) []) (c__law_is_listed : C8.Cal P w K mg base 2 "_law_is_listed" (spIsListed K) []) : C8.Cal P w K mg base 3 "_law_is_heavy" (spIsHeavy K) [] := by
  have sc : FnScope ["tables", "column", "leads", "name", "columns"] ["tables", "column"] (C8.fnScope s__law_is_heavy) := C8.fnScope_by (by decide +kernel)
  refine C8.cal0 D b .nil sc (fun vs H Q E h => ?_) (fun cdv A outer s H vs Q E hr h => ?_)
  · obtain ⟨_, _, _, _, rfl, _⟩ := h
    rfl
  · obtain ⟨p, ts, v, c, rfl, hT, hf, ⟨a, rfl, ha⟩, k⟩ := h
    refine ⟨_, (pss_cons (ps_if (pt_cmpR op_ne (pe_ix (ix_tupK (K := K) rfl) (pv 1) pe_int (fun _ _ => rfl)) pe_str (nomark _))
        (pss_one (ps_ret pe_bl))
        pss_nil)
        (pss_cons (ps_set (i := 2) sc.nd rfl (Or.inr rfl) (C8.pe_c c__law_reach hr (by decide) rfl (pa_cons (pv 0) (pa_cons (pe_ix (ix_tupK (K := K) rfl) (pv 1) pe_int (fun _ _ => rfl)) pa_nil))))
        (pss_one (ps_ret (pe_callB (cr_anyK (K := K) rfl rfl) (by rfl) B.any_ (by decide +kernel) (pa_cons (pe_lc (own := [("name", 3), ("columns", 4)]) (by rfl) sc.nd (pi_listK (K := K) rfl (pv 0)) (blkOk_by (own := [("name", 3), ("columns", 4)]) (N := ["tables", "column", "leads", "name", "columns"]) (sc := C8.fnScope s__law_is_heavy) (by decide +kernel)) (fun _ _ _ _ _ => (pg_tupK (K := K) (n := 2) rfl rfl (pgs_cons (pg_name (i := 3) sc.nd rfl (Or.inl rfl)) (pgs_cons (pg_name (i := 4) sc.nd rfl (Or.inl rfl)) pgs_nil)))) (fun _ _ _ _ _ => pts_nil) (fun _ _ _ _ _ => (pe_and (pe_cmpR (op_in_seqK (K := K) rfl) (pv 3) (pv 2) (by rfl)) (pe_one (C8.pe_c c__law_is_listed hr (by decide) rfl (pa_cons (pv 4) pa_nil)))))) pa_nil)))))), ?_⟩
    walk_at "w"
    refine w_ixT (SqT.of ha) c.at0 ?_
    walk_at "w"
    rw [c.kind_link]
    cases hL : c.isLink with
    | false =>
      walk_at "w"
      have e : isHeavy ts c = false := by unfold isHeavy; rw [hL]; rfl
      have z := k _ (Ex.refl _)
      rw [e] at z
      exact z
    | true =>
      walk_at "w"
      refine w_ixT (SqT.of ha) (Col.at2 hL) ?_
      walk_at "w"
      refine ⟨p, ts, c.target, rfl, hT, hf, fun q H1 hq e1 hq1 => ?_⟩
      obtain ⟨tvs, hx, ht⟩ := hT.ext e1
      have ll := paired_len ht
      walk_at "w"
      intro D hD
      have l1 := hf.1
      refine compQ ts (TabAt H1) (fun t => some (decide (t.1 ∈ reach ts c.target) && isListed t.2)) (fun v x => v = V.bl x) hD hx (by omega) ht (fun y t hy hm H2 e2 kk kn hk hn => ?_) (fun acc H2 e2 ha hp => ?_)
      · obtain ⟨a2, pc, rfl, ha2, hc2⟩ := hy
        have ha3 := e2 _ _ ha2
        walk_at "w"
        refine w_inStr (SqL.of (e2 _ _ hq1)) ?_
        walk_at "w"
        refine iteD (fun h => ?_) (fun h => ?_)
        · walk_at "w"
          refine ⟨pc, t.2, rfl, (hc2.ext e2).read, hf.2 t hm, fun H3 e3 => ?_⟩
          refine hk _ _ _ e3 rfl ?_
          rw [decide_eq_true h]
          rfl
        · refine hk _ _ _ (Ex.refl _) rfl ?_
          rw [decide_eq_false h]
          rfl
      · rw [filterMap_some] at hp
        refine w_any (bs := ts.map fun t => decide (t.1 ∈ reach ts c.target) && isListed t.2) (SqL.of (vals_bls hp ▸ ha)) ?_
        have e3 : ((ts.map fun t => decide (t.1 ∈ reach ts c.target) && isListed t.2).any id) = isHeavy ts c := by
          unfold isHeavy
          rw [hL, List.any_map]
          rfl
        rw [e3]
        exact k _ (e1.trans e2)
theorem links_comp {K : PySem.W.Frag} {a0 a1 a3 a4 a5 a6 : Option V} {tg : Str} {cs : List Col} {te : TE} {H : Hp} {Q : VK} (hl : cs.length ≤ 20)
    (hte : ∀ R : VK, (∀ q1 H1, H q1 = none → Ex H H1 → ColsAt H1 q1 (cs.filter Col.isLink) → R (.ref q1) H1) → te [a0, a1, some (.str tg), a3, a4, a5, a6] H R)
    (hQ : ∀ D H2, H D = none → Ex H H2 → H2 D = some (.lst ((linkLists cs tg).map vOpt)) → Q (.ref D) H2) :
    tLc (iList K te) (gName 6) (tTest (tOp rEq (tOp (rIxT K) (tVar 6) (tC (.int 2))) (tVar 2))) (tOp (rIxT K) (tVar 6) (tC (.int 4))) [6] [a0, a1, some (.str tg), a3, a4, a5, a6] H Q := by
  walk_at "w"
  refine hte _ fun q1 H1 hq1 e1 ⟨lvs, hlv, hcl⟩ => ?_
  walk_at "w"
  intro D hD
  have l1 := paired_len hcl
  have l2 := List.length_filter_le Col.isLink cs
  refine compQ (cs.filter Col.isLink) (ColAt H1) (fun c => if decide (c.target = tg) = true then some c.lst else none) (fun v x => v = vOpt x) hD (SqL.of hlv) (by omega) hcl (fun y c hy hm H2 e2 kk kn hk hn => ?_) (fun acc H2 e2 ha2 hp => ?_)
  · obtain ⟨a2, rfl, ha2⟩ := hy
    have ha3 : H2 a2 = some (.tup c.vals) := e2 _ _ ha2
    have hL : c.isLink = true := (List.mem_filter.mp hm).2
    walk_at "w"
    refine w_ixT (SqT.of ha3) (Col.at2 hL) ?_
    walk_at "w"
    rw [show decide (V.str c.target = V.str tg) = decide (c.target = tg) by simp]
    refine iteD (fun h => ?_) (fun h => ?_)
    · walk_at "w"
      refine w_ixT (SqT.of ha3) (Col.at4 hL) ?_
      exact hk _ _ _ (Ex.refl _) (by rw [decide_eq_true h]; rfl) rfl
    · exact hn _ (Ex.refl _) (by rw [decide_eq_false h]; rfl)
  · rw [filterMap_ifm] at hp
    refine hQ D H2 (Evl.fresh_back e1 hD) (e1.trans e2) ?_
    rw [ha2, vals_opts hp]
    unfold linkLists
    rw [List.filter_filter]
    congr 4
    exact List.filter_congr fun c _ => Bool.and_comm _ _
theorem ll_len (cs : List Col) (tg : Str) : (linkLists cs tg).length ≤ cs.length := by
  unfold linkLists
  rw [List.length_map]
  exact List.length_filter_le _ _
theorem ok_names_taken {f : Addr} {fd : FuncData} (D : C8.Def K mg "_law_names_taken" s__law_names_taken f fd) (b : Binds K fd ["tables", "columns", "target"] [])
    (c__law_all_links : C8.Cal P w K mg base 1 "_law_all_links" (spAllLinks K) []) : C8.Cal P w K mg base 2 "_law_names_taken" (spNamesTaken K) [] := by
  have sc : FnScope ["tables", "columns", "target", "found", "name", "others", "column"] ["tables", "columns", "target"] (C8.fnScope s__law_names_taken) := C8.fnScope_by (by decide +kernel)
  refine C8.cal0 D b .nil sc (fun vs H Q E h => ?_) (fun cdv A outer s H vs Q E hr h => ?_)
  · obtain ⟨_, _, _, _, _, rfl, _⟩ := h
    rfl
  · obtain ⟨p, r, ts, cs, tg, rfl, hT, hf, hC, hl, k⟩ := h
    refine ⟨_, (pss_cons (ps_set (i := 3) sc.nd rfl (Or.inl rfl) (pe_lst pa_nil))
        (pss_cons (ps_for PassesOwn.never rfl (pi_listK (K := K) rfl (pv 0)) (pg_tupK (K := K) (n := 2) rfl rfl (pgs_cons (pg_name (i := 4) sc.nd rfl (Or.inl rfl)) (pgs_cons (pg_name (i := 5) sc.nd rfl (Or.inl rfl)) pgs_nil)))
        (pss_cons (ps_set (i := 3) sc.nd rfl (Or.inl rfl) (pe_op op_cat (pv 3) (pe_lc (own := [("column", 6)]) (g := (gName 6)) (by rfl) sc.nd (pi_listK (K := K) rfl (C8.pe_c c__law_all_links hr (by decide) rfl (pa_cons (pv 5) pa_nil))) (blkOk_by (own := [("column", 6)]) (N := ["tables", "columns", "target", "found", "name", "others", "column"]) (sc := C8.fnScope s__law_names_taken) (by decide +kernel)) (fun _ _ _ _ _ => (pg_name (i := 6) sc.nd rfl (Or.inl rfl))) (fun _ _ _ _ _ => pts_one (pt_cmpR op_eq (pe_ix (ix_tupK (K := K) rfl) (pv 6) pe_int (fun _ _ => rfl)) (pv 2) (nomark _))) (fun _ _ _ _ _ => (pe_ix (ix_tupK (K := K) rfl) (pv 6) pe_int (fun _ _ => rfl))))))
        (pss_one (ps_if (pt_cmpR op_eq (pv 4) (pv 2) (nomark _))
        (pss_one (ps_set (i := 3) sc.nd rfl (Or.inl rfl) (pe_op op_cat (pv 3) (pe_lc (own := [("column", 6)]) (g := (gName 6)) (by rfl) sc.nd (pi_listK (K := K) rfl (pv 5)) (blkOk_by (own := [("column", 6)]) (N := ["tables", "columns", "target", "found", "name", "others", "column"]) (sc := C8.fnScope s__law_names_taken) (by decide +kernel)) (fun _ _ _ _ _ => (pg_name (i := 6) sc.nd rfl (Or.inl rfl))) (fun _ _ _ _ _ => pts_nil) (fun _ _ _ _ _ => (pe_ix (ix_tupK (K := K) rfl) (pv 6) pe_int (fun _ _ => rfl)))))))
        pss_nil))))
        (pss_one (ps_ret (pe_op op_cat (pv 3) (pe_lc (own := [("column", 6)]) (g := (gName 6)) (by rfl) sc.nd (pi_listK (K := K) rfl (C8.pe_c c__law_all_links hr (by decide) rfl (pa_cons (pv 1) pa_nil))) (blkOk_by (own := [("column", 6)]) (N := ["tables", "columns", "target", "found", "name", "others", "column"]) (sc := C8.fnScope s__law_names_taken) (by decide +kernel)) (fun _ _ _ _ _ => (pg_name (i := 6) sc.nd rfl (Or.inl rfl))) (fun _ _ _ _ _ => pts_one (pt_cmpR op_eq (pe_ix (ix_tupK (K := K) rfl) (pv 6) pe_int (fun _ _ => rfl)) (pv 2) (nomark _))) (fun _ _ _ _ _ => (pe_ix (ix_tupK (K := K) rfl) (pv 6) pe_int (fun _ _ => rfl))))))))), ?_⟩
    obtain ⟨tvs, hx, ht⟩ := hT
    walk_at "w"
    intro q0 hq0
    have hx0 : SqL K (upd H q0 (.lst [])) p tvs := Evl.ex_l (Ex.new hq0) hx
    walk_at "w"
    have ll := paired_len ht
    have l1 := hf.1
    refine loopL (xs := tvs) (fun d r' σ' H' => Ex H H' ∧ ∃ md mr, ts = md ++ mr ∧ TabsV H d md ∧ TabsV H r' mr ∧ ∃ x y q, σ' = [some (.ref p), some (.ref r), some (.str tg), some (.ref q), x, y, none] ∧ H q = none ∧ H' q = some (.lst ((md.flatMap (takenStep tg)).map vOpt)))
      ⟨Ex.new hq0, [], ts, rfl, .nil, ht, _, _, q0, rfl, hq0, (by exact upd_same)⟩ (fun d r σ' H' _ h => Evl.ex_l h.1 hx) (fun d y r' σ' H' hd h => ?_) (fun σ' H' h => ?_)
    · obtain ⟨e', md, mr, ets, pd, pr, x, y0, q, rfl, hq, hq'⟩ := h
      obtain ⟨t, mr1, emr, ⟨a, pc, rfl, ha, hc⟩, pr1⟩ := paired_cons pr
      subst emr
      have tin : t ∈ ts := by rw [ets]; simp
      have lt := hf.2 t tin
      have ha' := e' _ _ ha
      have lm : md.length ≤ 20 := by
        rw [ets, List.length_append] at l1
        omega
      have fl := taken_len tg (ts := md) (fun t' ht' => hf.2 t' (by rw [ets]; simp [ht']))
      have lk := ll_len t.2 tg
      have sz : ∀ m : Nat, m ≤ 100000 → m ≤ sizeLine := fun m h => Nat.le_trans h (by decide)
      walk_at "ws"
      refine links_comp (cs := t.2) lt (fun R hR => ?_) (fun D H2 hD e2 ha2 => ?_)
      · walk_at "w"
        exact ⟨pc, t.2, rfl, (hc.ext e').read, lt, hR⟩
      · refine w_cat (e2 _ _ hq') ha2 (sz _ (by rw [List.length_map, List.length_map]; omega)) fun q2 hq2 => ?_
        rw [← List.map_append]
        have e3 : Ex H (upd H2 q2 (.lst (((md.flatMap (takenStep tg)) ++ linkLists t.2 tg).map vOpt))) := (e'.trans e2).trans (Ex.new hq2)
        have hq2' : H q2 = none := Evl.fresh_back (e'.trans e2) hq2
        walk_at "w"
        rw [show decide (V.str t.1 = V.str tg) = decide (t.1 = tg) by simp]
        refine iteD (fun h1 => ?_) (fun h1 => ?_)
        · obtain ⟨cvs, hcv, hcl⟩ := hc
          have hcv' := e3 _ _ hcv
          have l3 := paired_len hcl
          walk_at "w"
          intro D2 hD2
          refine compQ t.2 (ColAt H) (fun c => some (some c.name)) (fun v x => v = vOpt x) hD2 (SqL.of hcv') (by omega) hcl (fun y c hy hm H4 e4 kk kn hk hn => ?_) (fun acc H4 e4 ha4 hp4 => ?_)
          · obtain ⟨a4, rfl, ha4⟩ := hy
            have ha5 : H4 a4 = some (.tup c.vals) := (e3.trans e4) _ _ ha4
            walk_at "w"
            refine w_ixT (SqT.of ha5) c.at1 ?_
            exact hk _ _ _ (Ex.refl _) rfl rfl
          · rw [filterMap_some] at hp4
            have ev := vals_opts hp4
            refine w_cat (e4 _ _ upd_same) ha4 (sz _ (by rw [ev, List.length_map, List.length_map, List.length_map, List.length_append]; omega)) fun q3 hq3 => ?_
            walk_at "w"
            refine ⟨(e3.trans e4).trans (Ex.new hq3), md ++ [t], mr1, by rw [ets, List.append_assoc]; rfl, paired_app pd (.cons ⟨a, pc, rfl, ha, ⟨cvs, hcv, hcl⟩⟩ .nil), pr1, _, _, q3, rfl, Evl.fresh_back (e3.trans e4) hq3, ?_⟩
            rw [upd_same, ev, ← List.map_append, List.flatMap_append, List.append_assoc]
            congr 4
            rw [List.flatMap_cons, List.flatMap_nil, List.append_nil]
            unfold takenStep
            rw [if_pos h1]
        · walk_at "w"
          refine ⟨e3, md ++ [t], mr1, by rw [ets, List.append_assoc]; rfl, paired_app pd (.cons ⟨a, pc, rfl, ha, hc⟩ .nil), pr1, _, _, q2, rfl, hq2', ?_⟩
          rw [upd_same, List.flatMap_append, List.flatMap_cons, List.flatMap_nil, List.append_nil]
          unfold takenStep
          rw [if_neg h1, List.append_nil]
    · obtain ⟨e', md, mr, ets, pd, pr, x, y0, q, rfl, hq, hq'⟩ := h
      cases pr
      rw [List.append_nil] at ets
      subst ets
      have fl := taken_len tg (ts := ts) hf.2
      have lk := ll_len cs tg
      walk_at "ws"
      refine links_comp (cs := cs) hl (fun R hR => ?_) (fun D H2 hD e2 ha2 => ?_)
      · walk_at "w"
        exact ⟨r, cs, rfl, hC.ext e', hl, hR⟩
      · refine w_cat (e2 _ _ hq') ha2 (Nat.le_trans (m := 100000) (by rw [List.length_map, List.length_map]; omega) (by decide)) fun q2 hq2 => ?_
        refine k q2 _ (Evl.fresh_back (e'.trans e2) hq2) ((e'.trans e2).trans (Ex.new hq2)) ?_
        rw [upd_same, ← List.map_append]
        rfl
end
end LP
namespace LP
open PySem L2
open Evl (Ex)
section
variable {base : Heap} {mg : Str → Option Value} {K : PySem.W.Frag} {w : World} {P : Program}
theorem ok_allowed {f : Addr} {fd : FuncData} (D : C8.Def K mg "_law_allowed" s__law_allowed f fd) (b : Binds K fd ["tables", "columns"] []) (B : Blt mg)
    (c__law_all_links : C8.Cal P w K mg base 1 "_law_all_links" (spAllLinks K) []) (c__law_is_heavy : C8.Cal P w K mg base 3 "_law_is_heavy" (spIsHeavy K) []) : C8.Cal P w K mg base 4 "_law_allowed" (spAllowed K) [] := by
  have sc : FnScope ["tables", "columns", "listed", "column", "found"] ["tables", "columns"] (C8.fnScope s__law_allowed) := C8.fnScope_by (by decide +kernel)
  refine C8.cal0 D b .nil sc (fun vs H Q E h => ?_) (fun cdv A outer s H vs Q E hr h => ?_)
  · obtain ⟨_, _, _, _, rfl, _⟩ := h
    rfl
  · obtain ⟨p, r, ts, cs, rfl, hT, hf, ⟨cvs, hcv, hcc⟩, hl, hok, k⟩ := h
    refine ⟨_, (pss_cons (ps_setLc (i := 2) (own := [("column", 3)]) (g := (gName 3)) (by rfl) sc.nd rfl rfl (sw_true rfl rfl rfl (by decide +kernel)) (pi_listK (K := K) rfl (C8.pe_c c__law_all_links hr (by decide) rfl (pa_cons (pv 1) pa_nil))) (blkOk_by (own := [("column", 3)]) (N := ["tables", "columns", "listed", "column", "found"]) (sc := C8.fnScope s__law_allowed) (by decide +kernel)) (fun _ _ _ _ _ => (pg_name (i := 3) sc.nd rfl (Or.inl rfl))) (fun _ _ _ _ _ => pts_one (pt_cmpR op_notN' (pe_ix (ix_tupK (K := K) rfl) (pv 3) pe_int (fun _ _ => rfl)) pe_non (nomark _))) (fun _ _ _ _ _ => (pv 3)))
        (pss_cons (ps_if (PW.pt (pw_or (pt_cmpR (op_eqDK (K := K) rfl (hu64 hr)) (pv 2) (pe_lst pa_nil) (nomark _)) (pw_or1 (pt_not (pt_val (pe_callB (cr_anyK (K := K) rfl rfl) (by rfl) B.any_ (by decide +kernel) (pa_cons (pe_lc (own := [("column", 3)]) (g := (gName 3)) (by rfl) sc.nd (pi_listK (K := K) rfl (pv 1)) (blkOk_by (own := [("column", 3)]) (N := ["tables", "columns", "listed", "column", "found"]) (sc := C8.fnScope s__law_allowed) (by decide +kernel)) (fun _ _ _ _ _ => (pg_name (i := 3) sc.nd rfl (Or.inl rfl))) (fun _ _ _ _ _ => pts_nil) (fun _ _ _ _ _ => (C8.pe_c c__law_is_heavy hr (by decide) rfl (pa_cons (pv 0) (pa_cons (pv 3) pa_nil))))) pa_nil)))))))
        (pss_one (ps_ret (pv 1)))
        pss_nil)
        (pss_cons (ps_set (i := 4) sc.nd rfl (Or.inl rfl) (pe_lst pa_nil))
        (pss_cons (ps_for PassesOwn.never rfl (pi_listK (K := K) rfl (pv 1)) (pg_name (i := 3) sc.nd rfl (Or.inl rfl))
        (pss_one (ps_if (PW.pt (pw_or (pt_cmpR op_ne (pe_ix (ix_tupK (K := K) rfl) (pv 3) pe_int (fun _ _ => rfl)) pe_str (nomark _)) (pw_or1 (pt_cmpR (op_eqDK (K := K) rfl (hu64 hr)) (pv 3) (pe_ix (ix_listK (K := K) rfl) (pv 2) pe_int (fun _ _ => rfl)) (nomark _)))))
        (pss_one (ps_expr (pe_bmK (K := K) rfl PySem.F.plainAttrs_list PySem.F.slot_list_append PySem.F.type_list_append mt_append (pv 4) (pa_cons (pv 3) pa_nil))))
        (pss_one (ps_if (pt_not (pt_val (C8.pe_c c__law_is_heavy hr (by decide) rfl (pa_cons (pv 0) (pa_cons (pv 3) pa_nil)))))
        (pss_one (ps_expr (pe_bmK (K := K) rfl PySem.F.plainAttrs_list PySem.F.slot_list_append PySem.F.type_list_append mt_append (pv 4) (pa_cons (pe_tup (pa_cons pe_str (pa_cons (pe_ix (ix_tupK (K := K) rfl) (pv 3) pe_int (fun _ _ => rfl)) (pa_cons (pe_ix (ix_tupK (K := K) rfl) (pv 3) pe_int (fun _ _ => rfl)) (pa_cons (pe_ix (ix_tupK (K := K) rfl) (pv 3) pe_int (fun _ _ => rfl)) (pa_cons pe_non pa_nil)))))) pa_nil))))
        pss_nil)))))
        (pss_one (ps_ret (pv 4))))))), ?_⟩
    walk_at "w"
    refine ⟨r, cs, rfl, ⟨cvs, SqL.of hcv, hcc⟩, hl, fun q1 H1 hq1 e1 ⟨lvs, hlv, hcl⟩ => ?_⟩
    have l1 := paired_len hcl
    have l2 := List.length_filter_le Col.isLink cs
    walk_at "w"
    intro D hD
    refine compQ (cs.filter Col.isLink) (ColAt H1) (fun c => if c.lst.isSome = true then some c else none) (ColAt H1) hD (SqL.of hlv) (by omega) hcl (fun y c hy hm H2 e2 kk kn hk hn => ?_) (fun acc H2 e2 hacc hp => ?_)
    · obtain ⟨a2, rfl, ha2⟩ := hy
      have ha3 : H2 a2 = some (.tup c.vals) := e2 _ _ ha2
      have hL : c.isLink = true := (List.mem_filter.mp hm).2
      walk_at "w"
      refine w_ixT (SqT.of ha3) (Col.at4 hL) ?_
      walk_at "w"
      rw [vOpt_non]
      refine iteB (fun h => ?_) (fun h => ?_)
      · walk_at "w"
        exact hk _ c _ (Ex.refl _) (by rw [if_pos h]) ⟨a2, rfl, ha2⟩
      · exact hn _ (Ex.refl _) (by rw [h]; rfl)
    · rw [filterMap_if, listed_link] at hp
      have e02 := e1.trans e2
      have okL : ∀ c ∈ listedOf cs, c.Ok := fun c hc => hok c (List.mem_filter.mp hc).1
      have hp2 : ColsV H2 acc (listedOf cs) := ColsV.ext e2 hp
      have hcv2 : H2 r = some (.lst cvs) := e02 _ _ hcv
      walk_at "w"
      intro q3 hq3
      have e23 : Ex H2 (upd H2 q3 (.lst [])) := Ex.new hq3
      refine ⟨.list ((listedOf cs).map Col.data), .list [], .lst (SqL.of (e23 _ _ hacc)) (ColsV.dp (ColsV.ext e23 hp2)), .lst (SqL.of upd_same) .nil, shapedL_cols okL, shaped_nil, ?_⟩
      rw [eqv_nil]
      have e03 : Ex H (upd H2 q3 (.lst [])) := e02.trans e23
      generalize (upd H2 q3 (.lst [])) = H3 at e23 e03 ⊢
      have back : ∀ {H' : Hp}, Ex H H' → allowed ts cs = cs → ColsAt H' r (allowed ts cs) := fun e ea => by
        rw [ea]
        exact ⟨cvs, e _ _ hcv, ColsV.ext e hcc⟩
      cases eL : listedOf cs with
      | nil =>
        rw [List.isEmpty_nil]
        walk_at "w"
        exact k r H3 e03 (back e03 (by unfold allowed; rw [eL]))
      | cons first rest =>
        rw [List.isEmpty_cons]
        rw [eL] at hp2
        have hok1 : first.Ok := okL first (by rw [eL]; exact List.mem_cons_self)
        have hcv3 : H3 r = some (.lst cvs) := e23 _ _ hcv2
        have hx3 : SqL K H3 r cvs := SqL.of hcv3
        have lc := paired_len hcc
        walk_at "w"
        intro D2 hD2
        refine compQ cs (ColAt H) (fun c => some (isHeavy ts c)) (fun v x => v = V.bl x) hD2 hx3 (by omega) hcc (fun y c hy hm H4 e4 kk kn hk hn => ?_) (fun acc2 H4 e4 hacc2 hp4 => ?_)
        · walk_at "w"
          exact ⟨p, ts, y, c, rfl, hT.ext (e03.trans e4), hf, hy.ext (e03.trans e4), fun H5 e5 => hk _ _ _ e5 rfl rfl⟩
        · rw [filterMap_some] at hp4
          walk_at "w"
          refine w_any (bs := cs.map (isHeavy ts)) (SqL.of (vals_bls hp4 ▸ hacc2)) ?_
          rw [show (cs.map (isHeavy ts)).any id = cs.any (isHeavy ts) by rw [List.any_map]; rfl]
          have e04 := e03.trans e4
          cases eA : cs.any (isHeavy ts) with
          | false =>
            walk_at "w"
            exact k r H4 e04 (back e04 (by unfold allowed; rw [eL]; show (if cs.any (isHeavy ts) = true then _ else cs) = cs; rw [eA]; rfl))
          | true =>
            walk_at "w"
            intro qf hqf
            have e45 : Ex H4 (upd H4 qf (.lst [])) := Ex.new hqf
            have hcv5 : SqL K (upd H4 qf (.lst [])) r cvs := SqL.of ((e04.trans e45) _ _ hcv)
            have hqH : H qf = none := Evl.fresh_back e04 hqf
            have e2f : Ex H2 H4 := e23.trans e4
            have hq2 : H2 qf = none := Evl.fresh_back e2f hqf
            walk_at "w"
            refine loopL (xs := cvs) (fun d r' σ' H' => Ex H2 H' ∧ ∃ md mr fvs x, cs = md ++ mr ∧ ColsV H d md ∧ ColsV H r' mr ∧ σ' = [some (.ref p), some (.ref r), some (.ref D), x, some (.ref qf)] ∧ H' qf = some (.lst fvs) ∧ ColsV H' fvs (md.filterMap (allowStep ts first)))
              ⟨e2f.trans e45, [], cs, [], _, rfl, .nil, hcc, rfl, (by exact upd_same), .nil⟩ (fun d r' σ' H' _ h => SqL.of (h.1 _ _ hcv2)) (fun d y r' σ' H' hd h => ?_) (fun σ' H' h => ?_)
            · obtain ⟨e', md, mr, fvs, x, ecs, pd, pr, rfl, hqf', hff⟩ := h
              obtain ⟨c, mr1, emr, hy, pr1⟩ := paired_cons pr
              subst emr
              have cin : c ∈ cs := by rw [ecs]; simp
              have e0' : Ex H H' := e02.trans e'
              obtain ⟨a, rfl, ha⟩ := id hy
              have ha' := e0' _ _ ha
              have lf : fvs.length ≤ 20 := by
                have h1 := paired_len hff
                have h2 := List.length_filterMap_le (allowStep ts first) md
                have h3 : cs.length = md.length + (mr1.length + 1) := by rw [ecs, List.length_append, List.length_cons]
                omega
              have fin : ∀ {H'' : Hp} {fvs' : List V}, Ex H2 H'' → H'' qf = some (.lst fvs') → ColsV H'' fvs' (md.filterMap (allowStep ts first) ++ (allowStep ts first c).toList) →
                  (Ex H2 H'' ∧ ∃ md' mr' fvs x, cs = md' ++ mr' ∧ ColsV H (d ++ [V.ref a]) md' ∧ ColsV H r' mr' ∧ [some (.ref p), some (.ref r), some (.ref D), some (.ref a), some (.ref qf)] = [some (V.ref p), some (.ref r), some (.ref D), x, some (.ref qf)] ∧ H'' qf = some (.lst fvs) ∧ ColsV H'' fvs (md'.filterMap (allowStep ts first))) := fun {H'' fvs'} e hq hc =>
                ⟨e, md ++ [c], mr1, fvs', _, by rw [ecs, List.append_assoc]; rfl, paired_app pd (.cons hy .nil), pr1, rfl, hq, by
                  rw [List.filterMap_append]
                  cases ea : allowStep ts first c with
                  | none =>
                    rw [List.filterMap_cons_none ea, List.filterMap_nil]
                    rw [ea] at hc
                    exact hc
                  | some c' =>
                    rw [List.filterMap_cons_some ea, List.filterMap_nil]
                    rw [ea] at hc
                    exact hc⟩
              have keep : allowStep ts first c = some c → (Ex H2 (upd H' qf (.lst (fvs ++ [.ref a]))) ∧ ∃ md' mr' fvz x, cs = md' ++ mr' ∧ ColsV H (d ++ [V.ref a]) md' ∧ ColsV H r' mr' ∧ [some (.ref p), some (.ref r), some (.ref D), some (.ref a), some (.ref qf)] = [some (V.ref p), some (.ref r), some (.ref D), x, some (.ref qf)] ∧ (upd H' qf (.lst (fvs ++ [.ref a]))) qf = some (.lst fvz) ∧ ColsV (upd H' qf (.lst (fvs ++ [.ref a]))) fvz (md'.filterMap (allowStep ts first))) := fun ea =>
                fin (e'.mut hq2) upd_same (by rw [ea]; exact paired_app (ColsV.upd hqf' hff) (.cons (ColAt.upd hqf' ⟨a, rfl, ha'⟩) .nil))
              walk_at "w"
              refine w_ixT (SqT.of ha') c.at0 ?_
              walk_at "w"
              rw [c.kind_link]
              cases hL : c.isLink with
              | false =>
                walk_at "w"
                exact keep (by unfold allowStep; rw [if_pos (.inl hL)])
              | true =>
                obtain ⟨v1, accr, rfl⟩ : ∃ v1 accr, acc = v1 :: accr := by
                  cases hp2 with
                  | cons => exact ⟨_, _, rfl⟩
                obtain ⟨_, _, ef, hv1, _⟩ := paired_cons hp2
                cases ef
                have hacc' : H' D = some (.lst (v1 :: accr)) := e' _ _ hacc
                walk_at "w"
                refine w_ixL (SqL.of hacc') (atI_nat (j := 0) rfl) ?_
                refine ⟨c.data, first.data, ColAt.dp ⟨a, rfl, ha'⟩, ColAt.dp (ColAt.ext e' hv1), Col.shaped (hok c cin), Col.shaped hok1, ?_⟩
                rw [Col.eqv]
                walk_at "w"
                refine iteD (fun h1 => ?_) (fun h1 => ?_)
                · walk_at "w"
                  exact keep (by unfold allowStep; rw [if_pos (.inr h1)])
                · walk_at "w"
                  refine ⟨p, ts, .ref a, c, rfl, hT.ext e0', hf, ⟨a, rfl, ha'⟩, fun H5 e5 => ?_⟩
                  have hqf5 := e5 _ _ hqf'
                  have no : ¬ (c.isLink = false ∨ c = first) := fun z => z.elim (fun z => by rw [hL] at z; cases z) h1
                  cases eh : isHeavy ts c with
                  | true =>
                    walk_at "w"
                    exact fin (e'.trans e5) hqf5 (by unfold allowStep; rw [if_neg no, if_pos eh]; show ColsV H5 fvs (_ ++ []); rw [List.append_nil]; exact hff.ext e5)
                  | false =>
                    have ha5 := e5 _ _ ha'
                    walk_at "w"
                    refine w_ixT (SqT.of ha5) c.at1 ?_
                    walk_at "w"
                    refine w_ixT (SqT.of ha5) (Col.at2 hL) ?_
                    walk_at "w"
                    refine w_ixT (SqT.of ha5) (Col.at3 hL) ?_
                    walk_at "w"
                    intro pt hpt
                    have hqf6 : (upd H5 pt (.tup [.str "link", .str c.name, .str c.target, .bl c.opt, .non])) qf = some (.lst fvs) := (Ex.new hpt) _ _ hqf5
                    walk_at "w"
                    refine fin ((e'.trans (e5.trans (Ex.new hpt))).mut hq2) upd_same ?_
                    unfold allowStep
                    rw [if_neg no, if_neg (by rw [eh]; exact Bool.false_ne_true)]
                    refine paired_app (ColsV.upd hqf6 (hff.ext (e5.trans (Ex.new hpt)))) (.cons (ColAt.upd hqf6 ⟨pt, rfl, ?_⟩) .nil)
                    rw [upd_same]
                    cases c with
                    | link n t o l => rfl
                    | plain f n => cases hL
                    | word n o => cases hL
            · obtain ⟨e', md, mr, fvs, x, ecs, pd, pr, rfl, hqf', hff⟩ := h
              cases pr
              rw [List.append_nil] at ecs
              subst ecs
              walk_at "w"
              refine k qf H' (e02.trans e') ⟨fvs, hqf', ?_⟩
              rw [show allowed ts cs = cs.filterMap (allowStep ts first) by unfold allowed; rw [eL]; show (if cs.any (isHeavy ts) = true then _ else cs) = _; rw [eA]; rfl]
              exact hff
end
end LP
namespace LP
open PySem L2
open Evl (Ex)
/-- what is carried through a turn -/
structure Car (b qc : Addr) (cs : List Col) (cvs : List V) (H H' : Hp) : Prop where
  ex : Ex (del b H) H'
  hq : H' qc = some (.lst cvs)
  hc : ColsV (del b H') cvs cs
theorem Car.step {b qc : Addr} {cs : List Col} {cvs : List V} {H H' H'' : Hp} (ne : qc ≠ b) (c : Car b qc cs cvs H H') (e : Ex (del b H') H'') : Car b qc cs cvs H H'' :=
  ⟨ex_dtrans c.ex e, e _ _ (by rw [del_ne ne]; exact c.hq), c.hc.ext (ex_dd e)⟩
theorem Car.new {b qc : Addr} {cs : List Col} {cvs : List V} {H H' H'' : Hp} (ne : qc ≠ b) (c : Car b qc cs cvs H H') (e : Ex H' H'') : Car b qc cs cvs H H'' := c.step ne (ex_del.trans e)
def DCInv (b p qc : Addr) (most : Int) (ts : Tabs) (n : Nat) (H : Hp) (i : Nat) (σ' : L2.St) (H' : Hp) : Prop :=
  ∃ x4 x5 x6 x8 x9 x12 cvs cs, σ' = [some (.ref b), some (.ref p), some (.int most), some (.ref qc), x4, x5, x6, none, x8, x9, none, none, x12] ∧ BagAt H' b (n + 1 + 24 * i) ∧ Car b qc cs cvs H H' ∧ PreCols ts cs ∧ cs.length ≤ i
theorem DCInv.app {b p qc : Addr} {most : Int} {ts : Tabs} {n i m : Nat} {H H8 : Hp} {cs : List Col} {cvs : List V} {c : Col} {pt : Addr} {x4 x5 x6 x8 x9 x12 : Option V} (fqc : del b H qc = none) (ne : qc ≠ b) (hB : BagAt H8 b m) (hm : m ≤ n + 1 + 24 * (i + 1)) (car : Car b qc cs cvs H H8)
    (pre : PreCols ts (cs ++ [c])) (l : cs.length ≤ i) (hpt : H8 pt = none) :
    DCInv b p qc most ts n H (i + 1) [some (.ref b), some (.ref p), some (.int most), some (.ref qc), x4, x5, x6, none, x8, x9, none, none, x12] (upd (upd H8 pt (.tup c.vals)) qc (.lst (cvs ++ [.ref pt]))) := by
  have car2 := car.new ne (Ex.new (o := .tup c.vals) hpt)
  have hB2 := hB.new (o := .tup c.vals) hpt
  have hB3 : BagAt (upd (upd H8 pt (.tup c.vals)) qc (.lst (cvs ++ [.ref pt]))) b m := hB2.upd ne.symm
  refine ⟨x4, x5, x6, x8, x9, x12, cvs ++ [.ref pt], cs ++ [c], rfl, hB3.mono hm, ⟨car2.ex.mut fqc, upd_same, ?_⟩, pre, by rw [List.length_append]; show cs.length + 1 ≤ i + 1; omega⟩
  exact ColsV.del hB3 (paired_app (ColsV.upd car2.hq (car2.hc.ext ex_del)) (.cons (ColAt.upd car2.hq ⟨pt, rfl, upd_same⟩) .nil))
section
variable {base : Heap} {mg : Str → Option Value} {K : PySem.W.Frag} {w : World} {P : Program}
theorem ok_draw_columns {f : Addr} {fd : FuncData} (D : C8.Def K mg "_law_draw_columns" s__law_draw_columns f fd) (b : Binds K fd ["bag", "tables", "most"] []) (B : Blt mg)
    (c__law_take : C8.Cal P w K mg base 1 "_law_take" spTake []) (c__law_of : C8.Cal P w K mg base 2 "_law_of" (spOf K) []) (c__law_new_name : C8.Cal P w K mg base 3 "_law_new_name" (spNewName K) [])
    (c__law_names_taken : C8.Cal P w K mg base 2 "_law_names_taken" (spNamesTaken K) []) (c__law_allowed : C8.Cal P w K mg base 4 "_law_allowed" (spAllowed K) []) :
    C8.Cal P w K mg base 5 "_law_draw_columns" (spDrawColumns K) [] := by
  have sc : FnScope ["bag", "tables", "most", "columns", "turn", "name", "road", "column", "may_lack_v", "target", "table", "others", "listed"] ["bag", "tables", "most"] (C8.fnScope s__law_draw_columns) := C8.fnScope_by (by decide +kernel)
  refine C8.cal0 D b .nil sc (fun vs H Q E h => ?_) (fun cdv A outer s H vs Q E hr h => ?_)
  · obtain ⟨_, _, _, _, _, rfl, _⟩ := h
    rfl
  · obtain ⟨b, p, ts, most, n, rfl, hB, hn, hT, hG, hl, hm0, hm1, k⟩ := h
    refine ⟨_, (pss_cons (ps_set (i := 3) sc.nd rfl (Or.inl rfl) (pe_lst pa_nil))
        (pss_cons (ps_for PassesOwn.never rfl (pi_range1 (by rfl) B.range_ (pa_cons (C8.pe_c c__law_take hr (by decide) rfl (pa_cons (pv 0) (pa_cons (pe_op op_add (pv 2) pe_int) pa_nil))) pa_nil)) (pg_name (i := 4) sc.nd rfl (Or.inl rfl))
        (pss_cons (ps_par (i := 5) (j := 6) (by rfl) sc.nd rfl rfl (by decide) rfl rfl (pa_cons (C8.pe_c c__law_new_name hr (by decide) rfl (pa_cons (pv 0) (pa_cons (pe_lc (own := [("column", 7)]) (g := (gName 7)) (by rfl) sc.nd (pi_listK (K := K) rfl (pv 3)) (blkOk_by (own := [("column", 7)]) (N := ["bag", "tables", "most", "columns", "turn", "name", "road", "column", "may_lack_v", "target", "table", "others", "listed"]) (sc := C8.fnScope s__law_draw_columns) (by decide +kernel)) (fun _ _ _ _ _ => (pg_name (i := 7) sc.nd rfl (Or.inl rfl))) (fun _ _ _ _ _ => pts_nil) (fun _ _ _ _ _ => (pe_ix (ix_tupK (K := K) rfl) (pv 7) pe_int (fun _ _ => rfl)))) pa_nil))) (pa_cons (C8.pe_c c__law_take hr (by decide) rfl (pa_cons (pv 0) (pa_cons pe_int pa_nil))) pa_nil)) (by rfl))
        (pss_cons (ps_set (i := 8) sc.nd rfl (Or.inl rfl) (pe_cmpR op_eq (C8.pe_c c__law_take hr (by decide) rfl (pa_cons (pv 0) (pa_cons pe_int pa_nil))) pe_int (nomark _)))
        (pss_one (ps_if (pt_cmpR op_lt (pv 6) pe_int (nomark _))
        (pss_one (ps_expr (pe_bmK (K := K) rfl PySem.F.plainAttrs_list PySem.F.slot_list_append PySem.F.type_list_append mt_append (pv 3) (pa_cons (pe_tup (pa_cons (C8.pe_c c__law_of hr (by decide) rfl (pa_cons (pv 0) (pa_cons (pe_lst (pa_cons pe_str (pa_cons pe_str pa_nil))) pa_nil))) (pa_cons (pv 5) pa_nil))) pa_nil))))
        (pss_one (ps_if (PW.pt (pw_or (pt_cmpR op_eq (pv 6) pe_int (nomark _)) (pw_or1 (pt_cmpR (op_eqDK (K := K) rfl (hu64 hr)) (pv 1) (pe_lst pa_nil) (nomark _)))))
        (pss_one (ps_expr (pe_bmK (K := K) rfl PySem.F.plainAttrs_list PySem.F.slot_list_append PySem.F.type_list_append mt_append (pv 3) (pa_cons (pe_tup (pa_cons pe_str (pa_cons (pv 5) (pa_cons (pv 8) pa_nil)))) pa_nil))))
        (pss_cons (ps_set (i := 9) sc.nd rfl (Or.inl rfl) (C8.pe_c c__law_of hr (by decide) rfl (pa_cons (pv 0) (pa_cons (pe_lc (own := [("table", 10), ("others", 11)]) (by rfl) sc.nd (pi_listK (K := K) rfl (pv 1)) (blkOk_by (own := [("table", 10), ("others", 11)]) (N := ["bag", "tables", "most", "columns", "turn", "name", "road", "column", "may_lack_v", "target", "table", "others", "listed"]) (sc := C8.fnScope s__law_draw_columns) (by decide +kernel)) (fun _ _ _ _ _ => (pg_tupK (K := K) (n := 2) rfl rfl (pgs_cons (pg_name (i := 10) sc.nd rfl (Or.inl rfl)) (pgs_cons (pg_name (i := 11) sc.nd rfl (Or.inl rfl)) pgs_nil)))) (fun _ _ _ _ _ => pts_nil) (fun _ _ _ _ _ => (pv 10))) pa_nil))))
        (pss_cons (ps_set (i := 12) sc.nd rfl (Or.inl rfl) (pe_ifExp (pt_cmpR op_gt (C8.pe_c c__law_take hr (by decide) rfl (pa_cons (pv 0) (pa_cons pe_int pa_nil))) pe_int (nomark _)) (C8.pe_c c__law_new_name hr (by decide) rfl (pa_cons (pv 0) (pa_cons (C8.pe_c c__law_names_taken hr (by decide) rfl (pa_cons (pv 1) (pa_cons (pv 3) (pa_cons (pv 9) pa_nil)))) pa_nil))) pe_non))
        (pss_one (ps_expr (pe_bmK (K := K) rfl PySem.F.plainAttrs_list PySem.F.slot_list_append PySem.F.type_list_append mt_append (pv 3) (pa_cons (pe_tup (pa_cons pe_str (pa_cons (pv 5) (pa_cons (pv 9) (pa_cons (pv 8) (pa_cons (pv 12) pa_nil)))))) pa_nil)))))))))))))
        (pss_one (ps_ret (C8.pe_c c__law_allowed hr (by decide) rfl (pa_cons (pv 1) (pa_cons (pv 3) pa_nil))))))), ?_⟩
    walk_at "w"
    intro qc hqc
    have bqc := hB.ne_none hqc
    walk_at "w"
    refine ⟨b, most + 1, n, rfl, hB.upd bqc, by omega, by omega, by omega, fun z H1 z0 z1 hB1 e1 => ?_⟩
    walk_at "w"
    have fqc : del b H qc = none := by rw [del_ne bqc.symm]; exact hqc
    have qcb : qc ≠ b := bqc.symm
    have ex1 : Ex (del b H) H1 := (ex_dd (ex_new_d hqc)).trans e1
    have hqc1 : H1 qc = some (.lst []) := e1 _ _ (by rw [del_ne qcb]; exact upd_same)
    refine loopR (DCInv b p qc most ts n H) ⟨_, _, _, _, _, _, [], [], rfl, hB1, ⟨ex1, hqc1, .nil⟩, PreCols.nil ts, Nat.le_refl _⟩ (fun i σ' H2 hi h => ?_) (fun σ' H2 h => ?_)
    · obtain ⟨x4, x5, x6, x8, x9, x12, cvs, cs, rfl, hB2, car2, pre, lcs⟩ := h
      have lcv := paired_len car2.hc
      have hq2 := car2.hq
      walk_at "w"
      intro D hD
      refine compQ cs (ColAt H2) (fun c => some (some c.name)) (fun v x => v = vOpt x) hD (SqL.of hq2) (by omega) (car2.hc.ext ex_del) (fun y c hy hm H3 e3 kk kn hk hn => ?_) (fun acc H3 e3 hacc hp => ?_)
      · obtain ⟨a, rfl, ha⟩ := hy
        have ha3 := e3 _ _ ha
        walk_at "w"
        refine w_ixT (SqT.of ha3) c.at1 ?_
        exact hk _ _ _ (Ex.refl _) rfl rfl
      · rw [filterMap_some] at hp
        have ev := vals_opts hp
        have Db : D ≠ b := (hB2.ne_none hD).symm
        have car3 := car2.new qcb e3
        walk_at "w"
        refine ⟨b, D, cs.map (fun c => some c.name), n + 1 + 24 * i, rfl, hB2.ext e3, by omega, SqL.of (by rw [del_ne Db, ← ev]; exact hacc), by rw [List.length_map]; omega, fun nw H4 hnw hfr hB4 e4 => ?_⟩
        have hfr' : nw ∉ cs.map Col.name := fun h => hfr (by obtain ⟨c, hc, rfl⟩ := List.mem_map.mp h; exact List.mem_map.mpr ⟨c, hc, rfl⟩)
        have car4 := car3.step qcb e4
        walk_at "w"
        refine ⟨b, 7, _, rfl, hB4, by omega, by decide, by decide, fun road H5 r0 r1 hB5 e5 => ?_⟩
        have car5 := car4.step qcb e5
        walk_at "w"
        refine ⟨b, 2, _, rfl, hB5, by omega, by decide, by decide, fun lk H6 k0 k1 hB6 e6 => ?_⟩
        have car6 := car5.step qcb e6
        have hq6 := car6.hq
        walk_at "w"
        generalize decide (V.int lk = V.int 1) = may
        refine iteD (fun h1 => ?_) (fun h1 => ?_)
        · walk_at "w"
          intro pl hpl
          have car7 := car6.new qcb (Ex.new (o := .lst [.str "flag", .str "number"]) hpl)
          have plb : pl ≠ b := (hB6.ne_none hpl).symm
          walk_at "w"
          refine ⟨b, pl, [.str "flag", .str "number"], _, rfl, hB6.new hpl, by omega, SqL.of (by rw [del_ne plb]; exact upd_same), by simp, by simp, fun v H8 hv hB8 e8 => ?_⟩
          have car8 := car7.step qcb e8
          obtain ⟨fl, rfl⟩ : ∃ fl : Bool, v = .str (if fl then "flag" else "number") := by
            rcases List.mem_cons.1 hv with rfl | hv
            · exact ⟨true, rfl⟩
            · rw [List.mem_singleton.1 hv]
              exact ⟨false, rfl⟩
          walk_at "w"
          intro pt hpt
          walk_at "w"
          have hq9 := (car8.new qcb (Ex.new (o := .tup (Col.plain fl nw).vals) hpt)).hq
          refine w_app hq9 (Nat.lt_of_lt_of_le (m := 1000) (by omega) (by decide)) ?_
          exact DCInv.app (c := .plain fl nw) fqc qcb hB8 (by omega) car8 (pre.snoc hnw hfr' (fun h => nomatch h) (fun l h => nomatch h)) lcs hpt
        · walk_at "w"
          have word : ∀ {H7 : Hp} {pt : Addr}, Ex H6 H7 → H7 pt = none → DCInv b p qc most ts n H (i + 1) [some (.ref b), some (.ref p), some (.int most), some (.ref qc), some (.int (i : Int)), some (.str nw), some (.int road), none, some (.bl may), x9, none, none, x12] (upd (upd H7 pt (.tup (Col.word nw may).vals)) qc (.lst (cvs ++ [.ref pt]))) := fun e7 hpt =>
            DCInv.app (c := .word nw may) fqc qcb (hB6.ext e7) (by omega) (car6.new qcb e7) (pre.snoc hnw hfr' (fun h => nomatch h) (fun l h => nomatch h)) lcs hpt
          refine iteD (fun h2 => ?_) (fun h2 => ?_)
          · walk_at "w"
            intro pt hpt
            walk_at "w"
            have hq9 := (car6.new qcb (Ex.new (o := .tup (Col.word nw may).vals) hpt)).hq
            refine w_app hq9 (Nat.lt_of_lt_of_le (m := 1000) (by omega) (by decide)) ?_
            exact word (Ex.refl _) hpt
          · walk_at "w"
            intro pn hpn
            have e67 : Ex H6 (upd H6 pn (.lst [])) := Ex.new hpn
            obtain ⟨tvs, hx, ht⟩ := (hT.ext (ex_dd (car6.new qcb e67).ex)).ext ex_del
            have hB7 := hB6.new (o := .lst []) hpn
            have car7 := car6.new qcb e67
            have hpn7 : (upd H6 pn (.lst [])) pn = some (.lst []) := upd_same
            generalize (upd H6 pn (.lst [])) = H7 at e67 hx ht hB7 car7 hpn7 ⊢
            refine ⟨.list (ts.map tData), .list [], .lst hx (TabsV.dp ht), .lst (SqL.of hpn7) .nil, shaped_tabs hG, shaped_nil, ?_⟩
            rw [eqv_tnil]
            have hq7 := car7.hq
            cases et : ts with
            | nil =>
              rw [List.isEmpty_nil]
              walk_at "w"
              intro pt hpt
              walk_at "w"
              have hq9 := (car7.new qcb (Ex.new (o := .tup (Col.word nw may).vals) hpt)).hq
              refine w_app hq9 (Nat.lt_of_lt_of_le (m := 1000) (by omega) (by decide)) ?_
              rw [← et]
              exact word e67 hpt
            | cons t0 tr =>
              rw [List.isEmpty_cons, ← et]
              walk_at "w"
              intro D9 hD9
              have hlt := paired_len ht
              refine compQ ts (TabAt H7) (fun t => some t.1) (fun v x => v = V.str x) hD9 hx (by omega) ht (fun y t hy hm H8 e8 kk kn hk hn => ?_) (fun acc9 H8 e8 hacc9 hp9 => ?_)
              · obtain ⟨a, pc, rfl, ha, _⟩ := hy
                have ha3 := e8 _ _ ha
                walk_at "w"
                exact hk _ _ _ (Ex.refl _) rfl rfl
              · rw [filterMap_some] at hp9
                have ev9 := vals_strs hp9
                have D9b : D9 ≠ b := (hB7.ne_none hD9).symm
                have car8 := car7.new qcb e8
                have hB8 := hB7.ext e8
                walk_at "w"
                refine ⟨b, D9, acc9, _, rfl, hB8, by omega, SqL.of (by rw [del_ne D9b]; exact hacc9), by rw [ev9, et]; simp, by rw [ev9, List.length_map, List.length_map]; omega, fun v H9 hv hB9 e9 => ?_⟩
                obtain ⟨tg, htg, rfl⟩ : ∃ tg, tg ∈ ts.map (·.1) ∧ v = V.str tg := by
                  rw [ev9] at hv
                  obtain ⟨tg, h, e⟩ := List.mem_map.mp hv
                  exact ⟨tg, h, e.symm⟩
                have car9 := car8.step qcb e9
                walk_at "w"
                refine ⟨b, 3, _, rfl, hB9, by omega, by decide, by decide, fun z3 H10 y0 y1 hB10 e10 => ?_⟩
                have car10 := car9.step qcb e10
                walk_at "w"
                refine iteD (fun h3 => ?_) (fun h3 => ?_)
                · walk_at "w"
                  refine ⟨p, qc, ts, cs, tg, rfl, (hT.ext (ex_dd car10.ex)).ext ex_del, hG.few (by omega), ⟨cvs, SqL.of car10.hq, car10.hc.ext ex_del⟩, by omega, fun q H11 hq e11 hq11 => ?_⟩
                  have qb : q ≠ b := (hB10.ne_none hq).symm
                  have car11 := car10.new qcb e11
                  have hB11 := hB10.ext e11
                  have tl := taken_len tg (ts := ts) (fun t ht => Nat.le_trans (hG.cols t ht) (by omega))
                  have tl2 := ll_len cs tg
                  walk_at "w"
                  refine ⟨b, q, namesTaken ts cs tg, _, rfl, hB11, by omega, SqL.of (by rw [del_ne qb]; exact hq11), by unfold namesTaken; rw [List.length_append]; omega, fun ln H12 hln hfr2 hB12 e12 => ?_⟩
                  have car12 := car11.step qcb e12
                  have hq12 := car12.hq
                  walk_at "w"
                  intro pt hpt
                  walk_at "w"
                  have hq13 := (car12.new qcb (Ex.new (o := .tup (Col.link nw tg may (some ln)).vals) hpt)).hq
                  refine w_app hq13 (Nat.lt_of_lt_of_le (m := 1000) (by omega) (by decide)) ?_
                  exact DCInv.app (c := .link nw tg may (some ln)) fqc qcb hB12 (by omega) car12 (pre.snoc hnw hfr' (fun _ => htg) (fun l h => by cases h; exact ⟨hln, hfr2⟩)) lcs hpt
                · have hq10 := car10.hq
                  walk_at "w"
                  intro pt hpt
                  walk_at "w"
                  have hq13 := (car10.new qcb (Ex.new (o := .tup (Col.link nw tg may none).vals) hpt)).hq
                  refine w_app hq13 (Nat.lt_of_lt_of_le (m := 1000) (by omega) (by decide)) ?_
                  exact DCInv.app (c := .link nw tg may none) fqc qcb hB10 (by omega) car10 (pre.snoc hnw hfr' (fun _ => htg) (fun l h => nomatch h)) lcs hpt
    · obtain ⟨x4, x5, x6, x8, x9, x12, cvs, cs, rfl, hB2, car2, pre, lcs⟩ := h
      walk_at "w"
      have hc2 : ColsAt H2 qc cs := ⟨cvs, car2.hq, car2.hc.ext ex_del⟩
      refine ⟨p, qc, ts, cs, rfl, hT.ext car2.ex, hG.few (by omega), hc2, by omega, pre.ok hG, fun q H3 e3 hq3 => ?_⟩
      have hB3 := hB2.ext e3
      have la := allowed_len ts cs
      exact k q H3 _ (hq3.del hB3) { toPreCols := pre.allowed, few := by omega, r6 := allowed_r6 hG pre } (hB3.mono (by omega)) (car2.ex.trans e3)
end
end LP
namespace LP
open PySem L2
open Evl (Ex)
theorem TabAt.dl {H : Hp} {b : Addr} {n : Nat} {v : V} {t : Str × List Col} (hB : BagAt H b n) (h : TabAt H v t) : TabAt (del b H) v t := by
  obtain ⟨a, p, ev, ha, hc⟩ := h
  exact ⟨a, p, ev, by rw [del_ne (hB.tup_ne ha)]; exact ha, hc.del hB⟩
theorem TabsV.dl {H : Hp} {b : Addr} {n : Nat} {vs : List V} {ts : Tabs} (hB : BagAt H b n) (h : TabsV H vs ts) : TabsV (del b H) vs ts := paired_imp (fun _ _ => TabAt.dl hB) h
theorem TabsV.refs {H : Hp} {vs : List V} {ts : Tabs} (h : TabsV H vs ts) : ∀ i j k : Int, vs ≠ [.int i, .int j, .int k] := by
  intro i j k e
  subst e
  cases h with
  | cons h _ =>
    obtain ⟨a, p, e, _⟩ := h
    cases e
theorem TabsAt.dl {H : Hp} {b q : Addr} {n : Nat} {ts : Tabs} (hB : BagAt H b n) (h : TabsAt H q ts) : TabsAt (del b H) q ts := by
  obtain ⟨vs, hq, hv⟩ := h
  exact ⟨vs, by rw [del_ne (hB.ne hq hv.refs)]; exact hq, hv.dl hB⟩
section
variable {base : Heap} {mg : Str → Option Value} {K : PySem.W.Frag} {w : World} {P : Program}
theorem ok_draw_tables {f : Addr} {fd : FuncData} (D : C8.Def K mg "_law_draw_tables" s__law_draw_tables f fd) (b : Binds K fd ["bag", "least", "most"] []) (B : Blt mg)
    (c__law_take : C8.Cal P w K mg base 1 "_law_take" spTake []) (c__law_of : C8.Cal P w K mg base 2 "_law_of" (spOf K) []) (c__law_new_name : C8.Cal P w K mg base 3 "_law_new_name" (spNewName K) [])
    (c__law_draw_columns : C8.Cal P w K mg base 5 "_law_draw_columns" (spDrawColumns K) []) :
    C8.Cal P w K mg base 6 "_law_draw_tables" (spDrawTables K) [] := by
  have sc : FnScope ["bag", "least", "most", "tables", "turn", "name", "table", "columns"] ["bag", "least", "most"] (C8.fnScope s__law_draw_tables) := C8.fnScope_by (by decide +kernel)
  refine C8.cal0 D b .nil sc (fun vs H Q E h => ?_) (fun cdv A outer s H vs Q E hr h => ?_)
  · obtain ⟨_, _, _, _, rfl, _⟩ := h
    rfl
  · obtain ⟨b, least, most, n, rfl, hB, hn, h1, h2, h3, k⟩ := h
    refine ⟨_, (pss_cons (ps_set (i := 3) sc.nd rfl (Or.inl rfl) (pe_lst pa_nil))
        (pss_cons (ps_for PassesOwn.never rfl (pi_range1 (by rfl) B.range_ (pa_cons (pe_op op_add (pv 1) (C8.pe_c c__law_take hr (by decide) rfl (pa_cons (pv 0) (pa_cons (pe_op op_sub (pe_op op_add (pv 2) pe_int) (pv 1)) pa_nil)))) pa_nil)) (pg_name (i := 4) sc.nd rfl (Or.inl rfl))
        (pss_cons (ps_set (i := 5) sc.nd rfl (Or.inl rfl) (C8.pe_c c__law_new_name hr (by decide) rfl (pa_cons (pv 0) (pa_cons (pe_lc (own := [("table", 6), ("columns", 7)]) (by rfl) sc.nd (pi_listK (K := K) rfl (pv 3)) (blkOk_by (own := [("table", 6), ("columns", 7)]) (N := ["bag", "least", "most", "tables", "turn", "name", "table", "columns"]) (sc := C8.fnScope s__law_draw_tables) (by decide +kernel)) (fun _ _ _ _ _ => (pg_tupK (K := K) (n := 2) rfl rfl (pgs_cons (pg_name (i := 6) sc.nd rfl (Or.inl rfl)) (pgs_cons (pg_name (i := 7) sc.nd rfl (Or.inl rfl)) pgs_nil)))) (fun _ _ _ _ _ => pts_nil) (fun _ _ _ _ _ => (pv 6))) pa_nil))))
        (pss_one (ps_set (i := 3) sc.nd rfl (Or.inl rfl) (pe_op op_cat (pv 3) (pe_lst (pa_cons (pe_tup (pa_cons (pv 5) (pa_cons (C8.pe_c c__law_draw_columns hr (by decide) rfl (pa_cons (pv 0) (pa_cons (pv 3) (pa_cons (C8.pe_c c__law_of hr (by decide) rfl (pa_cons (pv 0) (pa_cons (pe_lst (pa_cons pe_int (pa_cons pe_int (pa_cons pe_int (pa_cons pe_int pa_nil))))) pa_nil))) pa_nil)))) pa_nil))) pa_nil)))))))
        (pss_one (ps_ret (pv 3))))), ?_⟩
    walk_at "w"
    intro q0 hq0
    have hB0 := hB.new (o := .lst []) hq0
    walk_at "w"
    refine ⟨b, most + 1 - least, n, rfl, hB0, by omega, by omega, by omega, fun z H1 z0 z1 hB1 e1 => ?_⟩
    have ex1 : Ex (del b H) H1 := (ex_dd (ex_new_d hq0)).trans e1
    have q0b : q0 ≠ b := (hB.ne_none hq0).symm
    have hq1 : H1 q0 = some (.lst []) := e1 _ _ (by rw [del_ne q0b]; exact upd_same)
    walk_at "w"
    refine loopR (fun i σ' H' => ∃ x4 x5 q ts, σ' = [some (.ref b), some (.int least), some (.int most), some (.ref q), x4, x5, none, none] ∧ BagAt H' b (n + 1 + 300 * i) ∧ Ex (del b H) H' ∧ TabsAt (del b H') q ts ∧ GoodTabs ts ∧ ts.length = i)
      ⟨_, _, q0, [], rfl, hB1, ex1, ⟨[], by rw [del_ne q0b]; exact hq1, .nil⟩, .nil, rfl⟩ (fun i σ' H2 hi h => ?_) (fun σ' H2 h => ?_)
    · obtain ⟨x4, x5, q, ts, rfl, hB2, ex2, ⟨tvs, hq2, ht2⟩, hG, hl⟩ := h
      have hq2' : H2 q = some (.lst tvs) := ex_del _ _ hq2
      have ll := paired_len ht2
      walk_at "w"
      intro D hD
      refine compQ ts (TabAt H2) (fun t => some (some t.1)) (fun v x => v = vOpt x) hD (SqL.of hq2') (by omega) (ht2.ext ex_del) (fun y t hy hm H3 e3 kk kn hk hn => ?_) (fun acc H3 e3 hacc hp => ?_)
      · obtain ⟨a, pc, rfl, ha, _⟩ := hy
        have ha3 := e3 _ _ ha
        walk_at "w"
        exact hk _ _ _ (Ex.refl _) rfl rfl
      · rw [filterMap_some] at hp
        have ev := vals_opts hp
        have Db : D ≠ b := (hB2.ne_none hD).symm
        have hB3 := hB2.ext e3
        walk_at "w"
        refine ⟨b, D, ts.map (fun t => some t.1), _, rfl, hB3, by omega, SqL.of (by rw [del_ne Db, ← ev]; exact hacc), by rw [List.length_map]; omega, fun nw H4 hnw hfr hB4 e4 => ?_⟩
        have hfr' : nw ∉ ts.map (·.1) := fun h => hfr (by obtain ⟨t, ht, rfl⟩ := List.mem_map.mp h; exact List.mem_map.mpr ⟨t, ht, rfl⟩)
        walk_at "w"
        intro pl hpl
        have plb : pl ≠ b := (hB4.ne_none hpl).symm
        walk_at "w"
        refine ⟨b, pl, [.int 2, .int 3, .int 4, .int 6], _, rfl, hB4.new hpl, by omega, SqL.of (by rw [del_ne plb]; exact upd_same), by simp, by simp, fun v H5 hv hB5 e5 => ?_⟩
        obtain ⟨m, rfl, m0, m1⟩ : ∃ m : Int, v = .int m ∧ 0 ≤ m ∧ m ≤ 6 := by
          simp only [List.mem_cons, List.not_mem_nil, or_false] at hv
          rcases hv with rfl | rfl | rfl | rfl
          · exact ⟨2, rfl, by decide, by decide⟩
          · exact ⟨3, rfl, by decide, by decide⟩
          · exact ⟨4, rfl, by decide, by decide⟩
          · exact ⟨6, rfl, by decide, by decide⟩
        have e25 : Ex (del b H2) (del b H5) := ((ex_dd (ex_del.trans e3)).trans (ex_dd e4)).trans ((ex_dd (ex_new_d hpl)).trans (ex_dd e5))
        walk_at "w"
        refine ⟨b, q, ts, m, _, rfl, hB5, by omega, ⟨tvs, SqL.of (e25 _ _ hq2), ht2.ext e25⟩, hG, by omega, m0, m1, fun qc H6 cs hcs hgood hB6 e6 => ?_⟩
        have e26 : Ex (del b H2) (del b H6) := e25.trans (ex_dd e6)
        walk_at "w"
        intro pt hpt
        walk_at "w"
        intro p2 hp2
        walk_at "w"
        have e68 : Ex H6 (upd (upd H6 pt (.tup [.str nw, .ref qc])) p2 (.lst [.ref pt])) := (Ex.new hpt).trans (Ex.new hp2)
        have hpt8 : (upd (upd H6 pt (.tup [.str nw, .ref qc])) p2 (.lst [.ref pt])) pt = some (.tup [.str nw, .ref qc]) := (Ex.new hp2) _ _ upd_same
        have hp28 : (upd (upd H6 pt (.tup [.str nw, .ref qc])) p2 (.lst [.ref pt])) p2 = some (.lst [.ref pt]) := upd_same
        generalize (upd (upd H6 pt (.tup [.str nw, .ref qc])) p2 (.lst [.ref pt])) = H8 at e68 hpt8 hp28 ⊢
        refine w_cat (e68 _ _ (ex_del _ _ (e26 _ _ hq2))) hp28 (Nat.le_trans (m := 1000) (by rw [ll, List.length_cons, List.length_nil]; omega) (by decide)) fun q' hq' => ?_
        have hB9 := (hB6.ext e68).new (o := .lst (tvs ++ [.ref pt])) hq'
        have e89 : Ex H8 (upd H8 q' (.lst (tvs ++ [.ref pt]))) := Ex.new hq'
        have e69 : Ex H6 (upd H8 q' (.lst (tvs ++ [.ref pt]))) := e68.trans e89
        walk_at "w"
        refine ⟨_, _, q', ts ++ [(nw, cs)], rfl, hB9.mono (by omega), (((ex_dd ex2).trans e26).trans (ex_del.trans e69)), ?_, hG.snoc hnw hfr' hgood, by rw [List.length_append, hl]; rfl⟩
        · exact TabsAt.dl hB9 ⟨tvs ++ [.ref pt], upd_same, paired_app ((ht2.ext e26).ext (ex_del.trans e69)) (.cons ⟨pt, qc, rfl, e89 _ _ hpt8, (hcs.ext ex_del).ext e69⟩ .nil)⟩
    · obtain ⟨x4, x5, q, ts, rfl, hB2, ex2, ht2, hG, hl⟩ := h
      walk_at "w"
      exact k q H2 ts ht2 hG (by omega) (by omega) (hB2.mono (by omega)) ex2
end
end LP
namespace LP
open PySem L2
open Evl (Ex)
open LamX (ExtN)
/-! ### what stays but for the bag and the tables of code -/
def Good (o : HO) : Prop := (∀ ps, o ≠ .tbl ps) ∧ ∀ i j k : Int, o ≠ .lst [.int i, .int j, .int k]
def St (H H' : Hp) : Prop := ∀ a o, H a = some o → Good o → H' a = some o
theorem good_tup {xs : List V} : Good (.tup xs) := ⟨(fun _ z => by cases z), (fun _ _ _ z => by cases z)⟩
theorem good_dK {xs : List (Key × V)} : Good (.dK xs) := ⟨(fun _ z => by cases z), (fun _ _ _ z => by cases z)⟩
theorem good_ins {C dx : Addr} {fs : List (Str × V)} : Good (.ins C dx fs) := ⟨(fun _ z => by cases z), (fun _ _ _ z => by cases z)⟩
theorem good_lst {xs : List V} (h : ∀ i j k : Int, xs ≠ [.int i, .int j, .int k]) : Good (.lst xs) := ⟨(fun _ z => by cases z), fun i j k z => h i j k (by injection z)⟩
theorem good_strs {xs : List Str} : Good (.lst (xs.map V.str)) := good_lst fun i j k z => by
  cases xs with
  | nil => cases z
  | cons x r =>
    rw [List.map_cons] at z
    injection z with z1 _
    cases z1
theorem St.trans {H H1 H2 : Hp} (a : St H H1) (b : St H1 H2) : St H H2 := fun c o h g => b c o (a c o h g) g
theorem St.of {H H' : Hp} (e : Ex H H') : St H H' := fun c o h _ => e c o h
theorem St.n {H H' : Hp} (e : ExtN H H') : St H H' := fun c o h g => e c o h g.1
theorem St.nt {H : Hp} : St H (noT H) := fun c o h g => noT_of h g.1
theorem St.dl {H : Hp} {b : Addr} {n : Nat} (hB : BagAt H b n) : St H (del b H) := fun c o h g => by
  obtain ⟨d, m, t, hb, _⟩ := hB.ex
  rw [del_ne (ne_of h hb (g.2 d m t))]
  exact h
theorem St.d {H H' : Hp} {b : Addr} {n : Nat} (hB : BagAt H b n) (e : Ex (del b H) H') : St H H' := (St.dl hB).trans (.of e)
theorem ColsV.st {H H' : Hp} {vs : List V} {cs : List Col} (s : St H H') (h : ColsV H vs cs) : ColsV H' vs cs := paired_imp (fun _ _ ⟨a, e, ha⟩ => ⟨a, e, s _ _ ha good_tup⟩) h
theorem TabsV.st {H H' : Hp} {vs : List V} {ts : Tabs} (s : St H H') (h : TabsV H vs ts) : TabsV H' vs ts :=
  paired_imp (fun _ _ ⟨a, p, e, ha, ws, hp, hc⟩ => ⟨a, p, e, s _ _ ha good_tup, ws, s _ _ hp (good_lst hc.refs), hc.st s⟩) h
theorem TabsAt.st {H H' : Hp} {q : Addr} {ts : Tabs} (s : St H H') (h : TabsAt H q ts) : TabsAt H' q ts := by
  obtain ⟨vs, hq, hv⟩ := h
  exact ⟨vs, s _ _ hq (good_lst hv.refs), hv.st s⟩
theorem Part.st {C : Addr} {H H' : Hp} {p dc dl : Addr} {cvs : List (Key × V)} {rs : Rows} {ts : Tabs} (s : St H H') (h : Part C H p dc dl cvs rs ts) : Part C H' p dc dl cvs rs ts := by
  obtain ⟨⟨dx, fs, h1, h2⟩, h3, h4, h5, h6, h7, h8, h9, h10⟩ := h
  refine ⟨⟨dx, fs, s _ _ h1 good_ins, h2⟩, s _ _ h3 good_dK, paired_imp (fun _ _ ⟨g1, a, vs, g2, g3, g4⟩ => ⟨g1, a, vs, g2, s _ _ g3 good_tup, g4.st s⟩) h4, s _ _ h5 good_dK, fun r hr => ?_, h7, h8, h9, h10⟩
  obtain ⟨kvs, g1, g2⟩ := h6 r hr
  exact ⟨kvs, s _ _ g1 good_dK, paired_imp (fun _ _ ⟨f1, b, f2, f3⟩ => ⟨f1, b, f2, s _ _ f3 good_tup⟩) g2⟩
theorem SchAt.st {C : Addr} {H H' : Hp} {p : Addr} {u : Str} {ts : Tabs} (s : St H H') (h : SchAt C H p u ts) : SchAt C H' p u ts := by
  obtain ⟨dc, dl, cvs, rs, dx, fs, tt, ll, h1, h2, h3, h4, h5, h6, h7, h8, h9⟩ := h.ex
  exact ⟨dc, dl, cvs, rs, dx, fs, tt, ll, h1.st s, h2, s _ _ h3 good_ins, h4, h5, h6, s _ _ h7 good_tup, h8, s _ _ h9 good_strs⟩
theorem sqL_noT {K : PySem.W.Frag} {H : Hp} {a : Addr} {xs : List V} (h : SqL K H a xs) : SqL K (noT H) a xs := by
  rcases h with (h | ⟨u, h⟩) | h
  · exact .inl (.inl (noT_of h fun _ z => by cases z))
  · exact .inl (.inr ⟨u, noT_of h fun _ z => by cases z⟩)
  · exact .inr h
theorem sqT_noT {K : PySem.W.Frag} {H : Hp} {a : Addr} {xs : List V} (h : SqT K H a xs) : SqT K (noT H) a xs := by
  rcases h with (h | ⟨u, h⟩) | h
  · exact .inl (.inl (noT_of h fun _ z => by cases z))
  · exact .inl (.inr ⟨u, noT_of h fun _ z => by cases z⟩)
  · exact .inr h
mutual
theorem dp_noT {K : PySem.W.Frag} {H : Hp} : ∀ {v : V} {d : PyData}, Dp K H v d → Dp K (noT H) v d
  | _, _, .non => .non
  | _, _, .bl b => .bl b
  | _, _, .int i => .int i
  | _, _, .str x => .str x
  | _, _, .lst h r => .lst (sqL_noT h) (dpAll_noT r)
  | _, _, .tup h r => .tup (sqT_noT h) (dpAll_noT r)
theorem dpAll_noT {K : PySem.W.Frag} {H : Hp} : ∀ {vs : List V} {ds : List PyData}, DpAll K H vs ds → DpAll K (noT H) vs ds
  | _, _, .nil => .nil
  | _, _, .cons h r => .cons (dp_noT h) (dpAll_noT r)
end
/-- what is data for good: no bag, no table of code -/
def dat (b : Addr) (H : Hp) : Hp := noT (del b H)
theorem dat_ex {b : Addr} {H : Hp} : Ex (dat b H) H := noT_ex.trans ex_del
theorem dat_no {b : Addr} {H : Hp} : Ex (dat b H) (noT H) := noT_mono ex_del
theorem dat_some {b a : Addr} {H : Hp} {o : HO} (h : dat b H a = some o) : a ≠ b ∧ H a = some o ∧ ∀ ps, o ≠ .tbl ps := ⟨(del_some (noT_ex _ _ h)).1, (del_some (noT_ex _ _ h)).2, noT_some h⟩
theorem dat_of {b a : Addr} {H : Hp} {o : HO} (n : a ≠ b) (h : H a = some o) (m : ∀ ps, o ≠ .tbl ps) : dat b H a = some o := noT_of (by rw [del_ne n]; exact h) m
theorem dat_d {b : Addr} {H H' : Hp} (e : Ex (del b H) H') : Ex (dat b H) (dat b H') := fun a o h => by
  obtain ⟨n, _, m⟩ := dat_some h
  exact dat_of n (e a o (noT_ex _ _ h)) m
theorem dat_n {b : Addr} {H H' : Hp} (e : ExtN H H') : Ex (dat b H) (dat b H') := fun a o h => by
  obtain ⟨n, q, m⟩ := dat_some h
  exact dat_of n (e a o q m) m
theorem extN_d {b : Addr} {H0 Hm H H' : Hp} (a0 : ExtN H0 Hm) (hb : Hm b = none) (a : ExtN H0 H) (e : Ex (del b H) H') : ExtN H0 H' := fun c o h n => e c o (by rw [del_ne (ne_of_none (a0 c o h n) hb)]; exact a c o h n)
theorem tabs_d {T : List (Addr × Str)} {b : Addr} {n : Nat} {H H' : Hp} (hB : BagAt H b n) (h : LamX.Tabs T H) (e : Ex (del b H) H') : LamX.Tabs T H' := fun p hp => by
  obtain ⟨ps, h1, h2, h3⟩ := h p hp
  obtain ⟨d, m, t, hb, _⟩ := hB.ex
  have ne : ∀ {a : Addr} {o : HO}, H a = some o → o ≠ .lst [.int d, .int m, .int t] → H' a = some o := fun {a o} q z => e a o (by rw [del_ne (ne_of q hb z)]; exact q)
  refine ⟨ps, ne h1 (by intro z; cases z), h2, fun pos cv hc => ?_⟩
  obtain ⟨c,
          e1, e2⟩ := h3 pos cv hc
  exact ⟨c, e1, ne e2 (by intro z; cases z)⟩
theorem BagAt.extN {b : Addr} {n : Nat} {H H' : Hp} (hB : BagAt H b n) (e : ExtN H H') : BagAt H' b n := by
  obtain ⟨d, m, t, hb, r⟩ := hB.ex
  exact ⟨d, m, t, e _ _ hb (by intro ps z; cases z), r⟩
theorem w_make {σ : L2.St} {H : Hp} {Q : VK} {C : Addr} {sp : Sp} {dvs : List V} {E : XK} {t : TA} (h : t σ H fun vs H1 => ∀ x dx, H1 x = none → H1 dx = none → dx ≠ x → sp (.ref x :: (vs ++ dvs)) (upd (upd H1 dx (.own x)) x (.ins C dx [])) (fun v H2 => v = .non ∧ Q (.ref x) H2) E) : tMake C sp dvs E t σ H Q := h
theorem w_sinst {σ : L2.St} {H : Hp} {Q : VK} {C : Addr} {m : Str} {sp : Sp} {E : XK} {ta : TE} {t : TA} (h : ta σ H fun x H1 => ∃ a dx fs, x = .ref a ∧ H1 a = some (.ins C dx fs) ∧ fs.lookup m = none ∧ t σ H1 fun vs H2 => sp vs H2 Q E) : tSInst C m sp E ta t σ H Q := h
end LP
namespace LP
open PySem L2
open Evl (Ex)
/-- what isinstance asks of the class -/
structure IsC (K : PySem.W.Frag) (C : Addr) : Prop where
  ca : PySem.W.findIn K
          (.ref C) "__class__" = some (some (.builtin "object.__class__"))
  cg : PySem.W.specialIn K (.builtin "object.__class__") "__get__" = some (some (.builtin "getset_descriptor.__get__"))
  ct : PySem.W.takesIn K
          (.builtin "object.__class__") = some true
  cm : PySem.W.mroIn K C
          (.type "object") = some true
  no : ∀ t ∈ ["NoneType", "int", "str", "list"], PySem.W.kitOne K (.type t) (.ref C) = some false
def spLen (C : Addr) : Sp := fun vs H Q _ => ∃ (p : Addr) (u : Str) (ts : Tabs), vs = [.ref p] ∧ SchAt C H p u ts ∧ Q (.int ts.length) H
/-- what stands beside a schema -/
inductive Odd (K : PySem.W.Frag) (H : Hp) : V → Prop where
  | non : Odd K H .non
  | int (i : Int) : Odd K H (.int i)
  | str (x : Str) : Odd K H (.str x)
  | lst {a : Addr} {xs : List V} (h : SqL K H a xs) : Odd K H (.ref a)
def spEqS (K : PySem.W.Frag) (C : Addr) : Sp := fun vs H Q _ => ∃ (p : Addr) (v : V) (u : Str) (ts : Tabs), vs = [.ref p, v] ∧ SchAt C H p u ts ∧ GoodTabs ts ∧ SOk u ∧
  ((∃ q u' ts', v = .ref q ∧ SchAt C H q u' ts' ∧ GoodTabs ts' ∧ SOk u' ∧ Q (.bl (decide (linesOf u ts = linesOf u' ts'))) H) ∨ (Odd K H v ∧ Q (.bl false) H))
def spStrS (C : Addr) : Sp := fun vs H Q _ => ∃ (p : Addr) (u : Str) (ts : Tabs), vs = [.ref p] ∧ SchAt C H p u ts ∧ GoodTabs ts ∧ ts.length ≤ 6 ∧ u.length ≤ 1000 ∧ ∀ z, Q (.str z) H
instance (x : Str) : Decidable (SOk x) := inferInstanceAs (Decidable (PyData.strOk x = true))
theorem sok_cat {x y : Str} (a : SOk x) (b : SOk y) : SOk (x ++ y) := by
  unfold SOk PyData.strOk at a b ⊢
  show (x.cps ++ y.cps).all _ = true
  rw [Array.all_append, a, b]
  rfl
theorem Col.sok_line {c : Col} (h : c.Ok) : SOk (colLine c) := by
  have e0 : SOk Str.empty := by decide +kernel
  have e1 : SOk (sz " ") := by decide +kernel
  have e2 : SOk (sz "?") := by decide +kernel
  have e3 : SOk (sz "") := by decide +kernel
  have e4 : SOk (sz " to ") := by decide +kernel
  have e5 : SOk (sz " as ") := by decide +kernel
  have ek : SOk c.kind := by
    cases c with
    | plain f n => cases f <;> exact (show SOk (_ : Str) by first | exact (by decide +kernel : SOk ("flag" : Str)) | exact (by decide +kernel : SOk ("number" : Str)))
    | word n o => exact (by decide +kernel : SOk ("word" : Str))
    | link n t o l => exact (by decide +kernel : SOk ("link" : Str))
  have en : SOk c.name := by
    cases c with
    | plain f n => exact h
    | word n o => exact h
    | link n t o l => exact h.1
  have em : ∀ b : Bool, SOk (if b = true then sz "?" else sz "") := fun b => by cases b <;> assumption
  have ea := sok_cat (sok_cat (sok_cat (sok_cat e0 ek) e1) en) (em c.opt)
  unfold colLine
  cases c with
  | plain f n => exact ea
  | word n o => exact ea
  | link n t o l =>
    have eb := sok_cat (sok_cat (sok_cat e0 ea) e4) h.2.1
    cases l with
    | none => exact eb
    | some x => exact sok_cat (sok_cat (sok_cat e0 eb) e5) (h.2.2 x rfl)
theorem lines_sok {u : Str} {ts : Tabs} (hu : SOk u) (g : GoodTabs ts) : ∀ x ∈ linesOf u ts, SOk x := by
  intro x hx
  unfold linesOf at hx
  rcases List.mem_cons.1 hx with rfl | hx
  · exact sok_cat (by decide +kernel) hu
  · obtain ⟨t, ht, hx⟩ := List.mem_flatMap.mp hx
    unfold tabLines at hx
    rcases List.mem_cons.1 hx with rfl | hx
    · exact sok_cat (by decide +kernel) (g.names t ht).ok
    · obtain ⟨c, hc, rfl⟩ := List.mem_map.mp hx
      exact Col.sok_line (g.oks t ht c hc)
theorem mark_le (b : Bool) : (if b = true then sz "?" else sz "").length ≤ 1 := by cases b <;> decide
theorem Col.line_len {c : Col} (h : c.Sz) : (colLine c).length ≤ 3100 := by
  have e0 : Str.empty.length = 0 := rfl
  have e1 : (sz " ").length = 1 := by decide
  have e4 : (sz " to ").length = 4 := by decide
  have e5 : (sz " as ").length = 4 := by decide
  have k := Col.kind_len c
  have m := mark_le c.opt
  have n := h.n
  have t := h.t
  unfold colLine
  cases c with
  | plain f x =>
    simp only [Col.isLink, Col.lst, len_cat, e0, e1, Bool.false_eq_true, if_false]
    omega
  | word x o =>
    simp only [Col.isLink, Col.lst, len_cat, e0, e1, Bool.false_eq_true, if_false]
    omega
  | link x y o l =>
    cases l with
    | none =>
      simp only [Col.isLink, Col.lst, len_cat, e0, e1, e4, if_true]
      omega
    | some z =>
      have z1 := h.l z rfl
      simp only [Col.isLink, Col.lst, len_cat, e0, e1, e4, e5, if_true]
      omega
theorem sum_le {α : Type} {f : α → Nat} {m : Nat} : ∀ {l : List α}, (∀ x ∈ l, f x ≤ m) → (l.map f).sum ≤ m * l.length
  | [], _ => Nat.zero_le _
  | x :: r, h => by
    have a := h x List.mem_cons_self
    have b := sum_le (l := r) fun y hy => h y (List.mem_cons_of_mem _ hy)
    rw [List.map_cons, List.sum_cons, List.length_cons, Nat.mul_succ]
    omega
theorem lines_size {u : Str} {ts : Tabs} (hu : u.length ≤ 1000) (g : GoodTabs ts) (l6 : ts.length ≤ 6) : ((linesOf u ts).map (·.length)).sum + (linesOf u ts).length * 1 ≤ 16777216 := by
  have sz6 := good_sz g
  have a : ∀ x ∈ linesOf u ts, x.length ≤ 3100 := fun x hx => by
    unfold linesOf at hx
    rcases List.mem_cons.1 hx with rfl | hx
    · simp only [len_cat, show Str.empty.length = 0 from rfl, show (sz "user ").length = 5 by decide]
      omega
    · obtain ⟨t, ht, hx⟩ := List.mem_flatMap.mp hx
      unfold tabLines at hx
      rcases List.mem_cons.1 hx with rfl | hx
      · have := (sz6 t ht).n
        simp only [len_cat, show Str.empty.length = 0 from rfl, show (sz "table ").length = 6 by decide]
        omega
      · obtain ⟨c, hc, rfl⟩ := List.mem_map.mp hx
        exact Col.line_len ((sz6 t ht).c c hc)
  have b := lines_len sz6
  have c : ((linesOf u ts).map fun x => x.length).sum ≤ 3100 * (linesOf u ts).length := sum_le a
  have c' : ((linesOf u ts).map Str.length).sum = ((linesOf u ts).map fun x => x.length).sum := rfl
  have d : (linesOf u ts).length = (ts.flatMap tabLines).length + 1 := by unfold linesOf; rw [List.length_cons]
  omega
theorem dp_strs {K : PySem.W.Frag} {H : Hp} : ∀ xs : List Str, DpAll K H (xs.map V.str) (xs.map PyData.str)
  | [] => .nil
  | x :: r => .cons (.str x) (dp_strs r)
theorem eqv_strs : ∀ xs ys : List Str, PyData.eqv (.list (xs.map PyData.str)) (.list (ys.map PyData.str)) = decide (xs = ys)
  | xs, ys => by
    have key : ∀ xs ys : List Str, PyData.eqvAll (xs.map PyData.str) (ys.map PyData.str) = decide (xs = ys) := fun xs => by
      induction xs with
      | nil => intro ys; cases ys <;> simp [PyData.eqvAll]
      | cons x r ih => intro ys; cases ys <;> simp [PyData.eqvAll, PyData.eqv, ih, bdec]
    simp only [PyData.eqv]
    exact key xs ys
theorem shaped_strs {xs : List Str} (h : ∀ x ∈ xs, SOk x) : SeqAt.shaped (.list (xs.map PyData.str)) = true := by
  have key : ∀ xs : List Str, (∀ x ∈ xs, SOk x) → PyData.canLayAll0 (xs.map PyData.str) = true ∧ PyData.depthAll (xs.map PyData.str) ≤ 1 := fun xs => by
    induction xs with
    | nil => exact fun _ => ⟨rfl, by show 0 ≤ 1; omega⟩
    | cons x r ih =>
      intro h
      obtain ⟨a, b⟩ := ih fun y hy => h y (List.mem_cons_of_mem _ hy)
      have c : PyData.strOk x = true := h x List.mem_cons_self
      rw [List.map_cons]
      refine ⟨by simp only [PyData.canLayAll0, PyData.canLay0, c, a, Bool.and_self], ?_⟩
      simp only [PyData.depthAll, PyData.depth]
      omega
  obtain ⟨a, b⟩ := key xs h
  unfold SeqAt.shaped
  rw [Bool.and_eq_true, decide_eq_true_eq]
  exact ⟨by simp only [PyData.canLay0]; exact a, by simp only [PyData.depth]; omega⟩
section
variable {base : Heap} {mg : Str → Option Value} {K : PySem.W.Frag} {w : World} {P : Program} {ra C : Addr}
theorem ok_len {f : Addr} {fd : FuncData} (S : SchC K C) (F : C8.Fun K "__len__" "Schema.__len__" s_Schema___len__ f fd) (B : Blt mg) : FnOk P w K mg base C8.CX0 1 f fd ["self"] (spLen C) := by
  have sc : FnScope ["self"] ["self"] (C8.fnScope s_Schema___len__) := C8.fnScope_by (by decide +kernel)
  refine C8.fn0 F sc (fun vs H Q E h => ?_) (fun cdv A outer s H vs Q E hr h => ?_)
  · obtain ⟨_, _, _, rfl, _⟩ := h
    rfl
  · obtain ⟨p, u, ts, rfl, hS, k⟩ := h
    obtain ⟨dc, dl, cvs, rs, dx, fs, tt, ll, hP, hm, hp, hf, hu, ht, htt, hl, hll⟩ := hS.ex
    refine ⟨_, (pss_one (ps_ret (pe_callB (call_len_seqK (K := K) rfl) (by rfl) B.len_ (by decide +kernel) (pa_cons (pe_fldK (K := K) rfl (pv 0) rfl) pa_nil)))), ?_⟩
    walk_at "w"
    refine w_kFld hp S.cls S.tables_ ht ?_
    walk_at "w"
    rw [List.length_map]
    exact k
theorem ok_eq {f : Addr} {fd : FuncData} (S : SchC K C) (I : IsC K C) (F : C8.Fun K "__eq__" "Schema.__eq__" s_Schema___eq__ f fd) (B : Blt mg) (T : Cns K mg ra C) : FnOk P w K mg base C8.CX0 2 f fd ["self", "other"] (spEqS K C) := by
  have sc : FnScope ["self", "other"] ["self", "other"] (C8.fnScope s_Schema___eq__) := C8.fnScope_by (by decide +kernel)
  refine C8.fn0 F sc (fun vs H Q E h => ?_) (fun cdv A outer s H vs Q E hr h => ?_)
  · obtain ⟨_, _, _, _, rfl, _⟩ := h
    rfl
  · obtain ⟨p, v, u, ts, rfl, hS, hG, su, k⟩ := h
    obtain ⟨dc, dl, cvs, rs, dx, fs, tt, ll, hP, hm, hp, hf, hu, ht, htt, hl, hll⟩ := hS.ex
    refine ⟨_, (pss_one (ps_ret (pe_and (pe_callB (call_isiK1 (K := K) rfl) (by rfl) B.isinstance_ (by decide +kernel) (pa_cons (pv 1) (pa_cons (C8.pe_gc rfl T.Schema_) pa_nil))) (pe_one (pe_cmpR (op_eqDK (K := K) rfl (hu64 hr)) (pe_fldK (K := K) rfl (pv 0) rfl) (pe_fldK (K := K) rfl (pv 1) rfl) (nomark _)))))), ?_⟩
    walk_at "w"
    rcases k with ⟨q, u', ts', rfl, hS', hG', su', k⟩ | ⟨od, k⟩
    · obtain ⟨dc', dl', cvs', rs', dx', fs', tt', ll', hP', hm', hp', hf', hu', ht', htt', hl', hll'⟩ := hS'.ex
      refine ⟨.ref q, .ref C, .ref C, .ref C, true, rfl, .own C, .base (.ins hp' S.cls I.ca I.cg I.ct I.cm), ?_, ⟨true, rfl, iteT ?_⟩⟩
      · exact if_pos (beq_self_eq_true _)
      walk_at "w"
      refine w_kFld hp S.cls S.lines_ hl ?_
      walk_at "w"
      refine w_kFld hp' S.cls S.lines_ hl' ?_
      refine ⟨_, _, .lst (SqL.of hll) (dp_strs _), .lst (SqL.of hll') (dp_strs _), shaped_strs (lines_sok su hG), shaped_strs (lines_sok su' hG'), ?_⟩
      rw [eqv_strs]
      exact k
    · have no : ∀ t ∈ ["NoneType", "int", "str", "list"], TyX K H v (.type t) → rIsi K [v, .ref C] H fun x H1 => ∃ c, x = V.bl c ∧ if c = true then tOp (rEqD K) (tFld K (tVar 0) (Str.ofString "_lines")) (tFld K (tVar 1) (Str.ofString "_lines")) (L2.start [Str.ofString "self", Str.ofString "other"] [V.ref p, v]) H1 Q else Q (.bl false) H1 := fun t ht ty =>
        ⟨v, .ref C, .type t, .ref C, false, rfl, .own C, ty, I.no t ht, ⟨false, rfl, iteF k⟩⟩
      cases od with
      | non => exact no "NoneType" (by decide) (.base .non)
      | int i => exact no "int" (by decide) (.base (.int i))
      | str x => exact no "str" (by decide) (.base (.str x))
      | lst hx =>
        refine no "list" (by decide) ?_
        rcases hx with (hx | ⟨o, hx⟩) | ⟨o, its, n, hx, hc, hr⟩
        · exact .base (.lst hx)
        · exact .base (.frz hx)
        · exact .kList hx hc
theorem ok_str {f : Addr} {fd : FuncData} (S : SchC K C) (F : C8.Fun K "__str__" "Schema.__str__" s_Schema___str__ f fd) (B : Blt mg) : FnOk P w K mg base C8.CX0 1 f fd ["self"] (spStrS C) := by
  have sc : FnScope ["self"] ["self"] (C8.fnScope s_Schema___str__) := C8.fnScope_by (by decide +kernel)
  refine C8.fn0 F sc (fun vs H Q E h => ?_) (fun cdv A outer s H vs Q E hr h => ?_)
  · obtain ⟨_, _, _, rfl, _⟩ := h
    rfl
  · obtain ⟨p, u, ts, rfl, hS, hG, l6, lu, k⟩ := h
    obtain ⟨dc, dl, cvs, rs, dx, fs, tt, ll, hP, hm, hp, hf, hu, ht, htt, hl, hll⟩ := hS.ex
    refine ⟨_, (pss_one (ps_ret (pe_joinK (K := K) rfl pe_str (pe_fldK (K := K) rfl (pv 0) rfl)))), ?_⟩
    walk_at "w"
    refine w_kFld hp S.cls S.lines_ hl ?_
    refine w_join (SqL.of hll) (by rw [show (Str.ofString "\n").length = 1 by decide]; exact lines_size lu hG l6) ?_
    exact k _
end
end LP
namespace LP
open PySem L2
open Evl (Ex)
theorem filterMap_some' {acc : List V} {ts : Tabs} (h : Paired (fun v x => v = V.str x) acc (ts.filterMap fun t => some t.1)) : acc = (ts.map (·.1)).map V.str := by
  have e : (ts.filterMap fun t => some t.1) = ts.map (·.1) := congrFun (List.filterMap_eq_map (f := fun t : Str × List Col => t.1)) ts
  rw [e] at h
  have key : ∀ {a : List V} {l : List Str}, Paired (fun v x => v = V.str x) a l → a = l.map V.str := fun {a l} h => by
    induction h with
    | nil => rfl
    | cons h _ ih => rw [h, ih]; rfl
  exact key h
theorem shaped_colT {cs : List Col} (h : ∀ c ∈ cs, c.Ok) : SeqAt.shaped (.tuple (cs.map Col.data)) = true := by
  have z := shapedL_cols h
  unfold SeqAt.shaped at z ⊢
  simp only [PyData.canLay0, PyData.depth] at z ⊢
  exact z
theorem shaped_strT {xs : List Str} (h : ∀ x ∈ xs, SOk x) : SeqAt.shaped (.tuple (xs.map PyData.str)) = true := by
  have z := shaped_strs h
  unfold SeqAt.shaped at z ⊢
  simp only [PyData.canLay0, PyData.depth] at z ⊢
  exact z
theorem eqv_strT (xs : List Str) : PyData.eqv (.tuple (xs.map PyData.str)) (.tuple (xs.map PyData.str)) = true := by
  have z := eqv_strs xs xs
  rw [decide_eq_true rfl] at z
  simp only [PyData.eqv] at z ⊢
  exact z
theorem look_mem {ts : Tabs} {t : Str × List Col} (nd : (ts.map (·.1)).Nodup) (h : t ∈ ts) : ts.lookup t.1 = some t.2 := by
  induction ts with
  | nil => cases h
  | cons x r ih =>
    rw [List.map_cons,
            List.nodup_cons] at nd
    rw [List.lookup_cons]
    rcases List.mem_cons.1 h with rfl | h
    · rw [show (t.1 == t.1) = true from beq_self_eq_true _]
    · rw [show (t.1 == x.1) = false from beq_eq_false_iff_ne.mpr fun z => nd.1 (by rw [← z]; exact List.mem_map.mpr ⟨t, h, rfl⟩)]
      exact ih nd.2 h
theorem sh_str {x : Str} (h : SOk x) : SeqAt.shaped (.str x) = true := by
  unfold SeqAt.shaped
  rw [Bool.and_eq_true]
  have h : PyData.strOk x = true := h
  exact ⟨by simp only [PyData.canLay0]; exact h, by simp [PyData.depth]⟩
theorem sh_one {x : Str} (h : SOk x) : SeqAt.shaped (.list [.str x]) = true ∧ SeqAt.shaped (.tuple [.str x]) = true := by
  have h : PyData.strOk x = true := h
  unfold SeqAt.shaped
  simp [PyData.canLay0, PyData.canLayAll0, PyData.depth, PyData.depthAll, h]
theorem eqv_cols (cs : List Col) : PyData.eqv (.tuple (cs.map Col.data)) (.tuple (cs.map Col.data)) = true := by
  have h : PyData.eqvAll (cs.map Col.data) (cs.map Col.data) = true := by
    induction cs with
    | nil => simp [PyData.eqvAll]
    | cons c r ih =>
      rw [List.map_cons]
      simp only [PyData.eqvAll, Bool.and_eq_true]
      exact ⟨by rw [Col.eqv]; exact decide_eq_true rfl, ih⟩
  simp only [PyData.eqv]
  exact h
theorem SchAt.ins {C : Addr} {H : Hp} {p : Addr} {u : Str} {ts : Tabs} (h : SchAt C H p u ts) : ∃ dx fs, H p = some (.ins C dx fs) := by
  obtain ⟨_, _, _, _, dx, fs, _, _, _, _, hp, _⟩ := h.ex
  exact ⟨dx, fs, hp⟩
section
variable {K : PySem.W.Frag} {C : Addr} {H : Hp} {p q : Addr} {u u' : Str} {ts ts' : Tabs} {Q : VK}
theorem sch_eq (h1 : SchAt C H p u ts) (g1 : GoodTabs ts) (s1 : SOk u) (h2 : SchAt C H q u' ts') (g2 : GoodTabs ts') (s2 : SOk u') (k : Q (.bl (decide (linesOf u ts = linesOf u' ts'))) H) : rOwnEq C false (spEqS K C) C8.E0 K (.ref p) (.ref q) H Q := by
  obtain ⟨dx, fs, hp⟩ := h1.ins
  obtain ⟨dx', fs', hq⟩ := h2.ins
  exact ⟨p, dx, fs, .ref C, rfl, hp, .inl ⟨q, dx', fs', rfl, hq, rfl⟩, p, .ref q, u, ts, rfl, h1, g1, s1, .inl ⟨q, u', ts', rfl, h2, g2, s2, _, rfl, k⟩⟩
theorem sch_ne (h1 : SchAt C H p u ts) (g1 : GoodTabs ts) (s1 : SOk u) (h2 : SchAt C H q u' ts') (g2 : GoodTabs ts') (s2 : SOk u') (k : Q (.bl (!decide (linesOf u ts = linesOf u' ts'))) H) : rOwnEq C true (spEqS K C) C8.E0 K (.ref p) (.ref q) H Q := by
  obtain ⟨dx, fs, hp⟩ := h1.ins
  obtain ⟨dx', fs', hq⟩ := h2.ins
  exact ⟨p, dx, fs, .ref C, rfl, hp, .inl ⟨q, dx', fs', rfl, hq, rfl⟩, p, .ref q, u, ts, rfl, h1, g1, s1, .inl ⟨q, u', ts', rfl, h2, g2, s2, _, rfl, k⟩⟩
theorem sch_odd {v : V} (h1 : SchAt C H p u ts) (g1 : GoodTabs ts) (s1 : SOk u) (o : Odd K H v) (k : Q (.bl false) H) : rOwnEq C false (spEqS K C) C8.E0 K (.ref p) v H Q := by
  obtain ⟨dx, fs, hp⟩ := h1.ins
  have fin : ∀ tb, TyAt K C H v tb → rOwnEq C false (spEqS K C) C8.E0 K (.ref p) v H Q := fun tb t => ⟨p, dx, fs, tb, rfl, hp, t, p, v, u, ts, rfl, h1, g1, s1, .inr ⟨o, _, rfl, k⟩⟩
  cases o with
  | non => exact fin _ (.inr (.inl ⟨rfl, rfl⟩))
  | int i => exact fin _ (.inr (.inr (.inl ⟨i, rfl, rfl⟩)))
  | str x => exact fin _ (.inr (.inr (.inr (.inl ⟨x, rfl, rfl⟩))))
  | lst h => exact fin _ (.inr (.inr (.inr (.inr ⟨_, _, rfl, h, rfl⟩))))
end
end LP
namespace LP
open PySem L2
open Evl (Ex)
/-! ### the lists of a table -/
def lstEnt (t n : Str) (c : Col) : Option (Str × Str × Str) := match c.lst with
  | none => none
  | some l => if c.target = n then some (l, t, c.name) else none
def listsOf (ts : Tabs) (n : Str) : Lists := ts.flatMap fun t => t.2.filterMap (lstEnt t.1 n)
theorem look_map {f : Str → Lists → Lists} {n : Str} : ∀ m : List (Str × Lists), (m.map fun r => (r.1, f r.1 r.2)).lookup n = (m.lookup n).map (f n)
  | [] => rfl
  | r :: m => by
    rw [List.map_cons, List.lookup_cons, List.lookup_cons]
    by_cases e : n = r.1
    · subst e
      rw [show (r.1 == r.1) = true from beq_self_eq_true _]
      rfl
    · rw [show (n == r.1) = false from beq_eq_false_iff_ne.mpr e]
      exact look_map m
theorem addCol_look (t n : Str) (m : List (Str × Lists)) (c : Col) : (addCol t m c).lookup n = (m.lookup n).map fun ls => ls ++ (lstEnt t n c).toList := by
  unfold addCol lstEnt
  cases c.lst with
  | none =>
    show m.lookup n = (m.lookup n).map fun ls => ls ++ []
    cases m.lookup n <;> simp
  | some l =>
    have e : (m.map fun r => if r.1 = c.target then (r.1, r.2 ++ [(l, t, c.name)]) else r) = m.map fun r => (r.1, (fun x ls => if x = c.target then ls ++ [(l, t, c.name)] else ls) r.1 r.2) :=
      List.map_congr_left fun r _ => by
        by_cases h : r.1 = c.target
        · rw [if_pos h]; simp only [h, if_true]
        · rw [if_neg h]; simp only [h, if_false]
    show (m.map fun r => if r.1 = c.target then (r.1, r.2 ++ [(l, t, c.name)]) else r).lookup n = _
    rw [e]
    refine (look_map (f := fun x ls => if x = c.target then ls ++ [(l, t, c.name)] else ls) m).trans ?_
    congr 1
    funext ls
    show (if n = c.target then ls ++ [(l, t, c.name)] else ls) = ls ++ (if c.target = n then some (l, t, c.name) else none).toList
    by_cases h : n = c.target
    · rw [if_pos h, if_pos h.symm]; rfl
    · rw [if_neg h, if_neg (Ne.symm h)]; exact (List.append_nil _).symm
theorem addCols_look (t n : Str) : ∀ (cs : List Col) (m : List (Str × Lists)), (cs.foldl (addCol t) m).lookup n = (m.lookup n).map fun ls => ls ++ cs.filterMap (lstEnt t n)
  | [], m => by
    rw [List.foldl_nil]
    cases m.lookup n <;> simp
  | c :: r, m => by
    rw [List.foldl_cons, addCols_look t n r, addCol_look]
    cases m.lookup n with
    | none => rfl
    | some ls =>
      show some _ = some _
      rw [List.filterMap_cons]
      cases lstEnt t n c <;> simp
theorem look_none {m : List (Str × Lists)} {n : Str} (h : n ∉ m.map (·.1)) : m.lookup n = none := by
  induction m with
  | nil => rfl
  | cons r m ih =>
    rw [List.map_cons, List.mem_cons, not_or] at h
    rw [List.lookup_cons, show (n == r.1) = false from beq_eq_false_iff_ne.mpr h.1]
    exact ih h.2
theorem look_app {m k : List (Str × Lists)} {n : Str} : (m ++ k).lookup n = (m.lookup n).or (k.lookup n) := by
  induction m with
  | nil => rfl
  | cons r m ih =>
    rw [List.cons_append, List.lookup_cons, List.lookup_cons]
    cases (n == r.1) with
    | true => rfl
    | false => exact ih
theorem listsOf_app (ts : Tabs) (t : Str × List Col) (n : Str) : listsOf (ts ++ [t]) n = listsOf ts n ++ t.2.filterMap (lstEnt t.1 n) := by
  unfold listsOf
  rw [List.flatMap_append, List.flatMap_cons, List.flatMap_nil, List.append_nil]
theorem ent_none {t n : Str} {ns : List Str} {cs : List Col} (h : ∀ c ∈ cs, c.isLink = true → c.target ∈ ns) (hn : n ∉ ns) : cs.filterMap (lstEnt t n) = [] := by
  rw [List.filterMap_eq_nil_iff]
  intro c hc
  unfold lstEnt
  cases e : c.lst with
  | none => rfl
  | some l =>
    have := h c hc (lst_link e)
    exact if_neg fun z => hn (by rw [← z]; exact this)
theorem listsOf_new {ts : Tabs} {n : Str} (g : GoodTabs ts) (hn : n ∉ ts.map (·.1)) : listsOf ts n = [] := by
  induction g with
  | nil => rfl
  | @snoc ts m cs g hm hx hc ih =>
    rw [List.map_append, List.mem_append, not_or] at hn
    rw [listsOf_app, ih hn.1, ent_none hc.tg hn.1]
    rfl
theorem mirOf_look {ts : Tabs} {n : Str} (g : GoodTabs ts) (hn : n ∈ ts.map (·.1)) : (mirOf ts).lookup n = some (listsOf ts n) := by
  induction g with
  | nil => cases hn
  | @snoc ts m cs g hm hx hc ih =>
    rw [mirOf_snoc, look_app, addCols_look, listsOf_app]
    by_cases e : n ∈ ts.map (·.1)
    · rw [ih e]
      rfl
    · have en : n = m := by
        rw [List.map_append, List.mem_append] at hn
        exact List.mem_singleton.1 (hn.resolve_left e)
      subst en
      rw [look_none (by rw [mirOf_key g]; exact hx), listsOf_new g hx, ent_none hc.tg hx]
      show Option.or none (List.lookup n [(n, [])]) = some []
      rw [List.lookup_cons, show (n == n) = true from beq_self_eq_true _]
      rfl
/-! ### a table in another spelling -/
def key (cs : List Col) : List (Str × Option Str) := (cs.filter Col.isLink).map fun c => (c.target, c.lst)
theorem key_listed (cs : List Col) : isListed cs = (key cs).any fun k => k.2.isSome := by
  unfold isListed key
  induction cs with
  | nil => rfl
  | cons c r ih =>
    rw [List.any_cons, ih]
    cases c <;> simp [Col.isLink, Col.lst]
theorem key_meet (m : List (Str × Bool)) (cs : List Col) : meetOf m cs = (isListed cs || (key cs).any fun k => m.lookup k.1 == some true) := by
  unfold meetOf
  congr 1
  unfold key
  induction cs with
  | nil => rfl
  | cons c r ih =>
    rw [List.any_cons, ih]
    cases c <;> simp [Col.isLink, Col.target]
theorem key_links (cs : List Col) (tg : Str) : linkLists cs tg = ((key cs).filter fun k => decide (k.1 = tg)).map (·.2) := by
  unfold linkLists key
  induction cs with
  | nil => rfl
  | cons c r ih =>
    cases c with
    | plain f n => exact ih
    | word n o => exact ih
    | link n t o l =>
      by_cases h : t = tg
      · simp only [List.filter_cons, Col.isLink, Col.target, h, decide_true, Bool.and_self, if_true, List.map_cons, Col.lst] at ih ⊢
        rw [ih]
      · simp only [List.filter_cons, Col.isLink, Col.target, h, decide_false, Bool.and_false, Bool.false_eq_true, if_false, if_true, List.map_cons, Col.lst] at ih ⊢
        exact ih
theorem meet_same {cs cs' : List Col} (h : key cs' = key cs) (m : List (Str × Bool)) : meetOf m cs' = meetOf m cs := by rw [key_meet, key_meet, key_listed, key_listed, h]
theorem meetMap_app (ts tr : Tabs) : meetMap (ts ++ tr) = tr.foldl (fun m t => m ++ [(t.1, meetOf m t.2)]) (meetMap ts) := by
  unfold meetMap
  rw [List.foldl_append]
theorem meetMap_same {td tr : Tabs} {t t' : Str × List Col} (hn : t'.1 = t.1) (hk : key t'.2 = key t.2) : meetMap (td ++ t' :: tr) = meetMap (td ++ t :: tr) := by
  rw [meetMap_app, meetMap_app, List.foldl_cons, List.foldl_cons, meet_same hk, hn]
theorem names_same {td tr : Tabs} {t t' : Str × List Col} (hn : t'.1 = t.1) : (td ++ t' :: tr).map (·.1) = (td ++ t :: tr).map (·.1) := by
  rw [List.map_append, List.map_append, List.map_cons, List.map_cons, hn]
theorem good_other {td : Tabs} {t t' : Str × List Col} (hn : t'.1 = t.1) (hk : key t'.2 = key t.2) (hc : GoodCols td t'.2) :
    ∀ (n : Nat) (tr : Tabs), tr.length = n → GoodTabs (td ++ t :: tr) → (∀ z ∈ tr, ∀ c ∈ z.2, ∀ l, c.lst = some l → some l ∉ takenStep c.target t') → GoodTabs (td ++ t' :: tr) := by
  intro n
  induction n with
  | zero =>
    intro tr hl g _
    rw [List.length_eq_zero_iff] at hl
    subst hl
    obtain ⟨g1, g2, g3, _⟩ := g.split td t [] rfl
    have := GoodTabs.snoc g1 (n := t'.1) (cs := t'.2) (by rw [hn]; exact g2) (by rw [hn]; exact g3) hc
    exact this
  | succ n ih =>
    intro tr hl g ho
    rcases List.eq_nil_or_concat tr with rfl | ⟨pre, z, rfl⟩
    · cases hl
    · have e : ∀ x : Str × List Col, td ++ x :: (pre ++ [z]) = (td ++ x :: pre) ++ [z] := fun x => by simp
      rw [List.concat_eq_append, e] at g
      rw [List.concat_eq_append, e]
      rw [List.concat_eq_append] at ho hl
      obtain ⟨g1, g2, g3, g4⟩ := g.split (td ++ t :: pre) z [] rfl
      have g5 := ih pre (by rw [List.length_append] at hl; exact Nat.succ.inj hl) g1 fun y hy => ho y (List.mem_append_left _ hy)
      refine GoodTabs.snoc g5 g2 (by rw [names_same hn]; exact g3) ⟨⟨g4.nm, g4.nd, fun c h1 h2 => by rw [names_same hn]; exact g4.tg c h1 h2, g4.ls, g4.fr, fun c h1 l h2 y hy => ?_⟩, g4.few, fun c h1 h2 h3 h4 => ?_⟩
      · rcases List.mem_append.1 hy with hy | hy
        · exact g4.old c h1 l h2 y (List.mem_append_left _ hy)
        · rcases List.mem_cons.1 hy with rfl | hy
          · exact ho z (List.mem_append_right _ (List.mem_singleton.2 rfl)) c h1 l h2
          · exact g4.old c h1 l h2 y (List.mem_append_right _ (List.mem_cons_of_mem _ hy))
      · refine g4.r6 c h1 h2 ?_ h4
        unfold meets at h3 ⊢
        rw [meetMap_same hn hk] at h3
        exact h3
/-! ### one place changed -/
def Col.turn : Col → Col
  | .plain f n => .plain (!f) n
  | .word n o => .word n (!o)
  | .link n t o l => .link n t (!o) l
theorem turn_stays (c : Col) : c.turn.name = c.name ∧ c.turn.target = c.target ∧ c.turn.isLink = c.isLink ∧ c.turn.lst = c.lst := by cases c <;> exact ⟨rfl, rfl, rfl, rfl⟩
theorem listed_map {f : Col → Col} (hf : ∀ c, (f c).lst = c.lst) (cs : List Col) : listedOf (cs.map f) = (listedOf cs).map f := by
  unfold listedOf
  rw [List.filter_map]
  congr 1
  exact List.filter_congr fun c _ => by simp only [Function.comp, hf]
theorem key_map {f : Col → Col} (hf : ∀ c, (f c).target = c.target ∧ (f c).isLink = c.isLink ∧ (f c).lst = c.lst) (cs : List Col) : key (cs.map f) = key cs := by
  unfold key
  rw [List.filter_map, List.map_map]
  have e : (cs.filter (Col.isLink ∘ f)) = cs.filter Col.isLink := List.filter_congr fun c _ => by simp only [Function.comp, (hf c).2.1]
  rw [e]
  exact List.map_congr_left fun c _ => by simp only [Function.comp, (hf c).1, (hf c).2.2]
theorem good_map {f : Col → Col} {ts : Tabs} {cs : List Col} (hf : ∀ c, (f c).name = c.name ∧ (f c).target = c.target ∧ (f c).isLink = c.isLink ∧ (f c).lst = c.lst) (g : GoodCols ts cs) : GoodCols ts (cs.map f) := by
  have pre : PreCols ts (cs.filterMap fun c => some (f c)) := g.toPreCols.filterMap fun c c' e => by
    cases e
    obtain ⟨a, b, c, d⟩ := hf c
    exact ⟨a, b, c, .inl d⟩
  have e : (cs.filterMap fun c => some (f c)) = cs.map f := by
    have := List.filterMap_eq_map (f := f)
    exact congrFun this cs
  rw [e] at pre
  refine ⟨pre, by rw [List.length_map]; exact g.few, fun y hy h2 h3 h4 => ?_⟩
  obtain ⟨c, hc, rfl⟩ := List.mem_map.mp hy
  rw [listed_map fun c => (hf c).2.2.2] at h4 ⊢
  rw [(hf c).2.2.1] at h2
  rw [(hf c).2.1] at h3
  rw [g.r6 c hc h2 h3 fun z => h4 (by rw [z]; rfl)]
  rfl
def turnAt (n : Str) (c : Col) : Col := if c.name = n then c.turn else c
theorem turnAt_stays (n : Str) (c : Col) : (turnAt n c).name = c.name ∧ (turnAt n c).target = c.target ∧ (turnAt n c).isLink = c.isLink ∧ (turnAt n c).lst = c.lst := by
  unfold turnAt
  split
  · exact turn_stays c
  · exact ⟨rfl, rfl, rfl, rfl⟩
theorem turnAt_at {d r : List Col} {c : Col} (nd : ((d ++ c :: r).map Col.name).Nodup) : (d ++ c :: r).map (turnAt c.name) = d ++ c.turn :: r := by
  rw [List.map_append, List.map_cons, List.nodup_append, List.nodup_cons] at nd
  have hd : d.map (turnAt c.name) = d := (List.map_congr_left fun x hx => if_neg fun z => nd.2.2 _ (List.mem_map.mpr ⟨x, hx, rfl⟩) _ List.mem_cons_self z).trans (List.map_id d)
  have hr : r.map (turnAt c.name) = r := (List.map_congr_left fun x hx => if_neg fun z => nd.2.1.1 (List.mem_map.mpr ⟨x, hx, z⟩)).trans (List.map_id r)
  rw [List.map_append, List.map_cons, hd, hr]
  congr 2
  exact if_pos rfl
inductive Road (ts td : Tabs) (t : Str × List Col) (tr : Tabs) : Str × List Col → Prop where
  | add {x : Str} (hx : IsName x) (hn : x ∉ t.2.map Col.name) (hl : t.2.length < 6) : Road ts td t tr (t.1, t.2 ++ [.plain true x])
  | turn {d r : List Col} {c : Col} (e : t.2 = d ++ c :: r) : Road ts td t tr (t.1, d ++ c.turn :: r)
  | name {m : Str} (e : tr = []) (hm : IsName m) (hn : m ∉ ts.map (·.1)) : Road ts td t tr (m, t.2)
def Changed (ts ts' : Tabs) : Prop := ∃ td t tr t', ts = td ++ t :: tr ∧ ts' = td ++ t' :: tr ∧ Road ts td t tr t'
/-- no column bears the name of a list of its table -/
def FreeL (ts : Tabs) (n : Str) (cs : List Col) : Prop := ∀ c ∈ cs, c.name ∉ (listsOf ts n).map (·.1)
def FreeT (ts ts' : Tabs) : Prop := ∀ (i : Nat) t t', ts[i]? = some t → ts'[i]? = some t' → FreeL ts t.1 t'.2
theorem in_lists {ts : Tabs} {z : Str × List Col} {c : Col} {l : Str} (hz : z ∈ ts) (hc : c ∈ z.2) (e : c.lst = some l) : l ∈ (listsOf ts c.target).map (·.1) := by
  unfold listsOf
  refine List.mem_map.mpr ⟨(l, z.1, c.name), List.mem_flatMap.mpr ⟨z, hz, List.mem_filterMap.mpr ⟨c, hc, ?_⟩⟩, rfl⟩
  unfold lstEnt
  rw [e]
  exact if_pos rfl
theorem taken_eq {tg : Str} {t t' : Str × List Col} (hn : t'.1 = t.1) (hk : key t'.2 = key t.2) (l : Str) (h : some l ∉ takenStep tg t) (ho : t.1 = tg → l ∉ t'.2.map Col.name) : some l ∉ takenStep tg t' := by
  unfold takenStep at h ⊢
  rw [key_links, hk, ← key_links, hn]
  intro z
  rcases List.mem_append.1 z with z | z
  · exact h (List.mem_append_left _ z)
  · by_cases e : t.1 = tg
    · rw [if_pos e] at z
      obtain ⟨c, hc, e2⟩ := List.mem_map.mp z
      exact ho e (List.mem_map.mpr ⟨c, hc, Option.some.inj e2⟩)
    · rw [if_neg e] at z
      cases z
theorem good_add {td : Tabs} {cs : List Col} {x : Str} (g : GoodCols td cs) (hx : IsName x) (hn : x ∉ cs.map Col.name) (hl : cs.length < 6) : GoodCols td (cs ++ [.plain true x]) := by
  have one : ∀ {c : Col}, c ∈ [Col.plain true x] → c = .plain true x := fun h => List.mem_singleton.1 h
  have lo : listedOf (cs ++ [.plain true x]) = listedOf cs := by
    unfold listedOf
    rw [List.filter_append]
    exact List.append_nil _
  refine ⟨⟨fun c hc => ?_, ?_, fun c hc h => ?_, fun c hc l h => ?_, ?_, fun c hc l h => ?_⟩, by rw [List.length_append]; exact hl, fun c hc h1 h2 h3 => ?_⟩
  · rcases List.mem_append.1 hc with hc | hc
    · exact g.nm c hc
    · rw [one hc]; exact hx
  · rw [List.map_append]; rw [List.nodup_append]
    refine ⟨g.nd, by simp, fun a ha b hb => ?_⟩
    rw [List.mem_singleton.1 (show b ∈ [x] from hb)]
    rintro rfl
    exact hn ha
  · rcases List.mem_append.1 hc with hc | hc
    · exact g.tg c hc h
    · rw [one hc] at h; cases h
  · rcases List.mem_append.1 hc with hc | hc
    · exact g.ls c hc l h
    · rw [one hc] at h; cases h
  · rw [List.pairwise_append]
    refine ⟨g.fr, by simp, fun a ha b hb h1 h2 l h3 => ?_⟩
    rw [one hb] at h3
    cases h3
  · rcases List.mem_append.1 hc with hc | hc
    · exact g.old c hc l h
    · rw [one hc] at h; cases h
  · rw [lo] at h3 ⊢
    rcases List.mem_append.1 hc with hc | hc
    · exact g.r6 c hc h1 h2 h3
    · rw [one hc] at h1; cases h1
theorem at_mid (td : Tabs) (t : Str × List Col) (tr : Tabs) : (td ++ t :: tr)[td.length]? = some t := by simp
theorem changed_good {ts ts' : Tabs} (g : GoodTabs ts) (h : Changed ts ts') (hf : FreeT ts ts') : GoodTabs ts' := by
  obtain ⟨td, t, tr, t', rfl, rfl, road⟩ := h
  obtain ⟨g1, g2, g3, g4⟩ := g.split td t tr rfl
  have fr := hf td.length t t' (at_mid ..) (at_mid ..)
  have later : t'.1 = t.1 → key t'.2 = key t.2 → ∀ z ∈ tr, ∀ c ∈ z.2, ∀ l, c.lst = some l → some l ∉ takenStep c.target t' := fun hn hk z hz c hc l hl => by
    obtain ⟨zd, zr, rfl⟩ := List.append_of_mem hz
    obtain ⟨_, _, _, g5⟩ := g.split (td ++ t :: zd) z zr (by simp)
    refine taken_eq hn hk l (g5.old c hc l hl t (by simp)) fun e z2 => ?_
    obtain ⟨x, hx, ex⟩ := List.mem_map.mp z2
    refine fr x hx ?_
    rw [ex, e]
    exact in_lists (z := z) (by simp) hc hl
  cases road with
  | @add x hx hn hl =>
    have hk : key (t.2 ++ [.plain true x]) = key t.2 := by
      unfold key
      rw [List.filter_append]
      exact congrArg _ (List.append_nil _)
    exact good_other (t := t) (t' := (t.1, t.2 ++ [.plain true x])) rfl hk (good_add g4 hx hn hl) _ tr rfl g (later rfl hk)
  | turn e =>
    rename_i d r c
    have nd := g4.nd
    rw [e] at nd
    have em := turnAt_at nd
    have hk : key (d ++ c.turn :: r) = key t.2 := by rw [← em, key_map fun c => (turnAt_stays _ c).2, e]
    refine good_other (t := t) (t' := (t.1, d ++ c.turn :: r)) rfl hk ?_ _ tr rfl g (later rfl hk)
    show GoodCols td (d ++ c.turn :: r)
    rw [← em, ← e]
    exact good_map (turnAt_stays _) g4
  | name e hm hn =>
    subst e
    exact GoodTabs.snoc g1 hm (fun z => hn (by rw [List.map_append]; exact List.mem_append_left _ z)) g4
/-! ### the lines tell them apart -/
theorem cat_inj {a x y : Str} (h : a ++ x = a ++ y) : x = y := by
  have e : (a ++ x).cps.toList = (a ++ y).cps.toList := by rw [h]
  have ex : ∀ z : Str, (a ++ z).cps.toList = a.cps.toList ++ z.cps.toList := fun z => by
    show (a.cps ++ z.cps).toList = _
    rw [Array.toList_append]
  rw [ex, ex] at e
  have e2 := List.append_cancel_left e
  obtain ⟨x⟩ := x
  obtain ⟨y⟩ := y
  have e3 : x = y := Array.toList_inj.mp e2
  rw [e3]
theorem turn_line (c : Col) : colLine c.turn ≠ colLine c := by
  intro h
  have h := congrArg Str.length h
  have e0 : Str.empty.length = 0 := rfl
  have e1 : (sz " ").length = 1 := by decide
  have e2 : (sz "?").length = 1 := by decide
  have e3 : (sz "").length = 0 := by decide
  have e4 : (sz " to ").length = 4 := by decide
  have e5 : (sz " as ").length = 4 := by decide
  have k1 : (Str.ofString "flag").length = 4 := by decide
  have k2 : (Str.ofString "number").length = 6 := by decide
  unfold colLine at h
  cases c with
  | plain f n =>
    cases f <;> simp only [Col.turn, Col.isLink, Col.lst, Col.kind, Col.name, Col.opt, len_cat, e0, e1, e3, k1, k2, Bool.false_eq_true, if_false, Bool.not_true, Bool.not_false] at h <;> omega
  | word n o =>
    cases o <;> simp only [Col.turn, Col.isLink, Col.lst, Col.kind, Col.name, Col.opt, len_cat, e0, e1, e2, e3, Bool.false_eq_true, if_false, if_true, Bool.not_true, Bool.not_false] at h <;> omega
  | link n t o l =>
    cases o <;> cases l <;> simp only [Col.turn, Col.isLink, Col.lst, Col.kind, Col.name, Col.target, Col.opt, len_cat, e0, e1, e2, e3, e4, e5, Bool.false_eq_true, if_false, if_true, Bool.not_true, Bool.not_false] at h <;> omega
theorem changed_lines {ts ts' : Tabs} {u u' : Str} (h : Changed ts ts') : linesOf u ts ≠ linesOf u' ts' := by
  obtain ⟨td, t, tr, t', rfl, rfl, road⟩ := h
  intro e
  unfold linesOf at e
  injection e with _ e
  rw [List.flatMap_append, List.flatMap_append, List.flatMap_cons, List.flatMap_cons] at e
  have e := List.append_cancel_right (List.append_cancel_left e)
  unfold tabLines at e
  injection e with e1 e2
  cases road with
  | add hx hn hl =>
    have := congrArg List.length e2
    simp at this
  | turn et =>
    rename_i d r c
    rw [et] at e2
    rw [List.map_append, List.map_append, List.map_cons, List.map_cons] at e2
    have e2 := List.append_cancel_left e2
    injection e2 with e2 _
    exact turn_line c e2.symm
  | @name m et hm hn =>
    have em : t.1 = m := cat_inj e1
    exact hn (List.mem_map.mpr ⟨t, List.mem_append_right _ List.mem_cons_self, em⟩)
theorem user_lines {u u' : Str} {ts : Tabs} : linesOf u ts = linesOf u' ts ↔ u = u' := by
  refine ⟨fun e => ?_, fun e => by rw [e]⟩
  unfold linesOf at e
  injection e with e _
  exact cat_inj e
end LP
namespace LP
open PySem L2
section
variable {X : Cx} {k j : Nat} {C : Addr} {sp : Sp}
theorem call_lenM (c : C8.Met X.prog X.w X.K X.mg X.base k C "__len__" sp []) (hr : Room j X.A) (hk : k + 1 ≤ j) : CallR X (.builtin "len") (rOwnLen C sp C8.E0) := by
  obtain ⟨f, fd, ps, ds, _, hm, F, b, d⟩ := c.ex
  cases d
  exact call_own_len hm F (hr.mono hk) b C8.pass0
theorem call_strM (c : C8.Met X.prog X.w X.K X.mg X.base k C "__str__" sp []) (hr : Room j X.A) (hk : k + 2 ≤ j) : CallR X (.type "str") (rOwnStr C sp C8.E0) := by
  obtain ⟨f, fd, ps, ds, _, hm, F, b, d⟩ := c.ex
  cases d
  exact call_own_str hm F (hr.mono hk) b C8.pass0
theorem op_eqM {K : PySem.W.Frag} (hK : X.K = K) (c : C8.Met X.prog X.w X.K X.mg X.base k C "__eq__" sp []) (hr : Room j X.A) (hk : k ≤ j) : OpR X (compareOp .Eq) (rOwnEq C false sp C8.E0 K) := by
  subst hK
  obtain ⟨f, fd, ps, ds, _, hm, F, b, d⟩ := c.ex
  cases d
  exact op_own_eq hm F (hr.mono hk) b C8.pass0
theorem op_neM {K : PySem.W.Frag} (hK : X.K = K) (nn : NoNe K C) (c : C8.Met X.prog X.w X.K X.mg X.base k C "__eq__" sp []) (hr : Room j X.A) (hk : k + 2 ≤ j) : OpR X (compareOp .NotEq) (rOwnEq C true sp C8.E0 K) := by
  subst hK
  obtain ⟨f, fd, ps, ds, _, hm, F, b, d⟩ := c.ex
  cases d
  exact op_own_ne nn hm F (hr.mono hk) b C8.pass0
end
end LP
namespace LP
open PySem L2
open Evl (Ex)
def spMeetsX (K : PySem.W.Frag) (CB : Addr) : Sp := fun vs H Q E => ∃ (i : V) (a d : Addr) (xs : List V) (td : Tabs) (cs : List Col), vs = [i, .ref a, .ref d] ∧ H a = some (.tup xs) ∧ ColsV H xs cs ∧ cs.length ≤ 20 ∧ (∀ c ∈ cs, c.Ok) ∧ Meets H d (meetMap td) ∧
  (∀ c ∈ cs, c.isLink = true → ∃ b, (meetMap td).lookup c.target = some b) ∧ (brk td cs = none → ∀ H', Ex H H' → Q (.bl (meetOf (meetMap td) cs)) H') ∧ ∀ j, brk td cs = some j → Bad2 CB "table" "column" i (.int (j : Nat)) H E
theorem brk_mid {td : Tabs} {cs md mr : List Col} {c : Col} (e : cs = md ++ c :: mr) (h1 : ∀ x ∈ md, brkC td cs x = false) (h2 : brkC td cs c = true) : brk td cs = some md.length := by
  unfold brk
  rw [List.findIdx?_eq_some_iff_getElem]
  refine ⟨by rw [e]; simp, ?_, fun j hj => ?_⟩
  · have : cs[md.length]'(by rw [e]; simp) = c := by simp [e]
    rw [this]
    exact h2
  · have : cs[j]'(by rw [e]; simp; omega) = md[j] := by
      simp only [e]
      exact List.getElem_append_left hj
    rw [this, h1 _ (List.getElem_mem hj)]
    exact Bool.false_ne_true
theorem brk_all {td : Tabs} {cs : List Col} (h : ∀ x ∈ cs, brkC td cs x = false) : brk td cs = none := by
  unfold brk
  rw [List.findIdx?_eq_none_iff]
  exact h
theorem colsL_eqv : ∀ cs ds : List Col, PyData.eqvAll (cs.map Col.data) (ds.map Col.data) = decide (cs = ds)
  | [], [] => rfl
  | [], _ :: _ => rfl
  | _ :: _, [] => rfl
  | c :: r, d :: s => by
    rw [List.map_cons,
            List.map_cons]
    simp only [PyData.eqvAll, Col.eqv, colsL_eqv r s, List.cons.injEq]
    by_cases h1 : c = d <;> by_cases h2 : r = s <;> simp [h1, h2]
section
variable {base : Heap} {mg : Str → Option Value} {K : PySem.W.Frag} {w : World} {P : Program} {CB fI : Addr} {fdI : FuncData}
theorem ok_badschema {f : Addr} {fd : FuncData} (T : OexC K CB) (n1 : PySem.W.findIn K (.ref CB) "table" = some none) (n2 : PySem.W.findIn K (.ref CB) "column" = some none) (F : C8.Fun K "__init__" "BadSchema.__init__" s_BadSchema___init__ f fd) :
    FnOk P w K mg base C8.CX0 1 f fd ["self", "table", "column"] (spEx2 CB "table" "column") := by
  have sc : FnScope ["self", "table", "column"] ["self", "table", "column"] (C8.fnScope s_BadSchema___init__) := C8.fnScope_by (by decide +kernel)
  refine C8.fn0 F sc (fun vs H Q E h => ?_) (fun cdv A outer s H vs Q E hr h => ?_)
  · obtain ⟨_, _, _, rfl, _⟩ := h
    rfl
  · obtain ⟨a, v, u, rfl, ha, k⟩ := h
    refine ⟨_, (pss_cons (ps_os2 (K := K) rfl (pv 0) (pv 1) rfl)
        (pss_one (ps_os2 (K := K) rfl (pv 0) (pv 2) rfl))), ?_⟩
    walk_at "w"
    refine ⟨a, CB, rfl, T, n1, .inl ⟨ha, fun dx hdx ne => ?_⟩⟩
    walk_at "w"
    exact ⟨a, CB, rfl, T, n2, .inr ⟨dx, _, upd_same, by rw [upd_ne ne]; exact upd_same, by show 1 ≤ 900; omega, k dx hdx ne⟩⟩
theorem ok_meetsX {f : Addr} {fd : FuncData} (D : C8.Def K mg "_meets" s__meets f fd) (b : Binds K fd ["index", "columns", "meeting"] []) (B : Blt mg) (NX : ExV P w K mg base "BadSchema" CB fI fdI ["self", "table", "column"] 1 (spEx2 CB "table" "column"))
    (c_is_link : C8.Cal P w K mg base 1 "is_link" spIsLink []) (c_has_list : C8.Cal P w K mg base 2 "has_list" spHasList []) : FnOk P w K mg base (L2.CX P w) 3 f fd ["index", "columns", "meeting"] (spMeetsX K CB) := by
  have sc : FnScope ["index", "columns", "meeting", "makers", "column", "leading", "at"] ["index", "columns", "meeting"] (C8.fnScope s__meets) := C8.fnScope_by (by decide +kernel)
  refine fnX D.fn sc (fun vs H Q E h => ?_) (fun cdv A outer s H vs Q E hr h => ?_)
  · obtain ⟨_, _, _, _, _, _, rfl, _⟩ := h
    rfl
  · obtain ⟨i, a, d, xs, td, cs, rfl, ha, hc, hn, hok, hm, htg, kN, kS⟩ := h
    obtain ⟨m, em⟩ : ∃ m, m = meetMap td := ⟨_, rfl⟩
    rw [← em] at hm htg kN
    have el0 : ∀ c, leads m c = leads' td c := fun c => by rw [em]; rfl
    have hat : SqT K H a xs := SqT.of ha
    have lx := paired_len hc
    refine ⟨_, (pss_cons (ps_setLc (i := 3) (own := [("column", 4)]) (g := (gName 4)) (by rfl) sc.nd rfl rfl (sw_true rfl rfl rfl (by decide +kernel)) (pi_tupK (K := K) rfl (pv 1)) (blkOk_by (own := [("column", 4)]) (N := ["index", "columns", "meeting", "makers", "column", "leading", "at"]) (sc := C8.fnScope s__meets) (by decide +kernel)) (fun _ _ _ _ _ => (pg_name (i := 4) sc.nd rfl (Or.inl rfl))) (fun _ _ _ _ _ => pts_one (pt_val (C8.pe_c c_has_list hr (by decide) rfl (pa_cons (pv 4) pa_nil)))) (fun _ _ _ _ _ => (pv 4)))
        (pss_cons (ps_setLc (i := 5) (own := [("column", 4)]) (g := (gName 4)) (by rfl) sc.nd rfl rfl (sw_true rfl rfl rfl (by decide +kernel)) (pi_tupK (K := K) rfl (pv 1)) (blkOk_by (own := [("column", 4)]) (N := ["index", "columns", "meeting", "makers", "column", "leading", "at"]) (sc := C8.fnScope s__meets) (by decide +kernel)) (fun _ _ _ _ _ => (pg_name (i := 4) sc.nd rfl (Or.inl rfl))) (fun _ _ _ _ _ => pts_one (PW.pt (pw_and (pt_val (C8.pe_c c_is_link hr (by decide) rfl (pa_cons (pv 4) pa_nil))) (pw_and1 (pt_val (pe_dget (hu_of hr) (pv 2) (pe_ix (ix_tupK (K := K) rfl) (pv 4) pe_int (fun _ _ => rfl)) (fun _ _ => rfl))))))) (fun _ _ _ _ _ => (pv 4)))
        (pss_cons (ps_for (passes_of rfl) rfl (pi_enumTK (K := K) rfl (by rfl) B.enumerate_ (pa_cons (pv 1) pa_nil)) (pg_tupK (K := K) (n := 2) rfl rfl (pgs_cons (pg_name (i := 6) sc.nd rfl (Or.inl rfl)) (pgs_cons (pg_name (i := 4) sc.nd rfl (Or.inl rfl)) pgs_nil)))
        (pss_one (ps_if (PW.pt (pw_and (pt_truthK (K := K) rfl (pv 3)) (pw_and (pt_cmpR (op_inDK (K := K) rfl (hu65 hr)) (pv 4) (pv 5) (by rfl)) (pw_and1 (pt_cmpR (op_neDK (K := K) rfl (hu64 hr)) (pv 3) (pe_lst (pa_cons (pv 4) pa_nil)) (nomark _))))))
        (pss_one (ps_raiseV rfl (takes_of rfl rfl rfl rfl) (pmk_V NX hr (by decide) rfl (pa_cons (pv 0) (pa_cons (pv 6) pa_nil)))))
        pss_nil)))
        (pss_one (ps_ret (pe_or (pe_callTy (call_boolLK (K := K) rfl) (by rfl) B.bool_ (by decide +kernel) (pa_cons (pv 3) pa_nil)) (pe_one (pe_callTy (call_boolLK (K := K) rfl) (by rfl) B.bool_ (by decide +kernel) (pa_cons (pv 5) pa_nil))))))))), ?_⟩
    walk_at "w"
    intro D1 hD1
    refine compQT cs (ColAt H) (fun c => if c.lst.isSome = true then some c else none) (ColAt H) hD1 hat (by omega) hc (fun y c hy hmc H3 e3 kk kn hk hkn => ?_) (fun acc1 H1 e1 hacc1 hp1 => ?_)
    · have hy3 := hy.ext e3
      walk_at "w"
      refine ⟨y, c, rfl, hy3, ?_⟩
      walk_at "w"
      refine iteB (fun hL => ?_) (fun hL => ?_)
      · walk_at "w"
        exact hk _ _ _ (Ex.refl _) (by rw [if_pos hL]) hy
      · exact hkn _ (Ex.refl _) (by rw [if_neg (by rw [hL]; exact Bool.false_ne_true)])
    · rw [filterMap_if] at hp1
      have hat1 : SqT K H1 a xs := Evl.ex_t e1 hat
      have hp1 : ColsV H acc1 (listedOf cs) := hp1
      walk_at "w"
      intro D2 hD2
      refine compQT cs (ColAt H1) (fun c => if leads m c = true then some c else none) (ColAt H1) hD2 hat1 (by omega) (hc.ext e1) (fun y c hy hmc H3 e3 kk kn hk hkn => ?_) (fun acc2 H2 e2 hacc2 hp2 => ?_)
      · have hy3 := hy.ext e3
        walk_at "w"
        refine ⟨y, c, rfl, hy3, ?_⟩
        walk_at "w"
        refine iteB (fun hL => ?_) (fun hL => ?_)
        · obtain ⟨ca, rfl, hca⟩ := hy3
          obtain ⟨b', hb'⟩ := htg c hmc hL
          walk_at "w"
          refine w_ixT (SqT.of hca) (Col.at2 hL) ?_
          refine w_kG ((e1.trans e3) _ _ hm) (meets_get hb') ?_
          have el : leads m c = b' := by
            unfold leads
            rw [hL, hb']
            cases b' <;> rfl
          walk_at "w"
          refine iteB (fun hb => ?_) (fun hb => ?_)
          · walk_at "w"
            exact hk _ _ _ (Ex.refl _) (by rw [if_pos (el.trans hb)]) hy
          · exact hkn _ (Ex.refl _) (by rw [if_neg (by rw [el, hb]; exact Bool.false_ne_true)])
        · exact hkn _ (Ex.refl _) (by rw [if_neg (by unfold leads; rw [hL]; exact Bool.false_ne_true)])
      · rw [filterMap_if] at hp2
        have hat2 : SqT K H2 a xs := Evl.ex_t e2 hat1
        have hp2 : ColsV H1 acc2 (cs.filter (leads m)) := hp2
        have mk2 : SqL K H2 D1 acc1 := SqL.of (e2 _ _ hacc1)
        have ld2 : SqL K H2 D2 acc2 := SqL.of hacc2
        have v1 : ColsV H2 acc1 (listedOf cs) := (hp1.ext e1).ext e2
        have v2 : ColsV H2 acc2 (cs.filter (leads m)) := hp2.ext e2
        walk_at "w"
        refine loopET (xs := xs) (fun d' r σ' H' => (∃ x4 x6, σ' = [some i, some (.ref a), some (.ref d), some (.ref D1), x4, some (.ref D2), x6]) ∧ Ex H2 H' ∧ ∀ md mr, cs = md ++ mr → md.length = d'.length → ∀ x ∈ md, brkC td cs x = false) ⟨⟨_, _, rfl⟩, Ex.refl _, fun md mr _ e x hx => by rw [List.eq_nil_of_length_eq_zero e] at hx; cases hx⟩ (fun d' r σ' H' e h => ?_) (fun d' y r σ' H' Tp e hTp h => ?_) (fun σ' H' h => ?_)
        · exact Evl.ex_t h.2.1 hat2
        · obtain ⟨⟨x4, x6, rfl⟩, ex, old⟩ := h
          obtain ⟨md, mr0, ecs, pd, pr⟩ := paired_cut (d := d') (r := y :: r) (m := cs) (by rw [e]; exact hc)
          obtain ⟨c, mr, rfl, hy, _⟩ := paired_cons pr
          have lmd := (paired_len pd).symm
          have hmc : c ∈ cs := by rw [ecs]; simp
          have oldd := old md (c :: mr) ecs lmd
          have next : brkC td cs c = false → ∀ md' mr', cs = md' ++ mr' → md'.length = (d' ++ [y]).length → ∀ x ∈ md', brkC td cs x = false := fun hb md' mr' e' l' x hx => by
            have e2 : md' = md ++ [c] := by
              have q : md' ++ mr' = (md ++ [c]) ++ mr := by rw [← e', ecs]; simp
              exact (List.append_inj q (by rw [l', List.length_append, List.length_append, lmd]; rfl)).1
            rw [e2] at hx
            rcases List.mem_append.1 hx with hx | hx
            · exact oldd x hx
            · rw [List.mem_singleton.1 hx]; exact hb
          have exT : Ex H2 (L2.upd H' Tp (.tup [.int (d'.length : Nat), y])) := ex.trans (Ex.new hTp)
          have hTt : (L2.upd H' Tp (.tup [.int (d'.length : Nat), y])) Tp = some (.tup [.int (d'.length : Nat), y]) := upd_same
          generalize (L2.upd H' Tp (.tup [.int (d'.length : Nat), y])) = H3 at exT hTt ⊢
          have mk3 := Evl.ex_l exT mk2
          have ld3 := Evl.ex_l exT ld2
          have hy3 : ColAt H3 y c := ((hy.ext e1).ext e2).ext exT
          have ex03 : Ex H H3 := (e1.trans e2).trans exT
          walk_at "w"
          rw [paired_empty v1, listedOf_ne]
          have bq : brkC td cs c = (isListed cs && (leads' td c && decide (listedOf cs ≠ [c]))) := by unfold brkC; rw [listedOf_ne]
          refine iteB (fun hL => ?_) (fun hL => ?_)
          · walk_at "w"
            have sh : ∀ l : List Col, (∀ x ∈ l, x ∈ cs) → SeqAt.shaped (.list (l.map Col.data)) = true := fun l hl => shapedL_cols fun x hx => hok x (hl x hx)
            refine ⟨c.data, (cs.filter (leads m)).map Col.data, hy3.dp, .lst ld3 (v2.ext exT).dp, Col.shaped (hok c hmc), sh _ (fun x hx => (List.mem_filter.mp hx).1), ?_⟩
            rw [any_eqv]
            walk_at "w"
            refine iteD (fun hM => ?_) (fun hM => ?_)
            · have lc : leads' td c = true := by rw [← el0]; exact (List.mem_filter.mp hM).2
              walk_at "w"
              intro L hL'
              have exL : Ex H3 (L2.upd H3 L (.lst [y])) := Ex.new hL'
              have hLL : (L2.upd H3 L (.lst [y])) L = some (.lst [y]) := upd_same
              generalize (L2.upd H3 L (.lst [y])) = H4 at exL hLL ⊢
              refine ⟨.list ((listedOf cs).map Col.data), .list [c.data], .lst (Evl.ex_l exL mk3) ((v1.ext exT).ext exL).dp, .lst (SqL.of hLL) (.cons (hy3.ext exL).dp .nil), sh _ (fun x hx => (List.mem_filter.mp hx).1), sh [c] (fun x hx => by rw [List.mem_singleton.1 hx]; exact hmc), ?_⟩
              rw [show PyData.eqv (.list ((listedOf cs).map Col.data)) (.list [c.data]) = decide (listedOf cs = [c]) from by
                have := colsL_eqv (listedOf cs) [c]
                simp only [PyData.eqv]
                exact this]
              by_cases one : listedOf cs = [c]
              · rw [decide_eq_true one]
                walk_at "w"
                exact ⟨⟨_, _, rfl⟩, exT.trans exL, next (by rw [bq, hL, lc, decide_eq_false (fun z => z one)]; rfl)⟩
              · rw [decide_eq_false one]
                have hb : brk td cs = some d'.length := by
                  rw [← lmd]
                  exact brk_mid ecs oldd (by rw [bq, hL, lc, decide_eq_true one]; rfl)
                walk_at "w"
                refine ⟨by simp, fun a ha => ?_⟩
                have bad : Bad2 CB "table" "column" i (.int (d'.length : Nat)) H4 E := fun dd H5 e5 h5 => kS _ hb dd H5 (fun b o h => e5 b o (exL _ _ (ex03 _ _ h))) h5
                exact raised2 bad a ha
            · have lc : leads' td c = false := by
                cases q : leads' td c with
                | false => rfl
                | true => exact absurd (List.mem_filter.mpr ⟨hmc, (el0 c).trans q⟩) hM
              walk_at "w"
              exact ⟨⟨_, _, rfl⟩, exT, next (by rw [bq, lc]; simp)⟩
          · walk_at "w"
            exact ⟨⟨_, _, rfl⟩, exT, next (by rw [bq, hL]; rfl)⟩
        · obtain ⟨⟨x4, x6, rfl⟩, ex, old⟩ := h
          have none_ : brk td cs = none := brk_all (old cs [] (by simp) lx.symm)
          have mk3 := Evl.ex_l ex mk2
          have ld3 := Evl.ex_l ex ld2
          walk_at "w"
          refine w_boolL mk3 ?_
          walk_at "w"
          rw [paired_empty v1, listedOf_ne]
          have k2 := kN none_ H' ((e1.trans e2).trans ex)
          unfold meetOf at k2
          refine iteB (fun hL => ?_) (fun hL => ?_)
          · rw [hL] at k2
            exact k2
          · rw [hL] at k2
            walk_at "w"
            refine w_boolL ld3 ?_
            rw [paired_empty v2, filter_ne]
            exact k2
end
end LP
namespace LP
open PySem L2
open Evl (Ex)
/-! ### the columns of any values -/
def colOf : PyData → Option Col
  | .tuple [.str k, .str n] => if k = "flag" then some (.plain true n) else if k = "number" then some (.plain false n) else none
  | .tuple [.str k, .str n, .bool o] => if k = "word" then some (.word n o) else none
  | .tuple [.str k, .str n, .str t, .bool o, .none] => if k = "link" then some (.link n t o none) else none
  | .tuple [.str k, .str n, .str t, .bool o, .str l] => if k = "link" then some (.link n t o (some l)) else none
  | _ => none
theorem lenD_in {k : Str} {r : Nat} (h : lenD k = r + 2) : (k = "flag" ∧ r = 0) ∨ (k = "number" ∧ r = 0) ∨ (k = "word" ∧ r = 1) ∨ (k = "link" ∧ r = 3) := by
  unfold lenD at h
  by_cases h1 : k = "flag" ∨ k = "number"
  · rw [if_pos h1] at h
    rcases h1 with h1 | h1
    · exact .inl ⟨h1, by omega⟩
    · exact .inr (.inl ⟨h1, by omega⟩)
  · rw [if_neg h1] at h
    by_cases h2 : k = "word"
    · rw [if_pos h2] at h
      exact .inr (.inr (.inl ⟨h2, by omega⟩))
    · rw [if_neg h2] at h
      by_cases h3 : k = "link"
      · rw [if_pos h3] at h
        exact .inr (.inr (.inr ⟨h3, by omega⟩))
      · rw [if_neg h3] at h
        omega
theorem colB_col {ns : List Str} {m : List (Str × Lists)} {ts : Tabs} {d : PyData} (hts : ∀ t ∈ ts, t.2.length ≤ 1000) (h : colB ns m ts d = true) : ∃ c, colOf d = some c ∧ d = c.data ∧ ColIn c ns m ts := by
  unfold colB at h
  split at h
  · rename_i k n r
    simp only [Bool.and_eq_true, decide_eq_true_eq, Bool.not_eq_true'] at h
    obtain ⟨hl, hn, hi, hr⟩ := h
    obtain ⟨nm, rfl, hnm⟩ := strD_str hn
    have hi : nm ∉ ns := of_decide_eq_false hi
    have hnm := (nameB_iff _).mp hnm
    rcases lenD_in hl with ⟨rfl, l0⟩ | ⟨rfl, l0⟩ | ⟨rfl, l0⟩ | ⟨rfl, l0⟩
    · obtain rfl := List.eq_nil_of_length_eq_zero l0
      exact ⟨.plain true nm, rfl, rfl, hnm, hi, fun z => nomatch z⟩
    · obtain rfl := List.eq_nil_of_length_eq_zero l0
      exact ⟨.plain false nm, rfl, rfl, hnm, hi, fun z => nomatch z⟩
    · match r, l0 with
      | [o], _ =>
        unfold restB at hr
        rw [if_neg (show ¬ (("word" : Str) = "link") by decide +kernel), decide_eq_true (rfl : ("word" : Str) = "word")] at hr
        have hr : isBoQ o = true := hr
        cases o with
        | bool b => exact ⟨.word nm b, rfl, rfl, hnm, hi, fun z => nomatch z⟩
        | _ => cases hr
    · match r, l0 with
      | [tg, o, l], _ =>
        unfold restB at hr
        rw [if_pos rfl] at hr
        simp only [Bool.and_eq_true] at hr; obtain ⟨h1, h2, h3⟩ := hr
        obtain ⟨x, rfl, hx⟩ := strD_str h1
        cases o with
        | bool b =>
          cases g1 : ts.lookup x with
          | none =>
            simp only [tgtD, g1] at h3
            cases h3
          | some cs =>
          cases g2 : m.lookup x with
          | none =>
            simp only [tgtD, g1, g2] at h3
            cases h3
          | some ls =>
          simp only [tgtD, g1, g2] at h3
          have hc := hts _ (PySem.mem_of_lookup g1)
          cases l with
          | none => exact ⟨.link nm x b none, rfl, rfl, hnm, hi, fun _ => ⟨cs, ls, g1, g2, hc, fun y e => (nomatch e), rfl⟩⟩
          | str y =>
            have h3 : isListB cs ls (some y) = true := h3
            refine ⟨.link nm x b (some y), rfl, rfl, hnm, hi, fun _ => ⟨cs, ls, g1, g2, hc, fun z e => ?_, h3⟩⟩
            cases e
            have h4 := h3
            unfold isListB at h4
            simp only [Bool.and_eq_true] at h4
            exact Nat.le_trans ((nameB_iff _).mp h4.1.1).1.2.1 (by decide)
          | _ => cases h3
        | _ => cases h2
  · cases h
/-- what a table's values tell: the first that may not stand, or the columns -/
def takeF (t : Str) (m : List (Str × Lists)) (ts : Tabs) : List Col → List PyData → Sum Nat (List Col)
  | md, [] => .inr md
  | md, d :: r => if colB (md.map Col.name) (md.foldl (addCol t) m) ts d = true then (match colOf d with
      | some c => takeF t m ts (md ++ [c]) r
      | none => .inl md.length) else .inl md.length
theorem takeF_cons {t : Str} {m : List (Str × Lists)} {ts : Tabs} {md : List Col} {d : PyData} {r : List PyData} {c : Col} (h : colB (md.map Col.name) (md.foldl (addCol t) m) ts d = true) (hc : colOf d = some c) : takeF t m ts md (d :: r) = takeF t m ts (md ++ [c]) r := by
  rw [takeF, if_pos h, hc]
theorem takeF_no {t : Str} {m : List (Str × Lists)} {ts : Tabs} {md : List Col} {d : PyData} {r : List PyData} (h : colB (md.map Col.name) (md.foldl (addCol t) m) ts d = false) : takeF t m ts md (d :: r) = .inl md.length := by
  rw [takeF, if_neg (by rw [h]; exact Bool.false_ne_true)]
/-! ### values that stay while dicts change -/
def DictsAt (own : List Addr) (H : Hp) : Prop := ∀ a ∈ own, ∀ o, H a = some o → (∀ xs, o ≠ .lst xs) ∧ (∀ xs, o ≠ .tup xs) ∧ ∀ b u, o ≠ .frz b u
theorem sqL_exO {K : PySem.W.Frag} {own : List Addr} {H H' : Hp} {a : Addr} {xs : List V} (o : DictsAt own H) (e : ExO own H H') (h : SqL K H a xs) : SqL K H' a xs := by
  rcases h with (h | ⟨u, h⟩) | h
  · exact .inl (.inl (e _ _ h fun z => (o _ z _ h).1 _ rfl))
  · exact .inl (.inr ⟨u, e _ _ h fun z => (o _ z _ h).2.2 _ _ rfl⟩)
  · exact .inr h
theorem sqT_exO {K : PySem.W.Frag} {own : List Addr} {H H' : Hp} {a : Addr} {xs : List V} (o : DictsAt own H) (e : ExO own H H') (h : SqT K H a xs) : SqT K H' a xs := by
  rcases h with (h | ⟨u, h⟩) | h
  · exact .inl (.inl (e _ _ h fun z => (o _ z _ h).2.1 _ rfl))
  · exact .inl (.inr ⟨u, e _ _ h fun z => (o _ z _ h).2.2 _ _ rfl⟩)
  · exact .inr h
theorem dictsAt_of {own : List Addr} {H : Hp} (h : ∀ a ∈ own, ∃ kv, H a = some (.dK kv)) : DictsAt own H := fun a ha o ho => by
  obtain ⟨kv, e⟩ := h a ha
  rw [ho] at e
  cases e
  exact ⟨fun _ z => (nomatch z), fun _ z => (nomatch z), fun _ _ z => (nomatch z)⟩
theorem insAt_of {H : Hp} {p C dx : Addr} {fs : List (Str × V)} (h : H p = some (.ins C dx fs)) : DictsAt [p] H := fun a ha o ho => by
  rw [List.mem_singleton.1 ha, h] at ho
  cases ho
  exact ⟨fun _ z => (nomatch z), fun _ z => (nomatch z), fun _ _ z => (nomatch z)⟩
mutual
theorem dp_exO {K : PySem.W.Frag} {own : List Addr} {H H' : Hp} (o : DictsAt own H) (e : ExO own H H') : ∀ {v : V} {d : PyData}, Dp K H v d → Dp K H' v d
  | _, _, .non => .non
  | _, _, .bl b => .bl b
  | _, _, .int i => .int i
  | _, _, .str x => .str x
  | _, _, .lst h r => .lst (sqL_exO o e h) (dpAll_exO o e r)
  | _, _, .tup h r => .tup (sqT_exO o e h) (dpAll_exO o e r)
theorem dpAll_exO {K : PySem.W.Frag} {own : List Addr} {H H' : Hp} (o : DictsAt own H) (e : ExO own H H') : ∀ {vs : List V} {ds : List PyData}, DpAll K H vs ds → DpAll K H' vs ds
  | _, _, .nil => .nil
  | _, _, .cons h r => .cons (dp_exO o e h) (dpAll_exO o e r)
end
/-- a value that may be a column -/
structure ColD (K : PySem.W.Frag) (H : Hp) (v : V) (d : PyData) : Prop where
  dp : Dp K H v d
  sz : SzD d
  at_ : ∀ c : Col, d = c.data → ColAt H v c
theorem ColD.exO {K : PySem.W.Frag} {own : List Addr} {H H' : Hp} {v : V} {d : PyData} (o : DictsAt own H) (e : ExO own H H') (h : ColD K H v d) : ColD K H' v d :=
  ⟨dp_exO o e h.dp, h.sz, fun c hc => by
    obtain ⟨a, ev, ha⟩ := h.at_ c hc
    exact ⟨a, ev, e _ _ ha fun z => (o _ z _ ha).2.1 _ rfl⟩⟩
theorem ColD.ext {K : PySem.W.Frag} {H H' : Hp} {v : V} {d : PyData} (e : Ex H H') (h : ColD K H v d) : ColD K H' v d := ⟨dp_ext e h.dp, h.sz, fun c hc => (h.at_ c hc).ext e⟩
theorem Part.dicts {C : Addr} {H : Hp} {p dc dl : Addr} {cvs : List (Key × V)} {rs : Rows} {ts : Tabs} (h : Part C H p dc dl cvs rs ts) : DictsAt (rs.own dc dl) H := dictsAt_of fun a ha => by
  rcases List.mem_cons.1 ha with rfl | ha
  · exact ⟨_, h.hdc⟩
  · rcases List.mem_cons.1 ha with rfl | ha
    · exact ⟨_, h.hdl⟩
    · obtain ⟨r0, hr0, rfl⟩ := List.mem_map.mp ha
      obtain ⟨kv, g, _⟩ := h.lst r0 hr0
      exact ⟨kv, g⟩
def spTakeColsG (K : PySem.W.Frag) (C CB : Addr) : Sp := fun vs H Q E => ∃ (p q : Addr) (i : V) (t : Str) (xs : List V) (ds : List PyData) (dc dl : Addr) (cvs : List (Key × V)) (rs : Rows) (ts : Tabs), vs = [.ref p, i, .str t, .ref q] ∧ Part C H p dc dl cvs rs ts ∧
  SqL K H q xs ∧ Paired (ColD K H) xs ds ∧ ds.length ≤ 20 ∧ ts.length ≤ 100 ∧ (∀ t ∈ ts, t.2.length ≤ 1000) ∧ t ∉ ts.map (·.1) ∧ rs.mir.map (·.1) = ts.map (·.1) ∧ (∀ r ∈ rs, r.2.2.length ≤ 500) ∧
  (∀ cs, takeF t rs.mir ts [] ds = .inr cs → ∀ (T D : Addr) (H' : Hp), H D = none → ExO (rs.own dc dl) H H' → Part C H' p dc dl (cvs ++ [(.inr t, .ref T)]) (cs.foldl (rsAdd t) rs ++ [(t, D, [])]) (ts ++ [(t, cs)]) → Q .non H') ∧
  ∀ j, takeF t rs.mir ts [] ds = .inl j → ∀ (dd : Addr) (H' : Hp), ExO (rs.own dc dl) H H' → H' dd = some (.xd [("column", .int (j : Nat)), ("table", i)]) → E (.ref CB) (some dd) H'
end LP
namespace LP
open PySem L2
open Evl (Ex)
/-! ### what is taken may stand -/
theorem in_link {cs : List Col} {tg l : Str} (h : some l ∈ linkLists cs tg) : ∃ c ∈ cs, c.isLink = true ∧ c.target = tg ∧ c.lst = some l := by
  obtain ⟨c, hc, e⟩ := List.mem_map.mp h
  obtain ⟨h1, h2⟩ := List.mem_filter.mp hc
  rw [Bool.and_eq_true] at h2
  exact ⟨c, h1, h2.1, of_decide_eq_true h2.2, e⟩
theorem ent_in {t tg l : Str} {cs : List Col} {c : Col} (hc : c ∈ cs) (e : c.target = tg) (el : c.lst = some l) : l ∈ (cs.filterMap (lstEnt t tg)).map (·.1) := by
  refine List.mem_map.mpr ⟨(l, t, c.name), List.mem_filterMap.mpr ⟨c, hc, ?_⟩, rfl⟩
  unfold lstEnt
  rw [el]
  exact if_pos e
theorem take_snoc {td : Tabs} {t : Str} {md : List Col} {c : Col} (g : GoodTabs td) (h : PreCols td md) (i : ColIn c (md.map Col.name) (md.foldl (addCol t) (mirOf td)) td) : PreCols td (md ++ [c]) := by
  refine h.snoc i.nm i.nw (fun hk => ?_) (fun l el => ?_)
  · obtain ⟨cs, ls, g1, _⟩ := i.lk hk
    exact List.mem_map.mpr ⟨_, PySem.mem_of_lookup g1, rfl⟩
  · have hk := lst_link el
    obtain ⟨cs, ls, g1, g2, _, _, g5⟩ := i.lk hk
    have mem : c.target ∈ td.map (·.1) := List.mem_map.mpr ⟨_, PySem.mem_of_lookup g1, rfl⟩
    rw [addCols_look, mirOf_look g mem] at g2
    have g2 : listsOf td c.target ++ md.filterMap (lstEnt t c.target) = ls := Option.some.inj g2
    rw [el] at g5
    have g5 : (nameB l && !decide (l ∈ cs.map Col.name) && !decide (l ∈ ls.map (·.1))) = true := g5
    simp only [Bool.and_eq_true, Bool.not_eq_true', decide_eq_false_iff_not] at g5
    obtain ⟨⟨n1, n2⟩, n3⟩ := g5
    rw [← g2, List.map_append] at n3
    refine ⟨(nameB_iff _).mp n1, fun z => ?_⟩
    rcases List.mem_append.mp z with z | z
    · obtain ⟨t2, ht2, z⟩ := List.mem_flatMap.mp z
      unfold takenStep at z
      rcases List.mem_append.mp z with z | z
      · obtain ⟨c2, hc2, _, e2, e3⟩ := in_link z
        refine n3 (List.mem_append.mpr (.inl ?_))
        have := ent_in (t := t2.1) hc2 e2 e3
        obtain ⟨e, he, e4⟩ := List.mem_map.mp this
        exact List.mem_map.mpr ⟨e, List.mem_flatMap.mpr ⟨t2, ht2, he⟩, e4⟩
      · by_cases q : t2.1 = c.target
        · rw [if_pos q] at z
          have lk := lookup_mem g.nodup ht2
          rw [q, g1] at lk
          have lk : cs = t2.2 := Option.some.inj lk
          obtain ⟨c2, hc2, e2⟩ := List.mem_map.mp z
          have e2 : c2.name = l := Option.some.inj e2
          exact n2 (List.mem_map.mpr ⟨c2, by rw [lk]; exact hc2, e2⟩)
        · rw [if_neg q] at z
          cases z
    · obtain ⟨c2, hc2, _, e2, e3⟩ := in_link z
      exact n3 (List.mem_append.mpr (.inr (ent_in hc2 e2 e3)))
theorem takeF_pre {td : Tabs} {t : Str} (g : GoodTabs td) : ∀ {ds : List PyData} {md cs : List Col}, PreCols td md → takeF t (mirOf td) td md ds = .inr cs → PreCols td cs ∧ cs.length = md.length + ds.length
  | [], md, cs, h, e => by
    have e : md = cs := Sum.inr.inj e
    subst e
    exact ⟨h, rfl⟩
  | d :: r, md, cs, h, e => by
    cases hb : colB (md.map Col.name) (md.foldl (addCol t) (mirOf td)) td d with
    | false =>
      rw [takeF_no hb] at e
      cases e
    | true =>
      obtain ⟨c, hc, _, ci⟩ := colB_col (fun t2 h2 => Nat.le_trans (g.cols t2 h2) (by decide)) hb
      rw [takeF_cons hb hc] at e
      obtain ⟨p1, p2⟩ := takeF_pre g (take_snoc g h ci) e
      refine ⟨p1, ?_⟩
      rw [p2, List.length_append, List.length_cons, List.length_cons, List.length_nil]
      omega
/-! ### what a schema is made of, or the first place that may not stand -/
def nameOf : PyData → Str
  | .str x => x
  | _ => Str.empty
def nmOk (td : Tabs) (d : PyData) : Bool := strD nameB d && !strD (fun x => decide (x ∈ td.map (·.1))) d
def tabsF : Tabs → List (PyData × List PyData) → Sum (Nat × Option Nat) Tabs
  | td, [] => .inr td
  | td, x :: r => if (nmOk td x.1 && decide (x.2.length ≤ 6)) = true then (match takeF (nameOf x.1) (mirOf td) td [] x.2 with
      | .inl j => .inl (td.length, some j)
      | .inr cs => match brk td cs with
        | some j => .inl (td.length, some j)
        | none => tabsF (td ++ [(nameOf x.1, cs)]) r) else .inl (td.length, none)
def placeI : Option Nat → Int
  | some j => (j : Nat)
  | none => -1
def initF (u : PyData) (xs : List (PyData × List PyData)) : Option (Int × Int) :=
  if 1 ≤ xs.length ∧ xs.length ≤ 6 then (match tabsF [] xs with
    | .inl (k, o) => some ((k : Nat), placeI o)
    | .inr ts => if strD (fun n => decide (n ∈ ts.map (·.1))) u = true then none else some ((xs.length : Nat), -1)) else some (-1, -1)
theorem tabsF_good : ∀ {xs : List (PyData × List PyData)} {td ts : Tabs}, GoodTabs td → tabsF td xs = .inr ts → GoodTabs ts ∧ ts.length = td.length + xs.length
  | [], td, ts, g, e => by
    have e : td = ts := Sum.inr.inj e
    subst e
    exact ⟨g, rfl⟩
  | x :: r, td, ts, g, e => by
    unfold tabsF at e
    split at e
    · rename_i h
      rw [Bool.and_eq_true] at h
      obtain ⟨h1, h2⟩ := h
      unfold nmOk at h1
      rw [Bool.and_eq_true] at h1
      obtain ⟨n, en, hn⟩ := strD_str h1.1
      rw [en] at h1 e
      have nn : n ∉ td.map (·.1) := by
        have := h1.2
        rw [Bool.not_eq_true'] at this
        exact of_decide_eq_false this
      split at e
      · cases e
      · rename_i cs ec
        obtain ⟨p1, p2⟩ := takeF_pre g (PreCols.nil td) ec
        split at e
        · cases e
        · rename_i hb
          have l6 : cs.length ≤ 6 := by
            have := of_decide_eq_true h2
            rw [p2]
            simpa using this
          have gg := g.snoc ((nameB_iff _).mp hn) nn ⟨p1, l6, brk_none hb⟩
          obtain ⟨q1, q2⟩ := tabsF_good gg e
          refine ⟨q1, ?_⟩
          rw [q2, List.length_append, List.length_cons, List.length_cons, List.length_nil]
          omega
    · cases e
end LP
namespace LP
open PySem L2
open Evl (Ex)
section
variable {base : Heap} {mg : Str → Option Value} {K : PySem.W.Frag} {w : World} {P : Program} {ra C CB fI : Addr} {fdI : FuncData}
theorem ok_take_columnsG {f : Addr} {fd : FuncData} (S : SchC K C) (me : Meth K C "_take_columns" f) (F : C8.Fun K "_take_columns" "Schema._take_columns" s_Schema__take_columns f fd) (b : Binds K fd ["self", "index", "table", "columns"] []) (B : Blt mg)
    (NX : ExV P w K mg base "BadSchema" CB fI fdI ["self", "table", "column"] 1 (spEx2 CB "table" "column")) (c_has_list : C8.Cal P w K mg base 2 "has_list" spHasList []) (c__is_column : C8.Met P w K mg base 5 C "_is_column" (spIsColumnG K C) []) :
    MetX P w K mg base 6 C "_take_columns" (spTakeColsG K C CB) := by
  have sc : FnScope ["self", "index", "table", "columns", "taken", "at", "column", "earlier"] ["self", "index", "table", "columns"] (C8.fnScope s_Schema__take_columns) := C8.fnScope_by (by decide +kernel)
  refine ⟨f, fd, _, S.cls, me, fnX F sc (fun vs H Q E h => ?_) (fun cdv A outer s H vs Q E hr h => ?_), b⟩
  · obtain ⟨_, _, _, _, _, _, _, _, _, _, _, rfl, _⟩ := h
    rfl
  · obtain ⟨p, q, i, t, xs, ds, dc, dl, cvs, rs, ts, rfl, hP, hq, hc, hn1, hn2, hts, hnt, hmk, hls, k, kE⟩ := h
    have lx := paired_len hc
    have dic := hP.dicts
    refine ⟨_, (pss_cons (ps_set (i := 4) sc.nd rfl (Or.inl rfl) (pe_lst pa_nil))
        (pss_cons (ps_for (passes_of rfl) rfl (pi_enumK (K := K) rfl (by rfl) B.enumerate_ (pa_cons (pv 3) pa_nil)) (pg_tupK (K := K) (n := 2) rfl rfl (pgs_cons (pg_name (i := 5) sc.nd rfl (Or.inl rfl)) (pgs_cons (pg_name (i := 6) sc.nd rfl (Or.inl rfl)) pgs_nil)))
        (pss_cons (ps_if (pt_not (pt_val (C8.pe_mt c__is_column hr (by decide) (pv 0) (pa_cons (pv 6) (pa_cons (pe_lc (own := [("earlier", 7)]) (g := (gName 7)) (by rfl) sc.nd (pi_listK (K := K) rfl (pv 4)) (blkOk_by (own := [("earlier", 7)]) (N := ["self", "index", "table", "columns", "taken", "at", "column", "earlier"]) (sc := C8.fnScope s_Schema__take_columns) (by decide +kernel)) (fun _ _ _ _ _ => (pg_name (i := 7) sc.nd rfl (Or.inl rfl))) (fun _ _ _ _ _ => pts_nil) (fun _ _ _ _ _ => (pe_ix (ix_tupK (K := K) rfl) (pv 7) pe_int (fun _ _ => rfl)))) pa_nil)))))
        (pss_one (ps_raiseV rfl (takes_of rfl rfl rfl rfl) (pmk_V NX hr (by decide) rfl (pa_cons (pv 1) (pa_cons (pv 5) pa_nil)))))
        pss_nil)
        (pss_cons (ps_if (pt_val (C8.pe_c c_has_list hr (by decide) rfl (pa_cons (pv 6) pa_nil)))
        (pss_one (ps_dput (hu_of hr) (pe_dget (hu_of hr) (pe_fldK (K := K) rfl (pv 0) rfl) (pe_ix (ix_tupK (K := K) rfl) (pv 6) pe_int (fun _ _ => rfl)) (fun _ _ => rfl)) (pe_ix (ix_tupK (K := K) rfl) (pv 6) pe_int (fun _ _ => rfl)) (pe_tup (pa_cons (pv 2) (pa_cons (pe_ix (ix_tupK (K := K) rfl) (pv 6) pe_int (fun _ _ => rfl)) pa_nil))) rfl))
        pss_nil)
        (pss_one (ps_expr (pe_bmK (K := K) rfl PySem.F.plainAttrs_list PySem.F.slot_list_append PySem.F.type_list_append mt_append (pv 4) (pa_cons (pv 6) pa_nil)))))))
        (pss_cons (ps_dput (hu_of hr) (pe_fldK (K := K) rfl (pv 0) rfl) (pv 2) (pe_callTy (call_tuple_ofK (K := K) rfl) (by rfl) B.tuple_ (by decide +kernel) (pa_cons (pv 4) pa_nil)) rfl)
        (pss_one (ps_dput (hu_of hr) (pe_fldK (K := K) rfl (pv 0) rfl) (pv 2) pe_dnewK rfl))))), ?_⟩
    walk_at "w"
    intro tk htk
    have hq0 : SqL K (L2.upd H tk (.lst [])) q xs := Evl.ex_l (Ex.new htk) hq
    walk_at "w"
    refine loopE (xs := xs) (fun d r σ' H' => ∃ x5 x6 md dr, σ' = [some (.ref p), some i, some (.str t), some (.ref q), some (.ref tk), x5, x6, none] ∧ takeF t rs.mir ts md dr = takeF t rs.mir ts [] ds ∧ ColsV H' d md ∧ Paired (ColD K H) r dr ∧ d.length + r.length = ds.length ∧
      H' tk = some (.lst d) ∧ ExO (rs.own dc dl) H H' ∧ Part C H' p dc dl cvs (md.foldl (rsAdd t) rs) ts)
      ⟨_, _, [], ds, rfl, rfl, .nil, hc, by simp [lx], upd_same, ExO.of (Ex.new htk), hP.ext (Ex.new htk)⟩ (fun d r σ' H' e h => ?_) (fun d y r σ' H' Tp e hTp h => ?_) (fun σ' H' h => ?_)
    · obtain ⟨x5, x6, md, dr, rfl, et, h1, h2, ln, h3, h4, h5⟩ := h
      exact sqL_exO dic h4 hq
    · obtain ⟨x5, x6, md, dr, rfl, et, h1, h2, ln, h3, h4, h5⟩ := h
      obtain ⟨d0, dr', rfl, hy, h2'⟩ := paired_cons h2
      have ld := paired_len h1
      rw [List.length_cons] at ln
      have hdl : d.length < sizeLine := Nat.lt_of_le_of_lt (m := 20) (by omega) (by decide)
      have h5n := h5.ext (Ex.new (o := .tup [.int (d.length : Nat), y]) hTp)
      have hTt : (L2.upd H' Tp (.tup [.int (d.length : Nat), y])) Tp = some (.tup [.int (d.length : Nat), y]) := upd_same
      have exT : Ex H' (L2.upd H' Tp (.tup [.int (d.length : Nat), y])) := Ex.new hTp
      generalize (L2.upd H' Tp (.tup [.int (d.length : Nat), y])) = H1 at h5n hTt exT ⊢
      obtain ⟨⟨dx, fs, i1, i2⟩, _, _, _, _, _, _, _, _⟩ := id h5n
      have htk1 : SqL K H1 tk d := SqL.of (exT _ _ h3)
      walk_at "w"
      refine w_kMeth i1 (i2.no _ (by decide)) ?_
      walk_at "w"
      intro D hD
      refine compQ md (ColAt H1) (fun c => some c.name) (fun v x => v = V.str x) hD (SqL.of (exT _ _ h3)) (by omega) (h1.ext exT) (fun y z hy hm H3 e3 kk kn hk hn => ?_) (fun acc H3 e3 hacc hp => ?_)
      · obtain ⟨a, rfl, ha⟩ := hy
        have ha3 := e3 _ _ ha
        walk_at "w"
        refine w_ixT (SqT.of ha3) z.at1 ?_
        exact hk _ _ _ (Ex.refl _) rfl rfl
      · rw [filterMap_some] at hp
        have ev := vals_strs hp
        walk_at "w"
        have h53 := h5n.ext e3
        have hO3 : ExO (rs.own dc dl) H H3 := h4.trans (.of (exT.trans e3))
        have hy3 := hy.exO dic hO3
        refine ⟨p, D, y, d0, md.map Col.name, dc, dl, cvs, _, ts, rfl, h53, hy3.dp, hy3.sz, SqL.of (ev ▸ hacc), hts, by rw [← hmk]; unfold Rows.mir; rw [List.map_map, List.map_map]; exact foldl_key t md rs, fun H4 e4 => ?_⟩
        rw [foldl_mir]
        have ex4 : Ex H' H4 := (exT.trans e3).trans e4
        have hO4 : ExO (rs.own dc dl) H H4 := h4.trans (.of ex4)
        walk_at "w"
        cases hcb : colB (md.map Col.name) (md.foldl (addCol t) rs.mir) ts d0 with
        | false =>
          rw [takeF_no hcb] at et
          walk_at "w"
          refine ⟨by show 2 ≤ 1000; omega, fun a ha => raised2 (fun dd H' e hdd => ?_) a ha⟩
          exact kE md.length et.symm dd H' (hO4.trans (.of e)) (by rw [← ld]; exact hdd)
        | true =>
        obtain ⟨c, hco, rfl, cin⟩ := colB_col hts hcb
        rw [takeF_cons hcb hco] at et
        obtain ⟨ca, rfl, hca0⟩ := hy.at_ c rfl
        have hca : H' ca = some (.tup c.vals) := by
          obtain ⟨a, e, g⟩ := (hy.exO dic h4).at_ c rfl
          cases e
          exact g
        have hc4 : ColAt H4 (.ref ca) c := ⟨ca, rfl, ex4 _ _ hca⟩
        walk_at "w"
        refine ⟨.ref ca, c, rfl, hc4, ?_⟩
        have h54 : Part C H4 p dc dl cvs (md.foldl (rsAdd t) rs) ts := h5.ext ex4
        have htk4 : H4 tk = some (.lst d) := ex4 _ _ h3
        have tail : ∀ (H5 : Hp), Part C H5 p dc dl cvs ((md ++ [c]).foldl (rsAdd t) rs) ts → ExO (rs.own dc dl) H H5 → ColsV H5 d md → ColAt H5 (.ref ca) c → H5 tk = some (.lst d) →
            ∃ x5 x6 md' dr, ([some (.ref p), some i, some (.str t), some (.ref q), some (.ref tk), some (.int (d.length : Nat)), some (.ref ca), none] : L2.St) = [some (.ref p), some i, some (.str t), some (.ref q), some (.ref tk), x5, x6, none] ∧ takeF t rs.mir ts md' dr = takeF t rs.mir ts [] ds ∧ ColsV (L2.upd H5 tk (.lst (d ++ [.ref ca]))) (d ++ [.ref ca]) md' ∧ Paired (ColD K H) r dr ∧ (d ++ [V.ref ca]).length + r.length = ds.length ∧
              (L2.upd H5 tk (.lst (d ++ [.ref ca]))) tk = some (.lst (d ++ [.ref ca])) ∧ ExO (rs.own dc dl) H (L2.upd H5 tk (.lst (d ++ [.ref ca]))) ∧ Part C (L2.upd H5 tk (.lst (d ++ [.ref ca]))) p dc dl cvs (md'.foldl (rsAdd t) rs) ts := fun H5 g1 g2 g3 g4 g6 =>
          ⟨_, _, md ++ [c], dr', rfl, et, paired_app (g3.upd g6) (.cons (g4.upd g6) .nil), h2', by rw [List.length_append, List.length_cons, List.length_nil]; omega, upd_same, g2.mut htk, g1.upd g6⟩
        walk_at "w"
        refine iteB (fun hL => ?_) (fun hL => ?_)
        · obtain ⟨l, hl⟩ : ∃ l, c.lst = some l := Option.isSome_iff_exists.mp hL
          have hK := Col.lst_link hl
          have hca4 : H4 ca = some (.tup c.vals) := ex4 _ _ hca
          walk_at "w"
          refine w_ixT (SqT.of hca4) c.at1 ?_
          walk_at "w"
          intro bb hbb
          have ex5 : Ex H4 (L2.upd H4 bb (.tup [.str t, .str c.name])) := Ex.new hbb
          have hbb5 : (L2.upd H4 bb (.tup [.str t, .str c.name])) bb = some (.tup [.str t, .str c.name]) := upd_same
          generalize (L2.upd H4 bb (.tup [.str t, .str c.name])) = H5 at ex5 hbb5 ⊢
          have h55 := h54.ext ex5
          have hca5 : H5 ca = some (.tup c.vals) := ex5 _ _ hca4
          obtain ⟨⟨dx5, fs5, i5, j5⟩, _, _, _, _, _, _, _, _⟩ := id h55
          obtain ⟨cs', ls', e1, e2, e3', e4', e5'⟩ := cin.lk hK
          obtain ⟨la, l1, l2⟩ := rows_get (rs := md.foldl (rsAdd t) rs) (by rw [foldl_mir]; exact e2)
          obtain ⟨kvs, m1, m2⟩ := h55.lst _ l2
          have m1 : H5 la = some (.dK kvs) := m1
          have m2 : Paired (ListEnt H5) kvs ls' := m2
          walk_at "w"
          refine w_kFld i5 S.cls S.lists_ j5.l ?_
          walk_at "w"
          refine w_ixT (SqT.of hca5) (Col.at2 hK) ?_
          refine w_kG h55.hdl l1 ?_
          walk_at "w"
          refine w_ixT (SqT.of hca5) (Col.at4 hK) ?_
          rw [hl]
          have hlen : kvs.length < sizeLine := by
            have a1 := foldl_lens t md rs 500 hls _ l2
            have a2 : kvs.length = ls'.length := paired_len m2
            have a3 : ls'.length ≤ 500 + md.length := a1
            have a4 : md.length ≤ 20 := by omega
            exact Nat.lt_of_le_of_lt (m := 1000) (by omega) (by decide)
          refine ⟨la, _, rfl, DPut.k (k := Sum.inr l) m1 hlen, ?_⟩
          rw [putK_new (show valV kvs (Sum.inr l : Key) = none from ?_)]
          · have hla : la ∈ rs.own dc dl := by
              rw [← own_eq dc dl t md rs]
              exact List.mem_cons_of_mem _ (List.mem_cons_of_mem _ (List.mem_map.mpr ⟨_, l2, rfl⟩))
            have h6 : Part C (L2.upd H5 la (.dK (kvs ++ [(.inr l, .ref bb)]))) p dc dl cvs ((md ++ [c]).foldl (rsAdd t) rs) ts := by
              rw [List.foldl_append]
              exact h55.addList hl l2 m1 m2 hbb5
            have tk6 : (L2.upd H5 la (.dK (kvs ++ [(.inr l, .ref bb)]))) tk = some (.lst d) := by
              rw [upd_ne (ne_of (ex5 _ _ htk4) m1 (by intro z; cases z))]
              exact ex5 _ _ htk4
            have T6 := tail _ h6 ((hO4.trans (.of ex5)).put hla) (((h1.ext ex4).ext ex5).put m1) ((hc4.ext ex5).put m1) tk6
            generalize (L2.upd H5 la (.dK (kvs ++ [(.inr l, .ref bb)]))) = H6 at h6 tk6 T6 ⊢
            walk_at "w"
            exact T6
          · have e6 : isListB cs' ls' (some l) = true := hl ▸ e5'
            unfold isListB at e6
            simp only [Bool.and_eq_true, Bool.not_eq_true', decide_eq_false_iff_not] at e6
            have := ListRow.has (a := la) m2 l
            rw [decide_eq_false e6.2] at this
            cases ev : valV kvs (Sum.inr l : Key) with
            | none => rfl
            | some v => rw [ev] at this; cases this
        · have T4 := tail H4 (by
              rw [List.foldl_append]
              show Part C H4 p dc dl cvs (rsAdd t (md.foldl (rsAdd t) rs) c) ts
              unfold rsAdd
              rw [show c.lst = none from Option.not_isSome_iff_eq_none.mp (by rw [hL]; exact Bool.false_ne_true)]
              exact h54) hO4 (h1.ext ex4) hc4 htk4
          walk_at "w"
          exact T4
    · obtain ⟨x5, x6, md, dr, rfl, et, h1, h2, ln, h3, h4, h5⟩ := h
      cases h2
      rw [show takeF t rs.mir ts md [] = .inr md from rfl] at et
      walk_at "w"
      refine w_tupL (SqL.of h3) fun T hT => ?_
      have ex1 : Ex H' (L2.upd H' T (.tup xs)) := Ex.new hT
      have hT1 : (L2.upd H' T (.tup xs)) T = some (.tup xs) := upd_same
      generalize (L2.upd H' T (.tup xs)) = H1 at ex1 hT1 ⊢
      have h51 := h5.ext ex1
      obtain ⟨⟨dx, fs, i1, i2⟩, g3, g4, g5, g6, g7, g8, g9, g10⟩ := id h51
      walk_at "w"
      refine w_kFld i1 S.cls S.columns_ i2.c ?_
      walk_at "w"
      have lc : cvs.length = ts.length := paired_len g4
      refine ⟨dc, _, rfl, DPut.k (k := Sum.inr t) g3 (Nat.lt_of_le_of_lt (m := 100) (by omega) (by decide)), ?_⟩
      rw [putK_new (show valV cvs (Sum.inr t : Key) = none from ?_)]
      · have kz : t ∉ (md.foldl (rsAdd t) rs).map fun r => r.1 := by
          rw [foldl_key]
          rw [← hmk] at hnt
          unfold Rows.mir at hnt
          rw [List.map_map] at hnt
          exact hnt
        have adt := fun D hD => h51.addTab (t := t) (D := D) hT1 (h1.ext ex1) kz hD
        have st : ∀ {a : Addr} {u : HO}, H1 a = some u → a ≠ dc → (L2.upd H1 dc (.dK (cvs ++ [(.inr t, .ref T)]))) a = some u := fun {a u} e n => by rw [upd_ne n]; exact e
        have i3 := st i1 (ne_of i1 g3 (by intro z; cases z))
        have g5' := st g5 (Ne.symm g8)
        have fr : ∀ D, (L2.upd H1 dc (.dK (cvs ++ [(.inr t, .ref T)]))) D = none → H1 D = none := fun D hD => by
          by_cases e : D = dc
          · rw [e, upd_same] at hD
            cases hD
          · rw [upd_ne e] at hD
            exact hD
        have thO : ExO (rs.own dc dl) H H1 := h4.trans (.of ex1)
        walk_at "w"
        intro D hD
        have i4 := (Ex.new (o := .dK []) hD) _ _ i3
        have g6' := (Ex.new (o := .dK []) hD) _ _ g5'
        walk_at "w"
        refine w_kFld i4 S.cls S.lists_ i2.l ?_
        walk_at "w"
        refine ⟨dl, _, rfl, DPut.k (k := Sum.inr t) g6' ?_, ?_⟩
        · have e1 : (md.foldl (rsAdd t) rs).kvs.length = ts.length := by
            rw [foldl_kvs]
            have := congrArg List.length hmk
            unfold Rows.mir at this
            simp only [List.length_map] at this
            show (rs.map _).length = _
            rw [List.length_map]
            exact this
          exact Nat.lt_of_le_of_lt (m := 100) (by omega) (by decide)
        · rw [putK_new (rows_none kz)]
          have HD1 : H D = none := thO.back (by rw [← own_eq dc dl t md rs]; exact fun a ha => let ⟨kv, e⟩ := h51.there a ha; ⟨_, e⟩) (fr D hD)
          have hf := adt D hD
          have ek : Rows.kvs (md.foldl (rsAdd t) rs ++ [(t, D, [])]) = (md.foldl (rsAdd t) rs).kvs ++ [(.inr t, .ref D)] := by
            unfold Rows.kvs
            rw [List.map_append]
            rfl
          rw [ek] at hf
          exact k md et.symm T D _ HD1 (((thO.put List.mem_cons_self).mut HD1).put (List.mem_cons_of_mem _ List.mem_cons_self)) hf
      · have := h51.has t
        rw [decide_eq_false hnt] at this
        cases ev : valV cvs (Sum.inr t : Key) with
        | none => rfl
        | some v => rw [ev] at this; cases this
end
end LP
namespace LP
open PySem L2
open Evl (Ex)
/-- a table of any values -/
def TabD (K : PySem.W.Frag) (H : Hp) (v : V) (x : PyData × List PyData) : Prop := ∃ (a cq : Addr) (cvs : List V) (nv : V), v = .ref a ∧ SqT K H a [nv, .ref cq] ∧ Dp K H nv x.1 ∧ (∀ y, x.1 = .str y → y.length ≤ 4000) ∧ SqL K H cq cvs ∧ Paired (ColD K H) cvs x.2
theorem TabD.exO {K : PySem.W.Frag} {own : List Addr} {H H' : Hp} {v : V} {x : PyData × List PyData} (o : DictsAt own H) (e : ExO own H H') (h : TabD K H v x) : TabD K H' v x := by
  obtain ⟨a, cq, cvs, nv, ev, ha, hd, hs, hq, hc⟩ := h
  exact ⟨a, cq, cvs, nv, ev, sqT_exO o e ha, dp_exO o e hd, hs, sqL_exO o e hq, paired_imp (fun _ _ h => h.exO o e) hc⟩
def spInitG (K : PySem.W.Frag) (C CB : Addr) : Sp := fun vs H Q E => ∃ (p q dx : Addr) (uv : V) (ud : PyData) (xs : List V) (tabs : List (PyData × List PyData)), vs = [.ref p, uv, .ref q] ∧ H p = some (.ins C dx []) ∧ SqL K H q xs ∧ Paired (TabD K H) xs tabs ∧ tabs.length ≤ 1000 ∧ (∀ x ∈ tabs, x.2.length ≤ 1000) ∧ Dp K H uv ud ∧
  (∀ u ts, ud = .str u → tabsF [] tabs = .inr ts → u ∈ ts.map (·.1) → initF ud tabs = none → ∀ H', ExO [p] H H' → SchAt C H' p u ts → Q .non H') ∧ ∀ k i, initF ud tabs = some (k, i) → ∀ dd H', ExO [p] H H' → H' dd = some (.xd [("column", .int i), ("table", .int k)]) → E (.ref CB) (some dd) H'
section
variable {base : Heap} {mg : Str → Option Value} {K : PySem.W.Frag} {w : World} {P : Program} {ra C CB fI : Addr} {fdI : FuncData}
theorem ok_initG {f : Addr} {fd : FuncData} {mc : Value} (S : SchC K C) (M : Mk K C f) (F : C8.Fun K "__init__" "Schema.__init__" s_Schema___init__ f fd) (B : Blt mg) (T : Cns K mg ra C) (NX : ExV P w K mg base "BadSchema" CB fI fdI ["self", "table", "column"] 1 (spEx2 CB "table" "column"))
    (c_is_name : SCal P w K mg base 3 C mc "is_name" (spAsk K (strD nameB))) (c___contains__ : C8.Met P w K mg base 1 C "__contains__" (spContains K C) []) (m__take_columns : MetX P w K mg base 6 C "_take_columns" (spTakeColsG K C CB))
    (c__meets : CalX P w K mg base 3 "_meets" (spMeetsX K CB)) (c_write_lines : C8.Cal P w K mg base 4 "write_lines" spWriteLines []) :
    FnOk P w K mg base (L2.CX P w) 7 f fd ["self", "user", "tables"] (spInitG K C CB) := by
  have sc : FnScope ["self", "user", "tables", "meeting", "index", "name", "columns"] ["self", "user", "tables"] (C8.fnScope s_Schema___init__) := C8.fnScope_by (by decide +kernel)
  refine fnX F sc (fun vs H Q E h => ?_) (fun cdv A outer s H vs Q E hr h => ?_)
  · obtain ⟨_, _, _, _, _, _, _, rfl, _⟩ := h
    rfl
  · obtain ⟨p, q, dx, uv, ud, xs, tabs, rfl, hp, hq, hx, l1, lc, hud, k, kE⟩ := h
    have lx := paired_len hx
    have insP := insAt_of hp
    refine ⟨_, (pss_cons (ps_if (pt_not (pt_chain op_le op_le pe_int (pe_callB (call_len_seqK (K := K) rfl) (by rfl) B.len_ (by decide +kernel) (pa_cons (pv 2) pa_nil)) (C8.pe_gc rfl T.MOST_TABLES_)))
        (pss_one (ps_raiseV rfl (takes_of rfl rfl rfl rfl) (pmk_V NX hr (by decide) rfl (pa_cons (pe_un un_neg pe_int) (pa_cons (pe_un un_neg pe_int) pa_nil)))))
        pss_nil)
        (pss_cons (ps_fldK (K := K) rfl (pv 0) pe_dnewK rfl)
        (pss_cons (ps_fldK (K := K) rfl (pv 0) pe_dnewK rfl)
        (pss_cons (ps_set (i := 3) sc.nd rfl (Or.inl rfl) pe_dnewK)
        (pss_cons (ps_for (passes_of rfl) rfl (pi_enumK (K := K) rfl (by rfl) B.enumerate_ (pa_cons (pv 2) pa_nil)) (pg_tupK (K := K) (n := 2) rfl rfl (pgs_cons (pg_name (i := 4) sc.nd rfl (Or.inl rfl)) (pgs_cons (pg_tupK (K := K) (n := 2) rfl rfl (pgs_cons (pg_name (i := 5) sc.nd rfl (Or.inl rfl)) (pgs_cons (pg_name (i := 6) sc.nd rfl (Or.inl rfl)) pgs_nil))) pgs_nil)))
        (pss_cons (ps_if (PW.pt (pw_or (pt_not (pt_val (pe_sm c_is_name hr (by decide) (C8.pe_gc rfl T.Schema_) (pa_cons (pv 5) pa_nil)))) (pw_or (pt_cmp (pc_din (hu_of hr) (pv 5) (pe_fldK (K := K) rfl (pv 0) rfl))) (pw_or1 (pt_cmpR op_gt (pe_callB (call_len_seqK (K := K) rfl) (by rfl) B.len_ (by decide +kernel) (pa_cons (pv 6) pa_nil)) (C8.pe_gc rfl T.MOST_COLUMNS_) (nomark _))))))
        (pss_one (ps_raiseV rfl (takes_of rfl rfl rfl rfl) (pmk_V NX hr (by decide) rfl (pa_cons (pv 4) (pa_cons (pe_un un_neg pe_int) pa_nil)))))
        pss_nil)
        (pss_cons (ps_expr ((pe_mx m__take_columns hr (by decide) (passE (takes_of rfl rfl rfl rfl)) (pv 0) (pa_cons (pv 4) (pa_cons (pv 5) (pa_cons (pv 6) pa_nil))))))
        (pss_one (ps_dput (hu_of hr) (pv 3) (pv 5) ((pe_cx c__meets hr (by decide) (passE (takes_of rfl rfl rfl rfl)) rfl (pa_cons (pv 4) (pa_cons (pe_dget (hu_of hr) (pe_fldK (K := K) rfl (pv 0) rfl) (pv 5) (fun _ _ => rfl)) (pa_cons (pv 3) pa_nil))))) rfl)))))
        (pss_cons (ps_if (pt_cmpR (op_onin (dvs := []) c___contains__ hr (by decide)) (pv 1) (pv 0) (by rfl))
        (pss_one (ps_raiseV rfl (takes_of rfl rfl rfl rfl) (pmk_V NX hr (by decide) rfl (pa_cons (pe_callB (call_len_seqK (K := K) rfl) (by rfl) B.len_ (by decide +kernel) (pa_cons (pv 2) pa_nil)) (pa_cons (pe_un un_neg pe_int) pa_nil)))))
        pss_nil)
        (pss_cons (ps_fldK (K := K) rfl (pv 0) (pv 1) rfl)
        (pss_cons (ps_fldK (K := K) rfl (pv 0) (pe_callTy (call_tupD rfl) (by rfl) B.tuple_ (by decide +kernel) (pa_cons (pe_fldK (K := K) rfl (pv 0) rfl) pa_nil)) rfl)
        (pss_one (ps_fldK (K := K) rfl (pv 0) (C8.pe_c c_write_lines hr (by decide) rfl (pa_cons (pv 1) (pa_cons (pe_fldK (K := K) rfl (pv 0) rfl) pa_nil))) rfl)))))))))), ?_⟩
    have bad : ∀ {H1 : Hp} {k i : Int}, ExO [p] H H1 → initF ud tabs = some (k, i) → Bad2 CB "table" "column" (.int k) (.int i) H1 E := fun e h dd H' e' hdd => kE _ _ h dd H' (e.trans (.of e')) hdd
    walk_at "w"
    refine iteD (fun h1 => ?_) (fun h1 => ?_)
    rotate_left
    · have i0 : initF ud tabs = some (-1, -1) := by
        unfold initF
        rw [if_neg (by omega)]
      walk_at "w"
      exact ⟨by show 2 ≤ 1000; omega, fun a ha => raised2 (bad .refl i0) a ha⟩
    walk_at "w"
    refine iteND (fun h2 => ?_) (fun h2 => ?_)
    · have i0 : initF ud tabs = some (-1, -1) := by
        unfold initF
        rw [if_neg (by omega)]
      walk_at "w"
      exact ⟨by show 2 ≤ 1000; omega, fun a ha => raised2 (bad .refl i0) a ha⟩
    have l16 : 1 ≤ tabs.length ∧ tabs.length ≤ 6 := by omega
    have iF : ∀ kk o, tabsF [] tabs = .inl (kk, o) → initF ud tabs = some (((kk : Nat) : Int), placeI o) := fun kk o e => by
      unfold initF
      rw [if_pos l16, e]
    walk_at "w"
    intro dc hdc
    have hp1 : (L2.upd H dc (.dK [])) p = some (.ins C dx []) := by rw [upd_ne (ne_of_none hp hdc)]; exact hp
    have hc1 : (L2.upd H dc (.dK [])) dc = some (.dK []) := upd_same
    have x1 : ExO [p] H (L2.upd H dc (.dK [])) := ExO.of (Ex.new hdc)
    generalize (L2.upd H dc (.dK [])) = H1 at hp1 hc1 x1 ⊢
    walk_at "w"
    refine w_kSfld hp1 S.cls S.columns_ (by decide) ?_
    have hp2 : (L2.upd H1 p (.ins C dx (putF "_columns" (.ref dc) []))) p = some (.ins C dx (putF "_columns" (.ref dc) [])) := upd_same
    have hc2 : (L2.upd H1 p (.ins C dx (putF "_columns" (.ref dc) []))) dc = some (.dK []) := by rw [upd_ne (ne_of hc1 hp1 (by intro z; cases z))]; exact hc1
    have x2 : ExO [p] H (L2.upd H1 p (.ins C dx (putF "_columns" (.ref dc) []))) := x1.put List.mem_cons_self
    generalize (L2.upd H1 p (.ins C dx (putF "_columns" (.ref dc) []))) = H2 at hp2 hc2 x2 ⊢
    have one : ∀ {a : Addr}, a ∈ [p] → ∀ {G : Hp}, G p = some (.ins C dx []) → ∃ o, G a = some o := fun h _ e => by rw [List.mem_singleton.1 h]; exact ⟨_, e⟩
    walk_at "w"
    intro dl hdl
    have cdl : dc ≠ dl := ne_of_none hc2 hdl
    have hdl0 : H dl = none := x2.back (fun a ha => by rw [List.mem_singleton.1 ha]; exact ⟨_, hp2⟩) hdl
    have hp3 : (L2.upd H2 dl (.dK [])) p = some (.ins C dx (putF "_columns" (.ref dc) [])) := by rw [upd_ne (ne_of_none hp2 hdl)]; exact hp2
    have hc3 : (L2.upd H2 dl (.dK [])) dc = some (.dK []) := by rw [upd_ne cdl]; exact hc2
    have hl3 : (L2.upd H2 dl (.dK [])) dl = some (.dK []) := upd_same
    have x3 : ExO [p] H (L2.upd H2 dl (.dK [])) := x2.mut hdl0
    generalize (L2.upd H2 dl (.dK [])) = H3 at hp3 hc3 hl3 x3 ⊢
    have f5 : FsOk (putF "_lists" (.ref dl) (putF "_columns" (.ref dc) [])) dc dl := by
      have nm : ∀ m ∈ meths, ¬ m = ("_lists" : Str) ∧ ¬ m = ("_columns" : Str) := by decide +kernel
      refine ⟨?_, ?_, fun m hm => ?_⟩
      · rw [lookup_putF, if_neg (by decide +kernel), lookup_putF, if_pos rfl]
      · rw [lookup_putF, if_pos rfl]
      · rw [lookup_putF, if_neg (nm m hm).1, lookup_putF, if_neg (nm m hm).2]
        rfl
    have ln2 : (putF "_columns" (.ref dc) ([] : List (Str × V))).length ≤ 1 := length_putF _ _ _
    have ln5 : (putF "_lists" (.ref dl) (putF "_columns" (.ref dc) ([] : List (Str × V)))).length ≤ 2 := Nat.le_trans (length_putF _ _ _) (Nat.succ_le_succ ln2)
    walk_at "w"
    refine w_kSfld hp3 S.cls S.lists_ (by omega) ?_
    generalize (putF "_lists" (.ref dl) (putF "_columns" (.ref dc) [])) = fs at f5 ln5 ⊢
    have hp4 : (L2.upd H3 p (.ins C dx fs)) p = some (.ins C dx fs) := upd_same
    have hc4 : (L2.upd H3 p (.ins C dx fs)) dc = some (.dK []) := by rw [upd_ne (ne_of hc3 hp3 (by intro z; cases z))]; exact hc3
    have hl4 : (L2.upd H3 p (.ins C dx fs)) dl = some (.dK []) := by rw [upd_ne (ne_of hl3 hp3 (by intro z; cases z))]; exact hl3
    have x4 : ExO [p] H (L2.upd H3 p (.ins C dx fs)) := x3.put List.mem_cons_self
    generalize (L2.upd H3 p (.ins C dx fs)) = H4 at hp4 hc4 hl4 x4 ⊢
    walk_at "w"
    intro dm hdm
    have cdm : dc ≠ dm := ne_of_none hc4 hdm
    have ldm : dl ≠ dm := ne_of_none hl4 hdm
    have hdm0 : H dm = none := x4.back (fun a ha => by rw [List.mem_singleton.1 ha]; exact ⟨_, hp4⟩) hdm
    have e5 : Ex H4 (L2.upd H4 dm (.dK [])) := Ex.new hdm
    have hm5 : (L2.upd H4 dm (.dK [])) dm = some (.dK []) := upd_same
    have x5 : ExO [p] H (L2.upd H4 dm (.dK [])) := x4.mut hdm0
    generalize (L2.upd H4 dm (.dK [])) = H5 at e5 hm5 x5 ⊢
    have P5 : Part C H5 p dc dl [] [] [] := ⟨⟨dx, fs, e5 _ _ hp4, f5⟩, e5 _ _ hc4, .nil, e5 _ _ hl4, fun _ h => absurd h List.not_mem_nil, List.nodup_nil, cdl, fun _ h => absurd h List.not_mem_nil, List.nodup_nil⟩
    have hq5 : SqL K H5 q xs := sqL_exO (insAt_of hp) x5 hq
    walk_at "w"
    refine loopE (xs := xs) (fun d r σ' H' => ∃ x4 x5 x6 td tr cvs rs, σ' = [some (.ref p), some uv, some (.ref q), some (.ref dm), x4, x5, x6] ∧ tabsF td tr = tabsF [] tabs ∧ td.length = d.length ∧ d.length + tr.length = tabs.length ∧ (∀ x ∈ tr, x.2.length ≤ 1000) ∧ Paired (TabD K H) r tr ∧ Part C H' p dc dl cvs rs td ∧ rs.mir = mirOf td ∧ Meets H' dm (meetMap td) ∧ ExO [p] H H' ∧ H' p = some (.ins C dx fs) ∧
        (∀ r ∈ rs, H r.2.1 = none ∧ r.2.1 ≠ dm ∧ r.2.2.length ≤ 6 * td.length) ∧ GoodTabs td) ⟨_, _, _, [], tabs, [], [], rfl, rfl, rfl, by simp, lc, hx, P5, rfl, hm5, x5, e5 _ _ hp4, (fun _ h => absurd h List.not_mem_nil), .nil⟩ (fun d r σ' H' e h => ?_) (fun d y r σ' H' Tp e hTp h => ?_) (fun σ' H' h => ?_)
    · obtain ⟨_, _, _, _, _, _, _, _, _, _, _, _, _, _, _, _, x, _⟩ := h
      exact sqL_exO insP x hq
    · obtain ⟨x4, x5', x6, td, tr, cvs, rs, rfl, et, ltd, lall, lc', hr0, hP, hmi, hme, hO, hpf, hrs, g1⟩ := h
      obtain ⟨t, tr', rfl, hy, hr1⟩ := paired_cons hr0
      rw [List.length_cons] at lall
      obtain ⟨ya, pp, vs, nv, rfl, hya, hnv, hns, hpp, hcs⟩ := id hy
      have hT1 : (L2.upd H' Tp (.tup [.int (d.length : Nat), .ref ya])) Tp = some (.tup [.int (d.length : Nat), .ref ya]) := upd_same
      have eT : Ex H' (L2.upd H' Tp (.tup [.int (d.length : Nat), .ref ya])) := Ex.new hTp
      generalize (L2.upd H' Tp (.tup [.int (d.length : Nat), .ref ya])) = H1 at hT1 eT ⊢
      have hO1 : ExO [p] H H1 := hO.trans (.of eT)
      have hP1 := hP.ext eT
      have hme1 : H1 dm = _ := eT _ _ hme
      obtain ⟨⟨dx1, fs1, i1, i2⟩, _, _, _, _, _, _, _, _⟩ := id hP1
      have hya1 := sqT_exO insP hO1 hya
      have hnv1 := dp_exO insP hO1 hnv
      have hpp1 := sqL_exO insP hO1 hpp
      have hcs1 : Paired (ColD K H1) vs t.2 := paired_imp (fun _ _ h => h.exO insP hO1) hcs
      have lv := paired_len hcs1
      have lt2 := lc' t (by simp)
      have no1 : (nmOk td t.1 && decide (t.2.length ≤ 6)) = false → initF ud tabs = some (((td.length : Nat) : Int), -1) := fun h => iF td.length none (by
        rw [← et]
        rw [tabsF, if_neg (by rw [h]; exact Bool.false_ne_true)])
      rw [ltd] at no1
      walk_at "w"
      refine ⟨nv, t.1, rfl, hnv1, hns, ?_⟩
      walk_at "w"
      cases hb : strD nameB t.1 with
      | false =>
        walk_at "w"
        exact ⟨by show 2 ≤ 1000; omega, fun a ha => raised2 (bad hO1 (no1 (by unfold nmOk; rw [hb]; rfl))) a ha⟩
      | true =>
      obtain ⟨n, en, hn⟩ := strD_str hb
      obtain ⟨t1, t2⟩ := t
      have en : t1 = .str n := en
      subst en
      cases hnv1
      have g2 : IsName n := (nameB_iff _).mp hn
      walk_at "w"
      refine w_kFld i1 S.cls S.columns_ i2.c ?_
      refine w_kI2 hP1.hdc ?_
      rw [hP1.has]
      walk_at "w"
      refine iteD (fun hin => ?_) (fun g3 => ?_)
      · walk_at "w"
        exact ⟨by show 2 ≤ 1000; omega, fun a ha => raised2 (bad hO1 (no1 (by unfold nmOk; rw [hb, show strD (fun x => decide (x ∈ td.map (·.1))) (.str n) = true from decide_eq_true hin]; rfl))) a ha⟩
      have hnm : nmOk td (.str n) = true := by
        unfold nmOk
        rw [hb, show strD (fun x => decide (x ∈ td.map (·.1))) (.str n) = false from decide_eq_false g3]
        rfl
      walk_at "w"
      refine iteD (fun h6 => ?_) (fun h6 => ?_)
      · have h6' : ¬ t2.length ≤ 6 := by
          have : vs.length = t2.length := lv
          omega
        walk_at "w"
        exact ⟨by show 2 ≤ 1000; omega, fun a ha => raised2 (bad hO1 (no1 (by rw [hnm, decide_eq_false h6']; rfl))) a ha⟩
      have few : t2.length ≤ 6 := by
        have : vs.length = t2.length := lv
        omega
      have step : ∀ j, takeF n (mirOf td) td [] t2 = .inl j → tabsF td ((.str n, t2) :: tr') = .inl (td.length, some j) := fun j h => by
        rw [tabsF, if_pos (by rw [hnm, decide_eq_true few]; rfl)]
        show (match takeF n (mirOf td) td [] t2 with | .inl j => _ | .inr cs => _) = _
        rw [h]
      have step2 : ∀ cs, takeF n (mirOf td) td [] t2 = .inr cs → tabsF td ((.str n, t2) :: tr') = (match brk td cs with | some j => .inl (td.length, some j) | none => tabsF (td ++ [(n, cs)]) tr') := fun cs h => by
        rw [tabsF, if_pos (by rw [hnm, decide_eq_true few]; rfl)]
        show (match takeF n (mirOf td) td [] t2 with | .inl j => _ | .inr cs => _) = _
        rw [h]
        rfl
      walk_at "w"
      refine w_kMeth i1 (i2.no _ (by decide +kernel)) ?_
      walk_at "w"
      have mk : rs.mir.map (·.1) = td.map (·.1) := by rw [hmi]; exact mirOf_key g1
      have ltd6 : td.length ≤ 6 := by omega
      have hown : ∀ a ∈ rs.own dc dl, H a = none := fun a ha => by
        rcases List.mem_cons.1 ha with rfl | ha
        · exact hdc
        · rcases List.mem_cons.1 ha with rfl | ha
          · exact hdl0
          · obtain ⟨r0, hr0, rfl⟩ := List.mem_map.mp ha
            exact (hrs r0 hr0).1
      have dmo : dm ∉ rs.own dc dl := fun ha => by
        rcases List.mem_cons.1 ha with z | ha
        · exact cdm z.symm
        · rcases List.mem_cons.1 ha with z | ha
          · exact ldm z.symm
          · obtain ⟨r0, hr0, z⟩ := List.mem_map.mp ha
            exact (hrs r0 hr0).2.1 z
      refine ⟨p, pp, _, n, vs, t2, dc, dl, cvs, rs, td, rfl, hP1, hpp1, hcs1, by omega, by omega, fun t ht => Nat.le_trans (g1.cols t ht) (by decide), g3, mk, fun r hr => by have := (hrs r hr).2.2; omega, fun cs ec T D H3 hD hO3 hP3 => ?_, fun j ej dd H3 hO3 hdd => ?_⟩
      rotate_left
      · rw [hmi] at ej
        refine kE _ _ (iF td.length (some j) (by rw [← et]; exact step j ej)) dd H3 (hO1.over hO3 hown) ?_
        rw [ltd]
        exact hdd
      rw [hmi] at ec
      obtain ⟨ppre, plen⟩ := takeF_pre g1 (PreCols.nil td) ec
      have lcs : cs.length ≤ 6 := by
        rw [plen]
        simpa using few
      have hme3 : H3 dm = some (.dK ((meetMap td).map fun e => ((Sum.inr e.1 : Key), V.bl e.2))) := hO3 _ _ hme1 dmo
      have hp3' : H3 p = some (.ins C dx fs) := hO3 _ _ (eT _ _ hpf) fun z => by rw [hown p z] at hp; cases hp
      have hOO3 : ExO [p] H H3 := hO1.over hO3 hown
      have hD0 : H D = none := hO1.back (fun a ha => by rw [List.mem_singleton.1 ha]; exact ⟨_, i1⟩) hD
      have Ddm : D ≠ dm := fun z => by rw [z, hme1] at hD; cases hD
      obtain ⟨⟨dx3, fs3, j1, j2⟩, k3, _, _, _, _, _, _, _⟩ := id hP3
      have lk : (td ++ [(n, cs)]).lookup n = some cs := lookup_mem (l := td ++ [(n, cs)]) (e := (n, cs)) (by
        rw [List.map_append,
                List.nodup_append]
        refine ⟨g1.nodup, by simp, fun a ha b hb => ?_⟩
        simp only [List.map_cons,
                List.map_nil, List.mem_singleton] at hb
        rw [hb]
        rintro rfl
        exact g3 ha) (by simp)
      obtain ⟨ca, cvals, c1, c2, c3⟩ := hP3.cget lk
      walk_at "w"
      refine w_kFld j1 S.cls S.columns_ j2.c ?_
      walk_at "w"
      refine w_kG k3 c1 ?_
      walk_at "w"
      refine ⟨_, ca, dm, cvals, td, cs, rfl, c2, c3, by omega, ppre.ok g1, hme3, good_targets ppre, fun hb H4 e4 => ?_, fun j hb dd H4 e4 h4 => ?_⟩
      · walk_at "w"
        have hm4 := e4 _ _ hme3
        have lm : (meetMap td).length = td.length := by have := congrArg List.length (meetMap_keys td); simpa using this
        refine ⟨dm, _, rfl, DPut.k (k := Sum.inr n) hm4 (Nat.lt_of_le_of_lt (m := 6) (by rw [List.length_map]; omega) (by decide)), ?_⟩
        rw [putK_new (meets_none (by rw [meetMap_keys]; exact g3))]
        have P4 := hP3.ext e4
        have ek : ((meetMap td).map fun e => ((Sum.inr e.1 : Key), V.bl e.2)) ++ [(Sum.inr n, V.bl (meetOf (meetMap td) cs))] = (meetMap (td ++ [(n, cs)])).map fun e => ((Sum.inr e.1 : Key), V.bl e.2) := by
          rw [meetMap_snoc, List.map_append]
          rfl
        rw [ek]
        have adr : ∀ r ∈ cs.foldl (rsAdd n) rs ++ [(n, D, [])], H r.2.1 = none ∧ r.2.1 ≠ dm ∧ r.2.2.length ≤ 6 * (td ++ [(n, cs)]).length := fun r hr => by
          rw [List.length_append,
                  List.length_singleton]
          rcases List.mem_append.1 hr with hr | hr
          · have a1 : r.2.1 ∈ rs.map fun r => r.2.1 := by
              rw [← foldl_adr n cs rs]
              exact List.mem_map.mpr ⟨r, hr, rfl⟩
            obtain ⟨r0, h0, e0⟩ := List.mem_map.mp a1
            have a2 := foldl_lens n cs rs (6 * td.length) (fun r hr => (hrs r hr).2.2) r hr
            rw [← e0]
            exact ⟨(hrs r0 h0).1, (hrs r0 h0).2.1, by omega⟩
          · rw [List.mem_singleton.1 hr]
            exact ⟨hD0, Ddm, Nat.zero_le _⟩
        have dm4 : dm ∉ Rows.own dc dl (cs.foldl (rsAdd n) rs ++ [(n, D, [])]) := fun ha => by
          rcases List.mem_cons.1 ha with z | ha
          · exact cdm z.symm
          · rcases List.mem_cons.1 ha with z | ha
            · exact ldm z.symm
            · obtain ⟨r0, hr0, z⟩ := List.mem_map.mp ha
              exact (adr r0 hr0).2.1 z
        exact ⟨_, _, _, td ++ [(n, cs)], tr', cvs ++ [(.inr n, .ref T)], _, rfl, by rw [← et, step2 cs ec, hb], by rw [List.length_append, List.length_append, ltd]; rfl, by rw [List.length_append, List.length_cons, List.length_nil]; omega, fun x hx => lc' x (List.mem_cons_of_mem _ hx), hr1, P4.other hm4 dm4, by rw [mirOf_snoc]; unfold Rows.mir; rw [List.map_append]; show (cs.foldl (rsAdd n) rs).mir ++ _ = _; rw [foldl_mir, hmi]; rfl, upd_same, (hOO3.trans (.of e4)).mut hdm0, by rw [upd_ne (ne_of (e4 _ _ hp3') hm4 (by intro z; cases z))]; exact e4 _ _ hp3', adr, g1.snoc g2 g3 ⟨ppre, lcs, brk_none hb⟩⟩
      · refine kE _ _ (iF td.length (some j) (by rw [← et, step2 cs ec, hb])) dd H4 (hOO3.trans (.of e4)) ?_
        rw [ltd]
        exact h4
    · obtain ⟨x4, x5', x6, ts, tr, cvs, rs, rfl, et, ltd, lall, lc', hr0, hP, hmi, hme, hO, hpf, hrs, g1⟩ := h
      cases hr0
      have et : tabsF [] tabs = .inr ts := et.symm
      have lts : ts.length = tabs.length := by simpa using (ltd.trans (by simpa using lall))
      have hud' := dp_exO insP hO hud
      obtain ⟨_, k1, k2, _, _, _, _, _, _⟩ := id hP
      walk_at "w"
      refine w_ownIn hpf ?_
      refine ⟨p, _, ud, dc, dl, cvs, rs, ts, rfl, hP, hud', ?_⟩
      cases hin : strD (fun n => decide (n ∈ ts.map (·.1))) ud with
      | false =>
        have i0 : initF ud tabs = some (((tabs.length : Nat) : Int), -1) := by
          unfold initF
          rw [if_pos l16, et]
          show (if strD (fun n => decide (n ∈ ts.map (·.1))) ud = true then none else some _) = _
          rw [if_neg (by rw [hin]; exact Bool.false_ne_true)]
        have hq' : SqL K H' q xs := sqL_exO insP hO hq
        refine ⟨false, rfl, ⟨true, rfl, iteT ?_⟩⟩
        walk_at "w"
        rw [lx]
        exact ⟨by show 2 ≤ 1000; omega, fun a ha => raised2 (bad hO i0) a ha⟩
      | true =>
      have i0 : initF ud tabs = none := by
        unfold initF
        rw [if_pos l16, et]
        show (if strD (fun n => decide (n ∈ ts.map (·.1))) ud = true then none else some _) = _
        rw [if_pos hin]
      obtain ⟨u, rfl, hu⟩ := strD_str hin
      have hu : u ∈ ts.map (·.1) := of_decide_eq_true hu
      cases hud
      refine ⟨true, rfl, ?_⟩
      refine ⟨false, rfl, iteF ?_⟩
      walk_at "w"
      refine w_kSfld hpf S.cls S.user_ (by omega) ?_
      have ln6 : (putF "user" (.str u) fs).length ≤ 3 := Nat.le_trans (length_putF _ _ _) (Nat.succ_le_succ ln5)
      have f6 : FsOk (putF "user" (.str u) fs) dc dl := f5.put (by decide +kernel)
      have u6 : (putF "user" (.str u) fs).lookup ("user" : Str) = some (.str u) := by rw [lookup_putF, if_pos rfl]
      have P6 : Part C (L2.upd H' p (.ins C dx (putF "user" (.str u) fs))) p dc dl cvs rs ts := hP.setF hpf f6
      have O6 : ExO [p] H (L2.upd H' p (.ins C dx (putF "user" (.str u) fs))) := hO.put List.mem_cons_self
      have p6 : (L2.upd H' p (.ins C dx (putF "user" (.str u) fs))) p = some (.ins C dx (putF "user" (.str u) fs)) := upd_same
      generalize (L2.upd H' p (.ins C dx (putF "user" (.str u) fs))) = H6 at P6 O6 p6 ⊢
      generalize (putF "user" (.str u) fs) = fs6 at ln6 f6 u6 p6 ⊢
      walk_at "w"
      refine w_kFld p6 S.cls S.columns_ f6.c ?_
      walk_at "w"
      refine ⟨dc, cvs, rfl, .inl P6.hdc, fun tt htt => ?_⟩
      rw [tup_keys P6.cols]
      have e7 : Ex H6 (L2.upd H6 tt (.tup (ts.map fun t => V.str t.1))) := Ex.new htt
      have t7 : (L2.upd H6 tt (.tup (ts.map fun t => V.str t.1))) tt = some (.tup (ts.map fun t => V.str t.1)) := upd_same
      generalize (L2.upd H6 tt (.tup (ts.map fun t => V.str t.1))) = H7 at e7 t7 ⊢
      walk_at "w"
      have p7 := e7 _ _ p6
      refine w_kSfld p7 S.cls S.tables_ (by omega) ?_
      have ln8 : (putF "tables" (.ref tt) fs6).length ≤ 4 := Nat.le_trans (length_putF _ _ _) (Nat.succ_le_succ ln6)
      have f8 : FsOk (putF "tables" (.ref tt) fs6) dc dl := f6.put (by decide +kernel)
      have u8 : (putF "tables" (.ref tt) fs6).lookup ("user" : Str) = some (.str u) := by rw [lookup_putF, if_neg (by decide +kernel)]; exact u6
      have t8 : (putF "tables" (.ref tt) fs6).lookup ("tables" : Str) = some (.ref tt) := by rw [lookup_putF, if_pos rfl]
      have P8 : Part C (L2.upd H7 p (.ins C dx (putF "tables" (.ref tt) fs6))) p dc dl cvs rs ts := (P6.ext e7).setF p7 f8
      have O8 : ExO [p] H (L2.upd H7 p (.ins C dx (putF "tables" (.ref tt) fs6))) := (O6.trans (.of e7)).put List.mem_cons_self
      have p8 : (L2.upd H7 p (.ins C dx (putF "tables" (.ref tt) fs6))) p = some (.ins C dx (putF "tables" (.ref tt) fs6)) := upd_same
      have tt8 : (L2.upd H7 p (.ins C dx (putF "tables" (.ref tt) fs6))) tt = some (.tup (ts.map fun t => V.str t.1)) := by rw [upd_ne (ne_of t7 p7 (by intro z; cases z))]; exact t7
      generalize (L2.upd H7 p (.ins C dx (putF "tables" (.ref tt) fs6))) = H8 at P8 O8 p8 tt8 ⊢
      generalize (putF "tables" (.ref tt) fs6) = fs8 at ln8 f8 u8 t8 p8 ⊢
      walk_at "w"
      refine w_kFld p8 S.cls S.columns_ f8.c ?_
      walk_at "w"
      refine ⟨u, dc, cvs, ts, rfl, P8.hdc, P8.cols, ?_, by omega, g1.nodup, good_sz g1, fun ll H9 e9 hll => ?_⟩
      · obtain ⟨t, h1, h2⟩ := List.mem_map.mp hu
        rw [← h2]
        exact Nat.le_trans (g1.names t h1).short (by decide)
      · walk_at "w"
        have p9 := e9 _ _ p8
        refine w_kSfld p9 S.cls S.lines_ (by omega) ?_
        have f10 : FsOk (putF "_lines" (.ref ll) fs8) dc dl := f8.put (by decide +kernel)
        refine k u ts rfl et hu i0 _ ((O8.trans (.of e9)).put List.mem_cons_self) ⟨dc, dl, cvs, rs, dx, _, tt, ll, (P8.ext e9).setF p9 f10, hmi, upd_same, f10, ?_, ?_, ?_, ?_, ?_⟩
        · rw [lookup_putF, if_neg (by decide +kernel)]; exact u8
        · rw [lookup_putF, if_neg (by decide +kernel)]; exact t8
        · rw [upd_ne (ne_of (e9 _ _ tt8) p9 (by intro z; cases z))]; exact e9 _ _ tt8
        · rw [lookup_putF, if_pos rfl]
        · rw [upd_ne (ne_of hll p9 (by intro z; cases z))]; exact hll
end
end LP
namespace LP
open PySem L2
/-! ### right tables are taken -/
theorem colOf_data (c : Col) : colOf c.data = some c := by
  cases c with
  | plain f n =>
    cases f
    · show (if ("number" : Str) = "flag" then some (Col.plain true n) else if ("number" : Str) = "number" then some (.plain false n) else none) = _
      rw [if_neg (by decide +kernel), if_pos rfl]
    · show (if ("flag" : Str) = "flag" then some (Col.plain true n) else if ("flag" : Str) = "number" then some (.plain false n) else none) = _
      rw [if_pos rfl]
  | word n o =>
    show (if ("word" : Str) = "word" then some (Col.word n o) else none) = _
    rw [if_pos rfl]
  | link n t o l =>
    cases l with
    | none =>
      show (if ("link" : Str) = "link" then some (Col.link n t o none) else none) = _
      rw [if_pos rfl]
    | some x =>
      show (if ("link" : Str) = "link" then some (Col.link n t o (some x)) else none) = _
      rw [if_pos rfl]
theorem colB_of {ns : List Str} {m : List (Str × Lists)} {ts : Tabs} {c : Col} (h : ColIn c ns m ts) : colB ns m ts c.data = true := by
  have hn : strD nameB (.str c.name) = true := (nameB_iff _).mpr h.nm
  have hw : strD (fun x => decide (x ∈ ns)) (.str c.name) = false := decide_eq_false h.nw
  cases c with
  | plain f n =>
    cases f
    · have hn : strD nameB (.str n) = true := hn
      have hw : strD (fun x => decide (x ∈ ns)) (.str n) = false := hw
      show (decide (lenD "number" = 0 + 2) && (strD nameB (.str n) && (!strD (fun x => decide (x ∈ ns)) (.str n) && restB m ts "number" []))) = true
      rw [hn, hw, show decide (lenD "number" = 0 + 2) = true by decide +kernel]
      unfold restB
      rw [if_neg (by decide +kernel), show decide (("number" : Str) = "word") = false by decide +kernel]
      rfl
    · have hn : strD nameB (.str n) = true := hn
      have hw : strD (fun x => decide (x ∈ ns)) (.str n) = false := hw
      show (decide (lenD "flag" = 0 + 2) && (strD nameB (.str n) && (!strD (fun x => decide (x ∈ ns)) (.str n) && restB m ts "flag" []))) = true
      rw [hn, hw, show decide (lenD "flag" = 0 + 2) = true by decide +kernel]
      unfold restB
      rw [if_neg (by decide +kernel), show decide (("flag" : Str) = "word") = false by decide +kernel]
      rfl
  | word n o =>
    have hn : strD nameB (.str n) = true := hn
    have hw : strD (fun x => decide (x ∈ ns)) (.str n) = false := hw
    show (decide (lenD "word" = 1 + 2) && (strD nameB (.str n) && (!strD (fun x => decide (x ∈ ns)) (.str n) && restB m ts "word" [.bool o]))) = true
    rw [hn, hw, show decide (lenD "word" = 1 + 2) = true by decide +kernel]
    unfold restB
    rw [if_neg
            (by decide +kernel)]
    cases decide (("word" : Str) = "word") <;> rfl
  | link n t o l =>
    have hn : strD nameB (.str n) = true := hn
    have hw : strD (fun x => decide (x ∈ ns)) (.str n) = false := hw
    obtain ⟨cs, ls, g1, g2, _, _, g5⟩ := h.lk rfl
    have g1 : ts.lookup t = some cs := g1
    have g2 : m.lookup t = some ls := g2
    have g5 : isListB cs ls l = true := g5
    have mem : t ∈ ts.map (·.1) := List.mem_map.mpr ⟨_, PySem.mem_of_lookup g1, rfl⟩
    show (decide (lenD "link" = 3 + 2) && (strD nameB (.str n) && (!strD (fun x => decide (x ∈ ns)) (.str n) && restB m ts "link" [.str t, .bool o, dOpt l]))) = true
    rw [hn, hw, show decide (lenD "link" = 3 + 2) = true by decide +kernel]
    unfold restB
    rw [if_pos rfl]
    have e3 : tgtD m ts (dOpt l) (.str t) = true := by
      show (match ts.lookup t, m.lookup t with | some cs, some ls => isListD cs ls (dOpt l) | _, _ => false) = true
      rw [show ts.lookup t = some cs from g1, show m.lookup t = some ls from g2]
      clear g1 g2 h hn hw
      cases l with
      | none => rfl
      | some x => exact g5
    show (true && (true && (!false && (strD (fun x => decide (x ∈ ts.map (·.1))) (.str t) && (isBoQ (.bool o) && tgtD m ts (dOpt l) (.str t)))))) = true
    rw [show strD (fun x => decide (x ∈ ts.map (·.1))) (.str t) = true from decide_eq_true mem, e3]
    rfl
theorem takeF_of {t : Str} {m : List (Str × Lists)} {ts : Tabs} : ∀ {r d : List Col}, ColsIn t (d ++ r) m ts → takeF t m ts d (r.map Col.data) = .inr (d ++ r)
  | [], d, _ => by rw [List.append_nil]; rfl
  | c :: r, d, h => by
    rw [List.map_cons, takeF_cons (colB_of (h d c r rfl)) (colOf_data c), takeF_of (r := r) (d := d ++ [c]) (by rw [List.append_assoc]; exact h), List.append_assoc]
    rfl
theorem tabsF_of : ∀ {tr td : Tabs}, GoodTabs (td ++ tr) → tabsF td (tr.map fun t => (PyData.str t.1, t.2.map Col.data)) = .inr (td ++ tr)
  | [], td, _ => by rw [List.append_nil]; rfl
  | t :: tr, td, g => by
    have q : ∀ {ts : Tabs}, GoodTabs ts → ∀ (td : Tabs) (t : Str × List Col) (tr : Tabs), ts = td ++ t :: tr → GoodTabs td ∧ IsName t.1 ∧ t.1 ∉ td.map (·.1) ∧ GoodCols td t.2 := by
      intro ts g
      induction g with
      | nil => intro td t tr e; cases td <;> cases e
      | @snoc ts n cs g hn hx hc ih =>
        intro td t tr e
        rcases List.eq_nil_or_concat tr with rfl | ⟨tr', z, rfl⟩
        · have e2 : ts ++ [(n, cs)] = td ++ [t] := e
          obtain ⟨rfl, e3⟩ := List.append_inj' e2 rfl
          cases e3
          exact ⟨g, hn, hx, hc⟩
        · have e2 : ts ++ [(n, cs)] = (td ++ t :: tr') ++ [z] := by rw [e]; simp
          obtain ⟨e3, e4⟩ := List.append_inj' e2 rfl
          exact ih td t tr' e3
    obtain ⟨g0, g1, g2, g3⟩ := q g td t tr rfl
    have ht : takeF t.1 (mirOf td) td [] (t.2.map Col.data) = .inr t.2 := takeF_of (d := []) (good_colsIn g0 g3)
    have hb : brk td t.2 = none := brk_some g3.r6
    have hn : nmOk td (.str t.1) = true := by
      unfold nmOk
      rw [show strD nameB (.str t.1) = true from (nameB_iff _).mpr g1, show strD (fun x => decide (x ∈ td.map (·.1))) (.str t.1) = false from decide_eq_false g2]
      rfl
    rw [List.map_cons, tabsF, if_pos (by rw [hn, decide_eq_true (by rw [List.length_map]; exact g3.few)]; rfl)]
    show (match takeF t.1 (mirOf td) td [] (t.2.map Col.data) with | .inl j => _ | .inr cs => _) = _
    rw [ht]
    show (match brk td t.2 with | some j => _ | none => tabsF (td ++ [(t.1, t.2)]) (tr.map fun t : Str × List Col => (PyData.str t.1, t.2.map Col.data))) = _
    rw [hb]
    show tabsF (td ++ [t]) _ = _
    rw [tabsF_of (tr := tr) (td := td ++ [t]) (by rw [List.append_assoc]; exact g), List.append_assoc]
    rfl
theorem initF_of {ts : Tabs} {u : Str} (g : GoodTabs ts) (h1 : 1 ≤ ts.length) (h6 : ts.length ≤ 6) (hu : u ∈ ts.map (·.1)) : initF (.str u) (ts.map fun t => (PyData.str t.1, t.2.map Col.data)) = none := by
  unfold initF
  rw [List.length_map, if_pos ⟨h1, h6⟩, tabsF_of (td := []) g]
  show (if strD (fun n => decide (n ∈ ts.map (·.1))) (.str u) = true then none else some _) = _
  rw [if_pos (show strD (fun n => decide (n ∈ ts.map (·.1))) (.str u) = true from decide_eq_true hu)]
end LP
namespace LP
open PySem L2
open Evl (Ex)
def Col.full : Col → Col
  | .link n t _ l => .link n t false l
  | .word n _ => .word n false
  | c => c
def spFullCol : Sp := fun vs H Q _ => ∃ (v : V) (c : Col), vs = [v] ∧ ColAt H v c ∧ ∀ (v' : V) (H' : Hp), Ex H H' → ColAt H' v' c.full → Q v' H'
def spFilled (K : PySem.W.Frag) : Sp := fun vs H Q _ => ∃ (p : Addr) (cs : List Col), vs = [.ref p] ∧ ColsR K H p cs ∧ cs.length ≤ 20 ∧ ∀ (q : Addr) (H' : Hp), H q = none → Ex H H' → ColsAt H' q (cs.map Col.full) → Q (.ref q) H'
section
variable {base : Heap} {mg : Str → Option Value} {K : PySem.W.Frag} {w : World} {P : Program}
end
end LP
namespace LP
open PySem L2
open Evl (Ex)
/-! ### the words of a schema's lines -/
def mark (o : Bool) : Str := if o = true then sz "?" else sz ""
def linkWords (w0 w1 tg : Str) : Option Str → List Str
  | none => [w0, w1, "to", tg]
  | some l => [w0, w1, "to", tg, "as", l]
def colWords : Col → List Str
  | .plain true n => ["flag", n]
  | .plain false n => ["number", n]
  | .word n o => ["word", n ++ mark o]
  | .link n t o l => linkWords "link" (n ++ mark o) t l
def tabWords (t : Str × List Col) : List (List Str) := ["table", t.1] :: t.2.map colWords
def allWords (u : Str) (ts : Tabs) : List (List Str) := ["user", u] :: ts.flatMap tabWords
theorem tl_join (y : Str) (ws : List Str) : TL.tl (Txt.join y ws) = TL.joinL (TL.tl y) (ws.map TL.tl) := by rw [TL.join_eq, TL.tl_join]
theorem tl_sz : TL.tl Str.empty = [] ∧ TL.tl (sz " ") = [32] ∧ TL.tl (sz " to ") = 32 :: (TL.tl "to" ++ [32]) ∧ TL.tl (sz " as ") = 32 :: (TL.tl "as" ++ [32]) ∧ TL.tl (sz "table ") = TL.tl "table" ++ [32] ∧ TL.tl (sz "user ") = TL.tl "user" ++ [32] ∧ TL.tl (sz "") = [] ∧ TL.tl (sz "?") = [63] := by decide +kernel
theorem joinL2 (s a b : List Nat) : TL.joinL s [a, b] = a ++ (s ++ b) := rfl
theorem joinL1 (s a : List Nat) : TL.joinL s [a] = a := rfl
theorem joinL3 (s a b : List Nat) (r : List (List Nat)) : TL.joinL s (a :: b :: r) = a ++ (s ++ TL.joinL s (b :: r)) := rfl
theorem line_words (c : Col) : colLine c = Txt.join (sz " ") (colWords c) := by
  obtain ⟨h0, h1, h2, h3, h4, h5, h6, h7⟩ := tl_sz
  refine TL.ext_tl ?_
  rw [tl_join, h1]
  cases c with
  | plain f n =>
    cases f with
    | true =>
      show TL.tl ((((Str.empty ++ ("flag" : Str)) ++ sz " ") ++ n) ++ sz "") = TL.joinL [32] [TL.tl "flag", TL.tl n]
      simp only [TL.tl_append, h0, h1, h6, joinL2, List.nil_append, List.append_nil, List.append_assoc]
    | false =>
      show TL.tl ((((Str.empty ++ ("number" : Str)) ++ sz " ") ++ n) ++ sz "") = TL.joinL [32] [TL.tl "number", TL.tl n]
      simp only [TL.tl_append, h0, h1, h6, joinL2, List.nil_append, List.append_nil, List.append_assoc]
  | word n o =>
    show TL.tl ((((Str.empty ++ ("word" : Str)) ++ sz " ") ++ n) ++ mark o) = TL.joinL [32] [TL.tl "word", TL.tl (n ++ mark o)]
    simp only [TL.tl_append, h0, h1, joinL2, List.nil_append, List.append_assoc]
  | link n t o l =>
    cases l with
    | none =>
      show TL.tl (((Str.empty ++ ((((Str.empty ++ ("link" : Str)) ++ sz " ") ++ n) ++ mark o)) ++ sz " to ") ++ t) = TL.joinL [32] [TL.tl "link", TL.tl (n ++ mark o), TL.tl "to", TL.tl t]
      simp only [TL.tl_append, h0, h1, h2, joinL1, joinL2, joinL3, List.nil_append, List.append_assoc, List.cons_append]
    | some l =>
      show TL.tl (((Str.empty ++ (((Str.empty ++ ((((Str.empty ++ ("link" : Str)) ++ sz " ") ++ n) ++ mark o)) ++ sz " to ") ++ t)) ++ sz " as ") ++ l) = TL.joinL [32] [TL.tl "link", TL.tl (n ++ mark o), TL.tl "to", TL.tl t, TL.tl "as", TL.tl l]
      simp only [TL.tl_append, h0, h1, h2, h3, joinL1, joinL2, joinL3, List.nil_append, List.append_assoc, List.cons_append]
theorem lines_words (u : Str) (ts : Tabs) : linesOf u ts = (allWords u ts).map (Txt.join (sz " ")) := by
  obtain ⟨h0, h1, h2, h3, h4, h5, h6, h7⟩ := tl_sz
  unfold linesOf allWords
  rw [List.map_cons]
  have e1 : (Str.empty ++ sz "user ") ++ u = Txt.join (sz " ") ["user", u] := by
    refine TL.ext_tl ?_
    rw [tl_join, h1]
    show TL.tl ((Str.empty ++ sz "user ") ++ u) = TL.joinL [32] [TL.tl "user", TL.tl u]
    simp only [TL.tl_append, h0, h5, joinL2, List.nil_append, List.append_assoc, List.cons_append]
  have e2 : ts.flatMap tabLines = (ts.flatMap tabWords).map (Txt.join (sz " ")) := by
    rw [List.map_flatMap]
    refine congrArg (fun f => List.flatMap f ts) (funext fun t => ?_)
    unfold tabLines tabWords
    rw [List.map_cons, List.map_map]
    have e3 : (Str.empty ++ sz "table ") ++ t.1 = Txt.join (sz " ") ["table", t.1] := by
      refine TL.ext_tl ?_
      rw [tl_join, h1]
      show TL.tl ((Str.empty ++ sz "table ") ++ t.1) = TL.joinL [32] [TL.tl "table", TL.tl t.1]
      simp only [TL.tl_append, h0, h4, joinL2, List.nil_append, List.append_assoc, List.cons_append]
    rw [e3, List.map_congr_left fun c _ => line_words c]
    rfl
  rw [e1, e2]
/-- a word of letters, with a mark behind it or none -/
def WordOk (x : Str) : Prop := ∀ c ∈ TL.tl x, 97 ≤ c ∧ c ≤ 122 ∨ c = 63
theorem WordOk.low {x : Str} (h : Low x) : WordOk x := fun c hc => .inl (h c hc)
theorem WordOk.mark {x : Str} (h : Low x) (o : Bool) : WordOk (x ++ mark o) := fun c hc => by
  obtain ⟨h0, h1, h2, h3, h4, h5, h6, h7⟩ := tl_sz
  rw [TL.tl_append] at hc
  rcases List.mem_append.1 hc with hc | hc
  · exact .inl (h c hc)
  · cases o with
    | true =>
      have e : TL.tl (LP.mark true) = [63] := h7
      rw [e] at hc
      exact .inr (List.mem_singleton.1 hc)
    | false =>
      have e : TL.tl (LP.mark false) = [] := h6
      rw [e] at hc
      cases hc
theorem WordOk.no {x : Str} (h : WordOk x) {s : Nat} (hs : s < 63) : s ∉ TL.tl x := fun hc => by
  rcases h s hc with h | h <;> omega
theorem kind_ok : Low "flag" ∧ Low "number" ∧ Low "word" ∧ Low "link" ∧ Low "to" ∧ Low "as" ∧ Low "table" ∧ Low "user" := by unfold Low; decide +kernel
/-- the names of a column are letters -/
structure ColLow (c : Col) : Prop where
  n : Low c.name
  n1 : 1 ≤ c.name.length
  n2 : c.name.length ≤ 8
  t : Low c.target
  t1 : c.isLink = true → 1 ≤ c.target.length
  t2 : c.target.length ≤ 8
  l : ∀ x, c.lst = some x → Low x ∧ 1 ≤ x.length ∧ x.length ≤ 8
theorem words_ok {c : Col} (h : ColLow c) : ∀ x ∈ colWords c, WordOk x := by
  obtain ⟨k1, k2, k3, k4, k5, k6, k7, k8⟩ := kind_ok
  intro x hx
  cases c with
  | plain f n =>
    cases f with
    | true =>
      rcases List.mem_cons.1 hx with rfl | hx
      · exact .low k1
      · rw [List.mem_singleton.1 hx]; exact .low h.n
    | false =>
      rcases List.mem_cons.1 hx with rfl | hx
      · exact .low k2
      · rw [List.mem_singleton.1 hx]; exact .low h.n
  | word n o =>
    rcases List.mem_cons.1 hx with rfl | hx
    · exact .low k3
    · rw [List.mem_singleton.1 hx]; exact .mark h.n o
  | link n t o l =>
    cases l with
    | none =>
      have hx : x ∈ [("link" : Str), n ++ mark o, "to", t] := hx
      simp only [List.mem_cons,
              List.not_mem_nil, or_false] at hx
      rcases hx with rfl | rfl | rfl | rfl
      · exact .low k4
      · exact .mark h.n o
      · exact .low k5
      · exact .low h.t
    | some l =>
      have hx : x ∈ [("link" : Str), n ++ mark o, "to", t, "as", l] := hx
      simp only [List.mem_cons,
              List.not_mem_nil, or_false] at hx
      rcases hx with rfl | rfl | rfl | rfl | rfl | rfl
      · exact .low k4
      · exact .mark h.n o
      · exact .low k5
      · exact .low h.t
      · exact .low k6
      · exact .low (h.l _ rfl).1
theorem good_low {ts : Tabs} (g : GoodTabs ts) : ∀ t ∈ ts, ∀ c ∈ t.2, ColLow c := by
  intro t ht c hc
  obtain ⟨td, tr, e⟩ := List.append_of_mem ht
  obtain ⟨g1, g2, g3, g4⟩ := g.split td t tr e
  have nm := g4.nm c hc
  have tg : c.isLink = true → IsName c.target := fun hk => by
    obtain ⟨t2, h2, e2⟩ := List.mem_map.mp (g4.tg c hc hk)
    rw [← e2]
    exact g1.names t2 h2
  have l0 : c.isLink = false → TL.tl c.target = [] ∧ c.target.length ≤ 8 := fun hk => by
    cases c with
    | link n t o l => cases hk
    | plain f n => exact ⟨by show TL.tl ("" : Str) = []; decide +kernel, by show ("" : Str).length ≤ 8; decide⟩
    | word n o => exact ⟨by show TL.tl ("" : Str) = []; decide +kernel, by show ("" : Str).length ≤ 8; decide⟩
  refine ⟨nm.1.2.2, nm.1.1, nm.1.2.1, ?_, fun hk => (tg hk).1.1, ?_, fun x hx => ⟨(g4.ls c hc x hx).1.2.2, (g4.ls c hc x hx).1.1, (g4.ls c hc x hx).1.2.1⟩⟩
  · cases hk : c.isLink with
    | true => exact (tg hk).1.2.2
    | false =>
      intro x hx
      have hx : x ∈ TL.tl c.target := hx
      rw [(l0 hk).1] at hx
      cases hx
  · cases hk : c.isLink with
    | true => exact (tg hk).1.2.1
    | false => exact (l0 hk).2
theorem all_ok {u : Str} {ts : Tabs} (g : GoodTabs ts) (hu : u ∈ ts.map (·.1)) : ∀ ws ∈ allWords u ts, ws ≠ [] ∧ ∀ x ∈ ws, WordOk x := by
  obtain ⟨k1, k2, k3, k4, k5, k6, k7, k8⟩ := kind_ok
  intro ws hws
  rcases List.mem_cons.1 hws with rfl | hws
  · refine ⟨by simp, fun x hx => ?_⟩
    rcases List.mem_cons.1 hx with rfl | hx
    · exact .low k8
    · rw [List.mem_singleton.1 hx]
      obtain ⟨t, ht, e⟩ := List.mem_map.mp hu
      rw [← e]
      exact .low (g.names t ht).1.2.2
  · obtain ⟨t, ht, hws⟩ := List.mem_flatMap.mp hws
    rcases List.mem_cons.1 hws with rfl | hws
    · refine ⟨by simp, fun x hx => ?_⟩
      rcases List.mem_cons.1 hx with rfl | hx
      · exact .low k7
      · rw [List.mem_singleton.1 hx]
        exact .low (g.names t ht).1.2.2
    · obtain ⟨c, hc, rfl⟩ := List.mem_map.mp hws
      refine ⟨?_, words_ok (good_low g t ht c hc)⟩
      cases c with
      | plain f n => cases f <;> simp [colWords]
      | word n o => simp [colWords]
      | link n t o l => cases l <;> simp [colWords, linkWords]
theorem split_line {ws : List Str} (h : ws ≠ []) (hx : ∀ x ∈ ws, WordOk x) : Txt.split (Txt.join (sz " ") ws) (sz " ") = ws :=
  TL.split_join (s := 32) (S := []) tl_sz.2.1 (by decide +kernel) h fun x hx' => (hx x hx').no (by decide)
theorem line_no {ws : List Str} (hx : ∀ x ∈ ws, WordOk x) : 10 ∉ TL.tl (Txt.join (sz " ") ws) := by
  rw [tl_join, tl_sz.2.1]
  have key : ∀ l : List (List Nat), (∀ p ∈ l, 10 ∉ p) → 10 ∉ TL.joinL [32] l := fun l => by
    induction l with
    | nil => exact fun _ h => nomatch h
    | cons p r ih =>
      intro h
      cases r with
      | nil => exact h p List.mem_cons_self
      | cons q r =>
        rw [joinL3]
        intro hm
        rcases List.mem_append.1 hm with hm | hm
        · exact h p List.mem_cons_self hm
        · rcases List.mem_append.1 hm with hm | hm
          · simp at hm
          · exact ih (fun p hp => h p (List.mem_cons_of_mem _ hp)) hm
  refine key _ fun p hp => ?_
  obtain ⟨x, hx', rfl⟩ := List.mem_map.mp hp
  exact (hx x hx').no (by decide)
theorem split_text {u : Str} {ts : Tabs} (g : GoodTabs ts) (hu : u ∈ ts.map (·.1)) : Txt.split (Txt.join (sz "\n") (linesOf u ts)) (sz "\n") = (allWords u ts).map (Txt.join (sz " ")) := by
  rw [lines_words]
  refine TL.split_join (s := 10) (S := []) (by decide +kernel) (by decide +kernel) (by simp [allWords]) fun p hp => ?_
  obtain ⟨ws, hws, rfl⟩ := List.mem_map.mp hp
  exact line_no (all_ok g hu ws hws).2
/-! ### the mark -/
theorem mark_app (n : Str) (o : Bool) : TL.tl (n ++ mark o) = TL.tl n ++ if o = true then [63] else [] := by
  rw [TL.tl_append]
  cases o with
  | true => exact congrArg (TL.tl n ++ ·) tl_sz.2.2.2.2.2.2.2
  | false => exact congrArg (TL.tl n ++ ·) tl_sz.2.2.2.2.2.2.1
theorem mark_none (n : Str) : n ++ mark false = n := TL.ext_tl (by rw [mark_app]; simp)
theorem mark_ne {n : Str} (o : Bool) : decide (n = n ++ mark o) = !o := by
  cases o with
  | true =>
    refine decide_eq_false fun e => ?_
    have := congrArg (fun z => (TL.tl z).length) e
    simp only [mark_app, List.length_append] at this
    simp at this
  | false => exact decide_eq_true (mark_none n).symm
theorem suffix_mark {n : Str} (h : Low n) (h1 : 1 ≤ n.length) (o : Bool) : Txt.removesuffix (n ++ mark o) (sz "?") = n := by
  have e63 : TL.tl (sz "?") = [63] := tl_sz.2.2.2.2.2.2.2
  have ly : (sz "?").length = 1 := by decide
  have sub : ∀ x : Str, 1 ≤ x.length → (Builtin.Str.subAt x (sz "?") (x.length - 1) = true ↔ (TL.tl x).drop (x.length - 1) = [63]) := fun x hx => by
    unfold Builtin.Str.subAt
    rw [beq_iff_eq, ← Array.toList_inj, Array.toList_extract, ly]
    show ((TL.tl x).drop (x.length - 1)).take (x.length - 1 + 1 - (x.length - 1)) = TL.tl (sz "?") ↔ _
    rw [e63, List.take_of_length_le (by rw [List.length_drop, ← TL.len_tl]; omega)]
  unfold Txt.removesuffix
  rw [ly]
  cases o with
  | true =>
    have lx : (n ++ mark true).length = n.length + 1 := by rw [TL.len_tl, mark_app, List.length_append, ← TL.len_tl]; rfl
    rw [lx, decide_eq_true (by omega : 1 ≤ n.length + 1), Bool.true_and]
    have z := (sub (n ++ mark true) (by rw [lx]; omega)).mpr (by
      rw [lx, mark_app, Nat.add_sub_cancel, TL.len_tl n]
      exact List.drop_left)
    rw [lx] at z
    rw [if_pos z]
    show (if n.length + 1 - 1 - 0 == (n ++ mark true).length then (n ++ mark true) else Builtin.Str.strSub (n ++ mark true) 0 (n.length + 1 - 1)) = n
    rw [lx, if_neg (by rw [beq_iff_eq]; omega)]
    refine TL.ext_tl ?_
    rw [TL.tl_strSub, mark_app, List.drop_zero, Nat.sub_zero, Nat.add_sub_cancel, TL.len_tl n]
    exact List.take_left
  | false =>
    rw [mark_none, decide_eq_true h1, Bool.true_and, if_neg fun z => ?_]
    · rfl
    · have z := (sub n h1).mp z
      have m : (63 : Nat) ∈ TL.tl n := List.mem_of_mem_drop (i := n.length - 1) (by rw [z]; exact List.mem_cons_self)
      have := h 63 m
      omega
/-! ### what is left of the lines -/
def Left (ts tp : Tabs) (rest : List (List Str)) : Prop := (tp = [] ∧ rest = ts.flatMap tabWords) ∨ ∃ td n ci cr tr, ts = td ++ (n, ci ++ cr) :: tr ∧ tp = td ++ [(n, ci)] ∧ rest = cr.map colWords ++ tr.flatMap tabWords
theorem left_step {ts tp : Tabs} {y : List Str} {rest : List (List Str)} (h : Left ts tp (y :: rest)) :
    (∃ n : Str, y = [("table" : Str), n] ∧ n ∈ ts.map (·.1) ∧ Left ts (tp ++ [(n, [])]) rest) ∨ (∃ td n ci c, tp = td ++ [(n, ci)] ∧ y = colWords c ∧ (∃ t ∈ ts, c ∈ t.2) ∧ Left ts (td ++ [(n, ci ++ [c])]) rest) := by
  have tab : ∀ (td tr : Tabs), ts = td ++ tr → y :: rest = tr.flatMap tabWords → ∃ n : Str, y = [("table" : Str), n] ∧ n ∈ ts.map (·.1) ∧ Left ts (td ++ [(n, [])]) rest := fun td tr e e2 => by
    cases tr with
    | nil => cases e2
    | cons t tr =>
      rw [List.flatMap_cons] at e2
      unfold tabWords at e2
      rw [List.cons_append] at e2
      injection e2 with e3 e4
      exact ⟨t.1, e3, by rw [e]; simp, .inr ⟨td, t.1, [], t.2, tr, by rw [e]; rfl, rfl, e4⟩⟩
  rcases h with ⟨e1, e2⟩ | ⟨td, n, ci, cr, tr, e1, e2, e3⟩
  · subst e1
    exact .inl (tab [] ts rfl e2)
  · cases cr with
    | nil =>
      rw [List.append_nil] at e1
      subst e2
      exact .inl (tab (td ++ [(n, ci)]) tr (by rw [e1]; simp) e3)
    | cons c cr =>
      rw [List.map_cons, List.cons_append] at e3
      injection e3 with e4 e5
      exact .inr ⟨td, n, ci, c, e2, e4, ⟨(n, ci ++ c :: cr), by rw [e1]; simp, by simp⟩, .inr ⟨td, n, ci ++ [c], cr, tr, by rw [e1]; simp, rfl, e5⟩⟩
theorem left_end {ts tp : Tabs} (h : Left ts tp []) : tp = ts := by
  have no : ∀ tr : Tabs, [] = tr.flatMap tabWords → tr = [] := fun tr e => by
    cases tr with
    | nil => rfl
    | cons t tr =>
      rw [List.flatMap_cons] at e
      unfold tabWords at e
      cases e
  rcases h with ⟨e1, e2⟩ | ⟨td, n, ci, cr, tr, e1, e2, e3⟩
  · rw [e1, no ts e2]
  · obtain ⟨e4, e5⟩ := List.append_eq_nil_iff.mp e3.symm
    rw [List.map_eq_nil_iff] at e4
    subst e4
    rw [no tr e5.symm, List.append_nil] at e1
    rw [e2, e1]
theorem words_len {c : Col} (h : ColLow c) : (colWords c).length ≤ 6 ∧ ∀ x ∈ colWords c, x.length ≤ 4000 := by
  have lm : ∀ o, (mark o).length ≤ 1 := fun o => mark_len o
  have la : ∀ (n : Str) (o : Bool), (n ++ mark o).length ≤ n.length + 1 := fun n o => by
    rw [TL.len_tl, mark_app, List.length_append, ← TL.len_tl]
    cases o <;> simp
  have n2 := h.n2
  have t2 := h.t2
  cases c with
  | plain f n =>
    have n2 : n.length ≤ 8 := n2
    cases f <;> refine ⟨by show 2 ≤ 6; omega, fun x hx => ?_⟩
    · rcases List.mem_cons.1 hx with rfl | hx
      · decide
      · rw [List.mem_singleton.1 hx]; omega
    · rcases List.mem_cons.1 hx with rfl | hx
      · decide
      · rw [List.mem_singleton.1 hx]; omega
  | word n o =>
    have n2 : n.length ≤ 8 := n2
    have := la n o
    refine ⟨by show 2 ≤ 6; omega, fun x hx => ?_⟩
    rcases List.mem_cons.1 hx with rfl | hx
    · decide
    · rw [List.mem_singleton.1 hx]; omega
  | link n t o l =>
    have n2 : n.length ≤ 8 := n2
    have t2 : t.length ≤ 8 := t2
    have := la n o
    cases l with
    | none =>
      refine ⟨by show 4 ≤ 6; omega, fun x hx => ?_⟩
      have hx : x ∈ [("link" : Str), n ++ mark o, "to", t] := hx
      simp only [List.mem_cons,
              List.not_mem_nil, or_false] at hx
      rcases hx with rfl | rfl | rfl | rfl
      · decide
      · omega
      · decide
      · omega
    | some l =>
      have ll := (h.l l rfl).2.2
      refine ⟨by show 6 ≤ 6; omega, fun x hx => ?_⟩
      have hx : x ∈ [("link" : Str), n ++ mark o, "to", t, "as", l] := hx
      simp only [List.mem_cons,
              List.not_mem_nil, or_false] at hx
      rcases hx with rfl | rfl | rfl | rfl | rfl | rfl
      · decide
      · omega
      · decide
      · omega
      · decide
      · omega
end LP
namespace LP
open PySem L2
open Evl (Ex)
def headB (wd : Str) (ws : List Str) : Bool := match ws with
  | [a, b] => decide (a = wd) && lettersB b
  | _ => false
def spHead (K : PySem.W.Frag) : Sp := fun vs H Q _ => ∃ (wd : Str) (p : Addr) (ws : List Str), vs = [.str wd, .ref p] ∧ SqL K H p (ws.map V.str) ∧ ws.length ≤ 1000 ∧ (∀ x ∈ ws, x.length ≤ 4000) ∧ Q (.bl (headB wd ws)) H
theorem len2 {α : Type} {ws : List α} (h : ws.length = 2) : ∃ a b, ws = [a, b] := by
  match ws, h with
  | [a, b], _ => exact ⟨a, b, rfl⟩
theorem headB_no {wd : Str} {ws : List Str} (h : ws.length ≠ 2) : headB wd ws = false := by
  unfold headB
  split
  · exact absurd rfl h
  · rfl
def spReadLink (K : PySem.W.Frag) : Sp := fun vs H Q _ => ∃ (nm : Str) (o : Bool) (p : Addr) (tg : Str) (l : Option Str) (w0 w1 : Str), vs = [.str nm, .bl o, .ref p] ∧ SqL K H p ((linkWords w0 w1 tg l).map V.str) ∧ lettersB tg = true ∧ tg.length ≤ 4000 ∧
  (∀ x, l = some x → lettersB x = true ∧ x.length ≤ 4000) ∧ ∀ (v : V) (H' : Hp), Ex H H' → ColAt H' v (.link nm tg o l) → Q v H'
section
variable {base : Heap} {mg : Str → Option Value} {K : PySem.W.Frag} {w : World} {P : Program}
theorem ok_head {f : Addr} {fd : FuncData} (D : C8.Def K mg "_is_head" s__is_head f fd) (b : Binds K fd ["word", "words"] []) (B : Blt mg) (c_is_letters : C8.Cal P w K mg base 1 "is_letters" (spAsk K (strD lettersB)) []) : C8.Cal P w K mg base 2 "_is_head" (spHead K) [] := by
  have sc : FnScope ["word", "words"] ["word", "words"] (C8.fnScope s__is_head) := C8.fnScope_by (by decide +kernel)
  refine C8.cal0 D b .nil sc (fun vs H Q E h => ?_) (fun cdv A outer s H vs Q E hr h => ?_)
  · obtain ⟨_, _, _, rfl, _⟩ := h
    rfl
  · obtain ⟨wd, p, ws, rfl, hp, hl, hx, k⟩ := h
    refine ⟨_, (pss_one (ps_ret (pe_and (pe_cmpR op_eq (pe_callB (call_len_seqK (K := K) rfl) (by rfl) B.len_ (by decide +kernel) (pa_cons (pv 1) pa_nil)) pe_int (nomark _)) (pe_and (pe_cmpR op_eq (pe_ix (ix_listK (K := K) rfl) (pv 1) pe_int (fun _ _ => rfl)) (pv 0) (nomark _)) (pe_one (C8.pe_c c_is_letters hr (by decide) rfl (pa_cons (pe_ix (ix_listK (K := K) rfl) (pv 1) pe_int (fun _ _ => rfl)) pa_nil))))))), ?_⟩
    walk_at "w"
    rw [List.length_map]
    refine iteD (fun h2 => ?_) (fun h2 => ?_)
    · have l2 : ws.length = 2 := by
        injection h2 with h2
        omega
      obtain ⟨x, y, rfl⟩ := len2 l2
      walk_at "w"
      rw [show decide (V.str x = V.str wd) = decide (x = wd) by simp]
      refine iteD (fun h3 => ?_) (fun h3 => ?_)
      · walk_at "w"
        refine ⟨.str y, .str y, rfl, .str y, fun z e => by cases e; exact hx _ (by simp), ?_⟩
        rw [show headB wd [x, y] = (decide (x = wd) && lettersB y) from rfl, decide_eq_true h3, Bool.true_and] at k
        exact k
      · rw [show headB wd [x, y] = (decide (x = wd) && lettersB y) from rfl, decide_eq_false h3, Bool.false_and] at k
        exact k
    · rw [headB_no fun z => h2 (by rw [z]; rfl)] at k
      exact k
theorem ok_read_link {f : Addr} {fd : FuncData} (D : C8.Def K mg "_read_link" s__read_link f fd) (b : Binds K fd ["name", "optional", "words"] []) (B : Blt mg) (c_is_letters : C8.Cal P w K mg base 1 "is_letters" (spAsk K (strD lettersB)) []) : C8.Cal P w K mg base 2 "_read_link" (spReadLink K) [] := by
  have sc : FnScope ["name", "optional", "words"] ["name", "optional", "words"] (C8.fnScope s__read_link) := C8.fnScope_by (by decide +kernel)
  refine C8.cal0 D b .nil sc (fun vs H Q E h => ?_) (fun cdv A outer s H vs Q E hr h => ?_)
  · obtain ⟨_, _, _, _, _, _, _, rfl, _⟩ := h
    rfl
  · obtain ⟨nm, o, p, tg, l, w0, w1, rfl, hp, ht, htl, hl, k⟩ := h
    refine ⟨_, (pss_cons (ps_if (PW.pt (pw_or (pt_cmpR (op_notIn_seqK (K := K) rfl) (pe_callB (call_len_seqK (K := K) rfl) (by rfl) B.len_ (by decide +kernel) (pa_cons (pv 2) pa_nil)) (pe_tup (pa_cons pe_int (pa_cons pe_int pa_nil))) (by rfl)) (pw_or (pt_cmpR op_ne (pe_ix (ix_listK (K := K) rfl) (pv 2) pe_int (fun _ _ => rfl)) pe_str (nomark _)) (pw_or1 (pt_not (pt_val (C8.pe_c c_is_letters hr (by decide) rfl (pa_cons (pe_ix (ix_listK (K := K) rfl) (pv 2) pe_int (fun _ _ => rfl)) pa_nil))))))))
        (pss_one (ps_ret pe_non))
        pss_nil)
        (pss_cons (ps_if (pt_cmpR op_eq (pe_callB (call_len_seqK (K := K) rfl) (by rfl) B.len_ (by decide +kernel) (pa_cons (pv 2) pa_nil)) pe_int (nomark _))
        (pss_one (ps_ret (pe_tup (pa_cons pe_str (pa_cons (pv 0) (pa_cons (pe_ix (ix_listK (K := K) rfl) (pv 2) pe_int (fun _ _ => rfl)) (pa_cons (pv 1) (pa_cons pe_non pa_nil))))))))
        pss_nil)
        (pss_cons (ps_if (PW.pt (pw_or (pt_cmpR op_ne (pe_ix (ix_listK (K := K) rfl) (pv 2) pe_int (fun _ _ => rfl)) pe_str (nomark _)) (pw_or1 (pt_not (pt_val (C8.pe_c c_is_letters hr (by decide) rfl (pa_cons (pe_ix (ix_listK (K := K) rfl) (pv 2) pe_int (fun _ _ => rfl)) pa_nil)))))))
        (pss_one (ps_ret pe_non))
        pss_nil)
        (pss_one (ps_ret (pe_tup (pa_cons pe_str (pa_cons (pv 0) (pa_cons (pe_ix (ix_listK (K := K) rfl) (pv 2) pe_int (fun _ _ => rfl)) (pa_cons (pv 1) (pa_cons (pe_ix (ix_listK (K := K) rfl) (pv 2) pe_int (fun _ _ => rfl)) pa_nil))))))))))), ?_⟩
    cases l with
    | none =>
      have hp : SqL K H p [.str w0, .str w1, .str "to", .str tg] := hp
      walk_at "w"
      intro S1 hS1
      have e1 : Ex H (upd H S1 (.tup [.int 4, .int 6])) := Ex.new hS1
      have fS1 : (upd H S1 (.tup [.int 4, .int 6])) S1 = some (.tup [.int 4, .int 6]) := upd_same
      generalize (upd H S1 (.tup [.int 4, .int 6])) = H1 at e1 fS1 ⊢
      have hp1 := Evl.ex_l e1 hp
      refine w_inT (SqT.of fS1) (by rfl) (by rfl) ?_
      walk_at "w"
      rw [show (if true = true then !inV (V.int ([.str w0, .str w1, .str "to", .str tg] : List V).length) [V.int 4, V.int 6] else inV (V.int ([.str w0, .str w1, .str "to", .str tg] : List V).length) [V.int 4, V.int 6]) = false by rfl]
      walk_at "w"
      refine iteND (fun h => absurd rfl h) (fun _ => ?_)
      walk_at "w"
      refine ⟨.str tg, .str tg, rfl, .str tg, fun z e => by cases e; exact htl, ?_⟩
      rw [show strD lettersB (.str tg) = true from ht]
      walk_at "w"
      refine iteD (fun _ => ?_) (fun h => absurd rfl h)
      walk_at "w"
      intro T hT
      exact k _ _ (e1.trans (Ex.new hT)) ⟨T, rfl, upd_same⟩
    | some l =>
      have hp : SqL K H p [.str w0, .str w1, .str "to", .str tg, .str "as", .str l] := hp
      walk_at "w"
      intro S1 hS1
      have e1 : Ex H (upd H S1 (.tup [.int 4, .int 6])) := Ex.new hS1
      have fS1 : (upd H S1 (.tup [.int 4, .int 6])) S1 = some (.tup [.int 4, .int 6]) := upd_same
      generalize (upd H S1 (.tup [.int 4, .int 6])) = H1 at e1 fS1 ⊢
      have hp1 := Evl.ex_l e1 hp
      refine w_inT (SqT.of fS1) (by rfl) (by rfl) ?_
      walk_at "w"
      rw [show (if true = true then !inV (V.int ([.str w0, .str w1, .str "to", .str tg, .str "as", .str l] : List V).length) [V.int 4, V.int 6] else inV (V.int ([.str w0, .str w1, .str "to", .str tg, .str "as", .str l] : List V).length) [V.int 4, V.int 6]) = false by rfl]
      walk_at "w"
      refine iteND (fun h => absurd rfl h) (fun _ => ?_)
      walk_at "w"
      refine ⟨.str tg, .str tg, rfl, .str tg, fun z e => by cases e; exact htl, ?_⟩
      rw [show strD lettersB (.str tg) = true from ht]
      walk_at "w"
      refine iteD (fun h => by injection h with h; exact absurd h (by show ¬ ((6 : Int) = 4); decide)) (fun _ => ?_)
      walk_at "w"
      refine iteND (fun h => absurd rfl h) (fun _ => ?_)
      walk_at "w"
      obtain ⟨q1, q2⟩ := hl l rfl
      refine ⟨.str l, .str l, rfl, .str l, fun z e => by cases e; exact q2, ?_⟩
      rw [show strD lettersB (.str l) = true from q1]
      walk_at "w"
      intro T hT
      exact k _ _ (e1.trans (Ex.new hT)) ⟨T, rfl, upd_same⟩
end
end LP
namespace LP
open PySem L2
open Evl (Ex)
def spReadCol (K : PySem.W.Frag) : Sp := fun vs H Q _ => ∃ (p : Addr) (c : Col), vs = [.ref p] ∧ SqL K H p ((colWords c).map V.str) ∧ ColLow c ∧ ∀ (v : V) (H' : Hp), Ex H H' → ColAt H' v c → Q v H'
theorem low_letters {x : Str} (h : Low x) (h1 : 1 ≤ x.length) : lettersB x = true := (lettersB_iff x).mpr ⟨h1, h⟩
section
variable {base : Heap} {mg : Str → Option Value} {K : PySem.W.Frag} {w : World} {P : Program}
theorem ok_read_column {f : Addr} {fd : FuncData} (D : C8.Def K mg "_read_column" s__read_column f fd) (b : Binds K fd ["words"] []) (B : Blt mg) (c_is_letters : C8.Cal P w K mg base 1 "is_letters" (spAsk K (strD lettersB)) [])
    (c__is_head : C8.Cal P w K mg base 2 "_is_head" (spHead K) []) (c__read_link : C8.Cal P w K mg base 2 "_read_link" (spReadLink K) []) : C8.Cal P w K mg base 3 "_read_column" (spReadCol K) [] := by
  have sc : FnScope ["words", "name"] ["words"] (C8.fnScope s__read_column) := C8.fnScope_by (by decide +kernel)
  refine C8.cal0 D b .nil sc (fun vs H Q E h => ?_) (fun cdv A outer s H vs Q E hr h => ?_)
  · obtain ⟨_, _, rfl, _⟩ := h
    rfl
  · obtain ⟨p, c, rfl, hp, hc, k⟩ := h
    refine ⟨_, (pss_cons (ps_if (pt_cmpR (op_in_seqK (K := K) rfl) (pe_ix (ix_listK (K := K) rfl) (pv 0) pe_int (fun _ _ => rfl)) (pe_tup (pa_cons pe_str (pa_cons pe_str pa_nil))) (by rfl))
        (pss_one (ps_ret (pe_ifExp (pt_val (C8.pe_c c__is_head hr (by decide) rfl (pa_cons (pe_ix (ix_listK (K := K) rfl) (pv 0) pe_int (fun _ _ => rfl)) (pa_cons (pv 0) pa_nil)))) (pe_tup (pa_cons (pe_ix (ix_listK (K := K) rfl) (pv 0) pe_int (fun _ _ => rfl)) (pa_cons (pe_ix (ix_listK (K := K) rfl) (pv 0) pe_int (fun _ _ => rfl)) pa_nil))) pe_non)))
        pss_nil)
        (pss_cons (ps_if (PW.pt (pw_or (pt_cmpR (op_notIn_seqK (K := K) rfl) (pe_ix (ix_listK (K := K) rfl) (pv 0) pe_int (fun _ _ => rfl)) (pe_tup (pa_cons pe_str (pa_cons pe_str pa_nil))) (by rfl)) (pw_or1 (pt_cmpR op_lt (pe_callB (call_len_seqK (K := K) rfl) (by rfl) B.len_ (by decide +kernel) (pa_cons (pv 0) pa_nil)) pe_int (nomark _)))))
        (pss_one (ps_ret pe_non))
        pss_nil)
        (pss_cons (ps_set (i := 1) sc.nd rfl (Or.inl rfl) (pe_bmK (K := K) rfl PySem.F.plainAttrs_str PySem.F.slot_str_removesuffix PySem.F.type_str_removesuffix mt_removesuffix' (pe_ix (ix_listK (K := K) rfl) (pv 0) pe_int (fun _ _ => rfl)) (pa_cons pe_str pa_nil)))
        (pss_cons (ps_if (pt_not (pt_val (C8.pe_c c_is_letters hr (by decide) rfl (pa_cons (pv 1) pa_nil))))
        (pss_one (ps_ret pe_non))
        pss_nil)
        (pss_cons (ps_if (pt_cmpR op_eq (pe_ix (ix_listK (K := K) rfl) (pv 0) pe_int (fun _ _ => rfl)) pe_str (nomark _))
        (pss_one (ps_ret (C8.pe_c c__read_link hr (by decide) rfl (pa_cons (pv 1) (pa_cons (pe_cmpR op_ne (pv 1) (pe_ix (ix_listK (K := K) rfl) (pv 0) pe_int (fun _ _ => rfl)) (nomark _)) (pa_cons (pv 0) pa_nil))))))
        pss_nil)
        (pss_one (ps_ret (pe_ifExp (pt_cmpR op_eq (pe_callB (call_len_seqK (K := K) rfl) (by rfl) B.len_ (by decide +kernel) (pa_cons (pv 0) pa_nil)) pe_int (nomark _)) (pe_tup (pa_cons pe_str (pa_cons (pv 1) (pa_cons (pe_cmpR op_ne (pv 1) (pe_ix (ix_listK (K := K) rfl) (pv 0) pe_int (fun _ _ => rfl)) (nomark _)) pa_nil)))) pe_non)))))))), ?_⟩
    have n1 := hc.n1
    have n2 := hc.n2
    cases c with
    | plain fl n =>
      have hn : Low n := hc.n
      have n1 : 1 ≤ n.length := n1
      have n2 : n.length ≤ 8 := n2
      cases fl with
      | true =>
        have hp : SqL K H p (([("flag" : Str), n] : List Str).map V.str) := hp
        have kl : ("flag" : Str).length ≤ 4000 := by decide
        walk_at "w"
        intro S1 hS1
        have e1 : Ex H (upd H S1 (.tup [.str "flag", .str "number"])) := Ex.new hS1
        have fS1 : (upd H S1 (.tup [.str "flag", .str "number"])) S1 = some (.tup [.str "flag", .str "number"]) := upd_same
        generalize (upd H S1 (.tup [.str "flag", .str "number"])) = H1 at e1 fS1 ⊢
        have hp1 := Evl.ex_l e1 hp
        refine w_inT (SqT.of fS1) (by rfl) (by rfl) ?_
        refine ⟨true, congrArg V.bl (by decide +kernel), iteT ?_⟩
        walk_at "w"
        refine ⟨_, p, [("flag" : Str), n], rfl, hp1, by show 2 ≤ 1000; omega, fun x hx => ?_, ?_⟩
        · rcases List.mem_cons.1 hx with rfl | hx
          · exact kl
          · rw [List.mem_singleton.1 hx]; omega
        rw [show headB "flag" [("flag" : Str), n] = true from by show (decide (("flag" : Str) = "flag") && lettersB n) = true; rw [low_letters hn n1, decide_eq_true rfl]; rfl]
        refine ⟨true, rfl, iteT ?_⟩
        walk_at "w"
        intro T hT
        exact k _ _ (e1.trans (Ex.new hT)) ⟨T, rfl, upd_same⟩
      | false =>
        have hp : SqL K H p (([("number" : Str), n] : List Str).map V.str) := hp
        have kl : ("number" : Str).length ≤ 4000 := by decide
        walk_at "w"
        intro S1 hS1
        have e1 : Ex H (upd H S1 (.tup [.str "flag", .str "number"])) := Ex.new hS1
        have fS1 : (upd H S1 (.tup [.str "flag", .str "number"])) S1 = some (.tup [.str "flag", .str "number"]) := upd_same
        generalize (upd H S1 (.tup [.str "flag", .str "number"])) = H1 at e1 fS1 ⊢
        have hp1 := Evl.ex_l e1 hp
        refine w_inT (SqT.of fS1) (by rfl) (by rfl) ?_
        refine ⟨true, congrArg V.bl (by decide +kernel), iteT ?_⟩
        walk_at "w"
        refine ⟨_, p, [("number" : Str), n], rfl, hp1, by show 2 ≤ 1000; omega, fun x hx => ?_, ?_⟩
        · rcases List.mem_cons.1 hx with rfl | hx
          · exact kl
          · rw [List.mem_singleton.1 hx]; omega
        rw [show headB "number" [("number" : Str), n] = true from by show (decide (("number" : Str) = "number") && lettersB n) = true; rw [low_letters hn n1, decide_eq_true rfl]; rfl]
        refine ⟨true, rfl, iteT ?_⟩
        walk_at "w"
        intro T hT
        exact k _ _ (e1.trans (Ex.new hT)) ⟨T, rfl, upd_same⟩
    | word n o =>
      have hn : Low n := hc.n
      have n1 : 1 ≤ n.length := n1
      have n2 : n.length ≤ 8 := n2
      have lm : (n ++ mark o).length ≤ sizeLine := Nat.le_trans ((words_len hc).2 (n ++ mark o) (List.mem_cons_of_mem _ List.mem_cons_self)) (by decide)
      have hp : SqL K H p [.str "word", .str (n ++ mark o)] := hp
      walk_at "w"
      intro S1 hS1
      have e1 : Ex H (upd H S1 (.tup [.str "flag", .str "number"])) := Ex.new hS1
      have fS1 : (upd H S1 (.tup [.str "flag", .str "number"])) S1 = some (.tup [.str "flag", .str "number"]) := upd_same
      generalize (upd H S1 (.tup [.str "flag", .str "number"])) = H1 at e1 fS1 ⊢
      have hp1 := Evl.ex_l e1 hp
      refine w_inT (SqT.of fS1) (by rfl) (by rfl) ?_
      refine ⟨false, congrArg V.bl (by decide +kernel), iteF ?_⟩
      walk_at "w"
      intro S2 hS2
      have e2 : Ex H (upd H1 S2 (.tup [.str "word", .str "link"])) := e1.trans (Ex.new hS2)
      have fS2 : (upd H1 S2 (.tup [.str "word", .str "link"])) S2 = some (.tup [.str "word", .str "link"]) := upd_same
      generalize (upd H1 S2 (.tup [.str "word", .str "link"])) = H2 at e2 fS2 ⊢
      have hp2 := Evl.ex_l e2 hp
      refine w_inT (SqT.of fS2) (by rfl) (by rfl) ?_
      refine ⟨false, congrArg V.bl (by decide +kernel), iteF ?_⟩
      walk_at "w"
      refine iteD (fun h => absurd h (by show ¬ ((2 : Int) < 2); decide)) (fun _ => ?_)
      walk_at "w"
      refine w_remSfx lm ?_
      rw [show Txt.removesuffix (n ++ mark o) (Str.ofString "?") = n from suffix_mark hn n1 o]
      walk_at "w"
      refine ⟨.str n, .str n, rfl, .str n, fun z e => by cases e; omega, ?_⟩
      rw [show strD lettersB (.str n) = true from low_letters hn n1]
      walk_at "w"
      refine iteD (fun h => absurd h (by decide +kernel)) (fun _ => ?_)
      walk_at "w"
      refine iteD (fun _ => ?_) (fun h => absurd rfl h)
      walk_at "w"
      intro T hT
      refine k _ _ (e2.trans (Ex.new hT)) ⟨T, rfl, ?_⟩
      rw [show (!decide (V.str n = V.str (n ++ mark o))) = o from by rw [show decide (V.str n = V.str (n ++ mark o)) = decide (n = n ++ mark o) by simp, mark_ne, Bool.not_not]]
      exact upd_same
    | link n t o l =>
      have hn : Low n := hc.n
      have n1 : 1 ≤ n.length := n1
      have n2 : n.length ≤ 8 := n2
      have ht : Low t := hc.t
      have t1 : 1 ≤ t.length := hc.t1 rfl
      have t2 : t.length ≤ 8 := hc.t2
      have lm : (n ++ mark o).length ≤ sizeLine := Nat.le_trans ((words_len hc).2 (n ++ mark o) (by cases l <;> exact List.mem_cons_of_mem _ List.mem_cons_self)) (by decide)
      have om : (!decide (V.str n = V.str (n ++ mark o))) = o := by rw [show decide (V.str n = V.str (n ++ mark o)) = decide (n = n ++ mark o) by simp, mark_ne, Bool.not_not]
      have hl : ∀ x, l = some x → lettersB x = true ∧ x.length ≤ 4000 := fun x e => by
        obtain ⟨z1, z2, z3⟩ := hc.l x e
        exact ⟨low_letters z1 z2, by omega⟩
      cases l with
      | none =>
        have hp : SqL K H p [.str "link", .str (n ++ mark o), .str "to", .str t] := hp
        walk_at "w"
        intro S1 hS1
        have e1 : Ex H (upd H S1 (.tup [.str "flag", .str "number"])) := Ex.new hS1
        have fS1 : (upd H S1 (.tup [.str "flag", .str "number"])) S1 = some (.tup [.str "flag", .str "number"]) := upd_same
        generalize (upd H S1 (.tup [.str "flag", .str "number"])) = H1 at e1 fS1 ⊢
        have hp1 := Evl.ex_l e1 hp
        refine w_inT (SqT.of fS1) (by rfl) (by rfl) ?_
        refine ⟨false, congrArg V.bl (by decide +kernel), iteF ?_⟩
        walk_at "w"
        intro S2 hS2
        have e2 : Ex H (upd H1 S2 (.tup [.str "word", .str "link"])) := e1.trans (Ex.new hS2)
        have fS2 : (upd H1 S2 (.tup [.str "word", .str "link"])) S2 = some (.tup [.str "word", .str "link"]) := upd_same
        generalize (upd H1 S2 (.tup [.str "word", .str "link"])) = H2 at e2 fS2 ⊢
        have hp2 := Evl.ex_l e2 hp
        refine w_inT (SqT.of fS2) (by rfl) (by rfl) ?_
        refine ⟨false, congrArg V.bl (by decide +kernel), iteF ?_⟩
        walk_at "w"
        refine iteD (fun h => absurd h (by show ¬ ((4 : Int) < 2); decide)) (fun _ => ?_)
        walk_at "w"
        refine w_remSfx lm ?_
        rw [show Txt.removesuffix (n ++ mark o) (Str.ofString "?") = n from suffix_mark hn n1 o]
        walk_at "w"
        refine ⟨.str n, .str n, rfl, .str n, fun z e => by cases e; omega, ?_⟩
        rw [show strD lettersB (.str n) = true from low_letters hn n1]
        walk_at "w"
        refine iteD (fun _ => ?_) (fun h => absurd rfl h)
        walk_at "w"
        rw [om]
        exact ⟨n, o, p, t, none, "link", n ++ mark o, rfl, hp2, low_letters ht t1, by omega, hl, fun v H' e hv => k v H' (e2.trans e) hv⟩
      | some l =>
        have hp : SqL K H p [.str "link", .str (n ++ mark o), .str "to", .str t, .str "as", .str l] := hp
        walk_at "w"
        intro S1 hS1
        have e1 : Ex H (upd H S1 (.tup [.str "flag", .str "number"])) := Ex.new hS1
        have fS1 : (upd H S1 (.tup [.str "flag", .str "number"])) S1 = some (.tup [.str "flag", .str "number"]) := upd_same
        generalize (upd H S1 (.tup [.str "flag", .str "number"])) = H1 at e1 fS1 ⊢
        have hp1 := Evl.ex_l e1 hp
        refine w_inT (SqT.of fS1) (by rfl) (by rfl) ?_
        refine ⟨false, congrArg V.bl (by decide +kernel), iteF ?_⟩
        walk_at "w"
        intro S2 hS2
        have e2 : Ex H (upd H1 S2 (.tup [.str "word", .str "link"])) := e1.trans (Ex.new hS2)
        have fS2 : (upd H1 S2 (.tup [.str "word", .str "link"])) S2 = some (.tup [.str "word", .str "link"]) := upd_same
        generalize (upd H1 S2 (.tup [.str "word", .str "link"])) = H2 at e2 fS2 ⊢
        have hp2 := Evl.ex_l e2 hp
        refine w_inT (SqT.of fS2) (by rfl) (by rfl) ?_
        refine ⟨false, congrArg V.bl (by decide +kernel), iteF ?_⟩
        walk_at "w"
        refine iteD (fun h => absurd h (by show ¬ ((6 : Int) < 2); decide)) (fun _ => ?_)
        walk_at "w"
        refine w_remSfx lm ?_
        rw [show Txt.removesuffix (n ++ mark o) (Str.ofString "?") = n from suffix_mark hn n1 o]
        walk_at "w"
        refine ⟨.str n, .str n, rfl, .str n, fun z e => by cases e; omega, ?_⟩
        rw [show strD lettersB (.str n) = true from low_letters hn n1]
        walk_at "w"
        refine iteD (fun _ => ?_) (fun h => absurd rfl h)
        walk_at "w"
        rw [om]
        exact ⟨n, o, p, t, some l, "link", n ++ mark o, rfl, hp2, low_letters ht t1, by omega, hl, fun v H' e hv => k v H' (e2.trans e) hv⟩
end
end LP
namespace LP
open PySem L2
open Evl (Ex)
def spReadLines : Sp := fun vs H Q _ => ∃ (u : Str) (ts : Tabs), vs = [.str (Txt.join (sz "\n") (linesOf u ts))] ∧ GoodTabs ts ∧ u ∈ ts.map (·.1) ∧ ts.length ≤ 6 ∧ ∀ (T q : Addr) (H' : Hp), Ex H H' → H' T = some (.tup [.str u, .ref q]) → TabsAt H' q ts → Q (.ref T) H'
def LineAt (H : Hp) (v : V) (ws : List Str) : Prop := ∃ a, v = .ref a ∧ H a = some (.lst (ws.map V.str))
theorem LineAt.ext {H H' : Hp} {v : V} {ws : List Str} (e : Ex H H') (h : LineAt H v ws) : LineAt H' v ws := by
  obtain ⟨a, ev, ha⟩ := h
  exact ⟨a, ev, e _ _ ha⟩
/-- .. apart from another list -/
def LineX (L : Addr) (H : Hp) (v : V) (ws : List Str) : Prop := ∃ a, v = .ref a ∧ a ≠ L ∧ H a = some (.lst (ws.map V.str))
theorem LineX.ext {L : Addr} {H H' : Hp} {v : V} {ws : List Str} (e : Ex H H') (h : LineX L H v ws) : LineX L H' v ws := by
  obtain ⟨a, ev, n, ha⟩ := h
  exact ⟨a, ev, n, e _ _ ha⟩
theorem LineX.put {L : Addr} {H : Hp} {v : V} {ws : List Str} {o : HO} (h : LineX L H v ws) : LineX L (upd H L o) v ws := by
  obtain ⟨a, ev, n, ha⟩ := h
  exact ⟨a, ev, n, by rw [upd_ne n]; exact ha⟩
theorem LineX.at {L : Addr} {H : Hp} {v : V} {ws : List Str} (h : LineX L H v ws) : LineAt H v ws := by
  obtain ⟨a, ev, n, ha⟩ := h
  exact ⟨a, ev, ha⟩
/-- a table that is read, its list apart from two others -/
def RdTab (H : Hp) (q pl : Addr) (v : V) (t : Str × List Col) : Prop := ∃ a p, v = .ref a ∧ H a = some (.tup [.str t.1, .ref p]) ∧ ColsAt H p t.2 ∧ p ≠ q ∧ p ≠ pl
def RdTabs (H2 H : Hp) (q : Addr) (qs : List V) (tp : Tabs) : Prop := (tp = [] ∧ qs = []) ∨ ∃ td n ci qd a pl cvs, tp = td ++ [(n, ci)] ∧ qs = qd ++ [V.ref a] ∧ H a = some (.tup [.str n, .ref pl]) ∧ H pl = some (.lst cvs) ∧ ColsV H cvs ci ∧ H2 pl = none ∧ pl ≠ q ∧ Paired (RdTab H q pl) qd td
theorem RdTab.tab {H : Hp} {q pl : Addr} {v : V} {t : Str × List Col} (h : RdTab H q pl v t) : TabAt H v t := by
  obtain ⟨a, p, ev, ha, hc, _⟩ := h
  exact ⟨a, p, ev, ha, hc⟩
theorem RdTab.ext {H H' : Hp} {q pl : Addr} {v : V} {t : Str × List Col} (e : Ex H H') (h : RdTab H q pl v t) : RdTab H' q pl v t := by
  obtain ⟨a, p, ev, ha, hc, n⟩ := h
  exact ⟨a, p, ev, e _ _ ha, hc.ext e, n⟩
/-- a list apart changes -/
theorem RdTab.put {H : Hp} {q pl x : Addr} {v : V} {t : Str × List Col} {xs : List V} {o : HO} (hx : H x = some (.lst xs)) (n : x = q ∨ x = pl) (h : RdTab H q pl v t) : RdTab (upd H x o) q pl v t := by
  obtain ⟨a, p, ev, ha, ⟨vs, hp, hv⟩, n1, n2⟩ := h
  have np : p ≠ x := by rcases n with rfl | rfl <;> assumption
  exact ⟨a, p, ev, by rw [upd_ne (ne_of ha hx (by intro z; cases z))]; exact ha, ⟨vs, by rw [upd_ne np]; exact hp, hv.upd hx⟩, n1, n2⟩
theorem RdTabs.tabs {H2 H : Hp} {q : Addr} {qs : List V} {tp : Tabs} (h : RdTabs H2 H q qs tp) : TabsV H qs tp := by
  rcases h with ⟨rfl, rfl⟩ | ⟨td, n, ci, qd, a, pl, cvs, rfl, rfl, ha, hp, hc, _, _, hd⟩
  · exact .nil
  · exact paired_app (paired_imp (fun _ _ h => h.tab) hd) (.cons ⟨a, pl, rfl, ha, cvs, hp, hc⟩ .nil)
theorem RdTabs.ext {H2 H H' : Hp} {q : Addr} {qs : List V} {tp : Tabs} (e : Ex H H') (h : RdTabs H2 H q qs tp) : RdTabs H2 H' q qs tp := by
  rcases h with h | ⟨td, n, ci, qd, a, pl, cvs, e1, e2, ha, hp, hc, n1, n2, hd⟩
  · exact .inl h
  · exact .inr ⟨td, n, ci, qd, a, pl, cvs, e1, e2, e _ _ ha, e _ _ hp, hc.ext e, n1, n2, paired_imp (fun _ _ h => h.ext e) hd⟩
/-- a table comes in -/
theorem RdTabs.new {H2 H H' : Hp} {q : Addr} {qs : List V} {tp : Tabs} {T p : Addr} {n : Str} (h : RdTabs H2 H q qs tp) (hq : H q = some (.lst qs)) (e : Ex H H') (hp0 : H p = none) (hT : H' T = some (.tup [.str n, .ref p])) (hp : H' p = some (.lst [])) (h2 : H2 p = none) :
    RdTabs H2 (upd H' q (.lst (qs ++ [.ref T]))) q (qs ++ [.ref T]) (tp ++ [(n, [])]) := by
  have np : p ≠ q := fun z => by rw [z, hq] at hp0; cases hp0
  have hq' := e _ _ hq
  have old : Paired (RdTab H q p) qs tp := by
    have far : ∀ {x : Addr} {vs : List V}, H x = some (.lst vs) → x ≠ p := fun hx z => by rw [z, hp0] at hx; cases hx
    rcases h with ⟨rfl, rfl⟩ | ⟨td, m, ci, qd, a, pl, cvs, rfl, rfl, ha, hpl, hc, _, n2, hd⟩
    · exact .nil
    · refine paired_app (paired_imp (fun v t h => ?_) hd) (.cons ⟨a, pl, rfl, ha, ⟨cvs, hpl, hc⟩, n2, far hpl⟩ .nil)
      obtain ⟨a, p', ev, ha, ⟨vs, hp', hv⟩, n1, _⟩ := h
      exact ⟨a, p', ev, ha, ⟨vs, hp', hv⟩, n1, far hp'⟩
  exact .inr ⟨tp, n, [], qs, T, p, [], rfl, rfl, by rw [upd_ne (ne_of hT hq' (by intro z; cases z))]; exact hT, by rw [upd_ne np]; exact hp, .nil, h2, np, paired_imp (fun _ _ h => (h.ext e).put hq' (.inl rfl)) old⟩
/-- a column comes in -/
theorem RdTabs.add {H2 H : Hp} {q : Addr} {qs : List V} {td : Tabs} {n : Str} {ci : List Col} (h : RdTabs H2 H q qs (td ++ [(n, ci)])) (hq : H q = some (.lst qs)) :
    ∃ qd a pl cvs, qs = qd ++ [V.ref a] ∧ H a = some (.tup [.str n, .ref pl]) ∧ H pl = some (.lst cvs) ∧ cvs.length = ci.length ∧ H2 pl = none ∧ pl ≠ q ∧
      ∀ (H' : Hp) (v : V) (c : Col), Ex H H' → ColAt H' v c → RdTabs H2 (upd H' pl (.lst (cvs ++ [v]))) q qs (td ++ [(n, ci ++ [c])]) := by
  rcases h with ⟨e, _⟩ | ⟨td', n', ci', qd, a, pl, cvs, e, rfl, ha, hp, hc, h2, np, hd⟩
  · exact absurd (congrArg List.length e) (by simp)
  · obtain ⟨rfl, e2⟩ := List.append_inj' e rfl
    cases e2
    refine ⟨qd, a, pl, cvs, rfl, ha, hp, paired_len hc, h2, np, fun H' v c e hv => ?_⟩
    have hp' := e _ _ hp
    have ha' := e _ _ ha
    refine .inr ⟨td, n, ci ++ [c], qd, a, pl, cvs ++ [v], rfl, rfl, by rw [upd_ne (ne_of ha' hp' (by intro z; cases z))]; exact ha', upd_same, paired_app (ColsV.upd hp' (ColsV.ext e hc)) (.cons (ColAt.upd hp' hv) .nil), h2, np, paired_imp (fun _ _ h => (h.ext e).put hp' (.inr rfl)) hd⟩
theorem join_len (y : Str) : ∀ ws : List Str, (Txt.join y ws).length ≤ (ws.map (·.length)).sum + ws.length * y.length := by
  have key : ∀ ws : List Str, (TL.joinL (TL.tl y) (ws.map TL.tl)).length ≤ (ws.map (·.length)).sum + ws.length * y.length := fun ws => by
    induction ws with
    | nil => exact Nat.zero_le _
    | cons w r ih =>
      cases r with
      | nil =>
        show (TL.tl w).length ≤ w.length + 0 + 1 * y.length
        rw [← TL.len_tl]; omega
      | cons z r =>
        rw [List.map_cons, List.map_cons, joinL3, List.length_append, List.length_append, ← TL.len_tl, ← TL.len_tl, List.map_cons, List.sum_cons, List.length_cons, Nat.add_mul]
        rw [List.map_cons] at ih
        omega
  intro ws
  rw [TL.len_tl, tl_join]
  exact key ws
theorem lines_small {u : Str} {ts : Tabs} (hu : u.length ≤ 1000) (g : GoodTabs ts) (l6 : ts.length ≤ 6) : (∀ x ∈ linesOf u ts, x.length ≤ 3100) ∧ (linesOf u ts).length ≤ 127 ∧ ((linesOf u ts).map (·.length)).sum + (linesOf u ts).length * 1 ≤ 400000 := by
  have sz6 := good_sz g
  have a : ∀ x ∈ linesOf u ts, x.length ≤ 3100 := fun x hx => by
    unfold linesOf at hx
    rcases List.mem_cons.1 hx with rfl | hx
    · simp only [len_cat, show Str.empty.length = 0 from rfl, show (sz "user ").length = 5 by decide]
      omega
    · obtain ⟨t, ht, hx⟩ := List.mem_flatMap.mp hx
      unfold tabLines at hx
      rcases List.mem_cons.1 hx with rfl | hx
      · have := (sz6 t ht).n
        simp only [len_cat, show Str.empty.length = 0 from rfl, show (sz "table ").length = 6 by decide]
        omega
      · obtain ⟨c, hc, rfl⟩ := List.mem_map.mp hx
        exact Col.line_len ((sz6 t ht).c c hc)
  have b := lines_len sz6
  have c : ((linesOf u ts).map fun x => x.length).sum ≤ 3100 * (linesOf u ts).length := sum_le a
  have c' : ((linesOf u ts).map Str.length).sum = ((linesOf u ts).map fun x => x.length).sum := rfl
  have d : (linesOf u ts).length = (ts.flatMap tabLines).length + 1 := by unfold linesOf; rw [List.length_cons]
  exact ⟨a, by omega, by omega⟩
theorem w_slL4 {K : PySem.W.Frag} {H : Hp} {p : Addr} {xs : List V} {lo hi : Option Int} {Q : VK} (h : SqL K H p xs) (q : ∀ l, H l = none → Q (.ref l) (upd H l (.lst (cutV xs lo hi)))) : rSlL K (.ref p) lo hi H Q := ⟨p, xs, rfl, h, q⟩
theorem cut_tail (v : V) (r : List V) : cutV (v :: r) (some 1) none = r := by
  have e1 : HT.sIx (v :: r).length 0 (some 1) = 1 := by
    have z := HT.sIx_nat (v :: r).length 0 1
    rw [List.length_cons, Nat.min_eq_left (by omega)] at z
    exact z
  unfold cutV
  rw [e1, HT.sIx_none, List.drop_succ_cons, List.drop_zero, List.length_cons, Nat.add_sub_cancel, List.take_length]
theorem headB_col (c : Col) : headB "table" (colWords c) = false := by
  cases c with
  | plain f n =>
    cases f with
    | true => show (decide (("flag" : Str) = "table") && lettersB n) = false; rw [show decide (("flag" : Str) = "table") = false by decide +kernel]; rfl
    | false => show (decide (("number" : Str) = "table") && lettersB n) = false; rw [show decide (("number" : Str) = "table") = false by decide +kernel]; rfl
  | word n o => show (decide (("word" : Str) = "table") && lettersB (n ++ mark o)) = false; rw [show decide (("word" : Str) = "table") = false by decide +kernel]; rfl
  | link n t o l => cases l <;> rfl
theorem headB_two {w x : Str} (h : lettersB x = true) : headB w [w, x] = true := by
  show (decide (w = w) && lettersB x) = true
  rw [h, decide_eq_true rfl]
  rfl
section
variable {base : Heap} {mg : Str → Option Value} {K : PySem.W.Frag} {w : World} {P : Program}
theorem ok_read_lines {f : Addr} {fd : FuncData} (D : C8.Def K mg "read_lines" s_read_lines f fd) (b : Binds K fd ["text"] []) (B : Blt mg)
    (c__is_head : C8.Cal P w K mg base 2 "_is_head" (spHead K) []) (c__read_column : C8.Cal P w K mg base 3 "_read_column" (spReadCol K) []) : C8.Cal P w K mg base 4 "read_lines" spReadLines [] := by
  have sc : FnScope ["text", "lines", "line", "tables", "at", "words", "column"] ["text"] (C8.fnScope s_read_lines) := C8.fnScope_by (by decide +kernel)
  refine C8.cal0 D b .nil sc (fun vs H Q E h => ?_) (fun cdv A outer s H vs Q E hr h => ?_)
  · obtain ⟨_, _, rfl, _⟩ := h
    rfl
  · obtain ⟨u, ts, rfl, hG, hu, l6, k⟩ := h
    refine ⟨_, (pss_cons (ps_if (pt_not (pt_val (pe_callB (call_isiK1 (K := K) rfl) (by rfl) B.isinstance_ (by decide +kernel) (pa_cons (pv 0) (pa_cons (pe_bltn (v := .ty "str") (u := .type "str") (by rfl) B.str_ (by decide +kernel) rfl) pa_nil)))))
        (pss_one ps_never)
        pss_nil)
        (pss_cons (ps_setLc (i := 1) (own := [("line", 2)]) (g := (gName 2)) (by rfl) sc.nd rfl rfl (sw_true rfl rfl rfl (by decide +kernel)) (pi_listK (K := K) rfl (pe_split' (pv 0) pe_str)) (blkOk_by (own := [("line", 2)]) (N := ["text", "lines", "line", "tables", "at", "words", "column"]) (sc := C8.fnScope s_read_lines) (by decide +kernel)) (fun _ _ _ _ _ => (pg_name (i := 2) sc.nd rfl (Or.inl rfl))) (fun _ _ _ _ _ => pts_nil) (fun _ _ _ _ _ => (pe_split' (pv 2) pe_str)))
        (pss_cons (ps_if (pt_not (pt_val (C8.pe_c c__is_head hr (by decide) rfl (pa_cons pe_str (pa_cons (pe_ix (ix_listK (K := K) rfl) (pv 1) pe_int (fun _ _ => rfl)) pa_nil)))))
        (pss_one ps_never)
        pss_nil)
        (pss_cons (ps_set (i := 3) sc.nd rfl (Or.inl rfl) (pe_lst pa_nil))
        (pss_cons (ps_for PassesOwn.never rfl (pi_enumkK (K := K) rfl (by rfl) B.enumerate_ (pa_cons (pe_slice (sl_listK (K := K) rfl) (pv 1) (po_some pe_int) po_none) pa_nil) pe_int) (pg_tupK (K := K) (n := 2) rfl rfl (pgs_cons (pg_name (i := 4) sc.nd rfl (Or.inl rfl)) (pgs_cons (pg_name (i := 5) sc.nd rfl (Or.inl rfl)) pgs_nil)))
        (pss_cons (ps_if (pt_val (C8.pe_c c__is_head hr (by decide) rfl (pa_cons pe_str (pa_cons (pv 5) pa_nil))))
        (pss_cons (ps_expr (pe_bmK (K := K) rfl PySem.F.plainAttrs_list PySem.F.slot_list_append PySem.F.type_list_append mt_append (pv 3) (pa_cons (pe_tup (pa_cons (pe_ix (ix_listK (K := K) rfl) (pv 5) pe_int (fun _ _ => rfl)) (pa_cons (pe_lst pa_nil) pa_nil))) pa_nil)))
        (pss_one ps_continue))
        pss_nil)
        (pss_cons (ps_set (i := 6) sc.nd rfl (Or.inl rfl) (C8.pe_c c__read_column hr (by decide) rfl (pa_cons (pv 5) pa_nil)))
        (pss_cons (ps_if (PW.pt (pw_or (pt_cmpR op_isN' (pv 6) pe_non (nomark _)) (pw_or1 (pt_not (pt_truthK (K := K) rfl (pv 3))))))
        (pss_one ps_never)
        pss_nil)
        (pss_one (ps_expr (pe_bmK (K := K) rfl PySem.F.plainAttrs_list PySem.F.slot_list_append PySem.F.type_list_append mt_append (pe_ix (ix_tupK (K := K) rfl) (pe_ix (ix_listK (K := K) rfl) (pv 3) (pe_un un_neg pe_int) (fun _ _ => rfl)) pe_int (fun _ _ => rfl)) (pa_cons (pv 6) pa_nil))))))))
        (pss_one (ps_ret (pe_tup (pa_cons (pe_ix (ix_listK (K := K) rfl) (pe_ix (ix_listK (K := K) rfl) (pv 1) pe_int (fun _ _ => rfl)) pe_int (fun _ _ => rfl)) (pa_cons (pv 3) pa_nil)))))))))), ?_⟩
    walk_at "w"
    refine w_isStr (.str _) ?_
    unfold isStrD
    walk_at "w"
    have lu : u.length ≤ 8 := by
      obtain ⟨t, ht, e⟩ := List.mem_map.mp hu
      rw [← e]
      exact (hG.names t ht).1.2.1
    have ul : lettersB u = true := by
      obtain ⟨t, ht, e⟩ := List.mem_map.mp hu
      rw [← e]
      exact low_letters (hG.names t ht).1.2.2 (hG.names t ht).1.1
    have tl := join_len (sz "\n") (linesOf u ts)
    obtain ⟨xs1, xs2, xs3⟩ := lines_small (u := u) (by omega) hG l6
    have al := all_ok hG hu
    have ll2 : (linesOf u ts).length = (allWords u ts).length := by rw [lines_words, List.length_map]
    refine w_split (by decide) (by rw [show (sz "\n").length = 1 by decide] at tl; unfold sizeLine; omega) fun p hp => ?_
    have e0 : Ex H (upd H p (.lst ((Txt.split (Txt.join (sz "\n") (linesOf u ts)) (Str.ofString "\n")).map V.str))) := Ex.new hp
    rw [show Txt.split (Txt.join (sz "\n") (linesOf u ts)) (Str.ofString "\n") = (allWords u ts).map (Txt.join (sz " ")) from split_text hG hu] at e0 ⊢
    have fp : (upd H p (.lst (((allWords u ts).map (Txt.join (sz " "))).map V.str))) p = some (.lst (((allWords u ts).map (Txt.join (sz " "))).map V.str)) := upd_same
    generalize (upd H p (.lst (((allWords u ts).map (Txt.join (sz " "))).map V.str))) = H1 at e0 fp ⊢
    walk_at "w"
    intro L hL
    refine compL (xs := ((allWords u ts).map (Txt.join (sz " "))).map V.str) (fun d r got H' => Ex H1 H' ∧ ∃ md mr, allWords u ts = md ++ mr ∧ r = (mr.map (Txt.join (sz " "))).map V.str ∧ Paired (LineX L H') got md) (by rw [List.length_map, List.length_map]; omega) ⟨Ex.new hL, [], _, rfl, rfl, .nil⟩ (fun d r got H' _ h => SqL.of (h.1 _ _ fp)) (fun d y r got H' hd hat hgl h kk kn hk hkn => ?_) (fun got H2 hat hgl h => ?_)
    · obtain ⟨e', md, mr, ew, er, hg⟩ := h
      cases mr with
      | nil => cases er
      | cons ws mr =>
        rw [List.map_cons, List.map_cons] at er
        injection er with er1 er2
        subst er1
        have wok := al ws (by rw [ew]; simp)
        have wl : (Txt.join (sz " ") ws).length ≤ 3100 := xs1 _ (by rw [lines_words, ew]; simp)
        walk_at "w"
        refine w_split (by decide) (by unfold sizeLine; omega) fun p2 hp2 => ?_
        rw [show Txt.split (Txt.join (sz " ") ws) (Str.ofString " ") = ws from split_line wok.1 wok.2]
        have e2 : Ex H' (upd H' p2 (.lst (ws.map V.str))) := Ex.new hp2
        have hat2 := e2 _ _ hat
        refine hk _ _ hat2 ⟨fun a o h => by rw [upd_ne (ne_of_none h hL)]; exact e2 _ _ (e' _ _ h), md ++ [ws], mr, by rw [ew, List.append_assoc]; rfl, er2, ?_⟩
        have np : p2 ≠ L := fun z => by rw [z, hat] at hp2; cases hp2
        exact paired_app (paired_imp (fun _ _ h => (LineX.ext e2 h).put) hg) (.cons (LineX.put ⟨p2, rfl, np, upd_same⟩) .nil)
    · obtain ⟨e', md, mr, ew, er, hg⟩ := h
      cases mr with
      | cons x r => cases er
      | nil =>
      rw [List.append_nil] at ew
      subst ew
      have lg := paired_len hg
      obtain ⟨v0, gr, ⟨a0, rfl, n0, ha0⟩, hgr, rfl⟩ : ∃ v0 gr, LineX L H2 v0 [("user" : Str), u] ∧ Paired (LineX L H2) gr (ts.flatMap tabWords) ∧ got = v0 :: gr := by
        unfold allWords at hg
        cases hg with
        | cons h r => exact ⟨_, _, h, r, rfl⟩
      have ha0 : H2 a0 = some (.lst (([("user" : Str), u] : List Str).map V.str)) := ha0
      have kl : ("user" : Str).length ≤ 4000 := by decide
      have hhu := headB_two (w := "user") ul
      walk_at "w"
      refine w_ixL (SqL.of hat) (v := .ref a0) (atI_nat (j := 0) rfl) ?_
      walk_at "w"
      refine ⟨_, a0, [("user" : Str), u], rfl, SqL.of ha0, by show 2 ≤ 1000; omega, fun x hx => ?_, ?_⟩
      · rcases List.mem_cons.1 hx with rfl | hx
        · exact kl
        · rw [List.mem_singleton.1 hx]; omega
      rw [hhu]
      refine ⟨true, rfl, iteNT ?_⟩
      walk_at "w"
      intro q hq
      have e3 : Ex H2 (upd H2 q (.lst [])) := Ex.new hq
      have fq : (upd H2 q (.lst [])) q = some (.lst []) := upd_same
      generalize (upd H2 q (.lst [])) = H3 at e3 fq ⊢
      have hat3 := e3 _ _ hat
      walk_at "w"
      refine w_slL4 (SqL.of hat3) fun l hl => ?_
      rw [cut_tail]
      have e4 : Ex H3 (upd H3 l (.lst gr)) := Ex.new hl
      have fl : (upd H3 l (.lst gr)) l = some (.lst gr) := upd_same
      generalize (upd H3 l (.lst gr)) = H4 at e4 fl ⊢
      have hq4 := e4 _ _ fq
      have nlq : l ≠ q := fun z => by rw [z, fq] at hl; cases hl
      walk_at "w"
      have q2 : H2 q = none := hq
      have e1' : Ex H H2 := e0.trans e'
      have gr4 : Paired (LineX q H4) gr (ts.flatMap tabWords) := paired_imp (fun v ws h => by
        obtain ⟨a, ev, n, ha⟩ := h
        exact ⟨a, ev, (fun z => by rw [z, q2] at ha; cases ha), e4 _ _ (e3 _ _ ha)⟩) hgr
      refine loopEk (xs := gr) (fun d r σ' H' => ExO [q] H4 H' ∧ ∃ tp ws, Paired (LineX q H4) r ws ∧ Left ts tp ws ∧ ∃ y2 x4 x5 x6 qs, σ' = [some (.str (Txt.join (sz "\n") (linesOf u ts))), some (.ref L), y2, some (.ref q), x4, x5, x6] ∧ H' q = some (.lst qs) ∧ qs.length + r.length ≤ 126 ∧ (∀ t ∈ tp, t.2.length + r.length ≤ 126) ∧ RdTabs H4 H' q qs tp)
        ⟨ExO.refl, [], _, gr4, .inl ⟨rfl, rfl⟩, none, none, none, none, [], rfl, hq4, by rw [List.length_nil, Nat.zero_add]; rw [List.length_cons] at lg; omega, fun t h => (nomatch h), .inl ⟨rfl, rfl⟩⟩ (fun d r σ' H' _ h => SqL.of (h.1 _ _ fl (by simpa using nlq))) (fun d y r σ' H' T hd hT h => ?_) (fun σ' H' h => ?_)
      · obtain ⟨e', tp, ws, pr, le, y2, x4, x5, x6, qs, rfl, hq', lq, lc, rt⟩ := h
        obtain ⟨wd, ws1, rfl, ⟨a, rfl, na, ha⟩, pr1⟩ := paired_cons pr
        have eT : Ex H' (upd H' T (.tup [.int (1 + (d.length : Nat)), .ref a])) := Ex.new hT
        have fT : (upd H' T (.tup [.int (1 + (d.length : Nat)), .ref a])) T = some (.tup [.int (1 + (d.length : Nat)), .ref a]) := upd_same
        generalize (upd H' T (.tup [.int (1 + (d.length : Nat)), .ref a])) = H5 at eT fT ⊢
        have ha5 := eT _ _ (e' _ _ ha (by simpa using na))
        have hq5 := eT _ _ hq'
        have rt5 := rt.ext eT
        have e45 : ExO [q] H4 H5 := e'.trans (.of eT)
        rw [List.length_cons] at lq
        have new4 : ∀ {H6 : Hp} {x : Addr}, ExO [q] H4 H6 → H6 q ≠ none → H6 x = none → H4 x = none := fun {H6 x} e n hx => by
          cases h : H4 x with
          | none => rfl
          | some o =>
            by_cases z : x = q
            · rw [z] at hx; exact absurd hx n
            · have := e _ _ h (by simpa using z)
              rw [hx] at this; cases this
        walk_at "w"
        rcases left_step le with ⟨n, rfl, hn, le1⟩ | ⟨td, n, ci, c, rfl, rfl, ⟨t, ht, hc⟩, le1⟩
        · obtain ⟨tn, htn, etn⟩ := List.mem_map.mp hn
          have okn := hG.names tn htn
          rw [etn] at okn
          have kt : ("table" : Str).length ≤ 4000 := by decide
          have ha5 : H5 a = some (.lst [.str "table", .str n]) := ha5
          refine ⟨_, a, [("table" : Str), n], rfl, SqL.of ha5, by show 2 ≤ 1000; omega, fun x hx => ?_, ?_⟩
          · rcases List.mem_cons.1 hx with rfl | hx
            · exact kt
            · rw [List.mem_singleton.1 hx]; exact Nat.le_trans okn.1.2.1 (by decide)
          rw [headB_two (low_letters okn.1.2.2 okn.1.1)]
          refine ⟨true, rfl, iteT ?_⟩
          walk_at "w"
          intro p hp
          have e6 : Ex H5 (upd H5 p (.lst [])) := Ex.new hp
          have fp6 : (upd H5 p (.lst [])) p = some (.lst []) := upd_same
          generalize (upd H5 p (.lst [])) = H6 at e6 fp6 ⊢
          walk_at "w"
          intro T2 hT2
          have e7 : Ex H6 (upd H6 T2 (.tup [.str n, .ref p])) := Ex.new hT2
          have fT7 : (upd H6 T2 (.tup [.str n, .ref p])) T2 = some (.tup [.str n, .ref p]) := upd_same
          generalize (upd H6 T2 (.tup [.str n, .ref p])) = H7 at e7 fT7 ⊢
          have hq7 := e7 _ _ (e6 _ _ hq5)
          walk_at "w"
          have p4 : H4 p = none := new4 e45 (by rw [hq5]; intro z; cases z) hp
          exact ⟨(e45.trans ((ExO.of e6).trans (.of e7))).put List.mem_cons_self, _, _, pr1, le1, _, _, _, _, _, rfl, upd_same, by rw [List.length_append, List.length_singleton]; omega, fun t ht => by
            rcases List.mem_append.1 ht with ht | ht
            · have := lc t ht
              rw [List.length_cons] at this
              omega
            · rw [List.mem_singleton.1 ht]
              show 0 + r.length ≤ 126
              omega, rt5.new hq5 (e6.trans e7) hp fT7 (e7 _ _ fp6) p4⟩
        · have cl := good_low hG t ht c hc
          have wl := words_len cl
          refine ⟨_, a, colWords c, rfl, SqL.of ha5, by omega, wl.2, ?_⟩
          rw [headB_col]
          refine ⟨false, rfl, iteF ?_⟩
          walk_at "w"
          refine ⟨a, c, rfl, SqL.of ha5, cl, fun v H6 e6 hv => ?_⟩
          have hq6 := e6 _ _ hq5
          obtain ⟨qd, at_, pl, cvs, rfl, hat_, hpl, lcv, pl4, npl, add⟩ := rt5.add hq5
          have hat6 := e6 _ _ hat_
          have hpl6 := e6 _ _ hpl
          have lcd := lc (n, ci) (by simp)
          rw [List.length_cons] at lcd
          obtain ⟨cv, rfl, hcv⟩ := id hv
          walk_at "w"
          refine iteD (fun h => absurd h (by intro z; cases z)) (fun _ => ?_)
          walk_at "w"
          rw [show (!(qd ++ [V.ref at_]).isEmpty) = true by simp]
          refine iteNT ?_
          walk_at "w"
          refine w_ixL (SqL.of hq6) (L2.atI_last qd _) ?_
          walk_at "w"
          have lcd : ci.length + (r.length + 1) ≤ 126 := lcd
          refine w_app hpl6 (by unfold sizeLine; omega) ?_
          refine ⟨(e45.trans (.of e6)).mut pl4, _, _, pr1, le1, _, _, _, _, _, rfl, by rw [upd_ne (Ne.symm npl)]; exact hq6, by omega, fun t ht => ?_, add _ _ c e6 hv⟩
          rcases List.mem_append.1 ht with ht | ht
          · have := lc t (List.mem_append.mpr (.inl ht))
            rw [List.length_cons] at this
            omega
          · rw [List.mem_singleton.1 ht]
            show (ci ++ [c]).length + r.length ≤ 126
            rw [List.length_append,
                    List.length_singleton]
            omega
      · obtain ⟨e', tp, ws, pr, le, y2, x4, x5, x6, qs, rfl, hq', lq, lc, rt⟩ := h
        cases pr
        have etp := left_end le
        subst etp
        have hL' := e' _ _ (e4 _ _ hat3) (by intro z; rw [List.mem_singleton.1 z, q2] at hat; cases hat)
        have ha0' := e' _ _ (e4 _ _ (e3 _ _ ha0)) (by intro z; rw [List.mem_singleton.1 z, q2] at ha0; cases ha0)
        walk_at "w"
        refine w_ixL (SqL.of hL') (v := .ref a0) (atI_nat (j := 0) rfl) ?_
        walk_at "w"
        intro T hT
        have eH : Ex H H' := fun x o h => e' _ _ (e4 _ _ (e3 _ _ (e1' _ _ h))) (by intro z; rw [List.mem_singleton.1 z] at h; rw [e1' _ _ h] at q2; cases q2)
        exact k T q _ (eH.trans (Ex.new hT)) upd_same ⟨qs, (Ex.new hT) _ _ hq', rt.tabs.ext (Ex.new hT)⟩
end
end LP
namespace LP
open PySem L2
open Evl (Ex)
def spRead (C : Addr) : Sp := fun vs H Q _ => ∃ (u : Str) (ts : Tabs), vs = [.ref C, .str (Txt.join (sz "\n") (linesOf u ts))] ∧ GoodTabs ts ∧ 1 ≤ ts.length ∧ ts.length ≤ 6 ∧ u ∈ ts.map (·.1) ∧ ∀ (x : Addr) (H' : Hp), Ex H H' → SchAt C H' x u ts → Q (.ref x) H'
section
variable {base : Heap} {mg : Str → Option Value} {K : PySem.W.Frag} {w : World} {P : Program} {C ra : Addr}
theorem ok_read {f : Addr} {fd : FuncData} (S : SchC K C) (F : C8.Fun K "read" "Schema.read" s_Schema_read f fd) (B : Blt mg)
    (c_read_lines : C8.Cal P w K mg base 4 "read_lines" spReadLines []) (m_Schema : C8.Mak P w K mg base 7 "Schema" C (spInit C) []) : FnOk P w K mg base C8.CX0 9 f fd ["cls", "text"] (spRead C) := by
  have sc : FnScope ["cls", "text", "user", "tables"] ["cls", "text"] (C8.fnScope s_Schema_read) := C8.fnScope_by (by decide +kernel)
  refine C8.fn0 F sc (fun vs H Q E h => ?_) (fun cdv A outer s H vs Q E hr h => ?_)
  · obtain ⟨_, _, rfl, _⟩ := h
    rfl
  · obtain ⟨u, ts, rfl, hG, l1, l6, hu, k⟩ := h
    refine ⟨_, (pss_cons (ps_asg (C8.pe_c c_read_lines hr (by decide) rfl (pa_cons (pv 1) pa_nil)) (pg_tupK (K := K) (n := 2) rfl rfl (pgs_cons (pg_name (i := 2) sc.nd rfl (Or.inl rfl)) (pgs_cons (pg_name (i := 3) sc.nd rfl (Or.inl rfl)) pgs_nil))))
        (pss_one (ps_ret ((pe_mkL (i := 0) m_Schema hr (by decide) rfl (Or.inl rfl) (pa_cons (pv 2) (pa_cons (pv 3) pa_nil))))))), ?_⟩
    walk_at "w"
    refine ⟨u, ts, rfl, hG, hu, l6, fun T q H1 e1 hT ht => ?_⟩
    walk_at "w"
    intro z dz hz hdz hnz
    have eNz : Ex H1 (upd (upd H1 dz (.own z)) z (.ins C dz [])) := (Ex.new hdz).trans (Ex.new (by rw [upd_ne (Ne.symm hnz)]; exact hz))
    refine ⟨z, q, dz, u, ts, rfl, upd_same, ht.ext eNz, hG, l1, l6, hu, fun H2 hO hSz => ⟨rfl, ?_⟩⟩
    exact k z H2 (fun c o h => hO c o (eNz c o (e1 c o h)) fun w => by rw [List.mem_singleton.mp w] at h; rw [e1 _ _ h] at hz; cases hz) hSz
end
end LP
namespace LP
open PySem L2
open Evl (Ex)
def spWritten (K : PySem.W.Frag) : Sp := fun vs H Q _ => ∃ (u : Str) (p : Addr) (ts : Tabs), vs = [.str u, .ref p] ∧ TabsR K H p ts ∧ u.length ≤ 1000 ∧ ts.length ≤ 20 ∧ (∀ t ∈ ts, TabSz t) ∧ ∀ (q : Addr) (H' : Hp), H q = none → Ex H H' → H' q = some (.lst ((linesOf u ts).map V.str)) → Q (.ref q) H'
theorem empty_cat (x : Str) : Str.empty ++ x = x := TL.ext_tl (by rw [TL.tl_append, tl_sz.1, List.nil_append])
theorem user_line (u : Str) : Str.ofString "user " ++ u = (Str.empty ++ sz "user ") ++ u := by rw [empty_cat]; rfl
theorem table_line (u : Str) : Str.ofString "table " ++ u = (Str.empty ++ sz "table ") ++ u := by rw [empty_cat]; rfl
theorem linesOf_app (u : Str) (md : Tabs) (t : Str × List Col) : linesOf u (md ++ [t]) = linesOf u md ++ tabLines t := by
  unfold linesOf
  rw [List.flatMap_append, List.flatMap_cons, List.flatMap_nil, List.append_nil]
  rfl
theorem sz_more : TL.tl (sz "word ") = TL.tl ("word" : Str) ++ [32] ∧ TL.tl (sz "link ") = TL.tl ("link" : Str) ++ [32] := by decide +kernel
theorem law_plain (fl : Bool) (n : Str) : ((Col.plain fl n).kind ++ sz " ") ++ n = colLine (.plain fl n) := by
  obtain ⟨h0, h1, h2, h3, h4, h5, h6, h7⟩ := tl_sz
  refine TL.ext_tl ?_
  show TL.tl (((Col.plain fl n).kind ++ sz " ") ++ n) = TL.tl ((((Str.empty ++ (Col.plain fl n).kind) ++ sz " ") ++ n) ++ sz "")
  simp only [TL.tl_append, h0, h1, h6, List.nil_append, List.append_nil, List.append_assoc]
theorem law_word (n : Str) (o : Bool) : (sz "word " ++ n) ++ mark o = colLine (.word n o) := by
  obtain ⟨h0, h1, h2, h3, h4, h5, h6, h7⟩ := tl_sz
  refine TL.ext_tl ?_
  show TL.tl ((sz "word " ++ n) ++ mark o) = TL.tl ((((Str.empty ++ ("word" : Str)) ++ sz " ") ++ n) ++ mark o)
  simp only [TL.tl_append, h0, h1, sz_more.1, List.nil_append, List.append_assoc]
def asList : Option Str → Str
  | none => sz ""
  | some l => sz " as " ++ l
theorem law_link (n t : Str) (o : Bool) (l : Option Str) : ((((sz "link " ++ n) ++ mark o) ++ sz " to ") ++ t) ++ asList l = colLine (.link n t o l) := by
  obtain ⟨h0, h1, h2, h3, h4, h5, h6, h7⟩ := tl_sz
  refine TL.ext_tl ?_
  cases l with
  | none =>
    show TL.tl (((((sz "link " ++ n) ++ mark o) ++ sz " to ") ++ t) ++ sz "") = TL.tl (((Str.empty ++ ((((Str.empty ++ ("link" : Str)) ++ sz " ") ++ n) ++ mark o)) ++ sz " to ") ++ t)
    simp only [TL.tl_append, h0, h1, h6, sz_more.2, List.nil_append, List.append_nil, List.append_assoc]
  | some l =>
    show TL.tl (((((sz "link " ++ n) ++ mark o) ++ sz " to ") ++ t) ++ (sz " as " ++ l)) = TL.tl (((Str.empty ++ (((Str.empty ++ ((((Str.empty ++ ("link" : Str)) ++ sz " ") ++ n) ++ mark o)) ++ sz " to ") ++ t)) ++ sz " as ") ++ l)
    simp only [TL.tl_append, h0, h1, sz_more.2, List.nil_append, List.append_assoc]
theorem sz_lens : (Str.ofString "user ").length = 5 ∧ (Str.ofString "table ").length = 6 ∧ (Str.ofString "word ").length = 5 ∧ (Str.ofString "link ").length = 5 ∧ (Str.ofString " to ").length = 4 ∧ (Str.ofString " as ").length = 4 ∧ (Str.ofString " ").length = 1 := by decide
section
variable {base : Heap} {mg : Str → Option Value} {K : PySem.W.Frag} {w : World} {P : Program}
theorem ok_written {f : Addr} {fd : FuncData} (D : C8.Def K mg "_law_written" s__law_written f fd) (b : Binds K fd ["user", "tables"] []) : C8.Cal P w K mg base 1 "_law_written" (spWritten K) [] := by
  have sc : FnScope ["user", "tables", "lines", "name", "columns", "column", "listed"] ["user", "tables"] (C8.fnScope s__law_written) := C8.fnScope_by (by decide +kernel)
  refine C8.cal0 D b .nil sc (fun vs H Q E h => ?_) (fun cdv A outer s H vs Q E hr h => ?_)
  · obtain ⟨_, _, _, rfl, _⟩ := h
    rfl
  · obtain ⟨u, p, ts, rfl, ⟨tvs, hp, ht⟩, lu, l20, sz_, k⟩ := h
    obtain ⟨y1, y2, y3, y4, y5, y6, y7⟩ := sz_lens
    refine ⟨_, (pss_cons (ps_set (i := 2) sc.nd rfl (Or.inl rfl) (pe_lst (pa_cons (pe_op op_add_str' pe_str (pv 0)) pa_nil)))
        (pss_cons (ps_for PassesOwn.never rfl (pi_listK (K := K) rfl (pv 1)) (pg_tupK (K := K) (n := 2) rfl rfl (pgs_cons (pg_name (i := 3) sc.nd rfl (Or.inl rfl)) (pgs_cons (pg_name (i := 4) sc.nd rfl (Or.inl rfl)) pgs_nil)))
        (pss_cons (ps_expr (pe_bmK (K := K) rfl PySem.F.plainAttrs_list PySem.F.slot_list_append PySem.F.type_list_append mt_append (pv 2) (pa_cons (pe_op op_add_str' pe_str (pv 3)) pa_nil)))
        (pss_one (ps_for PassesOwn.never rfl (pi_listK (K := K) rfl (pv 4)) (pg_name (i := 5) sc.nd rfl (Or.inl rfl))
        (pss_one (ps_if (pt_cmpR (op_in_seqK (K := K) rfl) (pe_ix (ix_tupK (K := K) rfl) (pv 5) pe_int (fun _ _ => rfl)) (pe_tup (pa_cons pe_str (pa_cons pe_str pa_nil))) (by rfl))
        (pss_one (ps_expr (pe_bmK (K := K) rfl PySem.F.plainAttrs_list PySem.F.slot_list_append PySem.F.type_list_append mt_append (pv 2) (pa_cons (pe_op op_add_str' (pe_op op_add_str' (pe_ix (ix_tupK (K := K) rfl) (pv 5) pe_int (fun _ _ => rfl)) pe_str) (pe_ix (ix_tupK (K := K) rfl) (pv 5) pe_int (fun _ _ => rfl))) pa_nil))))
        (pss_one (ps_if (pt_cmpR op_eq (pe_ix (ix_tupK (K := K) rfl) (pv 5) pe_int (fun _ _ => rfl)) pe_str (nomark _))
        (pss_one (ps_expr (pe_bmK (K := K) rfl PySem.F.plainAttrs_list PySem.F.slot_list_append PySem.F.type_list_append mt_append (pv 2) (pa_cons (pe_op op_add_str' (pe_op op_add_str' pe_str (pe_ix (ix_tupK (K := K) rfl) (pv 5) pe_int (fun _ _ => rfl))) (pe_ifExp (pt_val (pe_ix (ix_tupK (K := K) rfl) (pv 5) pe_int (fun _ _ => rfl))) pe_str pe_str)) pa_nil))))
        (pss_cons (ps_set (i := 6) sc.nd rfl (Or.inl rfl) (pe_ifExp (pt_cmpR op_isN' (pe_ix (ix_tupK (K := K) rfl) (pv 5) pe_int (fun _ _ => rfl)) pe_non (nomark _)) pe_str (pe_op op_add_str' pe_str (pe_ix (ix_tupK (K := K) rfl) (pv 5) pe_int (fun _ _ => rfl)))))
        (pss_one (ps_expr (pe_bmK (K := K) rfl PySem.F.plainAttrs_list PySem.F.slot_list_append PySem.F.type_list_append mt_append (pv 2) (pa_cons (pe_op op_add_str' (pe_op op_add_str' (pe_op op_add_str' (pe_op op_add_str' (pe_op op_add_str' pe_str (pe_ix (ix_tupK (K := K) rfl) (pv 5) pe_int (fun _ _ => rfl))) (pe_ifExp (pt_val (pe_ix (ix_tupK (K := K) rfl) (pv 5) pe_int (fun _ _ => rfl))) pe_str pe_str)) pe_str) (pe_ix (ix_tupK (K := K) rfl) (pv 5) pe_int (fun _ _ => rfl))) (pv 6)) pa_nil)))))))))))))
        (pss_one (ps_ret (pv 2))))), ?_⟩
    walk_at "w"
    rw [user_line]
    intro q hq
    have e1 : Ex H (upd H q (.lst [V.str ((Str.empty ++ sz "user ") ++ u)])) := Ex.new hq
    have fq : (upd H q (.lst [V.str ((Str.empty ++ sz "user ") ++ u)])) q = some (.lst ((linesOf u []).map V.str)) := upd_same
    generalize (upd H q (.lst [V.str ((Str.empty ++ sz "user ") ++ u)])) = H1 at e1 fq ⊢
    have hp1 := Evl.ex_l e1 hp
    have lt := paired_len ht
    have put : ∀ {H6 : Hp} {o : HO}, Ex H H6 → Ex H (upd H6 q o) := fun {H6 o} e b ob h => by rw [upd_ne (ne_of_none h hq)]; exact e _ _ h
    walk_at "w"
    refine loopL (xs := tvs) (fun d r σ' H' => Ex H H' ∧ ∃ md mr, ts = md ++ mr ∧ TabsV H r mr ∧ ∃ x3 x4 x5 x6, σ' = [some (.str u), some (.ref p), some (.ref q), x3, x4, x5, x6] ∧ H' q = some (.lst ((linesOf u md).map V.str)))
      ⟨e1, [], ts, rfl, ht, none, none, none, none, rfl, fq⟩ (fun d r σ' H' _ h => Evl.ex_l h.1 hp) (fun d y r σ' H' hd h => ?_) (fun σ' H' h => ?_)
    · obtain ⟨e', md, mr, ets, pr, x3, x4, x5, x6, rfl, hq'⟩ := h
      obtain ⟨t, mr1, rfl, ⟨a, pc, rfl, ha, cvs, hpc, hcv⟩, pr1⟩ := paired_cons pr
      have st := sz_ t (by rw [ets]; simp)
      have lm : md.length ≤ 20 := by rw [ets, List.length_append] at l20; omega
      have ll : (linesOf u md).length ≤ 21 * 20 + 1 := by
        have := lines_len (ts := md) fun x hx => sz_ x (by rw [ets]; exact List.mem_append.mpr (.inl hx))
        show (md.flatMap tabLines).length + 1 ≤ _
        omega
      have ha' := e' _ _ ha
      have hpc' := e' _ _ hpc
      have t1 := st.n
      walk_at "w"
      rw [table_line]
      have e2 := put (o := .lst ((linesOf u md).map V.str ++ [V.str ((Str.empty ++ sz "table ") ++ t.1)])) e'
      have fq2 : (upd H' q (.lst ((linesOf u md).map V.str ++ [V.str ((Str.empty ++ sz "table ") ++ t.1)]))) q = some (.lst ((linesOf u md ++ ((Str.empty ++ sz "table ") ++ t.1) :: ([] : List Col).map colLine).map V.str)) := by
        rw [upd_same, List.map_append]
        rfl
      generalize (upd H' q (.lst ((linesOf u md).map V.str ++ [V.str ((Str.empty ++ sz "table ") ++ t.1)]))) = H2 at e2 fq2 ⊢
      have hpc2 := e2 _ _ hpc
      refine w_kList (SqL.of hpc2) ?_
      have lc := paired_len hcv
      have l2 := st.l
      refine loopL (xs := cvs) (fun d r σ' H' => Ex H H' ∧ ∃ cd cr, t.2 = cd ++ cr ∧ ColsV H r cr ∧ ∃ z3 z4 z5 z6, σ' = [some (.str u), some (.ref p), some (.ref q), z3, z4, z5, z6] ∧ H' q = some (.lst ((linesOf u md ++ ((Str.empty ++ sz "table ") ++ t.1) :: cd.map colLine).map V.str)))
        ⟨e2, [], t.2, rfl, hcv, _, _, _, _, rfl, fq2⟩ (fun d r σ' H' _ h => SqL.of (h.1 _ _ hpc)) (fun d y r σ' H' hd h => ?_) (fun σ' H' h => ?_)
      · obtain ⟨e3, cd, cr, ec, pr2, z3, z4, z5, z6, rfl, hq3⟩ := h
        obtain ⟨c, cr1, rfl, ⟨ac, rfl, hac⟩, pr3⟩ := paired_cons pr2
        have hac3 := e3 _ _ hac
        have cz := st.c c (by rw [ec]; simp)
        have n1 := cz.n
        have n2 := cz.t
        have lcd : cd.length ≤ 20 := by rw [ec, List.length_append] at l2; omega
        have lapp : (linesOf u md ++ ((Str.empty ++ sz "table ") ++ t.1) :: cd.map colLine).map V.str ++ [V.str (colLine c)] = (linesOf u md ++ ((Str.empty ++ sz "table ") ++ t.1) :: (cd ++ [c]).map colLine).map V.str := by simp
        have fin : ∀ {H5 : Hp} {x5' x6' : Option V}, Ex H' H5 → Ex H (upd H5 q (.lst ((linesOf u md ++ ((Str.empty ++ sz "table ") ++ t.1) :: cd.map colLine).map V.str ++ [V.str (colLine c)]))) ∧ ∃ cd1 cr, t.2 = cd1 ++ cr ∧ ColsV H r cr ∧ ∃ w3 w4 w5 w6, [some (.str u), some (.ref p), some (.ref q), z3, z4, x5', x6'] = [some (.str u), some (.ref p), some (V.ref q), w3, w4, w5, w6] ∧
            (upd H5 q (.lst ((linesOf u md ++ ((Str.empty ++ sz "table ") ++ t.1) :: cd.map colLine).map V.str ++ [V.str (colLine c)]))) q = some (.lst ((linesOf u md ++ ((Str.empty ++ sz "table ") ++ t.1) :: cd1.map colLine).map V.str)) := fun {H5 x5' x6'} e =>
          ⟨put (e3.trans e), cd ++ [c], cr1, by rw [ec, List.append_assoc]; rfl, pr3, _, _, _, _, rfl, by rw [upd_same, lapp]⟩
        have lq : ((linesOf u md ++ ((Str.empty ++ sz "table ") ++ t.1) :: cd.map colLine).map V.str).length ≤ 1000 := by
          rw [List.length_map, List.length_append, List.length_cons, List.length_map]
          omega
        have lq2 : ((linesOf u md ++ ((Str.empty ++ sz "table ") ++ t.1) :: cd.map colLine).map V.str).length < sizeLine := Nat.lt_of_le_of_lt lq (by decide)
        walk_at "w"
        refine w_ixT (SqT.of hac3) c.at0 ?_
        walk_at "w"
        intro S1 hS1
        have e4 : Ex H' (upd H' S1 (.tup [.str "flag", .str "number"])) := Ex.new hS1
        have fS1 : (upd H' S1 (.tup [.str "flag", .str "number"])) S1 = some (.tup [.str "flag", .str "number"]) := upd_same
        generalize (upd H' S1 (.tup [.str "flag", .str "number"])) = H3 at e4 fS1 ⊢
        have hac4 := e4 _ _ hac3
        have hq4 := e4 _ _ hq3
        refine w_inT (SqT.of fS1) (by rfl) (by rfl) ?_
        cases c with
        | plain fl n =>
          have n1 : n.length ≤ 1000 := n1
          cases fl with
          | true =>
            refine ⟨true, congrArg V.bl (show inV (V.str ("flag" : Str)) [V.str ("flag" : Str), V.str ("number" : Str)] = true by decide +kernel), iteT ?_⟩
            walk_at "w"
            have law := law_plain true n
            have kl : (("flag" : Str) ++ Str.ofString " ").length ≤ 8 := by decide
            refine w_addS (small_le (Nat.le_trans (Nat.add_le_add kl (Nat.le_refl _)) (by omega))) ?_
            walk_at "w"
            have z := fin (x5' := some (.ref ac)) (x6' := z6) e4
            rw [← law] at z
            exact z
          | false =>
            refine ⟨true, congrArg V.bl (show inV (V.str ("number" : Str)) [V.str ("flag" : Str), V.str ("number" : Str)] = true by decide +kernel), iteT ?_⟩
            walk_at "w"
            have law := law_plain false n
            have kl : (("number" : Str) ++ Str.ofString " ").length ≤ 8 := by decide
            refine w_addS (small_le (Nat.le_trans (Nat.add_le_add kl (Nat.le_refl _)) (by omega))) ?_
            walk_at "w"
            have z := fin (x5' := some (.ref ac)) (x6' := z6) e4
            rw [← law] at z
            exact z
        | word n o =>
          have n1 : n.length ≤ 1000 := n1
          refine ⟨false, congrArg V.bl (show inV (V.str ("word" : Str)) [V.str ("flag" : Str), V.str ("number" : Str)] = false by decide +kernel), iteF ?_⟩
          walk_at "w"
          have law := law_word n o
          have b1 : (Str.ofString "word " ++ n).length ≤ 1005 := by rw [len_cat, y3]; omega
          have mq : (Str.ofString "?").length ≤ 1 := by decide
          have me : (Str.ofString "").length ≤ 1 := by decide
          refine iteD (fun _ => ?_) (fun h => absurd rfl h)
          cases o with
          | true =>
            walk_at "w"
            have z := fin (x5' := some (.ref ac)) (x6' := z6) e4
            rw [← law] at z
            exact z
          | false =>
            walk_at "w"
            have z := fin (x5' := some (.ref ac)) (x6' := z6) e4
            rw [← law] at z
            exact z
        | link n tg o l =>
          have n1 : n.length ≤ 1000 := n1
          have n2 : tg.length ≤ 1000 := n2
          refine ⟨false, congrArg V.bl (show inV (V.str ("link" : Str)) [V.str ("flag" : Str), V.str ("number" : Str)] = false by decide +kernel), iteF ?_⟩
          walk_at "w"
          have law := law_link n tg o l
          refine iteD (fun h => absurd h (by decide +kernel)) (fun _ => ?_)
          have mq : (Str.ofString "?").length ≤ 1 := by decide
          have me : (Str.ofString "").length ≤ 1 := by decide
          cases l with
          | none =>
            walk_at "w"
            refine iteD (fun _ => ?_) (fun h => absurd rfl h)
            cases o with
            | true =>
              have c1 : (Str.ofString "link " ++ n).length ≤ 1005 := by rw [len_cat, y4]; omega
              have c2 : ((Str.ofString "link " ++ n) ++ Str.ofString "?").length ≤ 1006 := by rw [len_cat]; omega
              have c3 : (((Str.ofString "link " ++ n) ++ Str.ofString "?") ++ Str.ofString " to ").length ≤ 1010 := by rw [len_cat, y5]; omega
              have c4 : ((((Str.ofString "link " ++ n) ++ Str.ofString "?") ++ Str.ofString " to ") ++ tg).length ≤ 2010 := by rw [len_cat]; omega
              walk_at "w"
              have z := fin (x5' := some (.ref ac)) (x6' := some (.str (asList none))) e4
              rw [← law] at z
              exact z
            | false =>
              have c1 : (Str.ofString "link " ++ n).length ≤ 1005 := by rw [len_cat, y4]; omega
              have c2 : ((Str.ofString "link " ++ n) ++ Str.ofString "").length ≤ 1006 := by rw [len_cat]; omega
              have c3 : (((Str.ofString "link " ++ n) ++ Str.ofString "") ++ Str.ofString " to ").length ≤ 1010 := by rw [len_cat, y5]; omega
              have c4 : ((((Str.ofString "link " ++ n) ++ Str.ofString "") ++ Str.ofString " to ") ++ tg).length ≤ 2010 := by rw [len_cat]; omega
              walk_at "w"
              have z := fin (x5' := some (.ref ac)) (x6' := some (.str (asList none))) e4
              rw [← law] at z
              exact z
          | some l =>
            have nl : l.length ≤ 1000 := cz.l l rfl
            have d1 : (Str.ofString " as " ++ l).length ≤ 1004 := by rw [len_cat, y6]; omega
            walk_at "w"
            refine iteD (fun h => absurd h (by intro z; cases z)) (fun _ => ?_)
            cases o with
            | true =>
              have c1 : (Str.ofString "link " ++ n).length ≤ 1005 := by rw [len_cat, y4]; omega
              have c2 : ((Str.ofString "link " ++ n) ++ Str.ofString "?").length ≤ 1006 := by rw [len_cat]; omega
              have c3 : (((Str.ofString "link " ++ n) ++ Str.ofString "?") ++ Str.ofString " to ").length ≤ 1010 := by rw [len_cat, y5]; omega
              have c4 : ((((Str.ofString "link " ++ n) ++ Str.ofString "?") ++ Str.ofString " to ") ++ tg).length ≤ 2010 := by rw [len_cat]; omega
              walk_at "w"
              refine w_addS (a := Str.ofString " as ") (b := l) (small_le (by omega)) ?_
              walk_at "w"
              have z := fin (x5' := some (.ref ac)) (x6' := some (.str (asList (some l)))) e4
              rw [← law] at z
              exact z
            | false =>
              have c1 : (Str.ofString "link " ++ n).length ≤ 1005 := by rw [len_cat, y4]; omega
              have c2 : ((Str.ofString "link " ++ n) ++ Str.ofString "").length ≤ 1006 := by rw [len_cat]; omega
              have c3 : (((Str.ofString "link " ++ n) ++ Str.ofString "") ++ Str.ofString " to ").length ≤ 1010 := by rw [len_cat, y5]; omega
              have c4 : ((((Str.ofString "link " ++ n) ++ Str.ofString "") ++ Str.ofString " to ") ++ tg).length ≤ 2010 := by rw [len_cat]; omega
              walk_at "w"
              refine w_addS (a := Str.ofString " as ") (b := l) (small_le (by omega)) ?_
              walk_at "w"
              have z := fin (x5' := some (.ref ac)) (x6' := some (.str (asList (some l)))) e4
              rw [← law] at z
              exact z
      · obtain ⟨e3, cd, cr, ec, pr2, z3, z4, z5, z6, rfl, hq3⟩ := h
        cases pr2
        rw [List.append_nil] at ec
        subst ec
        exact ⟨e3, md ++ [t], mr1, by rw [ets, List.append_assoc]; rfl, pr1, _, _, _, _, rfl, by rw [hq3, linesOf_app]; rfl⟩
    · obtain ⟨e', md, mr, ets, pr, x3, x4, x5, x6, rfl, hq'⟩ := h
      cases pr
      rw [List.append_nil] at ets
      subst ets
      walk_at "w"
      exact k q _ hq e' hq'
end
end LP
namespace LP
open PySem L2
open Evl (Ex)
def spStr4 (C : Addr) : Sp := fun vs H Q _ => ∃ (p : Addr) (u : Str) (ts : Tabs), vs = [.ref p] ∧ SchAt C H p u ts ∧ GoodTabs ts ∧ ts.length ≤ 6 ∧ u.length ≤ 1000 ∧ Q (.str (Txt.join (Str.ofString "\n") (linesOf u ts))) H
section
variable {base : Heap} {mg : Str → Option Value} {K : PySem.W.Frag} {w : World} {P : Program} {ra C : Addr}
theorem ok_str4 {f : Addr} {fd : FuncData} (S : SchC K C) (F : C8.Fun K "__str__" "Schema.__str__" s_Schema___str__ f fd) (B : Blt mg) : FnOk P w K mg base C8.CX0 1 f fd ["self"] (spStr4 C) := by
  have sc : FnScope ["self"] ["self"] (C8.fnScope s_Schema___str__) := C8.fnScope_by (by decide +kernel)
  refine C8.fn0 F sc (fun vs H Q E h => ?_) (fun cdv A outer s H vs Q E hr h => ?_)
  · obtain ⟨_, _, _, rfl, _⟩ := h
    rfl
  · obtain ⟨p, u, ts, rfl, hS, hG, l6, lu, k⟩ := h
    obtain ⟨dc, dl, cvs, rs, dx, fs, tt, ll, hP, hm, hp, hf, hu, ht, htt, hl, hll⟩ := hS.ex
    refine ⟨_, (pss_one (ps_ret (pe_joinK (K := K) rfl pe_str (pe_fldK (K := K) rfl (pv 0) rfl)))), ?_⟩
    walk_at "w"
    refine w_kFld hp S.cls S.lines_ hl ?_
    refine w_join (SqL.of hll) (by rw [show (Str.ofString "\n").length = 1 by decide]; exact lines_size lu hG l6) ?_
    exact k
end
end LP
namespace LP
open PySem L2
open Evl (Ex)
/-! ### a name and whether a question mark ends it -/
def baseN (x : Str) : Str := Txt.removesuffix x (sz "?")
def openN (x : Str) : Bool := !decide (baseN x = x)
theorem base_of (x : Str) : (∃ l, TL.tl x = l ++ [63] ∧ TL.tl (baseN x) = l) ∨ (baseN x = x ∧ ∀ l, TL.tl x ≠ l ++ [63]) := by
  have e63 : TL.tl (sz "?") = [63] := tl_sz.2.2.2.2.2.2.2
  have ly : (sz "?").length = 1 := by decide
  have sub : ∀ x : Str, 1 ≤ x.length → (Builtin.Str.subAt x (sz "?") (x.length - 1) = true ↔ (TL.tl x).drop (x.length - 1) = [63]) := fun x hx => by
    unfold Builtin.Str.subAt
    rw [beq_iff_eq, ← Array.toList_inj, Array.toList_extract, ly]
    show ((TL.tl x).drop (x.length - 1)).take (x.length - 1 + 1 - (x.length - 1)) = TL.tl (sz "?") ↔ _
    rw [e63, List.take_of_length_le (by rw [List.length_drop, ← TL.len_tl]; omega)]
  unfold baseN Txt.removesuffix
  rw [ly]
  by_cases h : 1 ≤ x.length
  · rw [decide_eq_true h, Bool.true_and]
    by_cases q : Builtin.Str.subAt x (sz "?") (x.length - 1) = true
    · rw [if_pos q]
      have z := (sub x h).mp q
      left
      refine ⟨(TL.tl x).take (x.length - 1), ?_, ?_⟩
      · rw [← z, List.take_append_drop]
      · show TL.tl (if x.length - 1 - 0 == x.length then x else Builtin.Str.strSub x 0 (x.length - 1)) = _
        rw [if_neg (by rw [beq_iff_eq]; omega), TL.tl_strSub, List.drop_zero, Nat.sub_zero]
    · rw [if_neg q]
      right
      refine ⟨rfl, fun l z => q ((sub x h).mpr ?_)⟩
      have lx : x.length - 1 = l.length := by rw [TL.len_tl, z, List.length_append]; rfl
      rw [lx, z]
      exact List.drop_left
  · right
    rw [decide_eq_false h, Bool.false_and, if_neg Bool.false_ne_true]
    refine ⟨rfl, fun l z => ?_⟩
    have : x.length = l.length + 1 := by rw [TL.len_tl, z, List.length_append]; rfl
    omega
theorem tl_cutS (z : Str) (lo hi : Option Int) : TL.tl (cutS z lo hi) = ((TL.tl z).drop (HT.sIx z.length 0 lo)).take (HT.sIx z.length z.length hi - HT.sIx z.length 0 lo) := rfl
theorem sIx_m1 (n d : Nat) : HT.sIx n d (some (-1)) = n - 1 := by
  show (if (-1 : Int) < 0 then ((-1 : Int) + (n : Int)).toNat else min (-1 : Int).toNat n) = n - 1
  rw [if_pos (by decide)]
  omega
/-- the law's own way to the same -/
theorem law_open (x : Str) : decide (cutS x (some (-1)) none = sz "?") = openN x := by
  have e63 : TL.tl (sz "?") = [63] := tl_sz.2.2.2.2.2.2.2
  have ex : (cutS x (some (-1)) none = sz "?") ↔ (TL.tl x).drop (x.length - 1) = [63] := by
    have e1 : TL.tl (cutS x (some (-1)) none) = (TL.tl x).drop (x.length - 1) := by
      rw [tl_cutS, sIx_m1, HT.sIx_none, List.take_of_length_le (by rw [List.length_drop, ← TL.len_tl]; omega)]
    constructor
    · intro h
      rw [← e1, h, e63]
    · intro h
      exact TL.ext_tl (by rw [e1, h, e63])
  rcases base_of x with ⟨l, e1, e2⟩ | ⟨e1, e2⟩
  · have lx : x.length - 1 = l.length := by rw [TL.len_tl, e1, List.length_append]; rfl
    have nb : baseN x ≠ x := fun z => by
      have : TL.tl (baseN x) = TL.tl x := by rw [z]
      rw [e2, e1] at this
      have := congrArg List.length this
      rw [List.length_append] at this
      simp at this
    unfold openN
    rw [decide_eq_false nb, decide_eq_true (ex.mpr (by rw [lx, e1]; exact List.drop_left))]
    rfl
  · unfold openN
    rw [decide_eq_true e1, decide_eq_false fun z => ?_]
    · rfl
    · exact e2 ((TL.tl x).take (x.length - 1)) (by rw [← ex.mp z, List.take_append_drop])
theorem law_base (x : Str) (h : openN x = true) : cutS x none (some (-1)) = baseN x := by
  rcases base_of x with ⟨l, e1, e2⟩ | ⟨e1, e2⟩
  · have lx : x.length - 1 = l.length := by rw [TL.len_tl, e1, List.length_append]; rfl
    refine TL.ext_tl ?_
    rw [tl_cutS, sIx_m1, HT.sIx_none, List.drop_zero, Nat.sub_zero, e2, lx, e1]
    exact List.take_left
  · unfold openN at h
    rw [decide_eq_true e1] at h
    cases h
theorem base_len (x : Str) : (baseN x).length ≤ x.length := by
  rcases base_of x with ⟨l, e1, e2⟩ | ⟨e1, e2⟩
  · rw [TL.len_tl, TL.len_tl, e1, e2, List.length_append]
    omega
  · rw [e1]
    exact Nat.le_refl _
/-! ### what a line's words mean -/
def linkF (nm : Str) (o : Bool) : List Str → Option Col
  | [_, _, a, t] => if a = "to" ∧ lettersB t = true then some (.link nm t o none) else none
  | [_, _, a, t, b, l] => if a = "to" ∧ lettersB t = true ∧ b = "as" ∧ lettersB l = true then some (.link nm t o (some l)) else none
  | _ => none
def colF : List Str → Option Col
  | [] => none
  | k :: r => if k = "flag" ∨ k = "number" then (match r with
      | [n] => if lettersB n = true then some (.plain (decide (k = "flag")) n) else none
      | _ => none)
    else if ¬ (k = "word" ∨ k = "link") then none else (match r with
      | [] => none
      | n :: r2 => if lettersB (baseN n) = true then (if k = "link" then linkF (baseN n) (openN n) (k :: n :: r2) else if r2 = [] then some (.word (baseN n) (openN n)) else none) else none)
theorem colF_cons (k : Str) (r : List Str) : colF (k :: r) = if k = "flag" ∨ k = "number" then (match r with
      | [n] => if lettersB n = true then some (.plain (decide (k = "flag")) n) else none
      | _ => none)
    else if ¬ (k = "word" ∨ k = "link") then none else (match r with
      | [] => none
      | n :: r2 => if lettersB (baseN n) = true then (if k = "link" then linkF (baseN n) (openN n) (k :: n :: r2) else if r2 = [] then some (.word (baseN n) (openN n)) else none) else none) := rfl
/-- the tables of some lines, or the first that is not written as it must be -/
def addLast (c : Col) : Tabs → Tabs
  | [] => []
  | [t] => [(t.1, t.2 ++ [c])]
  | t :: u :: r => t :: addLast c (u :: r)
def goF : Tabs → Nat → List (List Str) → Sum Nat Tabs
  | ts, _, [] => .inr ts
  | ts, k, ws :: r => if headB "table" ws = true then goF (ts ++ [(ws.getD 1 "", [])]) (k + 1) r
    else (match colF ws with
      | some c => if ts = [] then .inl k else goF (addLast c ts) (k + 1) r
      | none => .inl k)
def linesF : List (List Str) → Sum Nat (Str × Tabs)
  | [] => .inl 0
  | ws :: r => if headB "user" ws = true then (match goF [] 1 r with
      | .inl k => .inl k
      | .inr ts => .inr (ws.getD 1 "", ts)) else .inl 0
theorem linesF_cons (ws : List Str) (r : List (List Str)) : linesF (ws :: r) = if headB "user" ws = true then (match goF [] 1 r with
      | .inl k => .inl k
      | .inr ts => .inr (ws.getD 1 "", ts)) else .inl 0 := rfl
theorem goF_cons (ts : Tabs) (k : Nat) (ws : List Str) (r : List (List Str)) : goF ts k (ws :: r) = if headB "table" ws = true then goF (ts ++ [(ws.getD 1 "", [])]) (k + 1) r
    else (match colF ws with
      | some c => if ts = [] then .inl k else goF (addLast c ts) (k + 1) r
      | none => .inl k) := rfl
theorem addLast_app (c : Col) (t : Str × List Col) : ∀ td : Tabs, addLast c (td ++ [t]) = td ++ [(t.1, t.2 ++ [c])]
  | [] => rfl
  | [a] => rfl
  | a :: b :: r => by
    show a :: addLast c (b :: r ++ [t]) = _
    rw [addLast_app c t (b :: r)]
    rfl
theorem head_two {k : Str} {ws : List Str} (h : headB k ws = true) : ∃ n, ws = [k, n] ∧ lettersB n = true := by
  unfold headB at h
  split at h
  · rw [Bool.and_eq_true, decide_eq_true_eq] at h
    obtain ⟨rfl, h⟩ := h
    exact ⟨_, rfl, h⟩
  · cases h
end LP
namespace LP
open PySem L2
open Evl (Ex)
def OCol (H : Hp) (v : V) : Option Col → Prop
  | none => v = .non
  | some c => ColAt H v c
def WdOk (ws : List Str) : Prop := ws.length ≤ 1000 ∧ ∀ x ∈ ws, x.length ≤ 4000
def spReadLinkG (K : PySem.W.Frag) : Sp := fun vs H Q _ => ∃ (nm : Str) (o : Bool) (p : Addr) (ws : List Str), vs = [.str nm, .bl o, .ref p] ∧ SqL K H p (ws.map V.str) ∧ WdOk ws ∧ ∀ (v : V) (H' : Hp), Ex H H' → OCol H' v (linkF nm o ws) → Q v H'
def spReadColG (K : PySem.W.Frag) : Sp := fun vs H Q _ => ∃ (p : Addr) (ws : List Str), vs = [.ref p] ∧ SqL K H p (ws.map V.str) ∧ ws ≠ [] ∧ WdOk ws ∧ ∀ (v : V) (H' : Hp), Ex H H' → OCol H' v (colF ws) → Q v H'
theorem linkF_no {nm : Str} {o : Bool} {ws : List Str} (h : ¬ (ws.length = 4 ∨ ws.length = 6)) : linkF nm o ws = none := by
  unfold linkF
  split
  · exact absurd (.inl rfl) h
  · exact absurd (.inr rfl) h
  · rfl
theorem inV46 {n : Nat} (h4 : n ≠ 4) (h6 : n ≠ 6) : inV (V.int (n : Int)) [V.int 4, V.int 6] = false := by
  have q : ∀ m : Int, m ≠ (n : Int) → eqV (V.int m) (V.int (n : Int)) = false := fun m h => decide_eq_false h
  unfold inV
  rw [List.any_cons, List.any_cons, List.any_nil, q 4 (by omega), q 6 (by omega)]
  rfl
theorem len4 {α : Type} {ws : List α} (h : ws.length = 4) : ∃ a b c d, ws = [a, b, c, d] := by
  match ws, h with
  | [a, b, c, d], _ => exact ⟨a, b, c, d, rfl⟩
theorem len6 {α : Type} {ws : List α} (h : ws.length = 6) : ∃ a b c d e f, ws = [a, b, c, d, e, f] := by
  match ws, h with
  | [a, b, c, d, e, f], _ => exact ⟨a, b, c, d, e, f, rfl⟩
section
variable {base : Heap} {mg : Str → Option Value} {K : PySem.W.Frag} {w : World} {P : Program}
theorem ok_read_linkG {f : Addr} {fd : FuncData} (D : C8.Def K mg "_read_link" s__read_link f fd) (b : Binds K fd ["name", "optional", "words"] []) (B : Blt mg) (c_is_letters : C8.Cal P w K mg base 1 "is_letters" (spAsk K (strD lettersB)) []) : C8.Cal P w K mg base 2 "_read_link" (spReadLinkG K) [] := by
  have sc : FnScope ["name", "optional", "words"] ["name", "optional", "words"] (C8.fnScope s__read_link) := C8.fnScope_by (by decide +kernel)
  refine C8.cal0 D b .nil sc (fun vs H Q E h => ?_) (fun cdv A outer s H vs Q E hr h => ?_)
  · obtain ⟨_, _, _, _, rfl, _⟩ := h
    rfl
  · obtain ⟨nm, o, p, ws, rfl, hp, ⟨hl, hx⟩, k⟩ := h
    refine ⟨_, (pss_cons (ps_if (PW.pt (pw_or (pt_cmpR (op_notIn_seqK (K := K) rfl) (pe_callB (call_len_seqK (K := K) rfl) (by rfl) B.len_ (by decide +kernel) (pa_cons (pv 2) pa_nil)) (pe_tup (pa_cons pe_int (pa_cons pe_int pa_nil))) (by rfl)) (pw_or (pt_cmpR op_ne (pe_ix (ix_listK (K := K) rfl) (pv 2) pe_int (fun _ _ => rfl)) pe_str (nomark _)) (pw_or1 (pt_not (pt_val (C8.pe_c c_is_letters hr (by decide) rfl (pa_cons (pe_ix (ix_listK (K := K) rfl) (pv 2) pe_int (fun _ _ => rfl)) pa_nil))))))))
        (pss_one (ps_ret pe_non))
        pss_nil)
        (pss_cons (ps_if (pt_cmpR op_eq (pe_callB (call_len_seqK (K := K) rfl) (by rfl) B.len_ (by decide +kernel) (pa_cons (pv 2) pa_nil)) pe_int (nomark _))
        (pss_one (ps_ret (pe_tup (pa_cons pe_str (pa_cons (pv 0) (pa_cons (pe_ix (ix_listK (K := K) rfl) (pv 2) pe_int (fun _ _ => rfl)) (pa_cons (pv 1) (pa_cons pe_non pa_nil))))))))
        pss_nil)
        (pss_cons (ps_if (PW.pt (pw_or (pt_cmpR op_ne (pe_ix (ix_listK (K := K) rfl) (pv 2) pe_int (fun _ _ => rfl)) pe_str (nomark _)) (pw_or1 (pt_not (pt_val (C8.pe_c c_is_letters hr (by decide) rfl (pa_cons (pe_ix (ix_listK (K := K) rfl) (pv 2) pe_int (fun _ _ => rfl)) pa_nil)))))))
        (pss_one (ps_ret pe_non))
        pss_nil)
        (pss_one (ps_ret (pe_tup (pa_cons pe_str (pa_cons (pv 0) (pa_cons (pe_ix (ix_listK (K := K) rfl) (pv 2) pe_int (fun _ _ => rfl)) (pa_cons (pv 1) (pa_cons (pe_ix (ix_listK (K := K) rfl) (pv 2) pe_int (fun _ _ => rfl)) pa_nil))))))))))), ?_⟩
    walk_at "w"
    intro S1 hS1
    have e1 : Ex H (upd H S1 (.tup [.int 4, .int 6])) := Ex.new hS1
    have fS1 : (upd H S1 (.tup [.int 4, .int 6])) S1 = some (.tup [.int 4, .int 6]) := upd_same
    generalize (upd H S1 (.tup [.int 4, .int 6])) = H1 at e1 fS1 ⊢
    have hp1 := Evl.ex_l e1 hp
    refine w_inT (SqT.of fS1) (by rfl) (by rfl) ?_
    rw [List.length_map]
    by_cases h4 : ws.length = 4
    · obtain ⟨x0, x1, a, t, rfl⟩ := len4 h4
      have ht : t.length ≤ 4000 := hx t (by simp)
      rw [show (if true = true then !inV (V.int (([x0, x1, a, t] : List Str).length : Int)) [V.int 4, V.int 6] else inV (V.int (([x0, x1, a, t] : List Str).length : Int)) [V.int 4, V.int 6]) = false by rfl]
      have hp1 : SqL K H1 p [.str x0, .str x1, .str a, .str t] := hp1
      have e0 : linkF nm o [x0, x1, a, t] = if a = "to" ∧ lettersB t = true then some (.link nm t o none) else none := rfl
      rw [e0] at k
      walk_at "w"
      refine iteND (fun h2 => ?_) (fun h2 => ?_)
      · walk_at "w"
        exact k _ _ e1 (by rw [if_neg fun z => h2 (by rw [z.1])]; rfl)
      have ea : a = "to" := V.str.inj h2
      walk_at "w"
      refine ⟨.str t, .str t, rfl, .str t, fun z e => by cases e; exact ht, ?_⟩
      cases hb : lettersB t with
      | false =>
        rw [show strD lettersB (.str t) = false from hb]
        walk_at "w"
        exact k _ _ e1 (by rw [if_neg fun z => by rw [hb] at z; cases z.2]; rfl)
      | true =>
        rw [show strD lettersB (.str t) = true from hb]
        walk_at "w"
        refine iteD (fun _ => ?_) (fun h => absurd rfl h)
        walk_at "w"
        intro T hT
        exact k _ _ (e1.trans (Ex.new hT)) (by rw [if_pos ⟨ea, hb⟩]; exact ⟨T, rfl, upd_same⟩)
    by_cases h6 : ws.length = 6
    · obtain ⟨x0, x1, a, t, b', l, rfl⟩ := len6 h6
      have ht : t.length ≤ 4000 := hx t (by simp)
      have hl' : l.length ≤ 4000 := hx l (by simp)
      rw [show (if true = true then !inV (V.int (([x0, x1, a, t, b', l] : List Str).length : Int)) [V.int 4, V.int 6] else inV (V.int (([x0, x1, a, t, b', l] : List Str).length : Int)) [V.int 4, V.int 6]) = false by rfl]
      have hp1 : SqL K H1 p [.str x0, .str x1, .str a, .str t, .str b', .str l] := hp1
      have e0 : linkF nm o [x0, x1, a, t, b', l] = if a = "to" ∧ lettersB t = true ∧ b' = "as" ∧ lettersB l = true then some (.link nm t o (some l)) else none := rfl
      rw [e0] at k
      walk_at "w"
      refine iteND (fun h2 => ?_) (fun h2 => ?_)
      · walk_at "w"
        exact k _ _ e1 (by rw [if_neg fun z => h2 (by rw [z.1])]; rfl)
      have ea : a = "to" := V.str.inj h2
      walk_at "w"
      refine ⟨.str t, .str t, rfl, .str t, fun z e => by cases e; exact ht, ?_⟩
      cases hb : lettersB t with
      | false =>
        rw [show strD lettersB (.str t) = false from hb]
        walk_at "w"
        exact k _ _ e1 (by rw [if_neg fun z => by rw [hb] at z; cases z.2.1]; rfl)
      | true =>
        rw [show strD lettersB (.str t) = true from hb]
        walk_at "w"
        refine iteD (fun h => by injection h with h; exact absurd h (by show ¬ ((6 : Int) = 4); decide)) (fun _ => ?_)
        walk_at "w"
        refine iteND (fun h3 => ?_) (fun h3 => ?_)
        · walk_at "w"
          exact k _ _ e1 (by rw [if_neg fun z => h3 (by rw [z.2.2.1])]; rfl)
        have eb : b' = "as" := V.str.inj h3
        walk_at "w"
        refine ⟨.str l, .str l, rfl, .str l, fun z e => by cases e; exact hl', ?_⟩
        cases hc : lettersB l with
        | false =>
          rw [show strD lettersB (.str l) = false from hc]
          walk_at "w"
          exact k _ _ e1 (by rw [if_neg fun z => by rw [hc] at z; cases z.2.2.2]; rfl)
        | true =>
          rw [show strD lettersB (.str l) = true from hc]
          walk_at "w"
          intro T hT
          exact k _ _ (e1.trans (Ex.new hT)) (by rw [if_pos ⟨ea, hb, eb, hc⟩]; exact ⟨T, rfl, upd_same⟩)
    · have e0 := linkF_no (nm := nm) (o := o) (ws := ws) (by omega)
      rw [show (if true = true then !inV (V.int (ws.length : Int)) [V.int 4, V.int 6] else inV (V.int (ws.length : Int)) [V.int 4, V.int 6]) = true by rw [if_pos rfl, inV46 h4 h6]; rfl]
      walk_at "w"
      exact k _ _ e1 (by rw [e0]; rfl)
theorem ok_read_columnG {f : Addr} {fd : FuncData} (D : C8.Def K mg "_read_column" s__read_column f fd) (b : Binds K fd ["words"] []) (B : Blt mg) (c_is_letters : C8.Cal P w K mg base 1 "is_letters" (spAsk K (strD lettersB)) [])
    (c__is_head : C8.Cal P w K mg base 2 "_is_head" (spHead K) []) (c__read_link : C8.Cal P w K mg base 2 "_read_link" (spReadLinkG K) []) : C8.Cal P w K mg base 3 "_read_column" (spReadColG K) [] := by
  have sc : FnScope ["words", "name"] ["words"] (C8.fnScope s__read_column) := C8.fnScope_by (by decide +kernel)
  refine C8.cal0 D b .nil sc (fun vs H Q E h => ?_) (fun cdv A outer s H vs Q E hr h => ?_)
  · obtain ⟨_, _, rfl, _⟩ := h
    rfl
  · obtain ⟨p, ws, rfl, hp, hne, ⟨hl, hx⟩, k⟩ := h
    refine ⟨_, (pss_cons (ps_if (pt_cmpR (op_in_seqK (K := K) rfl) (pe_ix (ix_listK (K := K) rfl) (pv 0) pe_int (fun _ _ => rfl)) (pe_tup (pa_cons pe_str (pa_cons pe_str pa_nil))) (by rfl))
        (pss_one (ps_ret (pe_ifExp (pt_val (C8.pe_c c__is_head hr (by decide) rfl (pa_cons (pe_ix (ix_listK (K := K) rfl) (pv 0) pe_int (fun _ _ => rfl)) (pa_cons (pv 0) pa_nil)))) (pe_tup (pa_cons (pe_ix (ix_listK (K := K) rfl) (pv 0) pe_int (fun _ _ => rfl)) (pa_cons (pe_ix (ix_listK (K := K) rfl) (pv 0) pe_int (fun _ _ => rfl)) pa_nil))) pe_non)))
        pss_nil)
        (pss_cons (ps_if (PW.pt (pw_or (pt_cmpR (op_notIn_seqK (K := K) rfl) (pe_ix (ix_listK (K := K) rfl) (pv 0) pe_int (fun _ _ => rfl)) (pe_tup (pa_cons pe_str (pa_cons pe_str pa_nil))) (by rfl)) (pw_or1 (pt_cmpR op_lt (pe_callB (call_len_seqK (K := K) rfl) (by rfl) B.len_ (by decide +kernel) (pa_cons (pv 0) pa_nil)) pe_int (nomark _)))))
        (pss_one (ps_ret pe_non))
        pss_nil)
        (pss_cons (ps_set (i := 1) sc.nd rfl (Or.inl rfl) (pe_bmK (K := K) rfl PySem.F.plainAttrs_str PySem.F.slot_str_removesuffix PySem.F.type_str_removesuffix mt_removesuffix' (pe_ix (ix_listK (K := K) rfl) (pv 0) pe_int (fun _ _ => rfl)) (pa_cons pe_str pa_nil)))
        (pss_cons (ps_if (pt_not (pt_val (C8.pe_c c_is_letters hr (by decide) rfl (pa_cons (pv 1) pa_nil))))
        (pss_one (ps_ret pe_non))
        pss_nil)
        (pss_cons (ps_if (pt_cmpR op_eq (pe_ix (ix_listK (K := K) rfl) (pv 0) pe_int (fun _ _ => rfl)) pe_str (nomark _))
        (pss_one (ps_ret (C8.pe_c c__read_link hr (by decide) rfl (pa_cons (pv 1) (pa_cons (pe_cmpR op_ne (pv 1) (pe_ix (ix_listK (K := K) rfl) (pv 0) pe_int (fun _ _ => rfl)) (nomark _)) (pa_cons (pv 0) pa_nil))))))
        pss_nil)
        (pss_one (ps_ret (pe_ifExp (pt_cmpR op_eq (pe_callB (call_len_seqK (K := K) rfl) (by rfl) B.len_ (by decide +kernel) (pa_cons (pv 0) pa_nil)) pe_int (nomark _)) (pe_tup (pa_cons pe_str (pa_cons (pv 1) (pa_cons (pe_cmpR op_ne (pv 1) (pe_ix (ix_listK (K := K) rfl) (pv 0) pe_int (fun _ _ => rfl)) (nomark _)) pa_nil)))) pe_non)))))))), ?_⟩
    cases ws with
    | nil => exact absurd rfl hne
    | cons kd r =>
    have hp : SqL K H p (.str kd :: r.map V.str) := hp
    have hkd : kd.length ≤ 4000 := hx kd (by simp)
    walk_at "w"
    refine w_ixL (i := 0) (v := .str kd) hp (atI_nat (j := 0) rfl) ?_
    walk_at "w"
    intro S1 hS1
    have e1 : Ex H (upd H S1 (.tup [.str "flag", .str "number"])) := Ex.new hS1
    have fS1 : (upd H S1 (.tup [.str "flag", .str "number"])) S1 = some (.tup [.str "flag", .str "number"]) := upd_same
    generalize (upd H S1 (.tup [.str "flag", .str "number"])) = H1 at e1 fS1 ⊢
    have hp1 := Evl.ex_l e1 hp
    refine w_inT (SqT.of fS1) (by rfl) (by rfl) ?_
    rw [show (if false = true then !inV (V.str kd) [V.str "flag", V.str "number"] else inV (V.str kd) [V.str "flag", V.str "number"]) = decide (kd = "flag" ∨ kd = "number") by
      rw [if_neg Bool.false_ne_true]; have := inV_str kd ["flag", "number"]
      rw [show ([V.str "flag", V.str "number"] : List V) = (["flag", "number"] : List Str).map V.str from rfl, this]
      congr 1
      simp]
    by_cases hk : kd = "flag" ∨ kd = "number"
    · rw [decide_eq_true hk]
      refine ⟨true, rfl, iteT ?_⟩
      walk_at "w"
      refine w_ixL (i := 0) (v := .str kd) hp1 (atI_nat (j := 0) rfl) ?_
      walk_at "w"
      refine ⟨kd, p, kd :: r, rfl, hp1, hl, hx, ?_⟩
      cases hh : headB kd (kd :: r) with
      | false =>
        refine ⟨false, rfl, iteF ?_⟩
        walk_at "w"
        refine k _ _ e1 ?_
        have e0 : colF (kd :: r) = none := by
          rw [colF_cons]
          rw [if_pos hk]
          clear hx hl hp hp1 k
          match r, hh with
          | [], _ => rfl
          | [n], hh =>
            have hh : (decide (kd = kd) && lettersB n) = false := hh
            rw [decide_eq_true rfl, Bool.true_and] at hh
            exact if_neg (by rw [hh]; exact Bool.false_ne_true)
          | _ :: _ :: _, _ => rfl
        rw [e0]
        rfl
      | true =>
        obtain ⟨n, en, hn⟩ := head_two hh
        injection en with _ en
        subst en
        refine ⟨true, rfl, iteT ?_⟩
        have hp1 : SqL K H1 p [.str kd, .str n] := hp1
        walk_at "w"
        intro T hT
        refine k _ _ (e1.trans (Ex.new hT)) ?_
        have e0 : colF [kd, n] = some (.plain (decide (kd = "flag")) n) := by
          rw [colF_cons]
          rw [if_pos hk]
          exact if_pos hn
        rw [e0]
        refine ⟨T, rfl, ?_⟩
        rw [upd_same]
        rcases hk with rfl | rfl
        · rw [decide_eq_true rfl]
          rfl
        · rw [decide_eq_false (by decide +kernel)]
          rfl
    · rw [decide_eq_false hk]
      refine ⟨false, rfl, iteF ?_⟩
      walk_at "w"
      refine w_ixL (i := 0) (v := .str kd) hp1 (atI_nat (j := 0) rfl) ?_
      walk_at "w"
      intro S2 hS2
      have e2 : Ex H (upd H1 S2 (.tup [.str "word", .str "link"])) := e1.trans (Ex.new hS2)
      have fS2 : (upd H1 S2 (.tup [.str "word", .str "link"])) S2 = some (.tup [.str "word", .str "link"]) := upd_same
      generalize (upd H1 S2 (.tup [.str "word", .str "link"])) = H2 at e2 fS2 ⊢
      have hp2 := Evl.ex_l e2 hp
      refine w_inT (SqT.of fS2) (by rfl) (by rfl) ?_
      rw [show (if true = true then !inV (V.str kd) [V.str "word", V.str "link"] else inV (V.str kd) [V.str "word", V.str "link"]) = !decide (kd = "word" ∨ kd = "link") by
        rw [if_pos rfl]
        have := inV_str kd ["word", "link"]
        rw [show ([V.str "word", V.str "link"] : List V) = (["word", "link"] : List Str).map V.str from rfl, this]
        congr 2
        simp]
      by_cases hk2 : kd = "word" ∨ kd = "link"
      · rw [decide_eq_true hk2]
        refine ⟨false, rfl, iteF ?_⟩
        walk_at "w"
        cases r with
        | nil =>
          refine iteD (fun _ => ?_) (fun h => absurd (show ((1 : Nat) : Int) < 2 by decide) h)
          walk_at "w"
          have e0 : colF [kd] = none := by
            rw [colF_cons]
            rw [if_neg hk, if_neg (by rw [Classical.not_not]; exact hk2)]
          exact k _ _ e2 (by rw [e0]; rfl)
        | cons n r2 =>
        have hn4 : n.length ≤ 4000 := hx n (by simp)
        refine iteD (fun h => absurd h (by simp only [List.length_cons, List.length_map]; omega)) (fun _ => ?_)
        walk_at "w"
        refine w_ixL (i := 1) (v := .str n) hp2 (atI_nat (j := 1) rfl) ?_
        walk_at "w"
        refine w_remSfx (Nat.le_trans hn4 (by decide)) ?_
        walk_at "w"
        refine ⟨.str (baseN n), .str (baseN n), rfl, .str _, fun z e => by cases e; exact Nat.le_trans (base_len n) hn4, ?_⟩
        have ec : colF (kd :: n :: r2) = if lettersB (baseN n) = true then (if kd = "link" then linkF (baseN n) (openN n) (kd :: n :: r2) else if r2 = [] then some (.word (baseN n) (openN n)) else none) else none := by
          rw [colF_cons, if_neg hk, if_neg (by rw [Classical.not_not]; exact hk2)]
        rw [ec] at k
        have om : (!decide (V.str (baseN n) = V.str n)) = openN n := by rw [show decide (V.str (baseN n) = V.str n) = decide (baseN n = n) by simp]; rfl
        cases hb : lettersB (baseN n) with
        | false =>
          rw [show strD lettersB (.str (baseN n)) = false from hb]
          walk_at "w"
          exact k _ _ e2 (by rw [hb, if_neg Bool.false_ne_true]; rfl)
        | true =>
        rw [if_pos hb] at k
        rw [show strD lettersB (.str (baseN n)) = true from hb]
        walk_at "w"
        refine w_ixL (i := 0) (v := .str kd) hp2 (atI_nat (j := 0) rfl) ?_
        walk_at "w"
        refine iteD (fun h => ?_) (fun h => ?_)
        · have ekd : kd = "link" := V.str.inj h
          rw [if_pos ekd] at k
          walk_at "w"
          refine w_ixL (i := 1) (v := .str n) hp2 (atI_nat (j := 1) rfl) ?_
          walk_at "w"
          refine ⟨baseN n, openN n, p, kd :: n :: r2, ?_, hp2, ⟨hl, hx⟩, fun v H3 e3 hv => k v H3 (e2.trans e3) hv⟩
          show [V.str (baseN n), V.bl (!decide (V.str (baseN n) = V.str n)), V.ref p] = _
          rw [om]
        · have ekd : ¬ kd = "link" := fun z => h (by rw [z])
          have ekw : kd = "word" := hk2.resolve_right ekd
          rw [if_neg ekd] at k
          walk_at "w"
          cases r2 with
          | nil =>
            have hp2 : SqL K H2 p [.str kd, .str n] := hp2
            refine iteD (fun _ => ?_) (fun h => absurd rfl h)
            walk_at "w"
            intro T hT
            refine k _ _ (e2.trans (Ex.new hT)) ?_
            rw [if_pos rfl]
            refine ⟨T, rfl, ?_⟩
            rw [upd_same]
            show some (HO.tup [V.str "word", V.str (baseN n), V.bl (!decide (V.str (baseN n) = V.str n))]) = _
            rw [om]
            rfl
          | cons n3 r3 =>
            refine iteD (fun h => ?_) (fun _ => ?_)
            · injection h with h
              simp only [List.length_cons, List.length_map] at h
              omega
            walk_at "w"
            exact k _ _ e2 (by rw [if_neg (by simp)]; rfl)
      · rw [decide_eq_false hk2]
        refine ⟨true, rfl, iteT ?_⟩
        walk_at "w"
        have e0 : colF (kd :: r) = none := by
          rw [colF_cons]
          rw [if_neg hk, if_pos hk2]
        exact k _ _ e2 (by rw [e0]; rfl)
end
end LP
namespace LP
open PySem L2
open Evl (Ex)
/-! ### an own exception over ValueError with one field -/
def spEx1 (C : Addr) (f : Str) : Sp := fun vs H Q _ => ∃ (a : Addr) (v : V), vs = [.ref a, v] ∧ H a = some (exo a C none) ∧ ∀ dx, H dx = none → dx ≠ a → Q .non (upd (upd H dx (exd dx [(f, v)])) a (exo a C (some dx)))
def Bad1 (C : Addr) (f : Str) (v : V) (H : Hp) (E : XK) : Prop := ∀ (dd : Addr) (H' : Hp), Ex H H' → H' dd = some (.xd [(f, v)]) → E (.ref C) (some dd) H'
theorem raised1 {H : Hp} {C : Addr} {f : Str} {v : V} {E : XK} (k : Bad1 C f v H E) (a : Addr) (ha : H a = none) : spEx1 C f [.ref a, v] (upd H a (exo a C none))
    (fun x H2 => x = .non ∧ ∃ (d : Addr) (fs : List (Str × V)), H2 a = some (exo a C (some d)) ∧ H2 d = some (exd d fs) ∧ H d = none ∧ E (.ref C) (some d) (upd (L2.del H2 a) d (.xd fs))) (fun _ _ _ => False) := by
  refine ⟨a, v, rfl, upd_same, fun dx hdx ne => ⟨rfl, dx, [(f, v)], upd_same, by rw [upd_ne ne]; exact upd_same, ?_, ?_⟩⟩
  · rw [upd_ne ne] at hdx
    exact hdx
  · rw [upd_ne ne] at hdx
    refine k dx _ (fun b o hb => ?_) upd_same
    have b1 : b ≠ dx := ne_of_none hb hdx
    have b2 : b ≠ a := ne_of_none hb ha
    rw [upd_ne b1, L2.del_ne b2, upd_ne b2, upd_ne b1, upd_ne b2]
    exact hb
/-! ### any text's lines -/
def wordsF (x : Str) : List (List Str) := (Txt.split x (sz "\n")).map fun l => Txt.split l (sz " ")
def textF (x : Str) : Sum Nat (Str × Tabs) := linesF (wordsF x)
def TxOk (x : Str) : Prop := x.length ≤ 90000 ∧ (Txt.split x (sz "\n")).length ≤ 100 ∧ ∀ l ∈ Txt.split x (sz "\n"), l.length ≤ 900
def spReadLinesG (K : PySem.W.Frag) (CL : Addr) : Sp := fun vs H Q E => ∃ (v : V) (d : PyData), vs = [v] ∧ Dp K H v d ∧ (∀ x, d = .str x → TxOk x) ∧ (isStrD d = false → Bad1 CL "line" (.int (-1)) H E) ∧
  ∀ x, d = .str x → (∀ k, textF x = .inl k → Bad1 CL "line" (.int (k : Nat)) H E) ∧ ∀ u ts, textF x = .inr (u, ts) → ∀ (T q : Addr) (H' : Hp), Ex H H' → H' T = some (.tup [.str u, .ref q]) → TabsAt H' q ts → Q (.ref T) H'
theorem split_in {x y : Str} (hy : y.length = 1) {l : Str} (h : l ∈ Txt.split x y) : l.length ≤ x.length := by
  have e : TL.tl x = TL.joinL (TL.tl y) ((Txt.split x y).map TL.tl) := by
    rw [← tl_join, TL.join_eq]
    exact congrArg TL.tl (StrLaws.join_split x y).symm
  have key : ∀ (s : List Nat) (ws : List Str), l ∈ ws → (TL.tl l).length ≤ (TL.joinL s (ws.map TL.tl)).length := fun s ws => by
    induction ws with
    | nil => exact fun h => nomatch h
    | cons w r ih =>
      intro h
      cases r with
      | nil =>
        rw [List.mem_singleton.1 h]
        exact Nat.le_refl _
      | cons z r =>
        rw [List.map_cons, List.map_cons, joinL3, List.length_append, List.length_append]
        rcases List.mem_cons.1 h with rfl | h
        · omega
        · have := ih h
          rw [List.map_cons] at this
          omega
  have := key (TL.tl y) _ h
  rw [← e, ← TL.len_tl, ← TL.len_tl] at this
  exact this
theorem words_wd {x : Str} (h : TxOk x) : ∀ ws ∈ wordsF x, ws ≠ [] ∧ WdOk ws := by
  intro ws hw
  obtain ⟨l, hl, rfl⟩ := List.mem_map.mp hw
  have l9 := h.2.2 l hl
  refine ⟨fun z => ?_, ?_, fun y hy => Nat.le_trans (split_in (by decide) hy) (by omega)⟩
  · have := PyProof.Rows.split_pos l (sz " ")
    rw [z] at this
    cases this
  · have := PyProof.Rows.split_le l (sz " ")
    omega
section
variable {base : Heap} {mg : Str → Option Value} {K : PySem.W.Frag} {w : World} {P : Program} {CL fI : Addr} {fdI : FuncData}
theorem ok_badline {f : Addr} {fd : FuncData} (T : OexC K CL) (n1 : PySem.W.findIn K (.ref CL) "line" = some none) (F : C8.Fun K "__init__" "BadLine.__init__" s_BadLine___init__ f fd) :
    FnOk P w K mg base C8.CX0 1 f fd ["self", "line"] (spEx1 CL "line") := by
  have sc : FnScope ["self", "line"] ["self", "line"] (C8.fnScope s_BadLine___init__) := C8.fnScope_by (by decide +kernel)
  refine C8.fn0 F sc (fun vs H Q E h => ?_) (fun cdv A outer s H vs Q E hr h => ?_)
  · obtain ⟨_, _, rfl, _⟩ := h
    rfl
  · obtain ⟨a, v, rfl, ha, k⟩ := h
    refine ⟨_, (pss_one (ps_os2 (K := K) rfl (pv 0) (pv 1) rfl)), ?_⟩
    walk_at "w"
    exact ⟨a, CL, rfl, T, n1, .inl ⟨ha, fun dx hdx ne => k dx hdx ne⟩⟩
theorem ok_read_linesG {f : Addr} {fd : FuncData} (D : C8.Def K mg "read_lines" s_read_lines f fd) (b : Binds K fd ["text"] []) (B : Blt mg) (NX : ExV P w K mg base "BadLine" CL fI fdI ["self", "line"] 1 (spEx1 CL "line"))
    (c__is_head : C8.Cal P w K mg base 2 "_is_head" (spHead K) []) (c__read_column : C8.Cal P w K mg base 3 "_read_column" (spReadColG K) []) : CalX P w K mg base 4 "read_lines" (spReadLinesG K CL) := by
  have sc : FnScope ["text", "lines", "line", "tables", "at", "words", "column"] ["text"] (C8.fnScope s_read_lines) := C8.fnScope_by (by decide +kernel)
  refine ⟨f, fd, _, fnX D.fn sc (fun vs H Q E h => ?_) (fun cdv A outer s H vs Q E hr h => ?_), D.mgf, D.kp, b⟩
  · obtain ⟨_, _, rfl, _⟩ := h
    rfl
  · obtain ⟨v, d, rfl, hv, tx, kB, kS⟩ := h
    refine ⟨_, (pss_cons (ps_if (pt_not (pt_val (pe_callB (call_isiK1 (K := K) rfl) (by rfl) B.isinstance_ (by decide +kernel) (pa_cons (pv 0) (pa_cons (pe_bltn (v := .ty "str") (u := .type "str") (by rfl) B.str_ (by decide +kernel) rfl) pa_nil)))))
        (pss_one (ps_raiseV rfl (takes_of rfl rfl rfl rfl) (pmk_V NX hr (by decide) rfl (pa_cons (pe_un un_neg pe_int) pa_nil))))
        pss_nil)
        (pss_cons (ps_setLc (i := 1) (own := [("line", 2)]) (g := (gName 2)) (by rfl) sc.nd rfl rfl (sw_true rfl rfl rfl (by decide +kernel)) (pi_listK (K := K) rfl (pe_split' (pv 0) pe_str)) (blkOk_by (own := [("line", 2)]) (N := ["text", "lines", "line", "tables", "at", "words", "column"]) (sc := C8.fnScope s_read_lines) (by decide +kernel)) (fun _ _ _ _ _ => (pg_name (i := 2) sc.nd rfl (Or.inl rfl))) (fun _ _ _ _ _ => pts_nil) (fun _ _ _ _ _ => (pe_split' (pv 2) pe_str)))
        (pss_cons (ps_if (pt_not (pt_val (C8.pe_c c__is_head hr (by decide) rfl (pa_cons pe_str (pa_cons (pe_ix (ix_listK (K := K) rfl) (pv 1) pe_int (fun _ _ => rfl)) pa_nil)))))
        (pss_one (ps_raiseV rfl (takes_of rfl rfl rfl rfl) (pmk_V NX hr (by decide) rfl (pa_cons pe_int pa_nil))))
        pss_nil)
        (pss_cons (ps_set (i := 3) sc.nd rfl (Or.inl rfl) (pe_lst pa_nil))
        (pss_cons (ps_for (passes_of rfl) rfl (pi_enumkK (K := K) rfl (by rfl) B.enumerate_ (pa_cons (pe_slice (sl_listK (K := K) rfl) (pv 1) (po_some pe_int) po_none) pa_nil) pe_int) (pg_tupK (K := K) (n := 2) rfl rfl (pgs_cons (pg_name (i := 4) sc.nd rfl (Or.inl rfl)) (pgs_cons (pg_name (i := 5) sc.nd rfl (Or.inl rfl)) pgs_nil)))
        (pss_cons (ps_if (pt_val (C8.pe_c c__is_head hr (by decide) rfl (pa_cons pe_str (pa_cons (pv 5) pa_nil))))
        (pss_cons (ps_expr (pe_bmK (K := K) rfl PySem.F.plainAttrs_list PySem.F.slot_list_append PySem.F.type_list_append mt_append (pv 3) (pa_cons (pe_tup (pa_cons (pe_ix (ix_listK (K := K) rfl) (pv 5) pe_int (fun _ _ => rfl)) (pa_cons (pe_lst pa_nil) pa_nil))) pa_nil)))
        (pss_one ps_continue))
        pss_nil)
        (pss_cons (ps_set (i := 6) sc.nd rfl (Or.inl rfl) (C8.pe_c c__read_column hr (by decide) rfl (pa_cons (pv 5) pa_nil)))
        (pss_cons (ps_if (PW.pt (pw_or (pt_cmpR op_isN' (pv 6) pe_non (nomark _)) (pw_or1 (pt_not (pt_truthK (K := K) rfl (pv 3))))))
        (pss_one (ps_raiseV rfl (takes_of rfl rfl rfl rfl) (pmk_V NX hr (by decide) rfl (pa_cons (pv 4) pa_nil))))
        pss_nil)
        (pss_one (ps_expr (pe_bmK (K := K) rfl PySem.F.plainAttrs_list PySem.F.slot_list_append PySem.F.type_list_append mt_append (pe_ix (ix_tupK (K := K) rfl) (pe_ix (ix_listK (K := K) rfl) (pv 3) (pe_un un_neg pe_int) (fun _ _ => rfl)) pe_int (fun _ _ => rfl)) (pa_cons (pv 6) pa_nil))))))))
        (pss_one (ps_ret (pe_tup (pa_cons (pe_ix (ix_listK (K := K) rfl) (pe_ix (ix_listK (K := K) rfl) (pv 1) pe_int (fun _ _ => rfl)) pe_int (fun _ _ => rfl)) (pa_cons (pv 3) pa_nil)))))))))), ?_⟩
    walk_at "w"
    refine w_isStr hv ?_
    cases hs : isStrD d with
    | false =>
      walk_at "w"
      exact ⟨by show 1 ≤ 1000; omega, fun a ha => raised1 (kB hs) a ha⟩
    | true =>
    obtain ⟨x, rfl⟩ : ∃ x, d = .str x := by cases d <;> first | exact ⟨_, rfl⟩ | cases hs
    cases hv
    obtain ⟨x9, xn, xl⟩ := tx x rfl
    have wd := words_wd (tx x rfl)
    obtain ⟨kL, k⟩ := kS x rfl
    clear kB kS
    walk_at "w"
    refine w_split (by decide) (by unfold sizeLine; omega) fun p hp => ?_
    have e0 : Ex H (upd H p (.lst ((Txt.split x (Str.ofString "\n")).map V.str))) := Ex.new hp
    have fp : (upd H p (.lst ((Txt.split x (Str.ofString "\n")).map V.str))) p = some (.lst ((Txt.split x (sz "\n")).map V.str)) := upd_same
    generalize (upd H p (.lst ((Txt.split x (Str.ofString "\n")).map V.str))) = H1 at e0 fp ⊢
    walk_at "w"
    intro L hL
    refine compL (xs := (Txt.split x (sz "\n")).map V.str) (fun d r got H' => Ex H1 H' ∧ ∃ md mr, Txt.split x (sz "\n") = md ++ mr ∧ r = mr.map V.str ∧ Paired (LineX L H') got (md.map fun l => Txt.split l (sz " "))) (by rw [List.length_map]; omega) ⟨Ex.new hL, [], _, rfl, rfl, .nil⟩ (fun d r got H' _ h => SqL.of (h.1 _ _ fp)) (fun d y r got H' hd hat hgl h kk kn hk hkn => ?_) (fun got H2 hat hgl h => ?_)
    · obtain ⟨e', md, mr, ew, er, hg⟩ := h
      cases mr with
      | nil => cases er
      | cons l mr =>
        rw [List.map_cons] at er
        injection er with er1 er2
        subst er1
        have wl : l.length ≤ 900 := xl _ (by rw [ew]; simp)
        walk_at "w"
        refine w_split (by decide) (by unfold sizeLine; omega) fun p2 hp2 => ?_
        have e2 : Ex H' (upd H' p2 (.lst ((Txt.split l (Str.ofString " ")).map V.str))) := Ex.new hp2
        have hat2 := e2 _ _ hat
        refine hk _ _ hat2 ⟨fun a o h => by rw [upd_ne (ne_of_none h hL)]; exact e2 _ _ (e' _ _ h), md ++ [l], mr, by rw [ew, List.append_assoc]; rfl, er2, ?_⟩
        have np : p2 ≠ L := fun z => by rw [z, hat] at hp2; cases hp2
        rw [List.map_append]
        exact paired_app (paired_imp (fun _ _ h => (LineX.ext e2 h).put) hg) (.cons (LineX.put ⟨p2, rfl, np, upd_same⟩) .nil)
    obtain ⟨e', md, mr, ew, er, hg⟩ := h
    cases mr with
    | cons x r => cases er
    | nil =>
    rw [List.append_nil] at ew
    subst ew
    have hg : Paired (LineX L H2) got (wordsF x) := hg
    have lg := paired_len hg
    have lw : (wordsF x).length ≤ 100 := by unfold wordsF; rw [List.length_map]; exact xn
    obtain ⟨ws0, wr, ewr⟩ : ∃ ws0 wr, wordsF x = ws0 :: wr := by
      cases e : wordsF x with
      | nil =>
        unfold wordsF at e
        have := PyProof.Rows.split_pos x (sz "\n")
        have z := congrArg List.length e
        rw [List.length_map] at z
        rw [z] at this
        cases this
      | cons a r => exact ⟨a, r, rfl⟩
    have etx : textF x = linesF (ws0 :: wr) := by unfold textF; rw [ewr]
    rw [ewr] at hg wd lw
    obtain ⟨v0, gr, ⟨a0, rfl, n0, ha0⟩, hgr, rfl⟩ : ∃ v0 gr, LineX L H2 v0 ws0 ∧ Paired (LineX L H2) gr wr ∧ got = v0 :: gr := by
      cases hg with
      | cons h r => exact ⟨_, _, h, r, rfl⟩
    have lgr := paired_len hgr
    rw [List.length_cons] at lw
    obtain ⟨wd0a, wd0⟩ := wd ws0 (by simp)
    walk_at "w"
    refine w_ixL (SqL.of hat) (v := .ref a0) (atI_nat (j := 0) rfl) ?_
    walk_at "w"
    refine ⟨_, a0, ws0, rfl, SqL.of ha0, wd0.1, wd0.2, ?_⟩
    have e1' : Ex H H2 := e0.trans e'
    cases hh : headB "user" ws0 with
    | false =>
      refine ⟨false, rfl, iteNF ?_⟩
      walk_at "w"
      refine ⟨by show 1 ≤ 1000; omega, fun a ha => raised1 (fun dd H' e hdd => kL 0 ?_ dd H' (e1'.trans e) hdd) a ha⟩
      rw [etx, linesF_cons, if_neg (by rw [hh]; exact Bool.false_ne_true)]
    | true =>
    obtain ⟨u, eu, hu⟩ := head_two hh
    subst eu
    have eline : textF x = (match goF [] 1 wr with | .inl k => .inl k | .inr ts => .inr (u, ts)) := by
      rw [etx, linesF_cons, if_pos hh]
      rfl
    refine ⟨true, rfl, iteNT ?_⟩
    walk_at "w"
    intro q hq
    have e3 : Ex H2 (upd H2 q (.lst [])) := Ex.new hq
    have fq : (upd H2 q (.lst [])) q = some (.lst []) := upd_same
    generalize (upd H2 q (.lst [])) = H3 at e3 fq ⊢
    have hat3 := e3 _ _ hat
    walk_at "w"
    refine w_slL4 (SqL.of hat3) fun l hl => ?_
    rw [cut_tail]
    have e4 : Ex H3 (upd H3 l (.lst gr)) := Ex.new hl
    have fl : (upd H3 l (.lst gr)) l = some (.lst gr) := upd_same
    generalize (upd H3 l (.lst gr)) = H4 at e4 fl ⊢
    have hq4 := e4 _ _ fq
    have nlq : l ≠ q := fun z => by rw [z, fq] at hl; cases hl
    walk_at "w"
    have q2 : H2 q = none := hq
    have e1' : Ex H H2 := e0.trans e'
    have gr4 : Paired (LineX q H4) gr wr := paired_imp (fun v ws h => by
      obtain ⟨a, ev, n, ha⟩ := h
      exact ⟨a, ev, (fun z => by rw [z, q2] at ha; cases ha), e4 _ _ (e3 _ _ ha)⟩) hgr
    refine loopEk (xs := gr) (fun d r σ' H' => ExO [q] H4 H' ∧ ∃ tp ws, Paired (LineX q H4) r ws ∧ goF tp (1 + d.length) ws = goF [] 1 wr ∧ (∀ z ∈ ws, z ∈ wr) ∧ ∃ y2 x4 x5 x6 qs, σ' = [some (.str x), some (.ref L), y2, some (.ref q), x4, x5, x6] ∧ H' q = some (.lst qs) ∧ qs.length + r.length ≤ 126 ∧ (∀ t ∈ tp, t.2.length + r.length ≤ 126) ∧ RdTabs H4 H' q qs tp)
      ⟨ExO.refl, [], _, gr4, rfl, fun _ h => h, none, none, none, none, [], rfl, hq4, by rw [List.length_nil, Nat.zero_add]; rw [List.length_cons] at lg; omega, fun t h => (nomatch h), .inl ⟨rfl, rfl⟩⟩ (fun d r σ' H' _ h => SqL.of (h.1 _ _ fl (by simpa using nlq))) (fun d y r σ' H' T hd hT h => ?_) (fun σ' H' h => ?_)
    · obtain ⟨e', tp, ws, pr, le, win, y2, x4, x5, x6, qs, rfl, hq', lq, lc, rt⟩ := h
      obtain ⟨wd1, ws1, rfl, ⟨a, rfl, na, ha⟩, pr1⟩ := paired_cons pr
      obtain ⟨wne, wdo⟩ := wd wd1 (List.mem_cons_of_mem _ (win wd1 List.mem_cons_self))
      have win1 : ∀ z ∈ ws1, z ∈ wr := fun z hz => win z (List.mem_cons_of_mem _ hz)
      have eT : Ex H' (upd H' T (.tup [.int (1 + (d.length : Nat)), .ref a])) := Ex.new hT
      have fT : (upd H' T (.tup [.int (1 + (d.length : Nat)), .ref a])) T = some (.tup [.int (1 + (d.length : Nat)), .ref a]) := upd_same
      generalize (upd H' T (.tup [.int (1 + (d.length : Nat)), .ref a])) = H5 at eT fT ⊢
      have ha5 := eT _ _ (e' _ _ ha (by simpa using na))
      have hq5 := eT _ _ hq'
      have rt5 := rt.ext eT
      have e45 : ExO [q] H4 H5 := e'.trans (.of eT)
      rw [List.length_cons] at lq
      have eH5 : Ex H H5 := fun x o h => e45 _ _ (e4 _ _ (e3 _ _ (e1' _ _ h))) (by intro z; rw [List.mem_singleton.1 z] at h; rw [e1' _ _ h] at q2; cases q2)
      have new4 : ∀ {H6 : Hp} {x : Addr}, ExO [q] H4 H6 → H6 q ≠ none → H6 x = none → H4 x = none := fun {H6 x} e n hx => by
        cases h : H4 x with
        | none => rfl
        | some o =>
          by_cases z : x = q
          · rw [z] at hx; exact absurd hx n
          · have := e _ _ h (by simpa using z)
            rw [hx] at this; cases this
      have l1 : 1 + (d ++ [V.ref a]).length = 1 + d.length + 1 := by rw [List.length_append, List.length_singleton]; omega
      have bad : goF tp (1 + d.length) (wd1 :: ws1) = .inl (1 + d.length) → textF x = .inl (1 + d.length) := fun h => by rw [eline, ← le, h]
      rw [goF_cons] at le
      rw [goF_cons] at bad
      walk_at "w"
      refine ⟨_, a, wd1, rfl, SqL.of ha5, wdo.1, wdo.2, ?_⟩
      cases ht : headB "table" wd1 with
      | true =>
        obtain ⟨n, en, hn⟩ := head_two ht
        subst en
        rw [if_pos ht] at le
        have ha5 : H5 a = some (.lst [.str "table", .str n]) := ha5
        refine ⟨true, rfl, iteT ?_⟩
        walk_at "w"
        intro p hp
        have e6 : Ex H5 (upd H5 p (.lst [])) := Ex.new hp
        have fp6 : (upd H5 p (.lst [])) p = some (.lst []) := upd_same
        generalize (upd H5 p (.lst [])) = H6 at e6 fp6 ⊢
        walk_at "w"
        intro T2 hT2
        have e7 : Ex H6 (upd H6 T2 (.tup [.str n, .ref p])) := Ex.new hT2
        have fT7 : (upd H6 T2 (.tup [.str n, .ref p])) T2 = some (.tup [.str n, .ref p]) := upd_same
        generalize (upd H6 T2 (.tup [.str n, .ref p])) = H7 at e7 fT7 ⊢
        have hq7 := e7 _ _ (e6 _ _ hq5)
        walk_at "w"
        have p4 : H4 p = none := new4 e45 (by rw [hq5]; intro z; cases z) hp
        exact ⟨(e45.trans ((ExO.of e6).trans (.of e7))).put List.mem_cons_self, _, _, pr1, by rw [l1]; exact le, win1, _, _, _, _, _, rfl, upd_same, by rw [List.length_append, List.length_singleton]; omega, fun t ht => by
          rcases List.mem_append.1 ht with ht | ht
          · have := lc t ht
            rw [List.length_cons] at this
            omega
          · rw [List.mem_singleton.1 ht]
            show 0 + r.length ≤ 126
            omega, rt5.new hq5 (e6.trans e7) hp fT7 (e7 _ _ fp6) p4⟩
      | false =>
        rw [if_neg (by rw [ht]; exact Bool.false_ne_true)] at le bad
        refine ⟨false, rfl, iteF ?_⟩
        walk_at "w"
        refine ⟨a, wd1, rfl, SqL.of ha5, wne, wdo, fun v H6 e6 hv => ?_⟩
        have hq6 := e6 _ _ hq5
        cases hc : colF wd1 with
        | none =>
          rw [hc] at hv bad
          have hv : v = .non := hv
          subst hv
          walk_at "w"
          refine iteD (fun _ => ?_) (fun h => absurd rfl h)
          walk_at "w"
          refine ⟨by show 1 ≤ 1000; omega, fun a ha => raised1 (fun dd H' e hdd => kL _ (bad rfl) dd H' (eH5.trans (e6.trans e)) ?_) a ha⟩
          rw [hdd]
          congr 4
        | some c =>
        rw [hc] at hv bad le
        obtain ⟨cv, rfl, hcv⟩ := id hv
        walk_at "w"
        refine iteD (fun h => absurd h (by intro z; cases z)) (fun _ => ?_)
        rcases (show tp = [] ∨ ∃ td t, tp = td ++ [t] by rcases List.eq_nil_or_concat tp with h | ⟨td, t, h⟩; exact .inl h; exact .inr ⟨td, t, by rw [h, List.concat_eq_append]⟩) with rfl | ⟨td, ⟨n, ci⟩, rfl⟩
        · have eq0 : qs = [] := by
            rcases rt5 with ⟨_, h⟩ | ⟨_, _, _, _, _, _, _, e, _⟩
            · exact h
            · exact absurd (congrArg List.length e) (by simp)
          subst eq0
          have bad := bad (if_pos rfl)
          walk_at "w"
          refine iteT ?_
          walk_at "w"
          refine ⟨by show 1 ≤ 1000; omega, fun a ha => raised1 (fun dd H' e hdd => kL _ bad dd H' (eH5.trans (e6.trans e)) ?_) a ha⟩
          rw [hdd]
          congr 4
        · have le : goF (addLast c (td ++ [(n, ci)])) (1 + d.length + 1) ws1 = goF [] 1 wr := by
            rw [← le]
            exact (if_neg (by simp)).symm
          rw [addLast_app] at le
          obtain ⟨qd, at_, pl, cvs, rfl, hat_, hpl, lcv, pl4, npl, add⟩ := rt5.add hq5
          have hat6 := e6 _ _ hat_
          have hpl6 := e6 _ _ hpl
          have lcd := lc (n, ci) (by simp)
          rw [List.length_cons] at lcd
          walk_at "w"
          rw [show (!(qd ++ [V.ref at_]).isEmpty) = true by simp]
          refine iteNT ?_
          walk_at "w"
          refine w_ixL (SqL.of hq6) (L2.atI_last qd _) ?_
          walk_at "w"
          have lcd : ci.length + (r.length + 1) ≤ 126 := lcd
          refine w_app hpl6 (by unfold sizeLine; omega) ?_
          refine ⟨(e45.trans (.of e6)).mut pl4, _, _, pr1, by rw [l1]; exact le, win1, _, _, _, _, _, rfl, by rw [upd_ne (Ne.symm npl)]; exact hq6, by omega, fun t ht => ?_, add _ _ c e6 hv⟩
          rcases List.mem_append.1 ht with ht | ht
          · have := lc t (List.mem_append.mpr (.inl ht))
            rw [List.length_cons] at this
            omega
          · rw [List.mem_singleton.1 ht]
            show (ci ++ [c]).length + r.length ≤ 126
            rw [List.length_append,
                    List.length_singleton]
            omega
    · obtain ⟨e', tp, ws, pr, le, win, y2, x4, x5, x6, qs, rfl, hq', lq, lc, rt⟩ := h
      cases pr
      have le : Sum.inr tp = goF [] 1 wr := le
      rw [← le] at eline
      have hL' := e' _ _ (e4 _ _ hat3) (by intro z; rw [List.mem_singleton.1 z, q2] at hat; cases hat)
      have ha0' := e' _ _ (e4 _ _ (e3 _ _ ha0)) (by intro z; rw [List.mem_singleton.1 z, q2] at ha0; cases ha0)
      walk_at "w"
      refine w_ixL (SqL.of hL') (v := .ref a0) (atI_nat (j := 0) rfl) ?_
      walk_at "w"
      intro T hT
      have eH : Ex H H' := fun x o h => e' _ _ (e4 _ _ (e3 _ _ (e1' _ _ h))) (by intro z; rw [List.mem_singleton.1 z] at h; rw [e1' _ _ h] at q2; cases q2)
      exact k u tp eline T q _ (eH.trans (Ex.new hT)) upd_same ⟨qs, (Ex.new hT) _ _ hq', rt.tabs.ext (Ex.new hT)⟩
end
end LP
namespace LP
open PySem L2
open Evl (Ex)
def datas (ts : Tabs) : List (PyData × List PyData) := ts.map fun t => (PyData.str t.1, t.2.map Col.data)
theorem takeF_cols {t : Str} {m : List (Str × Lists)} {ts : Tabs} : ∀ {cs md r : List Col}, takeF t m ts md (cs.map Col.data) = .inr r → r = md ++ cs
  | [], md, r, h => by
    rw [List.append_nil]
    exact (Sum.inr.inj h).symm
  | c :: cs, md, r, h => by
    rw [List.map_cons] at h
    cases hb : colB (md.map Col.name) (md.foldl (addCol t) m) ts c.data with
    | false =>
      rw [takeF_no hb] at h
      cases h
    | true =>
      rw [takeF_cons hb (colOf_data c)] at h
      rw [takeF_cols h, List.append_assoc]
      rfl
theorem tabsF_cols : ∀ {ts td r : Tabs}, tabsF td (datas ts) = .inr r → r = td ++ ts
  | [], td, r, h => by
    rw [List.append_nil]
    exact (Sum.inr.inj h).symm
  | t :: ts, td, r, h => by
    have h : (if (nmOk td (.str t.1) && decide ((t.2.map Col.data).length ≤ 6)) = true then (match takeF t.1 (mirOf td) td [] (t.2.map Col.data) with
      | .inl j => .inl (td.length, some j)
      | .inr cs => match brk td cs with
        | some j => .inl (td.length, some j)
        | none => tabsF (td ++ [(t.1, cs)]) (datas ts)) else .inl (td.length, none)) = Sum.inr r := h
    by_cases q : (nmOk td (.str t.1) && decide ((t.2.map Col.data).length ≤ 6)) = true
    · rw [if_pos q] at h
      cases e : takeF t.1 (mirOf td) td [] (t.2.map Col.data) with
      | inl j =>
        rw [e] at h
        cases h
      | inr cs =>
        rw [e] at h
        have ecs : cs = t.2 := takeF_cols e
        subst ecs
        dsimp only at h
        cases b : brk td t.2 with
        | some j =>
          rw [b] at h
          cases h
        | none =>
          rw [b] at h
          have := tabsF_cols (ts := ts) (td := td ++ [(t.1, t.2)]) h
          rw [this, List.append_assoc]
          rfl
    · rw [if_neg q] at h
      cases h
/-- texts in a column are short -/
def ColSz (c : Col) : Prop := ∀ y ∈ c.ds, ∀ x, y = .str x → x.length ≤ 4000
def TSz (n : Nat) (ts : Tabs) : Prop := ts.length ≤ n ∧ ∀ t ∈ ts, t.1.length ≤ 4000 ∧ t.2.length ≤ n ∧ ∀ c ∈ t.2, ColSz c
theorem kind_sz : ∀ k ∈ (["flag", "number", "word", "link"] : List Str), k.length ≤ 4000 := by decide +kernel
theorem sz_plain {f : Bool} {n : Str} (h : n.length ≤ 4000) : ColSz (.plain f n) := by
  intro y hy x e
  subst e
  simp only [Col.ds, List.mem_cons, List.not_mem_nil, or_false, PyData.str.injEq] at hy
  rcases hy with rfl | rfl
  · cases f
    · exact kind_sz _ (by simp)
    · exact kind_sz _ (by simp)
  · exact h
theorem sz_word {n : Str} {o : Bool} (h : n.length ≤ 4000) : ColSz (.word n o) := by
  intro y hy x e
  subst e
  simp only [Col.ds, List.mem_cons, List.not_mem_nil, or_false, PyData.str.injEq, reduceCtorEq] at hy
  rcases hy with rfl | rfl
  · exact kind_sz _ (by simp)
  · exact h
theorem sz_link {n t : Str} {o : Bool} {l : Option Str} (h : n.length ≤ 4000) (ht : t.length ≤ 4000) (hl : ∀ z, l = some z → z.length ≤ 4000) : ColSz (.link n t o l) := by
  intro y hy x e
  subst e
  cases l with
  | none =>
    simp only [Col.ds, dOpt, List.mem_cons, List.not_mem_nil, or_false, PyData.str.injEq, reduceCtorEq] at hy
    rcases hy with rfl | rfl | rfl
    · exact kind_sz _ (by simp)
    · exact h
    · exact ht
  | some z =>
    simp only [Col.ds, dOpt, List.mem_cons, List.not_mem_nil, or_false, false_or, PyData.str.injEq, reduceCtorEq] at hy
    rcases hy with rfl | rfl | rfl | rfl
    · exact kind_sz _ (by simp)
    · exact h
    · exact ht
    · exact hl _ rfl
theorem linkF_sz {nm : Str} {o : Bool} {ws : List Str} {c : Col} (hn : nm.length ≤ 4000) (hw : WdOk ws) (h : linkF nm o ws = some c) : ColSz c := by
  unfold linkF at h
  split at h
  · rename_i a t
    split at h
    · cases h
      exact sz_link hn (hw.2 t (by simp)) fun z e => nomatch e
    · cases h
  · rename_i a t b l
    split at h
    · cases h
      refine sz_link hn (hw.2 t (by simp)) fun z e => ?_
      cases e
      exact hw.2 _ (by simp)
    · cases h
  · cases h
theorem colF_sz {ws : List Str} {c : Col} (hw : WdOk ws) (h : colF ws = some c) : ColSz c := by
  cases ws with
  | nil => cases h
  | cons k r =>
    rw [colF_cons] at h
    by_cases h1 : k = "flag" ∨ k = "number"
    · rw [if_pos h1] at h
      match r, h, hw with
      | [n], h, hw =>
        have h : (if lettersB n = true then some (Col.plain (decide (k = "flag")) n) else none) = some c := h
        by_cases q : lettersB n = true
        · rw [if_pos q] at h
          cases h
          exact sz_plain (hw.2 n (by simp))
        · rw [if_neg q] at h
          cases h
      | [], h, _ => cases h
      | _ :: _ :: _, h, _ => cases h
    · rw [if_neg h1] at h
      by_cases h2 : k = "word" ∨ k = "link"
      · rw [if_neg (by rw [Classical.not_not]; exact h2)] at h
        cases r with
        | nil => cases h
        | cons n r2 =>
          have hn : (baseN n).length ≤ 4000 := Nat.le_trans (base_len n) (hw.2 n (by simp))
          have h : (if lettersB (baseN n) = true then (if k = "link" then linkF (baseN n) (openN n) (k :: n :: r2) else if r2 = [] then some (.word (baseN n) (openN n)) else none) else none) = some c := h
          by_cases q : lettersB (baseN n) = true
          · rw [if_pos q] at h
            by_cases q2 : k = "link"
            · rw [if_pos q2] at h
              exact linkF_sz hn hw h
            · rw [if_neg q2] at h
              by_cases q3 : r2 = []
              · rw [if_pos q3] at h
                cases h
                exact sz_word hn
              · rw [if_neg q3] at h
                cases h
          · rw [if_neg q] at h
            cases h
      · rw [if_pos h2] at h
        cases h
theorem TSz.mono {n m : Nat} {ts : Tabs} (h : TSz n ts) (q : n ≤ m) : TSz m ts := ⟨Nat.le_trans h.1 q, fun t ht => ⟨(h.2 t ht).1, Nat.le_trans (h.2 t ht).2.1 q, (h.2 t ht).2.2⟩⟩
theorem goF_sz : ∀ {ws : List (List Str)} {n k : Nat} {ts r : Tabs}, TSz n ts → (∀ w ∈ ws, WdOk w) → goF ts k ws = .inr r → TSz (n + ws.length) r
  | [], n, k, ts, r, h, _, e => by
    have e : ts = r := Sum.inr.inj e
    rw [← e]
    exact h
  | w :: ws, n, k, ts, r, h, hw, e => by
    rw [goF_cons] at e
    have hw1 := hw w (by simp)
    have hw2 : ∀ w ∈ ws, WdOk w := fun x hx => hw x (List.mem_cons_of_mem _ hx)
    have fin : ∀ {ts' : Tabs}, TSz (n + 1) ts' → goF ts' (k + 1) ws = .inr r → TSz (n + (w :: ws).length) r := fun h' e' => by
      have := goF_sz h' hw2 e'
      refine this.mono ?_
      rw [List.length_cons]
      omega
    by_cases ht : headB "table" w = true
    · rw [if_pos ht] at e
      obtain ⟨nn, ew, _⟩ := head_two ht
      refine fin ⟨?_, fun t h' => ?_⟩ e
      · have := h.1
        rw [List.length_append,
                List.length_singleton]
        omega
      · rcases List.mem_append.1 h' with h' | h'
        · exact (h.mono (Nat.le_succ n)).2 t h'
        · rw [List.mem_singleton.1 h', ew]
          exact ⟨hw1.2 nn (by rw [ew]; simp), Nat.zero_le _, fun c hc => nomatch hc⟩
    · rw [if_neg ht] at e
      cases hc : colF w with
      | none =>
        rw [hc] at e
        cases e
      | some c =>
        rw [hc] at e
        have e : (if ts = [] then Sum.inl k else goF (addLast c ts) (k + 1) ws) = Sum.inr r := e
        by_cases q : ts = []
        · rw [if_pos q] at e
          cases e
        · rw [if_neg q] at e
          obtain ⟨td, t, etd⟩ : ∃ td t, ts = td ++ [t] := by
            rcases List.eq_nil_or_concat ts with h | ⟨td, t, h⟩
            · exact absurd h q
            · exact ⟨td, t, by rw [h, List.concat_eq_append]⟩
          subst etd
          rw [addLast_app] at e
          refine fin ⟨?_, fun t' h' => ?_⟩ e
          · have := h.1
            rw [List.length_append, List.length_singleton] at this ⊢
            omega
          · rcases List.mem_append.1 h' with h' | h'
            · exact (h.mono (Nat.le_succ n)).2 t' (List.mem_append.mpr (.inl h'))
            · rw [List.mem_singleton.1 h']
              obtain ⟨a1, a2, a3⟩ := h.2 t (by simp)
              refine ⟨a1, ?_, fun c' hc' => ?_⟩
              · show (t.2 ++ [c]).length ≤ n + 1
                rw [List.length_append,
                        List.length_singleton]
                omega
              · rcases List.mem_append.1 hc' with hc' | hc'
                · exact a3 c' hc'
                · rw [List.mem_singleton.1 hc']
                  exact colF_sz hw1 hc
theorem textF_sz {x : Str} {u : Str} {ts : Tabs} (h : TxOk x) (e : textF x = .inr (u, ts)) : TSz 100 ts ∧ lettersB u = true := by
  have wd := words_wd h
  have lw : (wordsF x).length ≤ 100 := by unfold wordsF; rw [List.length_map]; exact h.2.1
  unfold textF at e
  cases ew : wordsF x with
  | nil =>
    rw [ew] at e
    cases e
  | cons w r =>
    rw [ew] at e wd lw
    rw [linesF_cons] at e
    by_cases q : headB "user" w = true
    · rw [if_pos q] at e
      obtain ⟨nn, en, hn⟩ := head_two q
      cases eg : goF [] 1 r with
      | inl k =>
        rw [eg] at e
        cases e
      | inr ts2 =>
        rw [eg] at e
        have e : Sum.inr (w.getD 1 "", ts2) = (Sum.inr (u, ts) : Sum Nat (Str × Tabs)) := e
        have e := Sum.inr.inj e
        injection e with e1 e2
        subst e2
        have := goF_sz (n := 0) (ts := []) ⟨Nat.le_refl 0, fun t h => nomatch h⟩ (fun w hw => (wd w (List.mem_cons_of_mem _ hw)).2) eg
        rw [List.length_cons] at lw
        refine ⟨this.mono (by omega), ?_⟩
        rw [← e1, en]
        exact hn
    · rw [if_neg q] at e
      cases e
theorem ColAt.colD5 {K : PySem.W.Frag} {H : Hp} {v : V} {c : Col} (h : ColAt H v c) (hz : ColSz c) : ColD K H v c.data := by
  refine ⟨h.dp, fun xs e => ?_, fun c' e => ?_⟩
  · have e : c.ds = xs := by injection e
    rw [← e]
    exact hz
  · obtain ⟨a, rfl, ha⟩ := h
    have e : c = c' := Option.some.inj ((colOf_data c).symm.trans ((congrArg colOf e).trans (colOf_data c')))
    rw [← e]
    exact ⟨a, rfl, ha⟩
theorem cols_colD {K : PySem.W.Frag} {H : Hp} {vs : List V} {cs : List Col} (h : ColsV H vs cs) (hz : ∀ c ∈ cs, ColSz c) : Paired (ColD K H) vs (cs.map Col.data) := by
  induction h with
  | nil => exact .nil
  | cons h _ ih => exact .cons (h.colD5 (hz _ List.mem_cons_self)) (ih fun c hc => hz c (List.mem_cons_of_mem _ hc))
theorem tabs_tabD {K : PySem.W.Frag} {H : Hp} {n : Nat} {vs : List V} {ts : Tabs} (h : TabsV H vs ts) (hz : TSz n ts) : Paired (TabD K H) vs (datas ts) := by
  have key : ∀ {vs : List V} {ts : Tabs}, TabsV H vs ts → (∀ t ∈ ts, t.1.length ≤ 4000 ∧ ∀ c ∈ t.2, ColSz c) → Paired (TabD K H) vs (datas ts) := fun {vs ts} h => by
    induction h with
    | nil => exact fun _ => .nil
    | @cons v t _ _ h _ ih =>
      intro hz
      obtain ⟨a, p, rfl, ha, cvs, hp, hc⟩ := h
      obtain ⟨z1, z2⟩ := hz t List.mem_cons_self
      exact .cons ⟨a, p, cvs, .str t.1, rfl, SqT.of ha, .str _, fun y e => by cases e; exact z1, SqL.of hp, cols_colD hc z2⟩ (ih fun t ht => hz t (List.mem_cons_of_mem _ ht))
  exact key h fun t ht => ⟨(hz.2 t ht).1, (hz.2 t ht).2.2⟩
theorem datas_len {n : Nat} {ts : Tabs} (h : TSz n ts) : (datas ts).length ≤ n ∧ ∀ x ∈ datas ts, x.2.length ≤ n := by
  refine ⟨by unfold datas; rw [List.length_map]; exact h.1, fun x hx => ?_⟩
  obtain ⟨t, ht, rfl⟩ := List.mem_map.mp hx
  show (t.2.map Col.data).length ≤ n
  rw [List.length_map]
  exact (h.2 t ht).2.1
end LP
namespace LP
open PySem.Spec PyProof.Rows PySem L2
open Evl (Ex)
/-- a classmethod that may raise -/
structure CCalX (P : Program) (w : World) (K : PySem.W.Frag) (mg : Str → Option Value) (base : Heap) (k : Nat) (C : Addr) (mc : Value) (m : Str) (sp : Sp) : Prop where
  ex : ∃ (p g : Addr) (fd : FuncData) (ps : List Str), ClX.CRead K C mc ∧ ClX.CMet K C mc m p g ∧ FnOk P w K mg base (L2.CX P w) k g fd ps sp ∧ Binds K fd ps []
section
variable {X : Cx} {k j i : Nat} {C : Addr} {x m : Str} {sp : Sp} {p pos apos : Pos} {e o : Expr} {es : List Expr} {ta : TE} {t : TA} {mc : Value} {E : XK} {pl : Sem Bool}
theorem pe_cmX (c : CCalX X.prog X.w X.K X.mg X.base k C mc m sp) (hr : Room j X.A) (hk : k ≤ j) (hx : Passes (L2.CX X.prog X.w) X E) (he : PE X o ta) (ha : PA X (e :: es) t)
    (hst : starEach
            (e :: es) X.env = (false, eval e X.env) :: starEach es X.env := by rfl) (hpl : (backTo pos (starEach es X.env)).any (·.1) = false := by rfl)
    (ht : eval (.Call (.Attribute o m apos) (e :: es) [] pos) X.env = (do let ov ← eval o X.env; standAt apos.atName; let (f, first) ← holding [ov] (getMethod ov m pl); callWith pos f first (backTo pos (starEach (e :: es) X.env)) (backToKw pos (keywordEach [] X.env))) := by rfl) :
    PE X (.Call (.Attribute o m apos) (e :: es) [] pos) (ClX.tCMeth C sp E ta t) := by
  obtain ⟨q, g, fd, ps, r, c1, F, b⟩ := c.ex
  have F2 : FnR X.prog X.w X.K X.mg X.base (L2.CX X.prog X.w) k g sp := (FnOk.raw F b .nil).imp fun vs H Q E h => by rw [List.append_nil]; exact h
  exact ClX.pe_cmeth (pl := pl) he r c1 F2 (hr.mono hk) hx ha hst hpl ht
theorem pe_mkLX (c : MakX X.prog X.w X.K X.mg X.base k x C sp) (hr : Room j X.A) (hk : k + 1 ≤ j) (hx : Passes (L2.CX X.prog X.w) X E) {y : Str} (hN : X.N[i]? = some y) (hv : Vis X.env.scope y) (ha : PA X (e :: es) t)
    (hdb : (y == ("__debug__" : Str)) = false := by decide) (hcd : (y == ("__classdict__" : Str)) = false := by decide) (he : starEach (e :: es) X.env = (false, eval e X.env) :: starEach es X.env := by rfl) (hpl : (backTo pos (starEach es X.env)).any (·.1) = false := by rfl) :
    PE X (.Call (.Name y p) (e :: es) [] pos) (tMakeL i C sp [] E t) := by
  obtain ⟨f, fd, ps, M, F, hm, b⟩ := c.ex
  refine ⟨fun pins s σ H Q I h => ?_⟩; obtain ⟨hs, ht⟩ := h
  refine wpAny_Call_Name_kw (thn ((pe_var (pos := p) hN hv hdb hcd).run pins s σ H (fun v H1 => v = .ref C ∧ H1 = H) I ⟨.ref C, hs, rfl, rfl⟩) fun u s1 ⟨v, H1, I1, r1, q1⟩ => ?_)
  obtain ⟨rfl, rfl⟩ := q1
  cases r1
  refine PySem.W.callWith_K (h₀ := X.base) I.ok.mod.kin M.kp (thn (ha.run pos pins s1 σ _ _ I1 ht) fun us s2 ⟨vs, H2, I2, r, q⟩ => ⟨I2.kIn, ?_⟩) he hpl
  exact run_make M F (hr.mono hk) b .nil hx I2 r q
end
def spReadG (K : PySem.W.Frag) (C CB CL : Addr) : Sp := fun vs H Q E => ∃ (v : V) (d : PyData), vs = [.ref C, v] ∧ Dp K H v d ∧ (∀ x, d = .str x → TxOk x) ∧ (isStrD d = false → Bad1 CL "line" (.int (-1)) H E) ∧
  ∀ x, d = .str x → (∀ k, textF x = .inl k → Bad1 CL "line" (.int (k : Nat)) H E) ∧ ∀ u ts, textF x = .inr (u, ts) → (∀ k i, initF (.str u) (datas ts) = some (k, i) → Bad2 CB "table" "column" (.int k) (.int i) H E) ∧
    (initF (.str u) (datas ts) = none → ∀ (z : Addr) (H' : Hp), Ex H H' → SchAt C H' z u ts → Q (.ref z) H')
section
variable {base : Heap} {mg : Str → Option Value} {K : PySem.W.Frag} {w : World} {P : Program} {C CB CL : Addr}
theorem ok_readG {f : Addr} {fd : FuncData} (F : C8.Fun K "read" "Schema.read" s_Schema_read f fd) (B : Blt mg)
    (c_read_lines : CalX P w K mg base 4 "read_lines" (spReadLinesG K CL)) (m_Schema : MakX P w K mg base 7 "Schema" C (spInitG K C CB)) : FnOk P w K mg base (L2.CX P w) 9 f fd ["cls", "text"] (spReadG K C CB CL) := by
  have sc : FnScope ["cls", "text", "user", "tables"] ["cls", "text"] (C8.fnScope s_Schema_read) := C8.fnScope_by (by decide +kernel)
  refine fnX F sc (fun vs H Q E h => ?_) (fun cdv A outer s H vs Q E hr h => ?_)
  · obtain ⟨_, _, rfl, _⟩ := h
    rfl
  · obtain ⟨v, d, rfl, hv, tx, kB, kS⟩ := h
    refine ⟨_, (pss_cons (ps_asg ((pe_cx c_read_lines hr (by decide) (passE (takes_of rfl rfl rfl rfl)) rfl (pa_cons (pv 1) pa_nil))) (pg_tupK (K := K) (n := 2) rfl rfl (pgs_cons (pg_name (i := 2) sc.nd rfl (Or.inl rfl)) (pgs_cons (pg_name (i := 3) sc.nd rfl (Or.inl rfl)) pgs_nil))))
        (pss_one (ps_ret ((pe_mkLX (i := 0) m_Schema hr (by decide) (passE (takes_of rfl rfl rfl rfl)) rfl (Or.inl rfl) (pa_cons (pv 2) (pa_cons (pv 3) pa_nil))))))), ?_⟩
    walk_at "w"
    refine ⟨v, d, rfl, hv, tx, kB, fun x ex => ⟨fun k ek => (kS x ex).1 k ek, fun u ts et T q H1 e1 hT ht => ?_⟩⟩
    obtain ⟨k1, k2⟩ := (kS x ex).2 u ts et
    obtain ⟨tsz, hu⟩ := textF_sz (tx x ex) et
    obtain ⟨dl1, dl2⟩ := datas_len tsz
    obtain ⟨tvs, hq, htv⟩ := ht
    walk_at "w"
    intro z dz hz hdz hnz
    have eNz : Ex H1 (upd (upd H1 dz (.own z)) z (.ins C dz [])) := (Ex.new hdz).trans (Ex.new (by rw [upd_ne (Ne.symm hnz)]; exact hz))
    have back : ∀ {H6 : Hp}, ExO [z] (upd (upd H1 dz (.own z)) z (.ins C dz [])) H6 → Ex H H6 := fun hO c o h => hO c o (eNz c o (e1 c o h)) fun w => by rw [List.mem_singleton.mp w] at h; rw [e1 _ _ h] at hz; cases hz
    refine ⟨z, q, dz, .str u, .str u, tvs, datas ts, rfl, upd_same, SqL.of (eNz _ _ hq), tabs_tabD (TabsV.ext eNz htv) tsz, by omega, fun x hx => Nat.le_trans (dl2 x hx) (by omega), .str u, fun u' ts' eu et' _ hi H6 hO hS => ⟨rfl, ?_⟩, fun kk i hi dd H6 hO h6 => k1 kk i hi dd H6 (back hO) h6⟩
    cases eu
    have ets : ts' = ts := tabsF_cols et'
    subst ets
    exact k2 hi z H6 (back hO) hS
end
end LP
namespace LP
open PySem L2
open Evl (Ex)
inductive Rd where
  | head (k n : Str)
  | col (c : Col)
def lineF (ws : List Str) : Option Rd := match ws with
  | [k, n] => if k = "user" ∨ k = "table" then (if lettersB n = true then some (.head k n) else none) else (colF ws).map .col
  | _ => (colF ws).map .col
def RdAt (H : Hp) (v : V) : Option Rd → Prop
  | none => v = .non
  | some (.head k n) => ∃ T, v = .ref T ∧ H T = some (.tup [.str k, .str n])
  | some (.col c) => ColAt H v c
theorem RdAt.ext {H H' : Hp} (e : Ex H H') {v : V} {o : Option Rd} (h : RdAt H v o) : RdAt H' v o := by
  cases o with
  | none => exact h
  | some r =>
    cases r with
    | head k n =>
      obtain ⟨T, ev, hT⟩ := h
      exact ⟨T, ev, e _ _ hT⟩
    | col c => exact ColAt.ext e h
theorem heads_ne : ¬ (("user" : Str) = "table") ∧ ¬ (("user" : Str) = "flag" ∨ ("user" : Str) = "number") ∧ ¬ (("table" : Str) = "flag" ∨ ("table" : Str) = "number") ∧ ¬ (("user" : Str) = "word" ∨ ("user" : Str) = "link") ∧ ¬ (("table" : Str) = "word" ∨ ("table" : Str) = "link") ∧
    ¬ (("word" : Str) = "flag" ∨ ("word" : Str) = "number") ∧ ¬ (("link" : Str) = "flag" ∨ ("link" : Str) = "number") ∧ ¬ (("word" : Str) = "link") := by decide +kernel
theorem colF_head {k : Str} (h : k = "user" ∨ k = "table") (r : List Str) : colF (k :: r) = none := by
  rw [colF_cons]
  rcases h with rfl | rfl
  · rw [if_neg heads_ne.2.1, if_pos heads_ne.2.2.2.1]
  · rw [if_neg heads_ne.2.2.1, if_pos heads_ne.2.2.2.2.1]
theorem lineF_cases (ws : List Str) : (∃ k n, lineF ws = some (.head k n) ∧ (k = "user" ∨ k = "table") ∧ ws = [k, n] ∧ lettersB n = true ∧ ∀ q, headB q ws = decide (k = q)) ∨ (headB "user" ws = false ∧ headB "table" ws = false ∧ lineF ws = (colF ws).map .col) := by
  have no : ∀ q, (∀ k n, ws ≠ [k, n]) → headB q ws = false := fun q h => by
    cases e : headB q ws with
    | false => rfl
    | true =>
      obtain ⟨n, ew, _⟩ := head_two e
      exact absurd ew (h _ _)
  match ws, no with
  | [k, n], _ =>
    by_cases h : k = "user" ∨ k = "table"
    · cases hn : lettersB n with
      | true =>
        refine .inl ⟨k, n, ?_, h, rfl, hn, fun q => ?_⟩
        · show (if k = "user" ∨ k = "table" then (if lettersB n = true then some (Rd.head k n) else none) else _) = _
          rw [if_pos h, if_pos hn]
        · show (decide (k = q) && lettersB n) = _
          rw [hn, Bool.and_true]
      | false =>
        have z : ∀ q, headB q [k, n] = false := fun q => by
          show (decide (k = q) && lettersB n) = false
          rw [hn, Bool.and_false]
        refine .inr ⟨z _, z _, ?_⟩
        show (if k = "user" ∨ k = "table" then (if lettersB n = true then some (Rd.head k n) else none) else _) = _
        rw [if_pos h, if_neg (by rw [hn]; exact Bool.false_ne_true), colF_head h]
        rfl
    · have z : ∀ q : Str, (q = "user" ∨ q = "table") → headB q [k, n] = false := fun q hq => by
        show (decide (k = q) && lettersB n) = false
        rw [decide_eq_false (fun e => h (by rw [e]; exact hq)), Bool.false_and]
      refine .inr ⟨z _ (.inl rfl), z _ (.inr rfl), ?_⟩
      show (if k = "user" ∨ k = "table" then (if lettersB n = true then some (Rd.head k n) else none) else _) = _
      rw [if_neg h]
  | [], no => exact .inr ⟨no _ (fun _ _ e => nomatch e), no _ (fun _ _ e => nomatch e), rfl⟩
  | [_], no => exact .inr ⟨no _ (fun _ _ e => nomatch e), no _ (fun _ _ e => nomatch e), rfl⟩
  | _ :: _ :: _ :: _, no => exact .inr ⟨no _ (fun _ _ e => nomatch e), no _ (fun _ _ e => nomatch e), rfl⟩
def spLet : Sp := fun vs H Q _ => ∃ x : Str, vs = [.str x] ∧ x.length ≤ 4000 ∧ ∀ H', Ex H H' → Q (.bl (lettersB x)) H'
def spLawRead : Sp := fun vs H Q _ => ∃ x : Str, vs = [.str x] ∧ x.length ≤ 900 ∧ ∀ (v : V) (H' : Hp), Ex H H' → RdAt H' v (lineF (Txt.split x (sz " "))) → Q v H'
theorem joinV5 {c : Bool} {te tf : TE} {σ : L2.St} {H : Hp} {k : VK} {R : V → Hp → Prop} (h1 : c = true → ∀ k' : VK, (∀ v H', R v H' → k' v H') → te σ H k') (h2 : c = false → ∀ k' : VK, (∀ v H', R v H' → k' v H') → tf σ H k') (h : ∀ v H', R v H' → k v H') : if c = true then te σ H k else tf σ H k := by
  cases c with
  | true => exact h1 rfl k h
  | false => exact h2 rfl k h
theorem open_no {x : Str} (h : openN x = false) : baseN x = x := by
  unfold openN at h
  rw [Bool.not_eq_false'] at h
  exact of_decide_eq_true h
section
variable {base : Heap} {mg : Str → Option Value} {K : PySem.W.Frag} {w : World} {P : Program}
theorem ok_lawletters {f : Addr} {fd : FuncData} (D : C8.Def K mg "_law_is_letters" s__law_is_letters f fd) (b : Binds K fd ["word"] []) (B : Blt mg) : C8.Cal P w K mg base 1 "_law_is_letters" spLet [] := by
  have sc : FnScope ["word", "letter"] ["word"] (C8.fnScope s__law_is_letters) := C8.fnScope_by (by decide +kernel)
  refine C8.cal0 D b .nil sc (fun vs H Q E h => ?_) (fun cdv A outer s H vs Q E hr h => ?_)
  · obtain ⟨_, rfl, _⟩ := h
    rfl
  · obtain ⟨x, rfl, hl, k⟩ := h
    refine ⟨_, (pss_one (ps_ret (pe_and (pe_cmpR op_ne (pv 0) pe_str (nomark _)) (pe_one (pe_callB (cr_allK (K := K) rfl rfl) (by rfl) B.all_ (by decide +kernel) (pa_cons (pe_lc (own := [("letter", 1)]) (g := (gName 1)) (by rfl) sc.nd (pi_str (pv 0)) (blkOk_by (own := [("letter", 1)]) (N := ["word", "letter"]) (sc := C8.fnScope s__law_is_letters) (by decide +kernel)) (fun _ _ _ _ _ => (pg_name (i := 1) sc.nd rfl (Or.inl rfl))) (fun _ _ _ _ _ => pts_nil) (fun _ _ _ _ _ => (pe_cmpR op_in_sign' (pv 1) pe_str rfl))) pa_nil)))))), ?_⟩
    walk_at "w"
    refine iteND (fun h1 => ?_) (fun h1 => ?_)
    · walk_at "w"
      intro D hD
      refine compS (fun c => V.bl (decide (97 ≤ c ∧ c ≤ 122))) hD (by omega) (fun c hc H3 e3 kk kn hk => ?_) (fun H3 e3 ha => ?_)
      · walk_at "w"
        have := hk _ (Ex.refl _)
        rw [show decide (c ∈ (Str.ofString "abcdefghijklmnopqrstuvwxyz").cps.toList) = decide (97 ≤ c ∧ c ≤ 122) by rw [decide_eq_decide]; exact mem_letters c]
        exact this
      · have e1 : x.cps.toList.map (fun c => V.bl (decide (97 ≤ c ∧ c ≤ 122))) = (x.cps.toList.map fun c => decide (97 ≤ c ∧ c ≤ 122)).map V.bl := by rw [List.map_map]; rfl
        refine w_all (SqL.of (e1 ▸ ha)) ?_
        have ne : 1 ≤ x.length := by
          by_cases z : 1 ≤ x.length
          · exact z
          · refine absurd (congrArg V.str (TL.ext_tl ?_)) h1
            rw [show TL.tl (Str.ofString "") = [] by decide +kernel]
            exact List.eq_nil_of_length_eq_zero (by rw [← TL.len_tl]; omega)
        have e2 : ((x.cps.toList.map fun c => decide (97 ≤ c ∧ c ≤ 122)).all id) = lettersB x := by
          rw [Bool.eq_iff_iff, lettersB_iff, List.all_eq_true]
          constructor
          · intro h
            refine ⟨ne, fun c hc => ?_⟩
            have := h _ (List.mem_map_of_mem hc)
            simpa using this
          · intro h y hy
            obtain ⟨c, hc, rfl⟩ := List.mem_map.mp hy
            have := h.2 c hc
            simpa using this
        rw [e2]
        exact k _ e3
    · rw [show lettersB x = false by
        cases e : lettersB x with
        | false => rfl
        | true =>
          have := ((lettersB_iff x).mp e).1
          have h1 : x = "" := V.str.inj h1
          rw [h1] at this
          exact absurd this (by decide +kernel)] at k
      walk_at "w"
      exact k _ (Ex.refl _)
theorem ok_law_read {f : Addr} {fd : FuncData} (D : C8.Def K mg "_law_read" s__law_read f fd) (b : Binds K fd ["line"] []) (B : Blt mg) (c__law_is_letters : C8.Cal P w K mg base 1 "_law_is_letters" spLet []) : C8.Cal P w K mg base 2 "_law_read" spLawRead [] := by
  have sc : FnScope ["line", "words", "is_open", "name"] ["line"] (C8.fnScope s__law_read) := C8.fnScope_by (by decide +kernel)
  refine C8.cal0 D b .nil sc (fun vs H Q E h => ?_) (fun cdv A outer s H vs Q E hr h => ?_)
  · obtain ⟨_, rfl, _⟩ := h
    rfl
  · obtain ⟨x, rfl, hl, k⟩ := h
    refine ⟨_, (pss_cons (ps_set (i := 1) sc.nd rfl (Or.inl rfl) (pe_split' (pv 0) pe_str))
        (C8.pss_cut (ps_if (PW.pt (pw_and (pt_cmpR op_eq (pe_callB (call_len_seqK (K := K) rfl) (by rfl) B.len_ (by decide +kernel) (pa_cons (pv 1) pa_nil)) pe_int (nomark _)) (pw_and (pt_cmpR (op_in_seqK (K := K) rfl) (pe_ix (ix_listK (K := K) rfl) (pv 1) pe_int (fun _ _ => rfl)) (pe_tup (pa_cons pe_str (pa_cons pe_str (pa_cons pe_str (pa_cons pe_str pa_nil))))) (by rfl)) (pw_and1 (pt_val (C8.pe_c c__law_is_letters hr (by decide) rfl (pa_cons (pe_ix (ix_listK (K := K) rfl) (pv 1) pe_int (fun _ _ => rfl)) pa_nil)))))))
        (pss_one (ps_ret (pe_tup (pa_cons (pe_ix (ix_listK (K := K) rfl) (pv 1) pe_int (fun _ _ => rfl)) (pa_cons (pe_ix (ix_listK (K := K) rfl) (pv 1) pe_int (fun _ _ => rfl)) pa_nil)))))
        pss_nil)
        (C8.pss_cut (ps_if (PW.pt (pw_or (pt_cmpR op_lt (pe_callB (call_len_seqK (K := K) rfl) (by rfl) B.len_ (by decide +kernel) (pa_cons (pv 1) pa_nil)) pe_int (nomark _)) (pw_or1 (pt_cmpR (op_notIn_seqK (K := K) rfl) (pe_ix (ix_listK (K := K) rfl) (pv 1) pe_int (fun _ _ => rfl)) (pe_tup (pa_cons pe_str (pa_cons pe_str pa_nil))) (by rfl)))))
        (pss_one (ps_ret pe_non))
        pss_nil)
        (pss_cons (ps_set (i := 2) sc.nd rfl (Or.inl rfl) (pe_cmpR op_eq (pe_slice sl_str (pe_ix (ix_listK (K := K) rfl) (pv 1) pe_int (fun _ _ => rfl)) (po_some (pe_un un_neg pe_int)) po_none) pe_str (nomark _)))
        (pss_cons (ps_set (i := 3) sc.nd rfl (Or.inl rfl) (pe_ifExp (pt_val (pv 2)) (pe_slice sl_str (pe_ix (ix_listK (K := K) rfl) (pv 1) pe_int (fun _ _ => rfl)) po_none (po_some (pe_un un_neg pe_int))) (pe_ix (ix_listK (K := K) rfl) (pv 1) pe_int (fun _ _ => rfl))))
        (pss_cons (ps_if (pt_not (pt_val (C8.pe_c c__law_is_letters hr (by decide) rfl (pa_cons (pv 3) pa_nil))))
        (pss_one (ps_ret pe_non))
        pss_nil)
        (pss_cons (ps_if (pt_cmpR op_eq (pe_ix (ix_listK (K := K) rfl) (pv 1) pe_int (fun _ _ => rfl)) pe_str (nomark _))
        (pss_one (ps_ret (pe_ifExp (pt_cmpR op_eq (pe_callB (call_len_seqK (K := K) rfl) (by rfl) B.len_ (by decide +kernel) (pa_cons (pv 1) pa_nil)) pe_int (nomark _)) (pe_tup (pa_cons pe_str (pa_cons (pv 3) (pa_cons (pv 2) pa_nil)))) pe_non)))
        pss_nil)
        (pss_cons (ps_if (PW.pt (pw_or (pt_cmpR (op_notIn_seqK (K := K) rfl) (pe_callB (call_len_seqK (K := K) rfl) (by rfl) B.len_ (by decide +kernel) (pa_cons (pv 1) pa_nil)) (pe_tup (pa_cons pe_int (pa_cons pe_int pa_nil))) (by rfl)) (pw_or (pt_cmpR op_ne (pe_ix (ix_listK (K := K) rfl) (pv 1) pe_int (fun _ _ => rfl)) pe_str (nomark _)) (pw_or1 (pt_not (pt_val (C8.pe_c c__law_is_letters hr (by decide) rfl (pa_cons (pe_ix (ix_listK (K := K) rfl) (pv 1) pe_int (fun _ _ => rfl)) pa_nil))))))))
        (pss_one (ps_ret pe_non))
        pss_nil)
        (pss_cons (ps_if (pt_cmpR op_eq (pe_callB (call_len_seqK (K := K) rfl) (by rfl) B.len_ (by decide +kernel) (pa_cons (pv 1) pa_nil)) pe_int (nomark _))
        (pss_one (ps_ret (pe_tup (pa_cons pe_str (pa_cons (pv 3) (pa_cons (pe_ix (ix_listK (K := K) rfl) (pv 1) pe_int (fun _ _ => rfl)) (pa_cons (pv 2) (pa_cons pe_non pa_nil))))))))
        pss_nil)
        (pss_cons (ps_if (PW.pt (pw_or (pt_cmpR op_ne (pe_ix (ix_listK (K := K) rfl) (pv 1) pe_int (fun _ _ => rfl)) pe_str (nomark _)) (pw_or1 (pt_not (pt_val (C8.pe_c c__law_is_letters hr (by decide) rfl (pa_cons (pe_ix (ix_listK (K := K) rfl) (pv 1) pe_int (fun _ _ => rfl)) pa_nil)))))))
        (pss_one (ps_ret pe_non))
        pss_nil)
        (pss_one (ps_ret (pe_tup (pa_cons pe_str (pa_cons (pv 3) (pa_cons (pe_ix (ix_listK (K := K) rfl) (pv 1) pe_int (fun _ _ => rfl)) (pa_cons (pv 2) (pa_cons (pe_ix (ix_listK (K := K) rfl) (pv 1) pe_int (fun _ _ => rfl)) pa_nil)))))))))))))))))), ?_⟩
    walk_at "w"
    refine w_split (by decide) (by unfold sizeLine; omega) fun p hp => ?_
    have e0 : Ex H (upd H p (.lst ((Txt.split x (Str.ofString " ")).map V.str))) := Ex.new hp
    have fp : (upd H p (.lst ((Txt.split x (Str.ofString " ")).map V.str))) p = some (.lst ((Txt.split x (sz " ")).map V.str)) := upd_same
    generalize (upd H p (.lst ((Txt.split x (Str.ofString " ")).map V.str))) = H1 at e0 fp ⊢
    have hx : ∀ y ∈ Txt.split x (sz " "), y.length ≤ 4000 := fun y hy => Nat.le_trans (split_in (by decide) hy) (by omega)
    have hne := PyProof.Rows.split_pos x (sz " ")
    have hlen := PyProof.Rows.split_le x (sz " ")
    generalize Txt.split x (sz " ") = ws at k fp hx hne hlen
    cases ws with
    | nil => cases hne
    | cons kd r =>
    have fp : H1 p = some (.lst (.str kd :: r.map V.str)) := fp
    walk_at "w"
    refine ⟨fun σ' H' => σ' = [some (.str x), some (.ref p), none, none] ∧ Ex H1 H' ∧ (∀ n, r = [n] → (kd = "user" ∨ kd = "table" ∨ kd = "flag" ∨ kd = "number") → lettersB n = false), ?_, fun σ' H2 h => ?_⟩
    · have in4 : (if false = true then !inV (V.str kd) [V.str "user", V.str "table", V.str "flag", V.str "number"] else inV (V.str kd) [V.str "user", V.str "table", V.str "flag", V.str "number"]) = decide (kd = "user" ∨ kd = "table" ∨ kd = "flag" ∨ kd = "number") := by
        rw [if_neg Bool.false_ne_true]; have := inV_str kd ["user", "table", "flag", "number"]
        rw [show ([V.str "user", V.str "table", V.str "flag", V.str "number"] : List V) = (["user", "table", "flag", "number"] : List Str).map V.str from rfl, this]
        congr 1
        simp
      walk_at "w"
      by_cases h2 : r.length = 1
      · obtain ⟨n, rfl⟩ : ∃ n, r = [n] := by
          match r, h2 with
          | [n], _ => exact ⟨n, rfl⟩
        have fp : H1 p = some (.lst [.str kd, .str n]) := fp
        refine iteD (fun _ => ?_) (fun h => absurd rfl h)
        walk_at "w"
        intro S1 hS1
        have e1 : Ex H1 (upd H1 S1 (.tup [.str "user", .str "table", .str "flag", .str "number"])) := Ex.new hS1
        have fS1 : (upd H1 S1 (.tup [.str "user", .str "table", .str "flag", .str "number"])) S1 = some (.tup [.str "user", .str "table", .str "flag", .str "number"]) := upd_same
        generalize (upd H1 S1 (.tup [.str "user", .str "table", .str "flag", .str "number"])) = H2 at e1 fS1 ⊢
        have fp2 := e1 _ _ fp
        refine w_inT (SqT.of fS1) (by rfl) (by rfl) ?_
        rw [in4]
        by_cases hk : kd = "user" ∨ kd = "table" ∨ kd = "flag" ∨ kd = "number"
        · rw [decide_eq_true hk]
          refine ⟨true, rfl, iteT ?_⟩
          walk_at "w"
          refine ⟨n, rfl, hx n (by simp), fun H3 e3 => ?_⟩
          have fp3 := e3 _ _ fp2
          cases hb : lettersB n with
          | false =>
            refine ⟨false, rfl, iteF ?_⟩
            walk_at "w"
            exact ⟨e1.trans e3, fun n' en _ => by injection en with en; rw [← en]; exact hb⟩
          | true =>
            refine ⟨true, rfl, iteT ?_⟩
            walk_at "w"
            intro T hT
            refine k _ _ (e0.trans (e1.trans (e3.trans (Ex.new hT)))) ?_
            have el : lineF [kd, n] = if kd = "user" ∨ kd = "table" then (if lettersB n = true then some (.head kd n) else none) else (colF [kd, n]).map .col := rfl
            rw [el]
            by_cases hu : kd = "user" ∨ kd = "table"
            · rw [if_pos hu, if_pos hb]
              exact ⟨T, rfl, upd_same⟩
            · rw [if_neg hu, colF_cons]
              have hf : kd = "flag" ∨ kd = "number" := by
                rcases hk with h | h | h
                · exact absurd (.inl h) hu
                · exact absurd (.inr h) hu
                · exact h
              rw [if_pos hf]
              show RdAt _ _ (((if lettersB n = true then some (Col.plain (decide (kd = "flag")) n) else none) : Option Col).map .col)
              rw [if_pos hb]
              refine ⟨T, rfl, ?_⟩
              rw [upd_same]
              rcases hf with rfl | rfl
              · rw [decide_eq_true rfl]
                rfl
              · rw [decide_eq_false (by decide +kernel)]
                rfl
        · rw [decide_eq_false hk]
          refine ⟨false, rfl, iteF ?_⟩
          walk_at "w"
          exact ⟨e1, fun n' _ hk' => absurd hk' hk⟩
      · refine iteD (fun h => ?_) (fun _ => ?_)
        · injection h with h
          simp only [List.length_cons, List.length_map] at h
          omega
        walk_at "w"
        exact ⟨Ex.refl _, fun n' en _ => by rw [en] at h2; exact absurd rfl h2⟩
    · obtain ⟨rfl, e2, no⟩ := h
      have fp2 := e2 _ _ fp
      have e02 := e0.trans e2
      -- nothing that may stand
      have nol : ¬ (kd = "word" ∨ kd = "link") → lineF (kd :: r) = none := fun h => by
        have nc : colF (kd :: r) = none := by
          rw [colF_cons]
          by_cases hf : kd = "flag" ∨ kd = "number"
          · rw [if_pos hf]
            match r, no with
            | [], _ => rfl
            | [n], no =>
              have := no n rfl (.inr (.inr hf))
              exact if_neg (by rw [this]; exact Bool.false_ne_true)
            | _ :: _ :: _, _ => rfl
          · rw [if_neg hf, if_pos h]
        match r, no, nc with
        | [], _, nc => show (colF [kd]).map Rd.col = none; rw [nc]; rfl
        | [n], no, nc =>
          show (if kd = "user" ∨ kd = "table" then (if lettersB n = true then some (.head kd n) else none) else (colF [kd, n]).map Rd.col) = none
          by_cases hu : kd = "user" ∨ kd = "table"
          · have := no n rfl (by rcases hu with h | h; exact .inl h; exact .inr (.inl h))
            rw [if_pos hu, if_neg (by rw [this]; exact Bool.false_ne_true)]
          · rw [if_neg hu, nc]
            rfl
        | a :: b' :: r3, _, nc => show (colF (kd :: a :: b' :: r3)).map Rd.col = none; rw [nc]; rfl
      refine ⟨fun σ' H' => σ' = [some (.str x), some (.ref p), none, none] ∧ Ex H2 H' ∧ (kd = "word" ∨ kd = "link") ∧ r ≠ [], ?_, fun σ' H3 h => ?_⟩
      · walk_at "w"
        cases r with
        | nil =>
          refine iteD (fun _ => ?_) (fun h => absurd (show ((1 : Nat) : Int) < 2 by decide) h)
          walk_at "w"
          have el : lineF [kd] = none := by
            by_cases h : kd = "word" ∨ kd = "link"
            · show (colF [kd]).map Rd.col = none
              rw [colF_cons, if_neg (by rcases h with rfl | rfl; exact heads_ne.2.2.2.2.2.1; exact heads_ne.2.2.2.2.2.2.1), if_neg (by rw [Classical.not_not]; exact h)]
              rfl
            · exact nol h
          exact k _ _ e02 (by rw [el]; rfl)
        | cons n r2 =>
          refine iteD (fun h => absurd h (by simp only [List.length_cons, List.length_map]; omega)) (fun _ => ?_)
          walk_at "w"
          refine w_ixL (i := 0) (v := .str kd) (SqL.of fp2) (atI_nat (j := 0) rfl) ?_
          walk_at "w"
          intro S1 hS1
          have e1 : Ex H2 (upd H2 S1 (.tup [.str "word", .str "link"])) := Ex.new hS1
          have fS1 : (upd H2 S1 (.tup [.str "word", .str "link"])) S1 = some (.tup [.str "word", .str "link"]) := upd_same
          generalize (upd H2 S1 (.tup [.str "word", .str "link"])) = H3 at e1 fS1 ⊢
          refine w_inT (SqT.of fS1) (by rfl) (by rfl) ?_
          rw [show (if true = true then !inV (V.str kd) [V.str "word", V.str "link"] else inV (V.str kd) [V.str "word", V.str "link"]) = !decide (kd = "word" ∨ kd = "link") by
            rw [if_pos rfl]
            have := inV_str kd ["word", "link"]
            rw [show ([V.str "word", V.str "link"] : List V) = (["word", "link"] : List Str).map V.str from rfl, this]
            congr 2
            simp]
          by_cases hk : kd = "word" ∨ kd = "link"
          · rw [decide_eq_true hk]
            refine ⟨false, rfl, iteF ?_⟩
            walk_at "w"
            exact ⟨e1, hk, by simp⟩
          · rw [decide_eq_false hk]
            refine ⟨true, rfl, iteT ?_⟩
            walk_at "w"
            exact k _ _ (e02.trans e1) (by rw [nol hk]; rfl)
      obtain ⟨rfl, e3, hk, hr0⟩ := h
      have fp3 := e3 _ _ fp2
      have e03 := e02.trans e3
      cases r with
      | nil => exact absurd rfl hr0
      | cons n r2 =>
      clear no nol hr0 fp2 fp e2 e3 e02 hlen
      have hn : n.length ≤ 4000 := hx n (by simp)
      have nf : ¬ (kd = "flag" ∨ kd = "number") := by rcases hk with rfl | rfl; exact heads_ne.2.2.2.2.2.1; exact heads_ne.2.2.2.2.2.2.1
      have nu : ¬ (kd = "user" ∨ kd = "table") := by
        rintro (rfl | rfl)
        · exact heads_ne.2.2.2.1 hk
        · exact heads_ne.2.2.2.2.1 hk
      have el : lineF (kd :: n :: r2) = (if lettersB (baseN n) = true then (if kd = "link" then linkF (baseN n) (openN n) (kd :: n :: r2) else if r2 = [] then some (.word (baseN n) (openN n)) else none) else none).map .col := by
        have ec : colF (kd :: n :: r2) = if lettersB (baseN n) = true then (if kd = "link" then linkF (baseN n) (openN n) (kd :: n :: r2) else if r2 = [] then some (.word (baseN n) (openN n)) else none) else none := by
          rw [colF_cons, if_neg nf, if_neg (by rw [Classical.not_not]; exact hk)]
        rw [← ec]
        cases r2 with
        | nil =>
          show (if kd = "user" ∨ kd = "table" then (if lettersB n = true then some (.head kd n) else none) else (colF [kd, n]).map Rd.col) = _
          rw [if_neg nu]
        | cons a r3 => rfl
      rw [el] at k
      walk_at "w"
      refine w_ixL (i := 1) (v := .str n) (SqL.of fp3) (atI_nat (j := 1) rfl) ?_
      have eo : decide (V.str (cutS n (some (-1)) none) = V.str (Str.ofString "?")) = openN n := by
        rw [← law_open]
        simp
        exact Iff.rfl
      walk_at "w"
      rw [eo]
      refine joinV5 (R := fun v H' => v = .str (baseN n) ∧ H' = H3) (fun h k' hk' => ?_) (fun h k' hk' => ?_) fun v H' hv => ?_
      · walk_at "w"
        refine w_ixL (i := 1) (v := .str n) (SqL.of fp3) (atI_nat (j := 1) rfl) ?_
        walk_at "w"
        rw [law_base n h]
        exact hk' _ _ ⟨rfl, rfl⟩
      · walk_at "w"
        refine w_ixL (i := 1) (v := .str n) (SqL.of fp3) (atI_nat (j := 1) rfl) ?_
        exact hk' _ _ ⟨by rw [open_no h], rfl⟩
      obtain ⟨rfl, rfl⟩ := hv
      walk_at "w"
      refine ⟨baseN n, rfl, Nat.le_trans (base_len n) hn, fun H4 e4 => ?_⟩
      have fp4 := e4 _ _ fp3
      have e04 := e03.trans e4
      cases hb : lettersB (baseN n) with
      | false =>
        refine ⟨false, rfl, iteNF ?_⟩
        walk_at "w"
        exact k _ _ e04 (by rw [if_neg (by rw [hb]; exact Bool.false_ne_true)]; rfl)
      | true =>
      rw [if_pos hb] at k
      refine ⟨true, rfl, iteNT ?_⟩
      walk_at "w"
      refine w_ixL (i := 0) (v := .str kd) (SqL.of fp4) (atI_nat (j := 0) rfl) ?_
      walk_at "w"
      refine iteD (fun h => ?_) (fun h => ?_)
      · have ekw : kd = "word" := V.str.inj h
        rw [if_neg (by rw [ekw]; exact heads_ne.2.2.2.2.2.2.2)] at k
        walk_at "w"
        cases r2 with
        | nil =>
          refine iteD (fun _ => ?_) (fun h => absurd rfl h)
          walk_at "w"
          intro T hT
          exact k _ _ (e04.trans (Ex.new hT)) ⟨T, rfl, upd_same⟩
        | cons n3 r3 =>
          refine iteD (fun h => ?_) (fun _ => ?_)
          · injection h with h
            simp only [List.length_cons, List.length_map] at h
            omega
          walk_at "w"
          exact k _ _ e04 (by rw [if_neg (by simp)]; rfl)
      have ekl : kd = "link" := by
        rcases hk with h' | h'
        · exact absurd (by rw [h']) h
        · exact h'
      rw [if_pos ekl] at k
      have hx2 : ∀ y ∈ r2, y.length ≤ 4000 := fun y hy => hx y (by simp [hy])
      walk_at "w"
      intro S1 hS1
      have e1 : Ex H4 (upd H4 S1 (.tup [.int 4, .int 6])) := Ex.new hS1
      have fS1 : (upd H4 S1 (.tup [.int 4, .int 6])) S1 = some (.tup [.int 4, .int 6]) := upd_same
      generalize (upd H4 S1 (.tup [.int 4, .int 6])) = H5 at e1 fS1 ⊢
      have fp5 := e1 _ _ fp4
      have e05 := e04.trans e1
      refine w_inT (SqT.of fS1) (by rfl) (by rfl) ?_
      by_cases h4 : r2.length = 2
      · obtain ⟨a, t, rfl⟩ := len2 h4
        have ht := hx2 t (by simp)
        rw [show (if true = true then !inV (V.int ((V.str kd :: ([n, a, t] : List Str).map V.str).length : Int)) [V.int 4, V.int 6] else inV (V.int ((V.str kd :: ([n, a, t] : List Str).map V.str).length : Int)) [V.int 4, V.int 6]) = false by rfl]
        have fp5 : H5 p = some (.lst [.str kd, .str n, .str a, .str t]) := fp5
        have e0l : linkF (baseN n) (openN n) [kd, n, a, t] = if a = "to" ∧ lettersB t = true then some (.link (baseN n) t (openN n) none) else none := rfl
        rw [e0l] at k
        walk_at "w"
        refine iteND (fun h2 => ?_) (fun h2 => ?_)
        · walk_at "w"
          exact k _ _ e05 (by rw [if_neg fun z => h2 (by rw [z.1])]; rfl)
        have ea : a = "to" := V.str.inj h2
        walk_at "w"
        refine ⟨t, rfl, ht, fun H6 e6 => ?_⟩
        have fp6 := e6 _ _ fp5
        cases hc : lettersB t with
        | false =>
          walk_at "w"
          exact k _ _ (e05.trans e6) (by rw [if_neg fun z => by rw [hc] at z; cases z.2]; rfl)
        | true =>
          walk_at "w"
          refine iteD (fun _ => ?_) (fun h => absurd rfl h)
          walk_at "w"
          intro T hT
          exact k _ _ (e05.trans (e6.trans (Ex.new hT))) (by rw [if_pos ⟨ea, hc⟩]; exact ⟨T, rfl, upd_same⟩)
      by_cases h6 : r2.length = 4
      · obtain ⟨a, t, b', l, rfl⟩ := len4 h6
        have ht := hx2 t (by simp)
        have hl' := hx2 l (by simp)
        rw [show (if true = true then !inV (V.int ((V.str kd :: ([n, a, t, b', l] : List Str).map V.str).length : Int)) [V.int 4, V.int 6] else inV (V.int ((V.str kd :: ([n, a, t, b', l] : List Str).map V.str).length : Int)) [V.int 4, V.int 6]) = false by rfl]
        have fp5 : H5 p = some (.lst [.str kd, .str n, .str a, .str t, .str b', .str l]) := fp5
        have e0l : linkF (baseN n) (openN n) [kd, n, a, t, b', l] = if a = "to" ∧ lettersB t = true ∧ b' = "as" ∧ lettersB l = true then some (.link (baseN n) t (openN n) (some l)) else none := rfl
        rw [e0l] at k
        walk_at "w"
        refine iteND (fun h2 => ?_) (fun h2 => ?_)
        · walk_at "w"
          exact k _ _ e05 (by rw [if_neg fun z => h2 (by rw [z.1])]; rfl)
        have ea : a = "to" := V.str.inj h2
        walk_at "w"
        refine ⟨t, rfl, ht, fun H6 e6 => ?_⟩
        have fp6 := e6 _ _ fp5
        cases hc : lettersB t with
        | false =>
          walk_at "w"
          exact k _ _ (e05.trans e6) (by rw [if_neg fun z => by rw [hc] at z; cases z.2.1]; rfl)
        | true =>
          walk_at "w"
          refine iteD (fun h => by injection h with h; exact absurd h (by show ¬ ((6 : Int) = 4); decide)) (fun _ => ?_)
          walk_at "w"
          refine iteND (fun h3 => ?_) (fun h3 => ?_)
          · walk_at "w"
            exact k _ _ (e05.trans e6) (by rw [if_neg fun z => h3 (by rw [z.2.2.1])]; rfl)
          have eb : b' = "as" := V.str.inj h3
          walk_at "w"
          refine ⟨l, rfl, hl', fun H7 e7 => ?_⟩
          have fp7 := e7 _ _ fp6
          cases hd : lettersB l with
          | false =>
            walk_at "w"
            exact k _ _ (e05.trans (e6.trans e7)) (by rw [if_neg fun z => by rw [hd] at z; cases z.2.2.2]; rfl)
          | true =>
            walk_at "w"
            intro T hT
            exact k _ _ (e05.trans (e6.trans (e7.trans (Ex.new hT)))) (by rw [if_pos ⟨ea, hc, eb, hd⟩]; exact ⟨T, rfl, upd_same⟩)
      · have e0l := linkF_no (nm := baseN n) (o := openN n) (ws := kd :: n :: r2) (by rw [List.length_cons, List.length_cons]; omega)
        rw [show (if true = true then !inV (V.int ((V.str kd :: (n :: r2).map V.str).length : Int)) [V.int 4, V.int 6] else inV (V.int ((V.str kd :: (n :: r2).map V.str).length : Int)) [V.int 4, V.int 6]) = true by rw [if_pos rfl, inV46 (by rw [List.length_cons, List.length_map, List.length_cons]; omega) (by rw [List.length_cons, List.length_map, List.length_cons]; omega)]; rfl]
        walk_at "w"
        exact k _ _ e05 (by rw [e0l]; rfl)
end
end LP
namespace LP
open PySem L2
open Evl (Ex)
theorem hu5 {A : Around} {j : Nat} (hr : Room j A) : A.units < cLine := by have := hr.un; omega
def DueAt (H : Hp) (v : V) : Sum Nat (Str × Tabs) → Prop
  | .inl k => ∃ T, v = .ref T ∧ H T = some (.tup [.str "line", .int (k : Nat)])
  | .inr (u, ts) => ∃ T q, v = .ref T ∧ H T = some (.tup [.str "tables", .str u, .ref q]) ∧ TabsAt H q ts
theorem DueAt.ext {H H' : Hp} (e : Ex H H') {v : V} {o : Sum Nat (Str × Tabs)} (h : DueAt H v o) : DueAt H' v o := by
  match o, h with
  | .inl k, ⟨T, ev, hT⟩ => exact ⟨T, ev, e _ _ hT⟩
  | .inr (u, ts), ⟨T, q, ev, hT, ht⟩ => exact ⟨T, q, ev, e _ _ hT, ht.ext e⟩
def finF (n : Str) : Sum Nat Tabs → Sum Nat (Str × Tabs)
  | .inl k => .inl k
  | .inr ts => .inr (n, ts)
def wsL (ls : List Str) : List (List Str) := ls.map fun l => Txt.split l (sz " ")
def spDueL (K : PySem.W.Frag) : Sp := fun vs H Q _ => ∃ (p : Addr) (ls : List Str), vs = [.ref p] ∧ SqL K H p (ls.map V.str) ∧ ls ≠ [] ∧ ls.length ≤ 100 ∧ (∀ l ∈ ls, l.length ≤ 900) ∧ ∀ (v : V) (H' : Hp), Ex H H' → DueAt H' v (linesF (wsL ls)) → Q v H'
theorem kind_no (c : Col) : ¬ c.kind = "user" ∧ ¬ c.kind = "table" := by
  cases c with
  | plain f n =>
    cases f
    · exact ⟨by show ¬ (("number" : Str) = "user"); decide +kernel, by show ¬ (("number" : Str) = "table"); decide +kernel⟩
    · exact ⟨by show ¬ (("flag" : Str) = "user"); decide +kernel, by show ¬ (("flag" : Str) = "table"); decide +kernel⟩
  | word n o => exact ⟨by show ¬ (("word" : Str) = "user"); decide +kernel, by show ¬ (("word" : Str) = "table"); decide +kernel⟩
  | link n t o l => exact ⟨by show ¬ (("link" : Str) = "user"); decide +kernel, by show ¬ (("link" : Str) = "table"); decide +kernel⟩
section
variable {base : Heap} {mg : Str → Option Value} {K : PySem.W.Frag} {w : World} {P : Program}
theorem ok_dueL {f : Addr} {fd : FuncData} (D : C8.Def K mg "_law_what_is_due" s__law_what_is_due f fd) (b : Binds K fd ["lines"] []) (B : Blt mg) (c__law_read : C8.Cal P w K mg base 2 "_law_read" spLawRead []) : C8.Cal P w K mg base 3 "_law_what_is_due" (spDueL K) [] := by
  have sc : FnScope ["lines", "first", "tables", "at", "line", "found"] ["lines"] (C8.fnScope s__law_what_is_due) := C8.fnScope_by (by decide +kernel)
  refine C8.cal0 D b .nil sc (fun vs H Q E h => ?_) (fun cdv A outer s H vs Q E hr h => ?_)
  · obtain ⟨_, _, rfl, _⟩ := h
    rfl
  · obtain ⟨p, ls, rfl, hp, hne, hl, hx, k⟩ := h
    refine ⟨_, (pss_cons (ps_set (i := 1) sc.nd rfl (Or.inl rfl) (C8.pe_c c__law_read hr (by decide) rfl (pa_cons (pe_ix (ix_listK (K := K) rfl) (pv 0) pe_int (fun _ _ => rfl)) pa_nil)))
        (pss_cons (ps_if (PW.pt (pw_or (pt_cmpR op_isN' (pv 1) pe_non (nomark _)) (pw_or1 (pt_cmpR op_ne (pe_ix (ix_tupK (K := K) rfl) (pv 1) pe_int (fun _ _ => rfl)) pe_str (nomark _)))))
        (pss_one (ps_ret (pe_tup (pa_cons pe_str (pa_cons pe_int pa_nil)))))
        pss_nil)
        (pss_cons (ps_set (i := 2) sc.nd rfl (Or.inl rfl) (pe_lst pa_nil))
        (pss_cons (ps_for PassesOwn.never rfl (pi_enumK (K := K) rfl (by rfl) B.enumerate_ (pa_cons (pe_slice (sl_listK (K := K) rfl) (pv 0) (po_some pe_int) po_none) pa_nil)) (pg_tupK (K := K) (n := 2) rfl rfl (pgs_cons (pg_name (i := 3) sc.nd rfl (Or.inl rfl)) (pgs_cons (pg_name (i := 4) sc.nd rfl (Or.inl rfl)) pgs_nil)))
        (pss_cons (ps_set (i := 5) sc.nd rfl (Or.inl rfl) (C8.pe_c c__law_read hr (by decide) rfl (pa_cons (pv 4) pa_nil)))
        (pss_cons (ps_if (PW.pt (pw_or (pt_cmpR op_isN' (pv 5) pe_non (nomark _)) (pw_or (pt_cmpR op_eq (pe_ix (ix_tupK (K := K) rfl) (pv 5) pe_int (fun _ _ => rfl)) pe_str (nomark _)) (pw_or1 (PW.pt (pw_and (pt_cmpR (op_eqEK (K := K) rfl (hu5 hr)) (pv 2) (pe_lst pa_nil) (nomark _)) (pw_and1 (pt_cmpR op_ne (pe_ix (ix_tupK (K := K) rfl) (pv 5) pe_int (fun _ _ => rfl)) pe_str (nomark _)))))))))
        (pss_one (ps_ret (pe_tup (pa_cons pe_str (pa_cons (pe_op op_add (pv 3) pe_int) pa_nil)))))
        pss_nil)
        (pss_one (ps_if (pt_cmpR op_eq (pe_ix (ix_tupK (K := K) rfl) (pv 5) pe_int (fun _ _ => rfl)) pe_str (nomark _))
        (pss_one (ps_expr (pe_bmK (K := K) rfl PySem.F.plainAttrs_list PySem.F.slot_list_append PySem.F.type_list_append mt_append (pv 2) (pa_cons (pe_tup (pa_cons (pe_ix (ix_tupK (K := K) rfl) (pv 5) pe_int (fun _ _ => rfl)) (pa_cons (pe_lst pa_nil) pa_nil))) pa_nil))))
        (pss_one (ps_expr (pe_bmK (K := K) rfl PySem.F.plainAttrs_list PySem.F.slot_list_append PySem.F.type_list_append mt_append (pe_ix (ix_tupK (K := K) rfl) (pe_ix (ix_listK (K := K) rfl) (pv 2) (pe_un un_neg pe_int) (fun _ _ => rfl)) pe_int (fun _ _ => rfl)) (pa_cons (pv 5) pa_nil)))))))))
        (pss_one (ps_ret (pe_tup (pa_cons pe_str (pa_cons (pe_ix (ix_tupK (K := K) rfl) (pv 1) pe_int (fun _ _ => rfl)) (pa_cons (pv 2) pa_nil)))))))))), ?_⟩
    cases ls with
    | nil => exact absurd rfl hne
    | cons l0 lr =>
    have hp : SqL K H p (.str l0 :: lr.map V.str) := hp
    have ew : wsL (l0 :: lr) = Txt.split l0 (sz " ") :: wsL lr := rfl
    rw [ew, linesF_cons] at k
    rw [List.length_cons] at hl
    have hxr : ∀ l ∈ lr, l.length ≤ 900 := fun l h => hx l (List.mem_cons_of_mem _ h)
    walk_at "w"
    refine w_ixL (i := 0) (v := .str l0) hp (atI_nat (j := 0) rfl) ?_
    walk_at "w"
    refine ⟨l0, rfl, hx l0 (by simp), fun v H1 e1 hv => ?_⟩
    have hp1 := Evl.ex_l e1 hp
    have bad0 : headB "user" (Txt.split l0 (sz " ")) = false → ∀ T, H1 T = none → Q (.ref T) (upd H1 T (.tup [.str "line", .int 0])) := fun h T hT => by
      refine k _ _ (e1.trans (Ex.new hT)) ?_
      rw [if_neg
              (by rw [h]; exact Bool.false_ne_true)]
      exact ⟨T, rfl, upd_same⟩
    rcases lineF_cases (Txt.split l0 (sz " ")) with ⟨kk, n, el, hk, es, hn, hq⟩ | ⟨h1, h2, el⟩
    rotate_left
    · rw [el] at hv
      cases ec : colF (Txt.split l0 (sz " ")) with
      | none =>
        rw [ec] at hv
        have hv : v = .non := hv
        subst hv
        walk_at "w"
        refine iteD (fun _ => ?_) (fun h => absurd rfl h)
        walk_at "w"
        intro T hT
        exact bad0 h1 T hT
      | some c =>
        rw [ec] at hv
        obtain ⟨a, rfl, ha⟩ := (show ColAt H1 v c from hv)
        walk_at "w"
        refine iteD (fun h => by cases h) (fun _ => ?_)
        walk_at "w"
        refine w_ixT (SqT.of ha) c.at0 ?_
        walk_at "w"
        refine iteND (fun _ => ?_) (fun h => absurd (V.str.inj h) (kind_no c).1)
        walk_at "w"
        intro T hT
        exact bad0 h1 T hT
    rw [el] at hv
    obtain ⟨T1, rfl, hT1⟩ := hv
    walk_at "w"
    refine iteD (fun h => by cases h) (fun _ => ?_)
    walk_at "w"
    refine iteND (fun h => ?_) (fun h => ?_)
    · walk_at "w"
      intro T hT
      exact bad0 (by rw [hq]; exact decide_eq_false fun z => h (by rw [z])) T hT
    have ek : kk = "user" := V.str.inj h
    subst ek
    rw [if_pos (by rw [hq]; exact decide_eq_true rfl)] at k
    have en : (Txt.split l0 (sz " ")).getD 1 "" = n := by rw [es]; rfl
    rw [en] at k
    walk_at "w"
    intro q hq0
    have e2 : Ex H1 (upd H1 q (.lst [])) := Ex.new hq0
    have fq : (upd H1 q (.lst [])) q = some (.lst []) := upd_same
    generalize (upd H1 q (.lst [])) = H2 at e2 fq ⊢
    have hp2 := Evl.ex_l e2 hp1
    walk_at "w"
    refine w_slL4 hp2 fun l hl0 => ?_
    rw [cut_tail]
    have e3 : Ex H2 (upd H2 l (.lst (lr.map V.str))) := Ex.new hl0
    have fl : (upd H2 l (.lst (lr.map V.str))) l = some (.lst (lr.map V.str)) := upd_same
    generalize (upd H2 l (.lst (lr.map V.str))) = H3 at e3 fl ⊢
    have hq3 := e3 _ _ fq
    have nlq : l ≠ q := fun z => by rw [z, fq] at hl0; cases hl0
    have q1 : H1 q = none := hq0
    have e13 : Ex H1 H3 := e2.trans e3
    have hT3 := e13 _ _ hT1
    have k : ∀ (v : V) (H' : Hp), Ex H H' → DueAt H' v (finF n (goF [] 1 (wsL lr))) → Q v H' := k
    walk_at "w"
    refine loopE (xs := lr.map V.str) (fun d r σ' H' => ExO [q] H3 H' ∧ ∃ tp mr, r = mr.map V.str ∧ (∀ z ∈ mr, z ∈ lr) ∧ goF tp (1 + d.length) (wsL mr) = goF [] 1 (wsL lr) ∧ ∃ x3 x4 x5 qs, σ' = [some (.ref p), some (.ref T1), some (.ref q), x3, x4, x5] ∧ H' q = some (.lst qs) ∧ qs.length + r.length ≤ 126 ∧ (∀ t ∈ tp, t.2.length + r.length ≤ 126) ∧ RdTabs H3 H' q qs tp)
      ⟨ExO.refl, [], lr, rfl, fun _ h => h, rfl, none, none, none, [], rfl, hq3, by rw [List.length_nil, List.length_map]; omega, fun t h => (nomatch h), .inl ⟨rfl, rfl⟩⟩ (fun d r σ' H' _ h => SqL.of (h.1 _ _ fl (by simpa using nlq))) (fun d y r σ' H' T hd hT h => ?_) (fun σ' H' h => ?_)
    · obtain ⟨e', tp, mr, er, win, le, x3, x4, x5, qs, rfl, hq', lq, lc, rt⟩ := h
      cases mr with
      | nil => cases er
      | cons z mr1 =>
      rw [List.map_cons] at er
      injection er with er1 er2
      subst er1
      subst er2
      have hz := hxr z (win z List.mem_cons_self)
      have win1 : ∀ y ∈ mr1, y ∈ lr := fun y hy => win y (List.mem_cons_of_mem _ hy)
      have eT : Ex H' (upd H' T (.tup [.int (d.length : Nat), .str z])) := Ex.new hT
      have fT : (upd H' T (.tup [.int (d.length : Nat), .str z])) T = some (.tup [.int (d.length : Nat), .str z]) := upd_same
      generalize (upd H' T (.tup [.int (d.length : Nat), .str z])) = H5 at eT fT ⊢
      have hq5 := eT _ _ hq'
      have rt5 := rt.ext eT
      have e45 : ExO [q] H3 H5 := e'.trans (.of eT)
      rw [List.length_cons] at lq
      have eH5 : Ex H H5 := fun x o h => e45 _ _ (e13 _ _ (e1 _ _ h)) (by intro z; rw [List.mem_singleton.1 z] at h; rw [e1 _ _ h] at q1; cases q1)
      have new4 : ∀ {H6 : Hp} {x : Addr}, ExO [q] H3 H6 → H6 q ≠ none → H6 x = none → H3 x = none := fun {H6 x} e n hx => by
        cases h : H3 x with
        | none => rfl
        | some o =>
          by_cases z : x = q
          · rw [z] at hx; exact absurd hx n
          · have := e _ _ h (by simpa using z)
            rw [hx] at this; cases this
      have l1 : 1 + (d ++ [V.str z]).length = 1 + d.length + 1 := by rw [List.length_append, List.length_singleton]; omega
      have ez : wsL (z :: mr1) = Txt.split z (sz " ") :: wsL mr1 := rfl
      have bad : goF tp (1 + d.length) (wsL (z :: mr1)) = .inl (1 + d.length) → ∀ (H6 : Hp), Ex H5 H6 → ∀ T, H6 T = none → Q (.ref T) (upd H6 T (.tup [.str "line", .int ((d.length : Nat) + 1)])) := fun h H6 e6 T hT => by
        refine k _ _ (eH5.trans (e6.trans (Ex.new hT))) ?_
        rw [← le, h]
        refine ⟨T, rfl, ?_⟩
        rw [upd_same, show (V.int ((d.length : Nat) + 1) : V) = .int ((1 + d.length : Nat) : Int) by rw [show ((1 + d.length : Nat) : Int) = ((d.length : Nat) : Int) + 1 by omega]]
      rw [ez, goF_cons] at le bad
      walk_at "w"
      refine ⟨z, rfl, hz, fun v H6 e6 hv => ?_⟩
      have hq6 := e6 _ _ hq5
      have rt6 := rt5.ext e6
      have e46 : ExO [q] H3 H6 := e45.trans (.of e6)
      rcases lineF_cases (Txt.split z (sz " ")) with ⟨kk, nn, el, hk, es, hn, hq⟩ | ⟨h1, h2, el⟩
      · rw [el] at hv
        obtain ⟨T1', rfl, hT1'⟩ := hv
        walk_at "w"
        refine iteD (fun h => by cases h) (fun _ => ?_)
        walk_at "w"
        refine iteD (fun h => ?_) (fun h => ?_)
        · have ek : kk = "user" := V.str.inj h
          walk_at "w"
          intro T hT
          refine bad ?_ H6 e6 T hT
          rw [if_neg (by rw [hq, ek, decide_eq_false heads_ne.1]; exact Bool.false_ne_true), es, colF_head hk]
        have ek : kk = "table" := by
          rcases hk with h' | h'
          · exact absurd (by rw [h']) h
          · exact h'
        subst ek
        rw [if_pos (by rw [hq]; exact decide_eq_true rfl), show (Txt.split z (sz " ")).getD 1 "" = nn by rw [es]; rfl] at le
        walk_at "w"
        intro Z hZ
        have e7 : Ex H6 (upd H6 Z (.lst [])) := Ex.new hZ
        have fZ : (upd H6 Z (.lst [])) Z = some (.lst []) := upd_same
        generalize (upd H6 Z (.lst [])) = H7 at e7 fZ ⊢
        have hq7 := e7 _ _ hq6
        have rt7 := rt6.ext e7
        have hT7 := e7 _ _ hT1'
        refine w_eqE (SqL.of hq7) (SqL.of fZ) ?_
        have lqt := paired_len rt7.tabs
        cases hqe : qs.isEmpty with
        | true =>
          refine ⟨true, rfl, iteT ?_⟩
          walk_at "w"
          refine iteND (fun h => absurd rfl h) (fun _ => ?_)
          walk_at "w"
          refine iteD (fun _ => ?_) (fun h => absurd rfl h)
          walk_at "w"
          intro pp hpp
          have e8 : Ex H7 (upd H7 pp (.lst [])) := Ex.new hpp
          have fp8 : (upd H7 pp (.lst [])) pp = some (.lst []) := upd_same
          generalize (upd H7 pp (.lst [])) = H8 at e8 fp8 ⊢
          walk_at "w"
          intro T2 hT2
          have e9 : Ex H8 (upd H8 T2 (.tup [.str nn, .ref pp])) := Ex.new hT2
          have fT9 : (upd H8 T2 (.tup [.str nn, .ref pp])) T2 = some (.tup [.str nn, .ref pp]) := upd_same
          generalize (upd H8 T2 (.tup [.str nn, .ref pp])) = H9 at e9 fT9 ⊢
          have hq9 := e9 _ _ (e8 _ _ hq7)
          walk_at "w"
          have p4 : H3 pp = none := new4 (e46.trans (.of e7)) (by rw [hq7]; intro z; cases z) hpp
          exact ⟨(e46.trans ((ExO.of e7).trans ((ExO.of e8).trans (.of e9)))).put List.mem_cons_self, _, mr1, rfl, win1, by rw [l1]; exact le, _, _, _, _, rfl, upd_same, by rw [List.length_append, List.length_singleton]; omega, fun t ht => by
            rcases List.mem_append.1 ht with ht | ht
            · have := lc t ht
              rw [List.length_cons] at this
              omega
            · rw [List.mem_singleton.1 ht]
              show 0 + _ ≤ 126
              omega, rt7.new hq7 (e8.trans e9) hpp fT9 (e9 _ _ fp8) p4⟩
        | false =>
          refine ⟨false, rfl, iteF ?_⟩
          walk_at "w"
          refine iteD (fun _ => ?_) (fun h => absurd rfl h)
          walk_at "w"
          intro pp hpp
          have e8 : Ex H7 (upd H7 pp (.lst [])) := Ex.new hpp
          have fp8 : (upd H7 pp (.lst [])) pp = some (.lst []) := upd_same
          generalize (upd H7 pp (.lst [])) = H8 at e8 fp8 ⊢
          walk_at "w"
          intro T2 hT2
          have e9 : Ex H8 (upd H8 T2 (.tup [.str nn, .ref pp])) := Ex.new hT2
          have fT9 : (upd H8 T2 (.tup [.str nn, .ref pp])) T2 = some (.tup [.str nn, .ref pp]) := upd_same
          generalize (upd H8 T2 (.tup [.str nn, .ref pp])) = H9 at e9 fT9 ⊢
          have hq9 := e9 _ _ (e8 _ _ hq7)
          walk_at "w"
          have p4 : H3 pp = none := new4 (e46.trans (.of e7)) (by rw [hq7]; intro z; cases z) hpp
          exact ⟨(e46.trans ((ExO.of e7).trans ((ExO.of e8).trans (.of e9)))).put List.mem_cons_self, _, mr1, rfl, win1, by rw [l1]; exact le, _, _, _, _, rfl, upd_same, by rw [List.length_append, List.length_singleton]; omega, fun t ht => by
            rcases List.mem_append.1 ht with ht | ht
            · have := lc t ht
              rw [List.length_cons] at this
              omega
            · rw [List.mem_singleton.1 ht]
              show 0 + _ ≤ 126
              omega, rt7.new hq7 (e8.trans e9) hpp fT9 (e9 _ _ fp8) p4⟩
      · rw [el] at hv
        cases hc : colF (Txt.split z (sz " ")) with
        | none =>
          rw [hc] at hv
          have hv : v = .non := hv
          subst hv
          walk_at "w"
          refine iteD (fun _ => ?_) (fun h => absurd rfl h)
          walk_at "w"
          intro T hT
          exact bad (by rw [if_neg (by rw [h2]; exact Bool.false_ne_true), hc]) H6 e6 T hT
        | some c =>
          rw [hc] at hv
          have hv : ColAt H6 v c := hv
          obtain ⟨a, rfl, ha⟩ := id hv
          rw [if_neg (by rw [h2]; exact Bool.false_ne_true), hc] at le bad
          have ka := kind_no c
          walk_at "w"
          refine iteD (fun h => by cases h) (fun _ => ?_)
          walk_at "w"
          refine w_ixT (SqT.of ha) c.at0 ?_
          walk_at "w"
          refine iteD (fun h => absurd (V.str.inj h) ka.1) (fun _ => ?_)
          walk_at "w"
          intro Z hZ
          have e7 : Ex H6 (upd H6 Z (.lst [])) := Ex.new hZ
          have fZ : (upd H6 Z (.lst [])) Z = some (.lst []) := upd_same
          generalize (upd H6 Z (.lst [])) = H7 at e7 fZ ⊢
          have hq7 := e7 _ _ hq6
          have rt7 := rt6.ext e7
          have ha7 := e7 _ _ ha
          have lqt := paired_len rt7.tabs
          refine w_eqE (SqL.of hq7) (SqL.of fZ) ?_
          rcases (show tp = [] ∨ ∃ td t, tp = td ++ [t] by rcases List.eq_nil_or_concat tp with h | ⟨td, t, h⟩; exact .inl h; exact .inr ⟨td, t, by rw [h, List.concat_eq_append]⟩) with rfl | ⟨td, ⟨n', ci⟩, rfl⟩
          · have eq0 : qs = [] := List.eq_nil_of_length_eq_zero lqt
            subst eq0
            refine ⟨true, rfl, iteT ?_⟩
            walk_at "w"
            refine w_ixT (SqT.of ha7) c.at0 ?_
            walk_at "w"
            refine iteND (fun _ => ?_) (fun h => absurd (V.str.inj h) ka.2)
            walk_at "w"
            intro T hT
            exact bad (if_pos rfl) H7 (e6.trans e7) T hT
          · have le : goF (addLast c (td ++ [(n', ci)])) (1 + d.length + 1) (wsL mr1) = goF [] 1 (wsL lr) := by
              rw [← le]
              exact (if_neg (by simp)).symm
            rw [addLast_app] at le
            obtain ⟨qd, at_, pl, cvs, rfl, hat_, hpl, lcv, pl4, npl, add⟩ := rt7.add hq7
            have lcd := lc (n', ci) (by simp)
            rw [List.length_cons] at lcd
            rw [show (qd ++ [V.ref at_]).isEmpty = false by simp]
            refine ⟨false, rfl, iteF ?_⟩
            walk_at "w"
            refine w_ixT (SqT.of ha7) c.at0 ?_
            walk_at "w"
            refine iteD (fun h => absurd (V.str.inj h) ka.2) (fun _ => ?_)
            walk_at "w"
            refine w_ixL (SqL.of hq7) (L2.atI_last qd _) ?_
            walk_at "w"
            have lcd : ci.length + (List.length (mr1.map V.str) + 1) ≤ 126 := lcd
            refine w_app hpl (by unfold sizeLine; omega) ?_
            refine ⟨(e46.trans (.of e7)).mut pl4, _, mr1, rfl, win1, by rw [l1]; exact le, _, _, _, _, rfl, by rw [upd_ne (Ne.symm npl)]; exact hq7, by omega, fun t ht => ?_, add _ _ c (Ex.refl _) (ColAt.ext e7 hv)⟩
            rcases List.mem_append.1 ht with ht | ht
            · have := lc t (List.mem_append.mpr (.inl ht))
              rw [List.length_cons] at this
              omega
            · rw [List.mem_singleton.1 ht]
              show (ci ++ [c]).length + _ ≤ 126
              rw [List.length_append,
                      List.length_singleton]
              omega
    · obtain ⟨e', tp, mr, er, win, le, x3, x4, x5, qs, rfl, hq', lq, lc, rt⟩ := h
      have em : mr = [] := by cases mr; rfl; cases er
      subst em
      have le : Sum.inr tp = goF [] 1 (wsL lr) := le
      rw [← le] at k
      have hT' := e' _ _ hT3 (by intro z; rw [List.mem_singleton.1 z, q1] at hT1; cases hT1)
      walk_at "w"
      intro T hT
      have eH : Ex H H' := fun x o h => e' _ _ (e13 _ _ (e1 _ _ h)) (by intro z; rw [List.mem_singleton.1 z] at h; rw [e1 _ _ h] at q1; cases q1)
      exact k _ _ (eH.trans (Ex.new hT)) ⟨T, q, rfl, upd_same, qs, (Ex.new hT) _ _ hq', rt.tabs.ext (Ex.new hT)⟩
end
end LP
namespace LP
open PySem L2
open Evl (Ex)
/-! ### lines of few signs, without a line's end -/
def NoNl (x : Str) : Prop := ∀ c ∈ TL.tl x, c ≠ 10
def LnOk (m : Nat) (x : Str) : Prop := x.length ≤ m ∧ NoNl x
def wl (ws : List Str) : Nat := (ws.map (·.length)).sum + ws.length
def WsOk (m : Nat) (ws : List Str) : Prop := wl ws ≤ m ∧ ∀ w ∈ ws, NoNl w
theorem LnOk.mono {m n : Nat} {x : Str} (h : LnOk m x) (q : m ≤ n) : LnOk n x := ⟨Nat.le_trans h.1 q, h.2⟩
theorem WsOk.mono {m n : Nat} {x : List Str} (h : WsOk m x) (q : m ≤ n) : WsOk n x := ⟨Nat.le_trans h.1 q, h.2⟩
theorem wl_app (a b : List Str) : wl (a ++ b) = wl a + wl b := by
  unfold wl
  rw [List.map_append, List.sum_append, List.length_append]
  omega
theorem wl_one (x : Str) : wl [x] = x.length + 1 := by
  unfold wl
  simp
theorem wl_cut (ws : List Str) (j : Nat) : wl (ws.take j) + wl (ws.drop j) = wl ws := by rw [← wl_app, List.take_append_drop]
theorem wl_drop1 (ws : List Str) (j : Nat) : wl (ws.drop (j + 1)) ≤ wl (ws.drop j) := by
  cases h : ws.drop j with
  | nil =>
    have : ws.drop (j + 1) = [] := by rw [← List.drop_drop, h]; rfl
    rw [this]
    exact Nat.le_refl _
  | cons w r =>
    have : ws.drop (j + 1) = r := by rw [← List.drop_drop, h]; rfl
    rw [this]
    show wl r ≤ wl ([w] ++ r)
    rw [wl_app]
    omega
theorem wl_at {ws : List Str} {j : Nat} {w : Str} (h : ws[j]? = some w) : wl (ws.take j) + (w.length + 1) + wl (ws.drop (j + 1)) = wl ws := by
  have e : ws.drop j = [w] ++ ws.drop (j + 1) := by
    obtain ⟨hj, e⟩ := List.getElem?_eq_some_iff.mp h
    rw [List.drop_eq_getElem_cons hj, e]
    rfl
  have z := wl_cut ws j
  rw [e, wl_app, wl_one] at z
  omega
theorem joinL_len (s : List Nat) : ∀ {ws : List Str}, ws ≠ [] → (TL.joinL s (ws.map TL.tl)).length + s.length = (ws.map (·.length)).sum + ws.length * s.length
  | [w], _ => by
    show (TL.tl w).length + s.length = w.length + 0 + 1 * s.length
    rw [← TL.len_tl]
    omega
  | w :: z :: r, _ => by
    have ih := joinL_len s (ws := z :: r) (by simp)
    rw [List.map_cons, List.map_cons, joinL3, List.length_append, List.length_append, ← TL.len_tl, List.map_cons, List.sum_cons, List.length_cons, Nat.add_mul]
    rw [List.map_cons] at ih
    omega
theorem joinL_in {s : List Nat} {c : Nat} : ∀ {ws : List Str}, c ∈ TL.joinL s (ws.map TL.tl) → c ∈ s ∨ ∃ w ∈ ws, c ∈ TL.tl w
  | [], h => nomatch h
  | [w], h => .inr ⟨w, List.mem_singleton.mpr rfl, h⟩
  | w :: z :: r, h => by
    rw [List.map_cons, List.map_cons, joinL3] at h
    rcases List.mem_append.1 h with h | h
    · exact .inr ⟨w, List.mem_cons_self, h⟩
    · rcases List.mem_append.1 h with h | h
      · exact .inl h
      · rcases joinL_in (ws := z :: r) h with h | ⟨y, hy, h⟩
        · exact .inl h
        · exact .inr ⟨y, List.mem_cons_of_mem _ hy, h⟩
theorem in_joinL {s : List Nat} {c : Nat} {w : Str} : ∀ {ws : List Str}, w ∈ ws → c ∈ TL.tl w → c ∈ TL.joinL s (ws.map TL.tl)
  | [], h, _ => nomatch h
  | [x], h, hc => by
    rw [List.mem_singleton.1 h] at hc
    exact hc
  | x :: z :: r, h, hc => by
    rw [List.map_cons, List.map_cons, joinL3]
    rcases List.mem_cons.1 h with rfl | h
    · exact List.mem_append_left _ hc
    · exact List.mem_append_right _ (List.mem_append_right _ (in_joinL (ws := z :: r) h hc))
theorem split_tl (x y : Str) : TL.joinL (TL.tl y) ((Txt.split x y).map TL.tl) = TL.tl x := by
  rw [← tl_join, TL.join_eq]
  exact congrArg TL.tl (StrLaws.join_split x y)
theorem split_ne (x y : Str) : Txt.split x y ≠ [] := fun z => by
  have := PyProof.Rows.split_pos x y
  rw [z] at this
  cases this
theorem blank : TL.tl (sz " ") = [32] := tl_sz.2.1
theorem split_ws {m : Nat} {x : Str} (h : LnOk m x) : WsOk (m + 1) (Txt.split x (sz " ")) := by
  refine ⟨?_, fun w hw c hc => h.2 c (by rw [← split_tl x (sz " ")]; exact in_joinL hw hc)⟩
  have z := joinL_len (TL.tl (sz " ")) (split_ne x (sz " "))
  rw [split_tl, blank, ← TL.len_tl] at z
  have := h.1
  simp only [List.length_cons, List.length_nil] at z
  unfold wl
  omega
theorem join_ok {m : Nat} {ws : List Str} (h : WsOk m ws) : LnOk m (Txt.join (sz " ") ws) := by
  refine ⟨?_, fun c hc => ?_⟩
  · have := join_len (sz " ") ws
    rw [show (sz " ").length = 1 by decide] at this
    have w := h.1
    unfold wl at w
    omega
  · rw [tl_join] at hc
    rcases joinL_in hc with hc | ⟨w, hw, hc⟩
    · rw [blank, List.mem_singleton] at hc
      omega
    · exact h.2 w hw c hc
theorem nonl_cat {x y : Str} (a : NoNl x) (b : NoNl y) : NoNl (x ++ y) := fun c hc => by
  rw [TL.tl_append] at hc
  rcases List.mem_append.1 hc with hc | hc
  · exact a c hc
  · exact b c hc
theorem ln_cat {m n : Nat} {x y : Str} (a : LnOk m x) (b : LnOk n y) : LnOk (m + n) (x ++ y) := by
  refine ⟨?_, nonl_cat a.2 b.2⟩
  have := a.1
  have := b.1
  rw [len_cat]
  omega
theorem ln_cut {m : Nat} {x : Str} (h : LnOk m x) (lo hi : Option Int) : LnOk m (cutS x lo hi) := by
  refine ⟨Nat.le_trans (cutS_length x lo hi) h.1, fun c hc => h.2 c ?_⟩
  rw [tl_cutS] at hc
  exact List.mem_of_mem_drop (List.mem_of_mem_take hc)
/-! ### new lists beside a bag -/
section
variable {K : PySem.W.Frag} {H : Hp} {b p q : Addr} {n : Nat} {xs ys : List V} {Q : VK} {lo hi : Option Int}
theorem newD {o : HO} {Z : Addr → Hp → Prop} (hB : BagAt H b n) (k : ∀ l H', BagAt H' b n → Ex (del b H) (del b H') → del b H' l = some o → Z l H') : ∀ l, H l = none → Z l (upd H l o) := fun l hl =>
  k l _ (hB.new hl) (ex_dd (ex_del.trans (Ex.new hl))) (by rw [del_ne (hB.ne_none hl).symm]; exact upd_same)
theorem w_slD (hB : BagAt H b n) (hp : del b H p = some (.lst xs)) (k : ∀ l H', BagAt H' b n → Ex (del b H) (del b H') → del b H' l = some (.lst (cutV xs lo hi)) → Q (.ref l) H') : rSlL K (.ref p) lo hi H Q :=
  ⟨p, xs, rfl, SqL.of (ex_del _ _ hp), newD hB k⟩
theorem w_splitD {x y : Str} (hB : BagAt H b n) (h : (y.length == 0) = false) (h2 : x.length + 2 ≤ 90000) (k : ∀ l H', BagAt H' b n → Ex (del b H) (del b H') → del b H' l = some (.lst ((Txt.split x y).map V.str)) → Q (.ref l) H') : rSplit (.str x) [.str y] H Q :=
  w_split h (Nat.le_trans h2 (by decide)) (newD hB k)
theorem w_catD (hB : BagAt H b n) (hp : del b H p = some (.lst xs)) (hq : del b H q = some (.lst ys)) (hz : xs.length + ys.length ≤ 100000) (k : ∀ l H', BagAt H' b n → Ex (del b H) (del b H') → del b H' l = some (.lst (xs ++ ys)) → Q (.ref l) H') : rCat (.ref p) (.ref q) H Q :=
  w_cat (ex_del _ _ hp) (ex_del _ _ hq) (Nat.le_trans hz (by decide)) (newD hB k)
end
theorem cut_fromV (ws : List Str) (j : Nat) : cutV (ws.map V.str) (some (j : Int)) none = (ws.drop j).map V.str := by
  unfold cutV
  rw [HT.sIx_none, HT.sIx_nat, List.map_drop]
  by_cases h : j ≤ (ws.map V.str).length
  · rw [Nat.min_eq_left h]
    exact List.take_of_length_le (by rw [List.length_drop]; exact Nat.le_refl _)
  · rw [Nat.min_eq_right (by omega), List.drop_eq_nil_of_le (Nat.le_refl _), List.drop_eq_nil_of_le (by omega)]
    simp
theorem cut_toV (ws : List Str) (j : Nat) : cutV (ws.map V.str) none (some (j : Int)) = (ws.take j).map V.str := by
  unfold cutV
  rw [HT.sIx_none, HT.sIx_nat, List.drop_zero, Nat.sub_zero, List.map_take]
  by_cases h : j ≤ (ws.map V.str).length
  · rw [Nat.min_eq_left h]
  · rw [Nat.min_eq_right
          (by omega), List.take_of_length_le (Nat.le_refl _), List.take_of_length_le (by omega)]
theorem cut_oneV {ws : List Str} {j : Nat} {w : Str} (h : ws[j]? = some w) : cutV (ws.map V.str) (some (j : Int)) (some ((j + 1 : Nat) : Int)) = [V.str w] := by
  obtain ⟨hj, e⟩ := List.getElem?_eq_some_iff.mp h
  unfold cutV
  rw [HT.sIx_nat, HT.sIx_nat, List.length_map, Nat.min_eq_left (by omega), Nat.min_eq_left (by omega), ← List.map_drop, List.drop_eq_getElem_cons hj, e, show j + 1 - j = 1 by omega]
  rfl
def spSpLine : Sp := fun vs H Q _ => ∃ (b : Addr) (n m : Nat) (x y : Str), vs = [.ref b, .str x, .str y] ∧ BagAt H b n ∧ n < 60000000 ∧ LnOk m x ∧ LnOk m y ∧ m ≤ 300 ∧ ∀ z H', LnOk (m + 14) z → BagAt H' b (n + 4) → Ex (del b H) H' → Q (.str z) H'
def oddL : List Str := ["", "?", "table", "user", "to", "as", "1", "A", "aa", "abcdefghijk", "not", "thing", "a?", "??", "flag", "-"]
theorem odd_ok : ∀ x ∈ oddL, x.length ≤ 11 ∧ NoNl x := by unfold NoNl; decide +kernel
section
variable {base : Heap} {mg : Str → Option Value} {K : PySem.W.Frag} {w : World} {P : Program}
theorem ok_spoilt_line {f : Addr} {fd : FuncData} (D : C8.Def K mg "_law_spoilt_line" s__law_spoilt_line f fd) (b : Binds K fd ["bag", "line", "other"] []) (B : Blt mg) (c__law_take : C8.Cal P w K mg base 1 "_law_take" spTake []) (c__law_of : C8.Cal P w K mg base 2 "_law_of" (spOf K) []) :
    C8.Cal P w K mg base 3 "_law_spoilt_line" spSpLine [] := by
  have sc : FnScope ["bag", "line", "other", "words", "road", "at", "odd"] ["bag", "line", "other"] (C8.fnScope s__law_spoilt_line) := C8.fnScope_by (by decide +kernel)
  refine C8.cal0 D b .nil sc (fun vs H Q E h => ?_) (fun cdv A outer s H vs Q E hr h => ?_)
  · obtain ⟨_, _, _, _, _, rfl, _⟩ := h
    rfl
  · obtain ⟨b, n, m, x, y, rfl, hB, hn, hx, hy, hm, k⟩ := h
    refine ⟨_, (pss_cons (ps_par (i := 3) (j := 4) (by rfl) sc.nd rfl rfl (by decide) rfl rfl (pa_cons (pe_split' (pv 1) pe_str) (pa_cons (C8.pe_c c__law_take hr (by decide) rfl (pa_cons (pv 0) (pa_cons pe_int pa_nil))) pa_nil)) (by rfl))
        (pss_cons (ps_set (i := 5) sc.nd rfl (Or.inl rfl) (C8.pe_c c__law_take hr (by decide) rfl (pa_cons (pv 0) (pa_cons (pe_callB (call_len_seqK (K := K) rfl) (by rfl) B.len_ (by decide +kernel) (pa_cons (pv 3) pa_nil)) pa_nil))))
        (pss_cons (ps_set (i := 6) sc.nd rfl (Or.inl rfl) (pe_lst (pa_cons pe_str (pa_cons pe_str (pa_cons pe_str (pa_cons pe_str (pa_cons pe_str (pa_cons pe_str (pa_cons pe_str (pa_cons pe_str (pa_cons pe_str (pa_cons pe_str (pa_cons pe_str (pa_cons pe_str (pa_cons pe_str (pa_cons pe_str (pa_cons pe_str (pa_cons pe_str pa_nil))))))))))))))))))
        (pss_cons (ps_if (pt_cmpR op_lt (pv 4) pe_int (nomark _))
        (pss_one (ps_ret (pe_joinK (K := K) rfl pe_str (pe_op op_cat (pe_op op_cat (pe_slice (sl_listK (K := K) rfl) (pv 3) po_none (po_some (pv 5))) (pe_lst (pa_cons (C8.pe_c c__law_of hr (by decide) rfl (pa_cons (pv 0) (pa_cons (pv 6) pa_nil))) pa_nil))) (pe_slice (sl_listK (K := K) rfl) (pv 3) (po_some (pe_op op_add (pv 5) pe_int)) po_none)))))
        pss_nil)
        (pss_cons (ps_if (pt_cmpR op_lt (pv 4) pe_int (nomark _))
        (pss_one (ps_ret (pe_joinK (K := K) rfl pe_str (pe_op op_cat (pe_op op_cat (pe_slice (sl_listK (K := K) rfl) (pv 3) po_none (po_some (pv 5))) (pe_lst (pa_cons (C8.pe_c c__law_of hr (by decide) rfl (pa_cons (pv 0) (pa_cons (pv 6) pa_nil))) pa_nil))) (pe_slice (sl_listK (K := K) rfl) (pv 3) (po_some (pv 5)) po_none)))))
        pss_nil)
        (pss_cons (ps_if (pt_cmpR op_eq (pv 4) pe_int (nomark _))
        (pss_one (ps_ret (pe_joinK (K := K) rfl pe_str (pe_op op_cat (pe_slice (sl_listK (K := K) rfl) (pv 3) po_none (po_some (pv 5))) (pe_slice (sl_listK (K := K) rfl) (pv 3) (po_some (pe_op op_add (pv 5) pe_int)) po_none)))))
        pss_nil)
        (pss_cons (ps_if (pt_cmpR op_eq (pv 4) pe_int (nomark _))
        (pss_one (ps_ret (pe_joinK (K := K) rfl pe_str (pe_op op_cat (pe_op op_cat (pe_slice (sl_listK (K := K) rfl) (pv 3) po_none (po_some (pv 5))) (pe_lst (pa_cons (pe_op op_add_str' (pe_ix (ix_listK (K := K) rfl) (pv 3) (pv 5) (fun _ _ => rfl)) (C8.pe_c c__law_of hr (by decide) rfl (pa_cons (pv 0) (pa_cons (pe_lst (pa_cons pe_str (pa_cons pe_str (pa_cons pe_str (pa_cons pe_str pa_nil))))) pa_nil)))) pa_nil))) (pe_slice (sl_listK (K := K) rfl) (pv 3) (po_some (pe_op op_add (pv 5) pe_int)) po_none)))))
        pss_nil)
        (pss_cons (ps_if (pt_cmpR op_eq (pv 4) pe_int (nomark _))
        (pss_one (ps_ret (C8.pe_c c__law_of hr (by decide) rfl (pa_cons (pv 0) (pa_cons (pe_lst (pa_cons (pe_op op_add_str' pe_str (pv 1)) (pa_cons (pe_op op_add_str' (pv 1) pe_str) (pa_cons pe_str (pa_cons pe_str (pa_cons (pe_op op_add_str' (pv 1) pe_str) (pa_cons (pe_op op_add_str' (pv 1) pe_str) (pa_cons (pe_op op_add_str' (pv 1) pe_str) pa_nil)))))))) pa_nil)))))
        pss_nil)
        (pss_cons (ps_if (pt_cmpR op_eq (pv 4) pe_int (nomark _))
        (pss_one (ps_ret (pe_joinK (K := K) rfl pe_str (pe_op op_cat (pe_op op_cat (pe_slice (sl_listK (K := K) rfl) (pv 3) po_none (po_some (pv 5))) (pe_slice (sl_listK (K := K) rfl) (pv 3) (po_some (pe_op op_add (pv 5) pe_int)) po_none)) (pe_slice (sl_listK (K := K) rfl) (pv 3) (po_some (pv 5)) (po_some (pe_op op_add (pv 5) pe_int)))))))
        pss_nil)
        (pss_cons (ps_if (pt_cmpR op_eq (pv 4) pe_int (nomark _))
        (pss_one (ps_ret (pv 2)))
        pss_nil)
        (pss_one (ps_ret (pe_slice sl_str (pv 1) po_none (po_some (C8.pe_c c__law_take hr (by decide) rfl (pa_cons (pv 0) (pa_cons (pe_op op_add (pe_callB call_len_str' (by rfl) B.len_ (by decide +kernel) (pa_cons (pv 1) pa_nil)) pe_int) pa_nil))))))))))))))))), ?_⟩
    have xl := hx.1
    have yl := hy.1
    walk_at "w"
    refine w_splitD hB (by decide) (by omega) fun p H1 hB1 e1 fp => ?_
    have fp : del b H1 p = some (.lst ((Txt.split x (sz " ")).map V.str)) := fp
    have wsk := split_ws hx
    have ne := PyProof.Rows.split_pos x (sz " ")
    have le := PyProof.Rows.split_le x (sz " ")
    generalize Txt.split x (sz " ") = ws at fp wsk ne le
    walk_at "w"
    refine ⟨b, 12, _, rfl, hB1, by omega, by decide, by decide, fun road H2 r0 r1 hB2 e2 => ?_⟩
    have d12 : Ex (del b H1) (del b H2) := ex_dd e2
    have fp2 := d12 _ _ fp
    have fp2' := ex_del _ _ fp2
    walk_at "w"
    refine ⟨b, _, _, rfl, hB2, by omega, by rw [List.length_map]; omega, by rw [List.length_map]; omega, fun at_ H3 a0 a1 hB3 e3 => ?_⟩
    rw [List.length_map] at a1
    obtain ⟨j, rfl, hj⟩ : ∃ j : Nat, at_ = (j : Int) ∧ j < ws.length := ⟨at_.toNat, by omega, by omega⟩
    have d23 : Ex (del b H2) (del b H3) := ex_dd e3
    walk_at "w"
    intro po hpo
    obtain ⟨ov, eov⟩ : ∃ ov, ov = oddL.map V.str := ⟨_, rfl⟩
    rw [show [V.str (Str.ofString ""), V.str (Str.ofString "?"), V.str (Str.ofString "table"), V.str (Str.ofString "user"), V.str (Str.ofString "to"), V.str (Str.ofString "as"), V.str (Str.ofString "1"), V.str (Str.ofString "A"), V.str (Str.ofString "aa"), V.str (Str.ofString "abcdefghijk"), V.str (Str.ofString "not"), V.str (Str.ofString "thing"), V.str (Str.ofString "a?"), V.str (Str.ofString "??"), V.str (Str.ofString "flag"), V.str (Str.ofString "-")] = ov from eov.symm]
    have hB4 := hB3.new (o := .lst ov) hpo
    have d34 : Ex (del b H3) (del b (upd H3 po (.lst ov))) := ex_dd (ex_del.trans (Ex.new hpo))
    have fo : del b (upd H3 po (.lst ov)) po = some (.lst ov) := by rw [del_ne (hB3.ne_none hpo).symm]; exact upd_same
    generalize (upd H3 po (.lst ov)) = H4 at hB4 d34 fo ⊢
    rw [eov] at fo
    have d04 : Ex (del b H) (del b H4) := e1.trans (d12.trans (d23.trans d34))
    have fp4 := d34 _ _ (d23 _ _ fp2)
    obtain ⟨wj, hwj⟩ : ∃ wj, ws[j]? = some wj := ⟨_, List.getElem?_eq_getElem hj⟩
    have wjin : wj ∈ ws := List.mem_of_getElem? hwj
    have wat := wl_at hwj
    have wcut := wl_cut ws j
    have w1 := wsk.1
    have tk : ∀ w ∈ ws.take j, NoNl w := fun w hw => wsk.2 w (List.mem_of_mem_take hw)
    have dr : ∀ i, ∀ w ∈ ws.drop i, NoNl w := fun i w hw => wsk.2 w (List.mem_of_mem_drop hw)
    have ex4 : ∀ {H' : Hp}, Ex (del b H4) (del b H') → Ex (del b H) H' := fun e => (d04.trans e).trans ex_del
    have fin : ∀ {H' : Hp} {l : Addr} {us : List Str} {n' : Nat}, BagAt H' b n' → n' ≤ n + 4 → Ex (del b H4) (del b H') → del b H' l = some (.lst (us.map V.str)) → WsOk (m + 14) us → rJoin K (.str (sz " ")) [.ref l] H' fun v H'' => Q v H'' := fun {H' l us n'} hb hn' he hl hu => by
      refine w_join (SqL.of (ex_del _ _ hl)) ?_ (k _ _ (join_ok hu) (hb.mono hn') (ex4 he))
      have := hu.1
      unfold wl at this
      rw [show (sz " ").length = 1 by decide]
      omega
    walk_at "w"
    refine iteD (fun h3 => ?_) (fun h3 => ?_)
    · walk_at "w"
      refine w_slD hB4 fp4 fun l1 H5 hB5 d5 f5 => ?_
      rw [cut_toV] at f5
      walk_at "w"
      refine ⟨b, po, _, _, rfl, hB5, by omega, SqL.of (d5 _ _ fo), by unfold oddL; simp, by unfold oddL; decide, fun v H6 hv hB6 e6 => ?_⟩
      obtain ⟨o, ho, rfl⟩ := List.mem_map.mp hv
      have d6 : Ex (del b H5) (del b H6) := ex_dd e6
      walk_at "w"
      intro p1 hp1
      have hB7 := hB6.new (o := .lst [.str o]) hp1
      have d7 : Ex (del b H6) (del b (upd H6 p1 (.lst [.str o]))) := ex_dd (ex_del.trans (Ex.new hp1))
      have f7 : del b (upd H6 p1 (.lst [.str o])) p1 = some (.lst [.str o]) := by rw [del_ne (hB6.ne_none hp1).symm]; exact upd_same
      generalize (upd H6 p1 (.lst [.str o])) = H7 at hB7 d7 f7 ⊢
      refine w_catD hB7 (d7 _ _ (d6 _ _ f5)) f7 (by rw [List.length_map, List.length_take]; simp; omega) fun l2 H8 hB8 d8 f8 => ?_
      walk_at "w"
      rw [show ((j : Int) + 1) = ((j + 1 : Nat) : Int) by omega]
      refine w_slD hB8 (d8 _ _ (d7 _ _ (d6 _ _ (d5 _ _ fp4)))) fun l3 H9 hB9 d9 f9 => ?_
      rw [cut_fromV] at f9
      walk_at "w"
      refine w_catD hB9 (d9 _ _ f8) f9 (by simp only [List.length_append, List.length_map, List.length_take, List.length_drop, List.length_cons, List.length_nil]; omega) fun l4 H10 hB10 d10 f10 => ?_
      have oo := odd_ok o ho
      refine fin (us := ws.take j ++ [o] ++ ws.drop (j + 1)) hB10 (by omega) (d5.trans (d6.trans (d7.trans (d8.trans (d9.trans d10))))) (by rw [List.map_append, List.map_append]; exact f10) ⟨?_, fun w hw => ?_⟩
      · rw [wl_app, wl_app, wl_one]
        have := oo.1
        omega
      · rcases List.mem_append.1 hw with hw | hw
        · rcases List.mem_append.1 hw with hw | hw
          · exact tk w hw
          · rw [List.mem_singleton.1 hw]
            exact oo.2
        · exact dr _ w hw
    walk_at "w"
    refine iteD (fun h5 => ?_) (fun h5 => ?_)
    · walk_at "w"
      refine w_slD hB4 fp4 fun l1 H5 hB5 d5 f5 => ?_
      rw [cut_toV] at f5
      walk_at "w"
      refine ⟨b, po, _, _, rfl, hB5, by omega, SqL.of (d5 _ _ fo), by unfold oddL; simp, by unfold oddL; decide, fun v H6 hv hB6 e6 => ?_⟩
      obtain ⟨o, ho, rfl⟩ := List.mem_map.mp hv
      have d6 : Ex (del b H5) (del b H6) := ex_dd e6
      walk_at "w"
      intro p1 hp1
      have hB7 := hB6.new (o := .lst [.str o]) hp1
      have d7 : Ex (del b H6) (del b (upd H6 p1 (.lst [.str o]))) := ex_dd (ex_del.trans (Ex.new hp1))
      have f7 : del b (upd H6 p1 (.lst [.str o])) p1 = some (.lst [.str o]) := by rw [del_ne (hB6.ne_none hp1).symm]; exact upd_same
      generalize (upd H6 p1 (.lst [.str o])) = H7 at hB7 d7 f7 ⊢
      refine w_catD hB7 (d7 _ _ (d6 _ _ f5)) f7 (by rw [List.length_map, List.length_take]; simp; omega) fun l2 H8 hB8 d8 f8 => ?_
      walk_at "w"
      refine w_slD hB8 (d8 _ _ (d7 _ _ (d6 _ _ (d5 _ _ fp4)))) fun l3 H9 hB9 d9 f9 => ?_
      rw [cut_fromV] at f9
      walk_at "w"
      refine w_catD hB9 (d9 _ _ f8) f9 (by simp only [List.length_append, List.length_map, List.length_take, List.length_drop, List.length_cons, List.length_nil]; omega) fun l4 H10 hB10 d10 f10 => ?_
      have oo := odd_ok o ho
      refine fin (us := ws.take j ++ [o] ++ ws.drop j) hB10 (by omega) (d5.trans (d6.trans (d7.trans (d8.trans (d9.trans d10))))) (by rw [List.map_append, List.map_append]; exact f10) ⟨?_, fun w hw => ?_⟩
      · rw [wl_app, wl_app, wl_one]
        have := oo.1
        omega
      · rcases List.mem_append.1 hw with hw | hw
        · rcases List.mem_append.1 hw with hw | hw
          · exact tk w hw
          · rw [List.mem_singleton.1 hw]
            exact oo.2
        · exact dr _ w hw
    walk_at "w"
    refine iteD (fun h6 => ?_) (fun h6 => ?_)
    · walk_at "w"
      refine w_slD hB4 fp4 fun l1 H5 hB5 d5 f5 => ?_
      rw [cut_toV] at f5
      walk_at "w"
      rw [show ((j : Int) + 1) = ((j + 1 : Nat) : Int) by omega]
      refine w_slD hB5 (d5 _ _ fp4) fun l3 H6 hB6 d6 f6 => ?_
      rw [cut_fromV] at f6
      walk_at "w"
      refine w_catD hB6 (d6 _ _ f5) f6 (by simp only [List.length_append, List.length_map, List.length_take, List.length_drop, List.length_cons, List.length_nil]; omega) fun l4 H7 hB7 d7 f7 => ?_
      refine fin (us := ws.take j ++ ws.drop (j + 1)) hB7 (by omega) (d5.trans (d6.trans d7)) (by rw [List.map_append]; exact f7) ⟨?_, fun w hw => ?_⟩
      · rw [wl_app]
        omega
      · rcases List.mem_append.1 hw with hw | hw
        · exact tk w hw
        · exact dr _ w hw
    walk_at "w"
    refine iteD (fun h7 => ?_) (fun h7 => ?_)
    · walk_at "w"
      refine w_slD hB4 fp4 fun l1 H5 hB5 d5 f5 => ?_
      rw [cut_toV] at f5
      walk_at "w"
      refine w_ixL (i := (j : Int)) (v := .str wj) (SqL.of (ex_del _ _ (d5 _ _ fp4))) (atI_nat (by rw [List.getElem?_map, hwj]; rfl)) ?_
      walk_at "w"
      intro pm hpm
      have hB6 := hB5.new (o := .lst [.str "?", .str " ", .str "s", .str ":"]) hpm
      have d6 : Ex (del b H5) (del b (upd H5 pm (.lst [.str "?", .str " ", .str "s", .str ":"]))) := ex_dd (ex_del.trans (Ex.new hpm))
      have f6 : del b (upd H5 pm (.lst [.str "?", .str " ", .str "s", .str ":"])) pm = some (.lst [.str "?", .str " ", .str "s", .str ":"]) := by rw [del_ne (hB5.ne_none hpm).symm]; exact upd_same
      generalize (upd H5 pm (.lst [.str "?", .str " ", .str "s", .str ":"])) = H6 at hB6 d6 f6 ⊢
      walk_at "w"
      refine ⟨b, pm, [.str "?", .str " ", .str "s", .str ":"], _, rfl, hB6, by omega, SqL.of f6, by simp, by decide, fun v H7 hv hB7 e7 => ?_⟩
      have d7 : Ex (del b H6) (del b H7) := ex_dd e7
      obtain ⟨o, rfl, ho⟩ : ∃ o, v = V.str o ∧ LnOk 1 o := by
        have q : ∀ x ∈ (["?", " ", "s", ":"] : List Str), x.length ≤ 1 ∧ ∀ c ∈ TL.tl x, c ≠ 10 := by decide +kernel
        simp only [List.mem_cons, List.not_mem_nil, or_false] at hv
        rcases hv with rfl | rfl | rfl | rfl
        · exact ⟨_, rfl, q _ (by simp)⟩
        · exact ⟨_, rfl, q _ (by simp)⟩
        · exact ⟨_, rfl, q _ (by simp)⟩
        · exact ⟨_, rfl, q _ (by simp)⟩
      have lj : wj.length + 1 ≤ wl ws := by omega
      have ol := ho.1
      refine w_addS (by unfold sizeLine; omega) ?_
      walk_at "w"
      intro p2 hp2
      have hB8 := hB7.new (o := .lst [.str (wj ++ o)]) hp2
      have d8 : Ex (del b H7) (del b (upd H7 p2 (.lst [.str (wj ++ o)]))) := ex_dd (ex_del.trans (Ex.new hp2))
      have f8 : del b (upd H7 p2 (.lst [.str (wj ++ o)])) p2 = some (.lst [.str (wj ++ o)]) := by rw [del_ne (hB7.ne_none hp2).symm]; exact upd_same
      generalize (upd H7 p2 (.lst [.str (wj ++ o)])) = H8 at hB8 d8 f8 ⊢
      refine w_catD hB8 (d8 _ _ (d7 _ _ (d6 _ _ f5))) f8 (by rw [List.length_map, List.length_take]; simp; omega) fun l2 H9 hB9 d9 f9 => ?_
      walk_at "w"
      rw [show ((j : Int) + 1) = ((j + 1 : Nat) : Int) by omega]
      refine w_slD hB9 (d9 _ _ (d8 _ _ (d7 _ _ (d6 _ _ (d5 _ _ fp4))))) fun l3 H10 hB10 d10 f10 => ?_
      rw [cut_fromV] at f10
      walk_at "w"
      refine w_catD hB10 (d10 _ _ f9) f10 (by simp only [List.length_append, List.length_map, List.length_take, List.length_drop, List.length_cons, List.length_nil]; omega) fun l4 H11 hB11 d11 f11 => ?_
      refine fin (us := ws.take j ++ [wj ++ o] ++ ws.drop (j + 1)) hB11 (by omega) (d5.trans (d6.trans (d7.trans (d8.trans (d9.trans (d10.trans d11)))))) (by rw [List.map_append, List.map_append]; exact f11) ⟨?_, fun w hw => ?_⟩
      · rw [wl_app, wl_app, wl_one, len_cat]
        omega
      · rcases List.mem_append.1 hw with hw | hw
        · rcases List.mem_append.1 hw with hw | hw
          · exact tk w hw
          · rw [List.mem_singleton.1 hw]
            exact nonl_cat (wsk.2 wj wjin) ho.2
        · exact dr _ w hw
    walk_at "w"
    refine iteD (fun h8 => ?_) (fun h8 => ?_)
    · walk_at "w"
      have q : ∀ z ∈ (["", " ", "?", " as many", " to many"] : List Str), z.length ≤ 8 ∧ ∀ c ∈ TL.tl z, c ≠ 10 := by decide +kernel
      have q0 : LnOk 8 "" := q _ (by simp)
      have q1 : LnOk 8 " " := q _ (by simp)
      have q2 : LnOk 8 "?" := q _ (by simp)
      have q3 : LnOk 8 " as many" := q _ (by simp)
      have q4 : LnOk 8 " to many" := q _ (by simp)
      have s1 := q1.1
      have s2 := q2.1
      have s3 := q3.1
      have s4 := q4.1
      walk_at "w"
      intro pm hpm
      have hB5 := hB4.new (o := .lst [.str (" " ++ x), .str (x ++ " "), .str "", .str " ", .str (x ++ "?"), .str (x ++ " as many"), .str (x ++ " to many")]) hpm
      have d5 : Ex (del b H4) (del b (upd H4 pm (.lst [.str (" " ++ x), .str (x ++ " "), .str "", .str " ", .str (x ++ "?"), .str (x ++ " as many"), .str (x ++ " to many")]))) := ex_dd (ex_del.trans (Ex.new hpm))
      have f5 : del b (upd H4 pm (.lst [.str (" " ++ x), .str (x ++ " "), .str "", .str " ", .str (x ++ "?"), .str (x ++ " as many"), .str (x ++ " to many")])) pm = some (.lst [.str (" " ++ x), .str (x ++ " "), .str "", .str " ", .str (x ++ "?"), .str (x ++ " as many"), .str (x ++ " to many")]) := by rw [del_ne (hB4.ne_none hpm).symm]; exact upd_same
      generalize (upd H4 pm (.lst [.str (" " ++ x), .str (x ++ " "), .str "", .str " ", .str (x ++ "?"), .str (x ++ " as many"), .str (x ++ " to many")])) = H5 at hB5 d5 f5 ⊢
      walk_at "w"
      refine ⟨b, pm, [.str (" " ++ x), .str (x ++ " "), .str "", .str " ", .str (x ++ "?"), .str (x ++ " as many"), .str (x ++ " to many")], _, rfl, hB5, by omega, SqL.of f5, by simp, by simp, fun v H6 hv hB6 e6 => ?_⟩
      have fn : ∀ z, LnOk (m + 8) z → Q (.str z) H6 := fun z hz => k z H6 (hz.mono (by omega)) (hB6.mono (by omega)) (ex4 (d5.trans (ex_dd e6)))
      simp only [List.mem_cons, List.not_mem_nil, or_false] at hv
      rcases hv with rfl | rfl | rfl | rfl | rfl | rfl | rfl
      · exact fn _ ((ln_cat q1 hx).mono (by omega))
      · exact fn _ (ln_cat hx q1)
      · exact fn _ (q0.mono (by omega))
      · exact fn _ (q1.mono (by omega))
      · exact fn _ (ln_cat hx q2)
      · exact fn _ (ln_cat hx q3)
      · exact fn _ (ln_cat hx q4)
    walk_at "w"
    refine iteD (fun h9 => ?_) (fun h9 => ?_)
    · walk_at "w"
      refine w_slD hB4 fp4 fun l1 H5 hB5 d5 f5 => ?_
      rw [cut_toV] at f5
      walk_at "w"
      rw [show ((j : Int) + 1) = ((j + 1 : Nat) : Int) by omega]
      refine w_slD hB5 (d5 _ _ fp4) fun l3 H6 hB6 d6 f6 => ?_
      rw [cut_fromV] at f6
      walk_at "w"
      refine w_catD hB6 (d6 _ _ f5) f6 (by simp only [List.length_append, List.length_map, List.length_take, List.length_drop, List.length_cons, List.length_nil]; omega) fun l4 H7 hB7 d7 f7 => ?_
      walk_at "w"
      refine w_slD hB7 (d7 _ _ (d6 _ _ (d5 _ _ fp4))) fun l5 H8 hB8 d8 f8 => ?_
      rw [show ((j : Int) + 1) = ((j + 1 : Nat) : Int) by omega, cut_oneV hwj] at f8
      walk_at "w"
      refine w_catD hB8 (d8 _ _ f7) f8 (by simp only [List.length_append, List.length_map, List.length_take, List.length_drop, List.length_cons, List.length_nil]; omega) fun l6 H9 hB9 d9 f9 => ?_
      refine fin (us := ws.take j ++ ws.drop (j + 1) ++ [wj]) hB9 (by omega) (d5.trans (d6.trans (d7.trans (d8.trans d9)))) (by rw [List.map_append, List.map_append]; exact f9) ⟨?_, fun w hw => ?_⟩
      · rw [wl_app, wl_app, wl_one]
        omega
      · rcases List.mem_append.1 hw with hw | hw
        · rcases List.mem_append.1 hw with hw | hw
          · exact tk w hw
          · exact dr _ w hw
        · rw [List.mem_singleton.1 hw]
          exact wsk.2 wj wjin
    walk_at "w"
    refine iteD (fun h10 => ?_) (fun h10 => ?_)
    · walk_at "w"
      exact k _ _ (hy.mono (by omega)) (hB4.mono (by omega)) (ex4 (Ex.refl _))
    walk_at "w"
    refine ⟨b, _, _, rfl, hB4, by omega, by omega, by omega, fun z H5 z0 z1 hB5 e5 => ?_⟩
    walk_at "w"
    exact k _ _ ((ln_cut hx _ _).mono (by omega)) (hB5.mono (by omega)) (ex4 (ex_dd e5))
end
end LP
namespace LP
open PySem L2
open Evl (Ex)
def spSpoiltL (K : PySem.W.Frag) : Sp := fun vs H Q _ => ∃ (b q : Addr) (n m : Nat) (ls : List Str), vs = [.ref b, .ref q] ∧ BagAt H b n ∧ n < 50000000 ∧ del b H q = some (.lst (ls.map V.str)) ∧ ls ≠ [] ∧ ls.length ≤ 90 ∧ (∀ l ∈ ls, LnOk m l) ∧ m ≤ 280 ∧
  ∀ (q' : Addr) (H' : Hp) (ls' : List Str), del b H' q' = some (.lst (ls'.map V.str)) → ls' ≠ [] → ls'.length ≤ ls.length + 1 → (∀ l ∈ ls', LnOk (m + 14) l) → BagAt H' b (n + 20) → Ex (del b H) H' → Q (.ref q') H'
section
variable {base : Heap} {mg : Str → Option Value} {K : PySem.W.Frag} {w : World} {P : Program}
theorem ok_spoiltL {f : Addr} {fd : FuncData} (D : C8.Def K mg "_law_spoilt" s__law_spoilt f fd) (b : Binds K fd ["bag", "lines"] []) (B : Blt mg) (c__law_take : C8.Cal P w K mg base 1 "_law_take" spTake []) (c__law_of : C8.Cal P w K mg base 2 "_law_of" (spOf K) [])
    (c__law_spoilt_line : C8.Cal P w K mg base 3 "_law_spoilt_line" spSpLine []) : C8.Cal P w K mg base 4 "_law_spoilt" (spSpoiltL K) [] := by
  have sc : FnScope ["bag", "lines", "at", "road", "new"] ["bag", "lines"] (C8.fnScope s__law_spoilt) := C8.fnScope_by (by decide +kernel)
  refine C8.cal0 D b .nil sc (fun vs H Q E h => ?_) (fun cdv A outer s H vs Q E hr h => ?_)
  · obtain ⟨_, _, _, _, _, rfl, _⟩ := h
    rfl
  · obtain ⟨b, q, n, m, ls, rfl, hB, hn, hq, hne, hl, hx, hm, k⟩ := h
    refine ⟨_, (pss_cons (ps_par (i := 2) (j := 3) (by rfl) sc.nd rfl rfl (by decide) rfl rfl (pa_cons (C8.pe_c c__law_take hr (by decide) rfl (pa_cons (pv 0) (pa_cons (pe_callB (call_len_seqK (K := K) rfl) (by rfl) B.len_ (by decide +kernel) (pa_cons (pv 1) pa_nil)) pa_nil))) (pa_cons (C8.pe_c c__law_take hr (by decide) rfl (pa_cons (pv 0) (pa_cons pe_int pa_nil))) pa_nil)) (by rfl))
        (pss_cons (ps_set (i := 4) sc.nd rfl (Or.inl rfl) (C8.pe_c c__law_spoilt_line hr (by decide) rfl (pa_cons (pv 0) (pa_cons (pe_ix (ix_listK (K := K) rfl) (pv 1) (pv 2) (fun _ _ => rfl)) (pa_cons (C8.pe_c c__law_of hr (by decide) rfl (pa_cons (pv 0) (pa_cons (pv 1) pa_nil))) pa_nil)))))
        (pss_cons (ps_if (pt_cmpR op_lt (pv 3) pe_int (nomark _))
        (pss_one (ps_ret (pe_op op_cat (pe_op op_cat (pe_slice (sl_listK (K := K) rfl) (pv 1) po_none (po_some (pv 2))) (pe_lst (pa_cons (pv 4) pa_nil))) (pe_slice (sl_listK (K := K) rfl) (pv 1) (po_some (pe_op op_add (pv 2) pe_int)) po_none))))
        pss_nil)
        (pss_cons (ps_if (pt_cmpR op_eq (pv 3) pe_int (nomark _))
        (pss_one (ps_ret (pe_op op_cat (pe_op op_cat (pe_slice (sl_listK (K := K) rfl) (pv 1) po_none (po_some (pv 2))) (pe_lst (pa_cons (pv 4) pa_nil))) (pe_slice (sl_listK (K := K) rfl) (pv 1) (po_some (pv 2)) po_none))))
        pss_nil)
        (C8.pss_cut (ps_if (PW.pt (pw_and (pt_cmpR op_eq (pv 3) pe_int (nomark _)) (pw_and1 (pt_cmpR op_gt (pe_callB (call_len_seqK (K := K) rfl) (by rfl) B.len_ (by decide +kernel) (pa_cons (pv 1) pa_nil)) pe_int (nomark _)))))
        (pss_one (ps_ret (pe_op op_cat (pe_slice (sl_listK (K := K) rfl) (pv 1) po_none (po_some (pv 2))) (pe_slice (sl_listK (K := K) rfl) (pv 1) (po_some (pe_op op_add (pv 2) pe_int)) po_none))))
        pss_nil)
        (pss_one (ps_ret (pe_op op_cat (pv 1) (pe_lst (pa_cons (C8.pe_c c__law_of hr (by decide) rfl (pa_cons (pv 0) (pa_cons (pe_lst (pa_cons pe_str (pa_cons (pv 4) (pa_cons (pe_ix (ix_listK (K := K) rfl) (pv 1) (pv 2) (fun _ _ => rfl)) (pa_cons pe_str (pa_cons pe_str (pa_cons pe_str pa_nil))))))) pa_nil))) pa_nil)))))))))), ?_⟩
    have lpos : 0 < ls.length := List.length_pos_iff.mpr hne
    have hq' := ex_del _ _ hq
    walk_at "w"
    refine ⟨b, _, _, rfl, hB, by omega, by rw [List.length_map]; omega, by rw [List.length_map]; omega, fun at_ H1 a0 a1 hB1 e1 => ?_⟩
    rw [List.length_map] at a1
    obtain ⟨j, rfl, hj⟩ : ∃ j : Nat, at_ = (j : Int) ∧ j < ls.length := ⟨at_.toNat, by omega, by omega⟩
    walk_at "w"
    refine ⟨b, 7, _, rfl, hB1, by omega, by decide, by decide, fun road H2 r0 r1 hB2 e2 => ?_⟩
    have d02 : Ex (del b H) (del b H2) := (ex_dd e1).trans (ex_dd e2)
    have fq2 := d02 _ _ hq
    obtain ⟨x, hxj⟩ : ∃ x, ls[j]? = some x := ⟨_, List.getElem?_eq_getElem hj⟩
    have xin : x ∈ ls := List.mem_of_getElem? hxj
    walk_at "w"
    refine w_ixL (i := (j : Int)) (v := .str x) (SqL.of (ex_del _ _ fq2)) (atI_nat (by rw [List.getElem?_map, hxj]; rfl)) ?_
    walk_at "w"
    refine ⟨b, q, _, _, rfl, hB2, by omega, SqL.of fq2, by simpa using hne, by rw [List.length_map]; omega, fun v H3 hv hB3 e3 => ?_⟩
    obtain ⟨y, hy, rfl⟩ := List.mem_map.mp hv
    walk_at "w"
    refine ⟨b, _, m, x, y, rfl, hB3, by omega, hx x xin, hx y hy, by omega, fun z H4 hz hB4 e4 => ?_⟩
    have d24 : Ex (del b H2) (del b H4) := (ex_dd e3).trans (ex_dd e4)
    have d04 := d02.trans d24
    have fp4 := d24 _ _ fq2
    have hx2 : ∀ l ∈ ls, LnOk (m + 14) l := fun l h => (hx l h).mono (by omega)
    have tk : ∀ w ∈ ls.take j, LnOk (m + 14) w := fun w hw => hx2 w (List.mem_of_mem_take hw)
    have dr : ∀ i, ∀ w ∈ ls.drop i, LnOk (m + 14) w := fun i w hw => hx2 w (List.mem_of_mem_drop hw)
    have ltk : (ls.take j).length = j := by rw [List.length_take]; omega
    have fin : ∀ {H' : Hp} {l : Addr} {us : List Str} {n' : Nat}, BagAt H' b n' → n' ≤ n + 20 → Ex (del b H4) (del b H') → del b H' l = some (.lst (us.map V.str)) → us ≠ [] → us.length ≤ ls.length + 1 → (∀ l ∈ us, LnOk (m + 14) l) → Q (.ref l) H' := fun {H' l us n'} hb hn' he hl h1 h2 h3 => k l H' us hl h1 h2 h3 (hb.mono hn') ((d04.trans he).trans ex_del)
    walk_at "w"
    refine iteD (fun h4 => ?_) (fun h4 => ?_)
    · walk_at "w"
      refine w_slD hB4 fp4 fun l1 H5 hB5 d5 f5 => ?_
      rw [cut_toV] at f5
      walk_at "w"
      intro p1 hp1
      have hB6 := hB5.new (o := .lst [.str z]) hp1
      have d6 : Ex (del b H5) (del b (upd H5 p1 (.lst [.str z]))) := ex_dd (ex_del.trans (Ex.new hp1))
      have f6 : del b (upd H5 p1 (.lst [.str z])) p1 = some (.lst [.str z]) := by rw [del_ne (hB5.ne_none hp1).symm]; exact upd_same
      generalize (upd H5 p1 (.lst [.str z])) = H6 at hB6 d6 f6 ⊢
      refine w_catD hB6 (d6 _ _ f5) f6 (by simp only [List.length_append, List.length_map, List.length_take, List.length_drop, List.length_cons, List.length_nil]; omega) fun l2 H7 hB7 d7 f7 => ?_
      walk_at "w"
      rw [show ((j : Int) + 1) = ((j + 1 : Nat) : Int) by omega]
      refine w_slD hB7 (d7 _ _ (d6 _ _ (d5 _ _ fp4))) fun l3 H8 hB8 d8 f8 => ?_
      rw [cut_fromV] at f8
      walk_at "w"
      refine w_catD hB8 (d8 _ _ f7) f8 (by simp only [List.length_append, List.length_map, List.length_take, List.length_drop, List.length_cons, List.length_nil]; omega) fun l4 H9 hB9 d9 f9 => ?_
      refine fin (us := ls.take j ++ [z] ++ ls.drop (j + 1)) hB9 (by omega) (d5.trans (d6.trans (d7.trans (d8.trans d9)))) (by rw [List.map_append, List.map_append]; exact f9) (by simp) (by rw [List.length_append, List.length_append, ltk, List.length_drop, List.length_singleton]; omega) fun w hw => ?_
      rcases List.mem_append.1 hw with hw | hw
      · rcases List.mem_append.1 hw with hw | hw
        · exact tk w hw
        · rw [List.mem_singleton.1 hw]
          exact hz
      · exact dr _ w hw
    walk_at "w"
    refine iteD (fun h5 => ?_) (fun h5 => ?_)
    · walk_at "w"
      refine w_slD hB4 fp4 fun l1 H5 hB5 d5 f5 => ?_
      rw [cut_toV] at f5
      walk_at "w"
      intro p1 hp1
      have hB6 := hB5.new (o := .lst [.str z]) hp1
      have d6 : Ex (del b H5) (del b (upd H5 p1 (.lst [.str z]))) := ex_dd (ex_del.trans (Ex.new hp1))
      have f6 : del b (upd H5 p1 (.lst [.str z])) p1 = some (.lst [.str z]) := by rw [del_ne (hB5.ne_none hp1).symm]; exact upd_same
      generalize (upd H5 p1 (.lst [.str z])) = H6 at hB6 d6 f6 ⊢
      refine w_catD hB6 (d6 _ _ f5) f6 (by simp only [List.length_append, List.length_map, List.length_take, List.length_drop, List.length_cons, List.length_nil]; omega) fun l2 H7 hB7 d7 f7 => ?_
      walk_at "w"
      refine w_slD hB7 (d7 _ _ (d6 _ _ (d5 _ _ fp4))) fun l3 H8 hB8 d8 f8 => ?_
      rw [cut_fromV] at f8
      walk_at "w"
      refine w_catD hB8 (d8 _ _ f7) f8 (by simp only [List.length_append, List.length_map, List.length_take, List.length_drop, List.length_cons, List.length_nil]; omega) fun l4 H9 hB9 d9 f9 => ?_
      refine fin (us := ls.take j ++ [z] ++ ls.drop j) hB9 (by omega) (d5.trans (d6.trans (d7.trans (d8.trans d9)))) (by rw [List.map_append, List.map_append]; exact f9) (by simp) (by rw [List.length_append, List.length_append, ltk, List.length_drop, List.length_singleton]; omega) fun w hw => ?_
      rcases List.mem_append.1 hw with hw | hw
      · rcases List.mem_append.1 hw with hw | hw
        · exact tk w hw
        · rw [List.mem_singleton.1 hw]
          exact hz
      · exact dr _ w hw
    have fp4' := ex_del _ _ fp4
    refine ⟨fun σ' H' => σ' = [some (.ref b), some (.ref q), some (.int (j : Int)), some (.int road), some (.str z)] ∧ H' = H4, ?_, fun σ' H' h => ?_⟩
    · walk_at "w"
      refine iteD (fun h6 => ?_) (fun h6 => ?_)
      · walk_at "w"
        rw [List.length_map]
        refine iteD (fun h7 => ?_) (fun h7 => ?_)
        · walk_at "w"
          refine w_slD hB4 fp4 fun l1 H5 hB5 d5 f5 => ?_
          rw [cut_toV] at f5
          walk_at "w"
          rw [show ((j : Int) + 1) = ((j + 1 : Nat) : Int) by omega]
          refine w_slD hB5 (d5 _ _ fp4) fun l3 H6 hB6 d6 f6 => ?_
          rw [cut_fromV] at f6
          walk_at "w"
          refine w_catD hB6 (d6 _ _ f5) f6 (by simp only [List.length_append, List.length_map, List.length_take, List.length_drop, List.length_cons, List.length_nil]; omega) fun l4 H7 hB7 d7 f7 => ?_
          have lle : (ls.take j ++ ls.drop (j + 1)).length = ls.length - 1 := by rw [List.length_append, ltk, List.length_drop]; omega
          refine fin (us := ls.take j ++ ls.drop (j + 1)) hB7 (by omega) (d5.trans (d6.trans d7)) (by rw [List.map_append]; exact f7) (fun z => by rw [z] at lle; simp at lle; omega) (by omega) fun w hw => ?_
          rcases List.mem_append.1 hw with hw | hw
          · exact tk w hw
          · exact dr _ w hw
        · walk_at "w"
          exact rfl
      · walk_at "w"
        exact rfl
    obtain ⟨rfl, rfl⟩ := h
    walk_at "w"
    refine w_ixL (i := (j : Int)) (v := .str x) (SqL.of fp4') (atI_nat (by rw [List.getElem?_map, hxj]; rfl)) ?_
    walk_at "w"
    intro pm hpm
    have hB5 := hB4.new (o := .lst [.str "", .str z, .str x, .str "flag late", .str "table late", .str "number"]) hpm
    have d5 : Ex (del b H') (del b (upd H' pm (.lst [.str "", .str z, .str x, .str "flag late", .str "table late", .str "number"]))) := ex_dd (ex_del.trans (Ex.new hpm))
    have f5 : del b (upd H' pm (.lst [.str "", .str z, .str x, .str "flag late", .str "table late", .str "number"])) pm = some (.lst [.str "", .str z, .str x, .str "flag late", .str "table late", .str "number"]) := by rw [del_ne (hB4.ne_none hpm).symm]; exact upd_same
    generalize (upd H' pm (.lst [.str "", .str z, .str x, .str "flag late", .str "table late", .str "number"])) = H5 at hB5 d5 f5 ⊢
    walk_at "w"
    refine ⟨b, pm, [.str "", .str z, .str x, .str "flag late", .str "table late", .str "number"], _, rfl, hB5, by omega, SqL.of f5, by simp, by simp, fun v H6 hv hB6 e6 => ?_⟩
    have d6 : Ex (del b H5) (del b H6) := ex_dd e6
    obtain ⟨o, rfl, ho⟩ : ∃ o, v = V.str o ∧ LnOk (m + 14) o := by
      have qq : ∀ x ∈ (["", "flag late", "table late", "number"] : List Str), x.length ≤ 14 ∧ ∀ c ∈ TL.tl x, c ≠ 10 := by decide +kernel
      have q0 : ∀ x ∈ (["", "flag late", "table late", "number"] : List Str), LnOk (m + 14) x := fun x hx => ⟨Nat.le_trans (qq x hx).1 (by omega), (qq x hx).2⟩
      simp only [List.mem_cons, List.not_mem_nil, or_false] at hv; rcases hv with rfl | rfl | rfl | rfl | rfl | rfl
      · exact ⟨_, rfl, q0 _ (by simp)⟩
      · exact ⟨_, rfl, hz⟩
      · exact ⟨_, rfl, hx2 x xin⟩
      · exact ⟨_, rfl, q0 _ (by simp)⟩
      · exact ⟨_, rfl, q0 _ (by simp)⟩
      · exact ⟨_, rfl, q0 _ (by simp)⟩
    walk_at "w"
    intro p1 hp1
    have hB7 := hB6.new (o := .lst [.str o]) hp1
    have d7 : Ex (del b H6) (del b (upd H6 p1 (.lst [.str o]))) := ex_dd (ex_del.trans (Ex.new hp1))
    have f7 : del b (upd H6 p1 (.lst [.str o])) p1 = some (.lst [.str o]) := by rw [del_ne (hB6.ne_none hp1).symm]; exact upd_same
    generalize (upd H6 p1 (.lst [.str o])) = H7 at hB7 d7 f7 ⊢
    refine w_catD hB7 (d7 _ _ (d6 _ _ (d5 _ _ fp4))) f7 (by simp only [List.length_append, List.length_map, List.length_take, List.length_drop, List.length_cons, List.length_nil]; omega) fun l2 H8 hB8 d8 f8 => ?_
    refine fin (us := ls ++ [o]) hB8 (by omega) (d5.trans (d6.trans (d7.trans d8))) (by rw [List.map_append]; exact f8) (by simp) (by rw [List.length_append, List.length_singleton]; omega) fun w hw => ?_
    rcases List.mem_append.1 hw with hw | hw
    · exact hx2 w hw
    · rw [List.mem_singleton.1 hw]
      exact ho
end
end LP
namespace LP
open PySem L2
open Evl (Ex)
open LamX (GivesTo CodeO)
inductive Told where
  | line (k : Int)
  | schema (i j : Int)
  | text (s u : Str) (ns : List Str)
def ToldAt (H : Hp) (v : V) : Told → Prop
  | .line k => ∃ T, v = .ref T ∧ H T = some (.tup [.str "line", .int k])
  | .schema i j => ∃ T, v = .ref T ∧ H T = some (.tup [.str "schema", .int i, .int j])
  | .text s u ns => ∃ T A, v = .ref T ∧ H T = some (.tup [.str "text", .str s, .str u, .ref A]) ∧ H A = some (.tup (ns.map V.str))
theorem ToldAt.ext {H H' : Hp} (e : Ex H H') {v : V} {o : Told} (h : ToldAt H v o) : ToldAt H' v o := by
  match o, h with
  | .line k, ⟨T, ev, hT⟩ => exact ⟨T, ev, e _ _ hT⟩
  | .schema i j, ⟨T, ev, hT⟩ => exact ⟨T, ev, e _ _ hT⟩
  | .text s u ns, ⟨T, A, ev, hT, hA⟩ => exact ⟨T, A, ev, e _ _ hT, e _ _ hA⟩
/-- what the law's own names of classes hold -/
structure LawB5 (K : PySem.W.Frag) (mg : Str → Option Value) (CL CB LE : Addr) : Prop where
  mgL : mg "BadLine" = some (.ref CL)
  mgB : mg "BadSchema" = some (.ref CB)
  BadSchema_ : ∃ u, mg "BadSchema" = some u ∧ RelV (.ref CB) u
  ListandpageError_ : ∃ u, mg "ListandpageError" = some u ∧ RelV (.ref LE) u
  exL : ExcK K CL
  xfL : XfC K CL
  nl : PySem.W.findIn K (.ref CL) "line" = some none
  xfB : XfC K CB
  n1 : PySem.W.findIn K (.ref CB) "table" = some none
  n2 : PySem.W.findIn K (.ref CB) "column" = some none
  k1 : PySem.W.kitOne K (.ref CL) (.ref CB) = some false
  k2 : PySem.W.kitOne K (.ref CL) (.ref LE) = some true
  m1 : PySem.W.exmOne K (.ref CL) (.ref CL) = some true
  m2 : PySem.W.exmOne K (.ref CB) (.ref CL) = some false
  m3 : PySem.W.exmOne K (.ref CB) (.ref CB) = some true
/-- what _law_what_comes makes of what it calls -/
def comesE (CL CB : Addr) (Q : VK) : XK := fun cls d H' => (cls = .ref CL ∧ ∃ (dd : Addr) (k : Int), d = some dd ∧ H' dd = some (.xd [("line", .int k)]) ∧ ∀ v H'', Ex H' H'' → ToldAt H'' v (.line k) → Q v H'') ∨
  (cls = .ref CB ∧ ∃ (dd : Addr) (i j : Int), d = some dd ∧ H' dd = some (.xd [("column", .int j), ("table", .int i)]) ∧ ∀ v H'', Ex H' H'' → ToldAt H'' v (.schema i j) → Q v H'')
def comesR (C : Addr) (Q : VK) : VK := fun v H' => ∃ (p : Addr) (u : Str) (ts : Tabs), v = .ref p ∧ SchAt C H' p u ts ∧ GoodTabs ts ∧ ts.length ≤ 6 ∧ u.length ≤ 8 ∧ ∀ v H'', Ex H' H'' → ToldAt H'' v (.text (Txt.join (sz "\n") (linesOf u ts)) u (ts.map (·.1))) → Q v H''
def TTcomes (C CL CB : Addr) : (XK → Hp → VK → Prop) → Hp → VK → Prop := fun tl H Q => ∀ k : VK, (∀ v H', comesR C Q v H' → k v H') → tl (comesE CL CB Q) H k
theorem sch_str5 {C : Addr} {H : Hp} {p : Addr} {u : Str} {ts : Tabs} {Q : VK} (h : SchAt C H p u ts) (g : GoodTabs ts) (l6 : ts.length ≤ 6) (lu : u.length ≤ 8) (k : Q (.str (Txt.join (Str.ofString "\n") (linesOf u ts))) H) : rOwnStr C (spStr4 C) C8.E0 [.ref p] H Q := by
  obtain ⟨_, _, _, _, dx, fs, _, _, _, _, hp, _⟩ := h.ex
  exact ⟨p, dx, fs, rfl, hp, p, u, ts, rfl, h, g, l6, Nat.le_trans lu (by decide), _, rfl, k⟩
theorem look3 {u v : V} : ([("column", u), ("table", v)] : List (Str × V)).lookup ("table" : Str) = some v := by
  rw [List.lookup_cons, show (("table" : Str) == ("column" : Str)) = false by decide +kernel, List.lookup_cons, show (("table" : Str) == ("table" : Str)) = true from beq_self_eq_true _]
theorem comes_gives {X : Cx} {g C CL CB LE : Addr} {cdg : Value} {q : Str} (B : Blt X.mg) (S : SchC X.K C) (T : LawB5 X.K X.mg CL CB LE) (m___str__ : C8.Met X.prog X.w X.K X.mg X.base 1 C "__str__" (spStr4 C) []) (hr : Room 4 X.A) (sc : FnScope ["make", "schema", "e", "wrong"] ["make"] (C8.fnScope s__law_what_comes)) :
    GivesTo X ["make", "schema", "e", "wrong"] "_law_what_comes" (C8.fnScope s__law_what_comes) g cdg (C8.fnBody s__law_what_comes) "make" q (TTcomes C CL CB) := by
  intro f c' s H Q tl act hc h
  have hr2 := hr.deeper (PyProof.Rows.envOfC "_law_what_comes" (C8.fnScope s__law_what_comes) s.heap.objs.size g cdg)
  refine ⟨_, pss_cons (ps_try_all (X := (cxOf C8.CX0 X.prog X.w X.K X.mg X.base ["make", "schema", "e", "wrong"] "_law_what_comes" (C8.fnScope s__law_what_comes) g cdg X.A X.stack s H C8.E0).nox)
      (tb := fun W D σ H => ∃ Ech : XK, (∀ cls d σ' H', σ'.length = 4 → Ech cls d H' → W cls d σ' H') ∧ σ[0]? = some (some (.ref f)) ∧ H c' = some (CodeO c' q) ∧ tl Ech H fun v H' => D.nx (σ.set 1 (some v)) H')
      rfl rfl sc.nd (fun W pn xe tk => ?_)
      (.cons (i := 2) rfl rfl ⟨rfl, by decide +kernel, .inl T.mgL⟩ (fun a oe cls d pn hz hf =>
        pss_cons (ps_set (i := 3) sc.nd rfl (Or.inl rfl) (pe_or (pe_callB (call_isX T.exL hz hf) (by rfl) B.isinstance_ (by decide +kernel) (pa_cons (pv 2) (pa_cons (C8.pe_gc rfl T.BadSchema_) pa_nil)))
          (pe_or (pe_not (pe_callB (call_isX T.exL hz hf) (by rfl) B.isinstance_ (by decide +kernel) (pa_cons (pv 2) (pa_cons (C8.pe_gc rfl T.ListandpageError_) pa_nil))))
            (pe_one (pe_callB (call_isiK1 (K := X.K) rfl) (by rfl) B.isinstance_ (by decide +kernel) (pa_cons (pe_xf T.xfL T.nl hz hf (pv 2)) (pa_cons (pe_bltn (v := .ty "bool") (u := .type "bool") (by rfl) B.bool_ (by decide +kernel) rfl) pa_nil)))))))
        (pss_one (ps_ret (pe_ifExp (pt_val (pv 3)) (pe_tup (pa_cons pe_str pa_nil)) (pe_tup (pa_cons pe_str (pa_cons (pe_xf T.xfL T.nl hz hf (pv 2)) pa_nil)))))))
      (.cons (i := 2) rfl rfl ⟨rfl, by decide +kernel, .inl T.mgB⟩ (fun a oe cls d pn hz hf =>
        pss_one (ps_ret (pe_tup (pa_cons pe_str (pa_cons (pe_xf T.xfB T.n1 hz hf (pv 2)) (pa_cons (pe_xf T.xfB T.n2 hz hf (pv 2)) pa_nil)))))) .nil)))
      (pss_one (ps_ret (pe_tup (pa_cons pe_str (pa_cons (pe_callTy (call_strM m___str__ hr2 (by decide)) (by rfl) B.str_ (by decide +kernel) (pa_cons (pv 1) pa_nil)) (pa_cons (pe_fldK (K := X.K) rfl (pv 1) rfl) (pa_cons (pe_fldK (K := X.K) rfl (pv 1) rfl) pa_nil))))))), ?_⟩
  · refine ⟨fun pins s' σ H' D I q' => ?_⟩
    obtain ⟨Ech, hW, h1, h2, h3⟩ := q'
    have tk' : Takes ((cxOf C8.CX0 X.prog X.w X.K X.mg X.base ["make", "schema", "e", "wrong"] "_law_what_comes" (C8.fnScope s__law_what_comes) g cdg X.A X.stack s H C8.E0).tr pn xe) (fun cls d σ H => σ.length = 4 → W cls d σ H) := fun u s' x => by
      obtain ⟨a, B1, sI, pins, σ, H, cls, d, e, I, x1, x2, x3, x4, x5, x6, w⟩ := x
      exact tk u s' ⟨a, B1, sI, pins, σ, H, cls, d, e, I, x1, x2, x3, x4, x5, x6, w I.len⟩
    exact (pss_one (ps_set (i := 1) sc.nd rfl (Or.inl rfl) (act _ pn xe Ech _ _ tk' fun cls d σ' H' h l => hW cls d σ' H' l h))).run pins s' σ H' D I ⟨h1, h2, h3⟩
  · walk_at "w"
    refine ⟨_, fun cls d σ' H' hl he => ?_, rfl, hc, h _ fun v H' hv => ?_⟩
    · obtain ⟨x0, x1, x2, x3, rfl⟩ : ∃ x0 x1 x2 x3, σ' = [x0, x1, x2, x3] := by
        match σ', hl with
        | [x0, x1, x2, x3], _ => exact ⟨x0, x1, x2, x3, rfl⟩
      rcases he with ⟨rfl, dd, k, rfl, hdd, kk⟩ | ⟨rfl, dd, i, j, rfl, hdd, kk⟩
      · refine ⟨true, T.m1, fun _ a ha => ?_, fun z => by cases z⟩
        walk_at "w"
        refine ⟨.ref CB, _, false, rfl, ⟨rfl, dd, _, rfl, hdd⟩, .own _, T.k1, ?_⟩
        walk_at "w"
        refine ⟨.ref LE, _, true, rfl, ⟨rfl, dd, _, rfl, hdd⟩, .own _, T.k2, ?_⟩
        walk_at "w"
        refine ⟨.ref a, rfl, rfl, rfl, dd, _, .int k, rfl, hdd, rfl, ?_⟩
        walk_at "w"
        refine w_isBoQ (.int k) ?_
        unfold isBoQ
        walk_at "w"
        refine ⟨.ref a, rfl, rfl, rfl, dd, _, .int k, rfl, hdd, rfl, ?_⟩
        walk_at "w"
        intro tp htp
        exact kk _ _ (Ex.new htp) ⟨tp, rfl, upd_same⟩
      · refine ⟨false, T.m2, fun z => by (cases z), fun _ => ⟨true, T.m3, fun _ a ha => ?_, fun z => by cases z⟩⟩
        walk_at "w"
        refine ⟨.ref a, rfl, rfl, rfl, dd, _, .int i, rfl, hdd, look3, ?_⟩
        walk_at "w"
        refine ⟨.ref a, rfl, rfl, rfl, dd, _, .int j, rfl, hdd, rfl, ?_⟩
        walk_at "w"
        intro tp htp
        exact kk _ _ (Ex.new htp) ⟨tp, rfl, upd_same⟩
    · obtain ⟨p, u, ts, rfl, hS, hG, l6, lu, kk⟩ := hv
      obtain ⟨dc, dl, cvs, rs, dx, fs, tt, ll, hP, hm, hp, hf, hu, ht, htt, hl, hll⟩ := hS.ex
      walk_at "w"
      refine sch_str5 hS hG l6 lu ?_
      walk_at "w"
      refine w_kFld hp S.cls S.user_ hu ?_
      walk_at "w"
      refine w_kFld hp S.cls S.tables_ ht ?_
      walk_at "w"
      intro tp htp
      have htt : H' tt = some (.tup ((ts.map (·.1)).map V.str)) := by rw [htt, List.map_map]; rfl
      exact kk _ _ (Ex.new htp) ⟨tp, tt, rfl, upd_same, (Ex.new htp) _ _ htt⟩
end LP
namespace LP
open PySem L2
open Evl (Ex)
open LamX (ExtN)
/-! ### what is told of a text -/
def toldI (u : Str) (ts : Tabs) : Told := match initF (.str u) (datas ts) with
  | some (i, j) => .schema i j
  | none => .text (Txt.join (sz "\n") (linesOf u ts)) u (ts.map (·.1))
def toldF (x : Str) : Told := match textF x with
  | .inl k => .line (k : Nat)
  | .inr (u, ts) => toldI u ts
def toldV : PyData → Told
  | .str x => toldF x
  | _ => .line (-1)
theorem toldI_some {u : Str} {ts : Tabs} {i j : Int} (h : initF (.str u) (datas ts) = some (i, j)) : toldI u ts = .schema i j := by unfold toldI; rw [h]
theorem toldI_none {u : Str} {ts : Tabs} (h : initF (.str u) (datas ts) = none) : toldI u ts = .text (Txt.join (sz "\n") (linesOf u ts)) u (ts.map (·.1)) := by unfold toldI; rw [h]
theorem toldF_inl {x : Str} {k : Nat} (h : textF x = .inl k) : toldF x = .line (k : Nat) := by unfold toldF; rw [h]
theorem toldF_inr {x u : Str} {ts : Tabs} (h : textF x = .inr (u, ts)) : toldF x = toldI u ts := by unfold toldF; rw [h]
theorem toldV_no {d : PyData} (h : isStrD d = false) : toldV d = .line (-1) := by cases d <;> first | rfl | cases h
theorem initF_none {u : Str} {ts : Tabs} (h : initF (.str u) (datas ts) = none) : GoodTabs ts ∧ 1 ≤ ts.length ∧ ts.length ≤ 6 ∧ u ∈ ts.map (·.1) := by
  have ld : (datas ts).length = ts.length := by unfold datas; rw [List.length_map]
  unfold initF at h
  by_cases q : 1 ≤ (datas ts).length ∧ (datas ts).length ≤ 6
  · rw [if_pos q] at h
    cases e : tabsF [] (datas ts) with
    | inl p =>
      obtain ⟨k, o⟩ := p
      rw [e] at h
      cases h
    | inr r =>
      have er : r = [] ++ ts := tabsF_cols e
      rw [List.nil_append] at er
      subst er
      obtain ⟨g, _⟩ := tabsF_good .nil e
      rw [e] at h
      dsimp only at h
      by_cases z : strD (fun n => decide (n ∈ r.map (·.1))) (.str u) = true
      · exact ⟨g, by omega, by omega, of_decide_eq_true z⟩
      · rw [if_neg z] at h
        cases h
  · rw [if_neg q] at h
    cases h
def toldP : Told → PyData
  | .line k => .tuple [.str "line", .int k]
  | .schema i j => .tuple [.str "schema", .int i, .int j]
  | .text s u ns => .tuple [.str "text", .str s, .str u, .tuple (ns.map PyData.str)]
theorem dp_strsT {K : PySem.W.Frag} {H : Hp} (ns : List Str) : DpAll K H (ns.map V.str) (ns.map PyData.str) := by
  induction ns with
  | nil => exact .nil
  | cons x r ih => exact .cons (.str x) ih
theorem ToldAt.dp {K : PySem.W.Frag} {H : Hp} {v : V} {o : Told} (h : ToldAt H v o) : Dp K H v (toldP o) := by
  match o, h with
  | .line k, ⟨T, ev, hT⟩ => subst ev; exact .tup (SqT.of hT) (.cons (.str _) (.cons (.int k) .nil))
  | .schema i j, ⟨T, ev, hT⟩ => subst ev; exact .tup (SqT.of hT) (.cons (.str _) (.cons (.int i) (.cons (.int j) .nil)))
  | .text s u ns, ⟨T, A, ev, hT, hA⟩ => subst ev; exact .tup (SqT.of hT) (.cons (.str _) (.cons (.str s) (.cons (.str u) (.cons (.tup (SqT.of hA) (dp_strsT ns)) .nil))))
theorem toldP_eqv (o : Told) : PyData.eqv (toldP o) (toldP o) = true := by
  cases o with
  | line k => simp [toldP, PyData.eqv, PyData.eqvAll]
  | schema i j => simp [toldP, PyData.eqv, PyData.eqvAll]
  | text s u ns =>
    have z := eqv_strT ns
    simp [toldP, PyData.eqv, PyData.eqvAll] at z ⊢
    exact z
theorem sok_join {s : Str} (hs : SOk s) {ws : List Str} (h : ∀ x ∈ ws, SOk x) : SOk (Txt.join s ws) := by
  have al : ∀ x : Str, SOk x ↔ ∀ c ∈ TL.tl x, decide (c < 1114112) = true := fun x => by
    unfold SOk PyData.strOk
    rw [← Array.all_toList,
            List.all_eq_true]
  rw [al, tl_join]
  have key : ∀ ws : List Str, (∀ x ∈ ws, SOk x) → ∀ c ∈ TL.joinL (TL.tl s) (ws.map TL.tl), decide (c < 1114112) = true := fun ws => by
    induction ws with
    | nil => exact fun _ c hc => nomatch hc
    | cons w r ih =>
      intro h c hc
      cases r with
      | nil => exact (al w).mp (h w (by simp)) c hc
      | cons z r =>
        rw [List.map_cons, List.map_cons, joinL3] at hc
        rcases List.mem_append.1 hc with hc | hc
        · exact (al w).mp (h w (by simp)) c hc
        · rcases List.mem_append.1 hc with hc | hc
          · exact (al s).mp hs c hc
          · exact ih (fun x hx => h x (List.mem_cons_of_mem _ hx)) c hc
  exact key ws h
theorem toldP_line (k : Int) : SeqAt.shaped (toldP (.line k)) = true := by
  have z : PyData.strOk ("line" : Str) = true := by decide +kernel
  simp [toldP, SeqAt.shaped, PyData.canLay0, PyData.canLayAll0, PyData.depth, PyData.depthAll, z]
theorem toldP_schema (i j : Int) : SeqAt.shaped (toldP (.schema i j)) = true := by
  have z : PyData.strOk ("schema" : Str) = true := by decide +kernel
  simp [toldP, SeqAt.shaped, PyData.canLay0, PyData.canLayAll0, PyData.depth, PyData.depthAll, z]
theorem depth_strs (ns : List Str) : PyData.depthAll (ns.map PyData.str) = 0 := by
  induction ns with
  | nil => rfl
  | cons x r ih =>
    show max 0 (PyData.depthAll (r.map PyData.str)) = 0
    rw [ih]
    rfl
theorem toldI_shaped (u : Str) (ts : Tabs) : SeqAt.shaped (toldP (toldI u ts)) = true := by
  cases h : initF (.str u) (datas ts) with
  | some p =>
    obtain ⟨i, j⟩ := p
    rw [toldI_some h]
    exact toldP_schema i j
  | none =>
    rw [toldI_none h]
    obtain ⟨g, _, _, hu⟩ := initF_none h
    have nok : ∀ x ∈ ts.map (·.1), SOk x := fun x hx => by
      obtain ⟨t, ht, rfl⟩ := List.mem_map.mp hx
      exact (g.names t ht).ok
    have uok := nok u hu
    have sok : SOk (Txt.join (sz "\n") (linesOf u ts)) := sok_join (by decide +kernel) (lines_sok uok g)
    have z := shaped_strT nok
    have z0 : PyData.strOk ("text" : Str) = true := by decide +kernel
    unfold SOk at uok sok
    unfold SeqAt.shaped at z ⊢
    rw [Bool.and_eq_true, decide_eq_true_eq] at z ⊢
    obtain ⟨z1, z2⟩ := z
    simp only [PyData.canLay0, PyData.depth] at z1 z2
    refine ⟨?_, ?_⟩
    · simp only [toldP, PyData.canLay0, PyData.canLayAll0, z0, uok, sok, z1, Bool.and_true, Bool.true_and]
    · simp only [toldP, PyData.depth, PyData.depthAll]
      rw [depth_strs]
      decide
theorem toldF_shaped (x : Str) : SeqAt.shaped (toldP (toldF x)) = true := by
  cases h : textF x with
  | inl k =>
    rw [toldF_inl h]
    exact toldP_line _
  | inr p =>
    obtain ⟨u, ts⟩ := p
    rw [toldF_inr h]
    exact toldI_shaped u ts
theorem toldV_shaped (d : PyData) : SeqAt.shaped (toldP (toldV d)) = true := by
  cases d with
  | str x => exact toldF_shaped x
  | _ => exact toldP_line _
/-! ### the two ways to it -/
theorem reads {K : PySem.W.Frag} {C CB CL : Addr} {H : Hp} {v : V} {d : PyData} {Q : VK} (hv : Dp K H v d) (tx : ∀ x, d = .str x → TxOk x) (kQ : ∀ v' H', Ex H H' → ToldAt H' v' (toldV d) → Q v' H') {k : VK} (hk : ∀ v H', comesR C Q v H' → k v H') :
    spReadG K C CB CL [.ref C, v] H k (comesE CL CB Q) := by
  refine ⟨v, d, rfl, hv, tx, fun hs dd H' e hdd => .inl ⟨rfl, dd, -1, rfl, hdd, fun v' H'' e' ht => kQ v' H'' (e.trans e') (by rw [toldV_no hs]; exact ht)⟩, fun x ex => ?_⟩
  subst ex
  refine ⟨fun kk ek dd H' e hdd => .inl ⟨rfl, dd, _, rfl, hdd, fun v' H'' e' ht => kQ v' H'' (e.trans e') (by rw [show toldV (.str x) = toldF x from rfl, toldF_inl ek]; exact ht)⟩, fun u ts et => ?_⟩
  have et' : toldV (.str x) = toldI u ts := toldF_inr et
  rw [et'] at kQ
  refine ⟨fun i j hi dd H' e hdd => .inr ⟨rfl, dd, i, j, rfl, hdd, fun v' H'' e' ht => kQ v' H'' (Ex.trans e e') (by rw [toldI_some hi]; exact ht)⟩, fun hi z H' e hS => ?_⟩
  obtain ⟨g, _, l6, hu⟩ := initF_none hi
  have lu : u.length ≤ 8 := by
    obtain ⟨t, ht, rfl⟩ := List.mem_map.mp hu
    exact (g.names t ht).short
  exact hk _ _ ⟨z, u, ts, rfl, hS, g, l6, lu, fun v' H'' e' ht => kQ v' H'' (e.trans e') (by rw [toldI_none hi]; exact ht)⟩
theorem makes {K : PySem.W.Frag} {C CB CL : Addr} {H : Hp} {q : Addr} {u : Str} {ts : Tabs} {n : Nat} {Q : VK} (ht : TabsAt H q ts) (tsz : TSz n ts) (hn : n ≤ 1000) (kQ : ∀ v' H', Ex H H' → ToldAt H' v' (toldI u ts) → Q v' H') {k : VK} (hk : ∀ v H', comesR C Q v H' → k v H')
    (z dz : Addr) (hz : H z = none) (hdz : H dz = none) (hnz : dz ≠ z) : spInitG K C CB [.ref z, .str u, .ref q] (upd (upd H dz (.own z)) z (.ins C dz [])) (fun v H2 => v = .non ∧ k (.ref z) H2) (comesE CL CB Q) := by
  obtain ⟨dl1, dl2⟩ := datas_len tsz
  obtain ⟨tvs, hq, htv⟩ := ht
  have eNz : Ex H (upd (upd H dz (.own z)) z (.ins C dz [])) := (Ex.new hdz).trans (Ex.new (by rw [upd_ne (Ne.symm hnz)]; exact hz))
  have back : ∀ {H6 : Hp}, ExO [z] (upd (upd H dz (.own z)) z (.ins C dz [])) H6 → Ex H H6 := fun hO c o h => hO c o (eNz c o h) fun w => by rw [List.mem_singleton.mp w, hz] at h; cases h
  refine ⟨z, q, dz, .str u, .str u, tvs, datas ts, rfl, upd_same, SqL.of (eNz _ _ hq), tabs_tabD (TabsV.ext eNz htv) tsz, by omega, fun x hx => Nat.le_trans (dl2 x hx) (by omega), .str u, fun u' ts' eu et' _ hi H6 hO hS => ⟨rfl, ?_⟩,
    fun kk i hi dd H6 hO h6 => .inr ⟨rfl, dd, kk, i, rfl, h6, fun v' H'' e' ht => kQ v' H'' ((back hO).trans e') (by rw [toldI_some hi]; exact ht)⟩⟩
  cases eu
  have ets : ts' = ts := tabsF_cols et'
  subst ets
  obtain ⟨g, _, l6, hu⟩ := initF_none hi
  have lu : u.length ≤ 8 := by
    obtain ⟨t, ht, rfl⟩ := List.mem_map.mp hu
    exact (g.names t ht).short
  exact hk _ _ ⟨z, u, ts', rfl, hS, g, l6, lu, fun v' H'' e' ht => kQ v' H'' ((back hO).trans e') (by rw [toldI_none hi]; exact ht)⟩
/-! ### what stays while tables of code objects change -/
theorem ColAt.extN {H H' : Hp} (n : ExtN H H') {v : V} {c : Col} (h : ColAt H v c) : ColAt H' v c := by
  obtain ⟨a, ev, ha⟩ := h
  exact ⟨a, ev, n _ _ ha (by intro ps z; cases z)⟩
theorem TabsAt.extN {H H' : Hp} (n : ExtN H H') {q : Addr} {ts : Tabs} (h : TabsAt H q ts) : TabsAt H' q ts := by
  obtain ⟨vs, hq, hv⟩ := h
  refine ⟨vs, n _ _ hq (by intro ps z; cases z), paired_imp (fun v t h => ?_) hv⟩
  obtain ⟨a, p, ev, ha, cvs, hp, hc⟩ := h
  exact ⟨a, p, ev, n _ _ ha (by intro ps z; cases z), cvs, n _ _ hp (by intro ps z; cases z), paired_imp (fun _ _ h => ColAt.extN n h) hc⟩
theorem DueAt.extN {H H' : Hp} (n : ExtN H H') {v : V} {o : Sum Nat (Str × Tabs)} (h : DueAt H v o) : DueAt H' v o := by
  match o, h with
  | .inl k, ⟨T, ev, hT⟩ => exact ⟨T, ev, n _ _ hT (by intro ps z; cases z)⟩
  | .inr (u, ts), ⟨T, q, ev, hT, ht⟩ => exact ⟨T, q, ev, n _ _ hT (by intro ps z; cases z), TabsAt.extN n ht⟩
theorem ToldAt.extN {H H' : Hp} (n : ExtN H H') {v : V} {o : Told} (h : ToldAt H v o) : ToldAt H' v o := by
  match o, h with
  | .line k, ⟨T, ev, hT⟩ => exact ⟨T, ev, n _ _ hT (by intro ps z; cases z)⟩
  | .schema i j, ⟨T, ev, hT⟩ => exact ⟨T, ev, n _ _ hT (by intro ps z; cases z)⟩
  | .text s u ns, ⟨T, A, ev, hT, hA⟩ => exact ⟨T, A, ev, n _ _ hT (by intro ps z; cases z), n _ _ hA (by intro ps z; cases z)⟩
end LP
namespace LP
open PySem L2
open Evl (Ex)
open LamX (GivesTo CodeO TabS Tabs ExtN TabB LamS lamEnv lamCx tLam)
/-- _law_what_comes(lambda: ..) -/
theorem pe_comescall {X : Cx} {T : List (Addr × Str)} {g c P C CL CB LE : Addr} {fdg : FuncData} {k : Nat} {params : Arguments} {body : Expr} {scope : Scope} {t : XK → TE} {p lpos pos : Pos} (DE : C8.Def X.K X.mg "_law_what_comes" s__law_what_comes g fdg) (bE : Binds X.K fdg ["make"] [])
    (B : Blt X.mg) (S : SchC X.K C) (LB : LawB5 X.K X.mg CL CB LE) (ms : C8.Met X.prog X.w X.K X.mg X.base 1 C "__str__" (spStr4 C) []) (hg : Gl X "_law_what_comes") (TB : TabB X.base X.mg c P) (hcode : X.env.code = .ref c) (hmT : (P, X.env.qual ++ "<lambda>") ∈ T) (hu : ∀ p ∈ T, p.1 = P → p.2 = X.env.qual ++ "<lambda>") (hr : Room (k + 4) X.A)
    (L : LamS X.env.scope scope) (hdef : defaultsOf params X.env = ([], [])) (hbind : ∀ (q : Str) (cl : List (Str × Addr)) (pm cv ctv : Value), bindArgs (PySem.W.kla_fn "<lambda>" q params body scope cl pm cv ctv) ⟨[], []⟩ = pure [])
    (hbody : ∀ (A : Around) (outer : List Env) (s : Shared) (H : Hp) (E : XK) (f c' : Addr), Room k (A.deeper (lamEnv X scope s.heap.objs.size f c')) → PE (lamCx X A outer s H E scope f c') body (t E)) :
    PE X (.Call (.Name "_law_what_comes" p) [.Lambda params body scope lpos] [] pos) (tLam T (TTcomes C CL CB) t) := by
  have sc : FnScope ["make", "schema", "e", "wrong"] ["make"] (C8.fnScope s__law_what_comes) := C8.fnScope_by (by decide +kernel)
  obtain ⟨oc, od, dV, kV, doc, pm, an, cdg, ct, osl, rfl, lk, hcg⟩ := DE.fn.ex
  exact LamX.pe_lamcall hg DE.mgf DE.kp lk hcg bE sc rfl (Or.inl rfl) (comes_gives B S LB ms (hr.mono (by omega)) sc) TB hcode hmT hu (hr.mono (by omega)) L hdef hbind hbody
def spRight (C : Addr) (T : List (Addr × Str)) : Sp := fun vs H Q _ => ∃ x : Str, vs = [.str x] ∧ TxOk x ∧ LamX.Tabs T H ∧ ∀ H', ExtN H H' → LamX.Tabs T H' → Q (.bl true) H'
section
variable {base : Heap} {mg : Str → Option Value} {K : PySem.W.Frag} {w : World} {P : Program} {C CL CB LE ge cA PA' ra : Addr} {fdg : FuncData} {mc : Value} {TT : List (Addr × Str)}
theorem ok_is_right {f : Addr} {fd : FuncData} (F : FunC K "_law_is_right" "_law_is_right" s__law_is_right f fd cA) (B : Blt mg) (S : SchC K C) (T : Cns K mg ra C) (DE : C8.Def K mg "_law_what_comes" s__law_what_comes ge fdg) (bE : Binds K fdg ["make"] []) (LB : LawB5 K mg CL CB LE)
    (m___str__ : C8.Met P w K mg base 1 C "__str__" (spStr4 C) []) (TB : TabB base mg cA PA') (c__law_what_is_due : C8.Cal P w K mg base 3 "_law_what_is_due" (spDueL K) []) (c_read : CCalX P w K mg base 9 C mc "read" (spReadG K C CB CL)) (m_Schema : MakX P w K mg base 7 "Schema" C (spInitG K C CB))
    (hmT' : ∀ s : Heap, (PA', (PyProof.Rows.envOfC "_law_is_right" (C8.fnScope s__law_is_right) s.objs.size f (.ref cA)).qual ++ "<lambda>") ∈ TT) (hu' : ∀ s : Heap, ∀ p ∈ TT, p.1 = PA' → p.2 = (PyProof.Rows.envOfC "_law_is_right" (C8.fnScope s__law_is_right) s.objs.size f (.ref cA)).qual ++ "<lambda>") :
    FnOk P w K mg base C8.CX0 14 f fd ["text"] (spRight C TT) := by
  have sc : FnScope ["text", "due", "told"] ["text"] (C8.fnScope s__law_is_right) := C8.fnScope_by (by decide +kernel)
  refine fnC F sc (fun vs H Q E h => ?_) (fun A outer s H vs Q E hr h => ?_)
  · obtain ⟨_, rfl, _⟩ := h
    rfl
  · obtain ⟨x, rfl, tx, hT, k⟩ := h
    have hmT := hmT' s.heap
    have hu := hu' s.heap
    refine ⟨_, (pss_cons (ps_asg (pe_tup (pa_cons (C8.pe_c c__law_what_is_due hr (by decide) rfl (pa_cons (pe_split' (pv 0) pe_str) pa_nil)) (pa_cons ((pe_comescall (k := 9) DE bE B S LB m___str__ (by rfl) TB rfl hmT hu (hr.mono (by decide)) (LamX.lamS_by (sc := C8.fnScope s__law_is_right) (by decide +kernel)) rfl (fun _ _ _ _ _ => rfl) (fun A outer s H E f c' hr2 => pe_cmX c_read hr2 (by decide) (passes_call (takes_of rfl rfl rfl rfl) fun _ _ _ _ h => h) (C8.pe_gc rfl T.Schema_) (pa_cons (pv 0) pa_nil)))) pa_nil))) (pg_tupK (K := K) (n := 2) rfl rfl (pgs_cons (pg_name (i := 1) sc.nd rfl (Or.inr rfl)) (pgs_cons (pg_name (i := 2) sc.nd rfl (Or.inl rfl)) pgs_nil))))
        (pss_cons (ps_if (pt_cmpR op_eq (pe_ix (ix_tupK (K := K) rfl) (pv 1) pe_int (fun _ _ => rfl)) pe_str (nomark _))
        (pss_one (ps_ret (pe_cmpR (op_eqDK (K := K) rfl (hu64 hr)) (pv 2) (pv 1) (nomark _))))
        pss_nil)
        (pss_one (ps_ret (pe_cmpR (op_eqDK (K := K) rfl (hu64 hr)) (pv 2) ((pe_comescall (k := 9) DE bE B S LB m___str__ (by rfl) TB rfl hmT hu (hr.mono (by decide)) (LamX.lamS_by (sc := C8.fnScope s__law_is_right) (by decide +kernel)) rfl (fun _ _ _ _ _ => rfl) (fun A outer s H E f c' hr2 => pe_mkx m_Schema hr2 (by decide) (passes_call (takes_of rfl rfl rfl rfl) fun _ _ _ _ h => h) rfl (pa_cons (pe_ix (ix_tupK (K := K) rfl) (pv 1) pe_int (fun _ _ => rfl)) (pa_cons (pe_ix (ix_tupK (K := K) rfl) (pv 1) pe_int (fun _ _ => rfl)) pa_nil))))) (nomark _)))))), ?_⟩
    have e00 : Ex (noT H) H := noT_ex
    obtain ⟨x9, xn, xl⟩ := id tx
    walk_at "w"
    refine w_split (by decide) (by unfold sizeLine; omega) fun p hp => ?_
    have e1 : Ex H (upd H p (.lst ((Txt.split x (Str.ofString "\n")).map V.str))) := Ex.new hp
    have fp : (upd H p (.lst ((Txt.split x (Str.ofString "\n")).map V.str))) p = some (.lst ((Txt.split x (sz "\n")).map V.str)) := upd_same
    generalize (upd H p (.lst ((Txt.split x (Str.ofString "\n")).map V.str))) = H1 at e1 fp ⊢
    walk_at "w"
    have ne := PyProof.Rows.split_pos x (sz "\n")
    refine ⟨p, Txt.split x (sz "\n"), rfl, SqL.of fp, (fun z => by rw [z] at ne; cases ne), xn, xl, fun dv H2 e2 hdv => ?_⟩
    have hdv : DueAt H2 dv (textF x) := hdv
    walk_at "w"
    refine ⟨hT.ext (e1.trans e2), fun H3 n3 T3 kk hkk => ?_⟩
    have hdv3 := DueAt.extN n3 hdv
    have n03 : ExtN H H3 := (LamX.ExtN.of (e1.trans e2)).trans n3
    clear hdv n3 e1 e2 fp
    walk_at "w"
    refine reads (.str x) (fun x' e => by cases e; exact tx) (fun tv H4 e4 htv => ?_) hkk
    have htv : ToldAt H4 tv (toldF x) := htv
    have hdv4 := hdv3.ext e4
    have T4 := T3.ext e4
    have n04 : ExtN H H4 := n03.trans (.of e4)
    walk_at "w"
    intro pp hpp
    have e5 : Ex H4 (upd H4 pp (.tup [dv, tv])) := Ex.new hpp
    have f5 : (upd H4 pp (.tup [dv, tv])) pp = some (.tup [dv, tv]) := upd_same
    generalize (upd H4 pp (.tup [dv, tv])) = H5 at e5 f5 ⊢
    have htv5 := htv.ext e5
    have hdv5 := hdv4.ext e5
    have T5 := T4.ext e5
    have n05 : ExtN H H5 := n04.trans (.of e5)
    walk_at "w"
    cases et : textF x with
    | inl k' =>
      rw [et] at hdv5
      obtain ⟨T', rfl, hT'⟩ := hdv5
      rw [toldF_inl et] at htv5
      walk_at "w"
      refine iteD (fun _ => ?_) (fun h => absurd rfl h)
      walk_at "w"
      refine ⟨toldP (.line (k' : Nat)), toldP (.line (k' : Nat)), htv5.dp, ToldAt.dp (o := .line (k' : Nat)) ⟨T', rfl, hT'⟩, toldP_line _, toldP_line _, ?_⟩
      rw [toldP_eqv]
      exact k _ n05 T5
    | inr p' =>
      obtain ⟨u, ts⟩ := p'
      rw [et] at hdv5
      obtain ⟨T', q, rfl, hT', hq⟩ := hdv5
      rw [toldF_inr et] at htv5
      obtain ⟨tsz, _⟩ := textF_sz tx et
      walk_at "w"
      refine iteD (fun h => absurd (V.str.inj h) (by show ¬ (("tables" : Str) = "line"); decide +kernel)) (fun _ => ?_)
      walk_at "w"
      refine ⟨T5, fun H6 n6 T6 kk hkk => ?_⟩
      have hT6 := n6 _ _ hT' (by intro ps z; cases z)
      have hq6 := TabsAt.extN n6 hq
      have htv6 := htv5.extN n6
      have n06 := n05.trans n6
      walk_at "w"
      refine w_make ?_
      walk_at "w"
      intro z dz hz hdz hnz
      refine makes hq6 tsz (by omega) (fun v2 H7 e7 hv2 => ?_) hkk z dz hz hdz hnz
      have htv7 := htv6.ext e7
      refine ⟨toldP (toldI u ts), toldP (toldI u ts), htv7.dp, hv2.dp, toldI_shaped u ts, toldI_shaped u ts, ?_⟩
      rw [toldP_eqv]
      exact k _ (n06.trans (.of e7)) (T6.ext e7)
end
end LP
namespace LP
open PySem L2
open Evl (Ex)
/-! ### the lines of right tables are short -/
theorem kinds_nine : ∀ x ∈ (["flag", "number", "word", "link", "to", "as", "table", "user"] : List Str), x.length ≤ 9 := by decide +kernel
theorem words_nine {c : Col} (h : ColLow c) : (colWords c).length ≤ 6 ∧ ∀ x ∈ colWords c, x.length ≤ 9 := by
  refine ⟨(words_len h).1, ?_⟩
  have la : ∀ (n : Str) (o : Bool), (n ++ mark o).length ≤ n.length + 1 := fun n o => by
    rw [TL.len_tl, mark_app, List.length_append, ← TL.len_tl]
    cases o <;> simp
  have n2 := h.n2
  have t2 := h.t2
  intro x hx
  cases c with
  | plain f n =>
    have n2 : n.length ≤ 8 := n2
    cases f
    · have hx : x ∈ [("number" : Str), n] := hx
      simp only [List.mem_cons,
              List.not_mem_nil, or_false] at hx
      rcases hx with rfl | rfl
      · exact kinds_nine _ (by simp)
      · omega
    · have hx : x ∈ [("flag" : Str), n] := hx
      simp only [List.mem_cons,
              List.not_mem_nil, or_false] at hx
      rcases hx with rfl | rfl
      · exact kinds_nine _ (by simp)
      · omega
  | word n o =>
    have n2 : n.length ≤ 8 := n2
    have := la n o
    have hx : x ∈ [("word" : Str), n ++ mark o] := hx
    simp only [List.mem_cons,
            List.not_mem_nil, or_false] at hx
    rcases hx with rfl | rfl
    · exact kinds_nine _ (by simp)
    · omega
  | link n t o l =>
    have n2 : n.length ≤ 8 := n2
    have t2 : t.length ≤ 8 := t2
    have := la n o
    cases l with
    | none =>
      have hx : x ∈ [("link" : Str), n ++ mark o, "to", t] := hx
      simp only [List.mem_cons,
              List.not_mem_nil, or_false] at hx
      rcases hx with rfl | rfl | rfl | rfl
      · exact kinds_nine _ (by simp)
      · omega
      · exact kinds_nine _ (by simp)
      · omega
    | some l =>
      have l2 := (h.l l rfl).2.2
      have hx : x ∈ [("link" : Str), n ++ mark o, "to", t, "as", l] := hx
      simp only [List.mem_cons,
              List.not_mem_nil, or_false] at hx
      rcases hx with rfl | rfl | rfl | rfl | rfl | rfl
      · exact kinds_nine _ (by simp)
      · omega
      · exact kinds_nine _ (by simp)
      · omega
      · exact kinds_nine _ (by simp)
      · omega
theorem lines_ln {u : Str} {ts : Tabs} (g : GoodTabs ts) (hu : u ∈ ts.map (·.1)) : ∀ l ∈ linesOf u ts, LnOk 60 l := by
  have lu : u.length ≤ 8 := by
    obtain ⟨t, ht, rfl⟩ := List.mem_map.mp hu
    exact (g.names t ht).short
  have nine : ∀ ws ∈ allWords u ts, ws.length ≤ 6 ∧ ∀ x ∈ ws, x.length ≤ 9 := fun ws hw => by
    unfold allWords at hw
    rcases List.mem_cons.1 hw with rfl | hw
    · refine ⟨by show 2 ≤ 6; omega, fun x hx => ?_⟩
      simp only [List.mem_cons,
              List.not_mem_nil, or_false] at hx
      rcases hx with rfl | rfl
      · exact kinds_nine _ (by simp)
      · omega
    · obtain ⟨t, ht, hw⟩ := List.mem_flatMap.mp hw
      unfold tabWords at hw
      rcases List.mem_cons.1 hw with rfl | hw
      · refine ⟨by show 2 ≤ 6; omega, fun x hx => ?_⟩
        simp only [List.mem_cons,
                List.not_mem_nil, or_false] at hx
        rcases hx with rfl | rfl
        · exact kinds_nine _ (by simp)
        · exact Nat.le_trans (g.names t ht).short (by decide)
      · obtain ⟨c, hc, rfl⟩ := List.mem_map.mp hw
        exact words_nine (good_low g t ht c hc)
  intro l hl
  rw [lines_words] at hl
  obtain ⟨ws, hws, rfl⟩ := List.mem_map.mp hl
  obtain ⟨n1, n2⟩ := nine ws hws
  have ok := (all_ok g hu ws hws).2
  refine join_ok ⟨?_, fun w hw c hc => ?_⟩
  · have : (ws.map fun x => x.length).sum ≤ 9 * ws.length := sum_le n2
    have e : (ws.map (·.length)).sum = (ws.map fun x => x.length).sum := rfl
    unfold wl
    omega
  · rcases ok w hw c hc with h | h <;> omega
theorem lines_few {u : Str} {ts : Tabs} (g : GoodTabs ts) (l6 : ts.length ≤ 6) : (linesOf u ts).length ≤ 43 := by
  have key : ∀ ts : Tabs, (∀ t ∈ ts, t.2.length ≤ 6) → (ts.flatMap tabLines).length ≤ 7 * ts.length := fun ts => by
    induction ts with
    | nil => exact fun _ => Nat.le_refl _
    | cons t r ih =>
      intro h
      have := ih fun t ht => h t (List.mem_cons_of_mem _ ht)
      have h0 := h t List.mem_cons_self
      rw [List.flatMap_cons, List.length_append, List.length_cons]
      unfold tabLines at this ⊢
      rw [List.length_cons, List.length_map]
      omega
  have := key ts g.cols
  unfold linesOf
  rw [List.length_cons]
  omega
/-! ### texts of such lines -/
def LsOk (ls : List Str) : Prop := ls ≠ [] ∧ ls.length ≤ 98 ∧ ∀ l ∈ ls, LnOk 300 l
theorem nl_tl : TL.tl (sz "\n") = [10] := by decide +kernel
theorem split_ls {ls : List Str} (h : ls ≠ []) (hx : ∀ l ∈ ls, NoNl l) : Txt.split (Txt.join (sz "\n") ls) (sz "\n") = ls :=
  TL.split_join (s := 10) (S := []) nl_tl (by decide +kernel) h fun p hp z => hx p hp 10 z rfl
theorem tx_ok {ls : List Str} (h : LsOk ls) : TxOk (Txt.join (sz "\n") ls) := by
  have e := split_ls h.1 fun l hl => (h.2.2 l hl).2
  unfold TxOk
  rw [e]
  refine ⟨?_, Nat.le_trans h.2.1 (by decide), fun l hl => Nat.le_trans (h.2.2 l hl).1 (by decide)⟩
  have j := join_len (sz "\n") ls
  rw [show (sz "\n").length = 1 by decide] at j
  have s : (ls.map fun x => x.length).sum ≤ 300 * ls.length := sum_le fun l hl => (h.2.2 l hl).1
  have e2 : (ls.map (·.length)).sum = (ls.map fun x => x.length).sum := rfl
  have := h.2.1
  omega
theorem join_snoc {s : Str} : ∀ {ls : List Str}, ls ≠ [] → Txt.join s ls ++ s = Txt.join s (ls ++ [("" : Str)]) := by
  intro ls h
  refine TL.ext_tl ?_
  rw [TL.tl_append, tl_join, tl_join]
  have key : ∀ ls : List Str, ls ≠ [] → TL.joinL (TL.tl s) (ls.map TL.tl) ++ TL.tl s = TL.joinL (TL.tl s) ((ls ++ [("" : Str)]).map TL.tl) := fun ls => by
    have e0 : TL.tl ("" : Str) = [] := by decide +kernel
    induction ls with
    | nil => exact fun h => absurd rfl h
    | cons w r ih =>
      intro _
      cases r with
      | nil =>
        show TL.tl w ++ TL.tl s = TL.tl w ++ (TL.tl s ++ TL.tl "")
        rw [e0, List.append_nil]
      | cons z r =>
        have := ih (by simp)
        rw [List.map_cons, List.map_cons, joinL3, List.append_assoc, List.append_assoc]
        rw [List.map_cons] at this
        rw [this]
        rfl
  exact key ls h
theorem ls_snoc {ls : List Str} (h : LsOk ls) (l : ls.length ≤ 90) : LsOk (ls ++ [("" : Str)]) := by
  refine ⟨by simp, by rw [List.length_append, List.length_singleton]; omega, fun x hx => ?_⟩
  rcases List.mem_append.1 hx with hx | hx
  · exact h.2.2 x hx
  · rw [List.mem_singleton.1 hx]
    exact ⟨by show ("" : Str).length ≤ 300; decide, fun c hc => by rw [show TL.tl ("" : Str) = [] by decide +kernel] at hc; cases hc⟩
theorem ls_one {x : Str} (h : LnOk 300 x) : LsOk [x] := ⟨by simp, by simp, fun l hl => by rw [List.mem_singleton.1 hl]; exact h⟩
theorem join_one (s x : Str) : Txt.join s [x] = x := TL.ext_tl (by rw [tl_join]; rfl)
/-- an empty line behind the others may never stand -/
theorem go_end : ∀ (W : List (List Str)) (ts : Tabs) (k : Nat), ∃ j, goF ts k (W ++ [[("" : Str)]]) = .inl j
  | [], ts, k => by
    refine ⟨k, ?_⟩
    have e1 : headB "table" [("" : Str)] = false := rfl
    have e2 : colF [("" : Str)] = none := by
      rw [colF_cons, if_neg (by decide +kernel), if_pos (by decide +kernel)]
    show goF ts k [[("" : Str)]] = _
    rw [goF_cons, if_neg (by rw [e1]; exact Bool.false_ne_true), e2]
  | w :: W, ts, k => by
    rw [List.cons_append, goF_cons]
    by_cases h : headB "table" w = true
    · rw [if_pos h]
      exact go_end W _ _
    · rw [if_neg h]
      cases colF w with
      | none => exact ⟨k, rfl⟩
      | some c =>
        by_cases q : ts = []
        · exact ⟨k, if_pos q⟩
        · obtain ⟨j, hj⟩ := go_end W (addLast c ts) (k + 1)
          exact ⟨j, (if_neg q).trans hj⟩
theorem text_end {ls : List Str} (h : LsOk ls) (l : ls.length ≤ 90) : ∃ k, textF (Txt.join (sz "\n") ls ++ sz "\n") = .inl k := by
  have h2 := ls_snoc h l
  have e := split_ls h2.1 fun l hl => (h2.2.2 l hl).2
  have eb : Txt.split ("" : Str) (sz " ") = [("" : Str)] := by
    have := split_line (ws := [("" : Str)]) (by simp) fun x hx => by rw [List.mem_singleton.1 hx]; exact fun c hc => by rw [show TL.tl ("" : Str) = [] by decide +kernel] at hc; cases hc
    rw [join_one] at this
    exact this
  unfold textF wordsF
  rw [join_snoc h.1, e, List.map_append, show [("" : Str)].map (fun l => Txt.split l (sz " ")) = [[("" : Str)]] by rw [List.map_cons, eb]; rfl]
  cases ls with
  | nil => exact absurd rfl h.1
  | cons x r =>
    rw [List.map_cons, List.cons_append, linesF_cons]
    by_cases q : headB "user" (Txt.split x (sz " ")) = true
    · obtain ⟨j, hj⟩ := go_end (r.map fun l => Txt.split l (sz " ")) [] 1
      rw [if_pos q, hj]
      exact ⟨j, rfl⟩
    · rw [if_neg q]
      exact ⟨0, rfl⟩
end LP
namespace LP
open PySem L2
open Evl (Ex)
open LamX (ExtN TabB)
def spLaw5 (K : PySem.W.Frag) (T : List (Addr × Str)) : Sp := fun vs H Q _ => ∃ (p : Addr) (is : List Int), vs = [.ref p] ∧ SqL K (noT H) p (is.map V.int) ∧ is.length ≤ 1000 ∧ LamX.Tabs T H ∧ ∀ H', Q (.bl true) H'
def PlOk (x : Str) : Prop := ∃ ls, LsOk ls ∧ ls.length ≤ 90 ∧ x = Txt.join (sz "\n") ls
theorem pl_tx {x : Str} (h : PlOk x) : TxOk x := by
  obtain ⟨ls, h1, _, rfl⟩ := h
  exact tx_ok h1
theorem pl_tx2 {x : Str} (h : PlOk x) : TxOk (x ++ sz "\n") := by
  obtain ⟨ls, h1, h2, rfl⟩ := h
  rw [join_snoc h1.1]
  exact tx_ok (ls_snoc h1 h2)
theorem pl_end {x : Str} (h : PlOk x) : ∃ k, textF (x ++ sz "\n") = .inl k := by
  obtain ⟨ls, h1, h2, rfl⟩ := h
  exact text_end h1 h2
theorem pl_one {x : Str} (h : LnOk 300 x) : PlOk x := ⟨[x], ls_one h, by simp, (join_one _ _).symm⟩
section
variable {base : Heap} {mg : Str → Option Value} {K : PySem.W.Frag} {w : World} {P : Program} {C CL CB LE ge cA PA' ra : Addr} {fdg : FuncData} {mc : Value} {TT : List (Addr × Str)}
theorem ok_law5 {f : Addr} {fd : FuncData} (F : FunC K "law" "law" s_law f fd cA) (B : Blt mg) (S : SchC K C) (T : Cns K mg ra C) (DE : C8.Def K mg "_law_what_comes" s__law_what_comes ge fdg) (bE : Binds K fdg ["make"] []) (LB : LawB5 K mg CL CB LE)
    (m___str__ : C8.Met P w K mg base 1 C "__str__" (spStr4 C) []) (TB : TabB base mg cA PA') (c_read : CCalX P w K mg base 9 C mc "read" (spReadG K C CB CL))
    (c__law_start : C8.Cal P w K mg base 1 "_law_start" (spStart K) []) (c__law_of : C8.Cal P w K mg base 2 "_law_of" (spOf K) []) (c__law_draw_tables : C8.Cal P w K mg base 6 "_law_draw_tables" (spDrawTables K) []) (c__law_written : C8.Cal P w K mg base 1 "_law_written" (spWritten K) [])
    (c__law_spoilt : C8.Cal P w K mg base 4 "_law_spoilt" (spSpoiltL K) []) (c__law_is_right : C8.Cal P w K mg base 14 "_law_is_right" (spRight C TT) [])
    (hmT' : ∀ s : Heap, (PA', (PyProof.Rows.envOfC "law" (C8.fnScope s_law) s.objs.size f (.ref cA)).qual ++ "<lambda>") ∈ TT) (hu' : ∀ s : Heap, ∀ p ∈ TT, p.1 = PA' → p.2 = (PyProof.Rows.envOfC "law" (C8.fnScope s_law) s.objs.size f (.ref cA)).qual ++ "<lambda>") :
    FnOk P w K mg base C8.CX0 16 f fd ["script"] (spLaw5 K TT) := by
  have sc : FnScope ["script", "at", "bag", "plain", "turn", "tables", "lines", "one", "spoil", "odd"] ["script"] (C8.fnScope s_law) := C8.fnScope_by (by decide +kernel)
  refine fnC F sc (fun vs H Q E h => ?_) (fun A outer s H vs Q E hr h => ?_)
  · obtain ⟨_, _, rfl, _⟩ := h
    rfl
  · obtain ⟨p, is, rfl, hp, hn, hT, k⟩ := h
    have hmT := hmT' s.heap
    have hu := hu' s.heap
    refine ⟨_, (pss_cons (ps_for PassesOwn.never rfl (pi_range1 (by rfl) B.range_ (pa_cons (pe_callB (call_max2' rfl) (by rfl) B.max_ (by decide +kernel) (pa_cons pe_int (pa_cons (pe_callB (call_min2' rfl) (by rfl) B.min_ (by decide +kernel) (pa_cons pe_int (pa_cons (pe_callB (call_len_seqK (K := K) rfl) (by rfl) B.len_ (by decide +kernel) (pa_cons (pv 0) pa_nil)) pa_nil))) pa_nil))) pa_nil)) (pg_name (i := 1) sc.nd rfl (Or.inl rfl))
        (pss_cons (ps_asg (pe_tup (pa_cons (C8.pe_c c__law_start hr (by decide) rfl (pa_cons (pv 0) (pa_cons (pv 1) pa_nil))) (pa_cons pe_str pa_nil))) (pg_tupK (K := K) (n := 2) rfl rfl (pgs_cons (pg_name (i := 2) sc.nd rfl (Or.inl rfl)) (pgs_cons (pg_name (i := 3) sc.nd rfl (Or.inr rfl)) pgs_nil))))
        (pss_cons (ps_for PassesOwn.never rfl (pi_range1 (by rfl) B.range_ (pa_cons pe_int pa_nil)) (pg_name (i := 4) sc.nd rfl (Or.inl rfl))
        (pss_cons (ps_set (i := 5) sc.nd rfl (Or.inl rfl) (C8.pe_c c__law_draw_tables hr (by decide) rfl (pa_cons (pv 2) (pa_cons pe_int (pa_cons pe_int pa_nil)))))
        (pss_cons (ps_set (i := 6) sc.nd rfl (Or.inl rfl) (C8.pe_c c__law_written hr (by decide) rfl (pa_cons (C8.pe_c c__law_of hr (by decide) rfl (pa_cons (pv 2) (pa_cons (pe_lc (own := [("one", 7)]) (g := (gName 7)) (by rfl) sc.nd (pi_listK (K := K) rfl (pv 5)) (blkOk_by (own := [("one", 7)]) (N := ["script", "at", "bag", "plain", "turn", "tables", "lines", "one", "spoil", "odd"]) (sc := C8.fnScope s_law) (by decide +kernel)) (fun _ _ _ _ _ => (pg_name (i := 7) sc.nd rfl (Or.inl rfl))) (fun _ _ _ _ _ => pts_nil) (fun _ _ _ _ _ => (pe_ix (ix_tupK (K := K) rfl) (pv 7) pe_int (fun _ _ => rfl)))) pa_nil))) (pa_cons (pv 5) pa_nil))))
        (pss_cons (ps_set (i := 3) sc.nd rfl (Or.inr rfl) (pe_joinK (K := K) rfl pe_str (pv 6)))
        (pss_cons (ps_for PassesOwn.never rfl (pi_range1 (by rfl) B.range_ (pa_cons (C8.pe_c c__law_of hr (by decide) rfl (pa_cons (pv 2) (pa_cons (pe_lst (pa_cons pe_int (pa_cons pe_int (pa_cons pe_int (pa_cons pe_int (pa_cons pe_int (pa_cons pe_int pa_nil))))))) pa_nil))) pa_nil)) (pg_name (i := 8) sc.nd rfl (Or.inl rfl))
        (pss_one (ps_set (i := 6) sc.nd rfl (Or.inl rfl) (C8.pe_c c__law_spoilt hr (by decide) rfl (pa_cons (pv 2) (pa_cons (pv 6) pa_nil))))))
        (pss_cons (ps_if (PW.pt (pw_or (pt_not (pt_val (C8.pe_c c__law_is_right hr (by decide) rfl (pa_cons (pe_joinK (K := K) rfl pe_str (pv 6)) pa_nil)))) (pw_or1 (pt_not (pt_val (C8.pe_c c__law_is_right hr (by decide) rfl (pa_cons (pv 3) pa_nil)))))))
        (pss_one (ps_ret pe_bl))
        pss_nil)
        (pss_one (ps_if (PW.pt (pw_or (pt_not (pt_val (C8.pe_c c__law_is_right hr (by decide) rfl (pa_cons (pe_op op_add_str' (pv 3) pe_str) pa_nil)))) (pw_or1 (pt_cmpR op_ne (pe_ix (ix_tupK (K := K) rfl) ((pe_comescall (k := 9) DE bE B S LB m___str__ (by rfl) TB rfl hmT hu (hr.mono (by decide)) (LamX.lamS_by (sc := C8.fnScope s_law) (by decide +kernel)) rfl (fun _ _ _ _ _ => rfl) (fun A outer s H E f c' hr2 => pe_cmX c_read hr2 (by decide) (passes_call (takes_of rfl rfl rfl rfl) fun _ _ _ _ h => h) (C8.pe_gc rfl T.Schema_) (pa_cons (pe_op op_add_str' (pv 3) pe_str) pa_nil)))) pe_int (fun _ _ => rfl)) pe_str (nomark _)))))
        (pss_one (ps_ret pe_bl))
        pss_nil))))))))
        (pss_cons (ps_for PassesOwn.never rfl (pi_tupK (K := K) rfl (pe_tup (pa_cons pe_non (pa_cons pe_int (pa_cons pe_bl (pa_cons (pe_lst (pa_cons (pv 3) pa_nil)) (pa_cons (pe_tup (pa_cons (pv 3) pa_nil)) (pa_cons (pe_un un_neg pe_int) pa_nil)))))))) (pg_name (i := 9) sc.nd rfl (Or.inr rfl))
        (pss_one (ps_if (pt_cmpR (op_neDK (K := K) rfl (hu64 hr)) ((pe_comescall (k := 9) DE bE B S LB m___str__ (by rfl) TB rfl hmT hu (hr.mono (by decide)) (LamX.lamS_by (sc := C8.fnScope s_law) (by decide +kernel)) rfl (fun _ _ _ _ _ => rfl) (fun A outer s H E f c' hr2 => pe_cmX c_read hr2 (by decide) (passes_call (takes_of rfl rfl rfl rfl) fun _ _ _ _ h => h) (C8.pe_gc rfl T.Schema_) (pa_cons (pv 9) pa_nil)))) (pe_tup (pa_cons pe_str (pa_cons (pe_un un_neg pe_int) pa_nil))) (nomark _))
        (pss_one (ps_ret pe_bl))
        pss_nil)))
        (pss_one (ps_if (PW.pt (pw_or (pt_not (pt_val (C8.pe_c c__law_is_right hr (by decide) rfl (pa_cons pe_str pa_nil)))) (pw_or (pt_not (pt_val (C8.pe_c c__law_is_right hr (by decide) rfl (pa_cons (pe_op op_add_str' pe_str pe_str) pa_nil)))) (pw_or1 (pt_not (pt_val (C8.pe_c c__law_is_right hr (by decide) rfl (pa_cons (pv 3) pa_nil))))))))
        (pss_one (ps_ret pe_bl))
        pss_nil))))))
        (pss_one
                (ps_ret pe_bl))), ?_⟩
    have hp0 : SqL K H p (is.map V.int) := Evl.ex_l noT_ex hp
    have pl0 : PlOk "" := pl_one ⟨by show ("" : Str).length ≤ 300; decide, fun c hc => by rw [show TL.tl ("" : Str) = [] by decide +kernel] at hc; cases hc⟩
    walk_at "w"
    generalize hN : ((if (if ((is.map V.int).length : Int) < 4 then ((is.map V.int).length : Int) else 4) > 1 then (if ((is.map V.int).length : Int) < 4 then ((is.map V.int).length : Int) else 4) else 1) : Int).toNat = N4
    have hN4 : N4 ≤ 4 := by
      rw [← hN]
      split <;> split <;> omega
    refine loopR (fun i σ' H' => ∃ x1 x2 x3 x4 x5 x6 x7 x8 x9, σ' = [some (.ref p), x1, x2, x3, x4, x5, x6, x7, x8, x9] ∧ ExtN H H' ∧ LamX.Tabs TT H') ⟨_, _, _, _, _, _, _, _, _, rfl, LamX.ExtN.refl _, hT⟩ (fun i σ' HA hi h => ?_) (fun σ' H' h => ?_)
    · obtain ⟨x1, x2, x3, x4, x5, x6, x7, x8, x9, rfl, n0, T0⟩ := h
      have hp1 : SqL K HA p (is.map V.int) := Evl.ex_l ((noT_ext n0).trans noT_ex) hp
      walk_at "w"
      refine ⟨p, is, i, rfl, hp1, hn, by omega, fun b H1 hb0 hB1 e1 => ?_⟩
      walk_at "w"
      intro pz hpz
      have eZ : Ex H1 (upd H1 pz (.tup [.ref b, .str ""])) := Ex.new hpz
      have fZ : (upd H1 pz (.tup [.ref b, .str ""])) pz = some (.tup [.ref b, .str ""]) := upd_same
      have hBZ := hB1.new (o := .tup [.ref b, .str ""]) hpz
      generalize (upd H1 pz (.tup [.ref b, .str ""])) = HZ at eZ fZ hBZ ⊢
      walk_at "w"
      refine loopR (fun j σ' H' => ∃ pl x4 x5 x6 x7 x8 x9, σ' = [some (.ref p), some (.int (i : Int)), some (.ref b), some (.str pl), x4, x5, x6, x7, x8, x9] ∧ PlOk pl ∧ BagAt H' b (5000 * j) ∧ ExtN H H' ∧ LamX.Tabs TT H') ⟨_, _, _, _, _, _, _, rfl, pl0, hBZ, n0.trans (.of (e1.trans eZ)), T0.ext (e1.trans eZ)⟩ (fun j σ' HB hj h => ?_) (fun σ' HB h => ?_)
      · obtain ⟨pl_, x4, x5, x6, x7, x8, x9, rfl, _, hBB, nB, TB0⟩ := h
        have nd : ∀ {H1 H2 : Hp}, ExtN H H1 → Ex (del b H1) H2 → ExtN H H2 := fun a e => extN_d n0 hb0 a e
        walk_at "w"
        refine ⟨b, _, _, _, rfl, hBB, by omega, by omega, by omega, by omega, fun q0 H3 ts hT0 hG l1 l6 hB3 e3 => ?_⟩
        have n3 := nd nB e3
        have T3 := tabs_d hBB TB0 e3
        have ts3 : TabsAt H3 q0 ts := hT0.ext ex_del
        obtain ⟨tvs, hq3, htv3⟩ := id ts3
        have lv := paired_len htv3
        walk_at "w"
        intro D0 hD0
        refine compQ ts (TabAt H3) (fun t => some t.1) (fun v x => v = V.str x) hD0 (SqL.of hq3) (by omega) htv3 (fun y t hy hm H4 e4 kk kn hk hkn => ?_) (fun acc H4 e4 hacc hp4 => ?_)
        · obtain ⟨a, pc, rfl, ha, _⟩ := hy
          have ha4 := e4 _ _ ha
          walk_at "w"
          exact hk _ _ _ (Ex.refl _) rfl rfl
        have ev : acc = (ts.map (·.1)).map V.str := by
          have z := vals_strs hp4
          rw [filterMap_some] at z
          exact z
        have Db : D0 ≠ b := (hB3.ne_none hD0).symm
        have hB4 := hB3.ext e4
        walk_at "w"
        refine ⟨b, D0, acc, _, rfl, hB4, by omega, SqL.of (by rw [del_ne Db]; exact hacc), (fun z => by rw [z] at ev; have := congrArg List.length ev; simp at this; omega), by rw [ev, List.length_map, List.length_map]; omega, fun v H5 hv hB5 e5 => ?_⟩
        obtain ⟨u, hu', rfl⟩ : ∃ u, u ∈ ts.map (·.1) ∧ v = V.str u := by
          rw [ev] at hv
          obtain ⟨u, h, e⟩ := List.mem_map.mp hv
          exact ⟨u, h, e.symm⟩
        have n5 := nd (n3.trans (.of e4)) e5
        have T5 := tabs_d hB4 (T3.ext e4) e5
        have d35 : Ex (del b H3) (del b H5) := (ex_dd (ex_del.trans e4)).trans (ex_dd e5)
        have ts5 : TabsAt H5 q0 ts := (hT0.ext d35).ext ex_del
        have lu : u.length ≤ 8 := by
          obtain ⟨t, ht, rfl⟩ := List.mem_map.mp hu'
          exact (hG.names t ht).short
        walk_at "w"
        refine ⟨u, q0, ts, rfl, ts5.read, Nat.le_trans lu (by decide), by omega, good_sz hG, fun L H6 hL e6 fL => ?_⟩
        have Lb : L ≠ b := (hB5.ne_none hL).symm
        have hB6 := hB5.ext e6
        have n6 := n5.trans (.of e6)
        have T6 := T5.ext e6
        have ln0 := lines_ln hG hu'
        have lf := lines_few (u := u) hG (by omega)
        have lne : linesOf u ts ≠ [] := by unfold linesOf; simp
        obtain ⟨xs1, xs2, xs3⟩ := lines_small (u := u) (by omega) hG (by omega)
        generalize hls : linesOf u ts = ls0 at *
        have hplain : PlOk (Txt.join (sz "\n") ls0) := ⟨ls0, ⟨lne, by omega, fun l hl => (ln0 l hl).mono (by decide)⟩, by omega, rfl⟩
        clear hT0 hB3 hB4 hB5 e3 e4 e5 hacc hp4 ev d35 htv3 hq3 ts3 ts5 n3 n5 T3 T5
        walk_at "w"
        refine w_join (SqL.of fL) (by rw [show (Str.ofString "\n").length = 1 by decide]; omega) ?_
        walk_at "w"
        generalize hPL : Txt.join (Str.ofString "\n") ls0 = PL
        have hplain : PlOk PL := hPL ▸ hplain
        have fLd : del b H6 L = some (.lst (ls0.map V.str)) := by rw [del_ne Lb]; exact fL
        clear hPL fL hls xs1 xs2 xs3
        intro pb hpb
        have pbb : pb ≠ b := (hB6.ne_none hpb).symm
        have hB7 := hB6.new (o := .lst [.int 0, .int 1, .int 1, .int 1, .int 2, .int 3]) hpb
        have e7 : Ex H6 (upd H6 pb (.lst [.int 0, .int 1, .int 1, .int 1, .int 2, .int 3])) := Ex.new hpb
        have f7 : del b (upd H6 pb (.lst [.int 0, .int 1, .int 1, .int 1, .int 2, .int 3])) pb = some (.lst [.int 0, .int 1, .int 1, .int 1, .int 2, .int 3]) := by rw [del_ne pbb]; exact upd_same
        generalize (upd H6 pb (.lst [.int 0, .int 1, .int 1, .int 1, .int 2, .int 3])) = H7 at hB7 e7 f7 ⊢
        walk_at "w"
        refine ⟨b, pb, [.int 0, .int 1, .int 1, .int 1, .int 2, .int 3], _, rfl, hB7, by omega, SqL.of f7, by simp, by decide, fun v H8 hv hB8 e8 => ?_⟩
        obtain ⟨z, rfl, z0, z3⟩ : ∃ z : Int, v = .int z ∧ 0 ≤ z ∧ z ≤ 3 := by
          simp only [List.mem_cons, List.not_mem_nil, or_false] at hv; rcases hv with rfl | rfl | rfl | rfl | rfl | rfl
          · exact ⟨0, rfl, by decide, by decide⟩
          · exact ⟨1, rfl, by decide, by decide⟩
          · exact ⟨1, rfl, by decide, by decide⟩
          · exact ⟨1, rfl, by decide, by decide⟩
          · exact ⟨2, rfl, by decide, by decide⟩
          · exact ⟨3, rfl, by decide, by decide⟩
        have n8 := nd (n6.trans (.of e7)) e8
        have T8 := tabs_d hB7 (T6.ext e7) e8
        have d68 : Ex (del b H6) (del b H8) := (ex_dd (ex_del.trans e7)).trans (ex_dd e8)
        have fL8 := d68 _ _ fLd
        clear hB7 e7 f7 e8 d68 fLd n6 T6
        walk_at "w"
        generalize hZ : z.toNat = Z
        have hZ3 : Z ≤ 3 := by omega
        refine loopR (fun m σ' H' => ∃ x8 q ls, σ' = [some (.ref p), some (.int (i : Int)), some (.ref b), some (.str PL), some (.int (j : Int)), some (.ref q0), some (.ref q), x7, x8, x9] ∧ del b H' q = some (.lst (ls.map V.str)) ∧ ls ≠ [] ∧ ls.length ≤ 43 + m ∧ (∀ l ∈ ls, LnOk (60 + 14 * m) l) ∧ BagAt H' b (5000 * j + 2002 + 20 * m) ∧ ExtN H H' ∧ LamX.Tabs TT H')
          ⟨_, L, ls0, rfl, fL8, lne, by omega, fun l hl => (ln0 l hl).mono (by omega), hB8.mono (by omega), n8, T8⟩ (fun m σ' H9 hm h => ?_) (fun σ' H9 h => ?_)
        · obtain ⟨x8, q, ls, rfl, fq9, ne9, l9, ln9, hB9, n9, T9⟩ := h
          walk_at "w"
          refine ⟨b, q, _, 60 + 14 * m, ls, rfl, hB9, by omega, fq9, ne9, by omega, ln9, by omega, fun q' H10 ls' fq10 ne10 l10 ln10 hB10 e10 => ?_⟩
          walk_at "w"
          exact ⟨_, q', ls', rfl, fq10, ne10, by omega, fun l hl => (ln10 l hl).mono (by omega), hB10.mono (by omega), nd n9 e10, tabs_d hB9 T9 e10⟩
        obtain ⟨x8, q, ls, rfl, fq9, ne9, l9, ln9, hB9, n9, T9⟩ := h
        have lsok : LsOk ls := ⟨ne9, by omega, fun l hl => (ln9 l hl).mono (by omega)⟩
        have lsum : (ls.map fun x => x.length).sum ≤ 300 * ls.length := sum_le fun l hl => (lsok.2.2 l hl).1
        have esum : (ls.map (·.length)).sum = (ls.map fun x => x.length).sum := rfl
        have fq9' := ex_del _ _ fq9
        have plx := pl_tx hplain
        have plz := plx.1
        walk_at "w"
        refine w_join (SqL.of fq9') (by rw [show (Str.ofString "\n").length = 1 by decide]; omega) ?_
        walk_at "w"
        refine ⟨_, rfl, tx_ok lsok, T9, fun H10 m10 T10 => ?_⟩
        have hB10 := hB9.extN m10
        have n10 := n9.trans m10
        walk_at "w"
        refine ⟨_, rfl, plx, T10, fun H11 m11 T11 => ?_⟩
        have hB11 := hB10.extN m11
        have n11 := n10.trans m11
        walk_at "w"
        refine ⟨_, rfl, pl_tx2 hplain, T11, fun H12 m12 T12 => ?_⟩
        have hB12 := hB11.extN m12
        have n12 := n11.trans m12
        walk_at "w"
        refine ⟨T12, fun H13 m13 T13 kk hkk => ?_⟩
        have hB13 := hB12.extN m13
        have n13 := n12.trans m13
        walk_at "w"
        refine reads (.str _) (fun x' e => by cases e; exact pl_tx2 hplain) (fun tv H14 e14 htv => ?_) hkk
        obtain ⟨k', ek'⟩ := pl_end hplain
        have htv : ToldAt H14 tv (toldF (PL ++ sz "\n")) := htv
        rw [toldF_inl ek'] at htv
        obtain ⟨T', rfl, hT'⟩ := htv
        walk_at "w"
        refine iteND (fun h => absurd rfl h) (fun _ => ?_)
        walk_at "w"
        exact ⟨PL, _, _, _, _, _, _, rfl, hplain, (hB13.ext e14).mono (by omega), n13.trans (.of e14), T13.ext e14⟩
      · obtain ⟨pl, x4, x5, x6, x7, x8, x9, rfl, hpl, hBB, nB, TB0⟩ := h
        have plx := pl_tx hpl
        walk_at "w"
        intro M1 hM1
        have e2 : Ex HB (upd HB M1 (.lst [.str pl])) := Ex.new hM1
        have f2 : (upd HB M1 (.lst [.str pl])) M1 = some (.lst [.str pl]) := upd_same
        generalize (upd HB M1 (.lst [.str pl])) = H2 at e2 f2 ⊢
        walk_at "w"
        intro M2 hM2
        have e3 : Ex H2 (upd H2 M2 (.tup [.str pl])) := Ex.new hM2
        have f3 : (upd H2 M2 (.tup [.str pl])) M2 = some (.tup [.str pl]) := upd_same
        generalize (upd H2 M2 (.tup [.str pl])) = H3 at e3 f3 ⊢
        walk_at "w"
        intro TP hTP
        have e4 : Ex H3 (upd H3 TP (.tup [.non, .int 0, .bl true, .ref M1, .ref M2, .int (-1)])) := Ex.new hTP
        have f4 : (upd H3 TP (.tup [.non, .int 0, .bl true, .ref M1, .ref M2, .int (-1)])) TP = some (.tup [.non, .int 0, .bl true, .ref M1, .ref M2, .int (-1)]) := upd_same
        generalize (upd H3 TP (.tup [.non, .int 0, .bl true, .ref M1, .ref M2, .int (-1)])) = H4 at e4 f4 ⊢
        have e04 := e2.trans (e3.trans e4)
        have n4 := nB.trans (.of e04)
        have T4 := TB0.ext e04
        have fM1 := e4 _ _ (e3 _ _ f2)
        have fM2 := e4 _ _ f3
        walk_at "w"
        refine loopT (xs := [.non, .int 0, .bl true, .ref M1, .ref M2, .int (-1)]) (fun d' r σ' H' => ∃ x9, σ' = [some (.ref p), some (.int (i : Int)), some (.ref b), some (.str pl), x4, x5, x6, x7, x8, x9] ∧ ExtN H4 H' ∧ LamX.Tabs TT H') ⟨_, rfl, LamX.ExtN.refl _, T4⟩ (fun d r σ' H' e h => ?_) (fun d y r σ' H' e h => ?_) (fun σ' H' h => ?_)
        · obtain ⟨_, _, n', _⟩ := h
          exact SqT.of (n' _ _ f4 (by intro ps z; cases z))
        · obtain ⟨x9', rfl, n', T'⟩ := h
          obtain ⟨d0, hd0, hs0⟩ : ∃ d0, Dp K H' y d0 ∧ isStrD d0 = false := by
            have hy : y ∈ [V.non, .int 0, .bl true, .ref M1, .ref M2, .int (-1)] := by rw [← e]; simp
            have g1 := n' _ _ fM1 (by intro ps z; cases z)
            have g2 := n' _ _ fM2 (by intro ps z; cases z)
            simp only [List.mem_cons, List.not_mem_nil, or_false] at hy
            rcases hy with rfl | rfl | rfl | rfl | rfl | rfl
            · exact ⟨_, .non, rfl⟩
            · exact ⟨_, .int 0, rfl⟩
            · exact ⟨_, .bl true, rfl⟩
            · exact ⟨_, .lst (SqL.of g1) (.cons (.str pl) .nil), rfl⟩
            · exact ⟨_, .tup (SqT.of g2) (.cons (.str pl) .nil), rfl⟩
            · exact ⟨_, .int (-1), rfl⟩
          walk_at "w"
          refine ⟨T', fun H5 m5 T5 kk hkk => ?_⟩
          have n5 := n'.trans m5
          have hd5 : Dp K H5 y d0 := dp_ext ((noT_ext m5).trans noT_ex) (dp_noT hd0)
          walk_at "w"
          refine reads hd5 (fun x' e => by rw [e] at hs0; cases hs0) (fun tv H6 e6 htv => ?_) hkk
          rw [toldV_no hs0] at htv
          walk_at "w"
          intro tq htq
          have e7 : Ex H6 (upd H6 tq (.tup [.str "line", .int (-1)])) := Ex.new htq
          have f7 : (upd H6 tq (.tup [.str "line", .int (-1)])) tq = some (.tup [.str "line", .int (-1)]) := upd_same
          generalize (upd H6 tq (.tup [.str "line", .int (-1)])) = H7 at e7 f7 ⊢
          refine ⟨toldP (.line (-1)), toldP (.line (-1)), (htv.ext e7).dp, ToldAt.dp (o := .line (-1)) ⟨tq, rfl, f7⟩, toldP_line _, toldP_line _, ?_⟩
          rw [toldP_eqv]
          walk_at "w"
          exact ⟨_, rfl, n5.trans (.of (e6.trans e7)), T5.ext (e6.trans e7)⟩
        · obtain ⟨x9', rfl, n', T'⟩ := h
          have n9 := n4.trans n'
          have ua : LnOk 300 (Str.ofString "user " ++ Str.ofString "a") := by
            have q : ∀ z ∈ (["user ", "a"] : List Str), z.length ≤ 8 ∧ ∀ c ∈ TL.tl z, c ≠ 10 := by decide +kernel
            exact (ln_cat (m := 8) (n := 8) (q _ (by simp)) (q _ (by simp))).mono (by decide)
          walk_at "w"
          refine ⟨_, rfl, pl_tx pl0, T', fun H5 m5 T5 => ?_⟩
          have n5 := n9.trans m5
          walk_at "w"
          refine ⟨_, rfl, pl_tx (pl_one ua), T5, fun H6 m6 T6 => ?_⟩
          have n6 := n5.trans m6
          walk_at "w"
          refine ⟨_, rfl, plx, T6, fun H7 m7 T7 => ?_⟩
          walk_at "w"
          exact ⟨_, _, _, _, _, _, _, _, _, rfl, n6.trans m7, T7⟩
    · obtain ⟨x1, x2, x3, x4, x5, x6, x7, x8, x9, rfl, n0, T0⟩ := h
      walk_at "w"
      exact k _
end
end LP
namespace LP
open PySem.Spec PyProof.Rows PySem L2
def k05_q1 : Str := (PyProof.Rows.envOfC "_law_is_right" (C8.fnScope s__law_is_right) 0 0 .none).qual ++ "<lambda>"
def k05_q2 : Str := (PyProof.Rows.envOfC "law" (C8.fnScope s_law) 0 0 .none).qual ++ "<lambda>"
theorem k05_facts {w : World} {K : PySem.W.Frag} {h : Heap} {mg : Str → Option Value} {f : Addr} (X : K.In h) (G : h.Ns mainGlobals mg) (hfa : mg ("law" : Str) = some (.ref f)) (c : k05_tell.Ok w h K) :
    LamX.LawAtS PySem.Challenge.rw_listandpage_k05_schema_lines_refused w K C8.CX0 16 63 "script" mg f h := by
  have exq : ∀ (i : Nat) (e : PySem.W.Frag → Bool), k05_ex[i]? = some e → e K = true := fun i e hi => List.all_eq_true.mp (show (k05_ex.all fun e => e K) = true from c.x.more) e (List.mem_of_getElem? hi)
  obtain ⟨fd_is_letters, D_is_letters, df_is_letters⟩ := told_def c.x.t.d 0 (x := "is_letters") (st := s_is_letters) rfl (He.glo_ok X G (c.x.t.d.fact 0 (f := .glo "is_letters") rfl))
  have b_is_letters : Binds K fd_is_letters ["value"] [] := D_is_letters.fn.binds df_is_letters (ps := ["value"]) fun _ _ _ _ _ _ us hl => match us, hl with | [_], _ => rfl
  obtain ⟨fd_is_word, D_is_word, df_is_word⟩ := told_def c.x.t.d 1 (x := "is_word") (st := s_is_word) rfl (He.glo_ok X G (c.x.t.d.fact 1 (f := .glo "is_word") rfl))
  have b_is_word : Binds K fd_is_word ["value"] [] := D_is_word.fn.binds df_is_word (ps := ["value"]) fun _ _ _ _ _ _ us hl => match us, hl with | [_], _ => rfl
  obtain ⟨fd_is_link, D_is_link, df_is_link⟩ := told_def c.x.t.d 2 (x := "is_link") (st := s_is_link) rfl (He.glo_ok X G (c.x.t.d.fact 2 (f := .glo "is_link") rfl))
  have b_is_link : Binds K fd_is_link ["column"] [] := D_is_link.fn.binds df_is_link (ps := ["column"]) fun _ _ _ _ _ _ us hl => match us, hl with | [_], _ => rfl
  obtain ⟨fd_has_list, D_has_list, df_has_list⟩ := told_def c.x.t.d 3 (x := "has_list") (st := s_has_list) rfl (He.glo_ok X G (c.x.t.d.fact 3 (f := .glo "has_list") rfl))
  have b_has_list : Binds K fd_has_list ["column"] [] := D_has_list.fn.binds df_has_list (ps := ["column"]) fun _ _ _ _ _ _ us hl => match us, hl with | [_], _ => rfl
  obtain ⟨fd_may_lack, D_may_lack, df_may_lack⟩ := told_def c.x.t.d 4 (x := "may_lack") (st := s_may_lack) rfl (He.glo_ok X G (c.x.t.d.fact 4 (f := .glo "may_lack") rfl))
  have b_may_lack : Binds K fd_may_lack ["column"] [] := D_may_lack.fn.binds df_may_lack (ps := ["column"]) fun _ _ _ _ _ _ us hl => match us, hl with | [_], _ => rfl
  obtain ⟨fd_write_lines, D_write_lines, df_write_lines⟩ := told_def c.x.t.d 5 (x := "write_lines") (st := s_write_lines) rfl (He.glo_ok X G (c.x.t.d.fact 5 (f := .glo "write_lines") rfl))
  have b_write_lines : Binds K fd_write_lines ["user", "columns"] [] := D_write_lines.fn.binds df_write_lines (ps := ["user", "columns"]) fun _ _ _ _ _ _ us hl => match us, hl with | [_, _], _ => rfl
  obtain ⟨fd__write_column, D__write_column, df__write_column⟩ := told_def c.x.t.d 6 (x := "_write_column") (st := s__write_column) rfl (He.glo_ok X G (c.x.t.d.fact 6 (f := .glo "_write_column") rfl))
  have b__write_column : Binds K fd__write_column ["column"] [] := D__write_column.fn.binds df__write_column (ps := ["column"]) fun _ _ _ _ _ _ us hl => match us, hl with | [_], _ => rfl
  obtain ⟨fd_read_lines, D_read_lines, df_read_lines⟩ := told_def c.x.t.d 7 (x := "read_lines") (st := s_read_lines) rfl (He.glo_ok X G (c.x.t.d.fact 7 (f := .glo "read_lines") rfl))
  have b_read_lines : Binds K fd_read_lines ["text"] [] := D_read_lines.fn.binds df_read_lines (ps := ["text"]) fun _ _ _ _ _ _ us hl => match us, hl with | [_], _ => rfl
  obtain ⟨fd__is_head, D__is_head, df__is_head⟩ := told_def c.x.t.d 8 (x := "_is_head") (st := s__is_head) rfl (He.glo_ok X G (c.x.t.d.fact 8 (f := .glo "_is_head") rfl))
  have b__is_head : Binds K fd__is_head ["word", "words"] [] := D__is_head.fn.binds df__is_head (ps := ["word", "words"]) fun _ _ _ _ _ _ us hl => match us, hl with | [_, _], _ => rfl
  obtain ⟨fd__read_column, D__read_column, df__read_column⟩ := told_def c.x.t.d 9 (x := "_read_column") (st := s__read_column) rfl (He.glo_ok X G (c.x.t.d.fact 9 (f := .glo "_read_column") rfl))
  have b__read_column : Binds K fd__read_column ["words"] [] := D__read_column.fn.binds df__read_column (ps := ["words"]) fun _ _ _ _ _ _ us hl => match us, hl with | [_], _ => rfl
  obtain ⟨fd__read_link, D__read_link, df__read_link⟩ := told_def c.x.t.d 10 (x := "_read_link") (st := s__read_link) rfl (He.glo_ok X G (c.x.t.d.fact 10 (f := .glo "_read_link") rfl))
  have b__read_link : Binds K fd__read_link ["name", "optional", "words"] [] := D__read_link.fn.binds df__read_link (ps := ["name", "optional", "words"]) fun _ _ _ _ _ _ us hl => match us, hl with | [_, _, _], _ => rfl
  obtain ⟨fd__meets, D__meets, df__meets⟩ := told_def c.x.t.d 11 (x := "_meets") (st := s__meets) rfl (He.glo_ok X G (c.x.t.d.fact 11 (f := .glo "_meets") rfl))
  have b__meets : Binds K fd__meets ["index", "columns", "meeting"] [] := D__meets.fn.binds df__meets (ps := ["index", "columns", "meeting"]) fun _ _ _ _ _ _ us hl => match us, hl with | [_, _, _], _ => rfl
  obtain ⟨fd__law_start, D__law_start, df__law_start⟩ := told_def c.x.t.d 12 (x := "_law_start") (st := s__law_start) rfl (He.glo_ok X G (c.x.t.d.fact 12 (f := .glo "_law_start") rfl))
  have b__law_start : Binds K fd__law_start ["script", "at"] [] := D__law_start.fn.binds df__law_start (ps := ["script", "at"]) fun _ _ _ _ _ _ us hl => match us, hl with | [_, _], _ => rfl
  obtain ⟨fd__law_take, D__law_take, df__law_take⟩ := told_def c.x.t.d 13 (x := "_law_take") (st := s__law_take) rfl (He.glo_ok X G (c.x.t.d.fact 13 (f := .glo "_law_take") rfl))
  have b__law_take : Binds K fd__law_take ["bag", "many"] [] := D__law_take.fn.binds df__law_take (ps := ["bag", "many"]) fun _ _ _ _ _ _ us hl => match us, hl with | [_, _], _ => rfl
  obtain ⟨fd__law_of, D__law_of, df__law_of⟩ := told_def c.x.t.d 14 (x := "_law_of") (st := s__law_of) rfl (He.glo_ok X G (c.x.t.d.fact 14 (f := .glo "_law_of") rfl))
  have b__law_of : Binds K fd__law_of ["bag", "some"] [] := D__law_of.fn.binds df__law_of (ps := ["bag", "some"]) fun _ _ _ _ _ _ us hl => match us, hl with | [_, _], _ => rfl
  obtain ⟨fd__law_reserved, D__law_reserved, df__law_reserved⟩ := told_def c.x.t.d 15 (x := "_law_reserved") (st := s__law_reserved) rfl (He.glo_ok X G (c.x.t.d.fact 15 (f := .glo "_law_reserved") rfl))
  have b__law_reserved : Binds K fd__law_reserved [] [] := D__law_reserved.fn.binds df__law_reserved (ps := []) fun _ _ _ _ _ _ us hl => match us, hl with | [], _ => rfl
  obtain ⟨fd__law_draw_letters, D__law_draw_letters, df__law_draw_letters⟩ := told_def c.x.t.d 16 (x := "_law_draw_letters") (st := s__law_draw_letters) rfl (He.glo_ok X G (c.x.t.d.fact 16 (f := .glo "_law_draw_letters") rfl))
  have b__law_draw_letters : Binds K fd__law_draw_letters ["bag", "most"] [] := D__law_draw_letters.fn.binds df__law_draw_letters (ps := ["bag", "most"]) fun _ _ _ _ _ _ us hl => match us, hl with | [_, _], _ => rfl
  obtain ⟨fd__law_new_name, D__law_new_name, df__law_new_name⟩ := told_def c.x.t.d 17 (x := "_law_new_name") (st := s__law_new_name) rfl (He.glo_ok X G (c.x.t.d.fact 17 (f := .glo "_law_new_name") rfl))
  have b__law_new_name : Binds K fd__law_new_name ["bag", "taken"] [] := D__law_new_name.fn.binds df__law_new_name (ps := ["bag", "taken"]) fun _ _ _ _ _ _ us hl => match us, hl with | [_, _], _ => rfl
  obtain ⟨fd__law_all_links, D__law_all_links, df__law_all_links⟩ := told_def c.x.t.d 18 (x := "_law_all_links") (st := s__law_all_links) rfl (He.glo_ok X G (c.x.t.d.fact 18 (f := .glo "_law_all_links") rfl))
  have b__law_all_links : Binds K fd__law_all_links ["columns"] [] := D__law_all_links.fn.binds df__law_all_links (ps := ["columns"]) fun _ _ _ _ _ _ us hl => match us, hl with | [_], _ => rfl
  obtain ⟨fd__law_reach, D__law_reach, df__law_reach⟩ := told_def c.x.t.d 19 (x := "_law_reach") (st := s__law_reach) rfl (He.glo_ok X G (c.x.t.d.fact 19 (f := .glo "_law_reach") rfl))
  have b__law_reach : Binds K fd__law_reach ["tables", "name"] [] := D__law_reach.fn.binds df__law_reach (ps := ["tables", "name"]) fun _ _ _ _ _ _ us hl => match us, hl with | [_, _], _ => rfl
  obtain ⟨fd__law_is_listed, D__law_is_listed, df__law_is_listed⟩ := told_def c.x.t.d 20 (x := "_law_is_listed") (st := s__law_is_listed) rfl (He.glo_ok X G (c.x.t.d.fact 20 (f := .glo "_law_is_listed") rfl))
  have b__law_is_listed : Binds K fd__law_is_listed ["columns"] [] := D__law_is_listed.fn.binds df__law_is_listed (ps := ["columns"]) fun _ _ _ _ _ _ us hl => match us, hl with | [_], _ => rfl
  obtain ⟨fd__law_is_heavy, D__law_is_heavy, df__law_is_heavy⟩ := told_def c.x.t.d 21 (x := "_law_is_heavy") (st := s__law_is_heavy) rfl (He.glo_ok X G (c.x.t.d.fact 21 (f := .glo "_law_is_heavy") rfl))
  have b__law_is_heavy : Binds K fd__law_is_heavy ["tables", "column"] [] := D__law_is_heavy.fn.binds df__law_is_heavy (ps := ["tables", "column"]) fun _ _ _ _ _ _ us hl => match us, hl with | [_, _], _ => rfl
  obtain ⟨fd__law_names_taken, D__law_names_taken, df__law_names_taken⟩ := told_def c.x.t.d 22 (x := "_law_names_taken") (st := s__law_names_taken) rfl (He.glo_ok X G (c.x.t.d.fact 22 (f := .glo "_law_names_taken") rfl))
  have b__law_names_taken : Binds K fd__law_names_taken ["tables", "columns", "target"] [] := D__law_names_taken.fn.binds df__law_names_taken (ps := ["tables", "columns", "target"]) fun _ _ _ _ _ _ us hl => match us, hl with | [_, _, _], _ => rfl
  obtain ⟨fd__law_allowed, D__law_allowed, df__law_allowed⟩ := told_def c.x.t.d 23 (x := "_law_allowed") (st := s__law_allowed) rfl (He.glo_ok X G (c.x.t.d.fact 23 (f := .glo "_law_allowed") rfl))
  have b__law_allowed : Binds K fd__law_allowed ["tables", "columns"] [] := D__law_allowed.fn.binds df__law_allowed (ps := ["tables", "columns"]) fun _ _ _ _ _ _ us hl => match us, hl with | [_, _], _ => rfl
  obtain ⟨fd__law_draw_columns, D__law_draw_columns, df__law_draw_columns⟩ := told_def c.x.t.d 24 (x := "_law_draw_columns") (st := s__law_draw_columns) rfl (He.glo_ok X G (c.x.t.d.fact 24 (f := .glo "_law_draw_columns") rfl))
  have b__law_draw_columns : Binds K fd__law_draw_columns ["bag", "tables", "most"] [] := D__law_draw_columns.fn.binds df__law_draw_columns (ps := ["bag", "tables", "most"]) fun _ _ _ _ _ _ us hl => match us, hl with | [_, _, _], _ => rfl
  obtain ⟨fd__law_draw_tables, D__law_draw_tables, df__law_draw_tables⟩ := told_def c.x.t.d 25 (x := "_law_draw_tables") (st := s__law_draw_tables) rfl (He.glo_ok X G (c.x.t.d.fact 25 (f := .glo "_law_draw_tables") rfl))
  have b__law_draw_tables : Binds K fd__law_draw_tables ["bag", "least", "most"] [] := D__law_draw_tables.fn.binds df__law_draw_tables (ps := ["bag", "least", "most"]) fun _ _ _ _ _ _ us hl => match us, hl with | [_, _, _], _ => rfl
  obtain ⟨fd__law_written, D__law_written, df__law_written⟩ := told_def c.x.t.d 26 (x := "_law_written") (st := s__law_written) rfl (He.glo_ok X G (c.x.t.d.fact 26 (f := .glo "_law_written") rfl))
  have b__law_written : Binds K fd__law_written ["user", "tables"] [] := D__law_written.fn.binds df__law_written (ps := ["user", "tables"]) fun _ _ _ _ _ _ us hl => match us, hl with | [_, _], _ => rfl
  obtain ⟨fd__law_is_letters, D__law_is_letters, df__law_is_letters⟩ := told_def c.x.t.d 27 (x := "_law_is_letters") (st := s__law_is_letters) rfl (He.glo_ok X G (c.x.t.d.fact 27 (f := .glo "_law_is_letters") rfl))
  have b__law_is_letters : Binds K fd__law_is_letters ["word"] [] := D__law_is_letters.fn.binds df__law_is_letters (ps := ["word"]) fun _ _ _ _ _ _ us hl => match us, hl with | [_], _ => rfl
  obtain ⟨fd__law_read, D__law_read, df__law_read⟩ := told_def c.x.t.d 28 (x := "_law_read") (st := s__law_read) rfl (He.glo_ok X G (c.x.t.d.fact 28 (f := .glo "_law_read") rfl))
  have b__law_read : Binds K fd__law_read ["line"] [] := D__law_read.fn.binds df__law_read (ps := ["line"]) fun _ _ _ _ _ _ us hl => match us, hl with | [_], _ => rfl
  obtain ⟨fd__law_what_is_due, D__law_what_is_due, df__law_what_is_due⟩ := told_def c.x.t.d 29 (x := "_law_what_is_due") (st := s__law_what_is_due) rfl (He.glo_ok X G (c.x.t.d.fact 29 (f := .glo "_law_what_is_due") rfl))
  have b__law_what_is_due : Binds K fd__law_what_is_due ["lines"] [] := D__law_what_is_due.fn.binds df__law_what_is_due (ps := ["lines"]) fun _ _ _ _ _ _ us hl => match us, hl with | [_], _ => rfl
  obtain ⟨fd__law_what_comes, D__law_what_comes, df__law_what_comes⟩ := told_def c.x.t.d 30 (x := "_law_what_comes") (st := s__law_what_comes) rfl (He.glo_ok X G (c.x.t.d.fact 30 (f := .glo "_law_what_comes") rfl))
  have b__law_what_comes : Binds K fd__law_what_comes ["make"] [] := D__law_what_comes.fn.binds df__law_what_comes (ps := ["make"]) fun _ _ _ _ _ _ us hl => match us, hl with | [_], _ => rfl
  obtain ⟨fd__law_spoilt_line, D__law_spoilt_line, df__law_spoilt_line⟩ := told_def c.x.t.d 31 (x := "_law_spoilt_line") (st := s__law_spoilt_line) rfl (He.glo_ok X G (c.x.t.d.fact 31 (f := .glo "_law_spoilt_line") rfl))
  have b__law_spoilt_line : Binds K fd__law_spoilt_line ["bag", "line", "other"] [] := D__law_spoilt_line.fn.binds df__law_spoilt_line (ps := ["bag", "line", "other"]) fun _ _ _ _ _ _ us hl => match us, hl with | [_, _, _], _ => rfl
  obtain ⟨fd__law_spoilt, D__law_spoilt, df__law_spoilt⟩ := told_def c.x.t.d 32 (x := "_law_spoilt") (st := s__law_spoilt) rfl (He.glo_ok X G (c.x.t.d.fact 32 (f := .glo "_law_spoilt") rfl))
  have b__law_spoilt : Binds K fd__law_spoilt ["bag", "lines"] [] := D__law_spoilt.fn.binds df__law_spoilt (ps := ["bag", "lines"]) fun _ _ _ _ _ _ us hl => match us, hl with | [_, _], _ => rfl
  obtain ⟨fd__law_is_right, D__law_is_right, df__law_is_right⟩ := told_def c.x.t.d 33 (x := "_law_is_right") (st := s__law_is_right) rfl (He.glo_ok X G (c.x.t.d.fact 33 (f := .glo "_law_is_right") rfl))
  have b__law_is_right : Binds K fd__law_is_right ["text"] [] := D__law_is_right.fn.binds df__law_is_right (ps := ["text"]) fun _ _ _ _ _ _ us hl => match us, hl with | [_], _ => rfl
  obtain ⟨fd_law, D_law, df_law⟩ := told_def c.x.t.d 34 (x := "law") (st := s_law) rfl (He.glo_ok X G (c.x.t.d.fact 34 (f := .glo "law") rfl))
  have b_law : Binds K fd_law ["script"] [] := D_law.fn.binds df_law (ps := ["script"]) fun _ _ _ _ _ _ us hl => match us, hl with | [_], _ => rfl
  obtain ⟨fd_Schema___init__, F_Schema___init__, df_Schema___init__⟩ := told_meth c.x.t.d 35 (C := "Schema") (m := "__init__") (q := "Schema.__init__") (st := s_Schema___init__) rfl
  have b_Schema___init__ : Binds K fd_Schema___init__ ["self", "user", "tables"] [] := F_Schema___init__.binds df_Schema___init__ (ps := ["self", "user", "tables"]) fun _ _ _ _ _ _ us hl => match us, hl with | [_, _, _], _ => rfl
  obtain ⟨fd_Schema__take_columns, F_Schema__take_columns, df_Schema__take_columns⟩ := told_meth c.x.t.d 36 (C := "Schema") (m := "_take_columns") (q := "Schema._take_columns") (st := s_Schema__take_columns) rfl
  have b_Schema__take_columns : Binds K fd_Schema__take_columns ["self", "index", "table", "columns"] [] := F_Schema__take_columns.binds df_Schema__take_columns (ps := ["self", "index", "table", "columns"]) fun _ _ _ _ _ _ us hl => match us, hl with | [_, _, _, _], _ => rfl
  obtain ⟨fd_Schema__is_column, F_Schema__is_column, df_Schema__is_column⟩ := told_meth c.x.t.d 37 (C := "Schema") (m := "_is_column") (q := "Schema._is_column") (st := s_Schema__is_column) rfl
  have b_Schema__is_column : Binds K fd_Schema__is_column ["self", "column", "names"] [] := F_Schema__is_column.binds df_Schema__is_column (ps := ["self", "column", "names"]) fun _ _ _ _ _ _ us hl => match us, hl with | [_, _, _], _ => rfl
  obtain ⟨fd_Schema__is_list, F_Schema__is_list, df_Schema__is_list⟩ := told_meth c.x.t.d 38 (C := "Schema") (m := "_is_list") (q := "Schema._is_list") (st := s_Schema__is_list) rfl
  have b_Schema__is_list : Binds K fd_Schema__is_list ["self", "table", "name"] [] := F_Schema__is_list.binds df_Schema__is_list (ps := ["self", "table", "name"]) fun _ _ _ _ _ _ us hl => match us, hl with | [_, _, _], _ => rfl
  obtain ⟨fd_Schema___contains__, F_Schema___contains__, df_Schema___contains__⟩ := told_meth c.x.t.d 39 (C := "Schema") (m := "__contains__") (q := "Schema.__contains__") (st := s_Schema___contains__) rfl
  have b_Schema___contains__ : Binds K fd_Schema___contains__ ["self", "thing"] [] := F_Schema___contains__.binds df_Schema___contains__ (ps := ["self", "thing"]) fun _ _ _ _ _ _ us hl => match us, hl with | [_, _], _ => rfl
  obtain ⟨fd_Schema___str__, F_Schema___str__, df_Schema___str__⟩ := told_meth c.x.t.d 40 (C := "Schema") (m := "__str__") (q := "Schema.__str__") (st := s_Schema___str__) rfl
  have b_Schema___str__ : Binds K fd_Schema___str__ ["self"] [] := F_Schema___str__.binds df_Schema___str__ (ps := ["self"]) fun _ _ _ _ _ _ us hl => match us, hl with | [_], _ => rfl
  obtain ⟨fd_BadSchema___init__, F_BadSchema___init__, df_BadSchema___init__⟩ := told_meth c.x.t.d 41 (C := "BadSchema") (m := "__init__") (q := "BadSchema.__init__") (st := s_BadSchema___init__) rfl
  have b_BadSchema___init__ : Binds K fd_BadSchema___init__ ["self", "table", "column"] [] := F_BadSchema___init__.binds df_BadSchema___init__ (ps := ["self", "table", "column"]) fun _ _ _ _ _ _ us hl => match us, hl with | [_, _, _], _ => rfl
  obtain ⟨fd_BadLine___init__, F_BadLine___init__, df_BadLine___init__⟩ := told_meth c.x.t.d 42 (C := "BadLine") (m := "__init__") (q := "BadLine.__init__") (st := s_BadLine___init__) rfl
  have b_BadLine___init__ : Binds K fd_BadLine___init__ ["self", "line"] [] := F_BadLine___init__.binds df_BadLine___init__ (ps := ["self", "line"]) fun _ _ _ _ _ _ us hl => match us, hl with | [_, _], _ => rfl
  have B : Blt mg := ⟨(He.free_ok X G (c.x.t.d.fact 35 (f := .free "len") rfl)), (He.free_ok X G (c.x.t.d.fact 36 (f := .free "int") rfl)), (He.free_ok X G (c.x.t.d.fact 37 (f := .free "abs") rfl)), (He.free_ok X G (c.x.t.d.fact 38 (f := .free "max") rfl)), (He.free_ok X G (c.x.t.d.fact 39 (f := .free "min") rfl)), (He.free_ok X G (c.x.t.d.fact 40 (f := .free "any") rfl)), (He.free_ok X G (c.x.t.d.fact 41 (f := .free "all") rfl)), (He.free_ok X G (c.x.t.d.fact 42 (f := .free "str") rfl)), (He.free_ok X G (c.x.t.d.fact 43 (f := .free "bool") rfl)), (He.free_ok X G (c.x.t.d.fact 44 (f := .free "list") rfl)), (He.free_ok X G (c.x.t.d.fact 45 (f := .free "tuple") rfl)), (He.free_ok X G (c.x.t.d.fact 46 (f := .free "dict") rfl)), (He.free_ok X G (c.x.t.d.fact 47 (f := .free "isinstance") rfl)), (He.free_ok X G (c.x.t.d.fact 48 (f := .free "range") rfl)), (He.free_ok X G (c.x.t.d.fact 49 (f := .free "reversed") rfl)), (He.free_ok X G (c.x.t.d.fact 50 (f := .free "enumerate") rfl)), (He.free_ok X G (c.x.t.d.fact 51 (f := .free "zip") rfl))⟩
  have T : Cns K mg (He.ga K "RESERVED") (He.ga K "Schema") := ⟨(is_int (He.int_ok X G (c.x.t.d.fact 52 (f := .int "MOST_LETTERS" 8) rfl))), (is_int (He.int_ok X G (c.x.t.d.fact 53 (f := .int "MOST_TABLES" 6) rfl))), (is_int (He.int_ok X G (c.x.t.d.fact 54 (f := .int "MOST_COLUMNS" 6) rfl))), (is_ref (He.glo_ok X G (c.x.t.d.fact 55 (f := .glo "RESERVED") rfl))), fun H => (by have z := He.tupB_ok (exq 0 _ rfl) H; rw [List.map_map] at z; exact z), (is_ref (He.glo_ok X G (c.x.t.d.fact 56 (f := .glo "Schema") rfl)))⟩
  have S : SchC K (He.ga K "Schema") := ⟨He.cls_ok (c.x.t.d.fact 57 (f := .cls "Schema") rfl), (He.noat_ok (c.x.t.d.fact 58 (f := .noat "Schema" "_columns") rfl)), (He.noat_ok (c.x.t.d.fact 59 (f := .noat "Schema" "_lists") rfl)), (He.noat_ok (c.x.t.d.fact 60 (f := .noat "Schema" "user") rfl)), (He.noat_ok (c.x.t.d.fact 61 (f := .noat "Schema" "tables") rfl)), (He.noat_ok (c.x.t.d.fact 62 (f := .noat "Schema" "_lines") rfl))⟩
  obtain ⟨⟨fd_is_name, F_is_name, df_is_name⟩, cr, sm, si⟩ := SDef.all (d := (⟨"Schema", "is_name", "Schema.is_name", s_Schema_is_name⟩ : SDef)) (c.static 0 rfl) (exq 1 _ rfl)
  have b_is_name : Binds K fd_is_name ["value"] [] := F_is_name.binds df_is_name (ps := ["value"]) fun _ _ _ _ _ _ us hl => match us, hl with | [_], _ => rfl
  obtain ⟨⟨fd_read, F_read, df_read⟩, crR, cmR⟩ := SDef.allC (d := (⟨"Schema", "read", "Schema.read", s_Schema_read⟩ : SDef)) (c.clsm 0 rfl) (exq 2 _ rfl)
  have b_read : Binds K fd_read ["cls", "text"] [] := F_read.binds df_read (ps := ["cls", "text"]) fun _ _ _ _ _ _ us hl => match us, hl with | [_, _], _ => rfl
  obtain ⟨es, ne, LD⟩ := c.x.t.tab 0 (t := (fun K => He.ga K "LENGTHS", ["flag", "number", "word", "link"])) rfl
  have LN : LenG K mg (He.ga K "LENGTHS") := lenG_of (is_ref (He.glo_ok X G (c.x.t.d.fact 63 (f := .glo "LENGTHS") rfl))) (exq 3 _ rfl) (exq 4 _ rfl)
  have OV : OexC K (He.ga K "BadSchema") := oxvB_ok (exq 5 _ rfl)
  obtain ⟨iV, tV⟩ := oinB_ok (exq 6 _ rfl)
  have OL : OexC K (He.ga K "BadLine") := oxvB_ok (exq 7 _ rfl)
  obtain ⟨iL, tL⟩ := oinB_ok (exq 8 _ rfl)
  have n1 := (He.noat_ok (c.x.t.d.fact 64 (f := .noat "BadSchema" "table") rfl))
  have n2 := (He.noat_ok (c.x.t.d.fact 65 (f := .noat "BadSchema" "column") rfl))
  have nl := (He.noat_ok (c.x.t.d.fact 66 (f := .noat "BadLine" "line") rfl))
  have LB : LawB5 K mg (He.ga K "BadLine") (He.ga K "BadSchema") (He.ga K "ListandpageError") := ⟨(He.glo_ok X G (c.x.t.d.fact 67 (f := .glo "BadLine") rfl)), (He.glo_ok X G (c.x.t.d.fact 68 (f := .glo "BadSchema") rfl)), (is_ref (He.glo_ok X G (c.x.t.d.fact 68 (f := .glo "BadSchema") rfl))), (is_ref (He.glo_ok X G (c.x.t.d.fact 69 (f := .glo "ListandpageError") rfl))), exkB_ok (exq 9 _ rfl), L2.xfB_ok (exq 10 _ rfl), nl, L2.xfB_ok (exq 11 _ rfl), n1, n2, of_decide_eq_true (exq 12 _ rfl), of_decide_eq_true (exq 13 _ rfl), He.exm_ok (c.x.t.d.fact 70 (f := .exm "BadLine" "BadLine" true) rfl), He.exm_ok (c.x.t.d.fact 71 (f := .exm "BadSchema" "BadLine" false) rfl), He.exm_ok (c.x.t.d.fact 72 (f := .exm "BadSchema" "BadSchema" true) rfl)⟩
  have M : Mk K (He.ga K "Schema") (He.ma K (He.ga K "Schema") "__init__") := He.mkr_ok (c.x.t.d.fact 73 (f := .mkr "Schema") rfl)
  have me___contains__ := (He.meth_ok (c.x.t.d.fact 74 (f := .meth "Schema" "__contains__") rfl))
  have me__is_list := (He.meth_ok (c.x.t.d.fact 75 (f := .meth "Schema" "_is_list") rfl))
  have me__is_column := (He.meth_ok (c.x.t.d.fact 76 (f := .meth "Schema" "_is_column") rfl))
  have me__take_columns := (He.meth_ok (c.x.t.d.fact 77 (f := .meth "Schema" "_take_columns") rfl))
  have me___str__ := (He.meth_ok (c.x.t.d.fact 78 (f := .meth "Schema" "__str__") rfl))
  obtain ⟨occA, odcA, dVcA, kVcA, doccA, pmcA, ancA, cdvcA, ctcA, oslcA, eTcA, lkcA, hcdcA⟩ := D__law_is_right.fn.ex
  obtain ⟨cA, rfl⟩ := He.codeIn_ref hcdcA
  have cAe : He.codeOf K ("_law_is_right", none) = cA := He.codeOf_eq lkcA (by rw [eTcA])
  have FC : FunC K "_law_is_right" "_law_is_right" s__law_is_right (He.ga K "_law_is_right") fd__law_is_right cA := ⟨occA, odcA, dVcA, kVcA, doccA, pmcA, ancA, ctcA, oslcA, eTcA, lkcA, hcdcA⟩
  obtain ⟨occB, odcB, dVcB, kVcB, doccB, pmcB, ancB, cdvcB, ctcB, oslcB, eTcB, lkcB, hcdcB⟩ := D_law.fn.ex
  obtain ⟨cB, rfl⟩ := He.codeIn_ref hcdcB
  have cBe : He.codeOf K ("law", none) = cB := He.codeOf_eq lkcB (by rw [eTcB])
  have FL : FunC K "law" "law" s_law (He.ga K "law") fd_law cB := ⟨occB, odcB, dVcB, kVcB, doccB, pmcB, ancB, ctcB, oslcB, eTcB, lkcB, hcdcB⟩
  have hne : (He.cT K ("_law_is_right", none)).2 ≠ (He.cT K ("law", none)).2 := of_decide_eq_true (exq 14 _ rfl)
  have e := hfa.symm.trans D_law.mgf
  cases e
  have mgS := (He.glo_ok X G (c.x.t.d.fact 56 (f := .glo "Schema") rfl))
  have mgB := (He.glo_ok X G (c.x.t.d.fact 68 (f := .glo "BadSchema") rfl))
  have mgL := (He.glo_ok X G (c.x.t.d.fact 67 (f := .glo "BadLine") rfl))
  have PTe : (He.cT K ("_law_is_right", none)).1 = cA := cAe
  have PTe2 : (He.cT K ("law", none)).1 = cB := cBe
  have z1 := c.x.empty ("_law_is_right", none) (List.mem_cons_self)
  have z2 := c.x.empty ("law", none) (List.mem_cons_of_mem _ (List.mem_singleton.mpr rfl))
  have y1 := c.x.out ("_law_is_right", none) (List.mem_cons_self)
  have y2 := c.x.out ("law", none) (List.mem_cons_of_mem _ (List.mem_singleton.mpr rfl))
  have v1 := PySem.W.codeHd_of_K X (c.x.hd ("_law_is_right", none) (List.mem_cons_self))
  have v2 := PySem.W.codeHd_of_K X (c.x.hd ("law", none) (List.mem_cons_of_mem _ (List.mem_singleton.mpr rfl)))
  obtain ⟨u1, hu1⟩ : ∃ u1, u1 = He.cT K ("_law_is_right", none) := ⟨_, rfl⟩
  obtain ⟨u2, hu2⟩ : ∃ u2, u2 = He.cT K ("law", none) := ⟨_, rfl⟩
  rw [← hu1] at z1 y1 v1 PTe hne
  rw [← hu2] at z2 y2 v2 PTe2 hne
  obtain ⟨c1, PT⟩ := u1
  obtain ⟨c2, PT2⟩ := u2
  have PTe : c1 = cA := PTe
  have PTe2 : c2 = cB := PTe2
  subst PTe
  subst PTe2
  have hne : PT ≠ PT2 := hne
  refine ⟨fd_law, [(c1, PT), (c2, PT2)], spLaw5 K [(PT, k05_q1), (PT2, k05_q2)], fun p hp => ?_, fun p hp => ?_, fun p hp => ?_, fun s u => ?_, fun H a ns hl _ hH hS => ?_, fun base Xb Gb hTB => ?_⟩
  · rcases List.mem_cons.1 hp with rfl | hp
    · exact z1
    · rw [List.mem_singleton.1 hp]
      exact z2
  · rcases List.mem_cons.1 hp with rfl | hp
    · exact y1
    · rw [List.mem_singleton.1 hp]
      exact y2
  · rcases List.mem_cons.1 hp with rfl | hp
    · exact v1
    · rw [List.mem_singleton.1 hp]
      exact v2
  · exact bindLaw D_law.fn df_law s u
  · refine ⟨a, ns, rfl, sqL_noT hS, by omega, fun p hp => ?_, fun _ => rfl⟩
    rcases List.mem_cons.1 hp with rfl | hp
    · exact LamX.TabS.nil (hH (c1, PT) (List.mem_cons_self))
    · rw [List.mem_singleton.1 hp]
      exact LamX.TabS.nil (hH (c2, PT2) (List.mem_cons_of_mem _ (List.mem_singleton.mpr rfl)))
  · have TB1 : LamX.TabB base mg c1 PT := hTB (c1, PT) (List.mem_cons_self)
    have TB2 : LamX.TabB base mg c2 PT2 := hTB (c2, PT2) (List.mem_cons_of_mem _ (List.mem_singleton.mpr rfl))
    generalize PySem.Challenge.rw_listandpage_k05_schema_lines_refused.prog = P
    have c_is_letters := ok_is_letters (P := P) (w := w) (base := base) D_is_letters b_is_letters B
    have c_is_word := ok_is_word (P := P) (w := w) (base := base) D_is_word b_is_word B T c_is_letters
    have c_is_link := ok_is_link (P := P) (w := w) (base := base) D_is_link b_is_link
    have c_is_linkG := ok_is_linkG (P := P) (w := w) (base := base) D_is_link b_is_link
    have c_has_list := ok_has_list D_has_list b_has_list c_is_link
    have c_may_lack := ok_may_lack D_may_lack b_may_lack c_is_link
    have c__write_column := ok_write_column D__write_column b__write_column c_is_link c_has_list c_may_lack
    have c_write_lines := ok_write_lines D_write_lines b_write_lines c__write_column
    have VX : ExV P w K mg base "BadSchema" (He.ga K "BadSchema") (He.ma K (He.ga K "BadSchema") "__init__") fd_BadSchema___init__ ["self", "table", "column"] 1 (spEx2 (He.ga K "BadSchema") "table" "column") := ⟨OV, iV, tV, ok_badschema OV n1 n2 F_BadSchema___init__, b_BadSchema___init__, mgB⟩
    have VL : ExV P w K mg base "BadLine" (He.ga K "BadLine") (He.ma K (He.ga K "BadLine") "__init__") fd_BadLine___init__ ["self", "line"] 1 (spEx1 (He.ga K "BadLine") "line") := ⟨OL, iL, tL, ok_badline OL nl F_BadLine___init__, b_BadLine___init__, mgL⟩
    have c__meets : CalX P w K mg base 3 "_meets" (spMeetsX K (He.ga K "BadSchema")) := ⟨_, _, _, ok_meetsX D__meets b__meets B VX c_is_link c_has_list, D__meets.mgf, D__meets.kp, b__meets⟩
    have c_is_name := ok_is_name cr sm si F_is_name b_is_name B T c_is_word
    have m___contains__ := ok_contains (P := P) (w := w) (base := base) S me___contains__ F_Schema___contains__ b_Schema___contains__ B
    have m__is_list := ok_is_listG S me__is_list F_Schema__is_list b_Schema__is_list B T c_is_name
    have m__is_column := ok_is_columnG S me__is_column F_Schema__is_column b_Schema__is_column B T LD LN c_is_name c_is_linkG m___contains__ m__is_list
    have m__take_columns := ok_take_columnsG S me__take_columns F_Schema__take_columns b_Schema__take_columns B VX c_has_list m__is_column
    have m_Schema : MakX P w K mg base 7 "Schema" (He.ga K "Schema") (spInitG K (He.ga K "Schema") (He.ga K "BadSchema")) := ⟨_, _, _, M, ok_initG S M F_Schema___init__ B T VX c_is_name m___contains__ m__take_columns c__meets c_write_lines, mgS, b_Schema___init__⟩
    have m___str__ : C8.Met P w K mg base 1 (He.ga K "Schema") "__str__" (spStr4 (He.ga K "Schema")) [] := ⟨_, _, _, _, S.cls, me___str__, ok_str4 S F_Schema___str__ B, b_Schema___str__, .nil⟩
    have c__is_head := ok_head D__is_head b__is_head B c_is_letters
    have c__read_link := ok_read_linkG D__read_link b__read_link B c_is_letters
    have c__read_column := ok_read_columnG D__read_column b__read_column B c_is_letters c__is_head c__read_link
    have c_read_lines := ok_read_linesG D_read_lines b_read_lines B VL c__is_head c__read_column
    have c_read : CCalX P w K mg base 9 (He.ga K "Schema") (.type "type") "read" (spReadG K (He.ga K "Schema") (He.ga K "BadSchema") (He.ga K "BadLine")) := ⟨_, _, _, _, crR, cmR, ok_readG F_read B c_read_lines m_Schema, b_read⟩
    have c__law_start := ok_start (P := P) (w := w) (base := base) D__law_start b__law_start B
    have c__law_take := ok_take (P := P) (w := w) (base := base) D__law_take b__law_take B
    have c__law_of := ok_of D__law_of b__law_of B c__law_take
    have c__law_reserved := ok_reserved (P := P) (w := w) (base := base) D__law_reserved b__law_reserved
    have c__law_draw_letters := ok_letters D__law_draw_letters b__law_draw_letters B c__law_take
    have c__law_new_name := ok_new_name D__law_new_name b__law_new_name c__law_draw_letters c__law_reserved
    have c__law_all_links := ok_all_links (P := P) (w := w) (base := base) D__law_all_links b__law_all_links
    have c__law_reach := ok_reach D__law_reach b__law_reach B c__law_all_links
    have c__law_is_listed := ok_is_listed D__law_is_listed b__law_is_listed B c__law_all_links
    have c__law_is_heavy := ok_is_heavy D__law_is_heavy b__law_is_heavy B c__law_reach c__law_is_listed
    have c__law_names_taken := ok_names_taken D__law_names_taken b__law_names_taken c__law_all_links
    have c__law_allowed := ok_allowed D__law_allowed b__law_allowed B c__law_all_links c__law_is_heavy
    have c__law_draw_columns := ok_draw_columns D__law_draw_columns b__law_draw_columns B c__law_take c__law_of c__law_new_name c__law_names_taken c__law_allowed
    have c__law_draw_tables := ok_draw_tables D__law_draw_tables b__law_draw_tables B c__law_take c__law_of c__law_new_name c__law_draw_columns
    have c__law_written := ok_written (P := P) (w := w) (base := base) D__law_written b__law_written
    have c__law_is_letters := ok_lawletters (P := P) (w := w) (base := base) D__law_is_letters b__law_is_letters B
    have c__law_read := ok_law_read D__law_read b__law_read B c__law_is_letters
    have c__law_what_is_due := ok_dueL D__law_what_is_due b__law_what_is_due B c__law_read
    have c__law_spoilt_line := ok_spoilt_line D__law_spoilt_line b__law_spoilt_line B c__law_take c__law_of
    have c__law_spoilt := ok_spoiltL D__law_spoilt b__law_spoilt B c__law_take c__law_of c__law_spoilt_line
    have c__law_is_right : C8.Cal P w K mg base 14 "_law_is_right" (spRight (He.ga K "Schema") [(PT, k05_q1), (PT2, k05_q2)]) [] := ⟨_, _, _, _, ok_is_right FC B S T D__law_what_comes b__law_what_comes LB m___str__ TB1 c__law_what_is_due c_read m_Schema (fun _ => List.mem_cons_self) (fun _ p hp e => by
      rcases List.mem_cons.1 hp with rfl | hp
      · rfl
      · rw [List.mem_singleton.1 hp] at e
        exact absurd e.symm hne), D__law_is_right.mgf, D__law_is_right.kp, b__law_is_right, .nil⟩
    exact ok_law5 FL B S T D__law_what_comes b__law_what_comes LB m___str__ TB2 c_read c__law_start c__law_of c__law_draw_tables c__law_written c__law_spoilt c__law_is_right (fun _ => List.mem_cons_of_mem _ (List.mem_singleton.mpr rfl)) (fun _ p hp e => by
      rcases List.mem_cons.1 hp with rfl | hp
      · exact absurd e hne
      · rw [List.mem_singleton.1 hp]
        rfl)
end LP
open PyProof.Rows PySem PySem.W PySem.Calls
theorem PySem.Challenge.cw_listandpage_k05_schema_lines_refused_holds : PySem.Challenge.rw_listandpage_k05_schema_lines_refused.Holds := by
  w_on; o_law
  refine HandSHeadRun.head_any (r := OpenLaw.row PySem.Challenge.rw_listandpage_k05_schema_lines_refused) (q := view (OpenLaw.row PySem.Challenge.rw_listandpage_k05_schema_lines_refused).prog [51]) (H := LP.k05_tell.hook) (ob := LP.k05_ob) (M := 4000) (loose := LP.k05_names) (d := HandSHeadRun.topDef (OpenLaw.row PySem.Challenge.rw_listandpage_k05_schema_lines_refused).prog 51) (kwd := []) LP.k05_ob_eq
    (by kernel_rfl) (fun s => by kernel_rfl) LP.k05_run (by kernel_rfl) (by kernel_rfl) (by kernel_rfl) (by rfl) (by first | assumption | decide +kernel) (by decide +kernel) ⟨rfl, rfl, rfl, rfl, rfl, by decide +kernel⟩ ?hw ?hc
  case hw => w_witness2
  case hc =>
    refine LamX.walk_ofTsE (l := PySem.Challenge.rw_listandpage_k05_schema_lines_refused) (n := 63) (k := 16) (x := "script") (CX := fun _ => C8.CX0) rfl (by decide) (by kernel_rfl) ⟨rfl, by decide, by decide⟩ ?F (fun _ _ _ _ _ z => z)
    intro w mg fa h Y G hmg0
    obtain ⟨K, KX, c⟩ := Y
    have hmg : mg
            ("law" : PySem.Str) = some (.ref fa) := by
      have e : (HandSHeadRun.topDef (OpenLaw.row PySem.Challenge.rw_listandpage_k05_schema_lines_refused).prog 51).name = ("law" : PySem.Str) := by kernel_rfl
      rw [← e]
      exact hmg0
    exact ⟨K, KX, LP.k05_facts KX G hmg c⟩
