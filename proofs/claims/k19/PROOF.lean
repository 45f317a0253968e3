import PyProof.Rows.All
import Wide.All
import OpenK.AllK
import Wide.FinOn
import HandS.ForMost
import HandS.More
import HandS.IsInst
import HandS.Defaults
import HandS.Wide
import HandS.Flow
import HandS.Walk
import HandS.Evl
import HandS.FStr
import HandS.Star
import HandS.StrMore
import HandS.TupAny
import HandS.MakeKw
import HandS.MakeKwOnly
import HandS.Style
import HandS.RaiseMore
import KE.LtData
import KE.IntTextLaws
import KE.IntTextText
import KE.KIntText
import KE.GoesEnum
import PySem.Challenge.RW_spinemarks_k19_how_many_there_are
set_option Elab.async false
set_option linter.all false
set_option maxRecDepth 100000
set_option maxHeartbeats 4000000
set_option pp.maxSteps 400
set_option pp.deepTerms false
namespace My
open PySem PySem.Spec PyProof.Rows L2 Evl
def top (i : Nat) : Stmt := PySem.Challenge.pw_spinemarks_k19_how_many_there_are.main.body.getD i (.Pass ⟨0, 0, 0, 0⟩)
abbrev s_is_number : Stmt := top 4
theorem sc_is_number : FnScope ["thing"] ["thing"] (defScope s_is_number) := ⟨rfl, rfl, rfl, by decide +kernel, rfl, by decide +kernel, by decide +kernel⟩
abbrev s_is_whole : Stmt := top 5
theorem sc_is_whole : FnScope ["thing", "low", "high"] ["thing", "low", "high"] (defScope s_is_whole) := ⟨rfl, rfl, rfl, by decide +kernel, rfl, by decide +kernel, by decide +kernel⟩
abbrev s_is_bound : Stmt := top 6
theorem sc_is_bound : FnScope ["thing"] ["thing"] (defScope s_is_bound) := ⟨rfl, rfl, rfl, by decide +kernel, rfl, by decide +kernel, by decide +kernel⟩
abbrev s_counted : Stmt := top 12
theorem sc_counted : FnScope ["table", "left"] ["table", "left"] (defScope s_counted) := ⟨rfl, rfl, rfl, by decide +kernel, rfl, by decide +kernel, by decide +kernel⟩
abbrev s_Tails_init : Stmt := inClass (top 13) 0
theorem sc_Tails_init : FnScope ["self", "most", "years", "_"] ["self", "most"] (defScope s_Tails_init) := ⟨rfl, rfl, rfl, by decide +kernel, rfl, by decide +kernel, by decide +kernel⟩
abbrev s_Tails_behind_number : Stmt := inClass (top 13) 1
theorem sc_Tails_behind_number : FnScope ["self", "left"] ["self", "left"] (defScope s_Tails_behind_number) := ⟨rfl, rfl, rfl, by decide +kernel, rfl, by decide +kernel, by decide +kernel⟩
abbrev s_Tails_behind_letters : Stmt := inClass (top 13) 2
theorem sc_Tails_behind_letters : FnScope ["self", "left", "figures", "many"] ["self", "left"] (defScope s_Tails_behind_letters) := ⟨rfl, rfl, rfl, by decide +kernel, rfl, by decide +kernel, by decide +kernel⟩
abbrev s_Tails_in_letters : Stmt := inClass (top 13) 3
theorem sc_Tails_in_letters : FnScope ["self", "many", "left", "ways"] ["self", "many", "left"] (defScope s_Tails_in_letters) := ⟨rfl, rfl, rfl, by decide +kernel, rfl, by decide +kernel, by decide +kernel⟩
abbrev s_Tails_marks : Stmt := inClass (top 13) 4
theorem sc_Tails_marks : FnScope ["self", "most"] ["self", "most"] (defScope s_Tails_marks) := ⟨rfl, rfl, rfl, by decide +kernel, rfl, by decide +kernel, by decide +kernel⟩
abbrev s_copies : Stmt := top 14
theorem sc_copies : FnScope ["most", "table", "ways", "_"] ["most"] (defScope s_copies) := ⟨rfl, rfl, rfl, by decide +kernel, rfl, by decide +kernel, by decide +kernel⟩
abbrev s_with_more : Stmt := top 15
theorem sc_with_more : FnScope ["ended", "choices", "more", "signs", "ways", "later"] ["ended", "choices", "more", "signs"] (defScope s_with_more) := ⟨rfl, rfl, rfl, by decide +kernel, rfl, by decide +kernel, by decide +kernel⟩
abbrev s_figures : Stmt := top 16
theorem sc_figures : FnScope ["rest", "table", "more", "ways"] ["rest"] (defScope s_figures) := ⟨rfl, rfl, rfl, by decide +kernel, rfl, by decide +kernel, by decide +kernel⟩
abbrev s_how_many : Stmt := top 18
theorem sc_how_many : FnScope ["many"] ["many"] (defScope s_how_many) := ⟨rfl, rfl, rfl, by decide +kernel, rfl, by decide +kernel, by decide +kernel⟩
abbrev s_with_signs : Stmt := top 19
theorem sc_with_signs : FnScope ["many", "fewer"] ["many"] (defScope s_with_signs) := ⟨rfl, rfl, rfl, by decide +kernel, rfl, by decide +kernel, by decide +kernel⟩
abbrev s_l_is : Stmt := top 21
theorem sc_l_is : FnScope ["_law_found", "_law_due"] ["_law_found", "_law_due"] (defScope s_l_is) := ⟨rfl, rfl, rfl, by decide +kernel, rfl, by decide +kernel, by decide +kernel⟩
abbrev s_l_behind : Stmt := top 22
theorem sc_l_behind : FnScope ["_law_one", "_law_other", "_law_found", "_law_at", "_law_bound", "_law_size"] ["_law_one", "_law_other"] (defScope s_l_behind) := ⟨rfl, rfl, rfl, by decide +kernel, rfl, by decide +kernel, by decide +kernel⟩
abbrev s_l_long : Stmt := top 23
theorem sc_l_long : FnScope ["_law_table"] ["_law_table"] (defScope s_l_long) := ⟨rfl, rfl, rfl, by decide +kernel, rfl, by decide +kernel, by decide +kernel⟩
abbrev s_l_sizes : Stmt := top 24
theorem sc_l_sizes : FnScope ["_law_tens", "_law_k", "_law_points", "_law_ten", "_law_maker", "_law_two", "_law_makers", "_law_one", "_law_other", "_law_third", "_law_found"] [] (defScope s_l_sizes) := ⟨rfl, rfl, rfl, by decide +kernel, rfl, by decide +kernel, by decide +kernel⟩
abbrev s_law : Stmt := top 25
theorem sc_law : FnScope ["_law_script", "_law_sizes_here", "_law_cell", "_law_bound"] ["_law_script"] (defScope s_law) := ⟨rfl, rfl, rfl, by decide +kernel, rfl, by decide +kernel, by decide +kernel⟩
/-- where the defs and classes stand -/
structure Adr where
  (a_is_number a_is_whole a_is_bound a_counted a_Tails_init a_Tails_behind_number a_Tails_behind_letters a_Tails_in_letters a_Tails_marks a_copies a_with_more a_figures a_how_many a_with_signs a_l_is a_l_behind a_l_long a_l_sizes a_law : Addr)
  (d_is_number d_is_whole d_is_bound d_counted d_Tails_init d_Tails_behind_number d_Tails_behind_letters d_Tails_in_letters d_Tails_marks d_copies d_with_more d_figures d_how_many d_with_signs d_l_is d_l_behind d_l_long d_l_sizes d_law : FuncData)
  (C_Tails : Addr)
  (k_NUMBERS k_NUMBERS_0 k_NUMBERS_1 k_NUMBERS_2 k_NUMBERS_3 : Addr)
/-- what the top has written -/
structure Txt (K : PySem.W.Frag) (mg : Str → Option Value) (Z : Adr) : Prop where
  F_is_number : Fun K "is_number" "is_number" s_is_number Z.a_is_number Z.d_is_number
  g_is_number : mg "is_number" = some (.ref Z.a_is_number)
  b_is_number : Binds K Z.d_is_number ["thing"] []
  F_is_whole : FunD K "is_whole" "is_whole" (defArgs s_is_whole) (defBody s_is_whole) (defScope s_is_whole) [.non] [] Z.a_is_whole Z.d_is_whole
  g_is_whole : mg "is_whole" = some (.ref Z.a_is_whole)
  b_is_whole : Binds K Z.d_is_whole ["thing", "low", "high"] []
  F_is_bound : Fun K "is_bound" "is_bound" s_is_bound Z.a_is_bound Z.d_is_bound
  g_is_bound : mg "is_bound" = some (.ref Z.a_is_bound)
  b_is_bound : Binds K Z.d_is_bound ["thing"] []
  F_counted : Fun K "counted" "counted" s_counted Z.a_counted Z.d_counted
  g_counted : mg "counted" = some (.ref Z.a_counted)
  b_counted : Binds K Z.d_counted ["table", "left"] []
  F_Tails_init : Fun K "__init__" "Tails.__init__" s_Tails_init Z.a_Tails_init Z.d_Tails_init
  b_Tails_init : Binds K Z.d_Tails_init ["self", "most"] []
  F_Tails_behind_number : Fun K "behind_number" "Tails.behind_number" s_Tails_behind_number Z.a_Tails_behind_number Z.d_Tails_behind_number
  m_Tails_behind_number : Meth K Z.C_Tails "behind_number" Z.a_Tails_behind_number
  b_Tails_behind_number : Binds K Z.d_Tails_behind_number ["self", "left"] []
  F_Tails_behind_letters : Fun K "behind_letters" "Tails.behind_letters" s_Tails_behind_letters Z.a_Tails_behind_letters Z.d_Tails_behind_letters
  m_Tails_behind_letters : Meth K Z.C_Tails "behind_letters" Z.a_Tails_behind_letters
  b_Tails_behind_letters : Binds K Z.d_Tails_behind_letters ["self", "left"] []
  F_Tails_in_letters : Fun K "in_letters" "Tails.in_letters" s_Tails_in_letters Z.a_Tails_in_letters Z.d_Tails_in_letters
  m_Tails_in_letters : Meth K Z.C_Tails "in_letters" Z.a_Tails_in_letters
  b_Tails_in_letters : Binds K Z.d_Tails_in_letters ["self", "many", "left"] []
  F_Tails_marks : Fun K "marks" "Tails.marks" s_Tails_marks Z.a_Tails_marks Z.d_Tails_marks
  m_Tails_marks : Meth K Z.C_Tails "marks" Z.a_Tails_marks
  b_Tails_marks : Binds K Z.d_Tails_marks ["self", "most"] []
  F_copies : Fun K "_copies" "_copies" s_copies Z.a_copies Z.d_copies
  g_copies : mg "_copies" = some (.ref Z.a_copies)
  b_copies : Binds K Z.d_copies ["most"] []
  F_with_more : Fun K "_with_more" "_with_more" s_with_more Z.a_with_more Z.d_with_more
  g_with_more : mg "_with_more" = some (.ref Z.a_with_more)
  b_with_more : Binds K Z.d_with_more ["ended", "choices", "more", "signs"] []
  F_figures : Fun K "_figures" "_figures" s_figures Z.a_figures Z.d_figures
  g_figures : mg "_figures" = some (.ref Z.a_figures)
  b_figures : Binds K Z.d_figures ["rest"] []
  F_how_many : Fun K "how_many" "how_many" s_how_many Z.a_how_many Z.d_how_many
  g_how_many : mg "how_many" = some (.ref Z.a_how_many)
  b_how_many : Binds K Z.d_how_many ["many"] []
  F_with_signs : Fun K "with_signs" "with_signs" s_with_signs Z.a_with_signs Z.d_with_signs
  g_with_signs : mg "with_signs" = some (.ref Z.a_with_signs)
  b_with_signs : Binds K Z.d_with_signs ["many"] []
  F_l_is : Fun K "_law_is" "_law_is" s_l_is Z.a_l_is Z.d_l_is
  g_l_is : mg "_law_is" = some (.ref Z.a_l_is)
  b_l_is : Binds K Z.d_l_is ["_law_found", "_law_due"] []
  F_l_behind : Fun K "_law_behind" "_law_behind" s_l_behind Z.a_l_behind Z.d_l_behind
  g_l_behind : mg "_law_behind" = some (.ref Z.a_l_behind)
  b_l_behind : Binds K Z.d_l_behind ["_law_one", "_law_other"] []
  F_l_long : Fun K "_law_long" "_law_long" s_l_long Z.a_l_long Z.d_l_long
  g_l_long : mg "_law_long" = some (.ref Z.a_l_long)
  b_l_long : Binds K Z.d_l_long ["_law_table"] []
  F_l_sizes : Fun K "_law_sizes" "_law_sizes" s_l_sizes Z.a_l_sizes Z.d_l_sizes
  g_l_sizes : mg "_law_sizes" = some (.ref Z.a_l_sizes)
  b_l_sizes : Binds K Z.d_l_sizes [] []
  F_law : Fun K "law" "law" s_law Z.a_law Z.d_law
  g_law : mg "law" = some (.ref Z.a_law)
  b_law : Binds K Z.d_law ["_law_script"] []
  g_Tails : mg "Tails" = some (.ref Z.C_Tails)
  cl_Tails : Cls K Z.C_Tails
  M_Tails : Mk K Z.C_Tails Z.a_Tails_init
  t1_Tails : PySem.W.findIn K (.ref Z.C_Tails) "__class__" = some (some (.builtin "object.__class__"))
  t4_Tails : PySem.W.mroIn K Z.C_Tails (.type "object") = some true
  t2_Tails : PySem.W.specialIn K (.builtin "object.__class__") "__get__" = some (some (.builtin "getset_descriptor.__get__"))
  t3_Tails : PySem.W.takesIn K (.builtin "object.__class__") = some true
  na_Tails_most : NoAttr K Z.C_Tails "most"
  na_Tails_behind_year : NoAttr K Z.C_Tails "behind_year"
  na_Tails_behind_makers : NoAttr K Z.C_Tails "behind_makers"
  na_Tails_in_maker : NoAttr K Z.C_Tails "in_maker"
  na_Tails_in_points : NoAttr K Z.C_Tails "in_points"
  n_isinstance : mg "isinstance" = none
  n_range : mg "range" = none
  n_sum : mg "sum" = none
  n_int : mg "int" = none
  n_bool : mg "bool" = none
  n_zip : mg "zip" = none
  n_enumerate : mg "enumerate" = none
  c_MOST_LETTERS : ∃ t, mg "MOST_LETTERS" = some (.int (3) t)
  c_MOST_MAKERS : ∃ t, mg "MOST_MAKERS" = some (.int (3) t)
  c_LAST_FIGURES : ∃ t, mg "LAST_FIGURES" = some (.int (9) t)
  c_NUMBERS : mg "NUMBERS" = some (.ref Z.k_NUMBERS)
  t_NUMBERS : ∀ H : Hp, SqT K H Z.k_NUMBERS [.ref Z.k_NUMBERS_0, .ref Z.k_NUMBERS_1, .ref Z.k_NUMBERS_2, .ref Z.k_NUMBERS_3]
  t_NUMBERS_0 : ∀ H : Hp, SqT K H Z.k_NUMBERS_0 [.int (1), .int (9)]
  t_NUMBERS_1 : ∀ H : Hp, SqT K H Z.k_NUMBERS_1 [.int (2), .int (90)]
  t_NUMBERS_2 : ∀ H : Hp, SqT K H Z.k_NUMBERS_2 [.int (3), .int (900)]
  t_NUMBERS_3 : ∀ H : Hp, SqT K H Z.k_NUMBERS_3 [.int (4), .int (9000)]
theorem vals_dt : ∀ {vs : List V} {us : List Value} (n : Nat), Vals vs us → Vals ((vs.drop n).take 1) ((us.drop n).take 1)
  | _, _, n, .nil => by cases n <;> exact .nil
  | _, _, 0, .cons h r => .cons h .nil
  | _, _, n + 1, .cons h r => vals_dt n r
/-- what makes a list that may change -/
def tMut (t : TE) : TE := t
theorem peM {X : Cx} {e : Expr} {te : TE} (h : PE X e te) : PE X e (tMut te) := h
/-! rules by name -/
def qAddS : R2 := fun x y H Q => ∃ i j, x = .str i ∧ y = .str j ∧ i.length + j.length ≤ sizeLine ∧ Q (.str (i ++ j)) H
theorem op_addS {X : Cx} : OpR X (binaryOp .Add) qAddS := op_add_str
def qLenS : List V → Hp → VK → Prop := fun xs H Q => ∃ z, xs = [.str z] ∧ z.length ≤ sizeLine ∧ Q (.int z.length) H
theorem call_lenS {X : Cx} : CallR X (.builtin "len") qLenS := call_len_str
def qStrI : List V → Hp → VK → Prop := fun xs H Q => ∃ i : Int, xs = [.int i] ∧ i.natAbs.log2 < 1920 ∧ Q (.str (toString i)) H
theorem call_strI {X : Cx} : CallR X (.type "str") qStrI := call_str_int
def qStrS : List V → Hp → VK → Prop := fun xs H Q => ∃ a, xs = [.str a] ∧ Q (.str a) H
theorem call_strS {X : Cx} : CallR X (.type "str") qStrS := SkE.call_str_str
def qInt1 : List V → Hp → VK → Prop := fun xs H Q => (∃ i, xs = [.int i] ∧ Q (.int i) H) ∨ ∃ k, xs = [.bl k] ∧ Q (.int (if k then 1 else 0)) H
theorem call_intq {X : Cx} : CallR X (.type "int") qInt1 := call_int1
def qIntS : List V → Hp → VK → Prop := fun xs H Q => ∃ a n, xs = [.str a] ∧ PySem.intText? a = some n ∧ a.length ≤ 640 ∧ Q (.int n) H
theorem call_intS {X : Cx} : CallR X (.type "int") qIntS := call_int_str
def qMax2 : List V → Hp → VK → Prop := fun xs H Q => ∃ i j, xs = [.int i, .int j] ∧ Q (.int (if j > i then j else i)) H
theorem call_maxq {X : Cx} (hc : X.calm = true) : CallR X (.builtin "max") qMax2 := call_max2 hc
def qMin2 : List V → Hp → VK → Prop := fun xs H Q => ∃ i j, xs = [.int i, .int j] ∧ Q (.int (if j < i then j else i)) H
theorem call_minq {X : Cx} (hc : X.calm = true) : CallR X (.builtin "min") qMin2 := call_min2 hc
def qLtS : R2 := fun x y H Q => ∃ i j, x = .str i ∧ y = .str j ∧ Q (.bl (decide (i.cps.toList < j.cps.toList))) H
theorem op_ltS {X : Cx} : OpR X (compareOp .Lt) qLtS := op_lt_str
def qInS : R2 := fun x y H Q => ∃ (c : Nat) (z : Str), x = .str ⟨#[c]⟩ ∧ y = .str z ∧ Q (.bl (decide (c ∈ z.cps.toList))) H
theorem op_inq {X : Cx} : OpR X (compareOp .In) qInS := op_in_sign
def qNotInS : R2 := fun x y H Q => ∃ (c : Nat) (z : Str), x = .str ⟨#[c]⟩ ∧ y = .str z ∧ Q (.bl (!decide (c ∈ z.cps.toList))) H
theorem op_notInq {X : Cx} : OpR X (compareOp .NotIn) qNotInS := op_notIn_sign
def qIsN : R2 := fun x y H Q => y = .non ∧ Q (.bl (decide (x = .non))) H
theorem op_isNq {X : Cx} : OpR X (compareOp .Is) qIsN := op_isN
def qNotN : R2 := fun x y H Q => y = .non ∧ Q (.bl (!decide (x = .non))) H
theorem op_notNq {X : Cx} : OpR X (compareOp .IsNot) qNotN := op_notN
def tJoinS (ts : List TE) : TE := fun σ H Q => tJs ts Str.empty σ H fun out H1 => Q (.str out) H1
theorem pe_joinedq {X : Cx} {v1 v2 : Expr} {rest : List Expr} {ts : List TE} {pos : Pos} (h : PJ X (v1 :: v2 :: rest) ts) : PE X (.JoinedStr (v1 :: v2 :: rest) pos) (tJoinS ts) := pe_joined h
def tTru (K : PySem.W.Frag) (ta : TE) : TT := fun σ H Q => ta σ H fun x H' => ∃ k, TruV K x H' k ∧ Q k H'
theorem pt_truthq {X : Cx} {a : Expr} {ta : TE} (ha : PE X a ta) (he : ∀ whole, isTrue a X.env whole = (do let v ← whole; standAt a.pos; holding [v] (truthy v))) : PT X a (tTru X.K ta) := pt_truth ha he
/-! rules with the written part told by name (for what stands within a comprehension) -/
section
variable (K : PySem.W.Frag) {X : Cx}
theorem ixL (hK : X.K = K := by rfl) : IxR X (rIxL K) := by subst hK; exact ix_list
theorem ixT (hK : X.K = K := by rfl) : IxR X (rIxT K) := by subst hK; exact ix_tup
theorem slL (hK : X.K = K := by rfl) : SlR X (rSlL K) := by subst hK; exact sl_list
theorem lenQ (hK : X.K = K := by rfl) : CallR X (.builtin "len") (rLenS K) := by subst hK; exact call_len_seq
theorem sumK (hc : X.calm = true) (hK : X.K = K := by rfl) : CallR X (.builtin "sum") (rSum K) := by subst hK; exact cr_sum hc
theorem isiK (hK : X.K = K := by rfl) : CallR X (.builtin "isinstance") (rIsi K) := by subst hK; exact call_isi
theorem isiTK (hK : X.K = K := by rfl) : CallR X (.builtin "isinstance") (rIsiT K) := by subst hK; exact call_isiT
theorem listK (hK : X.K = K := by rfl) : CallR X (.type "list") (rListS K) := by subst hK; exact call_list_of
def rTupOf (K : PySem.W.Frag) : List V → Hp → VK → Prop := fun xs H Q => ∃ p ys, xs = [.ref p] ∧ ((SqL K H p ys ∧ ∀ l, H l = none → Q (.ref l) (upd H l (.tup ys))) ∨ (SqT K H p ys ∧ Q (.ref p) H))
theorem tupK (hK : X.K = K := by rfl) : CallR X (.type "tuple") (rTupOf K) := by subst hK; exact call_tuple_of
theorem inQ (hK : X.K = K := by rfl) : OpR X (compareOp .In) (rIn K false) := by subst hK; exact op_in_seq
theorem notInQ (hK : X.K = K := by rfl) : OpR X (compareOp .NotIn) (rIn K true) := by subst hK; exact op_notIn_seq
theorem eqDK (hu : X.A.units + 64 < cLine) (hK : X.K = K := by rfl) : OpR X (compareOp .Eq) (rEqD K) := by subst hK; exact op_eqD hu
theorem neDK (hu : X.A.units + 64 < cLine) (hK : X.K = K := by rfl) : OpR X (compareOp .NotEq) (rNeD K) := by subst hK; exact op_neD hu
theorem fldK {e : Expr} {f : Str} {pos : Pos} {ta : TE} (he : PE X e ta) (hb : attributeBase e f X.env (eval e X.env) = eval e X.env) (hK : X.K = K := by rfl) : PE X (.Attribute e f pos) (tFld K ta f) := by subst hK; exact pe_fld he hb
theorem bmK {o e : Expr} {es : List Expr} {to : TE} {t : TA} {name : Str} {apos cpos : Pos} {T id : String} {r : V → List V → Hp → VK → Prop} (pa : PlainAttrs T) (slot : Slot T name id) (hty : typeOf (.builtin id) = pure (.type "method_descriptor")) (hm : MtR X id r) (ho : PE X o to) (ha : PA X (e :: es) t)
    (hK : X.K = K := by rfl) (hbase : attributeBase o name X.env (eval o X.env) = eval o X.env := by rfl)
    (hfew : ((backTo cpos (starEach (e :: es) X.env)).all (fun x => !x.1) && (backToKw cpos (keywordEach [] X.env)).all (fun x => x.1.isSome)
      && decide ((e :: es).length + ([] : List Keyword).length + (if ([] : List Keyword).isEmpty then 0 else 1) < 30)) = true := by rfl)
    (hline : (apos.endLine == cpos.line) = true := by rfl) (hs : starEach (e :: es) X.env = (false, eval e X.env) :: starEach es X.env := by rfl) (hplain : (backTo cpos (starEach es X.env)).any (·.1) = false := by rfl) :
    PE X (.Call (.Attribute o name apos) (e :: es) [] cpos) (tBM K T r to t) := by subst hK; exact pe_bm pa slot hty hm ho ha hbase hfew hline hs hplain
def rJoin (K : PySem.W.Frag) : V → List V → Hp → VK → Prop := fun x xs H Q => ∃ a p, ∃ ys : List Str, x = .str a ∧ xs = [.ref p] ∧ (SqL K H p (ys.map V.str) ∨ SqT K H p (ys.map V.str)) ∧
      (ys.map (·.length)).sum + ys.length * a.length ≤ 16777216 ∧ Q (.str (Txt.join a ys)) H
theorem joinK {o e : Expr} {to te : TE} {apos pos : Pos} (ho : PE X o to) (he : PE X e te) (hK : X.K = K := by rfl) (hs : starEach [e] X.env = [(false, eval e X.env)] := by rfl) (hbase : attributeBase o "join" X.env (eval o X.env) = eval o X.env := by rfl) (hline : (apos.endLine == pos.line) = true := by rfl) :
    PE X (.Call (.Attribute o "join" apos) [e] [] pos) (tM1 (rJoin K) to te) := by subst hK; exact pe_join ho he hs hbase hline
end
/-! ### words of mine, over HandS and Evl -/
section
variable {K : PySem.W.Frag} {σ : L2.St} {H H' : Hp} {ta tb te tv : TE} {t u : TT} {x y z v : V} {D : Ends} {tz tu : TS}
abbrev ii (xs : List Int) : List V := xs.map V.int
theorem ip_mulI {X : Cx} : PIp X .Mult (fun x y H Q => ∃ i j, x = .int i ∧ y = .int j ∧ CMul i j ∧ Q (.int (i * j)) H) := iop_mul
theorem et_yes : EvT tYes σ H true := fun H1 _ _ q => q H1 (Ex.refl H1)
theorem ev_sumN {ns : List Int} (h : EvL ta σ H (ii ns)) : Ev (tCB (rSum K) (tCons ta tNil)) σ H (.int ns.sum) := fun H1 e Q q =>
  h H1 e _ fun p H2 _ e2 h2 => ⟨p, ns, rfl, sq_of h2, q H2 e2⟩
theorem ev_sum {p : Addr} {ns : List Int} (h : Ev ta σ H (.ref p)) (hS : SqL K H p (ii ns)) : Ev (tCB (rSum K) (tCons ta tNil)) σ H (.int ns.sum) := fun H1 e Q q =>
  h H1 e _ fun H2 e2 => ⟨p, ns, rfl, ex_l (e.trans e2) hS, q H2 e2⟩
theorem given_all {n : Nat} {f : Nat → V} : given n (fun _ => true) f = (List.range n).map f := by
  unfold given
  rw [List.filter_eq_self.mpr (fun _ _ => rfl)]
/-- self.f = e -/
theorem q_fld {a C dx : Addr} {fs : List (Str × V)} {f : Str} (hv : Ev tv σ H v) (ha : Ev ta σ H (.ref a)) (ho : H a = some (.ins C dx fs)) (hc : Cls K C) (hn : NoAttr K C f) (hl : fs.length < 1000)
    (k : ∀ H1, Ex H H1 → tz D σ (upd H1 a (.ins C dx (putF f v fs)))) : tSeq (sFld K ta tv f) tz D σ H :=
  hv H (Ex.refl H) _ fun H1 e1 => ha H1 e1 _ fun H2 e2 => ⟨a, C, dx, fs, rfl, e2 _ _ (e1 _ _ ho), hc, hn, hl, k H2 (e1.trans e2)⟩
theorem q_fldL {a C dx : Addr} {fs : List (Str × V)} {f : Str} {xs : List V} (hv : EvL tv σ H xs) (ha : Ev ta σ H (.ref a)) (ho : H a = some (.ins C dx fs)) (hc : Cls K C) (hn : NoAttr K C f) (hl : fs.length < 1000)
    (k : ∀ p H1, H p = none → Ex H H1 → H1 p = some (.lst xs) → tz D σ (upd H1 a (.ins C dx (putF f (.ref p) fs)))) : tSeq (sFld K ta tv f) tz D σ H :=
  hv H (Ex.refl H) _ fun p H1 hp e1 h1 => ha H1 e1 _ fun H2 e2 => ⟨a, C, dx, fs, rfl, e2 _ _ (e1 _ _ ho), hc, hn, hl, k p H2 hp (e1.trans e2) (e2 _ _ h1)⟩
theorem s_fld {a C dx : Addr} {fs : List (Str × V)} {f : Str} (hv : Ev tv σ H v) (ha : Ev ta σ H (.ref a)) (ho : H a = some (.ins C dx fs)) (hc : Cls K C) (hn : NoAttr K C f) (hl : fs.length < 1000)
    (k : ∀ H1, Ex H H1 → D.nx σ (upd H1 a (.ins C dx (putF f v fs)))) : sFld K ta tv f D σ H :=
  hv H (Ex.refl H) _ fun H1 e1 => ha H1 e1 _ fun H2 e2 => ⟨a, C, dx, fs, rfl, e2 _ _ (e1 _ _ ho), hc, hn, hl, k H2 (e1.trans e2)⟩
theorem ev_fld {a C dx : Addr} {fs : List (Str × V)} {f : Str} (ha : Ev ta σ H (.ref a)) (ho : H a = some (.ins C dx fs)) (hc : Cls K C) (hn : NoAttr K C f) (hl : fs.lookup f = some v) : Ev (tFld K ta f) σ H v :=
  fun H1 e Q q => ha H1 e _ fun H2 e2 => ⟨a, C, dx, fs, v, rfl, e2 _ _ (e _ _ ho), hc, hn, hl, q H2 e2⟩
/-- a value of one of the kinds that is an int, a truth or none of both -/
def isI : V → Bool | .int _ => true | .bl _ => true | _ => false
def isB : V → Bool | .bl _ => true | _ => false
def KnI (K : PySem.W.Frag) (H : Hp) (x : V) : Prop := ∃ t, TyX K H x t ∧ PySem.W.kitOne K t (.type "bool") = some (isB x) ∧ PySem.W.kitOne K t (.type "int") = some (isI x)
theorem kni_int {i : Int} : KnI K H (.int i) := ⟨_, .base (.int i), kit_ty (r := false) (by decide +kernel), kit_ty (r := true) (by decide +kernel)⟩
theorem kni_bl {b : Bool} : KnI K H (.bl b) := ⟨_, .base (.bl b), kit_ty (r := true) (by decide +kernel), kit_ty (r := true) (by decide +kernel)⟩
theorem kni_non : KnI K H .non := ⟨_, .base .non, kit_ty (r := false) (by decide +kernel), kit_ty (r := false) (by decide +kernel)⟩
theorem kni_str {s : Str} : KnI K H (.str s) := ⟨_, .base (.str s), kit_ty (r := false) (by decide +kernel), kit_ty (r := false) (by decide +kernel)⟩
def oi : Option Int → V | none => .non | some i => .int i
def whole (x : V) (lo : Int) (hi : Option Int) : Bool := match x with
  | .int i => decide (lo ≤ i) && (match hi with | none => true | some h => decide (i ≤ h))
  | _ => false
theorem cut_take (xs : List V) (n : Nat) : cutV xs none (some (n : Int)) = xs.take n := by
  unfold cutV
  rw [HT.sIx_none, HT.sIx_nat]
  show (xs.drop 0).take (min n xs.length - 0) = xs.take n
  rw [List.drop_zero, Nat.sub_zero]
  by_cases h : n ≤ xs.length
  · rw [Nat.min_eq_left h]
  · rw [Nat.min_eq_right (by omega), List.take_length, List.take_of_length_le (by omega)]
theorem ii_get {xs : List Int} {j : Nat} (h : j < xs.length) : (ii xs)[j]? = some (.int (xs.getD j 0)) := by
  rw [List.getElem?_map, List.getElem?_eq_getElem h, List.getD_eq_getElem?_getD, List.getElem?_eq_getElem h]
  rfl
theorem ii_len (xs : List Int) : (ii xs).length = xs.length := List.length_map ..
theorem ii_of {xs : List Int} {j : Nat} {y : V} (h : (ii xs)[j]? = some y) : ∃ z, xs[j]? = some z ∧ y = .int z := by
  rw [List.getElem?_map] at h
  cases e : xs[j]? with
  | none => rw [e] at h; cases h
  | some z => rw [e] at h; exact ⟨z, rfl, (Option.some.inj h).symm⟩
end
/-! what is known and never changes (kb), beside what may change -/
theorem grow {kb H H1 : Hp} {p : Addr} {o : HO} (e : Ex kb H) (hp : H p = none) (e1 : Ex H H1) (h1 : H1 p = some o) : Ex (upd kb p o) H1 := fun b u q => by
  by_cases hb : b = p
  · subst hb
    rw [upd_same] at q
    cases q
    exact h1
  · rw [upd_ne hb] at q
    exact e1 b u (e b u q)
theorem kb_new {kb H : Hp} {p : Addr} {o : HO} (e : Ex kb H) (hp : H p = none) : Ex kb (upd kb p o) := Ex.new (fresh_back e hp)
theorem kb_none {kb H : Hp} {p x : Addr} {o u : HO} (hx : kb x = none) (h : H x = some u) (hp : H p = none) : upd kb p o x = none := by
  rw [upd_ne (ne_of_none h hp)]
  exact hx
theorem rep_flat {α : Type} (n : Nat) (x : α) : (List.replicate n [x]).flatten = List.replicate n x := by
  induction n with
  | zero => rfl
  | succ n ih => rw [List.replicate_succ, List.flatten_cons, ih]; rfl

theorem ii_map {n : Nat} {f : Nat → Int} : ii ((List.range n).map f) = (List.range n).map (fun l => V.int (f l)) := List.map_map ..
/-- kb: what is known and stays; mt: what may change, as it stands -/
structure ST (kb H : Hp) (mt : List (Addr × HO)) : Prop where
  e : Ex kb H
  m : ∀ p ∈ mt, kb p.1 = none ∧ H p.1 = some p.2
  d : mt.Pairwise fun p q => p.1 ≠ q.1
section
variable {kb H H1 : Hp} {mt : List (Addr × HO)} {p a b c : Addr} {o o1 o2 o3 u : HO}
theorem ST.ext (s : ST kb H mt) (e : Ex H H1) : ST kb H1 mt := ⟨s.e.trans e, fun p hp => ⟨(s.m p hp).1, e _ _ (s.m p hp).2⟩, s.d⟩
theorem ST.new (s : ST kb H mt) (hp : H p = none) (e : Ex H H1) (h1 : H1 p = some o) : ST (upd kb p o) H1 mt :=
  ⟨grow s.e hp e h1, fun q hq => ⟨kb_none (s.m q hq).1 (s.m q hq).2 hp, e _ _ (s.m q hq).2⟩, s.d⟩
theorem ST.kb_ex (s : ST kb H mt) (hp : H p = none) : Ex kb (upd kb p o) := kb_new s.e hp
theorem ST.newM (s : ST kb H mt) (hp : H p = none) (e : Ex H H1) (h1 : H1 p = some o) : ST kb H1 ((p, o) :: mt) :=
  ⟨s.e.trans e, fun q hq => by
    rcases List.mem_cons.mp hq with rfl | hq
    · exact ⟨fresh_back s.e hp, h1⟩
    · exact ⟨(s.m q hq).1, e _ _ (s.m q hq).2⟩, List.pairwise_cons.mpr ⟨fun q hq => (ne_of_none (s.m q hq).2 hp).symm, s.d⟩⟩
theorem ST.set (s : ST kb H ((a, o) :: mt)) : ST kb (upd H a u) ((a, u) :: mt) :=
  ⟨Ex.mut s.e (s.m _ List.mem_cons_self).1, fun q hq => by
    rcases List.mem_cons.mp hq with rfl | hq
    · exact ⟨(s.m (a, o) List.mem_cons_self).1, upd_same⟩
    · exact ⟨(s.m q (List.mem_cons_of_mem _ hq)).1, by rw [upd_ne ((List.pairwise_cons.mp s.d).1 q hq).symm]; exact (s.m q (List.mem_cons_of_mem _ hq)).2⟩, by
    have z := List.pairwise_cons.mp s.d
    exact List.pairwise_cons.mpr ⟨z.1, z.2⟩⟩
theorem ST.perm {mt' : List (Addr × HO)} (s : ST kb H mt) (h : mt.Perm mt') : ST kb H mt' := ⟨s.e, fun p hp => s.m p (h.mem_iff.mpr hp), s.d.perm h fun z => z.symm⟩
theorem ST.set2 {x : Addr × HO} (s : ST kb H (x :: (a, o) :: mt)) : ST kb (upd H a u) (x :: (a, u) :: mt) := ((s.perm (List.Perm.swap ..)).set).perm (List.Perm.swap ..)
theorem ST.set3 {x y : Addr × HO} (s : ST kb H (x :: y :: (a, o) :: mt)) : ST kb (upd H a u) (x :: y :: (a, u) :: mt) :=
  ((s.perm ((List.Perm.cons x (List.Perm.swap ..)).trans (List.Perm.swap ..))).set).perm ((List.Perm.swap ..).trans (List.Perm.cons x (List.Perm.swap ..)))
theorem ST.at1 (s : ST kb H ((a, o) :: mt)) : H a = some o := (s.m (a, o) List.mem_cons_self).2
theorem ST.at2 {x : Addr × HO} (s : ST kb H (x :: (a, o) :: mt)) : H a = some o := (s.m (a, o) (List.mem_cons_of_mem _ List.mem_cons_self)).2
theorem ST.at3 {x y : Addr × HO} (s : ST kb H (x :: y :: (a, o) :: mt)) : H a = some o := (s.m (a, o) (List.mem_cons_of_mem _ (List.mem_cons_of_mem _ List.mem_cons_self))).2
theorem ST.l {K : PySem.W.Frag} {xs : List V} (s : ST kb H mt) (h : kb a = some (.lst xs)) : SqL K H a xs := sq_of (s.e _ _ h)
/-- a mutable thing is laid down: it stays as it is from here on -/
theorem ST.fix (s : ST kb H ((a, o) :: mt)) : ST (upd kb a o) H mt :=
  ⟨fun b w q => by
    by_cases hb : b = a
    · subst hb; rw [upd_same] at q; cases q; exact s.at1
    · rw [upd_ne hb] at q; exact s.e b w q, fun q hq => ⟨by
      rw [upd_ne ((List.pairwise_cons.mp s.d).1 q hq).symm]
      exact (s.m q (List.mem_cons_of_mem _ hq)).1, (s.m q (List.mem_cons_of_mem _ hq)).2⟩, (List.pairwise_cons.mp s.d).2⟩
end
section
variable {K : PySem.W.Frag} {σ : L2.St} {H H' : Hp} {ta tb te tv : TE} {v : V} {D : Ends} {tz : TS}
theorem st_fldv {a C dx : Addr} {fs fs' : List (Str × V)} {f : Str} {kb : Hp} {mt : List (Addr × HO)} (s : ST kb H ((a, .ins C dx fs) :: mt)) (hv : Ev tv σ H v) (ha : Ev ta σ H (.ref a)) (hc : Cls K C) (hn : NoAttr K C f) (hl : fs.length < 1000) (hf : putF f v fs = fs')
    (k : ∀ H1, ST kb H1 ((a, .ins C dx fs') :: mt) → tz D σ H1) : tSeq (sFld K ta tv f) tz D σ H := by
  subst hf
  exact q_fld hv ha s.at1 hc hn hl fun H1 e1 => k _ (s.ext e1).set
theorem st_fldl {a C dx : Addr} {fs : List (Str × V)} {f : Str} {xs : List V} {kb : Hp} {mt : List (Addr × HO)} (s : ST kb H ((a, .ins C dx fs) :: mt)) (hv : EvL tv σ H xs) (ha : Ev ta σ H (.ref a)) (hc : Cls K C) (hn : NoAttr K C f) (hl : fs.length < 1000)
    (k : ∀ p H1, Ex kb (upd kb p (.lst xs)) → ST (upd kb p (.lst xs)) H1 ((a, .ins C dx (putF f (.ref p) fs)) :: mt) → tz D σ H1) : tSeq (sFld K ta tv f) tz D σ H :=
  q_fldL hv ha s.at1 hc hn hl fun p H1 hp e1 h1 => k p _ (s.kb_ex hp) (s.new hp e1 h1).set
theorem st_fldm {a C dx : Addr} {fs : List (Str × V)} {f : Str} {xs : List V} {kb : Hp} {mt : List (Addr × HO)} (s : ST kb H ((a, .ins C dx fs) :: mt)) (hv : EvL tv σ H xs) (ha : Ev ta σ H (.ref a)) (hc : Cls K C) (hn : NoAttr K C f) (hl : fs.length < 1000)
    (k : ∀ p H1, ST kb H1 ((p, .lst xs) :: (a, .ins C dx (putF f (.ref p) fs)) :: mt) → tz D σ H1) : tSeq (sFld K ta tv f) tz D σ H :=
  q_fldL hv ha s.at1 hc hn hl fun p H1 hp e1 h1 => k p _ (s.newM hp e1 h1).set2
/-- xs.insert(0, a new list) -/
def rIns : V → List V → Hp → VK → Prop := fun x vs H Q => ∃ (l : Addr) (xs : List V) (i : Int) (y : V), x = .ref l ∧ vs = [.int i, y] ∧ H l = some (.lst xs) ∧ xs.length < sizeLine ∧ 0 ≤ i ∧ i < 2 ^ 63 ∧ Q .non (upd H l (.lst (xs.take i.toNat ++ [y] ++ xs.drop i.toNat)))
theorem q_ins0L {l : Addr} {xs ys : List V} (hl : H l = some (.lst xs)) (ha : Ev ta σ H (.ref l)) (h : EvL te σ H ys) (hz : xs.length < 100000) (k : ∀ p H1, H p = none → Ex H H1 → H1 p = some (.lst ys) → tz D σ (upd H1 l (.lst (.ref p :: xs)))) :
    tSeq (tDrop (tBM K "list" rIns ta (tCons (tC (.int 0)) (tCons te tNil)))) tz D σ H := ha H (Ex.refl H) _ fun H1 e1 =>
  ⟨Or.inl ⟨rfl, xs, sq_of (e1 l _ hl)⟩, h H1 e1 _ fun p H2 hp e2 h2 => ⟨l, xs, 0, .ref p, rfl, rfl, e2 l _ (e1 l _ hl), sz_lt hz, Int.le_refl 0, by decide, k p H2 (fresh_back e1 hp) (e1.trans e2) h2⟩⟩
end
theorem lk_head {f : Str} {v : V} {fs : List (Str × V)} : List.lookup f ((f, v) :: fs) = some v := by simp [List.lookup]
theorem lk_tail {f g : Str} {v : V} {fs : List (Str × V)} (h : (f == g) = false) : List.lookup f ((g, v) :: fs) = List.lookup f fs := by simp [List.lookup, h]
section
variable {X : Cx} {x : Str} {pos : Pos}
theorem pe_gi {i : Int} (hg : Gl X x) (h : ∃ t, X.mg x = some (.int i t)) (hd : (x == ("__debug__" : Str)) = false := by decide) : PE X (.Name x pos) (tC (.int i)) := by
  obtain ⟨t, h⟩ := h
  exact pe_glob hg h ⟨t, rfl⟩ (hd := hd)
theorem pe_gs {i : Str} (hg : Gl X x) (h : ∃ t, X.mg x = some (.str i t)) (hd : (x == ("__debug__" : Str)) = false := by decide) : PE X (.Name x pos) (tC (.str i)) := by
  obtain ⟨t, h⟩ := h
  exact pe_glob hg h ⟨t, rfl⟩ (hd := hd)
end
section
variable {K : PySem.W.Frag} {σ : L2.St} {H H' : Hp} {ta tb te tv : TE} {v : V} {D : Ends} {tz : TS} {tr : TA} {xs ys vs dvs : List V}
theorem s_ins0L {l : Addr} {xs ys : List V} (hl : H l = some (.lst xs)) (ha : Ev ta σ H (.ref l)) (h : EvL te σ H ys) (hz : xs.length < 100000) (k : ∀ p H1, H p = none → Ex H H1 → H1 p = some (.lst ys) → D.nx σ (upd H1 l (.lst (.ref p :: xs)))) :
    tDrop (tBM K "list" rIns ta (tCons (tC (.int 0)) (tCons te tNil))) D σ H := ha H (Ex.refl H) _ fun H1 e1 =>
  ⟨Or.inl ⟨rfl, xs, sq_of (e1 l _ hl)⟩, h H1 e1 _ fun p H2 hp e2 h2 => ⟨l, xs, 0, .ref p, rfl, rfl, e2 l _ (e1 l _ hl), sz_lt hz, Int.le_refl 0, by decide, k p H2 (fresh_back e1 hp) (e1.trans e2) h2⟩⟩
/-- [z] * n, a list and a list -/
theorem el_rep {z : V} {n : Nat} (ha : Ev ta σ H z) (hb : Ev tb σ H (.int (n : Int))) (hn : n ≤ 100000) : EvL (tOp rRep (tLst (tCons ta tNil)) tb) σ H (List.replicate n z) := fun H1 e Q q =>
  el_lst (ea_cons ha ea_nil) (by show 1 ≤ 100000; decide) H1 e _ fun p H2 hp e2 h2 => hb H2 (e.trans e2) _ fun H3 e3 =>
    ⟨p, (n : Int), [z], rfl, rfl, e3 _ _ h2, by omega, by omega, by show 1 * _ ≤ _; rw [Nat.one_mul, Int.toNat_natCast]; exact sz_of hn, fun r hr => by
      rw [Int.toNat_natCast, rep_flat]
      exact q r _ (fresh_back (e2.trans e3) hr) ((e2.trans e3).trans (Ex.new hr)) upd_same⟩
theorem el_cat (ha : EvL ta σ H xs) (hb : ∀ H1, Ex H H1 → EvL tb σ H1 ys) (hz : xs.length + ys.length ≤ 100000) : EvL (tOp rCat ta tb) σ H (xs ++ ys) := fun H1 e Q q =>
  ha H1 e _ fun p H2 hp e2 h2 => hb H2 (e.trans e2) H2 (Ex.refl H2) _ fun r H3 hr e3 h3 => ⟨p, r, xs, ys, rfl, rfl, e3 _ _ h2, h3, sz_of hz, fun t ht =>
    q t _ (fresh_back (e2.trans e3) ht) ((e2.trans e3).trans (Ex.new ht)) upd_same⟩
theorem el_cat1 {a : Addr} (ha : Ev ta σ H (.ref a)) (hA : H a = some (.lst xs)) (hb : EvL tb σ H ys) (hz : xs.length + ys.length ≤ 100000) : EvL (tOp rCat ta tb) σ H (xs ++ ys) := fun H1 e Q q =>
  ha H1 e _ fun H2 e2 => hb H2 (e.trans e2) _ fun r H3 hr e3 h3 => ⟨a, r, xs, ys, rfl, rfl, ((e.trans e2).trans e3) _ _ hA, h3, sz_of hz, fun t ht =>
    q t _ (fresh_back (e2.trans e3) ht) ((e2.trans e3).trans (Ex.new ht)) upd_same⟩
theorem el_slN {tl th : TO} {lo hi : Option Int} (h : EvL te σ H xs) (h1 : EvO tl σ H lo) (h2 : EvO th σ H hi) : EvL (tSl (rSlL K) te tl th) σ H (cutV xs lo hi) := fun H1 e _ q =>
  h H1 e _ fun a H2 ha e2 hx => h1 H2 (e.trans e2) _ fun H3 e3 => h2 H3 ((e.trans e2).trans e3) _ fun H4 e4 =>
    ⟨a, xs, rfl, sq_of (e4 _ _ (e3 _ _ hx)), fun p hp => q p _ (fresh_back ((e2.trans e3).trans e4) hp) (((e2.trans e3).trans e4).trans (Ex.new hp)) upd_same⟩
/-- a call whose first argument is a new list -/
theorem el_callL {sp : Sp} {E : XK} (h : EvL te σ H xs) (hr : EvA tr σ H vs) (hs : ∀ p H1, Ex H H1 → H1 p = some (.lst xs) → SpL sp (.ref p :: vs ++ dvs) H1 ys) : EvL (tCall sp dvs E (tCons te tr)) σ H ys := fun H1 e Q q =>
  h H1 e _ fun p H2 hp e2 h2 => hr H2 (e.trans e2) _ fun H3 e3 => hs p H3 ((e.trans e2).trans e3) (e3 _ _ h2) H3 (Ex.refl H3) Q (fun r H4 hr e4 h4 => q r H4 (fresh_back (e2.trans e3) hr) ((e2.trans e3).trans e4) h4) E
theorem el_callLL {sp : Sp} {E : XK} {zs : List V} (h : EvL te σ H xs) (hb : ∀ H1, Ex H H1 → EvL tb σ H1 zs) (hr : EvA tr σ H vs) (hs : ∀ p r H1, Ex H H1 → H1 p = some (.lst xs) → H1 r = some (.lst zs) → SpL sp (.ref p :: .ref r :: vs ++ dvs) H1 ys) : EvL (tCall sp dvs E (tCons te (tCons tb tr))) σ H ys := fun H1 e Q q =>
  h H1 e _ fun p H2 hp e2 h2 => hb H2 (e.trans e2) H2 (Ex.refl H2) _ fun r H3 hr' e3 h3 => hr H3 ((e.trans e2).trans e3) _ fun H4 e4 => hs p r H4 (((e.trans e2).trans e3).trans e4) (e4 _ _ (e3 _ _ h2)) (e4 _ _ h3) H4 (Ex.refl H4) Q
    (fun t H5 ht e5 h5 => q t H5 (fresh_back ((e2.trans e3).trans e4) ht) (((e2.trans e3).trans e4).trans e5) h5) E
end

/-! ### further rules of mine -/
section
variable {X : Cx}
theorem PI.or {tg e : Expr} {w1 w2 : TI} (h1 : PI X tg e w1) (h2 : PI X tg e w2) : PI X tg e (fun σ H R => w1 σ H R ∨ w2 σ H R) :=
  ⟨fun pins s σ H R I h => h.elim (fun h => h1.run pins s σ H R I h) (fun h => h2.run pins s σ H R I h)⟩
/-- a < b of data that are alike -/
def rLtD (K : PySem.W.Frag) : R2 := fun x y H Q => ∃ d e, Dp K H x d ∧ Dp K H y e ∧ PySem.W.alike d e = true ∧ d ≠ .none ∧ d.depth ≤ 60 ∧ Q (.bl (PySem.W.dataLt d e)) H
theorem op_ltD (K : PySem.W.Frag) (hu : X.A.units + 64 < cLine) (hK : X.K = K := by rfl) : OpR X (compareOp .Lt) (rLtD K) := by
  subst hK
  intro pins s σ H x y v u Q I rx ry h
  obtain ⟨d, e, hd, he, ha, hn, hdp, q⟩ := h
  obtain ⟨as, r1⟩ := Dp.reads I d x v hd rx
  obtain ⟨bs, r2⟩ := Dp.reads I e y u he ry
  show wpAny _ _ (richCompare .Lt v u) _ _ _
  exact PySem.W.rcLt_alike d e X.A s v u as bs r1 r2 ha hn (by omega) _ _ _ _ ⟨.bl _, H, I, rfl, q⟩
/-- a == b by the own __eq__ of the class of both -/
def rEqOwn (C : Addr) (sp : Sp) (E : XK) : R2 := fun x y H Q => ∃ a b dx dy fs gs, x = .ref a ∧ y = .ref b ∧ H a = some (.ins C dx fs) ∧ H b = some (.ins C dy gs) ∧ sp [.ref a, .ref b] H (fun v H' => (∃ k, v = .bl k) ∧ Q v H') E
theorem op_eqOwn {CX : CXT} {C f : Addr} {fd : FuncData} {ps : List Str} {sp : Sp} {E : XK} {n : Nat} (F : FnOk X.prog X.w X.K X.mg X.base CX n f fd ps sp) (hr : Room n X.A) (M : Meth X.K C "__eq__" f) (hb : Binds X.K fd ps []) (hx : Passes CX X E) :
    OpR X (compareOp .Eq) (rEqOwn C sp E) := by
  intro pins s σ H x y v u Q I rx ry h
  obtain ⟨a, b, dx, dy, fs, gs, rfl, rfl, ha, hb', hsp⟩ := h
  cases rx
  cases ry
  obtain ⟨mA, J, _⟩ := ins_get I.hok ha
  obtain ⟨mB, J', _⟩ := ins_get I.hok hb'
  obtain ⟨od, J, _⟩ := J.look
  obtain ⟨od', J', _⟩ := J'.look
  obtain ⟨m, hF⟩ := I.fr
  show wpAny _ _ (richCompare .Eq _ _) _ _ _
  refine PySem.W.cmp_K (op := .Eq) (tb := .ref C) hr.units0 hF I.ok.mod.kin J J'.type (by simp [PySem.W.notFirst]) M.at_ M.fn ?_
  have hl := F.len _ _ _ _ hsp
  have r2 : Vals [V.ref a, V.ref b] [Value.ref a, Value.ref b] := .cons rfl (.cons rfl .nil)
  refine wpAny_call (codeAny_mono (F.run X.A X.stack s H ⟨[.ref a, .ref b], []⟩ [.ref a, .ref b] [.ref a, .ref b] _ E hr I.env0 (by
    have := hb s [.ref a, .ref b] I.kIn (by simpa using hl)
    simpa using this) r2 hsp) fun r s' hq => ?_)
  cases r with
  | error e => exact hx pins σ H s e s' I hq
  | ok fl =>
    cases fl with
    | ret w =>
      obtain ⟨z, H', I', rz, ⟨k, ez⟩, q⟩ := I.after hq
      subst ez
      cases rz
      exact ⟨.bl k, H', I', rfl, q⟩
    | next => exact False.elim hq
    | brk => exact False.elim hq
    | cont => exact False.elim hq
theorem kit_self {K : PySem.W.Frag} {C : Addr} : PySem.W.kitOne K (.ref C) (.ref C) = some true := by
  unfold PySem.W.kitOne
  rw [if_pos (by simp)]
theorem tup0 {pos : Pos} {c : Nat} : PE X (.Tuple [] c pos) (tTup tNil) := pe_tup pa_nil
end
section
variable (K : PySem.W.Frag) {X : Cx}
def rAllK (K : PySem.W.Frag) : List V → Hp → VK → Prop := rAll K
theorem allK (hc : X.calm = true) (hK : X.K = K := by rfl) : CallR X (.builtin "all") (rAll K) := by subst hK; exact cr_all hc
end
section
variable {K : PySem.W.Frag} {σ : L2.St} {H H' : Hp} {ta tb te tv : TE} {t u : TT} {x y z v : V} {D : Ends} {tz tu : TS}
/-- a value that is a text or none -/
def isS : V → Bool | .str _ => true | _ => false
def KnS (K : PySem.W.Frag) (H : Hp) (x : V) : Prop := ∃ t, TyX K H x t ∧ PySem.W.kitOne K t (.type "str") = some (isS x)
theorem kns_str {s : Str} : KnS K H (.str s) := ⟨_, .base (.str s), kit_ty (r := true) (by decide +kernel)⟩
theorem kns_int {i : Int} : KnS K H (.int i) := ⟨_, .base (.int i), kit_ty (r := false) (by decide +kernel)⟩
theorem ev_isi {c : V} {tt u : Value} {b : Bool} (ha : Ev ta σ H x) (hb : Ev tb σ H c) (k : ClsV c u) (ht : ∀ H1, Ex H H1 → TyX K H1 x tt) (e : PySem.W.kitOne K tt u = some b) : Ev (tCB (rIsi K) (tCons ta (tCons tb tNil))) σ H (.bl b) :=
  fun H1 e1 Q q => ha H1 e1 _ fun H2 e2 => hb H2 (e1.trans e2) _ fun H3 e3 => ⟨x, c, tt, u, b, rfl, k, ht H3 ((e1.trans e2).trans e3), e, q H3 (e2.trans e3)⟩
theorem tyx_ex {tt : Value} (h : TyX K H x tt) (e : Ex H H') : TyX K H' x tt := by
  cases h with
  | base b =>
    cases b with
    | non => exact .base .non
    | bl x => exact .base (.bl x)
    | int i => exact .base (.int i)
    | str x => exact .base (.str x)
    | flt x => exact .base (.flt x)
    | lst h => exact .base (.lst (e _ _ h))
    | frz h => exact .base (.frz (e _ _ h))
    | tup h => exact .base (.tup (e _ _ h))
    | dK h => exact .base (.dK (e _ _ h))
    | dT h => exact .base (.dT (e _ _ h))
    | ins h a b c d f => exact .base (.ins (e _ _ h) a b c d f)
  | byt b => exact .byt b
  | set h => exact .set (e _ _ h)
  | kList h c => exact .kList h c
  | kTuple h c => exact .kTuple h c
  | kDict h c => exact .kDict h c
  | fTuple h => exact .fTuple (e _ _ h)
  | fDict h => exact .fDict (e _ _ h)
theorem kns_ex (h : KnS K H x) (e : Ex H H') : KnS K H' x := let ⟨t, h1, h2⟩ := h; ⟨t, tyx_ex h1 e, h2⟩
theorem kni_ex (h : KnI K H x) (e : Ex H H') : KnI K H' x := let ⟨t, h1, h2⟩ := h; ⟨t, tyx_ex h1 e, h2⟩
theorem ev_chain {r r' : R2} {k : Bool} {w : V} {tc : TE} {b2 : Bool} (ha : Ev ta σ H x) (hb : Ev tb σ H y) (hr : RV r x y H (.bl k)) (hc : k = true → Ev tc σ H w) (hr' : k = true → RV r' y w H (.bl b2)) : Ev (tChain r r' ta tb tc) σ H (.bl (k && b2)) := fun H1 e Q q =>
  ha H1 e _ fun H2 e2 => hb H2 (e.trans e2) _ fun H3 e3 => hr H3 ((e.trans e2).trans e3) _ fun H4 e4 => ⟨k, rfl, by
    cases k with
    | true =>
      rw [if_pos rfl]
      exact hc rfl H4 (((e.trans e2).trans e3).trans e4) _ fun H5 e5 => hr' rfl H5 ((((e.trans e2).trans e3).trans e4).trans e5) Q fun H6 e6 => q H6 ((((e2.trans e3).trans e4).trans e5).trans e6)
    | false =>
      rw [if_neg Bool.false_ne_true]
      exact q H4 ((e2.trans e3).trans e4)⟩
theorem ev_lenS {s : Str} (ha : Ev ta σ H (.str s)) (hz : s.length ≤ 100000) : Ev (tCB (fun xs H Q => ∃ z, xs = [.str z] ∧ z.length ≤ sizeLine ∧ Q (.int z.length) H) (tCons ta tNil)) σ H (.int (s.length : Int)) := fun H1 e Q q =>
  ha H1 e _ fun H2 e2 => ⟨s, rfl, sz_of hz, q H2 e2⟩
theorem ev_m1 {r : V → List V → Hp → VK → Prop} {s : Str} {w : V} (ha : Ev ta σ H (.str s)) (hb : Ev tb σ H y) (hr : ∀ H1, Ex H H1 → ∀ Q : VK, (∀ H2, Ex H1 H2 → Q w H2) → r (.str s) [y] H1 Q) : Ev (tM1 r ta tb) σ H w := fun H1 e Q q =>
  ha H1 e _ fun H2 e2 => ⟨⟨s, rfl⟩, hb H2 (e.trans e2) _ fun H3 e3 => hr H3 ((e.trans e2).trans e3) Q fun H4 e4 => q H4 ((e2.trans e3).trans e4)⟩
theorem ev_slS {tl th : TO} {s : Str} {lo hi : Option Int} (h : Ev te σ H (.str s)) (h1 : EvO tl σ H lo) (h2 : EvO th σ H hi) (hz : s.length ≤ 100000) : Ev (tSl rSlS te tl th) σ H (.str (cutS s lo hi)) := fun H1 e _ q =>
  h H1 e _ fun H2 e2 => h1 H2 (e.trans e2) _ fun H3 e3 => h2 H3 ((e.trans e2).trans e3) _ fun H4 e4 => ⟨s, rfl, sz_of hz, q H4 ((e2.trans e3).trans e4)⟩
theorem rv_neS {a b : Str} : RV rNe (.str a) (.str b) H (.bl (!decide (a = b))) := fun H1 _ _ q => ⟨rfl, by
  have : decide (V.str a = V.str b) = decide (a = b) := by
    by_cases h : a = b
    · rw [h, decide_eq_true rfl, decide_eq_true rfl]
    · rw [decide_eq_false h, decide_eq_false (fun z => h (V.str.inj z))]
  rw [this]
  exact q H1 (Ex.refl H1)⟩
theorem rv_eqS {a b : Str} : RV rEq (.str a) (.str b) H (.bl (decide (a = b))) := fun H1 _ _ q => ⟨rfl, by
  have : decide (V.str a = V.str b) = decide (a = b) := by
    by_cases h : a = b
    · rw [h, decide_eq_true rfl, decide_eq_true rfl]
    · rw [decide_eq_false h, decide_eq_false (fun z => h (V.str.inj z))]
  rw [this]
  exact q H1 (Ex.refl H1)⟩
end
section
variable {X : Cx} {CX : CXT} {k : Nat} {f C : Addr} {fd : FuncData} {ps : List Str} {sp : Sp} {E : XK} {x : Str} {p pos : Pos} {e : Expr} {es : List Expr} {t : TA} {dvs : List V} {te : TE}
theorem pe_callD (F : FnOk X.prog X.w X.K X.mg X.base CX k f fd ps sp) (hr : Room k X.A) (hg : Gl X x) (hm : X.mg x = some (.ref f)) (hk : PySem.W.keepIn X.K (.ref f) = true) (hbd : ∃ ds, Vals dvs ds ∧ Binds X.K fd ps ds) (hx : Passes CX X E)
    (ha : PA X (e :: es) t) (hdb : (x == ("__debug__" : Str)) = false := by decide) (he : starEach (e :: es) X.env = (false, eval e X.env) :: starEach es X.env := by rfl) (hpl : (backTo pos (starEach es X.env)).any (·.1) = false := by rfl) :
    PE X (.Call (.Name x p) (e :: es) [] pos) (tCall sp dvs E t) := by
  obtain ⟨ds, hd, hb⟩ := hbd
  exact pe_call F hr hg hm hk hb hd hx ha hdb he hpl
theorem pe_makeD (M : Mk X.K C f) (F : FnOk X.prog X.w X.K X.mg X.base CX k f fd ps sp) (hr : Room (k + 1) X.A) (hg : Gl X x) (hm : X.mg x = some (.ref C)) (hbd : ∃ ds, Vals dvs ds ∧ Binds X.K fd ps ds) (hx : Passes CX X E)
    (ha : PA X (e :: es) t) (hdb : (x == ("__debug__" : Str)) = false := by decide) (he : starEach (e :: es) X.env = (false, eval e X.env) :: starEach es X.env := by rfl) (hpl : (backTo pos (starEach es X.env)).any (·.1) = false := by rfl) :
    PE X (.Call (.Name x p) (e :: es) [] pos) (tMake C sp dvs E t) := by
  obtain ⟨ds, hd, hb⟩ := hbd
  exact pe_make M F hr hg hm hb hd hx ha hdb he hpl
theorem starK (K : PySem.W.Frag) (he : PE X e te) (hr : PA X es t) (hK : X.K = K := by rfl) (hs : starEach (.Starred e p :: es) X.env = (true, eval e X.env) :: starEach es X.env := by rfl) : PA X (.Starred e p :: es) (StX.tStar K te t) := by
  subst hK
  exact StX.pa_star he hr hs
end
section
variable {K : PySem.W.Frag} {σ : L2.St} {H H' : Hp} {ta tb te tv : TE} {t u : TT} {x y z v : V} {D : Ends} {tz tu : TS} {tr : TA}
theorem ea_star {a : Addr} {xs vs : List V} (h : Ev te σ H (.ref a)) (hx : SqT K H a xs) (hr : EvA tr σ H vs) : EvA (StX.tStar K te tr) σ H (xs ++ vs) := fun H1 e _ q =>
  h H1 e _ fun H2 e2 => ⟨a, xs, rfl, .inl (ex_t (e.trans e2) hx), hr H2 (e.trans e2) _ fun H3 e3 => q H3 (e2.trans e3)⟩
theorem et_truth {b : Bool} (h : Ev te σ H x) (ht : ∀ H1, Ex H H1 → TruV K x H1 b) : EvT (fun σ H Q => te σ H fun x H' => ∃ k, TruV K x H' k ∧ Q k H') σ H b := fun H1 e _ q =>
  h H1 e _ fun H2 e2 => ⟨b, ht H2 (e.trans e2), q H2 e2⟩
theorem ev_orT {b : Bool} (h : Ev ta σ H x) (ht : ∀ H1, Ex H H1 → TruV K x H1 b) (hb : b = false → Ev tb σ H y) (hv : v = if b = true then x else y) : Ev (tOrT K ta tb) σ H v := fun H1 e Q q =>
  h H1 e _ fun H2 e2 => ⟨b, ht H2 (e.trans e2), by
    subst hv
    cases b with
    | true =>
      rw [if_pos rfl]
      exact q H2 e2
    | false =>
      rw [if_neg Bool.false_ne_true]
      exact hb rfl H2 (e.trans e2) Q fun H3 e3 => q H3 (e2.trans e3)⟩
/-- the parts of an f-string, by their texts -/
inductive EvJ (σ : L2.St) (H : Hp) : List TE → List Str → Prop where
  | nil : EvJ σ H [] []
  | cons {t : TE} {ts : List TE} {s : Str} {ss : List Str} (h : Ev t σ H (.str s)) (r : EvJ σ H ts ss) : EvJ σ H (t :: ts) (s :: ss)
theorem ev_tJs {ts : List TE} {ss : List Str} (h : EvJ σ H ts ss) : ∀ (acc : Str) (H1 : Hp), Ex H H1 → acc.length + (ss.map (·.length)).sum ≤ 100000 → ∀ Q : Str → Hp → Prop, (∀ H2, Ex H1 H2 → Q (ss.foldl (· ++ ·) acc) H2) → tJs ts acc σ H1 Q := by
  induction h with
  | nil => intro acc H1 e hz Q q; exact q H1 (Ex.refl _)
  | @cons t ts s ss h r ih =>
    intro acc H1 e hz Q q
    have hl : (acc ++ s).length = acc.length + s.length := by
      show (acc.cps ++ s.cps).size = _
      rw [Array.size_append]
      rfl
    rw [List.map_cons, List.sum_cons] at hz
    exact h H1 e _ fun H2 e2 => ⟨s, rfl, sz_of (by omega), ih (acc ++ s) H2 (e.trans e2) (by omega) Q fun H3 e3 => q H3 (e2.trans e3)⟩
theorem ev_joined {ts : List TE} {ss : List Str} (h : EvJ σ H ts ss) (hz : (ss.map (·.length)).sum ≤ 90000) : Ev (fun σ H Q => tJs ts Str.empty σ H fun out H1 => Q (.str out) H1) σ H (.str (ss.foldl (· ++ ·) Str.empty)) := fun H1 e Q q =>
  ev_tJs h Str.empty H1 e (by show (#[] : Array Nat).size + _ ≤ _; simp only [List.size_toArray, List.length_nil]; omega) _ q
theorem ev_fmtS {s : Str} (h : Ev te σ H (.str s)) (hz : s.length ≤ 100000) : Ev (tFmt te) σ H (.str s) := fun H1 e Q q => h H1 e _ fun H2 e2 => .inl ⟨s, rfl, sz_of hz, q H2 e2⟩
theorem ev_fmtI {i : Int} (h : Ev te σ H (.int i)) (hz : i.natAbs.log2 < 1920) : Ev (tFmt te) σ H (.str (toString i)) := fun H1 e Q q => h H1 e _ fun H2 e2 => .inr ⟨i, rfl, hz, q H2 e2⟩
theorem ev_strI {i : Int} (h : Ev te σ H (.int i)) (hz : i.natAbs.log2 < 1920) : Ev (tCB (fun xs H Q => ∃ i : Int, xs = [.int i] ∧ i.natAbs.log2 < 1920 ∧ Q (.str (toString i)) H) (tCons te tNil)) σ H (.str (toString i)) := fun H1 e Q q =>
  h H1 e _ fun H2 e2 => ⟨i, rfl, hz, q H2 e2⟩
theorem int_len {a : Int} (h : a.natAbs.log2 < 1920) : (Str.ofString (toString a)).length ≤ 1921 := by
  have e := int_text_length_le (k := 1920) (by decide) h
  rw [PySem.ofString_length]
  omega
end
section
variable {K : PySem.W.Frag} {σ : L2.St} {H : Hp} {ta tv : TE} {D : Ends} {tz : TS}
theorem q_fldU {a C dx : Addr} {fs : List (Str × V)} {f : Str} {xs : List V} (hv : EvU tv σ H xs) (ha : Ev ta σ H (.ref a)) (ho : H a = some (.ins C dx fs)) (hc : Cls K C) (hn : NoAttr K C f) (hl : fs.length < 1000)
    (k : ∀ p H1, H p = none → Ex H H1 → H1 p = some (.tup xs) → tz D σ (upd H1 a (.ins C dx (putF f (.ref p) fs)))) : tSeq (sFld K ta tv f) tz D σ H :=
  hv H (Ex.refl H) _ fun p H1 hp e1 h1 => ha H1 e1 _ fun H2 e2 => ⟨a, C, dx, fs, rfl, e2 _ _ (e1 _ _ ho), hc, hn, hl, k p H2 hp (e1.trans e2) (e2 _ _ h1)⟩
end

/-! ### zip of three lists, walked -/
structure Z3 (z TI TO i1 i2 i3 a b c : Addr) : Prop where
  S : PySem.ZipSep3 z TI TO i1 i2 i3 [i1, a] [i2, b] [i3, c]
  ha : a ≠ i1
  hb : b ≠ i2
  hc : c ≠ i3
def Itz3 (K : PySem.W.Frag) (a b c : Addr) : It :=
  ⟨fun i H => ∃ (xs ys zs : List V) (x y u : V), SqL K H a xs ∧ SqL K H b ys ∧ SqL K H c zs ∧ xs[i]? = some x ∧ ys[i]? = some y ∧ zs[i]? = some u,
    fun i H v H' => ∃ T x y u, v = .ref T ∧ H T = none ∧ H' = upd H T (.tup [x, y, u]) ∧ (∀ xs, SqL K H a xs → xs[i]? = some x) ∧ (∀ ys, SqL K H b ys → ys[i]? = some y) ∧ ∀ zs, SqL K H c zs → zs[i]? = some u,
    fun i H => ∃ xs ys zs : List V, SqL K H a xs ∧ SqL K H b ys ∧ SqL K H c zs ∧ i ≤ xs.length ∧ i ≤ ys.length ∧ i ≤ zs.length ∧ (i = xs.length ∨ i = ys.length ∨ i = zs.length)⟩
theorem turn_zip3 {P : Program} {w : World} {K : PySem.W.Frag} {elts : List Expr} {kk : Nat} {tpos : Pos} {a b c z TI TO i1 i2 i3 : Addr} (D : Z3 z TI TO i1 i2 i3 a b c) :
    Turn P w K (.Tuple elts kk tpos) (Itz3 K a b c) [z, TI, TO, i1, i2, i3] z (fun i h => IsZip h z TI TO .none ∧ IsTupOf3 h TI (.ref i1) (.ref i2) (.ref i3) ∧ (∃ x y u, IsTupOf3 h TO x y u) ∧ h.IsListIter i1 a i ∧ h.IsListIter i2 b i ∧ h.IsListIter i3 c i) where
  mem := by simp
  obj := fun i h st d hd => by
    obtain ⟨hz, hTI, ⟨x, y, u, hTO⟩, ⟨o1, e1, _, d1⟩, ⟨o2, e2, _, d2⟩, ⟨o3, e3, _, d3⟩⟩ := st
    have e' : d = z ∨ d = TI ∨ d = TO ∨ d = i1 ∨ d = i2 ∨ d = i3 := by simpa using hd
    rcases e' with q | q | q | q | q | q
    · rw [q]; exact ⟨_, hz, fun v q => nomatch q⟩
    · rw [q]; exact ⟨_, hTI, fun v q => nomatch q⟩
    · rw [q]; exact ⟨_, hTO, fun v q => nomatch q⟩
    · rw [q]; exact ⟨o1, e1, fun v q => by rw [d1] at q; cases q⟩
    · rw [q]; exact ⟨o2, e2, fun v q => by rw [d2] at q; cases q⟩
    · rw [q]; exact ⟨o3, e3, fun v q => by rw [d3] at q; cases q⟩
  keep := fun i h h' st k => by
    obtain ⟨hz, hTI, ⟨x, y, u, hTO⟩, h1, h2, h3⟩ := st
    exact ⟨k z (by simp) _ hz, k TI (by simp) _ hTI, ⟨x, y, u, k TO (by simp) _ hTO⟩, h1.at fun o q => k i1 (by simp) o q, h2.at fun o q => k i2 (by simp) o q, h3.at fun o q => k i3 (by simp) o q⟩
  item := by
    intro X hP hw hK hc i pins s σ H E I hf st hg
    subst hP hw hK
    obtain ⟨hz, hTI, ⟨x0, y0, u0, hTO⟩, h1, h2, h3⟩ := st
    obtain ⟨xs, ys, zs, x, y, u, hqx, hqy, hqz, hx, hy, hu⟩ := hg
    obtain ⟨its, rv, p, _⟩ := I.list hqx
    obtain ⟨its2, rv2, p2, _⟩ := I.list hqy
    obtain ⟨its3, rv3, p3, _⟩ := I.list hqz
    obtain ⟨w1, hw1, rw1⟩ := rv.get hx
    obtain ⟨w2, hw2, rw2⟩ := rv2.get hy
    obtain ⟨w3, hw3, rw3⟩ := rv3.get hu
    have hzl : z < s.heap.objs.size := Heap.lt_size hz
    have hh : X.A.handled = none := I.ok.hd hc
    have q1 : i < its.toArray.size := by have := (List.getElem?_eq_some_iff.mp hw1).1; simpa using this
    have q2 : i < its2.toArray.size := by have := (List.getElem?_eq_some_iff.mp hw2).1; simpa using this
    have q3 : i < its3.toArray.size := by have := (List.getElem?_eq_some_iff.mp hw3).1; simpa using this
    refine wpAny_pyNext_zipD3_item D.S (Draws.list (A := X.A.in1) hh i1 a D.ha its.toArray) (Draws.list (A := X.A.in1) hh i2 b D.hb its2.toArray) (Draws.list (A := X.A.in1) hh i3 c D.hc its3.toArray) hz hTI hTO ⟨h1, p.isList⟩ ⟨h2, p2.isList⟩ ⟨h3, p3.isList⟩ q1 q2 q3
      fun x1 x2 x3 h' tk e1 e2 e3 z' TO' s1 s2 s3 hT hsz hk => ?_
    have f1 : x1 = w1 := by have : its.toArray[i]? = some x1 := e1; simp only [List.getElem?_toArray] at this; rw [hw1] at this; exact (Option.some.inj this).symm
    have f2 : x2 = w2 := by have : its2.toArray[i]? = some x2 := e2; simp only [List.getElem?_toArray] at this; rw [hw2] at this; exact (Option.some.inj this).symm
    have f3 : x3 = w3 := by have : its3.toArray[i]? = some x3 := e3; simp only [List.getElem?_toArray] at this; rw [hw3] at this; exact (Option.some.inj this).symm
    subst f1 f2 f3
    refine ⟨_, rfl, wpAny_letOwnedTupleGo_zip (s := { s with heap := h', toks := tk }) z' fun h'' z'' sb => ?_⟩
    have hT2 : h''.get? s.heap.objs.size = some { cls := .type "tuple", data := .seq #[x1, x2, x3] } := (sb.2 _ (Nat.ne_of_gt hzl)).trans hT
    have new : ObjOk X.prog X.w (upd H s.heap.objs.size (.tup [x, y, u])) h'' s.heap.objs.size (.tup [x, y, u]) :=
      ⟨by show 3 ≤ sizeLine; decide, [x1, x2, x3], .cons rw1 (.cons rw2 (.cons rw3 .nil)), ⟨_, hT2, rfl, _, rfl⟩⟩
    have I1 : Inv X pins σ (upd H s.heap.objs.size (.tup [x, y, u])) { s with heap := h'', toks := tk } :=
      I.turnedNew (t' := tk) (ch := [z, TI, TO, i1, i2, i3]) (fun d o hb q => (sb.2 d (fun q' => hb (by simp [q']))).trans (hk d o (fun q' => hb (by simp [q'])) (fun q' => hb (by simp [q'])) (fun q' => hb (by simp [q'])) (fun q' => hb (by simp [q'])) (fun q' => hb (by simp [q'])) q)) hf (Nat.le_refl _) new
    refine ⟨.ref s.heap.objs.size, _, I1, rfl, ⟨_, x, y, u, rfl, I.hok.fresh (Nat.le_refl _), rfl, fun l hl => by rw [I.list_inj hl hqx]; exact hx, fun l hl => by rw [I.list_inj hl hqy]; exact hy, fun l hl => by rw [I.list_inj hl hqz]; exact hu⟩, ⟨z'', ?_, ⟨x1, x2, x3, ?_⟩, ?_, ?_, ?_⟩, fun d hcm => ?_⟩
    · exact (sb.2 _ D.S.TIz).trans (hk _ _ D.S.TIz D.S.TITO D.S.TIi1 D.S.TIi2 D.S.TIi3 hTI)
    · exact (sb.2 _ D.S.TOz).trans TO'
    · exact s1.1.at fun o q => (sb.2 _ (fun e => D.S.zi1 e.symm)).trans q
    · exact s2.1.at fun o q => (sb.2 _ (fun e => D.S.zi2 e.symm)).trans q
    · exact s3.1.at fun o q => (sb.2 _ (fun e => D.S.zi3 e.symm)).trans q
    · have hlt : d < s.heap.objs.size := by
        have e' : d = z ∨ d = TI ∨ d = TO ∨ d = i1 ∨ d = i2 ∨ d = i3 := by simpa using hcm
        rcases e' with q | q | q | q | q | q
        · rw [q]; exact hzl
        · rw [q]; exact Heap.lt_size hTI
        · rw [q]; exact Heap.lt_size hTO
        · rw [q]; obtain ⟨_, e1, _⟩ := h1; exact Heap.lt_size e1
        · rw [q]; obtain ⟨_, e2, _⟩ := h2; exact Heap.lt_size e2
        · rw [q]; obtain ⟨_, e3, _⟩ := h3; exact Heap.lt_size e3
      rw [upd_ne (Nat.ne_of_lt hlt)]
      exact (hf d hcm).1
  done := by
    intro X hP hw hK hc i pins s σ H E I hf st hg
    subst hP hw hK
    obtain ⟨hz, hTI, ⟨x0, y0, u0, hTO⟩, h1, h2, h3⟩ := st
    obtain ⟨xs, ys, zs, hqx, hqy, hqz, l1, l2, l3, hend⟩ := hg
    obtain ⟨its, rv, p, _⟩ := I.list hqx
    obtain ⟨its2, rv2, p2, _⟩ := I.list hqy
    obtain ⟨its3, rv3, p3, _⟩ := I.list hqz
    have hh : X.A.handled = none := I.ok.hd hc
    have m1 : its.toArray.size = xs.length := by rw [rv.length]; simp
    have m2 : its2.toArray.size = ys.length := by rw [rv2.length]; simp
    have m3 : its3.toArray.size = zs.length := by rw [rv3.length]; simp
    exact wpAny_pyNext_zipD3_end D.S (Draws.list (A := X.A.in1) hh i1 a D.ha its.toArray) (Draws.list (A := X.A.in1) hh i2 b D.hb its2.toArray) (Draws.list (A := X.A.in1) hh i3 c D.hc its3.toArray) hz hTI hTO ⟨h1, p.isList⟩ ⟨h2, p2.isList⟩ ⟨h3, p3.isList⟩
      (by omega) (by omega) (by omega) (by omega) fun h' tk hk => ⟨rfl, I.turnedL (t' := tk) (ch := [z, TI, TO, i1, i2, i3]) (fun d o hb q =>
      hk d o (fun q' => hb (by simp [q'])) (fun q' => hb (by simp [q'])) (fun q' => hb (by simp [q'])) (fun q' => hb (by simp [q'])) (fun q' => hb (by simp [q'])) q) hf⟩
  self := fun A i s Q E st h => wpAny_pyIter_zip st.1 h
def iZip3 (K : PySem.W.Frag) (ta : TA) : TI := fun σ H R => ta σ H fun vs H1 => ∃ a b c xs ys zs, vs = [.ref a, .ref b, .ref c] ∧ SqL K H1 a xs ∧ SqL K H1 b ys ∧ SqL K H1 c zs ∧ R (Itz3 K a b c) H1
theorem pi_zip3 {X : Cx} {e e2 e3 : Expr} {ta : TA} {p pos tpos : Pos} {elts : List Expr} {kk : Nat} (hg : Gl X "zip") (hm : X.mg "zip" = none) (ha : PA X [e, e2, e3] ta)
    (hs : starEach [e, e2, e3] X.env = (false, eval e X.env) :: starEach [e2, e3] X.env := by rfl) (hpl : (backTo pos (starEach [e2, e3] X.env)).any (·.1) = false := by rfl) :
    PI X (.Tuple elts kk tpos) (.Call (.Name "zip" p) [e, e2, e3] [] pos) (iZip3 X.K ta) := by
  refine ⟨fun pins s σ H R I h => ?_⟩
  refine Call_ (ld_blt I hg hm PyProof.Rows.boot_zip (PyProof.Rows.callWith_type1 (thn (ha.run pos pins s σ H _ I h) fun us s1 ⟨vs, H1, I1, r1, q1⟩ => ?_) hs hpl))
  obtain ⟨a, b, c, xs, ys, zs, ex, hqx, hqy, hqz, q⟩ := q1
  subst ex
  cases r1 with
  | cons r rr =>
    cases rr with
    | cons r' rr =>
      cases rr with
      | cons r'' rr =>
        cases rr
        cases r
        cases r'
        cases r''
        obtain ⟨its, rv, p1, _⟩ := I1.list hqx
        obtain ⟨its2, rv2, p2, _⟩ := I1.list hqy
        obtain ⟨its3, rv3, p3, _⟩ := I1.list hqz
        have la : a < s1.heap.objs.size := p1.lt
        have lb : b < s1.heap.objs.size := p2.lt
        have lc : c < s1.heap.objs.size := p3.lt
        refine zip_begins3 (begins_list a its.toArray) (begins_list b its2.toArray) (begins_list c its3.toArray) p1.isList p2.isList p3.isList fun h' hz hTI hTO h1 h2 h3 hsz hk => wpAny_pyIter_zip hz ?_
        have I2 : Inv X pins σ H1 { s1 with heap := h' } := I1.kept (t' := s1.toks) hk
        have ap : Z3 (s1.heap.objs.size + 5) (s1.heap.objs.size + 3) (s1.heap.objs.size + 4) s1.heap.objs.size (s1.heap.objs.size + 1) (s1.heap.objs.size + 2) a b c :=
          ⟨zip_sep3 (fun d hd => by rcases List.mem_singleton.mp hd with rfl; exact la) (fun d hd => by rcases List.mem_singleton.mp hd with rfl; exact lb) (fun d hd => by rcases List.mem_singleton.mp hd with rfl; exact lc),
            Nat.ne_of_lt la, Nat.ne_of_lt (Nat.lt_succ_of_lt lb), Nat.ne_of_lt (Nat.lt_succ_of_lt (Nat.lt_succ_of_lt lc))⟩
        refine ⟨s1.heap.objs.size + 5, [s1.heap.objs.size + 5, s1.heap.objs.size + 3, s1.heap.objs.size + 4, s1.heap.objs.size, s1.heap.objs.size + 1, s1.heap.objs.size + 2], _, _, H1, rfl, I2, turn_zip3 ap,
          ⟨hz, hTI, ⟨_, _, _, hTO⟩, ⟨_, h1, rfl, rfl⟩, ⟨_, h2, rfl, rfl⟩, ⟨_, h3, rfl, rfl⟩⟩, fun d hcm => ?_, q⟩
        have e' : d = s1.heap.objs.size + 5 ∨ d = s1.heap.objs.size + 3 ∨ d = s1.heap.objs.size + 4 ∨ d = s1.heap.objs.size ∨ d = s1.heap.objs.size + 1 ∨ d = s1.heap.objs.size + 2 := by simpa using hcm
        have hle : s1.heap.objs.size ≤ d := by
          rcases e' with z | z | z | z | z | z
          · rw [z]; exact Nat.le_add_right _ _
          · rw [z]; exact Nat.le_add_right _ _
          · rw [z]; exact Nat.le_add_right _ _
          · rw [z]; exact Nat.le_refl _
          · rw [z]; exact Nat.le_add_right _ _
          · rw [z]; exact Nat.le_add_right _ _
        exact I1.fpOk hle (I1.hok.fresh hle)
def YTrip (xs ys zs : Nat → Option V) : Nat → Hp → V → Hp → Prop := fun i H v H' => ∃ T x y u, v = .ref T ∧ H T = none ∧ H' = upd H T (.tup [x, y, u]) ∧ xs i = some x ∧ ys i = some y ∧ zs i = some u
theorem walk_zip3 {K : PySem.W.Frag} {a b c : Addr} {xs ys zs : List V} {n : Nat} (h1 : xs.length = n) (h2 : ys.length = n) (h3 : zs.length = n) :
    Walk (Itz3 K a b c) n (fun H => SqL K H a xs ∧ SqL K H b ys ∧ SqL K H c zs) (YTrip (fun i => xs[i]?) (fun i => ys[i]?) (fun i => zs[i]?)) := by
  refine ⟨fun i _ hi q => ?_, fun _ q => ⟨xs, ys, zs, q.1, q.2.1, q.2.2, by omega, by omega, by omega, .inl h1.symm⟩, fun i H v H' _ q y => ?_⟩
  · exact ⟨xs, ys, zs, xs[i]'(by omega), ys[i]'(by omega), zs[i]'(by omega), q.1, q.2.1, q.2.2, List.getElem?_eq_getElem _, List.getElem?_eq_getElem _, List.getElem?_eq_getElem _⟩
  · obtain ⟨T, x, z, u, h1, h2, h3, h4, h5, h6⟩ := y
    exact ⟨T, x, z, u, h1, h2, h3, h4 xs q.1, h5 ys q.2.1, h6 zs q.2.2⟩

/-! ### texts, sign by sign -/
abbrev sg (s : Str) : List Nat := s.cps.toList
theorem str_ext {a b : Str} (h : sg a = sg b) : a = b := by
  cases a; cases b
  exact congrArg Str.mk (Array.ext' h)
theorem sg_app (a b : Str) : sg (a ++ b) = sg a ++ sg b := PySem.W.KAf.app_list a b
theorem sg_len (s : Str) : (sg s).length = s.length := Array.length_toList
theorem len_app (a b : Str) : (a ++ b).length = a.length + b.length := by
  rw [← sg_len, sg_app, List.length_append, sg_len, sg_len]
theorem ends0 (s : Str) (c : Nat) : Txt.endswith (s ++ ⟨#[c]⟩) "0" = decide (c = 48) := by
  have h0 : ("0" : Str).length = 1 := by decide +kernel
  rw [PySem.W.KAf.ends_right (by rw [h0]; show 1 ≤ 1; decide)]
  unfold Txt.endswith
  rw [StrLaws.subAt_eq, h0]
  show (decide (0 + 1 ≤ 1) && ([c].take 1 == ("0" : Str).cps.toList)) = _
  rw [show ("0" : Str).cps.toList = [48] by decide +kernel]
  by_cases h : c = 48
  · subst h; decide
  · rw [decide_eq_false h]
    simp [h]
theorem sg_cutTo (s : Str) (k : Nat) : sg (cutS s none (some (k : Int))) = (sg s).take k := by
  show (List.toArray _).toList = _
  rw [show HT.sIx s.length 0 none = 0 from rfl, HT.sIx_nat, List.drop_zero, Nat.sub_zero]
  have hl : s.cps.toList.length = s.length := Array.length_toList
  have hl2 : (sg s).length = s.length := Array.length_toList
  by_cases h : k ≤ s.length
  · rw [Nat.min_eq_left h]
  · rw [Nat.min_eq_right (by omega), List.take_of_length_le (by omega), List.take_of_length_le (by omega)]
theorem sg_cutFrom1 (s : Str) : sg (cutS s (some 1) none) = (sg s).drop 1 := by
  show (List.toArray _).toList = _
  rw [show HT.sIx s.length 0 (some 1) = min 1 s.length from HT.sIx_nat _ _ 1, show HT.sIx s.length s.length none = s.length from rfl]
  have hl : s.cps.toList.length = s.length := Array.length_toList
  have hl2 : (sg s).length = s.length := Array.length_toList
  by_cases h : 1 ≤ s.length
  · rw [Nat.min_eq_left h, List.take_of_length_le (by rw [List.length_drop]; omega)]
  · rw [Nat.min_eq_right (by omega), List.drop_of_length_le (by omega), List.drop_of_length_le (by omega)]
    simp
/-! ### the kinds of texts and numbers -/
def allIn (t s : Str) : Bool := t.cps.toList.all fun c => decide (c ∈ s.cps.toList)
abbrev sFIG : Str := "0123456789"
abbrev sABC : Str := "abcdefghijklmnopqrstuvwxyz"
def figuresOk (t : Str) : Bool := !decide (t = ("" : Str)) && allIn t sFIG
def lettersOk (s : Str) (most : Int) : Bool := decide (1 ≤ (s.length : Int)) && decide ((s.length : Int) ≤ most) && allIn s sABC
def endedOk (t : Str) : Bool := figuresOk t && !Txt.endswith t "0"
def pointsOk (t : Str) : Bool := decide (t = ("" : Str)) || endedOk t
def makerOk (t : Str) : Bool := lettersOk (cutS t none (some 1)) 1 && endedOk (cutS t (some 1) none)
section
variable {P : Program} {w : World} {K : PySem.W.Frag} {mg : Str → Option Value} {base : Heap} {Z : Adr}
def spNum (K : PySem.W.Frag) : Sp := fun vs H Q _ => ∃ x, vs = [x] ∧ KnI K H x ∧ RetV (.bl (isI x && !isB x)) H Q
theorem ok_is_number (T : Txt K mg Z) : FnOk P w K mg base CX0 1 Z.a_is_number Z.d_is_number ["thing"] (spNum K) := by
  refine T.F_is_number.ok sc_is_number (fun vs H Q E h => ?_) (fun cdv A outer s H vs Q E hr h => ?_)
  · obtain ⟨x, rfl, _⟩ := h; rfl
  · obtain ⟨x, rfl, ⟨t, ht, hb, hi'⟩, k⟩ := h
    refine ⟨_, (pss_one (ps_ret (pe_and (pe_callB (isiK K) (by rfl) T.n_isinstance (by decide +kernel) (pa_cons (pv 0) (pa_cons (pe_bltn (v := .ty "int") (by rfl) T.n_int (by decide +kernel) rfl) pa_nil))) (pe_one (pe_not (pe_callB (isiK K) (by rfl) T.n_isinstance (by decide +kernel) (pa_cons (pv 0) (pa_cons (pe_bltn (v := .ty "bool") (by rfl) T.n_bool (by decide +kernel) rfl) pa_nil)))))))), ?_⟩
    exact s_ret (ev_andV (ev_isi (ev_var rfl) ev_c (.ty _) (fun _ e => tyx_ex ht e) hi') fun _ => ev_notV (ev_isi (ev_var rfl) ev_c (.ty _) (fun _ e => tyx_ex ht e) hb)) k
theorem num_int {x : V} (h : (isI x && !isB x) = true) : ∃ i, x = .int i := by
  cases x <;> first | exact ⟨_, rfl⟩ | exact Bool.noConfusion h
theorem sp_num {x : V} {H : Hp} (hx : KnI K H x) : SpV (spNum K) [x] H (.bl (isI x && !isB x)) := fun H1 e Q q E => ⟨x, rfl, kni_ex hx e, q⟩
theorem rv_isN {x : V} {H : Hp} : RV (fun x y H Q => y = .non ∧ Q (.bl (decide (x = .non))) H) x .non H (.bl (decide (x = .non))) := fun H1 e Q q => ⟨rfl, q H1 (Ex.refl _)⟩
def spWhole (K : PySem.W.Frag) : Sp := fun vs H Q _ => ∃ x lo hi, vs = [x, .int lo, oi hi] ∧ KnI K H x ∧ RetV (.bl (whole x lo hi)) H Q
theorem ok_is_whole (T : Txt K mg Z) : FnOk P w K mg base CX0 2 Z.a_is_whole Z.d_is_whole ["thing", "low", "high"] (spWhole K) := by
  refine T.F_is_whole.ok sc_is_whole (fun vs H Q E h => ?_) (fun cdv A outer s H vs Q E hr h => ?_)
  · obtain ⟨x, lo, hi, rfl, _⟩ := h; rfl
  · obtain ⟨x, lo, hi, rfl, hx, k⟩ := h
    refine ⟨_, (pss_one (ps_ret (pe_and (pe_call (ok_is_number T) (hr.mono (by decide)) rfl T.g_is_number T.F_is_number.kp T.b_is_number .nil pass0 (pa_cons (pv 0) pa_nil)) (pe_and (pe_cmpR op_le (pv 1) (pv 0) (nomark _)) (pe_one (pe_or (pe_cmpR op_isNq (pv 2) pe_non (nomark _)) (pe_one (pe_cmpR op_le (pv 0) (pv 2) (nomark _))))))))), ?_⟩
    cases hn : (isI x && !isB x) with
    | false =>
      have : whole x lo hi = false := by cases x <;> first | rfl | cases hn
      rw [this] at k
      exact s_ret (v := .bl false) (ev_is (ev_andV (a := false) (b := true) (ev_is (ev_call (ea_cons (ev_var rfl) ea_nil) (sp_num hx)) (by rw [hn])) (fun z => nomatch z)) rfl) k
    | true =>
      obtain ⟨i, rfl⟩ := num_int hn
      cases hi with
      | none => exact s_ret (v := .bl (whole (.int i) lo none)) (ev_is (ev_andV (a := true) (ev_is (ev_call (ea_cons (ev_var rfl) ea_nil) (sp_num hx)) (by rw [hn])) (fun _ => ev_andV (ev_op (ev_var rfl) (ev_var rfl) rv_I0) fun _ => ev_orV (a := true) (b := true) (ev_op (ev_var rfl) ev_c rv_isN) (fun z => nomatch z))) rfl) k
      | some h => exact s_ret (v := .bl (whole (.int i) lo (some h))) (ev_is (ev_andV (a := true) (ev_is (ev_call (ea_cons (ev_var rfl) ea_nil) (sp_num hx)) (by rw [hn])) (fun _ => ev_andV (ev_op (ev_var rfl) (ev_var rfl) rv_I0) fun _ => ev_orV (a := false) (ev_op (ev_var rfl) ev_c rv_isN) (fun _ => ev_op (ev_var rfl) (ev_var rfl) rv_I0))) rfl) k
theorem sp_whole {x : V} {lo : Int} {hi : Option Int} {H : Hp} (hx : KnI K H x) : SpV (spWhole K) [x, .int lo, oi hi] H (.bl (whole x lo hi)) := fun H1 e Q q E => ⟨x, lo, hi, rfl, kni_ex hx e, q⟩
theorem asc_dig : ∀ c, c < 128 → Unicode.isDigit c = decide (c ∈ sg sFIG) := by decide +kernel
theorem asc_alp : ∀ c, c < 128 → (Unicode.isAlpha c && !(Unicode.isUpper c || Unicode.isTitle c)) = decide (c ∈ sg sABC) := by decide +kernel
theorem asc_low : ∀ c, c < 128 → c ∈ sg sABC → Unicode.isLower c = true := by decide +kernel
theorem asc_abc : ∀ c ∈ sg sABC, c < 128 := by decide +kernel
theorem asc_fig : ∀ c ∈ sg sFIG, c < 128 := by decide +kernel
theorem tx_all {t : Str} {p : Nat → Bool} : t.cps.all p = (sg t).all p := Array.all_toList.symm
theorem tx_any {t : Str} {p : Nat → Bool} : t.cps.any p = (sg t).any p := Array.any_toList.symm
theorem ne_empty {t : Str} : (t = ("" : Str)) ↔ t.length = 0 := by
  constructor
  · intro h; rw [h]; decide +kernel
  · intro h
    refine str_ext ?_
    rw [show sg ("" : Str) = [] by decide +kernel]
    exact List.eq_nil_of_length_eq_zero (by rw [sg_len]; exact h)
theorem fig_eq (t : Str) : (Txt.isascii t && Txt.isdigit t) = figuresOk t := by
  unfold Txt.isascii Txt.isdigit figuresOk allIn
  rw [tx_all, tx_all, Bool.eq_iff_iff]
  simp only [Bool.and_eq_true, List.all_eq_true, decide_eq_true_eq, Bool.not_eq_true', decide_eq_false_iff_not, ne_empty]
  constructor
  · rintro ⟨h1, h2, h3⟩
    exact ⟨by omega, fun c hc => by have := asc_dig c (h1 c hc); rw [h3 c hc] at this; exact of_decide_eq_true this.symm⟩
  · rintro ⟨h1, h2⟩
    exact ⟨fun c hc => asc_fig c (h2 c hc), by omega, fun c hc => by rw [asc_dig c (asc_fig c (h2 c hc))]; exact decide_eq_true (h2 c hc)⟩
theorem let_eq (t : Str) (most : Int) : (decide ((t.length : Int) ≤ most) && (Txt.isascii t && (Txt.isalpha t && Txt.islower t))) = lettersOk t most := by
  unfold Txt.isascii Txt.isalpha Txt.islower lettersOk allIn
  rw [tx_all, tx_all, tx_any, tx_any, Bool.eq_iff_iff]
  simp only [Bool.and_eq_true, List.all_eq_true, List.any_eq_true, decide_eq_true_eq, Bool.not_eq_true', List.any_eq_false]
  have key : ∀ c, c < 128 → Unicode.isAlpha c = true → (¬ (Unicode.isUpper c || Unicode.isTitle c) = true ↔ c ∈ sg sABC) := fun c h1 h2 => by
    have := asc_alp c h1
    rw [h2, Bool.true_and] at this
    constructor
    · intro h
      rw [Bool.not_eq_true] at h
      rw [h] at this
      exact of_decide_eq_true this.symm
    · intro h h'
      rw [h', decide_eq_true h] at this
      cases this
  have alp : ∀ c ∈ sg sABC, Unicode.isAlpha c = true := fun c hc => by
    have := asc_alp c (asc_abc c hc)
    rw [decide_eq_true hc, Bool.and_eq_true] at this
    exact this.1
  constructor
  · rintro ⟨h0, h1, ⟨h2, h3⟩, _, h5⟩
    exact ⟨⟨by omega, h0⟩, fun c hc => (key c (h1 c hc) (h3 c hc)).mp (h5 c hc)⟩
  · rintro ⟨⟨h1, h0⟩, h2⟩
    have hne : 0 < (sg t).length := by rw [sg_len]; omega
    have m0 := List.getElem_mem hne
    exact ⟨h0, fun c hc => asc_abc c (h2 c hc), ⟨by omega, fun c hc => alp c (h2 c hc)⟩, ⟨_, m0, asc_low _ (asc_abc _ (h2 _ m0)) (h2 _ m0)⟩, fun c hc => (key c (asc_abc c (h2 c hc)) (alp c (h2 c hc))).mpr (h2 c hc)⟩
theorem ev_m0 {σ : L2.St} {H : Hp} {ta : TE} {r : V → List V → Hp → VK → Prop} {s : Str} {z : V} (ha : Ev ta σ H (.str s)) (hr : ∀ H1, Ex H H1 → ∀ Q : VK, (∀ H2, Ex H1 H2 → Q z H2) → r (.str s) [] H1 Q) : Ev (tM0 r ta) σ H z := fun H1 e Q q =>
  ha H1 e _ fun H2 e2 => ⟨⟨s, rfl⟩, hr H2 (e.trans e2) Q fun H3 e3 => q H3 (e2.trans e3)⟩
def qTxt (g : Str → Bool) : V → List V → Hp → VK → Prop := fun x xs H Q => ∃ a, x = .str a ∧ xs = [] ∧ True ∧ Q (.bl (g a)) H
theorem mt_isasciiQ {X : Cx} : MtR X "str.isascii" (qTxt Txt.isascii) := mt_isascii
theorem mt_isdigitQ {X : Cx} : MtR X "str.isdigit" (qTxt Txt.isdigit) := mt_isdigit
theorem mt_isalphaQ {X : Cx} : MtR X "str.isalpha" (qTxt Txt.isalpha) := mt_isalpha
theorem mt_islowerQ {X : Cx} : MtR X "str.islower" (qTxt Txt.islower) := mt_islower
theorem ev_txt {σ : L2.St} {H : Hp} {ta : TE} {g : Str → Bool} {s : Str} (ha : Ev ta σ H (.str s)) : Ev (tM0 (qTxt g) ta) σ H (.bl (g s)) :=
  ev_m0 ha fun H1 e Q q => ⟨s, rfl, rfl, trivial, q H1 (Ex.refl _)⟩
def spFig : Sp := fun vs H Q _ => ∃ t, vs = [.str t] ∧ t.length ≤ 90000 ∧ RetV (.bl (figuresOk t)) H Q
theorem sp_fig {t : Str} {H : Hp} (hz : t.length ≤ 90000) : SpV spFig [.str t] H (.bl (figuresOk t)) := fun H1 e Q q E => ⟨t, rfl, hz, q⟩
/-- what holds of texts alone -/
def onS (f : Str → Bool) : V → Bool | .str t => f t | _ => false
def SzV (x : V) : Prop := ∀ t, x = .str t → t.length ≤ 90000
theorem onS_no {f : Str → Bool} {x : V} (h : isS x = false) : onS f x = false := by cases x <;> first | rfl | cases h
theorem isS_str {x : V} (h : isS x = true) : ∃ t, x = .str t := by cases x <;> first | exact ⟨_, rfl⟩ | cases h
theorem sz_str {t : Str} (hz : t.length ≤ 90000) : SzV (.str t) := fun u e => by cases e; exact hz
/-- isinstance(x, str) and what holds of texts -/
theorem ev_onS {σ : L2.St} {H : Hp} {ta tb tc : TE} {f : Str → Bool} {x : V} (ha : Ev ta σ H x) (hb : Ev tb σ H (.ty "str")) (hx : KnS K H x) (hc : ∀ t, x = .str t → Ev tc σ H (.bl (f t))) : Ev (tAndV (tCB (rIsi K) (tCons ta (tCons tb tNil))) tc) σ H (.bl (onS f x)) := by
  obtain ⟨t, h1, h2⟩ := hx
  cases h : isS x with
  | false => exact ev_is (ev_andV (a := false) (b := true) (ev_isi ha hb (.ty _) (fun _ e => tyx_ex h1 e) (by rw [h2, h])) (fun z => nomatch z)) (by rw [onS_no h]; rfl)
  | true =>
    obtain ⟨u, rfl⟩ := isS_str h
    exact ev_is (ev_andV (a := true) (ev_isi ha hb (.ty _) (fun _ e => tyx_ex h1 e) h2) (fun _ => hc u rfl)) rfl
def spLetters (K : PySem.W.Frag) : Sp := fun vs H Q _ => ∃ x most, vs = [x, .int most] ∧ KnS K H x ∧ SzV x ∧ RetV (.bl (onS (fun t => lettersOk t most) x)) H Q
theorem sp_lettersV {x : V} {most : Int} {H : Hp} (hx : KnS K H x) (hz : SzV x) : SpV (spLetters K) [x, .int most] H (.bl (onS (fun t => lettersOk t most) x)) := fun H1 e Q q E => ⟨x, most, rfl, kns_ex hx e, hz, q⟩
theorem sp_letters {t : Str} {most : Int} {H : Hp} (hz : t.length ≤ 90000) : SpV (spLetters K) [.str t, .int most] H (.bl (lettersOk t most)) := sp_lettersV kns_str (sz_str hz)
theorem cutS_len (z : Str) (lo hi : Option Int) : (cutS z lo hi).length ≤ z.length := by
  show (List.toArray _).size ≤ z.cps.size
  rw [List.size_toArray, List.length_take, List.length_drop, Array.length_toList]
  omega
theorem fig_ne {t : Str} (h : figuresOk t = true) : 1 ≤ t.length := by
  unfold figuresOk at h
  rw [Bool.and_eq_true, Bool.not_eq_true', decide_eq_false_iff_not, ne_empty] at h
  omega
theorem last_of {t : Str} (h : 1 ≤ t.length) : ∃ c, atI (sg t) (-1) = some c ∧ (decide ((⟨#[c]⟩ : Str) = "0")) = Txt.endswith t "0" := by
  have hne : sg t ≠ [] := fun e => by rw [← sg_len, e] at h; simp at h
  have e := List.dropLast_concat_getLast hne
  refine ⟨(sg t).getLast hne, ?_, ?_⟩
  · unfold atI ixN
    rw [if_neg (by omega), if_pos (by rw [sg_len]; omega)]
    show (sg t)[_]? = _
    rw [List.getElem?_eq_getElem (by rw [sg_len]; omega), List.getLast_eq_getElem]
    congr 2
    rw [sg_len]; omega
  · have h2 : t = (⟨(sg t).dropLast.toArray⟩ : Str) ++ ⟨#[(sg t).getLast hne]⟩ := str_ext (by rw [sg_app]; exact e.symm)
    generalize (sg t).getLast hne = c at h2
    rw [h2, ends0]
    by_cases h : c = 48
    · subst h; decide +kernel
    · rw [decide_eq_false h, decide_eq_false]
      intro z
      have := congrArg sg z
      rw [show sg ("0" : Str) = [48] by decide +kernel] at this
      exact h (List.cons.inj this).1
theorem ev_ixS {σ : L2.St} {H : Hp} {ta tb : TE} {t : Str} {i : Int} {c : Nat} (ha : Ev ta σ H (.str t)) (hb : Ev tb σ H (.int i)) (hz : t.length ≤ 100000) (hc : atI (sg t) i = some c) : Ev (tOp rIxS ta tb) σ H (.str ⟨#[c]⟩) :=
  ev_op ha hb fun H1 e Q q => ⟨t, i, c, rfl, rfl, sz_of hz, hc, q H1 (Ex.refl _)⟩
def spEnded : Sp := fun vs H Q _ => ∃ t, vs = [.str t] ∧ t.length ≤ 90000 ∧ RetV (.bl (endedOk t)) H Q
theorem sp_ended {t : Str} {H : Hp} (hz : t.length ≤ 90000) : SpV spEnded [.str t] H (.bl (endedOk t)) := fun H1 e Q q E => ⟨t, rfl, hz, q⟩
def spPoints (K : PySem.W.Frag) : Sp := fun vs H Q _ => ∃ x, vs = [x] ∧ KnS K H x ∧ SzV x ∧ RetV (.bl (onS pointsOk x)) H Q
theorem sp_pointsV {x : V} {H : Hp} (hx : KnS K H x) (hz : SzV x) : SpV (spPoints K) [x] H (.bl (onS pointsOk x)) := fun H1 e Q q E => ⟨x, rfl, kns_ex hx e, hz, q⟩
theorem sp_points {t : Str} {H : Hp} (hz : t.length ≤ 90000) : SpV (spPoints K) [.str t] H (.bl (pointsOk t)) := sp_pointsV kns_str (sz_str hz)
theorem maker_eq1 {t : Str} (h : t.length ≤ 1) : makerOk t = false := by
  have e : (cutS t (some 1) none) = ("" : Str) := ne_empty.mpr (by rw [← sg_len, sg_cutFrom1, List.length_drop, sg_len]; omega)
  unfold makerOk
  rw [e, show endedOk ("" : Str) = false by decide +kernel, Bool.and_false]
theorem maker_eq2 {t : Str} {c : Nat} (h : (sg t)[0]? = some c) : makerOk t = (decide (c ∈ sg sABC) && endedOk (cutS t (some 1) none)) := by
  have e : sg (cutS t none (some 1)) = [c] := by
    rw [show (1 : Int) = ((1 : Nat) : Int) from rfl, sg_cutTo]
    cases hs : sg t with
    | nil => rw [hs] at h; cases h
    | cons a l => rw [hs] at h; cases h; rfl
  have e2 : cutS t none (some 1) = (⟨#[c]⟩ : Str) := str_ext e
  unfold makerOk
  congr 1
  rw [e2]
  unfold lettersOk allIn
  show (decide ((1 : Int) ≤ 1) && decide ((1 : Int) ≤ 1) && ([c].all fun c => decide (c ∈ sABC.cps.toList))) = _
  simp
def spMaker (K : PySem.W.Frag) : Sp := fun vs H Q _ => ∃ x, vs = [x] ∧ KnS K H x ∧ SzV x ∧ RetV (.bl (onS makerOk x)) H Q
theorem sp_makerV {x : V} {H : Hp} (hx : KnS K H x) (hz : SzV x) : SpV (spMaker K) [x] H (.bl (onS makerOk x)) := fun H1 e Q q E => ⟨x, rfl, kns_ex hx e, hz, q⟩
theorem sp_maker {t : Str} {H : Hp} (hz : t.length ≤ 90000) : SpV (spMaker K) [.str t] H (.bl (makerOk t)) := sp_makerV kns_str (sz_str hz)
end

/-! ### the mirror -/
def cnt (t : List Int) (l : Int) : Int := if 0 ≤ l then t.getD l.toNat 0 else 0
def copies (n : Nat) : List Int := (List.range n).map fun l => if 3 < l then (10 : Int) ^ (l - 3) - 1 else 1
def wmore (ended : List Int) (c : Int) (more : List Int) (s : Int) : List Int := (List.range ended.length).map fun (l : Nat) => ended.getD l 0 + c * cnt more ((l : Int) - s)
def figs (rest : List Int) : Nat → List Int
  | 0 => []
  | n + 1 => let t := figs rest n; t ++ [cnt rest ((n : Int) - 1) + 10 * cnt t ((n : Int) - 1)]
def nums (rest : List Int) (l : Int) : List Int := (List.range 4).map fun (m : Nat) => 9 * (10 : Int) ^ m * cnt rest (l - 1 - (m : Int))
theorem copies_len (n : Nat) : (copies n).length = n := by unfold copies; rw [List.length_map, List.length_range]
theorem wmore_len (e : List Int) (c : Int) (m : List Int) (s : Int) : (wmore e c m s).length = e.length := by unfold wmore; rw [List.length_map, List.length_range]
theorem figs_len (r : List Int) : ∀ n : Nat, (figs r n).length = n
  | 0 => rfl
  | n + 1 => by
    show (figs r n ++ [_]).length = n + 1
    rw [List.length_append, figs_len r n]
    rfl
section
variable {K : PySem.W.Frag} {σ : L2.St} {H : Hp} {ta te tv : TE} {v z : V} {D : Ends} {tz tu : TS} {t : TA} {xs vs dvs : List V}
theorem q_forR1m {ta : TA} {j : Nat} {n : Int} (h : EvA ta σ H [.int n]) (hn : -100000 ≤ n ∧ n ≤ 100000) (Pv : Nat → L2.St → Hp → Prop) (h0 : ∀ H1, Ex H H1 → Pv 0 σ H1)
    (hs : ∀ (i : Nat) σ' H', (i : Int) < n → Pv i σ' H' → tu { D with nx := Pv (i + 1), ct := Pv (i + 1), bk := tz D } (σ'.set j (some (.int (i : Int)))) H') (hd : ∀ σ' H', Pv n.toNat σ' H' → tz D σ' H') : tSeq (tFor (iRng1 ta) (gName j) tu) tz D σ H :=
  h H (Ex.refl H) _ fun H1 e => ⟨n, rfl, by omega, by omega, for_range (D := { D with nx := tz D }) (lo := 0) (n := n.toNat) Pv (h0 H1 e) (fun i σ' H' hi p => by
    have e0 : (0 : Int) + (i : Int) = (i : Int) := Int.zero_add _
    show tu { D with nx := Pv (i + 1), ct := Pv (i + 1), bk := tz D } (σ'.set j (some (.int ((0 : Int) + (i : Int))))) H'
    rw [e0]
    exact hs i σ' H' (by omega) p) hd⟩
theorem s_fldL {a C dx : Addr} {fs : List (Str × V)} {f : Str} (hv : EvL tv σ H xs) (ha : Ev ta σ H (.ref a)) (ho : H a = some (.ins C dx fs)) (hc : Cls K C) (hn : NoAttr K C f) (hl : fs.length < 1000)
    (k : ∀ p H1, H p = none → Ex H H1 → H1 p = some (.lst xs) → D.nx σ (upd H1 a (.ins C dx (putF f (.ref p) fs)))) : sFld K ta tv f D σ H :=
  hv H (Ex.refl H) _ fun p H1 hp e1 h1 => ha H1 e1 _ fun H2 e2 => ⟨a, C, dx, fs, rfl, e2 _ _ (e1 _ _ ho), hc, hn, hl, k p H2 hp (e1.trans e2) (e2 _ _ h1)⟩
theorem ev_meth {C a dx : Addr} {m : Str} {sp : Sp} {E : XK} {fs : List (Str × V)} (ha : Ev ta σ H (.ref a)) (ho : H a = some (.ins C dx fs)) (hl : fs.lookup m = none) (h : EvA t σ H vs) (hs : SpV sp (.ref a :: (vs ++ dvs)) H z) : Ev (tMeth C m sp dvs E ta t) σ H z := fun H1 e Q q =>
  ha H1 e _ fun H2 e2 => ⟨a, dx, fs, rfl, (e.trans e2) _ _ ho, hl, h H2 (e.trans e2) _ fun H3 e3 => hs H3 ((e.trans e2).trans e3) Q (fun H4 e4 => q H4 ((e2.trans e3).trans e4)) E⟩
theorem ev_use {Q : VK} (h : Ev te σ H v) (k : ∀ H2, Ex H H2 → Q v H2) : te σ H Q := h H (Ex.refl H) Q k
theorem cut_from (xs : List V) (n : Nat) : cutV xs (some (n : Int)) none = xs.drop n := by
  unfold cutV
  rw [show HT.sIx xs.length 0 (some (n : Int)) = min n xs.length from HT.sIx_nat xs.length 0 n, HT.sIx_none]
  by_cases h : n ≤ xs.length
  · rw [Nat.min_eq_left h, List.take_of_length_le (by rw [List.length_drop]; omega)]
  · rw [Nat.min_eq_right (by omega), List.drop_of_length_le (Nat.le_refl _), List.drop_of_length_le (by omega)]
    simp
end
theorem copies_take {k m : Nat} (h : k ≤ m) : (copies m).take k = copies k := by
  unfold copies
  rw [← List.map_take, List.take_range, Nat.min_eq_left h]
theorem copies_succ (i : Nat) : copies (4 + i + 1) = copies (4 + i) ++ [10 ^ (i + 1) - 1] := by
  unfold copies
  rw [List.range_succ, List.map_append]
  congr 1
  show [if 3 < 4 + i then (10 : Int) ^ (4 + i - 3) - 1 else 1] = _
  rw [if_pos (by omega), show 4 + i - 3 = i + 1 by omega]
theorem wm_eq {xs ys : List Int} {c : Int} {s : Nat} : xs.take s ++ ((List.range (xs.length - s)).map fun i => xs.getD (s + i) 0 + c * ys.getD i 0) = wmore xs c ys (s : Int) := by
  refine List.ext_getElem? fun k => ?_
  unfold wmore
  by_cases hk : k < xs.length
  · rw [List.getElem?_map (l := List.range xs.length), List.getElem?_range hk]
    by_cases h : k < s
    · rw [List.getElem?_append_left (by rw [List.length_take]; omega), List.getElem?_take, if_pos h]
      show xs[k]? = some (xs.getD k 0 + c * cnt ys ((k : Int) - (s : Int)))
      rw [show cnt ys ((k : Int) - (s : Int)) = 0 from if_neg (by omega), Int.mul_zero, Int.add_zero, List.getD_eq_getElem?_getD, List.getElem?_eq_getElem hk]
      rfl
    · rw [List.getElem?_append_right (by rw [List.length_take]; omega), List.length_take, show min s xs.length = s by omega, List.getElem?_map, List.getElem?_range (by omega)]
      show some (xs.getD (s + (k - s)) 0 + c * ys.getD (k - s) 0) = some (xs.getD k 0 + c * cnt ys ((k : Int) - (s : Int)))
      rw [show s + (k - s) = k by omega, show cnt ys ((k : Int) - (s : Int)) = ys.getD ((k : Int) - (s : Int)).toNat 0 from if_pos (by omega), show ((k : Int) - (s : Int)).toNat = k - s by omega]
  · rw [List.getElem?_eq_none (by rw [List.length_append, List.length_take, List.length_map, List.length_range]; omega), List.getElem?_eq_none (by rw [List.length_map, List.length_range]; omega)]
def nx (r : List Int) (i : Nat) : Int := cnt r ((i : Int) - 1) + 10 * cnt (figs r i) ((i : Int) - 1)
theorem figs_succ (r : List Int) (i : Nat) : figs r (i + 1) = figs r i ++ [nx r i] := rfl
theorem cnt_nat {r : List Int} {i : Nat} : cnt r (((i + 1 : Nat) : Int) - 1) = r.getD i 0 := by
  unfold cnt
  rw [if_pos (by omega), show (((i + 1 : Nat) : Int) - 1).toNat = i by omega]
theorem nx_succ (r : List Int) (i : Nat) : nx r (i + 1) = r.getD i 0 + 10 * nx r i := by
  have e : (figs r (i + 1)).getD i 0 = nx r i := by
    rw [figs_succ, List.getD_eq_getElem?_getD, List.getElem?_append_right (by rw [figs_len]; exact Nat.le_refl _), figs_len, Nat.sub_self]
    rfl
  show cnt r _ + 10 * cnt (figs r (i + 1)) _ = _
  rw [cnt_nat, cnt_nat, e]
section
variable {P : Program} {w : World} {K : PySem.W.Frag} {mg : Str → Option Value} {base : Heap} {Z : Adr}
def spBound (K : PySem.W.Frag) : Sp := fun vs H Q _ => ∃ x, vs = [x] ∧ KnI K H x ∧ RetV (.bl (whole x 0 (some 60))) H Q
theorem ok_is_bound (T : Txt K mg Z) : FnOk P w K mg base CX0 3 Z.a_is_bound Z.d_is_bound ["thing"] (spBound K) := by
  refine T.F_is_bound.ok sc_is_bound (fun vs H Q E h => ?_) (fun cdv A outer s H vs Q E hr h => ?_)
  · obtain ⟨x, rfl, _⟩ := h; rfl
  · obtain ⟨x, rfl, hx, k⟩ := h
    refine ⟨_, (pss_one (ps_ret (pe_call (ok_is_whole T) (hr.mono (by decide)) rfl T.g_is_whole T.F_is_whole.kp T.b_is_whole .nil pass0 (pa_cons (pv 0) (pa_cons pe_int (pa_cons pe_int pa_nil)))))), ?_⟩
    exact s_ret (ev_call (ea_cons (ev_var rfl) (ea_cons ev_c (ea_cons ev_c ea_nil))) (sp_whole (lo := 0) (hi := some 60) hx)) k
def spCounted (K : PySem.W.Frag) : Sp := fun vs H Q _ => ∃ a xs l, vs = [.ref a, .int l] ∧ SqL K H a (ii xs) ∧ l < xs.length ∧ RetV (.int (cnt xs l)) H Q
theorem ok_counted (T : Txt K mg Z) : FnOk P w K mg base CX0 1 Z.a_counted Z.d_counted ["table", "left"] (spCounted K) := by
  refine T.F_counted.ok sc_counted (fun vs H Q E h => ?_) (fun cdv A outer s H vs Q E hr h => ?_)
  · obtain ⟨a, xs, l, rfl, _⟩ := h; rfl
  · obtain ⟨a, xs, l, rfl, hS, hl, k⟩ := h
    refine ⟨_, (pss_one (ps_ret (pe_ifExp (pt_cmpR op_ge (pv 1) pe_int (nomark _)) (pe_ix (ixL K) (pv 0) (pv 1) (fun _ _ => rfl)) pe_int))), ?_⟩
    refine s_ret (ev_if (b := decide (0 ≤ l)) (et_test (ev_op (ev_var rfl) ev_c rv_I0)) (fun hb => ?_) (fun hb => ?_)) k
    · have h0 : 0 ≤ l := of_decide_eq_true hb
      refine ev_op (ev_var rfl) (ev_var rfl) (rv_ixL hS ?_)
      have e : cnt xs l = xs.getD l.toNat 0 := if_pos h0
      rw [e]
      have q := atI_nat (ii_get (xs := xs) (j := l.toNat) (by omega))
      rw [Int.toNat_of_nonneg h0] at q
      exact q
    · have e : cnt xs l = 0 := if_neg (of_decide_eq_false hb)
      rw [e]
      exact ev_c
theorem sp_counted {a : Addr} {xs : List Int} {l : Int} {H : Hp} (hS : SqL K H a (ii xs)) (hl : l < xs.length) : SpV (spCounted K) [.ref a, .int l] H (.int (cnt xs l)) :=
  fun H1 e Q q E => ⟨a, xs, l, rfl, ex_l e hS, hl, q⟩
def spCopies : Sp := fun vs H Q _ => ∃ most : Nat, vs = [.int (most : Int)] ∧ most ≤ 1000 ∧ RetL (ii (copies (most + 1))) H Q
theorem ok_copies (T : Txt K mg Z) : FnOk P w K mg base CX0 1 Z.a_copies Z.d_copies ["most"] spCopies := by
  refine T.F_copies.ok sc_copies (fun vs H Q E h => ?_) (fun cdv A outer s H vs Q E hr h => ?_)
  · obtain ⟨a, rfl, _⟩ := h; rfl
  · obtain ⟨most, rfl, hm, k⟩ := h
    refine ⟨_, (pss_cons (ps_set (i := 1) sc_copies.nd rfl (.inl rfl) (pe_lst (pa_cons pe_int (pa_cons pe_int (pa_cons pe_int (pa_cons pe_int pa_nil))))))
      (pss_cons (ps_set (i := 2) sc_copies.nd rfl (.inl rfl) pe_int)
      (pss_cons (ps_for PassesOwn.never rfl (pi_range1 rfl T.n_range (pa_cons (pe_op op_sub (pv 0) pe_int) pa_nil)) (pg_name (i := 3) sc_copies.nd rfl (.inl rfl)) (pss_cons (ps_set (i := 2) sc_copies.nd rfl (.inl rfl) (pe_op op_add (pe_op op_mul pe_int (pv 2)) pe_int))
      (pss_one (ps_expr (bmK K PySem.F.plainAttrs_list PySem.F.slot_list_append PySem.F.type_list_append mt_append (pv 1) (pa_cons (pv 2) pa_nil))))))
      (pss_one (ps_ret (pe_slice (slL K) (pv 1) po_none (po_some (pe_op op_add (pv 0) pe_int)))))))), ?_⟩
    refine q_asgL (xs := ii (copies (4 + 0))) (el_lst (ea_cons ev_c (ea_cons ev_c (ea_cons ev_c (ea_cons ev_c ea_nil)))) (by rw [ii_len, copies_len]; decide)) fun p H1 hp e1 h1 => ?_
    refine q_asg (v := .int (10 ^ 0 - 1)) ev_c fun H2 e2 => ?_
    refine q_forR1m (n := (most : Int) - 3) (ea_cons (ev_op (ev_var rfl) ev_c rv_I0) ea_nil) ⟨by omega, by omega⟩
      (fun i σ H' => ∃ x3, σ = [some (.int most), some (.ref p), some (.int (10 ^ i - 1)), x3] ∧ Ex H H' ∧ H' p = some (.lst (ii (copies (4 + i)))))
      (fun H3 e3 => ⟨none, rfl, (e1.trans e2).trans e3, (e2.trans e3) _ _ h1⟩) ?_ ?_
    · rintro i σ H' hi ⟨x3, rfl, e, hP⟩
      refine q_asg (v := .int (10 ^ (i + 1) - 1)) (ev_is (ev_op (ev_op ev_c (ev_var rfl) (rv_I (.inl ⟨by decide, by decide⟩))) ev_c rv_I0) (by rw [Int.pow_succ]; congr 1; omega)) fun H4 e4 => ?_
      refine s_app (e4 _ _ hP) (ev_var rfl) (v := .int (10 ^ (i + 1) - 1)) (ev_var rfl) (by rw [ii_len, copies_len]; omega) fun H5 e5 => ?_
      refine ⟨_, rfl, Ex.mut ((e.trans e4).trans e5) hp, ?_⟩
      rw [upd_same]
      congr 2
      show _ = ii (copies (4 + i + 1))
      rw [copies_succ]
      show _ = List.map V.int _
      rw [List.map_append]
      rfl
    · rintro σ H' ⟨x3, rfl, e, hP⟩
      refine s_retL (el_sl (ev_var rfl) eo_none (eo_some (i := ((most + 1 : Nat) : Int)) (ev_op (ev_var rfl) ev_c rv_I0)) (sq_of hP)) fun q H5 hq e5 h5 => k q H5 (fresh_back e hq) (e.trans e5) ?_
      rw [h5, cut_take]
      show some (HO.lst (List.take _ (List.map V.int _))) = _
      rw [← List.map_take, copies_take (by omega)]
def spWmore (K : PySem.W.Frag) : Sp := fun vs H Q _ => ∃ a b xs ys c s, vs = [.ref a, .int c, .ref b, .int s] ∧ SqL K H a (ii xs) ∧ SqL K H b (ii ys) ∧ xs.length = ys.length ∧ xs.length ≤ 1000 ∧ 0 ≤ s ∧ (0 ≤ c ∧ c ≤ 10000) ∧ RetL (ii (wmore xs c ys s)) H Q
theorem ok_with_more (T : Txt K mg Z) : FnOk P w K mg base CX0 1 Z.a_with_more Z.d_with_more ["ended", "choices", "more", "signs"] (spWmore K) := by
  refine T.F_with_more.ok sc_with_more (fun vs H Q E h => ?_) (fun cdv A outer s H vs Q E hr h => ?_)
  · obtain ⟨a, b, xs, ys, c, s, rfl, _⟩ := h; rfl
  · obtain ⟨a, b, xs, ys, c, s0, rfl, hA, hB, hl, hz, hs, hc, k⟩ := h
    obtain ⟨s, rfl⟩ := Int.eq_ofNat_of_zero_le hs
    refine ⟨_, (pss_one (ps_ret (pe_op op_cat (pe_slice (slL K) (pv 0) po_none (po_some (pv 3))) (pe_lc (own := [("ways", 4), ("later", 5)]) (g := (gTup K 2 (gCons (gName 4) (gCons (gName 5) gNil)))) (tt := tYes) rfl sc_with_more.nd (pi_zip (by rfl) T.n_zip (pa_cons (pe_slice (slL K) (pv 0) (po_some (pv 3)) po_none) (pa_cons (pv 2) pa_nil))) (blkOk_by (own := [("ways", 4), ("later", 5)]) (N := ["ended", "choices", "more", "signs", "ways", "later"]) (sc := defScope s_with_more) (by decide +kernel)) (fun _ _ _ _ _ => (pg_tup rfl (pgs_cons (pg_name (i := 4) sc_with_more.nd rfl (.inl rfl)) (pgs_cons (pg_name (i := 5) sc_with_more.nd rfl (.inl rfl)) pgs_nil)))) (fun _ _ _ _ _ => pts_nil) (fun _ _ _ _ _ => (pe_op op_add (pv 4) (pe_op op_mul (pv 1) (pv 5)))))))), ?_⟩
    generalize hzs : ((List.range (xs.length - s)).map fun i => xs.getD (s + i) 0 + c * ys.getD i 0) = zs
    have zl : zs.length = xs.length - s := by rw [← hzs, List.length_map, List.length_range]
    refine s_retL (xs := ii (wmore xs c ys s)) (fun H0 e0 Q0 q0 => el_cat (xs := ii (xs.take s)) (ys := ii zs) (fun H1 e1 Q1 q1 => el_sl (lo := none) (hi := some (s : Int)) (ev_var rfl) eo_none (eo_some (ev_var rfl)) hA H1 e1 Q1 (by
        rw [cut_take, show (ii xs).take s = ii (xs.take s) from List.map_take.symm]
        exact q1)) (fun H1 e1 H2 e2 Q' q' => ?_) (by rw [ii_len, ii_len, List.length_take, zl]; omega) H0 e0 Q0 (by
        have e : ii (xs.take s) ++ ii zs = ii (wmore xs c ys s) := by rw [← wm_eq, hzs]; exact List.map_append.symm
        rw [e]
        exact q0)) (fun p H1 hp e h1 => k p H1 hp e h1)
    have hB2 := ex_l (e1.trans e2) hB
    refine el_sl (lo := some (s : Int)) (hi := none) (ev_var rfl) (eo_some (ev_var rfl)) eo_none hA H2 (e1.trans e2) _ fun r H3 hr' e3 h3 => ⟨_, rfl, r, b, _, _, rfl, sq_of h3, ex_l e3 hB2, fun D hD => lc_it (walk_zip (K := K) (n := xs.length - s) (by rw [cut_from, List.length_drop, ii_len, ii_len]; omega))
      (fun i H' => Ex H3 H' ∧ H' D = some (.lst (ii (zs.take i)))) ⟨Ex.new hD, upd_same⟩ (fun i H' _ h => ⟨sq_of (h.1 _ _ h3), ex_l (e3.trans h.1) hB2⟩) ?_ ?_⟩
    · rintro i x H4 H5 hi ⟨e4, h4⟩ ⟨T', x1, x2, rfl, hT, rfl, f1, f2⟩
      rw [cut_from] at f1
      change (List.drop s (ii xs))[i]? = some x1 at f1
      rw [List.getElem?_drop] at f1
      have g1 := (ii_get (xs := xs) (j := s + i) (by omega)).symm.trans f1
      have g2 := (ii_get (xs := ys) (j := i) (by omega)).symm.trans f2
      cases g1
      cases g2
      refine ⟨T', _, rfl, .inl (.inl upd_same), rfl, _, _, rfl, _, _, rfl, rfl, rfl, ?_⟩
      dsimp only [tYes]
      rw [if_pos rfl]
      have hl' : (ii (zs.take i)).length < 100000 := by rw [ii_len, List.length_take]; omega
      refine ev_use (v := .int (xs.getD (s + i) 0 + c * ys.getD i 0)) (ev_op (ev_var rfl) (ev_op (ev_var rfl) (ev_var rfl) (rv_I (.inl ⟨by omega, by omega⟩))) rv_I0) fun H6 e6 => ⟨ii (zs.take i), ?_, sz_lt hl', ?_, ?_⟩
      · exact e6 _ _ (by rw [upd_ne (ne_of_none h4 hT)]; exact h4)
      · exact Ex.mut ((e4.trans (Ex.new hT)).trans e6) hD
      · rw [upd_same]
        congr 2
        show _ = List.map V.int (zs.take (i + 1))
        have hm : zs[i]? = some (xs.getD (s + i) 0 + c * ys.getD i 0) := by
          rw [← hzs, List.getElem?_map, List.getElem?_range hi]
          rfl
        rw [List.take_add_one, hm, List.map_append]
        rfl
    · rintro H4 ⟨e4, h4⟩
      rw [List.take_of_length_le (by omega)] at h4
      exact q' D H4 (fresh_back e3 hD) (e3.trans e4) h4
theorem sp_wmore {a b : Addr} {xs ys : List Int} {c s : Int} {H : Hp} (hA : SqL K H a (ii xs)) (hB : SqL K H b (ii ys)) (hl : xs.length = ys.length) (hz : xs.length ≤ 1000) (hs : 0 ≤ s) (hc : 0 ≤ c ∧ c ≤ 10000) :
    SpL (spWmore K) [.ref a, .int c, .ref b, .int s] H (ii (wmore xs c ys s)) :=
  fun H1 e Q q E => ⟨a, b, xs, ys, c, s, rfl, ex_l e hA, ex_l e hB, hl, hz, hs, hc, q⟩
def spFigs (K : PySem.W.Frag) : Sp := fun vs H Q _ => ∃ a xs, vs = [.ref a] ∧ SqL K H a (ii xs) ∧ xs.length ≤ 1000 ∧ RetL (ii (figs xs xs.length)) H Q
theorem ok_figures (T : Txt K mg Z) : FnOk P w K mg base CX0 1 Z.a_figures Z.d_figures ["rest"] (spFigs K) := by
  refine T.F_figures.ok sc_figures (fun vs H Q E h => ?_) (fun cdv A outer s H vs Q E hr h => ?_)
  · obtain ⟨a, xs, rfl, _⟩ := h; rfl
  · obtain ⟨a, xs, rfl, hA, hz, k⟩ := h
    refine ⟨_, (pss_cons (ps_set (i := 1) sc_figures.nd rfl (.inl rfl) (pe_lst pa_nil))
      (pss_cons (ps_set (i := 2) sc_figures.nd rfl (.inl rfl) pe_int)
      (pss_cons (ps_for PassesOwn.never rfl (pi_list (pv 0)) (pg_name (i := 3) sc_figures.nd rfl (.inl rfl)) (pss_cons (ps_expr (bmK K PySem.F.plainAttrs_list PySem.F.slot_list_append PySem.F.type_list_append mt_append (pv 1) (pa_cons (pv 2) pa_nil)))
      (pss_one (ps_set (i := 2) sc_figures.nd rfl (.inl rfl) (pe_op op_add (pv 3) (pe_op op_mul pe_int (pv 2)))))))
      (pss_one (ps_ret (pv 1)))))), ?_⟩
    refine q_asgL (xs := []) (el_lst ea_nil (by decide)) fun p H1 hp e1 h1 => ?_
    refine q_asg ev_c fun H2 e2 => ?_
    refine q_forLn (xs := ii xs) (ev_var rfl) (ex_l (e1.trans e2) hA)
      (fun i σ H' => ∃ x3, σ = [some (.ref a), some (.ref p), some (.int (nx xs i)), x3] ∧ Ex H H' ∧ H' p = some (.lst (ii (figs xs i)))) (fun H3 e3 => ⟨none, rfl, (e1.trans e2).trans e3, (e2.trans e3) _ _ h1⟩) (fun i σ H' _ ⟨_, _, e, _⟩ => ex_l e hA) ?_ ?_
    · rintro i x σ H' hi ⟨x3, rfl, e, hP⟩
      have hil : i < xs.length := by have := (List.getElem?_eq_some_iff.mp hi).1; rw [ii_len] at this; exact this
      have hx := (ii_get hil).symm.trans hi
      cases hx
      refine q_app hP (ev_var rfl) (v := .int (nx xs i)) (ev_var rfl) (by rw [ii_len, figs_len]; omega) fun H5 e5 => ?_
      refine s_asg (v := .int (nx xs (i + 1))) (ev_is (ev_op (ev_var rfl) (ev_op ev_c (ev_var rfl) (rv_I (.inl ⟨by decide, by decide⟩))) rv_I0) (by rw [nx_succ])) fun H6 e6 => ?_
      refine ⟨_, rfl, (Ex.mut (e.trans e5) hp).trans e6, e6 _ _ ?_⟩
      rw [upd_same]
      congr 2
      show _ = ii (figs xs (i + 1))
      rw [figs_succ]
      show _ = List.map V.int _
      rw [List.map_append]
      rfl
    · rintro σ H' ⟨x3, rfl, e, hP⟩
      rw [ii_len] at hP
      exact s_ret (ev_var rfl) fun H5 e5 => k p H5 hp (e.trans e5) (e5 _ _ hP)
theorem sp_figs {a : Addr} {xs : List Int} {H : Hp} (hA : SqL K H a (ii xs)) (hz : xs.length ≤ 1000) : SpL (spFigs K) [.ref a] H (ii (figs xs xs.length)) :=
  fun H1 e Q q E => ⟨a, xs, rfl, ex_l e hA, hz, q⟩
/-! ### Tails -/
def tYear (n : Nat) : List Int := copies (n + 1)
def tYears (n : Nat) : List Int := wmore (tYear n) 2000 (tYear n) 5
def tBM (n : Nat) : Nat → List (List Int)
  | 0 => [tYears n]
  | i + 1 => let b := tBM n i; wmore (tYears n) 234 (figs (b.headD []) (n + 1)) 2 :: b
def tIM (n : Nat) : Nat → List (List Int)
  | 0 => []
  | i + 1 => figs ((tBM n i).headD []) (n + 1) :: tIM n i
def tPts (n : Nat) : List Int := figs ((tBM n 3).headD []) (n + 1)
def tBN (n : Nat) : List Int := wmore ((tBM n 3).headD []) 9 (tPts n) 1
def tNum (n : Nat) : List Int := (List.range (n + 1)).map fun (l : Nat) => (nums (tBN n) l).sum
def tTwo (n : Nat) : List Int := wmore (tNum n) 26 (tNum n) 1
def tOne (n : Nat) : List Int := wmore (tNum n) 26 (tTwo n) 1
def tLet (n : Nat) : List Int := wmore (List.replicate (n + 1) 0) 26 (tOne n) 1
def tTot (n : Nat) : Int := (tLet n).getD n 0
theorem tYear_len (n : Nat) : (tYear n).length = n + 1 := copies_len _
theorem tYears_len (n : Nat) : (tYears n).length = n + 1 := (wmore_len ..).trans (tYear_len n)
theorem tBM_len (n : Nat) : ∀ i, ((tBM n i).headD []).length = n + 1
  | 0 => tYears_len n
  | i + 1 => (wmore_len ..).trans (tYears_len n)
theorem tBM_ne (n : Nat) : ∀ i, tBM n i = (tBM n i).headD [] :: (tBM n i).tail
  | 0 => rfl
  | i + 1 => rfl
theorem tBM_cnt (n : Nat) : ∀ i, (tBM n i).length = i + 1
  | 0 => rfl
  | i + 1 => congrArg Nat.succ (tBM_cnt n i)
theorem tIM_cnt (n : Nat) : ∀ i, (tIM n i).length = i
  | 0 => rfl
  | i + 1 => congrArg Nat.succ (tIM_cnt n i)
theorem tPts_len (n : Nat) : (tPts n).length = n + 1 := figs_len ..
theorem tBN_len (n : Nat) : (tBN n).length = n + 1 := (wmore_len ..).trans (tBM_len n 3)
theorem tNum_len (n : Nat) : (tNum n).length = n + 1 := by unfold tNum; rw [List.length_map, List.length_range]
theorem tTwo_len (n : Nat) : (tTwo n).length = n + 1 := (wmore_len ..).trans (tNum_len n)
theorem tOne_len (n : Nat) : (tOne n).length = n + 1 := (wmore_len ..).trans (tNum_len n)
theorem tLet_len (n : Nat) : (tLet n).length = n + 1 := (wmore_len ..).trans List.length_replicate
abbrev refs (as : List Addr) : List V := as.map V.ref
/-- lists of ints, by their places -/
abbrev RL (kb : Hp) (as : List Addr) (xss : List (List Int)) : Prop := Paired (fun a xs => kb a = some (.lst (ii xs))) as xss
theorem RL.mono {kb kb' : Hp} {as : List Addr} {xss : List (List Int)} (h : RL kb as xss) (e : Ex kb kb') : RL kb' as xss := Paired.mapP h fun _ _ q => e _ _ q
structure TailsAt (C : Addr) (H : Hp) (x : Addr) (n : Nat) : Prop where
  ex : ∃ (dx a1 a2 a3 a4 : Addr) (as bs : List Addr),
    H x = some (.ins C dx [("most", .int (n : Int)), ("behind_year", .ref a1), ("behind_makers", .ref a2), ("in_maker", .ref a3), ("in_points", .ref a4)]) ∧
    H a1 = some (.lst (ii (tYear n))) ∧ H a2 = some (.lst (refs as)) ∧ RL H as (tBM n 3) ∧ H a3 = some (.lst (refs bs)) ∧ RL H bs (tIM n 3) ∧ H a4 = some (.lst (ii (tPts n)))
theorem TailsAt.mono {C : Addr} {H H' : Hp} {x : Addr} {n : Nat} (h : TailsAt C H x n) (e : Ex H H') : TailsAt C H' x n := by
  obtain ⟨dx, a1, a2, a3, a4, as, bs, h0, h1, h2, h3, h4, h5, h6⟩ := h.ex
  exact ⟨dx, a1, a2, a3, a4, as, bs, e _ _ h0, e _ _ h1, e _ _ h2, h3.mono e, e _ _ h4, h5.mono e, e _ _ h6⟩
def spTails (C : Addr) : Sp := fun vs H Q _ => ∃ (H0 : Hp) (x dx : Addr) (n : Nat), vs = [.ref x, .int (n : Int)] ∧ n ≤ 900 ∧ Ex H0 H ∧ H0 x = none ∧ H x = some (.ins C dx []) ∧ ∀ H', Ex H0 H' → TailsAt C H' x n → Q .non H'
theorem ok_Tails_init (T : Txt K mg Z) : FnOk P w K mg base CX0 2 Z.a_Tails_init Z.d_Tails_init ["self", "most"] (spTails Z.C_Tails) := by
  refine T.F_Tails_init.ok sc_Tails_init (fun vs H Q E h => ?_) (fun cdv A outer s H vs Q E hr h => ?_)
  · obtain ⟨_, _, _, _, rfl, _⟩ := h; rfl
  · obtain ⟨H0, x, dx, n, rfl, hn, e0, hx0, hx, k⟩ := h
    refine ⟨_, (pss_cons (ps_fld (pv 0) (pv 1) rfl)
      (pss_cons (ps_fld (pv 0) (pe_call (ok_copies T) (hr.mono (by decide)) rfl T.g_copies T.F_copies.kp T.b_copies .nil pass0 (pa_cons (pv 1) pa_nil)) rfl)
      (pss_cons (ps_set (i := 2) sc_Tails_init.nd rfl (.inl rfl) (pe_call (ok_with_more T) (hr.mono (by decide)) rfl T.g_with_more T.F_with_more.kp T.b_with_more .nil pass0 (pa_cons (fldK K (pv 0) rfl) (pa_cons pe_int (pa_cons (fldK K (pv 0) rfl) (pa_cons pe_int pa_nil))))))
      (pss_cons (ps_fld (pv 0) (pe_lst (pa_cons (pv 2) pa_nil)) rfl)
      (pss_cons (ps_fld (pv 0) (pe_lst pa_nil) rfl)
      (pss_cons (ps_for PassesOwn.never rfl (pi_range1 rfl T.n_range (pa_cons (pe_gi rfl T.c_MOST_MAKERS) pa_nil)) (pg_name (i := 3) sc_Tails_init.nd rfl (.inl rfl)) (pss_cons (ps_expr (bmK K PySem.F.plainAttrs_list PySem.F.slot_list_insert PySem.F.type_list_insert (show MtR _ _ rIns from mt_insert) (fldK K (pv 0) rfl) (pa_cons pe_int (pa_cons (pe_call (ok_figures T) (hr.mono (by decide)) rfl T.g_figures T.F_figures.kp T.b_figures .nil pass0 (pa_cons (pe_ix (ixL K) (fldK K (pv 0) rfl) pe_int (fun _ _ => rfl)) pa_nil)) pa_nil))))
      (pss_one (ps_expr (bmK K PySem.F.plainAttrs_list PySem.F.slot_list_insert PySem.F.type_list_insert (show MtR _ _ rIns from mt_insert) (fldK K (pv 0) rfl) (pa_cons pe_int (pa_cons (pe_call (ok_with_more T) (hr.mono (by decide)) rfl T.g_with_more T.F_with_more.kp T.b_with_more .nil pass0 (pa_cons (pv 2) (pa_cons (pe_op op_mul pe_int (pe_gi rfl T.c_LAST_FIGURES)) (pa_cons (pe_ix (ixL K) (fldK K (pv 0) rfl) pe_int (fun _ _ => rfl)) (pa_cons pe_int pa_nil))))) pa_nil)))))))
      (pss_one (ps_fld (pv 0) (pe_call (ok_figures T) (hr.mono (by decide)) rfl T.g_figures T.F_figures.kp T.b_figures .nil pass0 (pa_cons (pe_ix (ixL K) (fldK K (pv 0) rfl) pe_int (fun _ _ => rfl)) pa_nil)) rfl)))))))), ?_⟩
    have s0 : ST H0 H [(x, .ins Z.C_Tails dx [])] := ⟨e0, fun p hp => by
      rcases List.mem_singleton.mp hp with rfl
      exact ⟨hx0, hx⟩, List.pairwise_singleton ..⟩
    refine st_fldv s0 (ev_var rfl) (ev_var rfl) T.cl_Tails T.na_Tails_most (by simp) (fs' := [(("most" : Str), V.int (n : Int))]) (by kernel_rfl) fun H1 s1 => ?_
    refine st_fldl s1 (xs := ii (tYear n)) (el_call (ea_cons (ev_var rfl) ea_nil) fun H2 e2 Q q E => ⟨n, rfl, by omega, q⟩) (ev_var rfl) T.cl_Tails T.na_Tails_behind_year (by simp) fun a1 H2 g1 s2 => ?_
    have f2 : putF "behind_year" (.ref a1) [(("most" : Str), V.int (n : Int))] = [(("most" : Str), V.int (n : Int)), ("behind_year", .ref a1)] := by kernel_rfl
    rw [f2] at s2
    have k1 : upd H0 a1 (.lst (ii (tYear n))) a1 = some (.lst (ii (tYear n))) := upd_same
    refine q_asgL (xs := ii (tYears n)) (el_call (ea_cons (ev_fld (ev_var rfl) s2.at1 T.cl_Tails T.na_Tails_behind_year (by kernel_rfl)) (ea_cons ev_c (ea_cons (ev_fld (ev_var rfl) s2.at1 T.cl_Tails T.na_Tails_behind_year (by kernel_rfl)) (ea_cons ev_c ea_nil))))
      (sp_wmore (s2.l k1) (s2.l k1) rfl (by rw [tYear_len]; omega) (by decide) (by decide))) fun ay H3 hay e3 h3 => ?_
    have s3 := s2.new hay e3 h3
    have k3 := (upd_same (H := upd H0 a1 (.lst (ii (tYear n)))) (a := ay) (o := .lst (ii (tYears n))))
    have g3 := g1.trans (s2.kb_ex (o := .lst (ii (tYears n))) hay)
    have k31 := s2.kb_ex (o := .lst (ii (tYears n))) hay _ _ k1
    generalize hkb : upd (upd H0 a1 (.lst (ii (tYear n)))) ay (.lst (ii (tYears n))) = kb at s3 k3 g3 k31
    refine st_fldm s3 (xs := [V.ref ay]) (el_lst (ea_cons (ev_var rfl) ea_nil) (by simp)) (ev_var rfl) T.cl_Tails T.na_Tails_behind_makers (by simp) fun a2 H4 s4 => ?_
    have f4 : putF "behind_makers" (.ref a2) [(("most" : Str), V.int (n : Int)), ("behind_year", .ref a1)] = [(("most" : Str), V.int (n : Int)), ("behind_year", .ref a1), ("behind_makers", .ref a2)] := by kernel_rfl
    rw [f4] at s4
    refine st_fldm (s4.perm (.swap ..)) (xs := []) (el_lst ea_nil (by decide)) (ev_var rfl) T.cl_Tails T.na_Tails_in_maker (by simp) fun a3 H5 s5 => ?_
    have f5 : putF "in_maker" (.ref a3) [(("most" : Str), V.int (n : Int)), ("behind_year", .ref a1), ("behind_makers", .ref a2)] = [(("most" : Str), V.int (n : Int)), ("behind_year", .ref a1), ("behind_makers", .ref a2), ("in_maker", .ref a3)] := by kernel_rfl
    rw [f5] at s5
    have s5' := s5.perm ((List.Perm.swap ..).trans (List.Perm.cons _ (List.Perm.swap ..)))
    generalize hfs : [(("most" : Str), V.int (n : Int)), ("behind_year", .ref a1), ("behind_makers", .ref a2), ("in_maker", .ref a3)] = fs at s5'
    have lb : List.lookup ("behind_makers" : Str) fs = some (.ref a2) := by rw [← hfs]; kernel_rfl
    have li : List.lookup ("in_maker" : Str) fs = some (.ref a3) := by rw [← hfs]; kernel_rfl
    refine q_forR1 (n := 3) (ea_cons ev_c ea_nil) ⟨by decide, by decide⟩
      (fun i σ H' => ∃ x3 kb' as bs, σ = [some (.ref x), some (.int (n : Int)), some (.ref ay), x3] ∧ Ex kb kb' ∧ ST kb' H' [(x, .ins Z.C_Tails dx fs), (a2, .lst (refs as)), (a3, .lst (refs bs))] ∧ RL kb' as (tBM n i) ∧ RL kb' bs (tIM n i))
      (fun H6 e6 => ⟨none, kb, [ay], [], rfl, Ex.refl _, s5'.ext e6, .cons k3 .nil, .nil⟩) ?_ ?_
    · rintro i σ H' hi ⟨x3, kb', as, bs, rfl, ekb, s, hA, hB⟩
      have hh := hA
      rw [tBM_ne n i] at hh
      cases hh with
      | @cons a0 _ ar _ h0 hr0 =>
        have hlen := tBM_len n i
        have i0 : atI (refs (a0 :: ar)) 0 = some (.ref a0) := atI_nat (j := 0) rfl
        have asl : (refs (a0 :: ar)).length ≤ 1000 := by
          have q := Paired.length hA
          rw [tBM_cnt] at q
          rw [List.length_map]
          omega
        have bsl : (refs bs).length ≤ 1000 := by
          have q := Paired.length hB
          rw [tIM_cnt] at q
          rw [List.length_map]
          omega
        refine q_ins0L s.at3 (ev_fld (ev_var rfl) s.at1 T.cl_Tails T.na_Tails_in_maker li) (ys := ii (figs ((tBM n i).headD []) (n + 1))) (el_call (ea_cons (ev_op (ev_fld (ev_var rfl) s.at1 T.cl_Tails T.na_Tails_behind_makers lb) ev_c (rv_ixL (sq_of s.at2) i0)) ea_nil)
          (by have := sp_figs (K := K) (s.l h0) (by omega); rw [hlen] at this; exact this)) (by omega) fun p H6 hp e6 h6 => ?_
        have s6 := (s.new hp e6 h6).set3 (u := .lst (.ref p :: refs bs))
        have g6 := s.kb_ex (o := .lst (ii (figs ((tBM n i).headD []) (n + 1)))) hp
        have i1 : atI (V.ref p :: refs bs) 0 = some (.ref p) := atI_nat (j := 0) rfl
        refine s_ins0L s6.at2 (ev_fld (ev_var rfl) s6.at1 T.cl_Tails T.na_Tails_behind_makers lb) (ys := ii (wmore (tYears n) 234 (figs ((tBM n i).headD []) (n + 1)) 2)) (el_call (ea_cons (ev_var rfl) (ea_cons (ev_is (w := .int 234) (ev_op ev_c ev_c (rv_I (.inl ⟨by decide, by decide⟩))) rfl) (ea_cons (ev_op (ev_fld (ev_var rfl) s6.at1 T.cl_Tails T.na_Tails_in_maker li) ev_c (rv_ixL (sq_of s6.at3) i1)) (ea_cons ev_c ea_nil))))
          (sp_wmore (s6.l ((ekb.trans g6) _ _ k3)) (s6.l upd_same) (by rw [tYears_len, figs_len]) (by rw [tYears_len]; omega) (by decide) (by decide))) (by omega) fun r H7 hr e7 h7 => ?_
        have s7 := (s6.new hr e7 h7).set2 (u := .lst (.ref r :: refs (a0 :: ar)))
        have g7 := s6.kb_ex (o := .lst (ii (wmore (tYears n) 234 (figs ((tBM n i).headD []) (n + 1)) 2))) hr
        exact ⟨_, _, r :: a0 :: ar, p :: bs, rfl, (ekb.trans g6).trans g7, s7, .cons upd_same (RL.mono hA (g6.trans g7)), .cons (g7 _ _ upd_same) (RL.mono hB (g6.trans g7))⟩
    · rintro σ H' ⟨x3, kb', as, bs, rfl, ekb, s, hA, hB⟩
      have hlen := tBM_len n 3
      have hh := hA
      rw [show (3 : Int).toNat = 3 from rfl, tBM_ne n 3] at hh
      cases hh with
      | @cons a0 _ ar _ h0 hr0 =>
      have i0 : atI (refs (a0 :: ar)) 0 = some (.ref a0) := atI_nat (j := 0) rfl
      refine s_fldL (xs := ii (tPts n)) (el_call (ea_cons (ev_op (ev_fld (ev_var rfl) s.at1 T.cl_Tails T.na_Tails_behind_makers lb) ev_c (rv_ixL (sq_of s.at2) i0)) ea_nil)
          (by have := sp_figs (K := K) (s.l h0) (by omega); rw [hlen] at this; exact this)) (ev_var rfl) s.at1 T.cl_Tails T.na_Tails_in_points (by rw [← hfs]; simp) fun a4 H6 ha4 e6 h6 => ?_
      have s6 := (s.new ha4 e6 h6).set (u := .ins Z.C_Tails dx (putF "in_points" (.ref a4) fs))
      have g6 := s.kb_ex (o := .lst (ii (tPts n))) ha4
      have f6 : putF "in_points" (.ref a4) fs = [(("most" : Str), V.int (n : Int)), ("behind_year", .ref a1), ("behind_makers", .ref a2), ("in_maker", .ref a3), ("in_points", .ref a4)] := by rw [← hfs]; kernel_rfl
      rw [f6] at s6 ⊢
      refine k _ (((g3.trans ekb).trans g6).trans s6.e) ⟨dx, a1, a2, a3, a4, a0 :: ar, bs, s6.at1, s6.e _ _ ((ekb.trans g6) _ _ k31), s6.at2, hA.mono (g6.trans s6.e), s6.at3, hB.mono (g6.trans s6.e), s6.e _ _ upd_same⟩
end
section
variable {P : Program} {w : World} {K : PySem.W.Frag} {mg : Str → Option Value} {base : Heap} {Z : Adr}
theorem fs_lookup {n : Nat} {a1 a2 a3 a4 : Addr} {v : V} {f : Str} (h : List.lookup f [(("most" : Str), V.int (n : Int)), ("behind_year", .ref a1), ("behind_makers", .ref a2), ("in_maker", .ref a3), ("in_points", .ref a4)] = some v) : List.lookup f [(("most" : Str), V.int (n : Int)), ("behind_year", .ref a1), ("behind_makers", .ref a2), ("in_maker", .ref a3), ("in_points", .ref a4)] = some v := h
theorem bn_get {n : Nat} {l : Nat} (h : l ≤ n) : (tBN n).getD l 0 = ((tBM n 3).headD []).getD l 0 + 9 * cnt (tPts n) ((l : Int) - 1) := by
  unfold tBN wmore
  rw [List.getD_eq_getElem?_getD, List.getElem?_map, List.getElem?_range (by rw [tBM_len]; omega)]
  rfl
def spBN (C : Addr) : Sp := fun vs H Q _ => ∃ (x : Addr) (n : Nat) (l : Int), vs = [.ref x, .int l] ∧ TailsAt C H x n ∧ n ≤ 900 ∧ l ≤ n ∧ RetV (.int (cnt (tBN n) l)) H Q
theorem ok_Tails_behind_number (T : Txt K mg Z) : FnOk P w K mg base CX0 2 Z.a_Tails_behind_number Z.d_Tails_behind_number ["self", "left"] (spBN Z.C_Tails) := by
  refine T.F_Tails_behind_number.ok sc_Tails_behind_number (fun vs H Q E h => ?_) (fun cdv A outer s H vs Q E hr h => ?_)
  · obtain ⟨_, _, _, rfl, _⟩ := h; rfl
  · obtain ⟨x, n, l, rfl, ht, hn, hl, k⟩ := h
    refine ⟨_, (pss_cons (ps_if (pt_cmpR op_lt (pv 1) pe_int (nomark _)) (pss_one (ps_ret (pe_call (ok_counted T) (hr.mono (by decide)) rfl T.g_counted T.F_counted.kp T.b_counted .nil pass0 (pa_cons (pe_ix (ixL K) (fldK K (pv 0) rfl) pe_int (fun _ _ => rfl)) (pa_cons (pv 1) pa_nil))))) pss_nil)
      (pss_one (ps_ret (pe_op op_add (pe_ix (ixL K) (pe_ix (ixL K) (fldK K (pv 0) rfl) pe_int (fun _ _ => rfl)) (pv 1) (fun _ _ => rfl)) (pe_op op_mul (pe_gi rfl T.c_LAST_FIGURES) (pe_ix (ixL K) (fldK K (pv 0) rfl) (pe_op op_sub (pv 1) pe_int) (fun _ _ => rfl))))))), ?_⟩
    obtain ⟨dx, a1, a2, a3, a4, as, bs, h0, h1, h2, h3, h4, h5, h6⟩ := ht.ex
    have hh := h3
    rw [tBM_ne n 3] at hh
    have hlen := tBM_len n 3
    cases hh with
    | @cons a0 _ ar _ hb hr0 =>
    have i0 : atI (refs (a0 :: ar)) 0 = some (.ref a0) := atI_nat (j := 0) rfl
    refine q_when (b := decide (l < 1)) (et_test (ev_op (ev_var rfl) ev_c rv_I0)) (fun hb1 H1 e1 => ?_) (fun hb1 H1 e1 => ?_)
    · have hl1 : l < 1 := of_decide_eq_true hb1
      have ev : cnt ((tBM n 3).headD []) l = cnt (tBN n) l := by
        by_cases h00 : 0 ≤ l
        · obtain rfl : l = 0 := by omega
          show ((tBM n 3).headD []).getD 0 0 = (tBN n).getD 0 0
          rw [bn_get (Nat.zero_le _)]
          show _ = _ + 9 * 0
          omega
        · rw [show cnt (tBN n) l = 0 from if_neg h00]
          exact if_neg h00
      exact s_ret (v := .int (cnt (tBN n) l)) (ev_is (ev_call (ea_cons (ev_op (ev_fld (ev_var rfl) (e1 _ _ h0) T.cl_Tails T.na_Tails_behind_makers (by kernel_rfl)) ev_c (rv_ixL (sq_of (e1 _ _ h2)) i0)) (ea_cons (ev_var rfl) ea_nil)) (sp_counted (sq_of (e1 _ _ hb)) (by omega))) (by rw [ev])) fun H2 e2 => k _ (e1.trans e2)
    · have hl1 : ¬ l < 1 := of_decide_eq_false hb1
      obtain ⟨j, rfl⟩ := Int.eq_ofNat_of_zero_le (show 0 ≤ l by omega)
      have ev : ((tBM n 3).headD []).getD j 0 + 9 * (tPts n).getD (j - 1) 0 = cnt (tBN n) (j : Int) := by
        rw [show cnt (tBN n) (j : Int) = (tBN n).getD j 0 from if_pos (by omega), bn_get (by omega), show cnt (tPts n) ((j : Int) - 1) = (tPts n).getD ((j : Int) - 1).toNat 0 from if_pos (by omega), show ((j : Int) - 1).toNat = j - 1 by omega]
      exact s_ret (v := .int (cnt (tBN n) (j : Int))) (ev_is (ev_op (ev_op (ev_op (ev_fld (ev_var rfl) (e1 _ _ h0) T.cl_Tails T.na_Tails_behind_makers (by kernel_rfl)) ev_c (rv_ixL (sq_of (e1 _ _ h2)) i0)) (ev_var rfl) (rv_ixL (sq_of (e1 _ _ hb)) (atI_nat (ii_get (by omega)))))
        (ev_op ev_c (ev_op (ev_fld (ev_var rfl) (e1 _ _ h0) T.cl_Tails T.na_Tails_in_points (by kernel_rfl)) (ev_is (w := .int ((j - 1 : Nat) : Int)) (ev_op (ev_var rfl) ev_c rv_I0) (by congr 1; omega)) (rv_ixL (sq_of (e1 _ _ h6)) (atI_nat (ii_get (by rw [tPts_len]; omega))))) (rv_I (.inl ⟨by decide, by decide⟩))) rv_I0) (by rw [ev])) fun H2 e2 => k _ (e1.trans e2)
def bl (n : Nat) (l : Int) : Int := (nums (tBN n) l).sum
def spBL (C : Addr) : Sp := fun vs H Q _ => ∃ (x : Addr) (n : Nat) (l : Int), vs = [.ref x, .int l] ∧ TailsAt C H x n ∧ n ≤ 900 ∧ l ≤ n ∧ RetV (.int (bl n l)) H Q
theorem ok_Tails_behind_letters (T : Txt K mg Z) : FnOk P w K mg base CX0 3 Z.a_Tails_behind_letters Z.d_Tails_behind_letters ["self", "left"] (spBL Z.C_Tails) := by
  refine T.F_Tails_behind_letters.ok sc_Tails_behind_letters (fun vs H Q E h => ?_) (fun cdv A outer s H vs Q E hr h => ?_)
  · obtain ⟨_, _, _, rfl, _⟩ := h; rfl
  · obtain ⟨x, n, l, rfl, ht, hn, hl, k⟩ := h
    refine ⟨_, (pss_one (ps_ret (pe_callB (sumK K rfl) (by rfl) T.n_sum (by decide +kernel) (pa_cons (pe_lc (own := [("figures", 2), ("many", 3)]) (g := (gTup K 2 (gCons (gName 2) (gCons (gName 3) gNil)))) (tt := tYes) rfl sc_Tails_behind_letters.nd (pi_tup (pe_glob (v := .ref Z.k_NUMBERS) rfl T.c_NUMBERS rfl)) (blkOk_by (own := [("figures", 2), ("many", 3)]) (N := ["self", "left", "figures", "many"]) (sc := defScope s_Tails_behind_letters) (by decide +kernel)) (fun _ _ _ _ _ => (pg_tup rfl (pgs_cons (pg_name (i := 2) sc_Tails_behind_letters.nd rfl (.inl rfl)) (pgs_cons (pg_name (i := 3) sc_Tails_behind_letters.nd rfl (.inl rfl)) pgs_nil)))) (fun _ _ _ _ _ => pts_nil) (fun _ _ _ _ _ => (pe_op op_mul (pv 3) (pe_meth (pv 0) T.cl_Tails T.m_Tails_behind_number (ok_Tails_behind_number T) (hr.mono (by decide)) T.b_Tails_behind_number .nil pass0 (pa_cons (pe_op op_sub (pv 1) (pv 2)) pa_nil))))) pa_nil)))), ?_⟩
    obtain ⟨dx, a1, a2, a3, a4, as, bs, h0, _⟩ := ht.ex
    refine s_ret (ev_sumN (ns := nums (tBN n) l) (fun H1 e1 Q' q' => ⟨_, rfl, ⟨_, T.t_NUMBERS _⟩, fun D hD => lc_it (walk_tup (K := K)) (fun i H' => Ex H1 H' ∧ H' D = some (.lst (ii ((nums (tBN n) l).take i)))) ⟨Ex.new hD, upd_same⟩ (fun i H' _ _ => T.t_NUMBERS H') ?_ ?_⟩)) k
    · rintro i y H2 H3 hi ⟨e2, h2⟩ ⟨rfl, hy⟩
      obtain ⟨q, f, m, ey, hq, hm, hf, he⟩ : ∃ (q : Addr) (f m : Int), y = .ref q ∧ SqT K H3 q [.int f, .int m] ∧ (0 ≤ m ∧ m ≤ 10000) ∧ 1 ≤ f ∧ (nums (tBN n) l)[i]? = some (m * cnt (tBN n) (l - f)) := by
        rcases i with _ | _ | _ | _ | i
        · cases hy; exact ⟨_, 1, 9, rfl, T.t_NUMBERS_0 _, by decide, by decide, by show some (9 * (10 : Int) ^ 0 * cnt (tBN n) (l - 1 - ((0 : Nat) : Int))) = _; congr 2; congr 1; omega⟩
        · cases hy; exact ⟨_, 2, 90, rfl, T.t_NUMBERS_1 _, by decide, by decide, by show some (9 * (10 : Int) ^ 1 * cnt (tBN n) (l - 1 - ((1 : Nat) : Int))) = _; congr 2; congr 1; omega⟩
        · cases hy; exact ⟨_, 3, 900, rfl, T.t_NUMBERS_2 _, by decide, by decide, by show some (9 * (10 : Int) ^ 2 * cnt (tBN n) (l - 1 - ((2 : Nat) : Int))) = _; congr 2; congr 1; omega⟩
        · cases hy; exact ⟨_, 4, 9000, rfl, T.t_NUMBERS_3 _, by decide, by decide, by show some (9 * (10 : Int) ^ 3 * cnt (tBN n) (l - 1 - ((3 : Nat) : Int))) = _; congr 2; congr 1; omega⟩
        · exact absurd hi (by show ¬ i + 4 < 4; omega)
      subst ey
      refine ⟨q, _, rfl, hq, rfl, _, _, rfl, _, _, rfl, rfl, rfl, ?_⟩
      dsimp only [tYes]
      rw [if_pos rfl]
      have hl' : (ii ((nums (tBN n) l).take i)).length < 100000 := by rw [ii_len, List.length_take, show (nums (tBN n) l).length = 4 by unfold nums; rw [List.length_map, List.length_range]]; omega
      refine ev_use (v := .int (m * cnt (tBN n) (l - f))) (ev_op (ev_var rfl) (ev_meth (ev_var rfl) ((e1.trans e2) _ _ h0) (by kernel_rfl) (ea_cons (ev_op (ev_var rfl) (ev_var rfl) rv_I0) ea_nil) (fun H5 e5 Q5 q5 E5 => ⟨x, n, l - f, rfl, ht.mono ((e1.trans e2).trans e5), hn, by omega, q5⟩)) (rv_I (.inl ⟨by omega, by omega⟩))) fun H6 e6 => ⟨ii ((nums (tBN n) l).take i), e6 _ _ h2, sz_lt hl', Ex.mut (e2.trans e6) hD, ?_⟩
      rw [upd_same]
      congr 2
      show _ = List.map V.int ((nums (tBN n) l).take (i + 1))
      rw [List.take_add_one, he, List.map_append]
      rfl
    · rintro H4 ⟨e4, h4⟩
      rw [List.take_of_length_le (by unfold nums; rw [List.length_map, List.length_range]; exact Nat.le_refl _)] at h4
      exact q' D H4 hD e4 h4
def tIn (n : Nat) : Nat → Int → Int
  | 0, l => cnt (tLet n) l
  | 1, l => cnt (tOne n) l
  | 2, l => cnt (tTwo n) l
  | _, l => bl n l
theorem bl_neg {n : Nat} {l : Int} (h : l < 0) : bl n l = 0 := by
  unfold bl nums
  rw [show (List.range 4).map (fun (m : Nat) => 9 * (10 : Int) ^ m * cnt (tBN n) (l - 1 - (m : Int))) = (List.range 4).map (fun _ => (0 : Int)) from List.map_congr_left fun m _ => by
    rw [show cnt (tBN n) (l - 1 - (m : Int)) = 0 from if_neg (by omega), Int.mul_zero]]
  rfl
theorem num_cnt {n : Nat} {l : Int} (h : l ≤ n) : cnt (tNum n) l = bl n l := by
  by_cases h0 : 0 ≤ l
  · obtain ⟨j, rfl⟩ := Int.eq_ofNat_of_zero_le h0
    rw [show cnt (tNum n) (j : Int) = (tNum n).getD j 0 from if_pos h0]
    unfold tNum
    rw [List.getD_eq_getElem?_getD, List.getElem?_map, List.getElem?_range (by omega)]
    rfl
  · rw [bl_neg (by omega)]
    exact if_neg h0
theorem wm_cnt {e : List Int} {c : Int} {m : List Int} {l : Int} (h : l < e.length) : cnt (wmore e c m 1) l = cnt e l + c * cnt m (l - 1) := by
  by_cases h0 : 0 ≤ l
  · obtain ⟨j, rfl⟩ := Int.eq_ofNat_of_zero_le h0
    rw [show cnt (wmore e c m 1) (j : Int) = (wmore e c m 1).getD j 0 from if_pos h0, show cnt e (j : Int) = e.getD j 0 from if_pos h0]
    unfold wmore
    rw [List.getD_eq_getElem?_getD, List.getElem?_map, List.getElem?_range (by omega)]
    rfl
  · rw [show cnt (wmore e c m 1) l = 0 from if_neg h0, show cnt e l = 0 from if_neg h0, show cnt m (l - 1) = 0 from if_neg (by omega)]
    omega
theorem tIn_step {n m : Nat} {l : Int} (hl : l ≤ n) (hm : m < 3) : (if 0 < m then bl n l else 0) + 26 * tIn n (m + 1) (l - 1) = tIn n m l := by
  rcases m with _ | _ | _ | m
  · show 0 + 26 * cnt (tOne n) (l - 1) = cnt (tLet n) l
    unfold tLet
    rw [wm_cnt (by rw [List.length_replicate]; omega)]
    congr 1
    unfold cnt
    by_cases h0 : 0 ≤ l
    · rw [if_pos h0, List.getD_eq_getElem?_getD, List.getElem?_replicate]
      split <;> rfl
    · rw [if_neg h0]
  · show bl n l + 26 * cnt (tTwo n) (l - 1) = cnt (tOne n) l
    unfold tOne
    rw [wm_cnt (by rw [tNum_len]; omega), num_cnt hl]
  · show bl n l + 26 * bl n (l - 1) = cnt (tTwo n) l
    unfold tTwo
    rw [wm_cnt (by rw [tNum_len]; omega), num_cnt hl, num_cnt (by omega)]
  · omega
def spIn (C : Addr) (j : Nat) : Sp := fun vs H Q _ => ∃ (x : Addr) (n m : Nat) (l : Int), vs = [.ref x, .int (m : Int), .int l] ∧ TailsAt C H x n ∧ n ≤ 900 ∧ l ≤ n ∧ m ≤ 3 ∧ 3 < m + j ∧ RetV (.int (tIn n m l)) H Q
theorem ok_in_0 (T : Txt K mg Z) : FnOk P w K mg base CX0 4 Z.a_Tails_in_letters Z.d_Tails_in_letters ["self", "many", "left"] (spIn Z.C_Tails 0) := by
  refine T.F_Tails_in_letters.ok sc_Tails_in_letters (fun vs H Q E h => ?_) (fun cdv A outer s H vs Q E hr h => ?_)
  · obtain ⟨_, _, _, _, rfl, _⟩ := h; rfl
  · obtain ⟨x, n, m, l, rfl, ht, hn, hl, hm, hj, k⟩ := h
    exact absurd hj (by omega)
theorem ok_in_1 (T : Txt K mg Z) : FnOk P w K mg base CX0 5 Z.a_Tails_in_letters Z.d_Tails_in_letters ["self", "many", "left"] (spIn Z.C_Tails 1) := by
  refine T.F_Tails_in_letters.ok sc_Tails_in_letters (fun vs H Q E h => ?_) (fun cdv A outer s H vs Q E hr h => ?_)
  · obtain ⟨_, _, _, _, rfl, _⟩ := h; rfl
  · obtain ⟨x, n, m, l, rfl, ht, hn, hl, hm, hj, k⟩ := h
    have ok_Tails_in_letters (T : Txt K mg Z) : FnOk P w K mg base CX0 4 Z.a_Tails_in_letters Z.d_Tails_in_letters ["self", "many", "left"] (spIn Z.C_Tails 0) := ok_in_0 T
    refine ⟨_, (pss_cons (ps_set (i := 3) sc_Tails_in_letters.nd rfl (.inl rfl) (pe_ifExp (pt_cmpR op_gt (pv 1) pe_int (nomark _)) (pe_meth (pv 0) T.cl_Tails T.m_Tails_behind_letters (ok_Tails_behind_letters T) (hr.mono (by decide)) T.b_Tails_behind_letters .nil pass0 (pa_cons (pv 2) pa_nil)) pe_int))
      (pss_cons (ps_if (pt_cmpR op_lt (pv 1) (pe_gi rfl T.c_MOST_LETTERS) (nomark _)) (pss_one (ps_ret (pe_op op_add (pv 3) (pe_op op_mul pe_int (pe_meth (pv 0) T.cl_Tails T.m_Tails_in_letters (ok_Tails_in_letters T) (hr.mono (by decide)) T.b_Tails_in_letters .nil pass0 (pa_cons (pe_op op_add (pv 1) pe_int) (pa_cons (pe_op op_sub (pv 2) pe_int) pa_nil))))))) pss_nil)
      (pss_one (ps_ret (pv 3))))), ?_⟩
    obtain ⟨dx, a1, a2, a3, a4, as, bs, h0, _⟩ := ht.ex
    refine q_asg (v := .int (if 0 < m then bl n l else 0)) (ev_if (b := decide ((m : Int) > 0)) (et_test (ev_op (ev_var rfl) ev_c rv_I0)) (fun hb => ?_) (fun hb => ?_)) fun H1 e1 => ?_
    · rw [if_pos (by have := of_decide_eq_true hb; omega)]
      exact ev_meth (ev_var rfl) h0 (by kernel_rfl) (ea_cons (ev_var rfl) ea_nil) (fun H5 e5 Q5 q5 E5 => ⟨x, n, l, rfl, ht.mono e5, hn, hl, q5⟩)
    · rw [if_neg (by have := of_decide_eq_false hb; omega)]
      exact ev_c
    · have st := tIn_step (n := n) (m := m) hl
      refine q_when (b := decide ((m : Int) < 3)) (et_test (ev_op (ev_var rfl) ev_c rv_I0)) (fun hb H2 e2 => ?_) (fun hb H2 e2 => ?_)
      · have h3 : m < 3 := by have := of_decide_eq_true hb; omega
        exact s_ret (v := .int (tIn n m l)) (ev_is (ev_op (ev_var rfl) (ev_op ev_c (ev_meth (ev_var rfl) ((e1.trans e2) _ _ h0) (by kernel_rfl) (ea_cons (ev_op (ev_var rfl) ev_c rv_I0) (ea_cons (ev_op (ev_var rfl) ev_c rv_I0) ea_nil)) (fun H5 e5 Q5 q5 E5 => ⟨x, n, m + 1, l - 1, rfl, ht.mono ((e1.trans e2).trans e5), hn, by omega, by omega, by omega, q5⟩)) (rv_I (.inl ⟨by decide, by decide⟩))) rv_I0) (by rw [st h3])) fun H3 e3 => k _ ((e1.trans e2).trans e3)
      · obtain rfl : m = 3 := by have := of_decide_eq_false hb; omega
        exact s_ret (ev_var rfl) fun H3 e3 => k _ ((e1.trans e2).trans e3)
theorem ok_in_2 (T : Txt K mg Z) : FnOk P w K mg base CX0 6 Z.a_Tails_in_letters Z.d_Tails_in_letters ["self", "many", "left"] (spIn Z.C_Tails 2) := by
  refine T.F_Tails_in_letters.ok sc_Tails_in_letters (fun vs H Q E h => ?_) (fun cdv A outer s H vs Q E hr h => ?_)
  · obtain ⟨_, _, _, _, rfl, _⟩ := h; rfl
  · obtain ⟨x, n, m, l, rfl, ht, hn, hl, hm, hj, k⟩ := h
    have ok_Tails_in_letters (T : Txt K mg Z) : FnOk P w K mg base CX0 5 Z.a_Tails_in_letters Z.d_Tails_in_letters ["self", "many", "left"] (spIn Z.C_Tails 1) := ok_in_1 T
    refine ⟨_, (pss_cons (ps_set (i := 3) sc_Tails_in_letters.nd rfl (.inl rfl) (pe_ifExp (pt_cmpR op_gt (pv 1) pe_int (nomark _)) (pe_meth (pv 0) T.cl_Tails T.m_Tails_behind_letters (ok_Tails_behind_letters T) (hr.mono (by decide)) T.b_Tails_behind_letters .nil pass0 (pa_cons (pv 2) pa_nil)) pe_int))
      (pss_cons (ps_if (pt_cmpR op_lt (pv 1) (pe_gi rfl T.c_MOST_LETTERS) (nomark _)) (pss_one (ps_ret (pe_op op_add (pv 3) (pe_op op_mul pe_int (pe_meth (pv 0) T.cl_Tails T.m_Tails_in_letters (ok_Tails_in_letters T) (hr.mono (by decide)) T.b_Tails_in_letters .nil pass0 (pa_cons (pe_op op_add (pv 1) pe_int) (pa_cons (pe_op op_sub (pv 2) pe_int) pa_nil))))))) pss_nil)
      (pss_one (ps_ret (pv 3))))), ?_⟩
    obtain ⟨dx, a1, a2, a3, a4, as, bs, h0, _⟩ := ht.ex
    refine q_asg (v := .int (if 0 < m then bl n l else 0)) (ev_if (b := decide ((m : Int) > 0)) (et_test (ev_op (ev_var rfl) ev_c rv_I0)) (fun hb => ?_) (fun hb => ?_)) fun H1 e1 => ?_
    · rw [if_pos (by have := of_decide_eq_true hb; omega)]
      exact ev_meth (ev_var rfl) h0 (by kernel_rfl) (ea_cons (ev_var rfl) ea_nil) (fun H5 e5 Q5 q5 E5 => ⟨x, n, l, rfl, ht.mono e5, hn, hl, q5⟩)
    · rw [if_neg (by have := of_decide_eq_false hb; omega)]
      exact ev_c
    · have st := tIn_step (n := n) (m := m) hl
      refine q_when (b := decide ((m : Int) < 3)) (et_test (ev_op (ev_var rfl) ev_c rv_I0)) (fun hb H2 e2 => ?_) (fun hb H2 e2 => ?_)
      · have h3 : m < 3 := by have := of_decide_eq_true hb; omega
        exact s_ret (v := .int (tIn n m l)) (ev_is (ev_op (ev_var rfl) (ev_op ev_c (ev_meth (ev_var rfl) ((e1.trans e2) _ _ h0) (by kernel_rfl) (ea_cons (ev_op (ev_var rfl) ev_c rv_I0) (ea_cons (ev_op (ev_var rfl) ev_c rv_I0) ea_nil)) (fun H5 e5 Q5 q5 E5 => ⟨x, n, m + 1, l - 1, rfl, ht.mono ((e1.trans e2).trans e5), hn, by omega, by omega, by omega, q5⟩)) (rv_I (.inl ⟨by decide, by decide⟩))) rv_I0) (by rw [st h3])) fun H3 e3 => k _ ((e1.trans e2).trans e3)
      · obtain rfl : m = 3 := by have := of_decide_eq_false hb; omega
        exact s_ret (ev_var rfl) fun H3 e3 => k _ ((e1.trans e2).trans e3)
theorem ok_in_3 (T : Txt K mg Z) : FnOk P w K mg base CX0 7 Z.a_Tails_in_letters Z.d_Tails_in_letters ["self", "many", "left"] (spIn Z.C_Tails 3) := by
  refine T.F_Tails_in_letters.ok sc_Tails_in_letters (fun vs H Q E h => ?_) (fun cdv A outer s H vs Q E hr h => ?_)
  · obtain ⟨_, _, _, _, rfl, _⟩ := h; rfl
  · obtain ⟨x, n, m, l, rfl, ht, hn, hl, hm, hj, k⟩ := h
    have ok_Tails_in_letters (T : Txt K mg Z) : FnOk P w K mg base CX0 6 Z.a_Tails_in_letters Z.d_Tails_in_letters ["self", "many", "left"] (spIn Z.C_Tails 2) := ok_in_2 T
    refine ⟨_, (pss_cons (ps_set (i := 3) sc_Tails_in_letters.nd rfl (.inl rfl) (pe_ifExp (pt_cmpR op_gt (pv 1) pe_int (nomark _)) (pe_meth (pv 0) T.cl_Tails T.m_Tails_behind_letters (ok_Tails_behind_letters T) (hr.mono (by decide)) T.b_Tails_behind_letters .nil pass0 (pa_cons (pv 2) pa_nil)) pe_int))
      (pss_cons (ps_if (pt_cmpR op_lt (pv 1) (pe_gi rfl T.c_MOST_LETTERS) (nomark _)) (pss_one (ps_ret (pe_op op_add (pv 3) (pe_op op_mul pe_int (pe_meth (pv 0) T.cl_Tails T.m_Tails_in_letters (ok_Tails_in_letters T) (hr.mono (by decide)) T.b_Tails_in_letters .nil pass0 (pa_cons (pe_op op_add (pv 1) pe_int) (pa_cons (pe_op op_sub (pv 2) pe_int) pa_nil))))))) pss_nil)
      (pss_one (ps_ret (pv 3))))), ?_⟩
    obtain ⟨dx, a1, a2, a3, a4, as, bs, h0, _⟩ := ht.ex
    refine q_asg (v := .int (if 0 < m then bl n l else 0)) (ev_if (b := decide ((m : Int) > 0)) (et_test (ev_op (ev_var rfl) ev_c rv_I0)) (fun hb => ?_) (fun hb => ?_)) fun H1 e1 => ?_
    · rw [if_pos (by have := of_decide_eq_true hb; omega)]
      exact ev_meth (ev_var rfl) h0 (by kernel_rfl) (ea_cons (ev_var rfl) ea_nil) (fun H5 e5 Q5 q5 E5 => ⟨x, n, l, rfl, ht.mono e5, hn, hl, q5⟩)
    · rw [if_neg (by have := of_decide_eq_false hb; omega)]
      exact ev_c
    · have st := tIn_step (n := n) (m := m) hl
      refine q_when (b := decide ((m : Int) < 3)) (et_test (ev_op (ev_var rfl) ev_c rv_I0)) (fun hb H2 e2 => ?_) (fun hb H2 e2 => ?_)
      · have h3 : m < 3 := by have := of_decide_eq_true hb; omega
        exact s_ret (v := .int (tIn n m l)) (ev_is (ev_op (ev_var rfl) (ev_op ev_c (ev_meth (ev_var rfl) ((e1.trans e2) _ _ h0) (by kernel_rfl) (ea_cons (ev_op (ev_var rfl) ev_c rv_I0) (ea_cons (ev_op (ev_var rfl) ev_c rv_I0) ea_nil)) (fun H5 e5 Q5 q5 E5 => ⟨x, n, m + 1, l - 1, rfl, ht.mono ((e1.trans e2).trans e5), hn, by omega, by omega, by omega, q5⟩)) (rv_I (.inl ⟨by decide, by decide⟩))) rv_I0) (by rw [st h3])) fun H3 e3 => k _ ((e1.trans e2).trans e3)
      · obtain rfl : m = 3 := by have := of_decide_eq_false hb; omega
        exact s_ret (ev_var rfl) fun H3 e3 => k _ ((e1.trans e2).trans e3)
theorem ok_Tails_in_letters (T : Txt K mg Z) : FnOk P w K mg base CX0 8 Z.a_Tails_in_letters Z.d_Tails_in_letters ["self", "many", "left"] (spIn Z.C_Tails 4) := by
  refine T.F_Tails_in_letters.ok sc_Tails_in_letters (fun vs H Q E h => ?_) (fun cdv A outer s H vs Q E hr h => ?_)
  · obtain ⟨_, _, _, _, rfl, _⟩ := h; rfl
  · obtain ⟨x, n, m, l, rfl, ht, hn, hl, hm, hj, k⟩ := h
    have ok_Tails_in_letters (T : Txt K mg Z) : FnOk P w K mg base CX0 7 Z.a_Tails_in_letters Z.d_Tails_in_letters ["self", "many", "left"] (spIn Z.C_Tails 3) := ok_in_3 T
    refine ⟨_, (pss_cons (ps_set (i := 3) sc_Tails_in_letters.nd rfl (.inl rfl) (pe_ifExp (pt_cmpR op_gt (pv 1) pe_int (nomark _)) (pe_meth (pv 0) T.cl_Tails T.m_Tails_behind_letters (ok_Tails_behind_letters T) (hr.mono (by decide)) T.b_Tails_behind_letters .nil pass0 (pa_cons (pv 2) pa_nil)) pe_int))
      (pss_cons (ps_if (pt_cmpR op_lt (pv 1) (pe_gi rfl T.c_MOST_LETTERS) (nomark _)) (pss_one (ps_ret (pe_op op_add (pv 3) (pe_op op_mul pe_int (pe_meth (pv 0) T.cl_Tails T.m_Tails_in_letters (ok_Tails_in_letters T) (hr.mono (by decide)) T.b_Tails_in_letters .nil pass0 (pa_cons (pe_op op_add (pv 1) pe_int) (pa_cons (pe_op op_sub (pv 2) pe_int) pa_nil))))))) pss_nil)
      (pss_one (ps_ret (pv 3))))), ?_⟩
    obtain ⟨dx, a1, a2, a3, a4, as, bs, h0, _⟩ := ht.ex
    refine q_asg (v := .int (if 0 < m then bl n l else 0)) (ev_if (b := decide ((m : Int) > 0)) (et_test (ev_op (ev_var rfl) ev_c rv_I0)) (fun hb => ?_) (fun hb => ?_)) fun H1 e1 => ?_
    · rw [if_pos (by have := of_decide_eq_true hb; omega)]
      exact ev_meth (ev_var rfl) h0 (by kernel_rfl) (ea_cons (ev_var rfl) ea_nil) (fun H5 e5 Q5 q5 E5 => ⟨x, n, l, rfl, ht.mono e5, hn, hl, q5⟩)
    · rw [if_neg (by have := of_decide_eq_false hb; omega)]
      exact ev_c
    · have st := tIn_step (n := n) (m := m) hl
      refine q_when (b := decide ((m : Int) < 3)) (et_test (ev_op (ev_var rfl) ev_c rv_I0)) (fun hb H2 e2 => ?_) (fun hb H2 e2 => ?_)
      · have h3 : m < 3 := by have := of_decide_eq_true hb; omega
        exact s_ret (v := .int (tIn n m l)) (ev_is (ev_op (ev_var rfl) (ev_op ev_c (ev_meth (ev_var rfl) ((e1.trans e2) _ _ h0) (by kernel_rfl) (ea_cons (ev_op (ev_var rfl) ev_c rv_I0) (ea_cons (ev_op (ev_var rfl) ev_c rv_I0) ea_nil)) (fun H5 e5 Q5 q5 E5 => ⟨x, n, m + 1, l - 1, rfl, ht.mono ((e1.trans e2).trans e5), hn, by omega, by omega, by omega, q5⟩)) (rv_I (.inl ⟨by decide, by decide⟩))) rv_I0) (by rw [st h3])) fun H3 e3 => k _ ((e1.trans e2).trans e3)
      · obtain rfl : m = 3 := by have := of_decide_eq_false hb; omega
        exact s_ret (ev_var rfl) fun H3 e3 => k _ ((e1.trans e2).trans e3)
def spMarks (C : Addr) : Sp := fun vs H Q _ => ∃ (x : Addr) (n : Nat), vs = [.ref x, .int (n : Int)] ∧ TailsAt C H x n ∧ n ≤ 900 ∧ RetV (.int (tTot n)) H Q
theorem ok_Tails_marks (T : Txt K mg Z) : FnOk P w K mg base CX0 9 Z.a_Tails_marks Z.d_Tails_marks ["self", "most"] (spMarks Z.C_Tails) := by
  refine T.F_Tails_marks.ok sc_Tails_marks (fun vs H Q E h => ?_) (fun cdv A outer s H vs Q E hr h => ?_)
  · obtain ⟨_, _, rfl, _⟩ := h; rfl
  · obtain ⟨x, n, rfl, ht, hn, k⟩ := h
    refine ⟨_, (pss_one (ps_ret (pe_meth (pv 0) T.cl_Tails T.m_Tails_in_letters (ok_Tails_in_letters T) (hr.mono (by decide)) T.b_Tails_in_letters .nil pass0 (pa_cons pe_int (pa_cons (pv 1) pa_nil))))), ?_⟩
    obtain ⟨dx, a1, a2, a3, a4, as, bs, h0, _⟩ := ht.ex
    have et : tIn n 0 (n : Int) = tTot n := by
      show cnt (tLet n) (n : Int) = (tLet n).getD n 0
      exact if_pos (by omega)
    exact s_ret (v := .int (tTot n)) (ev_meth (ev_var rfl) h0 (by kernel_rfl) (ea_cons ev_c (ea_cons (ev_var rfl) ea_nil)) (fun H5 e5 Q5 q5 E5 => ⟨x, n, 0, n, rfl, ht.mono e5, hn, Int.le_refl _, by omega, by omega, by rw [et]; exact q5⟩)) k
/-! ### how many -/
def spMany : Sp := fun vs H Q _ => ∃ n : Nat, vs = [.int (n : Int)] ∧ n ≤ 60 ∧ RetV (.int (tTot n)) H Q
theorem w60 {n : Nat} (hn : n ≤ 60) : whole (.int (n : Int)) 0 (some 60) = true := by
  show (decide (0 ≤ (n : Int)) && decide ((n : Int) ≤ 60)) = true
  rw [decide_eq_true (by omega), decide_eq_true (by omega)]
  rfl
theorem sp_bound {n : Nat} {H : Hp} (hn : n ≤ 60) : SpV (spBound K) [.int (n : Int)] H (.bl true) := fun H1 e Q q E => ⟨_, rfl, kni_int, by rw [w60 hn]; exact q⟩
theorem ok_how_many (T : Txt K mg Z) : FnOk P w K mg base CX0 10 Z.a_how_many Z.d_how_many ["many"] spMany := by
  refine T.F_how_many.ok sc_how_many (fun vs H Q E h => ?_) (fun cdv A outer s H vs Q E hr h => ?_)
  · obtain ⟨n, rfl, _⟩ := h; rfl
  · obtain ⟨n, rfl, hn, k⟩ := h
    refine ⟨_, (pss_cons (ps_if (pt_not (pt_val (pe_call (ok_is_bound T) (hr.mono (by decide)) rfl T.g_is_bound T.F_is_bound.kp T.b_is_bound .nil pass0 (pa_cons (pv 0) pa_nil)))) (pss_one ps_never) pss_nil)
      (pss_one (ps_ret (pe_meth (pe_make T.M_Tails (ok_Tails_init T) (hr.mono (by decide)) rfl T.g_Tails T.b_Tails_init .nil pass0 (pa_cons (pv 0) pa_nil)) T.cl_Tails T.m_Tails_marks (ok_Tails_marks T) (hr.mono (by decide)) T.b_Tails_marks .nil pass0 (pa_cons (pv 0) pa_nil))))), ?_⟩
    refine q_when (b := false) (et_not (a := true) (et_B (ev_call (ea_cons (ev_var rfl) ea_nil) (sp_bound hn)))) (fun h => nomatch h) (fun _ H4 e4 => ?_)
    refine ⟨_, rfl, fun x dx hx hdx hne => ?_⟩
    have s1 : Ex H4 (upd (upd H4 dx (.own x)) x (.ins Z.C_Tails dx [])) := (Ex.new hdx).mut hx
    refine ⟨H4, x, dx, n, rfl, by omega, s1, hx, upd_same, fun H' e tt => ⟨rfl, ?_⟩⟩
    obtain ⟨dx', a1, a2, a3, a4, as, bs, ho, _⟩ := tt.ex
    exact ⟨x, dx', _, rfl, ho, by kernel_rfl, _, rfl, x, n, rfl, tt, by omega, fun H5 e5 => k _ ((e4.trans e).trans e5)⟩
theorem sp_many {n : Nat} {H : Hp} (hn : n ≤ 60) : SpV spMany [.int (n : Int)] H (.int (tTot n)) := fun H1 e Q q E => ⟨n, rfl, hn, q⟩
def wsg (n : Nat) : Int := tTot n - (if 0 < n then tTot (n - 1) else 0)
theorem ok_with_signs (T : Txt K mg Z) : FnOk P w K mg base CX0 11 Z.a_with_signs Z.d_with_signs ["many"] (fun vs H Q _ => ∃ n : Nat, vs = [.int (n : Int)] ∧ n ≤ 60 ∧ RetV (.int (wsg n)) H Q) := by
  refine T.F_with_signs.ok sc_with_signs (fun vs H Q E h => ?_) (fun cdv A outer s H vs Q E hr h => ?_)
  · obtain ⟨n, rfl, _⟩ := h; rfl
  · obtain ⟨n, rfl, hn, k⟩ := h
    refine ⟨_, (pss_cons (ps_set (i := 1) sc_with_signs.nd rfl (.inl rfl) (pe_ifExp (PW.pt (pw_and (pt_val (pe_call (ok_is_bound T) (hr.mono (by decide)) rfl T.g_is_bound T.F_is_bound.kp T.b_is_bound .nil pass0 (pa_cons (pv 0) pa_nil))) (pw_and1 (pt_cmpR op_gt (pv 0) pe_int (nomark _))))) (pe_call (ok_how_many T) (hr.mono (by decide)) rfl T.g_how_many T.F_how_many.kp T.b_how_many .nil pass0 (pa_cons (pe_op op_sub (pv 0) pe_int) pa_nil)) pe_int))
      (pss_one (ps_ret (pe_op op_sub (pe_call (ok_how_many T) (hr.mono (by decide)) rfl T.g_how_many T.F_how_many.kp T.b_how_many .nil pass0 (pa_cons (pv 0) pa_nil)) (pv 1))))), ?_⟩
    have hb : SpV (spBound K) [.int (n : Int)] H (.bl true) := sp_bound hn
    have ht := et_and (et_B (ev_call (σ := [some (.int (n : Int)), none]) (E := E0) (dvs := []) (ea_cons (ev_var (i := 0) rfl) ea_nil) hb)) (fun _ => et_test (ev_op (ev_var (i := 0) rfl) (ev_c (v := .int 0)) (rv_I0 (g := fun i j => .bl (decide (j < i))))))
    refine q_asg (v := .int (if 0 < n then tTot (n - 1) else 0)) (ev_if ht (fun h => ?_) (fun h => ?_)) fun H1 e1 => ?_
    · have h0 : 0 < n := by have := of_decide_eq_true (by simpa using h : decide ((0 : Int) < (n : Int)) = true); omega
      rw [if_pos h0]
      refine ev_call (ea_cons (ev_op (ev_var rfl) ev_c rv_I0) ea_nil) ?_
      have e : (n : Int) - 1 = ((n - 1 : Nat) : Int) := by omega
      show SpV spMany [.int ((n : Int) - 1)] H _
      rw [e]
      exact sp_many (by omega)
    · have h0 : ¬ 0 < n := by have := of_decide_eq_false (by simpa using h : decide ((0 : Int) < (n : Int)) = false); omega
      rw [if_neg h0]
      exact ev_c
    · exact s_ret (ev_op (ev_call (ea_cons (ev_var rfl) ea_nil) (sp_many hn)) (ev_var rfl) rv_I0) fun H2 e2 => k H2 (e1.trans e2)
end
section
variable {P : Program} {w : World} {K : PySem.W.Frag} {mg : Str → Option Value} {base : Heap} {Z : Adr}
theorem ok_l_is (T : Txt K mg Z) : FnOk P w K mg base CX0 1 Z.a_l_is Z.d_l_is ["_law_found", "_law_due"] (fun vs H Q _ => ∃ i j : Int, vs = [.int i, .int j] ∧ RetV (.bl (decide (i = j))) H Q) := by
  refine T.F_l_is.ok sc_l_is (fun vs H Q E h => ?_) (fun cdv A outer s H vs Q E hr h => ?_)
  · obtain ⟨i, j, rfl, _⟩ := h; rfl
  · obtain ⟨i, j, rfl, k⟩ := h
    refine ⟨_, (pss_one (ps_ret (pe_and (pe_callB (isiK K) (by rfl) T.n_isinstance (by decide +kernel) (pa_cons (pv 0) (pa_cons (pe_bltn (v := .ty "int") (by rfl) T.n_int (by decide +kernel) rfl) pa_nil))) (pe_and (pe_not (pe_callB (isiK K) (by rfl) T.n_isinstance (by decide +kernel) (pa_cons (pv 0) (pa_cons (pe_bltn (v := .ty "bool") (by rfl) T.n_bool (by decide +kernel) rfl) pa_nil)))) (pe_one (pe_cmpR op_eq (pv 0) (pv 1) (nomark _))))))), ?_⟩
    refine ⟨_, rfl, _, _, _, _, true, rfl, .ty _, .base (.int _), kit_ty (by decide +kernel), true, rfl, iteT ?_⟩
    refine ⟨_, rfl, _, _, _, _, false, rfl, .ty _, .base (.int _), kit_ty (by decide +kernel), false, rfl, true, rfl, iteT ?_⟩
    refine ⟨_, rfl, _, rfl, rfl, ?_⟩
    have e : decide (V.int i = V.int j) = decide (i = j) := by
      by_cases h : i = j
      · rw [h, decide_eq_true rfl, decide_eq_true rfl]
      · rw [decide_eq_false h, decide_eq_false (fun z => h (V.int.inj z))]
    rw [e]
    exact k H (Ex.refl _)
/-! ### the law's own sizes -/
def inner (a : Nat) (b : Int) (o f : List Int) : Nat → List Int
  | 0 => f
  | m + 1 => let g := inner a b o f m; g.set (a + m) (g.getD (a + m) 0 + b * o.getD m 0)
def outer (p o : List Int) : Nat → List Int
  | 0 => List.replicate 61 0
  | i + 1 => let f := outer p o i; if 0 < p.getD i 0 then inner i (p.getD i 0) o f (61 - i) else f
def behind (p o : List Int) : List Int := outer p o 61
def tlong (xs : List Int) : List Int := (xs ++ List.replicate 61 0).take 61
theorem inner_len (a : Nat) (b : Int) (o f : List Int) : ∀ m, (inner a b o f m).length = f.length
  | 0 => rfl
  | m + 1 => (List.length_set ..).trans (inner_len a b o f m)
theorem outer_len (p o : List Int) : ∀ i, (outer p o i).length = 61
  | 0 => List.length_replicate
  | i + 1 => by
    show (if 0 < p.getD i 0 then inner i (p.getD i 0) o (outer p o i) (61 - i) else outer p o i).length = 61
    split
    · rw [inner_len, outer_len p o i]
    · exact outer_len p o i
theorem behind_len (p o : List Int) : (behind p o).length = 61 := outer_len p o 61
def smb (xs : List Int) : Bool := xs.length == 61 && xs.all fun v => decide (v.natAbs < 2 ^ 300)
theorem smb_get {xs : List Int} (h : smb xs = true) (j : Nat) : (xs.getD j 0).natAbs < 2 ^ 300 := by
  unfold smb at h
  rw [Bool.and_eq_true] at h
  rw [List.getD_eq_getElem?_getD]
  cases e : xs[j]? with
  | none => show (0 : Int).natAbs < _; decide
  | some v =>
    have hm := List.mem_of_getElem? e
    have := List.all_eq_true.mp h.2 v hm
    exact of_decide_eq_true this
theorem smb_len {xs : List Int} (h : smb xs = true) : xs.length = 61 := by
  unfold smb at h
  rw [Bool.and_eq_true] at h
  exact eq_of_beq h.1
def spLong : Sp := fun vs H Q _ => ∃ a xs, vs = [.ref a] ∧ H a = some (.lst (ii xs)) ∧ xs.length ≤ 1000 ∧ RetL (ii (tlong xs)) H Q
theorem rep_ii (n : Nat) (z : Int) : List.replicate n (V.int z) = ii (List.replicate n z) := by
  show _ = (List.replicate n z).map V.int
  rw [List.map_replicate]
theorem ok_l_long (T : Txt K mg Z) : FnOk P w K mg base CX0 1 Z.a_l_long Z.d_l_long ["_law_table"] spLong := by
  refine T.F_l_long.ok sc_l_long (fun vs H Q E h => ?_) (fun cdv A outer s H vs Q E hr h => ?_)
  · obtain ⟨a, xs, rfl, _⟩ := h; rfl
  · obtain ⟨a, xs, rfl, hA, hz, k⟩ := h
    refine ⟨_, (pss_one (ps_ret (pe_slice (slL K) (pe_op op_cat (pv 0) (pe_op op_rep (pe_lst (pa_cons pe_int pa_nil)) pe_int)) po_none (po_some pe_int)))), ?_⟩
    have hl : (ii xs).length + (List.replicate 61 (V.int 0)).length ≤ 100000 := by rw [ii_len, List.length_replicate]; omega
    refine s_retL (el_slN (el_cat1 (ev_var rfl) hA (el_rep (n := 61) ev_c ev_c (by decide)) hl) eo_none (eo_some (i := ((61 : Nat) : Int)) ev_c)) fun p H1 hp e h1 => k p H1 hp e ?_
    rw [h1, cut_take, rep_ii]
    congr 2
    show _ = List.map V.int _
    unfold tlong
    rw [List.map_take, List.map_append]
theorem sp_long {a : Addr} {xs : List Int} {H : Hp} (hA : H a = some (.lst (ii xs))) (hz : xs.length ≤ 1000) : SpL spLong [.ref a] H (ii (tlong xs)) :=
  fun H1 e Q q E => ⟨a, xs, rfl, e _ _ hA, hz, q⟩
def spBehind (K : PySem.W.Frag) : Sp := fun vs H Q _ => ∃ a b xs ys, vs = [.ref a, .ref b] ∧ SqL K H a (ii xs) ∧ SqL K H b (ii ys) ∧ smb xs = true ∧ smb ys = true ∧ RetL (ii (behind xs ys)) H Q
theorem ok_l_behind (T : Txt K mg Z) : FnOk P w K mg base CX0 1 Z.a_l_behind Z.d_l_behind ["_law_one", "_law_other"] (spBehind K) := by
  refine T.F_l_behind.ok sc_l_behind (fun vs H Q E h => ?_) (fun cdv A outer' s H vs Q E hr h => ?_)
  · obtain ⟨a, b, xs, ys, rfl, _⟩ := h; rfl
  · obtain ⟨a, b, xs, ys, rfl, hA, hB, sx, sy, k⟩ := h
    have lx := smb_len sx
    have ly := smb_len sy
    refine ⟨_, (pss_cons (ps_set (i := 2) sc_l_behind.nd rfl (.inl rfl) (pe_op op_rep (pe_lst (pa_cons pe_int pa_nil)) pe_int))
      (pss_cons (ps_for PassesOwn.never rfl (pi_enum (by rfl) T.n_enumerate (pa_cons (pv 0) pa_nil)) (pg_tup rfl (pgs_cons (pg_name (i := 3) sc_l_behind.nd rfl (.inl rfl)) (pgs_cons (pg_name (i := 4) sc_l_behind.nd rfl (.inl rfl)) pgs_nil))) (pss_one (ps_if (pt_cmpR op_gt (pv 4) pe_int (nomark _)) (pss_one (ps_for PassesOwn.never rfl (pi_range1 rfl T.n_range (pa_cons (pe_op op_sub pe_int (pv 3)) pa_nil)) (pg_name (i := 5) sc_l_behind.nd rfl (.inl rfl)) (pss_one (ps_asg (pe_op op_add (pe_ix (ixL K) (pv 2) (pe_op op_add (pv 3) (pv 5)) (fun _ _ => rfl)) (pe_op op_mulW (pv 4) (pe_ix (ixL K) (pv 1) (pv 5) (fun _ _ => rfl)))) (pg_sub (pv 2) (pe_op op_add (pv 3) (pv 5)) set_list))))) pss_nil)))
      (pss_one (ps_ret (pv 2))))), ?_⟩
    refine q_asgL (el_rep (n := 61) ev_c ev_c (by decide)) fun p H1 hp e1 h1 => ?_
    rw [rep_ii] at h1
    refine ⟨_, rfl, a, ii xs, rfl, ex_l e1 hA, for_it (walk_enum (xs := ii xs)) (fun i σ H' => ∃ s3 s4 s5, σ = [some (.ref a), some (.ref b), some (.ref p), s3, s4, s5] ∧ Ex H H' ∧ H' p = some (.lst (ii (outer xs ys i))))
      ⟨none, none, none, rfl, e1, h1⟩ (fun i σ H' _ ⟨_, _, _, _, e, _⟩ => ex_l e hA) ?_ ?_⟩
    · rintro i x σ H' H'' hi ⟨s3, s4, s5, rfl, e, hP⟩ ⟨T', x1, x2, rfl, hT, rfl, f1, f2⟩
      rw [ii_len, lx] at hi
      have e2 : Ex H (upd H' T' (.tup [x1, x2])) := e.trans (Ex.new hT)
      have hP2 : upd H' T' (.tup [x1, x2]) p = some (.lst (ii (outer xs ys i))) := by rw [upd_ne (ne_of_none hP hT)]; exact hP
      cases f1
      have f2' := (ii_get (xs := xs) (j := i) (by omega)).symm.trans f2
      cases f2'
      refine ⟨T', _, rfl, .inl (.inl upd_same), rfl, _, _, rfl, _, _, rfl, rfl, ?_⟩
      refine s_when (b := decide (0 < xs.getD i 0)) (et_test (ev_op (ev_var rfl) ev_c rv_I0)) (fun hb H3 e3 => ?_) (fun hb H3 e3 => ?_)
      · have h0 : 0 < xs.getD i 0 := of_decide_eq_true hb
        refine s_forR1 (n := 61 - (i : Int)) (ea_cons (ev_op ev_c (ev_var rfl) rv_I0) ea_nil) ⟨by omega, by omega⟩
          (fun m σ H' => ∃ s5, σ = [some (.ref a), some (.ref b), some (.ref p), some (.int (i : Int)), some (.int (xs.getD i 0)), s5] ∧ Ex H H' ∧ H' p = some (.lst (ii (inner i (xs.getD i 0) ys (outer xs ys i) m))))
          (fun H4 e4 => ⟨_, rfl, (e2.trans e3).trans e4, (e3.trans e4) _ _ hP2⟩) ?_ ?_
        · rintro m σ H4 hm ⟨s5', rfl, e4, hP4⟩
          have hl : (inner i (xs.getD i 0) ys (outer xs ys i) m).length = 61 := by rw [inner_len, outer_len]
          refine s_setL (j := i + m) (v := .int ((inner i (xs.getD i 0) ys (outer xs ys i) m).getD (i + m) 0 + xs.getD i 0 * ys.getD m 0)) hP4
            (ev_op (ev_op (ev_var rfl) (ev_op (ev_var rfl) (ev_var rfl) rv_I0) (rv_ixL (i := ((i + m : Nat) : Int)) (sq_of hP4) (atI_nat (ii_get (by omega))))) (ev_op (ev_var rfl) (ev_op (ev_var rfl) (ev_var rfl) (rv_ixL (ex_l e4 hB) (atI_nat (ii_get (by omega))))) (rv_I (wide_mul (smb_get sx i) (smb_get sy m) (by decide) (by decide) (by decide)))) rv_I0)
            (ev_var rfl) (ev_op (ev_var rfl) (ev_var rfl) rv_I0) (by rw [ii_len]; omega) fun H5 e5 => ?_
          refine ⟨_, rfl, Ex.mut (e4.trans e5) hp, ?_⟩
          rw [upd_same]
          congr 2
          show _ = List.map V.int ((inner i (xs.getD i 0) ys (outer xs ys i) m).set (i + m) _)
          rw [List.map_set]
        · rintro σ H4 ⟨s5', rfl, e4, hP4⟩
          refine ⟨_, _, _, rfl, e4, ?_⟩
          rw [hP4, show (61 - (i : Int)).toNat = 61 - i by omega]
          congr 2
          show _ = ii (if 0 < xs.getD i 0 then inner i (xs.getD i 0) ys (outer xs ys i) (61 - i) else outer xs ys i)
          rw [if_pos h0]
      · have h0 : ¬ 0 < xs.getD i 0 := of_decide_eq_false hb
        refine ⟨_, _, _, rfl, e2.trans e3, ?_⟩
        rw [e3 _ _ hP2]
        congr 2
        show _ = ii (if 0 < xs.getD i 0 then inner i (xs.getD i 0) ys (outer xs ys i) (61 - i) else outer xs ys i)
        rw [if_neg h0]
    · rintro σ H' ⟨s3, s4, s5, rfl, e, hP⟩
      rw [ii_len, lx] at hP
      exact s_ret (ev_var rfl) fun H5 e5 => k p H5 hp (e.trans e5) (e5 _ _ hP)
theorem sp_behind {a b : Addr} {xs ys : List Int} {H : Hp} (hA : SqL K H a (ii xs)) (hB : SqL K H b (ii ys)) (sx : smb xs = true) (sy : smb ys = true) : SpL (spBehind K) [.ref a, .ref b] H (ii (behind xs ys)) :=
  fun H1 e Q q E => ⟨a, b, xs, ys, rfl, ex_l e hA, ex_l e hB, sx, sy, q⟩
def tens (n : Nat) : List Int := (List.range n).map fun (k : Nat) => (10 : Int) ^ k
def zMaker : List Int := tlong ([0, 0, 0] ++ (tens 60).map (234 * ·))
def zTwo : List Int := behind zMaker zMaker
def zThree : List Int := behind zTwo zMaker
def zMakers : List Int := (List.range 61).map fun (i : Nat) => zMaker.getD i 0 + zTwo.getD i 0 + zThree.getD i 0
def z1 : List Int := behind (tlong [0, 26, 676, 17576]) (tlong [0, 9, 90, 900, 9000])
def z2 : List Int := behind (tlong ([1, 0] ++ (tens 60).map (9 * ·))) z1
def z3 : List Int := behind ([1] ++ zMakers.drop 1) z2
def z4 : List Int := behind (tlong [1, 0, 0, 0, 0, 2000]) z3
def zSizes : List Int := behind (tlong ([1, 0, 0, 0, 8] ++ (tens 60).map (90 * ·))) z4
/-! the sizes as sums -/
def cterm (p o : List Int) (k j : Nat) : Int := if j ≤ k ∧ 0 < p.getD j 0 then p.getD j 0 * o.getD (k - j) 0 else 0
def csum (p o : List Int) (k i : Nat) : Int := ((List.range i).map fun j => cterm p o k j).sum
def conv (p o : List Int) : List Int := (List.range 61).map fun k => csum p o k 61
theorem getD_set {f : List Int} {i k : Nat} {v : Int} (h : i < f.length) : (f.set i v).getD k 0 = if i = k then v else f.getD k 0 := by
  rw [List.getD_eq_getElem?_getD, List.getElem?_set]
  by_cases e : i = k
  · rw [if_pos e, if_pos e]
    subst e
    rw [if_pos h]
    rfl
  · rw [if_neg e, if_neg e, ← List.getD_eq_getElem?_getD]
theorem inner_get (a : Nat) (b : Int) (o f : List Int) (hf : f.length = 61) : ∀ m, a + m ≤ 61 → ∀ k, k < 61 → (inner a b o f m).getD k 0 = f.getD k 0 + (if a ≤ k ∧ k < a + m then b * o.getD (k - a) 0 else 0)
  | 0, _, k, _ => by
    rw [if_neg (by omega)]
    show f.getD k 0 = f.getD k 0 + 0
    rw [Int.add_zero]
  | m + 1, hm, k, hk => by
    have ih := inner_get a b o f hf m (by omega)
    show ((inner a b o f m).set (a + m) ((inner a b o f m).getD (a + m) 0 + b * o.getD m 0)).getD k 0 = _
    rw [getD_set (by rw [inner_len]; omega)]
    by_cases e : a + m = k
    · rw [if_pos e, ih (a + m) (by omega), if_neg (by omega), if_pos (by omega), e, Int.add_zero, show k - a = m by omega]
    · rw [if_neg e, ih k hk]
      by_cases e2 : a ≤ k ∧ k < a + m
      · rw [if_pos e2, if_pos (by omega)]
      · rw [if_neg e2, if_neg (by omega)]
theorem csum_succ (p o : List Int) (k i : Nat) : csum p o k (i + 1) = csum p o k i + cterm p o k i := by
  unfold csum
  rw [List.range_succ, List.map_append, List.sum_append]
  show _ + (cterm p o k i + 0) = _
  rw [Int.add_zero]
theorem outer_get (p o : List Int) : ∀ i, i ≤ 61 → ∀ k, k < 61 → (outer p o i).getD k 0 = csum p o k i
  | 0, _, k, hk => by
    show (List.replicate 61 (0 : Int)).getD k 0 = 0
    rw [List.getD_eq_getElem?_getD, List.getElem?_replicate, if_pos hk]
    rfl
  | i + 1, hi, k, hk => by
    have ih := outer_get p o i (by omega) k hk
    rw [csum_succ, ← ih]
    show (if 0 < p.getD i 0 then inner i (p.getD i 0) o (outer p o i) (61 - i) else outer p o i).getD k 0 = _
    unfold cterm
    by_cases h0 : 0 < p.getD i 0
    · rw [if_pos h0, inner_get i _ o _ (outer_len p o i) (61 - i) (by omega) k hk]
      by_cases h1 : i ≤ k
      · rw [if_pos (by omega), if_pos ⟨h1, h0⟩]
      · rw [if_neg (by omega), if_neg (fun z => h1 z.1)]
    · rw [if_neg h0, if_neg (fun z => h0 z.2), Int.add_zero]
theorem behind_conv (p o : List Int) : behind p o = conv p o := by
  refine List.ext_getElem? fun k => ?_
  unfold conv
  by_cases hk : k < 61
  · have h1 : (behind p o)[k]? = some ((behind p o).getD k 0) := by
      rw [List.getD_eq_getElem?_getD, List.getElem?_eq_getElem (by rw [behind_len]; exact hk)]
      rfl
    rw [h1, List.getElem?_map, List.getElem?_range hk]
    exact congrArg some (outer_get p o 61 (Nat.le_refl _) k hk)
  · rw [List.getElem?_eq_none (by rw [behind_len]; omega), List.getElem?_eq_none (by rw [List.length_map, List.length_range]; omega)]
def qYear : List Int := [1, 1, 1, 1, 9, 99, 999, 9999, 99999, 999999, 9999999, 99999999, 999999999, 9999999999, 99999999999, 999999999999, 9999999999999, 99999999999999, 999999999999999, 9999999999999999, 99999999999999999, 999999999999999999, 9999999999999999999, 99999999999999999999, 999999999999999999999, 9999999999999999999999, 99999999999999999999999, 999999999999999999999999, 9999999999999999999999999, 99999999999999999999999999, 999999999999999999999999999, 9999999999999999999999999999, 99999999999999999999999999999, 999999999999999999999999999999, 9999999999999999999999999999999, 99999999999999999999999999999999, 999999999999999999999999999999999, 9999999999999999999999999999999999, 99999999999999999999999999999999999, 999999999999999999999999999999999999, 9999999999999999999999999999999999999, 99999999999999999999999999999999999999, 999999999999999999999999999999999999999, 9999999999999999999999999999999999999999, 99999999999999999999999999999999999999999, 999999999999999999999999999999999999999999, 9999999999999999999999999999999999999999999, 99999999999999999999999999999999999999999999, 999999999999999999999999999999999999999999999, 9999999999999999999999999999999999999999999999, 99999999999999999999999999999999999999999999999, 999999999999999999999999999999999999999999999999, 9999999999999999999999999999999999999999999999999, 99999999999999999999999999999999999999999999999999, 999999999999999999999999999999999999999999999999999, 9999999999999999999999999999999999999999999999999999, 99999999999999999999999999999999999999999999999999999, 999999999999999999999999999999999999999999999999999999, 9999999999999999999999999999999999999999999999999999999, 99999999999999999999999999999999999999999999999999999999, 999999999999999999999999999999999999999999999999999999999]
def qYears : List Int := [1, 1, 1, 1, 9, 2099, 2999, 11999, 101999, 1017999, 10197999, 101997999, 1019997999, 10199997999, 101999997999, 1019999997999, 10199999997999, 101999999997999, 1019999999997999, 10199999999997999, 101999999999997999, 1019999999999997999, 10199999999999997999, 101999999999999997999, 1019999999999999997999, 10199999999999999997999, 101999999999999999997999, 1019999999999999999997999, 10199999999999999999997999, 101999999999999999999997999, 1019999999999999999999997999, 10199999999999999999999997999, 101999999999999999999999997999, 1019999999999999999999999997999, 10199999999999999999999999997999, 101999999999999999999999999997999, 1019999999999999999999999999997999, 10199999999999999999999999999997999, 101999999999999999999999999999997999, 1019999999999999999999999999999997999, 10199999999999999999999999999999997999, 101999999999999999999999999999999997999, 1019999999999999999999999999999999997999, 10199999999999999999999999999999999997999, 101999999999999999999999999999999999997999, 1019999999999999999999999999999999999997999, 10199999999999999999999999999999999999997999, 101999999999999999999999999999999999999997999, 1019999999999999999999999999999999999999997999, 10199999999999999999999999999999999999999997999, 101999999999999999999999999999999999999999997999, 1019999999999999999999999999999999999999999997999, 10199999999999999999999999999999999999999999997999, 101999999999999999999999999999999999999999999997999, 1019999999999999999999999999999999999999999999997999, 10199999999999999999999999999999999999999999999997999, 101999999999999999999999999999999999999999999999997999, 1019999999999999999999999999999999999999999999999997999, 10199999999999999999999999999999999999999999999999997999, 101999999999999999999999999999999999999999999999999997999, 1019999999999999999999999999999999999999999999999999997999]
def qM0 : List Int := [0, 1, 11, 111, 1111, 11119, 113289, 1135889, 11370889, 113810889, 1139126889, 11401466889, 114116666889, 1142186666889, 11432066666889, 114422666666889, 1145246666666889, 11462666666666889, 114728666666666889, 1148306666666666889, 11493266666666666889, 115034666666666666889, 1151366666666666666889, 11523866666666666666889, 115340666666666666666889, 1154426666666666666666889, 11554466666666666666666889, 115646666666666666666666889, 1157486666666666666666666889, 11585066666666666666666666889, 115952666666666666666666666889, 1160546666666666666666666666889, 11615666666666666666666666666889, 116258666666666666666666666666889, 1163606666666666666666666666666889, 11646266666666666666666666666666889, 116564666666666666666666666666666889, 1166666666666666666666666666666666889, 11676866666666666666666666666666666889, 116870666666666666666666666666666666889, 1169726666666666666666666666666666666889, 11707466666666666666666666666666666666889, 117176666666666666666666666666666666666889, 1172786666666666666666666666666666666666889, 11738066666666666666666666666666666666666889, 117482666666666666666666666666666666666666889, 1175846666666666666666666666666666666666666889, 11768666666666666666666666666666666666666666889, 117788666666666666666666666666666666666666666889, 1178906666666666666666666666666666666666666666889, 11799266666666666666666666666666666666666666666889, 118094666666666666666666666666666666666666666666889, 1181966666666666666666666666666666666666666666666889, 11829866666666666666666666666666666666666666666666889, 118400666666666666666666666666666666666666666666666889, 1185026666666666666666666666666666666666666666666666889, 11860466666666666666666666666666666666666666666666666889, 118706666666666666666666666666666666666666666666666666889, 1188086666666666666666666666666666666666666666666666666889, 11891066666666666666666666666666666666666666666666666666889, 119012666666666666666666666666666666666666666666666666666889]
def qB1 : List Int := [1, 1, 1, 235, 2583, 28073, 262973, 2613845, 26611625, 266816025, 2670986025, 26733746025, 267575690025, 2678143250025, 26805300050025, 268291680050025, 2685303600050025, 26876904000050025, 269007720000050025, 2692464000000050025, 26948508000000050025, 269723760000000050025, 2699624400000000050025, 27020112000000000050025, 270439800000000000050025, 2706784800000000000050025, 27091716000000000000050025, 271155840000000000000050025, 2713945200000000000000050025, 27163320000000000000000050025, 271871880000000000000000050025, 2721105600000000000000000050025, 27234924000000000000000000050025, 272587920000000000000000000050025, 2728266000000000000000000000050025, 27306528000000000000000000000050025, 273303960000000000000000000000050025, 2735426400000000000000000000000050025, 27378132000000000000000000000000050025, 274020000000000000000000000000000050025, 2742586800000000000000000000000000050025, 27449736000000000000000000000000000050025, 274736040000000000000000000000000000050025, 2749747200000000000000000000000000000050025, 27521340000000000000000000000000000000050025, 275452080000000000000000000000000000000050025, 2756907600000000000000000000000000000000050025, 27592944000000000000000000000000000000000050025, 276168120000000000000000000000000000000000050025, 2764068000000000000000000000000000000000000050025, 27664548000000000000000000000000000000000000050025, 276884160000000000000000000000000000000000000050025, 2771228400000000000000000000000000000000000000050025, 27736152000000000000000000000000000000000000000050025, 277600200000000000000000000000000000000000000000050025, 2778388800000000000000000000000000000000000000000050025, 27807756000000000000000000000000000000000000000000050025, 278316240000000000000000000000000000000000000000000050025, 2785549200000000000000000000000000000000000000000000050025, 27879360000000000000000000000000000000000000000000000050025, 279032280000000000000000000000000000000000000000000000050025]
def qM1 : List Int := [0, 1, 11, 111, 1345, 16033, 188403, 2147003, 24083875, 267450375, 2941319775, 32084183775, 347575583775, 3743331527775, 40111458527775, 427919885327775, 4547490533327775, 48160208933327775, 508478993333327775, 5353797653333327775, 56230440533333327775, 589252913333333327775, 6162252893333333327775, 64322153333333333327775, 670241645333333333327775, 6972856253333333333327775, 72435347333333333333327775, 751445189333333333333327775, 7785607733333333333333327775, 80570022533333333333333327775, 832863545333333333333333327775, 8600507333333333333333333327775, 88726178933333333333333333327775, 914496713333333333333333333327775, 9417555053333333333333333333327775, 96903816533333333333333333333327775, 996344693333333333333333333333327775, 10236750893333333333333333333333327775, 105102935333333333333333333333333327775, 1078407485333333333333333333333333327775, 11058094853333333333333333333333333327775, 113323535333333333333333333333333333327775, 1160685089333333333333333333333333333327775, 11881586933333333333333333333333333333327775, 121565616533333333333333333333333333333327775, 1243177505333333333333333333333333333333327775, 12707227133333333333333333333333333333333327775, 129829178933333333333333333333333333333333327775, 1325884733333333333333333333333333333333333327775, 13535015453333333333333333333333333333333333327775, 138114222533333333333333333333333333333333333327775, 1408806773333333333333333333333333333333333333327775, 14364951893333333333333333333333333333333333333327775, 146420747333333333333333333333333333333333333333327775, 1491943625333333333333333333333333333333333333333327775, 15197036453333333333333333333333333333333333333333327775, 154748753333333333333333333333333333333333333333333327775, 1575295289333333333333333333333333333333333333333333327775, 16031269133333333333333333333333333333333333333333333327775, 163098240533333333333333333333333333333333333333333333327775, 1658861765333333333333333333333333333333333333333333333327775]
def qB2 : List Int := [1, 1, 1, 235, 2583, 28073, 317729, 3763721, 44188301, 503416701, 5645824749, 62685385749, 689288825349, 7517899001349, 81434686601349, 876959577497349, 9396281295497349, 100235253166697349, 1065132784798697349, 11279688890398697349, 119086084439998697349, 1253808650879998697349, 13168123084799998697349, 137987181719999998697349, 1442987177039999998697349, 15061583879999999998697349, 156938545007999999998697349, 1632668363279999999998697349, 16960071275999999999998697349, 175940174303999999999998697349, 1822852209599999999999998697349, 18863585272799999999999998697349, 194992069607999999999999998697349, 2013538715999999999999999998697349, 20772125870399999999999999998697349, 214094230919999999999999999998697349, 2204727882479999999999999999998697349, 22685693068799999999999999999998697349, 233246658239999999999999999999998697349, 2396419709039999999999999999999998697349, 24604286867999999999999999999999998697349, 252449351567999999999999999999999998697349, 2588614195679999999999999999999999998697349, 26527907267999999999999999999999999998697349, 271702310903999999999999999999999999998697349, 2781311342399999999999999999999999999998697349, 28456554268799999999999999999999999999998697349, 291005536247999999999999999999999999999998697349, 2974511149199999999999999999999999999999998697349, 30390227870399999999999999999999999999999998697349, 310359027599999999999999999999999999999999998697349, 3168213616079999999999999999999999999999999998697349, 32328928072799999999999999999999999999999999998697349, 329762784959999999999999999999999999999999999998697349, 3362418743039999999999999999999999999999999999998697349, 34272654875999999999999999999999999999999999999998697349, 349216808327999999999999999999999999999999999999998697349, 3557126530079999999999999999999999999999999999999998697349, 36221408279999999999999999999999999999999999999999998697349, 368721097703999999999999999999999999999999999999999998697349, 3752336977199999999999999999999999999999999999999999998697349]
def qM2 : List Int := [0, 1, 11, 111, 1345, 16033, 188403, 2201759, 25781311, 302001411, 3523430811, 40880132859, 471486714339, 5404155968739, 61559458688739, 697029273488739, 7847252312384739, 87868804419344739, 978923297360144739, 10854365758400144739, 119823346474400144739, 1317319549184000144739, 14427004142720000144739, 157438164512000000144739, 1712368826840000000144739, 18566675445440000000144739, 200728338334400000000144739, 2164221928352000000000144739, 23274887646800000000000144739, 249708947744000000000000144739, 2673029651744000000000000144739, 28553148727040000000000000144739, 304395072543200000000000000144739, 3238942795040000000000000000144739, 34402966666400000000000000000144739, 364801792534400000000000000000144739, 3862112156264000000000000000000144739, 40825849445120000000000000000000144739, 430944187520000000000000000000000144739, 4542688533440000000000000000000000144739, 47823305043440000000000000000000000144739, 502837337302400000000000000000000000144739, 5280822724592000000000000000000000000144739, 55396841441600000000000000000000000000144739, 580496321684000000000000000000000000000144739, 6076665527744000000000000000000000000000144739, 63547966619840000000000000000000000000000144739, 663936220467200000000000000000000000000000144739, 6930367740920000000000000000000000000000000144739, 72278188558400000000000000000000000000000000144739, 753172113454400000000000000000000000000000000144739, 7842080162144000000000000000000000000000000000144739, 81589015237520000000000000000000000000000000000144739, 848219080448000000000000000000000000000000000000144739, 8811953589440000000000000000000000000000000000000144739, 91481954637440000000000000000000000000000000000000144739, 949092201250400000000000000000000000000000000000000144739, 9840138820832000000000000000000000000000000000000000144739, 101958514738400000000000000000000000000000000000000000144739, 1055806555664000000000000000000000000000000000000000000144739, 10926786654344000000000000000000000000000000000000000000144739]
def qB3 : List Int := [1, 1, 1, 235, 2583, 28073, 317729, 3763721, 44188301, 516229605, 6043024773, 70770328173, 825502807773, 9576151087005, 110429891153325, 1265592496682925, 14415113333162925, 163206849996362925, 1837277041098026925, 20571500234126666925, 229170051582273866925, 2540941587465633866925, 28048863075009633866925, 308354774509056033866925, 3376938969396480033866925, 36850730495808000033866925, 400796305480560000033866925, 4345622054232960000033866925, 46980631170249600000033866925, 506529931234368000000033866925, 5447343709351200000000033866925, 58442093772096000000000033866925, 625590938508096000000000033866925, 6682456802127360000000000033866925, 71238646975108800000000000033866925, 758014614039360000000000000033866925, 8051314199937600000000000000033866925, 85373819453049600000000000000033866925, 903836244565776000000000000000033866925, 9554268770158080000000000000000033866925, 100851139879680000000000000000000033866925, 1063091116824960000000000000000000033866925, 11191673380164960000000000000000000033866925, 117674136928761600000000000000000000033866925, 1235814517554528000000000000000000000033866925, 12963880897334400000000000000000000000033866925, 135846339274056000000000000000000000000033866925, 1422041733492096000000000000000000000000033866925, 14871244189042560000000000000000000000000033866925, 155371275589324800000000000000000000000000033866925, 1621808051375280000000000000000000000000000033866925, 16914116122665600000000000000000000000000000033866925, 176252474548329600000000000000000000000000000033866925, 1835148757941696000000000000000000000000000000033866925, 19092849565579680000000000000000000000000000000033866925, 198493464824832000000000000000000000000000000000033866925, 2062099139928960000000000000000000000000000000000033866925, 21407797385160960000000000000000000000000000000000033866925, 222097775092593600000000000000000000000000000000000033866925, 2302694484074688000000000000000000000000000000000000033866925, 23859312448785600000000000000000000000000000000000000033866925]
def qPts : List Int := [0, 1, 11, 111, 1345, 16033, 188403, 2201759, 25781311, 302001411, 3536243715, 41405461923, 484824947403, 5673752281803, 66313673905035, 773566630203675, 9001258798719675, 104427701320359675, 1207483863199959675, 13912115673097623675, 159692656965102903675, 1826096621233302903675, 20801907799798662903675, 236067941072996262903675, 2669034185239018662903675, 30067280821786666662903675, 337523538713674666662903675, 3776031692617306666662903675, 42105938980406026666662903675, 468040020974309866666662903675, 5186930140977466666666662903675, 57316645119125866666666662903675, 631608544963354666666666662903675, 6941676388141642666666666662903675, 76099220683543786666666666662903675, 832230853810546666666666666662903675, 9080323152144826666666666666662903675, 98854545721385866666666666666662903675, 1073919276666908266666666666666662903675, 11643029011234858666666666666666662903675, 125984558882506666666666666666666662903675, 1360696728704746666666666666666666662903675, 14670058403872426666666666666666666662903675, 157892257418889226666666666666666666662903675, 1696596711117653866666666666666666666662903675, 18201781628731066666666666666666666666662903675, 194981697184645066666666666666666666666662903675, 2085663311120506666666666666666666666666662903675, 22278674844697162666666666666666666666666662903675, 237657992636014186666666666666666666666666662903675, 2531951201949466666666666666666666666666666662903675, 26941320070869946666666666666666666666666666662903675, 286327316831365066666666666666666666666666666662903675, 3039525642861980266666666666666666666666666666662903675, 32230405186561498666666666666666666666666666666662903675, 341396901431194666666666666666666666666666666666662903675, 3612462479136778666666666666666666666666666666666662903675, 38186723931296746666666666666666666666666666666666662903675, 403275036698128426666666666666666666666666666666666662903675, 4254848142073877866666666666666666666666666666666666662903675, 44851175904813466666666666666666666666666666666666666662903675]
def qBN : List Int := [1, 1, 10, 334, 3582, 40178, 462026, 5459348, 64004132, 748261404, 8761037472, 102596521608, 1198151965080, 13939575613632, 161493661689552, 1862415561828240, 21377213004996000, 244218179184840000, 2777126352981264000, 31438855002926304000, 354379092640152480000, 3978175500151560000000, 44483732666109360000000, 495571944707244000000000, 5501550439053446400000000, 60872038162959168000000000, 671401832876640000000000000, 7383333902656032000000000000, 80964916403805360000000000000, 885483382058022240000000000000, 9659703898119988800000000000000, 105124465040893200000000000000000, 1141440744580228800000000000000000, 12366933706797552000000000000000000, 133713734468383584000000000000000000, 1442907600191254080000000000000000000, 15541391884232520000000000000000000000, 167096727822353040000000000000000000000, 1793527156058248800000000000000000000000, 19219542260160254400000000000000000000000, 205638400980793728000000000000000000000000, 2196952146767520000000000000000000000000000, 23437943938507680000000000000000000000000000, 249704662563613440000000000000000000000000000, 2656844834324531040000000000000000000000000000, 28233251297393284800000000000000000000000000000, 299662373932635600000000000000000000000000000000, 3176877008153901600000000000000000000000000000000, 33642213989127120000000000000000000000000000000000, 355879349191599264000000000000000000000000000000000, 3760729985099407680000000000000000000000000000000000, 39701676940210800000000000000000000000000000000000000, 418724355186159120000000000000000000000000000000000000, 4412094609423981600000000000000000000000000000000000000, 46448580351337502400000000000000000000000000000000000000, 488567111503885488000000000000000000000000000000000000000, 5134671252809712000000000000000000000000000000000000000000, 53919959697391968000000000000000000000000000000000000000000, 565778290474264320000000000000000000000000000000000000000000, 5932169814357843840000000000000000000000000000000000000000000, 62152945727450500800000000000000000000000000000000000000000000]
def qNum : List Int := [0, 9, 99, 1080, 13806, 80298, 1074582, 14004054, 159114672, 1844803908, 21566371716, 252930714408, 2961334518552, 34636340991240, 404476064075088, 4709710223476848, 54625155346502640, 630812793652790400, 7251529743964584000, 82975005064417536000, 945082345105970496000, 10716286114371437280000, 120986804518442812800000, 1360280267411098608000000, 15233453226212814720000000, 169954367875995441600000000, 1889356227212946528000000000, 20932642828069382880000000000, 231174958380946156800000000000, 2545294291928899632000000000000, 27943809923144871360000000000000, 305949269355631012800000000000000, 3341112827685306048000000000000000, 36397252501732637280000000000000000, 395581423993282339200000000000000000, 4289864499317476656000000000000000000, 46423611541215665280000000000000000000, 501378975358028740800000000000000000000, 5404636270369685088000000000000000000000, 58153871006066567520000000000000000000000, 624652906384895097600000000000000000000000, 6698549403095167728000000000000000000000000, 71719357847847583680000000000000000000000000, 766717629879802564800000000000000000000000000, 8184759458456123712000000000000000000000000000, 87251742005210580960000000000000000000000000000, 928890988519568572800000000000000000000000000000, 9876456296123714928000000000000000000000000000000, 104883036403897054080000000000000000000000000000000, 1112494254851906827200000000000000000000000000000000, 11786864074478066016000000000000000000000000000000000, 124745596956738125280000000000000000000000000000000000, 1318852131295427308800000000000000000000000000000000000, 13929241250608264368000000000000000000000000000000000000, 146972122563654544320000000000000000000000000000000000000, 1549292750139636273600000000000000000000000000000000000000, 16316880580312360128000000000000000000000000000000000000000, 171695655111656688480000000000000000000000000000000000000000, 1805147673544936252800000000000000000000000000000000000000000, 18963109118097366192000000000000000000000000000000000000000000, 199049579474844562560000000000000000000000000000000000000000000]
def qTwo : List Int := [0, 9, 333, 3654, 41886, 439254, 3162330, 41943186, 523220076, 5981785380, 69531273324, 813656379024, 9537533093160, 111631038473592, 1305020929847328, 15226087889429136, 177077621156900688, 2051066832661859040, 23652662378937134400, 271514778407496720000, 3102432476780826432000, 35288427087126670176000, 399610243492100182080000, 4505937184890611740800000, 50600740178901378528000000, 566024151757528624320000000, 6308169791988828009600000000, 70055904735605992608000000000, 775423671910750111680000000000, 8555843209833499708800000000000, 94121461513296261792000000000000, 1032488327357397668160000000000000, 11295793830931712380800000000000000, 123266186021550594528000000000000000, 1341909989038330908480000000000000000, 14574981523142817475200000000000000000, 157960088523470058336000000000000000000, 1708392875429636038080000000000000000000, 18440489629678432348800000000000000000000, 198674414035678379808000000000000000000000, 2136653552542625853120000000000000000000000, 22939524969102440265600000000000000000000000, 245881642328321944608000000000000000000000000, 2631420933923839740480000000000000000000000000, 28119417835330990396800000000000000000000000000, 300055487925069797472000000000000000000000000000, 3197436280655043677760000000000000000000000000000, 34027621997632497820800000000000000000000000000000, 361670900103113642208000000000000000000000000000000, 3839453201353230233280000000000000000000000000000000, 40711714700627643523200000000000000000000000000000000, 431204062893167841696000000000000000000000000000000000, 4562237652170618566080000000000000000000000000000000000, 48219396664289374396800000000000000000000000000000000000, 509132395079469417888000000000000000000000000000000000000, 5370567936794654425920000000000000000000000000000000000000, 56598492083942903241600000000000000000000000000000000000000, 595934550199778051808000000000000000000000000000000000000000, 6269234706448010153280000000000000000000000000000000000000000, 65896948630265708764800000000000000000000000000000000000000000, 692090416545376083552000000000000000000000000000000000000000000]
def qOne : List Int := [0, 9, 333, 9738, 108810, 1169334, 12495186, 96224634, 1249637508, 15448525884, 177092791596, 2060743820832, 24116400373176, 282612201413400, 3306883064388480, 38640254399507376, 450503440471660176, 5234830943732208288, 60579267393172919040, 697944226916783030400, 8004466583700885216000, 91379530510672924512000, 1038485908783736237376000, 11750146598205703342080000, 132387820033368719980800000, 1485573612527431283328000000, 16605984172908690760320000000, 184945057419778911129600000000, 2052628481506701964608000000000, 22706309761608402535680000000000, 250395733378815863788800000000000, 2753107268701333819392000000000000, 30185809338977645420160000000000000, 330087892105957159180800000000000000, 3600502260553597796928000000000000000, 39179524214314080276480000000000000000, 425373131142928919635200000000000000000, 4608341276968250257536000000000000000000, 49822851031540222078080000000000000000000, 537606601377705808588800000000000000000000, 5790187671312532972608000000000000000000000, 62251541769203439909120000000000000000000000, 668147007044511030585600000000000000000000000, 7159640330416173124608000000000000000000000000, 76601703740475956964480000000000000000000000000, 818356605723816331276800000000000000000000000000, 8730333674571383307072000000000000000000000000000, 93009799593154850549760000000000000000000000000000, 989601208342341997420800000000000000000000000000000, 10515937657532861524608000000000000000000000000000000, 111612647309662052081280000000000000000000000000000000, 1183250179173056856883200000000000000000000000000000000, 12530157766517791192896000000000000000000000000000000000, 132547420207044347086080000000000000000000000000000000000, 1400676435835178278636800000000000000000000000000000000000, 14786735022205841138688000000000000000000000000000000000000, 155951646936973375201920000000000000000000000000000000000000, 1643256449294172172761600000000000000000000000000000000000000, 17299445978739165599808000000000000000000000000000000000000000, 181963211485745630177280000000000000000000000000000000000000000, 1912370243861752990444800000000000000000000000000000000000000000]
def qLet : List Int := [0, 0, 234, 8658, 253188, 2829060, 30402684, 324874836, 2501840484, 32490575208, 401661672984, 4604412581496, 53579339341632, 627026409702576, 7347917236748400, 85978959674100480, 1004646614387191776, 11713089452263164576, 136105604537037415488, 1575060952222495895040, 18146549899836358790400, 208116131176223015616000, 2375867793277496037312000, 27000633628377142171776000, 305503811553348286894080000, 3442083320867586719500800000, 38624913925713213366528000000, 431755588495625959768320000000, 4808571492914251689369600000000, 53368340519174251079808000000000, 590364053801818465927680000000000, 6510289067849212458508800000000000, 71580788986234679304192000000000000, 784831042813418780924160000000000000, 8582285194754886138700800000000000000, 93613058774393542720128000000000000000, 1018667629572166087188480000000000000000, 11059701409716151910515200000000000000000, 119816873201174506695936000000000000000000, 1295394126820045774030080000000000000000000, 13977771635820351023308800000000000000000000, 150544879454125857287808000000000000000000000, 1618540085999289437637120000000000000000000000, 17371822183157286795225600000000000000000000000, 186150648590820501239808000000000000000000000000, 1991644297252374881076480000000000000000000000000, 21277271748819224613196800000000000000000000000000, 226988675538855965983872000000000000000000000000000, 2418254789422026114293760000000000000000000000000000, 25729631416900891932940800000000000000000000000000000, 273414379095854399639808000000000000000000000000000000, 2901928830051213354113280000000000000000000000000000000, 30764504658499478278963200000000000000000000000000000000, 325784101929462571015296000000000000000000000000000000000, 3446232925383153024238080000000000000000000000000000000000, 36417587331714635244556800000000000000000000000000000000000, 384455110577351869605888000000000000000000000000000000000000, 4054742820361307755249920000000000000000000000000000000000000, 42724667681648476491801600000000000000000000000000000000000000, 449785595447218305595008000000000000000000000000000000000000000, 4731043498629386384609280000000000000000000000000000000000000000]
def qMaker : List Int := [0, 0, 0, 234, 2340, 23400, 234000, 2340000, 23400000, 234000000, 2340000000, 23400000000, 234000000000, 2340000000000, 23400000000000, 234000000000000, 2340000000000000, 23400000000000000, 234000000000000000, 2340000000000000000, 23400000000000000000, 234000000000000000000, 2340000000000000000000, 23400000000000000000000, 234000000000000000000000, 2340000000000000000000000, 23400000000000000000000000, 234000000000000000000000000, 2340000000000000000000000000, 23400000000000000000000000000, 234000000000000000000000000000, 2340000000000000000000000000000, 23400000000000000000000000000000, 234000000000000000000000000000000, 2340000000000000000000000000000000, 23400000000000000000000000000000000, 234000000000000000000000000000000000, 2340000000000000000000000000000000000, 23400000000000000000000000000000000000, 234000000000000000000000000000000000000, 2340000000000000000000000000000000000000, 23400000000000000000000000000000000000000, 234000000000000000000000000000000000000000, 2340000000000000000000000000000000000000000, 23400000000000000000000000000000000000000000, 234000000000000000000000000000000000000000000, 2340000000000000000000000000000000000000000000, 23400000000000000000000000000000000000000000000, 234000000000000000000000000000000000000000000000, 2340000000000000000000000000000000000000000000000, 23400000000000000000000000000000000000000000000000, 234000000000000000000000000000000000000000000000000, 2340000000000000000000000000000000000000000000000000, 23400000000000000000000000000000000000000000000000000, 234000000000000000000000000000000000000000000000000000, 2340000000000000000000000000000000000000000000000000000, 23400000000000000000000000000000000000000000000000000000, 234000000000000000000000000000000000000000000000000000000, 2340000000000000000000000000000000000000000000000000000000, 23400000000000000000000000000000000000000000000000000000000, 234000000000000000000000000000000000000000000000000000000000]
def qMTwo : List Int := [0, 0, 0, 0, 0, 0, 54756, 1095120, 16426800, 219024000, 2737800000, 32853600000, 383292000000, 4380480000000, 49280400000000, 547560000000000, 6023160000000000, 65707200000000000, 711828000000000000, 7665840000000000000, 82134000000000000000, 876096000000000000000, 9308520000000000000000, 98560800000000000000000, 1040364000000000000000000, 10951200000000000000000000, 114987600000000000000000000, 1204632000000000000000000000, 12593880000000000000000000000, 131414400000000000000000000000, 1368900000000000000000000000000, 14236560000000000000000000000000, 147841200000000000000000000000000, 1533168000000000000000000000000000, 15879240000000000000000000000000000, 164268000000000000000000000000000000, 1697436000000000000000000000000000000, 17521920000000000000000000000000000000, 180694800000000000000000000000000000000, 1861704000000000000000000000000000000000, 19164600000000000000000000000000000000000, 197121600000000000000000000000000000000000, 2025972000000000000000000000000000000000000, 20807280000000000000000000000000000000000000, 213548400000000000000000000000000000000000000, 2190240000000000000000000000000000000000000000, 22449960000000000000000000000000000000000000000, 229975200000000000000000000000000000000000000000, 2354508000000000000000000000000000000000000000000, 24092640000000000000000000000000000000000000000000, 246402000000000000000000000000000000000000000000000, 2518776000000000000000000000000000000000000000000000, 25735320000000000000000000000000000000000000000000000, 262828800000000000000000000000000000000000000000000000, 2683044000000000000000000000000000000000000000000000000, 27378000000000000000000000000000000000000000000000000000, 279255600000000000000000000000000000000000000000000000000, 2847312000000000000000000000000000000000000000000000000000, 29020680000000000000000000000000000000000000000000000000000, 295682400000000000000000000000000000000000000000000000000000, 3011580000000000000000000000000000000000000000000000000000000]
def qThree : List Int := [0, 0, 0, 0, 0, 0, 0, 0, 0, 12812904, 384387120, 7687742400, 128129040000, 1921935600000, 26907098400000, 358761312000000, 4612645440000000, 57658068000000000, 704709720000000000, 8456516640000000000, 99940651200000000000, 1165974264000000000000, 13453549200000000000000, 153754848000000000000000, 1742554944000000000000000, 19603743120000000000000000, 219100658400000000000000000, 2434451760000000000000000000, 26907098400000000000000000000, 295978082400000000000000000000, 3241664712000000000000000000000, 35363615040000000000000000000000, 384387120000000000000000000000000, 4164193800000000000000000000000000, 44973293040000000000000000000000000, 484327771200000000000000000000000000, 5202039024000000000000000000000000000, 55736132400000000000000000000000000000, 595800036000000000000000000000000000000, 6355200384000000000000000000000000000000, 67652133120000000000000000000000000000000, 718803914400000000000000000000000000000000, 7623677880000000000000000000000000000000000, 80721295200000000000000000000000000000000000, 853339406400000000000000000000000000000000000, 9007471512000000000000000000000000000000000000, 94943618640000000000000000000000000000000000000, 999406512000000000000000000000000000000000000000, 10506581280000000000000000000000000000000000000000, 110319103440000000000000000000000000000000000000000, 1157005231200000000000000000000000000000000000000000, 12121007184000000000000000000000000000000000000000000, 126847749600000000000000000000000000000000000000000000, 1326135564000000000000000000000000000000000000000000000, 13850749224000000000000000000000000000000000000000000000, 144529557120000000000000000000000000000000000000000000000, 1506797510400000000000000000000000000000000000000000000000, 15695807400000000000000000000000000000000000000000000000000, 163364526000000000000000000000000000000000000000000000000000, 1698991070400000000000000000000000000000000000000000000000000, 17656181712000000000000000000000000000000000000000000000000000]
def qMakers : List Int := [0, 0, 0, 234, 2340, 23400, 288756, 3435120, 39826800, 465836904, 5462187120, 63941342400, 745421040000, 8642415600000, 99587498400000, 1140321312000000, 12975805440000000, 146765268000000000, 1650537720000000000, 18462356640000000000, 205474651200000000000, 2276070264000000000000, 25102069200000000000000, 275715648000000000000000, 3016918944000000000000000, 32894943120000000000000000, 357488258400000000000000000, 3873083760000000000000000000, 41840978400000000000000000000, 450792482400000000000000000000, 4844564712000000000000000000000, 51940175040000000000000000000000, 555628320000000000000000000000000, 5931361800000000000000000000000000, 63192533040000000000000000000000000, 671995771200000000000000000000000000, 7133475024000000000000000000000000000, 75598052400000000000000000000000000000, 799894836000000000000000000000000000000, 8450904384000000000000000000000000000000, 89156733120000000000000000000000000000000, 939325514400000000000000000000000000000000, 9883649880000000000000000000000000000000000, 103868575200000000000000000000000000000000000, 1090287806400000000000000000000000000000000000, 11431711512000000000000000000000000000000000000, 119733578640000000000000000000000000000000000000, 1252781712000000000000000000000000000000000000000, 13095089280000000000000000000000000000000000000000, 136751743440000000000000000000000000000000000000000, 1426807231200000000000000000000000000000000000000000, 14873783184000000000000000000000000000000000000000000, 154923069600000000000000000000000000000000000000000000, 1612364364000000000000000000000000000000000000000000000, 16767793224000000000000000000000000000000000000000000000, 174247557120000000000000000000000000000000000000000000000, 1809453110400000000000000000000000000000000000000000000000, 18777119400000000000000000000000000000000000000000000000000, 194725206000000000000000000000000000000000000000000000000000, 2018073470400000000000000000000000000000000000000000000000000, 20901761712000000000000000000000000000000000000000000000000000]
def qZ1 : List Int := [0, 0, 234, 8424, 242424, 2424240, 21902400, 158184000, 0, 0, 0, 0, 0, 0, 0, 0, 0, 0, 0, 0, 0, 0, 0, 0, 0, 0, 0, 0, 0, 0, 0, 0, 0, 0, 0, 0, 0, 0, 0, 0, 0, 0, 0, 0, 0, 0, 0, 0, 0, 0, 0, 0, 0, 0, 0, 0, 0, 0, 0, 0, 0]
def qZ2 : List Int := [0, 0, 234, 8424, 244530, 2521116, 25052976, 211507920, 730360800, 8727264000, 87272640000, 872726400000, 8727264000000, 87272640000000, 872726400000000, 8727264000000000, 87272640000000000, 872726400000000000, 8727264000000000000, 87272640000000000000, 872726400000000000000, 8727264000000000000000, 87272640000000000000000, 872726400000000000000000, 8727264000000000000000000, 87272640000000000000000000, 872726400000000000000000000, 8727264000000000000000000000, 87272640000000000000000000000, 872726400000000000000000000000, 8727264000000000000000000000000, 87272640000000000000000000000000, 872726400000000000000000000000000, 8727264000000000000000000000000000, 87272640000000000000000000000000000, 872726400000000000000000000000000000, 8727264000000000000000000000000000000, 87272640000000000000000000000000000000, 872726400000000000000000000000000000000, 8727264000000000000000000000000000000000, 87272640000000000000000000000000000000000, 872726400000000000000000000000000000000000, 8727264000000000000000000000000000000000000, 87272640000000000000000000000000000000000000, 872726400000000000000000000000000000000000000, 8727264000000000000000000000000000000000000000, 87272640000000000000000000000000000000000000000, 872726400000000000000000000000000000000000000000, 8727264000000000000000000000000000000000000000000, 87272640000000000000000000000000000000000000000000, 872726400000000000000000000000000000000000000000000, 8727264000000000000000000000000000000000000000000000, 87272640000000000000000000000000000000000000000000000, 872726400000000000000000000000000000000000000000000000, 8727264000000000000000000000000000000000000000000000000, 87272640000000000000000000000000000000000000000000000000, 872726400000000000000000000000000000000000000000000000000, 8727264000000000000000000000000000000000000000000000000000, 87272640000000000000000000000000000000000000000000000000000, 872726400000000000000000000000000000000000000000000000000000, 8727264000000000000000000000000000000000000000000000000000000]
def qZ3 : List Int := [0, 0, 234, 8424, 244530, 2575872, 27571752, 293915700, 2157192648, 29447372448, 363249998280, 4137283062432, 48263515777152, 567635657369040, 6643779226928064, 77685150458620224, 907766433723427200, 10580585143860576000, 122884596253224000000, 1421246994120120960000, 16363798251078470400000, 187536267145356480000000, 2139313749115420800000000, 24293512740515616000000000, 274659346222013376000000000, 3092158529579283840000000000, 34671646920871584000000000000, 387273016570190400000000000000, 4309973166381667200000000000000, 47800119100845945600000000000000, 528396461276883264000000000000000, 5822949490392528000000000000000000, 63980847589138272000000000000000000, 701048863429087680000000000000000000, 7661279332481823360000000000000000000, 83515750694448134400000000000000000000, 908249406113799360000000000000000000000, 9855154523519510400000000000000000000000, 106706746725475104000000000000000000000000, 1153017272418014016000000000000000000000000, 12434766894375546240000000000000000000000000, 133855753990918752000000000000000000000000000, 1438371645428727360000000000000000000000000000, 15430308275919888000000000000000000000000000000, 165264690799478649600000000000000000000000000000, 1767331708232935104000000000000000000000000000000, 18871970499022492800000000000000000000000000000000, 201235475459854368000000000000000000000000000000000, 2142916643917632960000000000000000000000000000000000, 22789945394553317760000000000000000000000000000000000, 242070026280745478400000000000000000000000000000000000, 2568145635569816640000000000000000000000000000000000000, 27214424793382320000000000000000000000000000000000000000, 288070261570851552000000000000000000000000000000000000000, 3046037866276481856000000000000000000000000000000000000000, 32175600526379456640000000000000000000000000000000000000000, 339538099638872160000000000000000000000000000000000000000000, 3579612519124624320000000000000000000000000000000000000000000, 37703664424414684800000000000000000000000000000000000000000000, 396775458793506873600000000000000000000000000000000000000000000, 4171888777201239744000000000000000000000000000000000000000000000]
def qZ4 : List Int := [0, 0, 234, 8424, 244530, 2575872, 27571752, 294383700, 2174040648, 29936432448, 368401742280, 4192426566432, 48851347177152, 571950042665040, 6702673971824064, 78411650455180224, 916040999848291200, 10677112175414880000, 124019867567962080000, 1434534552573977088000, 16519168551995710848000, 189351800012803334400000, 2160474919403141952000000, 24539281933022064000000000, 277501840210253617920000000, 3124886126081440780800000000, 35046719455162296960000000000, 391551644068421241600000000000, 4358560191862698432000000000000, 48349437793289972352000000000000, 534580778336041831680000000000000, 5892292784234271168000000000000000, 64755393622278652800000000000000000, 709668809761851014400000000000000000, 7756879570683515251200000000000000000, 84572543617001900928000000000000000000, 919895305094584416000000000000000000000, 9983116218697786944000000000000000000000, 108108844452333279360000000000000000000000, 1168339831082977662720000000000000000000000, 12601798395764442508800000000000000000000000, 135672252803146350720000000000000000000000000, 1458081954475766380800000000000000000000000000, 15643721769370838208000000000000000000000000000, 167570725344314677632000000000000000000000000000, 1792201242021686196480000000000000000000000000000, 19139682007004330304000000000000000000000000000000, 204112218750711822720000000000000000000000000000000, 2173777260469472736000000000000000000000000000000000, 23120474776152275059200000000000000000000000000000000, 245604689697211348608000000000000000000000000000000000, 2605889576567861625600000000000000000000000000000000000, 27616895744302028736000000000000000000000000000000000000, 292356094858686817920000000000000000000000000000000000000, 3091617757065588491520000000000000000000000000000000000000, 32659740578940947596800000000000000000000000000000000000000, 344674390910011793280000000000000000000000000000000000000000, 3634041368711388960000000000000000000000000000000000000000000, 38279804947556387904000000000000000000000000000000000000000000, 402867534526059837312000000000000000000000000000000000000000000, 4236239978253998657280000000000000000000000000000000000000000000]
def qSizes : List Int := [0, 0, 234, 8424, 244530, 2575872, 27573624, 294472152, 2176965648, 29988734724, 369171097776, 4202750908512, 48974926760136, 573447070360944, 6720890827045824, 78631042437352080, 918667654713091296, 10708442837875972800, 124392515084774250912, 1438955347685458479552, 16571488947613862895360, 189969581276386656825600, 2167751662101273021696000, 24624765835099646134464000, 278503177924971144722304000, 3136579509314238432606720000, 35182830604845626647027200000, 393130674569912746401792000000, 4376815904418625729601280000000, 48559769026259999390438400000000, 536995713282644214847872000000000, 5919925014047393992581120000000000, 65070499918385466845683200000000000, 713250253827184101619968000000000000, 7797454151941467357776640000000000000, 85030773579638656581427200000000000000, 925054570797772544468352000000000000000, 10041033780143985823326720000000000000000, 108757171791458354785420800000000000000000, 1175577253618871267334144000000000000000000, 12682377509000305249278720000000000000000000, 136567107818305506264499200000000000000000000, 1467995206545163580349312000000000000000000000, 15753282097157997357588480000000000000000000000, 168778826407663214444582400000000000000000000000, 1805493648661554379836672000000000000000000000000, 19285627451566849732120320000000000000000000000000, 205711403790036741370675200000000000000000000000000, 2191266113883170148309888000000000000000000000000000, 23311376627478865818647040000000000000000000000000000, 247684747678953507706867200000000000000000000000000000, 2628514450955358954473472000000000000000000000000000000, 27862575828448264924849920000000000000000000000000000000, 295019597270963092736332800000000000000000000000000000000, 3120448823453690453222784000000000000000000000000000000000, 32971354406331482220318720000000000000000000000000000000000, 348037523245637234361331200000000000000000000000000000000000, 3670287709783955885644032000000000000000000000000000000000000, 38669924861287168736551680000000000000000000000000000000000000, 407060927765569829103206400000000000000000000000000000000000000, 4281257903182168079014272000000000000000000000000000000000000000]

theorem zMaker_e : zMaker = qMaker := by decide +kernel
theorem zTwo_e : zTwo = qMTwo := by unfold zTwo; rw [zMaker_e, behind_conv]; decide +kernel
theorem zThree_e : zThree = qThree := by unfold zThree; rw [zMaker_e, zTwo_e, behind_conv]; decide +kernel
theorem zMakers_e : zMakers = qMakers := by unfold zMakers; rw [zMaker_e, zTwo_e, zThree_e]; decide +kernel
theorem z1_e : z1 = qZ1 := by unfold z1; rw [behind_conv]; decide +kernel
theorem z2_e : z2 = qZ2 := by unfold z2; rw [z1_e, behind_conv]; decide +kernel
theorem z3_e : z3 = qZ3 := by unfold z3; rw [z2_e, zMakers_e, behind_conv]; decide +kernel
theorem z4_e : z4 = qZ4 := by unfold z4; rw [z3_e, behind_conv]; decide +kernel
theorem zSizes_e : zSizes = qSizes := by unfold zSizes; rw [z4_e, behind_conv]; decide +kernel
/-! the tables of a smaller bound begin those of 60 -/
theorem ext0 {xs ys : List Int} (hl : xs.length = ys.length) (h : ∀ k, k < xs.length → xs.getD k 0 = ys.getD k 0) : xs = ys := by
  refine List.ext_getElem hl fun k h1 h2 => ?_
  have q := h k h1
  rw [List.getD_eq_getElem?_getD, List.getElem?_eq_getElem h1, List.getD_eq_getElem?_getD, List.getElem?_eq_getElem h2] at q
  exact q
theorem take_get {xs : List Int} {k l : Nat} (h : l < k) : (xs.take k).getD l 0 = xs.getD l 0 := by
  rw [List.getD_eq_getElem?_getD, List.getElem?_take_of_lt h, ← List.getD_eq_getElem?_getD]
theorem take_cnt {xs : List Int} {k : Nat} {l : Int} (h : l < k) : cnt (xs.take k) l = cnt xs l := by
  unfold cnt
  by_cases h0 : 0 ≤ l
  · rw [if_pos h0, if_pos h0, take_get (by omega)]
  · rw [if_neg h0, if_neg h0]
theorem wmore_get {e : List Int} {c : Int} {m : List Int} {s : Int} {l : Nat} (h : l < e.length) : (wmore e c m s).getD l 0 = e.getD l 0 + c * cnt m ((l : Int) - s) := by
  unfold wmore
  rw [List.getD_eq_getElem?_getD, List.getElem?_map, List.getElem?_range h]
  rfl
theorem wmore_take {e m : List Int} {c s : Int} {k : Nat} (hk : k ≤ e.length) (hs : 0 ≤ s) : wmore (e.take k) c (m.take k) s = (wmore e c m s).take k := by
  have l1 : (e.take k).length = k := by rw [List.length_take]; omega
  refine ext0 (by rw [wmore_len, List.length_take, List.length_take, wmore_len]) fun l hl => ?_
  rw [wmore_len, l1] at hl
  rw [wmore_get (by omega), take_get hl, take_get hl, take_cnt (by omega), wmore_get (by omega)]
theorem figs_pre (r : List Int) : ∀ (n d : Nat), figs r n = (figs r (n + d)).take n
  | n, 0 => by rw [Nat.add_zero, List.take_of_length_le (by rw [figs_len]; omega)]
  | n, d + 1 => by
    rw [figs_pre r n d]
    show _ = (figs r (n + d) ++ [_]).take n
    rw [List.take_append_of_le_length (by rw [figs_len]; omega)]
theorem figs_rest {r : List Int} {k : Nat} : ∀ j, j ≤ k → figs (r.take k) j = figs r j
  | 0, _ => rfl
  | j + 1, h => by
    show figs (r.take k) j ++ [cnt (r.take k) ((j : Int) - 1) + 10 * cnt (figs (r.take k) j) ((j : Int) - 1)] = figs r j ++ [_]
    rw [figs_rest j (by omega), take_cnt (by omega)]
theorem figs_take {r : List Int} {k m : Nat} (h : k ≤ m) : figs (r.take k) k = (figs r m).take k := by
  rw [figs_rest k (Nat.le_refl _)]
  have := figs_pre r k (m - k)
  rw [show k + (m - k) = m by omega] at this
  exact this
theorem tYear_pre {n : Nat} (h : n ≤ 60) : tYear n = (tYear 60).take (n + 1) := by
  unfold tYear copies
  rw [← List.map_take]
  congr 1
  rw [List.take_range]
  congr 1
  omega
theorem tYears_pre {n : Nat} (h : n ≤ 60) : tYears n = (tYears 60).take (n + 1) := by
  unfold tYears
  rw [tYear_pre h, wmore_take (by rw [tYear_len]; omega) (by decide)]
theorem tBM_pre {n : Nat} (h : n ≤ 60) : ∀ i, (tBM n i).headD [] = ((tBM 60 i).headD []).take (n + 1)
  | 0 => tYears_pre h
  | i + 1 => by
    show wmore (tYears n) 234 (figs ((tBM n i).headD []) (n + 1)) 2 = (wmore (tYears 60) 234 (figs ((tBM 60 i).headD []) 61) 2).take (n + 1)
    rw [tBM_pre h i, figs_take (m := 61) (by omega), tYears_pre h, wmore_take (by rw [tYears_len]; omega) (by decide)]
theorem tPts_pre {n : Nat} (h : n ≤ 60) : tPts n = (tPts 60).take (n + 1) := by
  unfold tPts
  rw [tBM_pre h 3, figs_take (m := 61) (by omega)]
theorem tBN_pre {n : Nat} (h : n ≤ 60) : tBN n = (tBN 60).take (n + 1) := by
  unfold tBN
  rw [tBM_pre h 3, tPts_pre h, wmore_take (by rw [tBM_len]; omega) (by decide)]
theorem nums_take {b : List Int} {k : Nat} {l : Int} (h : l < k) : nums (b.take k) l = nums b l := by
  unfold nums
  refine List.map_congr_left fun m _ => ?_
  rw [take_cnt (by omega)]
theorem tNum_pre {n : Nat} (h : n ≤ 60) : tNum n = (tNum 60).take (n + 1) := by
  unfold tNum
  rw [← List.map_take, List.take_range, show min (n + 1) (60 + 1) = n + 1 by omega]
  refine List.map_congr_left fun l hl => ?_
  rw [List.mem_range] at hl
  rw [tBN_pre h, nums_take (by omega)]
theorem tTwo_pre {n : Nat} (h : n ≤ 60) : tTwo n = (tTwo 60).take (n + 1) := by
  unfold tTwo
  rw [tNum_pre h, wmore_take (by rw [tNum_len]; omega) (by decide)]
theorem tOne_pre {n : Nat} (h : n ≤ 60) : tOne n = (tOne 60).take (n + 1) := by
  unfold tOne
  rw [tNum_pre h, tTwo_pre h, wmore_take (by rw [tNum_len]; omega) (by decide)]
theorem tTot_pre {n : Nat} (h : n ≤ 60) : tTot n = (tLet 60).getD n 0 := by
  unfold tTot tLet
  rw [tOne_pre h, show List.replicate (n + 1) (0 : Int) = (List.replicate (60 + 1) 0).take (n + 1) by rw [List.take_replicate, show min (n + 1) (60 + 1) = n + 1 by omega], wmore_take (by rw [List.length_replicate]; omega) (by decide), take_get (by omega)]
theorem y_e : tYear 60 = qYear := by decide +kernel
theorem ys_e : tYears 60 = qYears := by unfold tYears; rw [y_e]; decide +kernel
theorem figs_by {r t : List Int} (n : Nat) (hl : t.length = n) (h : ((List.range n).all fun i => decide (t.getD i 0 = cnt r ((i : Int) - 1) + 10 * cnt t ((i : Int) - 1))) = true) : figs r n = t := by
  have key : ∀ j, j ≤ n → figs r j = t.take j := fun j => by
    induction j with
    | zero => intro _; rfl
    | succ j ih =>
      intro hj
      have q := of_decide_eq_true (List.all_eq_true.mp h j (List.mem_range.mpr (by omega)))
      show figs r j ++ [cnt r ((j : Int) - 1) + 10 * cnt (figs r j) ((j : Int) - 1)] = t.take (j + 1)
      rw [ih (by omega), take_cnt (by omega), ← q, List.take_add_one, List.getD_eq_getElem?_getD, List.getElem?_eq_getElem (by omega)]
      rfl
  rw [key n (Nat.le_refl _), List.take_of_length_le (by omega)]
theorem b0_e : (tBM 60 0).headD [] = qYears := ys_e
theorem b1_e : (tBM 60 1).headD [] = qB1 := by
  show wmore (tYears 60) 234 (figs ((tBM 60 0).headD []) 61) 2 = _
  rw [b0_e, ys_e, figs_by (t := qM0) 61 (by decide +kernel) (by decide +kernel)]
  decide +kernel
theorem b2_e : (tBM 60 2).headD [] = qB2 := by
  show wmore (tYears 60) 234 (figs ((tBM 60 1).headD []) 61) 2 = _
  rw [b1_e, ys_e, figs_by (t := qM1) 61 (by decide +kernel) (by decide +kernel)]
  decide +kernel
theorem b3_e : (tBM 60 3).headD [] = qB3 := by
  show wmore (tYears 60) 234 (figs ((tBM 60 2).headD []) 61) 2 = _
  rw [b2_e, ys_e, figs_by (t := qM2) 61 (by decide +kernel) (by decide +kernel)]
  decide +kernel
theorem pts_e : tPts 60 = qPts := by
  unfold tPts
  rw [b3_e, figs_by (t := qPts) (60 + 1) (by decide +kernel) (by decide +kernel)]
theorem bn_e : tBN 60 = qBN := by unfold tBN; rw [b3_e, pts_e]; decide +kernel
theorem num_e : tNum 60 = qNum := by unfold tNum; rw [bn_e]; decide +kernel
theorem two_e : tTwo 60 = qTwo := by unfold tTwo; rw [num_e]; decide +kernel
theorem one_e : tOne 60 = qOne := by unfold tOne; rw [num_e, two_e]; decide +kernel
theorem let_e : tLet 60 = qLet := by unfold tLet; rw [one_e]; decide +kernel
theorem chkq : ((List.range 61).all fun n => decide (qLet.getD n 0 = (qSizes.take (n + 1)).sum) && decide (qLet.getD n 0 - (if 0 < n then qLet.getD (n - 1) 0 else 0) = qSizes.getD n 0)) = true := by decide +kernel
theorem chk {n : Nat} (h : n ≤ 60) : tTot n = (zSizes.take (n + 1)).sum ∧ wsg n = zSizes.getD n 0 := by
  have q := List.all_eq_true.mp chkq n (List.mem_range.mpr (by omega))
  rw [Bool.and_eq_true] at q
  unfold wsg
  rw [tTot_pre h, tTot_pre (n := n - 1) (by omega), let_e, zSizes_e]
  exact ⟨of_decide_eq_true q.1, of_decide_eq_true q.2⟩
theorem sm1 : smb zMaker = true := by rw [zMaker_e]; decide +kernel
theorem sm2 : smb zTwo = true := by rw [zTwo_e]; decide +kernel
theorem sm3 : smb (tlong [0, 26, 676, 17576]) = true := by decide +kernel
theorem sm4 : smb (tlong [0, 9, 90, 900, 9000]) = true := by decide +kernel
theorem sm5 : smb z1 = true := by rw [z1_e]; decide +kernel
theorem sm6 : smb (tlong ([1, 0] ++ (tens 60).map (9 * ·))) = true := by decide +kernel
theorem sm7 : smb z2 = true := by rw [z2_e]; decide +kernel
theorem sm8 : smb ([1] ++ zMakers.drop 1) = true := by rw [zMakers_e]; decide +kernel
theorem sm9 : smb z3 = true := by rw [z3_e]; decide +kernel
theorem smA : smb (tlong [1, 0, 0, 0, 0, 2000]) = true := by decide +kernel
theorem smB : smb z4 = true := by rw [z4_e]; decide +kernel
theorem smC : smb (tlong ([1, 0, 0, 0, 8] ++ (tens 60).map (90 * ·))) = true := by decide +kernel
theorem tens_succ (n : Nat) : tens (n + 1) = tens n ++ [(10 : Int) ^ n] := by
  unfold tens
  rw [List.range_succ, List.map_append]
  rfl
theorem tens_len (n : Nat) : (tens n).length = n := by unfold tens; rw [List.length_map, List.length_range]
theorem el_mul {p : Addr} {ns : List Int} {c : Int} {H : Hp} {s1 s2 s3 s4 s5 s6 s7 s8 s9 s10 : Option V} (hp : SqL K H p (ii ns)) (hz : ns.length ≤ 1000) (hc : -(2 ^ 64) < c ∧ c < 2 ^ 64) :
    EvL (tLc (iList K (tVar 0)) (gName 3) tYes (tOp (rI CMul fun i j => .int (i * j)) (tC (.int c)) (tVar 3)) [3]) [some (.ref p), s1, s2, s3, s4, s5, s6, s7, s8, s9, s10] H (ii (ns.map (c * ·))) := fun H1 e Q q =>
  el_lcL (K := K) (xs := ii ns) (fun _ => true) (fun i => .int (c * ns.getD i 0)) (ev_var rfl) hp (by rw [ii_len]; omega) (fun x => rfl) (fun i x H2 e2 hx => et_yes)
    (fun i x H2 e2 hx _ => by
      obtain ⟨z, hz, rfl⟩ := ii_of hx
      have e0 : ns.getD i 0 = z := by rw [List.getD_eq_getElem?_getD, hz]; rfl
      rw [e0]
      exact ev_op ev_c (ev_var rfl) (rv_I (.inl hc))) H1 e Q fun r H2 hr e2 h2 => q r H2 hr e2 (by
      rw [h2, given_all, ii_len]
      congr 2
      refine List.ext_getElem? fun k => ?_
      show _ = (List.map V.int (ns.map (c * ·)))[k]?
      rw [List.getElem?_map, List.getElem?_map, List.getElem?_map]
      by_cases hk : k < ns.length
      · rw [List.getElem?_range hk]
        show some (V.int (c * ns.getD k 0)) = _
        rw [List.getD_eq_getElem?_getD, List.getElem?_eq_getElem hk]
        rfl
      · rw [List.getElem?_eq_none (by rw [List.length_range]; omega), List.getElem?_eq_none (by omega)]
        rfl)
theorem cut_drop (xs : List V) : cutV xs (some 1) none = xs.drop 1 := by
  unfold cutV
  rw [show HT.sIx xs.length 0 (some 1) = min 1 xs.length from HT.sIx_nat xs.length 0 1, HT.sIx_none]
  cases xs with
  | nil => rfl
  | cons x r =>
    rw [show min 1 (x :: r).length = 1 by rw [List.length_cons]; omega]
    show (List.take ((x :: r).length - 1) r) = r
    rw [List.length_cons, Nat.add_sub_cancel]
    exact List.take_length
theorem ok_l_sizes (T : Txt K mg Z) : FnOk P w K mg base CX0 2 Z.a_l_sizes Z.d_l_sizes [] (fun vs H Q _ => vs = [] ∧ RetL (ii zSizes) H Q) := by
  refine T.F_l_sizes.ok sc_l_sizes (fun vs H Q E h => ?_) (fun cdv A outer' s H vs Q E hr h => ?_)
  · obtain ⟨rfl, _⟩ := h; rfl
  · obtain ⟨rfl, k⟩ := h
    refine ⟨_, (pss_cons (ps_set (i := 0) sc_l_sizes.nd rfl (.inl rfl) (pe_lst (pa_cons pe_int pa_nil)))
      (pss_cons (ps_for PassesOwn.never rfl (pi_range1 rfl T.n_range (pa_cons pe_int pa_nil)) (pg_name (i := 1) sc_l_sizes.nd rfl (.inl rfl)) (pss_one (ps_expr (bmK K PySem.F.plainAttrs_list PySem.F.slot_list_append PySem.F.type_list_append mt_append (pv 0) (pa_cons (pe_op op_mul pe_int (pe_ix (ixL K) (pv 0) (pe_un un_neg pe_int) (fun _ _ => rfl))) pa_nil)))))
      (pss_cons (ps_set (i := 2) sc_l_sizes.nd rfl (.inl rfl) (pe_op op_cat (pe_lst (pa_cons pe_int (pa_cons pe_int pa_nil))) (pe_lc (own := [("_law_ten", 3)]) (g := gName 3) (tt := tYes) rfl sc_l_sizes.nd (pi_list (pv 0)) (blkOk_by (own := [("_law_ten", 3)]) (N := ["_law_tens", "_law_k", "_law_points", "_law_ten", "_law_maker", "_law_two", "_law_makers", "_law_one", "_law_other", "_law_third", "_law_found"]) (sc := defScope s_l_sizes) (by decide +kernel)) (fun _ _ _ _ _ => (pg_name (i := 3) sc_l_sizes.nd rfl (.inl rfl))) (fun _ _ _ _ _ => pts_nil) (fun _ _ _ _ _ => (pe_op op_mul pe_int (pv 3))))))
      (pss_cons (ps_set (i := 4) sc_l_sizes.nd rfl (.inl rfl) (pe_call (ok_l_long T) (hr.mono (by decide)) rfl T.g_l_long T.F_l_long.kp T.b_l_long .nil pass0 (pa_cons (pe_op op_cat (pe_lst (pa_cons pe_int (pa_cons pe_int (pa_cons pe_int pa_nil)))) (pe_lc (own := [("_law_ten", 3)]) (g := gName 3) (tt := tYes) rfl sc_l_sizes.nd (pi_list (pv 0)) (blkOk_by (own := [("_law_ten", 3)]) (N := ["_law_tens", "_law_k", "_law_points", "_law_ten", "_law_maker", "_law_two", "_law_makers", "_law_one", "_law_other", "_law_third", "_law_found"]) (sc := defScope s_l_sizes) (by decide +kernel)) (fun _ _ _ _ _ => (pg_name (i := 3) sc_l_sizes.nd rfl (.inl rfl))) (fun _ _ _ _ _ => pts_nil) (fun _ _ _ _ _ => (pe_op op_mul pe_int (pv 3))))) pa_nil)))
      (pss_cons (ps_set (i := 5) sc_l_sizes.nd rfl (.inl rfl) (pe_call (ok_l_behind T) (hr.mono (by decide)) rfl T.g_l_behind T.F_l_behind.kp T.b_l_behind .nil pass0 (pa_cons (pv 4) (pa_cons (pv 4) pa_nil))))
      (pss_cons (ps_setLc (i := 6) (own := [("_law_one", 7), ("_law_other", 8), ("_law_third", 9)]) (g := (gTup K 3 (gCons (gName 7) (gCons (gName 8) (gCons (gName 9) gNil))))) (tt := tYes) rfl sc_l_sizes.nd rfl rfl (sw_true rfl rfl rfl (by decide +kernel)) (pi_zip3 (by rfl) T.n_zip (pa_cons (pv 4) (pa_cons (pv 5) (pa_cons (pe_call (ok_l_behind T) (hr.mono (by decide)) rfl T.g_l_behind T.F_l_behind.kp T.b_l_behind .nil pass0 (pa_cons (pv 5) (pa_cons (pv 4) pa_nil))) pa_nil)))) (blkOk_by (own := [("_law_one", 7), ("_law_other", 8), ("_law_third", 9)]) (N := ["_law_tens", "_law_k", "_law_points", "_law_ten", "_law_maker", "_law_two", "_law_makers", "_law_one", "_law_other", "_law_third", "_law_found"]) (sc := defScope s_l_sizes) (by decide +kernel)) (fun _ _ _ _ _ => (pg_tup rfl (pgs_cons (pg_name (i := 7) sc_l_sizes.nd rfl (.inl rfl)) (pgs_cons (pg_name (i := 8) sc_l_sizes.nd rfl (.inl rfl)) (pgs_cons (pg_name (i := 9) sc_l_sizes.nd rfl (.inl rfl)) pgs_nil))))) (fun _ _ _ _ _ => pts_nil) (fun _ _ _ _ _ => (pe_op op_add (pe_op op_add (pv 7) (pv 8)) (pv 9))))
      (pss_cons (ps_set (i := 10) sc_l_sizes.nd rfl (.inl rfl) (pe_call (ok_l_behind T) (hr.mono (by decide)) rfl T.g_l_behind T.F_l_behind.kp T.b_l_behind .nil pass0 (pa_cons (pe_call (ok_l_long T) (hr.mono (by decide)) rfl T.g_l_long T.F_l_long.kp T.b_l_long .nil pass0 (pa_cons (pe_lst (pa_cons pe_int (pa_cons pe_int (pa_cons pe_int (pa_cons pe_int pa_nil))))) pa_nil)) (pa_cons (pe_call (ok_l_long T) (hr.mono (by decide)) rfl T.g_l_long T.F_l_long.kp T.b_l_long .nil pass0 (pa_cons (pe_lst (pa_cons pe_int (pa_cons pe_int (pa_cons pe_int (pa_cons pe_int (pa_cons pe_int pa_nil)))))) pa_nil)) pa_nil))))
      (pss_cons (ps_set (i := 10) sc_l_sizes.nd rfl (.inl rfl) (pe_call (ok_l_behind T) (hr.mono (by decide)) rfl T.g_l_behind T.F_l_behind.kp T.b_l_behind .nil pass0 (pa_cons (pe_call (ok_l_long T) (hr.mono (by decide)) rfl T.g_l_long T.F_l_long.kp T.b_l_long .nil pass0 (pa_cons (pv 2) pa_nil)) (pa_cons (pv 10) pa_nil))))
      (pss_cons (ps_set (i := 10) sc_l_sizes.nd rfl (.inl rfl) (pe_call (ok_l_behind T) (hr.mono (by decide)) rfl T.g_l_behind T.F_l_behind.kp T.b_l_behind .nil pass0 (pa_cons (pe_op op_cat (pe_lst (pa_cons pe_int pa_nil)) (pe_slice (slL K) (pv 6) (po_some pe_int) po_none)) (pa_cons (pv 10) pa_nil))))
      (pss_cons (ps_set (i := 10) sc_l_sizes.nd rfl (.inl rfl) (pe_call (ok_l_behind T) (hr.mono (by decide)) rfl T.g_l_behind T.F_l_behind.kp T.b_l_behind .nil pass0 (pa_cons (pe_call (ok_l_long T) (hr.mono (by decide)) rfl T.g_l_long T.F_l_long.kp T.b_l_long .nil pass0 (pa_cons (pe_lst (pa_cons pe_int (pa_cons pe_int (pa_cons pe_int (pa_cons pe_int (pa_cons pe_int (pa_cons pe_int pa_nil))))))) pa_nil)) (pa_cons (pv 10) pa_nil))))
      (pss_one (ps_ret (pe_call (ok_l_behind T) (hr.mono (by decide)) rfl T.g_l_behind T.F_l_behind.kp T.b_l_behind .nil pass0 (pa_cons (pe_call (ok_l_long T) (hr.mono (by decide)) rfl T.g_l_long T.F_l_long.kp T.b_l_long .nil pass0 (pa_cons (pe_op op_cat (pe_lst (pa_cons pe_int (pa_cons pe_int (pa_cons pe_int (pa_cons pe_int (pa_cons pe_int pa_nil)))))) (pe_lc (own := [("_law_ten", 3)]) (g := gName 3) (tt := tYes) rfl sc_l_sizes.nd (pi_list (pv 0)) (blkOk_by (own := [("_law_ten", 3)]) (N := ["_law_tens", "_law_k", "_law_points", "_law_ten", "_law_maker", "_law_two", "_law_makers", "_law_one", "_law_other", "_law_third", "_law_found"]) (sc := defScope s_l_sizes) (by decide +kernel)) (fun _ _ _ _ _ => (pg_name (i := 3) sc_l_sizes.nd rfl (.inl rfl))) (fun _ _ _ _ _ => pts_nil) (fun _ _ _ _ _ => (pe_op op_mul pe_int (pv 3))))) pa_nil)) (pa_cons (pv 10) pa_nil))))))))))))))), ?_⟩
    refine q_asgL (el_lst (ea_cons ev_c ea_nil) (by simp)) fun p H1 hp e1 h1 => ?_
    refine q_forR1 (n := 59) (ea_cons ev_c ea_nil) ⟨by decide, by decide⟩
      (fun i σ H' => ∃ s1, σ = [some (.ref p), s1, none, none, none, none, none, none, none, none, none] ∧ Ex H H' ∧ H' p = some (.lst (ii (tens (i + 1))))) (fun H2 e2 => ⟨none, rfl, e1.trans e2, e2 _ _ h1⟩) ?_ ?_
    · rintro i σ H' hi ⟨s1, rfl, e, hP⟩
      have el : atI (ii (tens (i + 1))) (-1) = some (.int ((10 : Int) ^ i)) := by
        have : ii (tens (i + 1)) = ii (tens i) ++ [.int ((10 : Int) ^ i)] := by
          rw [tens_succ]
          show List.map V.int _ = _
          rw [List.map_append]
          rfl
        rw [this]
        exact atI_last _ _
      refine s_app hP (ev_var rfl) (v := .int (10 * 10 ^ i)) (ev_op ev_c (ev_op (ev_var rfl) (ev_un ev_c ru_neg) (rv_ixL (i := -1) (sq_of hP) el)) (rv_I (.inl ⟨by decide, by decide⟩))) (by rw [ii_len, tens_len]; omega) fun H5 e5 => ?_
      refine ⟨_, rfl, Ex.mut (e.trans e5) hp, ?_⟩
      rw [upd_same]
      congr 2
      show _ = ii (tens (i + 1 + 1))
      rw [tens_succ (i + 1)]
      show _ = List.map V.int _
      rw [List.map_append, Int.pow_succ, Int.mul_comm]
      rfl
    · rintro σ H2 ⟨s1, rfl, e2, hP⟩
      rw [show (59 : Int).toNat + 1 = 60 from rfl] at hP
      refine q_asgL (xs := ii ([1, 0] ++ (tens 60).map (9 * ·))) (el_cat (xs := [.int 1, .int 0]) (el_lst (ea_cons ev_c (ea_cons ev_c ea_nil)) (by simp)) (fun H3 e3 => el_mul (ex_l e3 (sq_of hP)) (by rw [tens_len]; decide) ⟨by decide, by decide⟩) (by rw [ii_len, List.length_map, tens_len]; decide)) fun ap H3 hap e3 h3 => ?_
      refine q_asgL (xs := ii zMaker) (el_callL (xs := ii ([0, 0, 0] ++ (tens 60).map (234 * ·))) (el_cat (xs := [.int 0, .int 0, .int 0]) (el_lst (ea_cons ev_c (ea_cons ev_c (ea_cons ev_c ea_nil))) (by simp)) (fun H4 e4 => el_mul (ex_l (e3.trans e4) (sq_of hP)) (by rw [tens_len]; decide) ⟨by decide, by decide⟩) (by rw [ii_len, List.length_map, tens_len]; decide)) ea_nil
        (fun q H4 e4 h4 => sp_long h4 (by rw [List.length_append, List.length_map, tens_len]; decide))) fun am H4 ham e4 h4 => ?_
      refine q_asgL (xs := ii zTwo) (el_call (ea_cons (ev_var rfl) (ea_cons (ev_var rfl) ea_nil)) (sp_behind (sq_of h4) (sq_of h4) sm1 sm1)) fun at' H5 hat e5 h5 => ?_
      have h45 := e5 _ _ h4
      refine q_asgL (xs := ii zMakers) (fun H6 e6 Q' q' => ?_) fun az H6 haz e6 h6 => ?_
      · refine ⟨_, rfl, _, rfl, el_call (ea_cons (ev_var rfl) (ea_cons (ev_var rfl) ea_nil)) (sp_behind (sq_of (e6 _ _ h5)) (sq_of (e6 _ _ h45)) sm2 sm1) H6 (Ex.refl _) _ fun r H7 hr7 e7 h7 => ?_⟩
        have k4 := e7 _ _ (e6 _ _ h45)
        have k5 := e7 _ _ (e6 _ _ h5)
        refine ⟨am, at', r, _, _, _, rfl, sq_of k4, sq_of k5, sq_of h7, fun D hD => lc_it (walk_zip3 (K := K) (a := am) (b := at') (c := r) (n := 61) (by rw [ii_len, zMaker_e]; rfl) (by rw [ii_len, zTwo_e]; rfl) (by rw [ii_len]; exact behind_len _ _))
          (fun i H' => Ex H7 H' ∧ H' D = some (.lst (ii (zMakers.take i)))) ⟨Ex.new hD, upd_same⟩ (fun i H' _ h => ⟨sq_of (h.1 _ _ k4), sq_of (h.1 _ _ k5), sq_of (h.1 _ _ h7)⟩) ?_ ?_⟩
        · rintro i x H8 H9 hi ⟨e8, h8⟩ ⟨T', x1, x2, x3, rfl, hT, rfl, f1, f2, f3⟩
          have g1 := (ii_get (xs := zMaker) (j := i) (by rw [zMaker_e]; exact hi)).symm.trans f1
          have g2 := (ii_get (xs := zTwo) (j := i) (by rw [zTwo_e]; exact hi)).symm.trans f2
          have g3 := (ii_get (xs := zThree) (j := i) (by rw [zThree_e]; exact hi)).symm.trans f3
          cases g1
          cases g2
          cases g3
          refine ⟨T', _, rfl, .inl (.inl upd_same), rfl, _, _, rfl, _, _, rfl, _, _, rfl, rfl, rfl, ?_⟩
          dsimp only [tYes]
          rw [if_pos rfl]
          have hl : (ii (zMakers.take i)).length < 100000 := by rw [ii_len, List.length_take]; omega
          refine ⟨_, rfl, _, rfl, _, _, rfl, rfl, _, rfl, _, _, rfl, rfl, ii (zMakers.take i), ?_, sz_lt hl, ?_, ?_⟩
          · rw [upd_ne (ne_of_none h8 hT)]; exact h8
          · exact Ex.mut (e8.trans (Ex.new hT)) hD
          · rw [upd_same]
            congr 2
            show _ = List.map V.int (zMakers.take (i + 1))
            have hm : zMakers[i]? = some (zMaker.getD i 0 + zTwo.getD i 0 + zThree.getD i 0) := by
              unfold zMakers
              rw [List.getElem?_map, List.getElem?_range hi]
              rfl
            rw [List.take_add_one, hm, List.map_append]
            rfl
        · rintro H8 ⟨e8, h8⟩
          rw [List.take_of_length_le (show zMakers.length ≤ 61 by unfold zMakers; rw [List.length_map, List.length_range]; decide)] at h8
          exact q' D H8 (fresh_back e7 hD) (e7.trans e8) h8
      · refine q_asgL (xs := ii z1) (el_callLL (el_callL (el_lst (ea_cons ev_c (ea_cons ev_c (ea_cons ev_c (ea_cons ev_c ea_nil)))) (by simp)) ea_nil (fun q H7 e7 h7 => sp_long (xs := [0, 26, 676, 17576]) h7 (by decide)))
          (fun H7 e7 => el_callL (el_lst (ea_cons ev_c (ea_cons ev_c (ea_cons ev_c (ea_cons ev_c (ea_cons ev_c ea_nil))))) (by simp)) ea_nil (fun q H8 e8 h8 => sp_long (xs := [0, 9, 90, 900, 9000]) h8 (by decide))) ea_nil
          (fun q r H7 e7 h7 h8 => sp_behind (sq_of h7) (sq_of h8) sm3 sm4)) fun a1 H7 ha1 e7 h7 => ?_
        have p7 := e7 _ _ (e6 _ _ (e5 _ _ (e4 _ _ h3)))
        refine q_asgL (xs := ii z2) (el_callL (el_call (ea_cons (ev_var rfl) ea_nil) (sp_long p7 (by rw [List.length_append, List.length_map, tens_len]; decide))) (ea_cons (ev_var rfl) ea_nil) (fun q H8 e8 h8 => sp_behind (sq_of h8) (sq_of (e8 _ _ h7)) sm6 sm5)) fun a2 H8 ha2 e8 h8 => ?_
        have z8 := e8 _ _ (e7 _ _ h6)
        refine q_asgL (xs := ii z3) (el_callL (xs := ii ([1] ++ zMakers.drop 1)) (fun H9 e9 Q' q' => el_cat (xs := [.int 1]) (el_lst (ea_cons ev_c ea_nil) (by simp)) (fun HA eA => el_sl (ev_var rfl) (eo_some (i := 1) ev_c) eo_none (sq_of (eA _ _ z8))) (by have := cutV_length (ii zMakers) (some 1) none; have l2 : (ii zMakers).length = 61 := (by rw [ii_len, zMakers_e] <;> rfl); simp only [List.length_cons, List.length_nil]; omega) H9 e9 Q' fun r HB hr eB hB => q' r HB hr eB (by
          rw [hB, cut_drop]
          first | rfl | (congr 2; done) | (congr 2; show _ = V.int 1 :: List.map V.int (zMakers.drop 1); rw [List.map_drop]; rfl))) (ea_cons (ev_var rfl) ea_nil) (fun q H9 e9 h9 => sp_behind (sq_of h9) (sq_of (e9 _ _ h8)) sm8 sm7)) fun a3 H9 ha3 e9 h9 => ?_
        refine q_asgL (xs := ii z4) (el_callL (el_callL (el_lst (ea_cons ev_c (ea_cons ev_c (ea_cons ev_c (ea_cons ev_c (ea_cons ev_c (ea_cons ev_c ea_nil)))))) (by simp)) ea_nil (fun q HA eA hA => sp_long (xs := [1, 0, 0, 0, 0, 2000]) hA (by decide))) (ea_cons (ev_var rfl) ea_nil) (fun q HA eA hA => sp_behind (sq_of hA) (sq_of (eA _ _ h9)) smA sm9)) fun a4 HA ha4 eA hA => ?_
        have tA := eA _ _ (e9 _ _ (e8 _ _ (e7 _ _ (e6 _ _ (e5 _ _ (e4 _ _ (e3 _ _ hP)))))))
        refine s_retL (xs := ii zSizes) (el_callL (el_callL (xs := ii ([1, 0, 0, 0, 8] ++ (tens 60).map (90 * ·))) (el_cat (xs := [.int 1, .int 0, .int 0, .int 0, .int 8]) (el_lst (ea_cons ev_c (ea_cons ev_c (ea_cons ev_c (ea_cons ev_c (ea_cons ev_c ea_nil))))) (by simp)) (fun HB eB => el_mul (ex_l eB (sq_of tA)) (by rw [tens_len]; decide) ⟨by decide, by decide⟩) (by rw [ii_len, List.length_map, tens_len]; decide)) ea_nil
          (fun q HB eB hB => sp_long hB (by rw [List.length_append, List.length_map, tens_len]; decide))) (ea_cons (ev_var rfl) ea_nil) (fun q HB eB hB => sp_behind (sq_of hB) (sq_of (eB _ _ hA)) smC smB)) fun r HB hr' eB hB => ?_
        have EE := (((((((e2.trans e3).trans e4).trans e5).trans e6).trans e7).trans e8).trans e9).trans eA
        exact k r HB (fresh_back EE hr') (EE.trans eB) hB
/-! ### the law -/
def spLaw (K : PySem.W.Frag) : Sp := fun vs H Q _ => ∃ (a : Addr) (ns : List Int), vs = [.ref a] ∧ SqL K H a (ns.map V.int) ∧ ns.length ≤ 63 ∧ ∀ H', Q (.bl true) H'
theorem ok_law (T : Txt K mg Z) : FnOk P w K mg base CX0 12 Z.a_law Z.d_law ["_law_script"] (spLaw K) := by
  refine T.F_law.ok sc_law (fun vs H Q E h => ?_) (fun cdv A outer' s H vs Q E hr h => ?_)
  · obtain ⟨a, ns, rfl, _⟩ := h; rfl
  · obtain ⟨a, ns, rfl, hS, hlen, k⟩ := h
    refine ⟨_, (pss_cons (ps_set (i := 1) sc_law.nd rfl (.inl rfl) (pe_call0 (ok_l_sizes T) (hr.mono (by decide)) rfl T.g_l_sizes T.F_l_sizes.kp T.b_l_sizes .nil pass0))
      (pss_cons (ps_for PassesOwn.never rfl (pi_list (pe_op op_cat (pe_slice (slL K) (pv 0) po_none (po_some pe_int)) (pe_lst (pa_cons pe_int (pa_cons pe_int (pa_cons pe_int pa_nil)))))) (pg_name (i := 2) sc_law.nd rfl (.inl rfl)) (pss_cons (ps_set (i := 3) sc_law.nd rfl (.inl rfl) (pe_op op_mod (pv 2) pe_int))
      (pss_cons (ps_if (PW.pt (pw_or (pt_not (pt_val (pe_call (ok_l_is T) (hr.mono (by decide)) rfl T.g_l_is T.F_l_is.kp T.b_l_is .nil pass0 (pa_cons (pe_call (ok_how_many T) (hr.mono (by decide)) rfl T.g_how_many T.F_how_many.kp T.b_how_many .nil pass0 (pa_cons (pv 3) pa_nil)) (pa_cons (pe_callB (sumK K rfl) (by rfl) T.n_sum (by decide +kernel) (pa_cons (pe_slice (slL K) (pv 1) po_none (po_some (pe_op op_add (pv 3) pe_int))) pa_nil)) pa_nil))))) (pw_or1 (pt_not (pt_val (pe_call (ok_l_is T) (hr.mono (by decide)) rfl T.g_l_is T.F_l_is.kp T.b_l_is .nil pass0 (pa_cons (pe_call (ok_with_signs T) (hr.mono (by decide)) rfl T.g_with_signs T.F_with_signs.kp T.b_with_signs .nil pass0 (pa_cons (pv 3) pa_nil)) (pa_cons (pe_ix (ixL K) (pv 1) (pv 3) (fun _ _ => rfl)) pa_nil)))))))) (pss_one (ps_ret pe_bl)) pss_nil)
      (pss_one (ps_if (PW.pt (pw_or (pt_cmpR op_ne (pe_call (ok_with_signs T) (hr.mono (by decide)) rfl T.g_with_signs T.F_with_signs.kp T.b_with_signs .nil pass0 (pa_cons (pv 3) pa_nil)) (pe_ix (ixL K) (pv 1) (pv 3) (fun _ _ => rfl)) (nomark _)) (pw_or1 (pt_cmpR op_ne (pe_call (ok_how_many T) (hr.mono (by decide)) rfl T.g_how_many T.F_how_many.kp T.b_how_many .nil pass0 (pa_cons (pv 3) pa_nil)) (pe_callB (sumK K rfl) (by rfl) T.n_sum (by decide +kernel) (pa_cons (pe_slice (slL K) (pv 1) po_none (po_some (pe_op op_add (pv 3) pe_int))) pa_nil)) (nomark _))))) (pss_one (ps_ret pe_bl)) pss_nil)))))
      (pss_one (ps_ret pe_bl)))), ?_⟩
    refine q_asgL (xs := ii zSizes) (fun H1 e1 Q' q' => ⟨rfl, q'⟩) fun p H1 hp e1 h1 => ?_
    have hx : cutV (ii ns) none (some 10) ++ [V.int 60, .int 2, .int 0] = ii (ns.take 10 ++ [60, 2, 0]) := by
      rw [show (some (10 : Int)) = some ((10 : Nat) : Int) from rfl, cut_take]
      show _ = List.map V.int _
      rw [List.map_append, List.map_take]
      rfl
    refine q_forNLn (xs := ii (ns.take 10 ++ [60, 2, 0])) (fun H2 e2 Q' q' => el_cat (xs := cutV (ii ns) none (some 10)) (ys := [.int 60, .int 2, .int 0]) (el_sl (ev_var rfl) eo_none (eo_some ev_c) (ex_l e1 hS)) (fun H3 e3 => el_lst (ea_cons ev_c (ea_cons ev_c (ea_cons ev_c ea_nil))) (by simp)) (by have := cutV_length (ii ns) none (some 10); rw [ii_len] at this; simp only [List.length_cons, List.length_nil]; omega) H2 e2 Q' (by rw [hx]; exact q'))
      (fun q i σ H' => ∃ s2 s3, σ = [some (.ref a), some (.ref p), s2, s3] ∧ H' p = some (.lst (ii zSizes)) ∧ H' q = some (.lst (ii (ns.take 10 ++ [60, 2, 0])))) (fun q H2 hq e2 h2 => ⟨none, none, rfl, e2 _ _ h1, h2⟩) (fun q i σ H' _ ⟨_, _, _, _, h⟩ => sq_of h) ?_ ?_
    · rintro q i x σ H2 hi ⟨s2, s3, rfl, hP, hq⟩
      obtain ⟨c, _, rfl⟩ := ii_of hi
      obtain ⟨n, hn, en⟩ : ∃ n : Nat, n ≤ 60 ∧ c % 61 = (n : Int) := ⟨(c % 61).toNat, by omega, by omega⟩
      obtain ⟨c1, c2⟩ := chk hn
      refine q_asg (v := .int (n : Int)) (by rw [← en]; exact ev_op (ev_var rfl) ev_c (rv_I (by show (0 : Int) < 61; decide))) fun H3 e3 => ?_
      have hP3 := e3 _ _ hP
      have zl : zSizes.length = 61 := by rw [zSizes_e]; rfl
      have sumE : ∀ H4, Ex H3 H4 → Ev (tCB (rSum K) (tCons (tSl (rSlL K) (tVar 1) tNoPart (tPart (tOp (rI0 fun i j => .int (i + j)) (tVar 3) (tC (.int 1))))) tNil)) [some (.ref a), some (.ref p), some (.int c), some (.int (n : Int))] H4 (.int (zSizes.take (n + 1)).sum) := fun H4 e4 =>
        ev_sumN fun H5 e5 Q' q' => el_sl (ev_var rfl) eo_none (eo_some (i := ((n + 1 : Nat) : Int)) (ev_op (ev_var rfl) ev_c rv_I0)) (sq_of (e4 _ _ hP3)) H5 e5 Q' (by
          rw [cut_take]
          have : (ii zSizes).take (n + 1) = ii (zSizes.take (n + 1)) := by show _ = List.map V.int _; rw [List.map_take]
          rw [this]
          exact q')
      have ixE : ∀ H4, Ex H3 H4 → Ev (tOp (rIxL K) (tVar 1) (tVar 3)) [some (.ref a), some (.ref p), some (.int c), some (.int (n : Int))] H4 (.int (zSizes.getD n 0)) := fun H4 e4 => ev_op (ev_var rfl) (ev_var rfl) (rv_ixL (sq_of (e4 _ _ hP3)) (atI_nat (ii_get (by omega))))
      have is1 : ∀ {i j : Int} {H4}, i = j → SpV (fun vs H Q _ => ∃ i j : Int, vs = [.int i, .int j] ∧ RetV (.bl (decide (i = j))) H Q) [.int i, .int j] H4 (.bl true) := fun {i j H4} h H5 e5 Q' q' E => ⟨i, j, rfl, by rw [decide_eq_true h]; exact q'⟩
      have ws : ∀ {H4}, SpV (fun vs H Q _ => ∃ n : Nat, vs = [.int (n : Int)] ∧ n ≤ 60 ∧ RetV (.int (wsg n)) H Q) [.int (n : Int)] H4 (.int (wsg n)) := fun H5 e5 Q' q' E => ⟨n, rfl, hn, q'⟩
      refine q_when (b := false) (et_or (a := false) (et_not (a := true) (et_B (ev_call (ea_cons (ev_call (ea_cons (ev_var rfl) ea_nil) (sp_many hn)) (ea_cons (sumE H3 (Ex.refl _)) ea_nil)) (is1 c1)))) (fun _ => et_not (a := true) (et_B (ev_call (ea_cons (ev_call (ea_cons (ev_var rfl) ea_nil) ws) (ea_cons (ixE H3 (Ex.refl _)) ea_nil)) (is1 c2))))) (fun h => nomatch h) (fun _ H4 e4 => ?_)
      have ne0 : ∀ {i j : Int}, i = j → (!decide (V.int i = V.int j)) = false := fun h => by rw [h, decide_eq_true rfl]; rfl
      refine s_when (b := false) (et_or (a := false) (et_is (et_test (ev_op (ev_call (ea_cons (ev_var rfl) ea_nil) ws) (ixE H4 e4) (rv_ne rfl))) (ne0 c2)) (fun _ => et_is (et_test (ev_op (ev_call (ea_cons (ev_var rfl) ea_nil) (sp_many hn)) (sumE H4 e4) (rv_ne rfl))) (ne0 c1))) (fun h => nomatch h) (fun _ H5 e5 => ?_)
      exact ⟨_, _, rfl, e5 _ _ (e4 _ _ hP3), e5 _ _ (e4 _ _ (e3 _ _ hq))⟩
    · rintro q σ H2 ⟨s2, s3, rfl, hP, hq⟩
      exact s_ret ev_c fun H3 e3 => k H3
end
/-! ### what the top has written, the head -/
theorem all_mk {l : PySem.W.OpenLaw} {w : World} {K : PySem.W.Frag} {h : Heap} {mg : Str → Option Value} {fa : Addr} (X : K.In h) (G : h.Ns mainGlobals mg) (hfa : mg "law" = some (.ref fa))
    {C_Tails : Addr}
    {f_is_number : Addr} {od_is_number an_is_number : Option Addr} {sl_is_number : Array (Option Value)} {oc_is_number kV_is_number dc_is_number pm_is_number cd_is_number ct_is_number : Value}
    {f_is_whole : Addr} {od_is_whole an_is_whole : Option Addr} {sl_is_whole : Array (Option Value)} {oc_is_whole kV_is_whole dc_is_whole pm_is_whole cd_is_whole ct_is_whole : Value}
    {dT_is_whole : Addr} {do_is_whole : Obj} {dn_is_whole : Nat} {dus_is_whole : List Value}
    {f_is_bound : Addr} {od_is_bound an_is_bound : Option Addr} {sl_is_bound : Array (Option Value)} {oc_is_bound kV_is_bound dc_is_bound pm_is_bound cd_is_bound ct_is_bound : Value}
    {f_counted : Addr} {od_counted an_counted : Option Addr} {sl_counted : Array (Option Value)} {oc_counted kV_counted dc_counted pm_counted cd_counted ct_counted : Value}
    {f_Tails_init : Addr} {od_Tails_init an_Tails_init : Option Addr} {sl_Tails_init : Array (Option Value)} {oc_Tails_init kV_Tails_init dc_Tails_init pm_Tails_init cd_Tails_init ct_Tails_init : Value}
    {f_Tails_behind_number : Addr} {od_Tails_behind_number an_Tails_behind_number : Option Addr} {sl_Tails_behind_number : Array (Option Value)} {oc_Tails_behind_number kV_Tails_behind_number dc_Tails_behind_number pm_Tails_behind_number cd_Tails_behind_number ct_Tails_behind_number : Value}
    {f_Tails_behind_letters : Addr} {od_Tails_behind_letters an_Tails_behind_letters : Option Addr} {sl_Tails_behind_letters : Array (Option Value)} {oc_Tails_behind_letters kV_Tails_behind_letters dc_Tails_behind_letters pm_Tails_behind_letters cd_Tails_behind_letters ct_Tails_behind_letters : Value}
    {f_Tails_in_letters : Addr} {od_Tails_in_letters an_Tails_in_letters : Option Addr} {sl_Tails_in_letters : Array (Option Value)} {oc_Tails_in_letters kV_Tails_in_letters dc_Tails_in_letters pm_Tails_in_letters cd_Tails_in_letters ct_Tails_in_letters : Value}
    {f_Tails_marks : Addr} {od_Tails_marks an_Tails_marks : Option Addr} {sl_Tails_marks : Array (Option Value)} {oc_Tails_marks kV_Tails_marks dc_Tails_marks pm_Tails_marks cd_Tails_marks ct_Tails_marks : Value}
    {f_copies : Addr} {od_copies an_copies : Option Addr} {sl_copies : Array (Option Value)} {oc_copies kV_copies dc_copies pm_copies cd_copies ct_copies : Value}
    {f_with_more : Addr} {od_with_more an_with_more : Option Addr} {sl_with_more : Array (Option Value)} {oc_with_more kV_with_more dc_with_more pm_with_more cd_with_more ct_with_more : Value}
    {f_figures : Addr} {od_figures an_figures : Option Addr} {sl_figures : Array (Option Value)} {oc_figures kV_figures dc_figures pm_figures cd_figures ct_figures : Value}
    {f_how_many : Addr} {od_how_many an_how_many : Option Addr} {sl_how_many : Array (Option Value)} {oc_how_many kV_how_many dc_how_many pm_how_many cd_how_many ct_how_many : Value}
    {f_with_signs : Addr} {od_with_signs an_with_signs : Option Addr} {sl_with_signs : Array (Option Value)} {oc_with_signs kV_with_signs dc_with_signs pm_with_signs cd_with_signs ct_with_signs : Value}
    {f_l_is : Addr} {od_l_is an_l_is : Option Addr} {sl_l_is : Array (Option Value)} {oc_l_is kV_l_is dc_l_is pm_l_is cd_l_is ct_l_is : Value}
    {f_l_behind : Addr} {od_l_behind an_l_behind : Option Addr} {sl_l_behind : Array (Option Value)} {oc_l_behind kV_l_behind dc_l_behind pm_l_behind cd_l_behind ct_l_behind : Value}
    {f_l_long : Addr} {od_l_long an_l_long : Option Addr} {sl_l_long : Array (Option Value)} {oc_l_long kV_l_long dc_l_long pm_l_long cd_l_long ct_l_long : Value}
    {f_l_sizes : Addr} {od_l_sizes an_l_sizes : Option Addr} {sl_l_sizes : Array (Option Value)} {oc_l_sizes kV_l_sizes dc_l_sizes pm_l_sizes cd_l_sizes ct_l_sizes : Value}
    {f_law : Addr} {od_law an_law : Option Addr} {sl_law : Array (Option Value)} {oc_law kV_law dc_law pm_law cd_law ct_law : Value}
    {tk_MOST_LETTERS : Tok}
    {tk_MOST_MAKERS : Tok}
    {tk_LAST_FIGURES : Tok}
    {k_NUMBERS k_NUMBERS_0 k_NUMBERS_1 k_NUMBERS_2 k_NUMBERS_3 : Addr}
    {ko_NUMBERS : Obj} {kn_NUMBERS : Nat} {ku_NUMBERS : List Value}
    {ko_NUMBERS_0 : Obj} {kn_NUMBERS_0 : Nat} {ku_NUMBERS_0 : List Value}
    {ko_NUMBERS_1 : Obj} {kn_NUMBERS_1 : Nat} {ku_NUMBERS_1 : List Value}
    {ko_NUMBERS_2 : Obj} {kn_NUMBERS_2 : Nat} {ku_NUMBERS_2 : List Value}
    {ko_NUMBERS_3 : Obj} {kn_NUMBERS_3 : Nat} {ku_NUMBERS_3 : List Value}
    (aC_Tails : PySem.W.nsIn K mainGlobals "Tails" = some (some (.ref C_Tails)))
    (pg_Tails : PySem.W.plainGet K C_Tails Str.empty = true)
    (hd_Tails : PySem.W.hasDictIn K C_Tails = true)
    (po_Tails : PySem.W.plainOver K C_Tails = true)
    (sa_Tails : PySem.W.findIn K (.ref C_Tails) "__setattr__" = some (some (.builtin "object.__setattr__")))
    (mk_Tails : PySem.W.makesIn K C_Tails = true)
    (kc_Tails : PySem.W.keepIn K (.ref C_Tails) = true)
    (t1_Tails : PySem.W.findIn K (.ref C_Tails) "__class__" = some (some (.builtin "object.__class__")))
    (t4_Tails : PySem.W.mroIn K C_Tails (.type "object") = some true)
    (t2_Tails : PySem.W.specialIn K (.builtin "object.__class__") "__get__" = some (some (.builtin "getset_descriptor.__get__")))
    (t3_Tails : PySem.W.takesIn K (.builtin "object.__class__") = some true)
    (na_Tails_most : PySem.W.findIn K (.ref C_Tails) "most" = some none)
    (na_Tails_behind_year : PySem.W.findIn K (.ref C_Tails) "behind_year" = some none)
    (na_Tails_behind_makers : PySem.W.findIn K (.ref C_Tails) "behind_makers" = some none)
    (na_Tails_in_maker : PySem.W.findIn K (.ref C_Tails) "in_maker" = some none)
    (na_Tails_in_points : PySem.W.findIn K (.ref C_Tails) "in_points" = some none)
    (a_is_number : PySem.W.nsIn K mainGlobals "is_number" = some (some (.ref f_is_number)))
    (l_is_number : K.lookup f_is_number = some ⟨oc_is_number, od_is_number, .func (PySem.W.fnOf "is_number" "is_number" (defArgs s_is_number) (defBody s_is_number) (defScope s_is_number) .none kV_is_number dc_is_number pm_is_number an_is_number cd_is_number ct_is_number), sl_is_number⟩)
    (c_is_number : PySem.W.codeIn K cd_is_number "is_number" = true)
    (k_is_number : PySem.W.keepIn K (.ref f_is_number) = true)
    (a_is_whole : PySem.W.nsIn K mainGlobals "is_whole" = some (some (.ref f_is_whole)))
    (l_is_whole : K.lookup f_is_whole = some ⟨oc_is_whole, od_is_whole, .func (PySem.W.fnOf "is_whole" "is_whole" (defArgs s_is_whole) (defBody s_is_whole) (defScope s_is_whole) (.ref dT_is_whole) kV_is_whole dc_is_whole pm_is_whole an_is_whole cd_is_whole ct_is_whole), sl_is_whole⟩)
    (c_is_whole : PySem.W.codeIn K cd_is_whole "is_whole" = true)
    (k_is_whole : PySem.W.keepIn K (.ref f_is_whole) = true)
    (e_is_whole : K.lookup dT_is_whole = some do_is_whole)
    (x_is_whole : do_is_whole.data = .seq dus_is_whole.toArray dn_is_whole)
    (v_is_whole : Vals [.non] dus_is_whole)
    (a_is_bound : PySem.W.nsIn K mainGlobals "is_bound" = some (some (.ref f_is_bound)))
    (l_is_bound : K.lookup f_is_bound = some ⟨oc_is_bound, od_is_bound, .func (PySem.W.fnOf "is_bound" "is_bound" (defArgs s_is_bound) (defBody s_is_bound) (defScope s_is_bound) .none kV_is_bound dc_is_bound pm_is_bound an_is_bound cd_is_bound ct_is_bound), sl_is_bound⟩)
    (c_is_bound : PySem.W.codeIn K cd_is_bound "is_bound" = true)
    (k_is_bound : PySem.W.keepIn K (.ref f_is_bound) = true)
    (a_counted : PySem.W.nsIn K mainGlobals "counted" = some (some (.ref f_counted)))
    (l_counted : K.lookup f_counted = some ⟨oc_counted, od_counted, .func (PySem.W.fnOf "counted" "counted" (defArgs s_counted) (defBody s_counted) (defScope s_counted) .none kV_counted dc_counted pm_counted an_counted cd_counted ct_counted), sl_counted⟩)
    (c_counted : PySem.W.codeIn K cd_counted "counted" = true)
    (k_counted : PySem.W.keepIn K (.ref f_counted) = true)
    (a_Tails_init : PySem.W.findIn K (.ref C_Tails) "__init__" = some (some (.ref f_Tails_init)))
    (i_Tails_init : PySem.W.isFn K (.ref f_Tails_init) = true)
    (l_Tails_init : K.lookup f_Tails_init = some ⟨oc_Tails_init, od_Tails_init, .func (PySem.W.fnOf "__init__" "Tails.__init__" (defArgs s_Tails_init) (defBody s_Tails_init) (defScope s_Tails_init) .none kV_Tails_init dc_Tails_init pm_Tails_init an_Tails_init cd_Tails_init ct_Tails_init), sl_Tails_init⟩)
    (c_Tails_init : PySem.W.codeIn K cd_Tails_init "Tails.__init__" = true)
    (k_Tails_init : PySem.W.keepIn K (.ref f_Tails_init) = true)
    (a_Tails_behind_number : PySem.W.findIn K (.ref C_Tails) "behind_number" = some (some (.ref f_Tails_behind_number)))
    (i_Tails_behind_number : PySem.W.isFn K (.ref f_Tails_behind_number) = true)
    (l_Tails_behind_number : K.lookup f_Tails_behind_number = some ⟨oc_Tails_behind_number, od_Tails_behind_number, .func (PySem.W.fnOf "behind_number" "Tails.behind_number" (defArgs s_Tails_behind_number) (defBody s_Tails_behind_number) (defScope s_Tails_behind_number) .none kV_Tails_behind_number dc_Tails_behind_number pm_Tails_behind_number an_Tails_behind_number cd_Tails_behind_number ct_Tails_behind_number), sl_Tails_behind_number⟩)
    (c_Tails_behind_number : PySem.W.codeIn K cd_Tails_behind_number "Tails.behind_number" = true)
    (k_Tails_behind_number : PySem.W.keepIn K (.ref f_Tails_behind_number) = true)
    (a_Tails_behind_letters : PySem.W.findIn K (.ref C_Tails) "behind_letters" = some (some (.ref f_Tails_behind_letters)))
    (i_Tails_behind_letters : PySem.W.isFn K (.ref f_Tails_behind_letters) = true)
    (l_Tails_behind_letters : K.lookup f_Tails_behind_letters = some ⟨oc_Tails_behind_letters, od_Tails_behind_letters, .func (PySem.W.fnOf "behind_letters" "Tails.behind_letters" (defArgs s_Tails_behind_letters) (defBody s_Tails_behind_letters) (defScope s_Tails_behind_letters) .none kV_Tails_behind_letters dc_Tails_behind_letters pm_Tails_behind_letters an_Tails_behind_letters cd_Tails_behind_letters ct_Tails_behind_letters), sl_Tails_behind_letters⟩)
    (c_Tails_behind_letters : PySem.W.codeIn K cd_Tails_behind_letters "Tails.behind_letters" = true)
    (k_Tails_behind_letters : PySem.W.keepIn K (.ref f_Tails_behind_letters) = true)
    (a_Tails_in_letters : PySem.W.findIn K (.ref C_Tails) "in_letters" = some (some (.ref f_Tails_in_letters)))
    (i_Tails_in_letters : PySem.W.isFn K (.ref f_Tails_in_letters) = true)
    (l_Tails_in_letters : K.lookup f_Tails_in_letters = some ⟨oc_Tails_in_letters, od_Tails_in_letters, .func (PySem.W.fnOf "in_letters" "Tails.in_letters" (defArgs s_Tails_in_letters) (defBody s_Tails_in_letters) (defScope s_Tails_in_letters) .none kV_Tails_in_letters dc_Tails_in_letters pm_Tails_in_letters an_Tails_in_letters cd_Tails_in_letters ct_Tails_in_letters), sl_Tails_in_letters⟩)
    (c_Tails_in_letters : PySem.W.codeIn K cd_Tails_in_letters "Tails.in_letters" = true)
    (k_Tails_in_letters : PySem.W.keepIn K (.ref f_Tails_in_letters) = true)
    (a_Tails_marks : PySem.W.findIn K (.ref C_Tails) "marks" = some (some (.ref f_Tails_marks)))
    (i_Tails_marks : PySem.W.isFn K (.ref f_Tails_marks) = true)
    (l_Tails_marks : K.lookup f_Tails_marks = some ⟨oc_Tails_marks, od_Tails_marks, .func (PySem.W.fnOf "marks" "Tails.marks" (defArgs s_Tails_marks) (defBody s_Tails_marks) (defScope s_Tails_marks) .none kV_Tails_marks dc_Tails_marks pm_Tails_marks an_Tails_marks cd_Tails_marks ct_Tails_marks), sl_Tails_marks⟩)
    (c_Tails_marks : PySem.W.codeIn K cd_Tails_marks "Tails.marks" = true)
    (k_Tails_marks : PySem.W.keepIn K (.ref f_Tails_marks) = true)
    (a_copies : PySem.W.nsIn K mainGlobals "_copies" = some (some (.ref f_copies)))
    (l_copies : K.lookup f_copies = some ⟨oc_copies, od_copies, .func (PySem.W.fnOf "_copies" "_copies" (defArgs s_copies) (defBody s_copies) (defScope s_copies) .none kV_copies dc_copies pm_copies an_copies cd_copies ct_copies), sl_copies⟩)
    (c_copies : PySem.W.codeIn K cd_copies "_copies" = true)
    (k_copies : PySem.W.keepIn K (.ref f_copies) = true)
    (a_with_more : PySem.W.nsIn K mainGlobals "_with_more" = some (some (.ref f_with_more)))
    (l_with_more : K.lookup f_with_more = some ⟨oc_with_more, od_with_more, .func (PySem.W.fnOf "_with_more" "_with_more" (defArgs s_with_more) (defBody s_with_more) (defScope s_with_more) .none kV_with_more dc_with_more pm_with_more an_with_more cd_with_more ct_with_more), sl_with_more⟩)
    (c_with_more : PySem.W.codeIn K cd_with_more "_with_more" = true)
    (k_with_more : PySem.W.keepIn K (.ref f_with_more) = true)
    (a_figures : PySem.W.nsIn K mainGlobals "_figures" = some (some (.ref f_figures)))
    (l_figures : K.lookup f_figures = some ⟨oc_figures, od_figures, .func (PySem.W.fnOf "_figures" "_figures" (defArgs s_figures) (defBody s_figures) (defScope s_figures) .none kV_figures dc_figures pm_figures an_figures cd_figures ct_figures), sl_figures⟩)
    (c_figures : PySem.W.codeIn K cd_figures "_figures" = true)
    (k_figures : PySem.W.keepIn K (.ref f_figures) = true)
    (a_how_many : PySem.W.nsIn K mainGlobals "how_many" = some (some (.ref f_how_many)))
    (l_how_many : K.lookup f_how_many = some ⟨oc_how_many, od_how_many, .func (PySem.W.fnOf "how_many" "how_many" (defArgs s_how_many) (defBody s_how_many) (defScope s_how_many) .none kV_how_many dc_how_many pm_how_many an_how_many cd_how_many ct_how_many), sl_how_many⟩)
    (c_how_many : PySem.W.codeIn K cd_how_many "how_many" = true)
    (k_how_many : PySem.W.keepIn K (.ref f_how_many) = true)
    (a_with_signs : PySem.W.nsIn K mainGlobals "with_signs" = some (some (.ref f_with_signs)))
    (l_with_signs : K.lookup f_with_signs = some ⟨oc_with_signs, od_with_signs, .func (PySem.W.fnOf "with_signs" "with_signs" (defArgs s_with_signs) (defBody s_with_signs) (defScope s_with_signs) .none kV_with_signs dc_with_signs pm_with_signs an_with_signs cd_with_signs ct_with_signs), sl_with_signs⟩)
    (c_with_signs : PySem.W.codeIn K cd_with_signs "with_signs" = true)
    (k_with_signs : PySem.W.keepIn K (.ref f_with_signs) = true)
    (a_l_is : PySem.W.nsIn K mainGlobals "_law_is" = some (some (.ref f_l_is)))
    (l_l_is : K.lookup f_l_is = some ⟨oc_l_is, od_l_is, .func (PySem.W.fnOf "_law_is" "_law_is" (defArgs s_l_is) (defBody s_l_is) (defScope s_l_is) .none kV_l_is dc_l_is pm_l_is an_l_is cd_l_is ct_l_is), sl_l_is⟩)
    (c_l_is : PySem.W.codeIn K cd_l_is "_law_is" = true)
    (k_l_is : PySem.W.keepIn K (.ref f_l_is) = true)
    (a_l_behind : PySem.W.nsIn K mainGlobals "_law_behind" = some (some (.ref f_l_behind)))
    (l_l_behind : K.lookup f_l_behind = some ⟨oc_l_behind, od_l_behind, .func (PySem.W.fnOf "_law_behind" "_law_behind" (defArgs s_l_behind) (defBody s_l_behind) (defScope s_l_behind) .none kV_l_behind dc_l_behind pm_l_behind an_l_behind cd_l_behind ct_l_behind), sl_l_behind⟩)
    (c_l_behind : PySem.W.codeIn K cd_l_behind "_law_behind" = true)
    (k_l_behind : PySem.W.keepIn K (.ref f_l_behind) = true)
    (a_l_long : PySem.W.nsIn K mainGlobals "_law_long" = some (some (.ref f_l_long)))
    (l_l_long : K.lookup f_l_long = some ⟨oc_l_long, od_l_long, .func (PySem.W.fnOf "_law_long" "_law_long" (defArgs s_l_long) (defBody s_l_long) (defScope s_l_long) .none kV_l_long dc_l_long pm_l_long an_l_long cd_l_long ct_l_long), sl_l_long⟩)
    (c_l_long : PySem.W.codeIn K cd_l_long "_law_long" = true)
    (k_l_long : PySem.W.keepIn K (.ref f_l_long) = true)
    (a_l_sizes : PySem.W.nsIn K mainGlobals "_law_sizes" = some (some (.ref f_l_sizes)))
    (l_l_sizes : K.lookup f_l_sizes = some ⟨oc_l_sizes, od_l_sizes, .func (PySem.W.fnOf "_law_sizes" "_law_sizes" (defArgs s_l_sizes) (defBody s_l_sizes) (defScope s_l_sizes) .none kV_l_sizes dc_l_sizes pm_l_sizes an_l_sizes cd_l_sizes ct_l_sizes), sl_l_sizes⟩)
    (c_l_sizes : PySem.W.codeIn K cd_l_sizes "_law_sizes" = true)
    (k_l_sizes : PySem.W.keepIn K (.ref f_l_sizes) = true)
    (a_law : PySem.W.nsIn K mainGlobals "law" = some (some (.ref f_law)))
    (l_law : K.lookup f_law = some ⟨oc_law, od_law, .func (PySem.W.fnOf "law" "law" (defArgs s_law) (defBody s_law) (defScope s_law) .none kV_law dc_law pm_law an_law cd_law ct_law), sl_law⟩)
    (c_law : PySem.W.codeIn K cd_law "law" = true)
    (k_law : PySem.W.keepIn K (.ref f_law) = true)
    (z_isinstance : PySem.W.nsIn K mainGlobals "isinstance" = some none)
    (z_range : PySem.W.nsIn K mainGlobals "range" = some none)
    (z_sum : PySem.W.nsIn K mainGlobals "sum" = some none)
    (z_int : PySem.W.nsIn K mainGlobals "int" = some none)
    (z_bool : PySem.W.nsIn K mainGlobals "bool" = some none)
    (z_zip : PySem.W.nsIn K mainGlobals "zip" = some none)
    (z_enumerate : PySem.W.nsIn K mainGlobals "enumerate" = some none)
    (q_MOST_LETTERS : PySem.W.nsIn K mainGlobals "MOST_LETTERS" = some (some (.int (3) tk_MOST_LETTERS)))
    (q_MOST_MAKERS : PySem.W.nsIn K mainGlobals "MOST_MAKERS" = some (some (.int (3) tk_MOST_MAKERS)))
    (q_LAST_FIGURES : PySem.W.nsIn K mainGlobals "LAST_FIGURES" = some (some (.int (9) tk_LAST_FIGURES)))
    (q_NUMBERS : PySem.W.nsIn K mainGlobals "NUMBERS" = some (some (.ref k_NUMBERS)))
    (kl_NUMBERS : K.lookup k_NUMBERS = some ko_NUMBERS)
    (kx_NUMBERS : ko_NUMBERS.data = .seq ku_NUMBERS.toArray kn_NUMBERS)
    (kt_NUMBERS : ko_NUMBERS.cls = .type "tuple")
    (kv_NUMBERS : Vals [.ref k_NUMBERS_0, .ref k_NUMBERS_1, .ref k_NUMBERS_2, .ref k_NUMBERS_3] ku_NUMBERS)
    (kl_NUMBERS_0 : K.lookup k_NUMBERS_0 = some ko_NUMBERS_0)
    (kx_NUMBERS_0 : ko_NUMBERS_0.data = .seq ku_NUMBERS_0.toArray kn_NUMBERS_0)
    (kt_NUMBERS_0 : ko_NUMBERS_0.cls = .type "tuple")
    (kv_NUMBERS_0 : Vals [.int (1), .int (9)] ku_NUMBERS_0)
    (kl_NUMBERS_1 : K.lookup k_NUMBERS_1 = some ko_NUMBERS_1)
    (kx_NUMBERS_1 : ko_NUMBERS_1.data = .seq ku_NUMBERS_1.toArray kn_NUMBERS_1)
    (kt_NUMBERS_1 : ko_NUMBERS_1.cls = .type "tuple")
    (kv_NUMBERS_1 : Vals [.int (2), .int (90)] ku_NUMBERS_1)
    (kl_NUMBERS_2 : K.lookup k_NUMBERS_2 = some ko_NUMBERS_2)
    (kx_NUMBERS_2 : ko_NUMBERS_2.data = .seq ku_NUMBERS_2.toArray kn_NUMBERS_2)
    (kt_NUMBERS_2 : ko_NUMBERS_2.cls = .type "tuple")
    (kv_NUMBERS_2 : Vals [.int (3), .int (900)] ku_NUMBERS_2)
    (kl_NUMBERS_3 : K.lookup k_NUMBERS_3 = some ko_NUMBERS_3)
    (kx_NUMBERS_3 : ko_NUMBERS_3.data = .seq ku_NUMBERS_3.toArray kn_NUMBERS_3)
    (kt_NUMBERS_3 : ko_NUMBERS_3.cls = .type "tuple")
    (kv_NUMBERS_3 : Vals [.int (4), .int (9000)] ku_NUMBERS_3)
    : ∃ fd : FuncData, (∀ (s : Shared) (v : Value), BindsTo s fd ⟨[v], []⟩ [("_law_script", v)]) ∧ ∀ base : Heap, K.In base → base.Ns mainGlobals mg → FnOk l.prog w K mg base CX0 12 fa fd ["_law_script"] (spLaw K) := by
  have e := hfa.symm.trans (PySem.W.mg_of X G a_law)
  cases e
  have F_is_number := fun_mk (st := s_is_number) l_is_number c_is_number k_is_number
  have b_is_number := F_is_number.binds (ps := ["thing"]) fun _ _ _ _ _ _ us hl => match us, hl with | [_], _ => rfl
  have F_is_whole : FunD K "is_whole" "is_whole" (defArgs s_is_whole) (defBody s_is_whole) (defScope s_is_whole) [.non] [] f_is_whole (PySem.W.fnOf "is_whole" "is_whole" (defArgs s_is_whole) (defBody s_is_whole) (defScope s_is_whole) (.ref dT_is_whole) kV_is_whole dc_is_whole pm_is_whole an_is_whole cd_is_whole ct_is_whole) := ⟨⟨oc_is_whole, od_is_whole, _, kV_is_whole, dc_is_whole, pm_is_whole, an_is_whole, cd_is_whole, ct_is_whole, sl_is_whole, rfl, l_is_whole, c_is_whole, .inr ⟨by simp, dT_is_whole, do_is_whole, dus_is_whole, dn_is_whole, rfl, e_is_whole, x_is_whole, v_is_whole⟩, .inl rfl⟩, k_is_whole⟩
  have b_is_wholee : ∃ ds, Vals [] ds ∧ Binds K (PySem.W.fnOf "is_whole" "is_whole" (defArgs s_is_whole) (defBody s_is_whole) (defScope s_is_whole) (.ref dT_is_whole) kV_is_whole dc_is_whole pm_is_whole an_is_whole cd_is_whole ct_is_whole) ["thing", "low", "high"] ds := F_is_whole.binds1 3 1 (by simp) (by rfl) fun _ _ _ _ _ _ _ us its hu hi => match us, its, hu, hi with | [_, _, _], [_], _, _ => ⟨_, rfl, rfl⟩
  have b_is_whole : Binds K (PySem.W.fnOf "is_whole" "is_whole" (defArgs s_is_whole) (defBody s_is_whole) (defScope s_is_whole) (.ref dT_is_whole) kV_is_whole dc_is_whole pm_is_whole an_is_whole cd_is_whole ct_is_whole) ["thing", "low", "high"] [] := by
    obtain ⟨ds, r, b⟩ := b_is_wholee
    cases r
    exact b
  have F_is_bound := fun_mk (st := s_is_bound) l_is_bound c_is_bound k_is_bound
  have b_is_bound := F_is_bound.binds (ps := ["thing"]) fun _ _ _ _ _ _ us hl => match us, hl with | [_], _ => rfl
  have F_counted := fun_mk (st := s_counted) l_counted c_counted k_counted
  have b_counted := F_counted.binds (ps := ["table", "left"]) fun _ _ _ _ _ _ us hl => match us, hl with | [_, _], _ => rfl
  have F_Tails_init := fun_mk (st := s_Tails_init) l_Tails_init c_Tails_init k_Tails_init
  have b_Tails_init := F_Tails_init.binds (ps := ["self", "most"]) fun _ _ _ _ _ _ us hl => match us, hl with | [_, _], _ => rfl
  have F_Tails_behind_number := fun_mk (st := s_Tails_behind_number) l_Tails_behind_number c_Tails_behind_number k_Tails_behind_number
  have b_Tails_behind_number := F_Tails_behind_number.binds (ps := ["self", "left"]) fun _ _ _ _ _ _ us hl => match us, hl with | [_, _], _ => rfl
  have F_Tails_behind_letters := fun_mk (st := s_Tails_behind_letters) l_Tails_behind_letters c_Tails_behind_letters k_Tails_behind_letters
  have b_Tails_behind_letters := F_Tails_behind_letters.binds (ps := ["self", "left"]) fun _ _ _ _ _ _ us hl => match us, hl with | [_, _], _ => rfl
  have F_Tails_in_letters := fun_mk (st := s_Tails_in_letters) l_Tails_in_letters c_Tails_in_letters k_Tails_in_letters
  have b_Tails_in_letters := F_Tails_in_letters.binds (ps := ["self", "many", "left"]) fun _ _ _ _ _ _ us hl => match us, hl with | [_, _, _], _ => rfl
  have F_Tails_marks := fun_mk (st := s_Tails_marks) l_Tails_marks c_Tails_marks k_Tails_marks
  have b_Tails_marks := F_Tails_marks.binds (ps := ["self", "most"]) fun _ _ _ _ _ _ us hl => match us, hl with | [_, _], _ => rfl
  have F_copies := fun_mk (st := s_copies) l_copies c_copies k_copies
  have b_copies := F_copies.binds (ps := ["most"]) fun _ _ _ _ _ _ us hl => match us, hl with | [_], _ => rfl
  have F_with_more := fun_mk (st := s_with_more) l_with_more c_with_more k_with_more
  have b_with_more := F_with_more.binds (ps := ["ended", "choices", "more", "signs"]) fun _ _ _ _ _ _ us hl => match us, hl with | [_, _, _, _], _ => rfl
  have F_figures := fun_mk (st := s_figures) l_figures c_figures k_figures
  have b_figures := F_figures.binds (ps := ["rest"]) fun _ _ _ _ _ _ us hl => match us, hl with | [_], _ => rfl
  have F_how_many := fun_mk (st := s_how_many) l_how_many c_how_many k_how_many
  have b_how_many := F_how_many.binds (ps := ["many"]) fun _ _ _ _ _ _ us hl => match us, hl with | [_], _ => rfl
  have F_with_signs := fun_mk (st := s_with_signs) l_with_signs c_with_signs k_with_signs
  have b_with_signs := F_with_signs.binds (ps := ["many"]) fun _ _ _ _ _ _ us hl => match us, hl with | [_], _ => rfl
  have F_l_is := fun_mk (st := s_l_is) l_l_is c_l_is k_l_is
  have b_l_is := F_l_is.binds (ps := ["_law_found", "_law_due"]) fun _ _ _ _ _ _ us hl => match us, hl with | [_, _], _ => rfl
  have F_l_behind := fun_mk (st := s_l_behind) l_l_behind c_l_behind k_l_behind
  have b_l_behind := F_l_behind.binds (ps := ["_law_one", "_law_other"]) fun _ _ _ _ _ _ us hl => match us, hl with | [_, _], _ => rfl
  have F_l_long := fun_mk (st := s_l_long) l_l_long c_l_long k_l_long
  have b_l_long := F_l_long.binds (ps := ["_law_table"]) fun _ _ _ _ _ _ us hl => match us, hl with | [_], _ => rfl
  have F_l_sizes := fun_mk (st := s_l_sizes) l_l_sizes c_l_sizes k_l_sizes
  have b_l_sizes := F_l_sizes.binds (ps := []) fun _ _ _ _ _ _ us hl => match us, hl with | [], _ => rfl
  have F_law := fun_mk (st := s_law) l_law c_law k_law
  have b_law := F_law.binds (ps := ["_law_script"]) fun _ _ _ _ _ _ us hl => match us, hl with | [_], _ => rfl
  have T : Txt K mg { a_is_number := f_is_number, a_is_whole := f_is_whole, a_is_bound := f_is_bound, a_counted := f_counted, a_Tails_init := f_Tails_init, a_Tails_behind_number := f_Tails_behind_number, a_Tails_behind_letters := f_Tails_behind_letters, a_Tails_in_letters := f_Tails_in_letters, a_Tails_marks := f_Tails_marks, a_copies := f_copies, a_with_more := f_with_more, a_figures := f_figures, a_how_many := f_how_many, a_with_signs := f_with_signs, a_l_is := f_l_is, a_l_behind := f_l_behind, a_l_long := f_l_long, a_l_sizes := f_l_sizes, a_law := fa, d_is_number := _, d_is_whole := _, d_is_bound := _, d_counted := _, d_Tails_init := _, d_Tails_behind_number := _, d_Tails_behind_letters := _, d_Tails_in_letters := _, d_Tails_marks := _, d_copies := _, d_with_more := _, d_figures := _, d_how_many := _, d_with_signs := _, d_l_is := _, d_l_behind := _, d_l_long := _, d_l_sizes := _, d_law := _, C_Tails := C_Tails, k_NUMBERS := k_NUMBERS, k_NUMBERS_0 := k_NUMBERS_0, k_NUMBERS_1 := k_NUMBERS_1, k_NUMBERS_2 := k_NUMBERS_2, k_NUMBERS_3 := k_NUMBERS_3 } :=
    { F_is_number := F_is_number,
      g_is_number := PySem.W.mg_of X G a_is_number,
      b_is_number := b_is_number,
      F_is_whole := F_is_whole,
      g_is_whole := PySem.W.mg_of X G a_is_whole,
      b_is_whole := b_is_whole,
      F_is_bound := F_is_bound,
      g_is_bound := PySem.W.mg_of X G a_is_bound,
      b_is_bound := b_is_bound,
      F_counted := F_counted,
      g_counted := PySem.W.mg_of X G a_counted,
      b_counted := b_counted,
      F_Tails_init := F_Tails_init,
      b_Tails_init := b_Tails_init,
      F_Tails_behind_number := F_Tails_behind_number,
      m_Tails_behind_number := ⟨a_Tails_behind_number, i_Tails_behind_number, k_Tails_behind_number⟩,
      b_Tails_behind_number := b_Tails_behind_number,
      F_Tails_behind_letters := F_Tails_behind_letters,
      m_Tails_behind_letters := ⟨a_Tails_behind_letters, i_Tails_behind_letters, k_Tails_behind_letters⟩,
      b_Tails_behind_letters := b_Tails_behind_letters,
      F_Tails_in_letters := F_Tails_in_letters,
      m_Tails_in_letters := ⟨a_Tails_in_letters, i_Tails_in_letters, k_Tails_in_letters⟩,
      b_Tails_in_letters := b_Tails_in_letters,
      F_Tails_marks := F_Tails_marks,
      m_Tails_marks := ⟨a_Tails_marks, i_Tails_marks, k_Tails_marks⟩,
      b_Tails_marks := b_Tails_marks,
      F_copies := F_copies,
      g_copies := PySem.W.mg_of X G a_copies,
      b_copies := b_copies,
      F_with_more := F_with_more,
      g_with_more := PySem.W.mg_of X G a_with_more,
      b_with_more := b_with_more,
      F_figures := F_figures,
      g_figures := PySem.W.mg_of X G a_figures,
      b_figures := b_figures,
      F_how_many := F_how_many,
      g_how_many := PySem.W.mg_of X G a_how_many,
      b_how_many := b_how_many,
      F_with_signs := F_with_signs,
      g_with_signs := PySem.W.mg_of X G a_with_signs,
      b_with_signs := b_with_signs,
      F_l_is := F_l_is,
      g_l_is := PySem.W.mg_of X G a_l_is,
      b_l_is := b_l_is,
      F_l_behind := F_l_behind,
      g_l_behind := PySem.W.mg_of X G a_l_behind,
      b_l_behind := b_l_behind,
      F_l_long := F_l_long,
      g_l_long := PySem.W.mg_of X G a_l_long,
      b_l_long := b_l_long,
      F_l_sizes := F_l_sizes,
      g_l_sizes := PySem.W.mg_of X G a_l_sizes,
      b_l_sizes := b_l_sizes,
      F_law := F_law,
      g_law := PySem.W.mg_of X G a_law,
      b_law := b_law,
      g_Tails := PySem.W.mg_of X G aC_Tails,
      cl_Tails := ⟨pg_Tails, hd_Tails, po_Tails, sa_Tails⟩,
      M_Tails := ⟨mk_Tails, a_Tails_init, i_Tails_init, kc_Tails⟩,
      t1_Tails := t1_Tails,
      t2_Tails := t2_Tails,
      t3_Tails := t3_Tails,
      t4_Tails := t4_Tails,
      na_Tails_most := na_Tails_most,
      na_Tails_behind_year := na_Tails_behind_year,
      na_Tails_behind_makers := na_Tails_behind_makers,
      na_Tails_in_maker := na_Tails_in_maker,
      na_Tails_in_points := na_Tails_in_points,
      n_isinstance := PySem.W.mg_none_of X G z_isinstance,
      n_range := PySem.W.mg_none_of X G z_range,
      n_sum := PySem.W.mg_none_of X G z_sum,
      n_int := PySem.W.mg_none_of X G z_int,
      n_bool := PySem.W.mg_none_of X G z_bool,
      n_zip := PySem.W.mg_none_of X G z_zip,
      n_enumerate := PySem.W.mg_none_of X G z_enumerate,
      c_MOST_LETTERS := ⟨_, PySem.W.mg_of X G q_MOST_LETTERS⟩,
      c_MOST_MAKERS := ⟨_, PySem.W.mg_of X G q_MOST_MAKERS⟩,
      c_LAST_FIGURES := ⟨_, PySem.W.mg_of X G q_LAST_FIGURES⟩,
      c_NUMBERS := PySem.W.mg_of X G q_NUMBERS,
      t_NUMBERS := fun _ => .inr ⟨ko_NUMBERS, ku_NUMBERS.toArray, kn_NUMBERS, kl_NUMBERS, kt_NUMBERS, kx_NUMBERS, (by have q := Paired.length kv_NUMBERS; rw [List.size_toArray, ← q]; show 4 ≤ sizeLine; decide), kv_NUMBERS⟩,
      t_NUMBERS_0 := fun _ => .inr ⟨ko_NUMBERS_0, ku_NUMBERS_0.toArray, kn_NUMBERS_0, kl_NUMBERS_0, kt_NUMBERS_0, kx_NUMBERS_0, (by have q := Paired.length kv_NUMBERS_0; rw [List.size_toArray, ← q]; show 2 ≤ sizeLine; decide), kv_NUMBERS_0⟩,
      t_NUMBERS_1 := fun _ => .inr ⟨ko_NUMBERS_1, ku_NUMBERS_1.toArray, kn_NUMBERS_1, kl_NUMBERS_1, kt_NUMBERS_1, kx_NUMBERS_1, (by have q := Paired.length kv_NUMBERS_1; rw [List.size_toArray, ← q]; show 2 ≤ sizeLine; decide), kv_NUMBERS_1⟩,
      t_NUMBERS_2 := fun _ => .inr ⟨ko_NUMBERS_2, ku_NUMBERS_2.toArray, kn_NUMBERS_2, kl_NUMBERS_2, kt_NUMBERS_2, kx_NUMBERS_2, (by have q := Paired.length kv_NUMBERS_2; rw [List.size_toArray, ← q]; show 2 ≤ sizeLine; decide), kv_NUMBERS_2⟩,
      t_NUMBERS_3 := fun _ => .inr ⟨ko_NUMBERS_3, ku_NUMBERS_3.toArray, kn_NUMBERS_3, kl_NUMBERS_3, kt_NUMBERS_3, kx_NUMBERS_3, (by have q := Paired.length kv_NUMBERS_3; rw [List.size_toArray, ← q]; show 2 ≤ sizeLine; decide), kv_NUMBERS_3⟩ }
  exact ⟨PySem.W.fnOf "law" "law" (defArgs s_law) (defBody s_law) (defScope s_law) .none kV_law dc_law pm_law an_law cd_law ct_law, fun s v => .of_eq rfl, fun base _ _ => ok_law T⟩
theorem walk {l : PySem.W.OpenLaw} {q : Program} {loose : List Str} {XP : (Str → Option Value) → Heap → Prop} {YP : World → Heap → Prop} {d : DefRec} {K : Params → PySem.W.Frag} (hn : l.most = some 63) (hdf : d.params.defaults = [])
    (hY : ∀ (w : World) (h : Heap), YP w h → (K w.params).In h)
    (F : ∀ (w : World) (mg : Str → Option Value) (fa : Addr) (h : Heap), (K w.params).In h → h.Ns mainGlobals mg → mg d.name = some (.ref fa) →
      ∃ fd : FuncData, (∀ (s : Shared) (u : Value), BindsTo s fd ⟨[u], []⟩ [("_law_script", u)]) ∧ ∀ base : Heap, (K w.params).In base → base.Ns mainGlobals mg → FnOk l.prog w (K w.params) mg base CX0 12 fa fd ["_law_script"] (spLaw (K w.params))) :
    PySem.W.WalkO q loose XP YP l.row.toRowW d [] (fun f vs => PySem.call f vs) :=
  L2.walk_of (n := 63) (k := 12) (x := "_law_script") (CX := fun _ => CX0) (sp := fun w => spLaw (K w.params)) hn (by decide) hdf ⟨rfl, by decide, by decide⟩ hY F (fun _ _ a ns hl _ hS => ⟨a, ns, rfl, hS, hl, fun _ => rfl⟩) fun _ _ _ _ _ z => z
end My
open PySem PySem.W PyProof.Rows in
set_option maxRecDepth 100000 in
set_option maxHeartbeats 0 in
set_option pp.maxSteps 40 in
theorem PySem.Challenge.cw_spinemarks_k19_how_many_there_are_holds : PySem.Challenge.rw_spinemarks_k19_how_many_there_are.Holds := by
  w_on; o_law; k_head; (case hw => w_witness2)
  k_fill
  refine My.walk (l := PySem.Challenge.rw_spinemarks_k19_how_many_there_are) rfl rfl (fun w h Y => PySem.W.kIn_of Y) ?F
  case F =>
    intro w mg fa h KX G hmg
    refine' My.all_mk KX G hmg ?aC_Tails ?pg_Tails ?hd_Tails ?po_Tails ?sa_Tails ?mk_Tails ?kc_Tails ?t1_Tails ?t4_Tails ?t2_Tails ?t3_Tails ?na_Tails_most ?na_Tails_behind_year ?na_Tails_behind_makers ?na_Tails_in_maker ?na_Tails_in_points ?a_is_number ?l_is_number ?c_is_number ?k_is_number ?a_is_whole ?l_is_whole ?c_is_whole ?k_is_whole ?e_is_whole ?x_is_whole ?v_is_whole ?a_is_bound ?l_is_bound ?c_is_bound ?k_is_bound ?a_counted ?l_counted ?c_counted ?k_counted ?a_Tails_init ?i_Tails_init ?l_Tails_init ?c_Tails_init ?k_Tails_init ?a_Tails_behind_number ?i_Tails_behind_number ?l_Tails_behind_number ?c_Tails_behind_number ?k_Tails_behind_number ?a_Tails_behind_letters ?i_Tails_behind_letters ?l_Tails_behind_letters ?c_Tails_behind_letters ?k_Tails_behind_letters ?a_Tails_in_letters ?i_Tails_in_letters ?l_Tails_in_letters ?c_Tails_in_letters ?k_Tails_in_letters ?a_Tails_marks ?i_Tails_marks ?l_Tails_marks ?c_Tails_marks ?k_Tails_marks ?a_copies ?l_copies ?c_copies ?k_copies ?a_with_more ?l_with_more ?c_with_more ?k_with_more ?a_figures ?l_figures ?c_figures ?k_figures ?a_how_many ?l_how_many ?c_how_many ?k_how_many ?a_with_signs ?l_with_signs ?c_with_signs ?k_with_signs ?a_l_is ?l_l_is ?c_l_is ?k_l_is ?a_l_behind ?l_l_behind ?c_l_behind ?k_l_behind ?a_l_long ?l_l_long ?c_l_long ?k_l_long ?a_l_sizes ?l_l_sizes ?c_l_sizes ?k_l_sizes ?a_law ?l_law ?c_law ?k_law ?z_isinstance ?z_range ?z_sum ?z_int ?z_bool ?z_zip ?z_enumerate ?q_MOST_LETTERS ?q_MOST_MAKERS ?q_LAST_FIGURES ?q_NUMBERS ?kl_NUMBERS ?kx_NUMBERS ?kt_NUMBERS ?kv_NUMBERS ?kl_NUMBERS_0 ?kx_NUMBERS_0 ?kt_NUMBERS_0 ?kv_NUMBERS_0 ?kl_NUMBERS_1 ?kx_NUMBERS_1 ?kt_NUMBERS_1 ?kv_NUMBERS_1 ?kl_NUMBERS_2 ?kx_NUMBERS_2 ?kt_NUMBERS_2 ?kv_NUMBERS_2 ?kl_NUMBERS_3 ?kx_NUMBERS_3 ?kt_NUMBERS_3 ?kv_NUMBERS_3
    (case aC_Tails => k_is)
    (case pg_Tails => k_is)
    (case hd_Tails => k_is)
    (case po_Tails => k_is)
    (case sa_Tails => k_is)
    (case mk_Tails => k_is)
    (case kc_Tails => k_is)
    (case t1_Tails => k_is)
    (case t4_Tails => k_is)
    (case t2_Tails => k_is)
    (case t3_Tails => k_is)
    (case na_Tails_most => k_is)
    (case na_Tails_behind_year => k_is)
    (case na_Tails_behind_makers => k_is)
    (case na_Tails_in_maker => k_is)
    (case na_Tails_in_points => k_is)
    (case a_is_number => k_is)
    (case l_is_number => k_is)
    (case c_is_number => k_is)
    (case k_is_number => k_is)
    (case a_is_whole => k_is)
    (case l_is_whole => k_is)
    (case c_is_whole => k_is)
    (case k_is_whole => k_is)
    (case e_is_whole => k_is)
    (case x_is_whole => first | rfl | k_is)
    (case v_is_whole => first | (repeat (first | exact .nil | refine .cons ?_ ?_ | rfl | exact ⟨_, rfl⟩)))
    (case a_is_bound => k_is)
    (case l_is_bound => k_is)
    (case c_is_bound => k_is)
    (case k_is_bound => k_is)
    (case a_counted => k_is)
    (case l_counted => k_is)
    (case c_counted => k_is)
    (case k_counted => k_is)
    (case a_Tails_init => k_is)
    (case i_Tails_init => k_is)
    (case l_Tails_init => k_is)
    (case c_Tails_init => k_is)
    (case k_Tails_init => k_is)
    (case a_Tails_behind_number => k_is)
    (case i_Tails_behind_number => k_is)
    (case l_Tails_behind_number => k_is)
    (case c_Tails_behind_number => k_is)
    (case k_Tails_behind_number => k_is)
    (case a_Tails_behind_letters => k_is)
    (case i_Tails_behind_letters => k_is)
    (case l_Tails_behind_letters => k_is)
    (case c_Tails_behind_letters => k_is)
    (case k_Tails_behind_letters => k_is)
    (case a_Tails_in_letters => k_is)
    (case i_Tails_in_letters => k_is)
    (case l_Tails_in_letters => k_is)
    (case c_Tails_in_letters => k_is)
    (case k_Tails_in_letters => k_is)
    (case a_Tails_marks => k_is)
    (case i_Tails_marks => k_is)
    (case l_Tails_marks => k_is)
    (case c_Tails_marks => k_is)
    (case k_Tails_marks => k_is)
    (case a_copies => k_is)
    (case l_copies => k_is)
    (case c_copies => k_is)
    (case k_copies => k_is)
    (case a_with_more => k_is)
    (case l_with_more => k_is)
    (case c_with_more => k_is)
    (case k_with_more => k_is)
    (case a_figures => k_is)
    (case l_figures => k_is)
    (case c_figures => k_is)
    (case k_figures => k_is)
    (case a_how_many => k_is)
    (case l_how_many => k_is)
    (case c_how_many => k_is)
    (case k_how_many => k_is)
    (case a_with_signs => k_is)
    (case l_with_signs => k_is)
    (case c_with_signs => k_is)
    (case k_with_signs => k_is)
    (case a_l_is => k_is)
    (case l_l_is => k_is)
    (case c_l_is => k_is)
    (case k_l_is => k_is)
    (case a_l_behind => k_is)
    (case l_l_behind => k_is)
    (case c_l_behind => k_is)
    (case k_l_behind => k_is)
    (case a_l_long => k_is)
    (case l_l_long => k_is)
    (case c_l_long => k_is)
    (case k_l_long => k_is)
    (case a_l_sizes => k_is)
    (case l_l_sizes => k_is)
    (case c_l_sizes => k_is)
    (case k_l_sizes => k_is)
    (case a_law => k_is)
    (case l_law => k_is)
    (case c_law => k_is)
    (case k_law => k_is)
    (case z_isinstance => k_is)
    (case z_range => k_is)
    (case z_sum => k_is)
    (case z_int => k_is)
    (case z_bool => k_is)
    (case z_zip => k_is)
    (case z_enumerate => k_is)
    (case q_MOST_LETTERS => k_is)
    (case q_MOST_MAKERS => k_is)
    (case q_LAST_FIGURES => k_is)
    (case q_NUMBERS => k_is)
    (case kl_NUMBERS => k_is)
    (case kx_NUMBERS => first | rfl | k_is)
    (case kt_NUMBERS => first | rfl | k_is)
    (case kv_NUMBERS => first | (repeat (first | exact .nil | refine .cons ?_ ?_ | rfl | exact ⟨_, rfl⟩)))
    (case kl_NUMBERS_0 => k_is)
    (case kx_NUMBERS_0 => first | rfl | k_is)
    (case kt_NUMBERS_0 => first | rfl | k_is)
    (case kv_NUMBERS_0 => first | (repeat (first | exact .nil | refine .cons ?_ ?_ | rfl | exact ⟨_, rfl⟩)))
    (case kl_NUMBERS_1 => k_is)
    (case kx_NUMBERS_1 => first | rfl | k_is)
    (case kt_NUMBERS_1 => first | rfl | k_is)
    (case kv_NUMBERS_1 => first | (repeat (first | exact .nil | refine .cons ?_ ?_ | rfl | exact ⟨_, rfl⟩)))
    (case kl_NUMBERS_2 => k_is)
    (case kx_NUMBERS_2 => first | rfl | k_is)
    (case kt_NUMBERS_2 => first | rfl | k_is)
    (case kv_NUMBERS_2 => first | (repeat (first | exact .nil | refine .cons ?_ ?_ | rfl | exact ⟨_, rfl⟩)))
    (case kl_NUMBERS_3 => k_is)
    (case kx_NUMBERS_3 => first | rfl | k_is)
    (case kt_NUMBERS_3 => first | rfl | k_is)
    (case kv_NUMBERS_3 => first | (repeat (first | exact .nil | refine .cons ?_ ?_ | rfl | exact ⟨_, rfl⟩)))
