import PyProof.Rows.All
import Wide.All
import OpenK.AllK
import Wide.FinOn
import HandS.ForMost
import HandS.More
import HandS.IsInst
import HandS.Defaults
import HandS.Wide
import HandS.Flow
import HandS.Walk
import HandS.Evl
import KE.GoesEnum
import PySem.Challenge.RW_spinemarks_k19_how_many_there_are
set_option Elab.async false
set_option linter.all false
set_option maxRecDepth 100000
set_option maxHeartbeats 4000000
set_option pp.maxSteps 400
set_option pp.deepTerms false
namespace My
open PySem PySem.Spec PyProof.Rows L2 Evl
def top (i : Nat) : Stmt := PySem.Challenge.pw_spinemarks_k19_how_many_there_are.main.body.getD i (.Pass ⟨0, 0, 0, 0⟩)
abbrev s_is_whole : Stmt := top 4
theorem sc_is_whole : FnScope ["thing", "low", "high"] ["thing", "low", "high"] (defScope s_is_whole) := ⟨rfl, rfl, rfl, by decide +kernel, rfl, by decide +kernel, by decide +kernel⟩
abbrev s_is_bound : Stmt := top 5
theorem sc_is_bound : FnScope ["thing"] ["thing"] (defScope s_is_bound) := ⟨rfl, rfl, rfl, by decide +kernel, rfl, by decide +kernel, by decide +kernel⟩
abbrev s_counted : Stmt := top 8
theorem sc_counted : FnScope ["table", "left"] ["table", "left"] (defScope s_counted) := ⟨rfl, rfl, rfl, by decide +kernel, rfl, by decide +kernel, by decide +kernel⟩
abbrev s_Tails_init : Stmt := inClass (top 9) 0
theorem sc_Tails_init : FnScope ["self", "most", "years", "_", "numbers", "left", "two", "one"] ["self", "most"] (defScope s_Tails_init) := ⟨rfl, rfl, rfl, by decide +kernel, rfl, by decide +kernel, by decide +kernel⟩
abbrev s_copies : Stmt := top 10
theorem sc_copies : FnScope ["most", "table", "power", "left"] ["most"] (defScope s_copies) := ⟨rfl, rfl, rfl, by decide +kernel, rfl, by decide +kernel, by decide +kernel⟩
abbrev s_with_more : Stmt := top 11
theorem sc_with_more : FnScope ["ended", "choices", "more", "signs", "left"] ["ended", "choices", "more", "signs"] (defScope s_with_more) := ⟨rfl, rfl, rfl, by decide +kernel, rfl, by decide +kernel, by decide +kernel⟩
abbrev s_figures : Stmt := top 12
theorem sc_figures : FnScope ["rest", "table", "left"] ["rest"] (defScope s_figures) := ⟨rfl, rfl, rfl, by decide +kernel, rfl, by decide +kernel, by decide +kernel⟩
abbrev s_numbers : Stmt := top 13
theorem sc_numbers : FnScope ["rest", "left", "more"] ["rest", "left"] (defScope s_numbers) := ⟨rfl, rfl, rfl, by decide +kernel, rfl, by decide +kernel, by decide +kernel⟩
abbrev s_how_many : Stmt := top 15
theorem sc_how_many : FnScope ["many"] ["many"] (defScope s_how_many) := ⟨rfl, rfl, rfl, by decide +kernel, rfl, by decide +kernel, by decide +kernel⟩
abbrev s_with_signs : Stmt := top 16
theorem sc_with_signs : FnScope ["many", "fewer"] ["many"] (defScope s_with_signs) := ⟨rfl, rfl, rfl, by decide +kernel, rfl, by decide +kernel, by decide +kernel⟩
abbrev s_l_is : Stmt := top 18
theorem sc_l_is : FnScope ["_law_found", "_law_due"] ["_law_found", "_law_due"] (defScope s_l_is) := ⟨rfl, rfl, rfl, by decide +kernel, rfl, by decide +kernel, by decide +kernel⟩
abbrev s_l_behind : Stmt := top 19
theorem sc_l_behind : FnScope ["_law_one", "_law_other", "_law_found", "_law_at", "_law_bound", "_law_size"] ["_law_one", "_law_other"] (defScope s_l_behind) := ⟨rfl, rfl, rfl, by decide +kernel, rfl, by decide +kernel, by decide +kernel⟩
abbrev s_l_long : Stmt := top 20
theorem sc_l_long : FnScope ["_law_table"] ["_law_table"] (defScope s_l_long) := ⟨rfl, rfl, rfl, by decide +kernel, rfl, by decide +kernel, by decide +kernel⟩
abbrev s_l_sizes : Stmt := top 21
theorem sc_l_sizes : FnScope ["_law_tens", "_law_k", "_law_points", "_law_ten", "_law_maker", "_law_two", "_law_makers", "_law_one", "_law_other", "_law_third", "_law_found"] [] (defScope s_l_sizes) := ⟨rfl, rfl, rfl, by decide +kernel, rfl, by decide +kernel, by decide +kernel⟩
abbrev s_law : Stmt := top 22
theorem sc_law : FnScope ["_law_script", "_law_sizes_here", "_law_cell", "_law_bound"] ["_law_script"] (defScope s_law) := ⟨rfl, rfl, rfl, by decide +kernel, rfl, by decide +kernel, by decide +kernel⟩
/-- where the defs and classes stand -/
structure Adr where
  (a_is_whole a_is_bound a_counted a_Tails_init a_copies a_with_more a_figures a_numbers a_how_many a_with_signs a_l_is a_l_behind a_l_long a_l_sizes a_law : Addr)
  (d_is_whole d_is_bound d_counted d_Tails_init d_copies d_with_more d_figures d_numbers d_how_many d_with_signs d_l_is d_l_behind d_l_long d_l_sizes d_law : FuncData)
  (C_Tails : Addr)
/-- what the top has written -/
structure Txt (K : PySem.W.Frag) (mg : Str → Option Value) (Z : Adr) : Prop where
  F_is_whole : FunD K "is_whole" "is_whole" (defArgs s_is_whole) (defBody s_is_whole) (defScope s_is_whole) [.non] [] Z.a_is_whole Z.d_is_whole
  g_is_whole : mg "is_whole" = some (.ref Z.a_is_whole)
  b_is_whole : Binds K Z.d_is_whole ["thing", "low", "high"] []
  F_is_bound : Fun K "is_bound" "is_bound" s_is_bound Z.a_is_bound Z.d_is_bound
  g_is_bound : mg "is_bound" = some (.ref Z.a_is_bound)
  b_is_bound : Binds K Z.d_is_bound ["thing"] []
  F_counted : Fun K "counted" "counted" s_counted Z.a_counted Z.d_counted
  g_counted : mg "counted" = some (.ref Z.a_counted)
  b_counted : Binds K Z.d_counted ["table", "left"] []
  F_Tails_init : Fun K "__init__" "Tails.__init__" s_Tails_init Z.a_Tails_init Z.d_Tails_init
  b_Tails_init : Binds K Z.d_Tails_init ["self", "most"] []
  F_copies : Fun K "_copies" "_copies" s_copies Z.a_copies Z.d_copies
  g_copies : mg "_copies" = some (.ref Z.a_copies)
  b_copies : Binds K Z.d_copies ["most"] []
  F_with_more : Fun K "_with_more" "_with_more" s_with_more Z.a_with_more Z.d_with_more
  g_with_more : mg "_with_more" = some (.ref Z.a_with_more)
  b_with_more : Binds K Z.d_with_more ["ended", "choices", "more", "signs"] []
  F_figures : Fun K "_figures" "_figures" s_figures Z.a_figures Z.d_figures
  g_figures : mg "_figures" = some (.ref Z.a_figures)
  b_figures : Binds K Z.d_figures ["rest"] []
  F_numbers : Fun K "_numbers" "_numbers" s_numbers Z.a_numbers Z.d_numbers
  g_numbers : mg "_numbers" = some (.ref Z.a_numbers)
  b_numbers : Binds K Z.d_numbers ["rest", "left"] []
  F_how_many : Fun K "how_many" "how_many" s_how_many Z.a_how_many Z.d_how_many
  g_how_many : mg "how_many" = some (.ref Z.a_how_many)
  b_how_many : Binds K Z.d_how_many ["many"] []
  F_with_signs : Fun K "with_signs" "with_signs" s_with_signs Z.a_with_signs Z.d_with_signs
  g_with_signs : mg "with_signs" = some (.ref Z.a_with_signs)
  b_with_signs : Binds K Z.d_with_signs ["many"] []
  F_l_is : Fun K "_law_is" "_law_is" s_l_is Z.a_l_is Z.d_l_is
  g_l_is : mg "_law_is" = some (.ref Z.a_l_is)
  b_l_is : Binds K Z.d_l_is ["_law_found", "_law_due"] []
  F_l_behind : Fun K "_law_behind" "_law_behind" s_l_behind Z.a_l_behind Z.d_l_behind
  g_l_behind : mg "_law_behind" = some (.ref Z.a_l_behind)
  b_l_behind : Binds K Z.d_l_behind ["_law_one", "_law_other"] []
  F_l_long : Fun K "_law_long" "_law_long" s_l_long Z.a_l_long Z.d_l_long
  g_l_long : mg "_law_long" = some (.ref Z.a_l_long)
  b_l_long : Binds K Z.d_l_long ["_law_table"] []
  F_l_sizes : Fun K "_law_sizes" "_law_sizes" s_l_sizes Z.a_l_sizes Z.d_l_sizes
  g_l_sizes : mg "_law_sizes" = some (.ref Z.a_l_sizes)
  b_l_sizes : Binds K Z.d_l_sizes [] []
  F_law : Fun K "law" "law" s_law Z.a_law Z.d_law
  g_law : mg "law" = some (.ref Z.a_law)
  b_law : Binds K Z.d_law ["_law_script"] []
  g_Tails : mg "Tails" = some (.ref Z.C_Tails)
  cl_Tails : Cls K Z.C_Tails
  M_Tails : Mk K Z.C_Tails Z.a_Tails_init
  na_Tails_most : NoAttr K Z.C_Tails "most"
  na_Tails_behind_year : NoAttr K Z.C_Tails "behind_year"
  na_Tails_behind_makers : NoAttr K Z.C_Tails "behind_makers"
  na_Tails_in_maker : NoAttr K Z.C_Tails "in_maker"
  na_Tails_in_points : NoAttr K Z.C_Tails "in_points"
  na_Tails_behind_number : NoAttr K Z.C_Tails "behind_number"
  na_Tails_in_letters : NoAttr K Z.C_Tails "in_letters"
  na_Tails_behind_letters : NoAttr K Z.C_Tails "behind_letters"
  na_Tails_total : NoAttr K Z.C_Tails "total"
  n_len : mg "len" = none
  n_isinstance : mg "isinstance" = none
  n_range : mg "range" = none
  n_sum : mg "sum" = none
  n_int : mg "int" = none
  n_bool : mg "bool" = none
  n_zip : mg "zip" = none
  n_enumerate : mg "enumerate" = none
  c_MOST_MAKERS : ∃ t, mg "MOST_MAKERS" = some (.int (3) t)
/-! rules with the written part told by name (for what stands within a comprehension) -/
section
variable (K : PySem.W.Frag) {X : Cx}
theorem ixL (hK : X.K = K := by rfl) : IxR X (rIxL K) := by subst hK; exact ix_list
theorem ixT (hK : X.K = K := by rfl) : IxR X (rIxT K) := by subst hK; exact ix_tup
theorem slL (hK : X.K = K := by rfl) : SlR X (rSlL K) := by subst hK; exact sl_list
theorem lenQ (hK : X.K = K := by rfl) : CallR X (.builtin "len") (rLenS K) := by subst hK; exact call_len_seq
theorem sumK (hc : X.calm = true) (hK : X.K = K := by rfl) : CallR X (.builtin "sum") (rSum K) := by subst hK; exact cr_sum hc
theorem isiK (hK : X.K = K := by rfl) : CallR X (.builtin "isinstance") (rIsi K) := by subst hK; exact call_isi
theorem isiTK (hK : X.K = K := by rfl) : CallR X (.builtin "isinstance") (rIsiT K) := by subst hK; exact call_isiT
theorem listK (hK : X.K = K := by rfl) : CallR X (.type "list") (rListS K) := by subst hK; exact call_list_of
def rTupOf (K : PySem.W.Frag) : List V → Hp → VK → Prop := fun xs H Q => ∃ p ys, xs = [.ref p] ∧ ((SqL K H p ys ∧ ∀ l, H l = none → Q (.ref l) (upd H l (.tup ys))) ∨ (SqT K H p ys ∧ Q (.ref p) H))
theorem tupK (hK : X.K = K := by rfl) : CallR X (.type "tuple") (rTupOf K) := by subst hK; exact call_tuple_of
theorem inQ (hK : X.K = K := by rfl) : OpR X (compareOp .In) (rIn K false) := by subst hK; exact op_in_seq
theorem notInQ (hK : X.K = K := by rfl) : OpR X (compareOp .NotIn) (rIn K true) := by subst hK; exact op_notIn_seq
theorem eqDK (hu : X.A.units + 64 < cLine) (hK : X.K = K := by rfl) : OpR X (compareOp .Eq) (rEqD K) := by subst hK; exact op_eqD hu
theorem neDK (hu : X.A.units + 64 < cLine) (hK : X.K = K := by rfl) : OpR X (compareOp .NotEq) (rNeD K) := by subst hK; exact op_neD hu
theorem fldK {e : Expr} {f : Str} {pos : Pos} {ta : TE} (he : PE X e ta) (hb : attributeBase e f X.env (eval e X.env) = eval e X.env) (hK : X.K = K := by rfl) : PE X (.Attribute e f pos) (tFld K ta f) := by subst hK; exact pe_fld he hb
theorem bmK {o e : Expr} {es : List Expr} {to : TE} {t : TA} {name : Str} {apos cpos : Pos} {T id : String} {r : V → List V → Hp → VK → Prop} (pa : PlainAttrs T) (slot : Slot T name id) (hty : typeOf (.builtin id) = pure (.type "method_descriptor")) (hm : MtR X id r) (ho : PE X o to) (ha : PA X (e :: es) t)
    (hK : X.K = K := by rfl) (hbase : attributeBase o name X.env (eval o X.env) = eval o X.env := by rfl)
    (hfew : ((backTo cpos (starEach (e :: es) X.env)).all (fun x => !x.1) && (backToKw cpos (keywordEach [] X.env)).all (fun x => x.1.isSome)
      && decide ((e :: es).length + ([] : List Keyword).length + (if ([] : List Keyword).isEmpty then 0 else 1) < 30)) = true := by rfl)
    (hline : (apos.endLine == cpos.line) = true := by rfl) (hs : starEach (e :: es) X.env = (false, eval e X.env) :: starEach es X.env := by rfl) (hplain : (backTo cpos (starEach es X.env)).any (·.1) = false := by rfl) :
    PE X (.Call (.Attribute o name apos) (e :: es) [] cpos) (tBM K T r to t) := by subst hK; exact pe_bm pa slot hty hm ho ha hbase hfew hline hs hplain
def rJoin (K : PySem.W.Frag) : V → List V → Hp → VK → Prop := fun x xs H Q => ∃ a p, ∃ ys : List Str, x = .str a ∧ xs = [.ref p] ∧ (SqL K H p (ys.map V.str) ∨ SqT K H p (ys.map V.str)) ∧
      (ys.map (·.length)).sum + ys.length * a.length ≤ 16777216 ∧ Q (.str (Txt.join a ys)) H
theorem joinK {o e : Expr} {to te : TE} {apos pos : Pos} (ho : PE X o to) (he : PE X e te) (hK : X.K = K := by rfl) (hs : starEach [e] X.env = [(false, eval e X.env)] := by rfl) (hbase : attributeBase o "join" X.env (eval o X.env) = eval o X.env := by rfl) (hline : (apos.endLine == pos.line) = true := by rfl) :
    PE X (.Call (.Attribute o "join" apos) [e] [] pos) (tM1 (rJoin K) to te) := by subst hK; exact pe_join ho he hs hbase hline
end
/-! ### words of mine, over HandS and Evl -/
section
variable {K : PySem.W.Frag} {σ : L2.St} {H H' : Hp} {ta tb te tv : TE} {t u : TT} {x y z v : V} {D : Ends} {tz tu : TS}
abbrev ii (xs : List Int) : List V := xs.map V.int
theorem ip_mulI {X : Cx} : PIp X .Mult (fun x y H Q => ∃ i j, x = .int i ∧ y = .int j ∧ CMul i j ∧ Q (.int (i * j)) H) := iop_mul
theorem et_yes : EvT tYes σ H true := fun H1 _ _ q => q H1 (Ex.refl H1)
theorem ev_sumN {ns : List Int} (h : EvL ta σ H (ii ns)) : Ev (tCB (rSum K) (tCons ta tNil)) σ H (.int ns.sum) := fun H1 e Q q =>
  h H1 e _ fun p H2 _ e2 h2 => ⟨p, ns, rfl, sq_of h2, q H2 e2⟩
theorem ev_sum {p : Addr} {ns : List Int} (h : Ev ta σ H (.ref p)) (hS : SqL K H p (ii ns)) : Ev (tCB (rSum K) (tCons ta tNil)) σ H (.int ns.sum) := fun H1 e Q q =>
  h H1 e _ fun H2 e2 => ⟨p, ns, rfl, ex_l (e.trans e2) hS, q H2 e2⟩
theorem given_all {n : Nat} {f : Nat → V} : given n (fun _ => true) f = (List.range n).map f := by
  unfold given
  rw [List.filter_eq_self.mpr (fun _ _ => rfl)]
/-- self.f = e -/
theorem q_fld {a C dx : Addr} {fs : List (Str × V)} {f : Str} (hv : Ev tv σ H v) (ha : Ev ta σ H (.ref a)) (ho : H a = some (.ins C dx fs)) (hc : Cls K C) (hn : NoAttr K C f) (hl : fs.length < 1000)
    (k : ∀ H1, Ex H H1 → tz D σ (upd H1 a (.ins C dx (putF f v fs)))) : tSeq (sFld K ta tv f) tz D σ H :=
  hv H (Ex.refl H) _ fun H1 e1 => ha H1 e1 _ fun H2 e2 => ⟨a, C, dx, fs, rfl, e2 _ _ (e1 _ _ ho), hc, hn, hl, k H2 (e1.trans e2)⟩
theorem q_fldL {a C dx : Addr} {fs : List (Str × V)} {f : Str} {xs : List V} (hv : EvL tv σ H xs) (ha : Ev ta σ H (.ref a)) (ho : H a = some (.ins C dx fs)) (hc : Cls K C) (hn : NoAttr K C f) (hl : fs.length < 1000)
    (k : ∀ p H1, H p = none → Ex H H1 → H1 p = some (.lst xs) → tz D σ (upd H1 a (.ins C dx (putF f (.ref p) fs)))) : tSeq (sFld K ta tv f) tz D σ H :=
  hv H (Ex.refl H) _ fun p H1 hp e1 h1 => ha H1 e1 _ fun H2 e2 => ⟨a, C, dx, fs, rfl, e2 _ _ (e1 _ _ ho), hc, hn, hl, k p H2 hp (e1.trans e2) (e2 _ _ h1)⟩
theorem s_fld {a C dx : Addr} {fs : List (Str × V)} {f : Str} (hv : Ev tv σ H v) (ha : Ev ta σ H (.ref a)) (ho : H a = some (.ins C dx fs)) (hc : Cls K C) (hn : NoAttr K C f) (hl : fs.length < 1000)
    (k : ∀ H1, Ex H H1 → D.nx σ (upd H1 a (.ins C dx (putF f v fs)))) : sFld K ta tv f D σ H :=
  hv H (Ex.refl H) _ fun H1 e1 => ha H1 e1 _ fun H2 e2 => ⟨a, C, dx, fs, rfl, e2 _ _ (e1 _ _ ho), hc, hn, hl, k H2 (e1.trans e2)⟩
theorem ev_fld {a C dx : Addr} {fs : List (Str × V)} {f : Str} (ha : Ev ta σ H (.ref a)) (ho : H a = some (.ins C dx fs)) (hc : Cls K C) (hn : NoAttr K C f) (hl : fs.lookup f = some v) : Ev (tFld K ta f) σ H v :=
  fun H1 e Q q => ha H1 e _ fun H2 e2 => ⟨a, C, dx, fs, v, rfl, e2 _ _ (e _ _ ho), hc, hn, hl, q H2 e2⟩
/-- a value of one of the kinds that is an int, a truth or none of both -/
def isI : V → Bool | .int _ => true | .bl _ => true | _ => false
def isB : V → Bool | .bl _ => true | _ => false
def KnI (K : PySem.W.Frag) (H : Hp) (x : V) : Prop := ∃ t, TyX K H x t ∧ PySem.W.kitOne K t (.type "bool") = some (isB x) ∧ PySem.W.kitOne K t (.type "int") = some (isI x)
theorem kni_int {i : Int} : KnI K H (.int i) := ⟨_, .base (.int i), kit_ty (r := false) (by decide +kernel), kit_ty (r := true) (by decide +kernel)⟩
theorem kni_bl {b : Bool} : KnI K H (.bl b) := ⟨_, .base (.bl b), kit_ty (r := true) (by decide +kernel), kit_ty (r := true) (by decide +kernel)⟩
theorem kni_non : KnI K H .non := ⟨_, .base .non, kit_ty (r := false) (by decide +kernel), kit_ty (r := false) (by decide +kernel)⟩
theorem kni_str {s : Str} : KnI K H (.str s) := ⟨_, .base (.str s), kit_ty (r := false) (by decide +kernel), kit_ty (r := false) (by decide +kernel)⟩
def oi : Option Int → V | none => .non | some i => .int i
def whole (x : V) (lo : Int) (hi : Option Int) : Bool := match x with
  | .int i => decide (lo ≤ i) && (match hi with | none => true | some h => decide (i ≤ h))
  | _ => false
theorem cut_take (xs : List V) (n : Nat) : cutV xs none (some (n : Int)) = xs.take n := by
  unfold cutV
  rw [HT.sIx_none, HT.sIx_nat]
  show (xs.drop 0).take (min n xs.length - 0) = xs.take n
  rw [List.drop_zero, Nat.sub_zero]
  by_cases h : n ≤ xs.length
  · rw [Nat.min_eq_left h]
  · rw [Nat.min_eq_right (by omega), List.take_length, List.take_of_length_le (by omega)]
theorem ii_get {xs : List Int} {j : Nat} (h : j < xs.length) : (ii xs)[j]? = some (.int (xs.getD j 0)) := by
  rw [List.getElem?_map, List.getElem?_eq_getElem h, List.getD_eq_getElem?_getD, List.getElem?_eq_getElem h]
  rfl
theorem ii_len (xs : List Int) : (ii xs).length = xs.length := List.length_map ..
theorem ii_of {xs : List Int} {j : Nat} {y : V} (h : (ii xs)[j]? = some y) : ∃ z, xs[j]? = some z ∧ y = .int z := by
  rw [List.getElem?_map] at h
  cases e : xs[j]? with
  | none => rw [e] at h; cases h
  | some z => rw [e] at h; exact ⟨z, rfl, (Option.some.inj h).symm⟩
end
/-! what is known and never changes (kb), beside what may change -/
theorem grow {kb H H1 : Hp} {p : Addr} {o : HO} (e : Ex kb H) (hp : H p = none) (e1 : Ex H H1) (h1 : H1 p = some o) : Ex (upd kb p o) H1 := fun b u q => by
  by_cases hb : b = p
  · subst hb
    rw [upd_same] at q
    cases q
    exact h1
  · rw [upd_ne hb] at q
    exact e1 b u (e b u q)
theorem kb_new {kb H : Hp} {p : Addr} {o : HO} (e : Ex kb H) (hp : H p = none) : Ex kb (upd kb p o) := Ex.new (fresh_back e hp)
theorem kb_none {kb H : Hp} {p x : Addr} {o u : HO} (hx : kb x = none) (h : H x = some u) (hp : H p = none) : upd kb p o x = none := by
  rw [upd_ne (ne_of_none h hp)]
  exact hx
theorem rep_flat {α : Type} (n : Nat) (x : α) : (List.replicate n [x]).flatten = List.replicate n x := by
  induction n with
  | zero => rfl
  | succ n ih => rw [List.replicate_succ, List.flatten_cons, ih]; rfl

theorem ii_map {n : Nat} {f : Nat → Int} : ii ((List.range n).map f) = (List.range n).map (fun l => V.int (f l)) := List.map_map ..
/-- kb: what is known and stays; mt: what may change, as it stands -/
structure ST (kb H : Hp) (mt : List (Addr × HO)) : Prop where
  e : Ex kb H
  m : ∀ p ∈ mt, kb p.1 = none ∧ H p.1 = some p.2
  d : mt.Pairwise fun p q => p.1 ≠ q.1
section
variable {kb H H1 : Hp} {mt : List (Addr × HO)} {p a b c : Addr} {o o1 o2 o3 u : HO}
theorem ST.ext (s : ST kb H mt) (e : Ex H H1) : ST kb H1 mt := ⟨s.e.trans e, fun p hp => ⟨(s.m p hp).1, e _ _ (s.m p hp).2⟩, s.d⟩
theorem ST.new (s : ST kb H mt) (hp : H p = none) (e : Ex H H1) (h1 : H1 p = some o) : ST (upd kb p o) H1 mt :=
  ⟨grow s.e hp e h1, fun q hq => ⟨kb_none (s.m q hq).1 (s.m q hq).2 hp, e _ _ (s.m q hq).2⟩, s.d⟩
theorem ST.kb_ex (s : ST kb H mt) (hp : H p = none) : Ex kb (upd kb p o) := kb_new s.e hp
theorem ST.newM (s : ST kb H mt) (hp : H p = none) (e : Ex H H1) (h1 : H1 p = some o) : ST kb H1 ((p, o) :: mt) :=
  ⟨s.e.trans e, fun q hq => by
    rcases List.mem_cons.mp hq with rfl | hq
    · exact ⟨fresh_back s.e hp, h1⟩
    · exact ⟨(s.m q hq).1, e _ _ (s.m q hq).2⟩, List.pairwise_cons.mpr ⟨fun q hq => (ne_of_none (s.m q hq).2 hp).symm, s.d⟩⟩
theorem ST.set (s : ST kb H ((a, o) :: mt)) : ST kb (upd H a u) ((a, u) :: mt) :=
  ⟨Ex.mut s.e (s.m _ List.mem_cons_self).1, fun q hq => by
    rcases List.mem_cons.mp hq with rfl | hq
    · exact ⟨(s.m (a, o) List.mem_cons_self).1, upd_same⟩
    · exact ⟨(s.m q (List.mem_cons_of_mem _ hq)).1, by rw [upd_ne ((List.pairwise_cons.mp s.d).1 q hq).symm]; exact (s.m q (List.mem_cons_of_mem _ hq)).2⟩, by
    have z := List.pairwise_cons.mp s.d
    exact List.pairwise_cons.mpr ⟨z.1, z.2⟩⟩
theorem ST.perm {mt' : List (Addr × HO)} (s : ST kb H mt) (h : mt.Perm mt') : ST kb H mt' := ⟨s.e, fun p hp => s.m p (h.mem_iff.mpr hp), s.d.perm h fun z => z.symm⟩
theorem ST.set2 {x : Addr × HO} (s : ST kb H (x :: (a, o) :: mt)) : ST kb (upd H a u) (x :: (a, u) :: mt) := ((s.perm (List.Perm.swap ..)).set).perm (List.Perm.swap ..)
theorem ST.set3 {x y : Addr × HO} (s : ST kb H (x :: y :: (a, o) :: mt)) : ST kb (upd H a u) (x :: y :: (a, u) :: mt) :=
  ((s.perm ((List.Perm.cons x (List.Perm.swap ..)).trans (List.Perm.swap ..))).set).perm ((List.Perm.swap ..).trans (List.Perm.cons x (List.Perm.swap ..)))
theorem ST.at1 (s : ST kb H ((a, o) :: mt)) : H a = some o := (s.m (a, o) List.mem_cons_self).2
theorem ST.at2 {x : Addr × HO} (s : ST kb H (x :: (a, o) :: mt)) : H a = some o := (s.m (a, o) (List.mem_cons_of_mem _ List.mem_cons_self)).2
theorem ST.at3 {x y : Addr × HO} (s : ST kb H (x :: y :: (a, o) :: mt)) : H a = some o := (s.m (a, o) (List.mem_cons_of_mem _ (List.mem_cons_of_mem _ List.mem_cons_self))).2
theorem ST.l {K : PySem.W.Frag} {xs : List V} (s : ST kb H mt) (h : kb a = some (.lst xs)) : SqL K H a xs := sq_of (s.e _ _ h)
/-- a mutable thing is laid down: it stays as it is from here on -/
theorem ST.fix (s : ST kb H ((a, o) :: mt)) : ST (upd kb a o) H mt :=
  ⟨fun b w q => by
    by_cases hb : b = a
    · subst hb; rw [upd_same] at q; cases q; exact s.at1
    · rw [upd_ne hb] at q; exact s.e b w q, fun q hq => ⟨by
      rw [upd_ne ((List.pairwise_cons.mp s.d).1 q hq).symm]
      exact (s.m q (List.mem_cons_of_mem _ hq)).1, (s.m q (List.mem_cons_of_mem _ hq)).2⟩, (List.pairwise_cons.mp s.d).2⟩
end
section
variable {K : PySem.W.Frag} {σ : L2.St} {H H' : Hp} {ta tb te tv : TE} {v : V} {D : Ends} {tz : TS}
theorem st_fldv {a C dx : Addr} {fs fs' : List (Str × V)} {f : Str} {kb : Hp} {mt : List (Addr × HO)} (s : ST kb H ((a, .ins C dx fs) :: mt)) (hv : Ev tv σ H v) (ha : Ev ta σ H (.ref a)) (hc : Cls K C) (hn : NoAttr K C f) (hl : fs.length < 1000) (hf : putF f v fs = fs')
    (k : ∀ H1, ST kb H1 ((a, .ins C dx fs') :: mt) → tz D σ H1) : tSeq (sFld K ta tv f) tz D σ H := by
  subst hf
  exact q_fld hv ha s.at1 hc hn hl fun H1 e1 => k _ (s.ext e1).set
theorem st_fldl {a C dx : Addr} {fs : List (Str × V)} {f : Str} {xs : List V} {kb : Hp} {mt : List (Addr × HO)} (s : ST kb H ((a, .ins C dx fs) :: mt)) (hv : EvL tv σ H xs) (ha : Ev ta σ H (.ref a)) (hc : Cls K C) (hn : NoAttr K C f) (hl : fs.length < 1000)
    (k : ∀ p H1, Ex kb (upd kb p (.lst xs)) → ST (upd kb p (.lst xs)) H1 ((a, .ins C dx (putF f (.ref p) fs)) :: mt) → tz D σ H1) : tSeq (sFld K ta tv f) tz D σ H :=
  q_fldL hv ha s.at1 hc hn hl fun p H1 hp e1 h1 => k p _ (s.kb_ex hp) (s.new hp e1 h1).set
theorem st_fldm {a C dx : Addr} {fs : List (Str × V)} {f : Str} {xs : List V} {kb : Hp} {mt : List (Addr × HO)} (s : ST kb H ((a, .ins C dx fs) :: mt)) (hv : EvL tv σ H xs) (ha : Ev ta σ H (.ref a)) (hc : Cls K C) (hn : NoAttr K C f) (hl : fs.length < 1000)
    (k : ∀ p H1, ST kb H1 ((p, .lst xs) :: (a, .ins C dx (putF f (.ref p) fs)) :: mt) → tz D σ H1) : tSeq (sFld K ta tv f) tz D σ H :=
  q_fldL hv ha s.at1 hc hn hl fun p H1 hp e1 h1 => k p _ (s.newM hp e1 h1).set2
/-- xs.insert(0, a new list) -/
def rIns : V → List V → Hp → VK → Prop := fun x vs H Q => ∃ (l : Addr) (xs : List V) (i : Int) (y : V), x = .ref l ∧ vs = [.int i, y] ∧ H l = some (.lst xs) ∧ xs.length < sizeLine ∧ 0 ≤ i ∧ i < 2 ^ 63 ∧ Q .non (upd H l (.lst (xs.take i.toNat ++ [y] ++ xs.drop i.toNat)))
theorem q_ins0L {l : Addr} {xs ys : List V} (hl : H l = some (.lst xs)) (ha : Ev ta σ H (.ref l)) (h : EvL te σ H ys) (hz : xs.length < 100000) (k : ∀ p H1, H p = none → Ex H H1 → H1 p = some (.lst ys) → tz D σ (upd H1 l (.lst (.ref p :: xs)))) :
    tSeq (tDrop (tBM K "list" rIns ta (tCons (tC (.int 0)) (tCons te tNil)))) tz D σ H := ha H (Ex.refl H) _ fun H1 e1 =>
  ⟨Or.inl ⟨rfl, xs, sq_of (e1 l _ hl)⟩, h H1 e1 _ fun p H2 hp e2 h2 => ⟨l, xs, 0, .ref p, rfl, rfl, e2 l _ (e1 l _ hl), sz_lt hz, Int.le_refl 0, by decide, k p H2 (fresh_back e1 hp) (e1.trans e2) h2⟩⟩
end
theorem lk_head {f : Str} {v : V} {fs : List (Str × V)} : List.lookup f ((f, v) :: fs) = some v := by simp [List.lookup]
theorem lk_tail {f g : Str} {v : V} {fs : List (Str × V)} (h : (f == g) = false) : List.lookup f ((g, v) :: fs) = List.lookup f fs := by simp [List.lookup, h]
section
variable {X : Cx} {x : Str} {pos : Pos}
theorem pe_gi {i : Int} (hg : Gl X x) (h : ∃ t, X.mg x = some (.int i t)) (hd : (x == ("__debug__" : Str)) = false := by decide) : PE X (.Name x pos) (tC (.int i)) := by
  obtain ⟨t, h⟩ := h
  exact pe_glob hg h ⟨t, rfl⟩ (hd := hd)
theorem pe_gs {i : Str} (hg : Gl X x) (h : ∃ t, X.mg x = some (.str i t)) (hd : (x == ("__debug__" : Str)) = false := by decide) : PE X (.Name x pos) (tC (.str i)) := by
  obtain ⟨t, h⟩ := h
  exact pe_glob hg h ⟨t, rfl⟩ (hd := hd)
end
section
variable {K : PySem.W.Frag} {σ : L2.St} {H H' : Hp} {ta tb te tv : TE} {v : V} {D : Ends} {tz : TS} {tr : TA} {xs ys vs dvs : List V}
theorem s_ins0L {l : Addr} {xs ys : List V} (hl : H l = some (.lst xs)) (ha : Ev ta σ H (.ref l)) (h : EvL te σ H ys) (hz : xs.length < 100000) (k : ∀ p H1, H p = none → Ex H H1 → H1 p = some (.lst ys) → D.nx σ (upd H1 l (.lst (.ref p :: xs)))) :
    tDrop (tBM K "list" rIns ta (tCons (tC (.int 0)) (tCons te tNil))) D σ H := ha H (Ex.refl H) _ fun H1 e1 =>
  ⟨Or.inl ⟨rfl, xs, sq_of (e1 l _ hl)⟩, h H1 e1 _ fun p H2 hp e2 h2 => ⟨l, xs, 0, .ref p, rfl, rfl, e2 l _ (e1 l _ hl), sz_lt hz, Int.le_refl 0, by decide, k p H2 (fresh_back e1 hp) (e1.trans e2) h2⟩⟩
/-- [z] * n, a list and a list -/
theorem el_rep {z : V} {n : Nat} (ha : Ev ta σ H z) (hb : Ev tb σ H (.int (n : Int))) (hn : n ≤ 100000) : EvL (tOp rRep (tLst (tCons ta tNil)) tb) σ H (List.replicate n z) := fun H1 e Q q =>
  el_lst (ea_cons ha ea_nil) (by show 1 ≤ 100000; decide) H1 e _ fun p H2 hp e2 h2 => hb H2 (e.trans e2) _ fun H3 e3 =>
    ⟨p, (n : Int), [z], rfl, rfl, e3 _ _ h2, by omega, by omega, by show 1 * _ ≤ _; rw [Nat.one_mul, Int.toNat_natCast]; exact sz_of hn, fun r hr => by
      rw [Int.toNat_natCast, rep_flat]
      exact q r _ (fresh_back (e2.trans e3) hr) ((e2.trans e3).trans (Ex.new hr)) upd_same⟩
theorem el_cat (ha : EvL ta σ H xs) (hb : ∀ H1, Ex H H1 → EvL tb σ H1 ys) (hz : xs.length + ys.length ≤ 100000) : EvL (tOp rCat ta tb) σ H (xs ++ ys) := fun H1 e Q q =>
  ha H1 e _ fun p H2 hp e2 h2 => hb H2 (e.trans e2) H2 (Ex.refl H2) _ fun r H3 hr e3 h3 => ⟨p, r, xs, ys, rfl, rfl, e3 _ _ h2, h3, sz_of hz, fun t ht =>
    q t _ (fresh_back (e2.trans e3) ht) ((e2.trans e3).trans (Ex.new ht)) upd_same⟩
theorem el_cat1 {a : Addr} (ha : Ev ta σ H (.ref a)) (hA : H a = some (.lst xs)) (hb : EvL tb σ H ys) (hz : xs.length + ys.length ≤ 100000) : EvL (tOp rCat ta tb) σ H (xs ++ ys) := fun H1 e Q q =>
  ha H1 e _ fun H2 e2 => hb H2 (e.trans e2) _ fun r H3 hr e3 h3 => ⟨a, r, xs, ys, rfl, rfl, ((e.trans e2).trans e3) _ _ hA, h3, sz_of hz, fun t ht =>
    q t _ (fresh_back (e2.trans e3) ht) ((e2.trans e3).trans (Ex.new ht)) upd_same⟩
theorem el_slN {tl th : TO} {lo hi : Option Int} (h : EvL te σ H xs) (h1 : EvO tl σ H lo) (h2 : EvO th σ H hi) : EvL (tSl (rSlL K) te tl th) σ H (cutV xs lo hi) := fun H1 e _ q =>
  h H1 e _ fun a H2 ha e2 hx => h1 H2 (e.trans e2) _ fun H3 e3 => h2 H3 ((e.trans e2).trans e3) _ fun H4 e4 =>
    ⟨a, xs, rfl, sq_of (e4 _ _ (e3 _ _ hx)), fun p hp => q p _ (fresh_back ((e2.trans e3).trans e4) hp) (((e2.trans e3).trans e4).trans (Ex.new hp)) upd_same⟩
/-- a call whose first argument is a new list -/
theorem el_callL {sp : Sp} {E : XK} (h : EvL te σ H xs) (hr : EvA tr σ H vs) (hs : ∀ p H1, Ex H H1 → H1 p = some (.lst xs) → SpL sp (.ref p :: vs ++ dvs) H1 ys) : EvL (tCall sp dvs E (tCons te tr)) σ H ys := fun H1 e Q q =>
  h H1 e _ fun p H2 hp e2 h2 => hr H2 (e.trans e2) _ fun H3 e3 => hs p H3 ((e.trans e2).trans e3) (e3 _ _ h2) H3 (Ex.refl H3) Q (fun r H4 hr e4 h4 => q r H4 (fresh_back (e2.trans e3) hr) ((e2.trans e3).trans e4) h4) E
theorem el_callLL {sp : Sp} {E : XK} {zs : List V} (h : EvL te σ H xs) (hb : ∀ H1, Ex H H1 → EvL tb σ H1 zs) (hr : EvA tr σ H vs) (hs : ∀ p r H1, Ex H H1 → H1 p = some (.lst xs) → H1 r = some (.lst zs) → SpL sp (.ref p :: .ref r :: vs ++ dvs) H1 ys) : EvL (tCall sp dvs E (tCons te (tCons tb tr))) σ H ys := fun H1 e Q q =>
  h H1 e _ fun p H2 hp e2 h2 => hb H2 (e.trans e2) H2 (Ex.refl H2) _ fun r H3 hr' e3 h3 => hr H3 ((e.trans e2).trans e3) _ fun H4 e4 => hs p r H4 (((e.trans e2).trans e3).trans e4) (e4 _ _ (e3 _ _ h2)) (e4 _ _ h3) H4 (Ex.refl H4) Q
    (fun t H5 ht e5 h5 => q t H5 (fresh_back ((e2.trans e3).trans e4) ht) (((e2.trans e3).trans e4).trans e5) h5) E
end

/-! ### zip of three lists, walked -/
structure Z3 (z TI TO i1 i2 i3 a b c : Addr) : Prop where
  S : PySem.ZipSep3 z TI TO i1 i2 i3 [i1, a] [i2, b] [i3, c]
  ha : a ≠ i1
  hb : b ≠ i2
  hc : c ≠ i3
def Itz3 (K : PySem.W.Frag) (a b c : Addr) : It :=
  ⟨fun i H => ∃ (xs ys zs : List V) (x y u : V), SqL K H a xs ∧ SqL K H b ys ∧ SqL K H c zs ∧ xs[i]? = some x ∧ ys[i]? = some y ∧ zs[i]? = some u,
    fun i H v H' => ∃ T x y u, v = .ref T ∧ H T = none ∧ H' = upd H T (.tup [x, y, u]) ∧ (∀ xs, SqL K H a xs → xs[i]? = some x) ∧ (∀ ys, SqL K H b ys → ys[i]? = some y) ∧ ∀ zs, SqL K H c zs → zs[i]? = some u,
    fun i H => ∃ xs ys zs : List V, SqL K H a xs ∧ SqL K H b ys ∧ SqL K H c zs ∧ i ≤ xs.length ∧ i ≤ ys.length ∧ i ≤ zs.length ∧ (i = xs.length ∨ i = ys.length ∨ i = zs.length)⟩
theorem turn_zip3 {P : Program} {w : World} {K : PySem.W.Frag} {elts : List Expr} {kk : Nat} {tpos : Pos} {a b c z TI TO i1 i2 i3 : Addr} (D : Z3 z TI TO i1 i2 i3 a b c) :
    Turn P w K (.Tuple elts kk tpos) (Itz3 K a b c) [z, TI, TO, i1, i2, i3] z (fun i h => IsZip h z TI TO .none ∧ IsTupOf3 h TI (.ref i1) (.ref i2) (.ref i3) ∧ (∃ x y u, IsTupOf3 h TO x y u) ∧ h.IsListIter i1 a i ∧ h.IsListIter i2 b i ∧ h.IsListIter i3 c i) where
  mem := by simp
  obj := fun i h st d hd => by
    obtain ⟨hz, hTI, ⟨x, y, u, hTO⟩, ⟨o1, e1, _, d1⟩, ⟨o2, e2, _, d2⟩, ⟨o3, e3, _, d3⟩⟩ := st
    have e' : d = z ∨ d = TI ∨ d = TO ∨ d = i1 ∨ d = i2 ∨ d = i3 := by simpa using hd
    rcases e' with q | q | q | q | q | q
    · rw [q]; exact ⟨_, hz, fun v q => nomatch q⟩
    · rw [q]; exact ⟨_, hTI, fun v q => nomatch q⟩
    · rw [q]; exact ⟨_, hTO, fun v q => nomatch q⟩
    · rw [q]; exact ⟨o1, e1, fun v q => by rw [d1] at q; cases q⟩
    · rw [q]; exact ⟨o2, e2, fun v q => by rw [d2] at q; cases q⟩
    · rw [q]; exact ⟨o3, e3, fun v q => by rw [d3] at q; cases q⟩
  keep := fun i h h' st k => by
    obtain ⟨hz, hTI, ⟨x, y, u, hTO⟩, h1, h2, h3⟩ := st
    exact ⟨k z (by simp) _ hz, k TI (by simp) _ hTI, ⟨x, y, u, k TO (by simp) _ hTO⟩, h1.at fun o q => k i1 (by simp) o q, h2.at fun o q => k i2 (by simp) o q, h3.at fun o q => k i3 (by simp) o q⟩
  item := by
    intro X hP hw hK hc i pins s σ H E I hf st hg
    subst hP hw hK
    obtain ⟨hz, hTI, ⟨x0, y0, u0, hTO⟩, h1, h2, h3⟩ := st
    obtain ⟨xs, ys, zs, x, y, u, hqx, hqy, hqz, hx, hy, hu⟩ := hg
    obtain ⟨its, rv, p, _⟩ := I.list hqx
    obtain ⟨its2, rv2, p2, _⟩ := I.list hqy
    obtain ⟨its3, rv3, p3, _⟩ := I.list hqz
    obtain ⟨w1, hw1, rw1⟩ := rv.get hx
    obtain ⟨w2, hw2, rw2⟩ := rv2.get hy
    obtain ⟨w3, hw3, rw3⟩ := rv3.get hu
    have hzl : z < s.heap.objs.size := Heap.lt_size hz
    have hh : X.A.handled = none := I.ok.hd hc
    have q1 : i < its.toArray.size := by have := (List.getElem?_eq_some_iff.mp hw1).1; simpa using this
    have q2 : i < its2.toArray.size := by have := (List.getElem?_eq_some_iff.mp hw2).1; simpa using this
    have q3 : i < its3.toArray.size := by have := (List.getElem?_eq_some_iff.mp hw3).1; simpa using this
    refine wpAny_pyNext_zipD3_item D.S (Draws.list (A := X.A.in1) hh i1 a D.ha its.toArray) (Draws.list (A := X.A.in1) hh i2 b D.hb its2.toArray) (Draws.list (A := X.A.in1) hh i3 c D.hc its3.toArray) hz hTI hTO ⟨h1, p.isList⟩ ⟨h2, p2.isList⟩ ⟨h3, p3.isList⟩ q1 q2 q3
      fun x1 x2 x3 h' tk e1 e2 e3 z' TO' s1 s2 s3 hT hsz hk => ?_
    have f1 : x1 = w1 := by have : its.toArray[i]? = some x1 := e1; simp only [List.getElem?_toArray] at this; rw [hw1] at this; exact (Option.some.inj this).symm
    have f2 : x2 = w2 := by have : its2.toArray[i]? = some x2 := e2; simp only [List.getElem?_toArray] at this; rw [hw2] at this; exact (Option.some.inj this).symm
    have f3 : x3 = w3 := by have : its3.toArray[i]? = some x3 := e3; simp only [List.getElem?_toArray] at this; rw [hw3] at this; exact (Option.some.inj this).symm
    subst f1 f2 f3
    refine ⟨_, rfl, wpAny_letOwnedTupleGo_zip (s := { s with heap := h', toks := tk }) z' fun h'' z'' sb => ?_⟩
    have hT2 : h''.get? s.heap.objs.size = some { cls := .type "tuple", data := .seq #[x1, x2, x3] } := (sb.2 _ (Nat.ne_of_gt hzl)).trans hT
    have new : ObjOk X.prog X.w (upd H s.heap.objs.size (.tup [x, y, u])) h'' s.heap.objs.size (.tup [x, y, u]) :=
      ⟨by show 3 ≤ sizeLine; decide, [x1, x2, x3], .cons rw1 (.cons rw2 (.cons rw3 .nil)), ⟨_, hT2, rfl, _, rfl⟩⟩
    have I1 : Inv X pins σ (upd H s.heap.objs.size (.tup [x, y, u])) { s with heap := h'', toks := tk } :=
      I.turnedNew (t' := tk) (ch := [z, TI, TO, i1, i2, i3]) (fun d o hb q => (sb.2 d (fun q' => hb (by simp [q']))).trans (hk d o (fun q' => hb (by simp [q'])) (fun q' => hb (by simp [q'])) (fun q' => hb (by simp [q'])) (fun q' => hb (by simp [q'])) (fun q' => hb (by simp [q'])) q)) hf (Nat.le_refl _) new
    refine ⟨.ref s.heap.objs.size, _, I1, rfl, ⟨_, x, y, u, rfl, I.hok.fresh (Nat.le_refl _), rfl, fun l hl => by rw [I.list_inj hl hqx]; exact hx, fun l hl => by rw [I.list_inj hl hqy]; exact hy, fun l hl => by rw [I.list_inj hl hqz]; exact hu⟩, ⟨z'', ?_, ⟨x1, x2, x3, ?_⟩, ?_, ?_, ?_⟩, fun d hcm => ?_⟩
    · exact (sb.2 _ D.S.TIz).trans (hk _ _ D.S.TIz D.S.TITO D.S.TIi1 D.S.TIi2 D.S.TIi3 hTI)
    · exact (sb.2 _ D.S.TOz).trans TO'
    · exact s1.1.at fun o q => (sb.2 _ (fun e => D.S.zi1 e.symm)).trans q
    · exact s2.1.at fun o q => (sb.2 _ (fun e => D.S.zi2 e.symm)).trans q
    · exact s3.1.at fun o q => (sb.2 _ (fun e => D.S.zi3 e.symm)).trans q
    · have hlt : d < s.heap.objs.size := by
        have e' : d = z ∨ d = TI ∨ d = TO ∨ d = i1 ∨ d = i2 ∨ d = i3 := by simpa using hcm
        rcases e' with q | q | q | q | q | q
        · rw [q]; exact hzl
        · rw [q]; exact Heap.lt_size hTI
        · rw [q]; exact Heap.lt_size hTO
        · rw [q]; obtain ⟨_, e1, _⟩ := h1; exact Heap.lt_size e1
        · rw [q]; obtain ⟨_, e2, _⟩ := h2; exact Heap.lt_size e2
        · rw [q]; obtain ⟨_, e3, _⟩ := h3; exact Heap.lt_size e3
      rw [upd_ne (Nat.ne_of_lt hlt)]
      exact (hf d hcm).1
  done := by
    intro X hP hw hK hc i pins s σ H E I hf st hg
    subst hP hw hK
    obtain ⟨hz, hTI, ⟨x0, y0, u0, hTO⟩, h1, h2, h3⟩ := st
    obtain ⟨xs, ys, zs, hqx, hqy, hqz, l1, l2, l3, hend⟩ := hg
    obtain ⟨its, rv, p, _⟩ := I.list hqx
    obtain ⟨its2, rv2, p2, _⟩ := I.list hqy
    obtain ⟨its3, rv3, p3, _⟩ := I.list hqz
    have hh : X.A.handled = none := I.ok.hd hc
    have m1 : its.toArray.size = xs.length := by rw [rv.length]; simp
    have m2 : its2.toArray.size = ys.length := by rw [rv2.length]; simp
    have m3 : its3.toArray.size = zs.length := by rw [rv3.length]; simp
    exact wpAny_pyNext_zipD3_end D.S (Draws.list (A := X.A.in1) hh i1 a D.ha its.toArray) (Draws.list (A := X.A.in1) hh i2 b D.hb its2.toArray) (Draws.list (A := X.A.in1) hh i3 c D.hc its3.toArray) hz hTI hTO ⟨h1, p.isList⟩ ⟨h2, p2.isList⟩ ⟨h3, p3.isList⟩
      (by omega) (by omega) (by omega) (by omega) fun h' tk hk => ⟨rfl, I.turnedL (t' := tk) (ch := [z, TI, TO, i1, i2, i3]) (fun d o hb q =>
      hk d o (fun q' => hb (by simp [q'])) (fun q' => hb (by simp [q'])) (fun q' => hb (by simp [q'])) (fun q' => hb (by simp [q'])) (fun q' => hb (by simp [q'])) q) hf⟩
  self := fun A i s Q E st h => wpAny_pyIter_zip st.1 h
def iZip3 (K : PySem.W.Frag) (ta : TA) : TI := fun σ H R => ta σ H fun vs H1 => ∃ a b c xs ys zs, vs = [.ref a, .ref b, .ref c] ∧ SqL K H1 a xs ∧ SqL K H1 b ys ∧ SqL K H1 c zs ∧ R (Itz3 K a b c) H1
theorem pi_zip3 {X : Cx} {e e2 e3 : Expr} {ta : TA} {p pos tpos : Pos} {elts : List Expr} {kk : Nat} (hg : Gl X "zip") (hm : X.mg "zip" = none) (ha : PA X [e, e2, e3] ta)
    (hs : starEach [e, e2, e3] X.env = (false, eval e X.env) :: starEach [e2, e3] X.env := by rfl) (hpl : (backTo pos (starEach [e2, e3] X.env)).any (·.1) = false := by rfl) :
    PI X (.Tuple elts kk tpos) (.Call (.Name "zip" p) [e, e2, e3] [] pos) (iZip3 X.K ta) := by
  refine ⟨fun pins s σ H R I h => ?_⟩
  refine Call_ (ld_blt I hg hm PyProof.Rows.boot_zip (PyProof.Rows.callWith_type1 (thn (ha.run pos pins s σ H _ I h) fun us s1 ⟨vs, H1, I1, r1, q1⟩ => ?_) hs hpl))
  obtain ⟨a, b, c, xs, ys, zs, ex, hqx, hqy, hqz, q⟩ := q1
  subst ex
  cases r1 with
  | cons r rr =>
    cases rr with
    | cons r' rr =>
      cases rr with
      | cons r'' rr =>
        cases rr
        cases r
        cases r'
        cases r''
        obtain ⟨its, rv, p1, _⟩ := I1.list hqx
        obtain ⟨its2, rv2, p2, _⟩ := I1.list hqy
        obtain ⟨its3, rv3, p3, _⟩ := I1.list hqz
        have la : a < s1.heap.objs.size := p1.lt
        have lb : b < s1.heap.objs.size := p2.lt
        have lc : c < s1.heap.objs.size := p3.lt
        refine zip_begins3 (begins_list a its.toArray) (begins_list b its2.toArray) (begins_list c its3.toArray) p1.isList p2.isList p3.isList fun h' hz hTI hTO h1 h2 h3 hsz hk => wpAny_pyIter_zip hz ?_
        have I2 : Inv X pins σ H1 { s1 with heap := h' } := I1.kept (t' := s1.toks) hk
        have ap : Z3 (s1.heap.objs.size + 5) (s1.heap.objs.size + 3) (s1.heap.objs.size + 4) s1.heap.objs.size (s1.heap.objs.size + 1) (s1.heap.objs.size + 2) a b c :=
          ⟨zip_sep3 (fun d hd => by rcases List.mem_singleton.mp hd with rfl; exact la) (fun d hd => by rcases List.mem_singleton.mp hd with rfl; exact lb) (fun d hd => by rcases List.mem_singleton.mp hd with rfl; exact lc),
            Nat.ne_of_lt la, Nat.ne_of_lt (Nat.lt_succ_of_lt lb), Nat.ne_of_lt (Nat.lt_succ_of_lt (Nat.lt_succ_of_lt lc))⟩
        refine ⟨s1.heap.objs.size + 5, [s1.heap.objs.size + 5, s1.heap.objs.size + 3, s1.heap.objs.size + 4, s1.heap.objs.size, s1.heap.objs.size + 1, s1.heap.objs.size + 2], _, _, H1, rfl, I2, turn_zip3 ap,
          ⟨hz, hTI, ⟨_, _, _, hTO⟩, ⟨_, h1, rfl, rfl⟩, ⟨_, h2, rfl, rfl⟩, ⟨_, h3, rfl, rfl⟩⟩, fun d hcm => ?_, q⟩
        have e' : d = s1.heap.objs.size + 5 ∨ d = s1.heap.objs.size + 3 ∨ d = s1.heap.objs.size + 4 ∨ d = s1.heap.objs.size ∨ d = s1.heap.objs.size + 1 ∨ d = s1.heap.objs.size + 2 := by simpa using hcm
        have hle : s1.heap.objs.size ≤ d := by
          rcases e' with z | z | z | z | z | z
          · rw [z]; exact Nat.le_add_right _ _
          · rw [z]; exact Nat.le_add_right _ _
          · rw [z]; exact Nat.le_add_right _ _
          · rw [z]; exact Nat.le_refl _
          · rw [z]; exact Nat.le_add_right _ _
          · rw [z]; exact Nat.le_add_right _ _
        exact I1.fpOk hle (I1.hok.fresh hle)
def YTrip (xs ys zs : Nat → Option V) : Nat → Hp → V → Hp → Prop := fun i H v H' => ∃ T x y u, v = .ref T ∧ H T = none ∧ H' = upd H T (.tup [x, y, u]) ∧ xs i = some x ∧ ys i = some y ∧ zs i = some u
theorem walk_zip3 {K : PySem.W.Frag} {a b c : Addr} {xs ys zs : List V} {n : Nat} (h1 : xs.length = n) (h2 : ys.length = n) (h3 : zs.length = n) :
    Walk (Itz3 K a b c) n (fun H => SqL K H a xs ∧ SqL K H b ys ∧ SqL K H c zs) (YTrip (fun i => xs[i]?) (fun i => ys[i]?) (fun i => zs[i]?)) := by
  refine ⟨fun i _ hi q => ?_, fun _ q => ⟨xs, ys, zs, q.1, q.2.1, q.2.2, by omega, by omega, by omega, .inl h1.symm⟩, fun i H v H' _ q y => ?_⟩
  · exact ⟨xs, ys, zs, xs[i]'(by omega), ys[i]'(by omega), zs[i]'(by omega), q.1, q.2.1, q.2.2, List.getElem?_eq_getElem _, List.getElem?_eq_getElem _, List.getElem?_eq_getElem _⟩
  · obtain ⟨T, x, z, u, h1, h2, h3, h4, h5, h6⟩ := y
    exact ⟨T, x, z, u, h1, h2, h3, h4 xs q.1, h5 ys q.2.1, h6 zs q.2.2⟩

/-! ### the mirror -/
def cnt (t : List Int) (l : Int) : Int := if 0 ≤ l then t.getD l.toNat 0 else 0
def copies (n : Nat) : List Int := (List.range n).map fun l => if 3 < l then (10 : Int) ^ (l - 3) - 1 else 1
def wmore (ended : List Int) (c : Int) (more : List Int) (s : Int) : List Int := (List.range ended.length).map fun (l : Nat) => ended.getD l 0 + c * cnt more ((l : Int) - s)
def figs (rest : List Int) : Nat → List Int
  | 0 => []
  | n + 1 => let t := figs rest n; t ++ [9 * cnt rest ((n : Int) - 1) + 10 * cnt t ((n : Int) - 1)]
def nums (rest : List Int) (l : Int) : List Int := (List.range 4).map fun (m : Nat) => 9 * (10 : Int) ^ m * cnt rest (l - 1 - (m : Int))
theorem copies_len (n : Nat) : (copies n).length = n := by unfold copies; rw [List.length_map, List.length_range]
theorem wmore_len (e : List Int) (c : Int) (m : List Int) (s : Int) : (wmore e c m s).length = e.length := by unfold wmore; rw [List.length_map, List.length_range]
theorem figs_len (r : List Int) : ∀ n : Nat, (figs r n).length = n
  | 0 => rfl
  | n + 1 => by
    show (figs r n ++ [_]).length = n + 1
    rw [List.length_append, figs_len r n]
    rfl
section
variable {P : Program} {w : World} {K : PySem.W.Frag} {mg : Str → Option Value} {base : Heap} {Z : Adr}
def spWhole (K : PySem.W.Frag) : Sp := fun vs H Q _ => ∃ x lo hi, vs = [x, .int lo, oi hi] ∧ KnI K H x ∧ Q (.bl (whole x lo hi)) H
theorem ok_is_whole (T : Txt K mg Z) : FnOk P w K mg base CX0 1 Z.a_is_whole Z.d_is_whole ["thing", "low", "high"] (spWhole K) := by
  refine T.F_is_whole.ok sc_is_whole (fun vs H Q E h => ?_) (fun cdv A outer s H vs Q E hr h => ?_)
  · obtain ⟨x, lo, hi, rfl, _⟩ := h; rfl
  · obtain ⟨x, lo, hi, rfl, ⟨t, ht, hb, hi'⟩, k⟩ := h
    refine ⟨_, (pss_cons (ps_if (PW.pt (pw_or (pt_val (pe_callB (isiK K) (by rfl) T.n_isinstance (by decide +kernel) (pa_cons (pv 0) (pa_cons (pe_bltn (v := .ty "bool") (by rfl) T.n_bool (by decide +kernel) rfl) pa_nil)))) (pw_or1 (pt_not (pt_val (pe_callB (isiK K) (by rfl) T.n_isinstance (by decide +kernel) (pa_cons (pv 0) (pa_cons (pe_bltn (v := .ty "int") (by rfl) T.n_int (by decide +kernel) rfl) pa_nil)))))))) (pss_one (ps_ret pe_bl)) pss_nil)
      (pss_one (ps_ret (pe_and (pe_cmpR op_le (pv 1) (pv 0) (nomark _)) (pe_one (pe_or (pe_cmpR op_isN (pv 2) pe_non (nomark _)) (pe_one (pe_cmpR op_le (pv 0) (pv 2) (nomark _))))))))), ?_⟩
    refine ⟨_, rfl, _, _, _, _, _, rfl, .ty _, ht, hb, _, rfl, ?_⟩
    have fin : isI x = false → Q (.bl false) H := fun e => by
      have : whole x lo hi = false := by cases x <;> first | rfl | cases e
      rw [this] at k; exact k
    by_cases eb : isB x = true
    · rw [eb]
      refine iteT ?_
      have : whole x lo hi = false := by cases x <;> first | rfl | cases eb
      rw [this] at k
      exact iteT k
    · rw [Bool.not_eq_true] at eb
      rw [eb]
      refine iteF ⟨_, rfl, _, _, _, _, _, rfl, .ty _, ht, hi', _, rfl, ?_⟩
      by_cases ei : isI x = true
      · rw [ei]
        refine iteF ?_
        obtain ⟨i, rfl⟩ : ∃ i, x = .int i := by cases x <;> first | exact ⟨_, rfl⟩ | exact Bool.noConfusion (show true = false from eb) | exact Bool.noConfusion (show false = true from ei)
        refine ⟨_, rfl, _, rfl, _, _, rfl, rfl, _, rfl, ?_⟩
        refine ite2 (fun hc => ?_) (fun hc => ?_)
        · refine ⟨_, rfl, rfl, _, rfl, ?_⟩
          cases hi with
          | none =>
            refine iteT ?_
            have : whole (.int i) lo none = true := by show (decide (lo ≤ i) && true) = true; rw [hc]; rfl
            rw [this] at k; exact k
          | some h =>
            refine iteF ⟨_, rfl, _, rfl, _, _, rfl, rfl, ?_⟩
            have : whole (.int i) lo (some h) = decide (i ≤ h) := by show (decide (lo ≤ i) && decide (i ≤ h)) = _; rw [hc, Bool.true_and]
            rw [this] at k; exact k
        · have : whole (.int i) lo hi = false := by
            show (decide (lo ≤ i) && _) = false
            rw [(Bool.not_eq_true _).mp hc, Bool.false_and]
          rw [this] at k; exact k
      · rw [Bool.not_eq_true] at ei
        rw [ei]
        exact iteT (fin ei)
def spBound (K : PySem.W.Frag) : Sp := fun vs H Q _ => ∃ x, vs = [x] ∧ KnI K H x ∧ Q (.bl (whole x 0 (some 60))) H
theorem ok_is_bound (T : Txt K mg Z) : FnOk P w K mg base CX0 2 Z.a_is_bound Z.d_is_bound ["thing"] (spBound K) := by
  refine T.F_is_bound.ok sc_is_bound (fun vs H Q E h => ?_) (fun cdv A outer s H vs Q E hr h => ?_)
  · obtain ⟨x, rfl, _⟩ := h; rfl
  · obtain ⟨x, rfl, hx, k⟩ := h
    refine ⟨_, (pss_one (ps_ret (pe_call (ok_is_whole T) (hr.mono (by decide)) rfl T.g_is_whole T.F_is_whole.kp T.b_is_whole .nil pass0 (pa_cons (pv 0) (pa_cons pe_int (pa_cons pe_int pa_nil)))))), ?_⟩
    exact ⟨_, rfl, x, 0, some 60, rfl, hx, k⟩
def spCounted (K : PySem.W.Frag) : Sp := fun vs H Q _ => ∃ a xs l, vs = [.ref a, .int l] ∧ SqL K H a (ii xs) ∧ l < xs.length ∧ RetV (.int (cnt xs l)) H Q
theorem ok_counted (T : Txt K mg Z) : FnOk P w K mg base CX0 1 Z.a_counted Z.d_counted ["table", "left"] (spCounted K) := by
  refine T.F_counted.ok sc_counted (fun vs H Q E h => ?_) (fun cdv A outer s H vs Q E hr h => ?_)
  · obtain ⟨a, xs, l, rfl, _⟩ := h; rfl
  · obtain ⟨a, xs, l, rfl, hS, hl, k⟩ := h
    refine ⟨_, (pss_one (ps_ret (pe_ifExp (pt_cmpR op_ge (pv 1) pe_int (nomark _)) (pe_ix (ixL K) (pv 0) (pv 1) (fun _ _ => rfl)) pe_int))), ?_⟩
    refine s_ret (ev_if (b := decide (0 ≤ l)) (et_test (ev_op (ev_var rfl) ev_c rv_I0)) (fun hb => ?_) (fun hb => ?_)) k
    · have h0 : 0 ≤ l := of_decide_eq_true hb
      refine ev_op (ev_var rfl) (ev_var rfl) (rv_ixL hS ?_)
      have e : cnt xs l = xs.getD l.toNat 0 := if_pos h0
      rw [e]
      have q := atI_nat (ii_get (xs := xs) (j := l.toNat) (by omega))
      rw [Int.toNat_of_nonneg h0] at q
      exact q
    · have e : cnt xs l = 0 := if_neg (of_decide_eq_false hb)
      rw [e]
      exact ev_c
theorem sp_counted {a : Addr} {xs : List Int} {l : Int} {H : Hp} (hS : SqL K H a (ii xs)) (hl : l < xs.length) : SpV (spCounted K) [.ref a, .int l] H (.int (cnt xs l)) :=
  fun H1 e Q q E => ⟨a, xs, l, rfl, ex_l e hS, hl, q⟩
def spCopies : Sp := fun vs H Q _ => ∃ most : Nat, vs = [.int (most : Int)] ∧ most ≤ 1000 ∧ RetL (ii (copies (most + 1))) H Q
theorem ok_copies (T : Txt K mg Z) : FnOk P w K mg base CX0 1 Z.a_copies Z.d_copies ["most"] spCopies := by
  refine T.F_copies.ok sc_copies (fun vs H Q E h => ?_) (fun cdv A outer s H vs Q E hr h => ?_)
  · obtain ⟨a, rfl, _⟩ := h; rfl
  · obtain ⟨most, rfl, hm, k⟩ := h
    refine ⟨_, (pss_cons (ps_set (i := 1) sc_copies.nd rfl (.inl rfl) (pe_lst pa_nil))
      (pss_cons (ps_set (i := 2) sc_copies.nd rfl (.inl rfl) pe_int)
      (pss_cons (ps_for PassesOwn.never rfl (pi_range1 rfl T.n_range (pa_cons (pe_op op_add (pv 0) pe_int) pa_nil)) (pg_name (i := 3) sc_copies.nd rfl (.inl rfl)) (pss_cons (ps_if (pt_cmpR op_gt (pv 3) pe_int (nomark _)) (pss_one (ps_aug (i := 2) sc_copies.nd rfl (.inl rfl) pe_int ip_mulI)) pss_nil)
      (pss_one (ps_expr (bmK K PySem.F.plainAttrs_list PySem.F.slot_list_append PySem.F.type_list_append mt_append (pv 1) (pa_cons (pe_ifExp (pt_cmpR op_gt (pv 3) pe_int (nomark _)) (pe_op op_sub (pv 2) pe_int) pe_int) pa_nil))))))
      (pss_one (ps_ret (pv 1)))))), ?_⟩
    refine q_asgL (el_lst ea_nil (by decide)) fun p H1 hp e1 h1 => ?_
    refine q_asg ev_c fun H2 e2 => ?_
    refine q_forR1 (n := (most : Int) + 1) (ea_cons (ev_op (ev_var rfl) ev_c rv_I0) ea_nil) ⟨by omega, by omega⟩
      (fun i σ H' => ∃ x3, σ = [some (.int most), some (.ref p), some (.int (10 ^ (i - 4))), x3] ∧ Ex H H' ∧ H' p = some (.lst (ii (copies i))))
      (fun H3 e3 => ⟨none, rfl, (e1.trans e2).trans e3, (e2.trans e3) _ _ h1⟩) ?_ ?_
    · rintro i σ H' hi ⟨x3, rfl, e, hP⟩
      have hlen : (ii (copies i)).length < 100000 := by rw [ii_len, copies_len]; omega
      by_cases h3 : 3 < i
      · refine q_when (b := true) (et_is (et_test (ev_op (ev_var rfl) ev_c rv_I0)) (decide_eq_true (by omega))) (fun _ H4 e4 => ?_) (fun h => nomatch h)
        have ep : (10 : Int) ^ (i - 4) * 10 = 10 ^ (i + 1 - 4) := by
          rw [← Int.pow_succ]
          congr 1
          omega
        refine ⟨_, rfl, _, _, rfl, rfl, .inr ⟨by decide, by decide⟩, ?_⟩
        rw [ep]
        refine s_app (e4 _ _ hP) (ev_var rfl) (v := .int (10 ^ (i - 3) - 1)) (ev_if (b := true) (et_is (et_test (ev_op (ev_var rfl) ev_c rv_I0)) (decide_eq_true (by omega))) (fun _ => ev_is (ev_op (ev_var rfl) ev_c rv_I0) (by congr 2)) (fun h => nomatch h)) hlen fun H5 e5 => ?_
        refine ⟨_, rfl, Ex.mut ((e.trans e4).trans e5) hp, ?_⟩
        rw [upd_same]
        congr 2
        show _ = ii (copies (i + 1))
        unfold copies
        rw [List.range_succ, List.map_append]
        show _ = (_ ++ [_]).map V.int
        rw [List.map_append]
        congr 1
        show _ = [V.int (if 3 < i then (10 : Int) ^ (i - 3) - 1 else 1)]
        rw [if_pos h3]
      · have ep : (10 : Int) ^ (i - 4) = 10 ^ (i + 1 - 4) := by
          congr 1
          omega
        refine q_when (b := false) (et_is (et_test (ev_op (ev_var rfl) ev_c rv_I0)) (decide_eq_false (by omega))) (fun h => nomatch h) (fun _ H4 e4 => ?_)
        refine s_app (e4 _ _ hP) (ev_var rfl) (v := .int 1) (ev_if (b := false) (et_is (et_test (ev_op (ev_var rfl) ev_c rv_I0)) (decide_eq_false (by omega))) (fun h => nomatch h) (fun _ => ev_c)) hlen fun H5 e5 => ?_
        refine ⟨_, by rw [ep]; rfl, Ex.mut ((e.trans e4).trans e5) hp, ?_⟩
        rw [upd_same]
        congr 2
        show _ = ii (copies (i + 1))
        unfold copies
        rw [List.range_succ, List.map_append]
        show _ = (_ ++ [_]).map V.int
        rw [List.map_append]
        congr 1
        show _ = [V.int (if 3 < i then (10 : Int) ^ (i - 3) - 1 else 1)]
        rw [if_neg h3]
    · rintro σ H' ⟨x3, rfl, e, hP⟩
      refine s_ret (ev_var rfl) fun H5 e5 => k p H5 hp (e.trans e5) ?_
      have := e5 _ _ hP
      rw [show ((most : Int) + 1).toNat = most + 1 by omega] at this
      exact this
def spWmore (K : PySem.W.Frag) : Sp := fun vs H Q _ => ∃ a b xs ys c s, vs = [.ref a, .int c, .ref b, .int s] ∧ SqL K H a (ii xs) ∧ SqL K H b (ii ys) ∧ xs.length = ys.length ∧ xs.length ≤ 1000 ∧ 0 ≤ s ∧ (0 ≤ c ∧ c ≤ 10000) ∧ RetL (ii (wmore xs c ys s)) H Q
theorem ok_with_more (T : Txt K mg Z) : FnOk P w K mg base CX0 2 Z.a_with_more Z.d_with_more ["ended", "choices", "more", "signs"] (spWmore K) := by
  refine T.F_with_more.ok sc_with_more (fun vs H Q E h => ?_) (fun cdv A outer s H vs Q E hr h => ?_)
  · obtain ⟨a, b, xs, ys, c, s, rfl, _⟩ := h; rfl
  · obtain ⟨a, b, xs, ys, c, s, rfl, hA, hB, hl, hz, hs, hc, k⟩ := h
    refine ⟨_, (pss_one (ps_ret (pe_lc (own := [("left", 4)]) (g := gName 4) (tt := tYes) rfl sc_with_more.nd (pi_range1 rfl T.n_range (pa_cons (pe_callB (lenQ K) (by rfl) T.n_len (by decide +kernel) (pa_cons (pv 0) pa_nil)) pa_nil)) (blkOk_by (own := [("left", 4)]) (N := ["ended", "choices", "more", "signs", "left"]) (sc := defScope s_with_more) (by decide +kernel)) (fun _ _ _ _ _ => (pg_name (i := 4) sc_with_more.nd rfl (.inl rfl))) (fun _ _ _ _ _ => pts_nil) (fun _ _ _ _ _ => (pe_op op_add (pe_ix (ixL K) (pv 0) (pv 4) (fun _ _ => rfl)) (pe_op op_mul (pv 1) (pe_call (ok_counted T) (hr.mono (by decide)) rfl T.g_counted T.F_counted.kp T.b_counted .nil pass0 (pa_cons (pv 2) (pa_cons (pe_op op_sub (pv 4) (pv 3)) pa_nil))))))))), ?_⟩
    refine s_retL (el_lcR1 (n := (xs.length : Int)) (fun _ => true) (fun l => .int (xs.getD l 0 + c * cnt ys ((l : Int) - s))) (ea_cons (ev_is (ev_len (ev_var rfl) hA) (by rw [ii_len])) ea_nil) ⟨by omega, by omega⟩ (fun x => rfl) (fun i H1 e hi => et_yes) (fun i H1 e hi _ => ?_)) (fun p H1 hp e h1 => ?_)
    · exact ev_op (ev_op (ev_var rfl) (ev_var rfl) (rv_ixL (ex_l e hA) (atI_nat (ii_get (by omega))))) (ev_op (ev_var rfl) (ev_call (ea_cons (ev_var rfl) (ea_cons (ev_op (ev_var rfl) (ev_var rfl) rv_I0) ea_nil)) (sp_counted (ex_l e hB) (by omega))) (rv_I (.inl ⟨by omega, by omega⟩))) rv_I0
    · refine k p H1 hp e ?_
      rw [h1, given_all]
      unfold wmore
      rw [ii_map, Int.toNat_natCast]
theorem sp_wmore {a b : Addr} {xs ys : List Int} {c s : Int} {H : Hp} (hA : SqL K H a (ii xs)) (hB : SqL K H b (ii ys)) (hl : xs.length = ys.length) (hz : xs.length ≤ 1000) (hs : 0 ≤ s) (hc : 0 ≤ c ∧ c ≤ 10000) :
    SpL (spWmore K) [.ref a, .int c, .ref b, .int s] H (ii (wmore xs c ys s)) :=
  fun H1 e Q q E => ⟨a, b, xs, ys, c, s, rfl, ex_l e hA, ex_l e hB, hl, hz, hs, hc, q⟩
def spFigs (K : PySem.W.Frag) : Sp := fun vs H Q _ => ∃ a xs, vs = [.ref a] ∧ SqL K H a (ii xs) ∧ xs.length ≤ 1000 ∧ RetL (ii (figs xs xs.length)) H Q
theorem ok_figures (T : Txt K mg Z) : FnOk P w K mg base CX0 2 Z.a_figures Z.d_figures ["rest"] (spFigs K) := by
  refine T.F_figures.ok sc_figures (fun vs H Q E h => ?_) (fun cdv A outer s H vs Q E hr h => ?_)
  · obtain ⟨a, xs, rfl, _⟩ := h; rfl
  · obtain ⟨a, xs, rfl, hA, hz, k⟩ := h
    refine ⟨_, (pss_cons (ps_set (i := 1) sc_figures.nd rfl (.inl rfl) (pe_lst pa_nil))
      (pss_cons (ps_for PassesOwn.never rfl (pi_range1 rfl T.n_range (pa_cons (pe_callB (lenQ K) (by rfl) T.n_len (by decide +kernel) (pa_cons (pv 0) pa_nil)) pa_nil)) (pg_name (i := 2) sc_figures.nd rfl (.inl rfl)) (pss_one (ps_expr (bmK K PySem.F.plainAttrs_list PySem.F.slot_list_append PySem.F.type_list_append mt_append (pv 1) (pa_cons (pe_op op_add (pe_op op_mul pe_int (pe_call (ok_counted T) (hr.mono (by decide)) rfl T.g_counted T.F_counted.kp T.b_counted .nil pass0 (pa_cons (pv 0) (pa_cons (pe_op op_sub (pv 2) pe_int) pa_nil)))) (pe_op op_mul pe_int (pe_call (ok_counted T) (hr.mono (by decide)) rfl T.g_counted T.F_counted.kp T.b_counted .nil pass0 (pa_cons (pv 1) (pa_cons (pe_op op_sub (pv 2) pe_int) pa_nil))))) pa_nil)))))
      (pss_one (ps_ret (pv 1))))), ?_⟩
    refine q_asgL (el_lst ea_nil (by decide)) fun p H1 hp e1 h1 => ?_
    refine q_forR1 (n := (xs.length : Int)) (ea_cons (ev_is (ev_len (ev_var rfl) (ex_l e1 hA)) (by rw [ii_len])) ea_nil) ⟨by omega, by omega⟩
      (fun i σ H' => ∃ x2, σ = [some (.ref a), some (.ref p), x2] ∧ Ex H H' ∧ H' p = some (.lst (ii (figs xs i)))) (fun H3 e3 => ⟨none, rfl, e1.trans e3, e3 _ _ h1⟩) ?_ ?_
    · rintro i σ H' hi ⟨x2, rfl, e, hP⟩
      refine s_app hP (ev_var rfl) (v := .int (9 * cnt xs ((i : Int) - 1) + 10 * cnt (figs xs i) ((i : Int) - 1))) (ev_op (ev_op ev_c (ev_call (ea_cons (ev_var rfl) (ea_cons (ev_op (ev_var rfl) ev_c rv_I0) ea_nil)) (sp_counted (ex_l e hA) (by omega))) (rv_I (.inl ⟨by omega, by omega⟩)))
        (ev_op ev_c (ev_call (ea_cons (ev_var rfl) (ea_cons (ev_op (ev_var rfl) ev_c rv_I0) ea_nil)) (sp_counted (xs := figs xs i) (sq_of hP) (by rw [figs_len]; omega))) (rv_I (.inl ⟨by omega, by omega⟩))) rv_I0) (by rw [ii_len, figs_len]; omega) fun H5 e5 => ?_
      refine ⟨_, rfl, Ex.mut (e.trans e5) hp, ?_⟩
      rw [upd_same]
      congr 2
      show _ = ii (figs xs (i + 1))
      show _ = (figs xs i ++ [_]).map V.int
      rw [List.map_append]
      rfl
    · rintro σ H' ⟨x2, rfl, e, hP⟩
      exact s_ret (ev_var rfl) fun H5 e5 => k p H5 hp (e.trans e5) (e5 _ _ hP)
theorem sp_figs {a : Addr} {xs : List Int} {H : Hp} (hA : SqL K H a (ii xs)) (hz : xs.length ≤ 1000) : SpL (spFigs K) [.ref a] H (ii (figs xs xs.length)) :=
  fun H1 e Q q E => ⟨a, xs, rfl, ex_l e hA, hz, q⟩
def spNums (K : PySem.W.Frag) : Sp := fun vs H Q _ => ∃ a xs l, vs = [.ref a, .int l] ∧ SqL K H a (ii xs) ∧ xs.length ≤ 1000 ∧ l ≤ xs.length ∧ RetV (.int (nums xs l).sum) H Q
theorem ok_numbers (T : Txt K mg Z) : FnOk P w K mg base CX0 2 Z.a_numbers Z.d_numbers ["rest", "left"] (spNums K) := by
  refine T.F_numbers.ok sc_numbers (fun vs H Q E h => ?_) (fun cdv A outer s H vs Q E hr h => ?_)
  · obtain ⟨a, xs, l, rfl, _⟩ := h; rfl
  · obtain ⟨a, xs, l, rfl, hA, hz, hl, k⟩ := h
    refine ⟨_, (pss_one (ps_ret (pe_callB (sumK K rfl) (by rfl) T.n_sum (by decide +kernel) (pa_cons (pe_lc (own := [("more", 2)]) (g := gName 2) (tt := tYes) rfl sc_numbers.nd (pi_range1 rfl T.n_range (pa_cons pe_int pa_nil)) (blkOk_by (own := [("more", 2)]) (N := ["rest", "left", "more"]) (sc := defScope s_numbers) (by decide +kernel)) (fun _ _ _ _ _ => (pg_name (i := 2) sc_numbers.nd rfl (.inl rfl))) (fun _ _ _ _ _ => pts_nil) (fun _ _ _ _ _ => (pe_op op_mul (pe_op op_mul pe_int (pe_op op_pow pe_int (pv 2))) (pe_call (ok_counted T) (hr.mono (by decide)) rfl T.g_counted T.F_counted.kp T.b_counted .nil pass0 (pa_cons (pv 0) (pa_cons (pe_op op_sub (pe_op op_sub (pv 1) pe_int) (pv 2)) pa_nil)))))) pa_nil)))), ?_⟩
    have key : ∀ m : Nat, m < 4 → 0 ≤ (10 : Int) ^ m ∧ (10 : Int) ^ m ≤ 1000 := fun m hm => by
      have : m = 0 ∨ m = 1 ∨ m = 2 ∨ m = 3 := by omega
      rcases this with rfl | rfl | rfl | rfl <;> decide
    have hlist := el_lcR1 (t := tYes) (σ := start ["rest", "left", "more"] [V.ref a, V.int l]) (H := H) (j := 2) (vs := [2]) (n := 4) (te := _) (fun _ => true) (fun m => .int (9 * (10 : Int) ^ m * cnt xs (l - 1 - (m : Int)))) (ea_cons ev_c ea_nil) ⟨by omega, by omega⟩ (fun x => rfl) (fun i H1 e hi => et_yes)
      (fun i H1 e hi _ => ev_op (ev_op (ev_c (v := .int 9)) (ev_op (ev_c (v := .int 10)) (ev_var (i := 2) rfl) (rv_I (C := CPow) (g := fun i j => .int (i ^ j.toNat)) ⟨by omega, by omega, by decide⟩)) (rv_I (C := CMul) (g := fun i j => .int (i * j)) (.inl ⟨by omega, by omega⟩)))
        (ev_call (E := E0) (dvs := []) (ea_cons (ev_var (i := 0) rfl) (ea_cons (ev_op (ev_op (ev_var (i := 1) rfl) (ev_c (v := .int 1)) (rv_I0 (g := fun i j => .int (i - j)))) (ev_var (i := 2) rfl) (rv_I0 (g := fun i j => .int (i - j)))) ea_nil)) (sp_counted (ex_l e hA) (by omega))) (rv_I (C := CMul) (g := fun i j => .int (i * j)) (.inl (by have := key i (by omega); simp only [Int.toNat_natCast]; omega))))
    refine s_ret (ev_sumN (ns := nums xs l) (fun H1 e Q q => hlist H1 e Q fun p H2 hp e2 h2 => q p H2 hp e2 (h2.trans ?_))) k
    rw [given_all]
    unfold nums
    show some (HO.lst _) = some (HO.lst (List.map V.int _))
    rw [List.map_map]
    rfl
theorem sp_nums {a : Addr} {xs : List Int} {l : Int} {H : Hp} (hA : SqL K H a (ii xs)) (hz : xs.length ≤ 1000) (hl : l ≤ xs.length) : SpV (spNums K) [.ref a, .int l] H (.int (nums xs l).sum) :=
  fun H1 e Q q E => ⟨a, xs, l, rfl, ex_l e hA, hz, hl, q⟩
/-! ### Tails -/
def tYear (n : Nat) : List Int := copies (n + 1)
def tYears (n : Nat) : List Int := wmore (tYear n) 2000 (tYear n) 5
def tBM (n : Nat) : Nat → List (List Int)
  | 0 => [tYears n]
  | i + 1 => let b := tBM n i; wmore (tYears n) 26 (figs (b.headD []) (n + 1)) 2 :: b
def tIM (n : Nat) : Nat → List (List Int)
  | 0 => []
  | i + 1 => figs ((tBM n i).headD []) (n + 1) :: tIM n i
def tPts (n : Nat) : List Int := figs ((tBM n 3).headD []) (n + 1)
def tBN (n : Nat) : List Int := wmore ((tBM n 3).headD []) 1 (tPts n) 1
def tNum (n : Nat) : List Int := (List.range (n + 1)).map fun (l : Nat) => (nums (tBN n) l).sum
def tTwo (n : Nat) : List Int := wmore (tNum n) 26 (tNum n) 1
def tOne (n : Nat) : List Int := wmore (tNum n) 26 (tTwo n) 1
def tLet (n : Nat) : List Int := wmore (List.replicate (n + 1) 0) 26 (tOne n) 1
def tTot (n : Nat) : Int := (tLet n).getD n 0
theorem tYear_len (n : Nat) : (tYear n).length = n + 1 := copies_len _
theorem tYears_len (n : Nat) : (tYears n).length = n + 1 := (wmore_len ..).trans (tYear_len n)
theorem tBM_len (n : Nat) : ∀ i, ((tBM n i).headD []).length = n + 1
  | 0 => tYears_len n
  | i + 1 => (wmore_len ..).trans (tYears_len n)
theorem tBM_ne (n : Nat) : ∀ i, tBM n i = (tBM n i).headD [] :: (tBM n i).tail
  | 0 => rfl
  | i + 1 => rfl
theorem tBM_cnt (n : Nat) : ∀ i, (tBM n i).length = i + 1
  | 0 => rfl
  | i + 1 => congrArg Nat.succ (tBM_cnt n i)
theorem tIM_cnt (n : Nat) : ∀ i, (tIM n i).length = i
  | 0 => rfl
  | i + 1 => congrArg Nat.succ (tIM_cnt n i)
theorem tPts_len (n : Nat) : (tPts n).length = n + 1 := figs_len ..
theorem tBN_len (n : Nat) : (tBN n).length = n + 1 := (wmore_len ..).trans (tBM_len n 3)
theorem tNum_len (n : Nat) : (tNum n).length = n + 1 := by unfold tNum; rw [List.length_map, List.length_range]
theorem tTwo_len (n : Nat) : (tTwo n).length = n + 1 := (wmore_len ..).trans (tNum_len n)
theorem tOne_len (n : Nat) : (tOne n).length = n + 1 := (wmore_len ..).trans (tNum_len n)
theorem tLet_len (n : Nat) : (tLet n).length = n + 1 := (wmore_len ..).trans List.length_replicate
abbrev refs (as : List Addr) : List V := as.map V.ref
/-- lists of ints, by their places -/
abbrev RL (kb : Hp) (as : List Addr) (xss : List (List Int)) : Prop := Paired (fun a xs => kb a = some (.lst (ii xs))) as xss
theorem RL.mono {kb kb' : Hp} {as : List Addr} {xss : List (List Int)} (h : RL kb as xss) (e : Ex kb kb') : RL kb' as xss := Paired.mapP h fun _ _ q => e _ _ q
structure TailsAt (C : Addr) (H : Hp) (x : Addr) (n : Nat) : Prop where
  ex : ∃ (dx a1 a2 a3 a4 a5 a6 a7 : Addr) (as bs ls : List Addr),
    H x = some (.ins C dx [("most", .int (n : Int)), ("behind_year", .ref a1), ("behind_makers", .ref a2), ("in_maker", .ref a3), ("in_points", .ref a4), ("behind_number", .ref a5), ("in_letters", .ref a6), ("behind_letters", .ref a7), ("total", .int (tTot n))]) ∧
    H a1 = some (.lst (ii (tYear n))) ∧ H a2 = some (.lst (refs as)) ∧ RL H as (tBM n 3) ∧ H a3 = some (.lst (refs bs)) ∧ RL H bs (tIM n 3) ∧ H a4 = some (.lst (ii (tPts n))) ∧ H a5 = some (.lst (ii (tBN n))) ∧
    H a6 = some (.lst (refs ls)) ∧ RL H ls [tLet n, tOne n, tTwo n, tNum n] ∧ H a7 = some (.lst (ii (tNum n)))
def spTails (C : Addr) : Sp := fun vs H Q _ => ∃ (H0 : Hp) (x dx : Addr) (n : Nat), vs = [.ref x, .int (n : Int)] ∧ n ≤ 900 ∧ Ex H0 H ∧ H0 x = none ∧ H x = some (.ins C dx []) ∧ ∀ H', Ex H0 H' → TailsAt C H' x n → Q .non H'
theorem ok_Tails_init (T : Txt K mg Z) : FnOk P w K mg base CX0 3 Z.a_Tails_init Z.d_Tails_init ["self", "most"] (spTails Z.C_Tails) := by
  refine T.F_Tails_init.ok sc_Tails_init (fun vs H Q E h => ?_) (fun cdv A outer s H vs Q E hr h => ?_)
  · obtain ⟨_, _, _, _, rfl, _⟩ := h; rfl
  · obtain ⟨H0, x, dx, n, rfl, hn, e0, hx0, hx, k⟩ := h
    refine ⟨_, (pss_cons (ps_fld (pv 0) (pv 1) rfl)
      (pss_cons (ps_fld (pv 0) (pe_call (ok_copies T) (hr.mono (by decide)) rfl T.g_copies T.F_copies.kp T.b_copies .nil pass0 (pa_cons (pv 1) pa_nil)) rfl)
      (pss_cons (ps_set (i := 2) sc_Tails_init.nd rfl (.inl rfl) (pe_call (ok_with_more T) (hr.mono (by decide)) rfl T.g_with_more T.F_with_more.kp T.b_with_more .nil pass0 (pa_cons (fldK K (pv 0) rfl) (pa_cons pe_int (pa_cons (fldK K (pv 0) rfl) (pa_cons pe_int pa_nil))))))
      (pss_cons (ps_fld (pv 0) (pe_lst (pa_cons (pv 2) pa_nil)) rfl)
      (pss_cons (ps_fld (pv 0) (pe_lst pa_nil) rfl)
      (pss_cons (ps_for PassesOwn.never rfl (pi_range1 rfl T.n_range (pa_cons (pe_gi rfl T.c_MOST_MAKERS) pa_nil)) (pg_name (i := 3) sc_Tails_init.nd rfl (.inl rfl)) (pss_cons (ps_expr (bmK K PySem.F.plainAttrs_list PySem.F.slot_list_insert PySem.F.type_list_insert (show MtR _ _ rIns from mt_insert) (fldK K (pv 0) rfl) (pa_cons pe_int (pa_cons (pe_call (ok_figures T) (hr.mono (by decide)) rfl T.g_figures T.F_figures.kp T.b_figures .nil pass0 (pa_cons (pe_ix (ixL K) (fldK K (pv 0) rfl) pe_int (fun _ _ => rfl)) pa_nil)) pa_nil))))
      (pss_one (ps_expr (bmK K PySem.F.plainAttrs_list PySem.F.slot_list_insert PySem.F.type_list_insert (show MtR _ _ rIns from mt_insert) (fldK K (pv 0) rfl) (pa_cons pe_int (pa_cons (pe_call (ok_with_more T) (hr.mono (by decide)) rfl T.g_with_more T.F_with_more.kp T.b_with_more .nil pass0 (pa_cons (pv 2) (pa_cons pe_int (pa_cons (pe_ix (ixL K) (fldK K (pv 0) rfl) pe_int (fun _ _ => rfl)) (pa_cons pe_int pa_nil))))) pa_nil)))))))
      (pss_cons (ps_fld (pv 0) (pe_call (ok_figures T) (hr.mono (by decide)) rfl T.g_figures T.F_figures.kp T.b_figures .nil pass0 (pa_cons (pe_ix (ixL K) (fldK K (pv 0) rfl) pe_int (fun _ _ => rfl)) pa_nil)) rfl)
      (pss_cons (ps_fld (pv 0) (pe_call (ok_with_more T) (hr.mono (by decide)) rfl T.g_with_more T.F_with_more.kp T.b_with_more .nil pass0 (pa_cons (pe_ix (ixL K) (fldK K (pv 0) rfl) pe_int (fun _ _ => rfl)) (pa_cons pe_int (pa_cons (fldK K (pv 0) rfl) (pa_cons pe_int pa_nil))))) rfl)
      (pss_cons (ps_setLc (i := 4) (own := [("left", 5)]) (g := gName 5) (tt := tYes) rfl sc_Tails_init.nd rfl rfl (sw_true rfl rfl rfl (by decide +kernel)) (pi_range1 rfl T.n_range (pa_cons (pe_op op_add (pv 1) pe_int) pa_nil)) (blkOk_by (own := [("left", 5)]) (N := ["self", "most", "years", "_", "numbers", "left", "two", "one"]) (sc := defScope s_Tails_init) (by decide +kernel)) (fun _ _ _ _ _ => (pg_name (i := 5) sc_Tails_init.nd rfl (.inl rfl))) (fun _ _ _ _ _ => pts_nil) (fun _ _ _ _ _ => (pe_call (ok_numbers T) (hr.mono (by decide)) rfl T.g_numbers T.F_numbers.kp T.b_numbers .nil pass0 (pa_cons (fldK K (pv 0) rfl) (pa_cons (pv 5) pa_nil)))))
      (pss_cons (ps_set (i := 6) sc_Tails_init.nd rfl (.inl rfl) (pe_call (ok_with_more T) (hr.mono (by decide)) rfl T.g_with_more T.F_with_more.kp T.b_with_more .nil pass0 (pa_cons (pv 4) (pa_cons pe_int (pa_cons (pv 4) (pa_cons pe_int pa_nil))))))
      (pss_cons (ps_set (i := 7) sc_Tails_init.nd rfl (.inl rfl) (pe_call (ok_with_more T) (hr.mono (by decide)) rfl T.g_with_more T.F_with_more.kp T.b_with_more .nil pass0 (pa_cons (pv 4) (pa_cons pe_int (pa_cons (pv 6) (pa_cons pe_int pa_nil))))))
      (pss_cons (ps_fld (pv 0) (pe_lst (pa_cons (pe_call (ok_with_more T) (hr.mono (by decide)) rfl T.g_with_more T.F_with_more.kp T.b_with_more .nil pass0 (pa_cons (pe_op op_rep (pe_lst (pa_cons pe_int pa_nil)) (pe_op op_add (pv 1) pe_int)) (pa_cons pe_int (pa_cons (pv 7) (pa_cons pe_int pa_nil))))) (pa_cons (pv 7) (pa_cons (pv 6) (pa_cons (pv 4) pa_nil))))) rfl)
      (pss_cons (ps_fld (pv 0) (pv 4) rfl)
      (pss_one (ps_fld (pv 0) (pe_ix (ixL K) (pe_ix (ixL K) (fldK K (pv 0) rfl) pe_int (fun _ _ => rfl)) (pv 1) (fun _ _ => rfl)) rfl))))))))))))))), ?_⟩
    have s0 : ST H0 H [(x, .ins Z.C_Tails dx [])] := ⟨e0, fun p hp => by
      rcases List.mem_singleton.mp hp with rfl
      exact ⟨hx0, hx⟩, List.pairwise_singleton ..⟩
    refine st_fldv s0 (ev_var rfl) (ev_var rfl) T.cl_Tails T.na_Tails_most (by simp) (fs' := [(("most" : Str), V.int (n : Int))]) (by kernel_rfl) fun H1 s1 => ?_
    refine st_fldl s1 (xs := ii (tYear n)) (el_call (ea_cons (ev_var rfl) ea_nil) fun H2 e2 Q q E => ⟨n, rfl, by omega, q⟩) (ev_var rfl) T.cl_Tails T.na_Tails_behind_year (by simp) fun a1 H2 g1 s2 => ?_
    have f2 : putF "behind_year" (.ref a1) [(("most" : Str), V.int (n : Int))] = [(("most" : Str), V.int (n : Int)), ("behind_year", .ref a1)] := by kernel_rfl
    rw [f2] at s2
    have k1 : upd H0 a1 (.lst (ii (tYear n))) a1 = some (.lst (ii (tYear n))) := upd_same
    refine q_asgL (xs := ii (tYears n)) (el_call (ea_cons (ev_fld (ev_var rfl) s2.at1 T.cl_Tails T.na_Tails_behind_year (by kernel_rfl)) (ea_cons ev_c (ea_cons (ev_fld (ev_var rfl) s2.at1 T.cl_Tails T.na_Tails_behind_year (by kernel_rfl)) (ea_cons ev_c ea_nil))))
      (sp_wmore (s2.l k1) (s2.l k1) rfl (by rw [tYear_len]; omega) (by decide) (by decide))) fun ay H3 hay e3 h3 => ?_
    have s3 := s2.new hay e3 h3
    have k3 := (upd_same (H := upd H0 a1 (.lst (ii (tYear n)))) (a := ay) (o := .lst (ii (tYears n))))
    have g3 := g1.trans (s2.kb_ex (o := .lst (ii (tYears n))) hay)
    have k31 := s2.kb_ex (o := .lst (ii (tYears n))) hay _ _ k1
    generalize hkb : upd (upd H0 a1 (.lst (ii (tYear n)))) ay (.lst (ii (tYears n))) = kb at s3 k3 g3 k31
    refine st_fldm s3 (xs := [V.ref ay]) (el_lst (ea_cons (ev_var rfl) ea_nil) (by simp)) (ev_var rfl) T.cl_Tails T.na_Tails_behind_makers (by simp) fun a2 H4 s4 => ?_
    have f4 : putF "behind_makers" (.ref a2) [(("most" : Str), V.int (n : Int)), ("behind_year", .ref a1)] = [(("most" : Str), V.int (n : Int)), ("behind_year", .ref a1), ("behind_makers", .ref a2)] := by kernel_rfl
    rw [f4] at s4
    refine st_fldm (s4.perm (.swap ..)) (xs := []) (el_lst ea_nil (by decide)) (ev_var rfl) T.cl_Tails T.na_Tails_in_maker (by simp) fun a3 H5 s5 => ?_
    have f5 : putF "in_maker" (.ref a3) [(("most" : Str), V.int (n : Int)), ("behind_year", .ref a1), ("behind_makers", .ref a2)] = [(("most" : Str), V.int (n : Int)), ("behind_year", .ref a1), ("behind_makers", .ref a2), ("in_maker", .ref a3)] := by kernel_rfl
    rw [f5] at s5
    have s5' := s5.perm ((List.Perm.swap ..).trans (List.Perm.cons _ (List.Perm.swap ..)))
    generalize hfs : [(("most" : Str), V.int (n : Int)), ("behind_year", .ref a1), ("behind_makers", .ref a2), ("in_maker", .ref a3)] = fs at s5'
    have lb : List.lookup ("behind_makers" : Str) fs = some (.ref a2) := by rw [← hfs]; kernel_rfl
    have li : List.lookup ("in_maker" : Str) fs = some (.ref a3) := by rw [← hfs]; kernel_rfl
    refine q_forR1 (n := 3) (ea_cons ev_c ea_nil) ⟨by decide, by decide⟩
      (fun i σ H' => ∃ x3 kb' as bs, σ = [some (.ref x), some (.int (n : Int)), some (.ref ay), x3, none, none, none, none] ∧ Ex kb kb' ∧ ST kb' H' [(x, .ins Z.C_Tails dx fs), (a2, .lst (refs as)), (a3, .lst (refs bs))] ∧ RL kb' as (tBM n i) ∧ RL kb' bs (tIM n i))
      (fun H6 e6 => ⟨none, kb, [ay], [], rfl, Ex.refl _, s5'.ext e6, .cons k3 .nil, .nil⟩) ?_ ?_
    · rintro i σ H' hi ⟨x3, kb', as, bs, rfl, ekb, s, hA, hB⟩
      have hh := hA
      rw [tBM_ne n i] at hh
      cases hh with
      | @cons a0 _ ar _ h0 hr0 =>
        have hlen := tBM_len n i
        have i0 : atI (refs (a0 :: ar)) 0 = some (.ref a0) := atI_nat (j := 0) rfl
        have asl : (refs (a0 :: ar)).length ≤ 1000 := by
          have q := Paired.length hA
          rw [tBM_cnt] at q
          rw [List.length_map]
          omega
        have bsl : (refs bs).length ≤ 1000 := by
          have q := Paired.length hB
          rw [tIM_cnt] at q
          rw [List.length_map]
          omega
        refine q_ins0L s.at3 (ev_fld (ev_var rfl) s.at1 T.cl_Tails T.na_Tails_in_maker li) (ys := ii (figs ((tBM n i).headD []) (n + 1))) (el_call (ea_cons (ev_op (ev_fld (ev_var rfl) s.at1 T.cl_Tails T.na_Tails_behind_makers lb) ev_c (rv_ixL (sq_of s.at2) i0)) ea_nil)
          (by have := sp_figs (K := K) (s.l h0) (by omega); rw [hlen] at this; exact this)) (by omega) fun p H6 hp e6 h6 => ?_
        have s6 := (s.new hp e6 h6).set3 (u := .lst (.ref p :: refs bs))
        have g6 := s.kb_ex (o := .lst (ii (figs ((tBM n i).headD []) (n + 1)))) hp
        have i1 : atI (V.ref p :: refs bs) 0 = some (.ref p) := atI_nat (j := 0) rfl
        refine s_ins0L s6.at2 (ev_fld (ev_var rfl) s6.at1 T.cl_Tails T.na_Tails_behind_makers lb) (ys := ii (wmore (tYears n) 26 (figs ((tBM n i).headD []) (n + 1)) 2)) (el_call (ea_cons (ev_var rfl) (ea_cons ev_c (ea_cons (ev_op (ev_fld (ev_var rfl) s6.at1 T.cl_Tails T.na_Tails_in_maker li) ev_c (rv_ixL (sq_of s6.at3) i1)) (ea_cons ev_c ea_nil))))
          (sp_wmore (s6.l ((ekb.trans g6) _ _ k3)) (s6.l upd_same) (by rw [tYears_len, figs_len]) (by rw [tYears_len]; omega) (by decide) (by decide))) (by omega) fun r H7 hr e7 h7 => ?_
        have s7 := (s6.new hr e7 h7).set2 (u := .lst (.ref r :: refs (a0 :: ar)))
        have g7 := s6.kb_ex (o := .lst (ii (wmore (tYears n) 26 (figs ((tBM n i).headD []) (n + 1)) 2))) hr
        exact ⟨_, _, r :: a0 :: ar, p :: bs, rfl, (ekb.trans g6).trans g7, s7, .cons upd_same (RL.mono hA (g6.trans g7)), .cons (g7 _ _ upd_same) (RL.mono hB (g6.trans g7))⟩
    · rintro σ H' ⟨x3, kb', as, bs, rfl, ekb, s, hA, hB⟩
      have hlen := tBM_len n 3
      have hh := hA
      rw [show (3 : Int).toNat = 3 from rfl, tBM_ne n 3] at hh
      cases hh with
      | @cons a0 _ ar _ h0 hr0 =>
      have i0 : atI (refs (a0 :: ar)) 0 = some (.ref a0) := atI_nat (j := 0) rfl
      -- in_points
      refine st_fldl s (xs := ii (tPts n)) (el_call (ea_cons (ev_op (ev_fld (ev_var rfl) s.at1 T.cl_Tails T.na_Tails_behind_makers lb) ev_c (rv_ixL (sq_of s.at2) i0)) ea_nil)
          (by have := sp_figs (K := K) (s.l h0) (by omega); rw [hlen] at this; exact this)) (ev_var rfl) T.cl_Tails T.na_Tails_in_points (by rw [← hfs]; simp) fun a4 H6 g6 s6 => ?_
      have f6 : putF "in_points" (.ref a4) fs = [(("most" : Str), V.int (n : Int)), ("behind_year", .ref a1), ("behind_makers", .ref a2), ("in_maker", .ref a3), ("in_points", .ref a4)] := by rw [← hfs]; kernel_rfl
      rw [f6] at s6
      have k4 : upd kb' a4 (.lst (ii (tPts n))) a4 = some (.lst (ii (tPts n))) := upd_same
      -- behind_number
      refine st_fldl s6 (xs := ii (tBN n)) (el_call (ea_cons (ev_op (ev_fld (ev_var rfl) s6.at1 T.cl_Tails T.na_Tails_behind_makers (by kernel_rfl)) ev_c (rv_ixL (sq_of s6.at2) i0)) (ea_cons ev_c (ea_cons (ev_fld (ev_var rfl) s6.at1 T.cl_Tails T.na_Tails_in_points (by kernel_rfl)) (ea_cons ev_c ea_nil))))
          (sp_wmore (s6.l (g6 _ _ h0)) (s6.l k4) (by rw [hlen, tPts_len]) (by omega) (by decide) (by decide))) (ev_var rfl) T.cl_Tails T.na_Tails_behind_number (by simp) fun a5 H7 g7 s7 => ?_
      have f7 : putF "behind_number" (.ref a5) [(("most" : Str), V.int (n : Int)), ("behind_year", .ref a1), ("behind_makers", .ref a2), ("in_maker", .ref a3), ("in_points", .ref a4)] = [(("most" : Str), V.int (n : Int)), ("behind_year", .ref a1), ("behind_makers", .ref a2), ("in_maker", .ref a3), ("in_points", .ref a4), ("behind_number", .ref a5)] := by kernel_rfl
      rw [f7] at s7
      have k5 : upd (upd kb' a4 (.lst (ii (tPts n)))) a5 (.lst (ii (tBN n))) a5 = some (.lst (ii (tBN n))) := upd_same
      have k54 := g7 _ _ k4
      have gg := g6.trans g7
      generalize hkb2 : upd (upd kb' a4 (.lst (ii (tPts n)))) a5 (.lst (ii (tBN n))) = kb2 at s7 k5 k54 gg
      -- numbers
      refine q_asgL (el_lcR1 (n := (n : Int) + 1) (fun _ => true) (fun l => .int (nums (tBN n) l).sum) (ea_cons (ev_op (ev_var rfl) ev_c rv_I0) ea_nil) ⟨by omega, by omega⟩ (fun x => rfl) (fun i H1 e hi => et_yes)
        (fun i H1 e hi _ => ev_call (ea_cons (ev_fld (ev_var rfl) (e _ _ s7.at1) T.cl_Tails T.na_Tails_behind_number (by kernel_rfl)) (ea_cons (ev_var rfl) ea_nil)) (sp_nums (sq_of (e _ _ (s7.e _ _ k5))) (by rw [tBN_len]; omega) (by rw [tBN_len]; omega)))) fun an H8 han e8 h8 => ?_
      have h8' : H8 an = some (.lst (ii (tNum n))) := by
        rw [h8, given_all, show ((n : Int) + 1).toNat = n + 1 by omega]
        unfold tNum
        rw [ii_map]
      have s8 := s7.new han e8 h8'
      have g8 := s7.kb_ex (o := .lst (ii (tNum n))) han
      have k8 : upd kb2 an (.lst (ii (tNum n))) an = some (.lst (ii (tNum n))) := upd_same
      -- two, one
      refine q_asgL (xs := ii (tTwo n)) (el_call (ea_cons (ev_var rfl) (ea_cons ev_c (ea_cons (ev_var rfl) (ea_cons ev_c ea_nil)))) (sp_wmore (s8.l k8) (s8.l k8) rfl (by rw [tNum_len]; omega) (by decide) (by decide))) fun at' H9 hat e9 h9 => ?_
      have s9 := s8.new hat e9 h9
      have g9 := s8.kb_ex (o := .lst (ii (tTwo n))) hat
      have k9 := upd_same (H := upd kb2 an (.lst (ii (tNum n)))) (a := at') (o := .lst (ii (tTwo n)))
      have k98 := g9 _ _ k8
      refine q_asgL (xs := ii (tOne n)) (el_call (ea_cons (ev_var rfl) (ea_cons ev_c (ea_cons (ev_var rfl) (ea_cons ev_c ea_nil)))) (sp_wmore (s9.l k98) (s9.l k9) (by rw [tNum_len, tTwo_len]) (by rw [tNum_len]; omega) (by decide) (by decide))) fun ao HA hao eA hA' => ?_
      have sA := s9.new hao eA hA'
      have gA := s9.kb_ex (o := .lst (ii (tOne n))) hao
      have kA := upd_same (H := upd (upd kb2 an (.lst (ii (tNum n)))) at' (.lst (ii (tTwo n)))) (a := ao) (o := .lst (ii (tOne n)))
      have kA8 := gA _ _ k98
      have kA9 := gA _ _ k9
      have gg3 := (g8.trans g9).trans gA
      have gg2 := gg.trans gg3
      generalize hkb3 : upd (upd (upd kb2 an (.lst (ii (tNum n)))) at' (.lst (ii (tTwo n)))) ao (.lst (ii (tOne n))) = kb3 at sA kA kA8 kA9 gg2 gg3
      -- in_letters
      have hrep : List.replicate (n + 1) (V.int 0) = ii (List.replicate (n + 1) 0) := by
        show _ = (List.replicate (n + 1) 0).map V.int
        rw [List.map_replicate]
      refine (el_callL (xs := List.replicate (n + 1) (V.int 0)) (ys := ii (tLet n)) (el_rep ev_c (ev_op (ev_var rfl) ev_c rv_I0) (by omega)) (ea_cons ev_c (ea_cons (ev_var rfl) (ea_cons ev_c ea_nil)))
        (fun p H1 e h1 => by rw [hrep] at h1; exact sp_wmore (sq_of h1) (ex_l e (sA.l kA)) (by rw [List.length_replicate, tOne_len]) (by rw [List.length_replicate]; omega) (by decide) (by decide))) HA (Ex.refl _) _ fun al HB hal eB hB' => ?_
      have sB := sA.new hal eB hB'
      have gB := sA.kb_ex (o := .lst (ii (tLet n))) hal
      have kB := upd_same (H := kb3) (a := al) (o := .lst (ii (tLet n)))
      refine ⟨_, rfl, _, rfl, _, rfl, (by show 4 ≤ sizeLine; decide), fun a6 ha6 => ?_⟩
      have sC := sB.new (o := .lst (refs [al, ao, at', an])) ha6 (Ex.new ha6) upd_same
      have gC := sB.kb_ex (o := .lst (refs [al, ao, at', an])) ha6
      have kC := upd_same (H := upd kb3 al (.lst (ii (tLet n)))) (a := a6) (o := .lst (refs [al, ao, at', an]))
      refine ⟨_, rfl, x, Z.C_Tails, dx, _, rfl, sC.at1, T.cl_Tails, T.na_Tails_in_letters, (by simp), ?_⟩
      have f8 : putF "in_letters" (.ref a6) [(("most" : Str), V.int (n : Int)), ("behind_year", .ref a1), ("behind_makers", .ref a2), ("in_maker", .ref a3), ("in_points", .ref a4), ("behind_number", .ref a5)] = [(("most" : Str), V.int (n : Int)), ("behind_year", .ref a1), ("behind_makers", .ref a2), ("in_maker", .ref a3), ("in_points", .ref a4), ("behind_number", .ref a5), ("in_letters", .ref a6)] := by kernel_rfl
      rw [f8]
      have sD := sC.set (u := .ins Z.C_Tails dx [(("most" : Str), V.int (n : Int)), ("behind_year", .ref a1), ("behind_makers", .ref a2), ("in_maker", .ref a3), ("in_points", .ref a4), ("behind_number", .ref a5), ("in_letters", .ref a6)])
      -- behind_letters
      refine st_fldv sD (ev_var rfl) (ev_var rfl) T.cl_Tails T.na_Tails_behind_letters (by simp) (fs' := [(("most" : Str), V.int (n : Int)), ("behind_year", .ref a1), ("behind_makers", .ref a2), ("in_maker", .ref a3), ("in_points", .ref a4), ("behind_number", .ref a5), ("in_letters", .ref a6), ("behind_letters", .ref an)]) (by kernel_rfl) fun HE sE => ?_
      -- total
      refine s_fld (v := .int (tTot n)) (ev_op (ev_op (ev_fld (ev_var rfl) sE.at1 T.cl_Tails T.na_Tails_in_letters (by kernel_rfl)) ev_c (rv_ixL (i := 0) (sE.l kC) (atI_nat (j := 0) rfl))) (ev_var rfl) (rv_ixL (sE.l (gC _ _ kB)) (atI_nat (ii_get (by rw [tLet_len]; omega))))) (ev_var rfl) sE.at1 T.cl_Tails T.na_Tails_total (by simp) fun HF eF => ?_
      have f9 : putF "total" (.int (tTot n)) [(("most" : Str), V.int (n : Int)), ("behind_year", .ref a1), ("behind_makers", .ref a2), ("in_maker", .ref a3), ("in_points", .ref a4), ("behind_number", .ref a5), ("in_letters", .ref a6), ("behind_letters", .ref an)] = [(("most" : Str), V.int (n : Int)), ("behind_year", .ref a1), ("behind_makers", .ref a2), ("in_maker", .ref a3), ("in_points", .ref a4), ("behind_number", .ref a5), ("in_letters", .ref a6), ("behind_letters", .ref an), ("total", .int (tTot n))] := by kernel_rfl
      rw [f9]
      have sF := (sE.ext eF).set (u := .ins Z.C_Tails dx [(("most" : Str), V.int (n : Int)), ("behind_year", .ref a1), ("behind_makers", .ref a2), ("in_maker", .ref a3), ("in_points", .ref a4), ("behind_number", .ref a5), ("in_letters", .ref a6), ("behind_letters", .ref an), ("total", .int (tTot n))])
      have G3 := gB.trans gC
      have G := gg2.trans G3
      have F := sF.e
      have kk := F
      refine k _ (((g3.trans ekb).trans G).trans F) ⟨dx, a1, a2, a3, a4, a5, a6, an, a0 :: ar, bs, [al, ao, at', an], sF.at1, F _ _ ((ekb.trans G) _ _ k31), sF.at2, hA.mono (G.trans F), sF.at3, hB.mono (G.trans F), ?_, ?_, F _ _ kC, ?_, F _ _ (G3 _ _ kA8)⟩
      · exact F _ _ (G3 _ _ (gg3 _ _ k54))
      · exact F _ _ (G3 _ _ (gg3 _ _ k5))
      · exact .cons (F _ _ (gC _ _ kB)) (.cons (F _ _ (G3 _ _ kA)) (.cons (F _ _ (G3 _ _ kA9)) (.cons (F _ _ (G3 _ _ kA8)) .nil)))
/-! ### how many -/
def spMany : Sp := fun vs H Q _ => ∃ n : Nat, vs = [.int (n : Int)] ∧ n ≤ 60 ∧ RetV (.int (tTot n)) H Q
theorem ok_how_many (T : Txt K mg Z) : FnOk P w K mg base CX0 5 Z.a_how_many Z.d_how_many ["many"] spMany := by
  refine T.F_how_many.ok sc_how_many (fun vs H Q E h => ?_) (fun cdv A outer s H vs Q E hr h => ?_)
  · obtain ⟨n, rfl, _⟩ := h; rfl
  · obtain ⟨n, rfl, hn, k⟩ := h
    refine ⟨_, (pss_cons (ps_if (pt_not (pt_val (pe_call (ok_is_bound T) (hr.mono (by decide)) rfl T.g_is_bound T.F_is_bound.kp T.b_is_bound .nil pass0 (pa_cons (pv 0) pa_nil)))) (pss_one ps_never) pss_nil)
      (pss_one (ps_ret (fldK K (pe_make T.M_Tails (ok_Tails_init T) (hr.mono (by decide)) rfl T.g_Tails T.b_Tails_init .nil pass0 (pa_cons (pv 0) pa_nil)) rfl)))), ?_⟩
    have hw : whole (.int (n : Int)) 0 (some 60) = true := by
      show (decide (0 ≤ (n : Int)) && decide ((n : Int) ≤ 60)) = true
      rw [decide_eq_true (by omega), decide_eq_true (by omega)]
      rfl
    refine ⟨_, rfl, _, rfl, kni_int, _, rfl, ?_⟩
    rw [hw]
    refine iteF ⟨_, rfl, fun x dx hx hdx hne => ?_⟩
    have s1 : Ex H (upd (upd H dx (.own x)) x (.ins Z.C_Tails dx [])) := (Ex.new hdx).mut hx
    refine ⟨H, x, dx, n, rfl, by omega, s1, hx, upd_same, fun H' e tt => ⟨rfl, ?_⟩⟩
    obtain ⟨dx', a1, a2, a3, a4, a5, a6, a7, as, bs, ls, ho, _⟩ := tt.ex
    exact ⟨x, Z.C_Tails, dx', _, _, rfl, ho, T.cl_Tails, T.na_Tails_total, by kernel_rfl, k _ e⟩
theorem sp_many {n : Nat} {H : Hp} (hn : n ≤ 60) : SpV spMany [.int (n : Int)] H (.int (tTot n)) := fun H1 e Q q E => ⟨n, rfl, hn, q⟩
def wsg (n : Nat) : Int := tTot n - (if 0 < n then tTot (n - 1) else 0)
theorem ok_with_signs (T : Txt K mg Z) : FnOk P w K mg base CX0 6 Z.a_with_signs Z.d_with_signs ["many"] (fun vs H Q _ => ∃ n : Nat, vs = [.int (n : Int)] ∧ n ≤ 60 ∧ RetV (.int (wsg n)) H Q) := by
  refine T.F_with_signs.ok sc_with_signs (fun vs H Q E h => ?_) (fun cdv A outer s H vs Q E hr h => ?_)
  · obtain ⟨n, rfl, _⟩ := h; rfl
  · obtain ⟨n, rfl, hn, k⟩ := h
    refine ⟨_, (pss_cons (ps_set (i := 1) sc_with_signs.nd rfl (.inl rfl) (pe_ifExp (PW.pt (pw_and (pt_val (pe_call (ok_is_bound T) (hr.mono (by decide)) rfl T.g_is_bound T.F_is_bound.kp T.b_is_bound .nil pass0 (pa_cons (pv 0) pa_nil))) (pw_and1 (pt_cmpR op_gt (pv 0) pe_int (nomark _))))) (pe_call (ok_how_many T) (hr.mono (by decide)) rfl T.g_how_many T.F_how_many.kp T.b_how_many .nil pass0 (pa_cons (pe_op op_sub (pv 0) pe_int) pa_nil)) pe_int))
      (pss_one (ps_ret (pe_op op_sub (pe_call (ok_how_many T) (hr.mono (by decide)) rfl T.g_how_many T.F_how_many.kp T.b_how_many .nil pass0 (pa_cons (pv 0) pa_nil)) (pv 1))))), ?_⟩
    have hw : whole (.int (n : Int)) 0 (some 60) = true := by
      show (decide (0 ≤ (n : Int)) && decide ((n : Int) ≤ 60)) = true
      rw [decide_eq_true (by omega), decide_eq_true (by omega)]
      rfl
    have hb : SpV (spBound K) [.int (n : Int)] H (.bl true) := fun H1 e Q q E => ⟨_, rfl, kni_int, by rw [hw]; exact q H1 (Ex.refl _)⟩
    have ht := et_and (et_B (ev_call (σ := [some (.int (n : Int)), none]) (E := E0) (dvs := []) (ea_cons (ev_var (i := 0) rfl) ea_nil) hb)) (fun _ => et_test (ev_op (ev_var (i := 0) rfl) (ev_c (v := .int 0)) (rv_I0 (g := fun i j => .bl (decide (j < i))))))
    refine q_asg (v := .int (if 0 < n then tTot (n - 1) else 0)) (ev_if ht (fun h => ?_) (fun h => ?_)) fun H1 e1 => ?_
    · have h0 : 0 < n := by have := of_decide_eq_true (by simpa using h : decide ((0 : Int) < (n : Int)) = true); omega
      rw [if_pos h0]
      refine ev_call (ea_cons (ev_op (ev_var rfl) ev_c rv_I0) ea_nil) ?_
      have e : (n : Int) - 1 = ((n - 1 : Nat) : Int) := by omega
      show SpV spMany [.int ((n : Int) - 1)] H _
      rw [e]
      exact sp_many (by omega)
    · have h0 : ¬ 0 < n := by have := of_decide_eq_false (by simpa using h : decide ((0 : Int) < (n : Int)) = false); omega
      rw [if_neg h0]
      exact ev_c
    · exact s_ret (ev_op (ev_call (ea_cons (ev_var rfl) ea_nil) (sp_many hn)) (ev_var rfl) rv_I0) fun H2 e2 => k H2 (e1.trans e2)
theorem ok_l_is (T : Txt K mg Z) : FnOk P w K mg base CX0 1 Z.a_l_is Z.d_l_is ["_law_found", "_law_due"] (fun vs H Q _ => ∃ i j : Int, vs = [.int i, .int j] ∧ RetV (.bl (decide (i = j))) H Q) := by
  refine T.F_l_is.ok sc_l_is (fun vs H Q E h => ?_) (fun cdv A outer s H vs Q E hr h => ?_)
  · obtain ⟨i, j, rfl, _⟩ := h; rfl
  · obtain ⟨i, j, rfl, k⟩ := h
    refine ⟨_, (pss_one (ps_ret (pe_and (pe_callB (isiK K) (by rfl) T.n_isinstance (by decide +kernel) (pa_cons (pv 0) (pa_cons (pe_bltn (v := .ty "int") (by rfl) T.n_int (by decide +kernel) rfl) pa_nil))) (pe_and (pe_not (pe_callB (isiK K) (by rfl) T.n_isinstance (by decide +kernel) (pa_cons (pv 0) (pa_cons (pe_bltn (v := .ty "bool") (by rfl) T.n_bool (by decide +kernel) rfl) pa_nil)))) (pe_one (pe_cmpR op_eq (pv 0) (pv 1) (nomark _))))))), ?_⟩
    refine ⟨_, rfl, _, _, _, _, true, rfl, .ty _, .base (.int _), kit_ty (by decide +kernel), true, rfl, iteT ?_⟩
    refine ⟨_, rfl, _, _, _, _, false, rfl, .ty _, .base (.int _), kit_ty (by decide +kernel), false, rfl, true, rfl, iteT ?_⟩
    refine ⟨_, rfl, _, rfl, rfl, ?_⟩
    have e : decide (V.int i = V.int j) = decide (i = j) := by
      by_cases h : i = j
      · rw [h, decide_eq_true rfl, decide_eq_true rfl]
      · rw [decide_eq_false h, decide_eq_false (fun z => h (V.int.inj z))]
    rw [e]
    exact k H (Ex.refl _)
/-! ### the law's own sizes -/
def inner (a : Nat) (b : Int) (o f : List Int) : Nat → List Int
  | 0 => f
  | m + 1 => let g := inner a b o f m; g.set (a + m) (g.getD (a + m) 0 + b * o.getD m 0)
def outer (p o : List Int) : Nat → List Int
  | 0 => List.replicate 61 0
  | i + 1 => let f := outer p o i; if 0 < p.getD i 0 then inner i (p.getD i 0) o f (61 - i) else f
def behind (p o : List Int) : List Int := outer p o 61
def tlong (xs : List Int) : List Int := (xs ++ List.replicate 61 0).take 61
theorem inner_len (a : Nat) (b : Int) (o f : List Int) : ∀ m, (inner a b o f m).length = f.length
  | 0 => rfl
  | m + 1 => (List.length_set ..).trans (inner_len a b o f m)
theorem outer_len (p o : List Int) : ∀ i, (outer p o i).length = 61
  | 0 => List.length_replicate
  | i + 1 => by
    show (if 0 < p.getD i 0 then inner i (p.getD i 0) o (outer p o i) (61 - i) else outer p o i).length = 61
    split
    · rw [inner_len, outer_len p o i]
    · exact outer_len p o i
theorem behind_len (p o : List Int) : (behind p o).length = 61 := outer_len p o 61
def smb (xs : List Int) : Bool := xs.length == 61 && xs.all fun v => decide (v.natAbs < 2 ^ 300)
theorem smb_get {xs : List Int} (h : smb xs = true) (j : Nat) : (xs.getD j 0).natAbs < 2 ^ 300 := by
  unfold smb at h
  rw [Bool.and_eq_true] at h
  rw [List.getD_eq_getElem?_getD]
  cases e : xs[j]? with
  | none => show (0 : Int).natAbs < _; decide
  | some v =>
    have hm := List.mem_of_getElem? e
    have := List.all_eq_true.mp h.2 v hm
    exact of_decide_eq_true this
theorem smb_len {xs : List Int} (h : smb xs = true) : xs.length = 61 := by
  unfold smb at h
  rw [Bool.and_eq_true] at h
  exact eq_of_beq h.1
def spLong : Sp := fun vs H Q _ => ∃ a xs, vs = [.ref a] ∧ H a = some (.lst (ii xs)) ∧ xs.length ≤ 1000 ∧ RetL (ii (tlong xs)) H Q
theorem rep_ii (n : Nat) (z : Int) : List.replicate n (V.int z) = ii (List.replicate n z) := by
  show _ = (List.replicate n z).map V.int
  rw [List.map_replicate]
theorem ok_l_long (T : Txt K mg Z) : FnOk P w K mg base CX0 1 Z.a_l_long Z.d_l_long ["_law_table"] spLong := by
  refine T.F_l_long.ok sc_l_long (fun vs H Q E h => ?_) (fun cdv A outer s H vs Q E hr h => ?_)
  · obtain ⟨a, xs, rfl, _⟩ := h; rfl
  · obtain ⟨a, xs, rfl, hA, hz, k⟩ := h
    refine ⟨_, (pss_one (ps_ret (pe_slice (slL K) (pe_op op_cat (pv 0) (pe_op op_rep (pe_lst (pa_cons pe_int pa_nil)) pe_int)) po_none (po_some pe_int)))), ?_⟩
    have hl : (ii xs).length + (List.replicate 61 (V.int 0)).length ≤ 100000 := by rw [ii_len, List.length_replicate]; omega
    refine s_retL (el_slN (el_cat1 (ev_var rfl) hA (el_rep (n := 61) ev_c ev_c (by decide)) hl) eo_none (eo_some (i := ((61 : Nat) : Int)) ev_c)) fun p H1 hp e h1 => k p H1 hp e ?_
    rw [h1, cut_take, rep_ii]
    congr 2
    show _ = List.map V.int _
    unfold tlong
    rw [List.map_take, List.map_append]
theorem sp_long {a : Addr} {xs : List Int} {H : Hp} (hA : H a = some (.lst (ii xs))) (hz : xs.length ≤ 1000) : SpL spLong [.ref a] H (ii (tlong xs)) :=
  fun H1 e Q q E => ⟨a, xs, rfl, e _ _ hA, hz, q⟩
def spBehind (K : PySem.W.Frag) : Sp := fun vs H Q _ => ∃ a b xs ys, vs = [.ref a, .ref b] ∧ SqL K H a (ii xs) ∧ SqL K H b (ii ys) ∧ smb xs = true ∧ smb ys = true ∧ RetL (ii (behind xs ys)) H Q
theorem ok_l_behind (T : Txt K mg Z) : FnOk P w K mg base CX0 1 Z.a_l_behind Z.d_l_behind ["_law_one", "_law_other"] (spBehind K) := by
  refine T.F_l_behind.ok sc_l_behind (fun vs H Q E h => ?_) (fun cdv A outer' s H vs Q E hr h => ?_)
  · obtain ⟨a, b, xs, ys, rfl, _⟩ := h; rfl
  · obtain ⟨a, b, xs, ys, rfl, hA, hB, sx, sy, k⟩ := h
    have lx := smb_len sx
    have ly := smb_len sy
    refine ⟨_, (pss_cons (ps_set (i := 2) sc_l_behind.nd rfl (.inl rfl) (pe_op op_rep (pe_lst (pa_cons pe_int pa_nil)) pe_int))
      (pss_cons (ps_for PassesOwn.never rfl (pi_enum (by rfl) T.n_enumerate (pa_cons (pv 0) pa_nil)) (pg_tup rfl (pgs_cons (pg_name (i := 3) sc_l_behind.nd rfl (.inl rfl)) (pgs_cons (pg_name (i := 4) sc_l_behind.nd rfl (.inl rfl)) pgs_nil))) (pss_one (ps_if (pt_cmpR op_gt (pv 4) pe_int (nomark _)) (pss_one (ps_for PassesOwn.never rfl (pi_range1 rfl T.n_range (pa_cons (pe_op op_sub pe_int (pv 3)) pa_nil)) (pg_name (i := 5) sc_l_behind.nd rfl (.inl rfl)) (pss_one (ps_asg (pe_op op_add (pe_ix (ixL K) (pv 2) (pe_op op_add (pv 3) (pv 5)) (fun _ _ => rfl)) (pe_op op_mulW (pv 4) (pe_ix (ixL K) (pv 1) (pv 5) (fun _ _ => rfl)))) (pg_sub (pv 2) (pe_op op_add (pv 3) (pv 5)) set_list))))) pss_nil)))
      (pss_one (ps_ret (pv 2))))), ?_⟩
    refine q_asgL (el_rep (n := 61) ev_c ev_c (by decide)) fun p H1 hp e1 h1 => ?_
    rw [rep_ii] at h1
    refine ⟨_, rfl, a, ii xs, rfl, ex_l e1 hA, for_it (walk_enum (xs := ii xs)) (fun i σ H' => ∃ s3 s4 s5, σ = [some (.ref a), some (.ref b), some (.ref p), s3, s4, s5] ∧ Ex H H' ∧ H' p = some (.lst (ii (outer xs ys i))))
      ⟨none, none, none, rfl, e1, h1⟩ (fun i σ H' _ ⟨_, _, _, _, e, _⟩ => ex_l e hA) ?_ ?_⟩
    · rintro i x σ H' H'' hi ⟨s3, s4, s5, rfl, e, hP⟩ ⟨T', x1, x2, rfl, hT, rfl, f1, f2⟩
      rw [ii_len, lx] at hi
      have e2 : Ex H (upd H' T' (.tup [x1, x2])) := e.trans (Ex.new hT)
      have hP2 : upd H' T' (.tup [x1, x2]) p = some (.lst (ii (outer xs ys i))) := by rw [upd_ne (ne_of_none hP hT)]; exact hP
      cases f1
      have f2' := (ii_get (xs := xs) (j := i) (by omega)).symm.trans f2
      cases f2'
      refine ⟨T', _, rfl, .inl (.inl upd_same), rfl, _, _, rfl, _, _, rfl, rfl, ?_⟩
      refine s_when (b := decide (0 < xs.getD i 0)) (et_test (ev_op (ev_var rfl) ev_c rv_I0)) (fun hb H3 e3 => ?_) (fun hb H3 e3 => ?_)
      · have h0 : 0 < xs.getD i 0 := of_decide_eq_true hb
        refine s_forR1 (n := 61 - (i : Int)) (ea_cons (ev_op ev_c (ev_var rfl) rv_I0) ea_nil) ⟨by omega, by omega⟩
          (fun m σ H' => ∃ s5, σ = [some (.ref a), some (.ref b), some (.ref p), some (.int (i : Int)), some (.int (xs.getD i 0)), s5] ∧ Ex H H' ∧ H' p = some (.lst (ii (inner i (xs.getD i 0) ys (outer xs ys i) m))))
          (fun H4 e4 => ⟨_, rfl, (e2.trans e3).trans e4, (e3.trans e4) _ _ hP2⟩) ?_ ?_
        · rintro m σ H4 hm ⟨s5', rfl, e4, hP4⟩
          have hl : (inner i (xs.getD i 0) ys (outer xs ys i) m).length = 61 := by rw [inner_len, outer_len]
          refine s_setL (j := i + m) (v := .int ((inner i (xs.getD i 0) ys (outer xs ys i) m).getD (i + m) 0 + xs.getD i 0 * ys.getD m 0)) hP4
            (ev_op (ev_op (ev_var rfl) (ev_op (ev_var rfl) (ev_var rfl) rv_I0) (rv_ixL (i := ((i + m : Nat) : Int)) (sq_of hP4) (atI_nat (ii_get (by omega))))) (ev_op (ev_var rfl) (ev_op (ev_var rfl) (ev_var rfl) (rv_ixL (ex_l e4 hB) (atI_nat (ii_get (by omega))))) (rv_I (wide_mul (smb_get sx i) (smb_get sy m) (by decide) (by decide) (by decide)))) rv_I0)
            (ev_var rfl) (ev_op (ev_var rfl) (ev_var rfl) rv_I0) (by rw [ii_len]; omega) fun H5 e5 => ?_
          refine ⟨_, rfl, Ex.mut (e4.trans e5) hp, ?_⟩
          rw [upd_same]
          congr 2
          show _ = List.map V.int ((inner i (xs.getD i 0) ys (outer xs ys i) m).set (i + m) _)
          rw [List.map_set]
        · rintro σ H4 ⟨s5', rfl, e4, hP4⟩
          refine ⟨_, _, _, rfl, e4, ?_⟩
          rw [hP4, show (61 - (i : Int)).toNat = 61 - i by omega]
          congr 2
          show _ = ii (if 0 < xs.getD i 0 then inner i (xs.getD i 0) ys (outer xs ys i) (61 - i) else outer xs ys i)
          rw [if_pos h0]
      · have h0 : ¬ 0 < xs.getD i 0 := of_decide_eq_false hb
        refine ⟨_, _, _, rfl, e2.trans e3, ?_⟩
        rw [e3 _ _ hP2]
        congr 2
        show _ = ii (if 0 < xs.getD i 0 then inner i (xs.getD i 0) ys (outer xs ys i) (61 - i) else outer xs ys i)
        rw [if_neg h0]
    · rintro σ H' ⟨s3, s4, s5, rfl, e, hP⟩
      rw [ii_len, lx] at hP
      exact s_ret (ev_var rfl) fun H5 e5 => k p H5 hp (e.trans e5) (e5 _ _ hP)
theorem sp_behind {a b : Addr} {xs ys : List Int} {H : Hp} (hA : SqL K H a (ii xs)) (hB : SqL K H b (ii ys)) (sx : smb xs = true) (sy : smb ys = true) : SpL (spBehind K) [.ref a, .ref b] H (ii (behind xs ys)) :=
  fun H1 e Q q E => ⟨a, b, xs, ys, rfl, ex_l e hA, ex_l e hB, sx, sy, q⟩
def tens (n : Nat) : List Int := (List.range n).map fun (k : Nat) => (10 : Int) ^ k
def zMaker : List Int := tlong ([0, 0, 0] ++ (tens 60).map (234 * ·))
def zTwo : List Int := behind zMaker zMaker
def zThree : List Int := behind zTwo zMaker
def zMakers : List Int := (List.range 61).map fun (i : Nat) => zMaker.getD i 0 + zTwo.getD i 0 + zThree.getD i 0
def z1 : List Int := behind (tlong [0, 26, 676, 17576]) (tlong [0, 9, 90, 900, 9000])
def z2 : List Int := behind (tlong ([1, 0] ++ (tens 60).map (9 * ·))) z1
def z3 : List Int := behind ([1] ++ zMakers.drop 1) z2
def z4 : List Int := behind (tlong [1, 0, 0, 0, 0, 2000]) z3
def zSizes : List Int := behind (tlong ([1, 0, 0, 0, 8] ++ (tens 60).map (90 * ·))) z4
/-! the sizes as sums -/
def cterm (p o : List Int) (k j : Nat) : Int := if j ≤ k ∧ 0 < p.getD j 0 then p.getD j 0 * o.getD (k - j) 0 else 0
def csum (p o : List Int) (k i : Nat) : Int := ((List.range i).map fun j => cterm p o k j).sum
def conv (p o : List Int) : List Int := (List.range 61).map fun k => csum p o k 61
theorem getD_set {f : List Int} {i k : Nat} {v : Int} (h : i < f.length) : (f.set i v).getD k 0 = if i = k then v else f.getD k 0 := by
  rw [List.getD_eq_getElem?_getD, List.getElem?_set]
  by_cases e : i = k
  · rw [if_pos e, if_pos e]
    subst e
    rw [if_pos h]
    rfl
  · rw [if_neg e, if_neg e, ← List.getD_eq_getElem?_getD]
theorem inner_get (a : Nat) (b : Int) (o f : List Int) (hf : f.length = 61) : ∀ m, a + m ≤ 61 → ∀ k, k < 61 → (inner a b o f m).getD k 0 = f.getD k 0 + (if a ≤ k ∧ k < a + m then b * o.getD (k - a) 0 else 0)
  | 0, _, k, _ => by
    rw [if_neg (by omega)]
    show f.getD k 0 = f.getD k 0 + 0
    rw [Int.add_zero]
  | m + 1, hm, k, hk => by
    have ih := inner_get a b o f hf m (by omega)
    show ((inner a b o f m).set (a + m) ((inner a b o f m).getD (a + m) 0 + b * o.getD m 0)).getD k 0 = _
    rw [getD_set (by rw [inner_len]; omega)]
    by_cases e : a + m = k
    · rw [if_pos e, ih (a + m) (by omega), if_neg (by omega), if_pos (by omega), e, Int.add_zero, show k - a = m by omega]
    · rw [if_neg e, ih k hk]
      by_cases e2 : a ≤ k ∧ k < a + m
      · rw [if_pos e2, if_pos (by omega)]
      · rw [if_neg e2, if_neg (by omega)]
theorem csum_succ (p o : List Int) (k i : Nat) : csum p o k (i + 1) = csum p o k i + cterm p o k i := by
  unfold csum
  rw [List.range_succ, List.map_append, List.sum_append]
  show _ + (cterm p o k i + 0) = _
  rw [Int.add_zero]
theorem outer_get (p o : List Int) : ∀ i, i ≤ 61 → ∀ k, k < 61 → (outer p o i).getD k 0 = csum p o k i
  | 0, _, k, hk => by
    show (List.replicate 61 (0 : Int)).getD k 0 = 0
    rw [List.getD_eq_getElem?_getD, List.getElem?_replicate, if_pos hk]
    rfl
  | i + 1, hi, k, hk => by
    have ih := outer_get p o i (by omega) k hk
    rw [csum_succ, ← ih]
    show (if 0 < p.getD i 0 then inner i (p.getD i 0) o (outer p o i) (61 - i) else outer p o i).getD k 0 = _
    unfold cterm
    by_cases h0 : 0 < p.getD i 0
    · rw [if_pos h0, inner_get i _ o _ (outer_len p o i) (61 - i) (by omega) k hk]
      by_cases h1 : i ≤ k
      · rw [if_pos (by omega), if_pos ⟨h1, h0⟩]
      · rw [if_neg (by omega), if_neg (fun z => h1 z.1)]
    · rw [if_neg h0, if_neg (fun z => h0 z.2), Int.add_zero]
theorem behind_conv (p o : List Int) : behind p o = conv p o := by
  refine List.ext_getElem? fun k => ?_
  unfold conv
  by_cases hk : k < 61
  · have h1 : (behind p o)[k]? = some ((behind p o).getD k 0) := by
      rw [List.getD_eq_getElem?_getD, List.getElem?_eq_getElem (by rw [behind_len]; exact hk)]
      rfl
    rw [h1, List.getElem?_map, List.getElem?_range hk]
    exact congrArg some (outer_get p o 61 (Nat.le_refl _) k hk)
  · rw [List.getElem?_eq_none (by rw [behind_len]; omega), List.getElem?_eq_none (by rw [List.length_map, List.length_range]; omega)]
def qYear : List Int := [1, 1, 1, 1, 9, 99, 999, 9999, 99999, 999999, 9999999, 99999999, 999999999, 9999999999, 99999999999, 999999999999, 9999999999999, 99999999999999, 999999999999999, 9999999999999999, 99999999999999999, 999999999999999999, 9999999999999999999, 99999999999999999999, 999999999999999999999, 9999999999999999999999, 99999999999999999999999, 999999999999999999999999, 9999999999999999999999999, 99999999999999999999999999, 999999999999999999999999999, 9999999999999999999999999999, 99999999999999999999999999999, 999999999999999999999999999999, 9999999999999999999999999999999, 99999999999999999999999999999999, 999999999999999999999999999999999, 9999999999999999999999999999999999, 99999999999999999999999999999999999, 999999999999999999999999999999999999, 9999999999999999999999999999999999999, 99999999999999999999999999999999999999, 999999999999999999999999999999999999999, 9999999999999999999999999999999999999999, 99999999999999999999999999999999999999999, 999999999999999999999999999999999999999999, 9999999999999999999999999999999999999999999, 99999999999999999999999999999999999999999999, 999999999999999999999999999999999999999999999, 9999999999999999999999999999999999999999999999, 99999999999999999999999999999999999999999999999, 999999999999999999999999999999999999999999999999, 9999999999999999999999999999999999999999999999999, 99999999999999999999999999999999999999999999999999, 999999999999999999999999999999999999999999999999999, 9999999999999999999999999999999999999999999999999999, 99999999999999999999999999999999999999999999999999999, 999999999999999999999999999999999999999999999999999999, 9999999999999999999999999999999999999999999999999999999, 99999999999999999999999999999999999999999999999999999999, 999999999999999999999999999999999999999999999999999999999]
def qYears : List Int := [1, 1, 1, 1, 9, 2099, 2999, 11999, 101999, 1017999, 10197999, 101997999, 1019997999, 10199997999, 101999997999, 1019999997999, 10199999997999, 101999999997999, 1019999999997999, 10199999999997999, 101999999999997999, 1019999999999997999, 10199999999999997999, 101999999999999997999, 1019999999999999997999, 10199999999999999997999, 101999999999999999997999, 1019999999999999999997999, 10199999999999999999997999, 101999999999999999999997999, 1019999999999999999999997999, 10199999999999999999999997999, 101999999999999999999999997999, 1019999999999999999999999997999, 10199999999999999999999999997999, 101999999999999999999999999997999, 1019999999999999999999999999997999, 10199999999999999999999999999997999, 101999999999999999999999999999997999, 1019999999999999999999999999999997999, 10199999999999999999999999999999997999, 101999999999999999999999999999999997999, 1019999999999999999999999999999999997999, 10199999999999999999999999999999999997999, 101999999999999999999999999999999999997999, 1019999999999999999999999999999999999997999, 10199999999999999999999999999999999999997999, 101999999999999999999999999999999999999997999, 1019999999999999999999999999999999999999997999, 10199999999999999999999999999999999999999997999, 101999999999999999999999999999999999999999997999, 1019999999999999999999999999999999999999999997999, 10199999999999999999999999999999999999999999997999, 101999999999999999999999999999999999999999999997999, 1019999999999999999999999999999999999999999999997999, 10199999999999999999999999999999999999999999999997999, 101999999999999999999999999999999999999999999999997999, 1019999999999999999999999999999999999999999999999997999, 10199999999999999999999999999999999999999999999999997999, 101999999999999999999999999999999999999999999999999997999, 1019999999999999999999999999999999999999999999999999997999]
def qM0 : List Int := [0, 9, 99, 999, 9999, 100071, 1019601, 10223001, 102338001, 1024298001, 10252142001, 102613202001, 1027050002001, 10279680002001, 102888600002001, 1029804000002001, 10307220000002001, 103164000000002001, 1032558000000002001, 10334760000000002001, 103439400000000002001, 1035312000000000002001, 10362300000000000002001, 103714800000000000002001, 1038066000000000000002001, 10389840000000000000002001, 103990200000000000000002001, 1040820000000000000000002001, 10417380000000000000000002001, 104265600000000000000000002001, 1043574000000000000000000002001, 10444920000000000000000000002001, 104541000000000000000000000002001, 1046328000000000000000000000002001, 10472460000000000000000000000002001, 104816400000000000000000000000002001, 1049082000000000000000000000000002001, 10500000000000000000000000000000002001, 105091800000000000000000000000000002001, 1051836000000000000000000000000000002001, 10527540000000000000000000000000000002001, 105367200000000000000000000000000000002001, 1054590000000000000000000000000000000002001, 10555080000000000000000000000000000000002001, 105642600000000000000000000000000000000002001, 1057344000000000000000000000000000000000002001, 10582620000000000000000000000000000000000002001, 105918000000000000000000000000000000000000002001, 1060098000000000000000000000000000000000000002001, 10610160000000000000000000000000000000000000002001, 106193400000000000000000000000000000000000000002001, 1062852000000000000000000000000000000000000000002001, 10637700000000000000000000000000000000000000000002001, 106468800000000000000000000000000000000000000000002001, 1065606000000000000000000000000000000000000000000002001, 10665240000000000000000000000000000000000000000000002001, 106744200000000000000000000000000000000000000000000002001, 1068360000000000000000000000000000000000000000000000002001, 10692780000000000000000000000000000000000000000000000002001, 107019600000000000000000000000000000000000000000000000002001, 1071114000000000000000000000000000000000000000000000000002001]
def qB1 : List Int := [1, 1, 1, 235, 2583, 28073, 262973, 2613845, 26611625, 266816025, 2670986025, 26733746025, 267575690025, 2678143250025, 26805300050025, 268291680050025, 2685303600050025, 26876904000050025, 269007720000050025, 2692464000000050025, 26948508000000050025, 269723760000000050025, 2699624400000000050025, 27020112000000000050025, 270439800000000000050025, 2706784800000000000050025, 27091716000000000000050025, 271155840000000000000050025, 2713945200000000000000050025, 27163320000000000000000050025, 271871880000000000000000050025, 2721105600000000000000000050025, 27234924000000000000000000050025, 272587920000000000000000000050025, 2728266000000000000000000000050025, 27306528000000000000000000000050025, 273303960000000000000000000000050025, 2735426400000000000000000000000050025, 27378132000000000000000000000000050025, 274020000000000000000000000000000050025, 2742586800000000000000000000000000050025, 27449736000000000000000000000000000050025, 274736040000000000000000000000000000050025, 2749747200000000000000000000000000000050025, 27521340000000000000000000000000000000050025, 275452080000000000000000000000000000000050025, 2756907600000000000000000000000000000000050025, 27592944000000000000000000000000000000000050025, 276168120000000000000000000000000000000000050025, 2764068000000000000000000000000000000000000050025, 27664548000000000000000000000000000000000000050025, 276884160000000000000000000000000000000000000050025, 2771228400000000000000000000000000000000000000050025, 27736152000000000000000000000000000000000000000050025, 277600200000000000000000000000000000000000000000050025, 2778388800000000000000000000000000000000000000000050025, 27807756000000000000000000000000000000000000000000050025, 278316240000000000000000000000000000000000000000000050025, 2785549200000000000000000000000000000000000000000000050025, 27879360000000000000000000000000000000000000000000000050025, 279032280000000000000000000000000000000000000000000000050025]
def qM1 : List Int := [0, 9, 99, 999, 12105, 144297, 1695627, 19323027, 216754875, 2407053375, 26471877975, 288757653975, 3128180253975, 33689983749975, 361003126749975, 3851278967949975, 40927414799949975, 433441880399949975, 4576310939999949975, 48184178879999949975, 506073964799999949975, 5303276219999999949975, 55460276039999999949975, 578899379999999999949975, 6032174807999999999949975, 62755706279999999999949975, 651918125999999999999949975, 6763006703999999999999949975, 70070469599999999999999949975, 725130202799999999999999949975, 7495771907999999999999999949975, 77404565999999999999999999949975, 798535610399999999999999999949975, 8230470419999999999999999999949975, 84757995479999999999999999999949975, 872134348799999999999999999999949975, 8967102239999999999999999999999949975, 92130758039999999999999999999999949975, 945926417999999999999999999999999949975, 9705667367999999999999999999999999949975, 99522853679999999999999999999999999949975, 1019911817999999999999999999999999999949975, 10446165803999999999999999999999999999949975, 106934282399999999999999999999999999999949975, 1094090548799999999999999999999999999999949975, 11188597547999999999999999999999999999999949975, 114365044199999999999999999999999999999999949975, 1168462610399999999999999999999999999999999949975, 11932962599999999999999999999999999999999999949975, 121815139079999999999999999999999999999999999949975, 1243028002799999999999999999999999999999999999949975, 12679260959999999999999999999999999999999999999949975, 129284567039999999999999999999999999999999999999949975, 1317786725999999999999999999999999999999999999999949975, 13427492627999999999999999999999999999999999999999949975, 136773328079999999999999999999999999999999999999999949975, 1392738779999999999999999999999999999999999999999999949975, 14177657603999999999999999999999999999999999999999999949975, 144281422199999999999999999999999999999999999999999999949975, 1467884164799999999999999999999999999999999999999999999949975, 14929755887999999999999999999999999999999999999999999999949975]
def qB2 : List Int := [1, 1, 1, 235, 2583, 28073, 317729, 3763721, 44188301, 503416701, 5645824749, 62685385749, 689288825349, 7517899001349, 81434686601349, 876959577497349, 9396281295497349, 100235253166697349, 1065132784798697349, 11279688890398697349, 119086084439998697349, 1253808650879998697349, 13168123084799998697349, 137987181719999998697349, 1442987177039999998697349, 15061583879999999998697349, 156938545007999999998697349, 1632668363279999999998697349, 16960071275999999999998697349, 175940174303999999999998697349, 1822852209599999999999998697349, 18863585272799999999999998697349, 194992069607999999999999998697349, 2013538715999999999999999998697349, 20772125870399999999999999998697349, 214094230919999999999999999998697349, 2204727882479999999999999999998697349, 22685693068799999999999999999998697349, 233246658239999999999999999999998697349, 2396419709039999999999999999999998697349, 24604286867999999999999999999999998697349, 252449351567999999999999999999999998697349, 2588614195679999999999999999999999998697349, 26527907267999999999999999999999999998697349, 271702310903999999999999999999999999998697349, 2781311342399999999999999999999999999998697349, 28456554268799999999999999999999999999998697349, 291005536247999999999999999999999999999998697349, 2974511149199999999999999999999999999999998697349, 30390227870399999999999999999999999999999998697349, 310359027599999999999999999999999999999999998697349, 3168213616079999999999999999999999999999999998697349, 32328928072799999999999999999999999999999999998697349, 329762784959999999999999999999999999999999999998697349, 3362418743039999999999999999999999999999999999998697349, 34272654875999999999999999999999999999999999999998697349, 349216808327999999999999999999999999999999999999998697349, 3557126530079999999999999999999999999999999999999998697349, 36221408279999999999999999999999999999999999999999998697349, 368721097703999999999999999999999999999999999999999998697349, 3752336977199999999999999999999999999999999999999999998697349]
def qM2 : List Int := [0, 9, 99, 999, 12105, 144297, 1695627, 19815831, 232031799, 2718012699, 31710877299, 367921195731, 4243380429051, 48637403718651, 554035128198651, 6273263461398651, 70625270811462651, 790819239774102651, 8810309676241302651, 97689291825601302651, 1078410118269601302651, 11855875942656001302651, 129843037284480001302651, 1416943480608000001302651, 15411319441560000001302651, 167100079008960000001302651, 1806555045009600000001302651, 19477997355168000000001302651, 209473988821200000000001302651, 2247380529696000000000001302651, 24057266865696000000000001302651, 256978338543360000000000001302651, 2739555652888800000000000001302651, 29150485155360000000000000001302651, 309626699997600000000000000001302651, 3283216132809600000000000000001302651, 34759009406376000000000000000001302651, 367432645006080000000000000000001302651, 3878497687680000000000000000000001302651, 40884196800960000000000000000000001302651, 430409745390960000000000000000000001302651, 4525536035721600000000000000000000001302651, 47527404521328000000000000000000000001302651, 498571572974400000000000000000000000001302651, 5224466895156000000000000000000000000001302651, 54689989749696000000000000000000000000001302651, 571931699578560000000000000000000000000001302651, 5975425984204800000000000000000000000000001302651, 62373309668280000000000000000000000000000001302651, 650503697025600000000000000000000000000000001302651, 6778549021089600000000000000000000000000000001302651, 70578721459296000000000000000000000000000000001302651, 734301137137680000000000000000000000000000000001302651, 7633971724032000000000000000000000000000000000001302651, 79307582304960000000000000000000000000000000000001302651, 823337591736960000000000000000000000000000000000001302651, 8541829811253600000000000000000000000000000000000001302651, 88561249387488000000000000000000000000000000000000001302651, 917626632645600000000000000000000000000000000000000001302651, 9502259000976000000000000000000000000000000000000000001302651, 98341079889096000000000000000000000000000000000000000001302651]
def qB3 : List Int := [1, 1, 1, 235, 2583, 28073, 317729, 3763721, 44188301, 516229605, 6043024773, 70770328173, 825502807773, 9576151087005, 110429891153325, 1265592496682925, 14415113333162925, 163206849996362925, 1837277041098026925, 20571500234126666925, 229170051582273866925, 2540941587465633866925, 28048863075009633866925, 308354774509056033866925, 3376938969396480033866925, 36850730495808000033866925, 400796305480560000033866925, 4345622054232960000033866925, 46980631170249600000033866925, 506529931234368000000033866925, 5447343709351200000000033866925, 58442093772096000000000033866925, 625590938508096000000000033866925, 6682456802127360000000000033866925, 71238646975108800000000000033866925, 758014614039360000000000000033866925, 8051314199937600000000000000033866925, 85373819453049600000000000000033866925, 903836244565776000000000000000033866925, 9554268770158080000000000000000033866925, 100851139879680000000000000000000033866925, 1063091116824960000000000000000000033866925, 11191673380164960000000000000000000033866925, 117674136928761600000000000000000000033866925, 1235814517554528000000000000000000000033866925, 12963880897334400000000000000000000000033866925, 135846339274056000000000000000000000000033866925, 1422041733492096000000000000000000000000033866925, 14871244189042560000000000000000000000000033866925, 155371275589324800000000000000000000000000033866925, 1621808051375280000000000000000000000000000033866925, 16914116122665600000000000000000000000000000033866925, 176252474548329600000000000000000000000000000033866925, 1835148757941696000000000000000000000000000000033866925, 19092849565579680000000000000000000000000000000033866925, 198493464824832000000000000000000000000000000000033866925, 2062099139928960000000000000000000000000000000000033866925, 21407797385160960000000000000000000000000000000000033866925, 222097775092593600000000000000000000000000000000000033866925, 2302694484074688000000000000000000000000000000000000033866925, 23859312448785600000000000000000000000000000000000000033866925]
def qPts : List Int := [0, 9, 99, 999, 12105, 144297, 1695627, 19815831, 232031799, 2718012699, 31826193435, 372649157307, 4363424526627, 51063770536227, 596823065145315, 6962099671833075, 81011329188477075, 939849311883237075, 10867354768799637075, 125209041057878613075, 1437233912685926133075, 16434869591099726133075, 187217170198187966133075, 2124611469656966366133075, 24021307667151167966133075, 270605527396079999966133075, 3037711848423071999966133075, 33984285233555759999966133075, 378953450823654239999966133075, 4212360188768788799999966133075, 46682371268797199999999966133075, 515849806072132799999999966133075, 5684476904670191999999999966133075, 62475087493274783999999999966133075, 684892986151894079999999999966133075, 7490077684294919999999999999966133075, 81722908369303439999999999999966133075, 889690911492472799999999999999966133075, 9665273490002174399999999999999966133075, 104787261101113727999999999999999966133075, 1133861029942559999999999999999999966133075, 12246270558342719999999999999999999966133075, 132030525634851839999999999999999999966133075, 1421030316770003039999999999999999999966133075, 15269370400058884799999999999999999999966133075, 163816034658579599999999999999999999999966133075, 1754835274661805599999999999999999999999966133075, 18770969800084559999999999999999999999999966133075, 200508073602274463999999999999999999999999966133075, 2138921933724127679999999999999999999999999966133075, 22787560817545199999999999999999999999999999966133075, 242471880637829519999999999999999999999999999966133075, 2576945851482285599999999999999999999999999999966133075, 27355730785757822399999999999999999999999999999966133075, 290073646679053487999999999999999999999999999999966133075, 3072572112880751999999999999999999999999999999999966133075, 32512162312231007999999999999999999999999999999999966133075, 343680515381670719999999999999999999999999999999999966133075, 3629475330283155839999999999999999999999999999999999966133075, 38293633278664900799999999999999999999999999999999999966133075, 403660583143321199999999999999999999999999999999999999966133075]
def qBN : List Int := [1, 1, 10, 334, 3582, 40178, 462026, 5459348, 64004132, 748261404, 8761037472, 102596521608, 1198151965080, 13939575613632, 161493661689552, 1862415561828240, 21377213004996000, 244218179184840000, 2777126352981264000, 31438855002926304000, 354379092640152480000, 3978175500151560000000, 44483732666109360000000, 495571944707244000000000, 5501550439053446400000000, 60872038162959168000000000, 671401832876640000000000000, 7383333902656032000000000000, 80964916403805360000000000000, 885483382058022240000000000000, 9659703898119988800000000000000, 105124465040893200000000000000000, 1141440744580228800000000000000000, 12366933706797552000000000000000000, 133713734468383584000000000000000000, 1442907600191254080000000000000000000, 15541391884232520000000000000000000000, 167096727822353040000000000000000000000, 1793527156058248800000000000000000000000, 19219542260160254400000000000000000000000, 205638400980793728000000000000000000000000, 2196952146767520000000000000000000000000000, 23437943938507680000000000000000000000000000, 249704662563613440000000000000000000000000000, 2656844834324531040000000000000000000000000000, 28233251297393284800000000000000000000000000000, 299662373932635600000000000000000000000000000000, 3176877008153901600000000000000000000000000000000, 33642213989127120000000000000000000000000000000000, 355879349191599264000000000000000000000000000000000, 3760729985099407680000000000000000000000000000000000, 39701676940210800000000000000000000000000000000000000, 418724355186159120000000000000000000000000000000000000, 4412094609423981600000000000000000000000000000000000000, 46448580351337502400000000000000000000000000000000000000, 488567111503885488000000000000000000000000000000000000000, 5134671252809712000000000000000000000000000000000000000000, 53919959697391968000000000000000000000000000000000000000000, 565778290474264320000000000000000000000000000000000000000000, 5932169814357843840000000000000000000000000000000000000000000, 62152945727450500800000000000000000000000000000000000000000000]
def qNum : List Int := [0, 9, 99, 1080, 13806, 80298, 1074582, 14004054, 159114672, 1844803908, 21566371716, 252930714408, 2961334518552, 34636340991240, 404476064075088, 4709710223476848, 54625155346502640, 630812793652790400, 7251529743964584000, 82975005064417536000, 945082345105970496000, 10716286114371437280000, 120986804518442812800000, 1360280267411098608000000, 15233453226212814720000000, 169954367875995441600000000, 1889356227212946528000000000, 20932642828069382880000000000, 231174958380946156800000000000, 2545294291928899632000000000000, 27943809923144871360000000000000, 305949269355631012800000000000000, 3341112827685306048000000000000000, 36397252501732637280000000000000000, 395581423993282339200000000000000000, 4289864499317476656000000000000000000, 46423611541215665280000000000000000000, 501378975358028740800000000000000000000, 5404636270369685088000000000000000000000, 58153871006066567520000000000000000000000, 624652906384895097600000000000000000000000, 6698549403095167728000000000000000000000000, 71719357847847583680000000000000000000000000, 766717629879802564800000000000000000000000000, 8184759458456123712000000000000000000000000000, 87251742005210580960000000000000000000000000000, 928890988519568572800000000000000000000000000000, 9876456296123714928000000000000000000000000000000, 104883036403897054080000000000000000000000000000000, 1112494254851906827200000000000000000000000000000000, 11786864074478066016000000000000000000000000000000000, 124745596956738125280000000000000000000000000000000000, 1318852131295427308800000000000000000000000000000000000, 13929241250608264368000000000000000000000000000000000000, 146972122563654544320000000000000000000000000000000000000, 1549292750139636273600000000000000000000000000000000000000, 16316880580312360128000000000000000000000000000000000000000, 171695655111656688480000000000000000000000000000000000000000, 1805147673544936252800000000000000000000000000000000000000000, 18963109118097366192000000000000000000000000000000000000000000, 199049579474844562560000000000000000000000000000000000000000000]
def qTwo : List Int := [0, 9, 333, 3654, 41886, 439254, 3162330, 41943186, 523220076, 5981785380, 69531273324, 813656379024, 9537533093160, 111631038473592, 1305020929847328, 15226087889429136, 177077621156900688, 2051066832661859040, 23652662378937134400, 271514778407496720000, 3102432476780826432000, 35288427087126670176000, 399610243492100182080000, 4505937184890611740800000, 50600740178901378528000000, 566024151757528624320000000, 6308169791988828009600000000, 70055904735605992608000000000, 775423671910750111680000000000, 8555843209833499708800000000000, 94121461513296261792000000000000, 1032488327357397668160000000000000, 11295793830931712380800000000000000, 123266186021550594528000000000000000, 1341909989038330908480000000000000000, 14574981523142817475200000000000000000, 157960088523470058336000000000000000000, 1708392875429636038080000000000000000000, 18440489629678432348800000000000000000000, 198674414035678379808000000000000000000000, 2136653552542625853120000000000000000000000, 22939524969102440265600000000000000000000000, 245881642328321944608000000000000000000000000, 2631420933923839740480000000000000000000000000, 28119417835330990396800000000000000000000000000, 300055487925069797472000000000000000000000000000, 3197436280655043677760000000000000000000000000000, 34027621997632497820800000000000000000000000000000, 361670900103113642208000000000000000000000000000000, 3839453201353230233280000000000000000000000000000000, 40711714700627643523200000000000000000000000000000000, 431204062893167841696000000000000000000000000000000000, 4562237652170618566080000000000000000000000000000000000, 48219396664289374396800000000000000000000000000000000000, 509132395079469417888000000000000000000000000000000000000, 5370567936794654425920000000000000000000000000000000000000, 56598492083942903241600000000000000000000000000000000000000, 595934550199778051808000000000000000000000000000000000000000, 6269234706448010153280000000000000000000000000000000000000000, 65896948630265708764800000000000000000000000000000000000000000, 692090416545376083552000000000000000000000000000000000000000000]
def qOne : List Int := [0, 9, 333, 9738, 108810, 1169334, 12495186, 96224634, 1249637508, 15448525884, 177092791596, 2060743820832, 24116400373176, 282612201413400, 3306883064388480, 38640254399507376, 450503440471660176, 5234830943732208288, 60579267393172919040, 697944226916783030400, 8004466583700885216000, 91379530510672924512000, 1038485908783736237376000, 11750146598205703342080000, 132387820033368719980800000, 1485573612527431283328000000, 16605984172908690760320000000, 184945057419778911129600000000, 2052628481506701964608000000000, 22706309761608402535680000000000, 250395733378815863788800000000000, 2753107268701333819392000000000000, 30185809338977645420160000000000000, 330087892105957159180800000000000000, 3600502260553597796928000000000000000, 39179524214314080276480000000000000000, 425373131142928919635200000000000000000, 4608341276968250257536000000000000000000, 49822851031540222078080000000000000000000, 537606601377705808588800000000000000000000, 5790187671312532972608000000000000000000000, 62251541769203439909120000000000000000000000, 668147007044511030585600000000000000000000000, 7159640330416173124608000000000000000000000000, 76601703740475956964480000000000000000000000000, 818356605723816331276800000000000000000000000000, 8730333674571383307072000000000000000000000000000, 93009799593154850549760000000000000000000000000000, 989601208342341997420800000000000000000000000000000, 10515937657532861524608000000000000000000000000000000, 111612647309662052081280000000000000000000000000000000, 1183250179173056856883200000000000000000000000000000000, 12530157766517791192896000000000000000000000000000000000, 132547420207044347086080000000000000000000000000000000000, 1400676435835178278636800000000000000000000000000000000000, 14786735022205841138688000000000000000000000000000000000000, 155951646936973375201920000000000000000000000000000000000000, 1643256449294172172761600000000000000000000000000000000000000, 17299445978739165599808000000000000000000000000000000000000000, 181963211485745630177280000000000000000000000000000000000000000, 1912370243861752990444800000000000000000000000000000000000000000]
def qLet : List Int := [0, 0, 234, 8658, 253188, 2829060, 30402684, 324874836, 2501840484, 32490575208, 401661672984, 4604412581496, 53579339341632, 627026409702576, 7347917236748400, 85978959674100480, 1004646614387191776, 11713089452263164576, 136105604537037415488, 1575060952222495895040, 18146549899836358790400, 208116131176223015616000, 2375867793277496037312000, 27000633628377142171776000, 305503811553348286894080000, 3442083320867586719500800000, 38624913925713213366528000000, 431755588495625959768320000000, 4808571492914251689369600000000, 53368340519174251079808000000000, 590364053801818465927680000000000, 6510289067849212458508800000000000, 71580788986234679304192000000000000, 784831042813418780924160000000000000, 8582285194754886138700800000000000000, 93613058774393542720128000000000000000, 1018667629572166087188480000000000000000, 11059701409716151910515200000000000000000, 119816873201174506695936000000000000000000, 1295394126820045774030080000000000000000000, 13977771635820351023308800000000000000000000, 150544879454125857287808000000000000000000000, 1618540085999289437637120000000000000000000000, 17371822183157286795225600000000000000000000000, 186150648590820501239808000000000000000000000000, 1991644297252374881076480000000000000000000000000, 21277271748819224613196800000000000000000000000000, 226988675538855965983872000000000000000000000000000, 2418254789422026114293760000000000000000000000000000, 25729631416900891932940800000000000000000000000000000, 273414379095854399639808000000000000000000000000000000, 2901928830051213354113280000000000000000000000000000000, 30764504658499478278963200000000000000000000000000000000, 325784101929462571015296000000000000000000000000000000000, 3446232925383153024238080000000000000000000000000000000000, 36417587331714635244556800000000000000000000000000000000000, 384455110577351869605888000000000000000000000000000000000000, 4054742820361307755249920000000000000000000000000000000000000, 42724667681648476491801600000000000000000000000000000000000000, 449785595447218305595008000000000000000000000000000000000000000, 4731043498629386384609280000000000000000000000000000000000000000]
def qMaker : List Int := [0, 0, 0, 234, 2340, 23400, 234000, 2340000, 23400000, 234000000, 2340000000, 23400000000, 234000000000, 2340000000000, 23400000000000, 234000000000000, 2340000000000000, 23400000000000000, 234000000000000000, 2340000000000000000, 23400000000000000000, 234000000000000000000, 2340000000000000000000, 23400000000000000000000, 234000000000000000000000, 2340000000000000000000000, 23400000000000000000000000, 234000000000000000000000000, 2340000000000000000000000000, 23400000000000000000000000000, 234000000000000000000000000000, 2340000000000000000000000000000, 23400000000000000000000000000000, 234000000000000000000000000000000, 2340000000000000000000000000000000, 23400000000000000000000000000000000, 234000000000000000000000000000000000, 2340000000000000000000000000000000000, 23400000000000000000000000000000000000, 234000000000000000000000000000000000000, 2340000000000000000000000000000000000000, 23400000000000000000000000000000000000000, 234000000000000000000000000000000000000000, 2340000000000000000000000000000000000000000, 23400000000000000000000000000000000000000000, 234000000000000000000000000000000000000000000, 2340000000000000000000000000000000000000000000, 23400000000000000000000000000000000000000000000, 234000000000000000000000000000000000000000000000, 2340000000000000000000000000000000000000000000000, 23400000000000000000000000000000000000000000000000, 234000000000000000000000000000000000000000000000000, 2340000000000000000000000000000000000000000000000000, 23400000000000000000000000000000000000000000000000000, 234000000000000000000000000000000000000000000000000000, 2340000000000000000000000000000000000000000000000000000, 23400000000000000000000000000000000000000000000000000000, 234000000000000000000000000000000000000000000000000000000, 2340000000000000000000000000000000000000000000000000000000, 23400000000000000000000000000000000000000000000000000000000, 234000000000000000000000000000000000000000000000000000000000]
def qMTwo : List Int := [0, 0, 0, 0, 0, 0, 54756, 1095120, 16426800, 219024000, 2737800000, 32853600000, 383292000000, 4380480000000, 49280400000000, 547560000000000, 6023160000000000, 65707200000000000, 711828000000000000, 7665840000000000000, 82134000000000000000, 876096000000000000000, 9308520000000000000000, 98560800000000000000000, 1040364000000000000000000, 10951200000000000000000000, 114987600000000000000000000, 1204632000000000000000000000, 12593880000000000000000000000, 131414400000000000000000000000, 1368900000000000000000000000000, 14236560000000000000000000000000, 147841200000000000000000000000000, 1533168000000000000000000000000000, 15879240000000000000000000000000000, 164268000000000000000000000000000000, 1697436000000000000000000000000000000, 17521920000000000000000000000000000000, 180694800000000000000000000000000000000, 1861704000000000000000000000000000000000, 19164600000000000000000000000000000000000, 197121600000000000000000000000000000000000, 2025972000000000000000000000000000000000000, 20807280000000000000000000000000000000000000, 213548400000000000000000000000000000000000000, 2190240000000000000000000000000000000000000000, 22449960000000000000000000000000000000000000000, 229975200000000000000000000000000000000000000000, 2354508000000000000000000000000000000000000000000, 24092640000000000000000000000000000000000000000000, 246402000000000000000000000000000000000000000000000, 2518776000000000000000000000000000000000000000000000, 25735320000000000000000000000000000000000000000000000, 262828800000000000000000000000000000000000000000000000, 2683044000000000000000000000000000000000000000000000000, 27378000000000000000000000000000000000000000000000000000, 279255600000000000000000000000000000000000000000000000000, 2847312000000000000000000000000000000000000000000000000000, 29020680000000000000000000000000000000000000000000000000000, 295682400000000000000000000000000000000000000000000000000000, 3011580000000000000000000000000000000000000000000000000000000]
def qThree : List Int := [0, 0, 0, 0, 0, 0, 0, 0, 0, 12812904, 384387120, 7687742400, 128129040000, 1921935600000, 26907098400000, 358761312000000, 4612645440000000, 57658068000000000, 704709720000000000, 8456516640000000000, 99940651200000000000, 1165974264000000000000, 13453549200000000000000, 153754848000000000000000, 1742554944000000000000000, 19603743120000000000000000, 219100658400000000000000000, 2434451760000000000000000000, 26907098400000000000000000000, 295978082400000000000000000000, 3241664712000000000000000000000, 35363615040000000000000000000000, 384387120000000000000000000000000, 4164193800000000000000000000000000, 44973293040000000000000000000000000, 484327771200000000000000000000000000, 5202039024000000000000000000000000000, 55736132400000000000000000000000000000, 595800036000000000000000000000000000000, 6355200384000000000000000000000000000000, 67652133120000000000000000000000000000000, 718803914400000000000000000000000000000000, 7623677880000000000000000000000000000000000, 80721295200000000000000000000000000000000000, 853339406400000000000000000000000000000000000, 9007471512000000000000000000000000000000000000, 94943618640000000000000000000000000000000000000, 999406512000000000000000000000000000000000000000, 10506581280000000000000000000000000000000000000000, 110319103440000000000000000000000000000000000000000, 1157005231200000000000000000000000000000000000000000, 12121007184000000000000000000000000000000000000000000, 126847749600000000000000000000000000000000000000000000, 1326135564000000000000000000000000000000000000000000000, 13850749224000000000000000000000000000000000000000000000, 144529557120000000000000000000000000000000000000000000000, 1506797510400000000000000000000000000000000000000000000000, 15695807400000000000000000000000000000000000000000000000000, 163364526000000000000000000000000000000000000000000000000000, 1698991070400000000000000000000000000000000000000000000000000, 17656181712000000000000000000000000000000000000000000000000000]
def qMakers : List Int := [0, 0, 0, 234, 2340, 23400, 288756, 3435120, 39826800, 465836904, 5462187120, 63941342400, 745421040000, 8642415600000, 99587498400000, 1140321312000000, 12975805440000000, 146765268000000000, 1650537720000000000, 18462356640000000000, 205474651200000000000, 2276070264000000000000, 25102069200000000000000, 275715648000000000000000, 3016918944000000000000000, 32894943120000000000000000, 357488258400000000000000000, 3873083760000000000000000000, 41840978400000000000000000000, 450792482400000000000000000000, 4844564712000000000000000000000, 51940175040000000000000000000000, 555628320000000000000000000000000, 5931361800000000000000000000000000, 63192533040000000000000000000000000, 671995771200000000000000000000000000, 7133475024000000000000000000000000000, 75598052400000000000000000000000000000, 799894836000000000000000000000000000000, 8450904384000000000000000000000000000000, 89156733120000000000000000000000000000000, 939325514400000000000000000000000000000000, 9883649880000000000000000000000000000000000, 103868575200000000000000000000000000000000000, 1090287806400000000000000000000000000000000000, 11431711512000000000000000000000000000000000000, 119733578640000000000000000000000000000000000000, 1252781712000000000000000000000000000000000000000, 13095089280000000000000000000000000000000000000000, 136751743440000000000000000000000000000000000000000, 1426807231200000000000000000000000000000000000000000, 14873783184000000000000000000000000000000000000000000, 154923069600000000000000000000000000000000000000000000, 1612364364000000000000000000000000000000000000000000000, 16767793224000000000000000000000000000000000000000000000, 174247557120000000000000000000000000000000000000000000000, 1809453110400000000000000000000000000000000000000000000000, 18777119400000000000000000000000000000000000000000000000000, 194725206000000000000000000000000000000000000000000000000000, 2018073470400000000000000000000000000000000000000000000000000, 20901761712000000000000000000000000000000000000000000000000000]
def qZ1 : List Int := [0, 0, 234, 8424, 242424, 2424240, 21902400, 158184000, 0, 0, 0, 0, 0, 0, 0, 0, 0, 0, 0, 0, 0, 0, 0, 0, 0, 0, 0, 0, 0, 0, 0, 0, 0, 0, 0, 0, 0, 0, 0, 0, 0, 0, 0, 0, 0, 0, 0, 0, 0, 0, 0, 0, 0, 0, 0, 0, 0, 0, 0, 0, 0]
def qZ2 : List Int := [0, 0, 234, 8424, 244530, 2521116, 25052976, 211507920, 730360800, 8727264000, 87272640000, 872726400000, 8727264000000, 87272640000000, 872726400000000, 8727264000000000, 87272640000000000, 872726400000000000, 8727264000000000000, 87272640000000000000, 872726400000000000000, 8727264000000000000000, 87272640000000000000000, 872726400000000000000000, 8727264000000000000000000, 87272640000000000000000000, 872726400000000000000000000, 8727264000000000000000000000, 87272640000000000000000000000, 872726400000000000000000000000, 8727264000000000000000000000000, 87272640000000000000000000000000, 872726400000000000000000000000000, 8727264000000000000000000000000000, 87272640000000000000000000000000000, 872726400000000000000000000000000000, 8727264000000000000000000000000000000, 87272640000000000000000000000000000000, 872726400000000000000000000000000000000, 8727264000000000000000000000000000000000, 87272640000000000000000000000000000000000, 872726400000000000000000000000000000000000, 8727264000000000000000000000000000000000000, 87272640000000000000000000000000000000000000, 872726400000000000000000000000000000000000000, 8727264000000000000000000000000000000000000000, 87272640000000000000000000000000000000000000000, 872726400000000000000000000000000000000000000000, 8727264000000000000000000000000000000000000000000, 87272640000000000000000000000000000000000000000000, 872726400000000000000000000000000000000000000000000, 8727264000000000000000000000000000000000000000000000, 87272640000000000000000000000000000000000000000000000, 872726400000000000000000000000000000000000000000000000, 8727264000000000000000000000000000000000000000000000000, 87272640000000000000000000000000000000000000000000000000, 872726400000000000000000000000000000000000000000000000000, 8727264000000000000000000000000000000000000000000000000000, 87272640000000000000000000000000000000000000000000000000000, 872726400000000000000000000000000000000000000000000000000000, 8727264000000000000000000000000000000000000000000000000000000]
def qZ3 : List Int := [0, 0, 234, 8424, 244530, 2575872, 27571752, 293915700, 2157192648, 29447372448, 363249998280, 4137283062432, 48263515777152, 567635657369040, 6643779226928064, 77685150458620224, 907766433723427200, 10580585143860576000, 122884596253224000000, 1421246994120120960000, 16363798251078470400000, 187536267145356480000000, 2139313749115420800000000, 24293512740515616000000000, 274659346222013376000000000, 3092158529579283840000000000, 34671646920871584000000000000, 387273016570190400000000000000, 4309973166381667200000000000000, 47800119100845945600000000000000, 528396461276883264000000000000000, 5822949490392528000000000000000000, 63980847589138272000000000000000000, 701048863429087680000000000000000000, 7661279332481823360000000000000000000, 83515750694448134400000000000000000000, 908249406113799360000000000000000000000, 9855154523519510400000000000000000000000, 106706746725475104000000000000000000000000, 1153017272418014016000000000000000000000000, 12434766894375546240000000000000000000000000, 133855753990918752000000000000000000000000000, 1438371645428727360000000000000000000000000000, 15430308275919888000000000000000000000000000000, 165264690799478649600000000000000000000000000000, 1767331708232935104000000000000000000000000000000, 18871970499022492800000000000000000000000000000000, 201235475459854368000000000000000000000000000000000, 2142916643917632960000000000000000000000000000000000, 22789945394553317760000000000000000000000000000000000, 242070026280745478400000000000000000000000000000000000, 2568145635569816640000000000000000000000000000000000000, 27214424793382320000000000000000000000000000000000000000, 288070261570851552000000000000000000000000000000000000000, 3046037866276481856000000000000000000000000000000000000000, 32175600526379456640000000000000000000000000000000000000000, 339538099638872160000000000000000000000000000000000000000000, 3579612519124624320000000000000000000000000000000000000000000, 37703664424414684800000000000000000000000000000000000000000000, 396775458793506873600000000000000000000000000000000000000000000, 4171888777201239744000000000000000000000000000000000000000000000]
def qZ4 : List Int := [0, 0, 234, 8424, 244530, 2575872, 27571752, 294383700, 2174040648, 29936432448, 368401742280, 4192426566432, 48851347177152, 571950042665040, 6702673971824064, 78411650455180224, 916040999848291200, 10677112175414880000, 124019867567962080000, 1434534552573977088000, 16519168551995710848000, 189351800012803334400000, 2160474919403141952000000, 24539281933022064000000000, 277501840210253617920000000, 3124886126081440780800000000, 35046719455162296960000000000, 391551644068421241600000000000, 4358560191862698432000000000000, 48349437793289972352000000000000, 534580778336041831680000000000000, 5892292784234271168000000000000000, 64755393622278652800000000000000000, 709668809761851014400000000000000000, 7756879570683515251200000000000000000, 84572543617001900928000000000000000000, 919895305094584416000000000000000000000, 9983116218697786944000000000000000000000, 108108844452333279360000000000000000000000, 1168339831082977662720000000000000000000000, 12601798395764442508800000000000000000000000, 135672252803146350720000000000000000000000000, 1458081954475766380800000000000000000000000000, 15643721769370838208000000000000000000000000000, 167570725344314677632000000000000000000000000000, 1792201242021686196480000000000000000000000000000, 19139682007004330304000000000000000000000000000000, 204112218750711822720000000000000000000000000000000, 2173777260469472736000000000000000000000000000000000, 23120474776152275059200000000000000000000000000000000, 245604689697211348608000000000000000000000000000000000, 2605889576567861625600000000000000000000000000000000000, 27616895744302028736000000000000000000000000000000000000, 292356094858686817920000000000000000000000000000000000000, 3091617757065588491520000000000000000000000000000000000000, 32659740578940947596800000000000000000000000000000000000000, 344674390910011793280000000000000000000000000000000000000000, 3634041368711388960000000000000000000000000000000000000000000, 38279804947556387904000000000000000000000000000000000000000000, 402867534526059837312000000000000000000000000000000000000000000, 4236239978253998657280000000000000000000000000000000000000000000]
def qSizes : List Int := [0, 0, 234, 8424, 244530, 2575872, 27573624, 294472152, 2176965648, 29988734724, 369171097776, 4202750908512, 48974926760136, 573447070360944, 6720890827045824, 78631042437352080, 918667654713091296, 10708442837875972800, 124392515084774250912, 1438955347685458479552, 16571488947613862895360, 189969581276386656825600, 2167751662101273021696000, 24624765835099646134464000, 278503177924971144722304000, 3136579509314238432606720000, 35182830604845626647027200000, 393130674569912746401792000000, 4376815904418625729601280000000, 48559769026259999390438400000000, 536995713282644214847872000000000, 5919925014047393992581120000000000, 65070499918385466845683200000000000, 713250253827184101619968000000000000, 7797454151941467357776640000000000000, 85030773579638656581427200000000000000, 925054570797772544468352000000000000000, 10041033780143985823326720000000000000000, 108757171791458354785420800000000000000000, 1175577253618871267334144000000000000000000, 12682377509000305249278720000000000000000000, 136567107818305506264499200000000000000000000, 1467995206545163580349312000000000000000000000, 15753282097157997357588480000000000000000000000, 168778826407663214444582400000000000000000000000, 1805493648661554379836672000000000000000000000000, 19285627451566849732120320000000000000000000000000, 205711403790036741370675200000000000000000000000000, 2191266113883170148309888000000000000000000000000000, 23311376627478865818647040000000000000000000000000000, 247684747678953507706867200000000000000000000000000000, 2628514450955358954473472000000000000000000000000000000, 27862575828448264924849920000000000000000000000000000000, 295019597270963092736332800000000000000000000000000000000, 3120448823453690453222784000000000000000000000000000000000, 32971354406331482220318720000000000000000000000000000000000, 348037523245637234361331200000000000000000000000000000000000, 3670287709783955885644032000000000000000000000000000000000000, 38669924861287168736551680000000000000000000000000000000000000, 407060927765569829103206400000000000000000000000000000000000000, 4281257903182168079014272000000000000000000000000000000000000000]

theorem zMaker_e : zMaker = qMaker := by decide +kernel
theorem zTwo_e : zTwo = qMTwo := by unfold zTwo; rw [zMaker_e, behind_conv]; decide +kernel
theorem zThree_e : zThree = qThree := by unfold zThree; rw [zMaker_e, zTwo_e, behind_conv]; decide +kernel
theorem zMakers_e : zMakers = qMakers := by unfold zMakers; rw [zMaker_e, zTwo_e, zThree_e]; decide +kernel
theorem z1_e : z1 = qZ1 := by unfold z1; rw [behind_conv]; decide +kernel
theorem z2_e : z2 = qZ2 := by unfold z2; rw [z1_e, behind_conv]; decide +kernel
theorem z3_e : z3 = qZ3 := by unfold z3; rw [z2_e, zMakers_e, behind_conv]; decide +kernel
theorem z4_e : z4 = qZ4 := by unfold z4; rw [z3_e, behind_conv]; decide +kernel
theorem zSizes_e : zSizes = qSizes := by unfold zSizes; rw [z4_e, behind_conv]; decide +kernel
/-! the tables of a smaller bound begin those of 60 -/
theorem ext0 {xs ys : List Int} (hl : xs.length = ys.length) (h : ∀ k, k < xs.length → xs.getD k 0 = ys.getD k 0) : xs = ys := by
  refine List.ext_getElem hl fun k h1 h2 => ?_
  have q := h k h1
  rw [List.getD_eq_getElem?_getD, List.getElem?_eq_getElem h1, List.getD_eq_getElem?_getD, List.getElem?_eq_getElem h2] at q
  exact q
theorem take_get {xs : List Int} {k l : Nat} (h : l < k) : (xs.take k).getD l 0 = xs.getD l 0 := by
  rw [List.getD_eq_getElem?_getD, List.getElem?_take_of_lt h, ← List.getD_eq_getElem?_getD]
theorem take_cnt {xs : List Int} {k : Nat} {l : Int} (h : l < k) : cnt (xs.take k) l = cnt xs l := by
  unfold cnt
  by_cases h0 : 0 ≤ l
  · rw [if_pos h0, if_pos h0, take_get (by omega)]
  · rw [if_neg h0, if_neg h0]
theorem wmore_get {e : List Int} {c : Int} {m : List Int} {s : Int} {l : Nat} (h : l < e.length) : (wmore e c m s).getD l 0 = e.getD l 0 + c * cnt m ((l : Int) - s) := by
  unfold wmore
  rw [List.getD_eq_getElem?_getD, List.getElem?_map, List.getElem?_range h]
  rfl
theorem wmore_take {e m : List Int} {c s : Int} {k : Nat} (hk : k ≤ e.length) (hs : 0 ≤ s) : wmore (e.take k) c (m.take k) s = (wmore e c m s).take k := by
  have l1 : (e.take k).length = k := by rw [List.length_take]; omega
  refine ext0 (by rw [wmore_len, List.length_take, List.length_take, wmore_len]) fun l hl => ?_
  rw [wmore_len, l1] at hl
  rw [wmore_get (by omega), take_get hl, take_get hl, take_cnt (by omega), wmore_get (by omega)]
theorem figs_pre (r : List Int) : ∀ (n d : Nat), figs r n = (figs r (n + d)).take n
  | n, 0 => by rw [Nat.add_zero, List.take_of_length_le (by rw [figs_len]; omega)]
  | n, d + 1 => by
    rw [figs_pre r n d]
    show _ = (figs r (n + d) ++ [_]).take n
    rw [List.take_append_of_le_length (by rw [figs_len]; omega)]
theorem figs_rest {r : List Int} {k : Nat} : ∀ j, j ≤ k → figs (r.take k) j = figs r j
  | 0, _ => rfl
  | j + 1, h => by
    show figs (r.take k) j ++ [9 * cnt (r.take k) ((j : Int) - 1) + 10 * cnt (figs (r.take k) j) ((j : Int) - 1)] = figs r j ++ [_]
    rw [figs_rest j (by omega), take_cnt (by omega)]
theorem figs_take {r : List Int} {k m : Nat} (h : k ≤ m) : figs (r.take k) k = (figs r m).take k := by
  rw [figs_rest k (Nat.le_refl _)]
  have := figs_pre r k (m - k)
  rw [show k + (m - k) = m by omega] at this
  exact this
theorem tYear_pre {n : Nat} (h : n ≤ 60) : tYear n = (tYear 60).take (n + 1) := by
  unfold tYear copies
  rw [← List.map_take]
  congr 1
  rw [List.take_range]
  congr 1
  omega
theorem tYears_pre {n : Nat} (h : n ≤ 60) : tYears n = (tYears 60).take (n + 1) := by
  unfold tYears
  rw [tYear_pre h, wmore_take (by rw [tYear_len]; omega) (by decide)]
theorem tBM_pre {n : Nat} (h : n ≤ 60) : ∀ i, (tBM n i).headD [] = ((tBM 60 i).headD []).take (n + 1)
  | 0 => tYears_pre h
  | i + 1 => by
    show wmore (tYears n) 26 (figs ((tBM n i).headD []) (n + 1)) 2 = (wmore (tYears 60) 26 (figs ((tBM 60 i).headD []) 61) 2).take (n + 1)
    rw [tBM_pre h i, figs_take (m := 61) (by omega), tYears_pre h, wmore_take (by rw [tYears_len]; omega) (by decide)]
theorem tPts_pre {n : Nat} (h : n ≤ 60) : tPts n = (tPts 60).take (n + 1) := by
  unfold tPts
  rw [tBM_pre h 3, figs_take (m := 61) (by omega)]
theorem tBN_pre {n : Nat} (h : n ≤ 60) : tBN n = (tBN 60).take (n + 1) := by
  unfold tBN
  rw [tBM_pre h 3, tPts_pre h, wmore_take (by rw [tBM_len]; omega) (by decide)]
theorem nums_take {b : List Int} {k : Nat} {l : Int} (h : l < k) : nums (b.take k) l = nums b l := by
  unfold nums
  refine List.map_congr_left fun m _ => ?_
  rw [take_cnt (by omega)]
theorem tNum_pre {n : Nat} (h : n ≤ 60) : tNum n = (tNum 60).take (n + 1) := by
  unfold tNum
  rw [← List.map_take, List.take_range, show min (n + 1) (60 + 1) = n + 1 by omega]
  refine List.map_congr_left fun l hl => ?_
  rw [List.mem_range] at hl
  rw [tBN_pre h, nums_take (by omega)]
theorem tTwo_pre {n : Nat} (h : n ≤ 60) : tTwo n = (tTwo 60).take (n + 1) := by
  unfold tTwo
  rw [tNum_pre h, wmore_take (by rw [tNum_len]; omega) (by decide)]
theorem tOne_pre {n : Nat} (h : n ≤ 60) : tOne n = (tOne 60).take (n + 1) := by
  unfold tOne
  rw [tNum_pre h, tTwo_pre h, wmore_take (by rw [tNum_len]; omega) (by decide)]
theorem tTot_pre {n : Nat} (h : n ≤ 60) : tTot n = (tLet 60).getD n 0 := by
  unfold tTot tLet
  rw [tOne_pre h, show List.replicate (n + 1) (0 : Int) = (List.replicate (60 + 1) 0).take (n + 1) by rw [List.take_replicate, show min (n + 1) (60 + 1) = n + 1 by omega], wmore_take (by rw [List.length_replicate]; omega) (by decide), take_get (by omega)]
theorem y_e : tYear 60 = qYear := by decide +kernel
theorem ys_e : tYears 60 = qYears := by unfold tYears; rw [y_e]; decide +kernel
theorem figs_by {r t : List Int} (n : Nat) (hl : t.length = n) (h : ((List.range n).all fun i => decide (t.getD i 0 = 9 * cnt r ((i : Int) - 1) + 10 * cnt t ((i : Int) - 1))) = true) : figs r n = t := by
  have key : ∀ j, j ≤ n → figs r j = t.take j := fun j => by
    induction j with
    | zero => intro _; rfl
    | succ j ih =>
      intro hj
      have q := of_decide_eq_true (List.all_eq_true.mp h j (List.mem_range.mpr (by omega)))
      show figs r j ++ [9 * cnt r ((j : Int) - 1) + 10 * cnt (figs r j) ((j : Int) - 1)] = t.take (j + 1)
      rw [ih (by omega), take_cnt (by omega), ← q, List.take_add_one, List.getD_eq_getElem?_getD, List.getElem?_eq_getElem (by omega)]
      rfl
  rw [key n (Nat.le_refl _), List.take_of_length_le (by omega)]
theorem b0_e : (tBM 60 0).headD [] = qYears := ys_e
theorem b1_e : (tBM 60 1).headD [] = qB1 := by
  show wmore (tYears 60) 26 (figs ((tBM 60 0).headD []) 61) 2 = _
  rw [b0_e, ys_e, figs_by (t := qM0) 61 (by decide +kernel) (by decide +kernel)]
  decide +kernel
theorem b2_e : (tBM 60 2).headD [] = qB2 := by
  show wmore (tYears 60) 26 (figs ((tBM 60 1).headD []) 61) 2 = _
  rw [b1_e, ys_e, figs_by (t := qM1) 61 (by decide +kernel) (by decide +kernel)]
  decide +kernel
theorem b3_e : (tBM 60 3).headD [] = qB3 := by
  show wmore (tYears 60) 26 (figs ((tBM 60 2).headD []) 61) 2 = _
  rw [b2_e, ys_e, figs_by (t := qM2) 61 (by decide +kernel) (by decide +kernel)]
  decide +kernel
theorem pts_e : tPts 60 = qPts := by
  unfold tPts
  rw [b3_e, figs_by (t := qPts) (60 + 1) (by decide +kernel) (by decide +kernel)]
theorem bn_e : tBN 60 = qBN := by unfold tBN; rw [b3_e, pts_e]; decide +kernel
theorem num_e : tNum 60 = qNum := by unfold tNum; rw [bn_e]; decide +kernel
theorem two_e : tTwo 60 = qTwo := by unfold tTwo; rw [num_e]; decide +kernel
theorem one_e : tOne 60 = qOne := by unfold tOne; rw [num_e, two_e]; decide +kernel
theorem let_e : tLet 60 = qLet := by unfold tLet; rw [one_e]; decide +kernel
theorem chkq : ((List.range 61).all fun n => decide (qLet.getD n 0 = (qSizes.take (n + 1)).sum) && decide (qLet.getD n 0 - (if 0 < n then qLet.getD (n - 1) 0 else 0) = qSizes.getD n 0)) = true := by decide +kernel
theorem chk {n : Nat} (h : n ≤ 60) : tTot n = (zSizes.take (n + 1)).sum ∧ wsg n = zSizes.getD n 0 := by
  have q := List.all_eq_true.mp chkq n (List.mem_range.mpr (by omega))
  rw [Bool.and_eq_true] at q
  unfold wsg
  rw [tTot_pre h, tTot_pre (n := n - 1) (by omega), let_e, zSizes_e]
  exact ⟨of_decide_eq_true q.1, of_decide_eq_true q.2⟩
theorem sm1 : smb zMaker = true := by rw [zMaker_e]; decide +kernel
theorem sm2 : smb zTwo = true := by rw [zTwo_e]; decide +kernel
theorem sm3 : smb (tlong [0, 26, 676, 17576]) = true := by decide +kernel
theorem sm4 : smb (tlong [0, 9, 90, 900, 9000]) = true := by decide +kernel
theorem sm5 : smb z1 = true := by rw [z1_e]; decide +kernel
theorem sm6 : smb (tlong ([1, 0] ++ (tens 60).map (9 * ·))) = true := by decide +kernel
theorem sm7 : smb z2 = true := by rw [z2_e]; decide +kernel
theorem sm8 : smb ([1] ++ zMakers.drop 1) = true := by rw [zMakers_e]; decide +kernel
theorem sm9 : smb z3 = true := by rw [z3_e]; decide +kernel
theorem smA : smb (tlong [1, 0, 0, 0, 0, 2000]) = true := by decide +kernel
theorem smB : smb z4 = true := by rw [z4_e]; decide +kernel
theorem smC : smb (tlong ([1, 0, 0, 0, 8] ++ (tens 60).map (90 * ·))) = true := by decide +kernel
theorem tens_succ (n : Nat) : tens (n + 1) = tens n ++ [(10 : Int) ^ n] := by
  unfold tens
  rw [List.range_succ, List.map_append]
  rfl
theorem tens_len (n : Nat) : (tens n).length = n := by unfold tens; rw [List.length_map, List.length_range]
theorem el_mul {p : Addr} {ns : List Int} {c : Int} {H : Hp} {s1 s2 s3 s4 s5 s6 s7 s8 s9 s10 : Option V} (hp : SqL K H p (ii ns)) (hz : ns.length ≤ 1000) (hc : -(2 ^ 64) < c ∧ c < 2 ^ 64) :
    EvL (tLc (iList K (tVar 0)) (gName 3) tYes (tOp (rI CMul fun i j => .int (i * j)) (tC (.int c)) (tVar 3)) [3]) [some (.ref p), s1, s2, s3, s4, s5, s6, s7, s8, s9, s10] H (ii (ns.map (c * ·))) := fun H1 e Q q =>
  el_lcL (K := K) (xs := ii ns) (fun _ => true) (fun i => .int (c * ns.getD i 0)) (ev_var rfl) hp (by rw [ii_len]; omega) (fun x => rfl) (fun i x H2 e2 hx => et_yes)
    (fun i x H2 e2 hx _ => by
      obtain ⟨z, hz, rfl⟩ := ii_of hx
      have e0 : ns.getD i 0 = z := by rw [List.getD_eq_getElem?_getD, hz]; rfl
      rw [e0]
      exact ev_op ev_c (ev_var rfl) (rv_I (.inl hc))) H1 e Q fun r H2 hr e2 h2 => q r H2 hr e2 (by
      rw [h2, given_all, ii_len]
      congr 2
      refine List.ext_getElem? fun k => ?_
      show _ = (List.map V.int (ns.map (c * ·)))[k]?
      rw [List.getElem?_map, List.getElem?_map, List.getElem?_map]
      by_cases hk : k < ns.length
      · rw [List.getElem?_range hk]
        show some (V.int (c * ns.getD k 0)) = _
        rw [List.getD_eq_getElem?_getD, List.getElem?_eq_getElem hk]
        rfl
      · rw [List.getElem?_eq_none (by rw [List.length_range]; omega), List.getElem?_eq_none (by omega)]
        rfl)
theorem cut_drop (xs : List V) : cutV xs (some 1) none = xs.drop 1 := by
  unfold cutV
  rw [show HT.sIx xs.length 0 (some 1) = min 1 xs.length from HT.sIx_nat xs.length 0 1, HT.sIx_none]
  cases xs with
  | nil => rfl
  | cons x r =>
    rw [show min 1 (x :: r).length = 1 by rw [List.length_cons]; omega]
    show (List.take ((x :: r).length - 1) r) = r
    rw [List.length_cons, Nat.add_sub_cancel]
    exact List.take_length
theorem ok_l_sizes (T : Txt K mg Z) : FnOk P w K mg base CX0 2 Z.a_l_sizes Z.d_l_sizes [] (fun vs H Q _ => vs = [] ∧ RetL (ii zSizes) H Q) := by
  refine T.F_l_sizes.ok sc_l_sizes (fun vs H Q E h => ?_) (fun cdv A outer' s H vs Q E hr h => ?_)
  · obtain ⟨rfl, _⟩ := h; rfl
  · obtain ⟨rfl, k⟩ := h
    refine ⟨_, (pss_cons (ps_set (i := 0) sc_l_sizes.nd rfl (.inl rfl) (pe_lst (pa_cons pe_int pa_nil)))
      (pss_cons (ps_for PassesOwn.never rfl (pi_range1 rfl T.n_range (pa_cons pe_int pa_nil)) (pg_name (i := 1) sc_l_sizes.nd rfl (.inl rfl)) (pss_one (ps_expr (bmK K PySem.F.plainAttrs_list PySem.F.slot_list_append PySem.F.type_list_append mt_append (pv 0) (pa_cons (pe_op op_mul pe_int (pe_ix (ixL K) (pv 0) (pe_un un_neg pe_int) (fun _ _ => rfl))) pa_nil)))))
      (pss_cons (ps_set (i := 2) sc_l_sizes.nd rfl (.inl rfl) (pe_op op_cat (pe_lst (pa_cons pe_int (pa_cons pe_int pa_nil))) (pe_lc (own := [("_law_ten", 3)]) (g := gName 3) (tt := tYes) rfl sc_l_sizes.nd (pi_list (pv 0)) (blkOk_by (own := [("_law_ten", 3)]) (N := ["_law_tens", "_law_k", "_law_points", "_law_ten", "_law_maker", "_law_two", "_law_makers", "_law_one", "_law_other", "_law_third", "_law_found"]) (sc := defScope s_l_sizes) (by decide +kernel)) (fun _ _ _ _ _ => (pg_name (i := 3) sc_l_sizes.nd rfl (.inl rfl))) (fun _ _ _ _ _ => pts_nil) (fun _ _ _ _ _ => (pe_op op_mul pe_int (pv 3))))))
      (pss_cons (ps_set (i := 4) sc_l_sizes.nd rfl (.inl rfl) (pe_call (ok_l_long T) (hr.mono (by decide)) rfl T.g_l_long T.F_l_long.kp T.b_l_long .nil pass0 (pa_cons (pe_op op_cat (pe_lst (pa_cons pe_int (pa_cons pe_int (pa_cons pe_int pa_nil)))) (pe_lc (own := [("_law_ten", 3)]) (g := gName 3) (tt := tYes) rfl sc_l_sizes.nd (pi_list (pv 0)) (blkOk_by (own := [("_law_ten", 3)]) (N := ["_law_tens", "_law_k", "_law_points", "_law_ten", "_law_maker", "_law_two", "_law_makers", "_law_one", "_law_other", "_law_third", "_law_found"]) (sc := defScope s_l_sizes) (by decide +kernel)) (fun _ _ _ _ _ => (pg_name (i := 3) sc_l_sizes.nd rfl (.inl rfl))) (fun _ _ _ _ _ => pts_nil) (fun _ _ _ _ _ => (pe_op op_mul pe_int (pv 3))))) pa_nil)))
      (pss_cons (ps_set (i := 5) sc_l_sizes.nd rfl (.inl rfl) (pe_call (ok_l_behind T) (hr.mono (by decide)) rfl T.g_l_behind T.F_l_behind.kp T.b_l_behind .nil pass0 (pa_cons (pv 4) (pa_cons (pv 4) pa_nil))))
      (pss_cons (ps_setLc (i := 6) (own := [("_law_one", 7), ("_law_other", 8), ("_law_third", 9)]) (g := (gTup K 3 (gCons (gName 7) (gCons (gName 8) (gCons (gName 9) gNil))))) (tt := tYes) rfl sc_l_sizes.nd rfl rfl (sw_true rfl rfl rfl (by decide +kernel)) (pi_zip3 (by rfl) T.n_zip (pa_cons (pv 4) (pa_cons (pv 5) (pa_cons (pe_call (ok_l_behind T) (hr.mono (by decide)) rfl T.g_l_behind T.F_l_behind.kp T.b_l_behind .nil pass0 (pa_cons (pv 5) (pa_cons (pv 4) pa_nil))) pa_nil)))) (blkOk_by (own := [("_law_one", 7), ("_law_other", 8), ("_law_third", 9)]) (N := ["_law_tens", "_law_k", "_law_points", "_law_ten", "_law_maker", "_law_two", "_law_makers", "_law_one", "_law_other", "_law_third", "_law_found"]) (sc := defScope s_l_sizes) (by decide +kernel)) (fun _ _ _ _ _ => (pg_tup rfl (pgs_cons (pg_name (i := 7) sc_l_sizes.nd rfl (.inl rfl)) (pgs_cons (pg_name (i := 8) sc_l_sizes.nd rfl (.inl rfl)) (pgs_cons (pg_name (i := 9) sc_l_sizes.nd rfl (.inl rfl)) pgs_nil))))) (fun _ _ _ _ _ => pts_nil) (fun _ _ _ _ _ => (pe_op op_add (pe_op op_add (pv 7) (pv 8)) (pv 9))))
      (pss_cons (ps_set (i := 10) sc_l_sizes.nd rfl (.inl rfl) (pe_call (ok_l_behind T) (hr.mono (by decide)) rfl T.g_l_behind T.F_l_behind.kp T.b_l_behind .nil pass0 (pa_cons (pe_call (ok_l_long T) (hr.mono (by decide)) rfl T.g_l_long T.F_l_long.kp T.b_l_long .nil pass0 (pa_cons (pe_lst (pa_cons pe_int (pa_cons pe_int (pa_cons pe_int (pa_cons pe_int pa_nil))))) pa_nil)) (pa_cons (pe_call (ok_l_long T) (hr.mono (by decide)) rfl T.g_l_long T.F_l_long.kp T.b_l_long .nil pass0 (pa_cons (pe_lst (pa_cons pe_int (pa_cons pe_int (pa_cons pe_int (pa_cons pe_int (pa_cons pe_int pa_nil)))))) pa_nil)) pa_nil))))
      (pss_cons (ps_set (i := 10) sc_l_sizes.nd rfl (.inl rfl) (pe_call (ok_l_behind T) (hr.mono (by decide)) rfl T.g_l_behind T.F_l_behind.kp T.b_l_behind .nil pass0 (pa_cons (pe_call (ok_l_long T) (hr.mono (by decide)) rfl T.g_l_long T.F_l_long.kp T.b_l_long .nil pass0 (pa_cons (pv 2) pa_nil)) (pa_cons (pv 10) pa_nil))))
      (pss_cons (ps_set (i := 10) sc_l_sizes.nd rfl (.inl rfl) (pe_call (ok_l_behind T) (hr.mono (by decide)) rfl T.g_l_behind T.F_l_behind.kp T.b_l_behind .nil pass0 (pa_cons (pe_op op_cat (pe_lst (pa_cons pe_int pa_nil)) (pe_slice (slL K) (pv 6) (po_some pe_int) po_none)) (pa_cons (pv 10) pa_nil))))
      (pss_cons (ps_set (i := 10) sc_l_sizes.nd rfl (.inl rfl) (pe_call (ok_l_behind T) (hr.mono (by decide)) rfl T.g_l_behind T.F_l_behind.kp T.b_l_behind .nil pass0 (pa_cons (pe_call (ok_l_long T) (hr.mono (by decide)) rfl T.g_l_long T.F_l_long.kp T.b_l_long .nil pass0 (pa_cons (pe_lst (pa_cons pe_int (pa_cons pe_int (pa_cons pe_int (pa_cons pe_int (pa_cons pe_int (pa_cons pe_int pa_nil))))))) pa_nil)) (pa_cons (pv 10) pa_nil))))
      (pss_one (ps_ret (pe_call (ok_l_behind T) (hr.mono (by decide)) rfl T.g_l_behind T.F_l_behind.kp T.b_l_behind .nil pass0 (pa_cons (pe_call (ok_l_long T) (hr.mono (by decide)) rfl T.g_l_long T.F_l_long.kp T.b_l_long .nil pass0 (pa_cons (pe_op op_cat (pe_lst (pa_cons pe_int (pa_cons pe_int (pa_cons pe_int (pa_cons pe_int (pa_cons pe_int pa_nil)))))) (pe_lc (own := [("_law_ten", 3)]) (g := gName 3) (tt := tYes) rfl sc_l_sizes.nd (pi_list (pv 0)) (blkOk_by (own := [("_law_ten", 3)]) (N := ["_law_tens", "_law_k", "_law_points", "_law_ten", "_law_maker", "_law_two", "_law_makers", "_law_one", "_law_other", "_law_third", "_law_found"]) (sc := defScope s_l_sizes) (by decide +kernel)) (fun _ _ _ _ _ => (pg_name (i := 3) sc_l_sizes.nd rfl (.inl rfl))) (fun _ _ _ _ _ => pts_nil) (fun _ _ _ _ _ => (pe_op op_mul pe_int (pv 3))))) pa_nil)) (pa_cons (pv 10) pa_nil))))))))))))))), ?_⟩
    refine q_asgL (el_lst (ea_cons ev_c ea_nil) (by simp)) fun p H1 hp e1 h1 => ?_
    refine q_forR1 (n := 59) (ea_cons ev_c ea_nil) ⟨by decide, by decide⟩
      (fun i σ H' => ∃ s1, σ = [some (.ref p), s1, none, none, none, none, none, none, none, none, none] ∧ Ex H H' ∧ H' p = some (.lst (ii (tens (i + 1))))) (fun H2 e2 => ⟨none, rfl, e1.trans e2, e2 _ _ h1⟩) ?_ ?_
    · rintro i σ H' hi ⟨s1, rfl, e, hP⟩
      have el : atI (ii (tens (i + 1))) (-1) = some (.int ((10 : Int) ^ i)) := by
        have : ii (tens (i + 1)) = ii (tens i) ++ [.int ((10 : Int) ^ i)] := by
          rw [tens_succ]
          show List.map V.int _ = _
          rw [List.map_append]
          rfl
        rw [this]
        exact atI_last _ _
      refine s_app hP (ev_var rfl) (v := .int (10 * 10 ^ i)) (ev_op ev_c (ev_op (ev_var rfl) (ev_un ev_c ru_neg) (rv_ixL (i := -1) (sq_of hP) el)) (rv_I (.inl ⟨by decide, by decide⟩))) (by rw [ii_len, tens_len]; omega) fun H5 e5 => ?_
      refine ⟨_, rfl, Ex.mut (e.trans e5) hp, ?_⟩
      rw [upd_same]
      congr 2
      show _ = ii (tens (i + 1 + 1))
      rw [tens_succ (i + 1)]
      show _ = List.map V.int _
      rw [List.map_append, Int.pow_succ, Int.mul_comm]
      rfl
    · rintro σ H2 ⟨s1, rfl, e2, hP⟩
      rw [show (59 : Int).toNat + 1 = 60 from rfl] at hP
      refine q_asgL (xs := ii ([1, 0] ++ (tens 60).map (9 * ·))) (el_cat (xs := [.int 1, .int 0]) (el_lst (ea_cons ev_c (ea_cons ev_c ea_nil)) (by simp)) (fun H3 e3 => el_mul (ex_l e3 (sq_of hP)) (by rw [tens_len]; decide) ⟨by decide, by decide⟩) (by rw [ii_len, List.length_map, tens_len]; decide)) fun ap H3 hap e3 h3 => ?_
      refine q_asgL (xs := ii zMaker) (el_callL (xs := ii ([0, 0, 0] ++ (tens 60).map (234 * ·))) (el_cat (xs := [.int 0, .int 0, .int 0]) (el_lst (ea_cons ev_c (ea_cons ev_c (ea_cons ev_c ea_nil))) (by simp)) (fun H4 e4 => el_mul (ex_l (e3.trans e4) (sq_of hP)) (by rw [tens_len]; decide) ⟨by decide, by decide⟩) (by rw [ii_len, List.length_map, tens_len]; decide)) ea_nil
        (fun q H4 e4 h4 => sp_long h4 (by rw [List.length_append, List.length_map, tens_len]; decide))) fun am H4 ham e4 h4 => ?_
      refine q_asgL (xs := ii zTwo) (el_call (ea_cons (ev_var rfl) (ea_cons (ev_var rfl) ea_nil)) (sp_behind (sq_of h4) (sq_of h4) sm1 sm1)) fun at' H5 hat e5 h5 => ?_
      have h45 := e5 _ _ h4
      refine q_asgL (xs := ii zMakers) (fun H6 e6 Q' q' => ?_) fun az H6 haz e6 h6 => ?_
      · refine ⟨_, rfl, _, rfl, el_call (ea_cons (ev_var rfl) (ea_cons (ev_var rfl) ea_nil)) (sp_behind (sq_of (e6 _ _ h5)) (sq_of (e6 _ _ h45)) sm2 sm1) H6 (Ex.refl _) _ fun r H7 hr7 e7 h7 => ?_⟩
        have k4 := e7 _ _ (e6 _ _ h45)
        have k5 := e7 _ _ (e6 _ _ h5)
        refine ⟨am, at', r, _, _, _, rfl, sq_of k4, sq_of k5, sq_of h7, fun D hD => lc_it (walk_zip3 (K := K) (a := am) (b := at') (c := r) (n := 61) (by rw [ii_len, zMaker_e]; rfl) (by rw [ii_len, zTwo_e]; rfl) (by rw [ii_len]; exact behind_len _ _))
          (fun i H' => Ex H7 H' ∧ H' D = some (.lst (ii (zMakers.take i)))) ⟨Ex.new hD, upd_same⟩ (fun i H' _ h => ⟨sq_of (h.1 _ _ k4), sq_of (h.1 _ _ k5), sq_of (h.1 _ _ h7)⟩) ?_ ?_⟩
        · rintro i x H8 H9 hi ⟨e8, h8⟩ ⟨T', x1, x2, x3, rfl, hT, rfl, f1, f2, f3⟩
          have g1 := (ii_get (xs := zMaker) (j := i) (by rw [zMaker_e]; exact hi)).symm.trans f1
          have g2 := (ii_get (xs := zTwo) (j := i) (by rw [zTwo_e]; exact hi)).symm.trans f2
          have g3 := (ii_get (xs := zThree) (j := i) (by rw [zThree_e]; exact hi)).symm.trans f3
          cases g1
          cases g2
          cases g3
          refine ⟨T', _, rfl, .inl (.inl upd_same), rfl, _, _, rfl, _, _, rfl, _, _, rfl, rfl, rfl, ?_⟩
          dsimp only [tYes]
          rw [if_pos rfl]
          have hl : (ii (zMakers.take i)).length < 100000 := by rw [ii_len, List.length_take]; omega
          refine ⟨_, rfl, _, rfl, _, _, rfl, rfl, _, rfl, _, _, rfl, rfl, ii (zMakers.take i), ?_, sz_lt hl, ?_, ?_⟩
          · rw [upd_ne (ne_of_none h8 hT)]; exact h8
          · exact Ex.mut (e8.trans (Ex.new hT)) hD
          · rw [upd_same]
            congr 2
            show _ = List.map V.int (zMakers.take (i + 1))
            have hm : zMakers[i]? = some (zMaker.getD i 0 + zTwo.getD i 0 + zThree.getD i 0) := by
              unfold zMakers
              rw [List.getElem?_map, List.getElem?_range hi]
              rfl
            rw [List.take_add_one, hm, List.map_append]
            rfl
        · rintro H8 ⟨e8, h8⟩
          rw [List.take_of_length_le (show zMakers.length ≤ 61 by unfold zMakers; rw [List.length_map, List.length_range]; decide)] at h8
          exact q' D H8 (fresh_back e7 hD) (e7.trans e8) h8
      · refine q_asgL (xs := ii z1) (el_callLL (el_callL (el_lst (ea_cons ev_c (ea_cons ev_c (ea_cons ev_c (ea_cons ev_c ea_nil)))) (by simp)) ea_nil (fun q H7 e7 h7 => sp_long (xs := [0, 26, 676, 17576]) h7 (by decide)))
          (fun H7 e7 => el_callL (el_lst (ea_cons ev_c (ea_cons ev_c (ea_cons ev_c (ea_cons ev_c (ea_cons ev_c ea_nil))))) (by simp)) ea_nil (fun q H8 e8 h8 => sp_long (xs := [0, 9, 90, 900, 9000]) h8 (by decide))) ea_nil
          (fun q r H7 e7 h7 h8 => sp_behind (sq_of h7) (sq_of h8) sm3 sm4)) fun a1 H7 ha1 e7 h7 => ?_
        have p7 := e7 _ _ (e6 _ _ (e5 _ _ (e4 _ _ h3)))
        refine q_asgL (xs := ii z2) (el_callL (el_call (ea_cons (ev_var rfl) ea_nil) (sp_long p7 (by rw [List.length_append, List.length_map, tens_len]; decide))) (ea_cons (ev_var rfl) ea_nil) (fun q H8 e8 h8 => sp_behind (sq_of h8) (sq_of (e8 _ _ h7)) sm6 sm5)) fun a2 H8 ha2 e8 h8 => ?_
        have z8 := e8 _ _ (e7 _ _ h6)
        refine q_asgL (xs := ii z3) (el_callL (xs := ii ([1] ++ zMakers.drop 1)) (fun H9 e9 Q' q' => el_cat (xs := [.int 1]) (el_lst (ea_cons ev_c ea_nil) (by simp)) (fun HA eA => el_sl (ev_var rfl) (eo_some (i := 1) ev_c) eo_none (sq_of (eA _ _ z8))) (by have := cutV_length (ii zMakers) (some 1) none; have l2 : (ii zMakers).length = 61 := (by rw [ii_len, zMakers_e] <;> rfl); simp only [List.length_cons, List.length_nil]; omega) H9 e9 Q' fun r HB hr eB hB => q' r HB hr eB (by
          rw [hB, cut_drop]
          first | rfl | (congr 2; done) | (congr 2; show _ = V.int 1 :: List.map V.int (zMakers.drop 1); rw [List.map_drop]; rfl))) (ea_cons (ev_var rfl) ea_nil) (fun q H9 e9 h9 => sp_behind (sq_of h9) (sq_of (e9 _ _ h8)) sm8 sm7)) fun a3 H9 ha3 e9 h9 => ?_
        refine q_asgL (xs := ii z4) (el_callL (el_callL (el_lst (ea_cons ev_c (ea_cons ev_c (ea_cons ev_c (ea_cons ev_c (ea_cons ev_c (ea_cons ev_c ea_nil)))))) (by simp)) ea_nil (fun q HA eA hA => sp_long (xs := [1, 0, 0, 0, 0, 2000]) hA (by decide))) (ea_cons (ev_var rfl) ea_nil) (fun q HA eA hA => sp_behind (sq_of hA) (sq_of (eA _ _ h9)) smA sm9)) fun a4 HA ha4 eA hA => ?_
        have tA := eA _ _ (e9 _ _ (e8 _ _ (e7 _ _ (e6 _ _ (e5 _ _ (e4 _ _ (e3 _ _ hP)))))))
        refine s_retL (xs := ii zSizes) (el_callL (el_callL (xs := ii ([1, 0, 0, 0, 8] ++ (tens 60).map (90 * ·))) (el_cat (xs := [.int 1, .int 0, .int 0, .int 0, .int 8]) (el_lst (ea_cons ev_c (ea_cons ev_c (ea_cons ev_c (ea_cons ev_c (ea_cons ev_c ea_nil))))) (by simp)) (fun HB eB => el_mul (ex_l eB (sq_of tA)) (by rw [tens_len]; decide) ⟨by decide, by decide⟩) (by rw [ii_len, List.length_map, tens_len]; decide)) ea_nil
          (fun q HB eB hB => sp_long hB (by rw [List.length_append, List.length_map, tens_len]; decide))) (ea_cons (ev_var rfl) ea_nil) (fun q HB eB hB => sp_behind (sq_of hB) (sq_of (eB _ _ hA)) smC smB)) fun r HB hr' eB hB => ?_
        have EE := (((((((e2.trans e3).trans e4).trans e5).trans e6).trans e7).trans e8).trans e9).trans eA
        exact k r HB (fresh_back EE hr') (EE.trans eB) hB
/-! ### the law -/
def spLaw (K : PySem.W.Frag) : Sp := fun vs H Q _ => ∃ (a : Addr) (ns : List Int), vs = [.ref a] ∧ SqL K H a (ns.map V.int) ∧ ns.length ≤ 63 ∧ ∀ H', Q (.bl true) H'
theorem ok_law (T : Txt K mg Z) : FnOk P w K mg base CX0 7 Z.a_law Z.d_law ["_law_script"] (spLaw K) := by
  refine T.F_law.ok sc_law (fun vs H Q E h => ?_) (fun cdv A outer' s H vs Q E hr h => ?_)
  · obtain ⟨a, ns, rfl, _⟩ := h; rfl
  · obtain ⟨a, ns, rfl, hS, hlen, k⟩ := h
    refine ⟨_, (pss_cons (ps_set (i := 1) sc_law.nd rfl (.inl rfl) (pe_call0 (ok_l_sizes T) (hr.mono (by decide)) rfl T.g_l_sizes T.F_l_sizes.kp T.b_l_sizes .nil pass0))
      (pss_cons (ps_for PassesOwn.never rfl (pi_list (pe_op op_cat (pe_slice (slL K) (pv 0) po_none (po_some pe_int)) (pe_lst (pa_cons pe_int (pa_cons pe_int (pa_cons pe_int pa_nil)))))) (pg_name (i := 2) sc_law.nd rfl (.inl rfl)) (pss_cons (ps_set (i := 3) sc_law.nd rfl (.inl rfl) (pe_op op_mod (pv 2) pe_int))
      (pss_cons (ps_if (PW.pt (pw_or (pt_not (pt_val (pe_call (ok_l_is T) (hr.mono (by decide)) rfl T.g_l_is T.F_l_is.kp T.b_l_is .nil pass0 (pa_cons (pe_call (ok_how_many T) (hr.mono (by decide)) rfl T.g_how_many T.F_how_many.kp T.b_how_many .nil pass0 (pa_cons (pv 3) pa_nil)) (pa_cons (pe_callB (sumK K rfl) (by rfl) T.n_sum (by decide +kernel) (pa_cons (pe_slice (slL K) (pv 1) po_none (po_some (pe_op op_add (pv 3) pe_int))) pa_nil)) pa_nil))))) (pw_or1 (pt_not (pt_val (pe_call (ok_l_is T) (hr.mono (by decide)) rfl T.g_l_is T.F_l_is.kp T.b_l_is .nil pass0 (pa_cons (pe_call (ok_with_signs T) (hr.mono (by decide)) rfl T.g_with_signs T.F_with_signs.kp T.b_with_signs .nil pass0 (pa_cons (pv 3) pa_nil)) (pa_cons (pe_ix (ixL K) (pv 1) (pv 3) (fun _ _ => rfl)) pa_nil)))))))) (pss_one (ps_ret pe_bl)) pss_nil)
      (pss_one (ps_if (PW.pt (pw_or (pt_cmpR op_ne (pe_call (ok_with_signs T) (hr.mono (by decide)) rfl T.g_with_signs T.F_with_signs.kp T.b_with_signs .nil pass0 (pa_cons (pv 3) pa_nil)) (pe_ix (ixL K) (pv 1) (pv 3) (fun _ _ => rfl)) (nomark _)) (pw_or1 (pt_cmpR op_ne (pe_call (ok_how_many T) (hr.mono (by decide)) rfl T.g_how_many T.F_how_many.kp T.b_how_many .nil pass0 (pa_cons (pv 3) pa_nil)) (pe_callB (sumK K rfl) (by rfl) T.n_sum (by decide +kernel) (pa_cons (pe_slice (slL K) (pv 1) po_none (po_some (pe_op op_add (pv 3) pe_int))) pa_nil)) (nomark _))))) (pss_one (ps_ret pe_bl)) pss_nil)))))
      (pss_one (ps_ret pe_bl)))), ?_⟩
    refine q_asgL (xs := ii zSizes) (fun H1 e1 Q' q' => ⟨rfl, q'⟩) fun p H1 hp e1 h1 => ?_
    have hx : cutV (ii ns) none (some 10) ++ [V.int 60, .int 2, .int 0] = ii (ns.take 10 ++ [60, 2, 0]) := by
      rw [show (some (10 : Int)) = some ((10 : Nat) : Int) from rfl, cut_take]
      show _ = List.map V.int _
      rw [List.map_append, List.map_take]
      rfl
    refine q_forNLn (xs := ii (ns.take 10 ++ [60, 2, 0])) (fun H2 e2 Q' q' => el_cat (xs := cutV (ii ns) none (some 10)) (ys := [.int 60, .int 2, .int 0]) (el_sl (ev_var rfl) eo_none (eo_some ev_c) (ex_l e1 hS)) (fun H3 e3 => el_lst (ea_cons ev_c (ea_cons ev_c (ea_cons ev_c ea_nil))) (by simp)) (by have := cutV_length (ii ns) none (some 10); rw [ii_len] at this; simp only [List.length_cons, List.length_nil]; omega) H2 e2 Q' (by rw [hx]; exact q'))
      (fun q i σ H' => ∃ s2 s3, σ = [some (.ref a), some (.ref p), s2, s3] ∧ H' p = some (.lst (ii zSizes)) ∧ H' q = some (.lst (ii (ns.take 10 ++ [60, 2, 0])))) (fun q H2 hq e2 h2 => ⟨none, none, rfl, e2 _ _ h1, h2⟩) (fun q i σ H' _ ⟨_, _, _, _, h⟩ => sq_of h) ?_ ?_
    · rintro q i x σ H2 hi ⟨s2, s3, rfl, hP, hq⟩
      obtain ⟨c, _, rfl⟩ := ii_of hi
      obtain ⟨n, hn, en⟩ : ∃ n : Nat, n ≤ 60 ∧ c % 61 = (n : Int) := ⟨(c % 61).toNat, by omega, by omega⟩
      obtain ⟨c1, c2⟩ := chk hn
      refine q_asg (v := .int (n : Int)) (by rw [← en]; exact ev_op (ev_var rfl) ev_c (rv_I (by show (0 : Int) < 61; decide))) fun H3 e3 => ?_
      have hP3 := e3 _ _ hP
      have zl : zSizes.length = 61 := by rw [zSizes_e]; rfl
      have sumE : ∀ H4, Ex H3 H4 → Ev (tCB (rSum K) (tCons (tSl (rSlL K) (tVar 1) tNoPart (tPart (tOp (rI0 fun i j => .int (i + j)) (tVar 3) (tC (.int 1))))) tNil)) [some (.ref a), some (.ref p), some (.int c), some (.int (n : Int))] H4 (.int (zSizes.take (n + 1)).sum) := fun H4 e4 =>
        ev_sumN fun H5 e5 Q' q' => el_sl (ev_var rfl) eo_none (eo_some (i := ((n + 1 : Nat) : Int)) (ev_op (ev_var rfl) ev_c rv_I0)) (sq_of (e4 _ _ hP3)) H5 e5 Q' (by
          rw [cut_take]
          have : (ii zSizes).take (n + 1) = ii (zSizes.take (n + 1)) := by show _ = List.map V.int _; rw [List.map_take]
          rw [this]
          exact q')
      have ixE : ∀ H4, Ex H3 H4 → Ev (tOp (rIxL K) (tVar 1) (tVar 3)) [some (.ref a), some (.ref p), some (.int c), some (.int (n : Int))] H4 (.int (zSizes.getD n 0)) := fun H4 e4 => ev_op (ev_var rfl) (ev_var rfl) (rv_ixL (sq_of (e4 _ _ hP3)) (atI_nat (ii_get (by omega))))
      have is1 : ∀ {i j : Int} {H4}, i = j → SpV (fun vs H Q _ => ∃ i j : Int, vs = [.int i, .int j] ∧ RetV (.bl (decide (i = j))) H Q) [.int i, .int j] H4 (.bl true) := fun {i j H4} h H5 e5 Q' q' E => ⟨i, j, rfl, by rw [decide_eq_true h]; exact q'⟩
      have ws : ∀ {H4}, SpV (fun vs H Q _ => ∃ n : Nat, vs = [.int (n : Int)] ∧ n ≤ 60 ∧ RetV (.int (wsg n)) H Q) [.int (n : Int)] H4 (.int (wsg n)) := fun H5 e5 Q' q' E => ⟨n, rfl, hn, q'⟩
      refine q_when (b := false) (et_or (a := false) (et_not (a := true) (et_B (ev_call (ea_cons (ev_call (ea_cons (ev_var rfl) ea_nil) (sp_many hn)) (ea_cons (sumE H3 (Ex.refl _)) ea_nil)) (is1 c1)))) (fun _ => et_not (a := true) (et_B (ev_call (ea_cons (ev_call (ea_cons (ev_var rfl) ea_nil) ws) (ea_cons (ixE H3 (Ex.refl _)) ea_nil)) (is1 c2))))) (fun h => nomatch h) (fun _ H4 e4 => ?_)
      have ne0 : ∀ {i j : Int}, i = j → (!decide (V.int i = V.int j)) = false := fun h => by rw [h, decide_eq_true rfl]; rfl
      refine s_when (b := false) (et_or (a := false) (et_is (et_test (ev_op (ev_call (ea_cons (ev_var rfl) ea_nil) ws) (ixE H4 e4) (rv_ne rfl))) (ne0 c2)) (fun _ => et_is (et_test (ev_op (ev_call (ea_cons (ev_var rfl) ea_nil) (sp_many hn)) (sumE H4 e4) (rv_ne rfl))) (ne0 c1))) (fun h => nomatch h) (fun _ H5 e5 => ?_)
      exact ⟨_, _, rfl, e5 _ _ (e4 _ _ hP3), e5 _ _ (e4 _ _ (e3 _ _ hq))⟩
    · rintro q σ H2 ⟨s2, s3, rfl, hP, hq⟩
      exact s_ret ev_c fun H3 e3 => k H3
end
/-! ### what the top has written, the head -/
theorem all_mk {l : PySem.W.OpenLaw} {w : World} {K : PySem.W.Frag} {h : Heap} {mg : Str → Option Value} {fa : Addr} (X : K.In h) (G : h.Ns mainGlobals mg) (hfa : mg "law" = some (.ref fa))
    {C_Tails : Addr}
    {f_is_whole : Addr} {od_is_whole an_is_whole : Option Addr} {sl_is_whole : Array (Option Value)} {oc_is_whole kV_is_whole dc_is_whole pm_is_whole cd_is_whole ct_is_whole : Value}
    {dT_is_whole : Addr} {do_is_whole : Obj} {dn_is_whole : Nat} {dus_is_whole : List Value}
    {f_is_bound : Addr} {od_is_bound an_is_bound : Option Addr} {sl_is_bound : Array (Option Value)} {oc_is_bound kV_is_bound dc_is_bound pm_is_bound cd_is_bound ct_is_bound : Value}
    {f_counted : Addr} {od_counted an_counted : Option Addr} {sl_counted : Array (Option Value)} {oc_counted kV_counted dc_counted pm_counted cd_counted ct_counted : Value}
    {f_Tails_init : Addr} {od_Tails_init an_Tails_init : Option Addr} {sl_Tails_init : Array (Option Value)} {oc_Tails_init kV_Tails_init dc_Tails_init pm_Tails_init cd_Tails_init ct_Tails_init : Value}
    {f_copies : Addr} {od_copies an_copies : Option Addr} {sl_copies : Array (Option Value)} {oc_copies kV_copies dc_copies pm_copies cd_copies ct_copies : Value}
    {f_with_more : Addr} {od_with_more an_with_more : Option Addr} {sl_with_more : Array (Option Value)} {oc_with_more kV_with_more dc_with_more pm_with_more cd_with_more ct_with_more : Value}
    {f_figures : Addr} {od_figures an_figures : Option Addr} {sl_figures : Array (Option Value)} {oc_figures kV_figures dc_figures pm_figures cd_figures ct_figures : Value}
    {f_numbers : Addr} {od_numbers an_numbers : Option Addr} {sl_numbers : Array (Option Value)} {oc_numbers kV_numbers dc_numbers pm_numbers cd_numbers ct_numbers : Value}
    {f_how_many : Addr} {od_how_many an_how_many : Option Addr} {sl_how_many : Array (Option Value)} {oc_how_many kV_how_many dc_how_many pm_how_many cd_how_many ct_how_many : Value}
    {f_with_signs : Addr} {od_with_signs an_with_signs : Option Addr} {sl_with_signs : Array (Option Value)} {oc_with_signs kV_with_signs dc_with_signs pm_with_signs cd_with_signs ct_with_signs : Value}
    {f_l_is : Addr} {od_l_is an_l_is : Option Addr} {sl_l_is : Array (Option Value)} {oc_l_is kV_l_is dc_l_is pm_l_is cd_l_is ct_l_is : Value}
    {f_l_behind : Addr} {od_l_behind an_l_behind : Option Addr} {sl_l_behind : Array (Option Value)} {oc_l_behind kV_l_behind dc_l_behind pm_l_behind cd_l_behind ct_l_behind : Value}
    {f_l_long : Addr} {od_l_long an_l_long : Option Addr} {sl_l_long : Array (Option Value)} {oc_l_long kV_l_long dc_l_long pm_l_long cd_l_long ct_l_long : Value}
    {f_l_sizes : Addr} {od_l_sizes an_l_sizes : Option Addr} {sl_l_sizes : Array (Option Value)} {oc_l_sizes kV_l_sizes dc_l_sizes pm_l_sizes cd_l_sizes ct_l_sizes : Value}
    {f_law : Addr} {od_law an_law : Option Addr} {sl_law : Array (Option Value)} {oc_law kV_law dc_law pm_law cd_law ct_law : Value}
    {tk_MOST_MAKERS : Tok}
    (aC_Tails : PySem.W.nsIn K mainGlobals "Tails" = some (some (.ref C_Tails)))
    (pg_Tails : PySem.W.plainGet K C_Tails Str.empty = true)
    (hd_Tails : PySem.W.hasDictIn K C_Tails = true)
    (po_Tails : PySem.W.plainOver K C_Tails = true)
    (sa_Tails : PySem.W.findIn K (.ref C_Tails) "__setattr__" = some (some (.builtin "object.__setattr__")))
    (mk_Tails : PySem.W.makesIn K C_Tails = true)
    (kc_Tails : PySem.W.keepIn K (.ref C_Tails) = true)
    (na_Tails_most : PySem.W.findIn K (.ref C_Tails) "most" = some none)
    (na_Tails_behind_year : PySem.W.findIn K (.ref C_Tails) "behind_year" = some none)
    (na_Tails_behind_makers : PySem.W.findIn K (.ref C_Tails) "behind_makers" = some none)
    (na_Tails_in_maker : PySem.W.findIn K (.ref C_Tails) "in_maker" = some none)
    (na_Tails_in_points : PySem.W.findIn K (.ref C_Tails) "in_points" = some none)
    (na_Tails_behind_number : PySem.W.findIn K (.ref C_Tails) "behind_number" = some none)
    (na_Tails_in_letters : PySem.W.findIn K (.ref C_Tails) "in_letters" = some none)
    (na_Tails_behind_letters : PySem.W.findIn K (.ref C_Tails) "behind_letters" = some none)
    (na_Tails_total : PySem.W.findIn K (.ref C_Tails) "total" = some none)
    (a_is_whole : PySem.W.nsIn K mainGlobals "is_whole" = some (some (.ref f_is_whole)))
    (l_is_whole : K.lookup f_is_whole = some ⟨oc_is_whole, od_is_whole, .func (PySem.W.fnOf "is_whole" "is_whole" (defArgs s_is_whole) (defBody s_is_whole) (defScope s_is_whole) (.ref dT_is_whole) kV_is_whole dc_is_whole pm_is_whole an_is_whole cd_is_whole ct_is_whole), sl_is_whole⟩)
    (c_is_whole : PySem.W.codeIn K cd_is_whole "is_whole" = true)
    (k_is_whole : PySem.W.keepIn K (.ref f_is_whole) = true)
    (e_is_whole : K.lookup dT_is_whole = some do_is_whole)
    (x_is_whole : do_is_whole.data = .seq dus_is_whole.toArray dn_is_whole)
    (v_is_whole : Vals [.non] dus_is_whole)
    (a_is_bound : PySem.W.nsIn K mainGlobals "is_bound" = some (some (.ref f_is_bound)))
    (l_is_bound : K.lookup f_is_bound = some ⟨oc_is_bound, od_is_bound, .func (PySem.W.fnOf "is_bound" "is_bound" (defArgs s_is_bound) (defBody s_is_bound) (defScope s_is_bound) .none kV_is_bound dc_is_bound pm_is_bound an_is_bound cd_is_bound ct_is_bound), sl_is_bound⟩)
    (c_is_bound : PySem.W.codeIn K cd_is_bound "is_bound" = true)
    (k_is_bound : PySem.W.keepIn K (.ref f_is_bound) = true)
    (a_counted : PySem.W.nsIn K mainGlobals "counted" = some (some (.ref f_counted)))
    (l_counted : K.lookup f_counted = some ⟨oc_counted, od_counted, .func (PySem.W.fnOf "counted" "counted" (defArgs s_counted) (defBody s_counted) (defScope s_counted) .none kV_counted dc_counted pm_counted an_counted cd_counted ct_counted), sl_counted⟩)
    (c_counted : PySem.W.codeIn K cd_counted "counted" = true)
    (k_counted : PySem.W.keepIn K (.ref f_counted) = true)
    (a_Tails_init : PySem.W.findIn K (.ref C_Tails) "__init__" = some (some (.ref f_Tails_init)))
    (i_Tails_init : PySem.W.isFn K (.ref f_Tails_init) = true)
    (l_Tails_init : K.lookup f_Tails_init = some ⟨oc_Tails_init, od_Tails_init, .func (PySem.W.fnOf "__init__" "Tails.__init__" (defArgs s_Tails_init) (defBody s_Tails_init) (defScope s_Tails_init) .none kV_Tails_init dc_Tails_init pm_Tails_init an_Tails_init cd_Tails_init ct_Tails_init), sl_Tails_init⟩)
    (c_Tails_init : PySem.W.codeIn K cd_Tails_init "Tails.__init__" = true)
    (k_Tails_init : PySem.W.keepIn K (.ref f_Tails_init) = true)
    (a_copies : PySem.W.nsIn K mainGlobals "_copies" = some (some (.ref f_copies)))
    (l_copies : K.lookup f_copies = some ⟨oc_copies, od_copies, .func (PySem.W.fnOf "_copies" "_copies" (defArgs s_copies) (defBody s_copies) (defScope s_copies) .none kV_copies dc_copies pm_copies an_copies cd_copies ct_copies), sl_copies⟩)
    (c_copies : PySem.W.codeIn K cd_copies "_copies" = true)
    (k_copies : PySem.W.keepIn K (.ref f_copies) = true)
    (a_with_more : PySem.W.nsIn K mainGlobals "_with_more" = some (some (.ref f_with_more)))
    (l_with_more : K.lookup f_with_more = some ⟨oc_with_more, od_with_more, .func (PySem.W.fnOf "_with_more" "_with_more" (defArgs s_with_more) (defBody s_with_more) (defScope s_with_more) .none kV_with_more dc_with_more pm_with_more an_with_more cd_with_more ct_with_more), sl_with_more⟩)
    (c_with_more : PySem.W.codeIn K cd_with_more "_with_more" = true)
    (k_with_more : PySem.W.keepIn K (.ref f_with_more) = true)
    (a_figures : PySem.W.nsIn K mainGlobals "_figures" = some (some (.ref f_figures)))
    (l_figures : K.lookup f_figures = some ⟨oc_figures, od_figures, .func (PySem.W.fnOf "_figures" "_figures" (defArgs s_figures) (defBody s_figures) (defScope s_figures) .none kV_figures dc_figures pm_figures an_figures cd_figures ct_figures), sl_figures⟩)
    (c_figures : PySem.W.codeIn K cd_figures "_figures" = true)
    (k_figures : PySem.W.keepIn K (.ref f_figures) = true)
    (a_numbers : PySem.W.nsIn K mainGlobals "_numbers" = some (some (.ref f_numbers)))
    (l_numbers : K.lookup f_numbers = some ⟨oc_numbers, od_numbers, .func (PySem.W.fnOf "_numbers" "_numbers" (defArgs s_numbers) (defBody s_numbers) (defScope s_numbers) .none kV_numbers dc_numbers pm_numbers an_numbers cd_numbers ct_numbers), sl_numbers⟩)
    (c_numbers : PySem.W.codeIn K cd_numbers "_numbers" = true)
    (k_numbers : PySem.W.keepIn K (.ref f_numbers) = true)
    (a_how_many : PySem.W.nsIn K mainGlobals "how_many" = some (some (.ref f_how_many)))
    (l_how_many : K.lookup f_how_many = some ⟨oc_how_many, od_how_many, .func (PySem.W.fnOf "how_many" "how_many" (defArgs s_how_many) (defBody s_how_many) (defScope s_how_many) .none kV_how_many dc_how_many pm_how_many an_how_many cd_how_many ct_how_many), sl_how_many⟩)
    (c_how_many : PySem.W.codeIn K cd_how_many "how_many" = true)
    (k_how_many : PySem.W.keepIn K (.ref f_how_many) = true)
    (a_with_signs : PySem.W.nsIn K mainGlobals "with_signs" = some (some (.ref f_with_signs)))
    (l_with_signs : K.lookup f_with_signs = some ⟨oc_with_signs, od_with_signs, .func (PySem.W.fnOf "with_signs" "with_signs" (defArgs s_with_signs) (defBody s_with_signs) (defScope s_with_signs) .none kV_with_signs dc_with_signs pm_with_signs an_with_signs cd_with_signs ct_with_signs), sl_with_signs⟩)
    (c_with_signs : PySem.W.codeIn K cd_with_signs "with_signs" = true)
    (k_with_signs : PySem.W.keepIn K (.ref f_with_signs) = true)
    (a_l_is : PySem.W.nsIn K mainGlobals "_law_is" = some (some (.ref f_l_is)))
    (l_l_is : K.lookup f_l_is = some ⟨oc_l_is, od_l_is, .func (PySem.W.fnOf "_law_is" "_law_is" (defArgs s_l_is) (defBody s_l_is) (defScope s_l_is) .none kV_l_is dc_l_is pm_l_is an_l_is cd_l_is ct_l_is), sl_l_is⟩)
    (c_l_is : PySem.W.codeIn K cd_l_is "_law_is" = true)
    (k_l_is : PySem.W.keepIn K (.ref f_l_is) = true)
    (a_l_behind : PySem.W.nsIn K mainGlobals "_law_behind" = some (some (.ref f_l_behind)))
    (l_l_behind : K.lookup f_l_behind = some ⟨oc_l_behind, od_l_behind, .func (PySem.W.fnOf "_law_behind" "_law_behind" (defArgs s_l_behind) (defBody s_l_behind) (defScope s_l_behind) .none kV_l_behind dc_l_behind pm_l_behind an_l_behind cd_l_behind ct_l_behind), sl_l_behind⟩)
    (c_l_behind : PySem.W.codeIn K cd_l_behind "_law_behind" = true)
    (k_l_behind : PySem.W.keepIn K (.ref f_l_behind) = true)
    (a_l_long : PySem.W.nsIn K mainGlobals "_law_long" = some (some (.ref f_l_long)))
    (l_l_long : K.lookup f_l_long = some ⟨oc_l_long, od_l_long, .func (PySem.W.fnOf "_law_long" "_law_long" (defArgs s_l_long) (defBody s_l_long) (defScope s_l_long) .none kV_l_long dc_l_long pm_l_long an_l_long cd_l_long ct_l_long), sl_l_long⟩)
    (c_l_long : PySem.W.codeIn K cd_l_long "_law_long" = true)
    (k_l_long : PySem.W.keepIn K (.ref f_l_long) = true)
    (a_l_sizes : PySem.W.nsIn K mainGlobals "_law_sizes" = some (some (.ref f_l_sizes)))
    (l_l_sizes : K.lookup f_l_sizes = some ⟨oc_l_sizes, od_l_sizes, .func (PySem.W.fnOf "_law_sizes" "_law_sizes" (defArgs s_l_sizes) (defBody s_l_sizes) (defScope s_l_sizes) .none kV_l_sizes dc_l_sizes pm_l_sizes an_l_sizes cd_l_sizes ct_l_sizes), sl_l_sizes⟩)
    (c_l_sizes : PySem.W.codeIn K cd_l_sizes "_law_sizes" = true)
    (k_l_sizes : PySem.W.keepIn K (.ref f_l_sizes) = true)
    (a_law : PySem.W.nsIn K mainGlobals "law" = some (some (.ref f_law)))
    (l_law : K.lookup f_law = some ⟨oc_law, od_law, .func (PySem.W.fnOf "law" "law" (defArgs s_law) (defBody s_law) (defScope s_law) .none kV_law dc_law pm_law an_law cd_law ct_law), sl_law⟩)
    (c_law : PySem.W.codeIn K cd_law "law" = true)
    (k_law : PySem.W.keepIn K (.ref f_law) = true)
    (z_len : PySem.W.nsIn K mainGlobals "len" = some none)
    (z_isinstance : PySem.W.nsIn K mainGlobals "isinstance" = some none)
    (z_range : PySem.W.nsIn K mainGlobals "range" = some none)
    (z_sum : PySem.W.nsIn K mainGlobals "sum" = some none)
    (z_int : PySem.W.nsIn K mainGlobals "int" = some none)
    (z_bool : PySem.W.nsIn K mainGlobals "bool" = some none)
    (z_zip : PySem.W.nsIn K mainGlobals "zip" = some none)
    (z_enumerate : PySem.W.nsIn K mainGlobals "enumerate" = some none)
    (q_MOST_MAKERS : PySem.W.nsIn K mainGlobals "MOST_MAKERS" = some (some (.int (3) tk_MOST_MAKERS)))
    : ∃ fd : FuncData, (∀ (s : Shared) (v : Value), BindsTo s fd ⟨[v], []⟩ [("_law_script", v)]) ∧ ∀ base : Heap, K.In base → base.Ns mainGlobals mg → FnOk l.prog w K mg base CX0 7 fa fd ["_law_script"] (spLaw K) := by
  have e := hfa.symm.trans (PySem.W.mg_of X G a_law)
  cases e
  have F_is_whole : FunD K "is_whole" "is_whole" (defArgs s_is_whole) (defBody s_is_whole) (defScope s_is_whole) [.non] [] f_is_whole (PySem.W.fnOf "is_whole" "is_whole" (defArgs s_is_whole) (defBody s_is_whole) (defScope s_is_whole) (.ref dT_is_whole) kV_is_whole dc_is_whole pm_is_whole an_is_whole cd_is_whole ct_is_whole) := ⟨⟨oc_is_whole, od_is_whole, _, kV_is_whole, dc_is_whole, pm_is_whole, an_is_whole, cd_is_whole, ct_is_whole, sl_is_whole, rfl, l_is_whole, c_is_whole, .inr ⟨by simp, dT_is_whole, do_is_whole, dus_is_whole, dn_is_whole, rfl, e_is_whole, x_is_whole, v_is_whole⟩, .inl rfl⟩, k_is_whole⟩
  have b_is_wholee : ∃ ds, Vals [] ds ∧ Binds K (PySem.W.fnOf "is_whole" "is_whole" (defArgs s_is_whole) (defBody s_is_whole) (defScope s_is_whole) (.ref dT_is_whole) kV_is_whole dc_is_whole pm_is_whole an_is_whole cd_is_whole ct_is_whole) ["thing", "low", "high"] ds := F_is_whole.binds1 3 1 (by simp) (by rfl) fun _ _ _ _ _ _ _ us its hu hi => match us, its, hu, hi with | [_, _, _], [_], _, _ => ⟨_, rfl, rfl⟩
  have b_is_whole : Binds K (PySem.W.fnOf "is_whole" "is_whole" (defArgs s_is_whole) (defBody s_is_whole) (defScope s_is_whole) (.ref dT_is_whole) kV_is_whole dc_is_whole pm_is_whole an_is_whole cd_is_whole ct_is_whole) ["thing", "low", "high"] [] := by
    obtain ⟨ds, r, b⟩ := b_is_wholee
    cases r
    exact b
  have F_is_bound := fun_mk (st := s_is_bound) l_is_bound c_is_bound k_is_bound
  have b_is_bound := F_is_bound.binds (ps := ["thing"]) fun _ _ _ _ _ _ us hl => match us, hl with | [_], _ => rfl
  have F_counted := fun_mk (st := s_counted) l_counted c_counted k_counted
  have b_counted := F_counted.binds (ps := ["table", "left"]) fun _ _ _ _ _ _ us hl => match us, hl with | [_, _], _ => rfl
  have F_Tails_init := fun_mk (st := s_Tails_init) l_Tails_init c_Tails_init k_Tails_init
  have b_Tails_init := F_Tails_init.binds (ps := ["self", "most"]) fun _ _ _ _ _ _ us hl => match us, hl with | [_, _], _ => rfl
  have F_copies := fun_mk (st := s_copies) l_copies c_copies k_copies
  have b_copies := F_copies.binds (ps := ["most"]) fun _ _ _ _ _ _ us hl => match us, hl with | [_], _ => rfl
  have F_with_more := fun_mk (st := s_with_more) l_with_more c_with_more k_with_more
  have b_with_more := F_with_more.binds (ps := ["ended", "choices", "more", "signs"]) fun _ _ _ _ _ _ us hl => match us, hl with | [_, _, _, _], _ => rfl
  have F_figures := fun_mk (st := s_figures) l_figures c_figures k_figures
  have b_figures := F_figures.binds (ps := ["rest"]) fun _ _ _ _ _ _ us hl => match us, hl with | [_], _ => rfl
  have F_numbers := fun_mk (st := s_numbers) l_numbers c_numbers k_numbers
  have b_numbers := F_numbers.binds (ps := ["rest", "left"]) fun _ _ _ _ _ _ us hl => match us, hl with | [_, _], _ => rfl
  have F_how_many := fun_mk (st := s_how_many) l_how_many c_how_many k_how_many
  have b_how_many := F_how_many.binds (ps := ["many"]) fun _ _ _ _ _ _ us hl => match us, hl with | [_], _ => rfl
  have F_with_signs := fun_mk (st := s_with_signs) l_with_signs c_with_signs k_with_signs
  have b_with_signs := F_with_signs.binds (ps := ["many"]) fun _ _ _ _ _ _ us hl => match us, hl with | [_], _ => rfl
  have F_l_is := fun_mk (st := s_l_is) l_l_is c_l_is k_l_is
  have b_l_is := F_l_is.binds (ps := ["_law_found", "_law_due"]) fun _ _ _ _ _ _ us hl => match us, hl with | [_, _], _ => rfl
  have F_l_behind := fun_mk (st := s_l_behind) l_l_behind c_l_behind k_l_behind
  have b_l_behind := F_l_behind.binds (ps := ["_law_one", "_law_other"]) fun _ _ _ _ _ _ us hl => match us, hl with | [_, _], _ => rfl
  have F_l_long := fun_mk (st := s_l_long) l_l_long c_l_long k_l_long
  have b_l_long := F_l_long.binds (ps := ["_law_table"]) fun _ _ _ _ _ _ us hl => match us, hl with | [_], _ => rfl
  have F_l_sizes := fun_mk (st := s_l_sizes) l_l_sizes c_l_sizes k_l_sizes
  have b_l_sizes := F_l_sizes.binds (ps := []) fun _ _ _ _ _ _ us hl => match us, hl with | [], _ => rfl
  have F_law := fun_mk (st := s_law) l_law c_law k_law
  have b_law := F_law.binds (ps := ["_law_script"]) fun _ _ _ _ _ _ us hl => match us, hl with | [_], _ => rfl
  have T : Txt K mg { a_is_whole := f_is_whole, a_is_bound := f_is_bound, a_counted := f_counted, a_Tails_init := f_Tails_init, a_copies := f_copies, a_with_more := f_with_more, a_figures := f_figures, a_numbers := f_numbers, a_how_many := f_how_many, a_with_signs := f_with_signs, a_l_is := f_l_is, a_l_behind := f_l_behind, a_l_long := f_l_long, a_l_sizes := f_l_sizes, a_law := fa, d_is_whole := _, d_is_bound := _, d_counted := _, d_Tails_init := _, d_copies := _, d_with_more := _, d_figures := _, d_numbers := _, d_how_many := _, d_with_signs := _, d_l_is := _, d_l_behind := _, d_l_long := _, d_l_sizes := _, d_law := _, C_Tails := C_Tails } :=
    { F_is_whole := F_is_whole,
      g_is_whole := PySem.W.mg_of X G a_is_whole,
      b_is_whole := b_is_whole,
      F_is_bound := F_is_bound,
      g_is_bound := PySem.W.mg_of X G a_is_bound,
      b_is_bound := b_is_bound,
      F_counted := F_counted,
      g_counted := PySem.W.mg_of X G a_counted,
      b_counted := b_counted,
      F_Tails_init := F_Tails_init,
      b_Tails_init := b_Tails_init,
      F_copies := F_copies,
      g_copies := PySem.W.mg_of X G a_copies,
      b_copies := b_copies,
      F_with_more := F_with_more,
      g_with_more := PySem.W.mg_of X G a_with_more,
      b_with_more := b_with_more,
      F_figures := F_figures,
      g_figures := PySem.W.mg_of X G a_figures,
      b_figures := b_figures,
      F_numbers := F_numbers,
      g_numbers := PySem.W.mg_of X G a_numbers,
      b_numbers := b_numbers,
      F_how_many := F_how_many,
      g_how_many := PySem.W.mg_of X G a_how_many,
      b_how_many := b_how_many,
      F_with_signs := F_with_signs,
      g_with_signs := PySem.W.mg_of X G a_with_signs,
      b_with_signs := b_with_signs,
      F_l_is := F_l_is,
      g_l_is := PySem.W.mg_of X G a_l_is,
      b_l_is := b_l_is,
      F_l_behind := F_l_behind,
      g_l_behind := PySem.W.mg_of X G a_l_behind,
      b_l_behind := b_l_behind,
      F_l_long := F_l_long,
      g_l_long := PySem.W.mg_of X G a_l_long,
      b_l_long := b_l_long,
      F_l_sizes := F_l_sizes,
      g_l_sizes := PySem.W.mg_of X G a_l_sizes,
      b_l_sizes := b_l_sizes,
      F_law := F_law,
      g_law := PySem.W.mg_of X G a_law,
      b_law := b_law,
      g_Tails := PySem.W.mg_of X G aC_Tails,
      cl_Tails := ⟨pg_Tails, hd_Tails, po_Tails, sa_Tails⟩,
      M_Tails := ⟨mk_Tails, a_Tails_init, i_Tails_init, kc_Tails⟩,
      na_Tails_most := na_Tails_most,
      na_Tails_behind_year := na_Tails_behind_year,
      na_Tails_behind_makers := na_Tails_behind_makers,
      na_Tails_in_maker := na_Tails_in_maker,
      na_Tails_in_points := na_Tails_in_points,
      na_Tails_behind_number := na_Tails_behind_number,
      na_Tails_in_letters := na_Tails_in_letters,
      na_Tails_behind_letters := na_Tails_behind_letters,
      na_Tails_total := na_Tails_total,
      n_len := PySem.W.mg_none_of X G z_len,
      n_isinstance := PySem.W.mg_none_of X G z_isinstance,
      n_range := PySem.W.mg_none_of X G z_range,
      n_sum := PySem.W.mg_none_of X G z_sum,
      n_int := PySem.W.mg_none_of X G z_int,
      n_bool := PySem.W.mg_none_of X G z_bool,
      n_zip := PySem.W.mg_none_of X G z_zip,
      n_enumerate := PySem.W.mg_none_of X G z_enumerate,
      c_MOST_MAKERS := ⟨_, PySem.W.mg_of X G q_MOST_MAKERS⟩ }
  exact ⟨PySem.W.fnOf "law" "law" (defArgs s_law) (defBody s_law) (defScope s_law) .none kV_law dc_law pm_law an_law cd_law ct_law, fun s v => .of_eq rfl, fun base _ _ => ok_law T⟩
theorem walk {l : PySem.W.OpenLaw} {q : Program} {loose : List Str} {XP : (Str → Option Value) → Heap → Prop} {YP : World → Heap → Prop} {d : DefRec} {K : Params → PySem.W.Frag} (hn : l.most = some 63) (hdf : d.params.defaults = [])
    (hY : ∀ (w : World) (h : Heap), YP w h → (K w.params).In h)
    (F : ∀ (w : World) (mg : Str → Option Value) (fa : Addr) (h : Heap), (K w.params).In h → h.Ns mainGlobals mg → mg d.name = some (.ref fa) →
      ∃ fd : FuncData, (∀ (s : Shared) (u : Value), BindsTo s fd ⟨[u], []⟩ [("_law_script", u)]) ∧ ∀ base : Heap, (K w.params).In base → base.Ns mainGlobals mg → FnOk l.prog w (K w.params) mg base CX0 7 fa fd ["_law_script"] (spLaw (K w.params))) :
    PySem.W.WalkO q loose XP YP l.row.toRowW d [] (fun f vs => PySem.call f vs) :=
  L2.walk_of (n := 63) (k := 7) (x := "_law_script") (CX := fun _ => CX0) (sp := fun w => spLaw (K w.params)) hn (by decide) hdf ⟨rfl, by decide, by decide⟩ hY F (fun _ _ a ns hl _ hS => ⟨a, ns, rfl, hS, hl, fun _ => rfl⟩) fun _ _ _ _ _ z => z
end My
open PySem PySem.W PyProof.Rows in
set_option maxRecDepth 100000 in
set_option maxHeartbeats 0 in
theorem PySem.Challenge.cw_spinemarks_k19_how_many_there_are_holds : PySem.Challenge.rw_spinemarks_k19_how_many_there_are.Holds := by
  w_on; o_law; k_head; (case hw => w_witness2)
  k_fill
  refine My.walk (l := PySem.Challenge.rw_spinemarks_k19_how_many_there_are) rfl rfl (fun w h Y => PySem.W.kIn_of Y) ?F
  case F =>
    intro w mg fa h KX G hmg
    refine' My.all_mk KX G hmg ?aC_Tails ?pg_Tails ?hd_Tails ?po_Tails ?sa_Tails ?mk_Tails ?kc_Tails ?na_Tails_most ?na_Tails_behind_year ?na_Tails_behind_makers ?na_Tails_in_maker ?na_Tails_in_points ?na_Tails_behind_number ?na_Tails_in_letters ?na_Tails_behind_letters ?na_Tails_total ?a_is_whole ?l_is_whole ?c_is_whole ?k_is_whole ?e_is_whole ?x_is_whole ?v_is_whole ?a_is_bound ?l_is_bound ?c_is_bound ?k_is_bound ?a_counted ?l_counted ?c_counted ?k_counted ?a_Tails_init ?i_Tails_init ?l_Tails_init ?c_Tails_init ?k_Tails_init ?a_copies ?l_copies ?c_copies ?k_copies ?a_with_more ?l_with_more ?c_with_more ?k_with_more ?a_figures ?l_figures ?c_figures ?k_figures ?a_numbers ?l_numbers ?c_numbers ?k_numbers ?a_how_many ?l_how_many ?c_how_many ?k_how_many ?a_with_signs ?l_with_signs ?c_with_signs ?k_with_signs ?a_l_is ?l_l_is ?c_l_is ?k_l_is ?a_l_behind ?l_l_behind ?c_l_behind ?k_l_behind ?a_l_long ?l_l_long ?c_l_long ?k_l_long ?a_l_sizes ?l_l_sizes ?c_l_sizes ?k_l_sizes ?a_law ?l_law ?c_law ?k_law ?z_len ?z_isinstance ?z_range ?z_sum ?z_int ?z_bool ?z_zip ?z_enumerate ?q_MOST_MAKERS
    (case aC_Tails => k_is)
    (case pg_Tails => k_is)
    (case hd_Tails => k_is)
    (case po_Tails => k_is)
    (case sa_Tails => k_is)
    (case mk_Tails => k_is)
    (case kc_Tails => k_is)
    (case na_Tails_most => k_is)
    (case na_Tails_behind_year => k_is)
    (case na_Tails_behind_makers => k_is)
    (case na_Tails_in_maker => k_is)
    (case na_Tails_in_points => k_is)
    (case na_Tails_behind_number => k_is)
    (case na_Tails_in_letters => k_is)
    (case na_Tails_behind_letters => k_is)
    (case na_Tails_total => k_is)
    (case a_is_whole => k_is)
    (case l_is_whole => k_is)
    (case c_is_whole => k_is)
    (case k_is_whole => k_is)
    (case e_is_whole => k_is)
    (case x_is_whole => first | rfl | k_is)
    (case v_is_whole => first | (repeat (first | exact .nil | refine .cons ?_ ?_ | rfl | exact ⟨_, rfl⟩)))
    (case a_is_bound => k_is)
    (case l_is_bound => k_is)
    (case c_is_bound => k_is)
    (case k_is_bound => k_is)
    (case a_counted => k_is)
    (case l_counted => k_is)
    (case c_counted => k_is)
    (case k_counted => k_is)
    (case a_Tails_init => k_is)
    (case i_Tails_init => k_is)
    (case l_Tails_init => k_is)
    (case c_Tails_init => k_is)
    (case k_Tails_init => k_is)
    (case a_copies => k_is)
    (case l_copies => k_is)
    (case c_copies => k_is)
    (case k_copies => k_is)
    (case a_with_more => k_is)
    (case l_with_more => k_is)
    (case c_with_more => k_is)
    (case k_with_more => k_is)
    (case a_figures => k_is)
    (case l_figures => k_is)
    (case c_figures => k_is)
    (case k_figures => k_is)
    (case a_numbers => k_is)
    (case l_numbers => k_is)
    (case c_numbers => k_is)
    (case k_numbers => k_is)
    (case a_how_many => k_is)
    (case l_how_many => k_is)
    (case c_how_many => k_is)
    (case k_how_many => k_is)
    (case a_with_signs => k_is)
    (case l_with_signs => k_is)
    (case c_with_signs => k_is)
    (case k_with_signs => k_is)
    (case a_l_is => k_is)
    (case l_l_is => k_is)
    (case c_l_is => k_is)
    (case k_l_is => k_is)
    (case a_l_behind => k_is)
    (case l_l_behind => k_is)
    (case c_l_behind => k_is)
    (case k_l_behind => k_is)
    (case a_l_long => k_is)
    (case l_l_long => k_is)
    (case c_l_long => k_is)
    (case k_l_long => k_is)
    (case a_l_sizes => k_is)
    (case l_l_sizes => k_is)
    (case c_l_sizes => k_is)
    (case k_l_sizes => k_is)
    (case a_law => k_is)
    (case l_law => k_is)
    (case c_law => k_is)
    (case k_law => k_is)
    (case z_len => k_is)
    (case z_isinstance => k_is)
    (case z_range => k_is)
    (case z_sum => k_is)
    (case z_int => k_is)
    (case z_bool => k_is)
    (case z_zip => k_is)
    (case z_enumerate => k_is)
    (case q_MOST_MAKERS => k_is)
