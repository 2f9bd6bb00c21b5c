import PyProof.Rows.All
import Wide.All
import OpenK.AllK
import Wide.FinOn
import PyProof.Draws
import PyProof.EnumMake
import HandS.Base
import HandS.Call
import HandS.List
import HandS.Dict
import HandS.Iter
import HandS.Walk
import KE.KExcSuper
import PyProof.FString
import HandS.Exc
import HandS.TryOnly
import HandS.ExcOwn
import KE.KExcIs
import HandS.ExcIs
import HandS.Text
import PyProof.StrBlock2
import HandS.ForMost
import HandS.ForExc
import HandS.Wide
import HandS.StrMore
import HandS.Steps
import HandS.Evl
import HandS.Codes
import PySem.Challenge.RW_sugartrue_k02_errors_of_texts
set_option Elab.async false
set_option linter.all false
set_option maxRecDepth 100000
set_option maxHeartbeats 4000000
namespace L2
open PySem PySem.Spec PyProof.Rows
/-! ### enumerate(text) -/
/-- the signs of a text, each with its place in a new pair -/
def ItE (x : Str) : It :=
  ⟨fun i _ => i < x.cps.size, fun i H v H' => ∃ T c, v = .ref T ∧ H T = none ∧ H' = upd H T (.tup [.int (i : Nat), .str ⟨#[c]⟩]) ∧ x.cps[i]? = some c, fun i _ => i = x.cps.size⟩
theorem str_iter_draws {P : Program} {w : World} {A : Around} (hh : A.handled = none) (it : Addr) (x : Str) (t : Tok) :
    Draws P w A it [it] x.cps.size (SignAt x) (fun i h => h.IsStrIter it (strIterType x) x t i) := by
  cases ha : x.cps.all (fun c => decide (c < 128))
  · have e : strIterType x = "str_iterator" := by simp [strIterType, ha]
    rw [e]
    exact Draws.strWide hh it x t
  · have e : strIterType x = "str_ascii_iterator" := by simp [strIterType, ha]
    rw [e]
    exact Draws.strAscii hh it x t
theorem turn_enumS {P : Program} {w : World} {K : PySem.W.Frag} {elts : List Expr} {kk : Nat} {tpos : Pos} (x : Str) (t : Tok) (e it : Addr) :
    Turn P w K (.Tuple elts kk tpos) (ItE x) [e, it] e (fun i h => (∃ old, IsEnum h e it ((i : Nat) : Int) old) ∧ h.IsStrIter it (strIterType x) x t i ∧ e ≠ it) where
  mem := by simp
  obj := fun i h stt b hb => by
    obtain ⟨⟨old, kE⟩, ⟨o, kO, eqC, kD⟩, _⟩ := stt
    have eb : b = e ∨ b = it := by simpa using hb
    rcases eb with z | z
    · rw [z]; exact ⟨_, kE, fun v q => nomatch q⟩
    · rw [z]; exact ⟨o, kO, fun v q => by rw [kD] at q; cases q⟩
  keep := fun i h h' stt k => let ⟨⟨old, kE⟩, ⟨o, kO, r⟩, kN⟩ := stt; ⟨⟨old, k e (by simp) _ kE⟩, ⟨o, k it (by simp) o kO, r⟩, kN⟩
  item := by
    intro X eqP eqW eqK eqC i pns s σ H E I kF stt kG
    subst eqP eqW eqK
    obtain ⟨⟨old, kE⟩, kT, kN⟩ := stt
    have ltE : e < s.heap.objs.size := Heap.lt_size kE
    have ltT : it < s.heap.objs.size := by obtain ⟨_, q, _⟩ := kT; exact Heap.lt_size q
    refine wpAny_pyNext_enum_itemD (str_iter_draws (A := X.A.in1) (I.ok.hd eqC) it x t) kE kT kG kN (by simpa using kN) fun u h' tk eqP kO kT2 kU kZ kK => ?_
    obtain ⟨c, tk2, hcx, rfl⟩ := eqP
    refine ⟨_, rfl, wpAny_letOwnedTupleGo_enum (s := { s with heap := h', toks := tk + 1 }) kO fun h'' kE2 kB => ?_⟩
    have hT2 : h''.get? s.heap.objs.size = some { cls := .type "tuple", data := .seq #[.int i tk, .str ⟨#[c]⟩ tk2] } := (kB.2 _ (Nat.ne_of_gt ltE)).trans kU
    have nob : ObjOk X.prog X.w (upd H s.heap.objs.size (.tup [.int (i : Nat), .str ⟨#[c]⟩])) h'' s.heap.objs.size (.tup [.int (i : Nat), .str ⟨#[c]⟩]) :=
      ⟨by show 2 ≤ sizeLine; decide, [.int i tk, .str ⟨#[c]⟩ tk2], .cons ⟨_, rfl⟩ (.cons ⟨_, rfl⟩ .nil), ⟨_, hT2, rfl, _, rfl⟩⟩
    have J1 : Inv X pns σ (upd H s.heap.objs.size (.tup [.int (i : Nat), .str ⟨#[c]⟩])) { s with heap := h'', toks := tk + 1 } :=
      I.turnedNew (ch := [e, it]) (fun b ob hb q => (kB.2 b (fun z => hb (by simp [z]))).trans (kK b ob (fun z => hb (by simp [z])) (fun z => hb (by simp [z])) q)) kF (Nat.le_refl _) nob
    refine ⟨.ref s.heap.objs.size, _, J1, rfl, ⟨_, c, rfl, I.hok.fresh (Nat.le_refl _), rfl, hcx⟩, ⟨⟨.str ⟨#[c]⟩ tk2, ?_⟩, ?_, kN⟩, fun b hb => ?_⟩
    · have e1 : ((i + 1 : Nat) : Int) = (i : Int) + 1 := by omega
      rw [e1]; exact kE2
    · obtain ⟨o, q, r⟩ := kT2
      exact ⟨o, (kB.2 it (Ne.symm kN)).trans q, r⟩
    · have lb : b < s.heap.objs.size := by
        have eb : b = e ∨ b = it := by simpa using hb
        rcases eb with z | z
        · rw [z]; exact ltE
        · rw [z]; exact ltT
      rw [upd_ne (Nat.ne_of_lt lb)]
      exact (kF b hb).1
  done := by
    intro X eqP eqW eqK eqC i pns s σ H E I kF stt kG
    subst eqP eqW eqK
    obtain ⟨⟨old, kE⟩, kT, kN⟩ := stt
    have hg' : i = x.cps.size := kG
    subst hg'
    obtain ⟨w0, w1, w2, w3, w4, w5⟩ := kF it (by simp)
    exact wpAny_pyNext_enum_endD (str_iter_draws (A := X.A.in1) (I.ok.hd eqC) it x t) kE kT fun h' eb => ⟨rfl, I.turned (t' := s.toks) (fun b o hb q => eb b o hb q) w0 w1 w3 w4 w5⟩
  self := fun A i s Q E stt h => let ⟨⟨_, kE⟩, _⟩ := stt; wpAny_pyIter_enum kE h
def iEnumS (ta : TA) : TI := fun σ H R => ta σ H fun vs H1 => ∃ x, vs = [.str x] ∧ R (ItE x) H1
theorem pi_enumS {X : Cx} {e : Expr} {ta : TA} {p pos tpos : Pos} {elts : List Expr} {kk : Nat} (kG : Gl X "enumerate") (hm : X.mg "enumerate" = none) (ha : PA X [e] ta) (hs : starEach [e] X.env = [(false, eval e X.env)] := by rfl) :
    PI X (.Tuple elts kk tpos) (.Call (.Name "enumerate" p) [e] [] pos) (iEnumS ta) := by
  refine ⟨fun pns s σ H R I h => ?_⟩
  refine Call_ (ld_blt I kG hm boot_enumerate (PyProof.Rows.callWith_type1 (thn (ha.run pos pns s σ H _ I h) fun uss sA ⟨vs, H1, J1, r1, w1q⟩ => ?_) hs rfl))
  obtain ⟨x, ex, q⟩ := w1q
  subst ex
  cases r1 with
  | cons r rr =>
    cases rr
    obtain ⟨t, rfl⟩ := r
    refine call_enumerate_str fun h' kE kT kZ kK => wpAny_pyIter_enum kE ?_
    have J2 : Inv X pns σ H1 { sA with heap := h' } := J1.kept (t' := sA.toks) kK
    refine ⟨sA.heap.objs.size + 1, [sA.heap.objs.size + 1, sA.heap.objs.size], _, _, H1, rfl, J2, turn_enumS x t (sA.heap.objs.size + 1) sA.heap.objs.size, ⟨⟨.none, kE⟩, kT, Nat.succ_ne_self _⟩, fun b hb => ?_, q⟩
    have eb : b = sA.heap.objs.size + 1 ∨ b = sA.heap.objs.size := by simpa using hb
    have leb : sA.heap.objs.size ≤ b := by
      rcases eb with z | z
      · rw [z]; exact Nat.le_add_right _ _
      · rw [z]; exact Nat.le_refl _
    exact J1.fpOk leb (J1.hok.fresh leb)
theorem walk_enumS {x : Str} : Walk (ItE x) x.cps.size (fun _ => True) (fun i H v H' => ∃ T c, v = .ref T ∧ H T = none ∧ H' = upd H T (.tup [.int (i : Nat), .str ⟨#[c]⟩]) ∧ x.cps[i]? = some c) :=
  ⟨fun _ _ hi _ => hi, fun _ _ => rfl, fun _ _ _ _ _ _ y => y⟩
end L2

/-! TextError: an own error over an own error over ValueError, whose __init__ says super().__init__(f'..{at}') and keeps at -/
namespace PySem
namespace TeX
open PySem.W PySem.Calls PyProof.Rows PySem.HandSPX
def iA (p1 p2 : Pos) : Arguments := { posonlyargs := [], args := [{ arg := "self", annotation := none, pos := p1 }, { arg := "at", annotation := none, pos := p2 }], vararg := none, kwonlyargs := [], kw_defaults := [], kwarg := none, defaults := [] }
def iB (q1 q2 q3 q4 q5 q6 q7 q8 q9 r1 r2 r3 r4 : Pos) : List Stmt :=
  [.Expr (.Call (.Attribute (.Call (.Name "super" q1) [] [] q2) "__init__" q3) [.JoinedStr [.Constant (.str "the text is wrong at position ") 0 q4, .FormattedValue (.Name "at" q5) (-1) none q6] q7] [] q8) q9,
   .Assign [.Attribute (.Name "self" r1) "at" r2] (.Name "at" r3) r4]
def iS : Scope := { kind := .function, names := [(PySem.Str.ofString "self", .local), (PySem.Str.ofString "at", .local), (PySem.Str.ofString "__class__", .free), (PySem.Str.ofString "super", .globalImplicit)], isGenerator := false, isCoroutine := false, more := [] }
/-- the call's arm as it stands at these places -/
def CallForm (q1 q2 q3 q4 q5 q6 q7 q8 : Pos) (fI cc cda : Addr) : Prop := ∀ L : Addr, ∃ pl : Sem Bool,
  eval (.Call (.Attribute (.Call (.Name "super" q1) [] [] q2) "__init__" q3) [.JoinedStr [.Constant (.str "the text is wrong at position ") 0 q4, .FormattedValue (.Name "at" q5) (-1) none q6] q7] [] q8) (ksEnv "TextError.__init__" iS L fI (.ref cda) cc) = (do
      let ov ← attributeBase (.Call (.Name "super" q1) [] [] q2) "__init__" (ksEnv "TextError.__init__" iS L fI (.ref cda) cc) (eval (.Call (.Name "super" q1) [] [] q2) (ksEnv "TextError.__init__" iS L fI (.ref cda) cc))
      standAt q3.atName
      let (f, first) ← holding [ov] (getMethod ov "__init__" pl)
      callWith q8 f first (backTo q8 (starEach [.JoinedStr [.Constant (.str "the text is wrong at position ") 0 q4, .FormattedValue (.Name "at" q5) (-1) none q6] q7] (ksEnv "TextError.__init__" iS L fI (.ref cda) cc))) [])
structure TeTxt (prog : Program) (K : Frag) (mg : Str → Option Value) (C fI cc cda : Addr) : Prop where
  gC : mg "TextError" = some (.ref C)
  cls : ∃ nm q N bs bm sn sub ab col dd k0 k1 k2 k3 k5, K.lookup C = some (excClassObj nm q C N bs bm true sn sub ab col dd k0 k1 k2 k3 k5 "ValueError.__new__") ∧ refsVE bm = true
  sa : findIn K (.ref C) "__setattr__" = some (some (.builtin "object.__setattr__"))
  ga : findIn K (.ref C) "__getattribute__" = some (some (.builtin "BaseException.__getattribute__"))
  gg : findIn K (.ref C) "__getattr__" = some none
  noN : findIn K (.ref C) "at" = some none
  iC : findIn K (.ref C) "__init__" = some (some (.ref fI))
  tC : typeIn K (.ref fI) = some (.type "function")
  kC : keepIn K (.ref C) = true
  exC : subIn K (.ref C) (.type "BaseException") = some true
  tyC : typeIn K (.ref C) = some (.type "type")
  hdC : hasDictIn K C = true
  te : exmOne K (.ref C) (.ref C) = some true
  op : nsIn K cStatics "thirdparty.any" = some none
  vE : subIn K (.ref C) (.type "ValueError") = some true
  su : ks_superIn K C C "__init__" = some (some (.builtin "ValueError.__init__"))
  mr : mroIn K C (.ref C) = some true
  ms : mg "super" = none
  cell : ∃ cl cld csl, K.lookup cc = some ⟨cl, cld, .cell (some (.ref C)), csl⟩
  code : ∃ ccl cdd vs ccs file tf, K.lookup cda = some ⟨ccl, cdd, .fields vs, ccs⟩ ∧ vs[2]? = some (.str file tf) ∧ ((prog.main.file : Str) == file) = true
  top : (prog.main.scope.names.lookup ("super" : Str)).isSome = false
  fn : ∃ (oc : Value) (od : Option Addr) (doc pm : Value) (an : Option Addr) (ct : Value) (osl : Array (Option Value)) (p1 p2 q1 q2 q3 q4 q5 q6 q7 q8 q9 r1 r2 r3 r4 : Pos),
    K.lookup fI = some ⟨oc, od, .func (ksFn "__init__" "TextError.__init__" (iA p1 p2) (iB q1 q2 q3 q4 q5 q6 q7 q8 q9 r1 r2 r3 r4) iS .none .none doc pm an (.ref cda) ct cc), osl⟩ ∧ codeIn K (.ref cda) "TextError.__init__" = true ∧ CallForm q1 q2 q3 q4 q5 q6 q7 q8 fI cc cda
theorem one_size (v : Value) : [v].length ≤ sizeLine := by
  rw [sizeLine_eq]
  exact (by decide : 1 ≤ 16777216)
section
variable {prog : Program} {w : World} {A : Around} {E : Value → Shared → Prop} {hh : Heap} {gg : Array GenState} {dd0 : Drawn} {tt : Nat} {oo : OsState}
variable {nmC qnC : Str} {C nsC : Addr} {bsC bmC : List Value} {hdC : Bool} {snC : List Str} {subC : List Value} {abC : Bool} {colC : Option Bool} {ddC : Option Addr} {kA kB kD kE kF : Option Value}
/-- the wrapper of ValueError.__init__ is called -/
theorem call_bw {wr x t0 : Addr} {vs : List Value} {Q : Value → Shared → Prop}
    (hC : hh.get? C = some (excClassObj nmC qnC C nsC bsC bmC hdC snC subC abC colC ddC kA kB kD kE kF "ValueError.__new__")) (hx : hh.get? x = some (excO C t0)) (hw : hh.get? wr = some (kxs_mw "ValueError.__init__" x)) (hl : vs.length ≤ sizeLine)
    (hq : ∀ h2 t2, (∀ b o, b ≠ x → hh.get? b = some o → h2.get? b = some o) → h2.get? x = some (excO C t2) → Q .none ⟨h2, gg, dd0, tt, oo⟩) :
    wpAny (model prog w) A (call (.ref wr) vs) Q E ⟨hh, gg, dd0, tt, oo⟩ := by
  have isW : (Value.type "method-wrapper" == Value.type "method" || Value.type "method-wrapper" == Value.type "builtin_function_or_method" || Value.type "method-wrapper" == Value.type "method-wrapper") = true := by decide
  apply wpAny_call
  apply codeAny_of_tree
  show wpAny (model prog w) A.in1 (callAny (.ref wr) ⟨vs, []⟩) _ _ _
  unfold callAny
  refine wpAny_bind (wpAny_load hw ?_)
  simp only [kxs_mw, isW, if_true]
  apply KFB.if_so (by decide)
  refine wpAny_bind (check_bound_init PySem.F.excBase_ValueError.toExcCallFacts hC hx rfl (wpAny_bind (wpAny_pure (wpAny_pure ?_))))
  exact ⟨plainId_quiet PySem.F.excBase_ValueError.init.plain _, codeAny_builtin PySem.F.excBase_ValueError.initEntry
    (exc_init_tree (cls := .ref C) (t0 := t0) (dv := none) (c2 := .none) (c3 := .none) (b4 := .bool false) hx hl fun h2 k e2 _ => hq h2 _ k e2)⟩
end
/-- what __init__ leaves of a fresh exception at x -/
structure InitEnd (h h' : Heap) (x C dx t1 : Addr) (v : Value) : Prop where
  keep : ∀ b o, b ≠ x → h.get? b = some o → h'.get? b = some o
  obj : h'.get? x = some { cls := .ref C, dict := some dx, data := .fields #[.ref t1, .none, .none, .none, .bool false, .none] }
  dbig : h.objs.size ≤ dx
  dne : dx ≠ x
  ns : h'.Ns1 dx (fun y => if y = "at" then some v else none)
theorem callWith_mw {M : Model} {A : Around} {E : Value → Shared → Prop} {s : Shared} {wr x : Addr} {nm : String} {pos : Pos} {pre : List Value} {env : Env} {e1 : Expr} {es : List Expr} {Q : Value → Shared → Prop}
    (hq : wpAny M A (spliced (backTo pos (starEach (e1 :: es) env))) (fun vs s1 => KxsAt nm wr x s1.heap ∧ wpAny M A (call (.ref wr) (pre ++ vs)) Q E s1) E s)
    (hs : starEach (e1 :: es) env = (false, eval e1 env) :: starEach es env := by rfl) (hp : (backTo pos (starEach es env)).any (·.1) = false := by rfl) :
    wpAny M A (callWith pos (.ref wr) pre (backTo pos (starEach (e1 :: es) env)) []) Q E s := by
  rw [hs] at hq ⊢
  have hp2 : (backTo pos ((false, eval e1 env) :: starEach es env)).any (·.1) = false := by
    show (false || (backTo pos (starEach es env)).any (·.1)) = false
    rw [hp]
    rfl
  exact kxs_callWith (i := nm) (x := x) hp2 (evalArgs_plain hq)
theorem fits_msg {n : Int} (hn : n.natAbs.log2 < 1920) : (("the text is wrong at position " : Str) ++ (Str.ofString (toString n))).length ≤ sizeLine := by
  have h1 := PyProof.Rows.int_text_len_1921 hn
  have h2 : (("the text is wrong at position " : Str) ++ (Str.ofString (toString n))).length = ("the text is wrong at position " : Str).length + (Str.ofString (toString n)).length := by
    first | exact Str.length_append _ _ | simp
  have h3 : ("the text is wrong at position " : Str).length = 30 := by decide +kernel
  rw [h2, h3, sizeLine_eq]
  omega
structure OwnMade (h h' : Heap) (e C d : Addr) (v : Value) : Prop where
  keep : ∀ b o, h.get? b = some o → h'.get? b = some o
  new : h.objs.size ≤ e
  obj : ∃ oe vs, h'.get? e = some oe ∧ oe.cls = .ref C ∧ oe.dict = some d ∧ oe.data = .fields vs ∧ vs[1]? = some .none
  dbig : h.objs.size ≤ d
  dne : d ≠ e
  ns : h'.Ns1 d (fun y => if y = "at" then some v else none)
section
variable {prog : Program} {w : World} {A : Around} {E : Value → Shared → Prop} {R : Result → Shared → Prop} {s : Shared} {K : Frag} {mg : Str → Option Value} {C fI cc cda : Addr}
theorem te_init (T : TeTxt prog K mg C fI cc cda) {x t0 : Addr} {n : Int} {tn : Tok} (hn : n.natAbs.log2 < 1920) (X : K.In s.heap) (G : s.heap.Ns mainGlobals mg) (Bt : ∃ mb, s.heap.Ns builtinsNs mb ∧ ∀ x : Str, x ≠ "__name__" → mb x = bootBuiltins x)
    (hlim : s.heap.NoLimit) (hx : s.heap.get? x = some (excO C t0)) (hnx : K.lookup x = none) (hroom : A.depth < recursionLimit)
    (hq : ∀ h' tk dx t1, InitEnd s.heap h' x C dx t1 (.int n tn) → R (.ok (.ret .none)) { s with heap := h', toks := tk }) :
    codeAny (model prog w) A (.call (.ref fI) ⟨[.ref x, .int n tn], []⟩) R s := by
  obtain ⟨oc, od, doc, pm, an, ct, osl, p1, p2, q1, q2, q3, q4, q5, q6, q7, q8, q9, r1, r2, r3, r4, ho, hcd, hform⟩ := T.fn
  obtain ⟨nm, q, N, bs, bm, sn, sub, ab, col, dd, k0, k1, k2, k3, k5, hC, hbm⟩ := T.cls
  obtain ⟨cl, cld, csl, hcell⟩ := T.cell
  obtain ⟨ccl, cdd, vs, ccs, file, tf, hcode, hvs, hfile⟩ := T.code
  obtain ⟨mb, hb1, hb2⟩ := Bt
  have hcl : clsIn K C = some { name := nm, bases := bs, mro := .ref C :: bm, ns := N, qualname := q, hasDict := true, slotNames := sn, subclasses := sub, abstract := ab, collection := col, hasDel := false } := by unfold clsIn; rw [hC] <;> rfl
  refine ks_codeAny_call_defAt (fd := ksFn "__init__" "TextError.__init__" (iA p1 p2) (iB q1 q2 q3 q4 q5 q6 q7 q8 q9 r1 r2 r3 r4) iS .none .none doc pm an (.ref cda) ct cc) (body := iB q1 q2 q3 q4 q5 q6 q7 q8 q9 r1 r2 r3 r4)
    (binds := [("self", .ref x), ("at", .int n tn)]) hroom (X _ _ ho) rfl hlim (codeRec_of X hcd) rfl (BindsTo.of_eq rfl) (by show ∀ x ∈ iS.names, x.2 ≠ NameKind.cell; decide) (fun y hy => ?_) (fun h₁ hns k => ?_)
  · have e : y = (("self" : Str), Value.ref x) ∨ y = (("at" : Str), Value.int n tn) := by simpa using hy
    rcases e with rfl | rfl <;> rfl
  have X₁ : K.In h₁ := X.keeps k
  have hx₁ := k _ _ hx
  have hxL : s.heap.objs.size ≠ x := Nat.ne_of_gt (Heap.lt_size hx)
  obtain ⟨sh, sg, sd, st, sos⟩ := s
  obtain ⟨pl, hform⟩ := hform sh.objs.size
  refine ks_wpAt_execs_cons (ks_wpAt_Expr_any (ks_wpAt_MethodCall (pl := pl) ?_ hform))
  refine ks_wpAt_super_base (vs := vs) (hks := rfl) (hkc := rfl) (hat := by decide) (hfu := rfl) (hf := k _ _ (X _ _ ho)) (hfd := rfl) (hp := rfl) (hco := rfl) (hcc := k _ _ (X _ _ hcode)) (hoc := rfl) hvs hfile T.top ?_
  refine ks_loadName_global rfl rfl (loadGlobal_builtin (G.keeps k) T.ms (hb1.keeps k) ((hb2 _ (by decide)).trans (by first | boot_by_name | rfl | kernel_rfl)) ⟨rfl, ?_⟩)
  refine wpAny_loadName_free rfl rfl rfl ⟨_, k _ _ (X _ _ hcell), rfl⟩ ?_
  refine wpAny_loadName_local rfl rfl hns rfl ?_
  refine ks_wpAny_isType_cls (X₁ _ _ hC) rfl ⟨rfl, ?_⟩
  refine ks_wpAny_call_super (X₁ _ _ hC) rfl hx₁ rfl (fun c e => nomatch e) (looks_mroIn X₁ T.mr) (fun h₂ e₂ k₂ => ?_)
  have X₂ : K.In h₂ := X₁.keeps k₂
  have hx₂ := k₂ _ _ hx₁
  have I₁ : InstAt h₁ x (excO C t0) C none := ⟨hx₁, rfl, rfl, trivial⟩
  have I₂ : InstAt h₂ x (excO C t0) C none := ⟨hx₂, rfl, rfl, trivial⟩
  have hIs : Looks (model prog w) h₂ (isInstance (.ref x) (.type "ValueError")) true := I₂.type.andThen (looks_subIn X₂ T.vE)
  have hxC : x ≠ C := ks_ne X₁ I₁ hcl
  have su : alongIn K "__init__" (((Value.ref C :: bm).dropWhile (· != .ref C)).drop 1) = some (some (.builtin "ValueError.__init__")) := by
    have z := T.su
    unfold ks_superIn at z
    rw [hcl] at z
    exact z
  refine kxs_getMethod kxs_ValueError e₂ (looks_opaque X₂ T.op) (l₀ := .ref C :: bm) (fun A Q E s k q => wpAny_bind ((looks_clsIn X₂ hcl) A _ E s k (wpAny_pure q))) rfl X₂ su hIs hxC (by decide) ?_
  have e₃ : (h₂.push (kxs_mw "ValueError.__init__" x)).get? h₂.objs.size = some (kxs_mw "ValueError.__init__" x) := Heap.get?_push_at rfl rfl
  have k₃ : ∀ b o, h₂.get? b = some o → (h₂.push (kxs_mw "ValueError.__init__" x)).get? b = some o := fun b o e => Heap.get?_push_of_some _ e
  generalize h₂.push (kxs_mw "ValueError.__init__" x) = h₃ at e₃ k₃
  generalize h₂.objs.size = u at e₃
  have hns₃ := (hns.keeps k₂).keeps k₃
  refine callWith_mw (nm := "ValueError.__init__") (x := x) (spliced_more ?_)
  refine wpAny_JoinedStr ?_
  refine wpAny_Constant_str ⟨_, _, rfl, by first | decide +kernel | size_fits, ?_⟩
  refine wpAny_FormattedValue_plain ?_
  refine wpAny_Name (wpAny_loadName_local rfl rfl hns₃ rfl ?_)
  refine wpAny_formatField_int hn ⟨_, _, rfl, fits_msg hn, ?_⟩
  refine ⟨fits_msg hn, spliced_none ⟨e₃, ?_⟩⟩
  have X₃ : K.In h₃ := X₂.keeps k₃
  refine call_bw (X₃ _ _ hC) (k₃ _ _ hx₂) e₃ (one_size _) (fun h₄ t1 k₄ hx₄ => ?_)
  have hns₄ : h₄.Ns sh.objs.size (fun y => ([(("self" : Str), Value.ref x), (("at" : Str), Value.int n tn)] : List (Str × Value)).reverse.lookup y) := by
    obtain ⟨oL, es, ep, hL, r⟩ := hns₃
    exact ⟨oL, es, ep, k₄ _ _ hxL hL, r⟩
  have X₄ : K.In h₄ := fun a o e => k₄ a o (fun z => by rw [z, hnx] at e; cases e) (X₃ a o e)
  show _root_.PySem.wpAt _ _ _ (execs _ _) _ _ _
  refine wpAt_of_wpAny ?_
  refine wpAny_execs_cons (plainObj_wpAny_Assign_Attribute ?_)
  refine wpAny_Name (wpAny_loadName_local rfl rfl hns₄ rfl ?_)
  refine wpAny_Name (wpAny_loadName_local rfl rfl hns₄ rfl ?_)
  refine set_plain X₄ (ox := excO C t1) (od := none) ⟨hx₄, rfl, rfl, trivial⟩ T.sa ?_
  refine exc_osa X₄ hx₄ hcl (show refsVE (.ref C :: bm) = true from hbm) rfl T.noN (fun h₅ tk₅ dx k₅ dn dne hx₅ hn₅ => ?_)
  show wpAny _ _ (execs _ _) _ _ _
  have kk : ∀ b o, b ≠ x → sh.get? b = some o → h₅.get? b = some o := fun b o hb e => k₅ b o hb (k₄ b o hb (k₃ _ _ (k₂ _ _ (k b o e))))
  refine wpAny_execs_nil (hq h₅ tk₅ dx t1 ⟨kk, hx₅, ?_, dne, hn₅⟩)
  refine Nat.le_trans ?_ dn
  have z : sh.objs.size < h₄.objs.size := hns₄.lt
  exact Nat.le_of_lt z
theorem te_made (T : TeTxt prog K mg C fI cc cda) {n : Int} {tn : Tok} (hn : n.natAbs.log2 < 1920) (X : K.In s.heap) (G : s.heap.Ns mainGlobals mg) (Bt : ∃ mb, s.heap.Ns builtinsNs mb ∧ ∀ x : Str, x ≠ "__name__" → mb x = bootBuiltins x)
    (hlim : s.heap.NoLimit) (hroom : A.depth + 1 < recursionLimit)
    (hq : ∀ h' tk e d, OwnMade s.heap h' e C d (.int n tn) → R (.ok (.ret (.ref e))) { s with heap := h', toks := tk }) :
    codeAny (model prog w) A (.call (.ref C) ⟨[.int n tn], []⟩) R s := by
  obtain ⟨nm, q, N, bs, bm, sn, sub, ab, col, dd, k0, k1, k2, k3, k5, hC, hbm⟩ := T.cls
  obtain ⟨hp, g, dr, tk, os⟩ := s
  have k : ∀ b o, hp.get? b = some o → ((hp.push (kdv_tup [.int n tn])).push (excO C hp.objs.size)).get? b = some o := fun b o e => Heap.get?_push_of_some _ (Heap.get?_push_of_some _ e)
  have hget : ((hp.push (kdv_tup [.int n tn])).push (excO C hp.objs.size)).get? (hp.objs.size + 1) = some (excO C hp.objs.size) := by heap_get
  have hnx : K.lookup (hp.objs.size + 1) = none := by
    cases e : K.lookup (hp.objs.size + 1) with
    | none => rfl
    | some o =>
      have z : hp.get? (hp.objs.size + 1) = some o := X _ _ e
      exact absurd (Nat.lt_of_succ_lt (Heap.lt_size z)) (Nat.lt_irrefl _)
  obtain ⟨mb, hb1, hb2⟩ := Bt
  refine call_own F.excBase_ValueError (fun X => refsVE_contains X bm hbm) (X _ _ hC) (looks_findIn X T.iC) (fun self => bind_fn X self T.tC) (one_size _) ?_
  refine te_init (s := ⟨(hp.push (kdv_tup [.int n tn])).push (excO C hp.objs.size), g, dr, tk, os⟩) T hn (X.keeps k) (G.keeps k) ⟨mb, hb1.keeps k, hb2⟩ (hlim.keeps k) hget hnx ?_ fun h' tk' dx t1 ⟨k', hx, dn, dne, hns⟩ => ?_
  · show A.depth + 1 < recursionLimit
    exact hroom
  · have old : ∀ b o, hp.get? b = some o → h'.get? b = some o := fun b o e => k' b o (Nat.ne_of_lt (Nat.lt_succ_of_lt (Heap.lt_size e))) (k b o e)
    have z : hp.objs.size + 1 + 1 ≤ dx := by
      first
        | (simpa only [Heap.size_push] using dn)
        | exact dn
        | (have q := dn; rw [Heap.size_push, Heap.size_push] at q; exact q)
    exact ⟨rfl, hq h' tk' (hp.objs.size + 1) dx ⟨old, Nat.le_succ _, ⟨_, _, hx, rfl, rfl, rfl, rfl⟩, Nat.le_trans (Nat.le_trans (Nat.le_succ _) (Nat.le_succ _)) z, dne, hns⟩⟩
end
end TeX
end PySem
namespace L2
open PySem PySem.Spec PyProof.Rows
theorem relO_at {v : V} {v' : Value} (r : RelV v v') (f : Str) : RelO (List.lookup f [(("at" : Str), v)]) (if f = "at" then some v' else none) := by
  by_cases hw : f = "at"
  · subst hw
    rw [if_pos rfl]
    have q : List.lookup ("at" : Str) [(("at" : Str), v)] = some v := by simp [List.lookup]
    rw [q]
    exact r
  · rw [if_neg hw]
    have qw : (f == ("at" : Str)) = false := by simpa using hw
    have q2 : List.lookup f [(("at" : Str), v)] = none := by simp [List.lookup, qw]
    rw [q2]
    trivial
section
variable {X : Cx} {C fI cc cda : Addr}
/-- TextError(e) -/
def tMkTe (C : Addr) (ta : TA) : St → Hp → XK → Prop := fun σ H Q => ta σ H fun vs H1 => ∃ n : Int, vs = [.int n] ∧ n.natAbs.log2 < 1920 ∧ ∀ d, H1 d = none → Q (.ref C) (some d) (upd H1 d (.xd [(("at" : Str), .int n)]))
theorem pmk_te {a : Expr} {ta : TA} {p pos : Pos} {k : Nat} (T : PySem.TeX.TeTxt X.prog X.K X.mg C fI cc cda) (hr : Room k X.A) (ha : PA X [a] ta) (hg : Gl X "TextError" := by rfl)
    (he : starEach (a :: []) X.env = (false, eval a X.env) :: starEach [] X.env := by rfl) (hpl : (backTo pos (starEach [] X.env)).any (·.1) = false := by rfl) :
    PMk X (.Call (.Name "TextError" p) [a] [] pos) (tMkTe C ta) := by
  intro pins s σ H Q I h
  refine wpAny_Call_Name_kw (ld_glob I hg T.gC ?_)
  refine PySem.W.callWith_K (h₀ := X.base) I.ok.mod.kin T.kC (thn (ha.run pos pins s σ H _ I h) fun us s1 hh => ?_) he hpl
  obtain ⟨vs, H1, I1, r1, n, ev, hn, q1⟩ := hh
  subst ev
  refine ⟨I1.kIn, ?_⟩
  cases r1 with
  | cons rv rn =>
    rename_i v' us'
    cases rn
    obtain ⟨tn, rfl⟩ := id rv
    show wpAny _ _ (call (.ref C) [Value.int n tn]) _ _ _
    have hlim := I1.nolimit
    have hG := I1.ok.mod.glob.keeps I1.bk
    obtain ⟨mb, hb1, hb2⟩ := I1.ok.mod.blt
    have hB : ∃ mb, s1.heap.Ns builtinsNs mb ∧ ∀ x : Str, x ≠ "__name__" → mb x = bootBuiltins x := ⟨mb, hb1.keeps I1.bk, hb2⟩
    obtain ⟨hp, g, dr, tk, os⟩ := s1
    refine wpAny_call (PySem.TeX.te_made T hn I1.kIn hG hB hlim (by have := hr.dp; omega) fun h' tk' e d M => ?_)
    show MkP X pins σ Q (.ref e) ⟨h', g, dr, tk', os⟩
    obtain ⟨oe, fv, hoe, hc, hd, hdat, h1⟩ := M.obj
    have hns := M.ns
    obtain ⟨G', g1, g2⟩ := restrict h' fun b => decide (b ≠ e)
    have gk : ∀ b, b ≠ e → G'.get? b = h'.get? b := fun b hb => g1 b (decide_eq_true hb)
    have ge : G'.get? e = none := g2 e (by simp)
    have old : ∀ b o, hp.get? b = some o → G'.get? b = some o := fun b o q => (gk b (Nat.ne_of_lt (Nat.lt_of_lt_of_le (Heap.lt_size q) M.new))).trans (M.keep b o q)
    have ob : ObjOk X.prog X.w (upd H1 d (.xd [(("at" : Str), .int n)])) G' d (.xd [(("at" : Str), .int n)]) :=
      ⟨_, hns.at (fun o q => (gk d M.dne).trans q), fun f => relO_at rv f⟩
    have J : Inv X pins σ (upd H1 d (.xd [(("at" : Str), .int n)])) ⟨G', g, dr, tk', os⟩ := I1.laid (t' := tk') old M.dbig ob
    refine ⟨e, oe, fv, ⟨G', g, dr, tk', os⟩, _, .ref C, some d, rfl, J, fun b o q => ?_, ge, hoe, ⟨hc, hd⟩, hdat, h1, ?_, rfl, I1.bare, raises_own T.exC T.tyC, q1 d (I1.hok.fresh M.dbig)⟩
    · by_cases hb : b = e
      · have q' : G'.get? b = some o := q
        rw [hb, ge] at q'; cases q'
      · exact (gk b hb).symm.trans q
    · rw [upd_ne (Ne.symm M.dne)]
      exact I1.hok.fresh M.new
/-- raise TextError(e) -/
def tRaiseTe (C : Addr) (W : WX) (ta : TA) : TS := fun _ σ H => tMkTe C ta σ H fun cls d H' => W cls d σ H'
theorem ps_raiseTe {a : Expr} {ta : TA} {W : WX} {p pos pos2 : Pos} {k : Nat} (hc : X.calm = true) (T : PySem.TeX.TeTxt X.prog X.K X.mg C fI cc cda) (hr : Room k X.A) (tk : Takes X W) (ha : PA X [a] ta) (hg : Gl X "TextError" := by rfl)
    (he : starEach (a :: []) X.env = (false, eval a X.env) :: starEach [] X.env := by rfl) (hpl : (backTo pos (starEach [] X.env)).any (·.1) = false := by rfl) :
    PS X (.Raise (some (.Call (.Name "TextError" p) [a] [] pos)) none pos2) (tRaiseTe C W ta) := ps_raise hc tk (pmk_te T hr ha hg he hpl)
/-- e.at, e the exception that the suite holds (at a; its class cls, its dict d) -/
def tByTe (C : Addr) (a : Addr) (cls : Value) (d : Option Addr) (te : TE) : TE := fun σ H Q => te σ H fun x H1 => x = .ref a ∧ cls = .ref C ∧ ∃ (dd : Addr) (v : V), d = some dd ∧ H1 dd = some (.xd [(("at" : Str), v)]) ∧ Q v H1
theorem pe_byTe {a : Addr} {oe : Obj} {cls : Value} {d : Option Addr} {pn : List (Addr × Obj)} {e : Expr} {te : TE} {pos : Pos} (T : PySem.TeX.TeTxt X.prog X.K X.mg C fI cc cda) (hz : Zc cls d oe) (hf : ∃ vs, oe.data = .fields vs) (he : PE (X.suite a ((a, oe) :: pn)) e te)
    (hb : attributeBase e "at" X.env (eval e X.env) = eval e X.env := by rfl) :
    PE (X.suite a ((a, oe) :: pn)) (.Attribute e "at" pos) (tByTe C a cls d te) := by
  refine ⟨fun pins s σ H Q I h => ?_⟩
  refine attr_of hb (thn (he.run pins s σ H _ I h) fun u s1 hh => ?_)
  obtain ⟨x, H1, I1, rx, ex, ec, dd, v, ed, ea, q⟩ := hh
  subst ex
  obtain rfl : u = Value.ref a := rx
  subst ec
  subst ed
  obtain ⟨ha, _⟩ := I1.pin (a, oe) (List.mem_append_left _ List.mem_cons_self)
  obtain ⟨vs, hd⟩ := hf
  have hx : ObjOk X.prog X.w H1 s1.heap dd (.xd [(("at" : Str), v)]) := I1.hok dd _ ea
  obtain ⟨mA, hns, hr⟩ := hx
  obtain ⟨od, ho, hl⟩ := lookIn_ns hns
  have l : List.lookup ("at" : Str) [(("at" : Str), v)] = some v := by simp [List.lookup]
  obtain ⟨u, hu, ru⟩ := RelO.some_of (v := v) (o := mA "at") (by rw [← l]; exact hr "at")
  have J : PySem.W.InstAt s1.heap a oe C (some od) := ⟨ha, hz.1, by unfold PySem.W.notCls; rw [hd] <;> rfl, by rw [hz.2]; exact ho⟩
  exact HandSPX.exc_get I1.kIn J T.ga T.gg T.exC (PySem.W.findObj_own T.hdC T.noN rfl (by rw [hl, hu])) (handed_of ru) ⟨v, H1, I1.tok _, ru, q⟩
end
/-- an error of the class at S is what «except S» names -/
theorem exm_self {K : PySem.W.Frag} {S : Addr} (h1 : PySem.W.subIn K (.ref S) (.type "BaseException") = some true) (h2 : PySem.W.isClsIn K S = true) (h3 : PySem.W.typeIn K (.ref S) = some (.type "type")) (h4 : PySem.W.subIn K (.ref S) (.ref S) = some true) :
    PySem.W.exmOne K (.ref S) (.ref S) = some true := by
  have e1 : (PySem.W.subIn K (.ref S) (.type "BaseException") == some true) = true := by rw [h1] <;> rfl
  have e2 : ((PySem.W.clsIn K S).isSome && PySem.W.typeIn K (.ref S) == some (.type "type")) = true := by
    have h2' : (PySem.W.clsIn K S).isSome = true := h2
    rw [h2', h3] <;> rfl
  show (if (PySem.W.subIn K (.ref S) (.type "BaseException") == some true) = true then (if ((PySem.W.clsIn K S).isSome && PySem.W.typeIn K (.ref S) == some (.type "type")) = true then PySem.W.subIn K (.ref S) (.ref S) else none) else none) = some true
  rw [if_pos e1, if_pos e2]
  exact h4
end L2

namespace L2
open PySem PySem.Spec PyProof.Rows
section
variable {X : Cx}
/-- text * int -/
def rMulS : R2 := fun x y H Q => ∃ i n, x = .str i ∧ y = .int n ∧ MulOk i n ∧ Q (.str (Txt.mul i n)) H
theorem op_mulS : OpR X (binaryOp .Mult) rMulS := by
  intro pins s σ H x y v u Q I rx ry h
  obtain ⟨i, n, rfl, rfl, hz, q⟩ := h
  obtain ⟨t, rfl⟩ := rx
  obtain ⟨t', rfl⟩ := ry
  exact PySem.SB.mul hz (fun t' tk => ⟨.str (Txt.mul i n), H, I.tok _, ⟨_, rfl⟩, q⟩)
/-- isinstance(e, c), e the exception that the suite holds, with its own dict -/
def rIsO (K : PySem.W.Frag) (a : Addr) (cls : Value) (d : Option Addr) : List V → Hp → VK → Prop := fun xs H Q =>
  ∃ (D dd : Addr) (fs : List (Str × V)) (c : V) (cv : Value) (b : Bool), cls = .ref D ∧ d = some dd ∧ ExcC K D ∧ H dd = some (.xd fs) ∧ xs = [.ref a, c] ∧ (∀ u, RelV c u → u = cv) ∧ PySem.W.kitOne K (.ref D) cv = some b ∧ Q (.bl b) H
theorem call_isO {a : Addr} {cls : Value} {d : Option Addr} {oe : Obj} {pn : List (Addr × Obj)} (hz : Zc cls d oe) (hf : ∃ vs, oe.data = .fields vs) :
    CallR (X.suite a ((a, oe) :: pn)) (.builtin "isinstance") (rIsO X.K a cls d) := by
  intro pins s σ H xs us Q I r ⟨D, dd, fs, c, cv, b, ec, ed, C, hd, exs, hcv, hk, q⟩
  subst exs ec ed
  obtain ⟨u1, u2, rfl, r1, r2⟩ : ∃ u1 u2, us = [u1, u2] ∧ RelV (.ref a) u1 ∧ RelV c u2 := by
    cases r with
    | cons ra rr => cases rr with
      | cons rb rc => cases rc; exact ⟨_, _, rfl, ra, rb⟩
  have e1 : u1 = Value.ref a := r1
  subst e1
  have e2 := hcv _ r2
  subst e2
  have hget := (I.pin (a, oe) (List.mem_append.mpr (.inl List.mem_cons_self))).1
  obtain ⟨vs, hv⟩ := hf
  have hx : ObjOk X.prog X.w H s.heap dd (.xd fs) := I.hok dd _ hd
  obtain ⟨mA, hns, _⟩ := hx
  obtain ⟨od, ho, _⟩ := lookIn_ns hns
  have J : PySem.W.InstAt s.heap a oe D (some od) := ⟨hget, hz.1, by unfold PySem.W.notCls; rw [hv] <;> rfl, by rw [hz.2]; exact ho⟩
  have hcl : (PySem.W.clsIn X.K D).isSome = true := by
    obtain ⟨cd, hc, _⟩ := PySem.W.any_some C.hd
    rw [hc]
    rfl
  exact PySem.W.kia_one (PySem.W.kitx_exc hcl C.hg C.hk C.hs C.ha C.hn C.ht C.hm) I.kIn J hk (fun z => nomatch z) fun tk => ⟨.bl b, H, I.kept (t' := tk) fun _ _ z => z, rfl, q⟩
end
end L2

namespace Sg
open PySem
def topS (i : Nat) : Stmt := PySem.Challenge.pw_sugartrue_k02_errors_of_texts.main.body.getD i (.Pass ⟨0, 0, 0, 0⟩)
abbrev sSE : Stmt := topS 1
abbrev sTE : Stmt := topS 2
abbrev sFE : Stmt := topS 3
abbrev sMade : Stmt := topS 11
abbrev sIsInt : Stmt := topS 12
abbrev sIsName : Stmt := topS 13
abbrev sPieces : Stmt := topS 14
abbrev sRead : Stmt := topS 15
abbrev sState : Stmt := topS 17
abbrev sDraw : Stmt := topS 18
abbrev sPick : Stmt := topS 19
abbrev sAt : Stmt := topS 20
abbrev sGood : Stmt := topS 21
abbrev sLaw : Stmt := topS 22
end Sg

namespace Sg
open PySem PySem.Spec PyProof.Rows L2
/-! ### the law's own helpers -/
structure StAt (H : Hp) (p c : Addr) (xs : List Int) (sd : Int) : Prop where
  hp : H p = some (.lst [.ref c, .int sd])
  hc : H c = some (.lst (xs.map V.int))
  ne : p ≠ c
  len : xs.length ≤ 63
  pos : ∀ x ∈ xs, 0 ≤ x
  s0 : 0 ≤ sd
  s1 : sd < 2147483647
def St (p c : Addr) (H : Hp) : Prop := ∃ xs sd, StAt H p c xs sd
/-- all but the state stands -/
def Kp (p c : Addr) (H H' : Hp) : Prop := ∀ b o, b ≠ p → b ≠ c → H b = some o → H' b = some o
theorem Kp.refl (p c : Addr) (H : Hp) : Kp p c H H := fun _ _ _ _ h => h
theorem Kp.trans {p c : Addr} {H H1 H2 : Hp} (a : Kp p c H H1) (b : Kp p c H1 H2) : Kp p c H H2 := fun x o n m h => b x o n m (a x o n m h)
theorem Same.kp {p c : Addr} {H H' : Hp} (a : Same H H') : Kp p c H H' := fun x o _ _ h => a x o h
theorem St.same {p c : Addr} {H H' : Hp} (a : Same H H') (s : St p c H) : St p c H' := by
  obtain ⟨xs, sd, s⟩ := s
  exact ⟨xs, sd, a _ _ s.hp, a _ _ s.hc, s.ne, s.len, s.pos, s.s0, s.s1⟩
theorem same_new {H : Hp} {p : Addr} (h : H p = none) (o : HO) : Same H (upd H p o) := fun b u q => by rw [upd_ne (ne_of_none q h)]; exact q
theorem same_mut {H H' : Hp} {p : Addr} (e : Same H H') (h : H p = none) (o : HO) : Same H (upd H' p o) := fun b u q => by
  rw [upd_ne (ne_of_none q h)]
  exact e b u q
theorem get_map {α β : Type} {g : α → β} {l : List α} {i : Nat} {y : β} (h : (l.map g)[i]? = some y) : ∃ x, l[i]? = some x ∧ g x = y := by
  rw [List.getElem?_map] at h
  cases e : l[i]? with
  | none =>
    rw [e] at h
    cases h
  | some z =>
    rw [e] at h
    exact ⟨z, rfl, Option.some.inj h⟩
theorem take_map {α β : Type} (g : α → β) {l : List α} {i : Nat} {x : α} (h : l[i]? = some x) : (l.take (i + 1)).map g = (l.take i).map g ++ [g x] := by
  rw [List.take_add_one, h, List.map_append]
  rfl
theorem yes_k {σ : L2.St} {H : Hp} {A B : Bool → Hp → Prop} (h : A true H) : tYes σ H fun b H3 => if b = true then A b H3 else B b H3 := by
  show (if true = true then A true H else B true H)
  rw [if_pos rfl]
  exact h
theorem if_true_of {c : Bool} {A B : Prop} (hc : c = true) (h : A) : if c = true then A else B := by
  rw [if_pos hc]
  exact h
theorem if_false_of {c : Bool} {A B : Prop} (hc : c = false) (h : B) : if c = true then A else B := by
  rw [hc, if_neg Bool.false_ne_true]
  exact h
theorem small {n : Nat} (h : n ≤ 100000) : n ≤ sizeLine := Nat.le_trans h (by decide)
theorem smallL {n : Nat} (h : n ≤ 100000) : n < sizeLine := Nat.lt_of_le_of_lt h (by decide)
section
variable {P : Program} {w : World} {K : PySem.W.Frag} {mg : Str → Option Value} {base : Heap}
def spState (K : PySem.W.Frag) : Sp := fun vs H Q _ => ∃ (a : Addr) (ns : List Int), vs = [.ref a] ∧ SqL K H a (ns.map V.int) ∧ ns.length ≤ 63 ∧
  ∀ H' p c, Same H H' → H p = none → H c = none → St p c H' → Q (.ref p) H'
theorem scState : FnScope ["script", "seed", "cell"] ["script"] (defScope sState) := ⟨rfl, rfl, rfl, by decide +kernel, rfl, by decide +kernel, by decide +kernel⟩
theorem ok_state {f : Addr} {fd : FuncData} {k : Nat} (F : Fun K "_law_state" "_law_state" sState f fd) (mi : mg "int" = none) (ma : mg "abs" = none) : FnOk P w K mg base CX0 (k + 1) f fd ["script"] (spState K) := by
  refine F.ok scState (fun vs H Q E h => ?_) (fun cdv A outer s H vs Q E hr h => ?_)
  · obtain ⟨a, ns, rfl, _⟩ := h
    rfl
  obtain ⟨a, ns, rfl, hS, hlen, q⟩ := h
  refine ⟨_, pss_cons (ps_set (i := 1) scState.nd rfl (.inl rfl) pe_int)
    (pss_cons (ps_for PassesOwn.never rfl (pi_list (pv 0)) (pg_name (i := 2) scState.nd rfl (.inl rfl))
      (pss_one (ps_set (i := 1) scState.nd rfl (.inl rfl) (pe_op op_mod (pe_callTy call_int1 (by rfl) mi (by decide +kernel) (pa_cons (pe_op op_add (pe_op op_mul (pv 1) pe_int) (pv 2)) pa_nil)) pe_int))))
    (pss_one (ps_ret (pe_lst (pa_cons (pe_lc (own := [("cell", 2)]) (g := gName 2) (tt := tYes) rfl scState.nd (pi_list (pv 0)) (blkOk_by (N := ["script", "seed", "cell"]) (sc := defScope sState) (by decide +kernel))
        (fun _ _ _ _ _ => pg_name (i := 2) scState.nd rfl (Or.inl rfl)) (fun _ _ _ _ _ => pts_nil)
        (fun _ _ _ _ _ => pe_callB call_abs (by rfl) ma (by decide +kernel) (pa_cons (pe_callTy call_int1 (by rfl) mi (by decide +kernel) (pa_cons (pv 2) pa_nil)) pa_nil)))
      (pa_cons (pe_op op_add (pv 1) pe_int) pa_nil)))))), ?_⟩
  refine ⟨_, rfl, a, rfl, ⟨_, hS⟩, for_list (K := K) (a := a) (xs := ns.map V.int) (fun i σ H' => ∃ (y : Option V) (sd : Int), σ = [some (.ref a), some (.int sd), y] ∧ 0 ≤ sd ∧ sd < 1000003 ∧ H' = H)
    ⟨none, 7, rfl, by decide, by decide, rfl⟩ (fun i σ H' _ ⟨_, _, _, _, _, e⟩ => e ▸ hS) ?_ ?_⟩
  · rintro i x σ H' hx ⟨y, sd, rfl, h0, h1, rfl⟩
    obtain ⟨z, hz, rfl⟩ := get_map hx
    refine ⟨_, rfl, _, _, rfl, rfl, .inl ⟨by omega, by omega⟩, _, rfl, _, _, rfl, rfl, .inl ⟨_, rfl, _, _, rfl, rfl, (by show (0 : Int) < 1000003; decide), ?_⟩⟩
    exact ⟨some (.int z), (sd * 31 + z) % 1000003, rfl, Int.emod_nonneg _ (by decide), Int.emod_lt_of_pos _ (by decide), rfl⟩
  · rintro σ H' ⟨y, sd, rfl, h0, h1, rfl⟩
    refine ⟨_, rfl, a, rfl, ⟨_, hS⟩, fun D hD => ?_⟩
    refine lc_list (K := K) (a := a) (xs := ns.map V.int) (fun i H2 => Same H' H2 ∧ H2 D = some (.lst ((ns.take i).map fun n => V.int (if n < 0 then -n else n)))) ⟨same_new hD _, upd_same⟩ (fun i H2 _ e => e.1.seq hS) ?_ ?_
    · rintro i x H2 hx ⟨sm, eD⟩
      obtain ⟨z, hz, rfl⟩ := get_map hx
      refine ⟨rfl, yes_k ⟨_, rfl, .inl ⟨z, rfl, z, rfl, _, eD, ?_, same_mut sm hD _, ?_⟩⟩⟩
      · rw [List.length_map, List.length_take]
        exact smallL (by omega)
      · rw [upd_same, take_map _ hz]
    · rintro H2 ⟨sm, eD⟩
      rw [List.length_map, List.take_length] at eD
      refine ⟨_, rfl, _, _, rfl, rfl, (by show 2 ≤ sizeLine; decide), fun p hp => ?_⟩
      have npD : p ≠ D := fun e => by
        rw [e, eD] at hp
        cases hp
      refine q _ p D (sm.trans (same_new hp _)) (sm.free hp) hD ⟨ns.map fun n => if n < 0 then -n else n, sd + 1, upd_same, ?_, npD, ?_, fun x hx => ?_, by omega, by omega⟩
      · rw [upd_ne (Ne.symm npD), eD, List.map_map]
        rfl
      · rw [List.length_map]
        exact hlen
      · obtain ⟨n, _, rfl⟩ := List.mem_map.mp hx
        by_cases c : n < 0
        · rw [if_pos c]
          omega
        · rw [if_neg c]
          omega
end
end Sg

namespace Sg
open PySem PySem.Spec PyProof.Rows L2
section
variable {P : Program} {w : World} {K : PySem.W.Frag} {mg : Str → Option Value} {base : Heap}
/-- draw(state, many): a number below many; of what stood only the state's two lists change -/
def spDraw : Sp := fun vs H Q _ => ∃ (p c : Addr) (m : Int), vs = [.ref p, .int m] ∧ 0 < m ∧ m < 1073741824 ∧ St p c H ∧
  ∀ H' r, Kp p c H H' → St p c H' → 0 ≤ r → r < m → Q (.int r) H'
theorem scDraw : FnScope ["state", "many", "cells", "value", "mixed"] ["state", "many"] (defScope sDraw) := ⟨rfl, rfl, rfl, by decide +kernel, rfl, by decide +kernel, by decide +kernel⟩
theorem at0 {v : V} {r : List V} : atI (v :: r) 0 = some v := atI_nat (j := 0) rfl
theorem at1 {u v : V} {r : List V} : atI (u :: v :: r) 1 = some v := atI_nat (j := 1) rfl
/-- a store at p or c -/
theorem Kp.put {p c a : Addr} {H H' : Hp} (k : Kp p c H H') (ha : a = p ∨ a = c) (o : HO) : Kp p c H (upd H' a o) := fun b u nb nc e => by
  rw [upd_ne (fun z => by rcases ha with h | h; exact nb (z.trans h); exact nc (z.trans h))]
  exact k b u nb nc e
theorem Kp.mut {p c a : Addr} {H H' : Hp} (k : Kp p c H H') (ha : H a = none) (o : HO) : Kp p c H (upd H' a o) := fun b u nb nc e => by
  rw [upd_ne (ne_of_none e ha)]
  exact k b u nb nc e
theorem St.put {p c a : Addr} {H : Hp} (s : St p c H) (h1 : a ≠ p) (h2 : a ≠ c) (o : HO) : St p c (upd H a o) := by
  obtain ⟨xs, sd, s⟩ := s
  exact ⟨xs, sd, by rw [upd_ne (Ne.symm h1)]; exact s.hp, by rw [upd_ne (Ne.symm h2)]; exact s.hc, s.ne, s.len, s.pos, s.s0, s.s1⟩
/-- a new place is none of the state's -/
theorem St.new {p c a : Addr} {H : Hp} (s : St p c H) (h : H a = none) : a ≠ p ∧ a ≠ c := by
  obtain ⟨xs, sd, s⟩ := s
  exact ⟨fun e => (by rw [e, s.hp] at h; cases h), fun e => (by rw [e, s.hc] at h; cases h)⟩
theorem Kp.free {p c a : Addr} {H H' : Hp} (k : Kp p c H H') (s : St p c H') (h : H' a = none) : H a = none := by
  have n := s.new h
  cases e : H a with
  | none => rfl
  | some u =>
    rw [k a u n.1 n.2 e] at h
    cases h
theorem StAt.cells {H : Hp} {p c : Addr} {xs ys : List Int} {sd : Int} (s : StAt H p c xs sd) (hl : ys.length ≤ 63) (hp : ∀ x ∈ ys, 0 ≤ x) : StAt (upd H c (.lst (ys.map V.int))) p c ys sd :=
  ⟨by rw [upd_ne s.ne]; exact s.hp, upd_same, s.ne, hl, hp, s.s0, s.s1⟩
theorem StAt.seed {H : Hp} {p c : Addr} {xs : List Int} {sd n : Int} (s : StAt H p c xs sd) (h0 : 0 ≤ n) (h1 : n < 2147483647) : StAt (upd H p (.lst [.ref c, .int n])) p c xs n :=
  ⟨upd_same, by rw [upd_ne (Ne.symm s.ne)]; exact s.hc, s.ne, s.len, s.pos, h0, h1⟩
theorem ok_draw {f : Addr} {fd : FuncData} {k : Nat} (F : Fun K "_law_draw" "_law_draw" sDraw f fd) (mi : mg "int" = none) (ml : mg "len" = none) : FnOk P w K mg base CX0 (k + 1) f fd ["state", "many"] spDraw := by
  refine F.ok scDraw (fun vs H Q E h => ?_) (fun cdv A outer s H vs Q E hr h => ?_)
  · obtain ⟨p, c, m, rfl, _⟩ := h
    rfl
  obtain ⟨p, c, m, rfl, hm0, hm1, ⟨xs, sd, S⟩, q⟩ := h
  refine ⟨_, pss_cons (ps_set (i := 2) scDraw.nd rfl (.inl rfl) (pe_ix ix_list (pv 0) pe_int (fun _ _ => rfl)))
    (pss_cons (ps_while PassesOwn.never (pw_and (pt_cmpR op_gt (pe_callB call_len_seq (by rfl) ml PySem.boot_len (pa_cons (pv 2) pa_nil)) pe_int (nomark _)) (pw_and1 (pt_cmpR op_eq (pe_ix ix_list (pv 2) pe_int (fun _ _ => rfl)) pe_int (nomark _)))).pt
      (pss_one (ps_expr (pe_bm PySem.F.plainAttrs_list PySem.F.slot_list_pop PySem.F.type_list_pop mt_popAt (pv 2) (pa_cons pe_int pa_nil)))))
    (pss_cons (ps_if (pt_cmpR op_gt (pe_callB call_len_seq (by rfl) ml PySem.boot_len (pa_cons (pv 2) pa_nil)) pe_int (nomark _))
      (pss_cons (ps_set (i := 3) scDraw.nd rfl (.inl rfl) (pe_ix ix_list (pv 2) pe_int (fun _ _ => rfl)))
      (pss_cons (ps_asg (pe_op op_fdivW (pv 3) (pv 1)) (pg_sub (pv 2) pe_int set_list (fun _ => rfl)))
      (pss_one (ps_ret (pe_op op_mod (pe_callTy call_int1 (by rfl) mi (by decide +kernel) (pa_cons (pv 3) pa_nil)) (pv 1)))))) pss_nil)
    (pss_cons (ps_set (i := 4) scDraw.nd rfl (.inl rfl) (pe_op op_mod (pe_callTy call_int1 (by rfl) mi (by decide +kernel) (pa_cons (pe_op op_add (pe_op op_mul (pe_ix ix_list (pv 0) pe_int (fun _ _ => rfl)) pe_int) pe_int) pa_nil)) pe_int))
    (pss_cons (ps_asg (pv 4) (pg_sub (pv 0) pe_int set_list (fun _ => rfl)))
    (pss_one (ps_ret (pe_op op_mod (pe_callTy call_int1 (by rfl) mi (by decide +kernel) (pa_cons (pe_op op_fdiv (pv 4) pe_int) pa_nil)) (pv 1)))))))), ?_⟩
  refine ⟨_, rfl, p, _, 0, .ref c, rfl, rfl, SqL.of S.hp, at0, ?_⟩
  refine ⟨fun n σ H' => ∃ (xs : List Int) (sd : Int), σ = [some (.ref p), some (.int m), some (.ref c), none, none] ∧ StAt H' p c xs sd ∧ Kp p c H H' ∧ n = xs.length, ⟨_, xs, sd, rfl, S, Kp.refl p c H, rfl⟩, ?_⟩
  rintro n σ H' ⟨xs, sd, rfl, S, kp, rfl⟩
  refine ⟨_, rfl, c, _, rfl, .inl (SqL.of S.hc), _, _, rfl, rfl, _, rfl, ?_⟩
  cases xs with
  | nil =>
    refine if_false_of (by simp) ?_
    refine if_false_of rfl ?_
    refine ⟨_, rfl, c, _, rfl, .inl (SqL.of S.hc), _, _, rfl, rfl, _, rfl, ?_⟩
    refine if_false_of (by simp) ?_
    refine ⟨_, rfl, p, _, 1, .int sd, rfl, rfl, SqL.of S.hp, at1, _, _, rfl, rfl, .inl ⟨by have := S.s0; omega, by have := S.s1; omega⟩, _, _, rfl, rfl, .inl ⟨_, rfl, _, _, rfl, rfl, (by show (0 : Int) < 2147483647; decide), ?_⟩⟩
    refine ⟨_, rfl, _, rfl, p, _, 1, 1, rfl, rfl, S.hp, rfl, ?_⟩
    refine ⟨_, rfl, _, _, rfl, rfl, ⟨by decide, by decide⟩, .inl ⟨_, rfl, _, rfl, _, _, rfl, rfl, hm0, ?_⟩⟩
    refine q _ _ (kp.put (.inl rfl) _) ⟨[], _, S.seed (Int.emod_nonneg _ (by decide)) (Int.emod_lt_of_pos _ (by decide))⟩ (Int.emod_nonneg _ (by omega)) (Int.emod_lt_of_pos _ hm0)
  | cons x r =>
    refine if_true_of (by simp) ?_
    refine ⟨_, rfl, c, _, 0, .int x, rfl, rfl, SqL.of S.hc, at0, rfl, _, rfl, ?_⟩
    by_cases hx : x = 0
    · refine if_true_of (by simp [hx]) ?_
      refine ⟨_, fun _ _ z => z, ?_⟩
      refine ⟨_, rfl, .inl ⟨rfl, _, SqL.of S.hc⟩, c, _, 0, 0, .int x, rfl, rfl, S.hc, by decide, by decide, ?_, rfl, ?_⟩
      · simp [seqIndex?]
      · refine ⟨r.length, Nat.lt_succ_self _, r, sd, rfl, S.cells ?_ ?_, kp.put (.inr rfl) _, rfl⟩
        · have := S.len
          rw [List.length_cons] at this
          omega
        · exact fun y hy => S.pos y (List.mem_cons_of_mem _ hy)
    · refine if_false_of (by simp [hx]) ?_
      refine ⟨_, rfl, c, _, rfl, .inl (SqL.of S.hc), _, _, rfl, rfl, _, rfl, ?_⟩
      refine if_true_of (by simp) ?_
      refine ⟨_, rfl, c, _, 0, .int x, rfl, rfl, SqL.of S.hc, at0, ?_⟩
      refine ⟨_, rfl, _, rfl, _, _, rfl, rfl, wide_div (b := 30) hm0 (by omega) (by decide) (by decide), _, rfl, c, _, 0, 0, rfl, rfl, S.hc, ?_, ?_⟩
      · simp [ixN]
      · refine ⟨_, rfl, .inl ⟨_, rfl, _, rfl, _, _, rfl, rfl, hm0, ?_⟩⟩
        have St2 : ((x / m) :: r).length ≤ 63 → (∀ y ∈ (x / m) :: r, 0 ≤ y) → StAt (upd H' c (.lst ((List.map V.int (x :: r)).set 0 (.int (x / m))))) p c ((x / m) :: r) sd := fun a b => S.cells a b
        refine q _ _ (kp.put (.inr rfl) _) ⟨(x / m) :: r, sd, St2 ?_ ?_⟩ (Int.emod_nonneg _ (by omega)) (Int.emod_lt_of_pos _ hm0)
        · have := S.len
          rw [List.length_cons] at this ⊢
          exact this
        · intro y hy
          rcases List.mem_cons.mp hy with e | e
          · rw [e]
            exact Int.ediv_nonneg (S.pos x List.mem_cons_self) (by omega)
          · exact S.pos y (List.mem_cons_of_mem _ e)
end
end Sg

namespace Sg
open PySem PySem.Spec PyProof.Rows L2
section
variable {P : Program} {w : World} {K : PySem.W.Frag} {mg : Str → Option Value} {base : Heap}
/-- pick(state, row): one of the row's items -/
def spPick : Sp := fun vs H Q _ => ∃ (p c b : Addr) (xs : List V), vs = [.ref p, .ref b] ∧ H b = some (.lst xs) ∧ b ≠ p ∧ b ≠ c ∧ xs ≠ [] ∧ xs.length ≤ 1000 ∧ St p c H ∧
  ∀ H' v, Kp p c H H' → St p c H' → v ∈ xs → Q v H'
theorem scPick : FnScope ["state", "row"] ["state", "row"] (defScope sPick) := ⟨rfl, rfl, rfl, by decide +kernel, rfl, by decide +kernel, by decide +kernel⟩
theorem ok_pick {f fD : Addr} {fd fdD : FuncData} {k : Nat} (F : Fun K "_law_pick" "_law_pick" sPick f fd) (G : FnOk P w K mg base CX0 k fD fdD ["state", "many"] spDraw) (bD : Binds K fdD ["state", "many"] []) (kD : PySem.W.keepIn K (.ref fD) = true)
    (mD : mg "_law_draw" = some (.ref fD)) (ml : mg "len" = none) : FnOk P w K mg base CX0 (k + 1) f fd ["state", "row"] spPick := by
  refine F.ok scPick (fun vs H Q E h => ?_) (fun cdv A outer s H vs Q E hr h => ?_)
  · obtain ⟨p, c, b, xs, rfl, _⟩ := h
    rfl
  obtain ⟨p, c, b, xs, rfl, hb, nbp, nbc, hne, hlen, S, q⟩ := h
  refine ⟨_, pss_one (ps_ret (pe_ix ix_list (pv 1) (pe_call G hr (by rfl) mD kD bD .nil pass0 (pa_cons (pv 0) (pa_cons (pe_callB call_len_seq (by rfl) ml PySem.boot_len (pa_cons (pv 1) pa_nil)) pa_nil))) (fun _ _ => rfl))), ?_⟩
  have hl : 0 < xs.length := List.length_pos_iff.mpr hne
  refine ⟨_, rfl, _, rfl, _, rfl, b, _, rfl, .inl (SqL.of hb), p, c, _, rfl, ?_, ?_, S, fun H' r kp S' h0 h1 => ?_⟩
  · omega
  · omega
  · obtain ⟨n, rfl⟩ : ∃ n : Nat, r = n := ⟨r.toNat, by omega⟩
    have hn : n < xs.length := by omega
    refine ⟨b, xs, n, xs[n], rfl, rfl, SqL.of (kp b _ nbp nbc hb), atI_nat (List.getElem?_eq_getElem hn), q H' _ kp S' (List.getElem_mem hn)⟩
end
end Sg

namespace Sg
open PySem PySem.Spec PyProof.Rows L2
section
variable {P : Program} {w : World} {K : PySem.W.Frag} {mg : Str → Option Value} {base : Heap}
/-- all signs of t stand in s -/
def madeOf (t s : Str) : Bool := t.cps.toList.all fun c => decide (c ∈ s.cps.toList)
def spMade : Sp := fun vs H Q _ => ∃ (t s : Str), vs = [.str t, .str s] ∧ t.length ≤ 100000 ∧ ∀ H', Same H H' → Q (.bl (madeOf t s)) H'
theorem scMade : FnScope ["text", "signs", "sign"] ["text", "signs"] (defScope sMade) := ⟨rfl, rfl, rfl, by decide +kernel, rfl, by decide +kernel, by decide +kernel⟩
theorem len_cps (x : Str) : x.cps.toList.length = x.length := by
  rw [Array.length_toList]
  rfl
theorem ok_made {f : Addr} {fd : FuncData} {k : Nat} (F : Fun K "made_of" "made_of" sMade f fd) (ma : mg "all" = none) : FnOk P w K mg base CX0 (k + 1) f fd ["text", "signs"] spMade := by
  refine F.ok scMade (fun vs H Q E h => ?_) (fun cdv A outer st H vs Q E hr h => ?_)
  · obtain ⟨t, s, rfl, _⟩ := h
    rfl
  obtain ⟨t, s, rfl, hlen, q⟩ := h
  refine ⟨_, pss_one (ps_ret (pe_callB (cr_all rfl) (by rfl) ma boot_all (pa_cons (pe_lc (own := [("sign", 2)]) (g := gName 2) (tt := tYes) rfl scMade.nd (pi_str (pv 0)) (blkOk_by (N := ["text", "signs", "sign"]) (sc := defScope sMade) (by decide +kernel))
        (fun _ _ _ _ _ => pg_name (i := 2) scMade.nd rfl (Or.inl rfl)) (fun _ _ _ _ _ => pts_nil)
        (fun _ _ _ _ _ => pe_cmpR op_in_sign (pv 2) (pv 1) rfl)) pa_nil))), ?_⟩
  refine ⟨_, rfl, t, rfl, fun D hD => ?_⟩
  refine lc_it walk_str (fun i H2 => Same H H2 ∧ H2 D = some (.lst ((t.cps.toList.take i).map fun c => V.bl (decide (c ∈ s.cps.toList))))) ⟨same_new hD _, upd_same⟩ (fun _ _ _ _ => trivial) ?_ ?_
  · rintro i x H2 H3 hi ⟨sm, eD⟩ ⟨rfl, c, hc, rfl⟩
    refine ⟨rfl, yes_k ⟨_, rfl, _, rfl, c, s, rfl, rfl, _, eD, ?_, same_mut sm hD _, ?_⟩⟩
    · rw [List.length_map, List.length_take, len_cps]
      exact smallL (by omega)
    · rw [upd_same, take_map _ (x := c) (by rw [Array.getElem?_toList]; exact hc)]
  · rintro H2 ⟨sm, eD⟩
    rw [List.take_of_length_le (by rw [Array.length_toList]; exact Nat.le_refl _)] at eD
    refine ⟨D, t.cps.toList.map fun c => decide (c ∈ s.cps.toList), rfl, SqL.of (by rw [eD, List.map_map]; rfl), ?_⟩
    have e : (t.cps.toList.map fun c => decide (c ∈ s.cps.toList)).all id = madeOf t s := by
      rw [List.all_map]
      rfl
    rw [e]
    exact q H2 sm
end
end Sg

namespace Sg
open PySem PySem.Spec PyProof.Rows L2
/-! ### names_an_integer, is_a_name -/
def isDig (c : Nat) : Bool := decide (48 ≤ c ∧ c ≤ 57)
def isLet (c : Nat) : Bool := decide (97 ≤ c ∧ c ≤ 122)
def stripDash : List Nat → List Nat
  | 45 :: r => r
  | l => l
def isIntL (l : List Nat) : Bool := l == [48] || (decide (1 ≤ (stripDash l).length ∧ (stripDash l).length ≤ 9) && ((stripDash l).head? != some 48 && (stripDash l).all isDig))
def specials : List (List Nat) := [[43], [45], [42], [60], [61], [95], [46, 46, 46]]
def isNameL (l : List Nat) : Bool := decide (l ∈ specials) || (decide (l.length ≤ 20) && ((l.head?.map isLet).getD false && l.all fun c => isLet c || isDig c))
structure Consts (K : PySem.W.Frag) (mg : Str → Option Value) : Prop where
  dl : ∃ t, mg "DEEPEST_LIST" = some (.int 30 t)
  md : ∃ t, mg "MOST_DIGITS" = some (.int 9 t)
  ln : ∃ t, mg "LONGEST_NAME" = some (.int 20 t)
  di : ∃ t, mg "DIGITS" = some (.str "0123456789" t)
  le : ∃ t, mg "LETTERS" = some (.str "abcdefghijklmnopqrstuvwxyz" t)
  sp : ∃ a, mg "SPECIAL_NAMES" = some (.ref a) ∧ ∀ H, SqT K H a (specials.map fun l => V.str ⟨l.toArray⟩)
theorem digits_all (x : Str) : madeOf x "0123456789" = x.cps.toList.all isDig := by
  have e : ("0123456789" : Str).cps.toList = [48, 49, 50, 51, 52, 53, 54, 55, 56, 57] := by decide +kernel
  unfold madeOf
  rw [e]
  refine congrArg (List.all x.cps.toList) (funext fun c => ?_)
  rw [isDig]
  by_cases h : 48 ≤ c ∧ c ≤ 57
  · rw [decide_eq_true h, decide_eq_true]
    simp only [List.mem_cons, List.not_mem_nil, or_false]
    omega
  · rw [decide_eq_false h, decide_eq_false]
    simp only [List.mem_cons, List.not_mem_nil, or_false]
    omega
theorem letters_cps : ("abcdefghijklmnopqrstuvwxyz" : Str).cps.toList = [97, 98, 99, 100, 101, 102, 103, 104, 105, 106, 107, 108, 109, 110, 111, 112, 113, 114, 115, 116, 117, 118, 119, 120, 121, 122] := by decide +kernel
theorem letter_in (c : Nat) : decide (c ∈ ("abcdefghijklmnopqrstuvwxyz" : Str).cps.toList) = isLet c := by
  rw [letters_cps, isLet]
  by_cases h : 97 ≤ c ∧ c ≤ 122
  · rw [decide_eq_true h, decide_eq_true]
    simp only [List.mem_cons, List.not_mem_nil, or_false]
    omega
  · rw [decide_eq_false h, decide_eq_false]
    simp only [List.mem_cons, List.not_mem_nil, or_false]
    omega
theorem letters_all (x : Str) : madeOf x (("abcdefghijklmnopqrstuvwxyz" : Str) ++ ("0123456789" : Str)) = x.cps.toList.all fun c => isLet c || isDig c := by
  have e : (("abcdefghijklmnopqrstuvwxyz" : Str) ++ ("0123456789" : Str)).cps.toList = [97, 98, 99, 100, 101, 102, 103, 104, 105, 106, 107, 108, 109, 110, 111, 112, 113, 114, 115, 116, 117, 118, 119, 120, 121, 122, 48, 49, 50, 51, 52, 53, 54, 55, 56, 57] := by decide +kernel
  unfold madeOf
  rw [e]
  refine congrArg (List.all x.cps.toList) (funext fun c => ?_)
  rw [isLet, isDig, ← Bool.decide_or]
  refine decide_eq_decide.mpr ?_
  simp only [List.mem_cons, List.not_mem_nil, or_false]
  omega
theorem str_ext {x y : Str} (h : x.cps.toList = y.cps.toList) : x = y := by
  cases x with
  | mk a => cases y with
    | mk b => exact congrArg Str.mk (Array.ext' h)
theorem dash_cps (x : Str) : (Txt.removeprefix x "-").cps.toList = stripDash x.cps.toList := by
  have l1 : ("-" : Str).length = 1 := by decide +kernel
  have l2 : ("-" : Str).cps.toList = [45] := by decide +kernel
  rw [PySem.StrLaws.removeprefix_eq, PySem.StrLaws.subAt_eq, l1, l2, ← len_cps x]
  generalize hl : x.cps.toList = l
  cases l with
  | nil =>
    rw [if_neg (by simp)]
    exact hl
  | cons c r =>
    by_cases h : c = 45
    · subst h
      have e : stripDash (45 :: r) = r := rfl
      rw [e]
      simp
    · have e : stripDash (c :: r) = c :: r := by
        unfold stripDash
        split
        · rename_i r' e
          cases e
          exact absurd rfl h
        · rfl
      rw [e]
      simp [h]
      exact hl
section
variable {P : Program} {w : World} {K : PySem.W.Frag} {mg : Str → Option Value} {base : Heap}
def spIsInt : Sp := fun vs H Q _ => ∃ x : Str, vs = [.str x] ∧ x.length ≤ 100000 ∧ ∀ H', Same H H' → Q (.bl (isIntL x.cps.toList)) H'
theorem scIsInt : FnScope ["run", "digits"] ["run"] (defScope sIsInt) := ⟨rfl, rfl, rfl, by decide +kernel, rfl, by decide +kernel, by decide +kernel⟩
theorem ok_isInt {f fM : Addr} {fd fdM : FuncData} {k : Nat} (F : Fun K "names_an_integer" "names_an_integer" sIsInt f fd) (G : FnOk P w K mg base CX0 k fM fdM ["text", "signs"] spMade) (bM : Binds K fdM ["text", "signs"] []) (kM : PySem.W.keepIn K (.ref fM) = true)
    (mM : mg "made_of" = some (.ref fM)) (ml : mg "len" = none) (C : Consts K mg) : FnOk P w K mg base CX0 (k + 1) f fd ["run"] spIsInt := by
  refine F.ok scIsInt (fun vs H Q E h => ?_) (fun cdv A outer st H vs Q E hr h => ?_)
  · obtain ⟨x, rfl, _⟩ := h
    rfl
  obtain ⟨x, rfl, hlen, q⟩ := h
  obtain ⟨tM, gM⟩ := C.md
  obtain ⟨tD, gD⟩ := C.di
  refine ⟨_, pss_cons (ps_if (pt_cmpR op_eq (pv 0) pe_str (nomark _)) (pss_one (ps_ret pe_bl)) pss_nil)
    (pss_cons (ps_set (i := 1) scIsInt.nd rfl (.inl rfl) (pe_m1 PySem.F.slot_str_removeprefix PySem.F.type_str_removeprefix mt_removeprefix (pv 0) pe_str))
    (pss_cons (ps_if (pw_or (pt_not (pt_chain op_le op_le pe_int (pe_callB call_len_str (by rfl) ml PySem.boot_len (pa_cons (pv 1) pa_nil)) (pe_glob (v := .int 9) (by rfl) gM ⟨_, rfl⟩))) (pw_or1 (pt_cmpR op_eq (pe_ix ix_str (pv 1) pe_int (fun _ _ => rfl)) pe_str (nomark _)))).pt
        (pss_one (ps_ret pe_bl)) pss_nil)
    (pss_one (ps_ret (pe_call G hr (by rfl) mM kM bM .nil pass0 (pa_cons (pv 1) (pa_cons (pe_glob (v := .str "0123456789") (by rfl) gD ⟨_, rfl⟩) pa_nil))))))), ?_⟩
  refine ⟨_, rfl, rfl, _, rfl, ?_⟩
  by_cases h0 : x = "0"
  · refine if_true_of (by simp [h0]) ?_
    have e : isIntL x.cps.toList = true := by
      rw [h0]
      decide +kernel
    have q' := q H (Same.refl H)
    rw [e] at q'
    exact q'
  · refine if_false_of (by simp [h0]) ?_
    refine ⟨_, rfl, ⟨_, rfl⟩, x, "-", rfl, rfl, small hlen, ?_⟩
    have hd := dash_cps x
    generalize Txt.removeprefix x "-" = d at hd
    have hx : x.cps.toList ≠ [48] := fun e => h0 (str_ext e)
    have hdl : d.length ≤ x.length := by
      rw [← len_cps, ← len_cps, hd]
      generalize x.cps.toList = l
      unfold stripDash
      split
      · exact Nat.le_succ _
      · exact Nat.le_refl _
    have hdn : d.length = (stripDash x.cps.toList).length := by rw [← len_cps, hd]
    have eI : isIntL x.cps.toList = (decide (1 ≤ d.length ∧ d.length ≤ 9) && (d.cps.toList.head? != some 48 && d.cps.toList.all isDig)) := by
      unfold isIntL
      rw [hdn, hd, beq_eq_false_iff_ne.mpr hx, Bool.false_or]
    rw [eI] at q
    refine ⟨_, rfl, d, rfl, small (by omega), _, _, rfl, rfl, ?_⟩
    refine ⟨_, rfl, ?_⟩
    have no : (decide (1 ≤ d.length ∧ d.length ≤ 9) && (d.cps.toList.head? != some 48 && d.cps.toList.all isDig)) = false → Q (.bl false) H := fun e => by
      have q' := q H (Same.refl H)
      rw [e] at q'
      exact q'
    by_cases h1 : 1 ≤ d.length
    · refine if_true_of (decide_eq_true (by omega)) ?_
      refine ⟨_, _, rfl, rfl, _, rfl, ?_⟩
      by_cases h2 : d.length ≤ 9
      · refine if_false_of (by rw [decide_eq_true (show (d.length : Int) ≤ 9 by omega)]; rfl) ?_
        obtain ⟨c, r, hc⟩ : ∃ c r, d.cps.toList = c :: r := by
          cases e : d.cps.toList with
          | nil =>
            rw [← len_cps, e] at h1
            exact absurd h1 (by decide)
          | cons c r => exact ⟨c, r, rfl⟩
        refine ⟨_, rfl, d, 0, c, rfl, rfl, small (by omega), by rw [hc]; exact atI_nat (j := 0) rfl, rfl, _, rfl, ?_⟩
        have hz : (V.str ⟨#[c]⟩ = V.str "0") ↔ c = 48 := by
          have e0 : ("0" : Str) = ⟨#[48]⟩ := str_ext (by decide +kernel)
          rw [e0]
          constructor
          · intro e
            injection e with e
            injection e with e
            injection e with e
            injection e
          · rintro rfl
            rfl
        by_cases h3 : c = 48
        · refine if_true_of (decide_eq_true (hz.mpr h3)) ?_
          exact no (by rw [hc, h3]; simp)
        · refine if_false_of (decide_eq_false fun e => h3 (hz.mp e)) ?_
          refine ⟨_, rfl, d, _, rfl, by omega, fun H' sm => ?_⟩
          have q' := q H' sm
          rw [decide_eq_true ⟨h1, h2⟩, Bool.true_and, hc, List.head?_cons, ← hc, ← digits_all] at q'
          have e2 : (some c != some 48) = true := by simp [h3]
          rw [e2, Bool.true_and] at q'
          exact q'
      · refine if_true_of (by rw [decide_eq_false (show ¬ (d.length : Int) ≤ 9 by omega)]; rfl) ?_
        refine if_true_of rfl ?_
        exact no (by rw [decide_eq_false (fun e => h2 e.2)]; rfl)
    · refine if_false_of (decide_eq_false (by omega)) ?_
      refine ⟨_, rfl, ?_⟩
      refine if_true_of rfl ?_
      refine if_true_of rfl ?_
      exact no (by rw [decide_eq_false (fun e => h1 e.1)]; rfl)
end
end Sg

namespace Sg
open PySem PySem.Spec PyProof.Rows L2
section
variable {P : Program} {w : World} {K : PySem.W.Frag} {mg : Str → Option Value} {base : Heap}
theorem in_specials (x : Str) : inV (.str x) (specials.map fun l => V.str ⟨l.toArray⟩) = decide (x.cps.toList ∈ specials) := by
  have e : ∀ l : List Nat, eqV (.str ⟨l.toArray⟩) (.str x) = decide (x.cps.toList = l) := fun l => by
    by_cases h : x.cps.toList = l
    · rw [decide_eq_true h]
      have hx : x = ⟨l.toArray⟩ := str_ext (by rw [h])
      rw [hx]
      simp [eqV]
    · rw [decide_eq_false h]
      have hx : x ≠ ⟨l.toArray⟩ := fun z => h (by rw [z])
      simp [eqV, hx, Ne.symm hx]
  unfold inV
  rw [List.any_map]
  have e2 : (((fun y => eqV y (V.str x)) ∘ fun l : List Nat => V.str ⟨l.toArray⟩) : List Nat → Bool) = fun l => decide (x.cps.toList = l) := funext fun l => e l
  rw [e2]
  rw [List.any_eq]
  exact decide_eq_decide.mpr ⟨fun ⟨l, h1, h2⟩ => by rw [of_decide_eq_true h2]; exact h1, fun h => ⟨_, h, decide_eq_true rfl⟩⟩
theorem specials_vals (u1 u2 u3 u4 u5 u6 u7 : Tok) : Vals (specials.map fun l => V.str ⟨l.toArray⟩) (#[Value.str "+" u1, .str "-" u2, .str "*" u3, .str "<" u4, .str "=" u5, .str "_" u6, .str "..." u7] : Array Value).toList := by
  have e : (specials.map fun l => V.str ⟨l.toArray⟩) = [V.str "+", V.str "-", V.str "*", V.str "<", V.str "=", V.str "_", V.str "..."] := by decide +kernel
  rw [e]
  exact .cons ⟨_, rfl⟩ (.cons ⟨_, rfl⟩ (.cons ⟨_, rfl⟩ (.cons ⟨_, rfl⟩ (.cons ⟨_, rfl⟩ (.cons ⟨_, rfl⟩ (.cons ⟨_, rfl⟩ .nil))))))
def spIsName : Sp := fun vs H Q _ => ∃ x : Str, vs = [.str x] ∧ x.length ≤ 100000 ∧ 0 < x.length ∧ ∀ H', Same H H' → Q (.bl (isNameL x.cps.toList)) H'
theorem scIsName : FnScope ["run"] ["run"] (defScope sIsName) := ⟨rfl, rfl, rfl, by decide +kernel, rfl, by decide +kernel, by decide +kernel⟩
theorem ok_isName {f fM : Addr} {fd fdM : FuncData} {k : Nat} (F : Fun K "is_a_name" "is_a_name" sIsName f fd) (G : FnOk P w K mg base CX0 k fM fdM ["text", "signs"] spMade) (bM : Binds K fdM ["text", "signs"] []) (kM : PySem.W.keepIn K (.ref fM) = true)
    (mM : mg "made_of" = some (.ref fM)) (ml : mg "len" = none) (C : Consts K mg) : FnOk P w K mg base CX0 (k + 1) f fd ["run"] spIsName := by
  refine F.ok scIsName (fun vs H Q E h => ?_) (fun cdv A outer st H vs Q E hr h => ?_)
  · obtain ⟨x, rfl, _⟩ := h
    rfl
  obtain ⟨x, rfl, hlen, hpos, q⟩ := h
  obtain ⟨tN, gN⟩ := C.ln
  obtain ⟨tD, gD⟩ := C.di
  obtain ⟨tL, gL⟩ := C.le
  obtain ⟨aS, gS, hS⟩ := C.sp
  refine ⟨_, pss_cons (ps_if (pt_cmpR op_in_seq (pv 0) (pe_glob (v := .ref aS) (by rfl) gS rfl) rfl) (pss_one (ps_ret pe_bl)) pss_nil)
    (pss_cons (ps_if (pw_or (pt_cmpR op_gt (pe_callB call_len_str (by rfl) ml PySem.boot_len (pa_cons (pv 0) pa_nil)) (pe_glob (v := .int 20) (by rfl) gN ⟨_, rfl⟩) (nomark _))
          (pw_or1 (pt_cmpR op_notIn_sign (pe_ix ix_str (pv 0) pe_int (fun _ _ => rfl)) (pe_glob (v := .str "abcdefghijklmnopqrstuvwxyz") (by rfl) gL ⟨_, rfl⟩) rfl))).pt
        (pss_one (ps_ret pe_bl)) pss_nil)
    (pss_one (ps_ret (pe_call G hr (by rfl) mM kM bM .nil pass0 (pa_cons (pv 0) (pa_cons (pe_op op_add_str (pe_glob (v := .str "abcdefghijklmnopqrstuvwxyz") (by rfl) gL ⟨_, rfl⟩) (pe_glob (v := .str "0123456789") (by rfl) gD ⟨_, rfl⟩)) pa_nil)))))), ?_⟩
  have go : ∀ {b : Bool}, isNameL x.cps.toList = b → Q (.bl b) H := fun e => by
    rw [← e]
    exact q H (Same.refl H)
  refine ⟨_, rfl, aS, _, rfl, .inr (hS H), rfl, by decide +kernel, _, rfl, ?_⟩
  rw [if_neg Bool.false_ne_true, in_specials]
  by_cases h0 : x.cps.toList ∈ specials
  · refine if_true_of (decide_eq_true h0) ?_
    exact go (by unfold isNameL; rw [decide_eq_true h0]; rfl)
  · refine if_false_of (decide_eq_false h0) ?_
    have eN : isNameL x.cps.toList = (decide (x.length ≤ 20) && ((x.cps.toList.head?.map isLet).getD false && x.cps.toList.all fun c => isLet c || isDig c)) := by
      unfold isNameL
      rw [decide_eq_false h0, len_cps, Bool.false_or]
    refine ⟨_, rfl, x, rfl, small hlen, _, _, rfl, rfl, _, rfl, ?_⟩
    by_cases h1 : x.length ≤ 20
    · refine if_false_of (decide_eq_false (by omega)) ?_
      obtain ⟨c, r, hc⟩ : ∃ c r, x.cps.toList = c :: r := by
        cases e : x.cps.toList with
        | nil =>
          rw [← len_cps, e] at hpos
          exact absurd hpos (by decide)
        | cons c r => exact ⟨c, r, rfl⟩
      refine ⟨_, rfl, x, 0, c, rfl, rfl, small hlen, by rw [hc]; exact atI_nat (j := 0) rfl, c, _, rfl, rfl, _, rfl, ?_⟩
      rw [letter_in c]
      cases h2 : isLet c with
      | false =>
        refine if_true_of rfl ?_
        exact go (by rw [eN, hc, List.head?_cons]; simp [h2])
      | true =>
        refine if_false_of rfl ?_
        refine ⟨_, rfl, _, _, rfl, rfl, (by decide +kernel), x, _, rfl, hlen, fun H' sm => ?_⟩
        have q' := q H' sm
        rw [eN, decide_eq_true h1, Bool.true_and, ← letters_all] at q'
        have e2 : (x.cps.toList.head?.map isLet).getD false = true := by
          rw [hc]
          exact h2
        rw [e2, Bool.true_and] at q'
        exact q'
    · refine if_true_of (decide_eq_true (by omega)) ?_
      refine if_true_of rfl ?_
      exact go (by rw [eN, decide_eq_false h1]; rfl)
end
end Sg

namespace Sg
open PySem PySem.Spec PyProof.Rows L2
/-! ### pieces -/
def S (l : List Nat) : Str := ⟨l.toArray⟩
theorem S_cps (l : List Nat) : (S l).cps.toList = l := rfl
theorem S_of (x : Str) : S x.cps.toList = x := by
  cases x with
  | mk a => exact congrArg Str.mk (Array.toArray_toList)
def isSep (c : Nat) : Bool := decide (c = 32 ∨ c = 10 ∨ c = 40 ∨ c = 41)
def isPar (c : Nat) : Bool := decide (c = 40 ∨ c = 41)
abbrev Pc := Nat × List Nat
def runPart (l : List Nat) (start i : Nat) : List Pc := if start < i then [(start, (l.drop start).take (i - start))] else []
def parPart (i c : Nat) : List Pc := if isPar c then [(i, [c])] else []
def pstep (l : List Nat) (st : Nat × List Pc) (i c : Nat) : Nat × List Pc :=
  if isSep c then (i + 1, (st.2 ++ runPart l st.1 i) ++ parPart i c) else st
def prun (l : List Nat) : Nat → Nat × List Pc
  | 0 => (0, [])
  | n + 1 => match (l ++ [32])[n]? with
    | some c => pstep l (prun l n) n c
    | none => prun l n
def piecesL (l : List Nat) : List Pc := (prun l (l.length + 1)).2
theorem prun_more {l : List Nat} {n c : Nat} (h : (l ++ [32])[n]? = some c) : prun l (n + 1) = pstep l (prun l n) n c := by
  show (match (l ++ [32])[n]? with
    | some c => pstep l (prun l n) n c
    | none => prun l n) = _
  rw [h]
theorem prun_le (l : List Nat) : ∀ n, (prun l n).1 ≤ n ∧ (prun l n).2.length ≤ 2 * n
  | 0 => ⟨Nat.le_refl _, Nat.le_refl _⟩
  | n + 1 => by
    have ih := prun_le l n
    cases h : (l ++ [32])[n]? with
    | none =>
      have e : prun l (n + 1) = prun l n := by
        show (match (l ++ [32])[n]? with
          | some c => pstep l (prun l n) n c
          | none => prun l n) = _
        rw [h]
      rw [e]
      omega
    | some c =>
      rw [prun_more h]
      unfold pstep
      split
      · refine ⟨Nat.le_refl _, ?_⟩
        have h1 : (runPart l (prun l n).1 n).length ≤ 1 := by
          unfold runPart
          split
          · exact Nat.le_refl _
          · exact Nat.zero_le _
        have h2 : (parPart n c).length ≤ 1 := by
          unfold parPart
          split
          · exact Nat.le_refl _
          · exact Nat.zero_le _
        show ((prun l n).2 ++ runPart l (prun l n).1 n ++ parPart n c).length ≤ 2 * (n + 1)
        rw [List.length_append, List.length_append]
        omega
      · omega
/-- the pairs stand at the places -/
def PairAt (H : Hp) (v : V) (p : Pc) : Prop := ∃ a, v = .ref a ∧ H a = some (.tup [.int (p.1 : Nat), .str (S p.2)])
def PairsAt (H : Hp) : List V → List Pc → Prop := Paired (PairAt H)
theorem Paired.app {α β : Type} {R : α → β → Prop} {as cs : List α} {bs ds : List β} (h : Paired R as bs) (g : Paired R cs ds) : Paired R (as ++ cs) (bs ++ ds) := by
  induction h with
  | nil => exact g
  | cons r _ ih => exact .cons r ih
theorem PairsAt.same {H H' : Hp} {vs : List V} {ps : List Pc} (sm : Same H H') (h : PairsAt H vs ps) : PairsAt H' vs ps :=
  Paired.mapP h fun _ _ ⟨a, e, q⟩ => ⟨a, e, sm _ _ q⟩
theorem PairsAt.grow {H : Hp} {vs : List V} {ps : List Pc} {o t : Addr} {xs ys : List V} (p : Pc) (h : PairsAt H vs ps) (eo : H o = some (.lst xs)) (ht : H t = none) :
    PairsAt (upd (upd H t (.tup [.int (p.1 : Nat), .str (S p.2)])) o (.lst ys)) (vs ++ [.ref t]) (ps ++ [p]) := by
  refine Paired.snoc (Paired.mapP h fun v q ⟨a, e, z⟩ => ⟨a, e, ?_⟩) ⟨t, rfl, ?_⟩
  · have n1 : a ≠ o := fun y => by
      rw [y, eo] at z
      cases z
    rw [upd_ne n1, upd_ne (ne_of_none z ht)]
    exact z
  · rw [upd_ne (Ne.symm (ne_of_none eo ht)), upd_same]
theorem sep_in (c : Nat) : decide (c ∈ (" \n()" : Str).cps.toList) = isSep c := by
  have e : (" \n()" : Str).cps.toList = [32, 10, 40, 41] := by decide +kernel
  rw [e, isSep]
  exact decide_eq_decide.mpr (by simp)
theorem par_in (c : Nat) : decide (c ∈ ("()" : Str).cps.toList) = isPar c := by
  have e : ("()" : Str).cps.toList = [40, 41] := by decide +kernel
  rw [e, isPar]
  exact decide_eq_decide.mpr (by simp)
theorem cut_run (x : Str) (a b : Nat) (h : a ≤ b) (hb : b ≤ x.length) : cutS x (some (a : Int)) (some (b : Int)) = S ((x.cps.toList.drop a).take (b - a)) := by
  unfold cutS S
  rw [show HT.sIx x.length 0 (some (a : Int)) = min a x.length from HT.sIx_nat x.length 0 a, show HT.sIx x.length x.length (some (b : Int)) = min b x.length from HT.sIx_nat x.length x.length b]
  rw [Nat.min_eq_left (show a ≤ x.length by omega), Nat.min_eq_left hb]
theorem app_sp (x : Str) : (x ++ (" " : Str)).cps.toList = x.cps.toList ++ [32] := by
  have e : (" " : Str).cps.toList = [32] := by decide +kernel
  first
    | (rw [← e]; exact Array.toList_append)
    | (show (x.cps ++ (" " : Str).cps).toList = _; rw [Array.toList_append, e])
section
variable {P : Program} {w : World} {K : PySem.W.Frag} {mg : Str → Option Value} {base : Heap}
def spPieces : Sp := fun vs H Q _ => ∃ x : Str, vs = [.str x] ∧ x.length ≤ 20000 ∧ ∀ H' o vs, Same H H' → H o = none → H' o = some (.lst vs) → PairsAt H' vs (piecesL x.cps.toList) → Q (.ref o) H'
theorem scPieces : FnScope ["text", "found", "start", "at", "sign"] ["text"] (defScope sPieces) := ⟨rfl, rfl, rfl, by decide +kernel, rfl, by decide +kernel, by decide +kernel⟩
theorem ok_pieces {f : Addr} {fd : FuncData} {k : Nat} (F : Fun K "pieces" "pieces" sPieces f fd) (me : mg "enumerate" = none) : FnOk P w K mg base CX0 (k + 1) f fd ["text"] spPieces := by
  refine F.ok scPieces (fun vs H Q E h => ?_) (fun cdv A outer st H vs Q E hr h => ?_)
  · obtain ⟨x, rfl, _⟩ := h
    rfl
  obtain ⟨x, rfl, hlen, q⟩ := h
  refine ⟨_, pss_cons (ps_set (i := 1) scPieces.nd rfl (.inl rfl) (pe_lst pa_nil))
    (pss_cons (ps_set (i := 2) scPieces.nd rfl (.inl rfl) pe_int)
    (pss_cons (ps_for PassesOwn.never rfl (pi_enumS (by rfl) me (pa_cons (pe_op op_add_str (pv 0) pe_str) pa_nil)) (pg_tup rfl (pgs_cons (pg_name (i := 3) scPieces.nd rfl (.inl rfl)) (pgs_cons (pg_name (i := 4) scPieces.nd rfl (.inl rfl)) pgs_nil)))
      (pss_one (ps_if (pt_cmpR op_in_sign (pv 4) pe_str rfl)
        (Evl.pss_cut (ps_if (pt_cmpR op_lt (pv 2) (pv 3) (nomark _))
          (pss_one (ps_expr (pe_bm PySem.F.plainAttrs_list PySem.F.slot_list_append PySem.F.type_list_append mt_append (pv 1) (pa_cons (pe_tup (pa_cons (pv 2) (pa_cons (pe_slice sl_str (pv 0) (po_some (pv 2)) (po_some (pv 3))) pa_nil))) pa_nil)))) pss_nil)
        (Evl.pss_cut (ps_if (pt_cmpR op_in_sign (pv 4) pe_str rfl)
          (pss_one (ps_expr (pe_bm PySem.F.plainAttrs_list PySem.F.slot_list_append PySem.F.type_list_append mt_append (pv 1) (pa_cons (pe_tup (pa_cons (pv 3) (pa_cons (pv 4) pa_nil))) pa_nil)))) pss_nil)
        (pss_one (ps_set (i := 2) scPieces.nd rfl (.inl rfl) (pe_op op_add (pv 3) pe_int))))) pss_nil)))
    (pss_one (ps_ret (pv 1))))), ?_⟩
  refine ⟨Nat.zero_le _, fun o no => ?_⟩
  refine ⟨_, rfl, _, _, rfl, rfl, ?_, _, rfl, ?_⟩
  · have e : (" " : Str).length = 1 := by decide +kernel
    rw [e]
    exact small (by omega)
  refine for_it walk_enumS (fun i σ H' => ∃ (y3 y4 : Option V) (vs : List V), σ = [some (.str x), some (.ref o), some (.int ((prun x.cps.toList i).1 : Nat)), y3, y4] ∧ Same H H' ∧ H' o = some (.lst vs) ∧ PairsAt H' vs (prun x.cps.toList i).2)
    ⟨none, none, [], rfl, same_new no _, upd_same, .nil⟩ (fun _ _ _ _ _ => trivial) ?_ ?_
  · rintro i v σ H1 H2 hi ⟨y3, y4, vs, rfl, sm, eo, pa⟩ ⟨T, c, rfl, nT, rfl, hc⟩
    have hl : (x.cps.toList ++ [32])[i]? = some c := by
      rw [← app_sp, Array.getElem?_toList]
      exact hc
    have hi2 : i ≤ x.length := by
      have h1 := (List.getElem?_eq_some_iff.mp hl).1
      rw [List.length_append, len_cps] at h1
      have h2 : ([32] : List Nat).length = 1 := rfl
      omega
    have bd := prun_le x.cps.toList i
    have st1 := prun_more hl
    generalize hpr : prun x.cps.toList i = pr at bd st1 pa
    obtain ⟨start, out⟩ := pr
    have hlv : vs.length = out.length := Paired.length pa
    have sm1 : Same H1 (upd H1 T (.tup [.int (i : Nat), .str ⟨#[c]⟩])) := same_new nT _
    have eo1 := sm1 _ _ eo
    have pa1 := pa.same sm1
    have smA := sm.trans sm1
    have eT : (upd H1 T (.tup [.int (i : Nat), .str ⟨#[c]⟩])) T = some (.tup [.int (i : Nat), .str ⟨#[c]⟩]) := upd_same
    generalize upd H1 T (.tup [.int (i : Nat), .str ⟨#[c]⟩]) = H2 at sm1 eo1 pa1 smA eT
    refine ⟨T, _, rfl, .inl (.inl eT), rfl, _, _, rfl, _, _, rfl, rfl, ?_⟩
    refine ⟨_, rfl, c, _, rfl, rfl, _, rfl, ?_⟩
    rw [sep_in c]
    cases hs : isSep c with
    | false =>
      refine if_false_of rfl ?_
      have e : pstep x.cps.toList (start, out) i c = (start, out) := by
        unfold pstep
        rw [hs]
        rfl
      rw [e] at st1
      exact ⟨_, _, vs, by rw [st1]; rfl, smA, eo1, by rw [st1]; exact pa1⟩
    | true =>
      refine if_true_of rfl ?_
      have e : pstep x.cps.toList (start, out) i c = (i + 1, (out ++ runPart x.cps.toList start i) ++ parPart i c) := by
        unfold pstep
        rw [hs]
        rfl
      rw [e] at st1
      have hb1 : start ≤ i := bd.1
      have hb2 : out.length ≤ 2 * i := bd.2
      refine ⟨fun σ H' => ∃ ws : List V, σ = [some (.str x), some (.ref o), some (.int (start : Nat)), some (.int (i : Nat)), some (.str ⟨#[c]⟩)] ∧ Same H H' ∧ H' o = some (.lst ws) ∧ PairsAt H' ws (out ++ runPart x.cps.toList start i) ∧ ws.length ≤ 2 * i + 1, ?_, ?_⟩
      · refine ⟨_, rfl, _, rfl, _, _, rfl, rfl, _, rfl, ?_⟩
        by_cases hlt : start < i
        · refine if_true_of (decide_eq_true (show ((start : Nat) : Int) < (i : Nat) by omega)) ?_
          refine ⟨.ref o, rfl, .inl ⟨rfl, _, SqL.of eo1⟩, _, rfl, _, rfl, _, rfl, _, rfl, _, rfl, _, rfl, x, rfl, small (by omega), (by show 2 ≤ sizeLine; decide), fun t ht => ?_⟩
          rw [cut_run x start i (by omega) hi2]
          have ne : o ≠ t := ne_of_none eo1 ht
          refine ⟨o, _, _, rfl, rfl, by rw [upd_ne ne]; exact eo1, smallL (by omega), ?_⟩
          refine ⟨_, rfl, same_mut (smA.trans (same_new ht _)) no _, upd_same, ?_, ?_⟩
          · have er : runPart x.cps.toList start i = [(start, (x.cps.toList.drop start).take (i - start))] := if_pos hlt
            rw [er]
            exact PairsAt.grow (start, (x.cps.toList.drop start).take (i - start)) pa1 eo1 ht
          · rw [List.length_append]
            show vs.length + 1 ≤ 2 * i + 1
            omega
        · refine if_false_of (decide_eq_false (show ¬ ((start : Nat) : Int) < (i : Nat) by omega)) ?_
          have er : runPart x.cps.toList start i = [] := if_neg hlt
          refine ⟨vs, rfl, smA, eo1, by rw [er, List.append_nil]; exact pa1, by omega⟩
      · rintro σ H3 ⟨ws, rfl, sm3, eo3, pa3, hw⟩
        refine ⟨fun σ H' => ∃ ws : List V, σ = [some (.str x), some (.ref o), some (.int (start : Nat)), some (.int (i : Nat)), some (.str ⟨#[c]⟩)] ∧ Same H H' ∧ H' o = some (.lst ws) ∧ PairsAt H' ws ((out ++ runPart x.cps.toList start i) ++ parPart i c), ?_, ?_⟩
        · refine ⟨_, rfl, c, _, rfl, rfl, _, rfl, ?_⟩
          rw [par_in c]
          cases hp : isPar c with
          | false =>
            refine if_false_of rfl ?_
            have er : parPart i c = [] := by
              unfold parPart
              rw [hp]
              rfl
            exact ⟨ws, rfl, sm3, eo3, by rw [er, List.append_nil]; exact pa3⟩
          | true =>
            refine if_true_of rfl ?_
            have er : parPart i c = [(i, [c])] := by
              unfold parPart
              rw [hp]
              rfl
            refine ⟨.ref o, rfl, .inl ⟨rfl, _, SqL.of eo3⟩, _, rfl, _, rfl, (by show 2 ≤ sizeLine; decide), fun t ht => ?_⟩
            have ne : o ≠ t := ne_of_none eo3 ht
            refine ⟨o, _, _, rfl, rfl, by rw [upd_ne ne]; exact eo3, smallL (by omega), ?_⟩
            refine ⟨_, rfl, same_mut (sm3.trans (same_new ht _)) no _, upd_same, ?_⟩
            rw [er]
            exact PairsAt.grow (i, [c]) pa3 eo3 ht
        · rintro σ H4 ⟨us, rfl, sm4, eo4, pa4⟩
          refine ⟨_, rfl, _, _, rfl, rfl, ?_⟩
          exact ⟨_, _, us, by rw [st1]; rfl, sm4, eo4, by rw [st1]; exact pa4⟩
  · rintro σ H1 ⟨y3, y4, vs, rfl, sm, eo, pa⟩
    refine ⟨_, rfl, q H1 o vs sm no eo ?_⟩
    have e : (x ++ (" " : Str)).cps.size = x.cps.toList.length + 1 := by
      rw [← Array.length_toList, app_sp, List.length_append]
      rfl
    rw [e] at pa
    exact pa
end
end Sg

namespace Sg
open PySem PySem.Spec PyProof.Rows L2
/-! ### trees, and what stands of them in the heap -/
inductive Tree where
  | int (n : Int)
  | name (s : List Nat) (i : Nat)
  | list (ts : List Tree)
mutual
def TreeAt (F : Hp) : Tree → V → Prop
  | .int n, v => ∃ a, v = .ref a ∧ F a = some (.tup [.str "int", .int n])
  | .name s i, v => ∃ a, v = .ref a ∧ F a = some (.tup [.str "name", .str (S s), .int (i : Nat)])
  | .list ts, v => ∃ a l vs, v = .ref a ∧ F a = some (.tup [.str "list", .ref l]) ∧ F l = some (.lst vs) ∧ TreesAt F ts vs
def TreesAt (F : Hp) : List Tree → List V → Prop
  | [], vs => vs = []
  | t :: ts, vs => ∃ v r, vs = v :: r ∧ TreeAt F t v ∧ TreesAt F ts r
end
mutual
theorem TreeAt.same {F F' : Hp} (e : Same F F') : ∀ (t : Tree) (v : V), TreeAt F t v → TreeAt F' t v
  | .int n, v, h => by
    unfold TreeAt at h ⊢
    obtain ⟨a, h1, h2⟩ := h
    exact ⟨a, h1, e _ _ h2⟩
  | .name s i, v, h => by
    unfold TreeAt at h ⊢
    obtain ⟨a, h1, h2⟩ := h
    exact ⟨a, h1, e _ _ h2⟩
  | .list ts, v, h => by
    unfold TreeAt at h ⊢
    obtain ⟨a, l, vs, h1, h2, h3, h4⟩ := h
    exact ⟨a, l, vs, h1, e _ _ h2, e _ _ h3, TreesAt.same e ts vs h4⟩
theorem TreesAt.same {F F' : Hp} (e : Same F F') : ∀ (ts : List Tree) (vs : List V), TreesAt F ts vs → TreesAt F' ts vs
  | [], vs, h => by
    unfold TreesAt at h ⊢
    exact h
  | t :: ts, vs, h => by
    unfold TreesAt at h ⊢
    obtain ⟨v, r, h1, h2, h3⟩ := h
    exact ⟨v, r, h1, TreeAt.same e t v h2, TreesAt.same e ts r h3⟩
end
theorem TreesAt.snoc {F : Hp} {t : Tree} {v : V} (h2 : TreeAt F t v) : ∀ {ts : List Tree} {vs : List V}, TreesAt F ts vs → TreesAt F (ts ++ [t]) (vs ++ [v])
  | [], vs, h => by
    unfold TreesAt at h
    subst h
    show TreesAt F [t] [v]
    unfold TreesAt
    exact ⟨v, [], rfl, h2, by unfold TreesAt; rfl⟩
  | u :: ts, vs, h => by
    unfold TreesAt at h
    obtain ⟨w, r, rfl, h3, h4⟩ := h
    show TreesAt F (u :: (ts ++ [t])) (w :: (r ++ [v]))
    unfold TreesAt
    exact ⟨w, r ++ [v], rfl, h3, TreesAt.snoc h2 h4⟩
theorem TreesAt.nil {F : Hp} : TreesAt F [] [] := by
  unfold TreesAt
  rfl
/-! ### reading, by pieces -/
abbrev RSt := List (Nat × List Tree) × List Tree × Nat
def intVal (l : List Nat) : Int := (PySem.intText? (S l)).getD 0
def rstep (st : RSt) (p : Pc) : Except Nat RSt :=
  if p.2 = [40] then (if st.1.length = 30 then .error p.1 else .ok ((p.1, st.2.1) :: st.1, [], st.2.2))
  else if p.2 = [41] then (match st.1 with
    | [] => .error p.1
    | (_, ts) :: r => .ok (r, ts ++ [.list st.2.1], st.2.2))
  else if isIntL p.2 then .ok (st.1, st.2.1 ++ [.int (intVal p.2)], st.2.2)
  else if isNameL p.2 then .ok (st.1, st.2.1 ++ [.name p.2 st.2.2], st.2.2 + 1)
  else .error p.1
def rnext (a : Except Nat RSt) (p : Pc) : Except Nat RSt := match a with
  | .ok st => rstep st p
  | .error e => .error e
def rrun (ps : List Pc) : Except Nat RSt := ps.foldl rnext (.ok ([], [], 0))
def rend (a : Except Nat RSt) : Except Nat (List Tree) := match a with
  | .error e => .error e
  | .ok ([], cur, _) => .ok cur
  | .ok ((q, _) :: _, _, _) => .error q
def readM (ps : List Pc) : Except Nat (List Tree) := rend (rrun ps)
theorem rnext_err (e : Nat) : ∀ ps : List Pc, ps.foldl rnext (.error e) = .error e
  | [] => rfl
  | _ :: r => rnext_err e r
theorem rrun_take {ps : List Pc} {j : Nat} {p : Pc} (h : ps[j]? = some p) : rrun (ps.take (j + 1)) = rnext (rrun (ps.take j)) p := by
  unfold rrun
  rw [List.take_add_one, h, List.foldl_append]
  rfl
theorem rrun_err {ps : List Pc} {j e : Nat} (h : rrun (ps.take j) = .error e) : rrun ps = .error e := by
  have z : ps = ps.take j ++ ps.drop j := (List.take_append_drop j ps).symm
  unfold rrun at h ⊢
  rw [z, List.foldl_append, h]
  exact rnext_err e _
theorem rstep_pos {B : Nat → Prop} {st st1 : RSt} {p : Pc} (h : rstep st p = .ok st1) (h0 : ∀ s ∈ st.1, B s.1) (hp : B p.1) : ∀ s ∈ st1.1, B s.1 := by
  obtain ⟨stack, cur, names⟩ := st
  unfold rstep at h
  split at h
  · split at h
    · cases h
    · cases h
      intro s hs
      rcases List.mem_cons.mp hs with e | e
      · rw [e]
        exact hp
      · exact h0 s e
  · split at h
    · cases stack with
      | nil => cases h
      | cons q r =>
        obtain ⟨q, ts⟩ := q
        cases h
        exact fun s hs => h0 s (List.mem_cons_of_mem _ hs)
    · split at h
      · cases h
        exact h0
      · split at h
        · cases h
          exact h0
        · cases h
theorem rrun_pos {B : Nat → Prop} : ∀ (ps : List Pc) (st0 st : RSt), ps.foldl rnext (.ok st0) = .ok st → (∀ s ∈ st0.1, B s.1) → (∀ p ∈ ps, B p.1) → ∀ s ∈ st.1, B s.1
  | [], st0, st, h, h0, _ => by
    cases h
    exact h0
  | p :: r, st0, st, h, h0, hp => by
    have h' : r.foldl rnext (rstep st0 p) = .ok st := h
    cases e : rstep st0 p with
    | error x =>
      rw [e, rnext_err] at h'
      cases h'
    | ok st1 =>
      rw [e] at h'
      exact rrun_pos r st1 st h' (rstep_pos e h0 (hp p List.mem_cons_self)) fun q hq => hp q (List.mem_cons_of_mem _ hq)
/-! ### the open lists -/
structure Lv where
  l : Addr
  vs : List V
  t : Addr
  u : Addr
def LvOk (p : Addr) (F H : Hp) : Addr → List Lv → List (Nat × List Tree) → Prop
  | c, [], [] => c = p
  | c, v :: r, (pos, ts) :: st => TreesAt F ts v.vs ∧ H v.l = some (.lst (v.vs ++ [.ref v.t])) ∧ F v.t = some (.tup [.str "list", .ref c]) ∧ F v.u = some (.tup [.int (pos : Nat), .ref v.l]) ∧ LvOk p F H v.l r st
  | _, [], _ :: _ => False
  | _, _ :: _, [] => False
theorem LvOk.mono {p : Addr} {F F' H H' : Hp} (e : Same F F') : ∀ {c : Addr} {lv : List Lv} {st : List (Nat × List Tree)}, (∀ v ∈ lv, H' v.l = H v.l) → LvOk p F H c lv st → LvOk p F' H' c lv st
  | _, [], [], _, h => h
  | _, v :: r, (pos, ts) :: st, k, h => by
    obtain ⟨h1, h2, h3, h4, h5⟩ := h
    exact ⟨TreesAt.same e _ _ h1, (k v List.mem_cons_self).trans h2, e _ _ h3, e _ _ h4, LvOk.mono e (fun w hw => k w (List.mem_cons_of_mem _ hw)) h5⟩
  | _, [], _ :: _, _, h => h.elim
  | _, _ :: _, [], _, h => h.elim
theorem LvOk.len {p : Addr} {F H : Hp} : ∀ {c : Addr} {lv : List Lv} {st : List (Nat × List Tree)}, LvOk p F H c lv st → lv.length = st.length
  | _, [], [], _ => rfl
  | _, v :: r, (pos, ts) :: st, h => congrArg (· + 1) (LvOk.len h.2.2.2.2)
  | _, [], _ :: _, h => h.elim
  | _, _ :: _, [], h => h.elim
structure RInv (p : Addr) (F H : Hp) (o c : Addr) (cvs : List V) (lv : List Lv) (stack : List (Nat × List Tree)) (cur : List Tree) (n : Nat) : Prop where
  sm : Same F H
  ho : H o = some (.lst (lv.map fun v => V.ref v.u).reverse)
  hc : H c = some (.lst cvs)
  tc : TreesAt F cur cvs
  ok : LvOk p F H c lv stack
  nd : (o :: c :: lv.map (·.l)).Nodup
  fr : ∀ a ∈ o :: c :: lv.map (·.l), F a = none
  cb : cvs.length ≤ n
  lb : ∀ v ∈ lv, v.vs.length < n
/-- what stands at an open list's place -/
theorem RInv.some_at {p o c : Addr} {F H : Hp} {cvs : List V} {lv : List Lv} {stack : List (Nat × List Tree)} {cur : List Tree} {n : Nat} (R : RInv p F H o c cvs lv stack cur n) : ∀ v ∈ lv, ∃ x, H v.l = some x := by
  have key : ∀ {c : Addr} {lv : List Lv} {st : List (Nat × List Tree)}, LvOk p F H c lv st → ∀ v ∈ lv, ∃ x, H v.l = some x := by
    intro c lv
    induction lv generalizing c with
    | nil => intro st _ v hv; cases hv
    | cons w r ih =>
      intro st h v hv
      cases st with
      | nil => exact h.elim
      | cons q st =>
        obtain ⟨pos, ts⟩ := q
        obtain ⟨_, h2, _, _, h5⟩ := h
        rcases List.mem_cons.mp hv with e | e
        · rw [e]
          exact ⟨_, h2⟩
        · exact ih h5 v e
  exact key R.ok
section
variable {p o c : Addr} {F H : Hp} {cvs : List V} {lv : List Lv} {stack : List (Nat × List Tree)} {cur : List Tree} {n : Nat}
theorem RInv.heap (R : RInv p F H o c cvs lv stack cur n) {H' : Hp} (e : Same H H') : RInv p F H' o c cvs lv stack cur n :=
  ⟨R.sm.trans e, e _ _ R.ho, e _ _ R.hc, R.tc, R.ok.mono (Same.refl F) fun v hv => by
    obtain ⟨x, hx⟩ := R.some_at v hv
    rw [hx]
    exact e _ _ hx, R.nd, R.fr, R.cb, R.lb⟩
theorem RInv.up (R : RInv p F H o c cvs lv stack cur n) {m : Nat} (h : n ≤ m) : RInv p F H o c cvs lv stack cur m :=
  ⟨R.sm, R.ho, R.hc, R.tc, R.ok, R.nd, R.fr, Nat.le_trans R.cb h, fun v hv => Nat.lt_of_lt_of_le (R.lb v hv) h⟩
/-- a new tree without parts -/
theorem RInv.leaf (R : RInv p F H o c cvs lv stack cur n) {t : Addr} {xs : List V} {T : Tree} (ht : H t = none) (hT : ∀ F', F' t = some (.tup xs) → TreeAt F' T (.ref t)) :
    RInv p (upd F t (.tup xs)) (upd (upd H t (.tup xs)) c (.lst (cvs ++ [.ref t]))) o c (cvs ++ [.ref t]) lv stack (cur ++ [T]) (n + 1) := by
  have hF : F t = none := R.sm.free ht
  have tc : t ≠ c := fun e => by rw [e, R.hc] at ht; cases ht
  have to : t ≠ o := fun e => by rw [e, R.ho] at ht; cases ht
  have nd := R.nd
  have oc : o ≠ c := fun e => by
    rw [e] at nd
    exact (List.nodup_cons.mp nd).1 List.mem_cons_self
  have cl : ∀ v ∈ lv, v.l ≠ c := fun v hv e => (List.nodup_cons.mp (List.nodup_cons.mp nd).2).1 (by rw [← e]; exact List.mem_map_of_mem hv)
  have tl : ∀ v ∈ lv, v.l ≠ t := fun v hv e => by
    obtain ⟨x, hx⟩ := R.some_at v hv
    rw [e, ht] at hx
    cases hx
  have sF : Same F (upd F t (.tup xs)) := same_new hF _
  refine ⟨fun b u hb => ?_, ?_, upd_same, TreesAt.snoc (hT _ upd_same) (TreesAt.same sF _ _ R.tc), R.ok.mono sF fun v hv => ?_, nd, fun a ha => ?_, ?_, fun v hv => Nat.lt_succ_of_lt (R.lb v hv)⟩
  · by_cases e : b = t
    · subst e
      rw [upd_same] at hb
      rw [upd_ne tc, upd_same]
      exact hb
    · rw [upd_ne e] at hb
      have bc : b ≠ c := fun z => by
        rw [z, R.fr c (by simp)] at hb
        cases hb
      rw [upd_ne bc, upd_ne e]
      exact R.sm b u hb
  · rw [upd_ne oc, upd_ne (Ne.symm to)]
    exact R.ho
  · rw [upd_ne (cl v hv), upd_ne (tl v hv)]
  · have z := R.fr a ha
    rw [upd_ne (fun e => ?_)]
    · exact z
    · rw [e] at ha
      rcases List.mem_cons.mp ha with e2 | ha
      · exact to e2
      · rcases List.mem_cons.mp ha with e2 | ha
        · exact tc e2
        · obtain ⟨v, hv, e3⟩ := List.mem_map.mp ha
          exact tl v hv e3
  · rw [List.length_append]
    show cvs.length + 1 ≤ n + 1
    have := R.cb
    omega
/-- a list is closed -/
theorem RInv.shut {v : Lv} {pos : Nat} {ts : List Tree} (R : RInv p F H o c cvs (v :: lv) ((pos, ts) :: stack) cur n) :
    RInv p (upd F c (.lst cvs)) (upd H o (.lst (lv.map fun v => V.ref v.u).reverse)) o v.l (v.vs ++ [.ref v.t]) lv stack (ts ++ [.list cur]) n := by
  obtain ⟨k1, k2, k3, k4, k5⟩ := R.ok
  have nd := R.nd
  have oc : c ≠ o := fun e => by
    rw [e] at nd
    exact (List.nodup_cons.mp nd).1 List.mem_cons_self
  have ol : ∀ w ∈ v :: lv, w.l ≠ o := fun w hw e => (List.nodup_cons.mp nd).1 (List.mem_cons_of_mem _ (by rw [← e]; exact List.mem_map_of_mem hw))
  have cl : ∀ w ∈ v :: lv, w.l ≠ c := fun w hw e => (List.nodup_cons.mp (List.nodup_cons.mp nd).2).1 (by rw [← e]; exact List.mem_map_of_mem hw)
  have hF : F c = none := R.fr c (by simp)
  have sF : Same F (upd F c (.lst cvs)) := same_new hF _
  refine ⟨fun b u hb => ?_, upd_same, ?_, TreesAt.snoc ?_ (TreesAt.same sF _ _ k1), k5.mono sF fun w hw => ?_, ?_, fun a ha => ?_, ?_, fun w hw => R.lb w (List.mem_cons_of_mem _ hw)⟩
  · by_cases e : b = c
    · subst e
      rw [upd_same] at hb
      rw [upd_ne oc]
      exact R.hc.trans hb
    · rw [upd_ne e] at hb
      have bo : b ≠ o := fun z => by
        rw [z, R.fr o (by simp)] at hb
        cases hb
      rw [upd_ne bo]
      exact R.sm b u hb
  · rw [upd_ne (ol v List.mem_cons_self)]
    exact k2
  · unfold TreeAt
    refine ⟨v.t, c, cvs, rfl, sF _ _ k3, upd_same, TreesAt.same sF _ _ R.tc⟩
  · rw [upd_ne (ol w (List.mem_cons_of_mem _ hw))]
  · have n1 := List.nodup_cons.mp nd
    have n2 := List.nodup_cons.mp n1.2
    exact List.nodup_cons.mpr ⟨fun z => n1.1 (List.mem_cons_of_mem _ z), n2.2⟩
  · rw [upd_ne (fun e => ?_)]
    · refine R.fr a ?_
      rcases List.mem_cons.mp ha with e | ha
      · rw [e]
        exact List.mem_cons_self
      · exact List.mem_cons_of_mem _ (List.mem_cons_of_mem _ ha)
    · rw [e] at ha
      rcases List.mem_cons.mp ha with e2 | ha
      · exact oc e2
      · obtain ⟨w, hw, e3⟩ := List.mem_map.mp (show c ∈ (v :: lv).map (·.l) from ha)
        exact cl w hw e3
  · rw [List.length_append]
    show v.vs.length + 1 ≤ n
    have := R.lb v List.mem_cons_self
    omega
/-- a list is opened -/
theorem RInv.opn (R : RInv p F H o c cvs lv stack cur n) {u m t : Addr} {pos : Nat} (hu : H u = none)
    (hm : (upd (upd H u (.tup [.int (pos : Nat), .ref c])) o (.lst ((lv.map fun v => V.ref v.u).reverse ++ [.ref u]))) m = none)
    (ht : (upd (upd (upd H u (.tup [.int (pos : Nat), .ref c])) o (.lst ((lv.map fun v => V.ref v.u).reverse ++ [.ref u]))) m (.lst [])) t = none) :
    RInv p (upd (upd F u (.tup [.int (pos : Nat), .ref c])) t (.tup [.str "list", .ref m]))
      (upd (upd (upd (upd (upd H u (.tup [.int (pos : Nat), .ref c])) o (.lst ((lv.map fun v => V.ref v.u).reverse ++ [.ref u]))) m (.lst [])) t (.tup [.str "list", .ref m])) c (.lst (cvs ++ [.ref t])))
      o m [] (⟨c, cvs, t, u⟩ :: lv) ((pos, cur) :: stack) [] (n + 1) := by
  have nd := R.nd
  have oc : o ≠ c := fun e => by
    rw [e] at nd
    exact (List.nodup_cons.mp nd).1 List.mem_cons_self
  have ol : ∀ w ∈ lv, w.l ≠ o := fun w hw e => (List.nodup_cons.mp nd).1 (List.mem_cons_of_mem _ (by rw [← e]; exact List.mem_map_of_mem hw))
  have cl : ∀ w ∈ lv, w.l ≠ c := fun w hw e => (List.nodup_cons.mp (List.nodup_cons.mp nd).2).1 (by rw [← e]; exact List.mem_map_of_mem hw)
  have uo : u ≠ o := fun e => by rw [e, R.ho] at hu; cases hu
  have uc : u ≠ c := fun e => by rw [e, R.hc] at hu; cases hu
  have mo : m ≠ o := fun e => by rw [e, upd_same] at hm; cases hm
  rw [upd_ne mo] at hm
  have mu : m ≠ u := fun e => by rw [e, upd_same] at hm; cases hm
  rw [upd_ne mu] at hm
  have mc : m ≠ c := fun e => by rw [e, R.hc] at hm; cases hm
  have tm : t ≠ m := fun e => by rw [e, upd_same] at ht; cases ht
  rw [upd_ne tm] at ht
  have to : t ≠ o := fun e => by rw [e, upd_same] at ht; cases ht
  rw [upd_ne to] at ht
  have tu : t ≠ u := fun e => by rw [e, upd_same] at ht; cases ht
  rw [upd_ne tu] at ht
  have tc : t ≠ c := fun e => by rw [e, R.hc] at ht; cases ht
  have lne : ∀ {x : Addr}, H x = none → ∀ v ∈ lv, v.l ≠ x := fun {x} hx v hv e => by
    obtain ⟨y, hy⟩ := R.some_at v hv
    rw [e, hx] at hy
    cases hy
  have fu : F u = none := R.sm.free hu
  have fm : F m = none := R.sm.free hm
  have ft : F t = none := R.sm.free ht
  have sF : Same F (upd (upd F u (.tup [.int (pos : Nat), .ref c])) t (.tup [.str "list", .ref m])) := (same_new fu _).trans (same_new (by rw [upd_ne tu]; exact ft) _)
  refine ⟨fun b x hb => ?_, ?_, ?_, TreesAt.nil, ⟨TreesAt.same sF _ _ R.tc, upd_same, upd_same, ?_, R.ok.mono sF fun v hv => ?_⟩, ?_, fun a ha => ?_, Nat.zero_le _, fun v hv => ?_⟩
  · by_cases e : b = t
    · subst e
      rw [upd_same] at hb
      rw [upd_ne tc, upd_same]
      exact hb
    · rw [upd_ne e] at hb
      by_cases e2 : b = u
      · subst e2
        rw [upd_same] at hb
        rw [upd_ne uc, upd_ne e, upd_ne (Ne.symm mu), upd_ne uo, upd_same]
        exact hb
      · rw [upd_ne e2] at hb
        have bc : b ≠ c := fun z => by
          rw [z, R.fr c (by simp)] at hb
          cases hb
        have bo : b ≠ o := fun z => by
          rw [z, R.fr o (by simp)] at hb
          cases hb
        have bm : b ≠ m := fun z => by
          rw [z, fm] at hb
          cases hb
        rw [upd_ne bc, upd_ne e, upd_ne bm, upd_ne bo, upd_ne e2]
        exact R.sm b x hb
  · rw [upd_ne oc, upd_ne (Ne.symm to), upd_ne (Ne.symm mo), upd_same, List.map_cons, List.reverse_cons]
  · rw [upd_ne mc, upd_ne (Ne.symm tm), upd_same]
  · rw [upd_ne (Ne.symm tu), upd_same]
  · rw [upd_ne (cl v hv), upd_ne (lne ht v hv), upd_ne (lne hm v hv), upd_ne (ol v hv), upd_ne (lne hu v hv)]
  · have n1 := List.nodup_cons.mp nd
    refine List.nodup_cons.mpr ⟨fun z => ?_, List.nodup_cons.mpr ⟨fun z => ?_, n1.2⟩⟩
    · rcases List.mem_cons.mp z with e | z
      · exact mo e.symm
      · exact n1.1 z
    · rcases List.mem_cons.mp z with e | z
      · exact mc e
      · obtain ⟨v, hv, e⟩ := List.mem_map.mp z
        exact lne hm v hv e
  · have key : a ≠ t ∧ a ≠ u ∧ F a = none := by
      rcases List.mem_cons.mp ha with e | ha
      · rw [e]
        exact ⟨Ne.symm to, Ne.symm uo, R.fr o (by simp)⟩
      · rcases List.mem_cons.mp ha with e | ha
        · rw [e]
          exact ⟨Ne.symm tm, mu, fm⟩
        · rcases List.mem_cons.mp ha with e | ha
          · rw [e]
            exact ⟨Ne.symm tc, Ne.symm uc, R.fr c (by simp)⟩
          · obtain ⟨v, hv, e⟩ := List.mem_map.mp ha
            rw [← e]
            exact ⟨lne ht v hv, lne hu v hv, R.fr v.l (List.mem_cons_of_mem _ (List.mem_cons_of_mem _ (List.mem_map_of_mem hv)))⟩
    rw [upd_ne key.1, upd_ne key.2.1]
    exact key.2.2
  · rcases List.mem_cons.mp hv with e | hv
    · rw [e]
      exact Nat.lt_succ_of_le R.cb
    · exact Nat.lt_succ_of_lt (R.lb v hv)
end
end Sg

namespace Sg
open PySem PySem.Spec PyProof.Rows L2
/-! ### read -/
theorem all_dig {l : List Nat} (h : l.all isDig = true) : NumText.AllDigits l := fun c hc => by
  have z := List.all_eq_true.mp h c hc
  exact of_decide_eq_true z
theorem isInt_text {l : List Nat} (h : isIntL l = true) : PySem.intText? (S l) = some (intVal l) ∧ l.length ≤ 10 := by
  have key : ∃ n, PySem.intText? (S l) = some n ∧ l.length ≤ 10 := by
    unfold isIntL at h
    rw [Bool.or_eq_true] at h
    rcases h with h | h
    · have e : l = [48] := by simpa using h
      subst e
      exact ⟨_, intText_digits (x := S [48]) (all_dig (by decide)) (by decide) (by decide), by decide⟩
    · rw [Bool.and_eq_true, Bool.and_eq_true, decide_eq_true_eq] at h
      obtain ⟨⟨h1, h2⟩, _, h4⟩ := h
      cases l with
      | nil =>
        have e : stripDash [] = [] := rfl
        rw [e] at h1
        exact absurd h1 (by decide)
      | cons c r =>
        by_cases hc : c = 45
        · subst hc
          have e : stripDash (45 :: r) = r := rfl
          rw [e] at h1 h2 h4
          refine ⟨_, intText_neg (x := S (45 :: r)) (cs := r) rfl (all_dig h4) (fun z => by rw [z] at h1; exact absurd h1 (by decide)) ?_, ?_⟩
          · show (45 :: r).length ≤ 4300
            rw [List.length_cons]
            omega
          · rw [List.length_cons]
            omega
        · have e : stripDash (c :: r) = c :: r := by
            unfold stripDash
            split
            · rename_i r' e
              cases e
              exact absurd rfl hc
            · rfl
          rw [e] at h1 h2 h4
          refine ⟨_, intText_digits (x := S (c :: r)) (all_dig h4) (by simp [S]) ?_, by omega⟩
          show (c :: r).length ≤ 4300
          omega
  obtain ⟨n, h1, h2⟩ := key
  refine ⟨?_, h2⟩
  unfold intVal
  rw [h1]
  rfl
theorem prun_ok (l : List Nat) : ∀ n, ∀ p ∈ (prun l n).2, p.2 ≠ [] ∧ p.2.length ≤ n ∧ p.1 < n
  | 0, p, h => by cases h
  | n + 1, p, h => by
    cases e : (l ++ [32])[n]? with
    | none =>
      have e2 : prun l (n + 1) = prun l n := by
        show (match (l ++ [32])[n]? with
          | some c => pstep l (prun l n) n c
          | none => prun l n) = _
        rw [e]
      rw [e2] at h
      have z := prun_ok l n p h
      exact ⟨z.1, by omega, by omega⟩
    | some c =>
      rw [prun_more e] at h
      have hn : n ≤ l.length := by
        have h1 := (List.getElem?_eq_some_iff.mp e).1
        rw [List.length_append] at h1
        have h2 : ([32] : List Nat).length = 1 := rfl
        omega
      unfold pstep at h
      split at h
      · have h' : p ∈ (prun l n).2 ++ runPart l (prun l n).1 n ++ parPart n c := h
        rcases List.mem_append.mp h' with h | h
        · rcases List.mem_append.mp h with h | h
          · have z := prun_ok l n p h
            exact ⟨z.1, by omega, by omega⟩
          · unfold runPart at h
            split at h
            · rename_i hlt
              have ep := List.mem_singleton.mp h
              subst ep
              have hl : ((l.drop (prun l n).1).take (n - (prun l n).1)).length = n - (prun l n).1 := by
                rw [List.length_take, List.length_drop]
                omega
              refine ⟨fun z => ?_, ?_, by omega⟩
              · have z' : (l.drop (prun l n).1).take (n - (prun l n).1) = [] := z
                rw [z'] at hl
                have : ([] : List Nat).length = 0 := rfl
                omega
              · show ((l.drop (prun l n).1).take (n - (prun l n).1)).length ≤ n + 1
                omega
            · cases h
        · unfold parPart at h
          split at h
          · have ep := List.mem_singleton.mp h
            subst ep
            refine ⟨by simp, ?_, Nat.lt_succ_self _⟩
            show 1 ≤ n + 1
            omega
          · cases h
      · have z := prun_ok l n p h
        exact ⟨z.1, by omega, by omega⟩
theorem natLog {n : Nat} (h : n ≤ 1000000) : (n : Int).natAbs.log2 < 1920 := by
  have e : (n : Int).natAbs = n := rfl
  rw [e]
  have h2 : n < 2 ^ 20 := by
    have : (2 : Nat) ^ 20 = 1048576 := by decide
    omega
  by_cases h0 : n = 0
  · subst h0
    decide
  · have := (Nat.log2_lt h0).mpr h2
    omega
section
variable {P : Program} {w : World} {K : PySem.W.Frag} {mg : Str → Option Value} {base : Heap}
def spRead (C : Addr) : Sp := fun vs H Q E => ∃ x : Str, vs = [.str x] ∧ x.length ≤ 20000 ∧
  (∀ ts, readM (piecesL x.cps.toList) = .ok ts → ∀ H' p vs, Same H H' → H p = none → H' p = some (.lst vs) → TreesAt H' ts vs → Q (.ref p) H') ∧
  (∀ e, readM (piecesL x.cps.toList) = .error e → ∀ H' d, Same H H' → H d = none → H' d = some (.xd [(("at" : Str), .int (e : Nat))]) → E (.ref C) (some d) H')
theorem scRead : FnScope ["text", "program", "items", "opened", "names", "at", "piece", "inner", "_"] ["text"] (defScope sRead) := ⟨rfl, rfl, rfl, by decide +kernel, rfl, by decide +kernel, by decide +kernel⟩
theorem ok_read {f fP fI fN C tI cc cda : Addr} {fd fdP fdI fdN : FuncData} {k : Nat} (F : Fun K "read" "read" sRead f fd) (hk : 2 ≤ k) (T : PySem.TeX.TeTxt P K mg C tI cc cda)
    (GP : FnOk P w K mg base CX0 k fP fdP ["text"] spPieces) (bP : Binds K fdP ["text"] []) (kP : PySem.W.keepIn K (.ref fP) = true) (mP : mg "pieces" = some (.ref fP))
    (GI : FnOk P w K mg base CX0 k fI fdI ["run"] spIsInt) (bI : Binds K fdI ["run"] []) (kI : PySem.W.keepIn K (.ref fI) = true) (mI : mg "names_an_integer" = some (.ref fI))
    (GN : FnOk P w K mg base CX0 k fN fdN ["run"] spIsName) (bN : Binds K fdN ["run"] []) (kN : PySem.W.keepIn K (.ref fN) = true) (mN : mg "is_a_name" = some (.ref fN))
    (ml : mg "len" = none) (mi : mg "int" = none) (Cs : Consts K mg) : FnOk P w K mg base (L2.CX P w) (k + 1) f fd ["text"] (spRead C) := by
  obtain ⟨tD, gD⟩ := Cs.dl
  refine F.okX scRead (fun vs H Q E h => ?_) (fun cdv A outer st H vs Q E hr h => ?_)
  · obtain ⟨x, rfl, _⟩ := h
    rfl
  obtain ⟨x, rfl, hlen, qO, qE⟩ := h
  refine ⟨_, pss_cons (ps_set (i := 1) scRead.nd rfl (.inl rfl) (pe_lst pa_nil))
    (pss_cons (ps_set (i := 2) scRead.nd rfl (.inl rfl) (pv 1))
    (pss_cons (ps_set (i := 3) scRead.nd rfl (.inl rfl) (pe_lst pa_nil))
    (pss_cons (ps_set (i := 4) scRead.nd rfl (.inl rfl) pe_int)
    (pss_cons (ps_for (passes_of rfl) rfl (pi_list (pe_call GP hr (by rfl) mP kP bP .nil pass0 (pa_cons (pv 0) pa_nil))) (pg_tup rfl (pgs_cons (pg_name (i := 5) scRead.nd rfl (.inl rfl)) (pgs_cons (pg_name (i := 6) scRead.nd rfl (.inl rfl)) pgs_nil)))
      (pss_one (ps_if (pt_cmpR op_eq (pv 6) pe_str (nomark _))
        (pss_cons (ps_if (pt_cmpR op_eq (pe_callB call_len_seq (by rfl) ml PySem.boot_len (pa_cons (pv 3) pa_nil)) (pe_glob (v := .int 30) (by rfl) gD ⟨_, rfl⟩) (nomark _))
          (pss_one (ps_raiseTe rfl T (hr.mono hk) (takes_of rfl rfl rfl rfl) (pa_cons (pv 5) pa_nil))) pss_nil)
        (pss_cons (ps_expr (pe_bm PySem.F.plainAttrs_list PySem.F.slot_list_append PySem.F.type_list_append mt_append (pv 3) (pa_cons (pe_tup (pa_cons (pv 5) (pa_cons (pv 2) pa_nil))) pa_nil)))
        (pss_cons (ps_set (i := 7) scRead.nd rfl (.inl rfl) (pe_lst pa_nil))
        (pss_cons (ps_expr (pe_bm PySem.F.plainAttrs_list PySem.F.slot_list_append PySem.F.type_list_append mt_append (pv 2) (pa_cons (pe_tup (pa_cons pe_str (pa_cons (pv 7) pa_nil))) pa_nil)))
        (pss_one (ps_set (i := 2) scRead.nd rfl (.inl rfl) (pv 7)))))))
        (pss_one (ps_if (pt_cmpR op_eq (pv 6) pe_str (nomark _))
          (pss_cons (ps_if (pt_not (pt_truth (pv 3) (fun _ => by rfl))) (pss_one (ps_raiseTe rfl T (hr.mono hk) (takes_of rfl rfl rfl rfl) (pa_cons (pv 5) pa_nil))) pss_nil)
          (pss_one (ps_asg (pe_bm0 PySem.F.plainAttrs_list PySem.F.slot_list_pop PySem.F.type_list_pop mt_pop (pv 3)) (pg_tup rfl (pgs_cons (pg_name (i := 8) scRead.nd rfl (.inl rfl)) (pgs_cons (pg_name (i := 2) scRead.nd rfl (.inl rfl)) pgs_nil))))))
          (pss_one (ps_if (pt_val (pe_call GI hr (by rfl) mI kI bI .nil pass0 (pa_cons (pv 6) pa_nil)))
            (pss_one (ps_expr (pe_bm PySem.F.plainAttrs_list PySem.F.slot_list_append PySem.F.type_list_append mt_append (pv 2) (pa_cons (pe_tup (pa_cons pe_str (pa_cons (pe_callTy call_int_str (by rfl) mi (by decide +kernel) (pa_cons (pv 6) pa_nil)) pa_nil))) pa_nil))))
            (pss_one (ps_if (pt_val (pe_call GN hr (by rfl) mN kN bN .nil pass0 (pa_cons (pv 6) pa_nil)))
              (pss_cons (ps_expr (pe_bm PySem.F.plainAttrs_list PySem.F.slot_list_append PySem.F.type_list_append mt_append (pv 2) (pa_cons (pe_tup (pa_cons pe_str (pa_cons (pv 6) (pa_cons (pv 4) pa_nil)))) pa_nil)))
              (pss_one (ps_aug (i := 4) scRead.nd rfl (.inl rfl) pe_int ip_add)))
              (pss_one (ps_raiseTe rfl T (hr.mono hk) (takes_of rfl rfl rfl rfl) (pa_cons (pv 5) pa_nil))))))))))))
    (pss_cons (ps_if (pt_truth (pv 3) (fun _ => by rfl)) (pss_one (ps_raiseTe rfl T (hr.mono hk) (takes_of rfl rfl rfl rfl) (pa_cons (pe_ix ix_tup (pe_ix ix_list (pv 3) (pe_un un_neg pe_int) (fun _ _ => rfl)) pe_int (fun _ _ => rfl)) pa_nil))) pss_nil)
    (pss_one (ps_ret (pv 1)))))))), ?_⟩
  have hL : x.cps.toList.length = x.length := len_cps x
  generalize hps : piecesL x.cps.toList = ps at qO qE
  have pok : ∀ q ∈ ps, q.2 ≠ [] ∧ q.2.length ≤ 20001 ∧ q.1 ≤ 20001 := fun q hq => by
    rw [← hps] at hq
    have z := prun_ok x.cps.toList _ q hq
    exact ⟨z.1, by omega, by omega⟩
  have plen : ps.length ≤ 40002 := by
    rw [← hps]
    have z := (prun_le x.cps.toList (x.cps.toList.length + 1)).2
    unfold piecesL
    omega
  refine ⟨Nat.zero_le _, fun p np => ?_⟩
  refine ⟨_, rfl, ?_⟩
  refine ⟨Nat.zero_le _, fun o no => ?_⟩
  refine ⟨_, rfl, x, rfl, hlen, fun H3 ls vs sm3 nl el pa => ?_⟩
  rw [hps] at pa
  have ep : H3 p = some (.lst []) := sm3 _ _ (by rw [upd_ne (fun e => by rw [← e, upd_same] at no; cases no), upd_same])
  have eo : H3 o = some (.lst []) := sm3 _ _ upd_same
  have op : o ≠ p := fun e => by rw [e, upd_same] at no; cases no
  have sHH : Same H H3 := ((same_new np _).trans (same_new no _)).trans sm3
  obtain ⟨F0, hF0⟩ : ∃ F0 : Hp, F0 = fun b => if b = o ∨ b = p then none else H3 b := ⟨_, rfl⟩
  have f0 : ∀ b, b ≠ o → b ≠ p → F0 b = H3 b := fun b h1 h2 => by
    rw [hF0]
    show (if b = o ∨ b = p then none else H3 b) = _
    rw [if_neg (fun z => z.elim h1 h2)]
  have f0o : F0 o = none := by
    rw [hF0]
    show (if o = o ∨ o = p then none else H3 o) = _
    rw [if_pos (.inl rfl)]
  have f0p : F0 p = none := by
    rw [hF0]
    show (if p = o ∨ p = p then none else H3 p) = _
    rw [if_pos (.inr rfl)]
  have sF3 : Same F0 H3 := fun b u e => by
    have h1 : b ≠ o := fun z => by rw [z, f0o] at e; cases e
    have h2 : b ≠ p := fun z => by rw [z, f0p] at e; cases e
    rw [← f0 b h1 h2]
    exact e
  have sHF : Same H F0 := fun b u e => by
    have nu : H o = none := (same_new np (.lst [])).free no
    rw [f0 b (ne_of_none e nu) (ne_of_none e np)]
    exact sHH _ _ e
  have paF : PairsAt F0 vs ps := Paired.mapP pa fun v q ⟨a, e, z⟩ => ⟨a, e, by
    rw [f0 a (fun y => by rw [y, eo] at z; cases z) (fun y => by rw [y, ep] at z; cases z)]
    exact z⟩
  have elF : F0 ls = some (.lst vs) := by
    refine (f0 ls (fun y => ?_) (fun y => ?_)).trans el
    · rw [y, upd_same] at nl
      cases nl
    · rw [y, upd_ne (Ne.symm op), upd_same] at nl
      cases nl
  have fr0 : ∀ a ∈ o :: p :: ([] : List Lv).map (·.l), F0 a = none := fun a ha => by
    rcases List.mem_cons.mp ha with e | ha
    · rw [e]
      exact f0o
    · rcases List.mem_cons.mp ha with e | ha
      · rw [e]
        exact f0p
      · cases ha
  have R0 : RInv p F0 H3 o p [] [] [] [] 0 := ⟨sF3, eo, ep, TreesAt.nil, rfl, by simp [op], fr0, Nat.le_refl _, fun v hv => (by cases hv)⟩
  refine ⟨ls, rfl, ⟨_, SqL.of el⟩, for_list (K := K) (a := ls) (xs := vs) (fun j σ H' => ∃ (F : Hp) (c : Addr) (cvs : List V) (lv : List Lv) (stack : List (Nat × List Tree)) (cur : List Tree) (names : Nat) (y5 y6 y7 y8 : Option V),
      σ = [some (.str x), some (.ref p), some (.ref c), some (.ref o), some (.int (names : Nat)), y5, y6, y7, y8] ∧ Same F0 F ∧ RInv p F H' o c cvs lv stack cur j ∧ rrun (ps.take j) = .ok (stack, cur, names) ∧ stack.length ≤ 30)
    ⟨F0, p, [], [], [], [], 0, none, none, none, none, rfl, Same.refl _, R0, rfl, by decide⟩ ?_ ?_ ?_⟩
  · rintro j σ H' _ ⟨F, c, cvs, lv, stack, cur, names, y5, y6, y7, y8, _, sF, R, _, _⟩
    exact SqL.of (R.sm _ _ (sF _ _ elF))
  · rintro j v σ H' hj ⟨F, c, cvs, lv, stack, cur, names, y5, y6, y7, y8, rfl, sF, R, hrun, h30⟩
    obtain ⟨pc, hpc, a, rfl, ha⟩ := paired_get paF hj
    have step := rrun_take hpc
    rw [hrun] at step
    obtain ⟨pos, pl⟩ := pc
    obtain ⟨pk1, pk2, pk3⟩ := pok _ (List.mem_of_getElem? hpc)
    have pk1 : pl ≠ [] := pk1
    have pk2 : pl.length ≤ 20001 := pk2
    have pk3 : pos ≤ 20001 := pk3
    have hjl : j < 40002 := Nat.lt_of_lt_of_le (List.getElem?_eq_some_iff.mp hpc).1 plen
    have len1 := R.ok.len
    have cb := R.cb
    have hlp : (S pl).length ≤ 100000 := by
      show pl.length ≤ 100000
      omega
    have fail : ∀ H' d, Same F H' → rstep (stack, cur, names) (pos, pl) = .error pos → H' d = none → E (.ref C) (some d) (upd H' d (.xd [(("at" : Str), .int (pos : Nat))])) := fun H' d sm er hd => by
      have e1 : rrun ps = .error pos := rrun_err (j := j + 1) (step.trans er)
      have sm' : Same H H' := (sHF.trans sF).trans sm
      exact qE pos (by unfold readM; rw [e1]; rfl) _ d (sm'.trans (same_new hd _)) (sm'.free hd) upd_same
    refine ⟨a, _, rfl, .inl (.inl (R.sm _ _ (sF _ _ ha))), rfl, _, _, rfl, _, _, rfl, rfl, ?_⟩
    refine ⟨_, rfl, rfl, _, rfl, ?_⟩
    have eq1 : ∀ (l : List Nat) (s : Str), s.cps.toList = l → ((V.str (S pl) = V.str s) ↔ pl = l) := fun l s hs => by
      constructor
      · intro e
        injection e with e
        rw [← hs, ← e]
        rfl
      · intro e
        rw [e, ← hs, S_of]
    by_cases h40 : pl = [40]
    · refine if_true_of (decide_eq_true ((eq1 [40] "(" (by decide +kernel)).mpr h40)) ?_
      refine ⟨_, rfl, o, _, rfl, .inl (SqL.of R.ho), rfl, _, rfl, ?_⟩
      by_cases h3 : stack.length = 30
      · refine if_true_of (decide_eq_true (by rw [List.length_reverse, List.length_map, len1, h3]; rfl)) ?_
        refine ⟨_, rfl, _, rfl, natLog (by omega), fun d hd => fail _ d R.sm (by unfold rstep; rw [if_pos h40, if_pos h3]) hd⟩
      · refine if_false_of (decide_eq_false fun z => ?_) ?_
        · rw [List.length_reverse, List.length_map, len1] at z
          injection z with z
          exact h3 (by omega)
        · have lvl : (lv.map fun v => V.ref v.u).reverse.length ≤ 30 := by
            rw [List.length_reverse, List.length_map, len1]
            exact h30
          refine ⟨.ref o, rfl, .inl ⟨rfl, _, SqL.of R.ho⟩, _, rfl, _, rfl, (by show 2 ≤ sizeLine; decide), fun u hu => ⟨o, _, _, rfl, rfl, (by rw [upd_ne (ne_of_none R.ho hu)]; exact R.ho), smallL (by omega), ?_⟩⟩
          refine ⟨Nat.zero_le _, fun m hm => ?_⟩
          have oc : c ≠ o := fun e => by
            have nd := R.nd
            rw [e] at nd
            exact (List.nodup_cons.mp nd).1 List.mem_cons_self
          have ec : (upd (upd H' u (.tup [.int (pos : Nat), .ref c])) o (.lst ((lv.map fun v => V.ref v.u).reverse ++ [.ref u]))) c = some (.lst cvs) := by
            rw [upd_ne oc, upd_ne (ne_of_none R.hc hu)]
            exact R.hc
          have ec2 := same_new hm (.lst []) _ _ ec
          refine ⟨.ref c, rfl, .inl ⟨rfl, _, SqL.of ec2⟩, _, rfl, (by show 2 ≤ sizeLine; decide), fun t ht => ⟨c, _, _, rfl, rfl, (by rw [upd_ne (ne_of_none ec2 ht)]; exact ec2), smallL (by omega), ?_⟩⟩
          have R2 := R.opn hu hm ht
          refine ⟨_, rfl, _, m, _, _, _, _, names, _, _, _, _, rfl, ?_, R2, ?_, ?_⟩
          · have fu : F u = none := R.sm.free hu
            have ft : F t = none := by
              have z1 := (same_new hm (.lst [])).free ht
              have nto : t ≠ o := fun e => by
                rw [e, upd_same] at z1
                cases z1
              rw [upd_ne nto] at z1
              exact R.sm.free ((same_new hu _).free z1)
            have ntu : t ≠ u := fun e => by
              have z1 := (same_new hm (.lst [])).free ht
              have nto : t ≠ o := fun e => by
                rw [e, upd_same] at z1
                cases z1
              rw [upd_ne nto, e, upd_same] at z1
              cases z1
            exact sF.trans ((same_new fu _).trans (same_new (by rw [upd_ne ntu]; exact ft) _))
          · rw [step]
            show rstep (stack, cur, names) (pos, pl) = _
            unfold rstep
            rw [if_pos h40, if_neg h3]
          · rw [List.length_cons]
            omega
    · refine if_false_of (decide_eq_false fun z => h40 ((eq1 [40] "(" (by decide +kernel)).mp z)) ?_
      refine ⟨_, rfl, rfl, _, rfl, ?_⟩
      by_cases h41 : pl = [41]
      · refine if_true_of (decide_eq_true ((eq1 [41] ")" (by decide +kernel)).mpr h41)) ?_
        refine ⟨_, rfl, _, .inl ⟨_, SqL.of R.ho, rfl⟩, ?_⟩
        cases lv with
        | nil =>
          cases stack with
          | cons q st => cases len1
          | nil =>
            refine if_true_of (by simp) ?_
            exact ⟨_, rfl, _, rfl, natLog (by omega), fun d hd => fail _ d R.sm (by unfold rstep; rw [if_neg h40, if_pos h41]) hd⟩
        | cons v lv =>
          cases stack with
          | nil => cases len1
          | cons q st =>
            obtain ⟨q, ts⟩ := q
            refine if_false_of (by simp) ?_
            obtain ⟨k1, k2, k3, k4, k5⟩ := id R.ok
            have ed : ((v :: lv).map fun v => V.ref v.u).reverse.dropLast = (lv.map fun v => V.ref v.u).reverse := by simp
            refine ⟨_, rfl, .inl ⟨rfl, _, SqL.of R.ho⟩, o, _, .ref v.u, rfl, rfl, R.ho, by simp, ?_⟩
            rw [ed]
            have uo : v.u ≠ o := fun z => by
              have z2 := R.fr o (by simp)
              rw [← z, k4] at z2
              cases z2
            refine ⟨v.u, _, rfl, .inl (.inl (by rw [upd_ne uo]; exact R.sm _ _ k4)), rfl, _, _, rfl, _, _, rfl, rfl, ?_⟩
            refine ⟨_, v.l, _, lv, st, _, names, _, _, _, _, rfl, sF.trans (same_new (R.fr c (by simp)) _), R.shut.up (Nat.le_succ _), ?_, ?_⟩
            · rw [step]
              show rstep ((q, ts) :: st, cur, names) (pos, pl) = _
              unfold rstep
              rw [if_neg h40, if_pos h41]
            · rw [List.length_cons] at h30
              omega
      · refine if_false_of (decide_eq_false fun z => h41 ((eq1 [41] ")" (by decide +kernel)).mp z)) ?_
        refine ⟨_, rfl, S pl, rfl, hlp, fun H4 sm4 => ⟨_, rfl, ?_⟩⟩
        have R4 := R.heap sm4
        have eI : isIntL (S pl).cps.toList = isIntL pl := rfl
        rw [eI]
        cases hI : isIntL pl with
        | true =>
          refine if_true_of rfl ?_
          have it := isInt_text hI
          refine ⟨.ref c, rfl, .inl ⟨rfl, _, SqL.of R4.hc⟩, _, rfl, S pl, _, rfl, it.1, ?_, (by show 2 ≤ sizeLine; decide), fun t ht => ⟨c, _, _, rfl, rfl, (by rw [upd_ne (ne_of_none R4.hc ht)]; exact R4.hc), smallL (by omega), ?_⟩⟩
          · show pl.length ≤ 640
            omega
          · refine ⟨_, c, _, lv, stack, _, names, _, _, _, _, rfl, sF.trans (same_new (R4.sm.free ht) _), R4.leaf (T := .int (intVal pl)) ht (fun F' e => by unfold TreeAt; exact ⟨t, rfl, e⟩), ?_, h30⟩
            rw [step]
            show rstep (stack, cur, names) (pos, pl) = _
            unfold rstep
            rw [if_neg h40, if_neg h41, hI, if_pos rfl]
        | false =>
          refine if_false_of rfl ?_
          refine ⟨_, rfl, S pl, rfl, hlp, List.length_pos_iff.mpr pk1, fun H5 sm5 => ⟨_, rfl, ?_⟩⟩
          have R5 := R4.heap sm5
          have eN : isNameL (S pl).cps.toList = isNameL pl := rfl
          rw [eN]
          cases hN : isNameL pl with
          | true =>
            refine if_true_of rfl ?_
            refine ⟨.ref c, rfl, .inl ⟨rfl, _, SqL.of R5.hc⟩, _, rfl, _, rfl, (by show 3 ≤ sizeLine; decide), fun t ht => ⟨c, _, _, rfl, rfl, (by rw [upd_ne (ne_of_none R5.hc ht)]; exact R5.hc), smallL (by omega), ?_⟩⟩
            refine ⟨_, rfl, _, _, rfl, rfl, ?_⟩
            refine ⟨_, c, _, lv, stack, _, names + 1, _, _, _, _, rfl, sF.trans (same_new (R5.sm.free ht) _), R5.leaf (T := .name pl names) ht (fun F' e => by unfold TreeAt; exact ⟨t, rfl, e⟩), ?_, h30⟩
            rw [step]
            show rstep (stack, cur, names) (pos, pl) = _
            unfold rstep
            rw [if_neg h40, if_neg h41, hI, if_neg Bool.false_ne_true, hN, if_pos rfl]
          | false =>
            refine if_false_of rfl ?_
            exact ⟨_, rfl, _, rfl, natLog (by omega), fun d hd => fail _ d R5.sm (by unfold rstep; rw [if_neg h40, if_neg h41, hI, if_neg Bool.false_ne_true, hN, if_neg Bool.false_ne_true]) hd⟩
  · rintro σ H' ⟨F, c, cvs, lv, stack, cur, names, y5, y6, y7, y8, rfl, sF, R, hrun, h30⟩
    have hlv : vs.length = ps.length := Paired.length paF
    rw [hlv, List.take_length] at hrun
    refine ⟨_, rfl, _, .inl ⟨_, SqL.of R.ho, rfl⟩, ?_⟩
    have len1 := R.ok.len
    have sH' : Same H H' := (sHF.trans sF).trans R.sm
    cases lv with
    | nil =>
      cases stack with
      | cons q st => cases len1
      | nil =>
        refine if_false_of (by simp) ?_
        have ecp : c = p := R.ok
        refine ⟨_, rfl, qO cur (by unfold readM; rw [hrun]; rfl) H' p cvs sH' np (by rw [← ecp]; exact R.hc) (TreesAt.same R.sm _ _ R.tc)⟩
    | cons v lv =>
      cases stack with
      | nil => cases len1
      | cons q st =>
        obtain ⟨q, ts⟩ := q
        obtain ⟨k1, k2, k3, k4, k5⟩ := id R.ok
        refine if_true_of (by simp) ?_
        have hq : q ≤ 20001 := rrun_pos (B := fun n => n ≤ 20001) ps ([], [], 0) _ hrun (fun s hs => by cases hs) (fun r hr => (pok r hr).2.2) (q, ts) List.mem_cons_self
        have gl : atI ((v :: lv).map fun v => V.ref v.u).reverse (-1) = some (.ref v.u) := by
          rw [List.map_cons, List.reverse_cons]
          exact atI_last _ _
        refine ⟨_, rfl, 1, rfl, o, _, -1, _, rfl, rfl, SqL.of R.ho, gl, v.u, _, 0, _, rfl, rfl, SqT.of (R.sm _ _ k4), at0, q, rfl, natLog (by omega), fun d hd => ?_⟩
        exact qE q (by unfold readM; rw [hrun]; rfl) _ d (sH'.trans (same_new hd _)) (sH'.free hd) upd_same
end
end Sg

namespace Sg
open PySem PySem.Spec PyProof.Rows L2
section
variable {P : Program} {w : World} {K : PySem.W.Frag} {mg : Str → Option Value} {base : Heap}
/-- what _law_at says of a text -/
def atM (l : List Nat) : Int := match readM (piecesL l) with
  | .ok _ => -1
  | .error e => (e : Nat)
def spAt : Sp := fun vs H Q _ => ∃ x : Str, vs = [.str x] ∧ x.length ≤ 20000 ∧ ∀ H', Same H H' → Q (.int (atM x.cps.toList)) H'
structure Isa (K : PySem.W.Frag) (mg : Str → Option Value) (C CS CF : Addr) : Prop where
  gS : mg "SugarError" = some (.ref CS)
  gF : mg "FormError" = some (.ref CF)
  ve : mg "ValueError" = none
  is : mg "isinstance" = none
  ex : ExcC K C
  k1 : PySem.W.kitOne K (.ref C) (.ref CS) = some true
  k2 : PySem.W.kitOne K (.ref C) (.type "ValueError") = some true
  k3 : PySem.W.kitOne K (.ref C) (.ref CF) = some false
theorem scAt : FnScope ["text", "e"] ["text"] (defScope sAt) := ⟨rfl, rfl, rfl, by decide +kernel, rfl, by decide +kernel, by decide +kernel⟩
theorem ok_at {f fR C tI cc cda CS CF : Addr} {fd fdR : FuncData} {k : Nat} (F : Fun K "_law_at" "_law_at" sAt f fd) (T : PySem.TeX.TeTxt P K mg C tI cc cda) (J : Isa K mg C CS CF)
    (GR : FnOk P w K mg base (L2.CX P w) k fR fdR ["text"] (spRead C)) (bR : Binds K fdR ["text"] []) (kR : PySem.W.keepIn K (.ref fR) = true) (mR : mg "read" = some (.ref fR)) : FnOk P w K mg base CX0 (k + 1) f fd ["text"] spAt := by
  refine F.ok scAt (fun vs H Q E h => ?_) (fun cdv A outer st H vs Q E hr h => ?_)
  · obtain ⟨x, rfl, _⟩ := h
    rfl
  obtain ⟨x, rfl, hlen, q⟩ := h
  refine ⟨_, pss_cons (ps_try_as (i := 1) (tb := fun W => tDrop (tCallS (spRead C) (WE W) (tCons (tVar 0) tNil))) (Wout := fun _ _ _ _ => False) rfl rfl scAt.nd rfl rfl ⟨rfl, by decide, Or.inl T.gC⟩ takes0
      (fun W pn xe tk _ => pss_one (ps_expr (by exact (pe_callS GR hr rfl mR kR bR (fun σ => passAt tk σ) (by exact (pa_cons (pv 0) pa_nil))))))
      (fun a oe cls d pn hz hf => pss_cons (ps_if (pw_or (pt_not (pt_val (pe_callB (call_isO hz hf) (by rfl) J.is boot_isinstance (pa_cons (pv 1) (pa_cons (pe_glob (v := .ref CS) (by rfl) J.gS rfl) pa_nil)))))
          (pw_or (pt_not (pt_val (pe_callB (call_isO hz hf) (by rfl) J.is boot_isinstance (pa_cons (pv 1) (pa_cons (pe_bltn (v := .ty "ValueError") (by rfl) J.ve PyProof.Rows.Boot.«ValueError» rfl) pa_nil)))))
          (pw_or1 (pt_val (pe_callB (call_isO hz hf) (by rfl) J.is boot_isinstance (pa_cons (pv 1) (pa_cons (pe_glob (v := .ref CF) (by rfl) J.gF rfl) pa_nil))))))).pt (pss_one (ps_ret (pe_un un_neg pe_int))) pss_nil)
        (pss_one (ps_ret (by exact (pe_byTe T hz hf (pv 1)))))))
    (pss_one (ps_ret (pe_un un_neg pe_int))), ?_⟩
  have eA : atM x.cps.toList = match readM (piecesL x.cps.toList) with
      | .ok _ => -1
      | .error e => ((e : Nat) : Int) := rfl
  refine ⟨_, rfl, x, rfl, hlen, fun ts e H' p vs sm _ _ _ => ?_, fun e er H' d sm hd ed => ?_⟩
  · rw [e] at eA
    rw [eA] at q
    exact ⟨_, rfl, q H' sm⟩
  · rw [er] at eA
    rw [eA] at q
    refine ⟨true, T.te, fun _ a0 ha0 => ?_, fun z => Bool.noConfusion z⟩
    refine ⟨_, rfl, C, d, _, .ref CS, _, true, rfl, rfl, J.ex, ed, rfl, fun u r => r, J.k1, true, rfl, ?_⟩
    refine if_false_of rfl ?_
    refine ⟨_, rfl, C, d, _, .ty "ValueError", _, true, rfl, rfl, J.ex, ed, rfl, fun u r => r, J.k2, true, rfl, ?_⟩
    refine if_false_of rfl ?_
    refine ⟨_, rfl, C, d, _, .ref CF, _, false, rfl, rfl, J.ex, ed, rfl, fun u r => r, J.k3, false, rfl, ?_⟩
    refine if_false_of rfl ?_
    exact ⟨_, rfl, rfl, rfl, d, _, rfl, ed, q H' sm⟩
end
end Sg

namespace Sg
open PySem PySem.Spec PyProof.Rows L2
section
variable {P : Program} {w : World} {K : PySem.W.Frag} {mg : Str → Option Value} {base : Heap}
def goodRows : List (List Nat) := [[97], [40, 97, 32, 49, 41], [45, 51, 32], [40, 40, 41, 32, 120, 41, 10], [40, 40, 98, 41, 32, 45, 50, 48, 32, 40, 99, 32, 46, 46, 46, 41, 41], [43, 32], [32, 32], [57, 57, 57, 57, 57, 57, 57, 57, 57], [40, 102, 32, 40, 103, 32, 48, 41, 41]]
def joinSp : List (List Nat) → List Nat
  | [] => []
  | [x] => x
  | x :: y :: r => x ++ 32 :: joinSp (y :: r)
theorem join_sp : ∀ yl : List (List Nat), Txt.join (S [32]) (yl.map S) = S (joinSp yl) := fun yl => by
  have e := SX.join_S [32] yl
  have e2 : ∀ yl : List (List Nat), TL.joinL [32] yl = joinSp yl := by
    intro yl
    induction yl with
    | nil => rfl
    | cons x r ih =>
      cases r with
      | nil => rfl
      | cons y r =>
        show x ++ ([32] ++ TL.joinL [32] (y :: r)) = x ++ 32 :: joinSp (y :: r)
        rw [ih]
        rfl
  rw [← e2]
  exact e
def spGood : Sp := fun vs H Q _ => ∃ (p c : Addr), vs = [.ref p] ∧ St p c H ∧ ∀ H' yl, Kp p c H H' → St p c H' → yl.length ≤ 5 → (∀ y ∈ yl, y ∈ goodRows) → Q (.str (S (joinSp yl))) H'
theorem scGood : FnScope ["state", "rows", "k"] ["state"] (defScope sGood) := ⟨rfl, rfl, rfl, by decide +kernel, rfl, by decide +kernel, by decide +kernel⟩
theorem good_len : ∀ {yl : List (List Nat)}, (∀ y ∈ yl, y ∈ goodRows) → ((yl.map S).map (·.length)).sum ≤ 20 * yl.length
  | [], _ => Nat.le_refl _
  | y :: r, h => by
    have ih := good_len fun z hz => h z (List.mem_cons_of_mem _ hz)
    have hy : y.length ≤ 20 := by
      have key : ∀ z ∈ goodRows, z.length ≤ 20 := by decide
      exact key y (h y List.mem_cons_self)
    rw [List.map_cons, List.map_cons, List.sum_cons, List.length_cons]
    have e : (S y).length = y.length := rfl
    rw [e]
    omega
theorem ok_good {f fD fK : Addr} {fd fdD fdK : FuncData} {k : Nat} (F : Fun K "_law_good" "_law_good" sGood f fd)
    (GD : FnOk P w K mg base CX0 k fD fdD ["state", "many"] spDraw) (bD : Binds K fdD ["state", "many"] []) (kD : PySem.W.keepIn K (.ref fD) = true) (mD : mg "_law_draw" = some (.ref fD))
    (GK : FnOk P w K mg base CX0 k fK fdK ["state", "row"] spPick) (bK : Binds K fdK ["state", "row"] []) (kK : PySem.W.keepIn K (.ref fK) = true) (mK : mg "_law_pick" = some (.ref fK))
    (mr : mg "range" = none) : FnOk P w K mg base CX0 (k + 1) f fd ["state"] spGood := by
  refine F.ok scGood (fun vs H Q E h => ?_) (fun cdv A outer st H vs Q E hr h => ?_)
  · obtain ⟨p, c, rfl, _⟩ := h
    rfl
  obtain ⟨p, c, rfl, S0, q⟩ := h
  refine ⟨_, pss_cons (ps_set (i := 1) scGood.nd rfl (.inr rfl) (pe_lst (pa_cons pe_str (pa_cons pe_str (pa_cons pe_str (pa_cons pe_str (pa_cons pe_str (pa_cons pe_str (pa_cons pe_str (pa_cons pe_str (pa_cons pe_str pa_nil)))))))))))
    (pss_one (ps_ret (pe_join pe_str (pe_lc (own := [("k", 2)]) (g := gName 2) (tt := tYes) rfl scGood.nd (pi_range1 (by rfl) mr (pa_cons (pe_call GD hr (by rfl) mD kD bD .nil pass0 (pa_cons (pv 0) (pa_cons pe_int pa_nil))) pa_nil))
        (blkOk_by (N := ["state", "rows", "k"]) (sc := defScope sGood) (by decide +kernel))
        (fun _ _ _ _ _ => pg_name (i := 2) scGood.nd rfl (Or.inl rfl)) (fun _ _ _ _ _ => pts_nil)
        (fun _ _ _ _ _ => pe_call GK hr (by rfl) mK kK bK .nil pass0 (pa_cons (pv 0) (pa_cons (pv 1) pa_nil))))))), ?_⟩
  refine ⟨by show 9 ≤ sizeLine; decide, fun b nb => ?_⟩
  have hrows : ([V.str "a", V.str "(a 1)", V.str "-3 ", V.str "(() x)\n", V.str "((b) -20 (c ...))", V.str "+ ", V.str "  ", V.str "999999999", V.str "(f (g 0))"] : List V) = goodRows.map fun l => V.str (S l) := by decide +kernel
  refine ⟨⟨_, rfl⟩, ?_⟩
  rw [hrows]
  have nbs := S0.new nb
  refine ⟨_, rfl, p, c, 6, rfl, by decide, by decide, S0.same (same_new nb _), fun H1 r kp1 S1 r0 r1 => ⟨r, rfl, by omega, by omega, fun D hD => ?_⟩⟩
  have eb1 := kp1 b _ nbs.1 nbs.2 upd_same
  have nD := S1.new hD
  have hDH : (upd H b (.lst (goodRows.map fun l => V.str (S l)))) D = none := kp1.free S1 hD
  have Db : D ≠ b := fun e => by
    rw [e, upd_same] at hDH
    cases hDH
  have hDH' : H D = none := by
    rw [upd_ne Db] at hDH
    exact hDH
  have kpH : Kp p c H H1 := (Same.kp (same_new nb _)).trans kp1
  refine lc_range (lo := 0) (n := r.toNat) (fun i H2 => Kp p c H H2 ∧ St p c H2 ∧ H2 b = some (.lst (goodRows.map fun l => V.str (S l))) ∧ ∃ yl : List (List Nat), yl.length = i ∧ (∀ y ∈ yl, y ∈ goodRows) ∧ H2 D = some (.lst (yl.map fun l => V.str (S l))))
    ⟨kpH.mut hDH' _, S1.put nD.1 nD.2 _, by rw [upd_ne (Ne.symm Db)]; exact eb1, [], rfl, (fun y hy => by cases hy), upd_same⟩ ?_ ?_
  · rintro i H2 hi ⟨kp2, S2, eb2, yl, hl, hy, eD⟩
    refine ⟨rfl, yes_k ?_⟩
    refine ⟨_, rfl, _, rfl, p, c, b, _, rfl, eb2, nbs.1, nbs.2, by decide, by decide, S2, fun H3 v kp3 S3 hv => ?_⟩
    obtain ⟨l, hlm, rfl⟩ := List.mem_map.mp hv
    refine ⟨_, kp3 D _ nD.1 nD.2 eD, ?_, (kp2.trans kp3).mut hDH' _, S3.put nD.1 nD.2 _, by rw [upd_ne (Ne.symm Db)]; exact kp3 b _ nbs.1 nbs.2 eb2, yl ++ [l], by rw [List.length_append, hl]; rfl, fun y hyy => ?_, by rw [upd_same, List.map_append]; rfl⟩
    · rw [List.length_map, hl]
      exact smallL (by omega)
    · rcases List.mem_append.mp hyy with e | e
      · exact hy y e
      · rw [List.mem_singleton.mp e]
        exact hlm
  · rintro H2 ⟨kp2, S2, eb2, yl, hl, hy, eD⟩
    have hl5 : yl.length ≤ 5 := by omega
    refine ⟨_, D, yl.map S, rfl, rfl, .inl (SqL.of (by rw [eD, List.map_map]; rfl)), ?_, ?_⟩
    · have z := good_len hy
      have e : (S [32]).length = 1 := rfl
      rw [List.length_map]
      have e2 : (" " : Str).length = 1 := by decide +kernel
      rw [e2]
      omega
    · have e : (" " : Str) = S [32] := by decide +kernel
      rw [e, join_sp]
      exact q H2 yl kp2 S2 hl5 hy
end
end Sg

namespace Sg
open PySem PySem.Spec PyProof.Rows L2
/-! ### reading by signs, positions alone -/
abbrev Acc := Except Nat (List Nat)
abbrev Fs := Nat × List Nat × Acc
def sstep (L : Nat) (st : List Nat) (p : Pc) : Acc :=
  if p.2 = [40] then (if L ≤ st.length then .error p.1 else .ok (p.1 :: st))
  else if p.2 = [41] then (match st with
    | [] => .error p.1
    | _ :: r => .ok r)
  else if isIntL p.2 || isNameL p.2 then .ok st
  else .error p.1
def snext (L : Nat) (a : Acc) (p : Pc) : Acc := match a with
  | .ok st => sstep L st p
  | .error e => .error e
def flush (L : Nat) (a : Acc) (pos : Nat) (run : List Nat) : Acc := if run = [] then a else snext L a (pos - run.length, run)
def parOf (L : Nat) (a : Acc) (pos c : Nat) : Acc := if isPar c then snext L a (pos, [c]) else a
def feed (L : Nat) (s : Fs) (c : Nat) : Fs :=
  if isSep c then (s.1 + 1, [], parOf L (flush L s.2.2 s.1 s.2.1) s.1 c) else (s.1 + 1, s.2.1 ++ [c], s.2.2)
def posOf (a : Except Nat RSt) : Acc := match a with
  | .ok st => .ok (st.1.map (·.1))
  | .error e => .error e
def Low (a : Except Nat RSt) : Prop := match a with
  | .ok st => st.1.length ≤ 30
  | .error _ => True
theorem low_next {a : Except Nat RSt} {p : Pc} (h : Low a) : Low (rnext a p) ∧ posOf (rnext a p) = snext 30 (posOf a) p := by
  cases a with
  | error e => exact ⟨trivial, rfl⟩
  | ok st =>
    obtain ⟨stack, cur, names⟩ := st
    have h' : stack.length ≤ 30 := h
    show Low (rstep (stack, cur, names) p) ∧ posOf (rstep (stack, cur, names) p) = sstep 30 (stack.map (·.1)) p
    unfold rstep sstep
    by_cases h1 : p.2 = [40]
    · rw [if_pos h1, if_pos h1]
      by_cases h2 : stack.length = 30
      · rw [if_pos h2, if_pos (by rw [List.length_map]; omega)]
        exact ⟨trivial, rfl⟩
      · rw [if_neg h2, if_neg (by rw [List.length_map]; omega)]
        refine ⟨?_, rfl⟩
        show ((p.1, cur) :: stack).length ≤ 30
        rw [List.length_cons]
        omega
    · rw [if_neg h1, if_neg h1]
      by_cases h2 : p.2 = [41]
      · rw [if_pos h2, if_pos h2]
        cases stack with
        | nil => exact ⟨trivial, rfl⟩
        | cons q r =>
          obtain ⟨q, ts⟩ := q
          refine ⟨?_, rfl⟩
          show r.length ≤ 30
          rw [List.length_cons] at h'
          omega
      · rw [if_neg h2, if_neg h2]
        cases isIntL p.2 with
        | true => exact ⟨h', rfl⟩
        | false =>
          cases isNameL p.2 with
          | true => exact ⟨h', rfl⟩
          | false => exact ⟨trivial, rfl⟩
theorem low_fold : ∀ (ps : List Pc) (a : Except Nat RSt), Low a → Low (ps.foldl rnext a) ∧ posOf (ps.foldl rnext a) = ps.foldl (snext 30) (posOf a)
  | [], _, h => ⟨h, rfl⟩
  | p :: r, a, h => by
    have z := low_next (p := p) h
    have ih := low_fold r (rnext a p) z.1
    rw [z.2] at ih
    exact ih
/-- the pieces by signs are the pieces by places -/
theorem feed_prun (l : List Nat) : ∀ n, n ≤ l.length + 1 → ((l ++ [32]).take n).foldl (feed 30) (0, [], .ok []) = (n, (l.drop (prun l n).1).take (n - (prun l n).1), (prun l n).2.foldl (snext 30) (.ok []))
  | 0, _ => rfl
  | n + 1, hn => by
    have ih := feed_prun l n (by omega)
    have hlt : n < (l ++ [32]).length := by
      rw [List.length_append]
      show n < l.length + 1
      omega
    have hc : (l ++ [32])[n]? = some (l ++ [32])[n] := List.getElem?_eq_getElem hlt
    generalize (l ++ [32])[n] = c at hc
    rw [List.take_add_one, hc, List.foldl_append, ih]
    have bd := prun_le l n
    have e := prun_more hc
    rw [e]
    generalize prun l n = pr at bd
    obtain ⟨start, out⟩ := pr
    have hb : start ≤ n := bd.1
    show feed 30 (n, (l.drop start).take (n - start), out.foldl (snext 30) (.ok [])) c = _
    unfold feed pstep
    by_cases hs : isSep c = true
    · rw [if_pos hs, if_pos hs]
      have el : ((l.drop start).take (n - start)).length = n - start := by
        rw [List.length_take, List.length_drop]
        have : n ≤ l.length := by omega
        omega
      have e1 : (l.drop (n + 1)).take (n + 1 - (n + 1)) = [] := by
        rw [Nat.sub_self]
        rfl
      have e2 : parOf 30 (flush 30 (out.foldl (snext 30) (.ok [])) n ((l.drop start).take (n - start))) n c = ((out ++ runPart l start n) ++ parPart n c).foldl (snext 30) (.ok []) := by
        rw [List.foldl_append, List.foldl_append]
        unfold flush runPart parOf parPart
        by_cases hlt2 : start < n
        · have ne : ¬ (l.drop start).take (n - start) = [] := fun z => by
            rw [z] at el
            have : ([] : List Nat).length = 0 := rfl
            omega
          rw [if_neg ne, if_pos hlt2, el]
          have ep : n - (n - start) = start := by omega
          rw [ep]
          split <;> rfl
        · have ez : (l.drop start).take (n - start) = [] := by
            have : n - start = 0 := by omega
            rw [this]
            rfl
          rw [if_pos ez, if_neg hlt2]
          split <;> rfl
      show (n + 1, ([] : List Nat), parOf 30 (flush 30 (out.foldl (snext 30) (.ok [])) n ((l.drop start).take (n - start))) n c) = (n + 1, (l.drop (n + 1)).take (n + 1 - (n + 1)), ((out ++ runPart l start n) ++ parPart n c).foldl (snext 30) (.ok []))
      rw [e1, e2]
    · rw [if_neg hs, if_neg hs]
      have hn2 : n < l.length := by
        by_cases hq : n < l.length
        · exact hq
        · have : n = l.length := by omega
          subst this
          rw [List.getElem?_append_right (Nat.le_refl _), Nat.sub_self] at hc
          have hc2 : (32 : Nat) = c := Option.some.inj hc
          subst hc2
          exact absurd rfl hs
      have hc2 : l[n]? = some c := by
        rw [List.getElem?_append_left hn2] at hc
        exact hc
      show (n + 1, (l.drop start).take (n - start) ++ [c], out.foldl (snext 30) (.ok [])) = (n + 1, (l.drop start).take (n + 1 - start), out.foldl (snext 30) (.ok []))
      have e3 : (l.drop start).take (n + 1 - start) = (l.drop start).take (n - start) ++ [c] := by
        have ee : n + 1 - start = (n - start) + 1 := by omega
        rw [ee, List.take_add_one, List.getElem?_drop]
        have e4 : start + (n - start) = n := by omega
        rw [e4, hc2]
        rfl
      rw [e3]
def fin (a : Acc) : Int := match a with
  | .error e => (e : Nat)
  | .ok [] => -1
  | .ok (q :: _) => (q : Nat)
theorem atM_eq (l : List Nat) : atM l = fin ((l ++ [32]).foldl (feed 30) (0, [], .ok [])).2.2 := by
  have h := feed_prun l (l.length + 1) (Nat.le_refl _)
  have e : (l ++ [32]).take (l.length + 1) = l ++ [32] := List.take_of_length_le (by rw [List.length_append]; exact Nat.le_refl _)
  rw [e] at h
  rw [h]
  have z := low_fold (piecesL l) (.ok ([], [], 0)) (show ([] : List (Nat × List Tree)).length ≤ 30 by decide)
  have z2 : posOf (rrun (piecesL l)) = (prun l (l.length + 1)).2.foldl (snext 30) (.ok []) := z.2
  show atM l = fin ((prun l (l.length + 1)).2.foldl (snext 30) (.ok []))
  rw [← z2]
  unfold atM readM
  cases rrun (piecesL l) with
  | error e => rfl
  | ok st =>
    obtain ⟨stack, cur, names⟩ := st
    cases stack with
    | nil => rfl
    | cons q r => rfl
end Sg

namespace Sg
open PySem PySem.Spec PyProof.Rows L2
/-! ### the law's texts, by signs -/
theorem sstep_shift {a a1 b : List Nat} {pos q : Nat} {l : List Nat} (hb : b.length ≤ 28) (h : sstep 2 a (pos, l) = .ok a1) : sstep 30 (a.map (· + q) ++ b) (pos + q, l) = .ok (a1.map (· + q) ++ b) := by
  unfold sstep at h ⊢
  by_cases h1 : l = [40]
  · rw [if_pos h1] at h ⊢
    split at h
    · cases h
    · rename_i h2
      cases h
      rw [if_neg (by rw [List.length_append, List.length_map]; omega)]
      rfl
  · rw [if_neg h1] at h ⊢
    by_cases h2 : l = [41]
    · rw [if_pos h2] at h ⊢
      cases a with
      | nil => cases h
      | cons x r =>
        cases h
        rfl
    · rw [if_neg h2] at h ⊢
      split at h
      · rename_i h3
        cases h
        rw [if_pos h3]
      · cases h
theorem feed_err (L : Nat) : ∀ (B : List Nat) (p : Nat) (run : List Nat) (e : Nat), (B.foldl (feed L) (p, run, .error e)).2.2 = .error e
  | [], _, _, _ => rfl
  | c :: r, p, run, e => by
    have z : (feed L (p, run, .error e) c).2.2 = .error e := by
      unfold feed flush parOf
      split
      · show (if isPar c = true then snext L (if run = [] then .error e else snext L (.error e) (p - run.length, run)) (p, [c]) else (if run = [] then .error e else snext L (.error e) (p - run.length, run))) = .error e
        have w : (if run = [] then (.error e : Acc) else snext L (.error e) (p - run.length, run)) = .error e := by
          split <;> rfl
        rw [w]
        split <;> rfl
      · rfl
    rw [List.foldl_cons]
    generalize feed L (p, run, .error e) c = s at z
    obtain ⟨p1, run1, a1⟩ := s
    have z' : a1 = .error e := z
    subst z'
    exact feed_err L r p1 run1 e
theorem feed_shift {b : List Nat} (q : Nat) (hb : b.length ≤ 28) : ∀ (B : List Nat) (p : Nat) (run : List Nat) (a : List Nat) (p' : Nat) (run' a' : List Nat), run.length ≤ p → B.foldl (feed 2) (p, run, .ok a) = (p', run', .ok a') →
    B.foldl (feed 30) (p + q, run, .ok (a.map (· + q) ++ b)) = (p' + q, run', .ok (a'.map (· + q) ++ b))
  | [], p, run, a, p', run', a', _, h => by
    cases h
    rfl
  | c :: r, p, run, a, p', run', a', hr, h => by
    rw [List.foldl_cons] at h ⊢
    by_cases hs : isSep c = true
    · have e1 : feed 2 (p, run, .ok a) c = (p + 1, [], parOf 2 (flush 2 (.ok a) p run) p c) := by
        unfold feed
        rw [if_pos hs]
      have e2 : feed 30 (p + q, run, .ok (a.map (· + q) ++ b)) c = (p + q + 1, [], parOf 30 (flush 30 (.ok (a.map (· + q) ++ b)) (p + q) run) (p + q) c) := by
        unfold feed
        rw [if_pos hs]
      rw [e1] at h
      rw [e2]
      cases hf : flush 2 (.ok a) p run with
      | error e =>
        have w : parOf 2 (flush 2 (.ok a) p run) p c = .error e := by
          rw [hf]
          unfold parOf
          split <;> rfl
        rw [w] at h
        have z := feed_err 2 r (p + 1) [] e
        rw [h] at z
        cases z
      | ok a1 =>
        have f1 : flush 30 (.ok (a.map (· + q) ++ b)) (p + q) run = .ok (a1.map (· + q) ++ b) := by
          unfold flush at hf ⊢
          by_cases hr0 : run = []
          · rw [if_pos hr0] at hf ⊢
            cases hf
            rfl
          · rw [if_neg hr0] at hf ⊢
            have ep : p + q - run.length = (p - run.length) + q := by omega
            rw [ep]
            exact sstep_shift hb hf
        rw [f1]
        rw [hf] at h
        by_cases hp : isPar c = true
        · have g1 : parOf 2 (.ok a1) p c = sstep 2 a1 (p, [c]) := by
            unfold parOf
            rw [if_pos hp]
            rfl
          have g2 : parOf 30 (.ok (a1.map (· + q) ++ b)) (p + q) c = sstep 30 (a1.map (· + q) ++ b) (p + q, [c]) := by
            unfold parOf
            rw [if_pos hp]
            rfl
          rw [g1] at h
          rw [g2]
          cases hg : sstep 2 a1 (p, [c]) with
          | error e =>
            rw [hg] at h
            have z := feed_err 2 r (p + 1) [] e
            rw [h] at z
            cases z
          | ok a2 =>
            rw [hg] at h
            rw [sstep_shift (q := q) hb hg]
            have ih := feed_shift q hb r (p + 1) [] a2 p' run' a' (Nat.zero_le _) h
            have ep : p + q + 1 = p + 1 + q := by omega
            rw [ep]
            exact ih
        · have g1 : parOf 2 (.ok a1) p c = .ok a1 := by
            unfold parOf
            rw [if_neg hp]
          have g2 : parOf 30 (.ok (a1.map (· + q) ++ b)) (p + q) c = .ok (a1.map (· + q) ++ b) := by
            unfold parOf
            rw [if_neg hp]
          rw [g1] at h
          rw [g2]
          have ih := feed_shift q hb r (p + 1) [] a1 p' run' a' (Nat.zero_le _) h
          have ep : p + q + 1 = p + 1 + q := by omega
          rw [ep]
          exact ih
    · have e1 : feed 2 (p, run, .ok a) c = (p + 1, run ++ [c], .ok a) := by
        unfold feed
        rw [if_neg hs]
      have e2 : feed 30 (p + q, run, .ok (a.map (· + q) ++ b)) c = (p + q + 1, run ++ [c], .ok (a.map (· + q) ++ b)) := by
        unfold feed
        rw [if_neg hs]
      rw [e1] at h
      rw [e2]
      have ih := feed_shift q hb r (p + 1) (run ++ [c]) a p' run' a' (by rw [List.length_append]; show run.length + 1 ≤ p + 1; omega) h
      have ep : p + q + 1 = p + 1 + q := by omega
      rw [ep]
      exact ih
/-- a stretch that leaves the stack as it was -/
def Still (B : List Nat) : Prop := ∀ (q : Nat) (b : List Nat), b.length ≤ 28 → B.foldl (feed 30) (q, [], .ok b) = (q + B.length, [], .ok b)
def stillB (B : List Nat) : Bool := match B.foldl (feed 2) (0, [], .ok []) with
  | (n, [], .ok []) => n == B.length
  | _ => false
theorem still_of {B : List Nat} (h : stillB B = true) : Still B := by
  unfold stillB at h
  split at h
  · rename_i n e
    have hn : n = B.length := by simpa using h
    subst hn
    intro q b hb
    have z := feed_shift q hb B 0 [] [] _ _ _ (Nat.le_refl _) e
    rw [Nat.zero_add, Nat.add_comm] at z
    exact z
  · cases h
theorem Still.app {A B : List Nat} (h1 : Still A) (h2 : Still B) : Still (A ++ B) := fun q b hb => by
  rw [List.foldl_append, h1 q b hb, h2 _ b hb, List.length_append, Nat.add_assoc]
theorem row_still : ∀ g ∈ goodRows, ∀ s ∈ ([[32], [10], [32, 32]] : List (List Nat)), stillB (g ++ s) = true := by decide +kernel
theorem sep_still : ∀ s ∈ ([[32], [10], [32, 32]] : List (List Nat)), stillB s = true := by decide +kernel
theorem rows_still {s : List Nat} (hs : s ∈ ([[32], [10], [32, 32]] : List (List Nat))) : ∀ {yl : List (List Nat)}, (∀ y ∈ yl, y ∈ goodRows) → Still (joinSp yl ++ s)
  | [], _ => still_of (sep_still s hs)
  | [x], h => still_of (row_still x (h x List.mem_cons_self) s hs)
  | x :: y :: r, h => by
    have ih := rows_still hs (yl := y :: r) fun z hz => h z (List.mem_cons_of_mem _ hz)
    have e : joinSp (x :: y :: r) ++ s = (x ++ [32]) ++ (joinSp (y :: r) ++ s) := by
      show (x ++ 32 :: joinSp (y :: r)) ++ s = _
      rw [List.append_assoc, List.append_assoc]
      rfl
    rw [e]
    exact (still_of (row_still x (h x List.mem_cons_self) [32] (by decide))).app ih
/-- the tail of a text: it begins with a blank -/
structure Tail (Z : List Nat) : Prop where
  hd : ∃ c r, Z = c :: r ∧ isSep c = true ∧ isPar c = false
  st : Still (Z ++ [32])
theorem run_plain (L : Nat) : ∀ (w : List Nat) (q : Nat) (run : List Nat) (a : Acc), (∀ c ∈ w, isSep c = false) → w.foldl (feed L) (q, run, a) = (q + w.length, run ++ w, a)
  | [], q, run, a, _ => by
    rw [List.append_nil]
    rfl
  | c :: r, q, run, a, h => by
    have e : feed L (q, run, a) c = (q + 1, run ++ [c], a) := by
      unfold feed
      rw [h c List.mem_cons_self, if_neg Bool.false_ne_true]
    rw [List.foldl_cons, e, run_plain L r (q + 1) (run ++ [c]) a fun d hd => h d (List.mem_cons_of_mem _ hd), List.length_cons, List.append_assoc]
    have e2 : q + 1 + r.length = q + (r.length + 1) := by omega
    rw [e2]
    rfl
def badB (w : List Nat) : Bool := w != [] && (w.all (fun c => !isSep c) && (!isIntL w && (!isNameL w && (w != [40] && w != [41]))))
/-- a run that is no token -/
theorem bad_run {w : List Nat} (hw : badB w = true) {c : Nat} (hc : isSep c = true) (r b : List Nat) (q : Nat) : ((w ++ c :: r).foldl (feed 30) (q, [], .ok b)).2.2 = .error q := by
  unfold badB at hw
  simp only [Bool.and_eq_true, bne_iff_ne, ne_eq, List.all_eq_true, Bool.not_eq_true'] at hw
  obtain ⟨h1, h2, h3, h4, h5, h6⟩ := hw
  rw [List.foldl_append, run_plain 30 w q [] _ h2, List.foldl_cons, List.nil_append]
  have e : feed 30 (q + w.length, w, .ok b) c = (q + w.length + 1, [], .error q) := by
    unfold feed
    rw [if_pos hc]
    have f : flush 30 (.ok b) (q + w.length) w = .error q := by
      unfold flush
      rw [if_neg h1]
      show sstep 30 b (q + w.length - w.length, w) = _
      unfold sstep
      rw [if_neg h5, if_neg h6, h3, h4]
      show (.error (q + w.length - w.length) : Acc) = _
      rw [Nat.add_sub_cancel]
    show (q + w.length + 1, ([] : List Nat), parOf 30 (flush 30 (.ok b) (q + w.length) w) (q + w.length) c) = _
    rw [f]
    have g : parOf 30 (.error q) (q + w.length) c = .error q := by
      unfold parOf
      split <;> rfl
    rw [g]
  rw [e]
  exact feed_err 30 r _ _ q
theorem feed_open {q : Nat} {b : List Nat} (hb : b.length < 30) : feed 30 (q, [], .ok b) 40 = (q + 1, [], .ok (q :: b)) := by
  have e : parOf 30 (flush 30 (.ok b) q []) q 40 = .ok (q :: b) := by
    show sstep 30 b (q, [40]) = _
    unfold sstep
    rw [if_pos rfl, if_neg (by omega)]
  show (q + 1, ([] : List Nat), parOf 30 (flush 30 (.ok b) q []) q 40) = _
  rw [e]
theorem feed_close {q x : Nat} {b : List Nat} : feed 30 (q, [], .ok (x :: b)) 41 = (q + 1, [], .ok b) := rfl
/-- q + n - 1, .. , q on b -/
def ups (q : Nat) : Nat → List Nat → List Nat
  | 0, b => b
  | n + 1, b => ups (q + 1) n (q :: b)
theorem ups_len : ∀ (n q : Nat) (b : List Nat), (ups q n b).length = n + b.length
  | 0, q, b => (Nat.zero_add _).symm
  | n + 1, q, b => by
    show (ups (q + 1) n (q :: b)).length = _
    rw [ups_len n (q + 1) (q :: b), List.length_cons]
    omega
theorem feed_opens : ∀ (n q : Nat) (b : List Nat), n + b.length ≤ 30 → (List.replicate n 40).foldl (feed 30) (q, [], .ok b) = (q + n, [], .ok (ups q n b))
  | 0, _, _, _ => rfl
  | n + 1, q, b, h => by
    rw [List.replicate_succ, List.foldl_cons, feed_open (by omega), feed_opens n (q + 1) (q :: b) (by rw [List.length_cons]; omega)]
    have e : q + 1 + n = q + (n + 1) := by omega
    rw [e]
    rfl
theorem feed_closes : ∀ (n q : Nat) (a b : List Nat), a.length = n → (List.replicate n 41).foldl (feed 30) (q, [], .ok (a ++ b)) = (q + n, [], .ok b)
  | 0, q, a, b, h => by
    have e : a = [] := List.length_eq_zero_iff.mp h
    subst e
    rfl
  | n + 1, q, a, b, h => by
    cases a with
    | nil => cases h
    | cons x a =>
      rw [List.replicate_succ, List.foldl_cons]
      show (List.replicate n 41).foldl (feed 30) (feed 30 (q, [], .ok (x :: (a ++ b))) 41) = _
      rw [feed_close, feed_closes n (q + 1) a b (by rw [List.length_cons] at h; omega)]
      have e : q + 1 + n = q + (n + 1) := by omega
      rw [e]
section
variable {F Z : List Nat} (hF : Still F) (hZ : Tail Z)
include hF hZ
theorem at_ok : atM (F ++ Z) = -1 := by
  rw [atM_eq, List.append_assoc, List.foldl_append, hF 0 [] (by decide), hZ.st _ [] (by decide)]
  rfl
theorem at_bad {w : List Nat} (hw : badB w = true) : atM (F ++ w ++ Z) = (F.length : Nat) := by
  obtain ⟨c, r, e, hc, _⟩ := hZ.hd
  rw [atM_eq, e, List.append_assoc, List.append_assoc, List.foldl_append, hF 0 [] (by decide), Nat.zero_add]
  show fin ((w ++ c :: (r ++ [32])).foldl (feed 30) (F.length, [], .ok [])).2.2 = _
  rw [bad_run hw hc]
  rfl
theorem at_bad_in {w : List Nat} (hw : badB w = true) : atM (F ++ [40] ++ w ++ [41] ++ Z) = (F.length : Nat) + 1 := by
  have e : F ++ [40] ++ w ++ [41] ++ Z ++ [32] = F ++ 40 :: (w ++ 41 :: (Z ++ [32])) := by simp
  rw [atM_eq, e, List.foldl_append, hF 0 [] (by decide), Nat.zero_add, List.foldl_cons, feed_open (by decide), bad_run hw (by decide)]
  rfl
theorem at_close (M : List Nat) : atM (F ++ [41] ++ Z ++ M) = (F.length : Nat) := by
  have e : F ++ [41] ++ Z ++ M ++ [32] = F ++ 41 :: (Z ++ (M ++ [32])) := by simp
  rw [atM_eq, e, List.foldl_append, hF 0 [] (by decide), Nat.zero_add, List.foldl_cons]
  have e2 : feed 30 (F.length, [], .ok []) 41 = (F.length + 1, [], .error F.length) := rfl
  rw [e2, feed_err]
  rfl
theorem at_deep (n : Nat) (M : List Nat) : atM (F ++ List.replicate (31 + n) 40 ++ M) = (F.length : Nat) + 30 := by
  have e : F ++ List.replicate (31 + n) 40 ++ M ++ [32] = F ++ (List.replicate 30 40 ++ 40 :: (List.replicate n 40 ++ (M ++ [32]))) := by
    have e1 : 31 + n = 30 + (1 + n) := by omega
    rw [e1, ← List.replicate_append_replicate, ← List.replicate_append_replicate]
    simp
  rw [atM_eq, e, List.foldl_append, hF 0 [] (by decide), Nat.zero_add, List.foldl_append, feed_opens 30 F.length [] (by decide), List.foldl_cons]
  have e2 : feed 30 (F.length + 30, [], .ok (ups F.length 30 [])) 40 = (F.length + 30 + 1, [], .error (F.length + 30)) := by
    have e3 : parOf 30 (flush 30 (.ok (ups F.length 30 [])) (F.length + 30) []) (F.length + 30) 40 = .error (F.length + 30) := by
      show sstep 30 (ups F.length 30 []) (F.length + 30, [40]) = _
      unfold sstep
      rw [if_pos rfl, if_pos (by rw [ups_len]; decide)]
    show (F.length + 30 + 1, ([] : List Nat), parOf 30 (flush 30 (.ok (ups F.length 30 [])) (F.length + 30) []) (F.length + 30) 40) = _
    rw [e3]
  rw [e2, feed_err]
  rfl
theorem at_thirty : atM (F ++ (List.replicate 30 40 ++ List.replicate 30 41) ++ Z) = -1 := by
  have e : F ++ (List.replicate 30 40 ++ List.replicate 30 41) ++ Z ++ [32] = F ++ (List.replicate 30 40 ++ (List.replicate 30 41 ++ (Z ++ [32]))) := by simp only [List.append_assoc]
  rw [atM_eq, e, List.foldl_append, hF 0 [] (by decide), Nat.zero_add, List.foldl_append, feed_opens 30 F.length [] (by decide), List.foldl_append]
  have z := feed_closes 30 (F.length + 30) (ups F.length 30 []) [] (by rw [ups_len]; rfl)
  rw [List.append_nil] at z
  rw [z, hZ.st _ [] (by decide)]
  rfl
theorem at_open : atM (F ++ [40] ++ Z) = (F.length : Nat) := by
  have e : F ++ [40] ++ Z ++ [32] = F ++ 40 :: (Z ++ [32]) := by simp
  rw [atM_eq, e, List.foldl_append, hF 0 [] (by decide), Nat.zero_add, List.foldl_cons, feed_open (by decide), hZ.st _ _ (by simp)]
  rfl
theorem at_open2 : atM ([40, 32] ++ F ++ [40] ++ Z) = (F.length : Nat) + 2 := by
  have e : [40, 32] ++ F ++ [40] ++ Z ++ [32] = 40 :: 32 :: (F ++ 40 :: (Z ++ [32])) := by simp
  rw [atM_eq, e, List.foldl_cons, feed_open (by decide), List.foldl_cons]
  have e2 : feed 30 (0 + 1, [], .ok [0]) 32 = (2, [], .ok [0]) := rfl
  rw [e2, List.foldl_append, hF 2 [0] (by decide), List.foldl_cons, feed_open (by decide), hZ.st _ _ (by simp)]
  show ((2 + F.length : Nat) : Int) = (F.length : Nat) + 2
  omega
theorem at_open_bad : atM (F ++ [40] ++ Z ++ [32, 48, 49]) = (F.length : Nat) + 1 + (Z.length : Nat) + 1 := by
  have e : F ++ [40] ++ Z ++ [32, 48, 49] ++ [32] = F ++ 40 :: ((Z ++ [32]) ++ ([48, 49] ++ 32 :: [])) := by simp
  rw [atM_eq, e, List.foldl_append, hF 0 [] (by decide), Nat.zero_add, List.foldl_cons, feed_open (by decide), List.foldl_append, hZ.st _ _ (by simp), bad_run (by decide) (by decide)]
  show ((F.length + 1 + (Z ++ [32]).length : Nat) : Int) = _
  rw [List.length_append]
  show ((F.length + 1 + (Z.length + 1) : Nat) : Int) = _
  omega
end
end Sg

namespace Sg
open PySem PySem.Spec PyProof.Rows L2
theorem S_app (a b : List Nat) : S a ++ S b = S (a ++ b) := str_ext (by
  first
    | exact Array.toList_append
    | (show ((S a).cps ++ (S b).cps).toList = _; rw [Array.toList_append]; rfl))
theorem S_len (a : List Nat) : (S a).length = a.length := rfl
theorem join_len : ∀ {yl : List (List Nat)}, (∀ y ∈ yl, y ∈ goodRows) → (joinSp yl).length ≤ 21 * yl.length
  | [], _ => Nat.le_refl _
  | [x], h => by
    have key : ∀ z ∈ goodRows, z.length ≤ 20 := by decide
    have := key x (h x List.mem_cons_self)
    show x.length ≤ 21 * 1
    omega
  | x :: y :: r, h => by
    have key : ∀ z ∈ goodRows, z.length ≤ 20 := by decide
    have h1 := key x (h x List.mem_cons_self)
    have ih := join_len (yl := y :: r) fun z hz => h z (List.mem_cons_of_mem _ hz)
    show (x ++ 32 :: joinSp (y :: r)).length ≤ 21 * (r.length + 1 + 1)
    rw [List.length_append, List.length_cons]
    rw [List.length_cons] at ih
    omega
def allBad : List (List Nat) := [[48, 49], [45, 48], [49, 48, 48, 48, 48, 48, 48, 48, 48, 48], [45, 97], [65], [97, 95, 98], [49, 97], [46, 46], [46, 46, 46, 46], [97, 45, 98], [43, 43], [45, 45, 49], [45], [97, 46, 98], [63],
  [97, 98, 99, 100, 101, 102, 103, 104, 105, 106, 97, 98, 99, 100, 101, 102, 103, 104, 105, 106, 107], [35], [45, 48, 49], [43, 49], [97, 33]]
theorem allBad_bad : ∀ w ∈ allBad, w ≠ [45] → badB w = true ∧ w.length ≤ 21 := by decide +kernel
theorem mulS {z n : Nat} (h1 : n = 30 ∨ n = 31 ∨ n = 32 ∨ n = 33 ∨ n = 34) (hz : z = 40 ∨ z = 41) : MulOk (S [z]) (n : Nat) ∧ Txt.mul (S [z]) (n : Nat) = S (List.replicate n z) := by
  rcases h1 with rfl | rfl | rfl | rfl | rfl <;> rcases hz with rfl | rfl <;> exact ⟨⟨by decide, by decide, by decide⟩, by decide +kernel⟩
theorem sz2 {A B : List Nat} (h : A.length + B.length ≤ 2000) : (S A).length + (S B).length ≤ sizeLine := small (by
  show A.length + B.length ≤ 100000
  omega)
theorem q_true {Q : VK} {H : Hp} {p : Prop} [Decidable p] (h : p) (q : Q (.bl true) H) : Q (.bl (decide p)) H := by
  rw [decide_eq_true h]
  exact q
theorem vOpen : V.str "(" = V.str (S [40]) := by decide +kernel
theorem vShut : V.str ")" = V.str (S [41]) := by decide +kernel
theorem vOpenB : V.str "( " = V.str (S [40, 32]) := by decide +kernel
theorem vBad : V.str " 01" = V.str (S [32, 48, 49]) := by decide +kernel
theorem Tail.of {y : List (List Nat)} {s : List Nat} (hy : ∀ r ∈ y, r ∈ goodRows) (hs : s ∈ ([[32], [10]] : List (List Nat))) : Tail (s ++ joinSp y) := by
  have h1 : s ∈ ([[32], [10], [32, 32]] : List (List Nat)) := by
    simp only [List.mem_cons, List.not_mem_nil, or_false] at hs ⊢
    rcases hs with h | h
    · exact .inl h
    · exact .inr (.inl h)
  refine ⟨?_, ?_⟩
  · simp only [List.mem_cons, List.not_mem_nil, or_false] at hs
    rcases hs with h | h
    · subst h
      exact ⟨32, _, rfl, rfl, rfl⟩
    · subst h
      exact ⟨10, _, rfl, rfl, rfl⟩
  · rw [List.append_assoc]
    exact (still_of (sep_still s h1)).app (rows_still (by decide) hy)
abbrev bad15 : List V := [.str "01", .str "-0", .str "1000000000", .str "-a", .str "A", .str "a_b", .str "1a", .str "..", .str "....", .str "a-b", .str "++", .str "--1", .str "-", .str "a.b", .str "?"]
abbrev bad5 : List V := [.str "abcdefghijabcdefghijk", .str "#", .str "-01", .str "+1", .str "a!"]
theorem bad_all : bad15 ++ bad5 = allBad.map fun z => V.str (S z) := by decide +kernel
section
variable {P : Program} {w : World} {K : PySem.W.Frag} {mg : Str → Option Value} {base : Heap}
def spLaw (K : PySem.W.Frag) : Sp := fun vs H Q _ => ∃ (a : Addr) (ns : List Int), vs = [.ref a] ∧ SqL K H a (ns.map V.int) ∧ ns.length ≤ 63 ∧ ∀ H', Q (.bl true) H'
theorem scLaw : FnScope ["script", "state", "first", "last", "bad", "choice", "run", "more", "deep", "good", "text", "word"] ["script"] (defScope sLaw) := ⟨rfl, rfl, rfl, by decide +kernel, rfl, by decide +kernel, by decide +kernel⟩
theorem pick_of {l : List (List Nat)} {xs : List V} (h : xs = l.map fun z => V.str (S z)) {v : V} (hv : v ∈ xs) : ∃ s ∈ l, v = .str (S s) := by
  rw [h] at hv
  obtain ⟨s, h1, h2⟩ := List.mem_map.mp hv
  exact ⟨s, h1, h2.symm⟩
theorem ok_law {f fS fD fK fG fA : Addr} {fd fdS fdD fdK fdG fdA : FuncData} {k : Nat} (F : Fun K "law" "law" sLaw f fd)
    (GS : FnOk P w K mg base CX0 k fS fdS ["script"] (spState K)) (bS : Binds K fdS ["script"] []) (kS : PySem.W.keepIn K (.ref fS) = true) (mS : mg "_law_state" = some (.ref fS))
    (GD : FnOk P w K mg base CX0 k fD fdD ["state", "many"] spDraw) (bD : Binds K fdD ["state", "many"] []) (kD : PySem.W.keepIn K (.ref fD) = true) (mD : mg "_law_draw" = some (.ref fD))
    (GK : FnOk P w K mg base CX0 k fK fdK ["state", "row"] spPick) (bK : Binds K fdK ["state", "row"] []) (kK : PySem.W.keepIn K (.ref fK) = true) (mK : mg "_law_pick" = some (.ref fK))
    (GG : FnOk P w K mg base CX0 k fG fdG ["state"] spGood) (bG : Binds K fdG ["state"] []) (kG : PySem.W.keepIn K (.ref fG) = true) (mG : mg "_law_good" = some (.ref fG))
    (GA : FnOk P w K mg base CX0 k fA fdA ["text"] spAt) (bA : Binds K fdA ["text"] []) (kA : PySem.W.keepIn K (.ref fA) = true) (mA : mg "_law_at" = some (.ref fA))
    (ml : mg "len" = none) : FnOk P w K mg base CX0 (k + 1) f fd ["script"] (spLaw K) := by
  refine F.ok scLaw (fun vs H Q E h => ?_) (fun cdv A outer st H vs Q E hr h => ?_)
  · obtain ⟨a, ns, rfl, _⟩ := h
    rfl
  obtain ⟨a, ns, rfl, hS, hlen, q⟩ := h
  refine ⟨_, pss_cons (ps_set (i := 1) scLaw.nd rfl (.inl rfl) (pe_call GS hr (by rfl) mS kS bS .nil pass0 (pa_cons (pv 0) pa_nil)))
    (pss_cons (ps_set (i := 2) scLaw.nd rfl (.inl rfl) (pe_op op_add_str (pe_call GG hr (by rfl) mG kG bG .nil pass0 (pa_cons (pv 1) pa_nil)) (pe_call GK hr (by rfl) mK kK bK .nil pass0 (pa_cons (pv 1) (pa_cons (pe_lst (pa_cons pe_str (pa_cons pe_str (pa_cons pe_str pa_nil)))) pa_nil)))))
    (pss_cons (ps_set (i := 3) scLaw.nd rfl (.inl rfl) (pe_op op_add_str (pe_call GK hr (by rfl) mK kK bK .nil pass0 (pa_cons (pv 1) (pa_cons (pe_lst (pa_cons pe_str (pa_cons pe_str pa_nil))) pa_nil))) (pe_call GG hr (by rfl) mG kG bG .nil pass0 (pa_cons (pv 1) pa_nil))))
    (pss_cons (ps_if (pt_cmpR op_ne (pe_call GA hr (by rfl) mA kA bA .nil pass0 (pa_cons (pe_op op_add_str (pv 2) (pv 3)) pa_nil)) (pe_un un_neg pe_int) (nomark _)) (pss_one (ps_ret pe_bl)) pss_nil)
    (pss_cons (ps_set (i := 4) scLaw.nd rfl (.inl rfl) (pe_lst (pa_cons pe_str (pa_cons pe_str (pa_cons pe_str (pa_cons pe_str (pa_cons pe_str (pa_cons pe_str (pa_cons pe_str (pa_cons pe_str (pa_cons pe_str (pa_cons pe_str (pa_cons pe_str (pa_cons pe_str (pa_cons pe_str (pa_cons pe_str (pa_cons pe_str pa_nil)))))))))))))))))
    (pss_cons (ps_set (i := 4) scLaw.nd rfl (.inl rfl) (pe_op op_cat (pv 4) (pe_lst (pa_cons pe_str (pa_cons pe_str (pa_cons pe_str (pa_cons pe_str (pa_cons pe_str pa_nil))))))))
    (pss_cons (ps_set (i := 5) scLaw.nd rfl (.inl rfl) (pe_call GD hr (by rfl) mD kD bD .nil pass0 (pa_cons (pv 1) (pa_cons pe_int pa_nil))))
    (pss_cons (ps_if (pt_cmpR op_eq (pv 5) pe_int (nomark _))
      (pss_cons (ps_set (i := 6) scLaw.nd rfl (.inl rfl) (pe_call GK hr (by rfl) mK kK bK .nil pass0 (pa_cons (pv 1) (pa_cons (pe_lc (own := [("word", 11)]) (g := gName 11) rfl scLaw.nd (pi_list (pv 4)) (blkOk_by (N := ["script", "state", "first", "last", "bad", "choice", "run", "more", "deep", "good", "text", "word"]) (sc := defScope sLaw) (by decide +kernel))
          (fun _ _ _ _ _ => pg_name (i := 11) scLaw.nd rfl (Or.inl rfl)) (fun _ _ _ _ _ => pts_one (pt_cmpR op_ne (pv 11) pe_str (nomark _))) (fun _ _ _ _ _ => pv 11)) pa_nil))))
      (pss_one (ps_ret (pe_and (pe_cmpR op_eq (pe_call GA hr (by rfl) mA kA bA .nil pass0 (pa_cons (pe_op op_add_str (pe_op op_add_str (pv 2) (pv 6)) (pv 3)) pa_nil)) (pe_callB call_len_str (by rfl) ml PySem.boot_len (pa_cons (pv 2) pa_nil)) (nomark _))
        (pe_one (pe_cmpR op_eq (pe_call GA hr (by rfl) mA kA bA .nil pass0 (pa_cons (pe_op op_add_str (pe_op op_add_str (pe_op op_add_str (pe_op op_add_str (pv 2) pe_str) (pv 6)) pe_str) (pv 3)) pa_nil)) (pe_op op_add (pe_callB call_len_str (by rfl) ml PySem.boot_len (pa_cons (pv 2) pa_nil)) pe_int) (nomark _)))))))
      pss_nil)
    (pss_cons (ps_if (pt_cmpR op_eq (pv 5) pe_int (nomark _))
      (pss_cons (ps_set (i := 7) scLaw.nd rfl (.inl rfl) (pe_call GK hr (by rfl) mK kK bK .nil pass0 (pa_cons (pv 1) (pa_cons (pe_lst (pa_cons pe_str (pa_cons pe_str (pa_cons pe_str pa_nil)))) pa_nil))))
      (pss_one (ps_ret (pe_cmpR op_eq (pe_call GA hr (by rfl) mA kA bA .nil pass0 (pa_cons (pe_op op_add_str (pe_op op_add_str (pe_op op_add_str (pv 2) pe_str) (pv 3)) (pv 7)) pa_nil)) (pe_callB call_len_str (by rfl) ml PySem.boot_len (pa_cons (pv 2) pa_nil)) (nomark _)))))
      pss_nil)
    (pss_cons (ps_if (pt_cmpR op_eq (pv 5) pe_int (nomark _))
      (pss_cons (ps_set (i := 8) scLaw.nd rfl (.inl rfl) (pe_op op_add pe_int (pe_call GD hr (by rfl) mD kD bD .nil pass0 (pa_cons (pv 1) (pa_cons pe_int pa_nil)))))
      (pss_cons (ps_set (i := 9) scLaw.nd rfl (.inl rfl) (pe_op op_add_str (pe_op op_mulS pe_str pe_int) (pe_op op_mulS pe_str pe_int)))
      (pss_cons (ps_set (i := 10) scLaw.nd rfl (.inl rfl) (pe_op op_add_str (pe_op op_add_str (pe_op op_add_str (pv 2) (pe_op op_mulS pe_str (pv 8))) (pe_op op_mulS pe_str (pv 8))) (pv 3)))
      (pss_one (ps_ret (pe_and (pe_cmpR op_eq (pe_call GA hr (by rfl) mA kA bA .nil pass0 (pa_cons (pv 10) pa_nil)) (pe_op op_add (pe_callB call_len_str (by rfl) ml PySem.boot_len (pa_cons (pv 2) pa_nil)) pe_int) (nomark _))
        (pe_one (pe_cmpR op_eq (pe_call GA hr (by rfl) mA kA bA .nil pass0 (pa_cons (pe_op op_add_str (pe_op op_add_str (pv 2) (pv 9)) (pv 3)) pa_nil)) (pe_un un_neg pe_int) (nomark _)))))))))
      pss_nil)
    (pss_cons (ps_if (pt_cmpR op_eq (pv 5) pe_int (nomark _))
      (pss_one (ps_ret (pe_and (pe_cmpR op_eq (pe_call GA hr (by rfl) mA kA bA .nil pass0 (pa_cons (pe_op op_add_str (pe_op op_add_str (pv 2) pe_str) (pv 3)) pa_nil)) (pe_callB call_len_str (by rfl) ml PySem.boot_len (pa_cons (pv 2) pa_nil)) (nomark _))
        (pe_one (pe_cmpR op_eq (pe_call GA hr (by rfl) mA kA bA .nil pass0 (pa_cons (pe_op op_add_str (pe_op op_add_str (pe_op op_add_str pe_str (pv 2)) pe_str) (pv 3)) pa_nil)) (pe_op op_add (pe_callB call_len_str (by rfl) ml PySem.boot_len (pa_cons (pv 2) pa_nil)) pe_int) (nomark _))))))
      pss_nil)
    (pss_one (ps_ret (pe_cmpR op_eq (pe_call GA hr (by rfl) mA kA bA .nil pass0 (pa_cons (pe_op op_add_str (pe_op op_add_str (pe_op op_add_str (pv 2) pe_str) (pv 3)) pe_str) pa_nil)) (pe_op op_add (pe_op op_add (pe_op op_add (pe_callB call_len_str (by rfl) ml PySem.boot_len (pa_cons (pv 2) pa_nil)) pe_int) (pe_callB call_len_str (by rfl) ml PySem.boot_len (pa_cons (pv 3) pa_nil))) pe_int) (nomark _)))))))))))))), ?_⟩
  refine ⟨_, rfl, a, ns, rfl, hS, hlen, fun H1 p c sm1 np nc S1 => ?_⟩
  -- first
  refine ⟨_, rfl, p, c, rfl, S1, fun H2 y1 kp2 S2 hl2 hy2 => ?_⟩
  refine ⟨_, rfl, by show 3 ≤ sizeLine; decide, fun b1 nb1 => ?_⟩
  refine ⟨p, c, b1, _, rfl, upd_same, (S2.new nb1).1, (S2.new nb1).2, by simp, by decide, S2.same (same_new nb1 _), fun H3 v1 kp3 S3 hv1 => ?_⟩
  obtain ⟨s1, hs1, rfl⟩ := pick_of (l := [[32], [10], [32, 32]]) (by decide +kernel) hv1
  have l1 : s1.length ≤ 2 := by
    have key : ∀ s ∈ ([[32], [10], [32, 32]] : List (List Nat)), s.length ≤ 2 := by decide
    exact key s1 hs1
  have l2 := join_len hy2
  refine ⟨S (joinSp y1), S s1, rfl, rfl, ?_, ?_⟩
  · rw [S_len, S_len]
    exact small (by omega)
  rw [S_app]
  have hF : Still (joinSp y1 ++ s1) := rows_still hs1 hy2
  have lF : (joinSp y1 ++ s1).length ≤ 200 := by
    rw [List.length_append]
    omega
  generalize joinSp y1 ++ s1 = F1 at hF lF
  -- last
  refine ⟨_, rfl, by show 2 ≤ sizeLine; decide, fun b2 nb2 => ?_⟩
  refine ⟨p, c, b2, _, rfl, upd_same, (S3.new nb2).1, (S3.new nb2).2, by simp, by decide, S3.same (same_new nb2 _), fun H4 v2 kp4 S4 hv2 => ?_⟩
  obtain ⟨s2, hs2, rfl⟩ := pick_of (l := [[32], [10]]) (by decide +kernel) hv2
  refine ⟨_, rfl, p, c, rfl, S4, fun H5 y2 kp5 S5 hl5 hy5 => ?_⟩
  have l3 : s2.length ≤ 2 := by
    have key : ∀ s ∈ ([[32], [10]] : List (List Nat)), s.length ≤ 2 := by decide
    exact key s2 hs2
  have l4 := join_len hy5
  refine ⟨S s2, S (joinSp y2), rfl, rfl, ?_, ?_⟩
  · rw [S_len, S_len]
    exact small (by omega)
  rw [S_app]
  have hZ : Tail (s2 ++ joinSp y2) := Tail.of hy5 hs2
  have lZ : (s2 ++ joinSp y2).length ≤ 200 := by
    rw [List.length_append]
    omega
  generalize s2 ++ joinSp y2 = Z1 at hZ lZ
  -- the correct text is read
  refine ⟨_, rfl, _, rfl, S F1, S Z1, rfl, rfl, ?_, ?_⟩
  · rw [S_len, S_len]
    exact small (by omega)
  rw [S_app]
  refine ⟨S (F1 ++ Z1), rfl, by rw [S_len, List.length_append]; omega, fun H6 sm6 => ?_⟩
  have S6 := S5.same sm6
  refine ⟨1, rfl, rfl, _, rfl, ?_⟩
  refine iteNS (congrArg V.int (at_ok hF hZ)) ?_
  -- the faulty runs
  refine ⟨by show 15 ≤ sizeLine; decide, fun b3 nb3 => ?_⟩
  refine ⟨_, rfl, by show 5 ≤ sizeLine; decide, fun b4 nb4 => ?_⟩
  have n34 : b3 ≠ b4 := fun e => by
    rw [← e, upd_same] at nb4
    cases nb4
  refine ⟨b3, b4, _, _, rfl, rfl, by rw [upd_ne n34, upd_same], upd_same, by show 20 ≤ sizeLine; decide, fun b5 nb5 => ?_⟩
  have sm7 : Same H6 (upd (upd (upd H6 b3 (.lst bad15)) b4 (.lst bad5)) b5 (.lst (bad15 ++ bad5))) := ((same_new nb3 _).trans (same_new nb4 _)).trans (same_new nb5 _)
  have S7 := S6.same sm7
  have n5 : b5 ≠ p ∧ b5 ≠ c := (S6.same ((same_new nb3 (.lst bad15)).trans (same_new nb4 (.lst bad5)))).new nb5
  have e5 : (upd (upd (upd H6 b3 (.lst bad15)) b4 (.lst bad5)) b5 (.lst (bad15 ++ bad5))) b5 = some (.lst (allBad.map fun z => V.str (S z))) := by rw [upd_same, bad_all]
  refine ⟨_, rfl, p, c, 5, rfl, by decide, by decide, S7, fun H8 ch kp8 S8 c0 c5 => ?_⟩
  have e8 := kp8 b5 _ n5.1 n5.2 e5
  clear S7 e5 sm7
  have eq_int : ∀ {a b : Int}, a = b → decide (V.int a = V.int b) = true := fun h => decide_eq_true (congrArg V.int h)
  have chN : ∀ {d : Int}, ch ≠ d → decide (V.int ch = V.int d) = false := fun h => decide_eq_false fun z => h (V.int.inj z)
  refine ⟨_, rfl, rfl, _, rfl, ?_⟩
  by_cases h0 : ch = 0
  · refine if_true_of (eq_int h0) ?_
    refine ⟨_, rfl, _, rfl, b5, rfl, ⟨_, SqL.of e8⟩, fun D hD => ?_⟩
    refine lc_list (K := K) (a := b5) (xs := allBad.map fun z => V.str (S z)) (fun i H2 => Same H8 H2 ∧ H2 D = some (.lst (((allBad.take i).filter (· ≠ [45])).map fun z => V.str (S z)))) ⟨same_new hD _, upd_same⟩ (fun i H2 _ e => e.1.seq (SqL.of e8)) ?_ ?_
    · rintro i x H2 hx ⟨sm, eD⟩
      obtain ⟨z, hz, rfl⟩ := get_map hx
      refine ⟨rfl, ?_⟩
      refine ⟨_, rfl, rfl, _, rfl, ?_⟩
      have hd : (V.str (S z) = V.str "-") ↔ z = [45] := by
        have ev : V.str "-" = V.str (S [45]) := by decide +kernel
        rw [ev]
        constructor
        · intro e
          injection e with e
          have e2 : (S z).cps.toList = (S [45]).cps.toList := by rw [e]
          exact e2
        · rintro rfl
          rfl
      have hf : (allBad.take (i + 1)).filter (· ≠ [45]) = (allBad.take i).filter (· ≠ [45]) ++ [z].filter (· ≠ [45]) := by
        rw [List.take_add_one, hz, List.filter_append]
        rfl
      by_cases h45 : z = [45]
      · refine if_false_of (by rw [decide_eq_true (hd.mpr h45)]; rfl) ?_
        refine ⟨sm, ?_⟩
        rw [hf, h45]
        have e0 : ([[45]] : List (List Nat)).filter (· ≠ [45]) = [] := by decide
        rw [e0, List.append_nil]
        exact eD
      · refine if_true_of (by rw [decide_eq_false fun y => h45 (hd.mp y)]; rfl) ?_
        refine ⟨_, rfl, _, eD, ?_, same_mut sm hD _, ?_⟩
        · rw [List.length_map]
          have h1 := List.length_filter_le (fun w : List Nat => decide (w ≠ [45])) (allBad.take i)
          have h2 : (allBad.take i).length ≤ 20 := by
            rw [List.length_take]
            exact Nat.min_le_right _ _
          exact smallL (by omega)
        · have e0 : [z].filter (· ≠ [45]) = [z] := by simp [h45]
          rw [upd_same, hf, e0, List.map_append]
          rfl
    · rintro H2 ⟨sm, eD⟩
      have eD2 : H2 D = some (.lst ((allBad.filter (· ≠ [45])).map fun z => V.str (S z))) := eD
      have nD := S8.new hD
      refine ⟨p, c, D, _, rfl, eD2, nD.1, nD.2, by decide +kernel, by decide +kernel, S8.same sm, fun H9 v kp9 S9 hv => ?_⟩
      obtain ⟨w, hw, rfl⟩ := List.mem_map.mp hv
      have hw2 := List.mem_filter.mp hw
      obtain ⟨hb, hl⟩ := allBad_bad w hw2.1 (of_decide_eq_true hw2.2)
      refine ⟨_, rfl, _, rfl, S F1, S w, rfl, rfl, sz2 (by omega), ?_⟩
      rw [S_app]
      refine ⟨_, rfl, S (F1 ++ w), S Z1, rfl, rfl, sz2 (by rw [List.length_append]; omega), ?_⟩
      rw [S_app]
      refine ⟨_, rfl, by rw [S_len]; simp; omega, fun H10 sm10 => ?_⟩
      refine ⟨_, rfl, S F1, rfl, small (by rw [S_len]; omega), rfl, _, rfl, ?_⟩
      refine if_true_of (decide_eq_true (congrArg V.int (at_bad hF hZ hb))) ?_
      refine ⟨_, rfl, S F1, S [40], rfl, vOpen, sz2 (by simp; omega), ?_⟩
      rw [S_app]
      refine ⟨_, rfl, S (F1 ++ [40]), S w, rfl, rfl, sz2 (by simp; omega), ?_⟩
      rw [S_app]
      refine ⟨S (F1 ++ [40] ++ w), S [41], rfl, vShut, sz2 (by simp; omega), ?_⟩
      rw [S_app]
      refine ⟨_, rfl, S (F1 ++ [40] ++ w ++ [41]), S Z1, rfl, rfl, sz2 (by simp; omega), ?_⟩
      rw [S_app]
      refine ⟨_, rfl, by rw [S_len]; simp; omega, fun H11 sm11 => ?_⟩
      refine ⟨_, rfl, S F1, rfl, small (by rw [S_len]; omega), _, _, rfl, rfl, rfl, ?_⟩
      exact q_true (congrArg V.int (at_bad_in hF hZ hb)) (q _)
  refine if_false_of (chN h0) ?_
  refine ⟨_, rfl, rfl, _, rfl, ?_⟩
  by_cases h1 : ch = 1
  · refine if_true_of (eq_int h1) ?_
    refine ⟨_, rfl, by show 3 ≤ sizeLine; decide, fun b6 nb6 => ?_⟩
    refine ⟨p, c, b6, _, rfl, upd_same, (S8.new nb6).1, (S8.new nb6).2, by simp, by decide, S8.same (same_new nb6 _), fun H9 v9 kp9 S9 hv9 => ?_⟩
    obtain ⟨s9, hs9, rfl⟩ := pick_of (l := [[], [32, 48, 49], [32, 41]]) (by decide +kernel) hv9
    have l9 : s9.length ≤ 3 := by
      have key : ∀ s ∈ ([[], [32, 48, 49], [32, 41]] : List (List Nat)), s.length ≤ 3 := by decide
      exact key s9 hs9
    refine ⟨_, rfl, S F1, S [41], rfl, vShut, sz2 (by simp; omega), ?_⟩
    rw [S_app]
    refine ⟨_, rfl, S (F1 ++ [41]), S Z1, rfl, rfl, sz2 (by simp; omega), ?_⟩
    rw [S_app]
    refine ⟨_, rfl, S (F1 ++ [41] ++ Z1), S s9, rfl, rfl, sz2 (by simp; omega), ?_⟩
    rw [S_app]
    refine ⟨_, rfl, by rw [S_len]; simp; omega, fun H10 sm10 => ?_⟩
    refine ⟨_, rfl, S F1, rfl, small (by rw [S_len]; omega), rfl, ?_⟩
    exact q_true (congrArg V.int (at_close hF hZ s9)) (q _)
  refine if_false_of (chN h1) ?_
  refine ⟨_, rfl, rfl, _, rfl, ?_⟩
  by_cases h2 : ch = 2
  · refine if_true_of (eq_int h2) ?_
    refine ⟨_, rfl, p, c, 4, rfl, by decide, by decide, S8, fun H9 r kp9 S9 r0 r4 => ?_⟩
    obtain ⟨n, rfl⟩ : ∃ n : Nat, r = n := ⟨r.toNat, by omega⟩
    have hn : 31 + n = 30 ∨ 31 + n = 31 ∨ 31 + n = 32 ∨ 31 + n = 33 ∨ 31 + n = 34 := by omega
    have ed : V.int (31 + (n : Nat)) = V.int ((31 + n : Nat) : Int) := congrArg V.int (by omega)
    refine ⟨_, _, rfl, rfl, ?_⟩
    have m30 := mulS (z := 40) (n := 30) (by omega) (.inl rfl)
    have m31 := mulS (z := 41) (n := 30) (by omega) (.inr rfl)
    have d30 := mulS (z := 40) hn (.inl rfl)
    have d31 := mulS (z := 41) hn (.inr rfl)
    refine ⟨S [40], (30 : Nat), vOpen, rfl, m30.1, ?_⟩
    rw [m30.2]
    refine ⟨S [41], (30 : Nat), vShut, rfl, m31.1, ?_⟩
    rw [m31.2]
    refine ⟨S (List.replicate 30 40), S (List.replicate 30 41), rfl, rfl, sz2 (by simp), ?_⟩
    rw [S_app]
    refine ⟨_, rfl, _, rfl, S [40], _, vOpen, ed, d30.1, ?_⟩
    rw [d30.2]
    refine ⟨S F1, S (List.replicate (31 + n) 40), rfl, rfl, sz2 (by simp; omega), ?_⟩
    rw [S_app]
    refine ⟨_, rfl, S [41], _, vShut, ed, d31.1, ?_⟩
    rw [d31.2]
    refine ⟨S (F1 ++ List.replicate (31 + n) 40), S (List.replicate (31 + n) 41), rfl, rfl, sz2 (by simp; omega), ?_⟩
    rw [S_app]
    refine ⟨_, rfl, S (F1 ++ List.replicate (31 + n) 40 ++ List.replicate (31 + n) 41), S Z1, rfl, rfl, sz2 (by simp; omega), ?_⟩
    rw [S_app]
    refine ⟨_, rfl, _, rfl, by rw [S_len]; simp; omega, fun H10 sm10 => ?_⟩
    refine ⟨_, rfl, S F1, rfl, small (by rw [S_len]; omega), _, _, rfl, rfl, rfl, _, rfl, ?_⟩
    have dd := at_deep hF hZ n (List.replicate (31 + n) 41 ++ Z1)
    rw [← List.append_assoc] at dd
    refine if_true_of (decide_eq_true (congrArg V.int dd)) ?_
    refine ⟨_, rfl, _, rfl, S F1, S (List.replicate 30 40 ++ List.replicate 30 41), rfl, rfl, sz2 (by simp; omega), ?_⟩
    rw [S_app]
    refine ⟨_, rfl, S (F1 ++ (List.replicate 30 40 ++ List.replicate 30 41)), S Z1, rfl, rfl, sz2 (by simp; omega), ?_⟩
    rw [S_app]
    refine ⟨_, rfl, by rw [S_len]; simp; omega, fun H11 sm11 => ?_⟩
    refine ⟨1, rfl, rfl, ?_⟩
    exact q_true (congrArg V.int (at_thirty hF hZ)) (q _)
  refine if_false_of (chN h2) ?_
  refine ⟨_, rfl, rfl, _, rfl, ?_⟩
  by_cases h3 : ch = 3
  · refine if_true_of (eq_int h3) ?_
    refine ⟨_, rfl, S F1, S [40], rfl, vOpen, sz2 (by simp; omega), ?_⟩
    rw [S_app]
    refine ⟨_, rfl, S (F1 ++ [40]), S Z1, rfl, rfl, sz2 (by simp; omega), ?_⟩
    rw [S_app]
    refine ⟨_, rfl, by rw [S_len]; simp; omega, fun H9 sm9 => ?_⟩
    refine ⟨_, rfl, S F1, rfl, small (by rw [S_len]; omega), rfl, _, rfl, ?_⟩
    refine if_true_of (decide_eq_true (congrArg V.int (at_open hF hZ))) ?_
    refine ⟨_, rfl, S [40, 32], S F1, vOpenB, rfl, sz2 (by simp; omega), ?_⟩
    rw [S_app]
    refine ⟨S ([40, 32] ++ F1), S [40], rfl, vOpen, sz2 (by simp; omega), ?_⟩
    rw [S_app]
    refine ⟨_, rfl, S ([40, 32] ++ F1 ++ [40]), S Z1, rfl, rfl, sz2 (by simp; omega), ?_⟩
    rw [S_app]
    refine ⟨_, rfl, by rw [S_len]; simp; omega, fun H10 sm10 => ?_⟩
    refine ⟨_, rfl, S F1, rfl, small (by rw [S_len]; omega), _, _, rfl, rfl, rfl, ?_⟩
    exact q_true (congrArg V.int (at_open2 hF hZ)) (q _)
  refine if_false_of (chN h3) ?_
  refine ⟨_, rfl, S F1, S [40], rfl, vOpen, sz2 (by simp; omega), ?_⟩
  rw [S_app]
  refine ⟨_, rfl, S (F1 ++ [40]), S Z1, rfl, rfl, sz2 (by simp; omega), ?_⟩
  rw [S_app]
  refine ⟨S (F1 ++ [40] ++ Z1), S [32, 48, 49], rfl, vBad, sz2 (by simp; omega), ?_⟩
  rw [S_app]
  refine ⟨_, rfl, by rw [S_len]; simp; omega, fun H9 sm9 => ?_⟩
  refine ⟨_, rfl, S F1, rfl, small (by rw [S_len]; omega), _, _, rfl, rfl, _, rfl, S Z1, rfl, small (by rw [S_len]; omega), _, _, rfl, rfl, _, _, rfl, rfl, rfl, ?_⟩
  exact q_true (congrArg V.int (at_open_bad hF hZ)) (q _)
end
end Sg

namespace Sg
open PySem PySem.Spec PyProof.Rows L2
/-! ### what the top has written -/
theorem all_mk {P : Program} {w : World} {K : PySem.W.Frag} {h : Heap} {mg : Str → Option Value} {fa : Addr} (X : K.In h) (G : h.Ns mainGlobals mg) (hfa : mg "law" = some (.ref fa))
    {f1 : Addr} {od1 an1 : Option Addr} {sl1 : Array (Option Value)} {oc1 kV1 dc1 pm1 cd1 ct1 : Value}
    {f2 : Addr} {od2 an2 : Option Addr} {sl2 : Array (Option Value)} {oc2 kV2 dc2 pm2 cd2 ct2 : Value}
    {f3 : Addr} {od3 an3 : Option Addr} {sl3 : Array (Option Value)} {oc3 kV3 dc3 pm3 cd3 ct3 : Value}
    {f4 : Addr} {od4 an4 : Option Addr} {sl4 : Array (Option Value)} {oc4 kV4 dc4 pm4 cd4 ct4 : Value}
    {f5 : Addr} {od5 an5 : Option Addr} {sl5 : Array (Option Value)} {oc5 kV5 dc5 pm5 cd5 ct5 : Value}
    {f6 : Addr} {od6 an6 : Option Addr} {sl6 : Array (Option Value)} {oc6 kV6 dc6 pm6 cd6 ct6 : Value}
    {f7 : Addr} {od7 an7 : Option Addr} {sl7 : Array (Option Value)} {oc7 kV7 dc7 pm7 cd7 ct7 : Value}
    {f8 : Addr} {od8 an8 : Option Addr} {sl8 : Array (Option Value)} {oc8 kV8 dc8 pm8 cd8 ct8 : Value}
    {f9 : Addr} {od9 an9 : Option Addr} {sl9 : Array (Option Value)} {oc9 kV9 dc9 pm9 cd9 ct9 : Value}
    {f10 : Addr} {od10 an10 : Option Addr} {sl10 : Array (Option Value)} {oc10 kV10 dc10 pm10 cd10 ct10 : Value}
    {f11 : Addr} {od11 an11 : Option Addr} {sl11 : Array (Option Value)} {oc11 kV11 dc11 pm11 cd11 ct11 : Value}
    {t_DEEPEST_LIST : Tok}
    {t_MOST_DIGITS : Tok}
    {t_LONGEST_NAME : Tok}
    {t_DIGITS : Tok}
    {t_LETTERS : Tok}
    {aS : Addr} {odS : Option Addr} {nS : Nat} {slS : Array (Option Value)} {u1 u2 u3 u4 u5 u6 u7 : Tok}
    {C CS CF fI cc cda : Addr} {nm q : Str} {N : Addr} {bs : List Value} {sn : List Str} {sub : List Value} {ab : Bool} {col : Option Bool} {dd : Option Addr} {m0 m1 m2 m3 m5 : Option Value}
    {odI anI clc ccd : Option Addr} {slI sls ccs : Array (Option Value)} {ocI dcI pmI ctI cl ccl : Value} {vsC : Array Value} {file : Str} {tf : Tok}
    (a1 : PySem.W.nsIn K mainGlobals "made_of" = some (some (.ref f1)))
    (l1 : K.lookup f1 = some ⟨oc1, od1, .func (PySem.W.fnOf "made_of" "made_of" (defArgs sMade) (defBody sMade) (defScope sMade) .none kV1 dc1 pm1 an1 cd1 ct1), sl1⟩)
    (c1 : PySem.W.codeIn K cd1 "made_of" = true)
    (k1 : PySem.W.keepIn K (.ref f1) = true)
    (a2 : PySem.W.nsIn K mainGlobals "names_an_integer" = some (some (.ref f2)))
    (l2 : K.lookup f2 = some ⟨oc2, od2, .func (PySem.W.fnOf "names_an_integer" "names_an_integer" (defArgs sIsInt) (defBody sIsInt) (defScope sIsInt) .none kV2 dc2 pm2 an2 cd2 ct2), sl2⟩)
    (c2 : PySem.W.codeIn K cd2 "names_an_integer" = true)
    (k2 : PySem.W.keepIn K (.ref f2) = true)
    (a3 : PySem.W.nsIn K mainGlobals "is_a_name" = some (some (.ref f3)))
    (l3 : K.lookup f3 = some ⟨oc3, od3, .func (PySem.W.fnOf "is_a_name" "is_a_name" (defArgs sIsName) (defBody sIsName) (defScope sIsName) .none kV3 dc3 pm3 an3 cd3 ct3), sl3⟩)
    (c3 : PySem.W.codeIn K cd3 "is_a_name" = true)
    (k3 : PySem.W.keepIn K (.ref f3) = true)
    (a4 : PySem.W.nsIn K mainGlobals "pieces" = some (some (.ref f4)))
    (l4 : K.lookup f4 = some ⟨oc4, od4, .func (PySem.W.fnOf "pieces" "pieces" (defArgs sPieces) (defBody sPieces) (defScope sPieces) .none kV4 dc4 pm4 an4 cd4 ct4), sl4⟩)
    (c4 : PySem.W.codeIn K cd4 "pieces" = true)
    (k4 : PySem.W.keepIn K (.ref f4) = true)
    (a5 : PySem.W.nsIn K mainGlobals "read" = some (some (.ref f5)))
    (l5 : K.lookup f5 = some ⟨oc5, od5, .func (PySem.W.fnOf "read" "read" (defArgs sRead) (defBody sRead) (defScope sRead) .none kV5 dc5 pm5 an5 cd5 ct5), sl5⟩)
    (c5 : PySem.W.codeIn K cd5 "read" = true)
    (k5 : PySem.W.keepIn K (.ref f5) = true)
    (a6 : PySem.W.nsIn K mainGlobals "_law_state" = some (some (.ref f6)))
    (l6 : K.lookup f6 = some ⟨oc6, od6, .func (PySem.W.fnOf "_law_state" "_law_state" (defArgs sState) (defBody sState) (defScope sState) .none kV6 dc6 pm6 an6 cd6 ct6), sl6⟩)
    (c6 : PySem.W.codeIn K cd6 "_law_state" = true)
    (k6 : PySem.W.keepIn K (.ref f6) = true)
    (a7 : PySem.W.nsIn K mainGlobals "_law_draw" = some (some (.ref f7)))
    (l7 : K.lookup f7 = some ⟨oc7, od7, .func (PySem.W.fnOf "_law_draw" "_law_draw" (defArgs sDraw) (defBody sDraw) (defScope sDraw) .none kV7 dc7 pm7 an7 cd7 ct7), sl7⟩)
    (c7 : PySem.W.codeIn K cd7 "_law_draw" = true)
    (k7 : PySem.W.keepIn K (.ref f7) = true)
    (a8 : PySem.W.nsIn K mainGlobals "_law_pick" = some (some (.ref f8)))
    (l8 : K.lookup f8 = some ⟨oc8, od8, .func (PySem.W.fnOf "_law_pick" "_law_pick" (defArgs sPick) (defBody sPick) (defScope sPick) .none kV8 dc8 pm8 an8 cd8 ct8), sl8⟩)
    (c8 : PySem.W.codeIn K cd8 "_law_pick" = true)
    (k8 : PySem.W.keepIn K (.ref f8) = true)
    (a9 : PySem.W.nsIn K mainGlobals "_law_at" = some (some (.ref f9)))
    (l9 : K.lookup f9 = some ⟨oc9, od9, .func (PySem.W.fnOf "_law_at" "_law_at" (defArgs sAt) (defBody sAt) (defScope sAt) .none kV9 dc9 pm9 an9 cd9 ct9), sl9⟩)
    (c9 : PySem.W.codeIn K cd9 "_law_at" = true)
    (k9 : PySem.W.keepIn K (.ref f9) = true)
    (a10 : PySem.W.nsIn K mainGlobals "_law_good" = some (some (.ref f10)))
    (l10 : K.lookup f10 = some ⟨oc10, od10, .func (PySem.W.fnOf "_law_good" "_law_good" (defArgs sGood) (defBody sGood) (defScope sGood) .none kV10 dc10 pm10 an10 cd10 ct10), sl10⟩)
    (c10 : PySem.W.codeIn K cd10 "_law_good" = true)
    (k10 : PySem.W.keepIn K (.ref f10) = true)
    (a11 : PySem.W.nsIn K mainGlobals "law" = some (some (.ref f11)))
    (l11 : K.lookup f11 = some ⟨oc11, od11, .func (PySem.W.fnOf "law" "law" (defArgs sLaw) (defBody sLaw) (defScope sLaw) .none kV11 dc11 pm11 an11 cd11 ct11), sl11⟩)
    (c11 : PySem.W.codeIn K cd11 "law" = true)
    (k11 : PySem.W.keepIn K (.ref f11) = true)
    (z_int : PySem.W.nsIn K mainGlobals "int" = some none)
    (z_abs : PySem.W.nsIn K mainGlobals "abs" = some none)
    (z_len : PySem.W.nsIn K mainGlobals "len" = some none)
    (z_all : PySem.W.nsIn K mainGlobals "all" = some none)
    (z_enumerate : PySem.W.nsIn K mainGlobals "enumerate" = some none)
    (z_range : PySem.W.nsIn K mainGlobals "range" = some none)
    (z_super : PySem.W.nsIn K mainGlobals "super" = some none)
    (z_ValueError : PySem.W.nsIn K mainGlobals "ValueError" = some none)
    (z_isinstance : PySem.W.nsIn K mainGlobals "isinstance" = some none)
    (g_DEEPEST_LIST : PySem.W.nsIn K mainGlobals "DEEPEST_LIST" = some (some (.int 30 t_DEEPEST_LIST)))
    (g_MOST_DIGITS : PySem.W.nsIn K mainGlobals "MOST_DIGITS" = some (some (.int 9 t_MOST_DIGITS)))
    (g_LONGEST_NAME : PySem.W.nsIn K mainGlobals "LONGEST_NAME" = some (some (.int 20 t_LONGEST_NAME)))
    (g_DIGITS : PySem.W.nsIn K mainGlobals "DIGITS" = some (some (.str "0123456789" t_DIGITS)))
    (g_LETTERS : PySem.W.nsIn K mainGlobals "LETTERS" = some (some (.str "abcdefghijklmnopqrstuvwxyz" t_LETTERS)))
    (g_SP : PySem.W.nsIn K mainGlobals "SPECIAL_NAMES" = some (some (.ref aS)))
    (l_SP : K.lookup aS = some ⟨.type "tuple", odS, .seq #[.str "+" u1, .str "-" u2, .str "*" u3, .str "<" u4, .str "=" u5, .str "_" u6, .str "..." u7] nS, slS⟩)
    (aC : PySem.W.nsIn K mainGlobals "TextError" = some (some (.ref C)))
    (aCS : PySem.W.nsIn K mainGlobals "SugarError" = some (some (.ref CS)))
    (aCF : PySem.W.nsIn K mainGlobals "FormError" = some (some (.ref CF)))
    (xL : K.lookup C = some (excClassObj nm q C N bs [.ref CS, .type "ValueError", .type "Exception", .type "BaseException", .type "object"] true sn sub ab col dd m0 m1 m2 m3 m5 "ValueError.__new__"))
    (sa : PySem.W.findIn K (.ref C) "__setattr__" = some (some (.builtin "object.__setattr__")))
    (ga : PySem.W.findIn K (.ref C) "__getattribute__" = some (some (.builtin "BaseException.__getattribute__")))
    (gg : PySem.W.findIn K (.ref C) "__getattr__" = some none)
    (nb : PySem.W.findIn K (.ref C) "at" = some none)
    (iI : PySem.W.findIn K (.ref C) "__init__" = some (some (.ref fI)))
    (tI : PySem.W.typeIn K (.ref fI) = some (.type "function"))
    (lI : K.lookup fI = some ⟨ocI, odI, .func (PySem.W.ksFn "__init__" "TextError.__init__" (PySem.TeX.iA ⟨6, 17, 6, 21⟩ ⟨6, 23, 6, 25⟩) (PySem.TeX.iB ⟨7, 8, 7, 13⟩ ⟨7, 8, 7, 15⟩ ⟨7, 8, 7, 24⟩ ⟨7, 27, 7, 57⟩ ⟨7, 58, 7, 60⟩ ⟨7, 57, 7, 61⟩ ⟨7, 25, 7, 62⟩ ⟨7, 8, 7, 63⟩ ⟨7, 8, 7, 63⟩ ⟨8, 8, 8, 12⟩ ⟨8, 8, 8, 15⟩ ⟨8, 18, 8, 20⟩ ⟨8, 8, 8, 20⟩) PySem.TeX.iS .none .none dcI pmI anI (.ref cda) ctI cc), slI⟩)
    (cI : PySem.W.codeIn K (.ref cda) "TextError.__init__" = true)
    (kC : PySem.W.keepIn K (.ref C) = true)
    (eC : PySem.W.subIn K (.ref C) (.type "BaseException") = some true)
    (tC : PySem.W.typeIn K (.ref C) = some (.type "type"))
    (hC : PySem.W.hasDictIn K C = true)
    (iC : PySem.W.isClsIn K C = true)
    (sC : PySem.W.subIn K (.ref C) (.ref C) = some true)
    (op : PySem.W.nsIn K PySem.cStatics "thirdparty.any" = some none)
    (vE : PySem.W.subIn K (.ref C) (.type "ValueError") = some true)
    (su : PySem.W.ks_superIn K C C "__init__" = some (some (.builtin "ValueError.__init__")))
    (mr : PySem.W.mroIn K C (.ref C) = some true)
    (lc : K.lookup cc = some ⟨cl, clc, .cell (some (.ref C)), sls⟩)
    (ld : K.lookup cda = some ⟨ccl, ccd, .fields vsC, ccs⟩)
    (lv : vsC[2]? = some (.str file tf))
    (lf : ((P.main.file : Str) == file) = true)
    (lt : (P.main.scope.names.lookup ("super" : Str)).isSome = false)
    (lq : PySem.TeX.CallForm ⟨7, 8, 7, 13⟩ ⟨7, 8, 7, 15⟩ ⟨7, 8, 7, 24⟩ ⟨7, 27, 7, 57⟩ ⟨7, 58, 7, 60⟩ ⟨7, 57, 7, 61⟩ ⟨7, 25, 7, 62⟩ ⟨7, 8, 7, 63⟩ fI cc cda)
    (hcl : PySem.W.findIn K (.ref C) "__class__" = some (some (.builtin "object.__class__")))
    (hsp : PySem.W.specialIn K (.builtin "object.__class__") "__get__" = some (some (.builtin "getset_descriptor.__get__")))
    (htk : PySem.W.takesIn K (.builtin "object.__class__") = some true)
    (hmo : PySem.W.mroIn K C (.type "object") = some true)
    (q1 : PySem.W.kitOne K (.ref C) (.ref CS) = some true)
    (q2 : PySem.W.kitOne K (.ref C) (.type "ValueError") = some true)
    (q3 : PySem.W.kitOne K (.ref C) (.ref CF) = some false)
    : ∃ fd : FuncData, (∀ (s : Shared) (v : Value), BindsTo s fd ⟨[v], []⟩ [("script", v)]) ∧ ∀ base : Heap, K.In base → base.Ns mainGlobals mg → FnOk P w K mg base CX0 5 fa fd ["script"] (spLaw K) := by
  have e := hfa.symm.trans (PySem.W.mg_of X G a11)
  cases e
  have T : PySem.TeX.TeTxt P K mg C fI cc cda :=
    { gC := PySem.W.mg_of X G aC, cls := ⟨nm, q, N, bs, _, sn, sub, ab, col, dd, m0, m1, m2, m3, m5, xL, by rfl⟩, sa := sa, ga := ga, gg := gg, noN := nb, iC := iI, tC := tI, kC := kC, exC := eC, tyC := tC, hdC := hC, te := exm_self eC iC tC sC,
      op := op, vE := vE, su := su, mr := mr, ms := PySem.W.mg_none_of X G z_super, cell := ⟨_, _, _, lc⟩, code := ⟨_, _, _, _, _, _, ld, lv, lf⟩, top := lt, fn := ⟨_, _, _, _, _, _, _, _, _, _, _, _, _, _, _, _, _, _, _, _, _, _, lI, cI, lq⟩ }
  have J : Isa K mg C CS CF := ⟨PySem.W.mg_of X G aCS, PySem.W.mg_of X G aCF, PySem.W.mg_none_of X G z_ValueError, PySem.W.mg_none_of X G z_isinstance, ⟨ga, gg, eC, hC, hcl, hsp, htk, hmo⟩, q1, q2, q3⟩
  have Cs : Consts K mg := ⟨⟨_, PySem.W.mg_of X G g_DEEPEST_LIST⟩, ⟨_, PySem.W.mg_of X G g_MOST_DIGITS⟩, ⟨_, PySem.W.mg_of X G g_LONGEST_NAME⟩, ⟨_, PySem.W.mg_of X G g_DIGITS⟩, ⟨_, PySem.W.mg_of X G g_LETTERS⟩, aS, PySem.W.mg_of X G g_SP, fun H => .inr ⟨_, _, _, l_SP, rfl, rfl, by show 7 ≤ sizeLine; decide, specials_vals _ _ _ _ _ _ _⟩⟩
  have F1 := fun_mk (st := sMade) l1 c1 k1
  have b1 := F1.binds (ps := ["text", "signs"]) fun _ _ _ _ _ _ us hl => match us, hl with | [_, _], _ => rfl
  have g1 := PySem.W.mg_of X G a1
  have F2 := fun_mk (st := sIsInt) l2 c2 k2
  have b2 := F2.binds (ps := ["run"]) fun _ _ _ _ _ _ us hl => match us, hl with | [_], _ => rfl
  have g2 := PySem.W.mg_of X G a2
  have F3 := fun_mk (st := sIsName) l3 c3 k3
  have b3 := F3.binds (ps := ["run"]) fun _ _ _ _ _ _ us hl => match us, hl with | [_], _ => rfl
  have g3 := PySem.W.mg_of X G a3
  have F4 := fun_mk (st := sPieces) l4 c4 k4
  have b4 := F4.binds (ps := ["text"]) fun _ _ _ _ _ _ us hl => match us, hl with | [_], _ => rfl
  have g4 := PySem.W.mg_of X G a4
  have F5 := fun_mk (st := sRead) l5 c5 k5
  have b5 := F5.binds (ps := ["text"]) fun _ _ _ _ _ _ us hl => match us, hl with | [_], _ => rfl
  have g5 := PySem.W.mg_of X G a5
  have F6 := fun_mk (st := sState) l6 c6 k6
  have b6 := F6.binds (ps := ["script"]) fun _ _ _ _ _ _ us hl => match us, hl with | [_], _ => rfl
  have g6 := PySem.W.mg_of X G a6
  have F7 := fun_mk (st := sDraw) l7 c7 k7
  have b7 := F7.binds (ps := ["state", "many"]) fun _ _ _ _ _ _ us hl => match us, hl with | [_, _], _ => rfl
  have g7 := PySem.W.mg_of X G a7
  have F8 := fun_mk (st := sPick) l8 c8 k8
  have b8 := F8.binds (ps := ["state", "row"]) fun _ _ _ _ _ _ us hl => match us, hl with | [_, _], _ => rfl
  have g8 := PySem.W.mg_of X G a8
  have F9 := fun_mk (st := sAt) l9 c9 k9
  have b9 := F9.binds (ps := ["text"]) fun _ _ _ _ _ _ us hl => match us, hl with | [_], _ => rfl
  have g9 := PySem.W.mg_of X G a9
  have F10 := fun_mk (st := sGood) l10 c10 k10
  have b10 := F10.binds (ps := ["state"]) fun _ _ _ _ _ _ us hl => match us, hl with | [_], _ => rfl
  have g10 := PySem.W.mg_of X G a10
  have F11 := fun_mk (st := sLaw) l11 c11 k11
  have g11 := PySem.W.mg_of X G a11
  have y_int := PySem.W.mg_none_of X G z_int
  have y_abs := PySem.W.mg_none_of X G z_abs
  have y_len := PySem.W.mg_none_of X G z_len
  have y_all := PySem.W.mg_none_of X G z_all
  have y_enumerate := PySem.W.mg_none_of X G z_enumerate
  have y_range := PySem.W.mg_none_of X G z_range
  have y_super := PySem.W.mg_none_of X G z_super
  have y_ValueError := PySem.W.mg_none_of X G z_ValueError
  have y_isinstance := PySem.W.mg_none_of X G z_isinstance
  refine ⟨PySem.W.fnOf "law" "law" (defArgs sLaw) (defBody sLaw) (defScope sLaw) .none kV11 dc11 pm11 an11 cd11 ct11, fun s v => .of_eq rfl, fun base _ _ => ?_⟩
  have Gm : FnOk P w K mg base CX0 1 f1 _ ["text", "signs"] spMade := ok_made F1 y_all
  have Gi : FnOk P w K mg base CX0 2 f2 _ ["run"] spIsInt := ok_isInt F2 Gm b1 k1 g1 y_len Cs
  have Gn : FnOk P w K mg base CX0 2 f3 _ ["run"] spIsName := ok_isName F3 Gm b1 k1 g1 y_len Cs
  have Gp : FnOk P w K mg base CX0 2 f4 _ ["text"] spPieces := ok_pieces F4 y_enumerate
  have Gr : FnOk P w K mg base (L2.CX P w) 3 f5 _ ["text"] (spRead C) := ok_read F5 (by decide) T Gp b4 k4 g4 Gi b2 k2 g2 Gn b3 k3 g3 y_len y_int Cs
  have Ga : FnOk P w K mg base CX0 4 f9 _ ["text"] spAt := ok_at F9 T J Gr b5 k5 g5
  have Gs : FnOk P w K mg base CX0 4 f6 _ ["script"] (spState K) := ok_state F6 y_int y_abs
  have Gd2 : FnOk P w K mg base CX0 2 f7 _ ["state", "many"] spDraw := ok_draw F7 y_int y_len
  have Gd3 : FnOk P w K mg base CX0 3 f7 _ ["state", "many"] spDraw := ok_draw F7 y_int y_len
  have Gd4 : FnOk P w K mg base CX0 4 f7 _ ["state", "many"] spDraw := ok_draw F7 y_int y_len
  have Gk3 : FnOk P w K mg base CX0 3 f8 _ ["state", "row"] spPick := ok_pick F8 Gd2 b7 k7 g7 y_len
  have Gk4 : FnOk P w K mg base CX0 4 f8 _ ["state", "row"] spPick := ok_pick F8 Gd3 b7 k7 g7 y_len
  have Gg : FnOk P w K mg base CX0 4 f10 _ ["state"] spGood := ok_good F10 Gd3 b7 k7 g7 Gk3 b8 k8 g8 y_range
  exact ok_law F11 Gs b6 k6 g6 Gd4 b7 k7 g7 Gk4 b8 k8 g8 Gg b10 k10 g10 Ga b9 k9 g9 y_len
end Sg
open PySem PySem.W PyProof.Rows
set_option maxHeartbeats 0 in
theorem PySem.Challenge.cw_sugartrue_k02_errors_of_texts_holds : PySem.Challenge.rw_sugartrue_k02_errors_of_texts.Holds := by
  w_on; o_law; k_head; (case hw => w_witness2)
  k_fill
  refine L2.walk_of (l := PySem.Challenge.rw_sugartrue_k02_errors_of_texts) (n := 63) (k := 5) (x := "script") (CX := fun _ => L2.CX0) (sp := fun w => Sg.spLaw _) rfl (by decide) rfl ⟨rfl, by decide, by decide⟩ (fun w h Y => PySem.W.kIn_of Y) ?F (fun _ _ a ns hl _ hS => ⟨a, ns, rfl, hS, hl, fun _ => rfl⟩) (fun _ _ _ _ _ h => h)
  case F =>
    intro w mg fa h KX G hmg
    refine' Sg.all_mk KX G hmg ?a1 ?l1 ?c1 ?k1 ?a2 ?l2 ?c2 ?k2 ?a3 ?l3 ?c3 ?k3 ?a4 ?l4 ?c4 ?k4 ?a5 ?l5 ?c5 ?k5 ?a6 ?l6 ?c6 ?k6 ?a7 ?l7 ?c7 ?k7 ?a8 ?l8 ?c8 ?k8 ?a9 ?l9 ?c9 ?k9 ?a10 ?l10 ?c10 ?k10 ?a11 ?l11 ?c11 ?k11 ?z_int ?z_abs ?z_len ?z_all ?z_enumerate ?z_range ?z_super ?z_ValueError ?z_isinstance ?g_DEEPEST_LIST ?g_MOST_DIGITS ?g_LONGEST_NAME ?g_DIGITS ?g_LETTERS ?g_SP ?l_SP ?aC ?aCS ?aCF ?xL ?sa ?ga ?gg ?nb ?iI ?tI ?lI ?cI ?kC ?eC ?tC ?hC ?iC ?sC ?op ?vE ?su ?mr ?lc ?ld ?lv ?lf ?lt ?lq ?hcl ?hsp ?htk ?hmo ?q1 ?q2 ?q3
    (case a1 => k_is)
    (case l1 => k_is)
    (case c1 => k_is)
    (case k1 => k_is)
    (case a2 => k_is)
    (case l2 => k_is)
    (case c2 => k_is)
    (case k2 => k_is)
    (case a3 => k_is)
    (case l3 => k_is)
    (case c3 => k_is)
    (case k3 => k_is)
    (case a4 => k_is)
    (case l4 => k_is)
    (case c4 => k_is)
    (case k4 => k_is)
    (case a5 => k_is)
    (case l5 => k_is)
    (case c5 => k_is)
    (case k5 => k_is)
    (case a6 => k_is)
    (case l6 => k_is)
    (case c6 => k_is)
    (case k6 => k_is)
    (case a7 => k_is)
    (case l7 => k_is)
    (case c7 => k_is)
    (case k7 => k_is)
    (case a8 => k_is)
    (case l8 => k_is)
    (case c8 => k_is)
    (case k8 => k_is)
    (case a9 => k_is)
    (case l9 => k_is)
    (case c9 => k_is)
    (case k9 => k_is)
    (case a10 => k_is)
    (case l10 => k_is)
    (case c10 => k_is)
    (case k10 => k_is)
    (case a11 => k_is)
    (case l11 => k_is)
    (case c11 => k_is)
    (case k11 => k_is)
    (case z_int => k_is)
    (case z_abs => k_is)
    (case z_len => k_is)
    (case z_all => k_is)
    (case z_enumerate => k_is)
    (case z_range => k_is)
    (case z_super => k_is)
    (case z_ValueError => k_is)
    (case z_isinstance => k_is)
    (case g_DEEPEST_LIST => k_is)
    (case g_MOST_DIGITS => k_is)
    (case g_LONGEST_NAME => k_is)
    (case g_DIGITS => k_is)
    (case g_LETTERS => k_is)
    (case g_SP => k_is)
    (case l_SP => k_is)
    (case aC => k_is)
    (case aCS => k_is)
    (case aCF => k_is)
    (case xL => k_is)
    (case sa => k_is)
    (case ga => k_is)
    (case gg => k_is)
    (case nb => k_is)
    (case iI => k_is)
    (case tI => k_is)
    (case lI => k_is)
    (case cI => k_is)
    (case kC => k_is)
    (case eC => k_is)
    (case tC => k_is)
    (case hC => k_is)
    (case iC => k_is)
    (case sC => first | rfl | k_is)
    (case op => k_is)
    (case vE => k_is)
    (case su => ks_is)
    (case mr => k_is)
    (case lc => k_is)
    (case ld => k_is)
    (case lv => rfl)
    (case lf => first | rfl | decide +kernel)
    (case lt => first | rfl | decide +kernel)
    (case lq => exact fun _ => ⟨_, rfl⟩)
    (case hcl => k_is)
    (case hsp => k_is)
    (case htk => k_is)
    (case hmo => k_is)
    (case q1 => kit_is)
    (case q2 => kit_is)
    (case q3 => kit_is)
