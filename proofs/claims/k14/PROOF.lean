import PyProof.Rows.All
import Wide.All
import OpenK.AllK
import Wide.FinOn
import HandS.ForMost
import HandS.Flow
import HandS.More
import HandS.Walk
import HandS.DictComp
import HandS.Base
import HandS.Call
import HandS.Words
import HandS.Evl
import HandS.List
import HandS.Dict
import HandS.Codes
import HandS.ForExc
import HandS.Wide
import HandS.StrMore
import HandS.Steps
import HandS.Ends
import PyProof.ReprRoads
import HandS.Star
import PyProof.ReprLen
import PyProof.P3Eq
import PyProof.EqLayable
import PySem.Challenge.RW_sugartrue_k14_values_in_place_of_variabl
set_option Elab.async false
set_option linter.all false
set_option maxRecDepth 100000
set_option maxHeartbeats 4000000
namespace L2
open PySem PySem.Spec PyProof.Rows
/-! ### del xs[a:] -/
section
variable {prog : Program} {w : World} {A : Around} {E : Value → Shared → Prop} {s : Shared}
theorem bounds_tail {a n : Nat} (ha : a ≤ n) : sliceBounds (some (a : Int)) none none n = ((a : Int), (n : Int), 1) := by
  simp only [sliceBounds, Option.getD_none]
  have h1 : ¬ ((a : Int) < 0) := by omega
  simp only [h1, if_false, show (1 : Int) > 0 by decide, if_true]
  congr 1
  · omega
theorem zip_tail (a n : Nat) : ∀ (xs : List Value) (j : Nat), j + xs.length = n →
    ((xs.zipIdx j).filterMap fun (x, k) => if (decide ((a : Int) ≤ (k : Nat)) && decide (((k : Nat) : Int) < (n : Nat)) && (((k : Nat) : Int) - (a : Int)) % 1 == 0) = true then none else some x) = xs.take (a - j)
  | [], j, _ => by simp
  | x :: xs, j, h => by
    rw [List.length_cons] at h
    have q := zip_tail a n xs (j + 1) (by omega)
    rw [List.zipIdx_cons, List.filterMap_cons]
    by_cases z : a ≤ j
    · have e : (decide ((a : Int) ≤ (j : Nat)) && decide (((j : Nat) : Int) < (n : Nat)) && (((j : Nat) : Int) - (a : Int)) % 1 == 0) = true := by
        rw [decide_eq_true (by omega : (a : Int) ≤ (j : Nat)), decide_eq_true (by omega : ((j : Nat) : Int) < (n : Nat)), Int.emod_one]
        rfl
      simp only [e, if_true]
      rw [q, show a - j = 0 by omega, show a - (j + 1) = 0 by omega]
      simp
    · have e : (decide ((a : Int) ≤ (j : Nat)) && decide (((j : Nat) : Int) < (n : Nat)) && (((j : Nat) : Int) - (a : Int)) % 1 == 0) = false := by
        rw [decide_eq_false (by omega : ¬ (a : Int) ≤ (j : Nat))]
        rfl
      simp only [e, Bool.false_eq_true, if_false]
      rw [q, show a - j = (a - (j + 1)) + 1 by omega, List.take_succ_cons]
theorem delItem_tail {l sl : Addr} {items : Array Value} {n : Nat} {vl : Value} {a : Nat} {Q : Unit → Shared → Prop}
    (e : s.heap.get? l = some { cls := .type "list", data := .seq items n }) (hs : s.heap.IsSliceOf sl vl .none .none) (pl : IsPart vl (some (a : Int))) (ha : a ≤ items.size)
    (hsz : items.size ≤ sizeLine) (h : ∀ g : Array Value → Array Value, g items = (items.toList.take a).toArray → Q () { s with heap := s.heap.update l (Obj.mapSeq g) }) :
    wpAny (model prog w) A (delItem (.ref l) (.ref sl)) Q E s := by
  have hl : s.heap.IsList l items := PySem.IsL.isList e
  obtain ⟨os, hos, hcs, hds⟩ := id hs
  have hTs : s.TypeIs (.ref sl) "slice" := ⟨os, hos, hcs⟩
  have hstep : ¬ ((rawPart none == rawInt 0) = true) := Bool.false_ne_true
  unfold delItem
  refine wpAny_holding ?_
  refine wpAny_bind (wpAny_sequenceKey hl.typeIs (by decide) ?_)
  refine wpAny_bind (wpAny_callSpecial?_slot (name := Str.ofString "__delitem__") hl.typeIs F.slot_list_delitem
    (wpAny_call_entry F.slot_list_delitem hl.typeIs F.entry_list_delitem ?_ (F.args_list_delitem_2 _ _)))
  show wpAny _ _ (Builtin.List.listSubscript? (.ref sl) >>= _) _ _ s
  refine wpAny_bind ?_
  unfold Builtin.List.listSubscript?
  refine wpAny_bind (wpAny_specialOf hTs slice_no_index ?_)
  simp only [Option.isNone_none, if_true]
  refine wpAny_pure ?_
  show wpAny _ _ (typeOf (.ref sl) >>= _) _ _ s
  refine wpAny_bind (wpAny_typeOf hTs ?_)
  first
    | rw [if_neg (by decide)]
    | refine PySem.W.KFB.if_not (by decide) ?_
  rw [listSliceParts_eq]
  refine wpAny_bind (wpAny_bind (wpAny_field hos hds (x := .none) rfl (wpAny_bind (wpAny_listPart .none ?_))))
  rw [if_neg hstep]
  refine wpAny_bind (wpAny_field hos hds (x := vl) rfl (wpAny_bind (wpAny_listPart pl ?_)))
  refine wpAny_bind (wpAny_field hos hds (x := .none) rfl (wpAny_bind (wpAny_listPart .none (wpAny_pure ?_))))
  have hz' : ∀ g : Array Value → Array Value, g items = (items.toList.take a).toArray → (g items).size ≤ sizeLine + 1 := fun g hg => by
    rw [hg, List.size_toArray, List.length_take, Array.length_toList]
    omega
  unfold Builtin.List.listItems
  refine wpAny_bind (wpAny_bind (wpAny_seqItems e rfl (wpAny_pure ?_)))
  refine wpAny_bind (wpAny_of_eq ((sliceIndices_raw (some (a : Int)) none none items.size (by simp)).trans (congrArg (pure : Int × Int × Int → Sem (Int × Int × Int)) (bounds_tail ha))) ?_)
  refine wpAny_bind (wpAny_rule ?_)
  have hg := congrArg List.toArray (zip_tail a items.size items.toList 0 (by simp))
  have hzz := hz' (fun xs => (xs.toList.zipIdx.filterMap fun (x, k) => if (decide ((a : Int) ≤ (k : Nat)) && decide (((k : Nat) : Int) < (items.size : Nat)) && (((k : Nat) : Int) - (a : Int)) % 1 == 0) = true then none else some x).toArray) hg
  refine wpAny_bind (wpAny_updateSeq (hz := hsz) (_hz' := hzz) e rfl ?_)
  refine wpAny_bind (wpAny_letGo ?_)
  exact wpAny_pure ⟨.none, rfl, wpAny_pure (h _ hg)⟩
end
section
variable {X : Cx}
theorem del_tail {pins : List (Addr × Obj)} {s : Shared} {σ : St} {H : Hp} {l sl : Addr} {xs : List V} {a : Nat} {vl : Value} {Q : Unit → Shared → Prop} (I : Inv X pins σ H s)
    (hH : H l = some (.lst xs)) (hs : s.heap.IsSliceOf sl vl .none .none) (ra : IsPart vl (some (a : Int))) (ha : a ≤ xs.length) (h : ∀ s', Inv X pins σ (upd H l (.lst (xs.take a))) s' → Q () s') :
    wpAny (model X.prog X.w) X.A (delItem (.ref l) (.ref sl)) Q X.xe s := by
  obtain ⟨z, its, n, r, hl, e⟩ := I.lstM hH
  refine delItem_tail (a := a) e hs ra (by rw [List.size_toArray]; omega) (by rw [List.size_toArray]; omega) fun g hg => h _ ?_
  refine I.lset (its' := its.take a) (t' := s.toks) hH e ?_ (r.take _) ?_
  · rw [hg]
  · rw [List.length_take]
    omega
def tDelTail (to ti : TE) : TS := fun D σ H => to σ H fun x H1 => ti σ H1 fun y H2 => ∃ (l : Addr) (xs : List V) (a : Nat), x = .ref l ∧ y = .int (a : Nat) ∧ H2 l = some (.lst xs) ∧ a ≤ xs.length ∧ D.nx σ (upd H2 l (.lst (xs.take a)))
/-- del xs[a:] of a list -/
theorem ps_delTail {o i : Expr} {to ti : TE} {tpos p2 pos : Pos} (ho : PE X o to) (hi : PE X i ti) : PS X (.Delete [.Subscript o (.Slice (some i) none none p2) tpos] pos) (tDelTail to ti) := by
  refine ⟨fun pins s σ H D I h => ?_⟩
  refine wpAny_Delete (wpAny_deleteEach_cons (wpAny_delete_Subscript (thn (ho.run pins s σ H _ I h) fun u s1 ⟨x, H1, I1, rx, q1⟩ => ?_)))
  refine wpAny_Slice ?_
  rw [evalPart_some]
  refine thn (hi.run pins s1 σ H1 _ I1 q1) fun iv s2 ⟨y, H2, I2, ry, q2⟩ => ?_
  obtain ⟨l, xs, a, ex, ey, hH, ha, q2⟩ := q2
  subst ex
  subst ey
  cases (show u = Value.ref l from rx)
  obtain ⟨t, rfl⟩ := (show ∃ t, iv = Value.int (a : Nat) t from ry)
  rw [evalPart_none]
  refine wpAny_pure ?_
  refine wpAny_pure ?_
  have I4 : Inv X pins σ H2 { s2 with heap := s2.heap.push { cls := .type "slice", data := .fields #[.int (a : Nat) t, .none, .none] } } := I2.kept (t' := s2.toks) fun b ob q => Heap.get?_push_of_some _ q
  exact del_tail I4 hH (Heap.IsSliceOf.new ..) (.int _ _) ha fun s3 I3 => wpAny_deleteEach_nil ⟨σ, _, I3, q2⟩
end
end L2

namespace L2
open PySem PySem.Spec PyProof.Rows
section
variable {X : Cx}
/-- name = {..} on one line, the name a local -/
theorem ps_setDc {i : Nat} {y : Str} {py : Pos} {kx vx tg iter : Expr} {ifs : List Expr} {scope : Scope} {own : List (Str × Nat)} {pos spos : Pos} {wi : TI} {g : TG} {tt : TT} {tk tv : TE} (hc : X.calm = true) (hN : X.N.Nodup) (hy : X.N[i]? = some y) (hyl : X.env.scope.names.lookup y = some .local)
    (hsw : swapsWith (.DictComp kx vx [⟨tg, iter, ifs, 0⟩] scope pos) (some (.Name y py)) spos.line X.env = pure true) (hi : PI X tg iter wi) (ok : BlkOk X.N X.env.scope scope own)
    (hg : ∀ (s : Shared) (H : Hp) (C : Addr) (cl : List (Str × Addr)) (fp : List Addr), PG (X.blk s H scope (compEnvC scope cl C X.env) fp) tg g) (ht : ∀ (s : Shared) (H : Hp) (C : Addr) (cl : List (Str × Addr)) (fp : List Addr), PTs (X.blk s H scope (compEnvC scope cl C X.env) fp) ifs tt)
    (hk : ∀ (s : Shared) (H : Hp) (C : Addr) (cl : List (Str × Addr)) (fp : List Addr), PE (X.blk s H scope (compEnvC scope cl C X.env) fp) kx tk)
    (he : ∀ (s : Shared) (H : Hp) (C : Addr) (cl : List (Str × Addr)) (fp : List Addr), PE (X.blk s H scope (compEnvC scope cl C X.env) fp) vx tv) (hs : ∀ x, foldedSetIterable iter X.env x = pure x := by intro _; rfl) :
    PS X (.Assign [.Name y py] (.DictComp kx vx [⟨tg, iter, ifs, 0⟩] scope pos) spos) (tAsg (tDc wi g tt tk tv (own.map (·.2))) (gName i)) := by
  refine ⟨fun pins s σ H D I h => ?_⟩
  rw [exec_Assign_Name_used _ _ _ _ hsw]
  refine wpAny_bind (wpAny_standAt (wpAny_bind ?_))
  show wpAny _ X.A (do let _ ← comprehension (.DictComp kx vx [⟨tg, iter, ifs, 0⟩] scope pos) scope X.env (firstIterPos [⟨tg, iter, ifs, 0⟩] pos) newDict false (eval iter X.env) (some (assign (.Name y py) X.env))) _ _ s
  have h : tDc wi g tt tk tv (own.map (·.2)) σ H (fun x H1 => gName i x σ H1 D.nx) := h
  refine wpAny_bind (thn (dc_core (Qf := fun _ s' => SP X pins D .next s') hc hN I hi ok hg ht hk he hs h fun L C s' m H' I' q hn f => ?_) fun _ s' hq => wpAny_pure (wpAny_pure hq))
  show wpAny _ _ (assign (.Name y py) X.env (.ref L)) _ _ _
  refine wpAny_assign_Name (store_ok2 (v := V.ref L) I' hN hy (.inl hyl) rfl (fun s2 I2 ⟨a, sb, ha⟩ => ?_) (.inr hyl))
  obtain ⟨f0, f1, f2, f3, f4, f5⟩ := f
  have haC : C ≠ a := by
    rcases ha with z | z
    · rw [z]; exact f1
    · exact fun e => f4 y a z e.symm
  refine ⟨m, hn.sameBut sb haC, fun h3 sb3 => ?_⟩
  exact ⟨_, H', I2.turned (t' := s2.toks) (fun b o hb e => (sb3.2 b hb).trans e) f0 f1 f3 f4 f5, q⟩
theorem sw_trueD {kx vx : Expr} {gs : List Comprehension} {scope : Scope} {pos py : Pos} {y : Str} {l : Nat} {env : Env} (hk : env.scope.kind = .function) (hy : env.scope.names.lookup y = some .local) (hl : (py.line == pos.line) = true)
    (ha : (scope.names.any fun (n, k) => n == y && (k == .local || k == .cell)) = false) : swapsWith (.DictComp kx vx gs scope pos) (some (.Name y py)) l env = pure true := by
  have ky : env.kindOf y = some .local := hy
  have hb : env.blockKind = .function := by unfold Env.blockKind; rw [hk]; rfl
  unfold swapsWith
  simp only [hb, ky, ha, Expr.pos, hl]
  rfl
end
/-- a dict comprehension over anything that walks -/
theorem dc_it {J : It} {n : Nat} {G : Hp → Prop} {Y : Nat → Hp → V → Hp → Prop} (w : Walk J n G Y) {g : TG} {tt : TT} {tk tv : TE} {vs : List Nat} {σ : St} {H1 : Hp} {D : Addr} {Qd : Hp → Prop} (Pv : Nat → Hp → Prop) (h0 : Pv 0 (upd H1 D (.dK []))) (hG : ∀ i H, i ≤ n → Pv i H → G H)
    (hs : ∀ i x H H', i < n → Pv i H → Y i H x H' → g x (wipe σ vs) H' fun σ2 H2 => wipe σ2 vs = wipe σ vs ∧ tt σ2 H2 fun b H3 =>
      if b = true then tk σ2 H3 fun y H4 => tv σ2 H4 fun z H5 => ∃ kvs k, y = kV k ∧ H5 D = some (.dK kvs) ∧ kvs.length < sizeLine ∧ Pv (i + 1) (upd H5 D (.dK (putK kvs k z))) else Pv (i + 1) H3) (hd : ∀ H, Pv n H → Qd H) :
    ∃ W : Nat → Nat → Hp → Prop, (∃ m, W 0 m (upd H1 D (.dK []))) ∧ ∀ i m H, W i m H →
      (J.stop i H ∧ Qd H) ∨ (J.go i H ∧ ∃ Nx : Hp → Prop, (∀ H', Nx H' → ∃ m', m' < m ∧ W (i + 1) m' H') ∧ ∀ x H', J.yld i H x H' → g x (wipe σ vs) H' fun σ2 H2 => wipe σ2 vs = wipe σ vs ∧ tt σ2 H2 fun b H3 =>
        if b = true then tk σ2 H3 fun y H4 => tv σ2 H4 fun z H5 => ∃ kvs k, y = kV k ∧ H5 D = some (.dK kvs) ∧ kvs.length < sizeLine ∧ Nx (upd H5 D (.dK (putK kvs k z))) else Nx H3) := by
  refine ⟨fun i m H => m = n - i ∧ i ≤ n ∧ Pv i H, ⟨n, by simp, Nat.zero_le _, h0⟩, ?_⟩
  rintro i m H ⟨rfl, hi, p⟩
  have q := hG i H hi p
  by_cases hlt : i < n
  · exact .inr ⟨w.goes i H hlt q, Pv (i + 1), fun H' p' => ⟨n - (i + 1), by omega, rfl, hlt, p'⟩, fun x H' y => hs i x H H' hlt p (w.yields i H x H' hlt q y)⟩
  · have e : i = n := by omega
    subst e
    exact .inl ⟨w.stops H q, hd H p⟩
end L2

/-! a block in two, with a word between them -/
namespace Sg
open PySem PySem.Spec PyProof.Rows L2 Evl
theorem wp_execs_append {M : Model} {Γ : PySem.Ctx} {env : Env} (rest : List Stmt) : ∀ (ss : List Stmt) (p : Pos) (s : Shared) (Q : Flow → Pos → Shared → Prop) (E : Value → Pos → Shared → Prop),
    Sem.wp M Γ (execs ss env) (fun f p' s' => match f with | .next => Sem.wp M Γ (execs rest env) Q E p' s' | f => Q f p' s') E p s → Sem.wp M Γ (execs (ss ++ rest) env) Q E p s
  | [], p, s, Q, E, h => by
    rw [execs_nil, Sem.wp_pure'] at h
    exact h
  | st :: ss, p, s, Q, E, h => by
    rw [execs_cons, Sem.wp_bind'] at h
    rw [List.cons_append, execs_cons, Sem.wp_bind']
    refine Sem.wp_mono M Γ _ (fun f p' s' h' => ?_) (fun _ _ _ h' => h') _ _ h
    cases f with
    | next => exact wp_execs_append rest ss p' s' Q E h'
    | ret v =>
      rw [Sem.wp_pure'] at h' ⊢
      exact h'
    | brk =>
      rw [Sem.wp_pure'] at h' ⊢
      exact h'
    | cont =>
      rw [Sem.wp_pure'] at h' ⊢
      exact h'
/-- the first n statements, then the rest, with a word between them -/
theorem pss_split {X : Cx} (n : Nat) {ss : List Stmt} {t u : TS} (h1 : PSs X (ss.take n) t) (h2 : PSs X (ss.drop n) u) : PSs X ss (tCut t u) := by
  refine ⟨fun pins s σ H D I h => ?_⟩
  obtain ⟨Mid, hm, hu⟩ := h
  have e : ss = ss.take n ++ ss.drop n := (List.take_append_drop n ss).symm
  rw [e]
  intro Γ p hΓ
  refine wp_execs_append _ _ _ _ _ _ ?_
  refine Sem.wp_mono _ _ _ (fun f p' s' h' => ?_) (fun _ _ _ h' => h') _ _ (h1.run pins s σ H { D with nx := Mid } I hm Γ p hΓ)
  cases f with
  | next =>
    obtain ⟨σ', H', I', q⟩ := h'
    exact h2.run pins s' σ' H' D I' (hu σ' H' q) Γ p' hΓ
  | ret v => exact h'
  | brk => exact h'
  | cont => exact h'
end Sg

/-! what an expression gives, said of its value and of every later heap: nothing that stands is changed -/
namespace Sg
open PySem PySem.Spec PyProof.Rows L2 Evl
/-! ### a part of the heap with what is new -/
/-- F, and what is new since H -/
def ov (F H H' : Hp) : Hp := fun a => if H a = none then H' a else F a
/-- all but p -/
def wo (p : Addr) (H : Hp) : Hp := fun a => if a = p then none else H a
theorem wo_in {p a : Addr} {H : Hp} {o : HO} (n : a ≠ p) (h : H a = some o) : wo p H a = some o := by
  unfold wo
  rw [if_neg n]
  exact h
theorem wo_of {p a : Addr} {H : Hp} {o : HO} (h : wo p H a = some o) : a ≠ p ∧ H a = some o := by
  unfold wo at h
  by_cases z : a = p
  · rw [if_pos z] at h
    cases h
  · rw [if_neg z] at h
    exact ⟨z, h⟩
theorem wo_sub {p : Addr} {H : Hp} : Same (wo p H) H := fun _ _ h => (wo_of h).2
theorem wo_same {p : Addr} {H H' : Hp} (e : Same H H') : Same (wo p H) (wo p H') := fun b o h => wo_in (wo_of h).1 (e b o (wo_of h).2)
theorem wo_none {p : Addr} {F H : Hp} (n : F p = none) (e : Same F H) : Same F (wo p H) := fun b o h => wo_in (fun z => by rw [z, n] at h; cases h) (e b o h)
theorem ov_new {F H H' : Hp} {a : Addr} {o : HO} (n : H a = none) (h : H' a = some o) : ov F H H' a = some o := by
  unfold ov
  rw [if_pos n]
  exact h
theorem ov_of {F H H' : Hp} {a : Addr} {o : HO} (h : ov F H H' a = some o) : (H a = none ∧ H' a = some o) ∨ (H a ≠ none ∧ F a = some o) := by
  unfold ov at h
  by_cases z : H a = none
  · rw [if_pos z] at h
    exact .inl ⟨z, h⟩
  · rw [if_neg z] at h
    exact .inr ⟨z, h⟩
theorem ov_base {F H H' : Hp} (s : Same F H) : Same F (ov F H H') := fun b o q => by
  unfold ov
  rw [if_neg (by rw [s b o q]; simp)]
  exact q
theorem ov_up {F H H' H'' : Hp} (e : Same H' H'') : Same (ov F H H') (ov F H H'') := fun b o q => by
  rcases ov_of q with z | z
  · exact ov_new z.1 (e b o z.2)
  · unfold ov
    rw [if_neg z.1]
    exact z.2
theorem ov_in {F H H' : Hp} (s : Same F H) (e : Same H H') : Same (ov F H H') H' := fun b o q => by
  rcases ov_of q with z | z
  · exact z.2
  · exact e b o (s b o z.2)
theorem ov_tr {F H H1 H2 : Hp} (s : Same F H) (e : Same H H1) : Same (ov F H1 H2) (ov F H H2) := fun b o q => by
  rcases ov_of q with z | z
  · exact ov_new (e.free z.1) z.2
  · exact ov_base s b o z.2
theorem ov_ov {F H H1 H2 : Hp} (s : Same F H) (e : Same H H1) (e2 : Same H1 H2) : Same (ov (ov F H H1) H1 H2) (ov F H H2) := fun b o q => by
  rcases ov_of q with z | z
  · exact ov_new (e.free z.1) z.2
  · exact ov_up e2 b o z.2
theorem ov_self {F H : Hp} (s : Same F H) : Same (ov F H H) F := fun b o q => by
  rcases ov_of q with z | z
  · rw [z.1] at z
    cases z.2
  · exact z.2
theorem wo_ov {p : Addr} {F H H' : Hp} (n : H p = none) (s : Same F H) : Same F (wo p (ov F H H')) := fun b o q => wo_in (fun z => by
  have := s b o q
  rw [z, n] at this
  cases this) (ov_base s b o q)
/-! ### what an expression gives -/
/-- from here on -/
def Bx (R : V → Hp → Prop) (v : V) (H : Hp) : Prop := ∀ H', Same H H' → R v H'
def BxL (R : List V → Hp → Prop) (v : List V) (H : Hp) : Prop := ∀ H', Same H H' → R v H'
theorem Bx.up {R : V → Hp → Prop} {v : V} {H H' : Hp} (b : Bx R v H) (e : Same H H') : Bx R v H' := fun H2 e2 => b H2 (e.trans e2)
theorem Bx.now {R : V → Hp → Prop} {v : V} {H : Hp} (b : Bx R v H) : R v H := b H (Same.refl H)
theorem BxL.up {R : List V → Hp → Prop} {v : List V} {H H' : Hp} (b : BxL R v H) (e : Same H H') : BxL R v H' := fun H2 e2 => b H2 (e.trans e2)
theorem BxL.now {R : List V → Hp → Prop} {v : List V} {H : Hp} (b : BxL R v H) : R v H := b H (Same.refl H)
/-- over F and what is new -/
def Fw (te : TE) (σ : L2.St) (F : Hp) (R : V → Hp → Prop) : Prop := ∀ H, Same F H → ∀ Q : VK, (∀ v H', Same H H' → Bx R v (ov F H H') → Q v H') → te σ H Q
/-- a new list; its items over F and what else is new -/
def FwL (te : TE) (σ : L2.St) (F : Hp) (R : List V → Hp → Prop) : Prop := ∀ H, Same F H → ∀ Q : VK, (∀ p xs H', H p = none → Same H H' → H' p = some (.lst xs) → BxL R xs (wo p (ov F H H')) → Q (.ref p) H') → te σ H Q
def FwA (ta : TA) (σ : L2.St) (F : Hp) (R : List V → Hp → Prop) : Prop := ∀ H, Same F H → ∀ Q : List V → Hp → Prop, (∀ vs H', Same H H' → BxL R vs (ov F H H') → Q vs H') → ta σ H Q
section
variable {K : PySem.W.Frag} {σ : L2.St} {F F' H H' : Hp} {ta tb te tx : TE} {x y z v : V} {r : R2} {R S : V → Hp → Prop} {RL : List V → Hp → Prop}
theorem Fw.imp (h : Fw te σ F R) (i : ∀ v H, Bx R v H → S v H) : Fw te σ F S := fun H e Q q => h H e Q fun v H2 e2 b => q v H2 e2 fun H3 e3 => i v H3 (b.up e3)
theorem FwL.imp {SL : List V → Hp → Prop} (h : FwL te σ F RL) (i : ∀ v H, BxL RL v H → SL v H) : FwL te σ F SL := fun H e Q q => h H e Q fun p v H2 n e2 h2 b => q p v H2 n e2 h2 fun H3 e3 => i v H3 (b.up e3)
theorem fw_ev (h : Ev te σ F v) (b : Bx R v F) : Fw te σ F R := fun H e Q q => h H e Q fun H2 e2 => q v H2 e2 (b.up (ov_base e))
theorem fw_val (h : Ev te σ F v) : Fw te σ F fun u _ => u = v := fw_ev h fun _ _ => rfl
theorem fw_var {i : Nat} (h : σ[i]? = some (some v)) (b : Bx R v F) : Fw (tVar i) σ F R := fw_ev (ev_var h) b
theorem fw_list (h : FwL te σ F RL) : Fw te σ F fun v H => ∃ p xs, v = .ref p ∧ H p = some (.lst xs) ∧ RL xs H := fun H e Q q => h H e Q fun p xs H2 n e2 hp b => q _ H2 e2 fun H3 e3 => ⟨p, xs, rfl, e3 p _ (ov_new n hp), b H3 (wo_sub.trans e3)⟩
theorem fwa_nil : FwA tNil σ F fun vs _ => vs = [] := fun H e _ q => q [] H (Same.refl H) fun _ _ => rfl
theorem fwa_cons {tr : TA} (h : Fw ta σ F R) (hr : FwA tr σ F RL) : FwA (tCons ta tr) σ F fun vs H => ∃ v r, vs = v :: r ∧ R v H ∧ RL r H := fun H e _ q =>
  h H e _ fun v H2 e2 b => hr H2 (e.trans e2) _ fun vs H3 e3 c => q _ H3 (e2.trans e3) fun H4 e4 => ⟨v, vs, rfl, b H4 ((ov_up e3).trans e4), c H4 ((ov_tr e e2).trans e4)⟩
theorem fwa_imp {ta : TA} {R S : List V → Hp → Prop} (h : FwA ta σ F R) (i : ∀ v H, BxL R v H → S v H) : FwA ta σ F S := fun H e Q q => h H e Q fun v H2 e2 b => q v H2 e2 fun H3 e3 => i v H3 (b.up e3)
theorem fwa_ev {ta : TA} {vs : List V} (h : EvA ta σ F vs) : FwA ta σ F fun us _ => us = vs := fun H e Q q => h H e Q fun H2 e2 => q vs H2 e2 fun _ _ => rfl
theorem fw_tup {ta : TA} (h : FwA ta σ F RL) (hl : ∀ vs H, RL vs H → vs.length ≤ 100000) : Fw (tTup ta) σ F fun v H => ∃ a vs, v = .ref a ∧ H a = some (.tup vs) ∧ RL vs H := fun H e _ q =>
  h H e _ fun vs H2 e2 b => ⟨sz_of (hl vs _ b.now), fun p hp => q (.ref p) _ (e2.trans (Ex.new hp)) fun H3 e3 => ⟨p, vs, rfl, e3 p _ (ov_new (fresh_back e2 hp) upd_same), b H3 ((ov_up (Ex.new hp)).trans e3)⟩⟩
theorem fwl_lst {ta : TA} (h : FwA ta σ F RL) (hl : ∀ vs H, RL vs H → vs.length ≤ 100000) : FwL (tLst ta) σ F RL := fun H e _ q =>
  h H e _ fun vs H2 e2 b => ⟨sz_of (hl vs _ b.now), fun p hp => q p vs _ (fresh_back e2 hp) (e2.trans (Ex.new hp)) upd_same (b.up fun c o z => wo_in (fun y => by
    rw [y] at z
    rcases ov_of z with w | w
    · rw [hp] at w
      cases w.2
    · exact w.1 (fresh_back e2 hp)) (ov_up (Ex.new hp) c o z))⟩
/-- a call of a def that changes nothing -/
theorem fw_call {sp : Sp} {dvs : List V} {E : XK} {ta : TA} (h : FwA ta σ F RL) (hs : ∀ vs H G, Same F G → Same G H → BxL RL vs G → ∀ Q : VK, (∀ v H', Same H H' → Bx R v (ov G H H') → Q v H') → sp (vs ++ dvs) H Q E) : Fw (tCall sp dvs E ta) σ F R := fun H e Q q =>
  h H e _ fun vs H2 e2 b => hs vs H2 (ov F H H2) (ov_base e) (ov_in e e2) b Q fun v H3 e3 c => q v H3 (e2.trans e3) (c.up (ov_ov e e2 e3))
theorem fwl_call {sp : Sp} {dvs : List V} {E : XK} {ta : TA} {SL : List V → Hp → Prop} (h : FwA ta σ F RL) (hs : ∀ vs H G, Same F G → Same G H → BxL RL vs G → ∀ Q : VK, (∀ p xs H', H p = none → Same H H' → H' p = some (.lst xs) → BxL SL xs (wo p (ov G H H')) → Q (.ref p) H') → sp (vs ++ dvs) H Q E) : FwL (tCall sp dvs E ta) σ F SL := fun H e Q q =>
  h H e _ fun vs H2 e2 b => hs vs H2 (ov F H H2) (ov_base e) (ov_in e e2) b Q fun p xs H3 hp e3 h3 c => q p xs H3 (fresh_back e2 hp) (e2.trans e3) h3 (c.up (wo_same (ov_ov e e2 e3)))
theorem fw_cb {r : List V → Hp → VK → Prop} {ta : TA} (h : FwA ta σ F RL) (hs : ∀ vs H G, Same F G → Same G H → BxL RL vs G → ∀ Q : VK, (∀ v H', Same H H' → Bx R v (ov G H H') → Q v H') → r vs H Q) : Fw (tCB r ta) σ F R := fun H e Q q =>
  h H e _ fun vs H2 e2 b => hs vs H2 (ov F H H2) (ov_base e) (ov_in e e2) b Q fun v H3 e3 c => q v H3 (e2.trans e3) (c.up (ov_ov e e2 e3))
theorem fwl_cb {r : List V → Hp → VK → Prop} {ta : TA} {SL : List V → Hp → Prop} (h : FwA ta σ F RL) (hs : ∀ vs H G, Same F G → Same G H → BxL RL vs G → ∀ Q : VK, (∀ p xs H', H p = none → Same H H' → H' p = some (.lst xs) → BxL SL xs (wo p (ov G H H')) → Q (.ref p) H') → r vs H Q) : FwL (tCB r ta) σ F SL := fun H e Q q =>
  h H e _ fun vs H2 e2 b => hs vs H2 (ov F H H2) (ov_base e) (ov_in e e2) b Q fun p xs H3 hp e3 h3 c => q p xs H3 (fresh_back e2 hp) (e2.trans e3) h3 (c.up (wo_same (ov_ov e e2 e3)))
theorem fw_op (ha : Fw ta σ F R) (hb : Fw tb σ F S) {T : V → Hp → Prop} (hr : ∀ x y H G, Same F G → Same G H → Bx R x G → Bx S y G → ∀ Q : VK, (∀ v H', Same H H' → Bx T v (ov G H H') → Q v H') → r x y H Q) : Fw (tOp r ta tb) σ F T := fun H e Q q =>
  ha H e _ fun x H2 e2 b => hb H2 (e.trans e2) _ fun y H3 e3 c => hr x y H3 (ov F H H3) (ov_base e) (ov_in e (e2.trans e3)) (b.up (ov_up e3)) (c.up (ov_tr e e2)) Q fun v H4 e4 d => q v H4 ((e2.trans e3).trans e4) (d.up (ov_ov e (e2.trans e3) e4))
theorem fwl_op (ha : Fw ta σ F R) (hb : Fw tb σ F S) {T : List V → Hp → Prop} (hr : ∀ x y H G, Same F G → Same G H → Bx R x G → Bx S y G → ∀ Q : VK, (∀ p xs H', H p = none → Same H H' → H' p = some (.lst xs) → BxL T xs (wo p (ov G H H')) → Q (.ref p) H') → r x y H Q) : FwL (tOp r ta tb) σ F T := fun H e Q q =>
  ha H e _ fun x H2 e2 b => hb H2 (e.trans e2) _ fun y H3 e3 c => hr x y H3 (ov F H H3) (ov_base e) (ov_in e (e2.trans e3)) (b.up (ov_up e3)) (c.up (ov_tr e e2)) Q fun p xs H4 n e4 h4 d => q p xs H4 (fresh_back (e2.trans e3) n) ((e2.trans e3).trans e4) h4 (d.up (wo_same (ov_ov e (e2.trans e3) e4)))
theorem fw_if {t : TT} {b : Bool} (h : EvT t σ F b) (h1 : b = true → Fw ta σ F R) (h2 : b = false → Fw tb σ F R) : Fw (tIf t ta tb) σ F R := fun H e Q q => h H e _ fun H2 e2 => by
  cases b with
  | true =>
    show ta σ H2 Q
    exact h1 rfl H2 (e.trans e2) Q fun v H3 e3 c => q v H3 (e2.trans e3) (c.up (ov_tr e e2))
  | false =>
    show tb σ H2 Q
    exact h2 rfl H2 (e.trans e2) Q fun v H3 e3 c => q v H3 (e2.trans e3) (c.up (ov_tr e e2))
/-! ### statements: G, the part that is known then -/
variable {D : Ends} {tz : TS}
theorem r_fw (h : Fw te σ F R) (e : Same F H) (k : ∀ v H', Same H H' → Bx R v (ov F H H') → D.rt v H') : tRet te D σ H := h H e _ k
theorem r_fwL (h : FwL te σ F RL) (e : Same F H) (k : ∀ p xs H', H p = none → Same H H' → H' p = some (.lst xs) → BxL RL xs (wo p (ov F H H')) → D.rt (.ref p) H') : tRet te D σ H := h H e _ k
theorem w_asg {i : Nat} (h : Fw te σ F R) (e : Same F H) (k : ∀ v H', Same H H' → Bx R v (ov F H H') → D.nx (σ.set i (some v)) H') : tAsg te (gName i) D σ H := h H e _ k
theorem w_asgL {i : Nat} (h : FwL te σ F RL) (e : Same F H) (k : ∀ p xs H', H p = none → Same H H' → H' p = some (.lst xs) → BxL RL xs (wo p (ov F H H')) → D.nx (σ.set i (some (.ref p))) H') : tAsg te (gName i) D σ H := h H e _ k
theorem qw_asg {i : Nat} (h : Fw te σ F R) (e : Same F H) (k : ∀ v H', Same H H' → Bx R v (ov F H H') → tz D (σ.set i (some v)) H') : tSeq (tAsg te (gName i)) tz D σ H := h H e _ k
theorem qw_asgL {i : Nat} (h : FwL te σ F RL) (e : Same F H) (k : ∀ p xs H', H p = none → Same H H' → H' p = some (.lst xs) → BxL RL xs (wo p (ov F H H')) → tz D (σ.set i (some (.ref p))) H') : tSeq (tAsg te (gName i)) tz D σ H := h H e _ k
/-! ### comprehensions: an item of the new list for each of the old -/
/-- item by item -/
def Each (n : Nat) (R : Nat → V → Hp → Prop) (ys : List V) (H : Hp) : Prop := ys.length = n ∧ ∀ i y, ys[i]? = some y → R i y H
def Lw (F H : Hp) (R : Nat → V → Hp → Prop) (Dl : Addr) (i : Nat) (H' : Hp) : Prop := Same H H' ∧ ∃ ys, H' Dl = some (.lst ys) ∧ ys.length = i ∧ ∀ j y, ys[j]? = some y → Bx (R j) y (wo Dl (ov F H H'))
theorem lw_turn {F H H' : Hp} {R : Nat → V → Hp → Prop} {Dl : Addr} {i : Nat} {σ2 : L2.St} (s : Same F H) (n : H Dl = none) (p : Lw F H R Dl i H') (hi : i < 50000) (he : Fw te σ2 F (R i)) :
    te σ2 H' fun y H4 => ∃ acc, H4 Dl = some (.lst acc) ∧ acc.length < sizeLine ∧ Lw F H R Dl (i + 1) (upd H4 Dl (.lst (acc ++ [y]))) := by
  obtain ⟨e, ys, hD, hl, hb⟩ := p
  refine he H' (s.trans e) _ fun y H4 e4 b => ⟨ys, e4 _ _ hD, sz_lt (by omega), Ex.mut (e.trans e4) n, ys ++ [y], upd_same, by rw [List.length_append, hl]; rfl, fun j z hz => ?_⟩
  have up : Same (wo Dl (ov F H H')) (wo Dl (ov F H (upd H4 Dl (.lst (ys ++ [y]))))) := fun c o q => by
    have w := wo_of q
    refine wo_in w.1 ?_
    rcases ov_of w.2 with u | u
    · exact ov_new u.1 (by rw [upd_ne w.1]; exact e4 _ _ u.2)
    · exact ov_base s c o u.2
  by_cases hj : j < i
  · rw [List.getElem?_append_left (by omega)] at hz
    exact (hb j z hz).up up
  · have hj2 : j = i := by
      have := (List.getElem?_eq_some_iff.mp hz).1
      rw [List.length_append, hl] at this
      simp only [List.length_singleton] at this
      omega
    subst hj2
    rw [← hl, List.getElem?_append_right (Nat.le_refl _), Nat.sub_self] at hz
    cases hz
    refine b.up fun c o q => ?_
    have cD : c ≠ Dl := fun z => by
      rw [z] at q
      rcases ov_of q with u | u
      · rw [hD] at u
        cases u.1
      · have := s _ _ u.2
        rw [n] at this
        cases this
    refine wo_in cD ?_
    rcases ov_of q with u | u
    · exact ov_new (e.free u.1) (by rw [upd_ne cD]; exact u.2)
    · exact ov_base s c o u.2
theorem lw_end {F H H' : Hp} {R : Nat → V → Hp → Prop} {Dl : Addr} {i : Nat} (p : Lw F H R Dl i H') : ∃ ys, H' Dl = some (.lst ys) ∧ BxL (Each i R) ys (wo Dl (ov F H H')) := by
  obtain ⟨e, ys, hD, hl, hb⟩ := p
  exact ⟨ys, hD, fun H2 e2 => ⟨hl, fun j y hy => (hb j y hy) H2 e2⟩⟩
theorem lw_start {F H : Hp} {R : Nat → V → Hp → Prop} {Dl : Addr} (n : H Dl = none) : Lw F H R Dl 0 (upd H Dl (.lst [])) := ⟨Ex.new n, [], upd_same, rfl, fun j y h => by simp at h⟩
/-- over a list -/
theorem fwl_lcL {a : Addr} {xs : List V} {tl : TE} {j : Nat} {vs : List Nat} (R : Nat → V → Hp → Prop) (h : Ev tl σ F (.ref a)) (hx : SqL K F a xs) (hz : xs.length ≤ 40000) (hw : ∀ x, wipe ((wipe σ vs).set j (some x)) vs = wipe σ vs)
    (he : ∀ (i : Nat) (x : V), xs[i]? = some x → Fw te ((wipe σ vs).set j (some x)) F (R i)) : FwL (tLc (iList K tl) (gName j) tYes te vs) σ F (Each xs.length R) := fun H e Q q =>
  h H e _ fun H1 e1 => ⟨a, rfl, ⟨xs, ex_l (e.trans e1) hx⟩, fun Dl hD => lc_list (xs := xs) (Lw F H1 R Dl) (lw_start hD) (fun i H' _ p => ex_l ((e.trans e1).trans p.1) hx)
    (fun i x H' hi p => ⟨hw x, by
      have := lw_turn (e.trans e1) hD p (by have := (List.getElem?_eq_some_iff.mp hi).1; omega) (he i x hi)
      exact this⟩)
    (fun H' p => by
      obtain ⟨ys, hy, b⟩ := lw_end p
      exact q Dl ys H' (fresh_back e1 hD) (e1.trans p.1) hy (b.up (wo_same (ov_tr e e1))))⟩
theorem fwl_lcT {a : Addr} {xs : List V} {tl : TE} {j : Nat} {vs : List Nat} (R : Nat → V → Hp → Prop) (h : Ev tl σ F (.ref a)) (hx : SqT K F a xs) (hz : xs.length ≤ 40000) (hw : ∀ x, wipe ((wipe σ vs).set j (some x)) vs = wipe σ vs)
    (he : ∀ (i : Nat) (x : V), xs[i]? = some x → Fw te ((wipe σ vs).set j (some x)) F (R i)) : FwL (tLc (iTup K tl) (gName j) tYes te vs) σ F (Each xs.length R) := fun H e Q q =>
  h H e _ fun H1 e1 => ⟨a, rfl, ⟨xs, ex_t (e.trans e1) hx⟩, fun Dl hD => lc_tup (xs := xs) (Lw F H1 R Dl) (lw_start hD) (fun i H' _ p => ex_t ((e.trans e1).trans p.1) hx)
    (fun i x H' hi p => ⟨hw x, by
      have := lw_turn (e.trans e1) hD p (by have := (List.getElem?_eq_some_iff.mp hi).1; omega) (he i x hi)
      exact this⟩)
    (fun H' p => by
      obtain ⟨ys, hy, b⟩ := lw_end p
      exact q Dl ys H' (fresh_back e1 hD) (e1.trans p.1) hy (b.up (wo_same (ov_tr e e1))))⟩
end
end Sg

/-! new tuples; a comprehension over one -/
namespace Sg
open PySem PySem.Spec PyProof.Rows L2 Evl
section
variable {K : PySem.W.Frag} {σ : L2.St} {F H : Hp} {ta tb te : TE}
theorem eu_slT {tl th : TO} {a : Addr} {xs : List V} {lo hi : Option Int} (h : Ev te σ H (.ref a)) (h1 : EvO tl σ H lo) (h2 : EvO th σ H hi) (hs : SqT K H a xs) (hn : ¬ (HT.sIx xs.length 0 lo = 0 ∧ HT.sIx xs.length xs.length hi = xs.length)) : EvU (tSl (rSlT K) te tl th) σ H (cutV xs lo hi) := fun H1 e _ q =>
  h H1 e _ fun H2 e2 => h1 H2 (e.trans e2) _ fun H3 e3 => h2 H3 ((e.trans e2).trans e3) _ fun H4 e4 =>
    ⟨a, xs, rfl, ex_t (((e.trans e2).trans e3).trans e4) hs, hn, fun p hp => q p _ (fresh_back ((e2.trans e3).trans e4) hp) (((e2.trans e3).trans e4).trans (Ex.new hp)) upd_same⟩
def rTupS (K : PySem.W.Frag) : List V → Hp → VK → Prop := fun xs H Q => ∃ p ys, xs = [.ref p] ∧ ((SqL K H p ys ∧ ∀ l, H l = none → Q (.ref l) (upd H l (.tup ys))) ∨ (SqT K H p ys ∧ Q (.ref p) H))
theorem eu_tupleL {p : Addr} {xs : List V} (ha : Ev ta σ H (.ref p)) (h : SqL K H p xs) : EvU (tCB (rTupS K) (tCons ta tNil)) σ H xs := fun H1 e Q q =>
  ha H1 e _ fun H2 e2 => ⟨p, xs, rfl, .inl ⟨ex_l (e.trans e2) h, fun l hl => q l _ (fresh_back e2 hl) (e2.trans (Ex.new hl)) upd_same⟩⟩
theorem eu_cat {xs ys : List V} (ha : EvU ta σ H xs) (hb : EvU tb σ H ys) (hx : xs ≠ []) (hy : ys ≠ []) (hl : xs.length + ys.length ≤ 100000) : EvU (tOp (rCatT K) ta tb) σ H (xs ++ ys) := fun H1 e Q q =>
  ha H1 e _ fun p H2 np e2 h2 => hb H2 (e.trans e2) _ fun r H3 nr e3 h3 => ⟨p, r, xs, ys, rfl, rfl, st_of (e3 p _ h2), st_of h3, hx, sz_of hl, fun z => absurd z hy, fun _ t ht => q t _ (fresh_back (e2.trans e3) ht) ((e2.trans e3).trans (Ex.new ht)) upd_same⟩
/-- over a new tuple -/
theorem fwl_lcNT {xs : List V} {tl : TE} {j : Nat} {vs : List Nat} (R : Nat → V → Hp → Prop) (h : EvU tl σ F xs) (hz : xs.length ≤ 40000) (hw : ∀ x, wipe ((wipe σ vs).set j (some x)) vs = wipe σ vs)
    (he : ∀ (i : Nat) (x : V), xs[i]? = some x → Fw te ((wipe σ vs).set j (some x)) F (R i)) : FwL (tLc (iTup K tl) (gName j) tYes te vs) σ F (Each xs.length R) := fun H e Q q =>
  h H e _ fun a H1 ha e1 hx => ⟨a, rfl, ⟨xs, st_of hx⟩, fun Dl hD => lc_tup (xs := xs) (Lw F H1 R Dl) (lw_start hD) (fun i H' _ p => st_of (p.1 a _ hx))
    (fun i x H' hi p => ⟨hw x, by
      have := lw_turn (e.trans e1) hD p (by have := (List.getElem?_eq_some_iff.mp hi).1; omega) (he i x hi)
      exact this⟩)
    (fun H' p => by
      obtain ⟨ys, hy, b⟩ := lw_end p
      exact q Dl ys H' (fresh_back e1 hD) (e1.trans p.1) hy (b.up (wo_same (ov_tr e e1))))⟩
/-- over a new list -/
theorem fwl_lcNL {xs : List V} {tl : TE} {j : Nat} {vs : List Nat} (R : Nat → V → Hp → Prop) (h : EvL tl σ F xs) (hz : xs.length ≤ 40000) (hw : ∀ x, wipe ((wipe σ vs).set j (some x)) vs = wipe σ vs)
    (he : ∀ (i : Nat) (x : V), xs[i]? = some x → Fw te ((wipe σ vs).set j (some x)) F (R i)) : FwL (tLc (iList K tl) (gName j) tYes te vs) σ F (Each xs.length R) := fun H e Q q =>
  h H e _ fun a H1 ha e1 hx => ⟨a, rfl, ⟨xs, sq_of hx⟩, fun Dl hD => lc_list (xs := xs) (Lw F H1 R Dl) (lw_start hD) (fun i H' _ p => sq_of (p.1 a _ hx))
    (fun i x H' hi p => ⟨hw x, by
      have := lw_turn (e.trans e1) hD p (by have := (List.getElem?_eq_some_iff.mp hi).1; omega) (he i x hi)
      exact this⟩)
    (fun H' p => by
      obtain ⟨ys, hy, b⟩ := lw_end p
      exact q Dl ys H' (fresh_back e1 hD) (e1.trans p.1) hy (b.up (wo_same (ov_tr e e1))))⟩
end
end Sg

/-! a law that asks for repr of nested data: its frame is the outermost, so nothing else is being shown -/
namespace L2
open PySem PySem.Spec PyProof.Rows
/-- the promise of a def where nothing is being shown around it -/
def FnG (P : Program) (w : World) (K : PySem.W.Frag) (mg : Str → Option Value) (base : Heap) (CX : CXT) (k : Nat) (f : Addr) (fd : FuncData) (ps : List Str) (sp : Sp) : Prop :=
  ∀ (A : Around) (outer : List Env) (s : Shared) (H : Hp) (xa : Args) (us : List Value) (vs : List V) (Q : VK) (E : XK), A.guards = some [] → Room k A → Env0 P w K mg base A outer s H → BindsTo s fd xa (ps.zip us) → Vals vs us → sp vs H Q E →
    codeAny (model P w) A (.call (.ref f) xa) (CR CX outer P w H s Q E) s
theorem fnG_of {P : Program} {w : World} {K : PySem.W.Frag} {mg : Str → Option Value} {base : Heap} {x qual : Str} {st : Stmt} {f : Addr} {fd : FuncData} {N ps : List Str} {k : Nat} {sp : Sp} (F : Fun K x qual st f fd) (S : FnScope N ps (defScope st)) (hlen : ∀ vs H Q E, sp vs H Q E → vs.length = ps.length)
    (hb : ∀ (cdv : Value) (A : Around) (outer : List Env) (s : Shared) (H : Hp) (vs : List V) (Q : VK) (E : XK), A.guards = some [] → Room k (A.deeper (envOfC qual (defScope st) s.heap.objs.size f cdv)) → sp vs H Q E →
      ∃ t, PSs (cxOf CX0 P w K mg base N qual (defScope st) f cdv A outer s H E).nox (defBody st) t ∧ t { nx := fun _ H' => Q .non H', rt := Q } (start N vs) H) : FnG P w K mg base CX0 (k + 1) f fd ps sp := by
  obtain ⟨oc, od, kV, doc, pm, an, cdv, ct, osl, rfl, lk, codeK⟩ := F.ex
  intro A outer s H xa us vs Q E gA rA eA bA vA spA
  have nl := hlen _ _ _ _ spA
  have Kn : K.In s.heap := eA.mod.kin.keeps fun b o q => (eA.bs b o q).1
  have lim : s.heap.NoLimit := eA.mod.nolimit.keeps fun b o q => (eA.bs b o q).1
  have kinds : ∀ y ∈ ps.zip us, (defScope st).names.lookup y.1 = some .local ∨ ((defScope st).names.lookup y.1 = some .cell ∧ ((cellsFrom (s.heap.objs.size + 1) (defScope st).names []).lookup y.1).isSome = true) := by
    rintro ⟨nm, v⟩ hy
    refine (S.par nm (List.of_mem_zip hy).1).imp (fun q => q) fun q => ⟨q, PySem.W.cellsFrom_some _ _ _ (.inl q)⟩
  refine codeAny_call_function rA.depth (Kn _ _ lk) rfl S.co S.gen rfl (PySem.W.codeRec_of Kn codeK) (bA _ _ _ _ (wpAny_newFunctionEnv_cells S.kind kinds fun env he s1 y => ?_))
  subst he
  refine ⟨lim.keeps y.toInCall.keep, codeAny_func ?_⟩
  obtain ⟨t, pt, qt⟩ := hb cdv A outer s H vs Q E gA (rA.deeper _) spA
  have J : Inv (cxOf CX0 P w K mg base N qual (defScope st) f cdv A outer s H E) [] (start N vs) H s1 := inv_start S rA.hd eA nl vA y
  refine wpAny_mono (pt.nox.run [] s1 (start N vs) H _ J qt) (fun fl s' hs => ?_) fun _ _ q => q
  cases fl with
  | ret u =>
    obtain ⟨v, σ', H', J', rv, q⟩ := hs
    exact ⟨v, H', J'.os, J'.bare, J'.base, J'.hok, rv, q⟩
  | next =>
    obtain ⟨σ', H', J', q⟩ := hs
    exact ⟨.non, H', J'.os, J'.bare, J'.base, J'.hok, rfl, q⟩
  | brk => exact (let ⟨_, _, _, q⟩ := hs; q : False).elim
  | cont => exact (let ⟨_, _, _, q⟩ := hs; q : False).elim
section
variable {P : Program} {w : World} {K : PySem.W.Frag} {mg mb : Str → Option Value} {k : Nat} {fa a : Addr} {fd : FuncData} {x : Str} {sp : Sp} {sB : Shared} {vs : List Value} {ns : List Int}
/-- from an abstract heap in which at most the script is tracked -/
theorem lawG_core (KX : K.In sB.heap) (hns : sB.heap.Ns mainGlobals mg) (hb : sB.heap.Ns builtinsNs mb) (hbb : ∀ x : Str, x ≠ "__name__" → mb x = bootBuiltins x) (hlim : sB.heap.NoLimit) (hg : sB.gens = #[])
    (hla : sB.heap.get? a = some { cls := .type "list", data := .seq vs.toArray }) (rK : Room k callerA)
    (F : ∀ base : Heap, K.In base → base.Ns mainGlobals mg → FnG P w K mg base CX0 k fa fd [x] sp) (hbind : ∀ (s : Shared) (u : Value), BindsTo s fd ⟨[u], []⟩ [(x, u)])
    (H : Hp) (onl : Only H) (spH : sp [.ref a] H (fun v _ => v = .bl true) fun _ _ _ => False) (ok : HOk P w H sB.heap) (atA : ∀ b, H b ≠ none → b = a) (noK : H a ≠ none → K.lookup a = none) :
    codeAny (model P w) callerA (.call (.ref fa) ⟨[.ref a], []⟩) (fun r s' => r = .ok (.ret (.bool true)) ∧ OldK sB.heap s'.heap ∧ s'.os = sB.os ∧ AllBare s'.gens) sB := by
  have notD : ∀ {b : Addr} {o : Obj} {es : Array DictEntry} {ep : Nat}, sB.heap.get? b = some o → o.data = .dict es ep → H b = none := by
    intro b o es ep q d
    by_cases z : H b = none
    · exact z
    · have e := atA b z
      subst e
      rw [hla] at q
      cases q
      exact Data.noConfusion d
  have nsG : ∀ {b : Addr} {m : Str → Option Value}, sB.heap.Ns b m → (hidT sB.heap H).Ns b m := by
    rintro b m ⟨o, es, ep, q, d, r⟩
    exact ⟨o, es, ep, hidT_get q (notD q d), d, r⟩
  have inK : K.In (hidT sB.heap H) := by
    intro b o q
    refine hidT_get (KX b o q) ?_
    by_cases z : H b = none
    · exact z
    · have e := atA b z
      subst e
      rw [noK z] at q
      cases q
  have eA : Env0 P w K mg (hidT sB.heap H) callerA [] sB H :=
    ⟨rfl, ⟨inK, nsG hns, ⟨mb, nsG hb, hbb⟩, let ⟨mc, q1, q2⟩ := hlim; ⟨mc, nsG q1, q2⟩⟩, fun b o q => of_hidT q, Nat.le_of_eq (hidT_size _ _), trivial, (fun b q => nomatch (show b ∈ ([] : List Addr) from q)), ok, .of_eq hg⟩
  refine codeAny_mono (F _ inK (nsG hns) callerA [] sB H ⟨[.ref a], []⟩ [.ref a] [.ref a] _ _ rfl rK eA (hbind sB (.ref a)) (.cons rfl .nil) spH) fun r s' q => ?_
  cases r with
  | error e => exact (show False from q).elim
  | ok fl =>
    cases fl with
    | ret u =>
      obtain ⟨v, H', os, bare, un, ok', rv, qv⟩ := q
      cases (show v = .bl true from qv)
      cases (show u = Value.bool true from rv)
      refine ⟨rfl, OldK.of_keep fun b o q => ?_, os, bare⟩
      rcases onl b with z | ⟨ob, xs, z⟩
      · exact un.keep b o q z (fun y => nomatch (show b ∈ ([] : List Addr) from y)) (by simp)
      · have q1 := (ok b _ z).1
        have q2 := (ok' b _ (un.frzs b ob _ z)).1
        rw [q] at q1
        cases q1
        exact q2
    | next => exact (show False from q).elim
    | brk => exact (show False from q).elim
    | cont => exact (show False from q).elim
theorem lawG_call (KX : K.In sB.heap) (hns : sB.heap.Ns mainGlobals mg) (hb : sB.heap.Ns builtinsNs mb) (hbb : ∀ x : Str, x ≠ "__name__" → mb x = bootBuiltins x) (hlim : sB.heap.NoLimit) (hg : sB.gens = #[])
    (hla : sB.heap.get? a = some { cls := .type "list", data := .seq vs.toArray }) (hi : IntsAre vs ns) (hl : ns.length ≤ sizeLine) (rK : Room k callerA)
    (F : ∀ base : Heap, K.In base → base.Ns mainGlobals mg → FnG P w K mg base CX0 k fa fd [x] sp) (hbind : ∀ (s : Shared) (u : Value), BindsTo s fd ⟨[u], []⟩ [(x, u)])
    (hsp : ∀ H : Hp, Only H → SqL K H a (ns.map V.int) → sp [.ref a] H (fun v _ => v = .bl true) fun _ _ _ => False) :
    codeAny (model P w) callerA (.call (.ref fa) ⟨[.ref a], []⟩) (fun r s' => r = .ok (.ret (.bool true)) ∧ OldK sB.heap s'.heap ∧ s'.os = sB.os ∧ AllBare s'.gens) sB := by
  have rv := vals_ints hi
  have nv := hi.length
  by_cases hk : K.lookup a = none
  · have on : (fun b => if b = a then some (HO.frz { cls := .type "list", data := .seq vs.toArray } (.lst (ns.map V.int))) else none : Hp) a = some (.frz { cls := .type "list", data := .seq vs.toArray } (.lst (ns.map V.int))) := if_pos rfl
    have off : ∀ b, b ≠ a → (fun b => if b = a then some (HO.frz { cls := .type "list", data := .seq vs.toArray } (.lst (ns.map V.int))) else none : Hp) b = none := fun b z => if_neg z
    generalize (fun b => if b = a then some (HO.frz { cls := .type "list", data := .seq vs.toArray } (.lst (ns.map V.int))) else none : Hp) = H at on off
    have onl : Only H := fun b => by
      by_cases z : b = a
      · subst z
        exact .inr ⟨_, _, on⟩
      · exact .inl (off b z)
    refine lawG_core KX hns hb hbb hlim hg hla rK F hbind H onl (hsp H onl (.inl (.inr ⟨_, on⟩))) (fun b u q => ?_) (fun b z => ?_) fun _ => hk
    · by_cases z : b = a
      · subst z
        rw [on] at q
        cases q
        exact ⟨hla, by rw [List.length_map]; exact hl, vs, _, rv, hla⟩
      · rw [off b z] at q
        cases q
    · by_cases y : b = a
      · exact y
      · exact absurd (off b y) z
  · obtain ⟨o, ho⟩ := Option.ne_none_iff_exists'.mp hk
    have q := KX a o ho
    rw [hla] at q
    cases q
    exact lawG_core KX hns hb hbb hlim hg hla rK F hbind (fun _ => none) (fun _ => .inl rfl) (hsp _ (fun _ => .inl rfl) (.inr ⟨_, vs.toArray, _, ho, rfl, rfl, rfl, by rw [List.size_toArray, nv]; exact hl, by simpa using rv⟩)) (fun b u z => nomatch (show (none : Option HO) = some u from z)) (fun b z => absurd rfl z) fun z => absurd rfl z
end
theorem walkG_of {l : PySem.W.OpenLaw} {n k : Nat} {q : Program} {lse : List Str} {XQ : (Str → Option Value) → Heap → Prop} {YQ : World → Heap → Prop} {d : DefRec} {K : Params → PySem.W.Frag} {sp : World → Sp} {x : Str}
    (hn : l.most = some n) (nle : n ≤ sizeLine) (dfe : d.params.defaults = []) (rK : Room k callerA) (hY : ∀ (w : World) (h : Heap), YQ w h → (K w.params).In h) (F : ∀ (w : World) (mg : Str → Option Value) (fa : Addr) (h : Heap), (K w.params).In h → h.Ns mainGlobals mg → mg d.name = some (.ref fa) →
      ∃ fd : FuncData, (∀ (s : Shared) (u : Value), BindsTo s fd ⟨[u], []⟩ [(x, u)]) ∧ ∀ base : Heap, (K w.params).In base → base.Ns mainGlobals mg → FnG l.prog w (K w.params) mg base CX0 k fa fd [x] (sp w))
    (hsp : ∀ (w : World) (H : Hp) (a : Addr) (ns : List Int), ns.length ≤ n → Only H → SqL (K w.params) H a (ns.map V.int) → sp w [.ref a] H (fun v _ => v = .bl true) fun _ _ _ => False) :
    PySem.W.WalkO q lse XQ YQ l.row.toRowW d [] (fun f vs => PySem.call f vs) :=
  Att.attach_call hn dfe fun w s₀ sB mg mb fa o pm cd doc a vs ns G Y ho hd hcd hmg hobj hints hlen hg => by
    obtain ⟨fd, bd, ok⟩ := F w mg fa _ (hY w _ Y) G.T.g hmg
    exact lawG_call (hY w _ Y) G.T.g G.T.b G.T.builtins G.T.nolimit hg hobj hints (Nat.le_trans hlen nle) rK ok bd fun H hO hS => hsp w H a ns hlen hO hS
/-! ### repr of nested data -/
theorem call_reprD {X : Cx} (gX : X.A.guards = some []) (hu : X.A.units + 100 < cLine) : CallR X (.builtin "repr") (fun xs H Q => ∃ a d, xs = [.ref a] ∧ Dp X.K H (.ref a) d ∧ d.showable = true ∧ d.hasDict = false ∧ d.depth ≤ 64 ∧ d.shown.length ≤ sizeLine ∧ Q (.str d.shown) H) := by
  intro pns s σ H xs uv Q I r h
  obtain ⟨a, d, rfl, hd, hs, hn, hz, hl, q⟩ := h
  obtain ⟨u, rfl, ru⟩ := vals1 r; cases ru
  obtain ⟨as, rd⟩ := Dp.reads I d _ _ hd rfl
  refine repr_of_reads' rd hs (fun z => by rw [hn] at z; cases z) gX (by omega) (fun _ _ q => q) (fun h' u tk kk => ⟨.str d.shown, H, I.kept kk, ⟨u, rfl⟩, q⟩) hl
end L2

/-! repr of nested data with dicts, in a frame in whose heap only the script stood at first -/
namespace L2
open PySem PySem.Spec PyProof.Rows
def keyD : Key → PyData
  | .inl i => .int i
  | .inr x => .str x
section
variable {P : Program} {w : World}
theorem pairs_vals {es : List DictEntry} {vs : List (Key × Value)} (p : Pairs (mixKind P w) es vs) : es.map (·.val) = vs.map (·.2) := by
  induction p with
  | nil => rfl
  | cons _ e _ ih => rw [List.map_cons, List.map_cons, e, ih]
theorem pairs_keys {h : Heap} {es : List DictEntry} {vs : List (Key × Value)} (p : Pairs (mixKind P w) es vs) : ReadsAll h (es.map (·.key)) (vs.map fun kv => keyD kv.1) [] := by
  induction p with
  | nil => exact .nil
  | @cons e kv es vs h1 _ _ ih =>
    rw [List.map_cons, List.map_cons]
    refine ReadsAll.cons (as := []) (bs := []) ?_ ih
    rcases keyIs_shape h1 with ⟨i, t, e1, e2⟩ | ⟨x, t, e1, e2⟩
    · rw [e1, e2]
      exact .int i t
    · rw [e1, e2]
      exact .str x t
theorem kv_keys : ∀ {kvs : List (Key × V)} {vs : List (Key × Value)}, KV kvs vs → (vs.map fun kv => keyD kv.1) = kvs.map fun kv => keyD kv.1
  | _, _, .nil => rfl
  | _, _, .cons r t => by rw [List.map_cons, List.map_cons, kv_keys t, r.1]
theorem kv_vals : ∀ {kvs : List (Key × V)} {vs : List (Key × Value)}, KV kvs vs → Vals (kvs.map (·.2)) (vs.map (·.2))
  | _, _, .nil => .nil
  | _, _, .cons r t => .cons r.2 (kv_vals t)
theorem keys_plain : ∀ kvs : List (Key × V), PyData.hasDictAll (kvs.map fun kv => keyD kv.1) = false
  | [] => rfl
  | (.inl i, v) :: r => by
    have e : PyData.hasDict (keyD (.inl i)) = false := by simp only [keyD, PyData.hasDict]
    rw [List.map_cons]
    simp only [PyData.hasDictAll]
    rw [e, keys_plain r]
    rfl
  | (.inr x, v) :: r => by
    have e : PyData.hasDict (keyD (.inr x)) = false := by simp only [keyD, PyData.hasDict]
    rw [List.map_cons]
    simp only [PyData.hasDictAll]
    rw [e, keys_plain r]
    rfl
theorem ram_two {h : Heap} {n : Nat} {bs cs : List Addr} (h1 : ReadAtMost h n bs) (h2 : ReadAtMost h n cs) : ReadAtMost h n (bs ++ cs) := fun b hb => (List.mem_append.mp hb).elim (h1 b) (h2 b)
theorem ram_up {h : Heap} {n m : Nat} {bs : List Addr} (e : n ≤ m) (g : ReadAtMost h n bs) : ReadAtMost h m bs := fun b hb => by
  obtain ⟨d, as, r, z⟩ := g b hb
  exact ⟨d, as, r, Nat.le_trans z e⟩
end
/-- what a dict of plain values is -/
def dctD (kvs : List (Key × V)) (ds : List PyData) : PyData := .dict ((kvs.map fun kv => keyD kv.1).zip ds)
/-- repr of [x, y, a dict] -/
theorem call_reprTD {X : Cx} (gX : X.A.guards = some []) (hu : X.A.units + 100 < cLine) : CallR X (.builtin "repr") (fun xs H Q => ∃ (a e : Addr) (x y : V) (kvs : List (Key × V)) (dx dy : PyData) (ds : List PyData), xs = [.ref a] ∧ H a = some (.lst [x, y, .ref e]) ∧ H e = some (.dK kvs) ∧ Dp X.K H x dx ∧ Dp X.K H y dy ∧ DpAll X.K H (kvs.map (·.2)) ds ∧
    dx.hasDict = false ∧ dy.hasDict = false ∧ PyData.hasDictAll ds = false ∧ (PyData.list [dx, dy, dctD kvs ds]).showable = true ∧ (PyData.list [dx, dy, dctD kvs ds]).depth ≤ 64 ∧ (PyData.list [dx, dy, dctD kvs ds]).shown.length ≤ sizeLine ∧ Q (.str (PyData.list [dx, dy, dctD kvs ds]).shown) H) := by
  intro pns s σ H xs uv Q I r h
  obtain ⟨a, e, x, y, kvs, dx, dy, ds, rfl, ha, he, px, py, pv, nx, ny, nv, hs, hz, hl, q⟩ := h
  obtain ⟨u, rfl, ru⟩ := vals1 r; cases ru
  obtain ⟨its, rv, ⟨o, n, ho, hc, _, hd⟩, _⟩ := I.list (.inl (.inl ha))
  have dl : (kvs.map (·.2)).length = ds.length := by
    clear q hs hz hl
    have go : ∀ (vs : List V) (es : List PyData), DpAll X.K H vs es → vs.length = es.length := by
      intro vs
      induction vs with
      | nil =>
        intro es z
        cases z
        rfl
      | cons v vs ih =>
        intro es z
        cases z with
        | cons _ z2 => rw [List.length_cons, List.length_cons, ih _ z2]
    exact go _ _ pv
  rw [List.length_map] at dl
  match its, rv with
  | [u1, u2, u3], .cons r1 (.cons r2 (.cons r3 .nil)) =>
  obtain ⟨a1, q1⟩ := Dp.reads I dx x u1 px r1
  obtain ⟨a2, q2⟩ := Dp.reads I dy y u2 py r2
  cases r3
  obtain ⟨_, hsys, vs, rel, o3, es, ep, ho3, ⟨hc3, _, _⟩, hd3, _, hp, _⟩ := dk_of I.hok he
  have rv3 := kv_vals rel
  obtain ⟨a3, q3⟩ := Dp.readsAll I ds _ (es.toList.map (·.val)) pv (by rw [pairs_vals hp]; exact rv3)
  have hk := pairs_keys (h := s.heap) hp
  rw [kv_keys rel] at hk
  have e1 : (((kvs.map fun kv => keyD kv.1).zip ds).map (·.1)) = kvs.map fun kv => keyD kv.1 := by
    rw [show (fun x : PyData × PyData => x.1) = Prod.fst from rfl, List.map_fst_zip]
    rw [List.length_map]
    omega
  have e2 : (((kvs.map fun kv => keyD kv.1).zip ds).map (·.2)) = ds := by
    rw [show (fun x : PyData × PyData => x.2) = Prod.snd from rfl, List.map_snd_zip]
    rw [List.length_map]
    omega
  have rd : Reads s.heap (.ref e) (dctD kvs ds) _ := Reads.dict ho3 hc3 hd3 (by rw [e1]; exact hk) (by rw [e2]; exact q3)
  have rl : Reads s.heap (.ref a) (.list [dx, dy, dctD kvs ds]) _ := Reads.list ho hc hd (.cons q1 (.cons q2 (.cons rd .nil)))
  have hs' : dx.showable = true ∧ dy.showable = true ∧ PyData.showableKv ((kvs.map fun kv => keyD kv.1).zip ds) = true := by
    simpa [PyData.showable, PyData.showableAll, dctD] using hs
  have hz' := hz
  have hl' : (listText [dx.shown, dy.shown, dictText (PyData.shownKv ((kvs.map fun kv => keyD kv.1).zip ds))]).length ≤ sizeLine := by
    simpa [PyData.shown, PyData.shownAll, dctD] using hl
  have m1 : dx.shown.length ≤ sizeLine := Nat.le_trans (listText_mem_le (by simp)) hl'
  have m2 : dy.shown.length ≤ sizeLine := Nat.le_trans (listText_mem_le (by simp)) hl'
  have m3 : (dictText (PyData.shownKv ((kvs.map fun kv => keyD kv.1).zip ds))).length ≤ sizeLine := Nat.le_trans (listText_mem_le (by simp)) hl'
  obtain ⟨b1, g1, k1⟩ := ReprK.of_reads (prog := X.prog) (w := X.w) q1 hs'.1 (fun z => by rw [nx] at z; cases z) m1
  obtain ⟨b2, g2, k2⟩ := ReprK.of_reads (prog := X.prog) (w := X.w) q2 hs'.2.1 (fun z => by rw [ny] at z; cases z) m2
  obtain ⟨sk, sv⟩ := PyData.showableKv_split _ hs'.2.2
  rw [e1] at sk
  rw [e2] at sv
  obtain ⟨b4, g4, k4⟩ := ReprAllK.of_readsAll (prog := X.prog) (w := X.w) hk sk (fun z => by rw [keys_plain] at z; cases z) (fun t ht => by
    obtain ⟨p, hp2, hle⟩ := PyData.shownKv_key_le ((kvs.map fun kv => keyD kv.1).zip ds) t (by rw [e1]; exact ht)
    exact Nat.le_trans hle (Nat.le_trans (dictText_mem_le hp2) m3))
  obtain ⟨b5, g5, k5⟩ := ReprAllK.of_readsAll (prog := X.prog) (w := X.w) q3 sv (fun z => by rw [nv] at z; cases z) (fun t ht => by
    obtain ⟨p, hp2, hle⟩ := PyData.shownKv_val_le ((kvs.map fun kv => keyD kv.1).zip ds) t (by rw [e2]; exact ht)
    exact Nat.le_trans hle (Nat.le_trans (dictText_mem_le hp2) m3))
  generalize hkv : (kvs.map fun kv => keyD kv.1).zip ds = kd at *
  have l4 : PyData.depthAll (kvs.map fun kv => keyD kv.1) ≤ PyData.depthKv kd := by
    have := PyData.depthAll_keys_le kd
    rw [e1] at this
    exact this
  have l5 : PyData.depthAll ds ≤ PyData.depthKv kd := by
    have := PyData.depthAll_vals_le kd
    rw [e2] at this
    exact this
  have g3 : ReadAtMost s.heap (PyData.depthKv kd) (b4 ++ b5) := ram_two (ram_up l4 g4) (ram_up l5 g5)
  have dd : dctD kvs ds = .dict kd := by
    unfold dctD
    rw [hkv]
  rw [dd] at rd rl hz hs hl q
  have n3 : e ∉ b4 ++ b5 := not_mem_of_deeper rd (by simp only [PyData.depth]; omega) g3
  have k3 : ReprK X.prog X.w (e :: (b4 ++ b5)) s.heap (PyData.depthKv kd + 1) (.ref e) (dictText (PyData.shownKv kd)) := by
    rw [PyData.shownKv_eq]
    refine ReprK.dict ho3 hc3 hd3 hsys n3 (ReprEntriesK.of_two es.toList _ _ ?_ ?_)
    · have k4' := k4.more_le (as' := b4 ++ b5) (fun b hb => List.mem_append_left _ hb) l4
      rw [← e1] at k4'
      exact k4'
    · have k5' := k5.more_le (as' := b4 ++ b5) (fun b hb => List.mem_append_right _ hb) l5
      rw [← e2] at k5'
      exact k5'
  have g6 : ReadAtMost s.heap (PyData.depthKv kd + 1) (e :: (b4 ++ b5)) := fun b hb => by
    rcases List.mem_cons.mp hb with z | z
    · rw [z]
      exact ⟨_, _, rd, by simp only [PyData.depth]; omega⟩
    · exact ram_up (Nat.le_succ _) g3 b z
  generalize hD : max dx.depth (max dy.depth (PyData.depthKv kd + 1)) = D
  have gA : ReadAtMost s.heap D (b1 ++ (b2 ++ (e :: (b4 ++ b5)))) := ram_two (ram_up (by omega) g1) (ram_two (ram_up (by omega) g2) (ram_up (by omega) g6))
  have dl2 : (PyData.list [dx, dy, .dict kd]).depth = D + 1 := by
    simp only [PyData.depth, PyData.depthAll]
    omega
  have nA : a ∉ b1 ++ (b2 ++ (e :: (b4 ++ b5))) := not_mem_of_deeper rl (by rw [dl2]; omega) gA
  have qq : Q (.str (listText [dx.shown, dy.shown, dictText (PyData.shownKv kd)])) H := by
    simpa [PyData.shown, PyData.shownAll] using q
  refine call_repr_slot (T := "list") (idr := "list.__repr__") (by omega) ⟨o, ho, hc⟩ F.slot_list_repr.toG ?_
  refine call_list_reprK (ts := [dx.shown, dy.shown, dictText (PyData.shownKv kd)]) ho hc hd nA rfl (fun i z hi => ?_) gX (fun b _ => Clear.nil b) (by show X.A.units + 1 + (D + 1) < cLine; omega) (fun _ _ z => z) (fun h' u tk kk => ⟨_, _, rfl, .str _, H, I.kept kk, ⟨u, rfl⟩, qq⟩) hl'
  match i, hi with
  | 0, hi =>
    cases hi
    exact ⟨_, rfl, (k1.more (fun b hb => List.mem_append_left _ hb)).level_le (by omega)⟩
  | 1, hi =>
    cases hi
    exact ⟨_, rfl, (k2.more (fun b hb => List.mem_append_right _ (List.mem_append_left _ hb))).level_le (by omega)⟩
  | 2, hi =>
    cases hi
    exact ⟨_, rfl, (k3.more (fun b hb => List.mem_append_right _ (List.mem_append_right _ hb))).level_le (by omega)⟩
  | i + 3, hi => simp at hi
end L2

namespace Sg
open PySem
def topS (i : Nat) : Stmt := PySem.Challenge.pw_sugartrue_k14_values_in_place_of_variabl.main.body.getD i (.Pass ⟨0, 0, 0, 0⟩)
abbrev cInnerTerms : Stmt := topS 1
abbrev cBoundInBody : Stmt := topS 2
abbrev cRebuilt : Stmt := topS 3
abbrev cPut : Stmt := topS 4
abbrev cFresh : Stmt := topS 5
abbrev cPlaced : Stmt := topS 6
abbrev cInnerTasks : Stmt := topS 7
abbrev sState : Stmt := topS 9
abbrev sDraw : Stmt := topS 10
abbrev sPick : Stmt := topS 11
abbrev sTerm : Stmt := topS 12
abbrev sPut : Stmt := topS 13
abbrev sLaw : Stmt := topS 14
end Sg

namespace Sg
open PySem PySem.Spec PyProof.Rows L2
/-! ### the law's own helpers -/
structure StAt (H : Hp) (p c : Addr) (xs : List Int) (sd : Int) : Prop where
  hp : H p = some (.lst [.ref c, .int sd])
  hc : H c = some (.lst (xs.map V.int))
  ne : p ≠ c
  len : xs.length ≤ 63
  pos : ∀ x ∈ xs, 0 ≤ x
  s0 : 0 ≤ sd
  s1 : sd < 2147483647
def St (p c : Addr) (H : Hp) : Prop := ∃ xs sd, StAt H p c xs sd
/-- all but the state stands -/
def Kp (p c : Addr) (H H' : Hp) : Prop := ∀ b o, b ≠ p → b ≠ c → H b = some o → H' b = some o
theorem Kp.refl (p c : Addr) (H : Hp) : Kp p c H H := fun _ _ _ _ h => h
theorem Kp.trans {p c : Addr} {H H1 H2 : Hp} (a : Kp p c H H1) (b : Kp p c H1 H2) : Kp p c H H2 := fun x o n m h => b x o n m (a x o n m h)
theorem Same.kp {p c : Addr} {H H' : Hp} (a : Same H H') : Kp p c H H' := fun x o _ _ h => a x o h
theorem St.same {p c : Addr} {H H' : Hp} (a : Same H H') (s : St p c H) : St p c H' := by
  obtain ⟨xs, sd, s⟩ := s
  exact ⟨xs, sd, a _ _ s.hp, a _ _ s.hc, s.ne, s.len, s.pos, s.s0, s.s1⟩
theorem same_new {H : Hp} {p : Addr} (h : H p = none) (o : HO) : Same H (upd H p o) := fun b u q => by rw [upd_ne (ne_of_none q h)]; exact q
theorem same_mut {H H' : Hp} {p : Addr} (e : Same H H') (h : H p = none) (o : HO) : Same H (upd H' p o) := fun b u q => by
  rw [upd_ne (ne_of_none q h)]
  exact e b u q
theorem get_map {α β : Type} {g : α → β} {l : List α} {i : Nat} {y : β} (h : (l.map g)[i]? = some y) : ∃ x, l[i]? = some x ∧ g x = y := by
  rw [List.getElem?_map] at h
  cases e : l[i]? with
  | none =>
    rw [e] at h
    cases h
  | some z =>
    rw [e] at h
    exact ⟨z, rfl, Option.some.inj h⟩
theorem take_map {α β : Type} (g : α → β) {l : List α} {i : Nat} {x : α} (h : l[i]? = some x) : (l.take (i + 1)).map g = (l.take i).map g ++ [g x] := by
  rw [List.take_add_one, h, List.map_append]
  rfl
theorem yes_k {σ : L2.St} {H : Hp} {A B : Bool → Hp → Prop} (h : A true H) : tYes σ H fun b H3 => if b = true then A b H3 else B b H3 := by
  show (if true = true then A true H else B true H)
  rw [if_pos rfl]
  exact h
theorem if_true_of {c : Bool} {A B : Prop} (hc : c = true) (h : A) : if c = true then A else B := by
  rw [if_pos hc]
  exact h
theorem if_false_of {c : Bool} {A B : Prop} (hc : c = false) (h : B) : if c = true then A else B := by
  rw [hc, if_neg Bool.false_ne_true]
  exact h
theorem small {n : Nat} (h : n ≤ 100000) : n ≤ sizeLine := Nat.le_trans h (by decide)
theorem smallL {n : Nat} (h : n ≤ 100000) : n < sizeLine := Nat.lt_of_le_of_lt h (by decide)
section
variable {P : Program} {w : World} {K : PySem.W.Frag} {mg : Str → Option Value} {base : Heap}
def spState (K : PySem.W.Frag) : Sp := fun vs H Q _ => ∃ (a : Addr) (ns : List Int), vs = [.ref a] ∧ SqL K H a (ns.map V.int) ∧ ns.length ≤ 63 ∧
  ∀ H' p c, Same H H' → H p = none → H c = none → St p c H' → Q (.ref p) H'
theorem scState : FnScope ["script", "seed", "cell"] ["script"] (defScope sState) := ⟨rfl, rfl, rfl, by decide +kernel, rfl, by decide +kernel, by decide +kernel⟩
theorem ok_state {f : Addr} {fd : FuncData} {k : Nat} (F : Fun K "_law_state" "_law_state" sState f fd) (mi : mg "int" = none) (ma : mg "abs" = none) : FnOk P w K mg base CX0 (k + 1) f fd ["script"] (spState K) := by
  refine F.ok scState (fun vs H Q E h => ?_) (fun cdv A outer s H vs Q E hr h => ?_)
  · obtain ⟨a, ns, rfl, _⟩ := h
    rfl
  obtain ⟨a, ns, rfl, hS, hlen, q⟩ := h
  refine ⟨_, pss_cons (ps_set (i := 1) scState.nd rfl (.inl rfl) pe_int)
    (pss_cons (ps_for PassesOwn.never rfl (pi_list (pv 0)) (pg_name (i := 2) scState.nd rfl (.inl rfl))
      (pss_one (ps_set (i := 1) scState.nd rfl (.inl rfl) (pe_op op_mod (pe_callTy call_int1 (by rfl) mi (by decide +kernel) (pa_cons (pe_op op_add (pe_op op_mul (pv 1) pe_int) (pv 2)) pa_nil)) pe_int))))
    (pss_one (ps_ret (pe_lst (pa_cons (pe_lc (own := [("cell", 2)]) (g := gName 2) (tt := tYes) rfl scState.nd (pi_list (pv 0)) (blkOk_by (N := ["script", "seed", "cell"]) (sc := defScope sState) (by decide +kernel))
        (fun _ _ _ _ _ => pg_name (i := 2) scState.nd rfl (Or.inl rfl)) (fun _ _ _ _ _ => pts_nil)
        (fun _ _ _ _ _ => pe_callB call_abs (by rfl) ma (by decide +kernel) (pa_cons (pe_callTy call_int1 (by rfl) mi (by decide +kernel) (pa_cons (pv 2) pa_nil)) pa_nil)))
      (pa_cons (pe_op op_add (pv 1) pe_int) pa_nil)))))), ?_⟩
  refine ⟨_, rfl, a, rfl, ⟨_, hS⟩, for_list (K := K) (a := a) (xs := ns.map V.int) (fun i σ H' => ∃ (y : Option V) (sd : Int), σ = [some (.ref a), some (.int sd), y] ∧ 0 ≤ sd ∧ sd < 1000003 ∧ H' = H)
    ⟨none, 7, rfl, by decide, by decide, rfl⟩ (fun i σ H' _ ⟨_, _, _, _, _, e⟩ => e ▸ hS) ?_ ?_⟩
  · rintro i x σ H' hx ⟨y, sd, rfl, h0, h1, rfl⟩
    obtain ⟨z, hz, rfl⟩ := get_map hx
    refine ⟨_, rfl, _, _, rfl, rfl, .inl ⟨by omega, by omega⟩, _, rfl, _, _, rfl, rfl, .inl ⟨_, rfl, _, _, rfl, rfl, (by show (0 : Int) < 1000003; decide), ?_⟩⟩
    exact ⟨some (.int z), (sd * 31 + z) % 1000003, rfl, Int.emod_nonneg _ (by decide), Int.emod_lt_of_pos _ (by decide), rfl⟩
  · rintro σ H' ⟨y, sd, rfl, h0, h1, rfl⟩
    refine ⟨_, rfl, a, rfl, ⟨_, hS⟩, fun D hD => ?_⟩
    refine lc_list (K := K) (a := a) (xs := ns.map V.int) (fun i H2 => Same H' H2 ∧ H2 D = some (.lst ((ns.take i).map fun n => V.int (if n < 0 then -n else n)))) ⟨same_new hD _, upd_same⟩ (fun i H2 _ e => e.1.seq hS) ?_ ?_
    · rintro i x H2 hx ⟨sm, eD⟩
      obtain ⟨z, hz, rfl⟩ := get_map hx
      refine ⟨rfl, yes_k ⟨_, rfl, .inl ⟨z, rfl, z, rfl, _, eD, ?_, same_mut sm hD _, ?_⟩⟩⟩
      · rw [List.length_map, List.length_take]
        exact smallL (by omega)
      · rw [upd_same, take_map _ hz]
    · rintro H2 ⟨sm, eD⟩
      rw [List.length_map, List.take_length] at eD
      refine ⟨_, rfl, _, _, rfl, rfl, (by show 2 ≤ sizeLine; decide), fun p hp => ?_⟩
      have npD : p ≠ D := fun e => by
        rw [e, eD] at hp
        cases hp
      refine q _ p D (sm.trans (same_new hp _)) (sm.free hp) hD ⟨ns.map fun n => if n < 0 then -n else n, sd + 1, upd_same, ?_, npD, ?_, fun x hx => ?_, by omega, by omega⟩
      · rw [upd_ne (Ne.symm npD), eD, List.map_map]
        rfl
      · rw [List.length_map]
        exact hlen
      · obtain ⟨n, _, rfl⟩ := List.mem_map.mp hx
        by_cases c : n < 0
        · rw [if_pos c]
          omega
        · rw [if_neg c]
          omega
end
end Sg

namespace Sg
open PySem PySem.Spec PyProof.Rows L2
section
variable {P : Program} {w : World} {K : PySem.W.Frag} {mg : Str → Option Value} {base : Heap}
/-- draw(state, many): a number below many; of what stood only the state's two lists change -/
def spDraw : Sp := fun vs H Q _ => ∃ (p c : Addr) (m : Int), vs = [.ref p, .int m] ∧ 0 < m ∧ m < 1073741824 ∧ St p c H ∧
  ∀ H' r, Kp p c H H' → St p c H' → 0 ≤ r → r < m → Q (.int r) H'
theorem scDraw : FnScope ["state", "many", "cells", "value", "mixed"] ["state", "many"] (defScope sDraw) := ⟨rfl, rfl, rfl, by decide +kernel, rfl, by decide +kernel, by decide +kernel⟩
theorem at0 {v : V} {r : List V} : atI (v :: r) 0 = some v := atI_nat (j := 0) rfl
theorem at1 {u v : V} {r : List V} : atI (u :: v :: r) 1 = some v := atI_nat (j := 1) rfl
/-- a store at p or c -/
theorem Kp.put {p c a : Addr} {H H' : Hp} (k : Kp p c H H') (ha : a = p ∨ a = c) (o : HO) : Kp p c H (upd H' a o) := fun b u nb nc e => by
  rw [upd_ne (fun z => by rcases ha with h | h; exact nb (z.trans h); exact nc (z.trans h))]
  exact k b u nb nc e
theorem Kp.mut {p c a : Addr} {H H' : Hp} (k : Kp p c H H') (ha : H a = none) (o : HO) : Kp p c H (upd H' a o) := fun b u nb nc e => by
  rw [upd_ne (ne_of_none e ha)]
  exact k b u nb nc e
theorem St.put {p c a : Addr} {H : Hp} (s : St p c H) (h1 : a ≠ p) (h2 : a ≠ c) (o : HO) : St p c (upd H a o) := by
  obtain ⟨xs, sd, s⟩ := s
  exact ⟨xs, sd, by rw [upd_ne (Ne.symm h1)]; exact s.hp, by rw [upd_ne (Ne.symm h2)]; exact s.hc, s.ne, s.len, s.pos, s.s0, s.s1⟩
/-- a new place is none of the state's -/
theorem St.new {p c a : Addr} {H : Hp} (s : St p c H) (h : H a = none) : a ≠ p ∧ a ≠ c := by
  obtain ⟨xs, sd, s⟩ := s
  exact ⟨fun e => (by rw [e, s.hp] at h; cases h), fun e => (by rw [e, s.hc] at h; cases h)⟩
theorem Kp.free {p c a : Addr} {H H' : Hp} (k : Kp p c H H') (s : St p c H') (h : H' a = none) : H a = none := by
  have n := s.new h
  cases e : H a with
  | none => rfl
  | some u =>
    rw [k a u n.1 n.2 e] at h
    cases h
theorem StAt.cells {H : Hp} {p c : Addr} {xs ys : List Int} {sd : Int} (s : StAt H p c xs sd) (hl : ys.length ≤ 63) (hp : ∀ x ∈ ys, 0 ≤ x) : StAt (upd H c (.lst (ys.map V.int))) p c ys sd :=
  ⟨by rw [upd_ne s.ne]; exact s.hp, upd_same, s.ne, hl, hp, s.s0, s.s1⟩
theorem StAt.seed {H : Hp} {p c : Addr} {xs : List Int} {sd n : Int} (s : StAt H p c xs sd) (h0 : 0 ≤ n) (h1 : n < 2147483647) : StAt (upd H p (.lst [.ref c, .int n])) p c xs n :=
  ⟨upd_same, by rw [upd_ne (Ne.symm s.ne)]; exact s.hc, s.ne, s.len, s.pos, h0, h1⟩
theorem ok_draw {f : Addr} {fd : FuncData} {k : Nat} (F : Fun K "_law_draw" "_law_draw" sDraw f fd) (mi : mg "int" = none) (ml : mg "len" = none) : FnOk P w K mg base CX0 (k + 1) f fd ["state", "many"] spDraw := by
  refine F.ok scDraw (fun vs H Q E h => ?_) (fun cdv A outer s H vs Q E hr h => ?_)
  · obtain ⟨p, c, m, rfl, _⟩ := h
    rfl
  obtain ⟨p, c, m, rfl, hm0, hm1, ⟨xs, sd, S⟩, q⟩ := h
  refine ⟨_, pss_cons (ps_set (i := 2) scDraw.nd rfl (.inl rfl) (pe_ix ix_list (pv 0) pe_int (fun _ _ => rfl)))
    (pss_cons (ps_while PassesOwn.never (pw_and (pt_cmpR op_gt (pe_callB call_len_seq (by rfl) ml PySem.boot_len (pa_cons (pv 2) pa_nil)) pe_int (nomark _)) (pw_and1 (pt_cmpR op_eq (pe_ix ix_list (pv 2) pe_int (fun _ _ => rfl)) pe_int (nomark _)))).pt
      (pss_one (ps_expr (pe_bm PySem.F.plainAttrs_list PySem.F.slot_list_pop PySem.F.type_list_pop mt_popAt (pv 2) (pa_cons pe_int pa_nil)))))
    (pss_cons (ps_if (pt_cmpR op_gt (pe_callB call_len_seq (by rfl) ml PySem.boot_len (pa_cons (pv 2) pa_nil)) pe_int (nomark _))
      (pss_cons (ps_set (i := 3) scDraw.nd rfl (.inl rfl) (pe_ix ix_list (pv 2) pe_int (fun _ _ => rfl)))
      (pss_cons (ps_asg (pe_op op_fdivW (pv 3) (pv 1)) (pg_sub (pv 2) pe_int set_list (fun _ => rfl)))
      (pss_one (ps_ret (pe_op op_mod (pe_callTy call_int1 (by rfl) mi (by decide +kernel) (pa_cons (pv 3) pa_nil)) (pv 1)))))) pss_nil)
    (pss_cons (ps_set (i := 4) scDraw.nd rfl (.inl rfl) (pe_op op_mod (pe_callTy call_int1 (by rfl) mi (by decide +kernel) (pa_cons (pe_op op_add (pe_op op_mul (pe_ix ix_list (pv 0) pe_int (fun _ _ => rfl)) pe_int) pe_int) pa_nil)) pe_int))
    (pss_cons (ps_asg (pv 4) (pg_sub (pv 0) pe_int set_list (fun _ => rfl)))
    (pss_one (ps_ret (pe_op op_mod (pe_callTy call_int1 (by rfl) mi (by decide +kernel) (pa_cons (pe_op op_fdiv (pv 4) pe_int) pa_nil)) (pv 1)))))))), ?_⟩
  refine ⟨_, rfl, p, _, 0, .ref c, rfl, rfl, SqL.of S.hp, at0, ?_⟩
  refine ⟨fun n σ H' => ∃ (xs : List Int) (sd : Int), σ = [some (.ref p), some (.int m), some (.ref c), none, none] ∧ StAt H' p c xs sd ∧ Kp p c H H' ∧ n = xs.length, ⟨_, xs, sd, rfl, S, Kp.refl p c H, rfl⟩, ?_⟩
  rintro n σ H' ⟨xs, sd, rfl, S, kp, rfl⟩
  refine ⟨_, rfl, c, _, rfl, .inl (SqL.of S.hc), _, _, rfl, rfl, _, rfl, ?_⟩
  cases xs with
  | nil =>
    refine if_false_of (by simp) ?_
    refine if_false_of rfl ?_
    refine ⟨_, rfl, c, _, rfl, .inl (SqL.of S.hc), _, _, rfl, rfl, _, rfl, ?_⟩
    refine if_false_of (by simp) ?_
    refine ⟨_, rfl, p, _, 1, .int sd, rfl, rfl, SqL.of S.hp, at1, _, _, rfl, rfl, .inl ⟨by have := S.s0; omega, by have := S.s1; omega⟩, _, _, rfl, rfl, .inl ⟨_, rfl, _, _, rfl, rfl, (by show (0 : Int) < 2147483647; decide), ?_⟩⟩
    refine ⟨_, rfl, _, rfl, p, _, 1, 1, rfl, rfl, S.hp, rfl, ?_⟩
    refine ⟨_, rfl, _, _, rfl, rfl, ⟨by decide, by decide⟩, .inl ⟨_, rfl, _, rfl, _, _, rfl, rfl, hm0, ?_⟩⟩
    refine q _ _ (kp.put (.inl rfl) _) ⟨[], _, S.seed (Int.emod_nonneg _ (by decide)) (Int.emod_lt_of_pos _ (by decide))⟩ (Int.emod_nonneg _ (by omega)) (Int.emod_lt_of_pos _ hm0)
  | cons x r =>
    refine if_true_of (by simp) ?_
    refine ⟨_, rfl, c, _, 0, .int x, rfl, rfl, SqL.of S.hc, at0, rfl, _, rfl, ?_⟩
    by_cases hx : x = 0
    · refine if_true_of (by simp [hx]) ?_
      refine ⟨_, fun _ _ z => z, ?_⟩
      refine ⟨_, rfl, .inl ⟨rfl, _, SqL.of S.hc⟩, c, _, 0, 0, .int x, rfl, rfl, S.hc, by decide, by decide, ?_, rfl, ?_⟩
      · simp [seqIndex?]
      · refine ⟨r.length, Nat.lt_succ_self _, r, sd, rfl, S.cells ?_ ?_, kp.put (.inr rfl) _, rfl⟩
        · have := S.len
          rw [List.length_cons] at this
          omega
        · exact fun y hy => S.pos y (List.mem_cons_of_mem _ hy)
    · refine if_false_of (by simp [hx]) ?_
      refine ⟨_, rfl, c, _, rfl, .inl (SqL.of S.hc), _, _, rfl, rfl, _, rfl, ?_⟩
      refine if_true_of (by simp) ?_
      refine ⟨_, rfl, c, _, 0, .int x, rfl, rfl, SqL.of S.hc, at0, ?_⟩
      refine ⟨_, rfl, _, rfl, _, _, rfl, rfl, wide_div (b := 30) hm0 (by omega) (by decide) (by decide), _, rfl, c, _, 0, 0, rfl, rfl, S.hc, ?_, ?_⟩
      · simp [ixN]
      · refine ⟨_, rfl, .inl ⟨_, rfl, _, rfl, _, _, rfl, rfl, hm0, ?_⟩⟩
        have St2 : ((x / m) :: r).length ≤ 63 → (∀ y ∈ (x / m) :: r, 0 ≤ y) → StAt (upd H' c (.lst ((List.map V.int (x :: r)).set 0 (.int (x / m))))) p c ((x / m) :: r) sd := fun a b => S.cells a b
        refine q _ _ (kp.put (.inr rfl) _) ⟨(x / m) :: r, sd, St2 ?_ ?_⟩ (Int.emod_nonneg _ (by omega)) (Int.emod_lt_of_pos _ hm0)
        · have := S.len
          rw [List.length_cons] at this ⊢
          exact this
        · intro y hy
          rcases List.mem_cons.mp hy with e | e
          · rw [e]
            exact Int.ediv_nonneg (S.pos x List.mem_cons_self) (by omega)
          · exact S.pos y (List.mem_cons_of_mem _ e)
end
end Sg

namespace Sg
open PySem PySem.Spec PyProof.Rows L2
section
variable {P : Program} {w : World} {K : PySem.W.Frag} {mg : Str → Option Value} {base : Heap}
/-- pick(state, row): one of the row's items -/
def spPick : Sp := fun vs H Q _ => ∃ (p c b : Addr) (xs : List V), vs = [.ref p, .ref b] ∧ H b = some (.lst xs) ∧ b ≠ p ∧ b ≠ c ∧ xs ≠ [] ∧ xs.length ≤ 1000 ∧ St p c H ∧
  ∀ H' v, Kp p c H H' → St p c H' → v ∈ xs → Q v H'
theorem scPick : FnScope ["state", "row"] ["state", "row"] (defScope sPick) := ⟨rfl, rfl, rfl, by decide +kernel, rfl, by decide +kernel, by decide +kernel⟩
theorem ok_pick {f fD : Addr} {fd fdD : FuncData} {k : Nat} (F : Fun K "_law_pick" "_law_pick" sPick f fd) (G : FnOk P w K mg base CX0 k fD fdD ["state", "many"] spDraw) (bD : Binds K fdD ["state", "many"] []) (kD : PySem.W.keepIn K (.ref fD) = true)
    (mD : mg "_law_draw" = some (.ref fD)) (ml : mg "len" = none) : FnOk P w K mg base CX0 (k + 1) f fd ["state", "row"] spPick := by
  refine F.ok scPick (fun vs H Q E h => ?_) (fun cdv A outer s H vs Q E hr h => ?_)
  · obtain ⟨p, c, b, xs, rfl, _⟩ := h
    rfl
  obtain ⟨p, c, b, xs, rfl, hb, nbp, nbc, hne, hlen, S, q⟩ := h
  refine ⟨_, pss_one (ps_ret (pe_ix ix_list (pv 1) (pe_call G hr (by rfl) mD kD bD .nil pass0 (pa_cons (pv 0) (pa_cons (pe_callB call_len_seq (by rfl) ml PySem.boot_len (pa_cons (pv 1) pa_nil)) pa_nil))) (fun _ _ => rfl))), ?_⟩
  have hl : 0 < xs.length := List.length_pos_iff.mpr hne
  refine ⟨_, rfl, _, rfl, _, rfl, b, _, rfl, .inl (SqL.of hb), p, c, _, rfl, ?_, ?_, S, fun H' r kp S' h0 h1 => ?_⟩
  · omega
  · omega
  · obtain ⟨n, rfl⟩ : ∃ n : Nat, r = n := ⟨r.toNat, by omega⟩
    have hn : n < xs.length := by omega
    refine ⟨b, xs, n, xs[n], rfl, rfl, SqL.of (kp b _ nbp nbc hb), atI_nat (List.getElem?_eq_getElem hn), q H' _ kp S' (List.getElem_mem hn)⟩
end
end Sg

namespace Sg
open PySem PySem.Spec PyProof.Rows L2
/-! ### helpers of any law: what stands, what is new -/
/-- the heap but for these -/
def rmL (bs : List Addr) (H : Hp) : Hp := fun a => if a ∈ bs then none else H a
theorem rm_in {bs : List Addr} {H : Hp} {a : Addr} {o : HO} (n : a ∉ bs) (h : H a = some o) : rmL bs H a = some o := by
  unfold rmL
  rw [if_neg n]
  exact h
theorem rm_of {bs : List Addr} {H : Hp} {a : Addr} {o : HO} (h : rmL bs H a = some o) : a ∉ bs ∧ H a = some o := by
  unfold rmL at h
  by_cases z : a ∈ bs
  · rw [if_pos z] at h
    cases h
  · rw [if_neg z] at h
    exact ⟨z, h⟩
theorem rm_sub {bs : List Addr} {H : Hp} : Same (rmL bs H) H := fun b o h => (rm_of h).2
/-- all but these stand -/
def Kb (bs : List Addr) (H H' : Hp) : Prop := ∀ b o, b ∉ bs → H b = some o → H' b = some o
theorem Kb.refl (bs : List Addr) (H : Hp) : Kb bs H H := fun _ _ _ h => h
theorem Kb.trans {bs : List Addr} {H H1 H2 : Hp} (a : Kb bs H H1) (b : Kb bs H1 H2) : Kb bs H H2 := fun x o n h => b x o n (a x o n h)
theorem Same.kb {bs : List Addr} {H H' : Hp} (a : Same H H') : Kb bs H H' := fun x o _ h => a x o h
theorem Kb.wide {bs cs : List Addr} {H H' : Hp} (a : Kb bs H H') (h : ∀ b ∈ bs, b ∈ cs) : Kb cs H H' := fun x o n q => a x o (fun z => n (h x z)) q
theorem Kb.rm {bs cs : List Addr} {H H' : Hp} (a : Kb bs H H') (h : ∀ b ∈ bs, b ∈ cs) : Same (rmL cs H) (rmL cs H') := fun x o q => by
  have z := rm_of q
  exact rm_in z.1 (a x o (fun y => z.1 (h x y)) z.2)
theorem rm_cut {bs cs : List Addr} {H : Hp} (h : ∀ b ∈ bs, b ∈ cs) : Same (rmL cs H) (rmL bs H) := fun x o q => by
  have z := rm_of q
  exact rm_in (fun y => z.1 (h x y)) z.2
theorem Kp.kb {p c : Addr} {H H' : Hp} (a : Kp p c H H') : Kb [p, c] H H' := fun x o n h => a x o (fun z => n (by simp [z])) (fun z => n (by simp [z])) h
theorem Kb.kp {p c : Addr} {H H' : Hp} (a : Kb [p, c] H H') : Kp p c H H' := fun x o n1 n2 h => a x o (by simp [n1, n2]) h
theorem Kb.put {bs : List Addr} {H H' : Hp} {a : Addr} (k : Kb bs H H') (h : a ∈ bs) (o : HO) : Kb bs H (upd H' a o) := fun x u n q => by
  rw [upd_ne (fun z => n (by rw [z]; exact h))]
  exact k x u n q
theorem Kb.new {bs : List Addr} {H H' : Hp} {a : Addr} (k : Kb bs H H') (h : H a = none) (o : HO) : Kb bs H (upd H' a o) := fun x u n q => by
  rw [upd_ne (ne_of_none q h)]
  exact k x u n q
theorem Kb.free {bs : List Addr} {H H' : Hp} {a : Addr} (k : Kb bs H H') (n : a ∉ bs) (h : H' a = none) : H a = none := by
  cases e : H a with
  | none => rfl
  | some u =>
    rw [k a u n e] at h
    cases h
/-! ### what stands and is no list of before -/
def nl (H H' : Hp) : Hp := fun a => match H a with
  | some (.lst _) => none
  | _ => H' a
theorem nl_in {H H' : Hp} {a : Addr} {o : HO} (n : ∀ xs, H a ≠ some (.lst xs)) (h : H' a = some o) : nl H H' a = some o := by
  unfold nl
  split
  · rename_i xs e
    exact absurd e (n xs)
  · exact h
theorem nl_of {H H' : Hp} {a : Addr} {o : HO} (h : nl H H' a = some o) : (∀ xs, H a ≠ some (.lst xs)) ∧ H' a = some o := by
  unfold nl at h
  split at h
  · cases h
  · rename_i n
    exact ⟨fun xs e => n xs e, h⟩
theorem nl_new {H H' : Hp} {a : Addr} {o : HO} (n : H a = none) (h : H' a = some o) : nl H H' a = some o := nl_in (fun xs e => by rw [n] at e; cases e) h
/-- lists stay lists -/
def Ls (H H1 : Hp) : Prop := ∀ a xs, H a = some (.lst xs) → ∃ ys, H1 a = some (.lst ys)
theorem Ls.refl (H : Hp) : Ls H H := fun _ xs e => ⟨xs, e⟩
theorem Ls.trans {H H1 H2 : Hp} (a : Ls H H1) (b : Ls H1 H2) : Ls H H2 := fun x xs e => by
  obtain ⟨ys, q⟩ := a x xs e
  exact b x ys q
theorem Same.ls {H H1 : Hp} (a : Same H H1) : Ls H H1 := fun x xs e => ⟨xs, a _ _ e⟩
theorem nl_base {H H1 H' : Hp} (h : Ls H H1) : Same (nl H1 H') (nl H H') := fun b o q => by
  have z := nl_of q
  refine nl_in (fun xs e => ?_) z.2
  obtain ⟨ys, y⟩ := h b xs e
  exact z.1 ys y
theorem nl_grow {H H' H'' : Hp} (h : ∀ b o, (∀ xs, H b ≠ some (.lst xs)) → H' b = some o → H'' b = some o) : Same (nl H H') (nl H H'') := fun b o q => by
  have z := nl_of q
  exact nl_in z.1 (h b o z.1 z.2)
theorem nl_sub {H H' : Hp} : Same (nl H H') H' := fun _ _ q => (nl_of q).2
theorem nl_put {H H' : Hp} {D : Addr} {xs : List V} (h : H D = some (.lst xs)) (o : HO) : Same (nl H H') (nl H (upd H' D o)) := nl_grow fun b u n q => by
  rw [upd_ne (fun e => n xs (by rw [e]; exact h))]
  exact q
theorem nl_fresh {H H' : Hp} {t : Addr} (h : H' t = none) (o : HO) : Same (nl H H') (nl H (upd H' t o)) := nl_grow fun b u _ q => same_new h o b u q
theorem St.lsts {p c : Addr} {H : Hp} (s : St p c H) : (∃ xs, H p = some (.lst xs)) ∧ ∃ xs, H c = some (.lst xs) := by
  obtain ⟨xs, sd, s⟩ := s
  exact ⟨⟨_, s.hp⟩, ⟨_, s.hc⟩⟩
theorem Kp.nl {p c : Addr} {H H' H'' : Hp} (S : St p c H) (k : Kp p c H' H'') : Same (Sg.nl H H') (Sg.nl H H'') := nl_grow fun b o n q => by
  obtain ⟨⟨x1, e1⟩, ⟨x2, e2⟩⟩ := S.lsts
  exact k b o (fun z => n x1 (by rw [z]; exact e1)) (fun z => n x2 (by rw [z]; exact e2)) q
theorem Kp.ls {p c : Addr} {H H' : Hp} (k : Kp p c H H') (S' : St p c H') : Ls H H' := fun a xs e => by
  obtain ⟨⟨x1, e1⟩, ⟨x2, e2⟩⟩ := S'.lsts
  by_cases h1 : a = p
  · exact ⟨x1, by rw [h1]; exact e1⟩
  · by_cases h2 : a = c
    · exact ⟨x2, by rw [h2]; exact e2⟩
    · exact ⟨xs, k a _ h1 h2 e⟩
theorem str_ne {x y : Str} (h : x ≠ y) : decide (V.str x = V.str y) = false := decide_eq_false fun e => h (by injection e)
theorem str_eq {x : Str} : decide (V.str x = V.str x) = true := decide_eq_true rfl
theorem Kb.nl {bs : List Addr} {H H' H'' : Hp} (h : ∀ b ∈ bs, ∃ xs, H b = some (.lst xs)) (k : Kb bs H' H'') : Same (Sg.nl H H') (Sg.nl H H'') := nl_grow fun b o n q => k b o (fun z => by
  obtain ⟨xs, e⟩ := h b z
  exact n xs e) q
theorem Kb.ls {bs : List Addr} {H H' : Hp} (k : Kb bs H H') (h : ∀ b ∈ bs, ∃ xs, H' b = some (.lst xs)) : Ls H H' := fun a xs e => by
  by_cases z : a ∈ bs
  · exact h a z
  · exact ⟨xs, k a _ z e⟩
theorem Ls.put {H H' : Hp} {D : Addr} {xs : List V} (h : Ls H H') : Ls H (upd H' D (.lst xs)) := fun a ys e => by
  obtain ⟨zs, q⟩ := h a ys e
  by_cases z : a = D
  · exact ⟨xs, by rw [z, upd_same]⟩
  · exact ⟨zs, by rw [upd_ne z]; exact q⟩
/-- what stands at the entry and is not written -/
def Frz (bs : List Addr) (F H : Hp) : Prop := Same F H ∧ ∀ b ∈ bs, F b = none
theorem Frz.up {bs cs : List Addr} {F H H' : Hp} (f : Frz bs F H) (k : Kb cs H H') (h : ∀ b ∈ cs, F b = none) : Frz bs F H' := ⟨fun b o q => k b o (fun z => by rw [h b z] at q; cases q) (f.1 b o q), f.2⟩
theorem nl_rm {H H' : Hp} {bs : List Addr} (h : ∀ b ∈ bs, ∃ xs, H b = some (.lst xs)) : Same (nl H H') (rmL bs H') := fun b o q => by
  have z := nl_of q
  refine rm_in (fun y => ?_) z.2
  obtain ⟨xs, e⟩ := h b y
  exact z.1 xs e
theorem St.kb {bs : List Addr} {p c : Addr} {H H' : Hp} (s : St p c H) (k : Kb bs H H') (h1 : p ∉ bs) (h2 : c ∉ bs) : St p c H' := by
  obtain ⟨xs, sd, s⟩ := s
  exact ⟨xs, sd, k _ _ h1 s.hp, k _ _ h2 s.hc, s.ne, s.len, s.pos, s.s0, s.s1⟩
theorem same_upd {F H : Hp} {t : Addr} {o : HO} (h : Same F H) : Same (upd F t o) (upd H t o) := fun b u q => by
  by_cases z : b = t
  · rw [z, upd_same] at q ⊢
    exact q
  · rw [upd_ne z] at q ⊢
    exact h b u q
end Sg

namespace Sg
open PySem PySem.Spec PyProof.Rows L2
/-! ### terms, and what stands of them in the heap -/
structure Og where
  u : Int
  rs : List Int
  h : Int
def OgAt (F : Hp) (o : Og) (v : V) : Prop := ∃ a b, v = .ref a ∧ F a = some (.tup [.int o.u, .ref b, .int o.h]) ∧ F b = some (.tup (o.rs.map V.int))
def OgOk (o : Og) : Prop := o.u.natAbs ≤ 1000 ∧ o.rs.length ≤ 4 ∧ (∀ r ∈ o.rs, r.natAbs ≤ 1000) ∧ o.h.natAbs ≤ 1000
theorem OgAt.same {F F' : Hp} {o : Og} {v : V} (e : Same F F') (h : OgAt F o v) : OgAt F' o v := by
  obtain ⟨a, b, h1, h2, h3⟩ := h
  exact ⟨a, b, h1, e _ _ h2, e _ _ h3⟩
inductive Tm where
  | int (n : Int) (o : Og)
  | prim (s : Str) (o : Og)
  | ref (i : Int) (o : Og)
  | fn (ids : List Int) (b : Tm) (o : Og)
  | rc (i : Int) (ids : List Int) (b : Tm) (o : Og)
  | lt (i : Int) (x b : Tm) (o : Og)
  | ite (a b c : Tm) (o : Og)
  | app (f : Tm) (xs : List Tm) (o : Og)
  | pair (a b : Tm) (o : Og)
mutual
def TmAt (F : Hp) : Tm → V → Prop
  | .int n o, v => ∃ a w, v = .ref a ∧ F a = some (.tup [.str "int", .int n, w]) ∧ OgAt F o w
  | .prim s o, v => ∃ a w, v = .ref a ∧ F a = some (.tup [.str "prim", .str s, w]) ∧ OgAt F o w
  | .ref i o, v => ∃ a w, v = .ref a ∧ F a = some (.tup [.str "ref", .int i, w]) ∧ OgAt F o w
  | .fn ids b o, v => ∃ a l u w, v = .ref a ∧ F a = some (.tup [.str "fn", .ref l, u, w]) ∧ F l = some (.lst (ids.map V.int)) ∧ TmAt F b u ∧ OgAt F o w
  | .rc i ids b o, v => ∃ a l u w, v = .ref a ∧ F a = some (.tup [.str "rec", .int i, .ref l, u, w]) ∧ F l = some (.lst (ids.map V.int)) ∧ TmAt F b u ∧ OgAt F o w
  | .lt i x b o, v => ∃ a u1 u2 w, v = .ref a ∧ F a = some (.tup [.str "let", .int i, u1, u2, w]) ∧ TmAt F x u1 ∧ TmAt F b u2 ∧ OgAt F o w
  | .ite x y z o, v => ∃ a u1 u2 u3 w, v = .ref a ∧ F a = some (.tup [.str "if", u1, u2, u3, w]) ∧ TmAt F x u1 ∧ TmAt F y u2 ∧ TmAt F z u3 ∧ OgAt F o w
  | .app f xs o, v => ∃ a u l vs w, v = .ref a ∧ F a = some (.tup [.str "app", u, .ref l, w]) ∧ F l = some (.lst vs) ∧ TmAt F f u ∧ TmsAt F xs vs ∧ OgAt F o w
  | .pair x y o, v => ∃ a u1 u2 w, v = .ref a ∧ F a = some (.tup [.str "pair", u1, u2, w]) ∧ TmAt F x u1 ∧ TmAt F y u2 ∧ OgAt F o w
def TmsAt (F : Hp) : List Tm → List V → Prop
  | [], vs => vs = []
  | t :: ts, vs => ∃ v r, vs = v :: r ∧ TmAt F t v ∧ TmsAt F ts r
end
mutual
theorem TmAt.same {F F' : Hp} (e : Same F F') : ∀ (t : Tm) (v : V), TmAt F t v → TmAt F' t v
  | .int n o, v, h => by
    unfold TmAt at h ⊢
    obtain ⟨a, w, h1, h2, h3⟩ := h
    exact ⟨a, w, h1, e _ _ h2, h3.same e⟩
  | .prim s o, v, h => by
    unfold TmAt at h ⊢
    obtain ⟨a, w, h1, h2, h3⟩ := h
    exact ⟨a, w, h1, e _ _ h2, h3.same e⟩
  | .ref i o, v, h => by
    unfold TmAt at h ⊢
    obtain ⟨a, w, h1, h2, h3⟩ := h
    exact ⟨a, w, h1, e _ _ h2, h3.same e⟩
  | .fn ids b o, v, h => by
    unfold TmAt at h ⊢
    obtain ⟨a, l, u, w, h1, h2, h3, h4, h5⟩ := h
    exact ⟨a, l, u, w, h1, e _ _ h2, e _ _ h3, TmAt.same e b u h4, h5.same e⟩
  | .rc i ids b o, v, h => by
    unfold TmAt at h ⊢
    obtain ⟨a, l, u, w, h1, h2, h3, h4, h5⟩ := h
    exact ⟨a, l, u, w, h1, e _ _ h2, e _ _ h3, TmAt.same e b u h4, h5.same e⟩
  | .lt i x b o, v, h => by
    unfold TmAt at h ⊢
    obtain ⟨a, u1, u2, w, h1, h2, h3, h4, h5⟩ := h
    exact ⟨a, u1, u2, w, h1, e _ _ h2, TmAt.same e x u1 h3, TmAt.same e b u2 h4, h5.same e⟩
  | .ite x y z o, v, h => by
    unfold TmAt at h ⊢
    obtain ⟨a, u1, u2, u3, w, h1, h2, h3, h4, h5, h6⟩ := h
    exact ⟨a, u1, u2, u3, w, h1, e _ _ h2, TmAt.same e x u1 h3, TmAt.same e y u2 h4, TmAt.same e z u3 h5, h6.same e⟩
  | .app f xs o, v, h => by
    unfold TmAt at h ⊢
    obtain ⟨a, u, l, vs, w, h1, h2, h3, h4, h5, h6⟩ := h
    exact ⟨a, u, l, vs, w, h1, e _ _ h2, e _ _ h3, TmAt.same e f u h4, TmsAt.same e xs vs h5, h6.same e⟩
  | .pair x y o, v, h => by
    unfold TmAt at h ⊢
    obtain ⟨a, u1, u2, w, h1, h2, h3, h4, h5⟩ := h
    exact ⟨a, u1, u2, w, h1, e _ _ h2, TmAt.same e x u1 h3, TmAt.same e y u2 h4, h5.same e⟩
theorem TmsAt.same {F F' : Hp} (e : Same F F') : ∀ (ts : List Tm) (vs : List V), TmsAt F ts vs → TmsAt F' ts vs
  | [], vs, h => by
    unfold TmsAt at h ⊢
    exact h
  | t :: ts, vs, h => by
    unfold TmsAt at h ⊢
    obtain ⟨v, r, h1, h2, h3⟩ := h
    exact ⟨v, r, h1, TmAt.same e t v h2, TmsAt.same e ts r h3⟩
end
theorem TmsAt.snoc {F : Hp} {t : Tm} {v : V} (h2 : TmAt F t v) : ∀ {ts : List Tm} {vs : List V}, TmsAt F ts vs → TmsAt F (ts ++ [t]) (vs ++ [v])
  | [], vs, h => by
    unfold TmsAt at h
    subst h
    show TmsAt F [t] [v]
    unfold TmsAt
    exact ⟨v, [], rfl, h2, by unfold TmsAt; rfl⟩
  | u :: ts, vs, h => by
    unfold TmsAt at h
    obtain ⟨w, r, rfl, h3, h4⟩ := h
    show TmsAt F (u :: (ts ++ [t])) (w :: (r ++ [v]))
    unfold TmsAt
    exact ⟨w, r ++ [v], rfl, h3, TmsAt.snoc h2 h4⟩
theorem TmsAt.nil {F : Hp} : TmsAt F [] [] := by
  unfold TmsAt
  rfl
theorem TmsAt.len {F : Hp} : ∀ {ts : List Tm} {vs : List V}, TmsAt F ts vs → vs.length = ts.length
  | [], vs, h => by
    unfold TmsAt at h
    rw [h]
    rfl
  | t :: ts, vs, h => by
    unfold TmsAt at h
    obtain ⟨v, r, rfl, _, h3⟩ := h
    rw [List.length_cons, List.length_cons, TmsAt.len h3]
theorem TmsAt.get {F : Hp} : ∀ {ts : List Tm} {vs : List V} {i : Nat} {v : V}, TmsAt F ts vs → vs[i]? = some v → ∃ t, ts[i]? = some t ∧ TmAt F t v
  | [], vs, i, v, h, e => by
    unfold TmsAt at h
    rw [h] at e
    simp at e
  | t :: ts, vs, i, v, h, e => by
    unfold TmsAt at h
    obtain ⟨w, r, rfl, h2, h3⟩ := h
    cases i with
    | zero =>
      cases e
      exact ⟨t, rfl, h2⟩
    | succ i => exact TmsAt.get (i := i) h3 e
/-! ### sizes, depths; what a term's parts are -/
mutual
def msz : Tm → Nat
  | .int _ _ => 1
  | .prim _ _ => 1
  | .ref _ _ => 1
  | .fn _ b _ => 1 + msz b
  | .rc _ _ b _ => 1 + msz b
  | .lt _ x b _ => 1 + msz x + msz b
  | .ite x y z _ => 1 + msz x + msz y + msz z
  | .app f xs _ => 1 + msz f + mszs xs
  | .pair x y _ => 1 + msz x + msz y
def mszs : List Tm → Nat
  | [] => 0
  | t :: ts => msz t + mszs ts
end
mutual
/-- nesting -/
def mht : Tm → Nat
  | .int _ _ => 0
  | .prim _ _ => 0
  | .ref _ _ => 0
  | .fn _ b _ => 1 + mht b
  | .rc _ _ b _ => 1 + mht b
  | .lt _ x b _ => 1 + max (mht x) (mht b)
  | .ite x y z _ => 1 + max (mht x) (max (mht y) (mht z))
  | .app f xs _ => 1 + max (mht f) (mhts xs)
  | .pair x y _ => 1 + max (mht x) (mht y)
def mhts : List Tm → Nat
  | [] => 0
  | t :: ts => max (mht t) (mhts ts)
end
mutual
/-- bound in env, the parts within bounds -/
def mok : List Int → Tm → Prop
  | _, .int n o => n.natAbs ≤ 999999999 ∧ OgOk o
  | _, .prim s o => s.length ≤ 20 ∧ (∀ c ∈ s.cps.toList, c < 128) ∧ OgOk o
  | env, .ref i o => i ∈ env ∧ i.natAbs ≤ 100000 ∧ OgOk o
  | env, .fn ids b o => ids.length ≤ 4 ∧ (∀ i ∈ ids, i.natAbs ≤ 100000) ∧ mok (env ++ ids) b ∧ OgOk o ∧ ids.Nodup
  | env, .rc i ids b o => ids.length ≤ 4 ∧ i.natAbs ≤ 100000 ∧ (∀ i ∈ ids, i.natAbs ≤ 100000) ∧ mok (env ++ [i] ++ ids) b ∧ OgOk o ∧ (i :: ids).Nodup
  | env, .lt i x b o => i.natAbs ≤ 100000 ∧ mok env x ∧ mok (env ++ [i]) b ∧ OgOk o
  | env, .ite x y z o => mok env x ∧ mok env y ∧ mok env z ∧ OgOk o
  | env, .app f xs o => mok env f ∧ moks env xs ∧ OgOk o
  | _, .pair _ _ _ => False
def moks : List Int → List Tm → Prop
  | _, [] => True
  | env, t :: ts => mok env t ∧ moks env ts
end
theorem mszs_app : ∀ (a b : List Tm), mszs (a ++ b) = mszs a + mszs b
  | [], b => by
    show mszs b = _
    simp only [mszs]
    omega
  | t :: a, b => by
    show mszs (t :: (a ++ b)) = _
    simp only [mszs]
    rw [mszs_app a b]
    omega
theorem mhts_app : ∀ (a b : List Tm), mhts (a ++ b) = max (mhts a) (mhts b)
  | [], b => by
    show mhts b = _
    simp only [mhts]
    omega
  | t :: a, b => by
    show mhts (t :: (a ++ b)) = _
    simp only [mhts]
    rw [mhts_app a b]
    omega
theorem moks_app (env : List Int) : ∀ (a b : List Tm), moks env a → moks env b → moks env (a ++ b)
  | [], b, _, h => h
  | t :: a, b, h, g => by
    simp only [moks] at h
    show moks env (t :: (a ++ b))
    simp only [moks]
    exact ⟨h.1, moks_app env a b h.2 g⟩
theorem moks_get {env : List Int} : ∀ {ts : List Tm} {i : Nat} {t : Tm}, moks env ts → ts[i]? = some t → mok env t
  | [], i, t, _, e => by simp at e
  | u :: ts, i, t, h, e => by
    simp only [moks] at h
    cases i with
    | zero =>
      cases e
      exact h.1
    | succ i => exact moks_get (i := i) h.2 e
end Sg

namespace Sg
open PySem PySem.Spec PyProof.Rows L2
/-! ### _law_plain -/
section
variable {K : PySem.W.Frag}
theorem seqT_same {H H' : Hp} {a : Addr} {xs : List V} (e : Same H H') (h : SqT K H a xs) : SqT K H' a xs := by
  rcases h with h | h
  · rcases h with h | ⟨o, h⟩
    · exact .inl (.inl (e _ _ h))
    · exact .inl (.inr ⟨o, e _ _ h⟩)
  · exact .inr h
mutual
theorem Dp.same {F F' : Hp} (e : Same F F') : ∀ (d : PyData) (v : V), Dp K F v d → Dp K F' v d
  | .none, _, h => by
    cases h
    exact .non
  | .bool b, _, h => by
    cases h
    exact .bl b
  | .int i, _, h => by
    cases h
    exact .int i
  | .str x, _, h => by
    cases h
    exact .str x
  | .list ds, _, h => by
    cases h with
    | lst hs ha => exact .lst (e.seq hs) (DpAll.same e ds _ ha)
  | .tuple ds, _, h => by
    cases h with
    | tup hs ha => exact .tup (seqT_same e hs) (DpAll.same e ds _ ha)
  | .dict _, _, h => by cases h
theorem DpAll.same {F F' : Hp} (e : Same F F') : ∀ (ds : List PyData) (vs : List V), DpAll K F vs ds → DpAll K F' vs ds
  | [], _, h => by
    cases h
    exact .nil
  | d :: ds, _, h => by
    cases h with
    | cons h1 h2 => exact .cons (Dp.same e d _ h1) (DpAll.same e ds _ h2)
end
theorem DpAll.snoc {F : Hp} {v : V} {d : PyData} (h2 : Dp K F v d) : ∀ {vs : List V} {ds : List PyData}, DpAll K F vs ds → DpAll K F (vs ++ [v]) (ds ++ [d])
  | [], _, h => by
    cases h
    exact .cons h2 .nil
  | x :: vs, _, h => by
    cases h with
    | cons h1 h3 => exact .cons h1 (DpAll.snoc h2 h3)
theorem DpAll.len {F : Hp} : ∀ {vs : List V} {ds : List PyData}, DpAll K F vs ds → vs.length = ds.length
  | [], _, h => by
    cases h
    rfl
  | x :: vs, _, h => by
    cases h with
    | cons h1 h3 => rw [List.length_cons, List.length_cons, DpAll.len h3]
end
theorem mhts_get : ∀ {ts : List Tm} {i : Nat} {t : Tm}, ts[i]? = some t → mht t ≤ mhts ts
  | [], i, t, e => by simp at e
  | u :: ts, i, t, e => by
    simp only [mhts]
    cases i with
    | zero =>
      cases e
      omega
    | succ i =>
      have := mhts_get (ts := ts) (i := i) e
      omega
theorem mszs_get : ∀ {ts : List Tm} {i : Nat} {t : Tm}, ts[i]? = some t → msz t ≤ mszs ts
  | [], i, t, e => by simp at e
  | u :: ts, i, t, e => by
    simp only [mszs]
    cases i with
    | zero =>
      cases e
      omega
    | succ i =>
      have := mszs_get (ts := ts) (i := i) e
      omega
theorem msz_pos : ∀ t : Tm, 1 ≤ msz t := fun t => by
  cases t <;> (simp only [msz]; omega)
theorem len_mszs : ∀ ts : List Tm, ts.length ≤ mszs ts
  | [] => Nat.zero_le _
  | t :: ts => by
    have := len_mszs ts
    have := msz_pos t
    simp only [mszs, List.length_cons]
    omega
end Sg

namespace Sg
open PySem PySem.Spec PyProof.Rows L2
/-! ### inner_terms, bound_in_body -/
def kids : Tm → List Tm
  | .int _ _ => []
  | .prim _ _ => []
  | .ref _ _ => []
  | .fn _ b _ => [b]
  | .rc _ _ b _ => [b]
  | .lt _ x b _ => [x, b]
  | .ite x y z _ => [x, y, z]
  | .app f xs _ => f :: xs
  | .pair x y _ => [x, y]
def bnds : Tm → List Int
  | .fn ids _ _ => ids
  | .rc i ids _ _ => i :: ids
  | .lt i _ _ _ => [i]
  | _ => []
def kind : Tm → Str
  | .int _ _ => "int"
  | .prim _ _ => "prim"
  | .ref _ _ => "ref"
  | .fn _ _ _ => "fn"
  | .rc _ _ _ _ => "rec"
  | .lt _ _ _ _ => "let"
  | .ite _ _ _ _ => "if"
  | .app _ _ _ => "app"
  | .pair _ _ _ => "pair"
/-- every list in it is short -/
def fewK (t : Tm) : Prop := (kids t).length ≤ 9000 ∧ (bnds t).length ≤ 9000
theorem TmsAt.one {F : Hp} {t : Tm} {v : V} (h : TmAt F t v) : TmsAt F [t] [v] := by
  unfold TmsAt
  exact ⟨v, [], rfl, h, .nil⟩
theorem TmsAt.cons {F : Hp} {t : Tm} {v : V} {ts : List Tm} {vs : List V} (h : TmAt F t v) (g : TmsAt F ts vs) : TmsAt F (t :: ts) (v :: vs) := by
  unfold TmsAt
  exact ⟨v, vs, rfl, h, g⟩
def spKids : Sp := fun vs H Q _ => ∃ (F : Hp) (t : Tm) (v : V), vs = [v] ∧ Same F H ∧ TmAt F t v ∧ (kids t).length ≤ 9000 ∧ ∀ H' p xs, Same H H' → H p = none → H' p = some (.lst xs) → TmsAt F (kids t) xs → Q (.ref p) H'
def spBnds : Sp := fun vs H Q _ => ∃ (F : Hp) (t : Tm) (v : V), vs = [v] ∧ Same F H ∧ TmAt F t v ∧ (bnds t).length ≤ 9000 ∧ ∀ H' p, Same H H' → H p = none → H' p = some (.lst ((bnds t).map V.int)) → Q (.ref p) H'
theorem scKids : FnScope ["term", "kind"] ["term"] (defScope cInnerTerms) := ⟨rfl, rfl, rfl, by decide +kernel, rfl, by decide +kernel, by decide +kernel⟩
theorem scBnds : FnScope ["term"] ["term"] (defScope cBoundInBody) := ⟨rfl, rfl, rfl, by decide +kernel, rfl, by decide +kernel, by decide +kernel⟩
section
variable {P : Program} {w : World} {K : PySem.W.Frag} {mg : Str → Option Value} {base : Heap}
theorem ok_kids {f : Addr} {fd : FuncData} {k : Nat} (F : Fun K "inner_terms" "inner_terms" cInnerTerms f fd) (mL : mg "list" = none) : FnOk P w K mg base CX0 (k + 1) f fd ["term"] spKids := by
  refine F.ok scKids (fun vs H Q E h => ?_) (fun cdv A outer st H vs Q E hr h => ?_)
  · obtain ⟨F, t, v, rfl, _⟩ := h
    rfl
  obtain ⟨Fh, t, v, rfl, sF, ta, hb, q⟩ := h
  refine ⟨_, pss_cons (ps_set (i := 1) scKids.nd rfl (.inl rfl) (pe_ix ix_tup (pv 0) pe_int (fun _ _ => rfl)))
    (pss_cons (ps_if (pt_cmpR op_in_seq (pv 1) (pe_tup (pa_cons pe_str (pa_cons pe_str (pa_cons pe_str pa_nil)))) rfl) (pss_one (ps_ret (pe_lst pa_nil))) pss_nil)
    (pss_cons (ps_if (pt_cmpR op_eq (pv 1) pe_str (nomark _)) (pss_one (ps_ret (pe_lst (pa_cons (pe_ix ix_tup (pv 0) pe_int (fun _ _ => rfl)) (StX.pa_star (pe_ix ix_tup (pv 0) pe_int (fun _ _ => rfl)) pa_nil))))) pss_nil)
    (pss_cons (ps_if (pt_cmpR op_eq (pv 1) pe_str (nomark _)) (pss_one (ps_ret (pe_lst (pa_cons (pe_ix ix_tup (pv 0) pe_int (fun _ _ => rfl)) pa_nil)))) pss_nil)
    (pss_cons (ps_if (pt_cmpR op_eq (pv 1) pe_str (nomark _)) (pss_one (ps_ret (pe_lst (pa_cons (pe_ix ix_tup (pv 0) pe_int (fun _ _ => rfl)) pa_nil)))) pss_nil)
    (pss_cons (ps_if (pt_cmpR op_eq (pv 1) pe_str (nomark _)) (pss_one (ps_ret (pe_lst (pa_cons (pe_ix ix_tup (pv 0) pe_int (fun _ _ => rfl)) (pa_cons (pe_ix ix_tup (pv 0) pe_int (fun _ _ => rfl)) pa_nil))))) pss_nil)
    (pss_one (ps_ret (pe_callTy call_list_of (by rfl) mL boot_list (pa_cons (pe_slice sl_tup (pv 0) (po_some pe_int) (po_some (pe_un un_neg pe_int))) pa_nil))))))))), ?_⟩
  cases t with
  | int n o =>
    unfold TmAt at ta
    obtain ⟨a, w, rfl, ea, og⟩ := ta
    have ea0 := sF _ _ ea
    refine ⟨_, rfl, a, _, 0, _, rfl, rfl, SqT.of ea0, at0, ?_⟩
    refine ⟨_, rfl, by show 3 ≤ sizeLine; decide, fun tp ntp => ?_⟩
    refine ⟨tp, _, rfl, .inr (SqT.of upd_same), rfl, rfl, _, rfl, ?_⟩
    have sm1 : Same H (upd H tp (.tup [.str "int", .str "prim", .str "ref"])) := same_new ntp _
    generalize upd H tp (.tup [.str "int", .str "prim", .str "ref"]) = H1 at sm1
    refine if_true_of (by decide +kernel) ?_
    refine ⟨by show 0 ≤ sizeLine; decide, fun p np => ?_⟩
    exact q _ p [] (sm1.trans (same_new np _)) (sm1.free np) upd_same .nil
  | prim n o =>
    unfold TmAt at ta
    obtain ⟨a, w, rfl, ea, og⟩ := ta
    have ea0 := sF _ _ ea
    refine ⟨_, rfl, a, _, 0, _, rfl, rfl, SqT.of ea0, at0, ?_⟩
    refine ⟨_, rfl, by show 3 ≤ sizeLine; decide, fun tp ntp => ?_⟩
    refine ⟨tp, _, rfl, .inr (SqT.of upd_same), rfl, rfl, _, rfl, ?_⟩
    have sm1 : Same H (upd H tp (.tup [.str "int", .str "prim", .str "ref"])) := same_new ntp _
    generalize upd H tp (.tup [.str "int", .str "prim", .str "ref"]) = H1 at sm1
    refine if_true_of (by decide +kernel) ?_
    refine ⟨by show 0 ≤ sizeLine; decide, fun p np => ?_⟩
    exact q _ p [] (sm1.trans (same_new np _)) (sm1.free np) upd_same .nil
  | ref i o =>
    unfold TmAt at ta
    obtain ⟨a, w, rfl, ea, og⟩ := ta
    have ea0 := sF _ _ ea
    refine ⟨_, rfl, a, _, 0, _, rfl, rfl, SqT.of ea0, at0, ?_⟩
    refine ⟨_, rfl, by show 3 ≤ sizeLine; decide, fun tp ntp => ?_⟩
    refine ⟨tp, _, rfl, .inr (SqT.of upd_same), rfl, rfl, _, rfl, ?_⟩
    have sm1 : Same H (upd H tp (.tup [.str "int", .str "prim", .str "ref"])) := same_new ntp _
    generalize upd H tp (.tup [.str "int", .str "prim", .str "ref"]) = H1 at sm1
    refine if_true_of (by decide +kernel) ?_
    refine ⟨by show 0 ≤ sizeLine; decide, fun p np => ?_⟩
    exact q _ p [] (sm1.trans (same_new np _)) (sm1.free np) upd_same .nil
  | fn ids b o =>
    unfold TmAt at ta
    obtain ⟨a, l, u, w, rfl, ea, el, tb, og⟩ := ta
    have ea0 := sF _ _ ea
    refine ⟨_, rfl, a, _, 0, _, rfl, rfl, SqT.of ea0, at0, ?_⟩
    refine ⟨_, rfl, by show 3 ≤ sizeLine; decide, fun tp ntp => ?_⟩
    refine ⟨tp, _, rfl, .inr (SqT.of upd_same), rfl, rfl, _, rfl, ?_⟩
    have sm1 : Same H (upd H tp (.tup [.str "int", .str "prim", .str "ref"])) := same_new ntp _
    generalize upd H tp (.tup [.str "int", .str "prim", .str "ref"]) = H1 at sm1
    refine if_false_of (by decide +kernel) ?_
    have ea1 := sm1 _ _ ea0
    refine ⟨_, rfl, rfl, _, rfl, ?_⟩
    refine if_false_of (str_ne (by decide +kernel)) ?_
    refine ⟨_, rfl, rfl, _, rfl, ?_⟩
    refine if_true_of str_eq ?_
    refine ⟨_, rfl, a, _, 2, _, rfl, rfl, SqT.of ea1, atI_nat (j := 2) rfl, ?_⟩
    refine ⟨by show 1 ≤ sizeLine; decide, fun p np => ?_⟩
    exact q _ p [u] (sm1.trans (same_new np _)) (sm1.free np) upd_same (.one tb)
  | rc i ids b o =>
    unfold TmAt at ta
    obtain ⟨a, l, u, w, rfl, ea, el, tb, og⟩ := ta
    have ea0 := sF _ _ ea
    refine ⟨_, rfl, a, _, 0, _, rfl, rfl, SqT.of ea0, at0, ?_⟩
    refine ⟨_, rfl, by show 3 ≤ sizeLine; decide, fun tp ntp => ?_⟩
    refine ⟨tp, _, rfl, .inr (SqT.of upd_same), rfl, rfl, _, rfl, ?_⟩
    have sm1 : Same H (upd H tp (.tup [.str "int", .str "prim", .str "ref"])) := same_new ntp _
    generalize upd H tp (.tup [.str "int", .str "prim", .str "ref"]) = H1 at sm1
    refine if_false_of (by decide +kernel) ?_
    have ea1 := sm1 _ _ ea0
    refine ⟨_, rfl, rfl, _, rfl, ?_⟩
    refine if_false_of (str_ne (by decide +kernel)) ?_
    refine ⟨_, rfl, rfl, _, rfl, ?_⟩
    refine if_false_of (str_ne (by decide +kernel)) ?_
    refine ⟨_, rfl, rfl, _, rfl, ?_⟩
    refine if_true_of str_eq ?_
    refine ⟨_, rfl, a, _, 3, _, rfl, rfl, SqT.of ea1, atI_nat (j := 3) rfl, ?_⟩
    refine ⟨by show 1 ≤ sizeLine; decide, fun p np => ?_⟩
    exact q _ p [u] (sm1.trans (same_new np _)) (sm1.free np) upd_same (.one tb)
  | lt i x b o =>
    unfold TmAt at ta
    obtain ⟨a, u1, u2, w, rfl, ea, t1, t2, og⟩ := ta
    have ea0 := sF _ _ ea
    refine ⟨_, rfl, a, _, 0, _, rfl, rfl, SqT.of ea0, at0, ?_⟩
    refine ⟨_, rfl, by show 3 ≤ sizeLine; decide, fun tp ntp => ?_⟩
    refine ⟨tp, _, rfl, .inr (SqT.of upd_same), rfl, rfl, _, rfl, ?_⟩
    have sm1 : Same H (upd H tp (.tup [.str "int", .str "prim", .str "ref"])) := same_new ntp _
    generalize upd H tp (.tup [.str "int", .str "prim", .str "ref"]) = H1 at sm1
    refine if_false_of (by decide +kernel) ?_
    have ea1 := sm1 _ _ ea0
    refine ⟨_, rfl, rfl, _, rfl, ?_⟩
    refine if_false_of (str_ne (by decide +kernel)) ?_
    refine ⟨_, rfl, rfl, _, rfl, ?_⟩
    refine if_false_of (str_ne (by decide +kernel)) ?_
    refine ⟨_, rfl, rfl, _, rfl, ?_⟩
    refine if_false_of (str_ne (by decide +kernel)) ?_
    refine ⟨_, rfl, rfl, _, rfl, ?_⟩
    refine if_true_of str_eq ?_
    refine ⟨_, rfl, a, _, 2, _, rfl, rfl, SqT.of ea1, atI_nat (j := 2) rfl, ?_⟩
    refine ⟨_, rfl, a, _, 3, _, rfl, rfl, SqT.of ea1, atI_nat (j := 3) rfl, ?_⟩
    refine ⟨by show 2 ≤ sizeLine; decide, fun p np => ?_⟩
    exact q _ p [u1, u2] (sm1.trans (same_new np _)) (sm1.free np) upd_same (.cons t1 (.one t2))
  | ite x y z o =>
    unfold TmAt at ta
    obtain ⟨a, u1, u2, u3, w, rfl, ea, t1, t2, t3, og⟩ := ta
    have ea0 := sF _ _ ea
    refine ⟨_, rfl, a, _, 0, _, rfl, rfl, SqT.of ea0, at0, ?_⟩
    refine ⟨_, rfl, by show 3 ≤ sizeLine; decide, fun tp ntp => ?_⟩
    refine ⟨tp, _, rfl, .inr (SqT.of upd_same), rfl, rfl, _, rfl, ?_⟩
    have sm1 : Same H (upd H tp (.tup [.str "int", .str "prim", .str "ref"])) := same_new ntp _
    generalize upd H tp (.tup [.str "int", .str "prim", .str "ref"]) = H1 at sm1
    refine if_false_of (by decide +kernel) ?_
    have ea1 := sm1 _ _ ea0
    refine ⟨_, rfl, rfl, _, rfl, ?_⟩
    refine if_false_of (str_ne (by decide +kernel)) ?_
    refine ⟨_, rfl, rfl, _, rfl, ?_⟩
    refine if_false_of (str_ne (by decide +kernel)) ?_
    refine ⟨_, rfl, rfl, _, rfl, ?_⟩
    refine if_false_of (str_ne (by decide +kernel)) ?_
    refine ⟨_, rfl, rfl, _, rfl, ?_⟩
    refine if_false_of (str_ne (by decide +kernel)) ?_
    refine ⟨_, rfl, _, rfl, _, rfl, _, rfl, a, _, rfl, SqT.of ea1, by show ¬(HT.sIx 5 0 (some 1) = 0 ∧ HT.sIx 5 5 (some (-1)) = 5); decide, fun p np => ?_⟩
    have sm2 : Same H1 (upd H1 p (.tup [u1, u2, u3])) := same_new np _
    have ep : (upd H1 p (.tup [u1, u2, u3])) p = some (.tup [u1, u2, u3]) := upd_same
    refine ⟨p, [u1, u2, u3], rfl, .inr (SqT.of ep), fun l nl => ?_⟩
    exact q _ l [u1, u2, u3] ((sm1.trans sm2).trans (same_new nl _)) ((sm1.trans sm2).free nl) upd_same (.cons t1 (.cons t2 (.one t3)))
  | app f xs o =>
    unfold TmAt at ta
    obtain ⟨a, u, l, us, w, rfl, ea, el, tf, tx, og⟩ := ta
    have ea0 := sF _ _ ea
    refine ⟨_, rfl, a, _, 0, _, rfl, rfl, SqT.of ea0, at0, ?_⟩
    refine ⟨_, rfl, by show 3 ≤ sizeLine; decide, fun tp ntp => ?_⟩
    refine ⟨tp, _, rfl, .inr (SqT.of upd_same), rfl, rfl, _, rfl, ?_⟩
    have sm1 : Same H (upd H tp (.tup [.str "int", .str "prim", .str "ref"])) := same_new ntp _
    generalize upd H tp (.tup [.str "int", .str "prim", .str "ref"]) = H1 at sm1
    refine if_false_of (by decide +kernel) ?_
    have ea1 := sm1 _ _ ea0
    refine ⟨_, rfl, rfl, _, rfl, ?_⟩
    refine if_true_of str_eq ?_
    have el1 := sm1 _ _ (sF _ _ el)
    have ll := tx.len
    have hb1 : xs.length + 1 ≤ 9000 := hb
    refine ⟨_, rfl, a, _, 1, _, rfl, rfl, SqT.of ea1, atI_nat (j := 1) rfl, ?_⟩
    refine ⟨_, rfl, a, _, 2, _, rfl, rfl, SqT.of ea1, atI_nat (j := 2) rfl, ?_⟩
    refine ⟨l, us, rfl, .inr (SqL.of el1), ?_⟩
    refine ⟨?_, fun p np => ?_⟩
    · show (u :: (us ++ [])).length ≤ sizeLine
      rw [List.append_nil, List.length_cons, ll]
      exact small (by omega)
    · refine q _ p (u :: us) (sm1.trans (same_new np _)) (sm1.free np) ?_ (.cons tf tx)
      rw [upd_same, List.append_nil]
  | pair x y o =>
    unfold TmAt at ta
    obtain ⟨a, u1, u2, w, rfl, ea, t1, t2, og⟩ := ta
    have ea0 := sF _ _ ea
    refine ⟨_, rfl, a, _, 0, _, rfl, rfl, SqT.of ea0, at0, ?_⟩
    refine ⟨_, rfl, by show 3 ≤ sizeLine; decide, fun tp ntp => ?_⟩
    refine ⟨tp, _, rfl, .inr (SqT.of upd_same), rfl, rfl, _, rfl, ?_⟩
    have sm1 : Same H (upd H tp (.tup [.str "int", .str "prim", .str "ref"])) := same_new ntp _
    generalize upd H tp (.tup [.str "int", .str "prim", .str "ref"]) = H1 at sm1
    refine if_false_of (by decide +kernel) ?_
    have ea1 := sm1 _ _ ea0
    refine ⟨_, rfl, rfl, _, rfl, ?_⟩
    refine if_false_of (str_ne (by decide +kernel)) ?_
    refine ⟨_, rfl, rfl, _, rfl, ?_⟩
    refine if_false_of (str_ne (by decide +kernel)) ?_
    refine ⟨_, rfl, rfl, _, rfl, ?_⟩
    refine if_false_of (str_ne (by decide +kernel)) ?_
    refine ⟨_, rfl, rfl, _, rfl, ?_⟩
    refine if_false_of (str_ne (by decide +kernel)) ?_
    refine ⟨_, rfl, _, rfl, _, rfl, _, rfl, a, _, rfl, SqT.of ea1, by show ¬(HT.sIx 4 0 (some 1) = 0 ∧ HT.sIx 4 4 (some (-1)) = 4); decide, fun p np => ?_⟩
    have sm2 : Same H1 (upd H1 p (.tup [u1, u2])) := same_new np _
    have ep : (upd H1 p (.tup [u1, u2])) p = some (.tup [u1, u2]) := upd_same
    refine ⟨p, [u1, u2], rfl, .inr (SqT.of ep), fun l nl => ?_⟩
    exact q _ l [u1, u2] ((sm1.trans sm2).trans (same_new nl _)) ((sm1.trans sm2).free nl) upd_same (.cons t1 (.one t2))
theorem ok_bnds {f : Addr} {fd : FuncData} {k : Nat} (F : Fun K "bound_in_body" "bound_in_body" cBoundInBody f fd) (mL : mg "list" = none) : FnOk P w K mg base CX0 (k + 1) f fd ["term"] spBnds := by
  refine F.ok scBnds (fun vs H Q E h => ?_) (fun cdv A outer st H vs Q E hr h => ?_)
  · obtain ⟨F, t, v, rfl, _⟩ := h
    rfl
  obtain ⟨Fh, t, v, rfl, sF, ta, hb, q⟩ := h
  refine ⟨_, pss_cons (ps_if (pt_cmpR op_eq (pe_ix ix_tup (pv 0) pe_int (fun _ _ => rfl)) pe_str (nomark _)) (pss_one (ps_ret (pe_callTy call_list_of (by rfl) mL boot_list (pa_cons (pe_ix ix_tup (pv 0) pe_int (fun _ _ => rfl)) pa_nil)))) pss_nil)
    (pss_cons (ps_if (pt_cmpR op_eq (pe_ix ix_tup (pv 0) pe_int (fun _ _ => rfl)) pe_str (nomark _)) (pss_one (ps_ret (pe_lst (pa_cons (pe_ix ix_tup (pv 0) pe_int (fun _ _ => rfl)) (StX.pa_star (pe_ix ix_tup (pv 0) pe_int (fun _ _ => rfl)) pa_nil))))) pss_nil)
    (pss_cons (ps_if (pt_cmpR op_eq (pe_ix ix_tup (pv 0) pe_int (fun _ _ => rfl)) pe_str (nomark _)) (pss_one (ps_ret (pe_lst (pa_cons (pe_ix ix_tup (pv 0) pe_int (fun _ _ => rfl)) pa_nil)))) pss_nil)
    (pss_one (ps_ret (pe_lst pa_nil))))), ?_⟩
  cases t with
  | int n o =>
    unfold TmAt at ta
    obtain ⟨a, w, rfl, ea, og⟩ := ta
    have ea0 := sF _ _ ea
    refine ⟨_, rfl, a, _, 0, _, rfl, rfl, SqT.of ea0, at0, rfl, _, rfl, ?_⟩
    refine if_false_of (str_ne (by decide +kernel)) ?_
    refine ⟨_, rfl, a, _, 0, _, rfl, rfl, SqT.of ea0, at0, rfl, _, rfl, ?_⟩
    refine if_false_of (str_ne (by decide +kernel)) ?_
    refine ⟨_, rfl, a, _, 0, _, rfl, rfl, SqT.of ea0, at0, rfl, _, rfl, ?_⟩
    refine if_false_of (str_ne (by decide +kernel)) ?_
    exact ⟨by show 0 ≤ sizeLine; decide, fun p np => q _ p (same_new np _) np upd_same⟩
  | prim n o =>
    unfold TmAt at ta
    obtain ⟨a, w, rfl, ea, og⟩ := ta
    have ea0 := sF _ _ ea
    refine ⟨_, rfl, a, _, 0, _, rfl, rfl, SqT.of ea0, at0, rfl, _, rfl, ?_⟩
    refine if_false_of (str_ne (by decide +kernel)) ?_
    refine ⟨_, rfl, a, _, 0, _, rfl, rfl, SqT.of ea0, at0, rfl, _, rfl, ?_⟩
    refine if_false_of (str_ne (by decide +kernel)) ?_
    refine ⟨_, rfl, a, _, 0, _, rfl, rfl, SqT.of ea0, at0, rfl, _, rfl, ?_⟩
    refine if_false_of (str_ne (by decide +kernel)) ?_
    exact ⟨by show 0 ≤ sizeLine; decide, fun p np => q _ p (same_new np _) np upd_same⟩
  | ref i o =>
    unfold TmAt at ta
    obtain ⟨a, w, rfl, ea, og⟩ := ta
    have ea0 := sF _ _ ea
    refine ⟨_, rfl, a, _, 0, _, rfl, rfl, SqT.of ea0, at0, rfl, _, rfl, ?_⟩
    refine if_false_of (str_ne (by decide +kernel)) ?_
    refine ⟨_, rfl, a, _, 0, _, rfl, rfl, SqT.of ea0, at0, rfl, _, rfl, ?_⟩
    refine if_false_of (str_ne (by decide +kernel)) ?_
    refine ⟨_, rfl, a, _, 0, _, rfl, rfl, SqT.of ea0, at0, rfl, _, rfl, ?_⟩
    refine if_false_of (str_ne (by decide +kernel)) ?_
    exact ⟨by show 0 ≤ sizeLine; decide, fun p np => q _ p (same_new np _) np upd_same⟩
  | fn ids b o =>
    unfold TmAt at ta
    obtain ⟨a, l, u, w, rfl, ea, el, tb, og⟩ := ta
    have ea0 := sF _ _ ea
    refine ⟨_, rfl, a, _, 0, _, rfl, rfl, SqT.of ea0, at0, rfl, _, rfl, ?_⟩
    refine if_true_of str_eq ?_
    refine ⟨_, rfl, a, _, 1, _, rfl, rfl, SqT.of ea0, atI_nat (j := 1) rfl, ?_⟩
    exact ⟨l, _, rfl, .inl (SqL.of (sF _ _ el)), fun p np => q _ p (same_new np _) np upd_same⟩
  | rc i ids b o =>
    unfold TmAt at ta
    obtain ⟨a, l, u, w, rfl, ea, el, tb, og⟩ := ta
    have ea0 := sF _ _ ea
    refine ⟨_, rfl, a, _, 0, _, rfl, rfl, SqT.of ea0, at0, rfl, _, rfl, ?_⟩
    refine if_false_of (str_ne (by decide +kernel)) ?_
    refine ⟨_, rfl, a, _, 0, _, rfl, rfl, SqT.of ea0, at0, rfl, _, rfl, ?_⟩
    refine if_true_of str_eq ?_
    have hb1 : ids.length + 1 ≤ 9000 := hb
    refine ⟨_, rfl, a, _, 1, _, rfl, rfl, SqT.of ea0, atI_nat (j := 1) rfl, ?_⟩
    refine ⟨_, rfl, a, _, 2, _, rfl, rfl, SqT.of ea0, atI_nat (j := 2) rfl, ?_⟩
    refine ⟨l, _, rfl, .inr (SqL.of (sF _ _ el)), ?_⟩
    refine ⟨?_, fun p np => ?_⟩
    · show (V.int i :: (ids.map V.int ++ [])).length ≤ sizeLine
      rw [List.append_nil, List.length_cons, List.length_map]
      exact small (by omega)
    · refine q _ p (same_new np _) np ?_
      rw [upd_same, List.append_nil]
      rfl
  | lt i x b o =>
    unfold TmAt at ta
    obtain ⟨a, u1, u2, w, rfl, ea, t1, t2, og⟩ := ta
    have ea0 := sF _ _ ea
    refine ⟨_, rfl, a, _, 0, _, rfl, rfl, SqT.of ea0, at0, rfl, _, rfl, ?_⟩
    refine if_false_of (str_ne (by decide +kernel)) ?_
    refine ⟨_, rfl, a, _, 0, _, rfl, rfl, SqT.of ea0, at0, rfl, _, rfl, ?_⟩
    refine if_false_of (str_ne (by decide +kernel)) ?_
    refine ⟨_, rfl, a, _, 0, _, rfl, rfl, SqT.of ea0, at0, rfl, _, rfl, ?_⟩
    refine if_true_of str_eq ?_
    refine ⟨_, rfl, a, _, 1, _, rfl, rfl, SqT.of ea0, atI_nat (j := 1) rfl, ?_⟩
    exact ⟨by show 1 ≤ sizeLine; decide, fun p np => q _ p (same_new np _) np upd_same⟩
  | ite x y z o =>
    unfold TmAt at ta
    obtain ⟨a, u1, u2, u3, w, rfl, ea, t1, t2, t3, og⟩ := ta
    have ea0 := sF _ _ ea
    refine ⟨_, rfl, a, _, 0, _, rfl, rfl, SqT.of ea0, at0, rfl, _, rfl, ?_⟩
    refine if_false_of (str_ne (by decide +kernel)) ?_
    refine ⟨_, rfl, a, _, 0, _, rfl, rfl, SqT.of ea0, at0, rfl, _, rfl, ?_⟩
    refine if_false_of (str_ne (by decide +kernel)) ?_
    refine ⟨_, rfl, a, _, 0, _, rfl, rfl, SqT.of ea0, at0, rfl, _, rfl, ?_⟩
    refine if_false_of (str_ne (by decide +kernel)) ?_
    exact ⟨by show 0 ≤ sizeLine; decide, fun p np => q _ p (same_new np _) np upd_same⟩
  | app f xs o =>
    unfold TmAt at ta
    obtain ⟨a, u, l, us, w, rfl, ea, el, tf, tx, og⟩ := ta
    have ea0 := sF _ _ ea
    refine ⟨_, rfl, a, _, 0, _, rfl, rfl, SqT.of ea0, at0, rfl, _, rfl, ?_⟩
    refine if_false_of (str_ne (by decide +kernel)) ?_
    refine ⟨_, rfl, a, _, 0, _, rfl, rfl, SqT.of ea0, at0, rfl, _, rfl, ?_⟩
    refine if_false_of (str_ne (by decide +kernel)) ?_
    refine ⟨_, rfl, a, _, 0, _, rfl, rfl, SqT.of ea0, at0, rfl, _, rfl, ?_⟩
    refine if_false_of (str_ne (by decide +kernel)) ?_
    exact ⟨by show 0 ≤ sizeLine; decide, fun p np => q _ p (same_new np _) np upd_same⟩
  | pair x y o =>
    unfold TmAt at ta
    obtain ⟨a, u1, u2, w, rfl, ea, t1, t2, og⟩ := ta
    have ea0 := sF _ _ ea
    refine ⟨_, rfl, a, _, 0, _, rfl, rfl, SqT.of ea0, at0, rfl, _, rfl, ?_⟩
    refine if_false_of (str_ne (by decide +kernel)) ?_
    refine ⟨_, rfl, a, _, 0, _, rfl, rfl, SqT.of ea0, at0, rfl, _, rfl, ?_⟩
    refine if_false_of (str_ne (by decide +kernel)) ?_
    refine ⟨_, rfl, a, _, 0, _, rfl, rfl, SqT.of ea0, at0, rfl, _, rfl, ?_⟩
    refine if_false_of (str_ne (by decide +kernel)) ?_
    exact ⟨by show 0 ≤ sizeLine; decide, fun p np => q _ p (same_new np _) np upd_same⟩
end
end Sg

namespace Sg
open PySem PySem.Spec PyProof.Rows L2
/-! ### bounds, closed terms, substitution -/
mutual
/-- the parts within bounds -/
def wok : Tm → Prop
  | .int n o => n.natAbs ≤ 999999999 ∧ OgOk o
  | .prim s o => s.length ≤ 20 ∧ (∀ c ∈ s.cps.toList, c < 128) ∧ OgOk o
  | .ref i o => i.natAbs ≤ 100000 ∧ OgOk o
  | .fn ids b o => ids.length ≤ 4 ∧ (∀ i ∈ ids, i.natAbs ≤ 100000) ∧ wok b ∧ OgOk o
  | .rc i ids b o => ids.length ≤ 4 ∧ i.natAbs ≤ 100000 ∧ (∀ i ∈ ids, i.natAbs ≤ 100000) ∧ wok b ∧ OgOk o
  | .lt i x b o => i.natAbs ≤ 100000 ∧ wok x ∧ wok b ∧ OgOk o
  | .ite x y z o => wok x ∧ wok y ∧ wok z ∧ OgOk o
  | .app f xs o => wok f ∧ woks xs ∧ OgOk o
  | .pair x y o => wok x ∧ wok y ∧ OgOk o
def woks : List Tm → Prop
  | [] => True
  | t :: ts => wok t ∧ woks ts
end
mutual
/-- no unbound variables but these -/
def clo : List Int → Tm → Prop
  | _, .int _ _ => True
  | _, .prim _ _ => True
  | env, .ref i _ => i ∈ env
  | env, .fn ids b _ => clo (env ++ ids) b
  | env, .rc i ids b _ => clo (env ++ [i] ++ ids) b
  | env, .lt i x b _ => clo env x ∧ clo (env ++ [i]) b
  | env, .ite x y z _ => clo env x ∧ clo env y ∧ clo env z
  | env, .app f xs _ => clo env f ∧ clos env xs
  | env, .pair x y _ => clo env x ∧ clo env y
def clos : List Int → List Tm → Prop
  | _, [] => True
  | env, t :: ts => clo env t ∧ clos env ts
end
theorem woks_app : ∀ (a b : List Tm), woks a → woks b → woks (a ++ b)
  | [], b, _, h => h
  | t :: a, b, h, g => by
    simp only [woks] at h
    show woks (t :: (a ++ b))
    simp only [woks]
    exact ⟨h.1, woks_app a b h.2 g⟩
theorem clos_app (env : List Int) : ∀ (a b : List Tm), clos env a → clos env b → clos env (a ++ b)
  | [], b, _, h => h
  | t :: a, b, h, g => by
    simp only [clos] at h
    show clos env (t :: (a ++ b))
    simp only [clos]
    exact ⟨h.1, clos_app env a b h.2 g⟩
theorem woks_get : ∀ {ts : List Tm} {i : Nat} {t : Tm}, woks ts → ts[i]? = some t → wok t
  | [], i, t, _, e => by simp at e
  | u :: ts, i, t, h, e => by
    simp only [woks] at h
    cases i with
    | zero =>
      cases e
      exact h.1
    | succ i => exact woks_get (i := i) h.2 e
theorem clos_get {env : List Int} : ∀ {ts : List Tm} {i : Nat} {t : Tm}, clos env ts → ts[i]? = some t → clo env t
  | [], i, t, _, e => by simp at e
  | u :: ts, i, t, h, e => by
    simp only [clos] at h
    cases i with
    | zero =>
      cases e
      exact h.1
    | succ i => exact clos_get (i := i) h.2 e
/-- the values that are left where these numbers are bound again -/
def rmM (m : Int → Option Tm) (ids : List Int) : Int → Option Tm := fun x => if x ∈ ids then none else m x
theorem rmM_nil (m : Int → Option Tm) : rmM m [] = m := by
  funext x
  unfold rmM
  rw [if_neg (by simp)]
theorem rmM_none (ids : List Int) : rmM (fun _ => none) ids = fun _ => none := by
  funext x
  unfold rmM
  split <;> rfl
mutual
def sub : (Int → Option Tm) → Tm → Tm
  | _, .int n o => .int n o
  | _, .prim s o => .prim s o
  | m, .ref i o => (m i).getD (.ref i o)
  | m, .fn ids b o => .fn ids (sub (rmM m ids) b) o
  | m, .rc i ids b o => .rc i ids (sub (rmM m (i :: ids)) b) o
  | m, .lt i x b o => .lt i (sub m x) (sub (rmM m [i]) b) o
  | m, .ite x y z o => .ite (sub m x) (sub m y) (sub m z) o
  | m, .app f xs o => .app (sub m f) (subs m xs) o
  | m, .pair x y o => .pair (sub m x) (sub m y) o
def subs : (Int → Option Tm) → List Tm → List Tm
  | _, [] => []
  | m, t :: ts => sub m t :: subs m ts
end
mutual
theorem sub_none : ∀ t : Tm, sub (fun _ => none) t = t
  | .int n o => by simp only [sub]
  | .prim s o => by simp only [sub]
  | .ref i o => by simp only [sub, Option.getD_none]
  | .fn ids b o => by simp only [sub, rmM_none, sub_none b]
  | .rc i ids b o => by simp only [sub, rmM_none, sub_none b]
  | .lt i x b o => by simp only [sub, rmM_none, sub_none x, sub_none b]
  | .ite x y z o => by simp only [sub, sub_none x, sub_none y, sub_none z]
  | .app f xs o => by simp only [sub, sub_none f, subs_none xs]
  | .pair x y o => by simp only [sub, sub_none x, sub_none y]
theorem subs_none : ∀ ts : List Tm, subs (fun _ => none) ts = ts
  | [] => by simp only [subs]
  | t :: ts => by simp only [subs, sub_none t, subs_none ts]
end
theorem subs_length (m : Int → Option Tm) : ∀ ts : List Tm, (subs m ts).length = ts.length
  | [] => rfl
  | t :: ts => by
    simp only [subs, List.length_cons]
    rw [subs_length m ts]
/-- the same term with other parts -/
def rebT : Tm → List Tm → Tm
  | .fn ids _ o, [u] => .fn ids u o
  | .rc i ids _ o, [u] => .rc i ids u o
  | .lt i _ _ o, [u, v] => .lt i u v o
  | .ite _ _ _ o, [u, v, w] => .ite u v w o
  | .app _ _ o, u :: us => .app u us o
  | .pair _ _ o, [u, v] => .pair u v o
  | t, _ => t
/-- a term's parts with the values put in -/
def kidS : (Int → Option Tm) → Tm → List Tm
  | m, .fn ids b _ => [sub (rmM m ids) b]
  | m, .rc i ids b _ => [sub (rmM m (i :: ids)) b]
  | m, .lt i x b _ => [sub m x, sub (rmM m [i]) b]
  | m, t => subs m (kids t)
theorem rebT_sub (m : Int → Option Tm) : ∀ t : Tm, (∀ i o, t ≠ .ref i o) → rebT t (kidS m t) = sub m t := fun t h => by
  cases t with
  | ref i o => exact absurd rfl (h i o)
  | _ => simp only [kidS, kids, subs, rebT, sub]
theorem kidS_length (m : Int → Option Tm) (t : Tm) : (kidS m t).length = (kids t).length := by
  cases t <;> (simp only [kidS, kids, subs_length]; try rfl)
/-- no bound numbers: all parts alike -/
theorem kidS_free (m : Int → Option Tm) : ∀ {t : Tm}, bnds t = [] → kidS m t = subs m (kids t) := by
  intro t hb
  cases t with
  | fn ids b o =>
    have e0 : ids = [] := hb
    subst e0
    simp only [kidS, kids, subs, rmM_nil]
  | rc i ids b o => cases hb
  | lt i x b o => cases hb
  | _ => rfl
theorem kidS_bound (m : Int → Option Tm) : ∀ {t : Tm}, bnds t ≠ [] → ∃ pre b, kids t = pre ++ [b] ∧ kidS m t = subs m pre ++ [sub (rmM m (bnds t)) b] := by
  intro t hb
  cases t with
  | fn ids b o => exact ⟨[], b, rfl, rfl⟩
  | rc i ids b o => exact ⟨[], b, rfl, rfl⟩
  | lt i x b o => exact ⟨[x], b, rfl, rfl⟩
  | _ => exact absurd rfl hb
theorem subs_app (m : Int → Option Tm) : ∀ a b : List Tm, subs m (a ++ b) = subs m a ++ subs m b
  | [], b => by simp only [List.nil_append, subs]
  | t :: a, b => by
    show subs m (t :: (a ++ b)) = _
    simp only [subs]
    rw [subs_app m a b]
    rfl
theorem msz_kids : ∀ t : Tm, msz t = 1 + mszs (kids t) := fun t => by
  cases t <;> (simp only [msz, kids, mszs]; try omega)
/-! ### dicts of values -/
def DG (kvs : List (Key × V)) (c : Int → Option V) : Prop := (∀ i : Int, valV kvs (Sum.inl i : Key) = c i) ∧ ∀ p ∈ kvs, ∃ (i : Int) (v : V), p = ((Sum.inl i : Key), v)
def upG (c : Int → Option V) (i : Int) (v : V) : Int → Option V := fun x => if x = i then some v else c x
def rmC (c : Int → Option V) (ids : List Int) : Int → Option V := fun x => if x ∈ ids then none else c x
theorem DG.nil : DG [] fun _ => none := ⟨fun i => rfl, fun p h => by cases h⟩
theorem DG.put {kvs : List (Key × V)} {c : Int → Option V} {i : Int} {v : V} (d : DG kvs c) : DG (putK kvs (Sum.inl i : Key) v) (upG c i v) := by
  refine ⟨fun x => ?_, fun p hp => ?_⟩
  · rw [valV_put]
    unfold upG
    by_cases z : x = i
    · rw [if_pos z, if_pos (by rw [z])]
    · rw [if_neg z, if_neg (fun w => z (by injection w))]
      exact d.1 x
  · unfold putK at hp
    split at hp
    · obtain ⟨q, hq, e⟩ := List.mem_map.mp hp
      obtain ⟨a, b, rfl⟩ := d.2 q hq
      by_cases z : (Sum.inl a : Key) = Sum.inl i
      · rw [if_pos z] at e
        exact ⟨a, v, e.symm⟩
      · rw [if_neg z] at e
        exact ⟨a, b, e.symm⟩
    · rcases List.mem_append.mp hp with e | e
      · exact d.2 p e
      · exact ⟨i, v, List.mem_singleton.mp e⟩
theorem DG.has {kvs : List (Key × V)} {c : Int → Option V} (d : DG kvs c) {i : Int} {v : V} (h : ((Sum.inl i : Key), v) ∈ kvs) : ∃ x, c i = some x := by
  have q := valV_any (Sum.inl i : Key) kvs
  have a : (kvs.any fun kv => decide (kv.1 = (Sum.inl i : Key))) = true := List.any_eq_true.mpr ⟨_, h, decide_eq_true rfl⟩
  rw [a, d.1 i] at q
  cases e : c i with
  | none =>
    rw [e] at q
    cases q
  | some x => exact ⟨x, rfl⟩
/-- the copied part: of a dict with c, without these numbers -/
def CG (kvs : List (Key × V)) (c ci : Int → Option V) (t : Nat) : Prop := ∀ x, (ci x = none ∨ ci x = c x) ∧ ((∃ y, ((Sum.inl x : Key), y) ∈ kvs.take t) → ci x = c x)
theorem CG.nil {kvs : List (Key × V)} {c : Int → Option V} : CG kvs c (fun _ => none) 0 := fun x => ⟨.inl rfl, fun ⟨y, h⟩ => by
  rw [List.take_zero] at h
  cases h⟩
theorem CG.step {kvs : List (Key × V)} {c ci : Int → Option V} {t : Nat} {i : Int} {u v : V} (h : CG kvs c ci t) (e : kvs[t]? = some ((Sum.inl i : Key), u)) (hm : c i = some v) : CG kvs c (upG ci i v) (t + 1) := fun x => by
  unfold upG
  by_cases z : x = i
  · rw [if_pos z, z]
    exact ⟨.inr hm.symm, fun _ => hm.symm⟩
  · rw [if_neg z]
    refine ⟨(h x).1, fun ⟨y, hy⟩ => ?_⟩
    rw [List.take_add_one, e] at hy
    rcases List.mem_append.mp hy with w | w
    · exact (h x).2 ⟨y, w⟩
    · have w2 := List.mem_singleton.mp (show ((Sum.inl x : Key), y) ∈ [((Sum.inl i : Key), u)] from w)
      injection w2 with w3 _
      injection w3 with w4
      exact absurd w4 z
theorem CG.skip {kvs : List (Key × V)} {c ci : Int → Option V} {t : Nat} {i : Int} {u : V} (h : CG kvs c ci t) (e : kvs[t]? = some ((Sum.inl i : Key), u)) (hm : c i = none) : CG kvs c ci (t + 1) := fun x => by
  refine ⟨(h x).1, fun ⟨y, hy⟩ => ?_⟩
  rw [List.take_add_one, e] at hy
  rcases List.mem_append.mp hy with w | w
  · exact (h x).2 ⟨y, w⟩
  · have w2 := List.mem_singleton.mp (show ((Sum.inl x : Key), y) ∈ [((Sum.inl i : Key), u)] from w)
    injection w2 with w3 _
    injection w3 with w4
    rw [w4]
    rcases (h i).1 with z | z
    · rw [z, hm]
    · exact z
theorem CG.all {kvs : List (Key × V)} {c0 c ci : Int → Option V} (d : DG kvs c0) (hc : ∀ x v, c x = some v → ∃ y, c0 x = some y) (h : CG kvs c ci kvs.length) : ci = c := by
  funext x
  rcases (h x).1 with e | e
  · cases q : c x with
    | none => exact e
    | some j =>
      obtain ⟨y, hy⟩ := hc x j q
      have a := valV_any (Sum.inl x : Key) kvs
      rw [d.1 x, hy] at a
      have a' : (kvs.any fun kv => decide (kv.1 = (Sum.inl x : Key))) = true := a
      obtain ⟨p, hp, e2⟩ := List.any_eq_true.mp a'
      have e3 : p.1 = Sum.inl x := of_decide_eq_true e2
      have := (h x).2 ⟨p.2, by rw [List.take_length]; obtain ⟨p1, p2⟩ := p; exact e3 ▸ hp⟩
      rw [this]
      exact q
  · exact e
/-- what the dict gives are terms -/
def TC (F : Hp) (m : Int → Option Tm) (c : Int → Option V) : Prop := ∀ i, (m i = none ∧ c i = none) ∨ ∃ t v, m i = some t ∧ c i = some v ∧ TmAt F t v
theorem TC.nil {F : Hp} : TC F (fun _ => none) fun _ => none := fun _ => .inl ⟨rfl, rfl⟩
theorem TC.same {F F' : Hp} {m : Int → Option Tm} {c : Int → Option V} (e : Same F F') (h : TC F m c) : TC F' m c := fun i => (h i).imp id fun ⟨t, v, a, b, d⟩ => ⟨t, v, a, b, TmAt.same e t v d⟩
theorem TC.rm {F : Hp} {m : Int → Option Tm} {c : Int → Option V} (h : TC F m c) (ids : List Int) : TC F (rmM m ids) (rmC c ids) := fun i => by
  unfold rmM rmC
  by_cases z : i ∈ ids
  · rw [if_pos z, if_pos z]
    exact .inl ⟨rfl, rfl⟩
  · rw [if_neg z, if_neg z]
    exact h i
def upT (m : Int → Option Tm) (i : Int) (t : Tm) : Int → Option Tm := fun x => if x = i then some t else m x
theorem TC.up {F : Hp} {m : Int → Option Tm} {c : Int → Option V} {i : Int} {t : Tm} {v : V} (h : TC F m c) (ht : TmAt F t v) : TC F (upT m i t) (upG c i v) := fun x => by
  unfold upT upG
  by_cases z : x = i
  · rw [if_pos z, if_pos z]
    exact .inr ⟨t, v, rfl, rfl, ht⟩
  · rw [if_neg z, if_neg z]
    exact h x
end Sg

namespace Sg
open PySem PySem.Spec PyProof.Rows L2
/-! ### rebuilt -/
theorem ov_sub {F H H' G : Hp} (s : Same F G) (e : ∀ b o, H b = none → H' b = some o → G b = some o) : Same (ov F H H') G := fun b o q => by
  unfold ov at q
  by_cases z : H b = none
  · rw [if_pos z] at q
    exact e _ _ z q
  · rw [if_neg z] at q
    exact s _ _ q
theorem atI_neg1 {xs : List V} {n : Nat} {v : V} (h : xs.length = n + 1) (e : xs[n]? = some v) : atI xs (-1) = some v := by
  unfold atI ixN
  rw [h, if_neg (by decide), if_pos (by omega)]
  show xs[_]? = some v
  rw [← e]
  congr 1
  omega
theorem cut_tail (u : V) (us : List V) : cutV (u :: us) (some 1) none = us := by
  unfold cutV HT.sIx
  simp only [List.length_cons]
  rw [if_neg (by decide), show min (Int.toNat 1) (us.length + 1) = 1 from Nat.min_eq_left (by show 1 ≤ us.length + 1; omega)]
  simp
def spReb : Sp := fun vs H Q _ => ∃ (F : Hp) (t : Tm) (v : V) (l : Addr) (xs : List V) (us : List Tm), vs = [v, .ref l] ∧ Same F H ∧ TmAt F t v ∧ H l = some (.lst xs) ∧ TmsAt F us xs ∧ us.length = (kids t).length ∧ (kids t).length ≤ 9000 ∧ (bnds t).length ≤ 9000 ∧
  ∀ H' u, Same H H' → TmAt (ov F H H') (rebT t us) u → Q u H'
theorem scReb : FnScope ["term", "inner", "kind", "origin"] ["term", "inner"] (defScope cRebuilt) := ⟨rfl, rfl, rfl, by decide +kernel, rfl, by decide +kernel, by decide +kernel⟩
section
variable {P : Program} {w : World} {K : PySem.W.Frag} {mg : Str → Option Value} {base : Heap}
theorem ok_reb {f : Addr} {fd : FuncData} {k : Nat} (F : Fun K "rebuilt" "rebuilt" cRebuilt f fd) (mL : mg "list" = none) : FnOk P w K mg base CX0 (k + 1) f fd ["term", "inner"] spReb := by
  refine F.ok scReb (fun vs H Q E h => ?_) (fun cdv A outer st H vs Q E hr h => ?_)
  · obtain ⟨F, t, v, l, xs, us, rfl, _⟩ := h
    rfl
  obtain ⟨Fh, t, v, il, xs, us, rfl, sF, ta, eil, tus, hus, hb, hbb, q⟩ := h
  refine ⟨_, pss_cons (ps_set (i := 2) scReb.nd rfl (.inl rfl) (pe_ix ix_tup (pv 0) pe_int (fun _ _ => rfl)))
    (pss_cons (ps_set (i := 3) scReb.nd rfl (.inl rfl) (pe_ix ix_tup (pv 0) (pe_un un_neg pe_int) (fun _ _ => rfl)))
    (pss_cons (ps_if (pt_cmpR op_in_seq (pv 2) (pe_tup (pa_cons pe_str (pa_cons pe_str (pa_cons pe_str pa_nil)))) rfl) (pss_one (ps_ret (pv 0))) pss_nil)
    (pss_cons (ps_if (pt_cmpR op_eq (pv 2) pe_str (nomark _)) (pss_one (ps_ret (pe_tup (pa_cons (pv 2) (pa_cons (pe_ix ix_list (pv 1) pe_int (fun _ _ => rfl)) (pa_cons (pe_slice sl_list (pv 1) (po_some pe_int) po_none) (pa_cons (pv 3) pa_nil))))))) pss_nil)
    (pss_cons (ps_if (pt_cmpR op_eq (pv 2) pe_str (nomark _)) (pss_one (ps_ret (pe_tup (pa_cons (pv 2) (pa_cons (pe_callTy call_list_of (by rfl) mL boot_list (pa_cons (pe_ix ix_tup (pv 0) pe_int (fun _ _ => rfl)) pa_nil)) (pa_cons (pe_ix ix_list (pv 1) pe_int (fun _ _ => rfl)) (pa_cons (pv 3) pa_nil))))))) pss_nil)
    (pss_cons (ps_if (pt_cmpR op_eq (pv 2) pe_str (nomark _)) (pss_one (ps_ret (pe_tup (pa_cons (pv 2) (pa_cons (pe_ix ix_tup (pv 0) pe_int (fun _ _ => rfl)) (pa_cons (pe_callTy call_list_of (by rfl) mL boot_list (pa_cons (pe_ix ix_tup (pv 0) pe_int (fun _ _ => rfl)) pa_nil)) (pa_cons (pe_ix ix_list (pv 1) pe_int (fun _ _ => rfl)) (pa_cons (pv 3) pa_nil)))))))) pss_nil)
    (pss_cons (ps_if (pt_cmpR op_eq (pv 2) pe_str (nomark _)) (pss_one (ps_ret (pe_tup (pa_cons (pv 2) (pa_cons (pe_ix ix_tup (pv 0) pe_int (fun _ _ => rfl)) (StX.pa_star (pv 1) (pa_cons (pv 3) pa_nil))))))) pss_nil)
    (pss_one (ps_ret (pe_tup (pa_cons (pv 2) (StX.pa_star (pv 1) (pa_cons (pv 3) pa_nil)))))))))))), ?_⟩
  cases t with
  | int n o =>
    unfold TmAt at ta
    obtain ⟨a, w, rfl, ea, og⟩ := ta
    have ea0 := sF _ _ ea
    refine ⟨_, rfl, a, _, 0, _, rfl, rfl, SqT.of ea0, at0, ?_⟩
    refine ⟨_, rfl, 1, rfl, a, _, -1, w, rfl, rfl, SqT.of ea0, atI_neg1 (n := 2) rfl rfl, ?_⟩
    refine ⟨_, rfl, by show 3 ≤ sizeLine; decide, fun tp ntp => ?_⟩
    refine ⟨tp, _, rfl, .inr (SqT.of upd_same), rfl, rfl, _, rfl, ?_⟩
    have sm1 : Same H (upd H tp (.tup [.str "int", .str "prim", .str "ref"])) := same_new ntp _
    generalize upd H tp (.tup [.str "int", .str "prim", .str "ref"]) = H1 at sm1
    refine if_true_of (by decide +kernel) ?_
    refine ⟨_, rfl, q _ _ sm1 ?_⟩
    have e0 : us = [] := List.length_eq_zero_iff.mp hus
    subst e0
    simp only [rebT]
    unfold TmAt
    exact ⟨a, w, rfl, ov_base sF _ _ ea, og.same (ov_base sF)⟩
  | prim n o =>
    unfold TmAt at ta
    obtain ⟨a, w, rfl, ea, og⟩ := ta
    have ea0 := sF _ _ ea
    refine ⟨_, rfl, a, _, 0, _, rfl, rfl, SqT.of ea0, at0, ?_⟩
    refine ⟨_, rfl, 1, rfl, a, _, -1, w, rfl, rfl, SqT.of ea0, atI_neg1 (n := 2) rfl rfl, ?_⟩
    refine ⟨_, rfl, by show 3 ≤ sizeLine; decide, fun tp ntp => ?_⟩
    refine ⟨tp, _, rfl, .inr (SqT.of upd_same), rfl, rfl, _, rfl, ?_⟩
    have sm1 : Same H (upd H tp (.tup [.str "int", .str "prim", .str "ref"])) := same_new ntp _
    generalize upd H tp (.tup [.str "int", .str "prim", .str "ref"]) = H1 at sm1
    refine if_true_of (by decide +kernel) ?_
    refine ⟨_, rfl, q _ _ sm1 ?_⟩
    have e0 : us = [] := List.length_eq_zero_iff.mp hus
    subst e0
    simp only [rebT]
    unfold TmAt
    exact ⟨a, w, rfl, ov_base sF _ _ ea, og.same (ov_base sF)⟩
  | ref i o =>
    unfold TmAt at ta
    obtain ⟨a, w, rfl, ea, og⟩ := ta
    have ea0 := sF _ _ ea
    refine ⟨_, rfl, a, _, 0, _, rfl, rfl, SqT.of ea0, at0, ?_⟩
    refine ⟨_, rfl, 1, rfl, a, _, -1, w, rfl, rfl, SqT.of ea0, atI_neg1 (n := 2) rfl rfl, ?_⟩
    refine ⟨_, rfl, by show 3 ≤ sizeLine; decide, fun tp ntp => ?_⟩
    refine ⟨tp, _, rfl, .inr (SqT.of upd_same), rfl, rfl, _, rfl, ?_⟩
    have sm1 : Same H (upd H tp (.tup [.str "int", .str "prim", .str "ref"])) := same_new ntp _
    generalize upd H tp (.tup [.str "int", .str "prim", .str "ref"]) = H1 at sm1
    refine if_true_of (by decide +kernel) ?_
    refine ⟨_, rfl, q _ _ sm1 ?_⟩
    have e0 : us = [] := List.length_eq_zero_iff.mp hus
    subst e0
    simp only [rebT]
    unfold TmAt
    exact ⟨a, w, rfl, ov_base sF _ _ ea, og.same (ov_base sF)⟩
  | fn ids b o =>
    unfold TmAt at ta
    obtain ⟨a, l, u, w, rfl, ea, el, tb, og⟩ := ta
    have ea0 := sF _ _ ea
    refine ⟨_, rfl, a, _, 0, _, rfl, rfl, SqT.of ea0, at0, ?_⟩
    refine ⟨_, rfl, 1, rfl, a, _, -1, w, rfl, rfl, SqT.of ea0, atI_neg1 (n := 3) rfl rfl, ?_⟩
    refine ⟨_, rfl, by show 3 ≤ sizeLine; decide, fun tp ntp => ?_⟩
    refine ⟨tp, _, rfl, .inr (SqT.of upd_same), rfl, rfl, _, rfl, ?_⟩
    have sm1 : Same H (upd H tp (.tup [.str "int", .str "prim", .str "ref"])) := same_new ntp _
    generalize upd H tp (.tup [.str "int", .str "prim", .str "ref"]) = H1 at sm1
    refine if_false_of (by decide +kernel) ?_
    have ea1 := sm1 _ _ ea0
    have eil1 := sm1 _ _ eil
    refine ⟨_, rfl, rfl, _, rfl, ?_⟩
    refine if_false_of (str_ne (by decide +kernel)) ?_
    refine ⟨_, rfl, rfl, _, rfl, ?_⟩
    refine if_true_of str_eq ?_
    match us, hus, tus with
    | [k0], hus, tus =>
    unfold TmsAt at tus
    obtain ⟨z0, zr, rfl, tz, tzr⟩ := tus
    unfold TmsAt at tzr
    subst tzr
    refine ⟨_, rfl, _, rfl, a, _, 1, _, rfl, rfl, SqT.of ea1, atI_nat (j := 1) rfl, ?_⟩
    refine ⟨l, _, rfl, .inl (SqL.of (sm1 _ _ (sF _ _ el))), fun p np => ?_⟩
    refine ⟨_, rfl, il, _, 0, _, rfl, rfl, SqL.of (same_new np _ _ _ eil1), at0, ?_⟩
    refine ⟨_, rfl, by show 4 ≤ sizeLine; decide, fun t nt => ?_⟩
    have sm2 : Same H1 (upd (upd H1 p (.lst (ids.map V.int))) t (.tup [.str "fn", .ref p, z0, w])) := (same_new np _).trans (same_new nt _)
    refine q _ _ (sm1.trans sm2) ?_
    simp only [rebT]
    unfold TmAt
    exact ⟨t, p, z0, w, rfl, ov_new ((sm1.trans (same_new np _)).free nt) upd_same, ov_new (sm1.free np) (same_new nt _ _ _ upd_same), TmAt.same (ov_base sF) _ _ tz, og.same (ov_base sF)⟩
  | rc i ids b o =>
    unfold TmAt at ta
    obtain ⟨a, l, u, w, rfl, ea, el, tb, og⟩ := ta
    have ea0 := sF _ _ ea
    refine ⟨_, rfl, a, _, 0, _, rfl, rfl, SqT.of ea0, at0, ?_⟩
    refine ⟨_, rfl, 1, rfl, a, _, -1, w, rfl, rfl, SqT.of ea0, atI_neg1 (n := 4) rfl rfl, ?_⟩
    refine ⟨_, rfl, by show 3 ≤ sizeLine; decide, fun tp ntp => ?_⟩
    refine ⟨tp, _, rfl, .inr (SqT.of upd_same), rfl, rfl, _, rfl, ?_⟩
    have sm1 : Same H (upd H tp (.tup [.str "int", .str "prim", .str "ref"])) := same_new ntp _
    generalize upd H tp (.tup [.str "int", .str "prim", .str "ref"]) = H1 at sm1
    refine if_false_of (by decide +kernel) ?_
    have ea1 := sm1 _ _ ea0
    have eil1 := sm1 _ _ eil
    refine ⟨_, rfl, rfl, _, rfl, ?_⟩
    refine if_false_of (str_ne (by decide +kernel)) ?_
    refine ⟨_, rfl, rfl, _, rfl, ?_⟩
    refine if_false_of (str_ne (by decide +kernel)) ?_
    refine ⟨_, rfl, rfl, _, rfl, ?_⟩
    refine if_true_of str_eq ?_
    match us, hus, tus with
    | [k0], hus, tus =>
    unfold TmsAt at tus
    obtain ⟨z0, zr, rfl, tz, tzr⟩ := tus
    unfold TmsAt at tzr
    subst tzr
    refine ⟨_, rfl, _, rfl, a, _, 1, _, rfl, rfl, SqT.of ea1, atI_nat (j := 1) rfl, ?_⟩
    refine ⟨_, rfl, a, _, 2, _, rfl, rfl, SqT.of ea1, atI_nat (j := 2) rfl, ?_⟩
    refine ⟨l, _, rfl, .inl (SqL.of (sm1 _ _ (sF _ _ el))), fun p np => ?_⟩
    refine ⟨_, rfl, il, _, 0, _, rfl, rfl, SqL.of (same_new np _ _ _ eil1), at0, ?_⟩
    refine ⟨_, rfl, by show 5 ≤ sizeLine; decide, fun t nt => ?_⟩
    have sm2 : Same H1 (upd (upd H1 p (.lst (ids.map V.int))) t (.tup [.str "rec", .int i, .ref p, z0, w])) := (same_new np _).trans (same_new nt _)
    refine q _ _ (sm1.trans sm2) ?_
    simp only [rebT]
    unfold TmAt
    exact ⟨t, p, z0, w, rfl, ov_new ((sm1.trans (same_new np _)).free nt) upd_same, ov_new (sm1.free np) (same_new nt _ _ _ upd_same), TmAt.same (ov_base sF) _ _ tz, og.same (ov_base sF)⟩
  | lt i x b o =>
    unfold TmAt at ta
    obtain ⟨a, u1, u2, w, rfl, ea, t1, t2, og⟩ := ta
    have ea0 := sF _ _ ea
    refine ⟨_, rfl, a, _, 0, _, rfl, rfl, SqT.of ea0, at0, ?_⟩
    refine ⟨_, rfl, 1, rfl, a, _, -1, w, rfl, rfl, SqT.of ea0, atI_neg1 (n := 4) rfl rfl, ?_⟩
    refine ⟨_, rfl, by show 3 ≤ sizeLine; decide, fun tp ntp => ?_⟩
    refine ⟨tp, _, rfl, .inr (SqT.of upd_same), rfl, rfl, _, rfl, ?_⟩
    have sm1 : Same H (upd H tp (.tup [.str "int", .str "prim", .str "ref"])) := same_new ntp _
    generalize upd H tp (.tup [.str "int", .str "prim", .str "ref"]) = H1 at sm1
    refine if_false_of (by decide +kernel) ?_
    have ea1 := sm1 _ _ ea0
    have eil1 := sm1 _ _ eil
    refine ⟨_, rfl, rfl, _, rfl, ?_⟩
    refine if_false_of (str_ne (by decide +kernel)) ?_
    refine ⟨_, rfl, rfl, _, rfl, ?_⟩
    refine if_false_of (str_ne (by decide +kernel)) ?_
    refine ⟨_, rfl, rfl, _, rfl, ?_⟩
    refine if_false_of (str_ne (by decide +kernel)) ?_
    refine ⟨_, rfl, rfl, _, rfl, ?_⟩
    refine if_true_of str_eq ?_
    match us, hus, tus with
    | [k0, k1], hus, tus =>
    unfold TmsAt at tus
    obtain ⟨z0, zr0, rfl, tz0, tus⟩ := tus
    unfold TmsAt at tus
    obtain ⟨z1, zr1, rfl, tz1, tus⟩ := tus
    unfold TmsAt at tus
    subst tus
    refine ⟨_, rfl, _, rfl, a, _, 1, _, rfl, rfl, SqT.of ea1, atI_nat (j := 1) rfl, ?_⟩
    refine ⟨_, rfl, il, _, rfl, .inr (SqL.of eil1), _, rfl, by show 5 ≤ sizeLine; decide, fun t nt => ?_⟩
    have sm2 : Same H1 (upd H1 t (.tup [.str "let", .int i, z0, z1, w])) := same_new nt _
    refine q _ _ (sm1.trans sm2) ?_
    simp only [rebT]
    unfold TmAt
    exact ⟨t, z0, z1, w, rfl, ov_new (sm1.free nt) upd_same, TmAt.same (ov_base sF) _ _ tz0, TmAt.same (ov_base sF) _ _ tz1, og.same (ov_base sF)⟩
  | ite x y z o =>
    unfold TmAt at ta
    obtain ⟨a, u1, u2, u3, w, rfl, ea, t1, t2, t3, og⟩ := ta
    have ea0 := sF _ _ ea
    refine ⟨_, rfl, a, _, 0, _, rfl, rfl, SqT.of ea0, at0, ?_⟩
    refine ⟨_, rfl, 1, rfl, a, _, -1, w, rfl, rfl, SqT.of ea0, atI_neg1 (n := 4) rfl rfl, ?_⟩
    refine ⟨_, rfl, by show 3 ≤ sizeLine; decide, fun tp ntp => ?_⟩
    refine ⟨tp, _, rfl, .inr (SqT.of upd_same), rfl, rfl, _, rfl, ?_⟩
    have sm1 : Same H (upd H tp (.tup [.str "int", .str "prim", .str "ref"])) := same_new ntp _
    generalize upd H tp (.tup [.str "int", .str "prim", .str "ref"]) = H1 at sm1
    refine if_false_of (by decide +kernel) ?_
    have ea1 := sm1 _ _ ea0
    have eil1 := sm1 _ _ eil
    refine ⟨_, rfl, rfl, _, rfl, ?_⟩
    refine if_false_of (str_ne (by decide +kernel)) ?_
    refine ⟨_, rfl, rfl, _, rfl, ?_⟩
    refine if_false_of (str_ne (by decide +kernel)) ?_
    refine ⟨_, rfl, rfl, _, rfl, ?_⟩
    refine if_false_of (str_ne (by decide +kernel)) ?_
    refine ⟨_, rfl, rfl, _, rfl, ?_⟩
    refine if_false_of (str_ne (by decide +kernel)) ?_
    match us, hus, tus with
    | [k0, k1, k2], hus, tus =>
    unfold TmsAt at tus
    obtain ⟨z0, zr0, rfl, tz0, tus⟩ := tus
    unfold TmsAt at tus
    obtain ⟨z1, zr1, rfl, tz1, tus⟩ := tus
    unfold TmsAt at tus
    obtain ⟨z2, zr2, rfl, tz2, tus⟩ := tus
    unfold TmsAt at tus
    subst tus
    refine ⟨_, rfl, _, rfl, il, _, rfl, .inr (SqL.of eil1), _, rfl, by show 5 ≤ sizeLine; decide, fun t nt => ?_⟩
    have sm2 : Same H1 (upd H1 t (.tup [.str "if", z0, z1, z2, w])) := same_new nt _
    refine q _ _ (sm1.trans sm2) ?_
    simp only [rebT]
    unfold TmAt
    exact ⟨t, z0, z1, z2, w, rfl, ov_new (sm1.free nt) upd_same, TmAt.same (ov_base sF) _ _ tz0, TmAt.same (ov_base sF) _ _ tz1, TmAt.same (ov_base sF) _ _ tz2, og.same (ov_base sF)⟩
  | app f xs0 o =>
    unfold TmAt at ta
    obtain ⟨a, u, l, us0, w, rfl, ea, el, tf, tx, og⟩ := ta
    have ea0 := sF _ _ ea
    refine ⟨_, rfl, a, _, 0, _, rfl, rfl, SqT.of ea0, at0, ?_⟩
    refine ⟨_, rfl, 1, rfl, a, _, -1, w, rfl, rfl, SqT.of ea0, atI_neg1 (n := 3) rfl rfl, ?_⟩
    refine ⟨_, rfl, by show 3 ≤ sizeLine; decide, fun tp ntp => ?_⟩
    refine ⟨tp, _, rfl, .inr (SqT.of upd_same), rfl, rfl, _, rfl, ?_⟩
    have sm1 : Same H (upd H tp (.tup [.str "int", .str "prim", .str "ref"])) := same_new ntp _
    generalize upd H tp (.tup [.str "int", .str "prim", .str "ref"]) = H1 at sm1
    refine if_false_of (by decide +kernel) ?_
    have ea1 := sm1 _ _ ea0
    have eil1 := sm1 _ _ eil
    refine ⟨_, rfl, rfl, _, rfl, ?_⟩
    refine if_true_of str_eq ?_
    match us, hus, tus with
    | k0 :: kr, hus, tus =>
    unfold TmsAt at tus
    obtain ⟨z0, zr, rfl, tz, tzr⟩ := tus
    refine ⟨_, rfl, _, rfl, il, _, 0, _, rfl, rfl, SqL.of eil1, at0, ?_⟩
    refine ⟨_, rfl, 1, rfl, il, _, rfl, SqL.of eil1, fun p np => ?_⟩
    rw [cut_tail]
    refine ⟨_, rfl, by show 4 ≤ sizeLine; decide, fun t nt => ?_⟩
    have sm2 : Same H1 (upd (upd H1 p (.lst zr)) t (.tup [.str "app", z0, .ref p, w])) := (same_new np _).trans (same_new nt _)
    refine q _ _ (sm1.trans sm2) ?_
    simp only [rebT]
    unfold TmAt
    exact ⟨t, z0, p, zr, w, rfl, ov_new ((sm1.trans (same_new np _)).free nt) upd_same, ov_new (sm1.free np) (same_new nt _ _ _ upd_same), TmAt.same (ov_base sF) _ _ tz, TmsAt.same (ov_base sF) _ _ tzr, og.same (ov_base sF)⟩
  | pair x y o =>
    unfold TmAt at ta
    obtain ⟨a, u1, u2, w, rfl, ea, t1, t2, og⟩ := ta
    have ea0 := sF _ _ ea
    refine ⟨_, rfl, a, _, 0, _, rfl, rfl, SqT.of ea0, at0, ?_⟩
    refine ⟨_, rfl, 1, rfl, a, _, -1, w, rfl, rfl, SqT.of ea0, atI_neg1 (n := 3) rfl rfl, ?_⟩
    refine ⟨_, rfl, by show 3 ≤ sizeLine; decide, fun tp ntp => ?_⟩
    refine ⟨tp, _, rfl, .inr (SqT.of upd_same), rfl, rfl, _, rfl, ?_⟩
    have sm1 : Same H (upd H tp (.tup [.str "int", .str "prim", .str "ref"])) := same_new ntp _
    generalize upd H tp (.tup [.str "int", .str "prim", .str "ref"]) = H1 at sm1
    refine if_false_of (by decide +kernel) ?_
    have ea1 := sm1 _ _ ea0
    have eil1 := sm1 _ _ eil
    refine ⟨_, rfl, rfl, _, rfl, ?_⟩
    refine if_false_of (str_ne (by decide +kernel)) ?_
    refine ⟨_, rfl, rfl, _, rfl, ?_⟩
    refine if_false_of (str_ne (by decide +kernel)) ?_
    refine ⟨_, rfl, rfl, _, rfl, ?_⟩
    refine if_false_of (str_ne (by decide +kernel)) ?_
    refine ⟨_, rfl, rfl, _, rfl, ?_⟩
    refine if_false_of (str_ne (by decide +kernel)) ?_
    match us, hus, tus with
    | [k0, k1], hus, tus =>
    unfold TmsAt at tus
    obtain ⟨z0, zr0, rfl, tz0, tus⟩ := tus
    unfold TmsAt at tus
    obtain ⟨z1, zr1, rfl, tz1, tus⟩ := tus
    unfold TmsAt at tus
    subst tus
    refine ⟨_, rfl, _, rfl, il, _, rfl, .inr (SqL.of eil1), _, rfl, by show 4 ≤ sizeLine; decide, fun t nt => ?_⟩
    have sm2 : Same H1 (upd H1 t (.tup [.str "pair", z0, z1, w])) := same_new nt _
    refine q _ _ (sm1.trans sm2) ?_
    simp only [rebT]
    unfold TmAt
    exact ⟨t, z0, z1, w, rfl, ov_new (sm1.free nt) upd_same, TmAt.same (ov_base sF) _ _ tz0, TmAt.same (ov_base sF) _ _ tz1, og.same (ov_base sF)⟩
end
end Sg

namespace Sg
open PySem PySem.Spec PyProof.Rows L2
/-! ### inner_tasks -/
structure Job where
  t : Tm
  m : Int → Option Tm
  fin : Bool
def JobAt (Hh : Hp) (j : Job) (x : V) : Prop := ∃ a v d kvs c, x = .ref a ∧ Hh a = some (.tup [v, .ref d, .bl j.fin]) ∧ TmAt Hh j.t v ∧ Hh d = some (.dK kvs) ∧ DG kvs c ∧ TC Hh j.m c ∧ kvs.length ≤ 3000
theorem JobAt.same {Hh Hh' : Hp} {j : Job} {x : V} (e : Same Hh Hh') (h : JobAt Hh j x) : JobAt Hh' j x := by
  obtain ⟨a, v, d, kvs, c, h1, h2, h3, h4, h5, h6, h7⟩ := h
  exact ⟨a, v, d, kvs, c, h1, e _ _ h2, TmAt.same e _ _ h3, e _ _ h4, h5, h6.same e, h7⟩
inductive JobsAt (Hh : Hp) : List Job → List V → Prop where
  | nil : JobsAt Hh [] []
  | cons {j x js xs} : JobAt Hh j x → JobsAt Hh js xs → JobsAt Hh (j :: js) (x :: xs)
theorem JobsAt.same {Hh Hh' : Hp} (e : Same Hh Hh') : ∀ {js : List Job} {xs : List V}, JobsAt Hh js xs → JobsAt Hh' js xs
  | _, _, .nil => .nil
  | _, _, .cons h r => .cons (h.same e) (r.same e)
theorem JobsAt.len {Hh : Hp} : ∀ {js : List Job} {xs : List V}, JobsAt Hh js xs → xs.length = js.length
  | _, _, .nil => rfl
  | _, _, .cons h r => by rw [List.length_cons, List.length_cons, r.len]
theorem JobsAt.app {Hh : Hp} {ks : List Job} {ys : List V} (g : JobsAt Hh ks ys) : ∀ {js : List Job} {xs : List V}, JobsAt Hh js xs → JobsAt Hh (js ++ ks) (xs ++ ys)
  | _, _, .nil => g
  | _, _, .cons h r => .cons h (JobsAt.app g r)
theorem JobsAt.one {Hh : Hp} {j : Job} {x : V} (h : JobAt Hh j x) : JobsAt Hh [j] [x] := .cons h .nil
theorem JobsAt.rev {Hh : Hp} : ∀ {js : List Job} {xs : List V}, JobsAt Hh js xs → JobsAt Hh js.reverse xs.reverse
  | _, _, .nil => .nil
  | _, _, .cons h r => by
    rw [List.reverse_cons, List.reverse_cons]
    exact (JobsAt.one h).app r.rev
theorem JobsAt.init {Hh : Hp} : ∀ {js : List Job} {j : Job} {xs : List V}, JobsAt Hh (js ++ [j]) xs → ∃ ys y, xs = ys ++ [y] ∧ JobsAt Hh js ys ∧ JobAt Hh j y
  | [], j, _, .cons h .nil => ⟨[], _, rfl, .nil, h⟩
  | k :: js, j, _, .cons h r => by
    obtain ⟨ys, y, e, h1, h2⟩ := JobsAt.init (js := js) r
    exact ⟨_ :: ys, y, by rw [e]; rfl, .cons h h1, h2⟩
/-- the jobs of a term's parts -/
def kidJ (m : Int → Option Tm) (t : Tm) : List Job := if bnds t = [] then (kids t).map fun u => ⟨u, m, false⟩ else (kids t).dropLast.map (fun u => (⟨u, m, false⟩ : Job)) ++ (kids t).getLast?.toList.map fun u => ⟨u, rmM m (bnds t), false⟩
def jobS (j : Job) : Tm := sub j.m j.t
theorem subs_map (m : Int → Option Tm) : ∀ ts : List Tm, subs m ts = ts.map fun u => jobS ⟨u, m, false⟩
  | [] => rfl
  | t :: ts => by
    simp only [subs, List.map_cons]
    rw [subs_map m ts]
    rfl
theorem kidJ_sub (m : Int → Option Tm) (t : Tm) : (kidJ m t).map jobS = kidS m t := by
  unfold kidJ
  by_cases z : bnds t = []
  · rw [if_pos z, kidS_free m z, subs_map, List.map_map]
    rfl
  · rw [if_neg z]
    obtain ⟨pre, b, h1, h2⟩ := kidS_bound m z
    rw [h1, h2, subs_map, List.dropLast_concat, List.getLast?_concat, List.map_append, List.map_map]
    rfl
theorem kidJ_length (m : Int → Option Tm) (t : Tm) : (kidJ m t).length = (kids t).length := by
  rw [← kidS_length m t, ← kidJ_sub m t, List.length_map]
theorem kidJ_fin (m : Int → Option Tm) (t : Tm) : ∀ j ∈ kidJ m t, j.fin = false := fun j h => by
  unfold kidJ at h
  split at h
  · obtain ⟨u, _, e⟩ := List.mem_map.mp h
    rw [← e]
  · rcases List.mem_append.mp h with h | h
    · obtain ⟨u, _, e⟩ := List.mem_map.mp h
      rw [← e]
    · obtain ⟨u, _, e⟩ := List.mem_map.mp h
      rw [← e]
theorem Same.rmn {F H' : Hp} {D : Addr} (e : Same F H') (n : F D = none) : Same F (rmL [D] H') := fun b o q => rm_in (by
  intro z
  rw [List.mem_singleton.mp z, n] at q
  cases q) (e _ _ q)
theorem rm_put {u : Addr} {H : Hp} {o : HO} : rmL [u] (upd H u o) = rmL [u] H := by
  funext a
  unfold rmL
  by_cases z : a = u
  · rw [if_pos (by simp [z]), if_pos (by simp [z])]
  · rw [if_neg (by simp [z]), if_neg (by simp [z]), upd_ne z]
theorem rm1 {u a : Addr} {H : Hp} {o : HO} (n : a ≠ u) (h : H a = some o) : rmL [u] H a = some o := rm_in (by simp [n]) h
theorem Same.rm {bs : List Addr} {H H' : Hp} (e : Same H H') : Same (rmL bs H) (rmL bs H') := fun x o q => by
  have z := rm_of q
  exact rm_in z.1 (e _ _ z.2)
theorem ixN_neg1 (n : Nat) : ixN (n + 1) (-1) = some n := by
  unfold ixN
  rw [if_neg (by decide), if_pos (by omega)]
  congr 1
  omega
/-- what stands in a dict of True -/
def inC (ids : List Int) : Int → Option V := fun x => if x ∈ ids then some (.bl true) else none
def spTasks : Sp := fun vs H Q _ => ∃ (F : Hp) (t : Tm) (v : V) (d : Addr) (kvs : List (Key × V)) (m : Int → Option Tm) (c : Int → Option V), vs = [v, .ref d] ∧ Same F H ∧ TmAt F t v ∧ F d = some (.dK kvs) ∧ DG kvs c ∧ TC F m c ∧ kvs.length ≤ 3000 ∧ (kids t).length ≤ 9000 ∧ (bnds t).length ≤ 9000 ∧
  ∀ H' p xs, Same H H' → H p = none → H' p = some (.lst xs.reverse) → JobsAt (ov F H (rmL [p] H')) (kidJ m t) xs → Q (.ref p) H'
theorem scTasks : FnScope ["term", "visible", "inner", "tasks", "part", "hidden", "variable", "left"] ["term", "visible"] (defScope cInnerTasks) := ⟨rfl, rfl, rfl, by decide +kernel, rfl, by decide +kernel, by decide +kernel⟩
section
variable {P : Program} {w : World} {K : PySem.W.Frag} {mg : Str → Option Value} {base : Heap}
theorem ok_tasks {f fI fB : Addr} {fd fdI fdB : FuncData} {k : Nat} (F : Fun K "inner_tasks" "inner_tasks" cInnerTasks f fd)
    (GI : FnOk P w K mg base CX0 k fI fdI ["term"] spKids) (bI : Binds K fdI ["term"] []) (kI : PySem.W.keepIn K (.ref fI) = true) (mI : mg "inner_terms" = some (.ref fI))
    (GB : FnOk P w K mg base CX0 k fB fdB ["term"] spBnds) (bB : Binds K fdB ["term"] []) (kB : PySem.W.keepIn K (.ref fB) = true) (mB : mg "bound_in_body" = some (.ref fB)) : FnOk P w K mg base CX0 (k + 1) f fd ["term", "visible"] spTasks := by
  refine F.ok scTasks (fun vs H Q E h => ?_) (fun cdv A outer st H vs Q E hr h => ?_)
  · obtain ⟨F, t, v, d, kvs, m, c, rfl, _⟩ := h
    rfl
  obtain ⟨Fh, t, v, d, kvs, m, c, rfl, sF, ta, ed, dg, tc, hkv, hk, hb, q⟩ := h
  have hu : (A.deeper (envOfC "inner_tasks" (defScope cInnerTasks) st.heap.objs.size f cdv)).units + 1 < cLine := by
    have := hr.units
    omega
  refine ⟨_, pss_cons (ps_set (i := 2) scTasks.nd rfl (.inl rfl) (pe_call GI hr (by rfl) mI kI bI .nil pass0 (pa_cons (pv 0) pa_nil)))
    (pss_cons (ps_setLc (i := 3) (own := [("part", 4)]) (g := gName 4) (tt := tYes) rfl scTasks.nd rfl rfl (sw_true rfl rfl (by decide) (by decide +kernel)) (pi_list (pv 2)) (blkOk_by (N := ["term", "visible", "inner", "tasks", "part", "hidden", "variable", "left"]) (sc := defScope cInnerTasks) (by decide +kernel))
      (fun _ _ _ _ _ => pg_name (i := 4) scTasks.nd rfl (Or.inl rfl)) (fun _ _ _ _ _ => pts_nil) (fun _ _ _ _ _ => pe_tup (pa_cons (pv 4) (pa_cons (pv 1) (pa_cons pe_bl pa_nil)))))
    (pss_cons (ps_set (i := 5) scTasks.nd rfl (.inr rfl) (pe_dc (own := [("variable", 6)]) (g := gName 6) (tt := tYes) rfl scTasks.nd (pi_list (pe_call GB hr (by rfl) mB kB bB .nil pass0 (pa_cons (pv 0) pa_nil))) (blkOk_by (N := ["term", "visible", "inner", "tasks", "part", "hidden", "variable", "left"]) (sc := defScope cInnerTasks) (by decide +kernel))
      (fun _ _ _ _ _ => pg_name (i := 6) scTasks.nd rfl (Or.inl rfl)) (fun _ _ _ _ _ => pts_nil) (fun _ _ _ _ _ => pv 6) (fun _ _ _ _ _ => pe_bl)))
    (pss_cons (ps_if (pt_truth (pv 5) (fun _ => by rfl))
      (pss_cons (ps_lock (ps_setDc (i := 7) (own := [("variable", 6)]) (g := gName 6) rfl scTasks.nd rfl rfl (sw_trueD rfl rfl (by decide) (by decide +kernel)) (pi_keys (pv 1)) (blkOk_by (N := ["term", "visible", "inner", "tasks", "part", "hidden", "variable", "left"]) (sc := defScope cInnerTasks) (by decide +kernel))
        (fun _ _ _ _ _ => pg_name (i := 6) scTasks.nd rfl (Or.inl rfl)) (fun _ _ _ _ _ => pts_one (pt_cmp (pc_dnotin hu (pv 6) (pv 5)))) (fun _ _ _ _ _ => pv 6) (fun _ _ _ _ _ => pe_dget hu (pv 1) (pv 6) (fun _ _ => rfl))))
      (pss_one (ps_asg (pe_tup (pa_cons (pe_ix ix_list (pv 2) (pe_un un_neg pe_int) (fun _ _ => rfl)) (pa_cons (pv 7) (pa_cons pe_bl pa_nil)))) (pg_sub (pv 3) (pe_un un_neg pe_int) set_list (fun _ => rfl))))) pss_nil)
    (pss_cons (ps_expr (pe_bm0 PySem.F.plainAttrs_list PySem.F.slot_list_reverse PySem.F.type_list_reverse mt_reverse (pv 3)))
    (pss_one (ps_ret (pv 3))))))), ?_⟩
  refine ⟨_, rfl, Fh, t, v, rfl, sF, ta, hk, fun H1 pi xs s1 n1 e1 tx => ?_⟩
  have lxs := tx.len
  have sF1 := sF.trans s1
  refine ⟨_, rfl, pi, rfl, ⟨_, SqL.of e1⟩, fun D hD => ?_⟩
  have FD : Fh D = none := sF1.free hD
  refine lc_list (K := K) (a := pi) (xs := xs) (fun i H' => Same H1 H' ∧ ∃ ys, H' D = some (.lst ys) ∧ JobsAt (ov Fh H (rmL [D] H')) (((kids t).take i).map fun u => ⟨u, m, false⟩) ys) ⟨same_new hD _, [], upd_same, .nil⟩ (fun i H' _ e => e.1.seq (SqL.of e1)) ?_ ?_
  · rintro i x H' hx ⟨sm, ys, eD, jt⟩
    obtain ⟨u, hu2, tu⟩ := tx.get hx
    have hi : i < (kids t).length := (List.getElem?_eq_some_iff.mp hu2).1
    refine ⟨rfl, yes_k ⟨_, rfl, _, rfl, by show 3 ≤ sizeLine; decide, fun T nT => ?_⟩⟩
    have DT : D ≠ T := ne_of_none eD nT
    have sT : Same H' (upd H' T (.tup [x, .ref d, .bl false])) := same_new nT _
    have eT : (upd H' T (.tup [x, .ref d, .bl false])) T = some (.tup [x, .ref d, .bl false]) := upd_same
    generalize upd H' T (.tup [x, .ref d, .bl false]) = H2 at sT eT
    have ll := jt.len
    rw [List.length_map, List.length_take] at ll
    have sFr : Same Fh (ov Fh H (rmL [D] H2)) := ov_base sF
    have HT := (s1.trans sm).free nT
    refine ⟨ys, sT _ _ eD, smallL (by omega), fun b o e => ?_, ys ++ [.ref T], upd_same, ?_⟩
    · rw [upd_ne (ne_of_none e hD)]
      exact sT _ _ (sm _ _ e)
    · rw [rm_put, List.take_add_one, hu2, List.map_append]
      exact JobsAt.app (.one ⟨T, x, d, kvs, c, rfl, ov_new HT (rm1 (Ne.symm DT) eT), TmAt.same sFr _ _ tu, sFr _ _ ed, dg, tc.same sFr, hkv⟩) (jt.same (ov_up (Same.rm sT)))
  rintro H2 ⟨s2, ys, eD, jt⟩
  rw [lxs, List.take_length] at jt
  have s02 := s1.trans s2
  have HD : H D = none := s1.free hD
  refine ⟨_, rfl, Fh, t, v, rfl, sF.trans s02, ta, hb, fun H3 pb s3 n3 e3 => ⟨pb, rfl, ⟨_, SqL.of e3⟩, fun D2 hD2 => ?_⟩⟩
  refine dc_it (walk_list (K := K) (a := pb) (xs := (bnds t).map V.int)) (fun i H' => Same H3 H' ∧ ∃ kh, H' D2 = some (.dK kh) ∧ DG kh (inC ((bnds t).take i)) ∧ kh.length ≤ i) ⟨same_new hD2 _, [], upd_same, DG.nil, Nat.le_refl _⟩ (fun i H' _ e => e.1.seq (SqL.of e3)) ?_ ?_
  · rintro i x H' H'' hi ⟨sm, kh, eh, dh, lh⟩ ⟨rfl, hx⟩
    obtain ⟨z, hz, rfl⟩ := get_map hx
    have hi2 : i < (bnds t).length := (List.getElem?_eq_some_iff.mp hz).1
    refine ⟨rfl, yes_k ⟨_, rfl, kh, Sum.inl z, rfl, eh, smallL (by omega), fun b o e => ?_, _, upd_same, ?_, Nat.le_trans (length_putK kh (Sum.inl z : Key) _) (by omega)⟩⟩
    · rw [upd_ne (ne_of_none e hD2)]
      exact sm _ _ e
    · have e : upG (inC ((bnds t).take i)) z (.bl true) = inC ((bnds t).take (i + 1)) := by
        funext x
        unfold upG inC
        rw [List.take_add_one, hz]
        by_cases y : x = z
        · rw [if_pos y, if_pos (by simp [y])]
        · rw [if_neg y]
          by_cases w : x ∈ (bnds t).take i
          · rw [if_pos w, if_pos (List.mem_append_left _ w)]
          · rw [if_neg w, if_neg (by simp [y, w])]
      rw [← e]
      exact dh.put
  rintro H4 ⟨s4, kh, eh, dh, lh⟩
  rw [List.length_map] at dh lh
  rw [List.take_length] at dh
  have s24 := s3.trans s4
  have s04 := s02.trans s24
  have eD4 := s24 _ _ eD
  have jt4 := jt.same (ov_up (Same.rm s24))
  have ll := jt.len
  rw [List.length_map] at ll
  by_cases bz : bnds t = []
  · have kh0 : kh = [] := by
      rw [bz] at lh
      exact List.length_eq_zero_iff.mp (Nat.le_zero.mp lh)
    rw [kh0] at eh
    refine ⟨_, rfl, _, .inr (.inr ⟨[], eh, rfl⟩), ?_⟩
    refine if_false_of rfl ?_
    refine ⟨_, rfl, .inl ⟨rfl, _, SqL.of eD4⟩, D, _, rfl, rfl, eD4, ?_⟩
    refine ⟨_, rfl, q _ D ys (fun b o e => ?_) HD upd_same ?_⟩
    · rw [upd_ne (ne_of_none e HD)]
      exact s04 _ _ e
    · rw [rm_put]
      unfold kidJ
      rw [if_pos bz]
      exact jt4
  · obtain ⟨pre, b, hpb, _⟩ := kidS_bound m bz
    have lpb : (kids t).length = pre.length + 1 := by rw [hpb, List.length_append]; rfl
    have khn : ∃ k0 kr, kh = k0 :: kr := by
      obtain ⟨b0, br, hbz⟩ := List.exists_cons_of_ne_nil bz
      cases kh with
      | nil =>
        have := dh.1 b0
        unfold inC at this
        rw [hbz, if_pos List.mem_cons_self] at this
        cases this
      | cons k0 kr => exact ⟨k0, kr, rfl⟩
    obtain ⟨k0, kr, ekh⟩ := khn
    refine ⟨_, rfl, _, .inr (.inr ⟨k0 :: kr, by rw [← ekh]; exact eh, rfl⟩), ?_⟩
    refine if_true_of rfl ?_
    have ed4 := s04 _ _ (sF _ _ ed)
    refine ⟨d, .dK kvs, ed4, trivial, fun od => ?_⟩
    refine ⟨_, rfl, d, od, rfl, .inl ⟨kvs, upd_same, fun D3 hD3 => ?_⟩⟩
    have dD3 : D3 ≠ d := fun e => by
      rw [e, upd_same] at hD3
      cases hD3
    have hD34 : H4 D3 = none := by
      rw [upd_ne dD3] at hD3
      exact hD3
    have dD2 : D2 ≠ d := fun e => by
      rw [e, ed4] at eh
      cases eh
      rw [e] at hD2
      rw [s3 _ _ (s02 _ _ (sF _ _ ed))] at hD2
      cases hD2
    have ehL : (upd H4 d (.frz od (.dK kvs))) D2 = some (.dK kh) := by
      rw [upd_ne dD2]
      exact eh
    refine dc_it (walk_keys (d := d) (o := od) (kvs := kvs)) (fun i H' => Same (upd H4 d (.frz od (.dK kvs))) H' ∧ ∃ kl ci, H' D3 = some (.dK kl) ∧ DG kl ci ∧ CG kvs (rmC c (bnds t)) ci i ∧ kl.length ≤ i) ⟨same_new hD3 _, [], _, upd_same, DG.nil, CG.nil, Nat.le_refl _⟩ (fun i H' _ e => e.1 _ _ upd_same) ?_ ?_
    · rintro i x H' H'' hi ⟨sm, kl, ci, el, dl, cg, ll2⟩ ⟨rfl, kk, vv, hkv2, rfl⟩
      obtain ⟨i0, v0, ep⟩ := dg.2 _ (List.mem_of_getElem? hkv2)
      injection ep with ek ev
      subst ek ev
      obtain ⟨y, hy⟩ := dg.has (List.mem_of_getElem? hkv2)
      have gh : DGet H'' D2 (.int i0) (inC (bnds t) i0) := .inl ⟨kh, Sum.inl i0, .inl (sm _ _ ehL), rfl, (dh.1 i0).symm⟩
      have gd : DGet H'' d (.int i0) (some y) := .inl ⟨kvs, Sum.inl i0, .inr ⟨od, sm _ _ upd_same⟩, rfl, by rw [dg.1 i0, hy]⟩
      refine ⟨rfl, ?_⟩
      refine ⟨_, rfl, _, rfl, D2, _, rfl, gh, _, rfl, ?_⟩
      by_cases w : i0 ∈ bnds t
      · have e : inC (bnds t) i0 = some (.bl true) := if_pos w
        rw [e]
        refine if_false_of rfl ?_
        exact ⟨sm, kl, ci, el, dl, cg.skip hkv2 (if_pos w), Nat.le_succ_of_le ll2⟩
      · have e : inC (bnds t) i0 = none := if_neg w
        rw [e]
        refine if_true_of rfl ?_
        refine ⟨_, rfl, _, rfl, _, rfl, d, _, rfl, gd, kl, Sum.inl i0, rfl, el, smallL (by omega), fun b o e2 => ?_, _, _, upd_same, dl.put, cg.step hkv2 (show rmC c (bnds t) i0 = some y from (if_neg w).trans hy), Nat.le_trans (length_putK kl (Sum.inl i0 : Key) _) (by omega)⟩
        rw [upd_ne (ne_of_none e2 hD3)]
        exact sm _ _ e2
    rintro H5 ⟨s5, kl, ci, el, dl, cg, ll2⟩
    have ecl : ci = rmC c (bnds t) := CG.all dg (fun x y e => by
      unfold rmC at e
      by_cases w : x ∈ bnds t
      · rw [if_pos w] at e
        cases e
      · rw [if_neg w] at e
        exact ⟨y, e⟩) cg
    subst ecl
    refine ⟨s5 _ _ upd_same, ?_⟩
    have s46 : Same H4 (upd H5 d (.dK kvs)) := fun b o e => by
      by_cases z : b = d
      · rw [z, upd_same]
        rw [z, ed4] at e
        exact e
      · rw [upd_ne z]
        refine s5 _ _ ?_
        rw [upd_ne z]
        exact e
    have el6 : (upd H5 d (.dK kvs)) D3 = some (.dK kl) := by
      rw [upd_ne dD3]
      exact el
    generalize upd H5 d (.dK kvs) = H6 at s46 el6
    have s06 := s04.trans s46
    have e16 := s46 _ _ (s24 _ _ (s2 _ _ e1))
    have g1 : xs[pre.length]? = some (xs[pre.length]'(by omega)) := List.getElem?_eq_getElem _
    obtain ⟨b1, gc1, tc1⟩ := tx.get g1
    have eb1 : b1 = b := by
      rw [hpb, List.getElem?_append_right (Nat.le_refl _), Nat.sub_self] at gc1
      exact (Option.some.inj gc1).symm
    rw [eb1] at tc1
    refine ⟨_, rfl, 1, rfl, pi, xs, -1, _, rfl, rfl, SqL.of e16, atI_neg1 (by omega) g1, ?_⟩
    refine ⟨_, rfl, by show 3 ≤ sizeLine; decide, fun T nT => ?_⟩
    have eD6 := s46 _ _ eD4
    have DT : D ≠ T := ne_of_none eD6 nT
    have sT : Same H6 (upd H6 T (.tup [xs[pre.length], .ref D3, .bl false])) := same_new nT _
    have eT : (upd H6 T (.tup [xs[pre.length], .ref D3, .bl false])) T = some (.tup [xs[pre.length], .ref D3, .bl false]) := upd_same
    generalize upd H6 T (.tup [xs[pre.length], .ref D3, .bl false]) = H7 at sT eT
    have eD7 := sT _ _ eD6
    have jt7 := jt4.same (ov_up (Same.rm (s46.trans sT)))
    rw [hpb, List.map_append] at jt7
    obtain ⟨yi, yl, rfl, jti, _⟩ := jt7.init
    rw [List.length_append] at ll
    have ll3 : yi.length = pre.length := by
      have := jti.len
      rw [List.length_map] at this
      exact this
    refine ⟨_, rfl, 1, rfl, D, _, -1, yi.length, rfl, rfl, eD7, by rw [List.length_append]; exact ixN_neg1 _, ?_⟩
    have eset : (yi ++ [yl]).set yi.length (.ref T) = yi ++ [.ref T] := by
      rw [List.set_append_right _ _ (Nat.le_refl _), Nat.sub_self]
      rfl
    rw [eset]
    refine ⟨_, rfl, .inl ⟨rfl, _, SqL.of upd_same⟩, D, _, rfl, rfl, upd_same, ?_⟩
    refine ⟨_, rfl, q _ D (yi ++ [.ref T]) (fun b2 o e => ?_) HD upd_same ?_⟩
    · rw [upd_ne (ne_of_none e HD), upd_ne (ne_of_none e HD)]
      exact sT _ _ (s06 _ _ e)
    · rw [rm_put, rm_put]
      unfold kidJ
      rw [if_neg bz, hpb, List.dropLast_concat, List.getLast?_concat]
      have sFr : Same Fh (ov Fh H (rmL [D] H7)) := ov_base sF
      have HT := s06.free nT
      have H3D := s04.free hD34
      have D3D : D3 ≠ D := fun e => by
        rw [e, eD6] at el6
        cases el6
      exact JobsAt.app (.one ⟨T, _, D3, kl, _, rfl, ov_new HT (rm1 (Ne.symm DT) eT), TmAt.same sFr _ _ tc1, ov_new H3D (rm1 D3D (sT _ _ el6)), dl, (tc.rm (bnds t)).same sFr, Nat.le_trans ll2 hkv⟩) jti
end
end Sg

namespace Sg
open PySem PySem.Spec PyProof.Rows L2
/-! ### placed, fresh, put -/
theorem wok_kids : ∀ {t : Tm}, wok t → woks (kids t) ∧ (bnds t).length ≤ 5 := by
  intro t h
  cases t with
  | int n o => exact ⟨by simp only [kids, woks], Nat.zero_le _⟩
  | prim n o => exact ⟨by simp only [kids, woks], Nat.zero_le _⟩
  | ref n o => exact ⟨by simp only [kids, woks], Nat.zero_le _⟩
  | fn ids b o =>
    simp only [wok] at h
    exact ⟨by simp only [kids, woks]; exact ⟨h.2.2.1, trivial⟩, by show ids.length ≤ 5; omega⟩
  | rc i ids b o =>
    simp only [wok] at h
    exact ⟨by simp only [kids, woks]; exact ⟨h.2.2.2.1, trivial⟩, by show ids.length + 1 ≤ 5; omega⟩
  | lt i x b o =>
    simp only [wok] at h
    exact ⟨by simp only [kids, woks]; exact ⟨h.2.1, h.2.2.1, trivial⟩, by show 1 ≤ 5; omega⟩
  | ite x y z o =>
    simp only [wok] at h
    exact ⟨by simp only [kids, woks]; exact ⟨h.1, h.2.1, h.2.2.1, trivial⟩, Nat.zero_le _⟩
  | app f xs o =>
    simp only [wok] at h
    exact ⟨by simp only [kids, woks]; exact ⟨h.1, h.2.1⟩, Nat.zero_le _⟩
  | pair x y o =>
    simp only [wok] at h
    exact ⟨by simp only [kids, woks]; exact ⟨h.1, h.2.1, trivial⟩, Nat.zero_le _⟩
theorem woks_mem : ∀ {ts : List Tm} {t : Tm}, woks ts → t ∈ ts → wok t
  | [], t, _, h => by cases h
  | u :: ts, t, h, e => by
    simp only [woks] at h
    rcases List.mem_cons.mp e with e | e
    · rw [e]
      exact h.1
    · exact woks_mem h.2 e
theorem mszs_mem : ∀ {ts : List Tm} {t : Tm}, t ∈ ts → msz t ≤ mszs ts
  | u :: ts, t, e => by
    simp only [mszs]
    rcases List.mem_cons.mp e with e | e
    · rw [e]
      omega
    · have := mszs_mem e
      omega
theorem kidJ_t (m : Int → Option Tm) (t : Tm) : (kidJ m t).map (·.t) = kids t := by
  unfold kidJ
  by_cases z : bnds t = []
  · rw [if_pos z, List.map_map]
    exact List.map_id' _
  · rw [if_neg z]
    obtain ⟨pre, b, h1, _⟩ := kidS_bound m z
    rw [h1, List.dropLast_concat, List.getLast?_concat, List.map_append, List.map_map]
    congr 1
    exact List.map_id' _
def exec : List Job → List Tm → Option (List Tm)
  | [], d => some d
  | ⟨t, m, false⟩ :: r, d => exec r (d ++ [sub m t])
  | ⟨t, _, true⟩ :: r, d => if (kids t).length ≤ d.length then exec r (d.take (d.length - (kids t).length) ++ [rebT t (d.drop (d.length - (kids t).length))]) else none
theorem exec_many : ∀ (js r : List Job) (d : List Tm), (∀ j ∈ js, j.fin = false) → exec (js ++ r) d = exec r (d ++ js.map jobS)
  | [], r, d, _ => by simp
  | ⟨t, m, fin⟩ :: js, r, d, h => by
    have hf : fin = false := h _ List.mem_cons_self
    subst hf
    show exec (js ++ r) (d ++ [sub m t]) = _
    rw [exec_many js r _ fun j hj => h j (List.mem_cons_of_mem _ hj), List.append_assoc]
    rfl
theorem exec_open (t : Tm) (m : Int → Option Tm) (r : List Job) (d : List Tm) (h : ∀ i o, t ≠ .ref i o) : exec (kidJ m t ++ ⟨t, m, true⟩ :: r) d = exec (⟨t, m, false⟩ :: r) d := by
  rw [exec_many _ _ _ (kidJ_fin m t), kidJ_sub]
  have l : (kidS m t).length = (kids t).length := kidS_length m t
  show (if (kids t).length ≤ (d ++ kidS m t).length then _ else _) = _
  rw [List.length_append, l, if_pos (by omega), show d.length + (kids t).length - (kids t).length = d.length by omega, List.take_left, List.drop_left, rebT_sub m t h]
  rfl
def jw (j : Job) : Nat := if j.fin then 1 else 2 * msz j.t
def jws : List Job → Nat
  | [] => 0
  | j :: r => jw j + jws r
theorem jw_pos (j : Job) : 1 ≤ jw j := by
  unfold jw
  have := msz_pos j.t
  split <;> omega
theorem jws_len : ∀ js : List Job, js.length ≤ jws js
  | [] => Nat.le_refl _
  | j :: r => by
    have := jws_len r
    have := jw_pos j
    simp only [jws, List.length_cons]
    omega
theorem jws_app : ∀ a b : List Job, jws (a ++ b) = jws a + jws b
  | [], b => by simp [jws]
  | j :: a, b => by
    show jw j + jws (a ++ b) = jw j + jws a + jws b
    rw [jws_app a b]
    omega
theorem jws_kids (m : Int → Option Tm) (t : Tm) : jws (kidJ m t) = 2 * mszs (kids t) := by
  rw [← kidJ_t m t]
  have h := kidJ_fin m t
  generalize kidJ m t = js at h
  induction js with
  | nil => rfl
  | cons j r ih =>
    have q := ih fun x hx => h x (List.mem_cons_of_mem _ hx)
    have hj := h j List.mem_cons_self
    show jw j + jws r = 2 * (msz j.t + mszs (r.map (·.t)))
    rw [q]
    unfold jw
    rw [hj]
    simp only [Bool.false_eq_true, if_false]
    omega
theorem TmsAt.app {F : Hp} {us : List Tm} {ws : List V} (g : TmsAt F us ws) : ∀ {ts : List Tm} {vs : List V}, TmsAt F ts vs → TmsAt F (ts ++ us) (vs ++ ws)
  | [], vs, h => by
    unfold TmsAt at h
    subst h
    exact g
  | t :: ts, vs, h => by
    unfold TmsAt at h
    obtain ⟨v, r, rfl, h2, h3⟩ := h
    exact .cons h2 (TmsAt.app g h3)
theorem TmsAt.take {F : Hp} : ∀ {ts : List Tm} {vs : List V} (n : Nat), TmsAt F ts vs → TmsAt F (ts.take n) (vs.take n)
  | [], vs, n, h => by
    unfold TmsAt at h
    subst h
    rw [List.take_nil, List.take_nil]
    exact .nil
  | t :: ts, vs, 0, h => .nil
  | t :: ts, vs, n + 1, h => by
    unfold TmsAt at h
    obtain ⟨v, r, rfl, h2, h3⟩ := h
    exact .cons h2 (TmsAt.take n h3)
theorem TmsAt.drop {F : Hp} : ∀ {ts : List Tm} {vs : List V} (n : Nat), TmsAt F ts vs → TmsAt F (ts.drop n) (vs.drop n)
  | [], vs, n, h => by
    unfold TmsAt at h
    subst h
    rw [List.drop_nil, List.drop_nil]
    exact .nil
  | t :: ts, vs, 0, h => h
  | t :: ts, vs, n + 1, h => by
    unfold TmsAt at h
    obtain ⟨v, r, rfl, h2, h3⟩ := h
    exact TmsAt.drop n h3
theorem TmAt.head {F : Hp} : ∀ {t : Tm} {v : V}, TmAt F t v → ∃ a r, v = .ref a ∧ F a = some (.tup (.str (kind t) :: r)) := by
  intro t v h
  cases t <;> (unfold TmAt at h; first
    | (obtain ⟨a, w, h1, h2, _⟩ := h; exact ⟨a, _, h1, h2⟩)
    | (obtain ⟨a, l, u, w, h1, h2, _⟩ := h; exact ⟨a, _, h1, h2⟩)
    | (obtain ⟨a, u, l, vs, w, h1, h2, _⟩ := h; exact ⟨a, _, h1, h2⟩)
    | (obtain ⟨a, u1, u2, u3, w, h1, h2, _⟩ := h; exact ⟨a, _, h1, h2⟩))
theorem cut_from (xs : List V) (a : Nat) (h : a ≤ xs.length) : cutV xs (some (a : Int)) none = xs.drop a := by
  unfold cutV
  rw [HT.sIx_nat, HT.sIx_none, Nat.min_eq_left h, List.take_of_length_le]
  rw [List.length_drop]
  exact Nat.le_refl _
theorem rmL_put {bs : List Addr} {u : Addr} {H : Hp} {o : HO} (h : u ∈ bs) : rmL bs (upd H u o) = rmL bs H := by
  funext a
  unfold rmL
  by_cases z : a ∈ bs
  · rw [if_pos z, if_pos z]
  · rw [if_neg z, if_neg z, upd_ne fun e => z (by rw [e]; exact h)]
theorem Same.rmb {F H' : Hp} {bs : List Addr} (e : Same F H') (n : ∀ b ∈ bs, F b = none) : Same F (rmL bs H') := fun b o q => rm_in (fun z => by
  rw [n b z] at q
  cases q) (e _ _ q)
theorem kind_ref {t : Tm} (h : kind t = "ref") : ∃ i o, t = .ref i o := by
  cases t with
  | ref i o => exact ⟨i, o, rfl⟩
  | _ =>
    simp only [kind] at h
    exact absurd h (by decide +kernel)
def spPlaced : Sp := fun vs H Q _ => ∃ (F : Hp) (t : Tm) (v : V) (d : Addr) (kvs : List (Key × V)) (m : Int → Option Tm) (c : Int → Option V), vs = [v, .ref d] ∧ Same F H ∧ TmAt F t v ∧ F d = some (.dK kvs) ∧ DG kvs c ∧ TC F m c ∧ kvs.length ≤ 3000 ∧ wok t ∧ msz t ≤ 8000 ∧
  ∀ H' u, Same H H' → TmAt H' (sub m t) u → Q u H'
theorem scPlaced : FnScope ["term", "values", "done", "tasks", "part", "visible", "finished", "start", "inner"] ["term", "values"] (defScope cPlaced) := ⟨rfl, rfl, rfl, by decide +kernel, rfl, by decide +kernel, by decide +kernel⟩
section
variable {P : Program} {w : World} {K : PySem.W.Frag} {mg : Str → Option Value} {base : Heap}
theorem ok_placed {f fI fR fT : Addr} {fd fdI fdR fdT : FuncData} {k : Nat} (F : Fun K "placed" "placed" cPlaced f fd)
    (GI : FnOk P w K mg base CX0 k fI fdI ["term"] spKids) (bI : Binds K fdI ["term"] []) (kI : PySem.W.keepIn K (.ref fI) = true) (mI : mg "inner_terms" = some (.ref fI))
    (GR : FnOk P w K mg base CX0 k fR fdR ["term", "inner"] spReb) (bR : Binds K fdR ["term", "inner"] []) (kR : PySem.W.keepIn K (.ref fR) = true) (mR : mg "rebuilt" = some (.ref fR))
    (GT : FnOk P w K mg base CX0 k fT fdT ["term", "visible"] spTasks) (bT : Binds K fdT ["term", "visible"] []) (kT : PySem.W.keepIn K (.ref fT) = true) (mT : mg "inner_tasks" = some (.ref fT))
    (ml : mg "len" = none) : FnOk P w K mg base CX0 (k + 1) f fd ["term", "values"] spPlaced := by
  refine F.ok scPlaced (fun vs H Q E h => ?_) (fun cdv A outer st H vs Q E hr h => ?_)
  · obtain ⟨F, t, v, d, kvs, m, c, rfl, _⟩ := h
    rfl
  obtain ⟨Fh, t, v, d, kvs, m, c, rfl, sF, ta, ed, dg, tc, hkv, hw0, hz0, q⟩ := h
  have hu : (A.deeper (envOfC "placed" (defScope cPlaced) st.heap.objs.size f cdv)).units + 1 < cLine := by
    have := hr.units
    omega
  refine ⟨_, pss_cons (ps_set (i := 2) scPlaced.nd rfl (.inl rfl) (pe_lst pa_nil))
    (pss_cons (ps_set (i := 3) scPlaced.nd rfl (.inl rfl) (pe_lst (pa_cons (pe_tup (pa_cons (pv 0) (pa_cons (pv 1) (pa_cons pe_bl pa_nil)))) pa_nil)))
    (pss_cons (ps_while PassesOwn.never (pt_truth (pv 3) (fun _ => by rfl))
      (pss_cons (ps_asg (pe_bm0 PySem.F.plainAttrs_list PySem.F.slot_list_pop PySem.F.type_list_pop mt_pop (pv 3)) (pg_tup rfl (pgs_cons (pg_name (i := 4) scPlaced.nd rfl (.inl rfl)) (pgs_cons (pg_name (i := 5) scPlaced.nd rfl (.inl rfl)) (pgs_cons (pg_name (i := 6) scPlaced.nd rfl (.inl rfl)) pgs_nil)))))
      (pss_one (ps_if (pt_val (pv 6))
        (pss_cons (ps_set (i := 7) scPlaced.nd rfl (.inl rfl) (pe_op op_sub (pe_callB call_len_seq (by rfl) ml PySem.boot_len (pa_cons (pv 2) pa_nil)) (pe_callB call_len_seq (by rfl) ml PySem.boot_len (pa_cons (pe_call GI hr (by rfl) mI kI bI .nil pass0 (pa_cons (pv 4) pa_nil)) pa_nil))))
        (pss_cons (ps_set (i := 8) scPlaced.nd rfl (.inl rfl) (pe_slice sl_list (pv 2) (po_some (pv 7)) po_none))
        (pss_cons (ps_delTail (pv 2) (pv 7))
        (pss_one (ps_expr (pe_bm PySem.F.plainAttrs_list PySem.F.slot_list_append PySem.F.type_list_append mt_append (pv 2) (pa_cons (pe_call GR hr (by rfl) mR kR bR .nil pass0 (pa_cons (pv 4) (pa_cons (pv 8) pa_nil))) pa_nil)))))))
        (pss_one (ps_if (pt_cmpR op_eq (pe_ix ix_tup (pv 4) pe_int (fun _ _ => rfl)) pe_str (nomark _))
          (pss_one (ps_expr (pe_bm PySem.F.plainAttrs_list PySem.F.slot_list_append PySem.F.type_list_append mt_append (pv 2) (pa_cons (pe_dget2 hu (pv 5) (pe_ix ix_tup (pv 4) pe_int (fun _ _ => rfl)) (pv 4) ⟨rfl, rfl, rfl, rfl⟩) pa_nil))))
          (pss_cons (ps_expr (pe_bm PySem.F.plainAttrs_list PySem.F.slot_list_append PySem.F.type_list_append mt_append (pv 3) (pa_cons (pe_tup (pa_cons (pv 4) (pa_cons (pv 5) (pa_cons pe_bl pa_nil)))) pa_nil)))
          (pss_one (ps_expr (pe_bm PySem.F.plainAttrs_list PySem.F.slot_list_extend PySem.F.type_list_extend mt_extend (pv 3) (pa_cons (pe_call GT hr (by rfl) mT kT bT .nil pass0 (pa_cons (pv 4) (pa_cons (pv 5) pa_nil))) pa_nil)))))))))))
    (pss_one (ps_ret (pe_ix ix_list (pv 2) pe_int (fun _ _ => rfl)))))), ?_⟩
  refine ⟨by show 0 ≤ sizeLine; decide, fun dn ndn => ?_⟩
  refine ⟨_, rfl, _, rfl, by show 3 ≤ sizeLine; decide, fun a na => ?_⟩
  refine ⟨by show 1 ≤ sizeLine; decide, fun tk ntk => ?_⟩
  have sa1 : Same H (upd H dn (.lst [])) := same_new ndn _
  have edn : (upd H dn (.lst [])) dn = some (.lst []) := upd_same
  generalize upd H dn (.lst []) = Ha at sa1 edn na ntk
  have sa2 : Same Ha (upd Ha a (.tup [v, .ref d, .bl false])) := same_new na _
  have ea : (upd Ha a (.tup [v, .ref d, .bl false])) a = some (.tup [v, .ref d, .bl false]) := upd_same
  have eda : a ≠ dn := fun z => by
    rw [z, edn] at na
    cases na
  replace edn := sa2 _ _ edn
  generalize upd Ha a (.tup [v, .ref d, .bl false]) = Hb at sa2 ea edn ntk
  have sab := sa1.trans sa2
  have Htk : H tk = none := sab.free ntk
  have tdn : tk ≠ dn := fun z => by
    rw [z, edn] at ntk
    cases ntk
  have atk : a ≠ tk := ne_of_none ea ntk
  have Fdn : ∀ b ∈ [dn, tk], Fh b = none := fun b hb => by
    rcases List.mem_cons.mp hb with e | e
    · rw [e]
      exact sF.free ndn
    · rw [List.mem_singleton.mp e]
      exact sF.free Htk
  have sbk : Same H (upd Hb tk (.lst [.ref a])) := sab.trans (same_new ntk _)
  have sFr : Same Fh (rmL [dn, tk] (upd Hb tk (.lst [.ref a]))) := Same.rmb (sF.trans sbk) Fdn
  refine ⟨fun n σ H' => ∃ (js : List Job) (xs : List V) (ds : List Tm) (vs : List V) (y4 y5 y6 y7 y8 : Option V), σ = [some v, some (.ref d), some (.ref dn), some (.ref tk), y4, y5, y6, y7, y8] ∧ Same H H' ∧ H' dn = some (.lst vs) ∧ H' tk = some (.lst xs.reverse) ∧ TmsAt (rmL [dn, tk] H') ds vs ∧ JobsAt (rmL [dn, tk] H') js xs ∧
      exec js ds = some [sub m t] ∧ n = jws js ∧ ds.length + jws js ≤ 2 * msz t ∧ ∀ j ∈ js, wok j.t ∧ msz j.t ≤ 8000,
    ⟨jws [⟨t, m, false⟩], [⟨t, m, false⟩], [.ref a], [], [], none, none, none, none, none, rfl, sbk, by rw [upd_ne (Ne.symm tdn)]; exact edn, upd_same, .nil, .one ⟨a, v, d, kvs, c, rfl, rm_in (by simp [eda, atk]) (by rw [upd_ne atk]; exact ea), TmAt.same sFr _ _ ta, sFr _ _ ed, dg, tc.same sFr, hkv⟩, rfl, rfl, Nat.le_of_eq (by show 0 + (2 * msz t + 0) = _; omega), fun j hj => by rw [List.mem_singleton.mp hj]; exact ⟨hw0, hz0⟩⟩, ?_⟩
  clear sFr sbk atk edn ea eda sa2 sa1 sab ntk na a
  rintro n σ H1 ⟨js, xs, ds, vs, y4, y5, y6, y7, y8, rfl, sm, edn, etk, tds, jxs, he, rfl, hb, hjs⟩
  refine ⟨_, rfl, _, .inl ⟨_, SqL.of etk, rfl⟩, ?_⟩
  cases jxs with
  | nil =>
    refine if_false_of (by simp) ?_
    have e1 : ds = [sub m t] := Option.some.inj he
    rw [e1] at tds
    unfold TmsAt at tds
    obtain ⟨u, r, rfl, tu, _⟩ := tds
    exact ⟨_, rfl, dn, _, 0, u, rfl, rfl, SqL.of edn, at0, q H1 u sm (TmAt.same rm_sub _ _ tu)⟩
  | @cons j x js xs hj jxs =>
  refine if_true_of (by simp) ?_
  refine ⟨_, fun _ _ z => z, ?_⟩
  obtain ⟨a, pv4, d2, k2, c2, rfl, ea, tp, ed2, dg2, tc2, hk2⟩ := hj
  have hrev : (V.ref a :: xs).reverse.dropLast = xs.reverse := by simp
  refine ⟨_, rfl, .inl ⟨rfl, _, SqL.of etk⟩, tk, _, .ref a, rfl, rfl, etk, by simp, ?_⟩
  rw [hrev]
  have sm2 : Same H (upd H1 tk (.lst xs.reverse)) := same_mut sm Htk _
  have etk2 : (upd H1 tk (.lst xs.reverse)) tk = some (.lst xs.reverse) := upd_same
  have edn2 : (upd H1 tk (.lst xs.reverse)) dn = some (.lst vs) := by
    rw [upd_ne (Ne.symm tdn)]
    exact edn
  rw [← rmL_put (u := tk) (o := .lst xs.reverse) (by simp)] at ea tp ed2 tc2 tds jxs
  generalize upd H1 tk (.lst xs.reverse) = H2 at sm2 etk2 edn2 ea tp ed2 tc2 tds jxs
  clear sm edn etk H1
  refine ⟨a, _, rfl, SqT.of (rm_sub _ _ ea), rfl, _, _, rfl, _, _, rfl, _, _, rfl, rfl, ?_⟩
  have hj := hjs j List.mem_cons_self
  have hjs' : ∀ k ∈ js, wok k.t ∧ msz k.t ≤ 8000 := fun k hk => hjs k (List.mem_cons_of_mem _ hk)
  have wk := wok_kids hj.1
  have zk := msz_kids j.t
  have lk := len_mszs (kids j.t)
  have lds := tds.len
  have ljx := jxs.len
  have ljw := jws_len js
  have lz := msz_pos j.t
  have nin : ∀ {G : Hp} {b : Addr}, G dn ≠ none → G tk ≠ none → G b = none → b ∉ [dn, tk] := fun {G b} g1 g2 e z => by
    rcases List.mem_cons.mp z with w | w
    · exact g1 (w ▸ e)
    · exact g2 (List.mem_singleton.mp w ▸ e)
  refine ⟨_, rfl, j.fin, rfl, ?_⟩
  obtain ⟨jt, jm, jf⟩ := j
  simp only at *
  cases jf with
  | true =>
    refine if_true_of rfl ?_
    have he2 : (kids jt).length ≤ ds.length ∧ exec js (ds.take (ds.length - (kids jt).length) ++ [rebT jt (ds.drop (ds.length - (kids jt).length))]) = some [sub m t] := by
      have he' : (if (kids jt).length ≤ ds.length then exec js (ds.take (ds.length - (kids jt).length) ++ [rebT jt (ds.drop (ds.length - (kids jt).length))]) else none) = some [sub m t] := he
      by_cases z : (kids jt).length ≤ ds.length
      · rw [if_pos z] at he'
        exact ⟨z, he'⟩
      · rw [if_neg z] at he'
        cases he'
    obtain ⟨hle, he3⟩ := he2
    refine ⟨_, rfl, dn, vs, rfl, .inl (SqL.of edn2), ?_⟩
    refine ⟨_, rfl, rmL [dn, tk] H2, jt, pv4, rfl, rm_sub, tp, by omega, fun H3 pi ks s3 n3 e3 tks => ⟨pi, ks, rfl, .inl (SqL.of e3), _, _, rfl, rfl, ?_⟩⟩
    have lks := tks.len
    have edn3 := s3 _ _ edn2
    have etk3 := s3 _ _ etk2
    have hst : (vs.length : Int) - (ks.length : Nat) = ((ds.length - (kids jt).length : Nat) : Int) := by omega
    refine ⟨_, rfl, _, rfl, ((ds.length - (kids jt).length : Nat) : Int), congrArg V.int hst, dn, vs, rfl, SqL.of edn3, fun pin npin => ?_⟩
    rw [cut_from vs _ (by omega)]
    generalize hA : ds.length - (kids jt).length = A0 at he3 hst
    have s4 : Same H3 (upd H3 pin (.lst (vs.drop A0))) := same_new npin _
    have epin : (upd H3 pin (.lst (vs.drop A0))) pin = some (.lst (vs.drop A0)) := upd_same
    generalize upd H3 pin (.lst (vs.drop A0)) = H4 at s4 epin
    have edn4 := s4 _ _ edn3
    have etk4 := s4 _ _ etk3
    have pdn : pin ≠ dn := fun z => by
      rw [z, edn3] at npin
      cases npin
    refine ⟨_, rfl, _, rfl, dn, vs, A0, rfl, congrArg V.int hst, edn4, by omega, ?_⟩
    have edn5 : (upd H4 dn (.lst (vs.take A0))) dn = some (.lst (vs.take A0)) := upd_same
    have etk5 : (upd H4 dn (.lst (vs.take A0))) tk = some (.lst xs.reverse) := by
      rw [upd_ne tdn]
      exact etk4
    have epin5 : (upd H4 dn (.lst (vs.take A0))) pin = some (.lst (vs.drop A0)) := by
      rw [upd_ne pdn]
      exact epin
    have sm5 : Same H (upd H4 dn (.lst (vs.take A0))) := same_mut (sm2.trans (s3.trans s4)) ndn _
    have r25 : Same (rmL [dn, tk] H2) (rmL [dn, tk] (upd H4 dn (.lst (vs.take A0)))) := by
      rw [rmL_put (by simp)]
      exact Same.rm (s3.trans s4)
    generalize upd H4 dn (.lst (vs.take A0)) = H5 at edn5 etk5 epin5 sm5 r25
    refine ⟨_, rfl, .inl ⟨rfl, _, SqL.of edn5⟩, ?_⟩
    refine ⟨_, rfl, _, rfl, rmL [dn, tk] H2, jt, pv4, pin, vs.drop A0, ds.drop A0, rfl, r25.trans rm_sub, tp, epin5, TmsAt.drop A0 tds, by rw [List.length_drop]; omega, by omega, by omega, fun H6 u s6 tu => ?_⟩
    have edn6 := s6 _ _ edn5
    have etk6 := s6 _ _ etk5
    refine ⟨dn, _, _, rfl, rfl, edn6, by rw [List.length_take]; exact smallL (by omega), ?_⟩
    have r26 : Same (rmL [dn, tk] H2) (rmL [dn, tk] (upd H6 dn (.lst (vs.take A0 ++ [u])))) := by
      rw [rmL_put (by simp)]
      exact r25.trans (Same.rm s6)
    have tu6 : TmAt (rmL [dn, tk] (upd H6 dn (.lst (vs.take A0 ++ [u])))) (rebT jt (ds.drop A0)) u := by
      rw [rmL_put (by simp)]
      exact TmAt.same (ov_sub (r25.trans (Same.rm s6)) fun b o n e => rm_in (nin (by rw [edn5]; simp) (by rw [etk5]; simp) n) e) _ _ tu
    refine ⟨jws js, ?_, js, xs, ds.take A0 ++ [rebT jt (ds.drop A0)], vs.take A0 ++ [u], _, _, _, _, _, rfl, same_mut (sm5.trans s6) ndn _, upd_same, by rw [upd_ne tdn]; exact etk6, TmsAt.app (.one tu6) (TmsAt.same r26 _ _ (TmsAt.take A0 tds)), jxs.same r26, he3, rfl, ?_, hjs'⟩
    · show jws js < 1 + jws js
      omega
    · rw [List.length_append, List.length_take]
      have hb2 : ds.length + (1 + jws js) ≤ 2 * msz t := hb
      show min A0 ds.length + 1 + jws js ≤ _
      omega
  | false =>
    refine if_false_of rfl ?_
    have hb2 : ds.length + (2 * msz jt + jws js) ≤ 2 * msz t := hb
    obtain ⟨a1, r1, rfl, eh1⟩ := tp.head
    refine ⟨_, rfl, a1, _, 0, _, rfl, rfl, SqT.of (rm_sub _ _ eh1), at0, rfl, _, rfl, ?_⟩
    by_cases hk : kind jt = "ref"
    · refine if_true_of (by rw [hk]; exact str_eq) ?_
      obtain ⟨i, o, rfl⟩ := kind_ref hk
      have tp0 := tp
      unfold TmAt at tp
      obtain ⟨a2, w2, e2, ea2, og2⟩ := tp
      cases e2
      refine ⟨_, rfl, .inl ⟨rfl, _, SqL.of edn2⟩, ?_⟩
      refine ⟨_, rfl, d2, rfl, .inl ⟨k2, .inl (rm_sub _ _ ed2)⟩, _, rfl, a1, _, 1, _, rfl, rfl, SqT.of (rm_sub _ _ ea2), at1, _, rfl, c2 i, .inl ⟨k2, Sum.inl i, .inl (rm_sub _ _ ed2), rfl, (dg2.1 i).symm⟩, dn, _, _, rfl, rfl, edn2, smallL (by omega), ?_⟩
      have tuT : TmAt (rmL [dn, tk] H2) (sub jm (.ref i o)) ((c2 i).getD (.ref a1)) := by
        simp only [sub]
        rcases tc2 i with ⟨e1, e2⟩ | ⟨T, w, e1, e2, h⟩
        · rw [e1, e2]
          exact tp0
        · rw [e1, e2]
          exact h
      refine ⟨jws js, ?_, js, xs, ds ++ [sub jm (.ref i o)], vs ++ [(c2 i).getD (.ref a1)], _, _, _, _, _, rfl, same_mut sm2 ndn _, upd_same, by rw [upd_ne tdn]; exact etk2, ?_, ?_, he, rfl, ?_, hjs'⟩
      · show jws js < 2 * msz (.ref i o) + jws js
        omega
      · rw [rmL_put (by simp)]
        exact TmsAt.app (.one tuT) tds
      · rw [rmL_put (by simp)]
        exact jxs
      · rw [List.length_append]
        show ds.length + 1 + jws js ≤ _
        omega
    · refine if_false_of (str_ne hk) ?_
      have hnr : ∀ i o, jt ≠ .ref i o := fun i o e => hk (by rw [e]; rfl)
      refine ⟨_, rfl, .inl ⟨rfl, _, SqL.of etk2⟩, ?_⟩
      refine ⟨_, rfl, _, rfl, by show 3 ≤ sizeLine; decide, fun T nT => ?_⟩
      have sT : Same H2 (upd H2 T (.tup [.ref a1, .ref d2, .bl true])) := same_new nT _
      have eT : (upd H2 T (.tup [.ref a1, .ref d2, .bl true])) T = some (.tup [.ref a1, .ref d2, .bl true]) := upd_same
      have Tin : T ∉ [dn, tk] := nin (by rw [edn2]; simp) (by rw [etk2]; simp) nT
      generalize upd H2 T (.tup [.ref a1, .ref d2, .bl true]) = H3 at sT eT
      have edn3 := sT _ _ edn2
      have etk3 := sT _ _ etk2
      refine ⟨tk, _, _, rfl, rfl, etk3, by rw [List.length_reverse]; exact smallL (by omega), ?_⟩
      have etk4 : (upd H3 tk (.lst (xs.reverse ++ [.ref T]))) tk = some (.lst (xs.reverse ++ [.ref T])) := upd_same
      have edn4 : (upd H3 tk (.lst (xs.reverse ++ [.ref T]))) dn = some (.lst vs) := by
        rw [upd_ne (Ne.symm tdn)]
        exact edn3
      have sm4 : Same H (upd H3 tk (.lst (xs.reverse ++ [.ref T]))) := same_mut (sm2.trans sT) Htk _
      have r24 : Same (rmL [dn, tk] H2) (rmL [dn, tk] (upd H3 tk (.lst (xs.reverse ++ [.ref T])))) := by
        rw [rmL_put (by simp)]
        exact Same.rm sT
      have eT4 : rmL [dn, tk] (upd H3 tk (.lst (xs.reverse ++ [.ref T]))) T = some (.tup [.ref a1, .ref d2, .bl true]) := by
        rw [rmL_put (by simp)]
        exact rm_in Tin eT
      generalize upd H3 tk (.lst (xs.reverse ++ [.ref T])) = H4 at etk4 edn4 sm4 r24 eT4
      refine ⟨_, rfl, .inl ⟨rfl, _, SqL.of etk4⟩, ?_⟩
      refine ⟨_, rfl, _, rfl, rmL [dn, tk] H2, jt, .ref a1, d2, k2, jm, c2, rfl, r24.trans rm_sub, tp, ed2, dg2, tc2, hk2, by omega, by omega, fun H5 p ws s5 n5 e5 jk => ?_⟩
      have etk5 := s5 _ _ etk4
      have edn5 := s5 _ _ edn4
      have lws := jk.len
      rw [kidJ_length] at lws
      refine ⟨tk, p, _, _, rfl, rfl, etk5, e5, by rw [List.length_append, List.length_reverse, List.length_reverse]; show xs.length + 1 + ws.length ≤ sizeLine; exact small (by omega), ?_⟩
      have r25 : Same (rmL [dn, tk] H2) (rmL [dn, tk] H5) := r24.trans (Same.rm s5)
      refine ⟨jws (kidJ jm jt ++ ⟨jt, jm, true⟩ :: js), ?_, kidJ jm jt ++ ⟨jt, jm, true⟩ :: js, ws ++ .ref T :: xs, ds, vs, _, _, _, _, _, rfl, same_mut (sm4.trans s5) Htk _, by rw [upd_ne (Ne.symm tdn)]; exact edn5, by rw [upd_same]; simp, ?_, ?_, ?_, rfl, ?_, ?_⟩
      · rw [jws_app, jws_kids]
        show 2 * mszs (kids jt) + (1 + jws js) < 2 * msz jt + jws js
        omega
      · rw [rmL_put (by simp)]
        exact TmsAt.same r25 _ _ tds
      · rw [rmL_put (by simp)]
        refine JobsAt.app (.cons ⟨T, .ref a1, d2, k2, c2, rfl, Same.rm s5 _ _ eT4, TmAt.same r25 _ _ tp, r25 _ _ ed2, dg2, tc2.same r25, hk2⟩ (jxs.same r25)) (jk.same (ov_sub r25 fun b o n e => ?_))
        have z := rm_of e
        exact rm_in (nin (by rw [edn4]; simp) (by rw [etk4]; simp) n) z.2
      · rw [exec_open jt jm js ds hnr]
        exact he
      · rw [jws_app, jws_kids]
        show ds.length + (2 * mszs (kids jt) + (1 + jws js)) ≤ _
        omega
      · intro j hj2
        rcases List.mem_append.mp hj2 with e | e
        · have hm : j.t ∈ kids jt := by
            rw [← kidJ_t jm jt]
            exact List.mem_map.mpr ⟨j, e, rfl⟩
          refine ⟨woks_mem wk.1 hm, ?_⟩
          have := mszs_mem hm
          omega
        · rcases List.mem_cons.mp e with e | e
          · rw [e]
            exact hj
          · exact hjs' j e
/-- fresh(term): an equal one -/
def spFresh : Sp := fun vs H Q _ => ∃ (F : Hp) (t : Tm) (v : V), vs = [v] ∧ Same F H ∧ TmAt F t v ∧ wok t ∧ msz t ≤ 8000 ∧ ∀ H' u, Same H H' → TmAt H' t u → Q u H'
theorem scFresh : FnScope ["term"] ["term"] (defScope cFresh) := ⟨rfl, rfl, rfl, by decide +kernel, rfl, by decide +kernel, by decide +kernel⟩
theorem ok_fresh {f fP : Addr} {fd fdP : FuncData} {k : Nat} (F : Fun K "fresh" "fresh" cFresh f fd)
    (GP : FnOk P w K mg base CX0 k fP fdP ["term", "values"] spPlaced) (bP : Binds K fdP ["term", "values"] []) (kP : PySem.W.keepIn K (.ref fP) = true) (mP : mg "placed" = some (.ref fP)) : FnOk P w K mg base CX0 (k + 1) f fd ["term"] spFresh := by
  refine F.ok scFresh (fun vs H Q E h => ?_) (fun cdv A outer st H vs Q E hr h => ?_)
  · obtain ⟨F, t, v, rfl, _⟩ := h
    rfl
  obtain ⟨Fh, t, v, rfl, sF, ta, hw, hz, q⟩ := h
  refine ⟨_, pss_one (ps_ret (pe_call GP hr (by rfl) mP kP bP .nil pass0 (pa_cons (pv 0) (pa_cons pe_dnewK pa_nil)))), ?_⟩
  refine ⟨_, rfl, fun d nd => ?_⟩
  have sd : Same H (upd H d (.dK [])) := same_new nd _
  refine ⟨upd H d (.dK []), t, v, d, [], fun _ => none, fun _ => none, rfl, Same.refl _, TmAt.same (sF.trans sd) _ _ ta, upd_same, DG.nil, TC.nil, Nat.zero_le _, hw, hz, fun H' u s tu => ?_⟩
  rw [sub_none] at tu
  exact q H' u (sd.trans s) tu
end
end Sg

namespace Sg
open PySem PySem.Spec PyProof.Rows L2
/-! ### what is new -/
def nw (H H' : Hp) : Hp := fun a => if H a = none then H' a else none
theorem nw_new {H H' : Hp} {a : Addr} {o : HO} (n : H a = none) (h : H' a = some o) : nw H H' a = some o := by
  unfold nw
  rw [if_pos n]
  exact h
theorem nw_of {H H' : Hp} {a : Addr} {o : HO} (h : nw H H' a = some o) : H a = none ∧ H' a = some o := by
  unfold nw at h
  by_cases z : H a = none
  · rw [if_pos z] at h
    exact ⟨z, h⟩
  · rw [if_neg z] at h
    cases h
/-- what stands there stands here -/
def Dm (H H1 : Hp) : Prop := ∀ a, H1 a = none → H a = none
theorem Dm.refl (H : Hp) : Dm H H := fun _ e => e
theorem Dm.trans {H H1 H2 : Hp} (a : Dm H H1) (b : Dm H1 H2) : Dm H H2 := fun x e => a x (b x e)
theorem Same.dm {H H1 : Hp} (e : Same H H1) : Dm H H1 := fun _ n => e.free n
theorem Kp.dm {p c : Addr} {H H' : Hp} (k : Kp p c H H') (S' : St p c H') : Dm H H' := fun _ n => k.free S' n
theorem nw_base {H H1 H' : Hp} (h : Dm H H1) : Same (nw H1 H') (nw H H') := fun b o q => by
  have z := nw_of q
  exact nw_new (h b z.1) z.2
theorem nw_up {H H' H'' : Hp} (h : ∀ b o, H b = none → H' b = some o → H'' b = some o) : Same (nw H H') (nw H H'') := fun b o q => by
  have z := nw_of q
  exact nw_new z.1 (h b o z.1 z.2)
theorem nw_sub {H H' : Hp} : Same (nw H H') H' := fun _ _ q => (nw_of q).2
theorem nw_same {H H' H'' : Hp} (e : Same H' H'') : Same (nw H H') (nw H H'') := nw_up fun b o _ q => e _ _ q
theorem St.some {p c : Addr} {H : Hp} (s : St p c H) : H p ≠ none ∧ H c ≠ none := by
  obtain ⟨xs, sd, s⟩ := s
  exact ⟨by rw [s.hp]; simp, by rw [s.hc]; simp⟩
theorem Kp.nw {p c : Addr} {H H' H'' : Hp} (S : St p c H) (k : Kp p c H' H'') : Same (Sg.nw H H') (Sg.nw H H'') := nw_up fun b o n q => k b o (fun z => S.some.1 (z ▸ n)) (fun z => S.some.2 (z ▸ n)) q
theorem nw_put {H H' : Hp} {D : Addr} {o : HO} (h : H D ≠ none) : Same (nw H H') (nw H (upd H' D o)) := nw_up fun b u n q => by
  rw [upd_ne (show b ≠ D from fun z => h (by rw [← z]; exact n))]
  exact q
/-! ### _law_term -/
def bnd : Nat → Nat
  | 0 => 1
  | r + 1 => 2 + 3 * bnd r
theorem bnd_pos : ∀ r, 1 ≤ bnd r
  | 0 => Nat.le_refl _
  | r + 1 => by
    show 1 ≤ 2 + 3 * bnd r
    omega
def spTerm (n : Nat) : Sp := fun vs H Q _ => ∃ (p c e : Addr) (env : List Int) (d : Nat), vs = [.ref p, .ref e, .int (d : Nat)] ∧ d < n ∧ d ≤ 4 ∧ H e = some (.lst (env.map V.int)) ∧ e ≠ p ∧ e ≠ c ∧ env.length + 5 * d ≤ 100 ∧ (∀ i ∈ env, i.natAbs ≤ 1000) ∧ St p c H ∧
  ∀ H' t v, Kp p c H H' → St p c H' → TmAt (nw H H') t v → wok t → clo env t → mht t ≤ 2 * d → msz t ≤ bnd d → Q v H'
theorem scTerm : FnScope ["state", "env", "deep", "kind", "o", "value", "rows", "args", "ids", "body", "name", "k"] ["state", "env", "deep"] (defScope sTerm) := ⟨rfl, rfl, rfl, by decide +kernel, rfl, by decide +kernel, by decide +kernel⟩
theorem term_none {f : Addr} {fd : FuncData} {P : Program} {w : World} {K : PySem.W.Frag} {mg : Str → Option Value} {base : Heap} {k : Nat} : FnOk P w K mg base CX0 k f fd ["state", "env", "deep"] (spTerm 0) := by
  have no : ∀ vs H Q E, ¬ spTerm 0 vs H Q E := fun vs H Q E h => by
    obtain ⟨p, c, e, env, d, _, h1, _⟩ := h
    omega
  exact ⟨fun vs H Q E h => absurd h (no vs H Q E), fun A outer s H args us vs Q E _ _ _ _ h => absurd h (no vs H Q E)⟩
section
variable {P : Program} {w : World} {K : PySem.W.Frag} {mg : Str → Option Value} {base : Heap}
theorem ok_term {f fD fK : Addr} {fd fdD fdK : FuncData} {k n : Nat} (F : Fun K "_law_term" "_law_term" sTerm f fd)
    (G : FnOk P w K mg base CX0 k f fd ["state", "env", "deep"] (spTerm n)) (bF : Binds K fd ["state", "env", "deep"] []) (mF : mg "_law_term" = some (.ref f))
    (GD : FnOk P w K mg base CX0 k fD fdD ["state", "many"] spDraw) (bD : Binds K fdD ["state", "many"] []) (kD : PySem.W.keepIn K (.ref fD) = true) (mD : mg "_law_draw" = some (.ref fD))
    (GK : FnOk P w K mg base CX0 k fK fdK ["state", "row"] spPick) (bK : Binds K fdK ["state", "row"] []) (kK : PySem.W.keepIn K (.ref fK) = true) (mK : mg "_law_pick" = some (.ref fK))
    (mr : mg "range" = none) (ml : mg "len" = none) (mt : mg "tuple" = none) : FnOk P w K mg base CX0 (k + 1) f fd ["state", "env", "deep"] (spTerm (n + 1)) := by
  refine F.ok scTerm (fun vs H Q E h => ?_) (fun cdv A outer st H vs Q E hr h => ?_)
  · obtain ⟨p, c, e, env, d, rfl, _⟩ := h
    rfl
  obtain ⟨p, c, e, env, d, rfl, hdn, hd4, he, nep, nec, hlen, hib, S0, q⟩ := h
  refine ⟨_, pss_cons (ps_set (i := 3) scTerm.nd rfl (.inl rfl) (pe_call GD hr (by rfl) mD kD bD .nil pass0 (pa_cons (pv 0) (pa_cons pe_int pa_nil))))
 (pss_cons (ps_set (i := 4) scTerm.nd rfl (.inl rfl) (pe_tup (pa_cons (pe_op op_sub (pe_call GD hr (by rfl) mD kD bD .nil pass0 (pa_cons (pv 0) (pa_cons pe_int pa_nil))) pe_int) (pa_cons (pe_callTy call_tuple_of (by rfl) mt PyProof.Rows.boot_tuple (pa_cons (pe_lc (own := [("k", 11)]) (g := gName 11) (tt := tYes) rfl scTerm.nd (pi_range1 (by rfl) mr (pa_cons (pe_call GD hr (by rfl) mD kD bD .nil pass0 (pa_cons (pv 0) (pa_cons pe_int pa_nil))) pa_nil)) (blkOk_by (N := ["state", "env", "deep", "kind", "o", "value", "rows", "args", "ids", "body", "name", "k"]) (sc := defScope sTerm) (by decide +kernel)) (fun _ _ _ _ _ => pg_name (i := 11) scTerm.nd rfl (Or.inl rfl)) (fun _ _ _ _ _ => pts_nil) (fun _ _ _ _ _ => pv 11)) pa_nil)) (pa_cons (pe_op op_sub (pe_call GD hr (by rfl) mD kD bD .nil pass0 (pa_cons (pv 0) (pa_cons pe_int pa_nil))) pe_int) pa_nil)))))
 (pss_cons (ps_if (pw_or (pt_cmpR op_eq (pv 2) pe_int (nomark _)) (pw_or1 (pt_cmpR op_eq (pv 3) pe_int (nomark _)))).pt (Evl.pss_cut (ps_if (pw_and (pt_cmpR op_gt (pe_callB call_len_seq (by rfl) ml PySem.boot_len (pa_cons (pv 1) pa_nil)) pe_int (nomark _)) (pw_and1 (pt_cmpR op_eq (pe_call GD hr (by rfl) mD kD bD .nil pass0 (pa_cons (pv 0) (pa_cons pe_int pa_nil))) pe_int (nomark _)))).pt (pss_one (ps_ret (pe_tup (pa_cons pe_str (pa_cons (pe_call GK hr (by rfl) mK kK bK .nil pass0 (pa_cons (pv 0) (pa_cons (pv 1) pa_nil))) (pa_cons (pv 4) pa_nil)))))) pss_nil)
 (pss_cons (ps_if (pt_cmpR op_eq (pe_call GD hr (by rfl) mD kD bD .nil pass0 (pa_cons (pv 0) (pa_cons pe_int pa_nil))) pe_int (nomark _)) (pss_one (ps_ret (pe_tup (pa_cons pe_str (pa_cons (pe_call GK hr (by rfl) mK kK bK .nil pass0 (pa_cons (pv 0) (pa_cons (pe_lst (pa_cons pe_str (pa_cons pe_str (pa_cons pe_str pa_nil)))) pa_nil))) (pa_cons (pv 4) pa_nil)))))) pss_nil)
 (pss_one (ps_ret (pe_tup (pa_cons pe_str (pa_cons (pe_call GK hr (by rfl) mK kK bK .nil pass0 (pa_cons (pv 0) (pa_cons (pe_lst (pa_cons pe_int (pa_cons pe_int (pa_cons pe_int (pa_cons (pe_un un_neg pe_int) (pa_cons pe_int (pa_cons (pe_un un_neg pe_int) (pa_cons pe_int pa_nil)))))))) pa_nil))) (pa_cons (pv 4) pa_nil)))))))) pss_nil)
 (pss_cons (ps_if (pt_cmpR op_eq (pv 3) pe_int (nomark _)) (pss_cons (ps_set (i := 5) scTerm.nd rfl (.inl rfl) (pe_call G hr (by rfl) mF F.kp bF .nil pass0 (pa_cons (pv 0) (pa_cons (pv 1) (pa_cons (pe_op op_sub (pv 2) pe_int) pa_nil)))))
 (pss_one (ps_ret (pe_tup (pa_cons pe_str (pa_cons (pe_op op_sub pe_int (pv 2)) (pa_cons (pv 5) (pa_cons (pe_call G hr (by rfl) mF F.kp bF .nil pass0 (pa_cons (pv 0) (pa_cons (pe_op op_cat (pv 1) (pe_lst (pa_cons (pe_op op_sub pe_int (pv 2)) pa_nil))) (pa_cons (pe_op op_sub (pv 2) pe_int) pa_nil)))) (pa_cons (pv 4) pa_nil))))))))) pss_nil)
 (pss_cons (ps_if (pt_cmpR op_eq (pv 3) pe_int (nomark _)) (pss_cons (ps_setLc (i := 6) (own := [("k", 11)]) (g := gName 11) (tt := tYes) rfl scTerm.nd rfl rfl (sw_true rfl rfl (by decide) (by decide +kernel)) (pi_range1 (by rfl) mr (pa_cons pe_int pa_nil)) (blkOk_by (N := ["state", "env", "deep", "kind", "o", "value", "rows", "args", "ids", "body", "name", "k"]) (sc := defScope sTerm) (by decide +kernel)) (fun _ _ _ _ _ => pg_name (i := 11) scTerm.nd rfl (Or.inl rfl)) (fun _ _ _ _ _ => pts_nil) (fun _ _ _ _ _ => (pe_call G hr (by rfl) mF F.kp bF .nil pass0 (pa_cons (pv 0) (pa_cons (pv 1) (pa_cons (pe_op op_sub (pv 2) pe_int) pa_nil))))))
 (pss_one (ps_ret (pe_tup (pa_cons pe_str (pa_cons (pe_ix ix_list (pv 6) pe_int (fun _ _ => rfl)) (pa_cons (pe_ix ix_list (pv 6) pe_int (fun _ _ => rfl)) (pa_cons (pe_ix ix_list (pv 6) pe_int (fun _ _ => rfl)) (pa_cons (pv 4) pa_nil))))))))) pss_nil)
 (pss_cons (ps_setLc (i := 7) (own := [("k", 11)]) (g := gName 11) (tt := tYes) rfl scTerm.nd rfl rfl (sw_true rfl rfl (by decide) (by decide +kernel)) (pi_range1 (by rfl) mr (pa_cons (pe_call GK hr (by rfl) mK kK bK .nil pass0 (pa_cons (pv 0) (pa_cons (pe_lst (pa_cons pe_int (pa_cons pe_int (pa_cons pe_int (pa_cons pe_int (pa_cons pe_int pa_nil)))))) pa_nil))) pa_nil)) (blkOk_by (N := ["state", "env", "deep", "kind", "o", "value", "rows", "args", "ids", "body", "name", "k"]) (sc := defScope sTerm) (by decide +kernel)) (fun _ _ _ _ _ => pg_name (i := 11) scTerm.nd rfl (Or.inl rfl)) (fun _ _ _ _ _ => pts_nil) (fun _ _ _ _ _ => (pe_call G hr (by rfl) mF F.kp bF .nil pass0 (pa_cons (pv 0) (pa_cons (pv 1) (pa_cons (pe_op op_sub (pv 2) pe_int) pa_nil))))))
 (pss_cons (ps_if (pt_cmpR op_eq (pv 3) pe_int (nomark _)) (pss_cons (ps_setLc (i := 8) (own := [("k", 11)]) (g := gName 11) (tt := tYes) rfl scTerm.nd rfl rfl (sw_true rfl rfl (by decide) (by decide +kernel)) (pi_range1 (by rfl) mr (pa_cons (pe_call GK hr (by rfl) mK kK bK .nil pass0 (pa_cons (pv 0) (pa_cons (pe_lst (pa_cons (pe_callB call_len_seq (by rfl) ml PySem.boot_len (pa_cons (pv 7) pa_nil)) (pa_cons (pe_callB call_len_seq (by rfl) ml PySem.boot_len (pa_cons (pv 7) pa_nil)) (pa_cons pe_int pa_nil)))) pa_nil))) pa_nil)) (blkOk_by (N := ["state", "env", "deep", "kind", "o", "value", "rows", "args", "ids", "body", "name", "k"]) (sc := defScope sTerm) (by decide +kernel)) (fun _ _ _ _ _ => pg_name (i := 11) scTerm.nd rfl (Or.inl rfl)) (fun _ _ _ _ _ => pts_nil) (fun _ _ _ _ _ => (pe_op op_add (pe_op op_mul pe_int (pv 2)) (pv 11))))
 (pss_one (ps_ret (pe_tup (pa_cons pe_str (pa_cons (pe_tup (pa_cons pe_str (pa_cons (pv 8) (pa_cons (pe_call G hr (by rfl) mF F.kp bF .nil pass0 (pa_cons (pv 0) (pa_cons (pe_op op_cat (pv 1) (pv 8)) (pa_cons (pe_op op_sub (pv 2) pe_int) pa_nil)))) (pa_cons (pv 4) pa_nil))))) (pa_cons (pv 7) (pa_cons (pv 4) pa_nil)))))))) pss_nil)
 (pss_cons (ps_if (pt_cmpR op_eq (pv 3) pe_int (nomark _)) (pss_cons (ps_setLc (i := 8) (own := [("k", 11)]) (g := gName 11) (tt := tYes) rfl scTerm.nd rfl rfl (sw_true rfl rfl (by decide) (by decide +kernel)) (pi_range1 (by rfl) mr (pa_cons (pe_callB call_len_seq (by rfl) ml PySem.boot_len (pa_cons (pv 7) pa_nil)) pa_nil)) (blkOk_by (N := ["state", "env", "deep", "kind", "o", "value", "rows", "args", "ids", "body", "name", "k"]) (sc := defScope sTerm) (by decide +kernel)) (fun _ _ _ _ _ => pg_name (i := 11) scTerm.nd rfl (Or.inl rfl)) (fun _ _ _ _ _ => pts_nil) (fun _ _ _ _ _ => (pe_op op_add (pe_op op_add (pe_op op_mul pe_int (pv 2)) pe_int) (pv 11))))
 (pss_cons (ps_set (i := 9) scTerm.nd rfl (.inl rfl) (pe_call G hr (by rfl) mF F.kp bF .nil pass0 (pa_cons (pv 0) (pa_cons (pe_op op_cat (pe_op op_cat (pv 1) (pe_lst (pa_cons (pe_op op_mul pe_int (pv 2)) pa_nil))) (pv 8)) (pa_cons (pe_op op_sub (pv 2) pe_int) pa_nil)))))
 (pss_one (ps_ret (pe_tup (pa_cons pe_str (pa_cons (pe_tup (pa_cons pe_str (pa_cons (pe_op op_mul pe_int (pv 2)) (pa_cons (pv 8) (pa_cons (pv 9) (pa_cons (pv 4) pa_nil)))))) (pa_cons (pv 7) (pa_cons (pv 4) pa_nil))))))))) pss_nil)
 (pss_cons (ps_if (pt_cmpR op_eq (pv 3) pe_int (nomark _)) (pss_one (ps_ret (pe_tup (pa_cons pe_str (pa_cons (pe_call G hr (by rfl) mF F.kp bF .nil pass0 (pa_cons (pv 0) (pa_cons (pv 1) (pa_cons (pe_op op_sub (pv 2) pe_int) pa_nil)))) (pa_cons (pv 7) (pa_cons (pv 4) pa_nil))))))) pss_nil)
 (pss_cons (ps_if (pt_cmpR op_eq (pv 3) pe_int (nomark _)) (pss_one (ps_ret (pe_tup (pa_cons pe_str (pa_cons (pe_tup (pa_cons pe_str (pa_cons (pe_call GK hr (by rfl) mK kK bK .nil pass0 (pa_cons (pv 0) (pa_cons (pe_lst (pa_cons pe_str (pa_cons pe_str pa_nil))) pa_nil))) (pa_cons (pv 4) pa_nil)))) (pa_cons (pe_lst (pa_cons (pe_call G hr (by rfl) mF F.kp bF .nil pass0 (pa_cons (pv 0) (pa_cons (pv 1) (pa_cons (pe_op op_sub (pv 2) pe_int) pa_nil)))) pa_nil)) (pa_cons (pv 4) pa_nil))))))) pss_nil)
 (pss_cons (ps_set (i := 10) scTerm.nd rfl (.inl rfl) (pe_call GK hr (by rfl) mK kK bK .nil pass0 (pa_cons (pv 0) (pa_cons (pe_lst (pa_cons pe_str (pa_cons pe_str (pa_cons pe_str (pa_cons pe_str (pa_cons pe_str (pa_cons pe_str pa_nil))))))) pa_nil))))
 (pss_cons (ps_setLc (i := 6) (own := [("k", 11)]) (g := gName 11) (tt := tYes) rfl scTerm.nd rfl rfl (sw_true rfl rfl (by decide) (by decide +kernel)) (pi_range1 (by rfl) mr (pa_cons (pe_call GK hr (by rfl) mK kK bK .nil pass0 (pa_cons (pv 0) (pa_cons (pe_lst (pa_cons pe_int (pa_cons pe_int (pa_cons pe_int (pa_cons pe_int (pa_cons pe_int (pa_cons pe_int pa_nil))))))) pa_nil))) pa_nil)) (blkOk_by (N := ["state", "env", "deep", "kind", "o", "value", "rows", "args", "ids", "body", "name", "k"]) (sc := defScope sTerm) (by decide +kernel)) (fun _ _ _ _ _ => pg_name (i := 11) scTerm.nd rfl (Or.inl rfl)) (fun _ _ _ _ _ => pts_nil) (fun _ _ _ _ _ => (pe_call G hr (by rfl) mF F.kp bF .nil pass0 (pa_cons (pv 0) (pa_cons (pv 1) (pa_cons (pe_op op_sub (pv 2) pe_int) pa_nil))))))
 (pss_one (ps_ret (pe_tup (pa_cons pe_str (pa_cons (pe_tup (pa_cons pe_str (pa_cons (pv 10) (pa_cons (pv 4) pa_nil)))) (pa_cons (pv 6) (pa_cons (pv 4) pa_nil)))))))))))))))))), ?_⟩
  refine ⟨_, rfl, p, c, 9, rfl, by decide, by decide, S0, fun H1 kd kp1 S1 a1 b1 => ?_⟩
  refine ⟨_, rfl, p, c, 3, rfl, by decide, by decide, S1, fun H2 r2 kp2 S2 a2 b2 => ?_⟩
  refine ⟨_, _, rfl, rfl, ?_⟩
  refine ⟨_, rfl, p, c, 3, rfl, by decide, by decide, S2, fun H3 r3 kp3 S3 a3 b3 => ⟨r3, rfl, by omega, by omega, fun D hD => ?_⟩⟩
  refine lc_range (lo := 0) (n := r3.toNat) (fun i H' => Same H3 H' ∧ ∃ rs : List Int, H' D = some (.lst (rs.map V.int)) ∧ rs.length = i ∧ ∀ r ∈ rs, r.natAbs ≤ 1000) ⟨same_new hD _, [], upd_same, rfl, fun r hr => by cases hr⟩ ?_ ?_
  · rintro i H' hi ⟨sm, rs, eD, hl, hb⟩
    refine ⟨rfl, yes_k ?_⟩
    refine ⟨_, rfl, _, eD, by rw [List.length_map, hl]; exact smallL (by omega), same_mut sm hD _, rs ++ [0 + (i : Int)], by rw [upd_same, List.map_append]; rfl, by rw [List.length_append, hl]; rfl, fun r hr => ?_⟩
    rcases List.mem_append.mp hr with e | e
    · exact hb r e
    · rw [List.mem_singleton.mp e]
      omega
  rintro H4 ⟨sm4, rs, eD, hl, hb⟩
  refine ⟨D, _, rfl, .inl ⟨SqL.of eD, fun t nt => ?_⟩⟩
  have sm5 : Same H3 (upd H4 t (.tup (rs.map V.int))) := sm4.trans (same_new nt _)
  have et5 : (upd H4 t (.tup (rs.map V.int))) t = some (.tup (rs.map V.int)) := upd_same
  generalize upd H4 t (.tup (rs.map V.int)) = H5 at sm5 et5
  have kp5 := ((kp1.trans kp2).trans kp3).trans (Same.kp sm5)
  have S5 := S3.same sm5
  have nt0 : H t = none := (((kp1.trans kp2).trans kp3).trans (Same.kp sm4)).free (S3.same sm4) nt
  have ntp := (S3.same sm4).new nt
  refine ⟨_, rfl, p, c, 2, rfl, by decide, by decide, S5, fun H6 r6 kp6 S6 a6 b6 => ?_⟩
  refine ⟨_, _, rfl, rfl, ?_⟩
  refine ⟨by show 3 ≤ sizeLine; decide, fun t2 nt2 => ?_⟩
  have s7 : Same H6 (upd H6 t2 (.tup [.int (r2 - 1), .ref t, .int (r6 - 1)])) := same_new nt2 _
  have et7 : (upd H6 t2 (.tup [.int (r2 - 1), .ref t, .int (r6 - 1)])) t2 = some (.tup [.int (r2 - 1), .ref t, .int (r6 - 1)]) := upd_same
  have nt20 : H t2 = none := (kp5.trans kp6).free S6 nt2
  have et56 := s7 _ _ (kp6 t _ ntp.1 ntp.2 et5)
  generalize upd H6 t2 (.tup [.int (r2 - 1), .ref t, .int (r6 - 1)]) = Ho at s7 et7 et56
  have kpo : Kp p c H Ho := (kp5.trans kp6).trans (Same.kp s7)
  have So : St p c Ho := S6.same s7
  have og : OgAt (nw H Ho) ⟨r2 - 1, rs, r6 - 1⟩ (.ref t2) := ⟨t2, t, rfl, nw_new nt20 et7, nw_new nt0 et56⟩
  have oo : OgOk ⟨r2 - 1, rs, r6 - 1⟩ := ⟨by show (r2 - 1).natAbs ≤ 1000; omega, by show rs.length ≤ 4; omega, hb, by show (r6 - 1).natAbs ≤ 1000; omega⟩
  generalize (⟨r2 - 1, rs, r6 - 1⟩ : Og) = o at og oo
  generalize V.ref t2 = wo at og
  clear kp1 kp2 kp3 kp5 kp6 s7 sm5 sm4 S1 S2 S3 S5 S6 et7 et56 et5 eD hD nt0 nt20 ntp nt nt2 hb hl a2 b2 a3 b3 a6 b6
  have heo := kpo e _ nep nec he
  have el : (env.map V.int).length = env.length := List.length_map _
  have leaf : ∀ (H3 : Hp) (t : Addr) (x : V) (tag : Str) (T : Tm), Kp p c Ho H3 → St p c H3 → H3 t = none → ((nw H (upd H3 t (.tup [.str tag, x, wo]))) t = some (.tup [.str tag, x, wo]) → OgAt (nw H (upd H3 t (.tup [.str tag, x, wo]))) o wo → TmAt (nw H (upd H3 t (.tup [.str tag, x, wo]))) T (.ref t)) → wok T → clo env T → mht T ≤ 0 → msz T ≤ 1 → Q (.ref t) (upd H3 t (.tup [.str tag, x, wo])) := fun H3 t x tag T kp S nt hT hm hc hh hz =>
    q _ T _ ((kpo.trans kp).trans (Same.kp (same_new nt _))) (S.same (same_new nt _)) (hT (nw_new ((kpo.trans kp).free S nt) upd_same) (og.same ((kp.nw S0).trans (nw_same (same_new nt _))))) hm hc (by omega) (Nat.le_trans hz (bnd_pos d))
  refine ⟨_, rfl, rfl, _, rfl, ?_⟩
  by_cases zd : d = 0
  · refine if_true_of (by simp [zd]) ?_
    refine if_true_of rfl ?_
    refine ⟨fun σ H' => σ = [some (.ref p), some (.ref e), some (.int (d : Nat)), some (.int kd), some wo, none, none, none, none, none, none, none] ∧ Kp p c Ho H' ∧ St p c H', ?_, ?_⟩
    · refine ⟨_, rfl, e, _, rfl, .inl (SqL.of heo), _, _, rfl, rfl, _, rfl, ?_⟩
      by_cases zl : env = []
      · refine if_false_of (by simp [zl]) ?_
        refine if_false_of rfl ?_
        exact ⟨rfl, Kp.refl p c Ho, So⟩
      · have lpos : 0 < env.length := List.length_pos_iff.mpr zl
        refine if_true_of (decide_eq_true (by rw [List.length_map]; omega)) ?_
        refine ⟨_, rfl, p, c, 2, rfl, by decide, by decide, So, fun H3 r3 kp3 S3 a3 b3 => ?_⟩
        refine ⟨rfl, _, rfl, ?_⟩
        by_cases z3 : r3 = 0
        · refine if_true_of (by simp [z3]) ?_
          refine ⟨_, rfl, _, rfl, p, c, e, _, rfl, kp3 e _ nep nec heo, nep, nec, by simp [zl], by rw [List.length_map]; omega, S3, fun H4 v kp4 S4 hv => ⟨_, rfl, by show 3 ≤ sizeLine; decide, fun t nt => ?_⟩⟩
          obtain ⟨i, hi, rfl⟩ := List.mem_map.mp hv
          have hib2 := hib i hi
          exact leaf H4 t (.int i) "ref" (.ref i o) (kp3.trans kp4) S4 nt (fun a b => by unfold TmAt; exact ⟨t, wo, rfl, a, b⟩) (by simp only [wok]; exact ⟨by omega, oo⟩) (by simp only [clo]; exact hi) (Nat.zero_le _) (Nat.le_refl _)
        · refine if_false_of (by simp [z3]) ?_
          exact ⟨rfl, kp3, S3⟩
    · rintro σ Hx ⟨rfl, kpx, Sx⟩
      refine ⟨_, rfl, p, c, 6, rfl, by decide, by decide, Sx, fun H5 r5 kp5 S5 a5 b5 => ?_⟩
      refine ⟨rfl, _, rfl, ?_⟩
      by_cases z5 : r5 = 0
      · refine if_true_of (by simp [z5]) ?_
        refine ⟨_, rfl, by show 3 ≤ sizeLine; decide, fun b nb => ?_⟩
        have nbs := S5.new nb
        refine ⟨p, c, b, _, rfl, upd_same, nbs.1, nbs.2, by simp, by show 3 ≤ 1000; decide, S5.same (same_new nb _), fun H6 v kp6 S6 hv => ⟨_, rfl, by show 3 ≤ sizeLine; decide, fun t nt => ?_⟩⟩
        obtain ⟨s, rfl, hs⟩ : ∃ s : Str, v = .str s ∧ s.length ≤ 20 ∧ ∀ c ∈ s.cps.toList, c < 128 := by
          rcases List.mem_cons.mp hv with e | e
          · exact ⟨"none", e, by decide +kernel, by decide +kernel⟩
          · rcases List.mem_cons.mp e with e | e
            · exact ⟨"+", e, by decide +kernel, by decide +kernel⟩
            · exact ⟨"head", List.mem_singleton.mp e, by decide +kernel, by decide +kernel⟩
        have kpA : Kp p c Ho H6 := ((kpx.trans kp5).trans (Same.kp (same_new nb _))).trans kp6
        exact leaf H6 t (.str s) "prim" (.prim s o) kpA S6 nt (fun a b => by unfold TmAt; exact ⟨t, wo, rfl, a, b⟩) (by simp only [wok]; exact ⟨hs.1, hs.2, oo⟩) (by simp only [clo]) (Nat.zero_le _) (Nat.le_refl _)
      · refine if_false_of (by simp [z5]) ?_
        refine ⟨_, rfl, 3, rfl, 999999999, rfl, by show 7 ≤ sizeLine; decide, fun b nb => ?_⟩
        have nbs := S5.new nb
        refine ⟨p, c, b, _, rfl, upd_same, nbs.1, nbs.2, by simp, by show 7 ≤ 1000; decide, S5.same (same_new nb _), fun H6 v kp6 S6 hv => ⟨_, rfl, by show 3 ≤ sizeLine; decide, fun t nt => ?_⟩⟩
        obtain ⟨m, rfl, hm⟩ : ∃ m : Int, v = .int m ∧ m.natAbs ≤ 999999999 := by
          have z : v = .int 0 ∨ v = .int 1 ∨ v = .int 2 ∨ v = .int (-3) ∨ v = .int 999999999 ∨ v = .int (-999999999) ∨ v = .int 31623 := by simpa using hv
          rcases z with z | z | z | z | z | z | z
          · exact ⟨_, z, by decide⟩
          · exact ⟨_, z, by decide⟩
          · exact ⟨_, z, by decide⟩
          · exact ⟨_, z, by decide⟩
          · exact ⟨_, z, by decide⟩
          · exact ⟨_, z, by decide⟩
          · exact ⟨_, z, by decide⟩
        have kpA : Kp p c Ho H6 := ((kpx.trans kp5).trans (Same.kp (same_new nb _))).trans kp6
        exact leaf H6 t (.int m) "int" (.int m o) kpA S6 nt (fun a b => by unfold TmAt; exact ⟨t, wo, rfl, a, b⟩) (by simp only [wok]; exact ⟨hm, oo⟩) (by simp only [clo]) (Nat.zero_le _) (Nat.le_refl _)
  refine if_false_of (by simp [zd]) ?_
  refine ⟨_, rfl, rfl, _, rfl, ?_⟩
  by_cases zk : kd = 0
  · refine if_true_of (by simp [zk]) ?_
    refine ⟨fun σ H' => σ = [some (.ref p), some (.ref e), some (.int (d : Nat)), some (.int kd), some wo, none, none, none, none, none, none, none] ∧ Kp p c Ho H' ∧ St p c H', ?_, ?_⟩
    · refine ⟨_, rfl, e, _, rfl, .inl (SqL.of heo), _, _, rfl, rfl, _, rfl, ?_⟩
      by_cases zl : env = []
      · refine if_false_of (by simp [zl]) ?_
        refine if_false_of rfl ?_
        exact ⟨rfl, Kp.refl p c Ho, So⟩
      · have lpos : 0 < env.length := List.length_pos_iff.mpr zl
        refine if_true_of (decide_eq_true (by rw [List.length_map]; omega)) ?_
        refine ⟨_, rfl, p, c, 2, rfl, by decide, by decide, So, fun H3 r3 kp3 S3 a3 b3 => ?_⟩
        refine ⟨rfl, _, rfl, ?_⟩
        by_cases z3 : r3 = 0
        · refine if_true_of (by simp [z3]) ?_
          refine ⟨_, rfl, _, rfl, p, c, e, _, rfl, kp3 e _ nep nec heo, nep, nec, by simp [zl], by rw [List.length_map]; omega, S3, fun H4 v kp4 S4 hv => ⟨_, rfl, by show 3 ≤ sizeLine; decide, fun t nt => ?_⟩⟩
          obtain ⟨i, hi, rfl⟩ := List.mem_map.mp hv
          have hib2 := hib i hi
          exact leaf H4 t (.int i) "ref" (.ref i o) (kp3.trans kp4) S4 nt (fun a b => by unfold TmAt; exact ⟨t, wo, rfl, a, b⟩) (by simp only [wok]; exact ⟨by omega, oo⟩) (by simp only [clo]; exact hi) (Nat.zero_le _) (Nat.le_refl _)
        · refine if_false_of (by simp [z3]) ?_
          exact ⟨rfl, kp3, S3⟩
    · rintro σ Hx ⟨rfl, kpx, Sx⟩
      refine ⟨_, rfl, p, c, 6, rfl, by decide, by decide, Sx, fun H5 r5 kp5 S5 a5 b5 => ?_⟩
      refine ⟨rfl, _, rfl, ?_⟩
      by_cases z5 : r5 = 0
      · refine if_true_of (by simp [z5]) ?_
        refine ⟨_, rfl, by show 3 ≤ sizeLine; decide, fun b nb => ?_⟩
        have nbs := S5.new nb
        refine ⟨p, c, b, _, rfl, upd_same, nbs.1, nbs.2, by simp, by show 3 ≤ 1000; decide, S5.same (same_new nb _), fun H6 v kp6 S6 hv => ⟨_, rfl, by show 3 ≤ sizeLine; decide, fun t nt => ?_⟩⟩
        obtain ⟨s, rfl, hs⟩ : ∃ s : Str, v = .str s ∧ s.length ≤ 20 ∧ ∀ c ∈ s.cps.toList, c < 128 := by
          rcases List.mem_cons.mp hv with e | e
          · exact ⟨"none", e, by decide +kernel, by decide +kernel⟩
          · rcases List.mem_cons.mp e with e | e
            · exact ⟨"+", e, by decide +kernel, by decide +kernel⟩
            · exact ⟨"head", List.mem_singleton.mp e, by decide +kernel, by decide +kernel⟩
        have kpA : Kp p c Ho H6 := ((kpx.trans kp5).trans (Same.kp (same_new nb _))).trans kp6
        exact leaf H6 t (.str s) "prim" (.prim s o) kpA S6 nt (fun a b => by unfold TmAt; exact ⟨t, wo, rfl, a, b⟩) (by simp only [wok]; exact ⟨hs.1, hs.2, oo⟩) (by simp only [clo]) (Nat.zero_le _) (Nat.le_refl _)
      · refine if_false_of (by simp [z5]) ?_
        refine ⟨_, rfl, 3, rfl, 999999999, rfl, by show 7 ≤ sizeLine; decide, fun b nb => ?_⟩
        have nbs := S5.new nb
        refine ⟨p, c, b, _, rfl, upd_same, nbs.1, nbs.2, by simp, by show 7 ≤ 1000; decide, S5.same (same_new nb _), fun H6 v kp6 S6 hv => ⟨_, rfl, by show 3 ≤ sizeLine; decide, fun t nt => ?_⟩⟩
        obtain ⟨m, rfl, hm⟩ : ∃ m : Int, v = .int m ∧ m.natAbs ≤ 999999999 := by
          have z : v = .int 0 ∨ v = .int 1 ∨ v = .int 2 ∨ v = .int (-3) ∨ v = .int 999999999 ∨ v = .int (-999999999) ∨ v = .int 31623 := by simpa using hv
          rcases z with z | z | z | z | z | z | z
          · exact ⟨_, z, by decide⟩
          · exact ⟨_, z, by decide⟩
          · exact ⟨_, z, by decide⟩
          · exact ⟨_, z, by decide⟩
          · exact ⟨_, z, by decide⟩
          · exact ⟨_, z, by decide⟩
          · exact ⟨_, z, by decide⟩
        have kpA : Kp p c Ho H6 := ((kpx.trans kp5).trans (Same.kp (same_new nb _))).trans kp6
        exact leaf H6 t (.int m) "int" (.int m o) kpA S6 nt (fun a b => by unfold TmAt; exact ⟨t, wo, rfl, a, b⟩) (by simp only [wok]; exact ⟨hm, oo⟩) (by simp only [clo]) (Nat.zero_le _) (Nat.le_refl _)
  refine if_false_of (by simp [zk]) ?_
  obtain ⟨d', rfl⟩ : ∃ d', d = d' + 1 := ⟨d - 1, by omega⟩
  have ed : ((d' + 1 : Nat) : Int) - 1 = (d' : Nat) := by omega
  have bp := bnd_pos d'
  refine ⟨_, rfl, rfl, _, rfl, ?_⟩
  by_cases z1 : kd = 1
  · refine if_true_of (by simp [z1]) ?_
    refine ⟨_, rfl, _, rfl, _, rfl, _, _, rfl, rfl, p, c, e, env, d', (show [V.ref p, V.ref e, V.int (((d' + 1 : Nat) : Int) - 1)] = [V.ref p, V.ref e, V.int (d' : Nat)] by rw [ed]), by omega, by omega, heo, nep, nec, by omega, hib, So, fun H3 x v3 kp3 S3 t3 m3 c3 h3 z3 => ?_⟩
    have he3 := kp3 e _ nep nec heo
    obtain ⟨i0, hi0⟩ : ∃ i0 : Int, i0 = 7 - ((d' + 1 : Nat) : Int) := ⟨_, rfl⟩
    refine ⟨_, rfl, _, _, rfl, rfl, _, rfl, _, rfl, _, rfl, _, rfl, _, _, rfl, rfl, by show 1 ≤ sizeLine; decide, fun b1 nb1 => ?_⟩
    have sb1 : Same H3 (upd H3 b1 (.lst [V.int (7 - ((d' + 1 : Nat) : Int))])) := same_new nb1 _
    refine ⟨e, b1, _, _, rfl, rfl, sb1 _ _ he3, upd_same, by rw [List.length_map]; show env.length + 1 ≤ sizeLine; exact small (by omega), fun e2 ne2 => ?_⟩
    have sb2 := sb1.trans (same_new ne2 (.lst (env.map V.int ++ [V.int (7 - ((d' + 1 : Nat) : Int))])))
    have S5 := S3.same sb2
    have ne2' := (S3.same sb1).new ne2
    refine ⟨_, rfl, _, _, rfl, rfl, p, c, e2, env ++ [i0], d', (show [V.ref p, V.ref e2, V.int (((d' + 1 : Nat) : Int) - 1)] = [V.ref p, V.ref e2, V.int (d' : Nat)] by rw [ed]), by omega, by omega, by rw [upd_same, List.map_append, hi0]; rfl, ne2'.1, ne2'.2, by rw [List.length_append]; show env.length + 1 + 5 * d' ≤ 100; omega, ?_, S5, fun H6 b v6 kp6 S6 t6 m6 c6 h6 z6 => ?_⟩
    · intro i hi
      rcases List.mem_append.mp hi with e5 | e5
      · exact hib i e5
      · rw [List.mem_singleton.mp e5]
        omega
    refine ⟨_, rfl, by show 5 ≤ sizeLine; decide, fun t nt => ?_⟩
    have kp36 : Kp p c H3 H6 := (Same.kp sb2).trans kp6
    have kpz := kp3.trans kp36
    have kpA := kpo.trans kpz
    refine q _ (.lt i0 x b o) _ (kpA.trans (Same.kp (same_new nt _))) (S6.same (same_new nt _)) ?_ ?_ ?_ ?_ ?_
    · unfold TmAt
      refine ⟨t, v3, v6, wo, rfl, nw_new (kpA.free S6 nt) (by rw [upd_same, hi0]), TmAt.same ((nw_base (kpo.dm So)).trans ((kp36.nw S0).trans (nw_same (same_new nt _)))) _ _ t3, TmAt.same ((nw_base (((kpo.trans kp3).trans (Same.kp sb2)).dm S5)).trans (nw_same (same_new nt _))) _ _ t6, og.same ((kpz.nw S0).trans (nw_same (same_new nt _)))⟩
    · simp only [wok]
      exact ⟨by omega, m3, m6, oo⟩
    · simp only [clo]
      exact ⟨c3, c6⟩
    · show 1 + max (mht x) (mht b) ≤ 2 * (d' + 1)
      omega
    · show 1 + msz x + msz b ≤ 2 + 3 * bnd d'
      omega
  · refine if_false_of (by simp [z1]) ?_
    refine ⟨_, rfl, rfl, _, rfl, ?_⟩
    by_cases z2 : kd = 2
    · refine if_true_of (by simp [z2]) ?_
      refine ⟨3, rfl, by decide, by decide, fun D hD => ?_⟩
      obtain ⟨HD, hHD⟩ : ∃ HD, HD = upd Ho D (.lst []) := ⟨_, rfl⟩
      have SD : St p c HD := by
        rw [hHD]
        exact (So).same (same_new hD _)
      have eHD : HD D ≠ none := by
        rw [hHD, upd_same]
        simp
      have nD := (So).new hD
      have HD0 : H D = none := (kpo.trans (Kp.refl p c Ho)).free (So) hD
      have HoD : Ho D = none := (Kp.refl p c Ho).free (So) hD
      have dmHD : Dm H HD := by
        rw [hHD]
        exact ((kpo.trans (Kp.refl p c Ho)).dm (So)).trans (Same.dm (same_new hD _))
      refine lc_range (lo := 0) (n := 3) (fun i H' => Kp p c Ho H' ∧ St p c H' ∧ Dm HD H' ∧ ∃ (ts : List Tm) (vs : List V), H' D = some (.lst vs) ∧ TmsAt (nw HD H') ts vs ∧ ts.length = i ∧ woks ts ∧ clos env ts ∧ mhts ts ≤ 2 * d' ∧ mszs ts ≤ i * bnd d')
        ⟨(Kp.refl p c Ho).mut HoD _, (So).same (same_new hD _), (show Dm HD (upd Ho D (.lst [])) from hHD ▸ Dm.refl _), [], [], upd_same, TmsAt.nil, rfl, trivial, trivial, Nat.zero_le _, Nat.zero_le _⟩ ?_ ?_
      · rintro i H' hi ⟨kp5, S5, dm5, ts, vs, eD, ut, hl, hw, hc, hh, hz⟩
        refine ⟨rfl, yes_k ?_⟩
        refine ⟨_, rfl, _, rfl, _, rfl, _, _, rfl, rfl, p, c, e, env, d', (show [V.ref p, V.ref e, V.int (((d' + 1 : Nat) : Int) - 1)] = [V.ref p, V.ref e, V.int (d' : Nat)] by rw [ed]), by omega, by omega, kp5 e _ nep nec heo, nep, nec, by omega, hib, S5, fun H6 t v kp6 S6 u6 w6 c6 h6 z6 => ?_⟩
        have eD6 := kp6 D _ nD.1 nD.2 eD
        have sp : Same (nw HD H6) (nw HD (upd H6 D (.lst (vs ++ [v])))) := nw_put eHD
        refine ⟨vs, eD6, ?_, (kp5.trans kp6).mut HoD _, S6.put nD.1 nD.2 _, fun b z => ?_, ts ++ [t], vs ++ [v], upd_same, ?_, by rw [List.length_append, hl]; rfl, woks_app _ _ hw ⟨w6, trivial⟩, clos_app _ _ _ hc ⟨c6, trivial⟩, ?_, ?_⟩
        · rw [ut.len, hl]
          exact smallL (by omega)
        · by_cases y : b = D
          · rw [y, upd_same] at z
            cases z
          · rw [upd_ne y] at z
            exact dm5 b (kp6.free S6 z)
        · exact TmsAt.snoc (TmAt.same ((nw_base dm5).trans sp) _ _ u6) (TmsAt.same ((kp6.nw SD).trans sp) _ _ ut)
        · rw [mhts_app]
          simp only [mhts]
          omega
        · rw [mszs_app]
          simp only [mszs]
          have e5 : (i + 1) * bnd d' = i * bnd d' + bnd d' := Nat.succ_mul _ _
          omega
      rintro Ha ⟨kpa, Sa, dma, ats, avs, eDa, uta0, hla, hwa, hca, hha, hza⟩
      have uta : TmsAt (nw H Ha) ats avs := TmsAt.same (nw_base dmHD) _ _ uta0
      have nDa : nw H Ha D = some (.lst avs) := nw_new HD0 eDa
      clear uta0 dma dmHD eHD SD hHD HD
      match ats, avs, hla, uta, hwa, hca, hha, hza, eDa with
      | [x, y, z], avs, hla, uta, hwa, hca, hha, hza, eDa =>
        unfold TmsAt at uta
        obtain ⟨v1, r1, rfl, t1, uta⟩ := uta
        unfold TmsAt at uta
        obtain ⟨v2, r2, rfl, t2, uta⟩ := uta
        unfold TmsAt at uta
        obtain ⟨v3, r3, rfl, t3, uta⟩ := uta
        unfold TmsAt at uta
        subst uta
        refine ⟨_, rfl, D, _, 0, v1, rfl, rfl, SqL.of eDa, atI_nat (j := 0) rfl, _, rfl, D, _, 1, v2, rfl, rfl, SqL.of eDa, atI_nat (j := 1) rfl, _, rfl, D, _, 2, v3, rfl, rfl, SqL.of eDa, atI_nat (j := 2) rfl, _, rfl, by show 5 ≤ sizeLine; decide, fun t nt => ?_⟩
        have kpA := kpo.trans kpa
        have kpz := kpa
        simp only [woks] at hwa
        simp only [clos] at hca
        simp only [mhts] at hha
        simp only [mszs] at hza
        have sm : Same (nw H Ha) (nw H (upd Ha t (.tup [.str "if", v1, v2, v3, wo]))) := nw_same (same_new nt _)
        refine q _ (.ite x y z o) _ (kpA.trans (Same.kp (same_new nt _))) (Sa.same (same_new nt _)) ?_ ?_ ?_ ?_ ?_
        · unfold TmAt
          exact ⟨t, v1, v2, v3, wo, rfl, nw_new (kpA.free Sa nt) upd_same, TmAt.same sm _ _ t1, TmAt.same sm _ _ t2, TmAt.same sm _ _ t3, og.same ((kpz.nw S0).trans (nw_same (same_new nt _)))⟩
        · simp only [wok]
          exact ⟨hwa.1, hwa.2.1, hwa.2.2.1, oo⟩
        · simp only [clo]
          exact ⟨hca.1, hca.2.1, hca.2.2.1⟩
        · show 1 + max (mht x) (max (mht y) (mht z)) ≤ 2 * (d' + 1)
          omega
        · show 1 + msz x + msz y + msz z ≤ 2 + 3 * bnd d'
          omega
    · refine if_false_of (by simp [z2]) ?_
      refine ⟨_, rfl, by show 5 ≤ sizeLine; decide, fun ba nba => ?_⟩
      have nbas := So.new nba
      refine ⟨p, c, ba, _, rfl, upd_same, nbas.1, nbas.2, by simp, by show 5 ≤ 1000; decide, So.same (same_new nba _), fun Hr vr kpr Sr hvr => ?_⟩
      obtain ⟨ra, rfl, hra0, hra2⟩ : ∃ m : Int, vr = .int m ∧ 0 ≤ m ∧ m ≤ 2 := by
        have z : vr = .int 0 ∨ vr = .int 1 ∨ vr = .int 2 := by simpa using hvr
        rcases z with z | z | z
        · exact ⟨_, z, by decide, by decide⟩
        · exact ⟨_, z, by decide, by decide⟩
        · exact ⟨_, z, by decide, by decide⟩
      have kpr2 : Kp p c Ho Hr := (Same.kp (same_new nba _)).trans kpr
      refine ⟨ra, rfl, by omega, by omega, fun D hD => ?_⟩
      obtain ⟨HD, hHD⟩ : ∃ HD, HD = upd Hr D (.lst []) := ⟨_, rfl⟩
      have SD : St p c HD := by
        rw [hHD]
        exact (Sr).same (same_new hD _)
      have eHD : HD D ≠ none := by
        rw [hHD, upd_same]
        simp
      have nD := (Sr).new hD
      have HD0 : H D = none := (kpo.trans (kpr2)).free (Sr) hD
      have HoD : Ho D = none := (kpr2).free (Sr) hD
      have dmHD : Dm H HD := by
        rw [hHD]
        exact ((kpo.trans (kpr2)).dm (Sr)).trans (Same.dm (same_new hD _))
      refine lc_range (lo := 0) (n := ra.toNat) (fun i H' => Kp p c Ho H' ∧ St p c H' ∧ Dm HD H' ∧ ∃ (ts : List Tm) (vs : List V), H' D = some (.lst vs) ∧ TmsAt (nw HD H') ts vs ∧ ts.length = i ∧ woks ts ∧ clos env ts ∧ mhts ts ≤ 2 * d' ∧ mszs ts ≤ i * bnd d')
        ⟨(kpr2).mut HoD _, (Sr).same (same_new hD _), (show Dm HD (upd Hr D (.lst [])) from hHD ▸ Dm.refl _), [], [], upd_same, TmsAt.nil, rfl, trivial, trivial, Nat.zero_le _, Nat.zero_le _⟩ ?_ ?_
      · rintro i H' hi ⟨kp5, S5, dm5, ts, vs, eD, ut, hl, hw, hc, hh, hz⟩
        refine ⟨rfl, yes_k ?_⟩
        refine ⟨_, rfl, _, rfl, _, rfl, _, _, rfl, rfl, p, c, e, env, d', (show [V.ref p, V.ref e, V.int (((d' + 1 : Nat) : Int) - 1)] = [V.ref p, V.ref e, V.int (d' : Nat)] by rw [ed]), by omega, by omega, kp5 e _ nep nec heo, nep, nec, by omega, hib, S5, fun H6 t v kp6 S6 u6 w6 c6 h6 z6 => ?_⟩
        have eD6 := kp6 D _ nD.1 nD.2 eD
        have sp : Same (nw HD H6) (nw HD (upd H6 D (.lst (vs ++ [v])))) := nw_put eHD
        refine ⟨vs, eD6, ?_, (kp5.trans kp6).mut HoD _, S6.put nD.1 nD.2 _, fun b z => ?_, ts ++ [t], vs ++ [v], upd_same, ?_, by rw [List.length_append, hl]; rfl, woks_app _ _ hw ⟨w6, trivial⟩, clos_app _ _ _ hc ⟨c6, trivial⟩, ?_, ?_⟩
        · rw [ut.len, hl]
          exact smallL (by omega)
        · by_cases y : b = D
          · rw [y, upd_same] at z
            cases z
          · rw [upd_ne y] at z
            exact dm5 b (kp6.free S6 z)
        · exact TmsAt.snoc (TmAt.same ((nw_base dm5).trans sp) _ _ u6) (TmsAt.same ((kp6.nw SD).trans sp) _ _ ut)
        · rw [mhts_app]
          simp only [mhts]
          omega
        · rw [mszs_app]
          simp only [mszs]
          have e5 : (i + 1) * bnd d' = i * bnd d' + bnd d' := Nat.succ_mul _ _
          omega
      rintro Ha ⟨kpa, Sa, dma, ats, avs, eDa, uta0, hla, hwa, hca, hha, hza⟩
      have uta : TmsAt (nw H Ha) ats avs := TmsAt.same (nw_base dmHD) _ _ uta0
      have nDa : nw H Ha D = some (.lst avs) := nw_new HD0 eDa
      clear uta0 dma dmHD eHD SD hHD HD
      have hea := kpa e _ nep nec heo
      have la : avs.length = ats.length := uta.len
      have lat : ats.length ≤ 2 := by omega
      have zat : mszs ats ≤ 2 * bnd d' := Nat.le_trans hza (Nat.mul_le_mul_right _ (by omega))
      clear hD HoD kpr2 kpr Sr nbas nba hvr
      refine ⟨_, rfl, rfl, _, rfl, ?_⟩
      by_cases z3 : kd = 3
      · refine if_true_of (by simp [z3]) ?_
        refine ⟨_, rfl, _, rfl, D, _, rfl, .inl (SqL.of eDa), _, rfl, D, _, rfl, .inl (SqL.of eDa), by show 3 ≤ sizeLine; decide, fun b nb => ?_⟩
        have nbs := Sa.new nb
        refine ⟨p, c, b, _, rfl, upd_same, nbs.1, nbs.2, by simp, by show 3 ≤ 1000; decide, Sa.same (same_new nb _), fun H5 v5 kp5 S5 hv5 => ?_⟩
        obtain ⟨r5, rfl, h50, h52⟩ : ∃ m : Int, v5 = .int m ∧ 0 ≤ m ∧ m ≤ 2 := by
          have z : v5 = .int (avs.length : Nat) ∨ v5 = .int 1 := by simpa using hv5
          rcases z with z | z
          · exact ⟨_, z, by omega, by omega⟩
          · exact ⟨_, z, by decide, by decide⟩
        have kpa5 : Kp p c Ha H5 := (Same.kp (same_new nb _)).trans kp5
        refine ⟨r5, rfl, by omega, by omega, fun D2 hD2 => ?_⟩
        refine lc_range (lo := 0) (n := r5.toNat) (fun i H' => Same H5 H' ∧ ∃ ids : List Int, H' D2 = some (.lst (ids.map V.int)) ∧ ids.length = i ∧ ∀ j ∈ ids, j.natAbs ≤ 1000) ⟨same_new hD2 _, [], upd_same, rfl, fun r hr => by cases hr⟩ ?_ ?_
        · rintro i H' hi ⟨sm, ids, eD, hl, hb⟩
          refine ⟨rfl, yes_k ?_⟩
          refine ⟨_, rfl, _, _, rfl, rfl, .inl ⟨by decide, by decide⟩, _, rfl, _, _, rfl, rfl, _, eD, by rw [List.length_map, hl]; exact smallL (by omega), same_mut sm hD2 _, ids ++ [10 * ((d' + 1 : Nat) : Int) + (0 + (i : Int))], by rw [upd_same, List.map_append]; rfl, by rw [List.length_append, hl]; rfl, fun r hr => ?_⟩
          rcases List.mem_append.mp hr with e5 | e5
          · exact hb r e5
          · rw [List.mem_singleton.mp e5]
            omega
        rintro H7 ⟨sm7, ids, eD7, hl7, hb7⟩
        have kp7 : Kp p c Ha H7 := (kpa5).trans (Same.kp sm7)
        have S7 := (S5).same sm7
        have nD2 := (S5).new hD2
        have HD20 : H D2 = none := ((kpo.trans kpa).trans (kpa5)).free (S5) hD2
        have lids : ids.length ≤ 2 := by omega
        have he7 := kp7 e _ nep nec hea
        refine ⟨_, rfl, _, rfl, _, rfl, _, rfl, e, D2, _, _, rfl, rfl, he7, eD7, by rw [List.length_map, List.length_map]; exact small (by omega), fun e2 ne2 => ?_⟩
        have sb2 : Same H7 (upd H7 e2 (.lst (env.map V.int ++ ids.map V.int))) := same_new ne2 _
        have ne2' := S7.new ne2
        have S8 := S7.same sb2
        refine ⟨_, rfl, _, _, rfl, rfl, p, c, e2, env ++ ids, d', (show [V.ref p, V.ref e2, V.int (((d' + 1 : Nat) : Int) - 1)] = [V.ref p, V.ref e2, V.int (d' : Nat)] by rw [ed]), by omega, by omega, by rw [upd_same, List.map_append], ne2'.1, ne2'.2, by rw [List.length_append]; omega, ?_, S8, fun H9 bt v9 kp9 S9 t9 m9 c9 h9 z9 => ?_⟩
        · intro i hi
          rcases List.mem_append.mp hi with e5 | e5
          · exact hib i e5
          · exact hb7 i e5
        refine ⟨_, rfl, by show 4 ≤ sizeLine; decide, fun t1 nt1 => ?_⟩
        refine ⟨_, rfl, _, rfl, by show 4 ≤ sizeLine; decide, fun t nt => ?_⟩
        have kp79 : Kp p c H7 H9 := (Same.kp sb2).trans kp9
        have kpA9 : Kp p c H H9 := (kpo.trans kpa).trans (kp7.trans kp79)
        have st : Same H9 (upd (upd H9 t1 (.tup [.str "fn", .ref D2, v9, wo])) t (.tup [.str "app", .ref t1, .ref D, wo])) := (same_new nt1 _).trans (same_new nt _)
        refine q _ (.app (.fn ids bt o) ats o) _ (kpA9.trans (Same.kp st)) (S9.same st) ?_ ?_ ?_ ?_ ?_
        · have og9 := og.same (((kpa.trans (kp7.trans kp79)).nw S0).trans (nw_same st))
          unfold TmAt
          refine ⟨t, .ref t1, D, avs, wo, rfl, nw_new ((kpA9.trans (Same.kp (same_new nt1 _))).free (S9.same (same_new nt1 _)) nt) upd_same, (((kp7.trans kp79).nw S0).trans (nw_same st)) _ _ nDa, ?_, TmsAt.same (((kp7.trans kp79).nw S0).trans (nw_same st)) _ _ uta, og9⟩
          unfold TmAt
          exact ⟨t1, D2, v9, wo, rfl, nw_new (kpA9.free S9 nt1) (same_new nt _ _ _ upd_same), nw_new HD20 (st _ _ (kp79 D2 _ nD2.1 nD2.2 eD7)), TmAt.same ((nw_base ((((kpo.trans kpa).trans kp7).trans (Same.kp sb2)).dm S8)).trans (nw_same st)) _ _ t9, og9⟩
        · simp only [wok]
          exact ⟨⟨by omega, fun i hi => by have := hb7 i hi; omega, m9, oo⟩, hwa, oo⟩
        · simp only [clo]
          exact ⟨c9, hca⟩
        · show 1 + max (1 + mht bt) (mhts ats) ≤ 2 * (d' + 1)
          omega
        · show 1 + (1 + msz bt) + mszs ats ≤ 2 + 3 * bnd d'
          omega
      · refine if_false_of (by simp [z3]) ?_
        refine ⟨_, rfl, rfl, _, rfl, ?_⟩
        by_cases z4 : kd = 4
        · refine if_true_of (by simp [z4]) ?_
          refine ⟨_, rfl, D, _, rfl, .inl (SqL.of eDa), (avs.length : Nat), rfl, by omega, by omega, fun D2 hD2 => ?_⟩
          refine lc_range (lo := 0) (n := avs.length) (fun i H' => Same Ha H' ∧ ∃ ids : List Int, H' D2 = some (.lst (ids.map V.int)) ∧ ids.length = i ∧ ∀ j ∈ ids, j.natAbs ≤ 1000) ⟨same_new hD2 _, [], upd_same, rfl, fun r hr => by cases hr⟩ ?_ ?_
          · rintro i H' hi ⟨sm, ids, eD, hl, hb⟩
            refine ⟨rfl, yes_k ?_⟩
            refine ⟨_, rfl, _, _, rfl, rfl, .inl ⟨by decide, by decide⟩, _, _, rfl, rfl, _, rfl, _, _, rfl, rfl, _, eD, by rw [List.length_map, hl]; exact smallL (by omega), same_mut sm hD2 _, ids ++ [(10 * ((d' + 1 : Nat) : Int) + 5) + (0 + (i : Int))], by rw [upd_same, List.map_append]; rfl, by rw [List.length_append, hl]; rfl, fun r hr => ?_⟩
            rcases List.mem_append.mp hr with e5 | e5
            · exact hb r e5
            · rw [List.mem_singleton.mp e5]
              omega
          rintro H7 ⟨sm7, ids, eD7, hl7, hb7⟩
          have kp7 : Kp p c Ha H7 := (Kp.refl p c Ha).trans (Same.kp sm7)
          have S7 := (Sa).same sm7
          have nD2 := (Sa).new hD2
          have HD20 : H D2 = none := ((kpo.trans kpa).trans (Kp.refl p c Ha)).free (Sa) hD2
          have lids : ids.length ≤ 2 := by omega
          have he7 := kp7 e _ nep nec hea
          obtain ⟨i0, hi0⟩ : ∃ i0 : Int, i0 = 10 * ((d' + 1 : Nat) : Int) := ⟨_, rfl⟩
          refine ⟨_, rfl, _, rfl, _, rfl, _, _, rfl, rfl, .inl ⟨by decide, by decide⟩, by show 1 ≤ sizeLine; decide, fun b1 nb1 => ?_⟩
          have sb1 : Same H7 (upd H7 b1 (.lst [V.int (10 * ((d' + 1 : Nat) : Int))])) := same_new nb1 _
          refine ⟨e, b1, _, _, rfl, rfl, sb1 _ _ he7, upd_same, by rw [List.length_map]; show env.length + 1 ≤ sizeLine; exact small (by omega), fun b2 nb2 => ?_⟩
          have sb2 := sb1.trans (same_new nb2 (.lst (env.map V.int ++ [V.int (10 * ((d' + 1 : Nat) : Int))])))
          refine ⟨_, rfl, b2, D2, _, _, rfl, rfl, upd_same, sb2 _ _ eD7, by rw [List.length_append, List.length_map, List.length_map]; show env.length + 1 + ids.length ≤ sizeLine; exact small (by omega), fun e2 ne2 => ?_⟩
          have sb3 := sb2.trans (same_new ne2 (.lst (env.map V.int ++ [V.int (10 * ((d' + 1 : Nat) : Int))] ++ ids.map V.int)))
          have ne2' := (S7.same sb2).new ne2
          have S8 := S7.same sb3
          refine ⟨_, rfl, _, _, rfl, rfl, p, c, e2, env ++ [i0] ++ ids, d', (show [V.ref p, V.ref e2, V.int (((d' + 1 : Nat) : Int) - 1)] = [V.ref p, V.ref e2, V.int (d' : Nat)] by rw [ed]), by omega, by omega, by rw [upd_same, List.map_append, List.map_append, hi0]; rfl, ne2'.1, ne2'.2, by rw [List.length_append, List.length_append]; show env.length + 1 + ids.length + 5 * d' ≤ 100; omega, ?_, S8, fun H9 bt v9 kp9 S9 t9 m9 c9 h9 z9 => ?_⟩
          · intro i hi
            rcases List.mem_append.mp hi with e5 | e5
            · rcases List.mem_append.mp e5 with e5 | e5
              · exact hib i e5
              · rw [List.mem_singleton.mp e5]
                omega
            · exact hb7 i e5
          refine ⟨_, rfl, _, _, rfl, rfl, .inl ⟨by decide, by decide⟩, _, rfl, _, rfl, _, rfl, by show 5 ≤ sizeLine; decide, fun t1 nt1 => ?_⟩
          refine ⟨_, rfl, _, rfl, by show 4 ≤ sizeLine; decide, fun t nt => ?_⟩
          have kp79 : Kp p c H7 H9 := (Same.kp sb3).trans kp9
          have kpA9 : Kp p c H H9 := (kpo.trans kpa).trans (kp7.trans kp79)
          have st : Same H9 (upd (upd H9 t1 (.tup [.str "rec", .int (10 * ((d' + 1 : Nat) : Int)), .ref D2, v9, wo])) t (.tup [.str "app", .ref t1, .ref D, wo])) := (same_new nt1 _).trans (same_new nt _)
          refine q _ (.app (.rc i0 ids bt o) ats o) _ (kpA9.trans (Same.kp st)) (S9.same st) ?_ ?_ ?_ ?_ ?_
          · have og9 := og.same (((kpa.trans (kp7.trans kp79)).nw S0).trans (nw_same st))
            unfold TmAt
            refine ⟨t, .ref t1, D, avs, wo, rfl, nw_new ((kpA9.trans (Same.kp (same_new nt1 _))).free (S9.same (same_new nt1 _)) nt) upd_same, (((kp7.trans kp79).nw S0).trans (nw_same st)) _ _ nDa, ?_, TmsAt.same (((kp7.trans kp79).nw S0).trans (nw_same st)) _ _ uta, og9⟩
            unfold TmAt
            exact ⟨t1, D2, v9, wo, rfl, nw_new (kpA9.free S9 nt1) (by rw [hi0]; exact same_new nt _ _ _ upd_same), nw_new HD20 (st _ _ (kp79 D2 _ nD2.1 nD2.2 eD7)), TmAt.same ((nw_base ((((kpo.trans kpa).trans kp7).trans (Same.kp sb3)).dm S8)).trans (nw_same st)) _ _ t9, og9⟩
          · simp only [wok]
            exact ⟨⟨by omega, by omega, fun i hi => by have := hb7 i hi; omega, m9, oo⟩, hwa, oo⟩
          · simp only [clo]
            exact ⟨c9, hca⟩
          · show 1 + max (1 + mht bt) (mhts ats) ≤ 2 * (d' + 1)
            omega
          · show 1 + (1 + msz bt) + mszs ats ≤ 2 + 3 * bnd d'
            omega
        · refine if_false_of (by simp [z4]) ?_
          refine ⟨_, rfl, rfl, _, rfl, ?_⟩
          by_cases z5 : kd = 5
          · refine if_true_of (by simp [z5]) ?_
            refine ⟨_, rfl, _, rfl, _, rfl, _, _, rfl, rfl, p, c, e, env, d', (show [V.ref p, V.ref e, V.int (((d' + 1 : Nat) : Int) - 1)] = [V.ref p, V.ref e, V.int (d' : Nat)] by rw [ed]), by omega, by omega, kpa e _ nep nec heo, nep, nec, by omega, hib, Sa, fun H9 ft v9 kp9 S9 t9 m9 c9 h9 z9 => ?_⟩
            refine ⟨_, rfl, _, rfl, by show 4 ≤ sizeLine; decide, fun t nt => ?_⟩
            have kpA9 : Kp p c H H9 := (kpo.trans kpa).trans kp9
            have st : Same H9 (upd H9 t (.tup [.str "app", v9, .ref D, wo])) := same_new nt _
            refine q _ (.app ft ats o) _ (kpA9.trans (Same.kp st)) (S9.same st) ?_ ?_ ?_ ?_ ?_
            · unfold TmAt
              exact ⟨t, v9, D, avs, wo, rfl, nw_new (kpA9.free S9 nt) upd_same, ((kp9.nw S0).trans (nw_same st)) _ _ nDa, TmAt.same ((nw_base ((kpo.trans kpa).dm Sa)).trans (nw_same st)) _ _ t9, TmsAt.same ((kp9.nw S0).trans (nw_same st)) _ _ uta, og.same (((kpa.trans kp9).nw S0).trans (nw_same st))⟩
            · simp only [wok]
              exact ⟨m9, hwa, oo⟩
            · simp only [clo]
              exact ⟨c9, hca⟩
            · show 1 + max (mht ft) (mhts ats) ≤ 2 * (d' + 1)
              omega
            · show 1 + msz ft + mszs ats ≤ 2 + 3 * bnd d'
              omega
          · refine if_false_of (by simp [z5]) ?_
            refine ⟨_, rfl, rfl, _, rfl, ?_⟩
            by_cases z6 : kd = 6
            · refine if_true_of (by simp [z6]) ?_
              refine ⟨_, rfl, by show 2 ≤ sizeLine; decide, fun b nb => ?_⟩
              have nbs := Sa.new nb
              refine ⟨p, c, b, _, rfl, upd_same, nbs.1, nbs.2, by simp, by show 2 ≤ 1000; decide, Sa.same (same_new nb _), fun H5 v5 kp5 S5 hv5 => ?_⟩
              obtain ⟨s5, rfl, hs5⟩ : ∃ s : Str, v5 = .str s ∧ s.length ≤ 20 ∧ ∀ c ∈ s.cps.toList, c < 128 := by
                rcases List.mem_cons.mp hv5 with e | e
                · exact ⟨"head", e, by decide +kernel, by decide +kernel⟩
                · exact ⟨"tail", List.mem_singleton.mp e, by decide +kernel, by decide +kernel⟩
              have kpa5 : Kp p c Ha H5 := (Same.kp (same_new nb _)).trans kp5
              refine ⟨_, rfl, by show 3 ≤ sizeLine; decide, fun t1 nt1 => ?_⟩
              have st1 : Same H5 (upd H5 t1 (.tup [.str "prim", .str s5, wo])) := same_new nt1 _
              have S6 := S5.same st1
              have kpo6 : Kp p c Ho (upd H5 t1 (.tup [.str "prim", .str s5, wo])) := (kpa.trans kpa5).trans (Same.kp st1)
              have ht1 : H t1 = none := ((kpo.trans kpa).trans kpa5).free S5 nt1
              have et1 : (upd H5 t1 (.tup [.str "prim", .str s5, wo])) t1 = some (.tup [.str "prim", .str s5, wo]) := upd_same
              have n1 := S5.new nt1
              refine ⟨_, rfl, _, rfl, _, rfl, _, _, rfl, rfl, p, c, e, env, d', (show [V.ref p, V.ref e, V.int (((d' + 1 : Nat) : Int) - 1)] = [V.ref p, V.ref e, V.int (d' : Nat)] by rw [ed]), by omega, by omega, kpo6 e _ nep nec heo, nep, nec, by omega, hib, S6, fun H9 ft v9 kp9 S9 t9 m9 c9 h9 z9 => ?_⟩
              refine ⟨by show 1 ≤ sizeLine; decide, fun l nl => ?_⟩
              refine ⟨_, rfl, by show 4 ≤ sizeLine; decide, fun t nt => ?_⟩
              have kpA9 : Kp p c H H9 := (kpo.trans kpo6).trans kp9
              have st : Same H9 (upd (upd H9 l (.lst [v9])) t (.tup [.str "app", .ref t1, .ref l, wo])) := (same_new nl _).trans (same_new nt _)
              refine q _ (.app (.prim s5 o) [ft] o) _ (kpA9.trans (Same.kp st)) (S9.same st) ?_ ?_ ?_ ?_ ?_
              · have og9 := og.same (((kpo6.trans kp9).nw S0).trans (nw_same st))
                unfold TmAt
                refine ⟨t, .ref t1, l, [v9], wo, rfl, nw_new ((kpA9.trans (Same.kp (same_new nl _))).free (S9.same (same_new nl _)) nt) upd_same, nw_new (kpA9.free S9 nl) (same_new nt _ _ _ upd_same), ?_, .one (TmAt.same ((nw_base ((kpo.trans kpo6).dm S6)).trans (nw_same st)) _ _ t9), og9⟩
                unfold TmAt
                exact ⟨t1, wo, rfl, nw_new ht1 (st _ _ (kp9 t1 _ n1.1 n1.2 et1)), og9⟩
              · simp only [wok, woks]
                exact ⟨⟨hs5.1, hs5.2, oo⟩, ⟨m9, trivial⟩, oo⟩
              · simp only [clo, clos]
                exact ⟨trivial, c9, trivial⟩
              · show 1 + max 0 (max (mht ft) 0) ≤ 2 * (d' + 1)
                omega
              · show 1 + 1 + (msz ft + 0) ≤ 2 + 3 * bnd d'
                omega
            · refine if_false_of (by simp [z6]) ?_
              refine ⟨_, rfl, by show 6 ≤ sizeLine; decide, fun b nb => ?_⟩
              have nbs := Sa.new nb
              refine ⟨p, c, b, _, rfl, upd_same, nbs.1, nbs.2, by simp, by show 6 ≤ 1000; decide, Sa.same (same_new nb _), fun H5 v5 kp5 S5 hv5 => ?_⟩
              obtain ⟨s5, rfl, hs5⟩ : ∃ s : Str, v5 = .str s ∧ s.length ≤ 20 ∧ ∀ c ∈ s.cps.toList, c < 128 := by
                have z : v5 = .str "+" ∨ v5 = .str "-" ∨ v5 = .str "*" ∨ v5 = .str "<" ∨ v5 = .str "=" ∨ v5 = .str "pair" := by simpa using hv5
                rcases z with z | z | z | z | z | z
                · exact ⟨_, z, by decide +kernel, by decide +kernel⟩
                · exact ⟨_, z, by decide +kernel, by decide +kernel⟩
                · exact ⟨_, z, by decide +kernel, by decide +kernel⟩
                · exact ⟨_, z, by decide +kernel, by decide +kernel⟩
                · exact ⟨_, z, by decide +kernel, by decide +kernel⟩
                · exact ⟨_, z, by decide +kernel, by decide +kernel⟩
              have kpo5 : Kp p c Ho H5 := kpa.trans ((Same.kp (same_new nb _)).trans kp5)
              clear hza hha hca hwa hla eDa kpa Sa uta nDa hea la lat zat HD0 nD nbs nb kp5 hv5
              refine ⟨_, rfl, by show 6 ≤ sizeLine; decide, fun ba nba => ?_⟩
              have nbas := S5.new nba
              refine ⟨p, c, ba, _, rfl, upd_same, nbas.1, nbas.2, by simp, by show 6 ≤ 1000; decide, S5.same (same_new nba _), fun Hq vr kpr Sr hvr => ?_⟩
              obtain ⟨rq, rfl, hra0, hra2⟩ : ∃ m : Int, vr = .int m ∧ 0 ≤ m ∧ m ≤ 2 := by
                have z : vr = .int 2 ∨ vr = .int 1 := by simpa using hvr
                rcases z with z | z
                · exact ⟨_, z, by decide, by decide⟩
                · exact ⟨_, z, by decide, by decide⟩
              have kpr2 : Kp p c Ho Hq := kpo5.trans ((Same.kp (same_new nba _)).trans kpr)
              refine ⟨rq, rfl, by omega, by omega, fun D hD => ?_⟩
              obtain ⟨HD, hHD⟩ : ∃ HD, HD = upd Hq D (.lst []) := ⟨_, rfl⟩
              have SD : St p c HD := by
                rw [hHD]
                exact (Sr).same (same_new hD _)
              have eHD : HD D ≠ none := by
                rw [hHD, upd_same]
                simp
              have nD := (Sr).new hD
              have HD0 : H D = none := (kpo.trans (kpr2)).free (Sr) hD
              have HoD : Ho D = none := (kpr2).free (Sr) hD
              have dmHD : Dm H HD := by
                rw [hHD]
                exact ((kpo.trans (kpr2)).dm (Sr)).trans (Same.dm (same_new hD _))
              refine lc_range (lo := 0) (n := rq.toNat) (fun i H' => Kp p c Ho H' ∧ St p c H' ∧ Dm HD H' ∧ ∃ (ts : List Tm) (vs : List V), H' D = some (.lst vs) ∧ TmsAt (nw HD H') ts vs ∧ ts.length = i ∧ woks ts ∧ clos env ts ∧ mhts ts ≤ 2 * d' ∧ mszs ts ≤ i * bnd d')
                ⟨(kpr2).mut HoD _, (Sr).same (same_new hD _), (show Dm HD (upd Hq D (.lst [])) from hHD ▸ Dm.refl _), [], [], upd_same, TmsAt.nil, rfl, trivial, trivial, Nat.zero_le _, Nat.zero_le _⟩ ?_ ?_
              · rintro i H' hi ⟨kp5, S5, dm5, ts, vs, eD, ut, hl, hw, hc, hh, hz⟩
                refine ⟨rfl, yes_k ?_⟩
                refine ⟨_, rfl, _, rfl, _, rfl, _, _, rfl, rfl, p, c, e, env, d', (show [V.ref p, V.ref e, V.int (((d' + 1 : Nat) : Int) - 1)] = [V.ref p, V.ref e, V.int (d' : Nat)] by rw [ed]), by omega, by omega, kp5 e _ nep nec heo, nep, nec, by omega, hib, S5, fun H6 t v kp6 S6 u6 w6 c6 h6 z6 => ?_⟩
                have eD6 := kp6 D _ nD.1 nD.2 eD
                have sp : Same (nw HD H6) (nw HD (upd H6 D (.lst (vs ++ [v])))) := nw_put eHD
                refine ⟨vs, eD6, ?_, (kp5.trans kp6).mut HoD _, S6.put nD.1 nD.2 _, fun b z => ?_, ts ++ [t], vs ++ [v], upd_same, ?_, by rw [List.length_append, hl]; rfl, woks_app _ _ hw ⟨w6, trivial⟩, clos_app _ _ _ hc ⟨c6, trivial⟩, ?_, ?_⟩
                · rw [ut.len, hl]
                  exact smallL (by omega)
                · by_cases y : b = D
                  · rw [y, upd_same] at z
                    cases z
                  · rw [upd_ne y] at z
                    exact dm5 b (kp6.free S6 z)
                · exact TmsAt.snoc (TmAt.same ((nw_base dm5).trans sp) _ _ u6) (TmsAt.same ((kp6.nw SD).trans sp) _ _ ut)
                · rw [mhts_app]
                  simp only [mhts]
                  omega
                · rw [mszs_app]
                  simp only [mszs]
                  have e5 : (i + 1) * bnd d' = i * bnd d' + bnd d' := Nat.succ_mul _ _
                  omega
              rintro Hz ⟨kpa, Sa, dma, ats, avs, eDa, uta0, hla, hwa, hca, hha, hza⟩
              have uta : TmsAt (nw H Hz) ats avs := TmsAt.same (nw_base dmHD) _ _ uta0
              have nDa : nw H Hz D = some (.lst avs) := nw_new HD0 eDa
              clear uta0 dma dmHD eHD SD hHD HD
              have zat : mszs ats ≤ 2 * bnd d' := Nat.le_trans hza (Nat.mul_le_mul_right _ (by omega))
              refine ⟨_, rfl, _, rfl, by show 3 ≤ sizeLine; decide, fun t1 nt1 => ?_⟩
              refine ⟨_, rfl, _, rfl, by show 4 ≤ sizeLine; decide, fun t nt => ?_⟩
              have kpA9 : Kp p c H Hz := kpo.trans kpa
              have st : Same Hz (upd (upd Hz t1 (.tup [.str "prim", .str s5, wo])) t (.tup [.str "app", .ref t1, .ref D, wo])) := (same_new nt1 _).trans (same_new nt _)
              refine q _ (.app (.prim s5 o) ats o) _ (kpA9.trans (Same.kp st)) (Sa.same st) ?_ ?_ ?_ ?_ ?_
              · have og9 := og.same ((kpa.nw S0).trans (nw_same st))
                unfold TmAt
                refine ⟨t, .ref t1, D, avs, wo, rfl, nw_new ((kpA9.trans (Same.kp (same_new nt1 _))).free (Sa.same (same_new nt1 _)) nt) upd_same, nw_same st _ _ nDa, ?_, TmsAt.same (nw_same st) _ _ uta, og9⟩
                unfold TmAt
                exact ⟨t1, wo, rfl, nw_new (kpA9.free Sa nt1) (same_new nt _ _ _ upd_same), og9⟩
              · simp only [wok]
                exact ⟨⟨hs5.1, hs5.2, oo⟩, hwa, oo⟩
              · simp only [clo]
                exact ⟨trivial, hca⟩
              · show 1 + max 0 (mhts ats) ≤ 2 * (d' + 1)
                omega
              · show 1 + 1 + mszs ats ≤ 2 + 3 * bnd d'
                omega
end
end Sg

namespace Sg
open PySem PySem.Spec PyProof.Rows L2 Evl
open C8 (Cal pe_c)
/-! ### _law_put -/
theorem t_next {D : Ends} {σ : L2.St} {H : Hp} (h : D.nx σ H) : tNext D σ H := h
theorem flat_ints : ∀ xs : List Int, (xs.map V.int).all flatV = true
  | [] => rfl
  | x :: xs => by
    show (true && (xs.map V.int).all flatV) = true
    rw [flat_ints xs]
    rfl
theorem inV_ints (i : Int) : ∀ xs : List Int, inV (V.int i) (xs.map V.int) = decide (i ∈ xs)
  | [] => by simp [inV]
  | x :: xs => by
    show (eqV (V.int x) (V.int i) || inV (V.int i) (xs.map V.int)) = _
    rw [inV_ints i xs]
    have e : eqV (V.int x) (V.int i) = decide (x = i) := by
      show (x == i) = decide (x = i)
      by_cases z : x = i
      · rw [decide_eq_true z, z]
        exact beq_self_eq_true i
      · rw [decide_eq_false z]
        exact beq_false_of_ne z
    rw [e]
    by_cases z : i = x
    · simp [z]
    · simp [z, Ne.symm z]
theorem subs_of (m : Int → Option Tm) {F : Hp} : ∀ {ts : List Tm} {vs : List V}, vs.length = ts.length → (∀ (i : Nat) (s : Tm) (y : V), ts[i]? = some s → vs[i]? = some y → TmAt F (sub m s) y) → TmsAt F (subs m ts) vs
  | [], vs, hl, h => by
    simp only [subs]
    unfold TmsAt
    exact List.length_eq_zero_iff.mp hl
  | t :: ts, [], hl, h => by simp at hl
  | t :: ts, v :: vs, hl, h => by
    simp only [subs]
    unfold TmsAt
    exact ⟨v, vs, rfl, h 0 t v rfl rfl, subs_of m (by simpa using hl) fun i s y hs hy => h (i + 1) s y hs hy⟩
def spPut (n : Nat) : Sp := fun vs H Q _ => ∃ (F : Hp) (t : Tm) (v : V) (d : Addr) (kvs : List (Key × V)) (m : Int → Option Tm) (c : Int → Option V), vs = [v, .ref d] ∧ Same F H ∧ TmAt F t v ∧ F d = some (.dK kvs) ∧ DG kvs c ∧ TC F m c ∧ kvs.length ≤ 3000 ∧ wok t ∧ msz t ≤ 8000 ∧ mht t < n ∧
  ∀ H' u, Same H H' → TmAt (ov F H H') (sub m t) u → Q u H'
theorem bx_tm {F : Hp} {t : Tm} {v : V} (h : TmAt F t v) : Bx (fun v H => TmAt H t v) v F := fun H' e => TmAt.same e t v h
theorem fw_put {n : Nat} {te1 te2 : TE} {σ : L2.St} {G : Hp} {x : Tm} {xv : V} {d : Addr} {kvs : List (Key × V)} {m : Int → Option Tm} {c : Int → Option V} (h1 : Ev te1 σ G xv) (h2 : Ev te2 σ G (.ref d)) (ed : G d = some (.dK kvs)) (dg : DG kvs c) (tc : TC G m c) (hkv : kvs.length ≤ 3000) (tx : TmAt G x xv) (hw : wok x) (hz : msz x ≤ 8000) (hn : mht x < n) :
    Fw (tCall (spPut n) [] E0 (tCons te1 (tCons te2 tNil))) σ G fun u H => TmAt H (sub m x) u :=
  fw_call (fwa_ev (ea_cons h1 (ea_cons h2 ea_nil))) fun vs H G' sFG sGH b Q q => by
    have e := b.now
    subst e
    exact ⟨G', x, xv, d, kvs, m, c, rfl, sGH, TmAt.same sFG _ _ tx, sFG _ _ ed, dg, tc.same sFG, hkv, hw, hz, hn, fun H' u e t => q u H' e (bx_tm t)⟩
theorem scPut : FnScope ["t", "values", "kind", "ids", "inner", "key", "part", "rows"] ["t", "values"] (defScope sPut) := ⟨rfl, rfl, rfl, by decide +kernel, rfl, by decide +kernel, by decide +kernel⟩
theorem put_none {f : Addr} {fd : FuncData} {P : Program} {w : World} {K : PySem.W.Frag} {mg : Str → Option Value} {base : Heap} {k : Nat} : FnOk P w K mg base CX0 k f fd ["t", "values"] (spPut 0) := by
  have no : ∀ vs H Q E, ¬ spPut 0 vs H Q E := fun vs H Q E h => by
    obtain ⟨F, t, v, d, kvs, m, c, _, _, _, _, _, _, _, _, _, h1, _⟩ := h
    omega
  exact ⟨fun vs H Q E h => absurd h (no vs H Q E), fun A outer s H args us vs Q E _ _ _ _ h => absurd h (no vs H Q E)⟩
section
variable {P : Program} {w : World} {K : PySem.W.Frag} {mg : Str → Option Value} {base : Heap}
theorem ok_put {f : Addr} {fd : FuncData} {k n : Nat} (F : Fun K "_law_put" "_law_put" sPut f fd) (C0 : Cal P w K mg base k "_law_put" (spPut n) []) (m_tuple : mg "tuple" = none) : FnOk P w K mg base CX0 (k + 1) f fd ["t", "values"] (spPut (n + 1)) := by
  refine F.ok scPut (fun vs H Q E h => ?_) (fun cdv A outer st H vs Q E hr h => ?_)
  · obtain ⟨F, t, v, d, kvs, m, c, rfl, _⟩ := h
    rfl
  obtain ⟨Fh, t, v, d, kvs, m, c, rfl, sF, ta, ed, dg, tc, hkv, hw, hz, hn, q⟩ := h
  have hu : (A.deeper (envOfC "_law_put" (defScope sPut) st.heap.objs.size f cdv)).units + 1 < cLine := by
    have := hr.units
    omega
  refine ⟨_, pss_split 7 (pss_cons (ps_set (i := 2) scPut.nd rfl (.inl rfl) (pe_ix ix_tup (pv 0) pe_int (fun _ _ => rfl)))
    (pss_cons (ps_if (pt_cmpR op_eq (pv 2) pe_str (nomark _)) (pss_one (ps_ret (pe_dget2 hu (pv 1) (pe_ix ix_tup (pv 0) pe_int (fun _ _ => rfl)) (pv 0) ⟨rfl, rfl, rfl, rfl⟩))) pss_nil)
    (pss_cons (ps_if (pt_cmpR op_in_seq (pv 2) (pe_tup (pa_cons pe_str (pa_cons pe_str pa_nil))) rfl) (pss_one (ps_ret (pv 0))) pss_nil)
    (pss_cons (ps_set (i := 3) scPut.nd rfl (.inl rfl) (pe_lst pa_nil))
    (pss_cons (ps_if (pt_cmpR op_eq (pv 2) pe_str (nomark _)) (pss_one (ps_set (i := 3) scPut.nd rfl (.inl rfl) (pe_ix ix_tup (pv 0) pe_int (fun _ _ => rfl)))) pss_nil)
    (pss_cons (ps_if (pt_cmpR op_eq (pv 2) pe_str (nomark _)) (pss_one (ps_set (i := 3) scPut.nd rfl (.inl rfl) (pe_op op_cat (pe_lst (pa_cons (pe_ix ix_tup (pv 0) pe_int (fun _ _ => rfl)) pa_nil)) (pe_ix ix_tup (pv 0) pe_int (fun _ _ => rfl))))) pss_nil)
    (pss_one (ps_if (pt_cmpR op_eq (pv 2) pe_str (nomark _)) (pss_one (ps_set (i := 3) scPut.nd rfl (.inl rfl) (pe_lst (pa_cons (pe_ix ix_tup (pv 0) pe_int (fun _ _ => rfl)) pa_nil)))) pss_nil))))))))
    (pss_cons (ps_set (i := 4) scPut.nd rfl (.inl rfl) pe_dnewK)
    (Evl.pss_cut (ps_lock (ps_for PassesOwn.never rfl (pi_keys (pv 1)) (pg_name (i := 5) scPut.nd rfl (.inl rfl)) (pss_one (ps_if (pt_cmpR op_notIn_seq (pv 5) (pv 3) rfl) (pss_one (ps_dput hu (pv 4) (pv 5) (pe_dget hu (pv 1) (pv 5) (fun _ _ => rfl)) (by rfl))) pss_nil))))
    (pss_cons (ps_if (pt_cmpR op_eq (pv 2) pe_str (nomark _)) (pss_one (ps_ret (pe_tup (pa_cons pe_str (pa_cons (pe_ix ix_tup (pv 0) pe_int (fun _ _ => rfl)) (pa_cons (pe_c C0 hr (Nat.le_refl _) (by rfl) (pa_cons (pe_ix ix_tup (pv 0) pe_int (fun _ _ => rfl)) (pa_cons (pv 4) pa_nil))) (pa_cons (pe_ix ix_tup (pv 0) pe_int (fun _ _ => rfl)) pa_nil))))))) pss_nil)
    (pss_cons (ps_if (pt_cmpR op_eq (pv 2) pe_str (nomark _)) (pss_one (ps_ret (pe_tup (pa_cons pe_str (pa_cons (pe_ix ix_tup (pv 0) pe_int (fun _ _ => rfl)) (pa_cons (pe_ix ix_tup (pv 0) pe_int (fun _ _ => rfl)) (pa_cons (pe_c C0 hr (Nat.le_refl _) (by rfl) (pa_cons (pe_ix ix_tup (pv 0) pe_int (fun _ _ => rfl)) (pa_cons (pv 4) pa_nil))) (pa_cons (pe_ix ix_tup (pv 0) pe_int (fun _ _ => rfl)) pa_nil)))))))) pss_nil)
    (pss_cons (ps_if (pt_cmpR op_eq (pv 2) pe_str (nomark _)) (pss_one (ps_ret (pe_tup (pa_cons pe_str (pa_cons (pe_ix ix_tup (pv 0) pe_int (fun _ _ => rfl)) (pa_cons (pe_c C0 hr (Nat.le_refl _) (by rfl) (pa_cons (pe_ix ix_tup (pv 0) pe_int (fun _ _ => rfl)) (pa_cons (pv 1) pa_nil))) (pa_cons (pe_c C0 hr (Nat.le_refl _) (by rfl) (pa_cons (pe_ix ix_tup (pv 0) pe_int (fun _ _ => rfl)) (pa_cons (pv 4) pa_nil))) (pa_cons (pe_ix ix_tup (pv 0) pe_int (fun _ _ => rfl)) pa_nil)))))))) pss_nil)
    (pss_cons (ps_if (pt_cmpR op_eq (pv 2) pe_str (nomark _)) (pss_one (ps_ret (pe_tup (pa_cons pe_str (pa_cons (pe_c C0 hr (Nat.le_refl _) (by rfl) (pa_cons (pe_ix ix_tup (pv 0) pe_int (fun _ _ => rfl)) (pa_cons (pv 1) pa_nil))) (pa_cons (pe_lc (own := [("part", 6)]) (g := gName 6) (tt := tYes) rfl scPut.nd (pi_list (pe_ix ix_tup (pv 0) pe_int (fun _ _ => rfl))) (blkOk_by (N := ["t", "values", "kind", "ids", "inner", "key", "part", "rows"]) (sc := defScope sPut) (by decide +kernel)) (fun _ _ _ _ _ => pg_name (i := 6) scPut.nd rfl (Or.inl rfl)) (fun _ _ _ _ _ => pts_nil) (fun _ _ _ _ _ => (pe_c C0 hr (Nat.le_refl _) (by rfl) (pa_cons (pv 6) (pa_cons (pv 1) pa_nil))))) (pa_cons (pe_ix ix_tup (pv 0) pe_int (fun _ _ => rfl)) pa_nil))))))) pss_nil)
    (pss_cons (ps_setLc (i := 7) (own := [("part", 6)]) (g := gName 6) (tt := tYes) rfl scPut.nd rfl rfl (sw_true rfl rfl (by decide) (by decide +kernel)) (pi_tup (pe_slice sl_tup (pv 0) (po_some pe_int) (po_some (pe_un un_neg pe_int)))) (blkOk_by (N := ["t", "values", "kind", "ids", "inner", "key", "part", "rows"]) (sc := defScope sPut) (by decide +kernel)) (fun _ _ _ _ _ => pg_name (i := 6) scPut.nd rfl (Or.inl rfl)) (fun _ _ _ _ _ => pts_nil) (fun _ _ _ _ _ => (pe_c C0 hr (Nat.le_refl _) (by rfl) (pa_cons (pv 6) (pa_cons (pv 1) pa_nil)))))
    (pss_one (ps_ret (pe_op op_catT (pe_op op_catT (pe_tup (pa_cons (pv 2) pa_nil)) (pe_callTy call_tuple_of (by rfl) m_tuple PyProof.Rows.boot_tuple (pa_cons (pv 7) pa_nil))) (pe_tup (pa_cons (pe_ix ix_tup (pv 0) (pe_un un_neg pe_int) (fun _ _ => rfl)) pa_nil)))))))))))), ?_⟩
  refine ⟨fun σ' H' => ∃ l, σ' = [some v, some (.ref d), some (.str (kind t)), some (.ref l), none, none, none, none] ∧ Same H H' ∧ H' l = some (.lst ((bnds t).map V.int)) ∧ kids t ≠ [], ?_, ?_⟩
  · cases t with
    | int n o =>
      unfold TmAt at ta
      obtain ⟨a, wo1, rfl, ea, og⟩ := ta
      have ea0 := sF _ _ ea
      refine ⟨_, rfl, a, _, 0, _, rfl, rfl, SqT.of ea0, at0, ?_⟩
      refine ⟨_, rfl, rfl, _, rfl, ?_⟩
      refine if_false_of (str_ne (by decide +kernel)) ?_
      refine ⟨_, rfl, by show 2 ≤ sizeLine; decide, fun tp ntp => ?_⟩
      refine ⟨tp, _, rfl, .inr (SqT.of upd_same), rfl, rfl, _, rfl, ?_⟩
      have sm1 : Same H (upd H tp (.tup [.str "int", .str "prim"])) := same_new ntp _
      generalize upd H tp (.tup [.str "int", .str "prim"]) = H1 at sm1
      refine if_true_of (by decide +kernel) ?_
      refine ⟨_, rfl, q _ _ sm1 ?_⟩
      simp only [sub]
      unfold TmAt
      exact ⟨a, wo1, rfl, ov_base sF _ _ ea, og.same (ov_base sF)⟩
    | prim s o =>
      unfold TmAt at ta
      obtain ⟨a, wo1, rfl, ea, og⟩ := ta
      have ea0 := sF _ _ ea
      refine ⟨_, rfl, a, _, 0, _, rfl, rfl, SqT.of ea0, at0, ?_⟩
      refine ⟨_, rfl, rfl, _, rfl, ?_⟩
      refine if_false_of (str_ne (by decide +kernel)) ?_
      refine ⟨_, rfl, by show 2 ≤ sizeLine; decide, fun tp ntp => ?_⟩
      refine ⟨tp, _, rfl, .inr (SqT.of upd_same), rfl, rfl, _, rfl, ?_⟩
      have sm1 : Same H (upd H tp (.tup [.str "int", .str "prim"])) := same_new ntp _
      generalize upd H tp (.tup [.str "int", .str "prim"]) = H1 at sm1
      refine if_true_of (by decide +kernel) ?_
      refine ⟨_, rfl, q _ _ sm1 ?_⟩
      simp only [sub]
      unfold TmAt
      exact ⟨a, wo1, rfl, ov_base sF _ _ ea, og.same (ov_base sF)⟩
    | ref i o =>
      unfold TmAt at ta
      obtain ⟨a, wo1, rfl, ea, og⟩ := ta
      have ea0 := sF _ _ ea
      refine ⟨_, rfl, a, _, 0, _, rfl, rfl, SqT.of ea0, at0, ?_⟩
      refine ⟨_, rfl, rfl, _, rfl, ?_⟩
      refine if_true_of str_eq ?_
      refine ⟨_, rfl, d, rfl, .inl ⟨kvs, .inl (sF _ _ ed)⟩, ?_⟩
      refine ⟨_, rfl, a, _, 1, _, rfl, rfl, SqT.of ea0, atI_nat (j := 1) rfl, ?_⟩
      refine ⟨_, rfl, _, DGet.k (k := (Sum.inl i : Key)) (sF _ _ ed), ?_⟩
      rw [dg.1 i]
      refine q _ _ (Same.refl _) ?_
      simp only [sub]
      rcases tc i with ⟨z1, z2⟩ | ⟨t, v, z1, z2, z3⟩
      · rw [z1, z2]
        show TmAt _ (.ref i o) (.ref a)
        unfold TmAt
        exact ⟨a, wo1, rfl, ov_base sF _ _ ea, og.same (ov_base sF)⟩
      · rw [z1, z2]
        exact TmAt.same (ov_base sF) t v z3
    | fn ids b o =>
      unfold TmAt at ta
      obtain ⟨a, l, u, wo1, rfl, ea, el, tb, og⟩ := ta
      have ea0 := sF _ _ ea
      refine ⟨_, rfl, a, _, 0, _, rfl, rfl, SqT.of ea0, at0, ?_⟩
      refine ⟨_, rfl, rfl, _, rfl, ?_⟩
      refine if_false_of (str_ne (by decide +kernel)) ?_
      refine ⟨_, rfl, by show 2 ≤ sizeLine; decide, fun tp ntp => ?_⟩
      refine ⟨tp, _, rfl, .inr (SqT.of upd_same), rfl, rfl, _, rfl, ?_⟩
      have sm1 : Same H (upd H tp (.tup [.str "int", .str "prim"])) := same_new ntp _
      generalize upd H tp (.tup [.str "int", .str "prim"]) = H1 at sm1
      refine if_false_of (by decide +kernel) ?_
      have ea1 := sm1 _ _ ea0
      refine ⟨by show 0 ≤ sizeLine; decide, fun l0 nl0 => ?_⟩
      have sm2 : Same H (upd H1 l0 (.lst [])) := sm1.trans (same_new nl0 _)
      have el0 : (upd H1 l0 (.lst [])) l0 = some (.lst []) := upd_same
      generalize upd H1 l0 (.lst []) = H2 at sm2 el0
      have ea2 := sm2 _ _ ea0
      refine ⟨_, rfl, rfl, _, rfl, ?_⟩
      refine if_true_of str_eq ?_
      refine ⟨_, rfl, a, _, 1, _, rfl, rfl, SqT.of ea2, atI_nat (j := 1) rfl, ?_⟩
      refine ⟨_, rfl, rfl, _, rfl, ?_⟩
      refine if_false_of (str_ne (by decide +kernel)) ?_
      refine ⟨_, rfl, rfl, _, rfl, ?_⟩
      refine if_false_of (str_ne (by decide +kernel)) ?_
      exact ⟨l, rfl, sm2, sm2 _ _ (sF _ _ el), by simp [kids]⟩
    | rc i ids b o =>
      unfold TmAt at ta
      obtain ⟨a, l, u, wo1, rfl, ea, el, tb, og⟩ := ta
      have ea0 := sF _ _ ea
      refine ⟨_, rfl, a, _, 0, _, rfl, rfl, SqT.of ea0, at0, ?_⟩
      refine ⟨_, rfl, rfl, _, rfl, ?_⟩
      refine if_false_of (str_ne (by decide +kernel)) ?_
      refine ⟨_, rfl, by show 2 ≤ sizeLine; decide, fun tp ntp => ?_⟩
      refine ⟨tp, _, rfl, .inr (SqT.of upd_same), rfl, rfl, _, rfl, ?_⟩
      have sm1 : Same H (upd H tp (.tup [.str "int", .str "prim"])) := same_new ntp _
      generalize upd H tp (.tup [.str "int", .str "prim"]) = H1 at sm1
      refine if_false_of (by decide +kernel) ?_
      have ea1 := sm1 _ _ ea0
      refine ⟨by show 0 ≤ sizeLine; decide, fun l0 nl0 => ?_⟩
      have sm2 : Same H (upd H1 l0 (.lst [])) := sm1.trans (same_new nl0 _)
      have el0 : (upd H1 l0 (.lst [])) l0 = some (.lst []) := upd_same
      generalize upd H1 l0 (.lst []) = H2 at sm2 el0
      have ea2 := sm2 _ _ ea0
      refine ⟨_, rfl, rfl, _, rfl, ?_⟩
      refine if_false_of (str_ne (by decide +kernel)) ?_
      refine ⟨_, rfl, rfl, _, rfl, ?_⟩
      refine if_true_of str_eq ?_
      refine ⟨_, rfl, a, _, 1, _, rfl, rfl, SqT.of ea2, atI_nat (j := 1) rfl, ?_⟩
      refine ⟨by show 1 ≤ sizeLine; decide, fun l1 nl1 => ?_⟩
      have sm3 : Same H (upd H2 l1 (.lst [.int i])) := sm2.trans (same_new nl1 _)
      have el1 : (upd H2 l1 (.lst [.int i])) l1 = some (.lst [.int i]) := upd_same
      generalize upd H2 l1 (.lst [.int i]) = H3 at sm3 el1
      refine ⟨_, rfl, a, _, 2, _, rfl, rfl, SqT.of (sm3 _ _ ea0), atI_nat (j := 2) rfl, ?_⟩
      have hw' := hw
      simp only [wok] at hw'
      refine ⟨l1, l, _, _, rfl, rfl, el1, sm3 _ _ (sF _ _ el), by rw [List.length_map]; exact small (by show 1 + ids.length ≤ 100000; omega), fun l2 nl2 => ?_⟩
      refine ⟨_, rfl, rfl, _, rfl, ?_⟩
      refine if_false_of (str_ne (by decide +kernel)) ?_
      exact ⟨l2, rfl, sm3.trans (same_new nl2 _), upd_same, by simp [kids]⟩
    | lt i x b o =>
      unfold TmAt at ta
      obtain ⟨a, u1, u2, wo1, rfl, ea, t1, t2, og⟩ := ta
      have ea0 := sF _ _ ea
      refine ⟨_, rfl, a, _, 0, _, rfl, rfl, SqT.of ea0, at0, ?_⟩
      refine ⟨_, rfl, rfl, _, rfl, ?_⟩
      refine if_false_of (str_ne (by decide +kernel)) ?_
      refine ⟨_, rfl, by show 2 ≤ sizeLine; decide, fun tp ntp => ?_⟩
      refine ⟨tp, _, rfl, .inr (SqT.of upd_same), rfl, rfl, _, rfl, ?_⟩
      have sm1 : Same H (upd H tp (.tup [.str "int", .str "prim"])) := same_new ntp _
      generalize upd H tp (.tup [.str "int", .str "prim"]) = H1 at sm1
      refine if_false_of (by decide +kernel) ?_
      have ea1 := sm1 _ _ ea0
      refine ⟨by show 0 ≤ sizeLine; decide, fun l0 nl0 => ?_⟩
      have sm2 : Same H (upd H1 l0 (.lst [])) := sm1.trans (same_new nl0 _)
      have el0 : (upd H1 l0 (.lst [])) l0 = some (.lst []) := upd_same
      generalize upd H1 l0 (.lst []) = H2 at sm2 el0
      have ea2 := sm2 _ _ ea0
      refine ⟨_, rfl, rfl, _, rfl, ?_⟩
      refine if_false_of (str_ne (by decide +kernel)) ?_
      refine ⟨_, rfl, rfl, _, rfl, ?_⟩
      refine if_false_of (str_ne (by decide +kernel)) ?_
      refine ⟨_, rfl, rfl, _, rfl, ?_⟩
      refine if_true_of str_eq ?_
      refine ⟨_, rfl, a, _, 1, _, rfl, rfl, SqT.of ea2, atI_nat (j := 1) rfl, ?_⟩
      refine ⟨by show 1 ≤ sizeLine; decide, fun l1 nl1 => ?_⟩
      exact ⟨l1, rfl, sm2.trans (same_new nl1 _), upd_same, by simp [kids]⟩
    | ite x y z o =>
      unfold TmAt at ta
      obtain ⟨a, u1, u2, u3, wo1, rfl, ea, t1, t2, t3, og⟩ := ta
      have ea0 := sF _ _ ea
      refine ⟨_, rfl, a, _, 0, _, rfl, rfl, SqT.of ea0, at0, ?_⟩
      refine ⟨_, rfl, rfl, _, rfl, ?_⟩
      refine if_false_of (str_ne (by decide +kernel)) ?_
      refine ⟨_, rfl, by show 2 ≤ sizeLine; decide, fun tp ntp => ?_⟩
      refine ⟨tp, _, rfl, .inr (SqT.of upd_same), rfl, rfl, _, rfl, ?_⟩
      have sm1 : Same H (upd H tp (.tup [.str "int", .str "prim"])) := same_new ntp _
      generalize upd H tp (.tup [.str "int", .str "prim"]) = H1 at sm1
      refine if_false_of (by decide +kernel) ?_
      have ea1 := sm1 _ _ ea0
      refine ⟨by show 0 ≤ sizeLine; decide, fun l0 nl0 => ?_⟩
      have sm2 : Same H (upd H1 l0 (.lst [])) := sm1.trans (same_new nl0 _)
      have el0 : (upd H1 l0 (.lst [])) l0 = some (.lst []) := upd_same
      generalize upd H1 l0 (.lst []) = H2 at sm2 el0
      have ea2 := sm2 _ _ ea0
      refine ⟨_, rfl, rfl, _, rfl, ?_⟩
      refine if_false_of (str_ne (by decide +kernel)) ?_
      refine ⟨_, rfl, rfl, _, rfl, ?_⟩
      refine if_false_of (str_ne (by decide +kernel)) ?_
      refine ⟨_, rfl, rfl, _, rfl, ?_⟩
      refine if_false_of (str_ne (by decide +kernel)) ?_
      exact ⟨l0, rfl, sm2, el0, by simp [kids]⟩
    | app f xs o =>
      unfold TmAt at ta
      obtain ⟨a, u, l, vs, wo1, rfl, ea, el, t1, t2, og⟩ := ta
      have ea0 := sF _ _ ea
      refine ⟨_, rfl, a, _, 0, _, rfl, rfl, SqT.of ea0, at0, ?_⟩
      refine ⟨_, rfl, rfl, _, rfl, ?_⟩
      refine if_false_of (str_ne (by decide +kernel)) ?_
      refine ⟨_, rfl, by show 2 ≤ sizeLine; decide, fun tp ntp => ?_⟩
      refine ⟨tp, _, rfl, .inr (SqT.of upd_same), rfl, rfl, _, rfl, ?_⟩
      have sm1 : Same H (upd H tp (.tup [.str "int", .str "prim"])) := same_new ntp _
      generalize upd H tp (.tup [.str "int", .str "prim"]) = H1 at sm1
      refine if_false_of (by decide +kernel) ?_
      have ea1 := sm1 _ _ ea0
      refine ⟨by show 0 ≤ sizeLine; decide, fun l0 nl0 => ?_⟩
      have sm2 : Same H (upd H1 l0 (.lst [])) := sm1.trans (same_new nl0 _)
      have el0 : (upd H1 l0 (.lst [])) l0 = some (.lst []) := upd_same
      generalize upd H1 l0 (.lst []) = H2 at sm2 el0
      have ea2 := sm2 _ _ ea0
      refine ⟨_, rfl, rfl, _, rfl, ?_⟩
      refine if_false_of (str_ne (by decide +kernel)) ?_
      refine ⟨_, rfl, rfl, _, rfl, ?_⟩
      refine if_false_of (str_ne (by decide +kernel)) ?_
      refine ⟨_, rfl, rfl, _, rfl, ?_⟩
      refine if_false_of (str_ne (by decide +kernel)) ?_
      exact ⟨l0, rfl, sm2, el0, by simp [kids]⟩
    | pair x y o =>
      unfold TmAt at ta
      obtain ⟨a, u1, u2, wo1, rfl, ea, t1, t2, og⟩ := ta
      have ea0 := sF _ _ ea
      refine ⟨_, rfl, a, _, 0, _, rfl, rfl, SqT.of ea0, at0, ?_⟩
      refine ⟨_, rfl, rfl, _, rfl, ?_⟩
      refine if_false_of (str_ne (by decide +kernel)) ?_
      refine ⟨_, rfl, by show 2 ≤ sizeLine; decide, fun tp ntp => ?_⟩
      refine ⟨tp, _, rfl, .inr (SqT.of upd_same), rfl, rfl, _, rfl, ?_⟩
      have sm1 : Same H (upd H tp (.tup [.str "int", .str "prim"])) := same_new ntp _
      generalize upd H tp (.tup [.str "int", .str "prim"]) = H1 at sm1
      refine if_false_of (by decide +kernel) ?_
      have ea1 := sm1 _ _ ea0
      refine ⟨by show 0 ≤ sizeLine; decide, fun l0 nl0 => ?_⟩
      have sm2 : Same H (upd H1 l0 (.lst [])) := sm1.trans (same_new nl0 _)
      have el0 : (upd H1 l0 (.lst [])) l0 = some (.lst []) := upd_same
      generalize upd H1 l0 (.lst []) = H2 at sm2 el0
      have ea2 := sm2 _ _ ea0
      refine ⟨_, rfl, rfl, _, rfl, ?_⟩
      refine if_false_of (str_ne (by decide +kernel)) ?_
      refine ⟨_, rfl, rfl, _, rfl, ?_⟩
      refine if_false_of (str_ne (by decide +kernel)) ?_
      refine ⟨_, rfl, rfl, _, rfl, ?_⟩
      refine if_false_of (str_ne (by decide +kernel)) ?_
      exact ⟨l0, rfl, sm2, el0, by simp [kids]⟩
  rintro σ1 H1 ⟨l, rfl, s1, el, hk⟩
  intro di ndi
  have dil : di ≠ l := fun z => by
    rw [z, el] at ndi
    cases ndi
  have s2 : Same H (upd H1 di (.dK [])) := s1.trans (same_new ndi _)
  have edi : (upd H1 di (.dK [])) di = some (.dK []) := upd_same
  have nd0 : H di = none := s1.free ndi
  have el2 : (upd H1 di (.dK [])) l = some (.lst ((bnds t).map V.int)) := by
    rw [upd_ne (Ne.symm dil)]
    exact el
  generalize upd H1 di (.dK []) = H2 at s2 edi el2
  have ed2 := s2 _ _ (sF _ _ ed)
  have did : di ≠ d := fun z => by
    have := sF _ _ ed
    rw [← z, nd0] at this
    cases this
  have ld : l ≠ d := fun z => by
    rw [z, ed2] at el2
    cases el2
  refine ⟨fun σ' H' => ∃ (y5 : Option V) (kI : List (Key × V)), σ' = [some v, some (.ref d), some (.str (kind t)), some (.ref l), some (.ref di), y5, none, none] ∧ Same H H' ∧ H' di = some (.dK kI) ∧ DG kI (rmC c (bnds t)) ∧ kI.length ≤ kvs.length, ?_, ?_⟩
  · refine ⟨d, .dK kvs, ed2, trivial, fun od => ?_⟩
    refine ⟨_, rfl, d, od, rfl, .inl ⟨kvs, upd_same, ?_⟩⟩
    refine for_it (walk_keys (d := d) (o := od) (kvs := kvs)) (fun i σ H' => ∃ (y5 : Option V) (kI : List (Key × V)) (ci : Int → Option V), σ = [some v, some (.ref d), some (.str (kind t)), some (.ref l), some (.ref di), y5, none, none] ∧ Kb [di] (upd H2 d (.frz od (.dK kvs))) H' ∧ H' di = some (.dK kI) ∧ DG kI ci ∧ CG kvs (rmC c (bnds t)) ci i ∧ kI.length ≤ i)
      ⟨none, [], _, rfl, Kb.refl _ _, by rw [upd_ne did]; exact edi, DG.nil, CG.nil, Nat.zero_le _⟩ (fun i σ H' _ ⟨_, _, _, _, kb, _⟩ => kb d _ (by simp [Ne.symm did]) upd_same) ?_ ?_
    · rintro i x σ H' H'' hi ⟨y5, kI, ci, rfl, kb, eI, dI, cp, lI⟩ ⟨rfl, kk, vv, hkv, rfl⟩
      obtain ⟨i0, v0, ep⟩ := dg.2 _ (List.mem_of_getElem? hkv)
      injection ep with ek ev
      subst ek ev
      obtain ⟨v1, hv1⟩ := dg.has (List.mem_of_getElem? hkv)
      have el3 : H'' l = some (.lst ((bnds t).map V.int)) := kb l _ (by simp [Ne.symm dil]) (by rw [upd_ne ld]; exact el2)
      refine ⟨_, rfl, _, rfl, l, _, rfl, .inl (SqL.of el3), rfl, flat_ints _, _, rfl, ?_⟩
      by_cases hz : i0 ∈ bnds t
      · refine if_false_of (by show (!inV (V.int i0) ((bnds t).map V.int)) = false; rw [inV_ints, decide_eq_true hz]; rfl) ?_
        refine ⟨_, kI, ci, rfl, kb, eI, dI, cp.skip hkv (by unfold rmC; rw [if_pos hz]), by omega⟩
      · refine if_true_of (by show (!inV (V.int i0) ((bnds t).map V.int)) = true; rw [inV_ints, decide_eq_false hz]; rfl) ?_
        refine ⟨_, rfl, _, rfl, d, v1, rfl, .inl ⟨kvs, Sum.inl i0, .inr ⟨od, kb d _ (by simp [Ne.symm did]) upd_same⟩, rfl, by rw [dg.1 i0, hv1]⟩, _, rfl, _, rfl, di, _, rfl, DPut.k (k := (Sum.inl i0 : Key)) eI (smallL (by omega)), ?_⟩
        refine ⟨_, _, _, rfl, kb.put List.mem_cons_self _, upd_same, dI.put, cp.step hkv (by unfold rmC; rw [if_neg hz]; exact hv1), by have := length_putK kI (Sum.inl i0 : Key) v1; omega⟩
    rintro σ Hx ⟨y5, kI, ci, rfl, kbx, eI, dI, cp, lI⟩
    rw [cp.all dg (fun x w hw => by
      unfold rmC at hw
      by_cases z : x ∈ bnds t
      · rw [if_pos z] at hw
        cases hw
      · rw [if_neg z] at hw
        exact ⟨w, hw⟩)] at dI
    refine ⟨kbx d _ (by simp [Ne.symm did]) upd_same, ?_⟩
    refine ⟨y5, kI, rfl, fun b o y => ?_, by rw [upd_ne did]; exact eI, dI, lI⟩
    have y2 := s2 b o y
    by_cases z : b = d
    · rw [z, upd_same]
      rw [z, ed2] at y2
      exact y2
    · rw [upd_ne z]
      exact kbx b o (fun w => by rw [List.mem_singleton.mp w, nd0] at y; cases y) (by rw [upd_ne z]; exact y2)
  rintro σ2 H2 ⟨y5, kI, rfl, s2, edi, dgI, lI⟩
  have nd0 : H di = none := s1.free ndi
  have sGH : Same (ov Fh H H2) H2 := ov_in sF s2
  have sFG : Same Fh (ov Fh H H2) := ov_base sF
  have edG : (ov Fh H H2) di = some (.dK kI) := ov_new nd0 edi
  have tcG := tc.same sFG
  have edG0 := sFG _ _ ed
  have up : ∀ {H3 : Hp}, Same H2 H3 → Same (ov (ov Fh H H2) H2 H3) (ov Fh H H3) := fun e => ov_ov sF s2 e
  generalize hG : ov Fh H H2 = G at *
  cases t with
  | int n o => exact absurd rfl hk
  | prim s o => exact absurd rfl hk
  | ref i o => exact absurd rfl hk
  | fn ids b o =>
    unfold TmAt at ta
    obtain ⟨a, l, u, wo1, rfl, ea, el, tb, og⟩ := ta
    refine ⟨_, rfl, rfl, _, rfl, ?_⟩
    refine if_true_of str_eq ?_
    refine r_fw (F := G) (fw_tup (fwa_cons (fw_val ev_c) (fwa_cons (fw_val (ev_op (ev_var rfl) ev_c (rv_ixT (SqT.of (sFG _ _ ea)) (atI_nat (j := 1) rfl)))) (fwa_cons (fw_put (m := rmM m ids) (ev_op (ev_var rfl) ev_c (rv_ixT (SqT.of (sFG _ _ ea)) (atI_nat (j := 2) rfl))) (ev_var rfl) edG dgI (tcG.rm _) (by omega) (TmAt.same sFG _ _ tb) (by have := hw; simp only [wok, woks] at this; exact this.2.2.1) (by have := hz; simp only [msz, mszs] at this; omega) (by have := hn; simp only [mht, mhts] at this; omega)) (fwa_cons (fw_val (ev_op (ev_var rfl) ev_c (rv_ixT (SqT.of (sFG _ _ ea)) (atI_nat (j := 3) rfl)))) fwa_nil)))) (fun vs _ h => by obtain ⟨_, _, rfl, _, _, _, rfl, _, _, _, rfl, _, _, _, rfl, _, h⟩ := h; subst h; exact (by decide : (4 : Nat) ≤ 100000))) sGH (fun u H3 e3 b => ?_)
    have b2 := b _ (up e3)
    obtain ⟨_, _, rfl, et, _, _, rfl, rfl, _, _, rfl, rfl, _, _, rfl, tp, _, _, rfl, rfl, rfl⟩ := b2
    have sFO : Same Fh (ov Fh H H3) := ov_base sF
    refine q H3 _ (s2.trans e3) ?_
    simp only [sub]
    unfold TmAt
    exact ⟨_, l, _, _, rfl, et, sFO _ _ el, tp, og.same sFO⟩
  | rc i ids b o =>
    unfold TmAt at ta
    obtain ⟨a, l, u, wo1, rfl, ea, el, tb, og⟩ := ta
    refine ⟨_, rfl, rfl, _, rfl, ?_⟩
    refine if_false_of (str_ne (show ("rec" : Str) ≠ "fn" by decide +kernel)) ?_
    refine ⟨_, rfl, rfl, _, rfl, ?_⟩
    refine if_true_of str_eq ?_
    refine r_fw (F := G) (fw_tup (fwa_cons (fw_val ev_c) (fwa_cons (fw_val (ev_op (ev_var rfl) ev_c (rv_ixT (SqT.of (sFG _ _ ea)) (atI_nat (j := 1) rfl)))) (fwa_cons (fw_val (ev_op (ev_var rfl) ev_c (rv_ixT (SqT.of (sFG _ _ ea)) (atI_nat (j := 2) rfl)))) (fwa_cons (fw_put (m := rmM m (i :: ids)) (ev_op (ev_var rfl) ev_c (rv_ixT (SqT.of (sFG _ _ ea)) (atI_nat (j := 3) rfl))) (ev_var rfl) edG dgI (tcG.rm _) (by omega) (TmAt.same sFG _ _ tb) (by have := hw; simp only [wok, woks] at this; exact this.2.2.2.1) (by have := hz; simp only [msz, mszs] at this; omega) (by have := hn; simp only [mht, mhts] at this; omega)) (fwa_cons (fw_val (ev_op (ev_var rfl) ev_c (rv_ixT (SqT.of (sFG _ _ ea)) (atI_nat (j := 4) rfl)))) fwa_nil))))) (fun vs _ h => by obtain ⟨_, _, rfl, _, _, _, rfl, _, _, _, rfl, _, _, _, rfl, _, _, _, rfl, _, h⟩ := h; subst h; exact (by decide : (5 : Nat) ≤ 100000))) sGH (fun u H3 e3 b => ?_)
    have b2 := b _ (up e3)
    obtain ⟨_, _, rfl, et, _, _, rfl, rfl, _, _, rfl, rfl, _, _, rfl, rfl, _, _, rfl, tp, _, _, rfl, rfl, rfl⟩ := b2
    have sFO : Same Fh (ov Fh H H3) := ov_base sF
    refine q H3 _ (s2.trans e3) ?_
    simp only [sub]
    unfold TmAt
    exact ⟨_, l, _, _, rfl, et, sFO _ _ el, tp, og.same sFO⟩
  | lt i x b o =>
    unfold TmAt at ta
    obtain ⟨a, u1, u2, wo1, rfl, ea, t1, t2, og⟩ := ta
    refine ⟨_, rfl, rfl, _, rfl, ?_⟩
    refine if_false_of (str_ne (show ("let" : Str) ≠ "fn" by decide +kernel)) ?_
    refine ⟨_, rfl, rfl, _, rfl, ?_⟩
    refine if_false_of (str_ne (show ("let" : Str) ≠ "rec" by decide +kernel)) ?_
    refine ⟨_, rfl, rfl, _, rfl, ?_⟩
    refine if_true_of str_eq ?_
    refine r_fw (F := G) (fw_tup (fwa_cons (fw_val ev_c) (fwa_cons (fw_val (ev_op (ev_var rfl) ev_c (rv_ixT (SqT.of (sFG _ _ ea)) (atI_nat (j := 1) rfl)))) (fwa_cons (fw_put (m := m) (ev_op (ev_var rfl) ev_c (rv_ixT (SqT.of (sFG _ _ ea)) (atI_nat (j := 2) rfl))) (ev_var rfl) edG0 dg tcG hkv (TmAt.same sFG _ _ t1) (by have := hw; simp only [wok, woks] at this; exact this.2.1) (by have := hz; simp only [msz, mszs] at this; omega) (by have := hn; simp only [mht, mhts] at this; omega)) (fwa_cons (fw_put (m := rmM m [i]) (ev_op (ev_var rfl) ev_c (rv_ixT (SqT.of (sFG _ _ ea)) (atI_nat (j := 3) rfl))) (ev_var rfl) edG dgI (tcG.rm _) (by omega) (TmAt.same sFG _ _ t2) (by have := hw; simp only [wok, woks] at this; exact this.2.2.1) (by have := hz; simp only [msz, mszs] at this; omega) (by have := hn; simp only [mht, mhts] at this; omega)) (fwa_cons (fw_val (ev_op (ev_var rfl) ev_c (rv_ixT (SqT.of (sFG _ _ ea)) (atI_nat (j := 4) rfl)))) fwa_nil))))) (fun vs _ h => by obtain ⟨_, _, rfl, _, _, _, rfl, _, _, _, rfl, _, _, _, rfl, _, _, _, rfl, _, h⟩ := h; subst h; exact (by decide : (5 : Nat) ≤ 100000))) sGH (fun u H3 e3 b => ?_)
    have b2 := b _ (up e3)
    obtain ⟨_, _, rfl, et, _, _, rfl, rfl, _, _, rfl, rfl, _, _, rfl, tp1, _, _, rfl, tp2, _, _, rfl, rfl, rfl⟩ := b2
    have sFO : Same Fh (ov Fh H H3) := ov_base sF
    refine q H3 _ (s2.trans e3) ?_
    simp only [sub]
    unfold TmAt
    exact ⟨_, _, _, _, rfl, et, tp1, tp2, og.same sFO⟩
  | ite x y z o =>
    unfold TmAt at ta
    obtain ⟨a, u1, u2, u3, wo1, rfl, ea, t1, t2, t3, og⟩ := ta
    refine ⟨_, rfl, rfl, _, rfl, ?_⟩
    refine if_false_of (str_ne (show ("if" : Str) ≠ "fn" by decide +kernel)) ?_
    refine ⟨_, rfl, rfl, _, rfl, ?_⟩
    refine if_false_of (str_ne (show ("if" : Str) ≠ "rec" by decide +kernel)) ?_
    refine ⟨_, rfl, rfl, _, rfl, ?_⟩
    refine if_false_of (str_ne (show ("if" : Str) ≠ "let" by decide +kernel)) ?_
    refine ⟨_, rfl, rfl, _, rfl, ?_⟩
    refine if_false_of (str_ne (show ("if" : Str) ≠ "app" by decide +kernel)) ?_
    refine t_next ?_
    dsimp only
    refine qw_asgL (F := G) (RL := Each 3 (fun i u H => ∃ s, ([x, y, z] : List Tm)[i]? = some s ∧ TmAt H (sub m s) u)) ?_ sGH (fun p ys H3 np e3 hp b => ?_)
    · refine fwl_lcNT (xs := [u1, u2, u3]) (fun i u H => ∃ s, ([x, y, z] : List Tm)[i]? = some s ∧ TmAt H (sub m s) u) (eu_slT (xs := [.str "if", u1, u2, u3, wo1]) (lo := some 1) (hi := some (-1)) (ev_var rfl) (eo_some ev_c) (eo_some (ev_un ev_c ru_neg)) (SqT.of (sFG _ _ ea)) (by show ¬ (HT.sIx 5 0 (some 1) = 0 ∧ HT.sIx 5 5 (some (-1)) = 5); decide)) (by show 3 ≤ 40000; decide) (fun _ => by rfl) ?_
      intro i yv hy
      match i, hy with
      | 0, hy =>
        have e : yv = u1 := by
          simpa using hy.symm
        subst e
        exact (fw_put (m := m) (ev_var rfl) (ev_var rfl) edG0 dg tcG hkv (TmAt.same sFG _ _ t1) (by have := hw; simp only [wok] at this; exact this.1) (by have := hz; simp only [msz] at this; omega) (by have := hn; simp only [mht] at this; omega)).imp fun u H b => ⟨x, rfl, b.now⟩
      | 1, hy =>
        have e : yv = u2 := by
          simpa using hy.symm
        subst e
        exact (fw_put (m := m) (ev_var rfl) (ev_var rfl) edG0 dg tcG hkv (TmAt.same sFG _ _ t2) (by have := hw; simp only [wok] at this; exact this.2.1) (by have := hz; simp only [msz] at this; omega) (by have := hn; simp only [mht] at this; omega)).imp fun u H b => ⟨y, rfl, b.now⟩
      | 2, hy =>
        have e : yv = u3 := by
          simpa using hy.symm
        subst e
        exact (fw_put (m := m) (ev_var rfl) (ev_var rfl) edG0 dg tcG hkv (TmAt.same sFG _ _ t3) (by have := hw; simp only [wok] at this; exact this.2.2.1) (by have := hz; simp only [msz] at this; omega) (by have := hn; simp only [mht] at this; omega)).imp fun u H b => ⟨z, rfl, b.now⟩
      | i + 3, hy => simp at hy
    have hl : ys.length = 3 := b.now.1
    refine s_retU (xs := [.str "if"] ++ ys ++ [wo1]) (eu_cat (eu_cat (eu_tup (ea_cons (ev_var rfl) ea_nil) (by show 1 ≤ 100000; decide)) (eu_tupleL (ev_var rfl) (SqL.of hp)) (by simp) (fun z => by rw [z] at hl; cases hl) (by rw [hl]; decide)) (eu_tup (ea_cons (ev_op (ev_var rfl) (ev_un ev_c ru_neg) (rv_ixT (i := -1) (SqT.of (e3 _ _ (sGH _ _ (sFG _ _ ea)))) rfl)) ea_nil) (by show 1 ≤ 100000; decide)) (by simp) (by simp) (by simp [hl])) (fun p4 H4 n4 e4 h4 => ?_)
    match ys, hl with
    | [y1, y2, y3], _ =>
      have b2 := b _ (wo_sub.trans ((up e3).trans (ov_up (F := Fh) (H := H) e4)))
      obtain ⟨s0, hs0, tp0⟩ := b2.2 0 y1 rfl
      cases hs0
      obtain ⟨s1, hs1, tp1⟩ := b2.2 1 y2 rfl
      cases hs1
      obtain ⟨s2, hs2, tp2⟩ := b2.2 2 y3 rfl
      cases hs2
      refine q H4 _ ((s2.trans e3).trans e4) ?_
      simp only [sub]
      unfold TmAt
      exact ⟨p4, y1, y2, y3, wo1, rfl, ov_new ((s2.trans e3).free n4) h4, tp0, tp1, tp2, og.same (ov_base sF)⟩
  | app f xs o =>
    unfold TmAt at ta
    obtain ⟨a, u, l, vs, wo1, rfl, ea, el, t1, t2, og⟩ := ta
    refine ⟨_, rfl, rfl, _, rfl, ?_⟩
    refine if_false_of (str_ne (show ("app" : Str) ≠ "fn" by decide +kernel)) ?_
    refine ⟨_, rfl, rfl, _, rfl, ?_⟩
    refine if_false_of (str_ne (show ("app" : Str) ≠ "rec" by decide +kernel)) ?_
    refine ⟨_, rfl, rfl, _, rfl, ?_⟩
    refine if_false_of (str_ne (show ("app" : Str) ≠ "let" by decide +kernel)) ?_
    refine ⟨_, rfl, rfl, _, rfl, ?_⟩
    refine if_true_of str_eq ?_
    refine r_fw (F := G) (fw_tup (fwa_cons (fw_val ev_c) (fwa_cons (fw_put (m := m) (ev_op (ev_var rfl) ev_c (rv_ixT (SqT.of (sFG _ _ ea)) (atI_nat (j := 1) rfl))) (ev_var rfl) edG0 dg tcG hkv (TmAt.same sFG _ _ t1) (by have := hw; simp only [wok, woks] at this; exact this.1) (by have := hz; simp only [msz, mszs] at this; omega) (by have := hn; simp only [mht, mhts] at this; omega)) (fwa_cons (fw_list (fwl_lcL (fun i u H => ∃ s, xs[i]? = some s ∧ TmAt H (sub m s) u) (ev_op (ev_var rfl) ev_c (rv_ixT (SqT.of (sFG _ _ ea)) (atI_nat (j := 2) rfl))) (SqL.of (sFG _ _ el)) (by have := TmsAt.len t2; have h2 := len_mszs xs; have h3 := hz; simp only [msz] at h3; omega) (fun _ => rfl) (fun i y hy => by
          obtain ⟨s, hs, ts⟩ := TmsAt.get t2 hy
          refine (fw_put (m := m) (ev_var rfl) (ev_var rfl) edG0 dg tcG hkv (TmAt.same sFG _ _ ts) (woks_get (by have := hw; simp only [wok] at this; exact this.2.1) hs) (by have := mszs_get hs; have h2 := hz; simp only [msz] at h2; omega) (by have := mhts_get hs; have h2 := hn; simp only [mht] at h2; omega)).imp fun u H b => ⟨s, hs, b.now⟩))) (fwa_cons (fw_val (ev_op (ev_var rfl) ev_c (rv_ixT (SqT.of (sFG _ _ ea)) (atI_nat (j := 3) rfl)))) fwa_nil)))) (fun vs _ h => by obtain ⟨_, _, rfl, _, _, _, rfl, _, _, _, rfl, _, _, _, rfl, _, h⟩ := h; subst h; exact (by decide : (4 : Nat) ≤ 100000))) sGH (fun u H3 e3 b => ?_)
    have b2 := b _ (up e3)
    obtain ⟨_, _, rfl, et, _, _, rfl, rfl, _, _, rfl, tp1, _, _, rfl, ⟨l2, ys, rfl, el2, hys⟩, _, _, rfl, rfl, rfl⟩ := b2
    have sFO : Same Fh (ov Fh H H3) := ov_base sF
    refine q H3 _ (s2.trans e3) ?_
    simp only [sub]
    unfold TmAt
    exact ⟨_, _, l2, ys, _, rfl, et, el2, tp1, subs_of m (by have := TmsAt.len t2; rw [← this]; exact hys.1) (fun i s y hs hy => by obtain ⟨s2, h2, h3⟩ := hys.2 i y hy; rw [hs] at h2; cases h2; exact h3), og.same sFO⟩
  | pair x y o =>
    unfold TmAt at ta
    obtain ⟨a, u1, u2, wo1, rfl, ea, t1, t2, og⟩ := ta
    refine ⟨_, rfl, rfl, _, rfl, ?_⟩
    refine if_false_of (str_ne (show ("pair" : Str) ≠ "fn" by decide +kernel)) ?_
    refine ⟨_, rfl, rfl, _, rfl, ?_⟩
    refine if_false_of (str_ne (show ("pair" : Str) ≠ "rec" by decide +kernel)) ?_
    refine ⟨_, rfl, rfl, _, rfl, ?_⟩
    refine if_false_of (str_ne (show ("pair" : Str) ≠ "let" by decide +kernel)) ?_
    refine ⟨_, rfl, rfl, _, rfl, ?_⟩
    refine if_false_of (str_ne (show ("pair" : Str) ≠ "app" by decide +kernel)) ?_
    refine t_next ?_
    dsimp only
    refine qw_asgL (F := G) (RL := Each 2 (fun i u H => ∃ s, ([x, y] : List Tm)[i]? = some s ∧ TmAt H (sub m s) u)) ?_ sGH (fun p ys H3 np e3 hp b => ?_)
    · refine fwl_lcNT (xs := [u1, u2]) (fun i u H => ∃ s, ([x, y] : List Tm)[i]? = some s ∧ TmAt H (sub m s) u) (eu_slT (xs := [.str "pair", u1, u2, wo1]) (lo := some 1) (hi := some (-1)) (ev_var rfl) (eo_some ev_c) (eo_some (ev_un ev_c ru_neg)) (SqT.of (sFG _ _ ea)) (by show ¬ (HT.sIx 4 0 (some 1) = 0 ∧ HT.sIx 4 4 (some (-1)) = 4); decide)) (by show 2 ≤ 40000; decide) (fun _ => by rfl) ?_
      intro i yv hy
      match i, hy with
      | 0, hy =>
        have e : yv = u1 := by
          simpa using hy.symm
        subst e
        exact (fw_put (m := m) (ev_var rfl) (ev_var rfl) edG0 dg tcG hkv (TmAt.same sFG _ _ t1) (by have := hw; simp only [wok] at this; exact this.1) (by have := hz; simp only [msz] at this; omega) (by have := hn; simp only [mht] at this; omega)).imp fun u H b => ⟨x, rfl, b.now⟩
      | 1, hy =>
        have e : yv = u2 := by
          simpa using hy.symm
        subst e
        exact (fw_put (m := m) (ev_var rfl) (ev_var rfl) edG0 dg tcG hkv (TmAt.same sFG _ _ t2) (by have := hw; simp only [wok] at this; exact this.2.1) (by have := hz; simp only [msz] at this; omega) (by have := hn; simp only [mht] at this; omega)).imp fun u H b => ⟨y, rfl, b.now⟩
      | i + 2, hy => simp at hy
    have hl : ys.length = 2 := b.now.1
    refine s_retU (xs := [.str "pair"] ++ ys ++ [wo1]) (eu_cat (eu_cat (eu_tup (ea_cons (ev_var rfl) ea_nil) (by show 1 ≤ 100000; decide)) (eu_tupleL (ev_var rfl) (SqL.of hp)) (by simp) (fun z => by rw [z] at hl; cases hl) (by rw [hl]; decide)) (eu_tup (ea_cons (ev_op (ev_var rfl) (ev_un ev_c ru_neg) (rv_ixT (i := -1) (SqT.of (e3 _ _ (sGH _ _ (sFG _ _ ea)))) rfl)) ea_nil) (by show 1 ≤ 100000; decide)) (by simp) (by simp) (by simp [hl])) (fun p4 H4 n4 e4 h4 => ?_)
    match ys, hl with
    | [y1, y2], _ =>
      have b2 := b _ (wo_sub.trans ((up e3).trans (ov_up (F := Fh) (H := H) e4)))
      obtain ⟨s0, hs0, tp0⟩ := b2.2 0 y1 rfl
      cases hs0
      obtain ⟨s1, hs1, tp1⟩ := b2.2 1 y2 rfl
      cases hs1
      refine q H4 _ ((s2.trans e3).trans e4) ?_
      simp only [sub]
      unfold TmAt
      exact ⟨p4, y1, y2, wo1, rfl, ov_new ((s2.trans e3).free n4) h4, tp0, tp1, og.same (ov_base sF)⟩
end
end Sg

namespace Sg
open PySem PySem.Spec PyProof.Rows L2
/-! ### terms as data: ==, repr -/
def ogD (o : Og) : PyData := .tuple [.int o.u, .tuple (o.rs.map PyData.int), .int o.h]
mutual
def tmD : Tm → PyData
  | .int n o => .tuple [.str "int", .int n, ogD o]
  | .prim s o => .tuple [.str "prim", .str s, ogD o]
  | .ref i o => .tuple [.str "ref", .int i, ogD o]
  | .fn ids b o => .tuple [.str "fn", .list (ids.map PyData.int), tmD b, ogD o]
  | .rc i ids b o => .tuple [.str "rec", .int i, .list (ids.map PyData.int), tmD b, ogD o]
  | .lt i x b o => .tuple [.str "let", .int i, tmD x, tmD b, ogD o]
  | .ite x y z o => .tuple [.str "if", tmD x, tmD y, tmD z, ogD o]
  | .app f xs o => .tuple [.str "app", tmD f, .list (tmDs xs), ogD o]
  | .pair x y o => .tuple [.str "pair", tmD x, tmD y, ogD o]
def tmDs : List Tm → List PyData
  | [] => []
  | t :: ts => tmD t :: tmDs ts
end
section
variable {K : PySem.W.Frag}
theorem dp_ints {F : Hp} : ∀ rs : List Int, DpAll K F (rs.map V.int) (rs.map PyData.int)
  | [] => .nil
  | r :: rs => .cons (.int r) (dp_ints rs)
theorem dp_og {F : Hp} {o : Og} {v : V} (h : OgAt F o v) : Dp K F v (ogD o) := by
  obtain ⟨a, b, rfl, h1, h2⟩ := h
  exact .tup (SqT.of h1) (.cons (.int _) (.cons (.tup (SqT.of h2) (dp_ints _)) (.cons (.int _) .nil)))
mutual
theorem dp_tm {F : Hp} : ∀ (t : Tm) (v : V), TmAt F t v → Dp K F v (tmD t)
  | .int n o, v, h => by
    unfold TmAt at h
    obtain ⟨a, w, rfl, h1, h2⟩ := h
    simp only [tmD]
    exact .tup (SqT.of h1) (.cons (.str _) (.cons (.int _) (.cons (dp_og h2) .nil)))
  | .prim s o, v, h => by
    unfold TmAt at h
    obtain ⟨a, w, rfl, h1, h2⟩ := h
    simp only [tmD]
    exact .tup (SqT.of h1) (.cons (.str _) (.cons (.str _) (.cons (dp_og h2) .nil)))
  | .ref i o, v, h => by
    unfold TmAt at h
    obtain ⟨a, w, rfl, h1, h2⟩ := h
    simp only [tmD]
    exact .tup (SqT.of h1) (.cons (.str _) (.cons (.int _) (.cons (dp_og h2) .nil)))
  | .fn ids b o, v, h => by
    unfold TmAt at h
    obtain ⟨a, l, u, w, rfl, h1, h2, h3, h4⟩ := h
    simp only [tmD]
    exact .tup (SqT.of h1) (.cons (.str _) (.cons (.lst (SqL.of h2) (dp_ints _)) (.cons (dp_tm b u h3) (.cons (dp_og h4) .nil))))
  | .rc i ids b o, v, h => by
    unfold TmAt at h
    obtain ⟨a, l, u, w, rfl, h1, h2, h3, h4⟩ := h
    simp only [tmD]
    exact .tup (SqT.of h1) (.cons (.str _) (.cons (.int _) (.cons (.lst (SqL.of h2) (dp_ints _)) (.cons (dp_tm b u h3) (.cons (dp_og h4) .nil)))))
  | .lt i x b o, v, h => by
    unfold TmAt at h
    obtain ⟨a, u1, u2, w, rfl, h1, h2, h3, h4⟩ := h
    simp only [tmD]
    exact .tup (SqT.of h1) (.cons (.str _) (.cons (.int _) (.cons (dp_tm x u1 h2) (.cons (dp_tm b u2 h3) (.cons (dp_og h4) .nil)))))
  | .ite x y z o, v, h => by
    unfold TmAt at h
    obtain ⟨a, u1, u2, u3, w, rfl, h1, h2, h3, h4, h5⟩ := h
    simp only [tmD]
    exact .tup (SqT.of h1) (.cons (.str _) (.cons (dp_tm x u1 h2) (.cons (dp_tm y u2 h3) (.cons (dp_tm z u3 h4) (.cons (dp_og h5) .nil)))))
  | .app f xs o, v, h => by
    unfold TmAt at h
    obtain ⟨a, u, l, vs, w, rfl, h1, h2, h3, h4, h5⟩ := h
    simp only [tmD]
    exact .tup (SqT.of h1) (.cons (.str _) (.cons (dp_tm f u h3) (.cons (.lst (SqL.of h2) (dp_tms xs vs h4)) (.cons (dp_og h5) .nil))))
  | .pair x y o, v, h => by
    unfold TmAt at h
    obtain ⟨a, u1, u2, w, rfl, h1, h2, h3, h4⟩ := h
    simp only [tmD]
    exact .tup (SqT.of h1) (.cons (.str _) (.cons (dp_tm x u1 h2) (.cons (dp_tm y u2 h3) (.cons (dp_og h4) .nil))))
theorem dp_tms {F : Hp} : ∀ (ts : List Tm) (vs : List V), TmsAt F ts vs → DpAll K F vs (tmDs ts)
  | [], vs, h => by
    unfold TmsAt at h
    subst h
    simp only [tmDs]
    exact .nil
  | t :: ts, vs, h => by
    unfold TmsAt at h
    obtain ⟨v, r, rfl, h2, h3⟩ := h
    simp only [tmDs]
    exact .cons (dp_tm t v h2) (dp_tms ts r h3)
end
end
theorem ints_can : ∀ rs : List Int, PyData.canLayAll0 (rs.map PyData.int) = true
  | [] => rfl
  | r :: rs => by
    simp only [List.map_cons, PyData.canLayAll0, PyData.canLay0, Bool.true_and]
    exact ints_can rs
theorem ints_depth : ∀ rs : List Int, PyData.depthAll (rs.map PyData.int) = 0
  | [] => rfl
  | r :: rs => by
    simp only [List.map_cons, PyData.depthAll, PyData.depth]
    rw [ints_depth rs]
    rfl
theorem og_can (o : Og) : PyData.canLay0 (ogD o) = true := by
  simp only [ogD, PyData.canLay0, PyData.canLayAll0, Bool.and_true, Bool.true_and]
  exact ints_can _
theorem og_depth (o : Og) : PyData.depth (ogD o) = 2 := by
  simp only [ogD, PyData.depth, PyData.depthAll]
  rw [ints_depth]
  rfl
theorem strOk_of {s : Str} (h : ∀ c ∈ s.cps.toList, c < 128) : PyData.strOk s = true := by
  show s.cps.all (· < 0x110000) = true
  rw [← Array.all_toList]
  exact List.all_eq_true.mpr fun c hc => decide_eq_true (Nat.lt_trans (h c hc) (by decide))
mutual
theorem tm_can : ∀ (env : List Int) (t : Tm), mok env t → PyData.canLay0 (tmD t) = true
  | env, .int n o, _ => by
    simp only [tmD, PyData.canLay0, PyData.canLayAll0, og_can, Bool.and_true]
    decide +kernel
  | env, .prim s o, h => by
    simp only [mok] at h
    simp only [tmD, PyData.canLay0, PyData.canLayAll0, og_can, strOk_of h.2.1, Bool.and_true]
    decide +kernel
  | env, .ref i o, _ => by
    simp only [tmD, PyData.canLay0, PyData.canLayAll0, og_can, Bool.and_true]
    decide +kernel
  | env, .fn ids b o, h => by
    simp only [mok] at h
    simp only [tmD, PyData.canLay0, PyData.canLayAll0, og_can, ints_can, tm_can _ b h.2.2.1, Bool.and_true]
    decide +kernel
  | env, .rc i ids b o, h => by
    simp only [mok] at h
    simp only [tmD, PyData.canLay0, PyData.canLayAll0, og_can, ints_can, tm_can _ b h.2.2.2.1, Bool.and_true]
    decide +kernel
  | env, .lt i x b o, h => by
    simp only [mok] at h
    simp only [tmD, PyData.canLay0, PyData.canLayAll0, og_can, tm_can _ x h.2.1, tm_can _ b h.2.2.1, Bool.and_true]
    decide +kernel
  | env, .ite x y z o, h => by
    simp only [mok] at h
    simp only [tmD, PyData.canLay0, PyData.canLayAll0, og_can, tm_can _ x h.1, tm_can _ y h.2.1, tm_can _ z h.2.2.1, Bool.and_true]
    decide +kernel
  | env, .app f xs o, h => by
    simp only [mok] at h
    simp only [tmD, PyData.canLay0, PyData.canLayAll0, og_can, tm_can _ f h.1, tms_can _ xs h.2.1, Bool.and_true]
    decide +kernel
  | env, .pair x y o, h => by simp only [mok] at h
theorem tms_can : ∀ (env : List Int) (ts : List Tm), moks env ts → PyData.canLayAll0 (tmDs ts) = true
  | _, [], _ => rfl
  | env, t :: ts, h => by
    simp only [moks] at h
    simp only [tmDs, PyData.canLayAll0, tm_can env t h.1, tms_can env ts h.2]
    rfl
end
mutual
theorem tm_depth : ∀ t : Tm, PyData.depth (tmD t) ≤ 2 * mht t + 3
  | .int n o => by
    simp only [tmD, PyData.depth, PyData.depthAll, og_depth, mht]
    omega
  | .prim s o => by
    simp only [tmD, PyData.depth, PyData.depthAll, og_depth, mht]
    omega
  | .ref i o => by
    simp only [tmD, PyData.depth, PyData.depthAll, og_depth, mht]
    omega
  | .fn ids b o => by
    have := tm_depth b
    simp only [tmD, PyData.depth, PyData.depthAll, og_depth, ints_depth, mht]
    omega
  | .rc i ids b o => by
    have := tm_depth b
    simp only [tmD, PyData.depth, PyData.depthAll, og_depth, ints_depth, mht]
    omega
  | .lt i x b o => by
    have := tm_depth x
    have := tm_depth b
    simp only [tmD, PyData.depth, PyData.depthAll, og_depth, mht]
    omega
  | .ite x y z o => by
    have := tm_depth x
    have := tm_depth y
    have := tm_depth z
    simp only [tmD, PyData.depth, PyData.depthAll, og_depth, mht]
    omega
  | .app f xs o => by
    have := tm_depth f
    have := tms_depth xs
    simp only [tmD, PyData.depth, PyData.depthAll, og_depth, mht]
    omega
  | .pair x y o => by
    have := tm_depth x
    have := tm_depth y
    simp only [tmD, PyData.depth, PyData.depthAll, og_depth, mht]
    omega
theorem tms_depth : ∀ ts : List Tm, PyData.depthAll (tmDs ts) ≤ 2 * mhts ts + 3
  | [] => by
    simp only [tmDs, PyData.depthAll]
    omega
  | t :: ts => by
    have := tm_depth t
    have := tms_depth ts
    simp only [tmDs, PyData.depthAll, mhts]
    omega
end
end Sg

namespace Sg
open PySem PySem.Spec PyProof.Rows L2
/-! ### how long a term is shown -/
theorem num_len {n : Int} (h : n.natAbs ≤ 999999999) : (Str.ofString (toString n)).length ≤ 10 := by
  have hl : (TL.numL n.natAbs).length ≤ 9 := TL.numL_len (by decide) (by omega)
  by_cases z : 0 ≤ n
  · have e : n = ((n.natAbs : Nat) : Int) := by omega
    have q : (Str.ofString (toString ((n.natAbs : Nat) : Int))).cps.toList = TL.numL n.natAbs := TL.tl_num n.natAbs
    rw [e]
    show (Str.ofString (toString ((n.natAbs : Nat) : Int))).cps.size ≤ 10
    rw [← Array.length_toList, q]
    omega
  · have hn : n < 0 := by omega
    rw [PyProof.Rows.len_text_neg hn]
    have e : (0 : Int) - n = ((n.natAbs : Nat) : Int) := by omega
    rw [e]
    have q : (Str.ofString (toString ((n.natAbs : Nat) : Int))).cps.toList = TL.numL n.natAbs := TL.tl_num n.natAbs
    show 1 + (Str.ofString (toString ((n.natAbs : Nat) : Int))).cps.size ≤ 10
    rw [← Array.length_toList, q]
    omega
theorem num_log {n : Int} (h : n.natAbs ≤ 999999999) : n.natAbs.log2 < 1920 := by
  by_cases z : n.natAbs = 0
  · rw [z]
    decide
  · have : n.natAbs.log2 < 30 := (Nat.log2_lt z (k := 30)).mpr (by omega)
    omega
theorem ints_show : ∀ rs : List Int, (∀ r ∈ rs, r.natAbs ≤ 999999999) → PyData.showableAll (rs.map PyData.int) = true ∧ PyData.hasDictAll (rs.map PyData.int) = false ∧ ((PyData.shownAll (rs.map PyData.int)).map (·.length)).sum + 2 * (PyData.shownAll (rs.map PyData.int)).length ≤ 12 * rs.length
  | [], _ => ⟨rfl, rfl, Nat.le_refl _⟩
  | r :: rs, h => by
    have q := ints_show rs fun x hx => h x (List.mem_cons_of_mem _ hx)
    have hr := h r List.mem_cons_self
    have := num_len hr
    simp only [List.map_cons, PyData.showableAll, PyData.hasDictAll, PyData.shownAll, PyData.showable, PyData.hasDict, PyData.shown, List.sum_cons, List.length_cons]
    refine ⟨by rw [decide_eq_true (num_log hr), q.1]; rfl, by rw [q.2.1]; rfl, ?_⟩
    omega
theorem og_show {o : Og} (h : OgOk o) : PyData.showable (ogD o) = true ∧ PyData.hasDict (ogD o) = false ∧ (PyData.shown (ogD o)).length ≤ 90 := by
  obtain ⟨h1, h2, h3, h4⟩ := h
  have q := ints_show o.rs fun r hr => by have := h3 r hr; omega
  have l1 := num_len (n := o.u) (by omega)
  have l2 := num_len (n := o.h) (by omega)
  have z1 := tupleText_len_le (PyData.shownAll (o.rs.map PyData.int))
  have z := tupleText_len_le [(toString o.u : Str), tupleText (PyData.shownAll (o.rs.map PyData.int)), (toString o.h : Str)]
  simp only [ogD, PyData.showable, PyData.showableAll, PyData.hasDict, PyData.hasDictAll, PyData.shown, PyData.shownAll]
  simp only [List.map_cons, List.map_nil, List.sum_cons, List.sum_nil, List.length_cons, List.length_nil] at z
  refine ⟨by rw [decide_eq_true (num_log (n := o.u) (by omega)), decide_eq_true (num_log (n := o.h) (by omega)), q.1]; rfl, by rw [q.2.1]; rfl, ?_⟩
  have := q.2.2
  omega
theorem ids_show {rs : List Int} (h : ∀ r ∈ rs, r.natAbs ≤ 100000) (hl : rs.length ≤ 4) : PyData.showableAll (rs.map PyData.int) = true ∧ PyData.hasDictAll (rs.map PyData.int) = false ∧ (listText (PyData.shownAll (rs.map PyData.int))).length ≤ 51 := by
  have q := ints_show rs fun r hr => by have := h r hr; omega
  have z := listText_len_le (PyData.shownAll (rs.map PyData.int))
  exact ⟨q.1, q.2.1, by have := q.2.2; omega⟩
mutual
theorem tm_show : ∀ (env : List Int) (t : Tm), mok env t → PyData.showable (tmD t) = true ∧ PyData.hasDict (tmD t) = false ∧ (PyData.shown (tmD t)).length + 2 ≤ 400 * msz t
  | env, .int n o, h => by
    simp only [mok] at h
    have g := og_show h.2
    have l := num_len h.1
    have e1 : (reprText "int").length = 5 := by decide +kernel
    have z := tupleText_len_le [reprText "int", (toString n : Str), PyData.shown (ogD o)]
    simp only [tmD, PyData.showable, PyData.showableAll, PyData.hasDict, PyData.hasDictAll, PyData.shown, PyData.shownAll, msz]
    simp only [List.map_cons, List.map_nil, List.sum_cons, List.sum_nil, List.length_cons, List.length_nil] at z
    refine ⟨by rw [decide_eq_true (num_log h.1), g.1]; rfl, by rw [g.2.1]; rfl, by omega⟩
  | env, .prim s o, h => by
    simp only [mok] at h
    have g := og_show h.2.2
    have l := StrLaws.reprText_len s (fun c hc => Nat.lt_trans (h.2.1 c hc) (by decide))
    have e1 : (reprText "prim").length = 6 := by decide +kernel
    have z := tupleText_len_le [reprText "prim", reprText s, PyData.shown (ogD o)]
    simp only [tmD, PyData.showable, PyData.showableAll, PyData.hasDict, PyData.hasDictAll, PyData.shown, PyData.shownAll, msz]
    simp only [List.map_cons, List.map_nil, List.sum_cons, List.sum_nil, List.length_cons, List.length_nil] at z
    refine ⟨by rw [g.1]; rfl, by rw [g.2.1]; rfl, by omega⟩
  | env, .ref i o, h => by
    simp only [mok] at h
    have g := og_show h.2.2
    have l := num_len (n := i) (by omega)
    have e1 : (reprText "ref").length = 5 := by decide +kernel
    have z := tupleText_len_le [reprText "ref", (toString i : Str), PyData.shown (ogD o)]
    simp only [tmD, PyData.showable, PyData.showableAll, PyData.hasDict, PyData.hasDictAll, PyData.shown, PyData.shownAll, msz]
    simp only [List.map_cons, List.map_nil, List.sum_cons, List.sum_nil, List.length_cons, List.length_nil] at z
    refine ⟨by rw [decide_eq_true (num_log (n := i) (by omega)), g.1]; rfl, by rw [g.2.1]; rfl, by omega⟩
  | env, .fn ids b o, h => by
    simp only [mok] at h
    have g := og_show h.2.2.2.1
    have l := ids_show h.2.1 h.1
    have qb := tm_show _ b h.2.2.1
    have e1 : (reprText "fn").length = 4 := by decide +kernel
    have z := tupleText_len_le [reprText "fn", listText (PyData.shownAll (ids.map PyData.int)), PyData.shown (tmD b), PyData.shown (ogD o)]
    simp only [tmD, PyData.showable, PyData.showableAll, PyData.hasDict, PyData.hasDictAll, PyData.shown, PyData.shownAll, msz]
    simp only [List.map_cons, List.map_nil, List.sum_cons, List.sum_nil, List.length_cons, List.length_nil] at z
    refine ⟨by rw [l.1, qb.1, g.1]; rfl, by rw [l.2.1, qb.2.1, g.2.1]; rfl, by omega⟩
  | env, .rc i ids b o, h => by
    simp only [mok] at h
    have g := og_show h.2.2.2.2.1
    have l := ids_show h.2.2.1 h.1
    have l2 := num_len (n := i) (by omega)
    have qb := tm_show _ b h.2.2.2.1
    have e1 : (reprText "rec").length = 5 := by decide +kernel
    have z := tupleText_len_le [reprText "rec", (toString i : Str), listText (PyData.shownAll (ids.map PyData.int)), PyData.shown (tmD b), PyData.shown (ogD o)]
    simp only [tmD, PyData.showable, PyData.showableAll, PyData.hasDict, PyData.hasDictAll, PyData.shown, PyData.shownAll, msz]
    simp only [List.map_cons, List.map_nil, List.sum_cons, List.sum_nil, List.length_cons, List.length_nil] at z
    refine ⟨by rw [decide_eq_true (num_log (n := i) (by omega)), l.1, qb.1, g.1]; rfl, by rw [l.2.1, qb.2.1, g.2.1]; rfl, by omega⟩
  | env, .lt i x b o, h => by
    simp only [mok] at h
    have g := og_show h.2.2.2
    have l2 := num_len (n := i) (by omega)
    have qx := tm_show _ x h.2.1
    have qb := tm_show _ b h.2.2.1
    have e1 : (reprText "let").length = 5 := by decide +kernel
    have z := tupleText_len_le [reprText "let", (toString i : Str), PyData.shown (tmD x), PyData.shown (tmD b), PyData.shown (ogD o)]
    simp only [tmD, PyData.showable, PyData.showableAll, PyData.hasDict, PyData.hasDictAll, PyData.shown, PyData.shownAll, msz]
    simp only [List.map_cons, List.map_nil, List.sum_cons, List.sum_nil, List.length_cons, List.length_nil] at z
    refine ⟨by rw [decide_eq_true (num_log (n := i) (by omega)), qx.1, qb.1, g.1]; rfl, by rw [qx.2.1, qb.2.1, g.2.1]; rfl, by omega⟩
  | env, .ite x y w o, h => by
    simp only [mok] at h
    have g := og_show h.2.2.2
    have qx := tm_show _ x h.1
    have qy := tm_show _ y h.2.1
    have qw := tm_show _ w h.2.2.1
    have e1 : (reprText "if").length = 4 := by decide +kernel
    have z := tupleText_len_le [reprText "if", PyData.shown (tmD x), PyData.shown (tmD y), PyData.shown (tmD w), PyData.shown (ogD o)]
    simp only [tmD, PyData.showable, PyData.showableAll, PyData.hasDict, PyData.hasDictAll, PyData.shown, PyData.shownAll, msz]
    simp only [List.map_cons, List.map_nil, List.sum_cons, List.sum_nil, List.length_cons, List.length_nil] at z
    refine ⟨by rw [qx.1, qy.1, qw.1, g.1]; rfl, by rw [qx.2.1, qy.2.1, qw.2.1, g.2.1]; rfl, by omega⟩
  | env, .app f xs o, h => by
    simp only [mok] at h
    have g := og_show h.2.2
    have qf := tm_show _ f h.1
    have qx := tms_show _ xs h.2.1
    have e1 : (reprText "app").length = 5 := by decide +kernel
    have z2 := listText_len_le (PyData.shownAll (tmDs xs))
    have z := tupleText_len_le [reprText "app", PyData.shown (tmD f), listText (PyData.shownAll (tmDs xs)), PyData.shown (ogD o)]
    simp only [tmD, PyData.showable, PyData.showableAll, PyData.hasDict, PyData.hasDictAll, PyData.shown, PyData.shownAll, msz]
    simp only [List.map_cons, List.map_nil, List.sum_cons, List.sum_nil, List.length_cons, List.length_nil] at z
    refine ⟨by rw [qf.1, qx.1, g.1]; rfl, by rw [qf.2.1, qx.2.1, g.2.1]; rfl, by omega⟩
  | env, .pair x y o, h => by simp only [mok] at h
theorem tms_show : ∀ (env : List Int) (ts : List Tm), moks env ts → PyData.showableAll (tmDs ts) = true ∧ PyData.hasDictAll (tmDs ts) = false ∧ ((PyData.shownAll (tmDs ts)).map (·.length)).sum + 2 * (PyData.shownAll (tmDs ts)).length ≤ 400 * mszs ts
  | _, [], _ => ⟨rfl, rfl, Nat.le_refl _⟩
  | env, t :: ts, h => by
    simp only [moks] at h
    have p := tm_show env t h.1
    have q := tms_show env ts h.2
    simp only [tmDs, PyData.showableAll, PyData.hasDictAll, PyData.shownAll, mszs, List.map_cons, List.sum_cons, List.length_cons]
    refine ⟨by rw [p.1, q.1]; rfl, by rw [p.2.1, q.2.1]; rfl, ?_⟩
    omega
end
end Sg

namespace Sg
open PySem PySem.Spec PyProof.Rows L2
/-! ### terms as data, pairs too; how long they are shown -/
mutual
theorem tm_canW : ∀ (t : Tm), wok t → PyData.canLay0 (tmD t) = true
  | .int n o, _ => by
    simp only [tmD, PyData.canLay0, PyData.canLayAll0, og_can, Bool.and_true]
    decide +kernel
  | .prim s o, h => by
    simp only [wok] at h
    simp only [tmD, PyData.canLay0, PyData.canLayAll0, og_can, strOk_of h.2.1, Bool.and_true]
    decide +kernel
  | .ref i o, _ => by
    simp only [tmD, PyData.canLay0, PyData.canLayAll0, og_can, Bool.and_true]
    decide +kernel
  | .fn ids b o, h => by
    simp only [wok] at h
    simp only [tmD, PyData.canLay0, PyData.canLayAll0, og_can, ints_can, tm_canW b h.2.2.1, Bool.and_true]
    decide +kernel
  | .rc i ids b o, h => by
    simp only [wok] at h
    simp only [tmD, PyData.canLay0, PyData.canLayAll0, og_can, ints_can, tm_canW b h.2.2.2.1, Bool.and_true]
    decide +kernel
  | .lt i x b o, h => by
    simp only [wok] at h
    simp only [tmD, PyData.canLay0, PyData.canLayAll0, og_can, tm_canW x h.2.1, tm_canW b h.2.2.1, Bool.and_true]
    decide +kernel
  | .ite x y z o, h => by
    simp only [wok] at h
    simp only [tmD, PyData.canLay0, PyData.canLayAll0, og_can, tm_canW x h.1, tm_canW y h.2.1, tm_canW z h.2.2.1, Bool.and_true]
    decide +kernel
  | .app f xs o, h => by
    simp only [wok] at h
    simp only [tmD, PyData.canLay0, PyData.canLayAll0, og_can, tm_canW f h.1, tms_canW xs h.2.1, Bool.and_true]
    decide +kernel
  | .pair x y o, h => by
    simp only [wok] at h
    simp only [tmD, PyData.canLay0, PyData.canLayAll0, og_can, tm_canW x h.1, tm_canW y h.2.1, Bool.and_true]
    decide +kernel
theorem tms_canW : ∀ (ts : List Tm), woks ts → PyData.canLayAll0 (tmDs ts) = true
  | [], _ => rfl
  | t :: ts, h => by
    simp only [woks] at h
    simp only [tmDs, PyData.canLayAll0, tm_canW t h.1, tms_canW ts h.2]
    rfl
end
mutual
theorem tm_showW : ∀ (t : Tm), wok t → PyData.showable (tmD t) = true ∧ PyData.hasDict (tmD t) = false ∧ (PyData.shown (tmD t)).length + 2 ≤ 400 * msz t
  | .int n o, h => by
    simp only [wok] at h
    have g := og_show h.2
    have l := num_len h.1
    have e1 : (reprText "int").length = 5 := by decide +kernel
    have z := tupleText_len_le [reprText "int", (toString n : Str), PyData.shown (ogD o)]
    simp only [tmD, PyData.showable, PyData.showableAll, PyData.hasDict, PyData.hasDictAll, PyData.shown, PyData.shownAll, msz]
    simp only [List.map_cons, List.map_nil, List.sum_cons, List.sum_nil, List.length_cons, List.length_nil] at z
    refine ⟨by rw [decide_eq_true (num_log h.1), g.1]; rfl, by rw [g.2.1]; rfl, by omega⟩
  | .prim s o, h => by
    simp only [wok] at h
    have g := og_show h.2.2
    have l := StrLaws.reprText_len s (fun c hc => Nat.lt_trans (h.2.1 c hc) (by decide))
    have e1 : (reprText "prim").length = 6 := by decide +kernel
    have z := tupleText_len_le [reprText "prim", reprText s, PyData.shown (ogD o)]
    simp only [tmD, PyData.showable, PyData.showableAll, PyData.hasDict, PyData.hasDictAll, PyData.shown, PyData.shownAll, msz]
    simp only [List.map_cons, List.map_nil, List.sum_cons, List.sum_nil, List.length_cons, List.length_nil] at z
    refine ⟨by rw [g.1]; rfl, by rw [g.2.1]; rfl, by omega⟩
  | .ref i o, h => by
    simp only [wok] at h
    have g := og_show h.2
    have l := num_len (n := i) (by omega)
    have e1 : (reprText "ref").length = 5 := by decide +kernel
    have z := tupleText_len_le [reprText "ref", (toString i : Str), PyData.shown (ogD o)]
    simp only [tmD, PyData.showable, PyData.showableAll, PyData.hasDict, PyData.hasDictAll, PyData.shown, PyData.shownAll, msz]
    simp only [List.map_cons, List.map_nil, List.sum_cons, List.sum_nil, List.length_cons, List.length_nil] at z
    refine ⟨by rw [decide_eq_true (num_log (n := i) (by omega)), g.1]; rfl, by rw [g.2.1]; rfl, by omega⟩
  | .fn ids b o, h => by
    simp only [wok] at h
    have g := og_show h.2.2.2
    have l := ids_show h.2.1 h.1
    have qb := tm_showW b h.2.2.1
    have e1 : (reprText "fn").length = 4 := by decide +kernel
    have z := tupleText_len_le [reprText "fn", listText (PyData.shownAll (ids.map PyData.int)), PyData.shown (tmD b), PyData.shown (ogD o)]
    simp only [tmD, PyData.showable, PyData.showableAll, PyData.hasDict, PyData.hasDictAll, PyData.shown, PyData.shownAll, msz]
    simp only [List.map_cons, List.map_nil, List.sum_cons, List.sum_nil, List.length_cons, List.length_nil] at z
    refine ⟨by rw [l.1, qb.1, g.1]; rfl, by rw [l.2.1, qb.2.1, g.2.1]; rfl, by omega⟩
  | .rc i ids b o, h => by
    simp only [wok] at h
    have g := og_show h.2.2.2.2
    have l := ids_show h.2.2.1 h.1
    have l2 := num_len (n := i) (by omega)
    have qb := tm_showW b h.2.2.2.1
    have e1 : (reprText "rec").length = 5 := by decide +kernel
    have z := tupleText_len_le [reprText "rec", (toString i : Str), listText (PyData.shownAll (ids.map PyData.int)), PyData.shown (tmD b), PyData.shown (ogD o)]
    simp only [tmD, PyData.showable, PyData.showableAll, PyData.hasDict, PyData.hasDictAll, PyData.shown, PyData.shownAll, msz]
    simp only [List.map_cons, List.map_nil, List.sum_cons, List.sum_nil, List.length_cons, List.length_nil] at z
    refine ⟨by rw [decide_eq_true (num_log (n := i) (by omega)), l.1, qb.1, g.1]; rfl, by rw [l.2.1, qb.2.1, g.2.1]; rfl, by omega⟩
  | .lt i x b o, h => by
    simp only [wok] at h
    have g := og_show h.2.2.2
    have l2 := num_len (n := i) (by omega)
    have qx := tm_showW x h.2.1
    have qb := tm_showW b h.2.2.1
    have e1 : (reprText "let").length = 5 := by decide +kernel
    have z := tupleText_len_le [reprText "let", (toString i : Str), PyData.shown (tmD x), PyData.shown (tmD b), PyData.shown (ogD o)]
    simp only [tmD, PyData.showable, PyData.showableAll, PyData.hasDict, PyData.hasDictAll, PyData.shown, PyData.shownAll, msz]
    simp only [List.map_cons, List.map_nil, List.sum_cons, List.sum_nil, List.length_cons, List.length_nil] at z
    refine ⟨by rw [decide_eq_true (num_log (n := i) (by omega)), qx.1, qb.1, g.1]; rfl, by rw [qx.2.1, qb.2.1, g.2.1]; rfl, by omega⟩
  | .ite x y w o, h => by
    simp only [wok] at h
    have g := og_show h.2.2.2
    have qx := tm_showW x h.1
    have qy := tm_showW y h.2.1
    have qw := tm_showW w h.2.2.1
    have e1 : (reprText "if").length = 4 := by decide +kernel
    have z := tupleText_len_le [reprText "if", PyData.shown (tmD x), PyData.shown (tmD y), PyData.shown (tmD w), PyData.shown (ogD o)]
    simp only [tmD, PyData.showable, PyData.showableAll, PyData.hasDict, PyData.hasDictAll, PyData.shown, PyData.shownAll, msz]
    simp only [List.map_cons, List.map_nil, List.sum_cons, List.sum_nil, List.length_cons, List.length_nil] at z
    refine ⟨by rw [qx.1, qy.1, qw.1, g.1]; rfl, by rw [qx.2.1, qy.2.1, qw.2.1, g.2.1]; rfl, by omega⟩
  | .app f xs o, h => by
    simp only [wok] at h
    have g := og_show h.2.2
    have qf := tm_showW f h.1
    have qx := tms_showW xs h.2.1
    have e1 : (reprText "app").length = 5 := by decide +kernel
    have z2 := listText_len_le (PyData.shownAll (tmDs xs))
    have z := tupleText_len_le [reprText "app", PyData.shown (tmD f), listText (PyData.shownAll (tmDs xs)), PyData.shown (ogD o)]
    simp only [tmD, PyData.showable, PyData.showableAll, PyData.hasDict, PyData.hasDictAll, PyData.shown, PyData.shownAll, msz]
    simp only [List.map_cons, List.map_nil, List.sum_cons, List.sum_nil, List.length_cons, List.length_nil] at z
    refine ⟨by rw [qf.1, qx.1, g.1]; rfl, by rw [qf.2.1, qx.2.1, g.2.1]; rfl, by omega⟩
  | .pair x y o, h => by
    simp only [wok] at h
    have g := og_show h.2.2
    have qx := tm_showW x h.1
    have qy := tm_showW y h.2.1
    have e1 : (reprText "pair").length = 6 := by decide +kernel
    have z := tupleText_len_le [reprText "pair", PyData.shown (tmD x), PyData.shown (tmD y), PyData.shown (ogD o)]
    simp only [tmD, PyData.showable, PyData.showableAll, PyData.hasDict, PyData.hasDictAll, PyData.shown, PyData.shownAll, msz]
    simp only [List.map_cons, List.map_nil, List.sum_cons, List.sum_nil, List.length_cons, List.length_nil] at z
    refine ⟨by rw [qx.1, qy.1, g.1]; rfl, by rw [qx.2.1, qy.2.1, g.2.1]; rfl, by omega⟩
theorem tms_showW : ∀ (ts : List Tm), woks ts → PyData.showableAll (tmDs ts) = true ∧ PyData.hasDictAll (tmDs ts) = false ∧ ((PyData.shownAll (tmDs ts)).map (·.length)).sum + 2 * (PyData.shownAll (tmDs ts)).length ≤ 400 * mszs ts
  | [], _ => ⟨rfl, rfl, Nat.le_refl _⟩
  | t :: ts, h => by
    simp only [woks] at h
    have p := tm_showW t h.1
    have q := tms_showW ts h.2
    simp only [tmDs, PyData.showableAll, PyData.hasDictAll, PyData.shownAll, mszs, List.map_cons, List.sum_cons, List.length_cons]
    refine ⟨by rw [p.1, q.1]; rfl, by rw [p.2.1, q.2.1]; rfl, ?_⟩
    omega
end

theorem rm_wok {m : Int → Option Tm} (hm : ∀ i t, m i = some t → wok t) (ids : List Int) : ∀ i t, rmM m ids i = some t → wok t := fun i t h => by
  unfold rmM at h
  by_cases z : i ∈ ids
  · rw [if_pos z] at h
    cases h
  · rw [if_neg z] at h
    exact hm i t h
mutual
theorem sub_wok (m : Int → Option Tm) (hm : ∀ i t, m i = some t → wok t) : ∀ t : Tm, wok t → wok (sub m t)
  | .int n o, h => by simp only [sub]; exact h
  | .prim s o, h => by simp only [sub]; exact h
  | .ref i o, h => by
    simp only [sub]
    cases e : m i with
    | none => exact h
    | some t => exact hm i t e
  | .fn ids b o, h => by
    simp only [sub, wok] at h ⊢
    exact ⟨h.1, h.2.1, sub_wok _ (rm_wok hm ids) b h.2.2.1, h.2.2.2⟩
  | .rc i ids b o, h => by
    simp only [sub, wok] at h ⊢
    exact ⟨h.1, h.2.1, h.2.2.1, sub_wok _ (rm_wok hm (i :: ids)) b h.2.2.2.1, h.2.2.2.2⟩
  | .lt i x b o, h => by
    simp only [sub, wok] at h ⊢
    exact ⟨h.1, sub_wok m hm x h.2.1, sub_wok _ (rm_wok hm [i]) b h.2.2.1, h.2.2.2⟩
  | .ite x y z o, h => by
    simp only [sub, wok] at h ⊢
    exact ⟨sub_wok m hm x h.1, sub_wok m hm y h.2.1, sub_wok m hm z h.2.2.1, h.2.2.2⟩
  | .app f xs o, h => by
    simp only [sub, wok] at h ⊢
    exact ⟨sub_wok m hm f h.1, subs_wok m hm xs h.2.1, h.2.2⟩
  | .pair x y o, h => by
    simp only [sub, wok] at h ⊢
    exact ⟨sub_wok m hm x h.1, sub_wok m hm y h.2.1, h.2.2⟩
theorem subs_wok (m : Int → Option Tm) (hm : ∀ i t, m i = some t → wok t) : ∀ ts : List Tm, woks ts → woks (subs m ts)
  | [], h => by simp only [subs]; exact h
  | t :: ts, h => by
    simp only [subs, woks] at h ⊢
    exact ⟨sub_wok m hm t h.1, subs_wok m hm ts h.2⟩
end
theorem rm_all {Z : Tm → Prop} {m : Int → Option Tm} (hm : ∀ i t, m i = some t → Z t) (ids : List Int) : ∀ i t, rmM m ids i = some t → Z t := fun i t h => by
  unfold rmM at h
  by_cases z : i ∈ ids
  · rw [if_pos z] at h
    cases h
  · rw [if_neg z] at h
    exact hm i t h
mutual
theorem sub_msz (m : Int → Option Tm) {c : Nat} (hc : 1 ≤ c) (hm : ∀ i t, m i = some t → msz t ≤ c) : ∀ t : Tm, msz (sub m t) ≤ c * msz t
  | .int n o => by simp only [sub, msz]; omega
  | .prim s o => by simp only [sub, msz]; omega
  | .ref i o => by
    simp only [sub]
    cases e : m i with
    | none =>
      show msz (.ref i o) ≤ _
      simp only [msz]
      omega
    | some t =>
      have := hm i t e
      show msz t ≤ _
      simp only [msz]
      omega
  | .fn ids b o => by
    have := sub_msz _ hc (rm_all hm ids) b
    simp only [sub, msz, Nat.mul_add, Nat.mul_one]
    omega
  | .rc i ids b o => by
    have := sub_msz _ hc (rm_all hm (i :: ids)) b
    simp only [sub, msz, Nat.mul_add, Nat.mul_one]
    omega
  | .lt i x b o => by
    have h1 := sub_msz m hc hm x
    have h2 := sub_msz _ hc (rm_all hm [i]) b
    simp only [sub, msz, Nat.mul_add, Nat.mul_one]
    omega
  | .ite x y z o => by
    have h1 := sub_msz m hc hm x
    have h2 := sub_msz m hc hm y
    have h3 := sub_msz m hc hm z
    simp only [sub, msz, Nat.mul_add, Nat.mul_one]
    omega
  | .app f xs o => by
    have h1 := sub_msz m hc hm f
    have h2 := subs_msz m hc hm xs
    simp only [sub, msz, Nat.mul_add, Nat.mul_one]
    omega
  | .pair x y o => by
    have h1 := sub_msz m hc hm x
    have h2 := sub_msz m hc hm y
    simp only [sub, msz, Nat.mul_add, Nat.mul_one]
    omega
theorem subs_msz (m : Int → Option Tm) {c : Nat} (hc : 1 ≤ c) (hm : ∀ i t, m i = some t → msz t ≤ c) : ∀ ts : List Tm, mszs (subs m ts) ≤ c * mszs ts
  | [] => by simp only [subs, mszs]; omega
  | t :: ts => by
    have h1 := sub_msz m hc hm t
    have h2 := subs_msz m hc hm ts
    simp only [subs, mszs, Nat.mul_add]
    omega
end
mutual
theorem sub_mht (m : Int → Option Tm) {c : Nat} (hm : ∀ i t, m i = some t → mht t ≤ c) : ∀ t : Tm, mht (sub m t) ≤ mht t + c
  | .int n o => by simp only [sub, mht]; omega
  | .prim s o => by simp only [sub, mht]; omega
  | .ref i o => by
    simp only [sub]
    cases e : m i with
    | none =>
      show mht (.ref i o) ≤ _
      simp only [mht]
      omega
    | some t =>
      have := hm i t e
      show mht t ≤ _
      simp only [mht]
      omega
  | .fn ids b o => by
    have := sub_mht _ (rm_all hm ids) b
    simp only [sub, mht]
    omega
  | .rc i ids b o => by
    have := sub_mht _ (rm_all hm (i :: ids)) b
    simp only [sub, mht]
    omega
  | .lt i x b o => by
    have h1 := sub_mht m hm x
    have h2 := sub_mht _ (rm_all hm [i]) b
    simp only [sub, mht]
    omega
  | .ite x y z o => by
    have h1 := sub_mht m hm x
    have h2 := sub_mht m hm y
    have h3 := sub_mht m hm z
    simp only [sub, mht]
    omega
  | .app f xs o => by
    have h1 := sub_mht m hm f
    have h2 := subs_mht m hm xs
    simp only [sub, mht]
    omega
  | .pair x y o => by
    have h1 := sub_mht m hm x
    have h2 := sub_mht m hm y
    simp only [sub, mht]
    omega
theorem subs_mht (m : Int → Option Tm) {c : Nat} (hm : ∀ i t, m i = some t → mht t ≤ c) : ∀ ts : List Tm, mhts (subs m ts) ≤ mhts ts + c
  | [] => by simp only [subs, mhts]; omega
  | t :: ts => by
    have h1 := sub_mht m hm t
    have h2 := subs_mht m hm ts
    simp only [subs, mhts]
    omega
end
end Sg

namespace Sg
open PySem PySem.Spec PyProof.Rows L2 Evl
open C8 (Cal pe_c)
/-! ### put, the law -/
def spCput : Sp := fun vs H Q _ => ∃ (F : Hp) (t : Tm) (v : V) (d : Addr) (kvs : List (Key × V)) (m : Int → Option Tm) (c : Int → Option V), vs = [v, .ref d] ∧ Same F H ∧ TmAt F t v ∧ F d = some (.dK kvs) ∧ DG kvs c ∧ TC F m c ∧ kvs.length ≤ 3000 ∧ wok t ∧ msz t ≤ 8000 ∧ wok (sub m t) ∧ msz (sub m t) ≤ 8000 ∧
  ∀ H' u, Same H H' → TmAt H' (sub m t) u → Q u H'
theorem scCput : FnScope ["term", "values"] ["term", "values"] (defScope cPut) := ⟨rfl, rfl, rfl, by decide +kernel, rfl, by decide +kernel, by decide +kernel⟩
def tw1 : Tm := .int 9 ⟨0, [1], -1⟩
def tw2 : Tm := .fn [3] (.ref 3 ⟨2, [], -1⟩) ⟨-1, [], 5⟩
def Two (t : Tm) : Prop := t = tw1 ∨ t = tw2
theorem tw1_ok : wok tw1 := by
  unfold tw1
  simp only [wok, OgOk]
  decide
theorem tw2_ok : wok tw2 := by
  unfold tw2
  simp only [wok, OgOk]
  decide
/-- keys are numbers, values one of the two -/
def KG (F : Hp) (kvs : List (Key × V)) : Prop := ∀ q ∈ kvs, ∃ (i : Int) (v : V) (s : Tm), q = ((Sum.inl i : Key), v) ∧ Two s ∧ TmAt F s v ∧ i.natAbs ≤ 1000
theorem KG.same {F F' : Hp} {kvs : List (Key × V)} (h : KG F kvs) (e : Same F F') : KG F' kvs := fun q hq => by
  obtain ⟨i, v, s, a, b, c, g⟩ := h q hq
  exact ⟨i, v, s, a, b, TmAt.same e _ _ c, g⟩
theorem KG.put {F : Hp} {kvs : List (Key × V)} {x : Int} {w : V} {s : Tm} (h : KG F kvs) (hs : Two s) (ha : TmAt F s w) (hx : x.natAbs ≤ 1000) : KG F (putK kvs (Sum.inl x : Key) w) := fun q hq => by
  unfold putK at hq
  split at hq
  · obtain ⟨r, hr, er⟩ := List.mem_map.mp hq
    obtain ⟨i, v, s', rfl, b, c, g⟩ := h r hr
    by_cases z : (Sum.inl i : Key) = Sum.inl x
    · rw [if_pos z] at er
      exact ⟨i, w, s, er.symm, hs, ha, g⟩
    · rw [if_neg z] at er
      exact ⟨i, v, s', er.symm, b, c, g⟩
  · rcases List.mem_append.mp hq with z | z
    · exact h q z
    · exact ⟨x, w, s, List.mem_singleton.mp z, hs, ha, hx⟩
theorem KG.keys {F : Hp} : ∀ {kvs : List (Key × V)}, KG F kvs → ∃ ks : List Int, kvs.map (·.1) = ks.map Sum.inl ∧ ks.length = kvs.length ∧ ∀ k ∈ ks, k.natAbs ≤ 1000
  | [], _ => ⟨[], rfl, rfl, fun k hk => by cases hk⟩
  | q :: r, h => by
    obtain ⟨i, v, s, rfl, _, _, g⟩ := h q List.mem_cons_self
    obtain ⟨ks, h1, h2, h3⟩ := KG.keys (kvs := r) fun z hz => h z (List.mem_cons_of_mem _ hz)
    exact ⟨i :: ks, by rw [List.map_cons, List.map_cons, h1], by rw [List.length_cons, List.length_cons, h2], fun k hk => by
      rcases List.mem_cons.mp hk with z | z
      · rw [z]
        exact g
      · exact h3 k z⟩
/-- data of the values -/
def TwoD (ds : List PyData) : Prop := ∀ d ∈ ds, d = tmD tw1 ∨ d = tmD tw2
theorem KG.data {K : PySem.W.Frag} {F : Hp} : ∀ {kvs : List (Key × V)}, KG F kvs → ∃ ds : List PyData, DpAll K F (kvs.map (·.2)) ds ∧ TwoD ds ∧ ds.length = kvs.length
  | [], _ => ⟨[], .nil, (fun d hd => by cases hd), rfl⟩
  | q :: r, h => by
    obtain ⟨i, v, s, rfl, b, c, _⟩ := h q List.mem_cons_self
    obtain ⟨ds, h1, h2, h3⟩ := KG.data (K := K) (kvs := r) fun z hz => h z (List.mem_cons_of_mem _ hz)
    refine ⟨tmD s :: ds, .cons (dp_tm s v c) h1, fun d hd => ?_, by rw [List.length_cons, List.length_cons, h3]⟩
    rcases List.mem_cons.mp hd with z | z
    · rw [z]
      exact b.imp (congrArg tmD) (congrArg tmD)
    · exact h2 d z
theorem perm_sorted : ∀ {xs ys : List Int}, xs.Perm ys → xs.Pairwise (· ≤ ·) → ys.Pairwise (· ≤ ·) → xs = ys := fun {xs ys} h h1 h2 => h.eq_of_pairwise (fun a b _ _ x y => Int.le_antisymm x y) h1 h2
/-- F and the dict -/
def fr8 (F H : Hp) (d : Addr) : Hp := fun a => if a = d then H d else F a
theorem fr8_vd {F H : Hp} {d : Addr} {o : HO} (e : H d = some o) : fr8 F H d d = some o := by
  unfold fr8
  rw [if_pos rfl]
  exact e
theorem fr8_sub {F H : Hp} {d : Addr} {o : HO} (s : Same F H) (e : H d = some o) : Same (fr8 F H d) H := fun b o q => by
  unfold fr8 at q
  by_cases z : b = d
  · rw [if_pos z] at q
    rw [z]
    exact q
  · rw [if_neg z] at q
    exact s b o q
theorem fr8_base {F H : Hp} {d : Addr} {o : HO} (s : Same F H) (e : H d = some o) : Same F (fr8 F H d) := fun b o q => by
  unfold fr8
  by_cases z : b = d
  · rw [if_pos z]
    have := s b o q
    rw [z] at this
    exact this
  · rw [if_neg z]
    exact q
theorem two_show : ∀ {ds : List PyData}, TwoD ds → PyData.showableAll ds = true ∧ PyData.hasDictAll ds = false ∧ ((PyData.shownAll ds).map (·.length)).sum ≤ 800 * ds.length ∧ PyData.depthAll ds ≤ 5
  | [], _ => ⟨rfl, rfl, Nat.le_refl _, by decide⟩
  | d :: ds, h => by
    obtain ⟨h1, h2, h3, h4⟩ := two_show (ds := ds) fun x hx => h x (List.mem_cons_of_mem _ hx)
    have hd : PyData.showable d = true ∧ PyData.hasDict d = false ∧ (PyData.shown d).length ≤ 800 ∧ PyData.depth d ≤ 5 := by
      rcases h d List.mem_cons_self with e | e <;> rw [e]
      · have := tm_showW tw1 tw1_ok
        have z := tm_depth tw1
        exact ⟨this.1, this.2.1, by have := this.2.2; have e2 : msz tw1 = 1 := rfl; omega, by have e3 : mht tw1 = 0 := rfl; omega⟩
      · have := tm_showW tw2 tw2_ok
        have z := tm_depth tw2
        exact ⟨this.1, this.2.1, by have := this.2.2; have e2 : msz tw2 = 2 := rfl; omega, by have e3 : mht tw2 = 1 := rfl; omega⟩
    simp only [PyData.showableAll, PyData.hasDictAll, PyData.shownAll, PyData.depthAll, List.map_cons, List.sum_cons, List.length_cons]
    refine ⟨by rw [hd.1, h1]; rfl, by rw [hd.2.1, h2]; rfl, by omega, by omega⟩
theorem kvs_show {F : Hp} : ∀ {kvs : List (Key × V)} {ds : List PyData}, KG F kvs → TwoD ds → ds.length = kvs.length → PyData.showableKv ((kvs.map fun kv => keyD kv.1).zip ds) = true ∧ ((PyData.shownKv ((kvs.map fun kv => keyD kv.1).zip ds)).map (·.length)).sum ≤ 820 * kvs.length ∧ (PyData.shownKv ((kvs.map fun kv => keyD kv.1).zip ds)).length ≤ kvs.length ∧ PyData.depthKv ((kvs.map fun kv => keyD kv.1).zip ds) ≤ 5
  | [], ds, _, _, hl => by
    have e : ds = [] := List.length_eq_zero_iff.mp hl
    rw [e]
    exact ⟨rfl, Nat.le_refl _, Nat.le_refl _, by decide⟩
  | q :: r, [], _, _, hl => by simp at hl
  | q :: r, d :: ds, kg, td, hl => by
    obtain ⟨h1, h2, h3, h4⟩ := kvs_show (F := F) (kvs := r) (ds := ds) (fun z hz => kg z (List.mem_cons_of_mem _ hz)) (fun z hz => td z (List.mem_cons_of_mem _ hz)) (by simpa using hl)
    have hd := two_show (ds := [d]) (fun z hz => td z (by rw [List.mem_singleton.mp hz]; exact List.mem_cons_self))
    simp only [PyData.showableAll, PyData.shownAll, PyData.depthAll, Bool.and_true, List.map_cons, List.map_nil, List.sum_cons, List.sum_nil, List.length_cons, List.length_nil] at hd
    obtain ⟨i, v, s, rfl, _, _, g⟩ := kg q List.mem_cons_self
    have l := num_len (n := i) (by omega)
    have e1 : (": " : Str).length = 2 := by decide +kernel
    have e2 : ((Str.ofString (toString i)) ++ ": " ++ PyData.shown d).length = (Str.ofString (toString i)).length + 2 + (PyData.shown d).length := by
      rw [strLen_append, strLen_append, e1]
    have e3 : PyData.shown (PyData.int i) = Str.ofString (toString i) := by simp only [PyData.shown]
    rw [List.map_cons, List.zip_cons_cons, List.length_cons]
    have ek : keyD (((Sum.inl i : Key), v)).1 = PyData.int i := rfl
    rw [ek]
    generalize (r.map fun kv => keyD kv.1).zip ds = Z at h1 h2 h3 h4 ⊢
    simp only [PyData.showableKv, PyData.showable, PyData.shownKv, PyData.depthKv, PyData.depth, List.map_cons, List.sum_cons, List.length_cons]
    refine ⟨by rw [decide_eq_true (num_log (n := i) (by omega)), hd.1, h1]; rfl, ?_, by omega, by omega⟩
    show ((Str.ofString (toString i)) ++ ": " ++ PyData.shown d).length + _ ≤ _
    rw [e2]
    omega
theorem shown3 {F : Hp} {t : Tm} {ys : List Int} {ds : List PyData} {kvs : List (Key × V)} (wt : wok t) (ht : mht t ≤ 8) (zt : msz t ≤ 161) (hy : ys.length ≤ 3) (hyb : ∀ y ∈ ys, y.natAbs ≤ 1000) (hd : TwoD ds ∧ ds.length = kvs.length) (hk : kvs.length ≤ 3) (kg : KG F kvs) :
    (PyData.list (ys.map PyData.int)).hasDict = false ∧ (PyData.list [tmD t, .list (ys.map PyData.int), dctD kvs ds]).showable = true ∧ (PyData.list [tmD t, .list (ys.map PyData.int), dctD kvs ds]).depth ≤ 64 ∧ (PyData.list [tmD t, .list (ys.map PyData.int), dctD kvs ds]).shown.length ≤ sizeLine := by
  have g1 := tm_showW t wt
  have g2 := ints_show ys (fun r hr => by have := hyb r hr; omega)
  have g3 := kvs_show kg hd.1 hd.2
  have g4 := tm_depth t
  have g5 := ints_depth ys
  have z1 := listText_len_le (PyData.shownAll (ys.map PyData.int))
  have z2 := dictText_len_le (PyData.shownKv ((kvs.map fun kv => keyD kv.1).zip ds))
  have z3 := listText_len_le [PyData.shown (tmD t), listText (PyData.shownAll (ys.map PyData.int)), dictText (PyData.shownKv ((kvs.map fun kv => keyD kv.1).zip ds))]
  simp only [List.map_cons, List.map_nil, List.sum_cons, List.sum_nil, List.length_cons, List.length_nil] at z3
  simp only [dctD, PyData.hasDict, PyData.showable, PyData.showableAll, PyData.depth, PyData.depthAll, PyData.shown, PyData.shownAll]
  refine ⟨g2.2.1, by rw [g1.1, g2.1, g3.1]; rfl, by omega, small (by omega)⟩
section
variable {P : Program} {w : World} {K : PySem.W.Frag} {mg : Str → Option Value} {base : Heap}
theorem ok_cput {f : Addr} {fd : FuncData} {k : Nat} (F : Fun K "put" "put" cPut f fd) (CF : Cal P w K mg base k "fresh" spFresh []) (CP : Cal P w K mg base k "placed" spPlaced []) : FnOk P w K mg base CX0 (k + 1) f fd ["term", "values"] spCput := by
  refine F.ok scCput (fun vs H Q E h => ?_) (fun cdv A outer st H vs Q E hr h => ?_)
  · obtain ⟨F, t, v, d, kvs, m, c, rfl, _⟩ := h
    rfl
  obtain ⟨Fh, t, v, d, kvs, m, c, rfl, sF, ta, ed, dg, tc, hkv, hw, hz, hw2, hz2, q⟩ := h
  refine ⟨_, (pss_one (ps_ret (pe_c CF hr (Nat.le_refl _) (by rfl) (pa_cons (pe_c CP hr (Nat.le_refl _) (by rfl) (pa_cons (pv 0) (pa_cons (pv 1) pa_nil))) pa_nil)))), ?_⟩
  exact ⟨_, rfl, _, rfl, Fh, t, v, d, kvs, m, c, rfl, sF, ta, ed, dg, tc, hkv, hw, hz, fun H1 u1 s1 t1 => ⟨H1, _, u1, rfl, Same.refl _, t1, hw2, hz2, fun H2 u2 s2 t2 => q H2 u2 (s1.trans s2) t2⟩⟩
def spLaw (K : PySem.W.Frag) : Sp := fun vs H Q _ => ∃ (a : Addr) (ns : List Int), vs = [.ref a] ∧ SqL K H a (ns.map V.int) ∧ ns.length ≤ 63 ∧ ∀ H', Q (.bl true) H'
theorem scLaw : FnScope ["script", "state", "outer", "term", "values", "number", "before", "told"] ["script"] (defScope sLaw) := ⟨rfl, rfl, rfl, by decide +kernel, rfl, by decide +kernel, by decide +kernel⟩
theorem ok_law {f : Addr} {fd : FuncData} {k : Nat} (F : Fun K "law" "law" sLaw f fd) (CS : Cal P w K mg base k "_law_state" (spState K) []) (CD : Cal P w K mg base k "_law_draw" spDraw []) (CK : Cal P w K mg base k "_law_pick" spPick [])
    (CT : Cal P w K mg base k "_law_term" (spTerm 5) []) (CC : Cal P w K mg base k "put" spCput []) (CPu : Cal P w K mg base k "_law_put" (spPut 20) []) (m_repr : mg "repr" = none) (m_sorted : mg "sorted" = none) : FnG P w K mg base CX0 (k + 1) f fd ["script"] (spLaw K) := by
  refine fnG_of F scLaw (fun vs H Q E h => ?_) (fun cdv A outer st H vs Q E gA hr h => ?_)
  · obtain ⟨a, ns, rfl, _⟩ := h
    rfl
  obtain ⟨a, ns, rfl, hS, hlen, q⟩ := h
  have hu1 : (A.deeper (envOfC "law" (defScope sLaw) st.heap.objs.size f cdv)).units + 100 < cLine := by
    have := hr.un
    omega
  have hu2 := hr.units
  have hu : (A.deeper (envOfC "law" (defScope sLaw) st.heap.objs.size f cdv)).units + 1 < cLine := by
    have := hr.un
    omega
  refine ⟨_, (pss_cons (ps_set (i := 1) scLaw.nd rfl (.inl rfl) (pe_c CS hr (Nat.le_refl _) (by rfl) (pa_cons (pv 0) pa_nil)))
    (pss_cons (ps_set (i := 2) scLaw.nd rfl (.inl rfl) (pe_c CK hr (Nat.le_refl _) (by rfl) (pa_cons (pv 1) (pa_cons (pe_lst (pa_cons (pe_lst (pa_cons pe_int pa_nil)) (pa_cons (pe_lst (pa_cons pe_int (pa_cons pe_int pa_nil))) (pa_cons (pe_lst (pa_cons pe_int (pa_cons pe_int (pa_cons pe_int pa_nil)))) (pa_cons (pe_lst (pa_cons pe_int (pa_cons pe_int (pa_cons pe_int pa_nil)))) pa_nil))))) pa_nil))))
    (pss_cons (ps_set (i := 3) scLaw.nd rfl (.inl rfl) (pe_c CT hr (Nat.le_refl _) (by rfl) (pa_cons (pv 1) (pa_cons (pv 2) (pa_cons pe_int pa_nil)))))
    (pss_cons (ps_set (i := 4) scLaw.nd rfl (.inl rfl) pe_dnewK)
    (pss_cons (ps_for PassesOwn.never rfl (pi_list (pv 2)) (pg_name (i := 5) scLaw.nd rfl (.inl rfl)) (pss_one (ps_if (pt_cmpR op_gt (pe_c CD hr (Nat.le_refl _) (by rfl) (pa_cons (pv 1) (pa_cons pe_int pa_nil))) pe_int (nomark _)) (pss_one (ps_dput hu (pv 4) (pv 5) (pe_c CK hr (Nat.le_refl _) (by rfl) (pa_cons (pv 1) (pa_cons (pe_lst (pa_cons (pe_tup (pa_cons pe_str (pa_cons pe_int (pa_cons (pe_tup (pa_cons pe_int (pa_cons (pe_tup (pa_cons pe_int pa_nil)) (pa_cons (pe_un un_neg pe_int) pa_nil)))) pa_nil)))) (pa_cons (pe_tup (pa_cons pe_str (pa_cons (pe_lst (pa_cons pe_int pa_nil)) (pa_cons (pe_tup (pa_cons pe_str (pa_cons pe_int (pa_cons (pe_tup (pa_cons pe_int (pa_cons (pe_tup pa_nil) (pa_cons (pe_un un_neg pe_int) pa_nil)))) pa_nil)))) (pa_cons (pe_tup (pa_cons (pe_un un_neg pe_int) (pa_cons (pe_tup pa_nil) (pa_cons pe_int pa_nil)))) pa_nil))))) pa_nil))) pa_nil))) (by rfl))) pss_nil)))
    (pss_cons (ps_set (i := 6) scLaw.nd rfl (.inl rfl) (pe_callB (call_reprTD gA hu1) (by rfl) m_repr PyProof.Rows.boot_repr (pa_cons (pe_lst (pa_cons (pv 3) (pa_cons (pe_callB (call_sortedDI rfl) (by rfl) m_sorted PyProof.Rows.boot_sorted (pa_cons (pv 4) pa_nil)) (pa_cons (pv 4) pa_nil)))) pa_nil)))
    (pss_cons (ps_set (i := 7) scLaw.nd rfl (.inl rfl) (pe_c CC hr (Nat.le_refl _) (by rfl) (pa_cons (pv 3) (pa_cons (pv 4) pa_nil))))
    (pss_one (ps_ret (pe_and (pe_cmpR (op_eqD hu2) (pv 7) (pe_c CPu hr (Nat.le_refl _) (by rfl) (pa_cons (pv 3) (pa_cons (pv 4) pa_nil))) (nomark _)) (pe_one (pe_cmpR op_eq (pe_callB (call_reprTD gA hu1) (by rfl) m_repr PyProof.Rows.boot_repr (pa_cons (pe_lst (pa_cons (pv 3) (pa_cons (pe_callB (call_sortedDI rfl) (by rfl) m_sorted PyProof.Rows.boot_sorted (pa_cons (pv 4) pa_nil)) (pa_cons (pv 4) pa_nil)))) pa_nil)) (pv 6) (nomark _))))))))))))), ?_⟩
  refine ⟨_, rfl, a, ns, rfl, hS, hlen, fun H1 p c sm1 np nc S1 => ?_⟩
  refine ⟨_, rfl, ?_⟩
  refine ⟨by show 1 ≤ sizeLine; decide, fun l0 nl0 => ?_⟩
  have s_Ha : Same H1 (upd H1 l0 (HO.lst [.int 3])) := same_new nl0 _
  have e_l0 : (upd H1 l0 (HO.lst [.int 3])) l0 = some (HO.lst [.int 3]) := upd_same
  generalize upd H1 l0 (HO.lst [.int 3]) = Ha at s_Ha e_l0
  refine ⟨by show 2 ≤ sizeLine; decide, fun l1 nl1 => ?_⟩
  have s_Hb : Same Ha (upd Ha l1 (HO.lst [.int 4, .int 5])) := same_new nl1 _
  have e_l1 : (upd Ha l1 (HO.lst [.int 4, .int 5])) l1 = some (HO.lst [.int 4, .int 5]) := upd_same
  generalize upd Ha l1 (HO.lst [.int 4, .int 5]) = Hb at s_Hb e_l1
  refine ⟨by show 3 ≤ sizeLine; decide, fun l2 nl2 => ?_⟩
  have s_Hc : Same Hb (upd Hb l2 (HO.lst [.int 6, .int 40, .int 41])) := same_new nl2 _
  have e_l2 : (upd Hb l2 (HO.lst [.int 6, .int 40, .int 41])) l2 = some (HO.lst [.int 6, .int 40, .int 41]) := upd_same
  generalize upd Hb l2 (HO.lst [.int 6, .int 40, .int 41]) = Hc at s_Hc e_l2
  refine ⟨by show 3 ≤ sizeLine; decide, fun l3 nl3 => ?_⟩
  have s_Hd : Same Hc (upd Hc l3 (HO.lst [.int 20, .int 30, .int 35])) := same_new nl3 _
  have e_l3 : (upd Hc l3 (HO.lst [.int 20, .int 30, .int 35])) l3 = some (HO.lst [.int 20, .int 30, .int 35]) := upd_same
  generalize upd Hc l3 (HO.lst [.int 20, .int 30, .int 35]) = Hd at s_Hd e_l3
  refine ⟨by show 4 ≤ sizeLine; decide, fun lo nlo => ?_⟩
  have s_He : Same Hd (upd Hd lo (HO.lst [.ref l0, .ref l1, .ref l2, .ref l3])) := same_new nlo _
  have e_lo : (upd Hd lo (HO.lst [.ref l0, .ref l1, .ref l2, .ref l3])) lo = some (HO.lst [.ref l0, .ref l1, .ref l2, .ref l3]) := upd_same
  generalize upd Hd lo (HO.lst [.ref l0, .ref l1, .ref l2, .ref l3]) = He at s_He e_lo
  have sHe : Same H1 He := (((s_Ha.trans s_Hb).trans s_Hc).trans s_Hd).trans s_He
  have Se : St p c He := S1.same sHe
  have nlo1 := (S1.same (((s_Ha.trans s_Hb).trans s_Hc).trans s_Hd)).new nlo
  refine ⟨p, c, lo, _, rfl, e_lo, nlo1.1, nlo1.2, by simp, by show 4 ≤ 1000; decide, Se, fun H2 ve kp2 S2 hve => ?_⟩
  have outE : ∃ (e : Addr) (env : List Int), ve = .ref e ∧ H2 e = some (.lst (env.map V.int)) ∧ e ≠ p ∧ e ≠ c ∧ env.length ≤ 3 ∧ ∀ i ∈ env, i.natAbs ≤ 1000 := by
    have n0 := S1.new nl0
    have n1 := (S1.same s_Ha).new nl1
    have n2 := (S1.same (s_Ha.trans s_Hb)).new nl2
    have n3 := (S1.same ((s_Ha.trans s_Hb).trans s_Hc)).new nl3
    simp only [List.mem_cons, List.not_mem_nil, or_false] at hve
    rcases hve with z | z | z | z
    · exact ⟨l0, [3], z, kp2 _ _ n0.1 n0.2 (s_He _ _ (s_Hd _ _ (s_Hc _ _ (s_Hb _ _ e_l0)))), n0.1, n0.2, by decide, by decide⟩
    · exact ⟨l1, [4, 5], z, kp2 _ _ n1.1 n1.2 (s_He _ _ (s_Hd _ _ (s_Hc _ _ e_l1))), n1.1, n1.2, by decide, by decide⟩
    · exact ⟨l2, [6, 40, 41], z, kp2 _ _ n2.1 n2.2 (s_He _ _ (s_Hd _ _ e_l2)), n2.1, n2.2, by decide, by decide⟩
    · exact ⟨l3, [20, 30, 35], z, kp2 _ _ n3.1 n3.2 (s_He _ _ e_l3), n3.1, n3.2, by decide, by decide⟩
  obtain ⟨e, env, rfl, he, nep, nec, hel, heb⟩ := outE
  -- the term
  refine ⟨_, rfl, _, rfl, p, c, e, env, 4, rfl, by decide, by decide, he, nep, nec, by omega, heb, S2, fun H3 t vt kp3 S3 at3 wt ct ht zt => ?_⟩
  have b4 : bnd 4 = 161 := by decide
  rw [b4] at zt
  have he3 := kp3 _ _ nep nec he
  -- the values
  intro vd nvd
  have nvd' := S3.new nvd
  have s4 : Same H3 (upd H3 vd (.dK [])) := same_new nvd _
  have evd : (upd H3 vd (.dK [])) vd = some (.dK []) := upd_same
  have S4 := S3.same s4
  have he4 := s4 _ _ he3
  have nve : e ≠ vd := ne_of_none he3 nvd
  have at4 : TmAt (rmL [p, c, vd] (upd H3 vd (.dK []))) t vt := by
    refine TmAt.same (fun b o q => ?_) _ _ at3
    have w := nw_of q
    refine rm_in (fun z => ?_) (s4 _ _ w.2)
    rcases List.mem_cons.mp z with z | z
    · exact S2.some.1 (z ▸ w.1)
    · rcases List.mem_cons.mp z with z | z
      · exact S2.some.2 (z ▸ w.1)
      · rw [List.mem_singleton.mp z, nvd] at w
        cases w.2
  generalize upd H3 vd (.dK []) = H4 at s4 evd S4 he4 at4
  refine ⟨_, rfl, e, rfl, ⟨_, SqL.of he4⟩, ?_⟩
  refine for_list (K := K) (a := e) (xs := env.map V.int) (fun i σ H' => ∃ (y5 : Option V) (kvs : List (Key × V)) (cv : Int → Option V) (m : Int → Option Tm), σ = [some (.ref a), some (.ref p), some (.ref e), some vt, some (.ref vd), y5, none, none] ∧ Kb [p, c, vd] H4 H' ∧ St p c H' ∧ H' vd = some (.dK kvs) ∧ DG kvs cv ∧ TC (rmL [p, c, vd] H') m cv ∧ KG (rmL [p, c, vd] H') kvs ∧ kvs.length ≤ i ∧ ∀ j s, m j = some s → Two s)
    ⟨none, [], _, _, rfl, Kb.refl _ _, S4, evd, DG.nil, TC.nil, (fun q hq => by cases hq), Nat.le_refl _, (fun j s z => by cases z)⟩ (fun i σ H' _ ⟨_, _, _, _, _, kb, _⟩ => SqL.of (kb e _ (by simp [nep, nec, nve]) he4)) ?_ ?_
  · rintro i xv σ H' hx ⟨y5, kvs, cv, m, rfl, kb, S', evd', dg, tc, kg, hl, tw⟩
    obtain ⟨x, hx', rfl⟩ := get_map hx
    have hil : i < env.length := (List.getElem?_eq_some_iff.mp hx').1
    refine ⟨_, rfl, p, c, 4, rfl, by decide, by decide, S', fun Hd1 r kpd Sd ra rb => ?_⟩
    have evd1 := kpd vd _ nvd'.1 nvd'.2 evd'
    have sub3 : ∀ b ∈ [p, c], b ∈ [p, c, vd] := fun b hb => by
      rcases List.mem_cons.mp hb with z | z
      · simp [z]
      · simp [List.mem_singleton.mp z]
    have kb1 : Kb [p, c, vd] H4 Hd1 := kb.trans (kpd.kb.wide sub3)
    have fr1 : Same (rmL [p, c, vd] H') (rmL [p, c, vd] Hd1) := (kpd.kb).rm sub3
    refine ⟨_, _, rfl, rfl, _, rfl, ?_⟩
    by_cases hr0 : (0 : Int) < r
    · refine if_true_of (decide_eq_true hr0) ?_
      -- the two tuples
      refine ⟨_, rfl, ?_⟩
      refine ⟨by show 1 ≤ sizeLine; decide, fun u1 nu1 => ?_⟩
      have s_J1 : Same Hd1 (upd Hd1 u1 (HO.tup [.int 1])) := same_new nu1 _
      have e_u1 : (upd Hd1 u1 (HO.tup [.int 1])) u1 = some (HO.tup [.int 1]) := upd_same
      generalize upd Hd1 u1 (HO.tup [.int 1]) = J1 at s_J1 e_u1
      refine ⟨_, rfl, by show 3 ≤ sizeLine; decide, fun u2 nu2 => ?_⟩
      have s_J2 : Same J1 (upd J1 u2 (HO.tup [.int 0, .ref u1, .int (-1)])) := same_new nu2 _
      have e_u2 : (upd J1 u2 (HO.tup [.int 0, .ref u1, .int (-1)])) u2 = some (HO.tup [.int 0, .ref u1, .int (-1)]) := upd_same
      generalize upd J1 u2 (HO.tup [.int 0, .ref u1, .int (-1)]) = J2 at s_J2 e_u2
      refine ⟨by show 3 ≤ sizeLine; decide, fun u3 nu3 => ?_⟩
      have s_J3 : Same J2 (upd J2 u3 (HO.tup [.str "int", .int 9, .ref u2])) := same_new nu3 _
      have e_u3 : (upd J2 u3 (HO.tup [.str "int", .int 9, .ref u2])) u3 = some (HO.tup [.str "int", .int 9, .ref u2]) := upd_same
      generalize upd J2 u3 (HO.tup [.str "int", .int 9, .ref u2]) = J3 at s_J3 e_u3
      refine ⟨by show 1 ≤ sizeLine; decide, fun u4 nu4 => ?_⟩
      have s_J4 : Same J3 (upd J3 u4 (HO.lst [.int 3])) := same_new nu4 _
      have e_u4 : (upd J3 u4 (HO.lst [.int 3])) u4 = some (HO.lst [.int 3]) := upd_same
      generalize upd J3 u4 (HO.lst [.int 3]) = J4 at s_J4 e_u4
      refine ⟨by show 0 ≤ sizeLine; decide, fun u5 nu5 => ?_⟩
      have s_J5 : Same J4 (upd J4 u5 (HO.tup [])) := same_new nu5 _
      have e_u5 : (upd J4 u5 (HO.tup [])) u5 = some (HO.tup []) := upd_same
      generalize upd J4 u5 (HO.tup []) = J5 at s_J5 e_u5
      refine ⟨_, rfl, by show 3 ≤ sizeLine; decide, fun u6 nu6 => ?_⟩
      have s_J6 : Same J5 (upd J5 u6 (HO.tup [.int 2, .ref u5, .int (-1)])) := same_new nu6 _
      have e_u6 : (upd J5 u6 (HO.tup [.int 2, .ref u5, .int (-1)])) u6 = some (HO.tup [.int 2, .ref u5, .int (-1)]) := upd_same
      generalize upd J5 u6 (HO.tup [.int 2, .ref u5, .int (-1)]) = J6 at s_J6 e_u6
      refine ⟨by show 3 ≤ sizeLine; decide, fun u7 nu7 => ?_⟩
      have s_J7 : Same J6 (upd J6 u7 (HO.tup [.str "ref", .int 3, .ref u6])) := same_new nu7 _
      have e_u7 : (upd J6 u7 (HO.tup [.str "ref", .int 3, .ref u6])) u7 = some (HO.tup [.str "ref", .int 3, .ref u6]) := upd_same
      generalize upd J6 u7 (HO.tup [.str "ref", .int 3, .ref u6]) = J7 at s_J7 e_u7
      refine ⟨_, rfl, by show 0 ≤ sizeLine; decide, fun u8 nu8 => ?_⟩
      have s_J8 : Same J7 (upd J7 u8 (HO.tup [])) := same_new nu8 _
      have e_u8 : (upd J7 u8 (HO.tup [])) u8 = some (HO.tup []) := upd_same
      generalize upd J7 u8 (HO.tup []) = J8 at s_J8 e_u8
      refine ⟨by show 3 ≤ sizeLine; decide, fun u9 nu9 => ?_⟩
      have s_J9 : Same J8 (upd J8 u9 (HO.tup [.int (-1), .ref u8, .int 5])) := same_new nu9 _
      have e_u9 : (upd J8 u9 (HO.tup [.int (-1), .ref u8, .int 5])) u9 = some (HO.tup [.int (-1), .ref u8, .int 5]) := upd_same
      generalize upd J8 u9 (HO.tup [.int (-1), .ref u8, .int 5]) = J9 at s_J9 e_u9
      refine ⟨by show 4 ≤ sizeLine; decide, fun u10 nu10 => ?_⟩
      have s_J10 : Same J9 (upd J9 u10 (HO.tup [.str "fn", .ref u4, .ref u7, .ref u9])) := same_new nu10 _
      have e_u10 : (upd J9 u10 (HO.tup [.str "fn", .ref u4, .ref u7, .ref u9])) u10 = some (HO.tup [.str "fn", .ref u4, .ref u7, .ref u9]) := upd_same
      generalize upd J9 u10 (HO.tup [.str "fn", .ref u4, .ref u7, .ref u9]) = J10 at s_J10 e_u10
      refine ⟨by show 2 ≤ sizeLine; decide, fun u11 nu11 => ?_⟩
      have s_J11 : Same J10 (upd J10 u11 (HO.lst [.ref u3, .ref u10])) := same_new nu11 _
      have e_u11 : (upd J10 u11 (HO.lst [.ref u3, .ref u10])) u11 = some (HO.lst [.ref u3, .ref u10]) := upd_same
      generalize upd J10 u11 (HO.lst [.ref u3, .ref u10]) = J11 at s_J11 e_u11
      have sJ : Same Hd1 J11 := (((((((((s_J1.trans s_J2).trans s_J3).trans s_J4).trans s_J5).trans s_J6).trans s_J7).trans s_J8).trans s_J9).trans s_J10).trans s_J11
      have SJ : St p c J11 := Sd.same sJ
      have nu11' := (Sd.same (((((((((s_J1.trans s_J2).trans s_J3).trans s_J4).trans s_J5).trans s_J6).trans s_J7).trans s_J8).trans s_J9).trans s_J10)).new nu11
      refine ⟨p, c, u11, _, rfl, e_u11, nu11'.1, nu11'.2, by simp, by show 2 ≤ 1000; decide, SJ, fun H5 w5 kp5 S5 hw5 => ?_⟩
      have vne : H' vd ≠ none := by rw [evd']; simp
      have dj : ∀ u, Hd1 u = none → u ∉ [p, c, vd] := fun u hu z => by
        rcases List.mem_cons.mp z with z | z
        · exact Sd.some.1 (z ▸ hu)
        · rcases List.mem_cons.mp z with z | z
          · exact Sd.some.2 (z ▸ hu)
          · rw [List.mem_singleton.mp z, evd1] at hu
            cases hu
      have k5 : ∀ u o, Hd1 u = none → J11 u = some o → rmL [p, c, vd] H5 u = some o := fun u o hu ho => rm_in (dj u hu) (kp5 u o (fun z => dj u hu (by simp [z])) (fun z => dj u hu (by simp [z])) ho)
      have f1 := k5 u1 _ ((Same.refl _).free nu1) (s_J11 _ _ (s_J10 _ _ (s_J9 _ _ (s_J8 _ _ (s_J7 _ _ (s_J6 _ _ (s_J5 _ _ (s_J4 _ _ (s_J3 _ _ (s_J2 _ _ e_u1))))))))))
      have f2 := k5 u2 _ (((Same.refl _).trans s_J1).free nu2) (s_J11 _ _ (s_J10 _ _ (s_J9 _ _ (s_J8 _ _ (s_J7 _ _ (s_J6 _ _ (s_J5 _ _ (s_J4 _ _ (s_J3 _ _ e_u2)))))))))
      have f3 := k5 u3 _ ((((Same.refl _).trans s_J1).trans s_J2).free nu3) (s_J11 _ _ (s_J10 _ _ (s_J9 _ _ (s_J8 _ _ (s_J7 _ _ (s_J6 _ _ (s_J5 _ _ (s_J4 _ _ e_u3))))))))
      have f4 := k5 u4 _ (((((Same.refl _).trans s_J1).trans s_J2).trans s_J3).free nu4) (s_J11 _ _ (s_J10 _ _ (s_J9 _ _ (s_J8 _ _ (s_J7 _ _ (s_J6 _ _ (s_J5 _ _ e_u4)))))))
      have f5 := k5 u5 _ ((((((Same.refl _).trans s_J1).trans s_J2).trans s_J3).trans s_J4).free nu5) (s_J11 _ _ (s_J10 _ _ (s_J9 _ _ (s_J8 _ _ (s_J7 _ _ (s_J6 _ _ e_u5))))))
      have f6 := k5 u6 _ (((((((Same.refl _).trans s_J1).trans s_J2).trans s_J3).trans s_J4).trans s_J5).free nu6) (s_J11 _ _ (s_J10 _ _ (s_J9 _ _ (s_J8 _ _ (s_J7 _ _ e_u6)))))
      have f7 := k5 u7 _ ((((((((Same.refl _).trans s_J1).trans s_J2).trans s_J3).trans s_J4).trans s_J5).trans s_J6).free nu7) (s_J11 _ _ (s_J10 _ _ (s_J9 _ _ (s_J8 _ _ e_u7))))
      have f8 := k5 u8 _ (((((((((Same.refl _).trans s_J1).trans s_J2).trans s_J3).trans s_J4).trans s_J5).trans s_J6).trans s_J7).free nu8) (s_J11 _ _ (s_J10 _ _ (s_J9 _ _ e_u8)))
      have f9 := k5 u9 _ ((((((((((Same.refl _).trans s_J1).trans s_J2).trans s_J3).trans s_J4).trans s_J5).trans s_J6).trans s_J7).trans s_J8).free nu9) (s_J11 _ _ (s_J10 _ _ e_u9))
      have f10 := k5 u10 _ (((((((((((Same.refl _).trans s_J1).trans s_J2).trans s_J3).trans s_J4).trans s_J5).trans s_J6).trans s_J7).trans s_J8).trans s_J9).free nu10) (s_J11 _ _ e_u10)
      have T1at : TmAt (rmL [p, c, vd] H5) tw1 (.ref u3) := by
        unfold tw1 TmAt
        exact ⟨u3, _, rfl, f3, u2, u1, rfl, f2, f1⟩
      have T2at : TmAt (rmL [p, c, vd] H5) tw2 (.ref u10) := by
        unfold tw2 TmAt
        refine ⟨u10, u4, _, _, rfl, f10, f4, ?_, u9, u8, rfl, f9, f8⟩
        unfold TmAt
        exact ⟨u7, _, rfl, f7, u6, u5, rfl, f6, f5⟩
      have pickT : ∃ s, Two s ∧ TmAt (rmL [p, c, vd] H5) s w5 := by
        simp only [List.mem_cons, List.not_mem_nil, or_false] at hw5
        rcases hw5 with z | z
        · rw [z]
          exact ⟨tw1, .inl rfl, T1at⟩
        · rw [z]
          exact ⟨tw2, .inr rfl, T2at⟩
      obtain ⟨s, hs2, ats⟩ := pickT
      have evd5 : H5 vd = some (.dK kvs) := kp5 vd _ nvd'.1 nvd'.2 (sJ _ _ evd1)
      have kb5 : Kb [p, c, vd] H4 H5 := (kb1.trans (Same.kb sJ)).trans (kp5.kb.wide sub3)
      have fr5 : Same (rmL [p, c, vd] H') (rmL [p, c, vd] H5) := (fr1.trans (Same.rm sJ)).trans ((kp5.kb).rm sub3)
      refine ⟨_, rfl, _, rfl, vd, _, rfl, DPut.k (k := (Sum.inl x : Key)) evd5 (smallL (by omega)), ?_⟩
      have rmp : rmL [p, c, vd] (upd H5 vd (.dK (putK kvs (Sum.inl x : Key) w5))) = rmL [p, c, vd] H5 := rmL_put (by simp)
      refine ⟨_, _, _, upT m x s, rfl, kb5.put (by simp) _, S5.put nvd'.1 nvd'.2 _, upd_same, dg.put, ?_, ?_, ?_, ?_⟩
      · rw [rmp]
        exact (tc.same fr5).up ats
      · rw [rmp]
        exact KG.put (kg.same fr5) hs2 ats (heb x (List.mem_of_getElem? hx'))
      · have := length_putK kvs (Sum.inl x : Key) w5
        omega
      · intro j s' hj
        unfold upT at hj
        by_cases z : j = x
        · rw [if_pos z] at hj
          cases hj
          exact hs2
        · rw [if_neg z] at hj
          exact tw j s' hj
    · refine if_false_of (decide_eq_false hr0) ?_
      refine ⟨_, kvs, cv, m, rfl, kb1, Sd, evd1, dg, tc.same fr1, kg.same fr1, by omega, tw⟩
  rintro σ H6 ⟨y5, kvs, cv, m, rfl, kb6, S6, evd6, dg, tc, kg, hl, tw⟩
  rw [List.length_map] at hl
  obtain ⟨F, hF⟩ : ∃ F, F = rmL [p, c, vd] H6 := ⟨_, rfl⟩
  have sF : Same F H6 := by
    rw [hF]
    exact rm_sub
  have atF : TmAt F t vt := by
    rw [hF]
    exact TmAt.same (kb6.rm fun b hb => hb) _ _ at4
  rw [← hF] at tc kg
  clear hF
  obtain ⟨ks, hks, hkl, hkb⟩ := kg.keys
  -- repr, the first time
  refine ⟨_, rfl, _, rfl, vd, kvs, ks, rfl, .inl evd6, hks, by omega, fun ys p1 pm1 pw1 np1 => ?_⟩
  have s7 : Same H6 (upd H6 p1 (.lst (ys.map V.int))) := same_new np1 _
  have e7 : (upd H6 p1 (.lst (ys.map V.int))) p1 = some (.lst (ys.map V.int)) := upd_same
  generalize upd H6 p1 (.lst (ys.map V.int)) = H7 at s7 e7
  refine ⟨_, rfl, by show 3 ≤ sizeLine; decide, fun p2 np2 => ?_⟩
  have s8 : Same H7 (upd H7 p2 (.lst [vt, .ref p1, .ref vd])) := same_new np2 _
  have e8 : (upd H7 p2 (.lst [vt, .ref p1, .ref vd])) p2 = some (.lst [vt, .ref p1, .ref vd]) := upd_same
  generalize upd H7 p2 (.lst [vt, .ref p1, .ref vd]) = H8 at s8 e8
  obtain ⟨ds, hds, hdl⟩ := kg.data (K := K)
  have R := shown3 (F := F) (t := t) (ys := ys) (ds := ds) (kvs := kvs) wt (by omega) (by omega) (by rw [pm1.length_eq, hkl]; omega) (fun y hy => hkb y (pm1.mem_iff.mp hy)) hdl (by omega) kg
  refine ⟨p2, vd, vt, .ref p1, kvs, tmD t, .list (ys.map PyData.int), ds, rfl, e8, s8 _ _ (s7 _ _ evd6), dp_tm t vt (TmAt.same ((sF.trans s7).trans s8) _ _ atF), .lst (SqL.of (s8 _ _ e7)) (dp_ints ys), DpAll.same ((sF.trans s7).trans s8) _ _ hds, (tm_showW t wt).2.1, R.1, (two_show hdl.1).2.1, R.2.1, R.2.2.1, R.2.2.2, ?_⟩
  have sF8 := (sF.trans s7).trans s8
  have evd8 := s8 _ _ (s7 _ _ evd6)
  -- put
  have twm : (∀ j s, m j = some s → wok s) ∧ (∀ j s, m j = some s → msz s ≤ 2) ∧ ∀ j s, m j = some s → mht s ≤ 1 := by
    refine ⟨fun j s z => ?_, fun j s z => ?_, fun j s z => ?_⟩ <;> rcases tw j s z with w | w <;> rw [w]
    · exact tw1_ok
    · exact tw2_ok
    · decide
    · decide
    · decide
    · decide
  have wsub := sub_wok m twm.1 t wt
  have zsub := sub_msz m (c := 2) (by decide) twm.2.1 t
  have hsub := sub_mht m (c := 1) twm.2.2 t
  refine ⟨_, rfl, _, rfl, fr8 F H8 vd, t, vt, vd, kvs, m, cv, rfl, fr8_sub sF8 evd8, TmAt.same (fr8_base sF8 evd8) _ _ atF, fr8_vd evd8, dg, tc.same (fr8_base sF8 evd8), by omega, wt, by omega, wsub, by omega, fun H9 u9 s9 tu9 => ?_⟩
  -- the law's own
  refine ⟨_, rfl, _, rfl, _, rfl, fr8 F H8 vd, t, vt, vd, kvs, m, cv, rfl, (fr8_sub sF8 evd8).trans s9, TmAt.same (fr8_base sF8 evd8) _ _ atF, fr8_vd evd8, dg, tc.same (fr8_base sF8 evd8), by omega, wt, by omega, by omega, fun H10 u10 s10 tu10 => ?_⟩
  have shp : SeqAt.shaped (tmD (sub m t)) = true := by
    unfold SeqAt.shaped
    rw [tm_canW _ wsub, Bool.true_and]
    refine decide_eq_true ?_
    have := tm_depth (sub m t)
    omega
  refine ⟨tmD (sub m t), tmD (sub m t), dp_tm _ _ (TmAt.same s10 _ _ tu9), dp_tm _ _ (TmAt.same (ov_in ((fr8_sub sF8 evd8).trans s9) s10) _ _ tu10), shp, shp, _, rfl, ?_⟩
  refine if_true_of (SeqAt.eqv_refl _ (tm_canW _ wsub)) ?_
  -- repr, again
  have sF10 := (sF8.trans s9).trans s10
  have evd10 := s10 _ _ (s9 _ _ evd8)
  refine ⟨_, rfl, _, rfl, vd, kvs, ks, rfl, .inl evd10, hks, by omega, fun zs p3 pm3 pw3 np3 => ?_⟩
  have ez : zs = ys := perm_sorted (pm3.trans pm1.symm) pw3 pw1
  subst ez
  have s11 : Same H10 (upd H10 p3 (.lst (zs.map V.int))) := same_new np3 _
  have e11 : (upd H10 p3 (.lst (zs.map V.int))) p3 = some (.lst (zs.map V.int)) := upd_same
  generalize upd H10 p3 (.lst (zs.map V.int)) = H11 at s11 e11
  refine ⟨_, rfl, by show 3 ≤ sizeLine; decide, fun p4 np4 => ?_⟩
  have s12 : Same H11 (upd H11 p4 (.lst [vt, .ref p3, .ref vd])) := same_new np4 _
  have e12 : (upd H11 p4 (.lst [vt, .ref p3, .ref vd])) p4 = some (.lst [vt, .ref p3, .ref vd]) := upd_same
  generalize upd H11 p4 (.lst [vt, .ref p3, .ref vd]) = H12 at s12 e12
  refine ⟨p4, vd, vt, .ref p3, kvs, tmD t, .list (zs.map PyData.int), ds, rfl, e12, s12 _ _ (s11 _ _ evd10), dp_tm t vt (TmAt.same ((sF10.trans s11).trans s12) _ _ atF), .lst (SqL.of (s12 _ _ e11)) (dp_ints zs), DpAll.same ((sF10.trans s11).trans s12) _ _ hds, (tm_showW t wt).2.1, R.1, (two_show hdl.1).2.1, R.2.1, R.2.2.1, R.2.2.2, ?_⟩
  refine ⟨_, rfl, rfl, ?_⟩
  have eq1 : ∀ x : Str, (decide (V.str x = V.str x)) = true := fun x => str_eq
  rw [eq1]
  exact q _
end
end Sg

namespace Sg
open PySem PySem.Spec PyProof.Rows L2
/-! ### what the top has written -/
theorem all_mk {P : Program} {w : World} {K : PySem.W.Frag} {h : Heap} {mg : Str → Option Value} {fa : Addr} (X : K.In h) (G : h.Ns mainGlobals mg) (hfa : mg "law" = some (.ref fa))
    {f1 : Addr} {od1 an1 : Option Addr} {sl1 : Array (Option Value)} {oc1 kV1 dc1 pm1 cd1 ct1 : Value}
    {f2 : Addr} {od2 an2 : Option Addr} {sl2 : Array (Option Value)} {oc2 kV2 dc2 pm2 cd2 ct2 : Value}
    {f3 : Addr} {od3 an3 : Option Addr} {sl3 : Array (Option Value)} {oc3 kV3 dc3 pm3 cd3 ct3 : Value}
    {f4 : Addr} {od4 an4 : Option Addr} {sl4 : Array (Option Value)} {oc4 kV4 dc4 pm4 cd4 ct4 : Value}
    {f5 : Addr} {od5 an5 : Option Addr} {sl5 : Array (Option Value)} {oc5 kV5 dc5 pm5 cd5 ct5 : Value}
    {f6 : Addr} {od6 an6 : Option Addr} {sl6 : Array (Option Value)} {oc6 kV6 dc6 pm6 cd6 ct6 : Value}
    {f7 : Addr} {od7 an7 : Option Addr} {sl7 : Array (Option Value)} {oc7 kV7 dc7 pm7 cd7 ct7 : Value}
    {f8 : Addr} {od8 an8 : Option Addr} {sl8 : Array (Option Value)} {oc8 kV8 dc8 pm8 cd8 ct8 : Value}
    {f9 : Addr} {od9 an9 : Option Addr} {sl9 : Array (Option Value)} {oc9 kV9 dc9 pm9 cd9 ct9 : Value}
    {f10 : Addr} {od10 an10 : Option Addr} {sl10 : Array (Option Value)} {oc10 kV10 dc10 pm10 cd10 ct10 : Value}
    {f11 : Addr} {od11 an11 : Option Addr} {sl11 : Array (Option Value)} {oc11 kV11 dc11 pm11 cd11 ct11 : Value}
    {f12 : Addr} {od12 an12 : Option Addr} {sl12 : Array (Option Value)} {oc12 kV12 dc12 pm12 cd12 ct12 : Value}
    {f13 : Addr} {od13 an13 : Option Addr} {sl13 : Array (Option Value)} {oc13 kV13 dc13 pm13 cd13 ct13 : Value}
    (a1 : PySem.W.nsIn K mainGlobals "inner_terms" = some (some (.ref f1)))
    (l1 : K.lookup f1 = some ⟨oc1, od1, .func (PySem.W.fnOf "inner_terms" "inner_terms" (defArgs cInnerTerms) (defBody cInnerTerms) (defScope cInnerTerms) .none kV1 dc1 pm1 an1 cd1 ct1), sl1⟩)
    (c1 : PySem.W.codeIn K cd1 "inner_terms" = true)
    (k1 : PySem.W.keepIn K (.ref f1) = true)
    (a2 : PySem.W.nsIn K mainGlobals "bound_in_body" = some (some (.ref f2)))
    (l2 : K.lookup f2 = some ⟨oc2, od2, .func (PySem.W.fnOf "bound_in_body" "bound_in_body" (defArgs cBoundInBody) (defBody cBoundInBody) (defScope cBoundInBody) .none kV2 dc2 pm2 an2 cd2 ct2), sl2⟩)
    (c2 : PySem.W.codeIn K cd2 "bound_in_body" = true)
    (k2 : PySem.W.keepIn K (.ref f2) = true)
    (a3 : PySem.W.nsIn K mainGlobals "rebuilt" = some (some (.ref f3)))
    (l3 : K.lookup f3 = some ⟨oc3, od3, .func (PySem.W.fnOf "rebuilt" "rebuilt" (defArgs cRebuilt) (defBody cRebuilt) (defScope cRebuilt) .none kV3 dc3 pm3 an3 cd3 ct3), sl3⟩)
    (c3 : PySem.W.codeIn K cd3 "rebuilt" = true)
    (k3 : PySem.W.keepIn K (.ref f3) = true)
    (a4 : PySem.W.nsIn K mainGlobals "put" = some (some (.ref f4)))
    (l4 : K.lookup f4 = some ⟨oc4, od4, .func (PySem.W.fnOf "put" "put" (defArgs cPut) (defBody cPut) (defScope cPut) .none kV4 dc4 pm4 an4 cd4 ct4), sl4⟩)
    (c4 : PySem.W.codeIn K cd4 "put" = true)
    (k4 : PySem.W.keepIn K (.ref f4) = true)
    (a5 : PySem.W.nsIn K mainGlobals "fresh" = some (some (.ref f5)))
    (l5 : K.lookup f5 = some ⟨oc5, od5, .func (PySem.W.fnOf "fresh" "fresh" (defArgs cFresh) (defBody cFresh) (defScope cFresh) .none kV5 dc5 pm5 an5 cd5 ct5), sl5⟩)
    (c5 : PySem.W.codeIn K cd5 "fresh" = true)
    (k5 : PySem.W.keepIn K (.ref f5) = true)
    (a6 : PySem.W.nsIn K mainGlobals "placed" = some (some (.ref f6)))
    (l6 : K.lookup f6 = some ⟨oc6, od6, .func (PySem.W.fnOf "placed" "placed" (defArgs cPlaced) (defBody cPlaced) (defScope cPlaced) .none kV6 dc6 pm6 an6 cd6 ct6), sl6⟩)
    (c6 : PySem.W.codeIn K cd6 "placed" = true)
    (k6 : PySem.W.keepIn K (.ref f6) = true)
    (a7 : PySem.W.nsIn K mainGlobals "inner_tasks" = some (some (.ref f7)))
    (l7 : K.lookup f7 = some ⟨oc7, od7, .func (PySem.W.fnOf "inner_tasks" "inner_tasks" (defArgs cInnerTasks) (defBody cInnerTasks) (defScope cInnerTasks) .none kV7 dc7 pm7 an7 cd7 ct7), sl7⟩)
    (c7 : PySem.W.codeIn K cd7 "inner_tasks" = true)
    (k7 : PySem.W.keepIn K (.ref f7) = true)
    (a8 : PySem.W.nsIn K mainGlobals "_law_state" = some (some (.ref f8)))
    (l8 : K.lookup f8 = some ⟨oc8, od8, .func (PySem.W.fnOf "_law_state" "_law_state" (defArgs sState) (defBody sState) (defScope sState) .none kV8 dc8 pm8 an8 cd8 ct8), sl8⟩)
    (c8 : PySem.W.codeIn K cd8 "_law_state" = true)
    (k8 : PySem.W.keepIn K (.ref f8) = true)
    (a9 : PySem.W.nsIn K mainGlobals "_law_draw" = some (some (.ref f9)))
    (l9 : K.lookup f9 = some ⟨oc9, od9, .func (PySem.W.fnOf "_law_draw" "_law_draw" (defArgs sDraw) (defBody sDraw) (defScope sDraw) .none kV9 dc9 pm9 an9 cd9 ct9), sl9⟩)
    (c9 : PySem.W.codeIn K cd9 "_law_draw" = true)
    (k9 : PySem.W.keepIn K (.ref f9) = true)
    (a10 : PySem.W.nsIn K mainGlobals "_law_pick" = some (some (.ref f10)))
    (l10 : K.lookup f10 = some ⟨oc10, od10, .func (PySem.W.fnOf "_law_pick" "_law_pick" (defArgs sPick) (defBody sPick) (defScope sPick) .none kV10 dc10 pm10 an10 cd10 ct10), sl10⟩)
    (c10 : PySem.W.codeIn K cd10 "_law_pick" = true)
    (k10 : PySem.W.keepIn K (.ref f10) = true)
    (a11 : PySem.W.nsIn K mainGlobals "_law_term" = some (some (.ref f11)))
    (l11 : K.lookup f11 = some ⟨oc11, od11, .func (PySem.W.fnOf "_law_term" "_law_term" (defArgs sTerm) (defBody sTerm) (defScope sTerm) .none kV11 dc11 pm11 an11 cd11 ct11), sl11⟩)
    (c11 : PySem.W.codeIn K cd11 "_law_term" = true)
    (k11 : PySem.W.keepIn K (.ref f11) = true)
    (a12 : PySem.W.nsIn K mainGlobals "_law_put" = some (some (.ref f12)))
    (l12 : K.lookup f12 = some ⟨oc12, od12, .func (PySem.W.fnOf "_law_put" "_law_put" (defArgs sPut) (defBody sPut) (defScope sPut) .none kV12 dc12 pm12 an12 cd12 ct12), sl12⟩)
    (c12 : PySem.W.codeIn K cd12 "_law_put" = true)
    (k12 : PySem.W.keepIn K (.ref f12) = true)
    (a13 : PySem.W.nsIn K mainGlobals "law" = some (some (.ref f13)))
    (l13 : K.lookup f13 = some ⟨oc13, od13, .func (PySem.W.fnOf "law" "law" (defArgs sLaw) (defBody sLaw) (defScope sLaw) .none kV13 dc13 pm13 an13 cd13 ct13), sl13⟩)
    (c13 : PySem.W.codeIn K cd13 "law" = true)
    (k13 : PySem.W.keepIn K (.ref f13) = true)
    (z_list : PySem.W.nsIn K mainGlobals "list" = some none)
    (z_len : PySem.W.nsIn K mainGlobals "len" = some none)
    (z_range : PySem.W.nsIn K mainGlobals "range" = some none)
    (z_int : PySem.W.nsIn K mainGlobals "int" = some none)
    (z_abs : PySem.W.nsIn K mainGlobals "abs" = some none)
    (z_tuple : PySem.W.nsIn K mainGlobals "tuple" = some none)
    (z_repr : PySem.W.nsIn K mainGlobals "repr" = some none)
    (z_sorted : PySem.W.nsIn K mainGlobals "sorted" = some none)
    : ∃ fd : FuncData, (∀ (s : Shared) (v : Value), BindsTo s fd ⟨[v], []⟩ [("script", v)]) ∧ ∀ base : Heap, K.In base → base.Ns mainGlobals mg → FnG P w K mg base CX0 21 fa fd ["script"] (spLaw K) := by
  have e := hfa.symm.trans (PySem.W.mg_of X G a13)
  cases e
  have F1 := fun_mk (st := cInnerTerms) l1 c1 k1
  have b1 := F1.binds (ps := ["term"]) fun _ _ _ _ _ _ us hl => match us, hl with | [_], _ => rfl
  have g1 := PySem.W.mg_of X G a1
  have F2 := fun_mk (st := cBoundInBody) l2 c2 k2
  have b2 := F2.binds (ps := ["term"]) fun _ _ _ _ _ _ us hl => match us, hl with | [_], _ => rfl
  have g2 := PySem.W.mg_of X G a2
  have F3 := fun_mk (st := cRebuilt) l3 c3 k3
  have b3 := F3.binds (ps := ["term", "inner"]) fun _ _ _ _ _ _ us hl => match us, hl with | [_, _], _ => rfl
  have g3 := PySem.W.mg_of X G a3
  have F4 := fun_mk (st := cPut) l4 c4 k4
  have b4 := F4.binds (ps := ["term", "values"]) fun _ _ _ _ _ _ us hl => match us, hl with | [_, _], _ => rfl
  have g4 := PySem.W.mg_of X G a4
  have F5 := fun_mk (st := cFresh) l5 c5 k5
  have b5 := F5.binds (ps := ["term"]) fun _ _ _ _ _ _ us hl => match us, hl with | [_], _ => rfl
  have g5 := PySem.W.mg_of X G a5
  have F6 := fun_mk (st := cPlaced) l6 c6 k6
  have b6 := F6.binds (ps := ["term", "values"]) fun _ _ _ _ _ _ us hl => match us, hl with | [_, _], _ => rfl
  have g6 := PySem.W.mg_of X G a6
  have F7 := fun_mk (st := cInnerTasks) l7 c7 k7
  have b7 := F7.binds (ps := ["term", "visible"]) fun _ _ _ _ _ _ us hl => match us, hl with | [_, _], _ => rfl
  have g7 := PySem.W.mg_of X G a7
  have F8 := fun_mk (st := sState) l8 c8 k8
  have b8 := F8.binds (ps := ["script"]) fun _ _ _ _ _ _ us hl => match us, hl with | [_], _ => rfl
  have g8 := PySem.W.mg_of X G a8
  have F9 := fun_mk (st := sDraw) l9 c9 k9
  have b9 := F9.binds (ps := ["state", "many"]) fun _ _ _ _ _ _ us hl => match us, hl with | [_, _], _ => rfl
  have g9 := PySem.W.mg_of X G a9
  have F10 := fun_mk (st := sPick) l10 c10 k10
  have b10 := F10.binds (ps := ["state", "row"]) fun _ _ _ _ _ _ us hl => match us, hl with | [_, _], _ => rfl
  have g10 := PySem.W.mg_of X G a10
  have F11 := fun_mk (st := sTerm) l11 c11 k11
  have b11 := F11.binds (ps := ["state", "env", "deep"]) fun _ _ _ _ _ _ us hl => match us, hl with | [_, _, _], _ => rfl
  have g11 := PySem.W.mg_of X G a11
  have F12 := fun_mk (st := sPut) l12 c12 k12
  have b12 := F12.binds (ps := ["t", "values"]) fun _ _ _ _ _ _ us hl => match us, hl with | [_, _], _ => rfl
  have g12 := PySem.W.mg_of X G a12
  have F13 := fun_mk (st := sLaw) l13 c13 k13
  have g13 := PySem.W.mg_of X G a13
  have y_list := PySem.W.mg_none_of X G z_list
  have y_len := PySem.W.mg_none_of X G z_len
  have y_range := PySem.W.mg_none_of X G z_range
  have y_int := PySem.W.mg_none_of X G z_int
  have y_abs := PySem.W.mg_none_of X G z_abs
  have y_tuple := PySem.W.mg_none_of X G z_tuple
  have y_repr := PySem.W.mg_none_of X G z_repr
  have y_sorted := PySem.W.mg_none_of X G z_sorted
  refine ⟨PySem.W.fnOf "law" "law" (defArgs sLaw) (defBody sLaw) (defScope sLaw) .none kV13 dc13 pm13 an13 cd13 ct13, fun s v => .of_eq rfl, fun base _ _ => ?_⟩
  have Gi : ∀ n, FnOk P w K mg base CX0 (n + 1) f1 _ ["term"] (spKids) := fun n => ok_kids F1 y_list
  have Gb : ∀ n, FnOk P w K mg base CX0 (n + 1) f2 _ ["term"] (spBnds) := fun n => ok_bnds F2 y_list
  have Gr : ∀ n, FnOk P w K mg base CX0 (n + 1) f3 _ ["term", "inner"] (spReb) := fun n => ok_reb F3 y_list
  have Gt : ∀ n, FnOk P w K mg base CX0 (n + 2) f7 _ ["term", "visible"] (spTasks) := fun n => ok_tasks F7 (Gi n) b1 k1 g1 (Gb n) b2 k2 g2
  have Gp : ∀ n, FnOk P w K mg base CX0 (n + 3) f6 _ ["term", "values"] (spPlaced) := fun n => ok_placed F6 (Gi (n + 1)) b1 k1 g1 (Gr (n + 1)) b3 k3 g3 (Gt n) b7 k7 g7 y_len
  have Gf : FnOk P w K mg base CX0 4 f5 _ ["term"] (spFresh) := ok_fresh F5 (Gp 0) b6 k6 g6
  have Gc : FnOk P w K mg base CX0 5 f4 _ ["term", "values"] (spCput) := ok_cput F4 ⟨⟨_, _, _, _, Gf, g5, k5, b5, .nil⟩⟩ ⟨⟨_, _, _, _, Gp 1, g6, k6, b6, .nil⟩⟩
  have Gs : FnOk P w K mg base CX0 20 f8 _ ["script"] (spState K) := ok_state F8 y_int y_abs
  have Gd : ∀ n, FnOk P w K mg base CX0 (n + 1) f9 _ ["state", "many"] (spDraw) := fun n => ok_draw F9 y_int y_len
  have Gk : ∀ n, FnOk P w K mg base CX0 (n + 2) f10 _ ["state", "row"] (spPick) := fun n => ok_pick F10 (Gd n) b9 k9 g9 y_len
  have Gx : ∀ n, FnOk P w K mg base CX0 (n + 2) f11 _ ["state", "env", "deep"] (spTerm n) := fun n => by
    induction n with
    | zero => exact term_none
    | succ n ih => exact ok_term F11 ih b11 g11 (Gd (n + 1)) b9 k9 g9 (Gk n) b10 k10 g10 y_range y_len y_tuple
  have Gu : ∀ n, FnOk P w K mg base CX0 n f12 _ ["t", "values"] (spPut n) := fun n => by
    induction n with
    | zero => exact put_none
    | succ n ih => exact ok_put F12 ⟨⟨_, _, _, _, ih, g12, k12, b12, .nil⟩⟩ y_tuple
  exact ok_law F13 ⟨⟨_, _, _, _, Gs, g8, k8, b8, .nil⟩⟩ ⟨⟨_, _, _, _, Gd 19, g9, k9, b9, .nil⟩⟩ ⟨⟨_, _, _, _, Gk 18, g10, k10, b10, .nil⟩⟩ ⟨⟨_, _, _, _, (Gx 5).mono (by decide), g11, k11, b11, .nil⟩⟩ ⟨⟨_, _, _, _, Gc.mono (by decide), g4, k4, b4, .nil⟩⟩ ⟨⟨_, _, _, _, Gu 20, g12, k12, b12, .nil⟩⟩ y_repr y_sorted
end Sg
open PySem PySem.W PyProof.Rows
set_option maxHeartbeats 0 in
theorem PySem.Challenge.cw_sugartrue_k14_values_in_place_of_variabl_holds : PySem.Challenge.rw_sugartrue_k14_values_in_place_of_variabl.Holds := by
  w_on; o_law; k_head; (case hw => w_witness2)
  k_fill
  refine L2.walkG_of (l := PySem.Challenge.rw_sugartrue_k14_values_in_place_of_variabl) (n := 63) (k := 21) (x := "script") (sp := fun w => Sg.spLaw _) rfl (by decide) rfl ⟨rfl, by decide, by decide⟩ (fun w h Y => PySem.W.kIn_of Y) ?F (fun _ _ a ns hl _ hS => ⟨a, ns, rfl, hS, hl, fun _ => rfl⟩)
  case F =>
    intro w mg fa h KX G hmg
    refine' Sg.all_mk KX G hmg ?a1 ?l1 ?c1 ?k1 ?a2 ?l2 ?c2 ?k2 ?a3 ?l3 ?c3 ?k3 ?a4 ?l4 ?c4 ?k4 ?a5 ?l5 ?c5 ?k5 ?a6 ?l6 ?c6 ?k6 ?a7 ?l7 ?c7 ?k7 ?a8 ?l8 ?c8 ?k8 ?a9 ?l9 ?c9 ?k9 ?a10 ?l10 ?c10 ?k10 ?a11 ?l11 ?c11 ?k11 ?a12 ?l12 ?c12 ?k12 ?a13 ?l13 ?c13 ?k13 ?z_list ?z_len ?z_range ?z_int ?z_abs ?z_tuple ?z_repr ?z_sorted
    (case a1 => k_is)
    (case l1 => k_is)
    (case c1 => k_is)
    (case k1 => k_is)
    (case a2 => k_is)
    (case l2 => k_is)
    (case c2 => k_is)
    (case k2 => k_is)
    (case a3 => k_is)
    (case l3 => k_is)
    (case c3 => k_is)
    (case k3 => k_is)
    (case a4 => k_is)
    (case l4 => k_is)
    (case c4 => k_is)
    (case k4 => k_is)
    (case a5 => k_is)
    (case l5 => k_is)
    (case c5 => k_is)
    (case k5 => k_is)
    (case a6 => k_is)
    (case l6 => k_is)
    (case c6 => k_is)
    (case k6 => k_is)
    (case a7 => k_is)
    (case l7 => k_is)
    (case c7 => k_is)
    (case k7 => k_is)
    (case a8 => k_is)
    (case l8 => k_is)
    (case c8 => k_is)
    (case k8 => k_is)
    (case a9 => k_is)
    (case l9 => k_is)
    (case c9 => k_is)
    (case k9 => k_is)
    (case a10 => k_is)
    (case l10 => k_is)
    (case c10 => k_is)
    (case k10 => k_is)
    (case a11 => k_is)
    (case l11 => k_is)
    (case c11 => k_is)
    (case k11 => k_is)
    (case a12 => k_is)
    (case l12 => k_is)
    (case c12 => k_is)
    (case k12 => k_is)
    (case a13 => k_is)
    (case l13 => k_is)
    (case c13 => k_is)
    (case k13 => k_is)
    (case z_list => k_is)
    (case z_len => k_is)
    (case z_range => k_is)
    (case z_int => k_is)
    (case z_abs => k_is)
    (case z_tuple => k_is)
    (case z_repr => k_is)
    (case z_sorted => k_is)
