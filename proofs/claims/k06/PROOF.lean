import PyProof.Rows.All
import Wide.All
import OpenK.AllK
import Wide.FinOn
import HandS.ForMost
import HandS.Flow
import HandS.More
import HandS.Walk
import HandS.DictComp
import HandS.Base
import HandS.Call
import HandS.Words
import HandS.Evl
import HandS.List
import HandS.Dict
import HandS.Codes
import HandS.ForExc
import HandS.TryMany
import HandS.ExcIs
import PyProof.P3Eq
import PyProof.NeData
import HandS.Wide
import HandS.StrMore
import HandS.Steps
import HandS.Ends
import PyProof.ReprRoads
import HandS.Star
import PyProof.ReprLen
import PyProof.EqLayable
import HandS.Rev
import HandS.Style
import HandS.IsInst
import PySem.Challenge.RW_sugartrue_k06_single_steps
set_option Elab.async false
set_option linter.all false
set_option maxRecDepth 100000
set_option maxHeartbeats 4000000
namespace L2
open PySem PySem.Spec PyProof.Rows
/-! ### del xs[a:] -/
section
variable {prog : Program} {w : World} {A : Around} {E : Value → Shared → Prop} {s : Shared}
theorem bounds_tail {a n : Nat} (ha : a ≤ n) : sliceBounds (some (a : Int)) none none n = ((a : Int), (n : Int), 1) := by
  simp only [sliceBounds, Option.getD_none]
  have h1 : ¬ ((a : Int) < 0) := by omega
  simp only [h1, if_false, show (1 : Int) > 0 by decide, if_true]
  congr 1
  · omega
theorem zip_tail (a n : Nat) : ∀ (xs : List Value) (j : Nat), j + xs.length = n →
    ((xs.zipIdx j).filterMap fun (x, k) => if (decide ((a : Int) ≤ (k : Nat)) && decide (((k : Nat) : Int) < (n : Nat)) && (((k : Nat) : Int) - (a : Int)) % 1 == 0) = true then none else some x) = xs.take (a - j)
  | [], j, _ => by simp
  | x :: xs, j, h => by
    rw [List.length_cons] at h
    have q := zip_tail a n xs (j + 1) (by omega)
    rw [List.zipIdx_cons, List.filterMap_cons]
    by_cases z : a ≤ j
    · have e : (decide ((a : Int) ≤ (j : Nat)) && decide (((j : Nat) : Int) < (n : Nat)) && (((j : Nat) : Int) - (a : Int)) % 1 == 0) = true := by
        rw [decide_eq_true (by omega : (a : Int) ≤ (j : Nat)), decide_eq_true (by omega : ((j : Nat) : Int) < (n : Nat)), Int.emod_one]
        rfl
      simp only [e, if_true]
      rw [q, show a - j = 0 by omega, show a - (j + 1) = 0 by omega]
      simp
    · have e : (decide ((a : Int) ≤ (j : Nat)) && decide (((j : Nat) : Int) < (n : Nat)) && (((j : Nat) : Int) - (a : Int)) % 1 == 0) = false := by
        rw [decide_eq_false (by omega : ¬ (a : Int) ≤ (j : Nat))]
        rfl
      simp only [e, Bool.false_eq_true, if_false]
      rw [q, show a - j = (a - (j + 1)) + 1 by omega, List.take_succ_cons]
theorem delItem_tail {l sl : Addr} {items : Array Value} {n : Nat} {vl : Value} {a : Nat} {Q : Unit → Shared → Prop}
    (e : s.heap.get? l = some { cls := .type "list", data := .seq items n }) (hs : s.heap.IsSliceOf sl vl .none .none) (pl : IsPart vl (some (a : Int))) (ha : a ≤ items.size)
    (hsz : items.size ≤ sizeLine) (h : ∀ g : Array Value → Array Value, g items = (items.toList.take a).toArray → Q () { s with heap := s.heap.update l (Obj.mapSeq g) }) :
    wpAny (model prog w) A (delItem (.ref l) (.ref sl)) Q E s := by
  have hl : s.heap.IsList l items := PySem.IsL.isList e
  obtain ⟨os, hos, hcs, hds⟩ := id hs
  have hTs : s.TypeIs (.ref sl) "slice" := ⟨os, hos, hcs⟩
  have hstep : ¬ ((rawPart none == rawInt 0) = true) := Bool.false_ne_true
  unfold delItem
  refine wpAny_holding ?_
  refine wpAny_bind (wpAny_sequenceKey hl.typeIs (by decide) ?_)
  refine wpAny_bind (wpAny_callSpecial?_slot (name := Str.ofString "__delitem__") hl.typeIs F.slot_list_delitem
    (wpAny_call_entry F.slot_list_delitem hl.typeIs F.entry_list_delitem ?_ (F.args_list_delitem_2 _ _)))
  show wpAny _ _ (Builtin.List.listSubscript? (.ref sl) >>= _) _ _ s
  refine wpAny_bind ?_
  unfold Builtin.List.listSubscript?
  refine wpAny_bind (wpAny_specialOf hTs slice_no_index ?_)
  simp only [Option.isNone_none, if_true]
  refine wpAny_pure ?_
  show wpAny _ _ (typeOf (.ref sl) >>= _) _ _ s
  refine wpAny_bind (wpAny_typeOf hTs ?_)
  first
    | rw [if_neg (by decide)]
    | refine PySem.W.KFB.if_not (by decide) ?_
  rw [listSliceParts_eq]
  refine wpAny_bind (wpAny_bind (wpAny_field hos hds (x := .none) rfl (wpAny_bind (wpAny_listPart .none ?_))))
  rw [if_neg hstep]
  refine wpAny_bind (wpAny_field hos hds (x := vl) rfl (wpAny_bind (wpAny_listPart pl ?_)))
  refine wpAny_bind (wpAny_field hos hds (x := .none) rfl (wpAny_bind (wpAny_listPart .none (wpAny_pure ?_))))
  have hz' : ∀ g : Array Value → Array Value, g items = (items.toList.take a).toArray → (g items).size ≤ sizeLine + 1 := fun g hg => by
    rw [hg, List.size_toArray, List.length_take, Array.length_toList]
    omega
  unfold Builtin.List.listItems
  refine wpAny_bind (wpAny_bind (wpAny_seqItems e rfl (wpAny_pure ?_)))
  refine wpAny_bind (wpAny_of_eq ((sliceIndices_raw (some (a : Int)) none none items.size (by simp)).trans (congrArg (pure : Int × Int × Int → Sem (Int × Int × Int)) (bounds_tail ha))) ?_)
  refine wpAny_bind (wpAny_rule ?_)
  have hg := congrArg List.toArray (zip_tail a items.size items.toList 0 (by simp))
  have hzz := hz' (fun xs => (xs.toList.zipIdx.filterMap fun (x, k) => if (decide ((a : Int) ≤ (k : Nat)) && decide (((k : Nat) : Int) < (items.size : Nat)) && (((k : Nat) : Int) - (a : Int)) % 1 == 0) = true then none else some x).toArray) hg
  refine wpAny_bind (wpAny_updateSeq (hz := hsz) (_hz' := hzz) e rfl ?_)
  refine wpAny_bind (wpAny_letGo ?_)
  exact wpAny_pure ⟨.none, rfl, wpAny_pure (h _ hg)⟩
end
section
variable {X : Cx}
theorem del_tail {pins : List (Addr × Obj)} {s : Shared} {σ : St} {H : Hp} {l sl : Addr} {xs : List V} {a : Nat} {vl : Value} {Q : Unit → Shared → Prop} (I : Inv X pins σ H s)
    (hH : H l = some (.lst xs)) (hs : s.heap.IsSliceOf sl vl .none .none) (ra : IsPart vl (some (a : Int))) (ha : a ≤ xs.length) (h : ∀ s', Inv X pins σ (upd H l (.lst (xs.take a))) s' → Q () s') :
    wpAny (model X.prog X.w) X.A (delItem (.ref l) (.ref sl)) Q X.xe s := by
  obtain ⟨z, its, n, r, hl, e⟩ := I.lstM hH
  refine delItem_tail (a := a) e hs ra (by rw [List.size_toArray]; omega) (by rw [List.size_toArray]; omega) fun g hg => h _ ?_
  refine I.lset (its' := its.take a) (t' := s.toks) hH e ?_ (r.take _) ?_
  · rw [hg]
  · rw [List.length_take]
    omega
def tDelTail (to ti : TE) : TS := fun D σ H => to σ H fun x H1 => ti σ H1 fun y H2 => ∃ (l : Addr) (xs : List V) (a : Nat), x = .ref l ∧ y = .int (a : Nat) ∧ H2 l = some (.lst xs) ∧ a ≤ xs.length ∧ D.nx σ (upd H2 l (.lst (xs.take a)))
/-- del xs[a:] of a list -/
theorem ps_delTail {o i : Expr} {to ti : TE} {tpos p2 pos : Pos} (ho : PE X o to) (hi : PE X i ti) : PS X (.Delete [.Subscript o (.Slice (some i) none none p2) tpos] pos) (tDelTail to ti) := by
  refine ⟨fun pins s σ H D I h => ?_⟩
  refine wpAny_Delete (wpAny_deleteEach_cons (wpAny_delete_Subscript (thn (ho.run pins s σ H _ I h) fun u s1 ⟨x, H1, I1, rx, q1⟩ => ?_)))
  refine wpAny_Slice ?_
  rw [evalPart_some]
  refine thn (hi.run pins s1 σ H1 _ I1 q1) fun iv s2 ⟨y, H2, I2, ry, q2⟩ => ?_
  obtain ⟨l, xs, a, ex, ey, hH, ha, q2⟩ := q2
  subst ex
  subst ey
  cases (show u = Value.ref l from rx)
  obtain ⟨t, rfl⟩ := (show ∃ t, iv = Value.int (a : Nat) t from ry)
  rw [evalPart_none]
  refine wpAny_pure ?_
  refine wpAny_pure ?_
  have I4 : Inv X pins σ H2 { s2 with heap := s2.heap.push { cls := .type "slice", data := .fields #[.int (a : Nat) t, .none, .none] } } := I2.kept (t' := s2.toks) fun b ob q => Heap.get?_push_of_some _ q
  exact del_tail I4 hH (Heap.IsSliceOf.new ..) (.int _ _) ha fun s3 I3 => wpAny_deleteEach_nil ⟨σ, _, I3, q2⟩
end
end L2

namespace L2
open PySem PySem.Spec PyProof.Rows
section
variable {X : Cx}
/-- name = {..} on one line, the name a local -/
theorem ps_setDc {i : Nat} {y : Str} {py : Pos} {kx vx tg iter : Expr} {ifs : List Expr} {scope : Scope} {own : List (Str × Nat)} {pos spos : Pos} {wi : TI} {g : TG} {tt : TT} {tk tv : TE} (hc : X.calm = true) (hN : X.N.Nodup) (hy : X.N[i]? = some y) (hyl : X.env.scope.names.lookup y = some .local)
    (hsw : swapsWith (.DictComp kx vx [⟨tg, iter, ifs, 0⟩] scope pos) (some (.Name y py)) spos.line X.env = pure true) (hi : PI X tg iter wi) (ok : BlkOk X.N X.env.scope scope own)
    (hg : ∀ (s : Shared) (H : Hp) (C : Addr) (cl : List (Str × Addr)) (fp : List Addr), PG (X.blk s H scope (compEnvC scope cl C X.env) fp) tg g) (ht : ∀ (s : Shared) (H : Hp) (C : Addr) (cl : List (Str × Addr)) (fp : List Addr), PTs (X.blk s H scope (compEnvC scope cl C X.env) fp) ifs tt)
    (hk : ∀ (s : Shared) (H : Hp) (C : Addr) (cl : List (Str × Addr)) (fp : List Addr), PE (X.blk s H scope (compEnvC scope cl C X.env) fp) kx tk)
    (he : ∀ (s : Shared) (H : Hp) (C : Addr) (cl : List (Str × Addr)) (fp : List Addr), PE (X.blk s H scope (compEnvC scope cl C X.env) fp) vx tv) (hs : ∀ x, foldedSetIterable iter X.env x = pure x := by intro _; rfl) :
    PS X (.Assign [.Name y py] (.DictComp kx vx [⟨tg, iter, ifs, 0⟩] scope pos) spos) (tAsg (tDc wi g tt tk tv (own.map (·.2))) (gName i)) := by
  refine ⟨fun pins s σ H D I h => ?_⟩
  rw [exec_Assign_Name_used _ _ _ _ hsw]
  refine wpAny_bind (wpAny_standAt (wpAny_bind ?_))
  show wpAny _ X.A (do let _ ← comprehension (.DictComp kx vx [⟨tg, iter, ifs, 0⟩] scope pos) scope X.env (firstIterPos [⟨tg, iter, ifs, 0⟩] pos) newDict false (eval iter X.env) (some (assign (.Name y py) X.env))) _ _ s
  have h : tDc wi g tt tk tv (own.map (·.2)) σ H (fun x H1 => gName i x σ H1 D.nx) := h
  refine wpAny_bind (thn (dc_core (Qf := fun _ s' => SP X pins D .next s') hc hN I hi ok hg ht hk he hs h fun L C s' m H' I' q hn f => ?_) fun _ s' hq => wpAny_pure (wpAny_pure hq))
  show wpAny _ _ (assign (.Name y py) X.env (.ref L)) _ _ _
  refine wpAny_assign_Name (store_ok2 (v := V.ref L) I' hN hy (.inl hyl) rfl (fun s2 I2 ⟨a, sb, ha⟩ => ?_) (.inr hyl))
  obtain ⟨f0, f1, f2, f3, f4, f5⟩ := f
  have haC : C ≠ a := by
    rcases ha with z | z
    · rw [z]; exact f1
    · exact fun e => f4 y a z e.symm
  refine ⟨m, hn.sameBut sb haC, fun h3 sb3 => ?_⟩
  exact ⟨_, H', I2.turned (t' := s2.toks) (fun b o hb e => (sb3.2 b hb).trans e) f0 f1 f3 f4 f5, q⟩
theorem sw_trueD {kx vx : Expr} {gs : List Comprehension} {scope : Scope} {pos py : Pos} {y : Str} {l : Nat} {env : Env} (hk : env.scope.kind = .function) (hy : env.scope.names.lookup y = some .local) (hl : (py.line == pos.line) = true)
    (ha : (scope.names.any fun (n, k) => n == y && (k == .local || k == .cell)) = false) : swapsWith (.DictComp kx vx gs scope pos) (some (.Name y py)) l env = pure true := by
  have ky : env.kindOf y = some .local := hy
  have hb : env.blockKind = .function := by unfold Env.blockKind; rw [hk]; rfl
  unfold swapsWith
  simp only [hb, ky, ha, Expr.pos, hl]
  rfl
end
/-- a dict comprehension over anything that walks -/
theorem dc_it {J : It} {n : Nat} {G : Hp → Prop} {Y : Nat → Hp → V → Hp → Prop} (w : Walk J n G Y) {g : TG} {tt : TT} {tk tv : TE} {vs : List Nat} {σ : St} {H1 : Hp} {D : Addr} {Qd : Hp → Prop} (Pv : Nat → Hp → Prop) (h0 : Pv 0 (upd H1 D (.dK []))) (hG : ∀ i H, i ≤ n → Pv i H → G H)
    (hs : ∀ i x H H', i < n → Pv i H → Y i H x H' → g x (wipe σ vs) H' fun σ2 H2 => wipe σ2 vs = wipe σ vs ∧ tt σ2 H2 fun b H3 =>
      if b = true then tk σ2 H3 fun y H4 => tv σ2 H4 fun z H5 => ∃ kvs k, y = kV k ∧ H5 D = some (.dK kvs) ∧ kvs.length < sizeLine ∧ Pv (i + 1) (upd H5 D (.dK (putK kvs k z))) else Pv (i + 1) H3) (hd : ∀ H, Pv n H → Qd H) :
    ∃ W : Nat → Nat → Hp → Prop, (∃ m, W 0 m (upd H1 D (.dK []))) ∧ ∀ i m H, W i m H →
      (J.stop i H ∧ Qd H) ∨ (J.go i H ∧ ∃ Nx : Hp → Prop, (∀ H', Nx H' → ∃ m', m' < m ∧ W (i + 1) m' H') ∧ ∀ x H', J.yld i H x H' → g x (wipe σ vs) H' fun σ2 H2 => wipe σ2 vs = wipe σ vs ∧ tt σ2 H2 fun b H3 =>
        if b = true then tk σ2 H3 fun y H4 => tv σ2 H4 fun z H5 => ∃ kvs k, y = kV k ∧ H5 D = some (.dK kvs) ∧ kvs.length < sizeLine ∧ Nx (upd H5 D (.dK (putK kvs k z))) else Nx H3) := by
  refine ⟨fun i m H => m = n - i ∧ i ≤ n ∧ Pv i H, ⟨n, by simp, Nat.zero_le _, h0⟩, ?_⟩
  rintro i m H ⟨rfl, hi, p⟩
  have q := hG i H hi p
  by_cases hlt : i < n
  · exact .inr ⟨w.goes i H hlt q, Pv (i + 1), fun H' p' => ⟨n - (i + 1), by omega, rfl, hlt, p'⟩, fun x H' y => hs i x H H' hlt p (w.yields i H x H' hlt q y)⟩
  · have e : i = n := by omega
    subst e
    exact .inl ⟨w.stops H q, hd H p⟩
end L2

/-! a block in two, with a word between them -/
namespace Sg
open PySem PySem.Spec PyProof.Rows L2 Evl
theorem wp_execs_append {M : Model} {Γ : PySem.Ctx} {env : Env} (rest : List Stmt) : ∀ (ss : List Stmt) (p : Pos) (s : Shared) (Q : Flow → Pos → Shared → Prop) (E : Value → Pos → Shared → Prop),
    Sem.wp M Γ (execs ss env) (fun f p' s' => match f with | .next => Sem.wp M Γ (execs rest env) Q E p' s' | f => Q f p' s') E p s → Sem.wp M Γ (execs (ss ++ rest) env) Q E p s
  | [], p, s, Q, E, h => by
    rw [execs_nil, Sem.wp_pure'] at h
    exact h
  | st :: ss, p, s, Q, E, h => by
    rw [execs_cons, Sem.wp_bind'] at h
    rw [List.cons_append, execs_cons, Sem.wp_bind']
    refine Sem.wp_mono M Γ _ (fun f p' s' h' => ?_) (fun _ _ _ h' => h') _ _ h
    cases f with
    | next => exact wp_execs_append rest ss p' s' Q E h'
    | ret v =>
      rw [Sem.wp_pure'] at h' ⊢
      exact h'
    | brk =>
      rw [Sem.wp_pure'] at h' ⊢
      exact h'
    | cont =>
      rw [Sem.wp_pure'] at h' ⊢
      exact h'
/-- the first n statements, then the rest, with a word between them -/
theorem pss_split {X : Cx} (n : Nat) {ss : List Stmt} {t u : TS} (h1 : PSs X (ss.take n) t) (h2 : PSs X (ss.drop n) u) : PSs X ss (tCut t u) := by
  refine ⟨fun pins s σ H D I h => ?_⟩
  obtain ⟨Mid, hm, hu⟩ := h
  have e : ss = ss.take n ++ ss.drop n := (List.take_append_drop n ss).symm
  rw [e]
  intro Γ p hΓ
  refine wp_execs_append _ _ _ _ _ _ ?_
  refine Sem.wp_mono _ _ _ (fun f p' s' h' => ?_) (fun _ _ _ h' => h') _ _ (h1.run pins s σ H { D with nx := Mid } I hm Γ p hΓ)
  cases f with
  | next =>
    obtain ⟨σ', H', I', q⟩ := h'
    exact h2.run pins s' σ' H' D I' (hu σ' H' q) Γ p' hΓ
  | ret v => exact h'
  | brk => exact h'
  | cont => exact h'
end Sg

/-! what an expression gives, said of its value and of every later heap: nothing that stands is changed -/
namespace Sg
open PySem PySem.Spec PyProof.Rows L2 Evl
/-! ### a part of the heap with what is new -/
/-- F, and what is new since H -/
def ov (F H H' : Hp) : Hp := fun a => if H a = none then H' a else F a
/-- all but p -/
def wo (p : Addr) (H : Hp) : Hp := fun a => if a = p then none else H a
theorem wo_in {p a : Addr} {H : Hp} {o : HO} (n : a ≠ p) (h : H a = some o) : wo p H a = some o := by
  unfold wo
  rw [if_neg n]
  exact h
theorem wo_of {p a : Addr} {H : Hp} {o : HO} (h : wo p H a = some o) : a ≠ p ∧ H a = some o := by
  unfold wo at h
  by_cases z : a = p
  · rw [if_pos z] at h
    cases h
  · rw [if_neg z] at h
    exact ⟨z, h⟩
theorem wo_sub {p : Addr} {H : Hp} : Same (wo p H) H := fun _ _ h => (wo_of h).2
theorem wo_same {p : Addr} {H H' : Hp} (e : Same H H') : Same (wo p H) (wo p H') := fun b o h => wo_in (wo_of h).1 (e b o (wo_of h).2)
theorem wo_none {p : Addr} {F H : Hp} (n : F p = none) (e : Same F H) : Same F (wo p H) := fun b o h => wo_in (fun z => by rw [z, n] at h; cases h) (e b o h)
theorem ov_new {F H H' : Hp} {a : Addr} {o : HO} (n : H a = none) (h : H' a = some o) : ov F H H' a = some o := by
  unfold ov
  rw [if_pos n]
  exact h
theorem ov_of {F H H' : Hp} {a : Addr} {o : HO} (h : ov F H H' a = some o) : (H a = none ∧ H' a = some o) ∨ (H a ≠ none ∧ F a = some o) := by
  unfold ov at h
  by_cases z : H a = none
  · rw [if_pos z] at h
    exact .inl ⟨z, h⟩
  · rw [if_neg z] at h
    exact .inr ⟨z, h⟩
theorem ov_base {F H H' : Hp} (s : Same F H) : Same F (ov F H H') := fun b o q => by
  unfold ov
  rw [if_neg (by rw [s b o q]; simp)]
  exact q
theorem ov_up {F H H' H'' : Hp} (e : Same H' H'') : Same (ov F H H') (ov F H H'') := fun b o q => by
  rcases ov_of q with z | z
  · exact ov_new z.1 (e b o z.2)
  · unfold ov
    rw [if_neg z.1]
    exact z.2
theorem ov_in {F H H' : Hp} (s : Same F H) (e : Same H H') : Same (ov F H H') H' := fun b o q => by
  rcases ov_of q with z | z
  · exact z.2
  · exact e b o (s b o z.2)
theorem ov_tr {F H H1 H2 : Hp} (s : Same F H) (e : Same H H1) : Same (ov F H1 H2) (ov F H H2) := fun b o q => by
  rcases ov_of q with z | z
  · exact ov_new (e.free z.1) z.2
  · exact ov_base s b o z.2
theorem ov_ov {F H H1 H2 : Hp} (s : Same F H) (e : Same H H1) (e2 : Same H1 H2) : Same (ov (ov F H H1) H1 H2) (ov F H H2) := fun b o q => by
  rcases ov_of q with z | z
  · exact ov_new (e.free z.1) z.2
  · exact ov_up e2 b o z.2
theorem ov_self {F H : Hp} (s : Same F H) : Same (ov F H H) F := fun b o q => by
  rcases ov_of q with z | z
  · rw [z.1] at z
    cases z.2
  · exact z.2
theorem wo_ov {p : Addr} {F H H' : Hp} (n : H p = none) (s : Same F H) : Same F (wo p (ov F H H')) := fun b o q => wo_in (fun z => by
  have := s b o q
  rw [z, n] at this
  cases this) (ov_base s b o q)
/-! ### what an expression gives -/
/-- from here on -/
def Bx (R : V → Hp → Prop) (v : V) (H : Hp) : Prop := ∀ H', Same H H' → R v H'
def BxL (R : List V → Hp → Prop) (v : List V) (H : Hp) : Prop := ∀ H', Same H H' → R v H'
theorem Bx.up {R : V → Hp → Prop} {v : V} {H H' : Hp} (b : Bx R v H) (e : Same H H') : Bx R v H' := fun H2 e2 => b H2 (e.trans e2)
theorem Bx.now {R : V → Hp → Prop} {v : V} {H : Hp} (b : Bx R v H) : R v H := b H (Same.refl H)
theorem BxL.up {R : List V → Hp → Prop} {v : List V} {H H' : Hp} (b : BxL R v H) (e : Same H H') : BxL R v H' := fun H2 e2 => b H2 (e.trans e2)
theorem BxL.now {R : List V → Hp → Prop} {v : List V} {H : Hp} (b : BxL R v H) : R v H := b H (Same.refl H)
/-- over F and what is new -/
def Fw (te : TE) (σ : L2.St) (F : Hp) (R : V → Hp → Prop) : Prop := ∀ H, Same F H → ∀ Q : VK, (∀ v H', Same H H' → Bx R v (ov F H H') → Q v H') → te σ H Q
/-- a new list; its items over F and what else is new -/
def FwL (te : TE) (σ : L2.St) (F : Hp) (R : List V → Hp → Prop) : Prop := ∀ H, Same F H → ∀ Q : VK, (∀ p xs H', H p = none → Same H H' → H' p = some (.lst xs) → BxL R xs (wo p (ov F H H')) → Q (.ref p) H') → te σ H Q
def FwA (ta : TA) (σ : L2.St) (F : Hp) (R : List V → Hp → Prop) : Prop := ∀ H, Same F H → ∀ Q : List V → Hp → Prop, (∀ vs H', Same H H' → BxL R vs (ov F H H') → Q vs H') → ta σ H Q
section
variable {K : PySem.W.Frag} {σ : L2.St} {F F' H H' : Hp} {ta tb te tx : TE} {x y z v : V} {r : R2} {R S : V → Hp → Prop} {RL : List V → Hp → Prop}
theorem Fw.imp (h : Fw te σ F R) (i : ∀ v H, Bx R v H → S v H) : Fw te σ F S := fun H e Q q => h H e Q fun v H2 e2 b => q v H2 e2 fun H3 e3 => i v H3 (b.up e3)
theorem FwL.imp {SL : List V → Hp → Prop} (h : FwL te σ F RL) (i : ∀ v H, BxL RL v H → SL v H) : FwL te σ F SL := fun H e Q q => h H e Q fun p v H2 n e2 h2 b => q p v H2 n e2 h2 fun H3 e3 => i v H3 (b.up e3)
theorem fw_ev (h : Ev te σ F v) (b : Bx R v F) : Fw te σ F R := fun H e Q q => h H e Q fun H2 e2 => q v H2 e2 (b.up (ov_base e))
theorem fw_val (h : Ev te σ F v) : Fw te σ F fun u _ => u = v := fw_ev h fun _ _ => rfl
theorem fw_var {i : Nat} (h : σ[i]? = some (some v)) (b : Bx R v F) : Fw (tVar i) σ F R := fw_ev (ev_var h) b
theorem fw_list (h : FwL te σ F RL) : Fw te σ F fun v H => ∃ p xs, v = .ref p ∧ H p = some (.lst xs) ∧ RL xs H := fun H e Q q => h H e Q fun p xs H2 n e2 hp b => q _ H2 e2 fun H3 e3 => ⟨p, xs, rfl, e3 p _ (ov_new n hp), b H3 (wo_sub.trans e3)⟩
theorem fwa_nil : FwA tNil σ F fun vs _ => vs = [] := fun H e _ q => q [] H (Same.refl H) fun _ _ => rfl
theorem fwa_cons {tr : TA} (h : Fw ta σ F R) (hr : FwA tr σ F RL) : FwA (tCons ta tr) σ F fun vs H => ∃ v r, vs = v :: r ∧ R v H ∧ RL r H := fun H e _ q =>
  h H e _ fun v H2 e2 b => hr H2 (e.trans e2) _ fun vs H3 e3 c => q _ H3 (e2.trans e3) fun H4 e4 => ⟨v, vs, rfl, b H4 ((ov_up e3).trans e4), c H4 ((ov_tr e e2).trans e4)⟩
theorem fwa_imp {ta : TA} {R S : List V → Hp → Prop} (h : FwA ta σ F R) (i : ∀ v H, BxL R v H → S v H) : FwA ta σ F S := fun H e Q q => h H e Q fun v H2 e2 b => q v H2 e2 fun H3 e3 => i v H3 (b.up e3)
theorem fwa_ev {ta : TA} {vs : List V} (h : EvA ta σ F vs) : FwA ta σ F fun us _ => us = vs := fun H e Q q => h H e Q fun H2 e2 => q vs H2 e2 fun _ _ => rfl
theorem fw_tup {ta : TA} (h : FwA ta σ F RL) (hl : ∀ vs H, RL vs H → vs.length ≤ 100000) : Fw (tTup ta) σ F fun v H => ∃ a vs, v = .ref a ∧ H a = some (.tup vs) ∧ RL vs H := fun H e _ q =>
  h H e _ fun vs H2 e2 b => ⟨sz_of (hl vs _ b.now), fun p hp => q (.ref p) _ (e2.trans (Ex.new hp)) fun H3 e3 => ⟨p, vs, rfl, e3 p _ (ov_new (fresh_back e2 hp) upd_same), b H3 ((ov_up (Ex.new hp)).trans e3)⟩⟩
theorem fwl_lst {ta : TA} (h : FwA ta σ F RL) (hl : ∀ vs H, RL vs H → vs.length ≤ 100000) : FwL (tLst ta) σ F RL := fun H e _ q =>
  h H e _ fun vs H2 e2 b => ⟨sz_of (hl vs _ b.now), fun p hp => q p vs _ (fresh_back e2 hp) (e2.trans (Ex.new hp)) upd_same (b.up fun c o z => wo_in (fun y => by
    rw [y] at z
    rcases ov_of z with w | w
    · rw [hp] at w
      cases w.2
    · exact w.1 (fresh_back e2 hp)) (ov_up (Ex.new hp) c o z))⟩
/-- a call of a def that changes nothing -/
theorem fw_call {sp : Sp} {dvs : List V} {E : XK} {ta : TA} (h : FwA ta σ F RL) (hs : ∀ vs H G, Same F G → Same G H → BxL RL vs G → ∀ Q : VK, (∀ v H', Same H H' → Bx R v (ov G H H') → Q v H') → sp (vs ++ dvs) H Q E) : Fw (tCall sp dvs E ta) σ F R := fun H e Q q =>
  h H e _ fun vs H2 e2 b => hs vs H2 (ov F H H2) (ov_base e) (ov_in e e2) b Q fun v H3 e3 c => q v H3 (e2.trans e3) (c.up (ov_ov e e2 e3))
theorem fwl_call {sp : Sp} {dvs : List V} {E : XK} {ta : TA} {SL : List V → Hp → Prop} (h : FwA ta σ F RL) (hs : ∀ vs H G, Same F G → Same G H → BxL RL vs G → ∀ Q : VK, (∀ p xs H', H p = none → Same H H' → H' p = some (.lst xs) → BxL SL xs (wo p (ov G H H')) → Q (.ref p) H') → sp (vs ++ dvs) H Q E) : FwL (tCall sp dvs E ta) σ F SL := fun H e Q q =>
  h H e _ fun vs H2 e2 b => hs vs H2 (ov F H H2) (ov_base e) (ov_in e e2) b Q fun p xs H3 hp e3 h3 c => q p xs H3 (fresh_back e2 hp) (e2.trans e3) h3 (c.up (wo_same (ov_ov e e2 e3)))
theorem fw_cb {r : List V → Hp → VK → Prop} {ta : TA} (h : FwA ta σ F RL) (hs : ∀ vs H G, Same F G → Same G H → BxL RL vs G → ∀ Q : VK, (∀ v H', Same H H' → Bx R v (ov G H H') → Q v H') → r vs H Q) : Fw (tCB r ta) σ F R := fun H e Q q =>
  h H e _ fun vs H2 e2 b => hs vs H2 (ov F H H2) (ov_base e) (ov_in e e2) b Q fun v H3 e3 c => q v H3 (e2.trans e3) (c.up (ov_ov e e2 e3))
theorem fwl_cb {r : List V → Hp → VK → Prop} {ta : TA} {SL : List V → Hp → Prop} (h : FwA ta σ F RL) (hs : ∀ vs H G, Same F G → Same G H → BxL RL vs G → ∀ Q : VK, (∀ p xs H', H p = none → Same H H' → H' p = some (.lst xs) → BxL SL xs (wo p (ov G H H')) → Q (.ref p) H') → r vs H Q) : FwL (tCB r ta) σ F SL := fun H e Q q =>
  h H e _ fun vs H2 e2 b => hs vs H2 (ov F H H2) (ov_base e) (ov_in e e2) b Q fun p xs H3 hp e3 h3 c => q p xs H3 (fresh_back e2 hp) (e2.trans e3) h3 (c.up (wo_same (ov_ov e e2 e3)))
theorem fw_op (ha : Fw ta σ F R) (hb : Fw tb σ F S) {T : V → Hp → Prop} (hr : ∀ x y H G, Same F G → Same G H → Bx R x G → Bx S y G → ∀ Q : VK, (∀ v H', Same H H' → Bx T v (ov G H H') → Q v H') → r x y H Q) : Fw (tOp r ta tb) σ F T := fun H e Q q =>
  ha H e _ fun x H2 e2 b => hb H2 (e.trans e2) _ fun y H3 e3 c => hr x y H3 (ov F H H3) (ov_base e) (ov_in e (e2.trans e3)) (b.up (ov_up e3)) (c.up (ov_tr e e2)) Q fun v H4 e4 d => q v H4 ((e2.trans e3).trans e4) (d.up (ov_ov e (e2.trans e3) e4))
theorem fwl_op (ha : Fw ta σ F R) (hb : Fw tb σ F S) {T : List V → Hp → Prop} (hr : ∀ x y H G, Same F G → Same G H → Bx R x G → Bx S y G → ∀ Q : VK, (∀ p xs H', H p = none → Same H H' → H' p = some (.lst xs) → BxL T xs (wo p (ov G H H')) → Q (.ref p) H') → r x y H Q) : FwL (tOp r ta tb) σ F T := fun H e Q q =>
  ha H e _ fun x H2 e2 b => hb H2 (e.trans e2) _ fun y H3 e3 c => hr x y H3 (ov F H H3) (ov_base e) (ov_in e (e2.trans e3)) (b.up (ov_up e3)) (c.up (ov_tr e e2)) Q fun p xs H4 n e4 h4 d => q p xs H4 (fresh_back (e2.trans e3) n) ((e2.trans e3).trans e4) h4 (d.up (wo_same (ov_ov e (e2.trans e3) e4)))
theorem fw_if {t : TT} {b : Bool} (h : EvT t σ F b) (h1 : b = true → Fw ta σ F R) (h2 : b = false → Fw tb σ F R) : Fw (tIf t ta tb) σ F R := fun H e Q q => h H e _ fun H2 e2 => by
  cases b with
  | true =>
    show ta σ H2 Q
    exact h1 rfl H2 (e.trans e2) Q fun v H3 e3 c => q v H3 (e2.trans e3) (c.up (ov_tr e e2))
  | false =>
    show tb σ H2 Q
    exact h2 rfl H2 (e.trans e2) Q fun v H3 e3 c => q v H3 (e2.trans e3) (c.up (ov_tr e e2))
/-! ### statements: G, the part that is known then -/
variable {D : Ends} {tz : TS}
theorem r_fw (h : Fw te σ F R) (e : Same F H) (k : ∀ v H', Same H H' → Bx R v (ov F H H') → D.rt v H') : tRet te D σ H := h H e _ k
theorem r_fwL (h : FwL te σ F RL) (e : Same F H) (k : ∀ p xs H', H p = none → Same H H' → H' p = some (.lst xs) → BxL RL xs (wo p (ov F H H')) → D.rt (.ref p) H') : tRet te D σ H := h H e _ k
theorem w_asg {i : Nat} (h : Fw te σ F R) (e : Same F H) (k : ∀ v H', Same H H' → Bx R v (ov F H H') → D.nx (σ.set i (some v)) H') : tAsg te (gName i) D σ H := h H e _ k
theorem w_asgL {i : Nat} (h : FwL te σ F RL) (e : Same F H) (k : ∀ p xs H', H p = none → Same H H' → H' p = some (.lst xs) → BxL RL xs (wo p (ov F H H')) → D.nx (σ.set i (some (.ref p))) H') : tAsg te (gName i) D σ H := h H e _ k
theorem qw_asg {i : Nat} (h : Fw te σ F R) (e : Same F H) (k : ∀ v H', Same H H' → Bx R v (ov F H H') → tz D (σ.set i (some v)) H') : tSeq (tAsg te (gName i)) tz D σ H := h H e _ k
theorem qw_asgL {i : Nat} (h : FwL te σ F RL) (e : Same F H) (k : ∀ p xs H', H p = none → Same H H' → H' p = some (.lst xs) → BxL RL xs (wo p (ov F H H')) → tz D (σ.set i (some (.ref p))) H') : tSeq (tAsg te (gName i)) tz D σ H := h H e _ k
/-! ### comprehensions: an item of the new list for each of the old -/
/-- item by item -/
def Each (n : Nat) (R : Nat → V → Hp → Prop) (ys : List V) (H : Hp) : Prop := ys.length = n ∧ ∀ i y, ys[i]? = some y → R i y H
def Lw (F H : Hp) (R : Nat → V → Hp → Prop) (Dl : Addr) (i : Nat) (H' : Hp) : Prop := Same H H' ∧ ∃ ys, H' Dl = some (.lst ys) ∧ ys.length = i ∧ ∀ j y, ys[j]? = some y → Bx (R j) y (wo Dl (ov F H H'))
theorem lw_turn {F H H' : Hp} {R : Nat → V → Hp → Prop} {Dl : Addr} {i : Nat} {σ2 : L2.St} (s : Same F H) (n : H Dl = none) (p : Lw F H R Dl i H') (hi : i < 50000) (he : Fw te σ2 F (R i)) :
    te σ2 H' fun y H4 => ∃ acc, H4 Dl = some (.lst acc) ∧ acc.length < sizeLine ∧ Lw F H R Dl (i + 1) (upd H4 Dl (.lst (acc ++ [y]))) := by
  obtain ⟨e, ys, hD, hl, hb⟩ := p
  refine he H' (s.trans e) _ fun y H4 e4 b => ⟨ys, e4 _ _ hD, sz_lt (by omega), Ex.mut (e.trans e4) n, ys ++ [y], upd_same, by rw [List.length_append, hl]; rfl, fun j z hz => ?_⟩
  have up : Same (wo Dl (ov F H H')) (wo Dl (ov F H (upd H4 Dl (.lst (ys ++ [y]))))) := fun c o q => by
    have w := wo_of q
    refine wo_in w.1 ?_
    rcases ov_of w.2 with u | u
    · exact ov_new u.1 (by rw [upd_ne w.1]; exact e4 _ _ u.2)
    · exact ov_base s c o u.2
  by_cases hj : j < i
  · rw [List.getElem?_append_left (by omega)] at hz
    exact (hb j z hz).up up
  · have hj2 : j = i := by
      have := (List.getElem?_eq_some_iff.mp hz).1
      rw [List.length_append, hl] at this
      simp only [List.length_singleton] at this
      omega
    subst hj2
    rw [← hl, List.getElem?_append_right (Nat.le_refl _), Nat.sub_self] at hz
    cases hz
    refine b.up fun c o q => ?_
    have cD : c ≠ Dl := fun z => by
      rw [z] at q
      rcases ov_of q with u | u
      · rw [hD] at u
        cases u.1
      · have := s _ _ u.2
        rw [n] at this
        cases this
    refine wo_in cD ?_
    rcases ov_of q with u | u
    · exact ov_new (e.free u.1) (by rw [upd_ne cD]; exact u.2)
    · exact ov_base s c o u.2
theorem lw_end {F H H' : Hp} {R : Nat → V → Hp → Prop} {Dl : Addr} {i : Nat} (p : Lw F H R Dl i H') : ∃ ys, H' Dl = some (.lst ys) ∧ BxL (Each i R) ys (wo Dl (ov F H H')) := by
  obtain ⟨e, ys, hD, hl, hb⟩ := p
  exact ⟨ys, hD, fun H2 e2 => ⟨hl, fun j y hy => (hb j y hy) H2 e2⟩⟩
theorem lw_start {F H : Hp} {R : Nat → V → Hp → Prop} {Dl : Addr} (n : H Dl = none) : Lw F H R Dl 0 (upd H Dl (.lst [])) := ⟨Ex.new n, [], upd_same, rfl, fun j y h => by simp at h⟩
/-- over a list -/
theorem fwl_lcL {a : Addr} {xs : List V} {tl : TE} {j : Nat} {vs : List Nat} (R : Nat → V → Hp → Prop) (h : Ev tl σ F (.ref a)) (hx : SqL K F a xs) (hz : xs.length ≤ 40000) (hw : ∀ x, wipe ((wipe σ vs).set j (some x)) vs = wipe σ vs)
    (he : ∀ (i : Nat) (x : V), xs[i]? = some x → Fw te ((wipe σ vs).set j (some x)) F (R i)) : FwL (tLc (iList K tl) (gName j) tYes te vs) σ F (Each xs.length R) := fun H e Q q =>
  h H e _ fun H1 e1 => ⟨a, rfl, ⟨xs, ex_l (e.trans e1) hx⟩, fun Dl hD => lc_list (xs := xs) (Lw F H1 R Dl) (lw_start hD) (fun i H' _ p => ex_l ((e.trans e1).trans p.1) hx)
    (fun i x H' hi p => ⟨hw x, by
      have := lw_turn (e.trans e1) hD p (by have := (List.getElem?_eq_some_iff.mp hi).1; omega) (he i x hi)
      exact this⟩)
    (fun H' p => by
      obtain ⟨ys, hy, b⟩ := lw_end p
      exact q Dl ys H' (fresh_back e1 hD) (e1.trans p.1) hy (b.up (wo_same (ov_tr e e1))))⟩
theorem fwl_lcT {a : Addr} {xs : List V} {tl : TE} {j : Nat} {vs : List Nat} (R : Nat → V → Hp → Prop) (h : Ev tl σ F (.ref a)) (hx : SqT K F a xs) (hz : xs.length ≤ 40000) (hw : ∀ x, wipe ((wipe σ vs).set j (some x)) vs = wipe σ vs)
    (he : ∀ (i : Nat) (x : V), xs[i]? = some x → Fw te ((wipe σ vs).set j (some x)) F (R i)) : FwL (tLc (iTup K tl) (gName j) tYes te vs) σ F (Each xs.length R) := fun H e Q q =>
  h H e _ fun H1 e1 => ⟨a, rfl, ⟨xs, ex_t (e.trans e1) hx⟩, fun Dl hD => lc_tup (xs := xs) (Lw F H1 R Dl) (lw_start hD) (fun i H' _ p => ex_t ((e.trans e1).trans p.1) hx)
    (fun i x H' hi p => ⟨hw x, by
      have := lw_turn (e.trans e1) hD p (by have := (List.getElem?_eq_some_iff.mp hi).1; omega) (he i x hi)
      exact this⟩)
    (fun H' p => by
      obtain ⟨ys, hy, b⟩ := lw_end p
      exact q Dl ys H' (fresh_back e1 hD) (e1.trans p.1) hy (b.up (wo_same (ov_tr e e1))))⟩
end
end Sg

/-! new tuples; a comprehension over one -/
namespace Sg
open PySem PySem.Spec PyProof.Rows L2 Evl
section
variable {K : PySem.W.Frag} {σ : L2.St} {F H : Hp} {ta tb te : TE}
theorem eu_slT {tl th : TO} {a : Addr} {xs : List V} {lo hi : Option Int} (h : Ev te σ H (.ref a)) (h1 : EvO tl σ H lo) (h2 : EvO th σ H hi) (hs : SqT K H a xs) (hn : ¬ (HT.sIx xs.length 0 lo = 0 ∧ HT.sIx xs.length xs.length hi = xs.length)) : EvU (tSl (rSlT K) te tl th) σ H (cutV xs lo hi) := fun H1 e _ q =>
  h H1 e _ fun H2 e2 => h1 H2 (e.trans e2) _ fun H3 e3 => h2 H3 ((e.trans e2).trans e3) _ fun H4 e4 =>
    ⟨a, xs, rfl, ex_t (((e.trans e2).trans e3).trans e4) hs, hn, fun p hp => q p _ (fresh_back ((e2.trans e3).trans e4) hp) (((e2.trans e3).trans e4).trans (Ex.new hp)) upd_same⟩
def rTupS (K : PySem.W.Frag) : List V → Hp → VK → Prop := fun xs H Q => ∃ p ys, xs = [.ref p] ∧ ((SqL K H p ys ∧ ∀ l, H l = none → Q (.ref l) (upd H l (.tup ys))) ∨ (SqT K H p ys ∧ Q (.ref p) H))
theorem eu_tupleL {p : Addr} {xs : List V} (ha : Ev ta σ H (.ref p)) (h : SqL K H p xs) : EvU (tCB (rTupS K) (tCons ta tNil)) σ H xs := fun H1 e Q q =>
  ha H1 e _ fun H2 e2 => ⟨p, xs, rfl, .inl ⟨ex_l (e.trans e2) h, fun l hl => q l _ (fresh_back e2 hl) (e2.trans (Ex.new hl)) upd_same⟩⟩
theorem eu_cat {xs ys : List V} (ha : EvU ta σ H xs) (hb : EvU tb σ H ys) (hx : xs ≠ []) (hy : ys ≠ []) (hl : xs.length + ys.length ≤ 100000) : EvU (tOp (rCatT K) ta tb) σ H (xs ++ ys) := fun H1 e Q q =>
  ha H1 e _ fun p H2 np e2 h2 => hb H2 (e.trans e2) _ fun r H3 nr e3 h3 => ⟨p, r, xs, ys, rfl, rfl, st_of (e3 p _ h2), st_of h3, hx, sz_of hl, fun z => absurd z hy, fun _ t ht => q t _ (fresh_back (e2.trans e3) ht) ((e2.trans e3).trans (Ex.new ht)) upd_same⟩
/-- over a new tuple -/
theorem fwl_lcNT {xs : List V} {tl : TE} {j : Nat} {vs : List Nat} (R : Nat → V → Hp → Prop) (h : EvU tl σ F xs) (hz : xs.length ≤ 40000) (hw : ∀ x, wipe ((wipe σ vs).set j (some x)) vs = wipe σ vs)
    (he : ∀ (i : Nat) (x : V), xs[i]? = some x → Fw te ((wipe σ vs).set j (some x)) F (R i)) : FwL (tLc (iTup K tl) (gName j) tYes te vs) σ F (Each xs.length R) := fun H e Q q =>
  h H e _ fun a H1 ha e1 hx => ⟨a, rfl, ⟨xs, st_of hx⟩, fun Dl hD => lc_tup (xs := xs) (Lw F H1 R Dl) (lw_start hD) (fun i H' _ p => st_of (p.1 a _ hx))
    (fun i x H' hi p => ⟨hw x, by
      have := lw_turn (e.trans e1) hD p (by have := (List.getElem?_eq_some_iff.mp hi).1; omega) (he i x hi)
      exact this⟩)
    (fun H' p => by
      obtain ⟨ys, hy, b⟩ := lw_end p
      exact q Dl ys H' (fresh_back e1 hD) (e1.trans p.1) hy (b.up (wo_same (ov_tr e e1))))⟩
/-- over a new list -/
theorem fwl_lcNL {xs : List V} {tl : TE} {j : Nat} {vs : List Nat} (R : Nat → V → Hp → Prop) (h : EvL tl σ F xs) (hz : xs.length ≤ 40000) (hw : ∀ x, wipe ((wipe σ vs).set j (some x)) vs = wipe σ vs)
    (he : ∀ (i : Nat) (x : V), xs[i]? = some x → Fw te ((wipe σ vs).set j (some x)) F (R i)) : FwL (tLc (iList K tl) (gName j) tYes te vs) σ F (Each xs.length R) := fun H e Q q =>
  h H e _ fun a H1 ha e1 hx => ⟨a, rfl, ⟨xs, sq_of hx⟩, fun Dl hD => lc_list (xs := xs) (Lw F H1 R Dl) (lw_start hD) (fun i H' _ p => sq_of (p.1 a _ hx))
    (fun i x H' hi p => ⟨hw x, by
      have := lw_turn (e.trans e1) hD p (by have := (List.getElem?_eq_some_iff.mp hi).1; omega) (he i x hi)
      exact this⟩)
    (fun H' p => by
      obtain ⟨ys, hy, b⟩ := lw_end p
      exact q Dl ys H' (fresh_back e1 hD) (e1.trans p.1) hy (b.up (wo_same (ov_tr e e1))))⟩
end
end Sg

/-! lists that grow; what stands beside a list that changes -/
namespace Sg
open PySem PySem.Spec PyProof.Rows L2 Evl
section
variable {K : PySem.W.Frag} {σ : L2.St} {F H H' : Hp} {ta tb te : TE} {R : V → Hp → Prop} {RL : List V → Hp → Prop} {D : Ends} {tz : TS}
/-- xs.append(e) -/
theorem w_app {l : Addr} {xs : List V} (hl : H l = some (.lst xs)) (ha : Ev ta σ H (.ref l)) (h : Fw te σ F R) (e : Same F H) (hz : xs.length < sizeLine) (k : ∀ v H1, Same H H1 → Bx R v (ov F H H1) → D.nx σ (upd H1 l (.lst (xs ++ [v])))) :
    tDrop (tBM K "list" rAppend ta (tCons te tNil)) D σ H := ha H (Ex.refl H) _ fun H1 e1 =>
  ⟨Or.inl ⟨rfl, xs, sq_of (e1 l _ hl)⟩, h H1 (e.trans e1) _ fun v H2 e2 b => ⟨l, xs, v, rfl, rfl, e2 l _ (e1 l _ hl), hz, k v H2 (e1.trans e2) (b.up (ov_tr e e1))⟩⟩
/-- xs.extend(a new list) -/
theorem w_extL {l : Addr} {xs : List V} (hl : H l = some (.lst xs)) (ha : Ev ta σ H (.ref l)) (h : FwL te σ F RL) (e : Same F H) (hz : ∀ ys G, RL ys G → xs.length + ys.length ≤ sizeLine) (k : ∀ p ys H1, H p = none → Same H H1 → H1 p = some (.lst ys) → BxL RL ys (wo p (ov F H H1)) → D.nx σ (upd H1 l (.lst (xs ++ ys)))) :
    tDrop (tBM K "list" rExtend ta (tCons te tNil)) D σ H := ha H (Ex.refl H) _ fun H1 e1 =>
  ⟨Or.inl ⟨rfl, xs, sq_of (e1 l _ hl)⟩, h H1 (e.trans e1) _ fun p ys H2 np e2 hp b => ⟨l, p, xs, ys, rfl, rfl, e2 l _ (e1 l _ hl), hp, hz ys _ b.now, k p ys H2 (fresh_back e1 np) (e1.trans e2) hp (b.up (wo_same (ov_tr e e1)))⟩⟩
/-- the part that is known beside a list of one's own -/
def bs (tk : Addr) (F H H' : Hp) : Hp := wo tk (ov F H H')
theorem bs_up {tk : Addr} {H'' : Hp} (e : Same H' H'') : Same (bs tk F H H') (bs tk F H H'') := wo_same (ov_up e)
theorem bs_put {tk : Addr} {o : HO} : bs tk F H (upd H' tk o) = bs tk F H H' := by
  funext a
  unfold bs wo ov
  by_cases z : a = tk
  · rw [if_pos z, if_pos z]
  · rw [if_neg z, if_neg z, upd_ne z]
theorem bs_base {tk : Addr} (s : Same F H) (n : H tk = none) : Same F (bs tk F H H') := wo_ov n s
theorem bs_in {tk : Addr} (s : Same F H) (n : ∀ b o, b ≠ tk → H b = some o → H' b = some o) : Same (bs tk F H H') H' := fun b o q => by
  have w := wo_of q
  rcases ov_of w.2 with z | z
  · exact z.2
  · exact n b o w.1 (s b o z.2)
theorem bs_new {tk a : Addr} {o : HO} (n : H a = none) (h : a ≠ tk) (e : H' a = some o) : bs tk F H H' a = some o := wo_in h (ov_new n e)
/-- from what is new behind H' to what is new behind H, a list apart -/
theorem bs_ov {tk p : Addr} {H'' : Hp} (s : Same F H) (n : H tk = none) (ht : H' tk ≠ none) (e : ∀ a, H' a = none → H a = none) (e2 : Same H' H'') (k : Same (bs tk F H H') H') : Same (ov (bs tk F H H') H' H'') (bs tk F H H'') := fun b o q => by
  rcases ov_of q with z | z
  · exact bs_new (e b z.1) (fun y => ht (y ▸ z.1)) z.2
  · exact bs_up e2 b o z.2
/-- a comprehension over a new list of which its items are known -/
theorem fwl_lcFL {SL : List V → Hp → Prop} {n : Nat} {tl : TE} {j : Nat} {vs : List Nat} (R : Nat → V → Hp → Prop) (h : FwL tl σ F SL) (hn : ∀ xs G, SL xs G → xs.length = n) (hz : n ≤ 40000) (hw : ∀ x, wipe ((wipe σ vs).set j (some x)) vs = wipe σ vs)
    (he : ∀ (xs : List V) (G : Hp), Same F G → BxL SL xs G → ∀ (i : Nat) (x : V), xs[i]? = some x → Fw te ((wipe σ vs).set j (some x)) G (R i)) : FwL (tLc (iList K tl) (gName j) tYes te vs) σ F (Each n R) := fun H e Q q =>
  h H e _ fun p xs H1 np e1 hp b => by
    have hl := hn xs _ b.now
    have sG : Same (wo p (ov F H H1)) H1 := wo_sub.trans (ov_in e e1)
    have sF : Same F (wo p (ov F H H1)) := wo_ov np e
    refine ⟨p, rfl, ⟨xs, sq_of hp⟩, fun Dl hD => lc_list (xs := xs) (Lw (wo p (ov F H H1)) H1 R Dl) (lw_start hD) (fun i H' _ r => sq_of (r.1 p _ hp)) (fun i x H' hi r => ⟨hw x, ?_⟩) (fun H' r => ?_)⟩
    · have := lw_turn sG hD r (by have := (List.getElem?_eq_some_iff.mp hi).1; omega) (he xs _ sF b i x hi)
      exact this
    · obtain ⟨ys, hy, bb⟩ := lw_end r
      rw [hl] at bb
      refine q Dl ys H' (fresh_back e1 hD) (e1.trans r.1) hy (bb.up (wo_same fun c o z => ?_))
      rcases ov_of z with y | y
      · exact ov_new (e1.free y.1) y.2
      · exact ov_up r.1 c o (wo_of y.2).2
end
/-! within a comprehension: the frame's written part by its own name -/
theorem ix_tupK {X : Cx} {K : PySem.W.Frag} (h : X.K = K) : IxR X (rIxT K) := by
  subst h
  exact ix_tup
theorem ix_listK {X : Cx} {K : PySem.W.Frag} (h : X.K = K) : IxR X (rIxL K) := by
  subst h
  exact ix_list
theorem call_len_seqK {X : Cx} {K : PySem.W.Frag} (h : X.K = K) : CallR X (.builtin "len") (rLenS K) := by
  subst h
  exact call_len_seq
theorem pe_bmK {X : Cx} {K : PySem.W.Frag} {T name id : String} {r : V → List V → Hp → VK → Prop} {o e : Expr} {es : List Expr} {to : TE} {t : TA} {apos cpos : Pos} (hK : X.K = K) (pa : PlainAttrs T) (slot : Slot T name id) (hty : typeOf (.builtin id) = pure (.type "method_descriptor")) (hm : MtR X id r) (ho : PE X o to) (ha : PA X (e :: es) t)
    (h1 : attributeBase o (Str.ofString name) X.env (eval o X.env) = eval o X.env := by rfl)
    (h2 : ((backTo cpos (starEach (e :: es) X.env)).all (fun x => !x.1) && (backToKw cpos (keywordEach [] X.env)).all (fun x => x.1.isSome)
      && decide ((e :: es).length + ([] : List Keyword).length + (if ([] : List Keyword).isEmpty then 0 else 1) < 30)) = true := by rfl)
    (h3 : (apos.endLine == cpos.line) = true := by rfl) (h4 : starEach (e :: es) X.env = (false, eval e X.env) :: starEach es X.env := by rfl) (h5 : (backTo cpos (starEach es X.env)).any (·.1) = false := by rfl) :
    PE X (.Call (.Attribute o (Str.ofString name) apos) (e :: es) [] cpos) (tBM K T r to t) := by
  subst hK
  exact pe_bm pa slot hty hm ho ha h1 h2 h3 h4 h5
end Sg

/-! calls of defs that raise; comparisons of deep data; two except clauses with a name -/
namespace Sg
open PySem PySem.Spec PyProof.Rows L2
/-- a def that may raise, ready to be called -/
structure CalX (P : Program) (w : World) (K : PySem.W.Frag) (mg : Str → Option Value) (base : Heap) (k : Nat) (x : Str) (sp : Sp) : Prop where
  ex : ∃ (f : Addr) (fd : FuncData) (ps : List Str), FnOk P w K mg base (L2.CX P w) k f fd ps sp ∧ mg x = some (.ref f) ∧ PySem.W.keepIn K (.ref f) = true ∧ Binds K fd ps []
theorem pe_cX {X : Cx} {k j : Nat} {x : Str} {sp : Sp} {p pos : Pos} {e : Expr} {es : List Expr} {t : TA} {W : WX} (c : CalX X.prog X.w X.K X.mg X.base k x sp) (hr : Room j X.A) (hk : k ≤ j) (hg : Gl X x) (tk : Takes X W) (ha : PA X (e :: es) t)
    (hdb : (x == ("__debug__" : Str)) = false := by decide) (he : starEach (e :: es) X.env = (false, eval e X.env) :: starEach es X.env := by rfl) (hpl : (backTo pos (starEach es X.env)).any (·.1) = false := by rfl) :
    PE X (.Call (.Name x p) (e :: es) [] pos) (tCallS sp (WE W) t) := by
  obtain ⟨f, fd, ps, F, hm, kp, b⟩ := c.ex
  exact pe_callS F (hr.mono hk) hg hm kp b (fun σ => passAt tk σ) ha hdb he hpl
/-- what is known of an own class of errors -/
structure ExC (K : PySem.W.Frag) (mg : Str → Option Value) (C : Addr) (x : Str) : Prop where
  g : mg x = some (.ref C)
  x : PySem.W.excIn K C [.type "ValueError", .type "Exception", .type "BaseException", .type "object"] "ValueError.__new__" = true
  k : PySem.W.keepIn K (.ref C) = true
  b : PySem.W.subIn K (.ref C) (.type "BaseException") = some true
  t : PySem.W.typeIn K (.ref C) = some (.type "type")
/-! ### == and != of data, deep on one side at most -/
def rEqW (K : PySem.W.Frag) : R2 := fun x y H Q => ∃ d e, Dp K H x d ∧ Dp K H y e ∧ d.canLay0 = true ∧ e.canLay0 = true ∧ min d.depth e.depth ≤ 220 ∧ Q (.bl (PyData.eqv d e)) H
def rNeW (K : PySem.W.Frag) : R2 := fun x y H Q => ∃ d e, Dp K H x d ∧ Dp K H y e ∧ d.canLay0 = true ∧ e.canLay0 = true ∧ min d.depth e.depth ≤ 220 ∧ Q (.bl (!PyData.eqv d e)) H
section
variable {X : Cx}
theorem op_eqW (hu : X.A.units + 230 < cLine) : OpR X (compareOp .Eq) (rEqW X.K) := by
  intro pins s σ H x y v u Q I rx ry h
  obtain ⟨d, e, hd, he, sd, se, hm, q⟩ := h
  obtain ⟨as, r1⟩ := Dp.reads I d x v hd rx
  obtain ⟨bs, r2⟩ := Dp.reads I e y u he ry
  exact SeqAt.compareEq_reads r1 r2 sd se (by omega) ⟨.bl _, H, I, rfl, q⟩
theorem op_neW (hu : X.A.units + 230 < cLine) : OpR X (compareOp .NotEq) (rNeW X.K) := by
  intro pins s σ H x y v u Q I rx ry h
  obtain ⟨d, e, hd, he, sd, se, hm, q⟩ := h
  obtain ⟨as, r1⟩ := Dp.reads I d x v hd rx
  obtain ⟨bs, r2⟩ := Dp.reads I e y u he ry
  exact SeqAt.compareNe_reads r1 r2 sd se (by omega) ⟨.bl _, H, I, rfl, q⟩
end
end Sg

/-! several except clauses, each giving the error the same name -/
namespace Sg
open PySem PySem.Spec PyProof.Rows L2
/-- the ways behind a clause: its name is gone -/
def goneE (i : Nat) (D : Ends) : Ends := { nx := fun τ G => D.nx (τ.set i none) G, rt := D.rt, bk := fun τ G => D.bk (τ.set i none) G, ct := fun τ G => D.ct (τ.set i none) G }
def wAsM (K : PySem.W.Frag) (i : Nat) (Wo : WX) (D : Ends) : List (Value × (Addr → Value → Option Addr → TS)) → WX
  | [] => Wo
  | (c, ts) :: r => fun cls d τ G => ∃ b, PySem.W.exmOne K cls c = some b ∧ (b = true → ∀ a, G a = none → ts a cls d (goneE i D) (τ.set i (some (.ref a))) G) ∧ (b = false → wAsM K i Wo D r cls d τ G)
inductive HdsAs (X : Cx) (n : Str) : List ExceptHandler → List (Value × (Addr → Value → Option Addr → TS)) → Prop
  | nil : HdsAs X n [] []
  | cons {x : Str} {c : Value} {ts : Addr → Value → Option Addr → TS} {st : Stmt} {su : List Stmt} {p1 p2 : Pos} {hds : List ExceptHandler} {l : List (Value × (Addr → Value → Option Addr → TS))} (hc : Names X x c)
      (hsu : ∀ (a : Addr) (oe : Obj) (cls : Value) (d : Option Addr) (pn : List (Addr × Obj)), Zc cls d oe → (∃ vs, oe.data = .fields vs) → PSs (X.suite a ((a, oe) :: pn)) (st :: su) (ts a cls d)) (r : HdsAs X n hds l) :
      HdsAs X n (.ExceptHandler (some (.Name x p1)) (some n) (st :: su) p2 :: hds) ((c, ts) :: l)
section
variable {X : Cx} {body : List Stmt} {hd1 : ExceptHandler} {hds : List ExceptHandler} {l : List (Value × (Addr → Value → Option Addr → TS))} {pos : Pos} {tb : WX → TS} {Wout : WX} {i : Nat} {n : Str}
theorem ps_try_manyAs (hs : X.stack = X.env :: X.outer) (hf : X.env.frame = some X.env.locals) (hN : X.N.Nodup) (hi : X.N[i]? = some n) (hln : X.env.kindOf n = some .local) (tk : Takes X Wout)
    (hb : ∀ (W : WX) (pn : List (Addr × Obj)) (xe : Value → Shared → Prop), Takes (X.tr pn xe) W → PassesOwn (model X.prog X.w) X.A X.env xe → PSs (X.tr pn xe) body (tb W))
    (hh : HdsAs X n (hd1 :: hds) l) : PS X (.Try body (hd1 :: hds) [] [] pos) (fun D σ H => tb (wAsM X.K i Wout D l) D σ H) := by
  refine ⟨fun pins s0 σ0 H0 D I0 rd0 => ?_⟩
  have okX := I0.ok
  have frm : X.A.frames = some (X.env :: X.outer) := by rw [okX.frames, hs]
  have lcl : Loc X.env.scope n := .inl hln
  refine wpAny_Try_except ?_
  refine wpAny_mono ((hb (wAsM X.K i Wout D l) (X.pn ++ pins) (fun er t1 => wpAny (model X.prog X.w) X.A (noteFrame er X.env) (fun _ t2 => wpAny (model X.prog X.w) X.A (setFlight er none) (fun _ t3 =>
    wpAny (model X.prog X.w) X.A (handleBy er X.env (hd1 :: hds)) (SP X pins D) X.xe t3) X.xe t2) X.xe t1) (fun u tq xx => ?_) PassesOwn.looking).run [] s0 σ0 H0 D (I0.toTry _) rd0) (fun fl t1 hsp => ?_) (fun _ _ q => q)
  · obtain ⟨a, Bh, sI, pinq, τ, G, cls, d, rfl, Jq, nbq, upq, skq, naq, osq, agq, wq⟩ := xx
    have J0 : Inv X pins τ G sI := Jq.ofTry okX
    have sk2 : Sky Bh (X.env :: X.outer) a (Zc cls d) X.env.locals tq.heap := by rw [← hs]; exact skq
    show wpAny (model X.prog X.w) X.A (noteFrame (.ref a) X.env) _ _ _
    refine Sky.land Zc.steady frm hf sk2 fun hp3 fl3 up3 => ?_
    have J3 : Inv X pins τ G { tq with heap := hp3 } := J0.landed nbq fl3.1 (upq.trans up3) osq agq
    obtain ⟨oe3, vs3, he3, hz3, hd3⟩ := fl3.there
    have off : ∀ {hq : Heap} {oq : Obj} {vq : Array Value}, hq.FunFrames Bh (X.env :: X.outer) → hq.get? a = some oq → oq.data = .fields vq → a ∉ frs (X.env :: X.outer) := fun {hq oq vq} ff e1 e2 hm => by
      obtain ⟨_, o', e', nf⟩ := ff.mem hm
      rw [e1] at e'
      cases e'
      exact nf _ e2
    have nfr := off fl3.2.2.1 he3 hd3
    have nL : a ≠ X.env.locals := fun z => nfr (List.mem_filterMap.mpr ⟨X.env, List.mem_cons_self, by rw [hf, z]⟩)
    have nF : a ∉ X.fs := fun hm => by
      obtain ⟨ev, hev, qe⟩ := List.mem_filterMap.mp hm
      exact nfr (List.mem_filterMap.mpr ⟨ev, List.mem_cons_of_mem _ hev, qe⟩)
    have S3 := J3.suite he3 hd3 naq nL nF
    have go : ∀ {hq : List ExceptHandler} {lq : List (Value × (Addr → Value → Option Addr → TS))}, HdsAs X n hq lq → wAsM X.K i Wout D lq cls d τ G →
        wpAny (model X.prog X.w) X.A (handleBy (.ref a) X.env hq) (SP X pins D) X.xe { tq with heap := hp3 } := by
      intro hq lq hk
      induction hk with
      | nil =>
        intro wn
        refine wpAny_handleBy_nil ?_
        obtain ⟨k1, k2, k3, oe, vs, T, oT, ts', he, hz, hdd, h1, hr⟩ := id fl3
        unfold PySem.passOn
        refine wpAny_bind (wpAny_field he hdd h1 ?_)
        rw [if_neg (show ¬ ((Value.ref T == Value.none) = true) from by simp)]
        have last : wpAny (model X.prog X.w) X.A (setFlight (.ref a) X.env.frame) (fun _ t4 => wpAny (model X.prog X.w) X.A (throw (.ref a) : Sem Flow) (SP X pins D) X.xe t4) X.xe { tq with heap := hp3 } := by
          rw [hf]
          refine HandSPX.setFlight_upZ fl3 fun h4 hh4 up4 => wpAny_throw (tk _ _ ?_)
          exact ⟨a, Bh, sI, pins, τ, G, cls, d, rfl, J0, nbq, (upq.trans up3).trans up4, .inr (.inr (by rw [hs]; exact hh4)), naq, osq, agq, wn⟩
        first
          | exact wpAny_bind (wpAny_pure (wpAny_bind last))
          | exact wpAny_bind last
      | @cons x c ts st su p1 p2 hds2 l2 hc hsu r ih =>
        intro wc
        obtain ⟨b, hb1, hyes, hno⟩ := wc
        refine wpAny_handleBy_cons (codeAny_handlers_test ?_) (by intro q; cases q)
        have LT : PySem.W.Looks (model X.prog X.w) hp3 (typeOf (.ref a)) cls := fun A Q E s k q => wpAny_typeOf_ref (k _ _ he3) (by rw [hz3.1]; exact q)
        have LM := PySem.W.exm_one (M := model X.prog X.w) (J3.kIn) LT hb1
        have look : ∀ {Q : Value → Shared → Prop} {E : Value → Shared → Prop}, Q c { tq with heap := hp3 } → wpAny (model X.prog X.w) (X.A.mark (some (.ref a))) (eval (.Name x p1) X.env) Q E { tq with heap := hp3 } := fun {Q E} q => by
          obtain ⟨hg, hdbg, hm | ⟨hm, hv, hnn⟩⟩ := hc
          · exact ld_glob (X := X.suite a ((a, oe3) :: (X.pn ++ pins))) S3 hg hm q hdbg
          · exact ld_blt (X := X.suite a ((a, oe3) :: (X.pn ++ pins))) S3 hg hm hv q hnn hdbg
        refine look (LM.here ?_)
        cases b with
        | true =>
          refine codeAny_handlers_suite_as ?_
          refine HandSPX.lands_againZ fl3 fun h4 fl4 up4 => ?_
          have J4 : Inv X pins τ G { tq with heap := h4 } := J0.landed nbq fl4.1 ((upq.trans up3).trans up4) osq agq
          obtain ⟨oe4, vs4, he4, hz4, hd4⟩ := fl4.there
          have S4 := J4.suite he4 hd4 naq nL nF
          refine store_ok (X := X.suite a ((a, oe4) :: (X.pn ++ pins))) (v := .ref a) S4 hN hi lcl rfl (fun s5 S5 => ?_) (.inr hln)
          refine wpAny_mono ((hsu a oe4 cls d (X.pn ++ pins) hz4 ⟨_, hd4⟩).run [] s5 _ G _ S5 (hyes rfl a naq)) (fun fl s6 hq6 => ?_) (fun _ _ z => False.elim z)
          have stop : ∀ {τ6 : L2.St} {G6 : Hp} {Q : Shared → Prop}, Inv (X.suite a ((a, oe4) :: (X.pn ++ pins))) [] τ6 G6 s6 → (∀ s7, Inv X pins (τ6.set i none) G6 s7 → Q s7) →
              wpAny (model X.prog X.w) X.A (do bindName X.env n .none; unbindBehindTheSuite X.env n p2) (fun _ s7 => Q s7) X.xe s6 := fun {τ6 G6 Q} S6 hq => gone_ok (S6.unsuite okX) hN hi hln hq
          cases fl with
          | next =>
            obtain ⟨τ6, G6, S6, q6⟩ := hq6
            exact stop S6 fun s7 J7 => ⟨_, _, J7, q6⟩
          | brk =>
            obtain ⟨τ6, G6, S6, q6⟩ := hq6
            exact stop S6 fun s7 J7 => ⟨_, _, J7, q6⟩
          | cont =>
            obtain ⟨τ6, G6, S6, q6⟩ := hq6
            exact stop S6 fun s7 J7 => ⟨_, _, J7, q6⟩
          | ret u =>
            obtain ⟨v6, τ6, G6, S6, r6, q6⟩ := hq6
            exact stop S6 fun s7 J7 => ⟨_, _, _, J7, r6, q6⟩
        | false =>
          show wpAny _ X.A (handleBy (.ref a) X.env hds2) _ _ _
          exact ih (hno rfl)
    exact go hh wq
  · cases fl with
    | next =>
      obtain ⟨τ6, G6, J6, q6⟩ := hsp
      first
        | exact ⟨_, _, J6.ofTry okX, q6⟩
        | exact wpAny_execs_nil ⟨_, _, J6.ofTry okX, q6⟩
    | brk =>
      obtain ⟨τ6, G6, J6, q6⟩ := hsp
      exact ⟨_, _, J6.ofTry okX, q6⟩
    | cont =>
      obtain ⟨τ6, G6, J6, q6⟩ := hsp
      exact ⟨_, _, J6.ofTry okX, q6⟩
    | ret u =>
      obtain ⟨v6, τ6, G6, J6, r6, q6⟩ := hsp
      exact ⟨_, _, _, J6.ofTry okX, r6, q6⟩
end
end Sg

/-! a law that asks for repr of nested data: its frame is the outermost, so nothing else is being shown -/
namespace L2
open PySem PySem.Spec PyProof.Rows
/-- the promise of a def where nothing is being shown around it -/
def FnG (P : Program) (w : World) (K : PySem.W.Frag) (mg : Str → Option Value) (base : Heap) (CX : CXT) (k : Nat) (f : Addr) (fd : FuncData) (ps : List Str) (sp : Sp) : Prop :=
  ∀ (A : Around) (outer : List Env) (s : Shared) (H : Hp) (xa : Args) (us : List Value) (vs : List V) (Q : VK) (E : XK), A.guards = some [] → Room k A → Env0 P w K mg base A outer s H → BindsTo s fd xa (ps.zip us) → Vals vs us → sp vs H Q E →
    codeAny (model P w) A (.call (.ref f) xa) (CR CX outer P w H s Q E) s
theorem fnG_of {P : Program} {w : World} {K : PySem.W.Frag} {mg : Str → Option Value} {base : Heap} {x qual : Str} {st : Stmt} {f : Addr} {fd : FuncData} {N ps : List Str} {k : Nat} {sp : Sp} (F : Fun K x qual st f fd) (S : FnScope N ps (defScope st)) (hlen : ∀ vs H Q E, sp vs H Q E → vs.length = ps.length)
    (hb : ∀ (cdv : Value) (A : Around) (outer : List Env) (s : Shared) (H : Hp) (vs : List V) (Q : VK) (E : XK), A.guards = some [] → Room k (A.deeper (envOfC qual (defScope st) s.heap.objs.size f cdv)) → sp vs H Q E →
      ∃ t, PSs (cxOf CX0 P w K mg base N qual (defScope st) f cdv A outer s H E).nox (defBody st) t ∧ t { nx := fun _ H' => Q .non H', rt := Q } (start N vs) H) : FnG P w K mg base CX0 (k + 1) f fd ps sp := by
  obtain ⟨oc, od, kV, doc, pm, an, cdv, ct, osl, rfl, lk, codeK⟩ := F.ex
  intro A outer s H xa us vs Q E gA rA eA bA vA spA
  have nl := hlen _ _ _ _ spA
  have Kn : K.In s.heap := eA.mod.kin.keeps fun b o q => (eA.bs b o q).1
  have lim : s.heap.NoLimit := eA.mod.nolimit.keeps fun b o q => (eA.bs b o q).1
  have kinds : ∀ y ∈ ps.zip us, (defScope st).names.lookup y.1 = some .local ∨ ((defScope st).names.lookup y.1 = some .cell ∧ ((cellsFrom (s.heap.objs.size + 1) (defScope st).names []).lookup y.1).isSome = true) := by
    rintro ⟨nm, v⟩ hy
    refine (S.par nm (List.of_mem_zip hy).1).imp (fun q => q) fun q => ⟨q, PySem.W.cellsFrom_some _ _ _ (.inl q)⟩
  refine codeAny_call_function rA.depth (Kn _ _ lk) rfl S.co S.gen rfl (PySem.W.codeRec_of Kn codeK) (bA _ _ _ _ (wpAny_newFunctionEnv_cells S.kind kinds fun env he s1 y => ?_))
  subst he
  refine ⟨lim.keeps y.toInCall.keep, codeAny_func ?_⟩
  obtain ⟨t, pt, qt⟩ := hb cdv A outer s H vs Q E gA (rA.deeper _) spA
  have J : Inv (cxOf CX0 P w K mg base N qual (defScope st) f cdv A outer s H E) [] (start N vs) H s1 := inv_start S rA.hd eA nl vA y
  refine wpAny_mono (pt.nox.run [] s1 (start N vs) H _ J qt) (fun fl s' hs => ?_) fun _ _ q => q
  cases fl with
  | ret u =>
    obtain ⟨v, σ', H', J', rv, q⟩ := hs
    exact ⟨v, H', J'.os, J'.bare, J'.base, J'.hok, rv, q⟩
  | next =>
    obtain ⟨σ', H', J', q⟩ := hs
    exact ⟨.non, H', J'.os, J'.bare, J'.base, J'.hok, rfl, q⟩
  | brk => exact (let ⟨_, _, _, q⟩ := hs; q : False).elim
  | cont => exact (let ⟨_, _, _, q⟩ := hs; q : False).elim
section
variable {P : Program} {w : World} {K : PySem.W.Frag} {mg mb : Str → Option Value} {k : Nat} {fa a : Addr} {fd : FuncData} {x : Str} {sp : Sp} {sB : Shared} {vs : List Value} {ns : List Int}
/-- from an abstract heap in which at most the script is tracked -/
theorem lawG_core (KX : K.In sB.heap) (hns : sB.heap.Ns mainGlobals mg) (hb : sB.heap.Ns builtinsNs mb) (hbb : ∀ x : Str, x ≠ "__name__" → mb x = bootBuiltins x) (hlim : sB.heap.NoLimit) (hg : sB.gens = #[])
    (hla : sB.heap.get? a = some { cls := .type "list", data := .seq vs.toArray }) (rK : Room k callerA)
    (F : ∀ base : Heap, K.In base → base.Ns mainGlobals mg → FnG P w K mg base CX0 k fa fd [x] sp) (hbind : ∀ (s : Shared) (u : Value), BindsTo s fd ⟨[u], []⟩ [(x, u)])
    (H : Hp) (onl : Only H) (spH : sp [.ref a] H (fun v _ => v = .bl true) fun _ _ _ => False) (ok : HOk P w H sB.heap) (atA : ∀ b, H b ≠ none → b = a) (noK : H a ≠ none → K.lookup a = none) :
    codeAny (model P w) callerA (.call (.ref fa) ⟨[.ref a], []⟩) (fun r s' => r = .ok (.ret (.bool true)) ∧ OldK sB.heap s'.heap ∧ s'.os = sB.os ∧ AllBare s'.gens) sB := by
  have notD : ∀ {b : Addr} {o : Obj} {es : Array DictEntry} {ep : Nat}, sB.heap.get? b = some o → o.data = .dict es ep → H b = none := by
    intro b o es ep q d
    by_cases z : H b = none
    · exact z
    · have e := atA b z
      subst e
      rw [hla] at q
      cases q
      exact Data.noConfusion d
  have nsG : ∀ {b : Addr} {m : Str → Option Value}, sB.heap.Ns b m → (hidT sB.heap H).Ns b m := by
    rintro b m ⟨o, es, ep, q, d, r⟩
    exact ⟨o, es, ep, hidT_get q (notD q d), d, r⟩
  have inK : K.In (hidT sB.heap H) := by
    intro b o q
    refine hidT_get (KX b o q) ?_
    by_cases z : H b = none
    · exact z
    · have e := atA b z
      subst e
      rw [noK z] at q
      cases q
  have eA : Env0 P w K mg (hidT sB.heap H) callerA [] sB H :=
    ⟨rfl, ⟨inK, nsG hns, ⟨mb, nsG hb, hbb⟩, let ⟨mc, q1, q2⟩ := hlim; ⟨mc, nsG q1, q2⟩⟩, fun b o q => of_hidT q, Nat.le_of_eq (hidT_size _ _), trivial, (fun b q => nomatch (show b ∈ ([] : List Addr) from q)), ok, .of_eq hg⟩
  refine codeAny_mono (F _ inK (nsG hns) callerA [] sB H ⟨[.ref a], []⟩ [.ref a] [.ref a] _ _ rfl rK eA (hbind sB (.ref a)) (.cons rfl .nil) spH) fun r s' q => ?_
  cases r with
  | error e => exact (show False from q).elim
  | ok fl =>
    cases fl with
    | ret u =>
      obtain ⟨v, H', os, bare, un, ok', rv, qv⟩ := q
      cases (show v = .bl true from qv)
      cases (show u = Value.bool true from rv)
      refine ⟨rfl, OldK.of_keep fun b o q => ?_, os, bare⟩
      rcases onl b with z | ⟨ob, xs, z⟩
      · exact un.keep b o q z (fun y => nomatch (show b ∈ ([] : List Addr) from y)) (by simp)
      · have q1 := (ok b _ z).1
        have q2 := (ok' b _ (un.frzs b ob _ z)).1
        rw [q] at q1
        cases q1
        exact q2
    | next => exact (show False from q).elim
    | brk => exact (show False from q).elim
    | cont => exact (show False from q).elim
theorem lawG_call (KX : K.In sB.heap) (hns : sB.heap.Ns mainGlobals mg) (hb : sB.heap.Ns builtinsNs mb) (hbb : ∀ x : Str, x ≠ "__name__" → mb x = bootBuiltins x) (hlim : sB.heap.NoLimit) (hg : sB.gens = #[])
    (hla : sB.heap.get? a = some { cls := .type "list", data := .seq vs.toArray }) (hi : IntsAre vs ns) (hl : ns.length ≤ sizeLine) (rK : Room k callerA)
    (F : ∀ base : Heap, K.In base → base.Ns mainGlobals mg → FnG P w K mg base CX0 k fa fd [x] sp) (hbind : ∀ (s : Shared) (u : Value), BindsTo s fd ⟨[u], []⟩ [(x, u)])
    (hsp : ∀ H : Hp, Only H → SqL K H a (ns.map V.int) → sp [.ref a] H (fun v _ => v = .bl true) fun _ _ _ => False) :
    codeAny (model P w) callerA (.call (.ref fa) ⟨[.ref a], []⟩) (fun r s' => r = .ok (.ret (.bool true)) ∧ OldK sB.heap s'.heap ∧ s'.os = sB.os ∧ AllBare s'.gens) sB := by
  have rv := vals_ints hi
  have nv := hi.length
  by_cases hk : K.lookup a = none
  · have on : (fun b => if b = a then some (HO.frz { cls := .type "list", data := .seq vs.toArray } (.lst (ns.map V.int))) else none : Hp) a = some (.frz { cls := .type "list", data := .seq vs.toArray } (.lst (ns.map V.int))) := if_pos rfl
    have off : ∀ b, b ≠ a → (fun b => if b = a then some (HO.frz { cls := .type "list", data := .seq vs.toArray } (.lst (ns.map V.int))) else none : Hp) b = none := fun b z => if_neg z
    generalize (fun b => if b = a then some (HO.frz { cls := .type "list", data := .seq vs.toArray } (.lst (ns.map V.int))) else none : Hp) = H at on off
    have onl : Only H := fun b => by
      by_cases z : b = a
      · subst z
        exact .inr ⟨_, _, on⟩
      · exact .inl (off b z)
    refine lawG_core KX hns hb hbb hlim hg hla rK F hbind H onl (hsp H onl (.inl (.inr ⟨_, on⟩))) (fun b u q => ?_) (fun b z => ?_) fun _ => hk
    · by_cases z : b = a
      · subst z
        rw [on] at q
        cases q
        exact ⟨hla, by rw [List.length_map]; exact hl, vs, _, rv, hla⟩
      · rw [off b z] at q
        cases q
    · by_cases y : b = a
      · exact y
      · exact absurd (off b y) z
  · obtain ⟨o, ho⟩ := Option.ne_none_iff_exists'.mp hk
    have q := KX a o ho
    rw [hla] at q
    cases q
    exact lawG_core KX hns hb hbb hlim hg hla rK F hbind (fun _ => none) (fun _ => .inl rfl) (hsp _ (fun _ => .inl rfl) (.inr ⟨_, vs.toArray, _, ho, rfl, rfl, rfl, by rw [List.size_toArray, nv]; exact hl, by simpa using rv⟩)) (fun b u z => nomatch (show (none : Option HO) = some u from z)) (fun b z => absurd rfl z) fun z => absurd rfl z
end
theorem walkG_of {l : PySem.W.OpenLaw} {n k : Nat} {q : Program} {lse : List Str} {XQ : (Str → Option Value) → Heap → Prop} {YQ : World → Heap → Prop} {d : DefRec} {K : Params → PySem.W.Frag} {sp : World → Sp} {x : Str}
    (hn : l.most = some n) (nle : n ≤ sizeLine) (dfe : d.params.defaults = []) (rK : Room k callerA) (hY : ∀ (w : World) (h : Heap), YQ w h → (K w.params).In h) (F : ∀ (w : World) (mg : Str → Option Value) (fa : Addr) (h : Heap), (K w.params).In h → h.Ns mainGlobals mg → mg d.name = some (.ref fa) →
      ∃ fd : FuncData, (∀ (s : Shared) (u : Value), BindsTo s fd ⟨[u], []⟩ [(x, u)]) ∧ ∀ base : Heap, (K w.params).In base → base.Ns mainGlobals mg → FnG l.prog w (K w.params) mg base CX0 k fa fd [x] (sp w))
    (hsp : ∀ (w : World) (H : Hp) (a : Addr) (ns : List Int), ns.length ≤ n → Only H → SqL (K w.params) H a (ns.map V.int) → sp w [.ref a] H (fun v _ => v = .bl true) fun _ _ _ => False) :
    PySem.W.WalkO q lse XQ YQ l.row.toRowW d [] (fun f vs => PySem.call f vs) :=
  Att.attach_call hn dfe fun w s₀ sB mg mb fa o pm cd doc a vs ns G Y ho hd hcd hmg hobj hints hlen hg => by
    obtain ⟨fd, bd, ok⟩ := F w mg fa _ (hY w _ Y) G.T.g hmg
    exact lawG_call (hY w _ Y) G.T.g G.T.b G.T.builtins G.T.nolimit hg hobj hints (Nat.le_trans hlen nle) rK ok bd fun H hO hS => hsp w H a ns hlen hO hS
/-! ### repr of nested data -/
theorem call_reprD {X : Cx} (gX : X.A.guards = some []) (hu : X.A.units + 100 < cLine) : CallR X (.builtin "repr") (fun xs H Q => ∃ a d, xs = [.ref a] ∧ Dp X.K H (.ref a) d ∧ d.showable = true ∧ d.hasDict = false ∧ d.depth ≤ 64 ∧ d.shown.length ≤ sizeLine ∧ Q (.str d.shown) H) := by
  intro pns s σ H xs uv Q I r h
  obtain ⟨a, d, rfl, hd, hs, hn, hz, hl, q⟩ := h
  obtain ⟨u, rfl, ru⟩ := vals1 r; cases ru
  obtain ⟨as, rd⟩ := Dp.reads I d _ _ hd rfl
  refine repr_of_reads' rd hs (fun z => by rw [hn] at z; cases z) gX (by omega) (fun _ _ q => q) (fun h' u tk kk => ⟨.str d.shown, H, I.kept kk, ⟨u, rfl⟩, q⟩) hl
end L2

namespace Sg
open PySem
def topS (i : Nat) : Stmt := PySem.Challenge.pw_sugartrue_k06_single_steps.main.body.getD i (.Pass ⟨0, 0, 0, 0⟩)
abbrev cSugarerror : Stmt := topS 1
abbrev cLimiterror : Stmt := topS 2
abbrev cStuckerror : Stmt := topS 3
abbrev cInnerTerms : Stmt := topS 6
abbrev cBoundInBody : Stmt := topS 7
abbrev cRebuilt : Stmt := topS 8
abbrev cFresh : Stmt := topS 9
abbrev cPlaced : Stmt := topS 10
abbrev cInnerTasks : Stmt := topS 11
abbrev cCheckSize : Stmt := topS 16
abbrev cIsValue : Stmt := topS 17
abbrev cMadeValuesFirst : Stmt := topS 18
abbrev cFirstToBeMadeAValue : Stmt := topS 19
abbrev cStepped : Stmt := topS 20
abbrev cByRule : Stmt := topS 21
abbrev cApplied : Stmt := topS 22
abbrev cCalled : Stmt := topS 23
abbrev cMadeByPrimitive : Stmt := topS 24
abbrev cCalculated : Stmt := topS 25
abbrev cStep : Stmt := topS 26
abbrev cRun : Stmt := topS 27
abbrev sState : Stmt := topS 29
abbrev sDraw : Stmt := topS 30
abbrev sPick : Stmt := topS 31
abbrev sTerm : Stmt := topS 32
abbrev sPut : Stmt := topS 33
abbrev sPrim : Stmt := topS 34
abbrev sApply : Stmt := topS 35
abbrev sReady : Stmt := topS 36
abbrev sNext : Stmt := topS 37
abbrev sSize : Stmt := topS 38
abbrev sStep : Stmt := topS 39
abbrev sLaw : Stmt := topS 40
end Sg

namespace Sg
open PySem PySem.Spec PyProof.Rows L2
/-! ### the law's own helpers -/
structure StAt (H : Hp) (p c : Addr) (xs : List Int) (sd : Int) : Prop where
  hp : H p = some (.lst [.ref c, .int sd])
  hc : H c = some (.lst (xs.map V.int))
  ne : p ≠ c
  len : xs.length ≤ 63
  pos : ∀ x ∈ xs, 0 ≤ x
  s0 : 0 ≤ sd
  s1 : sd < 2147483647
def St (p c : Addr) (H : Hp) : Prop := ∃ xs sd, StAt H p c xs sd
/-- all but the state stands -/
def Kp (p c : Addr) (H H' : Hp) : Prop := ∀ b o, b ≠ p → b ≠ c → H b = some o → H' b = some o
theorem Kp.refl (p c : Addr) (H : Hp) : Kp p c H H := fun _ _ _ _ h => h
theorem Kp.trans {p c : Addr} {H H1 H2 : Hp} (a : Kp p c H H1) (b : Kp p c H1 H2) : Kp p c H H2 := fun x o n m h => b x o n m (a x o n m h)
theorem Same.kp {p c : Addr} {H H' : Hp} (a : Same H H') : Kp p c H H' := fun x o _ _ h => a x o h
theorem St.same {p c : Addr} {H H' : Hp} (a : Same H H') (s : St p c H) : St p c H' := by
  obtain ⟨xs, sd, s⟩ := s
  exact ⟨xs, sd, a _ _ s.hp, a _ _ s.hc, s.ne, s.len, s.pos, s.s0, s.s1⟩
theorem same_new {H : Hp} {p : Addr} (h : H p = none) (o : HO) : Same H (upd H p o) := fun b u q => by rw [upd_ne (ne_of_none q h)]; exact q
theorem same_mut {H H' : Hp} {p : Addr} (e : Same H H') (h : H p = none) (o : HO) : Same H (upd H' p o) := fun b u q => by
  rw [upd_ne (ne_of_none q h)]
  exact e b u q
theorem get_map {α β : Type} {g : α → β} {l : List α} {i : Nat} {y : β} (h : (l.map g)[i]? = some y) : ∃ x, l[i]? = some x ∧ g x = y := by
  rw [List.getElem?_map] at h
  cases e : l[i]? with
  | none =>
    rw [e] at h
    cases h
  | some z =>
    rw [e] at h
    exact ⟨z, rfl, Option.some.inj h⟩
theorem take_map {α β : Type} (g : α → β) {l : List α} {i : Nat} {x : α} (h : l[i]? = some x) : (l.take (i + 1)).map g = (l.take i).map g ++ [g x] := by
  rw [List.take_add_one, h, List.map_append]
  rfl
theorem yes_k {σ : L2.St} {H : Hp} {A B : Bool → Hp → Prop} (h : A true H) : tYes σ H fun b H3 => if b = true then A b H3 else B b H3 := by
  show (if true = true then A true H else B true H)
  rw [if_pos rfl]
  exact h
theorem if_true_of {c : Bool} {A B : Prop} (hc : c = true) (h : A) : if c = true then A else B := by
  rw [if_pos hc]
  exact h
theorem if_false_of {c : Bool} {A B : Prop} (hc : c = false) (h : B) : if c = true then A else B := by
  rw [hc, if_neg Bool.false_ne_true]
  exact h
theorem small {n : Nat} (h : n ≤ 100000) : n ≤ sizeLine := Nat.le_trans h (by decide)
theorem smallL {n : Nat} (h : n ≤ 100000) : n < sizeLine := Nat.lt_of_le_of_lt h (by decide)
section
variable {P : Program} {w : World} {K : PySem.W.Frag} {mg : Str → Option Value} {base : Heap}
def spState (K : PySem.W.Frag) : Sp := fun vs H Q _ => ∃ (a : Addr) (ns : List Int), vs = [.ref a] ∧ SqL K H a (ns.map V.int) ∧ ns.length ≤ 63 ∧
  ∀ H' p c, Same H H' → H p = none → H c = none → St p c H' → Q (.ref p) H'
theorem scState : FnScope ["script", "seed", "cell"] ["script"] (defScope sState) := ⟨rfl, rfl, rfl, by decide +kernel, rfl, by decide +kernel, by decide +kernel⟩
theorem ok_state {f : Addr} {fd : FuncData} {k : Nat} (F : Fun K "_law_state" "_law_state" sState f fd) (mi : mg "int" = none) (ma : mg "abs" = none) : FnOk P w K mg base CX0 (k + 1) f fd ["script"] (spState K) := by
  refine F.ok scState (fun vs H Q E h => ?_) (fun cdv A outer s H vs Q E hr h => ?_)
  · obtain ⟨a, ns, rfl, _⟩ := h
    rfl
  obtain ⟨a, ns, rfl, hS, hlen, q⟩ := h
  refine ⟨_, pss_cons (ps_set (i := 1) scState.nd rfl (.inl rfl) pe_int)
    (pss_cons (ps_for PassesOwn.never rfl (pi_list (pv 0)) (pg_name (i := 2) scState.nd rfl (.inl rfl))
      (pss_one (ps_set (i := 1) scState.nd rfl (.inl rfl) (pe_op op_mod (pe_callTy call_int1 (by rfl) mi (by decide +kernel) (pa_cons (pe_op op_add (pe_op op_mul (pv 1) pe_int) (pv 2)) pa_nil)) pe_int))))
    (pss_one (ps_ret (pe_lst (pa_cons (pe_lc (own := [("cell", 2)]) (g := gName 2) (tt := tYes) rfl scState.nd (pi_list (pv 0)) (blkOk_by (N := ["script", "seed", "cell"]) (sc := defScope sState) (by decide +kernel))
        (fun _ _ _ _ _ => pg_name (i := 2) scState.nd rfl (Or.inl rfl)) (fun _ _ _ _ _ => pts_nil)
        (fun _ _ _ _ _ => pe_callB call_abs (by rfl) ma (by decide +kernel) (pa_cons (pe_callTy call_int1 (by rfl) mi (by decide +kernel) (pa_cons (pv 2) pa_nil)) pa_nil)))
      (pa_cons (pe_op op_add (pv 1) pe_int) pa_nil)))))), ?_⟩
  refine ⟨_, rfl, a, rfl, ⟨_, hS⟩, for_list (K := K) (a := a) (xs := ns.map V.int) (fun i σ H' => ∃ (y : Option V) (sd : Int), σ = [some (.ref a), some (.int sd), y] ∧ 0 ≤ sd ∧ sd < 1000003 ∧ H' = H)
    ⟨none, 7, rfl, by decide, by decide, rfl⟩ (fun i σ H' _ ⟨_, _, _, _, _, e⟩ => e ▸ hS) ?_ ?_⟩
  · rintro i x σ H' hx ⟨y, sd, rfl, h0, h1, rfl⟩
    obtain ⟨z, hz, rfl⟩ := get_map hx
    refine ⟨_, rfl, _, _, rfl, rfl, .inl ⟨by omega, by omega⟩, _, rfl, _, _, rfl, rfl, .inl ⟨_, rfl, _, _, rfl, rfl, (by show (0 : Int) < 1000003; decide), ?_⟩⟩
    exact ⟨some (.int z), (sd * 31 + z) % 1000003, rfl, Int.emod_nonneg _ (by decide), Int.emod_lt_of_pos _ (by decide), rfl⟩
  · rintro σ H' ⟨y, sd, rfl, h0, h1, rfl⟩
    refine ⟨_, rfl, a, rfl, ⟨_, hS⟩, fun D hD => ?_⟩
    refine lc_list (K := K) (a := a) (xs := ns.map V.int) (fun i H2 => Same H' H2 ∧ H2 D = some (.lst ((ns.take i).map fun n => V.int (if n < 0 then -n else n)))) ⟨same_new hD _, upd_same⟩ (fun i H2 _ e => e.1.seq hS) ?_ ?_
    · rintro i x H2 hx ⟨sm, eD⟩
      obtain ⟨z, hz, rfl⟩ := get_map hx
      refine ⟨rfl, yes_k ⟨_, rfl, .inl ⟨z, rfl, z, rfl, _, eD, ?_, same_mut sm hD _, ?_⟩⟩⟩
      · rw [List.length_map, List.length_take]
        exact smallL (by omega)
      · rw [upd_same, take_map _ hz]
    · rintro H2 ⟨sm, eD⟩
      rw [List.length_map, List.take_length] at eD
      refine ⟨_, rfl, _, _, rfl, rfl, (by show 2 ≤ sizeLine; decide), fun p hp => ?_⟩
      have npD : p ≠ D := fun e => by
        rw [e, eD] at hp
        cases hp
      refine q _ p D (sm.trans (same_new hp _)) (sm.free hp) hD ⟨ns.map fun n => if n < 0 then -n else n, sd + 1, upd_same, ?_, npD, ?_, fun x hx => ?_, by omega, by omega⟩
      · rw [upd_ne (Ne.symm npD), eD, List.map_map]
        rfl
      · rw [List.length_map]
        exact hlen
      · obtain ⟨n, _, rfl⟩ := List.mem_map.mp hx
        by_cases c : n < 0
        · rw [if_pos c]
          omega
        · rw [if_neg c]
          omega
end
end Sg

namespace Sg
open PySem PySem.Spec PyProof.Rows L2
section
variable {P : Program} {w : World} {K : PySem.W.Frag} {mg : Str → Option Value} {base : Heap}
/-- draw(state, many): a number below many; of what stood only the state's two lists change -/
def spDraw : Sp := fun vs H Q _ => ∃ (p c : Addr) (m : Int), vs = [.ref p, .int m] ∧ 0 < m ∧ m < 1073741824 ∧ St p c H ∧
  ∀ H' r, Kp p c H H' → St p c H' → 0 ≤ r → r < m → Q (.int r) H'
theorem scDraw : FnScope ["state", "many", "cells", "value", "mixed"] ["state", "many"] (defScope sDraw) := ⟨rfl, rfl, rfl, by decide +kernel, rfl, by decide +kernel, by decide +kernel⟩
theorem at0 {v : V} {r : List V} : atI (v :: r) 0 = some v := atI_nat (j := 0) rfl
theorem at1 {u v : V} {r : List V} : atI (u :: v :: r) 1 = some v := atI_nat (j := 1) rfl
/-- a store at p or c -/
theorem Kp.put {p c a : Addr} {H H' : Hp} (k : Kp p c H H') (ha : a = p ∨ a = c) (o : HO) : Kp p c H (upd H' a o) := fun b u nb nc e => by
  rw [upd_ne (fun z => by rcases ha with h | h; exact nb (z.trans h); exact nc (z.trans h))]
  exact k b u nb nc e
theorem Kp.mut {p c a : Addr} {H H' : Hp} (k : Kp p c H H') (ha : H a = none) (o : HO) : Kp p c H (upd H' a o) := fun b u nb nc e => by
  rw [upd_ne (ne_of_none e ha)]
  exact k b u nb nc e
theorem St.put {p c a : Addr} {H : Hp} (s : St p c H) (h1 : a ≠ p) (h2 : a ≠ c) (o : HO) : St p c (upd H a o) := by
  obtain ⟨xs, sd, s⟩ := s
  exact ⟨xs, sd, by rw [upd_ne (Ne.symm h1)]; exact s.hp, by rw [upd_ne (Ne.symm h2)]; exact s.hc, s.ne, s.len, s.pos, s.s0, s.s1⟩
/-- a new place is none of the state's -/
theorem St.new {p c a : Addr} {H : Hp} (s : St p c H) (h : H a = none) : a ≠ p ∧ a ≠ c := by
  obtain ⟨xs, sd, s⟩ := s
  exact ⟨fun e => (by rw [e, s.hp] at h; cases h), fun e => (by rw [e, s.hc] at h; cases h)⟩
theorem Kp.free {p c a : Addr} {H H' : Hp} (k : Kp p c H H') (s : St p c H') (h : H' a = none) : H a = none := by
  have n := s.new h
  cases e : H a with
  | none => rfl
  | some u =>
    rw [k a u n.1 n.2 e] at h
    cases h
theorem StAt.cells {H : Hp} {p c : Addr} {xs ys : List Int} {sd : Int} (s : StAt H p c xs sd) (hl : ys.length ≤ 63) (hp : ∀ x ∈ ys, 0 ≤ x) : StAt (upd H c (.lst (ys.map V.int))) p c ys sd :=
  ⟨by rw [upd_ne s.ne]; exact s.hp, upd_same, s.ne, hl, hp, s.s0, s.s1⟩
theorem StAt.seed {H : Hp} {p c : Addr} {xs : List Int} {sd n : Int} (s : StAt H p c xs sd) (h0 : 0 ≤ n) (h1 : n < 2147483647) : StAt (upd H p (.lst [.ref c, .int n])) p c xs n :=
  ⟨upd_same, by rw [upd_ne (Ne.symm s.ne)]; exact s.hc, s.ne, s.len, s.pos, h0, h1⟩
theorem ok_draw {f : Addr} {fd : FuncData} {k : Nat} (F : Fun K "_law_draw" "_law_draw" sDraw f fd) (mi : mg "int" = none) (ml : mg "len" = none) : FnOk P w K mg base CX0 (k + 1) f fd ["state", "many"] spDraw := by
  refine F.ok scDraw (fun vs H Q E h => ?_) (fun cdv A outer s H vs Q E hr h => ?_)
  · obtain ⟨p, c, m, rfl, _⟩ := h
    rfl
  obtain ⟨p, c, m, rfl, hm0, hm1, ⟨xs, sd, S⟩, q⟩ := h
  refine ⟨_, pss_cons (ps_set (i := 2) scDraw.nd rfl (.inl rfl) (pe_ix ix_list (pv 0) pe_int (fun _ _ => rfl)))
    (pss_cons (ps_while PassesOwn.never (pw_and (pt_cmpR op_gt (pe_callB call_len_seq (by rfl) ml PySem.boot_len (pa_cons (pv 2) pa_nil)) pe_int (nomark _)) (pw_and1 (pt_cmpR op_eq (pe_ix ix_list (pv 2) pe_int (fun _ _ => rfl)) pe_int (nomark _)))).pt
      (pss_one (ps_expr (pe_bm PySem.F.plainAttrs_list PySem.F.slot_list_pop PySem.F.type_list_pop mt_popAt (pv 2) (pa_cons pe_int pa_nil)))))
    (pss_cons (ps_if (pt_cmpR op_gt (pe_callB call_len_seq (by rfl) ml PySem.boot_len (pa_cons (pv 2) pa_nil)) pe_int (nomark _))
      (pss_cons (ps_set (i := 3) scDraw.nd rfl (.inl rfl) (pe_ix ix_list (pv 2) pe_int (fun _ _ => rfl)))
      (pss_cons (ps_asg (pe_op op_fdivW (pv 3) (pv 1)) (pg_sub (pv 2) pe_int set_list (fun _ => rfl)))
      (pss_one (ps_ret (pe_op op_mod (pe_callTy call_int1 (by rfl) mi (by decide +kernel) (pa_cons (pv 3) pa_nil)) (pv 1)))))) pss_nil)
    (pss_cons (ps_set (i := 4) scDraw.nd rfl (.inl rfl) (pe_op op_mod (pe_callTy call_int1 (by rfl) mi (by decide +kernel) (pa_cons (pe_op op_add (pe_op op_mul (pe_ix ix_list (pv 0) pe_int (fun _ _ => rfl)) pe_int) pe_int) pa_nil)) pe_int))
    (pss_cons (ps_asg (pv 4) (pg_sub (pv 0) pe_int set_list (fun _ => rfl)))
    (pss_one (ps_ret (pe_op op_mod (pe_callTy call_int1 (by rfl) mi (by decide +kernel) (pa_cons (pe_op op_fdiv (pv 4) pe_int) pa_nil)) (pv 1)))))))), ?_⟩
  refine ⟨_, rfl, p, _, 0, .ref c, rfl, rfl, SqL.of S.hp, at0, ?_⟩
  refine ⟨fun n σ H' => ∃ (xs : List Int) (sd : Int), σ = [some (.ref p), some (.int m), some (.ref c), none, none] ∧ StAt H' p c xs sd ∧ Kp p c H H' ∧ n = xs.length, ⟨_, xs, sd, rfl, S, Kp.refl p c H, rfl⟩, ?_⟩
  rintro n σ H' ⟨xs, sd, rfl, S, kp, rfl⟩
  refine ⟨_, rfl, c, _, rfl, .inl (SqL.of S.hc), _, _, rfl, rfl, _, rfl, ?_⟩
  cases xs with
  | nil =>
    refine if_false_of (by simp) ?_
    refine if_false_of rfl ?_
    refine ⟨_, rfl, c, _, rfl, .inl (SqL.of S.hc), _, _, rfl, rfl, _, rfl, ?_⟩
    refine if_false_of (by simp) ?_
    refine ⟨_, rfl, p, _, 1, .int sd, rfl, rfl, SqL.of S.hp, at1, _, _, rfl, rfl, .inl ⟨by have := S.s0; omega, by have := S.s1; omega⟩, _, _, rfl, rfl, .inl ⟨_, rfl, _, _, rfl, rfl, (by show (0 : Int) < 2147483647; decide), ?_⟩⟩
    refine ⟨_, rfl, _, rfl, p, _, 1, 1, rfl, rfl, S.hp, rfl, ?_⟩
    refine ⟨_, rfl, _, _, rfl, rfl, ⟨by decide, by decide⟩, .inl ⟨_, rfl, _, rfl, _, _, rfl, rfl, hm0, ?_⟩⟩
    refine q _ _ (kp.put (.inl rfl) _) ⟨[], _, S.seed (Int.emod_nonneg _ (by decide)) (Int.emod_lt_of_pos _ (by decide))⟩ (Int.emod_nonneg _ (by omega)) (Int.emod_lt_of_pos _ hm0)
  | cons x r =>
    refine if_true_of (by simp) ?_
    refine ⟨_, rfl, c, _, 0, .int x, rfl, rfl, SqL.of S.hc, at0, rfl, _, rfl, ?_⟩
    by_cases hx : x = 0
    · refine if_true_of (by simp [hx]) ?_
      refine ⟨_, fun _ _ z => z, ?_⟩
      refine ⟨_, rfl, .inl ⟨rfl, _, SqL.of S.hc⟩, c, _, 0, 0, .int x, rfl, rfl, S.hc, by decide, by decide, ?_, rfl, ?_⟩
      · simp [seqIndex?]
      · refine ⟨r.length, Nat.lt_succ_self _, r, sd, rfl, S.cells ?_ ?_, kp.put (.inr rfl) _, rfl⟩
        · have := S.len
          rw [List.length_cons] at this
          omega
        · exact fun y hy => S.pos y (List.mem_cons_of_mem _ hy)
    · refine if_false_of (by simp [hx]) ?_
      refine ⟨_, rfl, c, _, rfl, .inl (SqL.of S.hc), _, _, rfl, rfl, _, rfl, ?_⟩
      refine if_true_of (by simp) ?_
      refine ⟨_, rfl, c, _, 0, .int x, rfl, rfl, SqL.of S.hc, at0, ?_⟩
      refine ⟨_, rfl, _, rfl, _, _, rfl, rfl, wide_div (b := 30) hm0 (by omega) (by decide) (by decide), _, rfl, c, _, 0, 0, rfl, rfl, S.hc, ?_, ?_⟩
      · simp [ixN]
      · refine ⟨_, rfl, .inl ⟨_, rfl, _, rfl, _, _, rfl, rfl, hm0, ?_⟩⟩
        have St2 : ((x / m) :: r).length ≤ 63 → (∀ y ∈ (x / m) :: r, 0 ≤ y) → StAt (upd H' c (.lst ((List.map V.int (x :: r)).set 0 (.int (x / m))))) p c ((x / m) :: r) sd := fun a b => S.cells a b
        refine q _ _ (kp.put (.inr rfl) _) ⟨(x / m) :: r, sd, St2 ?_ ?_⟩ (Int.emod_nonneg _ (by omega)) (Int.emod_lt_of_pos _ hm0)
        · have := S.len
          rw [List.length_cons] at this ⊢
          exact this
        · intro y hy
          rcases List.mem_cons.mp hy with e | e
          · rw [e]
            exact Int.ediv_nonneg (S.pos x List.mem_cons_self) (by omega)
          · exact S.pos y (List.mem_cons_of_mem _ e)
end
end Sg

namespace Sg
open PySem PySem.Spec PyProof.Rows L2
section
variable {P : Program} {w : World} {K : PySem.W.Frag} {mg : Str → Option Value} {base : Heap}
/-- pick(state, row): one of the row's items -/
def spPick : Sp := fun vs H Q _ => ∃ (p c b : Addr) (xs : List V), vs = [.ref p, .ref b] ∧ H b = some (.lst xs) ∧ b ≠ p ∧ b ≠ c ∧ xs ≠ [] ∧ xs.length ≤ 1000 ∧ St p c H ∧
  ∀ H' v, Kp p c H H' → St p c H' → v ∈ xs → Q v H'
theorem scPick : FnScope ["state", "row"] ["state", "row"] (defScope sPick) := ⟨rfl, rfl, rfl, by decide +kernel, rfl, by decide +kernel, by decide +kernel⟩
theorem ok_pick {f fD : Addr} {fd fdD : FuncData} {k : Nat} (F : Fun K "_law_pick" "_law_pick" sPick f fd) (G : FnOk P w K mg base CX0 k fD fdD ["state", "many"] spDraw) (bD : Binds K fdD ["state", "many"] []) (kD : PySem.W.keepIn K (.ref fD) = true)
    (mD : mg "_law_draw" = some (.ref fD)) (ml : mg "len" = none) : FnOk P w K mg base CX0 (k + 1) f fd ["state", "row"] spPick := by
  refine F.ok scPick (fun vs H Q E h => ?_) (fun cdv A outer s H vs Q E hr h => ?_)
  · obtain ⟨p, c, b, xs, rfl, _⟩ := h
    rfl
  obtain ⟨p, c, b, xs, rfl, hb, nbp, nbc, hne, hlen, S, q⟩ := h
  refine ⟨_, pss_one (ps_ret (pe_ix ix_list (pv 1) (pe_call G hr (by rfl) mD kD bD .nil pass0 (pa_cons (pv 0) (pa_cons (pe_callB call_len_seq (by rfl) ml PySem.boot_len (pa_cons (pv 1) pa_nil)) pa_nil))) (fun _ _ => rfl))), ?_⟩
  have hl : 0 < xs.length := List.length_pos_iff.mpr hne
  refine ⟨_, rfl, _, rfl, _, rfl, b, _, rfl, .inl (SqL.of hb), p, c, _, rfl, ?_, ?_, S, fun H' r kp S' h0 h1 => ?_⟩
  · omega
  · omega
  · obtain ⟨n, rfl⟩ : ∃ n : Nat, r = n := ⟨r.toNat, by omega⟩
    have hn : n < xs.length := by omega
    refine ⟨b, xs, n, xs[n], rfl, rfl, SqL.of (kp b _ nbp nbc hb), atI_nat (List.getElem?_eq_getElem hn), q H' _ kp S' (List.getElem_mem hn)⟩
end
end Sg

namespace Sg
open PySem PySem.Spec PyProof.Rows L2
/-! ### helpers of any law: what stands, what is new -/
/-- the heap but for these -/
def rmL (bs : List Addr) (H : Hp) : Hp := fun a => if a ∈ bs then none else H a
theorem rm_in {bs : List Addr} {H : Hp} {a : Addr} {o : HO} (n : a ∉ bs) (h : H a = some o) : rmL bs H a = some o := by
  unfold rmL
  rw [if_neg n]
  exact h
theorem rm_of {bs : List Addr} {H : Hp} {a : Addr} {o : HO} (h : rmL bs H a = some o) : a ∉ bs ∧ H a = some o := by
  unfold rmL at h
  by_cases z : a ∈ bs
  · rw [if_pos z] at h
    cases h
  · rw [if_neg z] at h
    exact ⟨z, h⟩
theorem rm_sub {bs : List Addr} {H : Hp} : Same (rmL bs H) H := fun b o h => (rm_of h).2
/-- all but these stand -/
def Kb (bs : List Addr) (H H' : Hp) : Prop := ∀ b o, b ∉ bs → H b = some o → H' b = some o
theorem Kb.refl (bs : List Addr) (H : Hp) : Kb bs H H := fun _ _ _ h => h
theorem Kb.trans {bs : List Addr} {H H1 H2 : Hp} (a : Kb bs H H1) (b : Kb bs H1 H2) : Kb bs H H2 := fun x o n h => b x o n (a x o n h)
theorem Same.kb {bs : List Addr} {H H' : Hp} (a : Same H H') : Kb bs H H' := fun x o _ h => a x o h
theorem Kb.wide {bs cs : List Addr} {H H' : Hp} (a : Kb bs H H') (h : ∀ b ∈ bs, b ∈ cs) : Kb cs H H' := fun x o n q => a x o (fun z => n (h x z)) q
theorem Kb.rm {bs cs : List Addr} {H H' : Hp} (a : Kb bs H H') (h : ∀ b ∈ bs, b ∈ cs) : Same (rmL cs H) (rmL cs H') := fun x o q => by
  have z := rm_of q
  exact rm_in z.1 (a x o (fun y => z.1 (h x y)) z.2)
theorem rm_cut {bs cs : List Addr} {H : Hp} (h : ∀ b ∈ bs, b ∈ cs) : Same (rmL cs H) (rmL bs H) := fun x o q => by
  have z := rm_of q
  exact rm_in (fun y => z.1 (h x y)) z.2
theorem Kp.kb {p c : Addr} {H H' : Hp} (a : Kp p c H H') : Kb [p, c] H H' := fun x o n h => a x o (fun z => n (by simp [z])) (fun z => n (by simp [z])) h
theorem Kb.kp {p c : Addr} {H H' : Hp} (a : Kb [p, c] H H') : Kp p c H H' := fun x o n1 n2 h => a x o (by simp [n1, n2]) h
theorem Kb.put {bs : List Addr} {H H' : Hp} {a : Addr} (k : Kb bs H H') (h : a ∈ bs) (o : HO) : Kb bs H (upd H' a o) := fun x u n q => by
  rw [upd_ne (fun z => n (by rw [z]; exact h))]
  exact k x u n q
theorem Kb.new {bs : List Addr} {H H' : Hp} {a : Addr} (k : Kb bs H H') (h : H a = none) (o : HO) : Kb bs H (upd H' a o) := fun x u n q => by
  rw [upd_ne (ne_of_none q h)]
  exact k x u n q
theorem Kb.free {bs : List Addr} {H H' : Hp} {a : Addr} (k : Kb bs H H') (n : a ∉ bs) (h : H' a = none) : H a = none := by
  cases e : H a with
  | none => rfl
  | some u =>
    rw [k a u n e] at h
    cases h
/-! ### what stands and is no list of before -/
def nl (H H' : Hp) : Hp := fun a => match H a with
  | some (.lst _) => none
  | _ => H' a
theorem nl_in {H H' : Hp} {a : Addr} {o : HO} (n : ∀ xs, H a ≠ some (.lst xs)) (h : H' a = some o) : nl H H' a = some o := by
  unfold nl
  split
  · rename_i xs e
    exact absurd e (n xs)
  · exact h
theorem nl_of {H H' : Hp} {a : Addr} {o : HO} (h : nl H H' a = some o) : (∀ xs, H a ≠ some (.lst xs)) ∧ H' a = some o := by
  unfold nl at h
  split at h
  · cases h
  · rename_i n
    exact ⟨fun xs e => n xs e, h⟩
theorem nl_new {H H' : Hp} {a : Addr} {o : HO} (n : H a = none) (h : H' a = some o) : nl H H' a = some o := nl_in (fun xs e => by rw [n] at e; cases e) h
/-- lists stay lists -/
def Ls (H H1 : Hp) : Prop := ∀ a xs, H a = some (.lst xs) → ∃ ys, H1 a = some (.lst ys)
theorem Ls.refl (H : Hp) : Ls H H := fun _ xs e => ⟨xs, e⟩
theorem Ls.trans {H H1 H2 : Hp} (a : Ls H H1) (b : Ls H1 H2) : Ls H H2 := fun x xs e => by
  obtain ⟨ys, q⟩ := a x xs e
  exact b x ys q
theorem Same.ls {H H1 : Hp} (a : Same H H1) : Ls H H1 := fun x xs e => ⟨xs, a _ _ e⟩
theorem nl_base {H H1 H' : Hp} (h : Ls H H1) : Same (nl H1 H') (nl H H') := fun b o q => by
  have z := nl_of q
  refine nl_in (fun xs e => ?_) z.2
  obtain ⟨ys, y⟩ := h b xs e
  exact z.1 ys y
theorem nl_grow {H H' H'' : Hp} (h : ∀ b o, (∀ xs, H b ≠ some (.lst xs)) → H' b = some o → H'' b = some o) : Same (nl H H') (nl H H'') := fun b o q => by
  have z := nl_of q
  exact nl_in z.1 (h b o z.1 z.2)
theorem nl_sub {H H' : Hp} : Same (nl H H') H' := fun _ _ q => (nl_of q).2
theorem nl_put {H H' : Hp} {D : Addr} {xs : List V} (h : H D = some (.lst xs)) (o : HO) : Same (nl H H') (nl H (upd H' D o)) := nl_grow fun b u n q => by
  rw [upd_ne (fun e => n xs (by rw [e]; exact h))]
  exact q
theorem nl_fresh {H H' : Hp} {t : Addr} (h : H' t = none) (o : HO) : Same (nl H H') (nl H (upd H' t o)) := nl_grow fun b u _ q => same_new h o b u q
theorem St.lsts {p c : Addr} {H : Hp} (s : St p c H) : (∃ xs, H p = some (.lst xs)) ∧ ∃ xs, H c = some (.lst xs) := by
  obtain ⟨xs, sd, s⟩ := s
  exact ⟨⟨_, s.hp⟩, ⟨_, s.hc⟩⟩
theorem Kp.nl {p c : Addr} {H H' H'' : Hp} (S : St p c H) (k : Kp p c H' H'') : Same (Sg.nl H H') (Sg.nl H H'') := nl_grow fun b o n q => by
  obtain ⟨⟨x1, e1⟩, ⟨x2, e2⟩⟩ := S.lsts
  exact k b o (fun z => n x1 (by rw [z]; exact e1)) (fun z => n x2 (by rw [z]; exact e2)) q
theorem Kp.ls {p c : Addr} {H H' : Hp} (k : Kp p c H H') (S' : St p c H') : Ls H H' := fun a xs e => by
  obtain ⟨⟨x1, e1⟩, ⟨x2, e2⟩⟩ := S'.lsts
  by_cases h1 : a = p
  · exact ⟨x1, by rw [h1]; exact e1⟩
  · by_cases h2 : a = c
    · exact ⟨x2, by rw [h2]; exact e2⟩
    · exact ⟨xs, k a _ h1 h2 e⟩
theorem str_ne {x y : Str} (h : x ≠ y) : decide (V.str x = V.str y) = false := decide_eq_false fun e => h (by injection e)
theorem str_eq {x : Str} : decide (V.str x = V.str x) = true := decide_eq_true rfl
theorem Kb.nl {bs : List Addr} {H H' H'' : Hp} (h : ∀ b ∈ bs, ∃ xs, H b = some (.lst xs)) (k : Kb bs H' H'') : Same (Sg.nl H H') (Sg.nl H H'') := nl_grow fun b o n q => k b o (fun z => by
  obtain ⟨xs, e⟩ := h b z
  exact n xs e) q
theorem Kb.ls {bs : List Addr} {H H' : Hp} (k : Kb bs H H') (h : ∀ b ∈ bs, ∃ xs, H' b = some (.lst xs)) : Ls H H' := fun a xs e => by
  by_cases z : a ∈ bs
  · exact h a z
  · exact ⟨xs, k a _ z e⟩
theorem Ls.put {H H' : Hp} {D : Addr} {xs : List V} (h : Ls H H') : Ls H (upd H' D (.lst xs)) := fun a ys e => by
  obtain ⟨zs, q⟩ := h a ys e
  by_cases z : a = D
  · exact ⟨xs, by rw [z, upd_same]⟩
  · exact ⟨zs, by rw [upd_ne z]; exact q⟩
/-- what stands at the entry and is not written -/
def Frz (bs : List Addr) (F H : Hp) : Prop := Same F H ∧ ∀ b ∈ bs, F b = none
theorem Frz.up {bs cs : List Addr} {F H H' : Hp} (f : Frz bs F H) (k : Kb cs H H') (h : ∀ b ∈ cs, F b = none) : Frz bs F H' := ⟨fun b o q => k b o (fun z => by rw [h b z] at q; cases q) (f.1 b o q), f.2⟩
theorem nl_rm {H H' : Hp} {bs : List Addr} (h : ∀ b ∈ bs, ∃ xs, H b = some (.lst xs)) : Same (nl H H') (rmL bs H') := fun b o q => by
  have z := nl_of q
  refine rm_in (fun y => ?_) z.2
  obtain ⟨xs, e⟩ := h b y
  exact z.1 xs e
theorem St.kb {bs : List Addr} {p c : Addr} {H H' : Hp} (s : St p c H) (k : Kb bs H H') (h1 : p ∉ bs) (h2 : c ∉ bs) : St p c H' := by
  obtain ⟨xs, sd, s⟩ := s
  exact ⟨xs, sd, k _ _ h1 s.hp, k _ _ h2 s.hc, s.ne, s.len, s.pos, s.s0, s.s1⟩
theorem same_upd {F H : Hp} {t : Addr} {o : HO} (h : Same F H) : Same (upd F t o) (upd H t o) := fun b u q => by
  by_cases z : b = t
  · rw [z, upd_same] at q ⊢
    exact q
  · rw [upd_ne z] at q ⊢
    exact h b u q
end Sg

namespace Sg
open PySem PySem.Spec PyProof.Rows L2
/-! ### terms, and what stands of them in the heap -/
/-- a constant of the top: the origin of what comes from nowhere -/
class Now where
  n : V
variable [Now]
structure Og where
  u : Int
  rs : List Int
  h : Int
def OgAt (F : Hp) (o : Og) (v : V) : Prop := (∃ a b, v = .ref a ∧ F a = some (.tup [.int o.u, .ref b, .int o.h]) ∧ F b = some (.tup (o.rs.map V.int))) ∨ (v = Now.n ∧ o = ⟨-1, [], -1⟩)
def OgOk (o : Og) : Prop := o.u.natAbs ≤ 1000 ∧ o.rs.length ≤ 4 ∧ (∀ r ∈ o.rs, r.natAbs ≤ 1000) ∧ o.h.natAbs ≤ 1000
theorem OgAt.same {F F' : Hp} {o : Og} {v : V} (e : Same F F') (h : OgAt F o v) : OgAt F' o v := by
  rcases h with ⟨a, b, h1, h2, h3⟩ | h
  · exact .inl ⟨a, b, h1, e _ _ h2, e _ _ h3⟩
  · exact .inr h
inductive Tm where
  | int (n : Int) (o : Og)
  | prim (s : Str) (o : Og)
  | ref (i : Int) (o : Og)
  | fn (ids : List Int) (b : Tm) (o : Og)
  | rc (i : Int) (ids : List Int) (b : Tm) (o : Og)
  | lt (i : Int) (x b : Tm) (o : Og)
  | ite (a b c : Tm) (o : Og)
  | app (f : Tm) (xs : List Tm) (o : Og)
  | pair (a b : Tm) (o : Og)
mutual
def TmAt (F : Hp) : Tm → V → Prop
  | .int n o, v => ∃ a w, v = .ref a ∧ F a = some (.tup [.str "int", .int n, w]) ∧ OgAt F o w
  | .prim s o, v => ∃ a w, v = .ref a ∧ F a = some (.tup [.str "prim", .str s, w]) ∧ OgAt F o w
  | .ref i o, v => ∃ a w, v = .ref a ∧ F a = some (.tup [.str "ref", .int i, w]) ∧ OgAt F o w
  | .fn ids b o, v => ∃ a l u w, v = .ref a ∧ F a = some (.tup [.str "fn", .ref l, u, w]) ∧ F l = some (.lst (ids.map V.int)) ∧ TmAt F b u ∧ OgAt F o w
  | .rc i ids b o, v => ∃ a l u w, v = .ref a ∧ F a = some (.tup [.str "rec", .int i, .ref l, u, w]) ∧ F l = some (.lst (ids.map V.int)) ∧ TmAt F b u ∧ OgAt F o w
  | .lt i x b o, v => ∃ a u1 u2 w, v = .ref a ∧ F a = some (.tup [.str "let", .int i, u1, u2, w]) ∧ TmAt F x u1 ∧ TmAt F b u2 ∧ OgAt F o w
  | .ite x y z o, v => ∃ a u1 u2 u3 w, v = .ref a ∧ F a = some (.tup [.str "if", u1, u2, u3, w]) ∧ TmAt F x u1 ∧ TmAt F y u2 ∧ TmAt F z u3 ∧ OgAt F o w
  | .app f xs o, v => ∃ a u l vs w, v = .ref a ∧ F a = some (.tup [.str "app", u, .ref l, w]) ∧ F l = some (.lst vs) ∧ TmAt F f u ∧ TmsAt F xs vs ∧ OgAt F o w
  | .pair x y o, v => ∃ a u1 u2 w, v = .ref a ∧ F a = some (.tup [.str "pair", u1, u2, w]) ∧ TmAt F x u1 ∧ TmAt F y u2 ∧ OgAt F o w
def TmsAt (F : Hp) : List Tm → List V → Prop
  | [], vs => vs = []
  | t :: ts, vs => ∃ v r, vs = v :: r ∧ TmAt F t v ∧ TmsAt F ts r
end
mutual
theorem TmAt.same {F F' : Hp} (e : Same F F') : ∀ (t : Tm) (v : V), TmAt F t v → TmAt F' t v
  | .int n o, v, h => by
    unfold TmAt at h ⊢
    obtain ⟨a, w, h1, h2, h3⟩ := h
    exact ⟨a, w, h1, e _ _ h2, h3.same e⟩
  | .prim s o, v, h => by
    unfold TmAt at h ⊢
    obtain ⟨a, w, h1, h2, h3⟩ := h
    exact ⟨a, w, h1, e _ _ h2, h3.same e⟩
  | .ref i o, v, h => by
    unfold TmAt at h ⊢
    obtain ⟨a, w, h1, h2, h3⟩ := h
    exact ⟨a, w, h1, e _ _ h2, h3.same e⟩
  | .fn ids b o, v, h => by
    unfold TmAt at h ⊢
    obtain ⟨a, l, u, w, h1, h2, h3, h4, h5⟩ := h
    exact ⟨a, l, u, w, h1, e _ _ h2, e _ _ h3, TmAt.same e b u h4, h5.same e⟩
  | .rc i ids b o, v, h => by
    unfold TmAt at h ⊢
    obtain ⟨a, l, u, w, h1, h2, h3, h4, h5⟩ := h
    exact ⟨a, l, u, w, h1, e _ _ h2, e _ _ h3, TmAt.same e b u h4, h5.same e⟩
  | .lt i x b o, v, h => by
    unfold TmAt at h ⊢
    obtain ⟨a, u1, u2, w, h1, h2, h3, h4, h5⟩ := h
    exact ⟨a, u1, u2, w, h1, e _ _ h2, TmAt.same e x u1 h3, TmAt.same e b u2 h4, h5.same e⟩
  | .ite x y z o, v, h => by
    unfold TmAt at h ⊢
    obtain ⟨a, u1, u2, u3, w, h1, h2, h3, h4, h5, h6⟩ := h
    exact ⟨a, u1, u2, u3, w, h1, e _ _ h2, TmAt.same e x u1 h3, TmAt.same e y u2 h4, TmAt.same e z u3 h5, h6.same e⟩
  | .app f xs o, v, h => by
    unfold TmAt at h ⊢
    obtain ⟨a, u, l, vs, w, h1, h2, h3, h4, h5, h6⟩ := h
    exact ⟨a, u, l, vs, w, h1, e _ _ h2, e _ _ h3, TmAt.same e f u h4, TmsAt.same e xs vs h5, h6.same e⟩
  | .pair x y o, v, h => by
    unfold TmAt at h ⊢
    obtain ⟨a, u1, u2, w, h1, h2, h3, h4, h5⟩ := h
    exact ⟨a, u1, u2, w, h1, e _ _ h2, TmAt.same e x u1 h3, TmAt.same e y u2 h4, h5.same e⟩
theorem TmsAt.same {F F' : Hp} (e : Same F F') : ∀ (ts : List Tm) (vs : List V), TmsAt F ts vs → TmsAt F' ts vs
  | [], vs, h => by
    unfold TmsAt at h ⊢
    exact h
  | t :: ts, vs, h => by
    unfold TmsAt at h ⊢
    obtain ⟨v, r, h1, h2, h3⟩ := h
    exact ⟨v, r, h1, TmAt.same e t v h2, TmsAt.same e ts r h3⟩
end
theorem TmsAt.snoc {F : Hp} {t : Tm} {v : V} (h2 : TmAt F t v) : ∀ {ts : List Tm} {vs : List V}, TmsAt F ts vs → TmsAt F (ts ++ [t]) (vs ++ [v])
  | [], vs, h => by
    unfold TmsAt at h
    subst h
    show TmsAt F [t] [v]
    unfold TmsAt
    exact ⟨v, [], rfl, h2, by unfold TmsAt; rfl⟩
  | u :: ts, vs, h => by
    unfold TmsAt at h
    obtain ⟨w, r, rfl, h3, h4⟩ := h
    show TmsAt F (u :: (ts ++ [t])) (w :: (r ++ [v]))
    unfold TmsAt
    exact ⟨w, r ++ [v], rfl, h3, TmsAt.snoc h2 h4⟩
theorem TmsAt.nil {F : Hp} : TmsAt F [] [] := by
  unfold TmsAt
  rfl
theorem TmsAt.len {F : Hp} : ∀ {ts : List Tm} {vs : List V}, TmsAt F ts vs → vs.length = ts.length
  | [], vs, h => by
    unfold TmsAt at h
    rw [h]
    rfl
  | t :: ts, vs, h => by
    unfold TmsAt at h
    obtain ⟨v, r, rfl, _, h3⟩ := h
    rw [List.length_cons, List.length_cons, TmsAt.len h3]
theorem TmsAt.get {F : Hp} : ∀ {ts : List Tm} {vs : List V} {i : Nat} {v : V}, TmsAt F ts vs → vs[i]? = some v → ∃ t, ts[i]? = some t ∧ TmAt F t v
  | [], vs, i, v, h, e => by
    unfold TmsAt at h
    rw [h] at e
    simp at e
  | t :: ts, vs, i, v, h, e => by
    unfold TmsAt at h
    obtain ⟨w, r, rfl, h2, h3⟩ := h
    cases i with
    | zero =>
      cases e
      exact ⟨t, rfl, h2⟩
    | succ i => exact TmsAt.get (i := i) h3 e
/-! ### sizes, depths; what a term's parts are -/
mutual
def msz : Tm → Nat
  | .int _ _ => 1
  | .prim _ _ => 1
  | .ref _ _ => 1
  | .fn _ b _ => 1 + msz b
  | .rc _ _ b _ => 1 + msz b
  | .lt _ x b _ => 1 + msz x + msz b
  | .ite x y z _ => 1 + msz x + msz y + msz z
  | .app f xs _ => 1 + msz f + mszs xs
  | .pair x y _ => 1 + msz x + msz y
def mszs : List Tm → Nat
  | [] => 0
  | t :: ts => msz t + mszs ts
end
mutual
/-- nesting -/
def mht : Tm → Nat
  | .int _ _ => 0
  | .prim _ _ => 0
  | .ref _ _ => 0
  | .fn _ b _ => 1 + mht b
  | .rc _ _ b _ => 1 + mht b
  | .lt _ x b _ => 1 + max (mht x) (mht b)
  | .ite x y z _ => 1 + max (mht x) (max (mht y) (mht z))
  | .app f xs _ => 1 + max (mht f) (mhts xs)
  | .pair x y _ => 1 + max (mht x) (mht y)
def mhts : List Tm → Nat
  | [] => 0
  | t :: ts => max (mht t) (mhts ts)
end
mutual
/-- bound in env, the parts within bounds -/
def mok : List Int → Tm → Prop
  | _, .int n o => n.natAbs ≤ 999999999 ∧ OgOk o
  | _, .prim s o => s.length ≤ 20 ∧ (∀ c ∈ s.cps.toList, c < 128) ∧ OgOk o
  | env, .ref i o => i ∈ env ∧ i.natAbs ≤ 100000 ∧ OgOk o
  | env, .fn ids b o => ids.length ≤ 4 ∧ (∀ i ∈ ids, i.natAbs ≤ 100000) ∧ mok (env ++ ids) b ∧ OgOk o ∧ ids.Nodup
  | env, .rc i ids b o => ids.length ≤ 4 ∧ i.natAbs ≤ 100000 ∧ (∀ i ∈ ids, i.natAbs ≤ 100000) ∧ mok (env ++ [i] ++ ids) b ∧ OgOk o ∧ (i :: ids).Nodup
  | env, .lt i x b o => i.natAbs ≤ 100000 ∧ mok env x ∧ mok (env ++ [i]) b ∧ OgOk o
  | env, .ite x y z o => mok env x ∧ mok env y ∧ mok env z ∧ OgOk o
  | env, .app f xs o => mok env f ∧ moks env xs ∧ OgOk o
  | _, .pair _ _ _ => False
def moks : List Int → List Tm → Prop
  | _, [] => True
  | env, t :: ts => mok env t ∧ moks env ts
end
theorem mszs_app : ∀ (a b : List Tm), mszs (a ++ b) = mszs a + mszs b
  | [], b => by
    show mszs b = _
    simp only [mszs]
    omega
  | t :: a, b => by
    show mszs (t :: (a ++ b)) = _
    simp only [mszs]
    rw [mszs_app a b]
    omega
theorem mhts_app : ∀ (a b : List Tm), mhts (a ++ b) = max (mhts a) (mhts b)
  | [], b => by
    show mhts b = _
    simp only [mhts]
    omega
  | t :: a, b => by
    show mhts (t :: (a ++ b)) = _
    simp only [mhts]
    rw [mhts_app a b]
    omega
theorem moks_app (env : List Int) : ∀ (a b : List Tm), moks env a → moks env b → moks env (a ++ b)
  | [], b, _, h => h
  | t :: a, b, h, g => by
    simp only [moks] at h
    show moks env (t :: (a ++ b))
    simp only [moks]
    exact ⟨h.1, moks_app env a b h.2 g⟩
theorem moks_get {env : List Int} : ∀ {ts : List Tm} {i : Nat} {t : Tm}, moks env ts → ts[i]? = some t → mok env t
  | [], i, t, _, e => by simp at e
  | u :: ts, i, t, h, e => by
    simp only [moks] at h
    cases i with
    | zero =>
      cases e
      exact h.1
    | succ i => exact moks_get (i := i) h.2 e
end Sg

namespace Sg
open PySem PySem.Spec PyProof.Rows L2
variable [Now]
/-! ### _law_plain -/
section
variable {K : PySem.W.Frag}
theorem seqT_same {H H' : Hp} {a : Addr} {xs : List V} (e : Same H H') (h : SqT K H a xs) : SqT K H' a xs := by
  rcases h with h | h
  · rcases h with h | ⟨o, h⟩
    · exact .inl (.inl (e _ _ h))
    · exact .inl (.inr ⟨o, e _ _ h⟩)
  · exact .inr h
mutual
theorem Dp.same {F F' : Hp} (e : Same F F') : ∀ (d : PyData) (v : V), Dp K F v d → Dp K F' v d
  | .none, _, h => by
    cases h
    exact .non
  | .bool b, _, h => by
    cases h
    exact .bl b
  | .int i, _, h => by
    cases h
    exact .int i
  | .str x, _, h => by
    cases h
    exact .str x
  | .list ds, _, h => by
    cases h with
    | lst hs ha => exact .lst (e.seq hs) (DpAll.same e ds _ ha)
  | .tuple ds, _, h => by
    cases h with
    | tup hs ha => exact .tup (seqT_same e hs) (DpAll.same e ds _ ha)
  | .dict _, _, h => by cases h
theorem DpAll.same {F F' : Hp} (e : Same F F') : ∀ (ds : List PyData) (vs : List V), DpAll K F vs ds → DpAll K F' vs ds
  | [], _, h => by
    cases h
    exact .nil
  | d :: ds, _, h => by
    cases h with
    | cons h1 h2 => exact .cons (Dp.same e d _ h1) (DpAll.same e ds _ h2)
end
theorem DpAll.snoc {F : Hp} {v : V} {d : PyData} (h2 : Dp K F v d) : ∀ {vs : List V} {ds : List PyData}, DpAll K F vs ds → DpAll K F (vs ++ [v]) (ds ++ [d])
  | [], _, h => by
    cases h
    exact .cons h2 .nil
  | x :: vs, _, h => by
    cases h with
    | cons h1 h3 => exact .cons h1 (DpAll.snoc h2 h3)
theorem DpAll.len {F : Hp} : ∀ {vs : List V} {ds : List PyData}, DpAll K F vs ds → vs.length = ds.length
  | [], _, h => by
    cases h
    rfl
  | x :: vs, _, h => by
    cases h with
    | cons h1 h3 => rw [List.length_cons, List.length_cons, DpAll.len h3]
end
theorem mhts_get : ∀ {ts : List Tm} {i : Nat} {t : Tm}, ts[i]? = some t → mht t ≤ mhts ts
  | [], i, t, e => by simp at e
  | u :: ts, i, t, e => by
    simp only [mhts]
    cases i with
    | zero =>
      cases e
      omega
    | succ i =>
      have := mhts_get (ts := ts) (i := i) e
      omega
theorem mszs_get : ∀ {ts : List Tm} {i : Nat} {t : Tm}, ts[i]? = some t → msz t ≤ mszs ts
  | [], i, t, e => by simp at e
  | u :: ts, i, t, e => by
    simp only [mszs]
    cases i with
    | zero =>
      cases e
      omega
    | succ i =>
      have := mszs_get (ts := ts) (i := i) e
      omega
theorem msz_pos : ∀ t : Tm, 1 ≤ msz t := fun t => by
  cases t <;> (simp only [msz]; omega)
theorem len_mszs : ∀ ts : List Tm, ts.length ≤ mszs ts
  | [] => Nat.zero_le _
  | t :: ts => by
    have := len_mszs ts
    have := msz_pos t
    simp only [mszs, List.length_cons]
    omega
end Sg

namespace Sg
open PySem PySem.Spec PyProof.Rows L2
variable [Now]
/-! ### inner_terms, bound_in_body -/
def kids : Tm → List Tm
  | .int _ _ => []
  | .prim _ _ => []
  | .ref _ _ => []
  | .fn _ b _ => [b]
  | .rc _ _ b _ => [b]
  | .lt _ x b _ => [x, b]
  | .ite x y z _ => [x, y, z]
  | .app f xs _ => f :: xs
  | .pair x y _ => [x, y]
def bnds : Tm → List Int
  | .fn ids _ _ => ids
  | .rc i ids _ _ => i :: ids
  | .lt i _ _ _ => [i]
  | _ => []
def kind : Tm → Str
  | .int _ _ => "int"
  | .prim _ _ => "prim"
  | .ref _ _ => "ref"
  | .fn _ _ _ => "fn"
  | .rc _ _ _ _ => "rec"
  | .lt _ _ _ _ => "let"
  | .ite _ _ _ _ => "if"
  | .app _ _ _ => "app"
  | .pair _ _ _ => "pair"
/-- every list in it is short -/
def fewK (t : Tm) : Prop := (kids t).length ≤ 9000 ∧ (bnds t).length ≤ 9000
theorem TmsAt.one {F : Hp} {t : Tm} {v : V} (h : TmAt F t v) : TmsAt F [t] [v] := by
  unfold TmsAt
  exact ⟨v, [], rfl, h, .nil⟩
theorem TmsAt.cons {F : Hp} {t : Tm} {v : V} {ts : List Tm} {vs : List V} (h : TmAt F t v) (g : TmsAt F ts vs) : TmsAt F (t :: ts) (v :: vs) := by
  unfold TmsAt
  exact ⟨v, vs, rfl, h, g⟩
def spKids : Sp := fun vs H Q _ => ∃ (F : Hp) (t : Tm) (v : V), vs = [v] ∧ Same F H ∧ TmAt F t v ∧ (kids t).length ≤ 9000 ∧ ∀ H' p xs, Same H H' → H p = none → H' p = some (.lst xs) → TmsAt F (kids t) xs → Q (.ref p) H'
def spBnds : Sp := fun vs H Q _ => ∃ (F : Hp) (t : Tm) (v : V), vs = [v] ∧ Same F H ∧ TmAt F t v ∧ (bnds t).length ≤ 9000 ∧ ∀ H' p, Same H H' → H p = none → H' p = some (.lst ((bnds t).map V.int)) → Q (.ref p) H'
theorem scKids : FnScope ["term", "kind"] ["term"] (defScope cInnerTerms) := ⟨rfl, rfl, rfl, by decide +kernel, rfl, by decide +kernel, by decide +kernel⟩
theorem scBnds : FnScope ["term"] ["term"] (defScope cBoundInBody) := ⟨rfl, rfl, rfl, by decide +kernel, rfl, by decide +kernel, by decide +kernel⟩
section
variable {P : Program} {w : World} {K : PySem.W.Frag} {mg : Str → Option Value} {base : Heap}
theorem ok_kids {f : Addr} {fd : FuncData} {k : Nat} (F : Fun K "inner_terms" "inner_terms" cInnerTerms f fd) (mL : mg "list" = none) : FnOk P w K mg base CX0 (k + 1) f fd ["term"] spKids := by
  refine F.ok scKids (fun vs H Q E h => ?_) (fun cdv A outer st H vs Q E hr h => ?_)
  · obtain ⟨F, t, v, rfl, _⟩ := h
    rfl
  obtain ⟨Fh, t, v, rfl, sF, ta, hb, q⟩ := h
  refine ⟨_, pss_cons (ps_set (i := 1) scKids.nd rfl (.inl rfl) (pe_ix ix_tup (pv 0) pe_int (fun _ _ => rfl)))
    (pss_cons (ps_if (pt_cmpR op_in_seq (pv 1) (pe_tup (pa_cons pe_str (pa_cons pe_str (pa_cons pe_str pa_nil)))) rfl) (pss_one (ps_ret (pe_lst pa_nil))) pss_nil)
    (pss_cons (ps_if (pt_cmpR op_eq (pv 1) pe_str (nomark _)) (pss_one (ps_ret (pe_lst (pa_cons (pe_ix ix_tup (pv 0) pe_int (fun _ _ => rfl)) (StX.pa_star (pe_ix ix_tup (pv 0) pe_int (fun _ _ => rfl)) pa_nil))))) pss_nil)
    (pss_cons (ps_if (pt_cmpR op_eq (pv 1) pe_str (nomark _)) (pss_one (ps_ret (pe_lst (pa_cons (pe_ix ix_tup (pv 0) pe_int (fun _ _ => rfl)) pa_nil)))) pss_nil)
    (pss_cons (ps_if (pt_cmpR op_eq (pv 1) pe_str (nomark _)) (pss_one (ps_ret (pe_lst (pa_cons (pe_ix ix_tup (pv 0) pe_int (fun _ _ => rfl)) pa_nil)))) pss_nil)
    (pss_cons (ps_if (pt_cmpR op_eq (pv 1) pe_str (nomark _)) (pss_one (ps_ret (pe_lst (pa_cons (pe_ix ix_tup (pv 0) pe_int (fun _ _ => rfl)) (pa_cons (pe_ix ix_tup (pv 0) pe_int (fun _ _ => rfl)) pa_nil))))) pss_nil)
    (pss_one (ps_ret (pe_callTy call_list_of (by rfl) mL boot_list (pa_cons (pe_slice sl_tup (pv 0) (po_some pe_int) (po_some (pe_un un_neg pe_int))) pa_nil))))))))), ?_⟩
  cases t with
  | int n o =>
    unfold TmAt at ta
    obtain ⟨a, w, rfl, ea, og⟩ := ta
    have ea0 := sF _ _ ea
    refine ⟨_, rfl, a, _, 0, _, rfl, rfl, SqT.of ea0, at0, ?_⟩
    refine ⟨_, rfl, by show 3 ≤ sizeLine; decide, fun tp ntp => ?_⟩
    refine ⟨tp, _, rfl, .inr (SqT.of upd_same), rfl, rfl, _, rfl, ?_⟩
    have sm1 : Same H (upd H tp (.tup [.str "int", .str "prim", .str "ref"])) := same_new ntp _
    generalize upd H tp (.tup [.str "int", .str "prim", .str "ref"]) = H1 at sm1
    refine if_true_of (by decide +kernel) ?_
    refine ⟨by show 0 ≤ sizeLine; decide, fun p np => ?_⟩
    exact q _ p [] (sm1.trans (same_new np _)) (sm1.free np) upd_same .nil
  | prim n o =>
    unfold TmAt at ta
    obtain ⟨a, w, rfl, ea, og⟩ := ta
    have ea0 := sF _ _ ea
    refine ⟨_, rfl, a, _, 0, _, rfl, rfl, SqT.of ea0, at0, ?_⟩
    refine ⟨_, rfl, by show 3 ≤ sizeLine; decide, fun tp ntp => ?_⟩
    refine ⟨tp, _, rfl, .inr (SqT.of upd_same), rfl, rfl, _, rfl, ?_⟩
    have sm1 : Same H (upd H tp (.tup [.str "int", .str "prim", .str "ref"])) := same_new ntp _
    generalize upd H tp (.tup [.str "int", .str "prim", .str "ref"]) = H1 at sm1
    refine if_true_of (by decide +kernel) ?_
    refine ⟨by show 0 ≤ sizeLine; decide, fun p np => ?_⟩
    exact q _ p [] (sm1.trans (same_new np _)) (sm1.free np) upd_same .nil
  | ref i o =>
    unfold TmAt at ta
    obtain ⟨a, w, rfl, ea, og⟩ := ta
    have ea0 := sF _ _ ea
    refine ⟨_, rfl, a, _, 0, _, rfl, rfl, SqT.of ea0, at0, ?_⟩
    refine ⟨_, rfl, by show 3 ≤ sizeLine; decide, fun tp ntp => ?_⟩
    refine ⟨tp, _, rfl, .inr (SqT.of upd_same), rfl, rfl, _, rfl, ?_⟩
    have sm1 : Same H (upd H tp (.tup [.str "int", .str "prim", .str "ref"])) := same_new ntp _
    generalize upd H tp (.tup [.str "int", .str "prim", .str "ref"]) = H1 at sm1
    refine if_true_of (by decide +kernel) ?_
    refine ⟨by show 0 ≤ sizeLine; decide, fun p np => ?_⟩
    exact q _ p [] (sm1.trans (same_new np _)) (sm1.free np) upd_same .nil
  | fn ids b o =>
    unfold TmAt at ta
    obtain ⟨a, l, u, w, rfl, ea, el, tb, og⟩ := ta
    have ea0 := sF _ _ ea
    refine ⟨_, rfl, a, _, 0, _, rfl, rfl, SqT.of ea0, at0, ?_⟩
    refine ⟨_, rfl, by show 3 ≤ sizeLine; decide, fun tp ntp => ?_⟩
    refine ⟨tp, _, rfl, .inr (SqT.of upd_same), rfl, rfl, _, rfl, ?_⟩
    have sm1 : Same H (upd H tp (.tup [.str "int", .str "prim", .str "ref"])) := same_new ntp _
    generalize upd H tp (.tup [.str "int", .str "prim", .str "ref"]) = H1 at sm1
    refine if_false_of (by decide +kernel) ?_
    have ea1 := sm1 _ _ ea0
    refine ⟨_, rfl, rfl, _, rfl, ?_⟩
    refine if_false_of (str_ne (by decide +kernel)) ?_
    refine ⟨_, rfl, rfl, _, rfl, ?_⟩
    refine if_true_of str_eq ?_
    refine ⟨_, rfl, a, _, 2, _, rfl, rfl, SqT.of ea1, atI_nat (j := 2) rfl, ?_⟩
    refine ⟨by show 1 ≤ sizeLine; decide, fun p np => ?_⟩
    exact q _ p [u] (sm1.trans (same_new np _)) (sm1.free np) upd_same (.one tb)
  | rc i ids b o =>
    unfold TmAt at ta
    obtain ⟨a, l, u, w, rfl, ea, el, tb, og⟩ := ta
    have ea0 := sF _ _ ea
    refine ⟨_, rfl, a, _, 0, _, rfl, rfl, SqT.of ea0, at0, ?_⟩
    refine ⟨_, rfl, by show 3 ≤ sizeLine; decide, fun tp ntp => ?_⟩
    refine ⟨tp, _, rfl, .inr (SqT.of upd_same), rfl, rfl, _, rfl, ?_⟩
    have sm1 : Same H (upd H tp (.tup [.str "int", .str "prim", .str "ref"])) := same_new ntp _
    generalize upd H tp (.tup [.str "int", .str "prim", .str "ref"]) = H1 at sm1
    refine if_false_of (by decide +kernel) ?_
    have ea1 := sm1 _ _ ea0
    refine ⟨_, rfl, rfl, _, rfl, ?_⟩
    refine if_false_of (str_ne (by decide +kernel)) ?_
    refine ⟨_, rfl, rfl, _, rfl, ?_⟩
    refine if_false_of (str_ne (by decide +kernel)) ?_
    refine ⟨_, rfl, rfl, _, rfl, ?_⟩
    refine if_true_of str_eq ?_
    refine ⟨_, rfl, a, _, 3, _, rfl, rfl, SqT.of ea1, atI_nat (j := 3) rfl, ?_⟩
    refine ⟨by show 1 ≤ sizeLine; decide, fun p np => ?_⟩
    exact q _ p [u] (sm1.trans (same_new np _)) (sm1.free np) upd_same (.one tb)
  | lt i x b o =>
    unfold TmAt at ta
    obtain ⟨a, u1, u2, w, rfl, ea, t1, t2, og⟩ := ta
    have ea0 := sF _ _ ea
    refine ⟨_, rfl, a, _, 0, _, rfl, rfl, SqT.of ea0, at0, ?_⟩
    refine ⟨_, rfl, by show 3 ≤ sizeLine; decide, fun tp ntp => ?_⟩
    refine ⟨tp, _, rfl, .inr (SqT.of upd_same), rfl, rfl, _, rfl, ?_⟩
    have sm1 : Same H (upd H tp (.tup [.str "int", .str "prim", .str "ref"])) := same_new ntp _
    generalize upd H tp (.tup [.str "int", .str "prim", .str "ref"]) = H1 at sm1
    refine if_false_of (by decide +kernel) ?_
    have ea1 := sm1 _ _ ea0
    refine ⟨_, rfl, rfl, _, rfl, ?_⟩
    refine if_false_of (str_ne (by decide +kernel)) ?_
    refine ⟨_, rfl, rfl, _, rfl, ?_⟩
    refine if_false_of (str_ne (by decide +kernel)) ?_
    refine ⟨_, rfl, rfl, _, rfl, ?_⟩
    refine if_false_of (str_ne (by decide +kernel)) ?_
    refine ⟨_, rfl, rfl, _, rfl, ?_⟩
    refine if_true_of str_eq ?_
    refine ⟨_, rfl, a, _, 2, _, rfl, rfl, SqT.of ea1, atI_nat (j := 2) rfl, ?_⟩
    refine ⟨_, rfl, a, _, 3, _, rfl, rfl, SqT.of ea1, atI_nat (j := 3) rfl, ?_⟩
    refine ⟨by show 2 ≤ sizeLine; decide, fun p np => ?_⟩
    exact q _ p [u1, u2] (sm1.trans (same_new np _)) (sm1.free np) upd_same (.cons t1 (.one t2))
  | ite x y z o =>
    unfold TmAt at ta
    obtain ⟨a, u1, u2, u3, w, rfl, ea, t1, t2, t3, og⟩ := ta
    have ea0 := sF _ _ ea
    refine ⟨_, rfl, a, _, 0, _, rfl, rfl, SqT.of ea0, at0, ?_⟩
    refine ⟨_, rfl, by show 3 ≤ sizeLine; decide, fun tp ntp => ?_⟩
    refine ⟨tp, _, rfl, .inr (SqT.of upd_same), rfl, rfl, _, rfl, ?_⟩
    have sm1 : Same H (upd H tp (.tup [.str "int", .str "prim", .str "ref"])) := same_new ntp _
    generalize upd H tp (.tup [.str "int", .str "prim", .str "ref"]) = H1 at sm1
    refine if_false_of (by decide +kernel) ?_
    have ea1 := sm1 _ _ ea0
    refine ⟨_, rfl, rfl, _, rfl, ?_⟩
    refine if_false_of (str_ne (by decide +kernel)) ?_
    refine ⟨_, rfl, rfl, _, rfl, ?_⟩
    refine if_false_of (str_ne (by decide +kernel)) ?_
    refine ⟨_, rfl, rfl, _, rfl, ?_⟩
    refine if_false_of (str_ne (by decide +kernel)) ?_
    refine ⟨_, rfl, rfl, _, rfl, ?_⟩
    refine if_false_of (str_ne (by decide +kernel)) ?_
    refine ⟨_, rfl, _, rfl, _, rfl, _, rfl, a, _, rfl, SqT.of ea1, by show ¬(HT.sIx 5 0 (some 1) = 0 ∧ HT.sIx 5 5 (some (-1)) = 5); decide, fun p np => ?_⟩
    have sm2 : Same H1 (upd H1 p (.tup [u1, u2, u3])) := same_new np _
    have ep : (upd H1 p (.tup [u1, u2, u3])) p = some (.tup [u1, u2, u3]) := upd_same
    refine ⟨p, [u1, u2, u3], rfl, .inr (SqT.of ep), fun l nl => ?_⟩
    exact q _ l [u1, u2, u3] ((sm1.trans sm2).trans (same_new nl _)) ((sm1.trans sm2).free nl) upd_same (.cons t1 (.cons t2 (.one t3)))
  | app f xs o =>
    unfold TmAt at ta
    obtain ⟨a, u, l, us, w, rfl, ea, el, tf, tx, og⟩ := ta
    have ea0 := sF _ _ ea
    refine ⟨_, rfl, a, _, 0, _, rfl, rfl, SqT.of ea0, at0, ?_⟩
    refine ⟨_, rfl, by show 3 ≤ sizeLine; decide, fun tp ntp => ?_⟩
    refine ⟨tp, _, rfl, .inr (SqT.of upd_same), rfl, rfl, _, rfl, ?_⟩
    have sm1 : Same H (upd H tp (.tup [.str "int", .str "prim", .str "ref"])) := same_new ntp _
    generalize upd H tp (.tup [.str "int", .str "prim", .str "ref"]) = H1 at sm1
    refine if_false_of (by decide +kernel) ?_
    have ea1 := sm1 _ _ ea0
    refine ⟨_, rfl, rfl, _, rfl, ?_⟩
    refine if_true_of str_eq ?_
    have el1 := sm1 _ _ (sF _ _ el)
    have ll := tx.len
    have hb1 : xs.length + 1 ≤ 9000 := hb
    refine ⟨_, rfl, a, _, 1, _, rfl, rfl, SqT.of ea1, atI_nat (j := 1) rfl, ?_⟩
    refine ⟨_, rfl, a, _, 2, _, rfl, rfl, SqT.of ea1, atI_nat (j := 2) rfl, ?_⟩
    refine ⟨l, us, rfl, .inr (SqL.of el1), ?_⟩
    refine ⟨?_, fun p np => ?_⟩
    · show (u :: (us ++ [])).length ≤ sizeLine
      rw [List.append_nil, List.length_cons, ll]
      exact small (by omega)
    · refine q _ p (u :: us) (sm1.trans (same_new np _)) (sm1.free np) ?_ (.cons tf tx)
      rw [upd_same, List.append_nil]
  | pair x y o =>
    unfold TmAt at ta
    obtain ⟨a, u1, u2, w, rfl, ea, t1, t2, og⟩ := ta
    have ea0 := sF _ _ ea
    refine ⟨_, rfl, a, _, 0, _, rfl, rfl, SqT.of ea0, at0, ?_⟩
    refine ⟨_, rfl, by show 3 ≤ sizeLine; decide, fun tp ntp => ?_⟩
    refine ⟨tp, _, rfl, .inr (SqT.of upd_same), rfl, rfl, _, rfl, ?_⟩
    have sm1 : Same H (upd H tp (.tup [.str "int", .str "prim", .str "ref"])) := same_new ntp _
    generalize upd H tp (.tup [.str "int", .str "prim", .str "ref"]) = H1 at sm1
    refine if_false_of (by decide +kernel) ?_
    have ea1 := sm1 _ _ ea0
    refine ⟨_, rfl, rfl, _, rfl, ?_⟩
    refine if_false_of (str_ne (by decide +kernel)) ?_
    refine ⟨_, rfl, rfl, _, rfl, ?_⟩
    refine if_false_of (str_ne (by decide +kernel)) ?_
    refine ⟨_, rfl, rfl, _, rfl, ?_⟩
    refine if_false_of (str_ne (by decide +kernel)) ?_
    refine ⟨_, rfl, rfl, _, rfl, ?_⟩
    refine if_false_of (str_ne (by decide +kernel)) ?_
    refine ⟨_, rfl, _, rfl, _, rfl, _, rfl, a, _, rfl, SqT.of ea1, by show ¬(HT.sIx 4 0 (some 1) = 0 ∧ HT.sIx 4 4 (some (-1)) = 4); decide, fun p np => ?_⟩
    have sm2 : Same H1 (upd H1 p (.tup [u1, u2])) := same_new np _
    have ep : (upd H1 p (.tup [u1, u2])) p = some (.tup [u1, u2]) := upd_same
    refine ⟨p, [u1, u2], rfl, .inr (SqT.of ep), fun l nl => ?_⟩
    exact q _ l [u1, u2] ((sm1.trans sm2).trans (same_new nl _)) ((sm1.trans sm2).free nl) upd_same (.cons t1 (.one t2))
theorem ok_bnds {f : Addr} {fd : FuncData} {k : Nat} (F : Fun K "bound_in_body" "bound_in_body" cBoundInBody f fd) (mL : mg "list" = none) : FnOk P w K mg base CX0 (k + 1) f fd ["term"] spBnds := by
  refine F.ok scBnds (fun vs H Q E h => ?_) (fun cdv A outer st H vs Q E hr h => ?_)
  · obtain ⟨F, t, v, rfl, _⟩ := h
    rfl
  obtain ⟨Fh, t, v, rfl, sF, ta, hb, q⟩ := h
  refine ⟨_, pss_cons (ps_if (pt_cmpR op_eq (pe_ix ix_tup (pv 0) pe_int (fun _ _ => rfl)) pe_str (nomark _)) (pss_one (ps_ret (pe_callTy call_list_of (by rfl) mL boot_list (pa_cons (pe_ix ix_tup (pv 0) pe_int (fun _ _ => rfl)) pa_nil)))) pss_nil)
    (pss_cons (ps_if (pt_cmpR op_eq (pe_ix ix_tup (pv 0) pe_int (fun _ _ => rfl)) pe_str (nomark _)) (pss_one (ps_ret (pe_lst (pa_cons (pe_ix ix_tup (pv 0) pe_int (fun _ _ => rfl)) (StX.pa_star (pe_ix ix_tup (pv 0) pe_int (fun _ _ => rfl)) pa_nil))))) pss_nil)
    (pss_cons (ps_if (pt_cmpR op_eq (pe_ix ix_tup (pv 0) pe_int (fun _ _ => rfl)) pe_str (nomark _)) (pss_one (ps_ret (pe_lst (pa_cons (pe_ix ix_tup (pv 0) pe_int (fun _ _ => rfl)) pa_nil)))) pss_nil)
    (pss_one (ps_ret (pe_lst pa_nil))))), ?_⟩
  cases t with
  | int n o =>
    unfold TmAt at ta
    obtain ⟨a, w, rfl, ea, og⟩ := ta
    have ea0 := sF _ _ ea
    refine ⟨_, rfl, a, _, 0, _, rfl, rfl, SqT.of ea0, at0, rfl, _, rfl, ?_⟩
    refine if_false_of (str_ne (by decide +kernel)) ?_
    refine ⟨_, rfl, a, _, 0, _, rfl, rfl, SqT.of ea0, at0, rfl, _, rfl, ?_⟩
    refine if_false_of (str_ne (by decide +kernel)) ?_
    refine ⟨_, rfl, a, _, 0, _, rfl, rfl, SqT.of ea0, at0, rfl, _, rfl, ?_⟩
    refine if_false_of (str_ne (by decide +kernel)) ?_
    exact ⟨by show 0 ≤ sizeLine; decide, fun p np => q _ p (same_new np _) np upd_same⟩
  | prim n o =>
    unfold TmAt at ta
    obtain ⟨a, w, rfl, ea, og⟩ := ta
    have ea0 := sF _ _ ea
    refine ⟨_, rfl, a, _, 0, _, rfl, rfl, SqT.of ea0, at0, rfl, _, rfl, ?_⟩
    refine if_false_of (str_ne (by decide +kernel)) ?_
    refine ⟨_, rfl, a, _, 0, _, rfl, rfl, SqT.of ea0, at0, rfl, _, rfl, ?_⟩
    refine if_false_of (str_ne (by decide +kernel)) ?_
    refine ⟨_, rfl, a, _, 0, _, rfl, rfl, SqT.of ea0, at0, rfl, _, rfl, ?_⟩
    refine if_false_of (str_ne (by decide +kernel)) ?_
    exact ⟨by show 0 ≤ sizeLine; decide, fun p np => q _ p (same_new np _) np upd_same⟩
  | ref i o =>
    unfold TmAt at ta
    obtain ⟨a, w, rfl, ea, og⟩ := ta
    have ea0 := sF _ _ ea
    refine ⟨_, rfl, a, _, 0, _, rfl, rfl, SqT.of ea0, at0, rfl, _, rfl, ?_⟩
    refine if_false_of (str_ne (by decide +kernel)) ?_
    refine ⟨_, rfl, a, _, 0, _, rfl, rfl, SqT.of ea0, at0, rfl, _, rfl, ?_⟩
    refine if_false_of (str_ne (by decide +kernel)) ?_
    refine ⟨_, rfl, a, _, 0, _, rfl, rfl, SqT.of ea0, at0, rfl, _, rfl, ?_⟩
    refine if_false_of (str_ne (by decide +kernel)) ?_
    exact ⟨by show 0 ≤ sizeLine; decide, fun p np => q _ p (same_new np _) np upd_same⟩
  | fn ids b o =>
    unfold TmAt at ta
    obtain ⟨a, l, u, w, rfl, ea, el, tb, og⟩ := ta
    have ea0 := sF _ _ ea
    refine ⟨_, rfl, a, _, 0, _, rfl, rfl, SqT.of ea0, at0, rfl, _, rfl, ?_⟩
    refine if_true_of str_eq ?_
    refine ⟨_, rfl, a, _, 1, _, rfl, rfl, SqT.of ea0, atI_nat (j := 1) rfl, ?_⟩
    exact ⟨l, _, rfl, .inl (SqL.of (sF _ _ el)), fun p np => q _ p (same_new np _) np upd_same⟩
  | rc i ids b o =>
    unfold TmAt at ta
    obtain ⟨a, l, u, w, rfl, ea, el, tb, og⟩ := ta
    have ea0 := sF _ _ ea
    refine ⟨_, rfl, a, _, 0, _, rfl, rfl, SqT.of ea0, at0, rfl, _, rfl, ?_⟩
    refine if_false_of (str_ne (by decide +kernel)) ?_
    refine ⟨_, rfl, a, _, 0, _, rfl, rfl, SqT.of ea0, at0, rfl, _, rfl, ?_⟩
    refine if_true_of str_eq ?_
    have hb1 : ids.length + 1 ≤ 9000 := hb
    refine ⟨_, rfl, a, _, 1, _, rfl, rfl, SqT.of ea0, atI_nat (j := 1) rfl, ?_⟩
    refine ⟨_, rfl, a, _, 2, _, rfl, rfl, SqT.of ea0, atI_nat (j := 2) rfl, ?_⟩
    refine ⟨l, _, rfl, .inr (SqL.of (sF _ _ el)), ?_⟩
    refine ⟨?_, fun p np => ?_⟩
    · show (V.int i :: (ids.map V.int ++ [])).length ≤ sizeLine
      rw [List.append_nil, List.length_cons, List.length_map]
      exact small (by omega)
    · refine q _ p (same_new np _) np ?_
      rw [upd_same, List.append_nil]
      rfl
  | lt i x b o =>
    unfold TmAt at ta
    obtain ⟨a, u1, u2, w, rfl, ea, t1, t2, og⟩ := ta
    have ea0 := sF _ _ ea
    refine ⟨_, rfl, a, _, 0, _, rfl, rfl, SqT.of ea0, at0, rfl, _, rfl, ?_⟩
    refine if_false_of (str_ne (by decide +kernel)) ?_
    refine ⟨_, rfl, a, _, 0, _, rfl, rfl, SqT.of ea0, at0, rfl, _, rfl, ?_⟩
    refine if_false_of (str_ne (by decide +kernel)) ?_
    refine ⟨_, rfl, a, _, 0, _, rfl, rfl, SqT.of ea0, at0, rfl, _, rfl, ?_⟩
    refine if_true_of str_eq ?_
    refine ⟨_, rfl, a, _, 1, _, rfl, rfl, SqT.of ea0, atI_nat (j := 1) rfl, ?_⟩
    exact ⟨by show 1 ≤ sizeLine; decide, fun p np => q _ p (same_new np _) np upd_same⟩
  | ite x y z o =>
    unfold TmAt at ta
    obtain ⟨a, u1, u2, u3, w, rfl, ea, t1, t2, t3, og⟩ := ta
    have ea0 := sF _ _ ea
    refine ⟨_, rfl, a, _, 0, _, rfl, rfl, SqT.of ea0, at0, rfl, _, rfl, ?_⟩
    refine if_false_of (str_ne (by decide +kernel)) ?_
    refine ⟨_, rfl, a, _, 0, _, rfl, rfl, SqT.of ea0, at0, rfl, _, rfl, ?_⟩
    refine if_false_of (str_ne (by decide +kernel)) ?_
    refine ⟨_, rfl, a, _, 0, _, rfl, rfl, SqT.of ea0, at0, rfl, _, rfl, ?_⟩
    refine if_false_of (str_ne (by decide +kernel)) ?_
    exact ⟨by show 0 ≤ sizeLine; decide, fun p np => q _ p (same_new np _) np upd_same⟩
  | app f xs o =>
    unfold TmAt at ta
    obtain ⟨a, u, l, us, w, rfl, ea, el, tf, tx, og⟩ := ta
    have ea0 := sF _ _ ea
    refine ⟨_, rfl, a, _, 0, _, rfl, rfl, SqT.of ea0, at0, rfl, _, rfl, ?_⟩
    refine if_false_of (str_ne (by decide +kernel)) ?_
    refine ⟨_, rfl, a, _, 0, _, rfl, rfl, SqT.of ea0, at0, rfl, _, rfl, ?_⟩
    refine if_false_of (str_ne (by decide +kernel)) ?_
    refine ⟨_, rfl, a, _, 0, _, rfl, rfl, SqT.of ea0, at0, rfl, _, rfl, ?_⟩
    refine if_false_of (str_ne (by decide +kernel)) ?_
    exact ⟨by show 0 ≤ sizeLine; decide, fun p np => q _ p (same_new np _) np upd_same⟩
  | pair x y o =>
    unfold TmAt at ta
    obtain ⟨a, u1, u2, w, rfl, ea, t1, t2, og⟩ := ta
    have ea0 := sF _ _ ea
    refine ⟨_, rfl, a, _, 0, _, rfl, rfl, SqT.of ea0, at0, rfl, _, rfl, ?_⟩
    refine if_false_of (str_ne (by decide +kernel)) ?_
    refine ⟨_, rfl, a, _, 0, _, rfl, rfl, SqT.of ea0, at0, rfl, _, rfl, ?_⟩
    refine if_false_of (str_ne (by decide +kernel)) ?_
    refine ⟨_, rfl, a, _, 0, _, rfl, rfl, SqT.of ea0, at0, rfl, _, rfl, ?_⟩
    refine if_false_of (str_ne (by decide +kernel)) ?_
    exact ⟨by show 0 ≤ sizeLine; decide, fun p np => q _ p (same_new np _) np upd_same⟩
end
end Sg

namespace Sg
open PySem PySem.Spec PyProof.Rows L2
variable [Now]
/-! ### bounds, closed terms, substitution -/
mutual
/-- the parts within bounds -/
def wok : Tm → Prop
  | .int n o => n.natAbs ≤ 999999999 ∧ OgOk o
  | .prim s o => s.length ≤ 20 ∧ (∀ c ∈ s.cps.toList, c < 128) ∧ OgOk o
  | .ref i o => i.natAbs ≤ 100000 ∧ OgOk o
  | .fn ids b o => ids.length ≤ 4 ∧ (∀ i ∈ ids, i.natAbs ≤ 100000) ∧ wok b ∧ OgOk o
  | .rc i ids b o => ids.length ≤ 4 ∧ i.natAbs ≤ 100000 ∧ (∀ i ∈ ids, i.natAbs ≤ 100000) ∧ wok b ∧ OgOk o
  | .lt i x b o => i.natAbs ≤ 100000 ∧ wok x ∧ wok b ∧ OgOk o
  | .ite x y z o => wok x ∧ wok y ∧ wok z ∧ OgOk o
  | .app f xs o => wok f ∧ woks xs ∧ OgOk o
  | .pair x y o => wok x ∧ wok y ∧ OgOk o
def woks : List Tm → Prop
  | [] => True
  | t :: ts => wok t ∧ woks ts
end
mutual
/-- no unbound variables but these -/
def clo : List Int → Tm → Prop
  | _, .int _ _ => True
  | _, .prim _ _ => True
  | env, .ref i _ => i ∈ env
  | env, .fn ids b _ => clo (env ++ ids) b
  | env, .rc i ids b _ => clo (env ++ [i] ++ ids) b
  | env, .lt i x b _ => clo env x ∧ clo (env ++ [i]) b
  | env, .ite x y z _ => clo env x ∧ clo env y ∧ clo env z
  | env, .app f xs _ => clo env f ∧ clos env xs
  | env, .pair x y _ => clo env x ∧ clo env y
def clos : List Int → List Tm → Prop
  | _, [] => True
  | env, t :: ts => clo env t ∧ clos env ts
end
theorem woks_app : ∀ (a b : List Tm), woks a → woks b → woks (a ++ b)
  | [], b, _, h => h
  | t :: a, b, h, g => by
    simp only [woks] at h
    show woks (t :: (a ++ b))
    simp only [woks]
    exact ⟨h.1, woks_app a b h.2 g⟩
theorem clos_app (env : List Int) : ∀ (a b : List Tm), clos env a → clos env b → clos env (a ++ b)
  | [], b, _, h => h
  | t :: a, b, h, g => by
    simp only [clos] at h
    show clos env (t :: (a ++ b))
    simp only [clos]
    exact ⟨h.1, clos_app env a b h.2 g⟩
theorem woks_get : ∀ {ts : List Tm} {i : Nat} {t : Tm}, woks ts → ts[i]? = some t → wok t
  | [], i, t, _, e => by simp at e
  | u :: ts, i, t, h, e => by
    simp only [woks] at h
    cases i with
    | zero =>
      cases e
      exact h.1
    | succ i => exact woks_get (i := i) h.2 e
theorem clos_get {env : List Int} : ∀ {ts : List Tm} {i : Nat} {t : Tm}, clos env ts → ts[i]? = some t → clo env t
  | [], i, t, _, e => by simp at e
  | u :: ts, i, t, h, e => by
    simp only [clos] at h
    cases i with
    | zero =>
      cases e
      exact h.1
    | succ i => exact clos_get (i := i) h.2 e
/-- the values that are left where these numbers are bound again -/
def rmM (m : Int → Option Tm) (ids : List Int) : Int → Option Tm := fun x => if x ∈ ids then none else m x
theorem rmM_nil (m : Int → Option Tm) : rmM m [] = m := by
  funext x
  unfold rmM
  rw [if_neg (by simp)]
theorem rmM_none (ids : List Int) : rmM (fun _ => none) ids = fun _ => none := by
  funext x
  unfold rmM
  split <;> rfl
mutual
def sub : (Int → Option Tm) → Tm → Tm
  | _, .int n o => .int n o
  | _, .prim s o => .prim s o
  | m, .ref i o => (m i).getD (.ref i o)
  | m, .fn ids b o => .fn ids (sub (rmM m ids) b) o
  | m, .rc i ids b o => .rc i ids (sub (rmM m (i :: ids)) b) o
  | m, .lt i x b o => .lt i (sub m x) (sub (rmM m [i]) b) o
  | m, .ite x y z o => .ite (sub m x) (sub m y) (sub m z) o
  | m, .app f xs o => .app (sub m f) (subs m xs) o
  | m, .pair x y o => .pair (sub m x) (sub m y) o
def subs : (Int → Option Tm) → List Tm → List Tm
  | _, [] => []
  | m, t :: ts => sub m t :: subs m ts
end
mutual
theorem sub_none : ∀ t : Tm, sub (fun _ => none) t = t
  | .int n o => by simp only [sub]
  | .prim s o => by simp only [sub]
  | .ref i o => by simp only [sub, Option.getD_none]
  | .fn ids b o => by simp only [sub, rmM_none, sub_none b]
  | .rc i ids b o => by simp only [sub, rmM_none, sub_none b]
  | .lt i x b o => by simp only [sub, rmM_none, sub_none x, sub_none b]
  | .ite x y z o => by simp only [sub, sub_none x, sub_none y, sub_none z]
  | .app f xs o => by simp only [sub, sub_none f, subs_none xs]
  | .pair x y o => by simp only [sub, sub_none x, sub_none y]
theorem subs_none : ∀ ts : List Tm, subs (fun _ => none) ts = ts
  | [] => by simp only [subs]
  | t :: ts => by simp only [subs, sub_none t, subs_none ts]
end
theorem subs_length (m : Int → Option Tm) : ∀ ts : List Tm, (subs m ts).length = ts.length
  | [] => rfl
  | t :: ts => by
    simp only [subs, List.length_cons]
    rw [subs_length m ts]
/-- the same term with other parts -/
def rebT : Tm → List Tm → Tm
  | .fn ids _ o, [u] => .fn ids u o
  | .rc i ids _ o, [u] => .rc i ids u o
  | .lt i _ _ o, [u, v] => .lt i u v o
  | .ite _ _ _ o, [u, v, w] => .ite u v w o
  | .app _ _ o, u :: us => .app u us o
  | .pair _ _ o, [u, v] => .pair u v o
  | t, _ => t
/-- a term's parts with the values put in -/
def kidS : (Int → Option Tm) → Tm → List Tm
  | m, .fn ids b _ => [sub (rmM m ids) b]
  | m, .rc i ids b _ => [sub (rmM m (i :: ids)) b]
  | m, .lt i x b _ => [sub m x, sub (rmM m [i]) b]
  | m, t => subs m (kids t)
theorem rebT_sub (m : Int → Option Tm) : ∀ t : Tm, (∀ i o, t ≠ .ref i o) → rebT t (kidS m t) = sub m t := fun t h => by
  cases t with
  | ref i o => exact absurd rfl (h i o)
  | _ => simp only [kidS, kids, subs, rebT, sub]
theorem kidS_length (m : Int → Option Tm) (t : Tm) : (kidS m t).length = (kids t).length := by
  cases t <;> (simp only [kidS, kids, subs_length]; try rfl)
/-- no bound numbers: all parts alike -/
theorem kidS_free (m : Int → Option Tm) : ∀ {t : Tm}, bnds t = [] → kidS m t = subs m (kids t) := by
  intro t hb
  cases t with
  | fn ids b o =>
    have e0 : ids = [] := hb
    subst e0
    simp only [kidS, kids, subs, rmM_nil]
  | rc i ids b o => cases hb
  | lt i x b o => cases hb
  | _ => rfl
theorem kidS_bound (m : Int → Option Tm) : ∀ {t : Tm}, bnds t ≠ [] → ∃ pre b, kids t = pre ++ [b] ∧ kidS m t = subs m pre ++ [sub (rmM m (bnds t)) b] := by
  intro t hb
  cases t with
  | fn ids b o => exact ⟨[], b, rfl, rfl⟩
  | rc i ids b o => exact ⟨[], b, rfl, rfl⟩
  | lt i x b o => exact ⟨[x], b, rfl, rfl⟩
  | _ => exact absurd rfl hb
theorem subs_app (m : Int → Option Tm) : ∀ a b : List Tm, subs m (a ++ b) = subs m a ++ subs m b
  | [], b => by simp only [List.nil_append, subs]
  | t :: a, b => by
    show subs m (t :: (a ++ b)) = _
    simp only [subs]
    rw [subs_app m a b]
    rfl
theorem msz_kids : ∀ t : Tm, msz t = 1 + mszs (kids t) := fun t => by
  cases t <;> (simp only [msz, kids, mszs]; try omega)
/-! ### dicts of values -/
def DG (kvs : List (Key × V)) (c : Int → Option V) : Prop := (∀ i : Int, valV kvs (Sum.inl i : Key) = c i) ∧ ∀ p ∈ kvs, ∃ (i : Int) (v : V), p = ((Sum.inl i : Key), v)
def upG (c : Int → Option V) (i : Int) (v : V) : Int → Option V := fun x => if x = i then some v else c x
def rmC (c : Int → Option V) (ids : List Int) : Int → Option V := fun x => if x ∈ ids then none else c x
theorem DG.nil : DG [] fun _ => none := ⟨fun i => rfl, fun p h => by cases h⟩
theorem DG.put {kvs : List (Key × V)} {c : Int → Option V} {i : Int} {v : V} (d : DG kvs c) : DG (putK kvs (Sum.inl i : Key) v) (upG c i v) := by
  refine ⟨fun x => ?_, fun p hp => ?_⟩
  · rw [valV_put]
    unfold upG
    by_cases z : x = i
    · rw [if_pos z, if_pos (by rw [z])]
    · rw [if_neg z, if_neg (fun w => z (by injection w))]
      exact d.1 x
  · unfold putK at hp
    split at hp
    · obtain ⟨q, hq, e⟩ := List.mem_map.mp hp
      obtain ⟨a, b, rfl⟩ := d.2 q hq
      by_cases z : (Sum.inl a : Key) = Sum.inl i
      · rw [if_pos z] at e
        exact ⟨a, v, e.symm⟩
      · rw [if_neg z] at e
        exact ⟨a, b, e.symm⟩
    · rcases List.mem_append.mp hp with e | e
      · exact d.2 p e
      · exact ⟨i, v, List.mem_singleton.mp e⟩
theorem DG.has {kvs : List (Key × V)} {c : Int → Option V} (d : DG kvs c) {i : Int} {v : V} (h : ((Sum.inl i : Key), v) ∈ kvs) : ∃ x, c i = some x := by
  have q := valV_any (Sum.inl i : Key) kvs
  have a : (kvs.any fun kv => decide (kv.1 = (Sum.inl i : Key))) = true := List.any_eq_true.mpr ⟨_, h, decide_eq_true rfl⟩
  rw [a, d.1 i] at q
  cases e : c i with
  | none =>
    rw [e] at q
    cases q
  | some x => exact ⟨x, rfl⟩
/-- the copied part: of a dict with c, without these numbers -/
def CG (kvs : List (Key × V)) (c ci : Int → Option V) (t : Nat) : Prop := ∀ x, (ci x = none ∨ ci x = c x) ∧ ((∃ y, ((Sum.inl x : Key), y) ∈ kvs.take t) → ci x = c x)
theorem CG.nil {kvs : List (Key × V)} {c : Int → Option V} : CG kvs c (fun _ => none) 0 := fun x => ⟨.inl rfl, fun ⟨y, h⟩ => by
  rw [List.take_zero] at h
  cases h⟩
theorem CG.step {kvs : List (Key × V)} {c ci : Int → Option V} {t : Nat} {i : Int} {u v : V} (h : CG kvs c ci t) (e : kvs[t]? = some ((Sum.inl i : Key), u)) (hm : c i = some v) : CG kvs c (upG ci i v) (t + 1) := fun x => by
  unfold upG
  by_cases z : x = i
  · rw [if_pos z, z]
    exact ⟨.inr hm.symm, fun _ => hm.symm⟩
  · rw [if_neg z]
    refine ⟨(h x).1, fun ⟨y, hy⟩ => ?_⟩
    rw [List.take_add_one, e] at hy
    rcases List.mem_append.mp hy with w | w
    · exact (h x).2 ⟨y, w⟩
    · have w2 := List.mem_singleton.mp (show ((Sum.inl x : Key), y) ∈ [((Sum.inl i : Key), u)] from w)
      injection w2 with w3 _
      injection w3 with w4
      exact absurd w4 z
theorem CG.skip {kvs : List (Key × V)} {c ci : Int → Option V} {t : Nat} {i : Int} {u : V} (h : CG kvs c ci t) (e : kvs[t]? = some ((Sum.inl i : Key), u)) (hm : c i = none) : CG kvs c ci (t + 1) := fun x => by
  refine ⟨(h x).1, fun ⟨y, hy⟩ => ?_⟩
  rw [List.take_add_one, e] at hy
  rcases List.mem_append.mp hy with w | w
  · exact (h x).2 ⟨y, w⟩
  · have w2 := List.mem_singleton.mp (show ((Sum.inl x : Key), y) ∈ [((Sum.inl i : Key), u)] from w)
    injection w2 with w3 _
    injection w3 with w4
    rw [w4]
    rcases (h i).1 with z | z
    · rw [z, hm]
    · exact z
theorem CG.all {kvs : List (Key × V)} {c0 c ci : Int → Option V} (d : DG kvs c0) (hc : ∀ x v, c x = some v → ∃ y, c0 x = some y) (h : CG kvs c ci kvs.length) : ci = c := by
  funext x
  rcases (h x).1 with e | e
  · cases q : c x with
    | none => exact e
    | some j =>
      obtain ⟨y, hy⟩ := hc x j q
      have a := valV_any (Sum.inl x : Key) kvs
      rw [d.1 x, hy] at a
      have a' : (kvs.any fun kv => decide (kv.1 = (Sum.inl x : Key))) = true := a
      obtain ⟨p, hp, e2⟩ := List.any_eq_true.mp a'
      have e3 : p.1 = Sum.inl x := of_decide_eq_true e2
      have := (h x).2 ⟨p.2, by rw [List.take_length]; obtain ⟨p1, p2⟩ := p; exact e3 ▸ hp⟩
      rw [this]
      exact q
  · exact e
/-- what the dict gives are terms -/
def TC (F : Hp) (m : Int → Option Tm) (c : Int → Option V) : Prop := ∀ i, (m i = none ∧ c i = none) ∨ ∃ t v, m i = some t ∧ c i = some v ∧ TmAt F t v
theorem TC.nil {F : Hp} : TC F (fun _ => none) fun _ => none := fun _ => .inl ⟨rfl, rfl⟩
theorem TC.same {F F' : Hp} {m : Int → Option Tm} {c : Int → Option V} (e : Same F F') (h : TC F m c) : TC F' m c := fun i => (h i).imp id fun ⟨t, v, a, b, d⟩ => ⟨t, v, a, b, TmAt.same e t v d⟩
theorem TC.rm {F : Hp} {m : Int → Option Tm} {c : Int → Option V} (h : TC F m c) (ids : List Int) : TC F (rmM m ids) (rmC c ids) := fun i => by
  unfold rmM rmC
  by_cases z : i ∈ ids
  · rw [if_pos z, if_pos z]
    exact .inl ⟨rfl, rfl⟩
  · rw [if_neg z, if_neg z]
    exact h i
def upT (m : Int → Option Tm) (i : Int) (t : Tm) : Int → Option Tm := fun x => if x = i then some t else m x
theorem TC.up {F : Hp} {m : Int → Option Tm} {c : Int → Option V} {i : Int} {t : Tm} {v : V} (h : TC F m c) (ht : TmAt F t v) : TC F (upT m i t) (upG c i v) := fun x => by
  unfold upT upG
  by_cases z : x = i
  · rw [if_pos z, if_pos z]
    exact .inr ⟨t, v, rfl, rfl, ht⟩
  · rw [if_neg z, if_neg z]
    exact h x
end Sg

namespace Sg
open PySem PySem.Spec PyProof.Rows L2
variable [Now]
/-! ### rebuilt -/
theorem ov_sub {F H H' G : Hp} (s : Same F G) (e : ∀ b o, H b = none → H' b = some o → G b = some o) : Same (ov F H H') G := fun b o q => by
  unfold ov at q
  by_cases z : H b = none
  · rw [if_pos z] at q
    exact e _ _ z q
  · rw [if_neg z] at q
    exact s _ _ q
theorem atI_neg1 {xs : List V} {n : Nat} {v : V} (h : xs.length = n + 1) (e : xs[n]? = some v) : atI xs (-1) = some v := by
  unfold atI ixN
  rw [h, if_neg (by decide), if_pos (by omega)]
  show xs[_]? = some v
  rw [← e]
  congr 1
  omega
theorem cut_tail (u : V) (us : List V) : cutV (u :: us) (some 1) none = us := by
  unfold cutV HT.sIx
  simp only [List.length_cons]
  rw [if_neg (by decide), show min (Int.toNat 1) (us.length + 1) = 1 from Nat.min_eq_left (by show 1 ≤ us.length + 1; omega)]
  simp
def spReb : Sp := fun vs H Q _ => ∃ (F : Hp) (t : Tm) (v : V) (l : Addr) (xs : List V) (us : List Tm), vs = [v, .ref l] ∧ Same F H ∧ TmAt F t v ∧ H l = some (.lst xs) ∧ TmsAt F us xs ∧ us.length = (kids t).length ∧ (kids t).length ≤ 9000 ∧ (bnds t).length ≤ 9000 ∧
  ∀ H' u, Same H H' → TmAt (ov F H H') (rebT t us) u → Q u H'
theorem scReb : FnScope ["term", "inner", "kind", "origin"] ["term", "inner"] (defScope cRebuilt) := ⟨rfl, rfl, rfl, by decide +kernel, rfl, by decide +kernel, by decide +kernel⟩
section
variable {P : Program} {w : World} {K : PySem.W.Frag} {mg : Str → Option Value} {base : Heap}
theorem ok_reb {f : Addr} {fd : FuncData} {k : Nat} (F : Fun K "rebuilt" "rebuilt" cRebuilt f fd) (mL : mg "list" = none) : FnOk P w K mg base CX0 (k + 1) f fd ["term", "inner"] spReb := by
  refine F.ok scReb (fun vs H Q E h => ?_) (fun cdv A outer st H vs Q E hr h => ?_)
  · obtain ⟨F, t, v, l, xs, us, rfl, _⟩ := h
    rfl
  obtain ⟨Fh, t, v, il, xs, us, rfl, sF, ta, eil, tus, hus, hb, hbb, q⟩ := h
  refine ⟨_, pss_cons (ps_set (i := 2) scReb.nd rfl (.inl rfl) (pe_ix ix_tup (pv 0) pe_int (fun _ _ => rfl)))
    (pss_cons (ps_set (i := 3) scReb.nd rfl (.inl rfl) (pe_ix ix_tup (pv 0) (pe_un un_neg pe_int) (fun _ _ => rfl)))
    (pss_cons (ps_if (pt_cmpR op_in_seq (pv 2) (pe_tup (pa_cons pe_str (pa_cons pe_str (pa_cons pe_str pa_nil)))) rfl) (pss_one (ps_ret (pv 0))) pss_nil)
    (pss_cons (ps_if (pt_cmpR op_eq (pv 2) pe_str (nomark _)) (pss_one (ps_ret (pe_tup (pa_cons (pv 2) (pa_cons (pe_ix ix_list (pv 1) pe_int (fun _ _ => rfl)) (pa_cons (pe_slice sl_list (pv 1) (po_some pe_int) po_none) (pa_cons (pv 3) pa_nil))))))) pss_nil)
    (pss_cons (ps_if (pt_cmpR op_eq (pv 2) pe_str (nomark _)) (pss_one (ps_ret (pe_tup (pa_cons (pv 2) (pa_cons (pe_callTy call_list_of (by rfl) mL boot_list (pa_cons (pe_ix ix_tup (pv 0) pe_int (fun _ _ => rfl)) pa_nil)) (pa_cons (pe_ix ix_list (pv 1) pe_int (fun _ _ => rfl)) (pa_cons (pv 3) pa_nil))))))) pss_nil)
    (pss_cons (ps_if (pt_cmpR op_eq (pv 2) pe_str (nomark _)) (pss_one (ps_ret (pe_tup (pa_cons (pv 2) (pa_cons (pe_ix ix_tup (pv 0) pe_int (fun _ _ => rfl)) (pa_cons (pe_callTy call_list_of (by rfl) mL boot_list (pa_cons (pe_ix ix_tup (pv 0) pe_int (fun _ _ => rfl)) pa_nil)) (pa_cons (pe_ix ix_list (pv 1) pe_int (fun _ _ => rfl)) (pa_cons (pv 3) pa_nil)))))))) pss_nil)
    (pss_cons (ps_if (pt_cmpR op_eq (pv 2) pe_str (nomark _)) (pss_one (ps_ret (pe_tup (pa_cons (pv 2) (pa_cons (pe_ix ix_tup (pv 0) pe_int (fun _ _ => rfl)) (StX.pa_star (pv 1) (pa_cons (pv 3) pa_nil))))))) pss_nil)
    (pss_one (ps_ret (pe_tup (pa_cons (pv 2) (StX.pa_star (pv 1) (pa_cons (pv 3) pa_nil)))))))))))), ?_⟩
  cases t with
  | int n o =>
    unfold TmAt at ta
    obtain ⟨a, w, rfl, ea, og⟩ := ta
    have ea0 := sF _ _ ea
    refine ⟨_, rfl, a, _, 0, _, rfl, rfl, SqT.of ea0, at0, ?_⟩
    refine ⟨_, rfl, 1, rfl, a, _, -1, w, rfl, rfl, SqT.of ea0, atI_neg1 (n := 2) rfl rfl, ?_⟩
    refine ⟨_, rfl, by show 3 ≤ sizeLine; decide, fun tp ntp => ?_⟩
    refine ⟨tp, _, rfl, .inr (SqT.of upd_same), rfl, rfl, _, rfl, ?_⟩
    have sm1 : Same H (upd H tp (.tup [.str "int", .str "prim", .str "ref"])) := same_new ntp _
    generalize upd H tp (.tup [.str "int", .str "prim", .str "ref"]) = H1 at sm1
    refine if_true_of (by decide +kernel) ?_
    refine ⟨_, rfl, q _ _ sm1 ?_⟩
    have e0 : us = [] := List.length_eq_zero_iff.mp hus
    subst e0
    simp only [rebT]
    unfold TmAt
    exact ⟨a, w, rfl, ov_base sF _ _ ea, og.same (ov_base sF)⟩
  | prim n o =>
    unfold TmAt at ta
    obtain ⟨a, w, rfl, ea, og⟩ := ta
    have ea0 := sF _ _ ea
    refine ⟨_, rfl, a, _, 0, _, rfl, rfl, SqT.of ea0, at0, ?_⟩
    refine ⟨_, rfl, 1, rfl, a, _, -1, w, rfl, rfl, SqT.of ea0, atI_neg1 (n := 2) rfl rfl, ?_⟩
    refine ⟨_, rfl, by show 3 ≤ sizeLine; decide, fun tp ntp => ?_⟩
    refine ⟨tp, _, rfl, .inr (SqT.of upd_same), rfl, rfl, _, rfl, ?_⟩
    have sm1 : Same H (upd H tp (.tup [.str "int", .str "prim", .str "ref"])) := same_new ntp _
    generalize upd H tp (.tup [.str "int", .str "prim", .str "ref"]) = H1 at sm1
    refine if_true_of (by decide +kernel) ?_
    refine ⟨_, rfl, q _ _ sm1 ?_⟩
    have e0 : us = [] := List.length_eq_zero_iff.mp hus
    subst e0
    simp only [rebT]
    unfold TmAt
    exact ⟨a, w, rfl, ov_base sF _ _ ea, og.same (ov_base sF)⟩
  | ref i o =>
    unfold TmAt at ta
    obtain ⟨a, w, rfl, ea, og⟩ := ta
    have ea0 := sF _ _ ea
    refine ⟨_, rfl, a, _, 0, _, rfl, rfl, SqT.of ea0, at0, ?_⟩
    refine ⟨_, rfl, 1, rfl, a, _, -1, w, rfl, rfl, SqT.of ea0, atI_neg1 (n := 2) rfl rfl, ?_⟩
    refine ⟨_, rfl, by show 3 ≤ sizeLine; decide, fun tp ntp => ?_⟩
    refine ⟨tp, _, rfl, .inr (SqT.of upd_same), rfl, rfl, _, rfl, ?_⟩
    have sm1 : Same H (upd H tp (.tup [.str "int", .str "prim", .str "ref"])) := same_new ntp _
    generalize upd H tp (.tup [.str "int", .str "prim", .str "ref"]) = H1 at sm1
    refine if_true_of (by decide +kernel) ?_
    refine ⟨_, rfl, q _ _ sm1 ?_⟩
    have e0 : us = [] := List.length_eq_zero_iff.mp hus
    subst e0
    simp only [rebT]
    unfold TmAt
    exact ⟨a, w, rfl, ov_base sF _ _ ea, og.same (ov_base sF)⟩
  | fn ids b o =>
    unfold TmAt at ta
    obtain ⟨a, l, u, w, rfl, ea, el, tb, og⟩ := ta
    have ea0 := sF _ _ ea
    refine ⟨_, rfl, a, _, 0, _, rfl, rfl, SqT.of ea0, at0, ?_⟩
    refine ⟨_, rfl, 1, rfl, a, _, -1, w, rfl, rfl, SqT.of ea0, atI_neg1 (n := 3) rfl rfl, ?_⟩
    refine ⟨_, rfl, by show 3 ≤ sizeLine; decide, fun tp ntp => ?_⟩
    refine ⟨tp, _, rfl, .inr (SqT.of upd_same), rfl, rfl, _, rfl, ?_⟩
    have sm1 : Same H (upd H tp (.tup [.str "int", .str "prim", .str "ref"])) := same_new ntp _
    generalize upd H tp (.tup [.str "int", .str "prim", .str "ref"]) = H1 at sm1
    refine if_false_of (by decide +kernel) ?_
    have ea1 := sm1 _ _ ea0
    have eil1 := sm1 _ _ eil
    refine ⟨_, rfl, rfl, _, rfl, ?_⟩
    refine if_false_of (str_ne (by decide +kernel)) ?_
    refine ⟨_, rfl, rfl, _, rfl, ?_⟩
    refine if_true_of str_eq ?_
    match us, hus, tus with
    | [k0], hus, tus =>
    unfold TmsAt at tus
    obtain ⟨z0, zr, rfl, tz, tzr⟩ := tus
    unfold TmsAt at tzr
    subst tzr
    refine ⟨_, rfl, _, rfl, a, _, 1, _, rfl, rfl, SqT.of ea1, atI_nat (j := 1) rfl, ?_⟩
    refine ⟨l, _, rfl, .inl (SqL.of (sm1 _ _ (sF _ _ el))), fun p np => ?_⟩
    refine ⟨_, rfl, il, _, 0, _, rfl, rfl, SqL.of (same_new np _ _ _ eil1), at0, ?_⟩
    refine ⟨_, rfl, by show 4 ≤ sizeLine; decide, fun t nt => ?_⟩
    have sm2 : Same H1 (upd (upd H1 p (.lst (ids.map V.int))) t (.tup [.str "fn", .ref p, z0, w])) := (same_new np _).trans (same_new nt _)
    refine q _ _ (sm1.trans sm2) ?_
    simp only [rebT]
    unfold TmAt
    exact ⟨t, p, z0, w, rfl, ov_new ((sm1.trans (same_new np _)).free nt) upd_same, ov_new (sm1.free np) (same_new nt _ _ _ upd_same), TmAt.same (ov_base sF) _ _ tz, og.same (ov_base sF)⟩
  | rc i ids b o =>
    unfold TmAt at ta
    obtain ⟨a, l, u, w, rfl, ea, el, tb, og⟩ := ta
    have ea0 := sF _ _ ea
    refine ⟨_, rfl, a, _, 0, _, rfl, rfl, SqT.of ea0, at0, ?_⟩
    refine ⟨_, rfl, 1, rfl, a, _, -1, w, rfl, rfl, SqT.of ea0, atI_neg1 (n := 4) rfl rfl, ?_⟩
    refine ⟨_, rfl, by show 3 ≤ sizeLine; decide, fun tp ntp => ?_⟩
    refine ⟨tp, _, rfl, .inr (SqT.of upd_same), rfl, rfl, _, rfl, ?_⟩
    have sm1 : Same H (upd H tp (.tup [.str "int", .str "prim", .str "ref"])) := same_new ntp _
    generalize upd H tp (.tup [.str "int", .str "prim", .str "ref"]) = H1 at sm1
    refine if_false_of (by decide +kernel) ?_
    have ea1 := sm1 _ _ ea0
    have eil1 := sm1 _ _ eil
    refine ⟨_, rfl, rfl, _, rfl, ?_⟩
    refine if_false_of (str_ne (by decide +kernel)) ?_
    refine ⟨_, rfl, rfl, _, rfl, ?_⟩
    refine if_false_of (str_ne (by decide +kernel)) ?_
    refine ⟨_, rfl, rfl, _, rfl, ?_⟩
    refine if_true_of str_eq ?_
    match us, hus, tus with
    | [k0], hus, tus =>
    unfold TmsAt at tus
    obtain ⟨z0, zr, rfl, tz, tzr⟩ := tus
    unfold TmsAt at tzr
    subst tzr
    refine ⟨_, rfl, _, rfl, a, _, 1, _, rfl, rfl, SqT.of ea1, atI_nat (j := 1) rfl, ?_⟩
    refine ⟨_, rfl, a, _, 2, _, rfl, rfl, SqT.of ea1, atI_nat (j := 2) rfl, ?_⟩
    refine ⟨l, _, rfl, .inl (SqL.of (sm1 _ _ (sF _ _ el))), fun p np => ?_⟩
    refine ⟨_, rfl, il, _, 0, _, rfl, rfl, SqL.of (same_new np _ _ _ eil1), at0, ?_⟩
    refine ⟨_, rfl, by show 5 ≤ sizeLine; decide, fun t nt => ?_⟩
    have sm2 : Same H1 (upd (upd H1 p (.lst (ids.map V.int))) t (.tup [.str "rec", .int i, .ref p, z0, w])) := (same_new np _).trans (same_new nt _)
    refine q _ _ (sm1.trans sm2) ?_
    simp only [rebT]
    unfold TmAt
    exact ⟨t, p, z0, w, rfl, ov_new ((sm1.trans (same_new np _)).free nt) upd_same, ov_new (sm1.free np) (same_new nt _ _ _ upd_same), TmAt.same (ov_base sF) _ _ tz, og.same (ov_base sF)⟩
  | lt i x b o =>
    unfold TmAt at ta
    obtain ⟨a, u1, u2, w, rfl, ea, t1, t2, og⟩ := ta
    have ea0 := sF _ _ ea
    refine ⟨_, rfl, a, _, 0, _, rfl, rfl, SqT.of ea0, at0, ?_⟩
    refine ⟨_, rfl, 1, rfl, a, _, -1, w, rfl, rfl, SqT.of ea0, atI_neg1 (n := 4) rfl rfl, ?_⟩
    refine ⟨_, rfl, by show 3 ≤ sizeLine; decide, fun tp ntp => ?_⟩
    refine ⟨tp, _, rfl, .inr (SqT.of upd_same), rfl, rfl, _, rfl, ?_⟩
    have sm1 : Same H (upd H tp (.tup [.str "int", .str "prim", .str "ref"])) := same_new ntp _
    generalize upd H tp (.tup [.str "int", .str "prim", .str "ref"]) = H1 at sm1
    refine if_false_of (by decide +kernel) ?_
    have ea1 := sm1 _ _ ea0
    have eil1 := sm1 _ _ eil
    refine ⟨_, rfl, rfl, _, rfl, ?_⟩
    refine if_false_of (str_ne (by decide +kernel)) ?_
    refine ⟨_, rfl, rfl, _, rfl, ?_⟩
    refine if_false_of (str_ne (by decide +kernel)) ?_
    refine ⟨_, rfl, rfl, _, rfl, ?_⟩
    refine if_false_of (str_ne (by decide +kernel)) ?_
    refine ⟨_, rfl, rfl, _, rfl, ?_⟩
    refine if_true_of str_eq ?_
    match us, hus, tus with
    | [k0, k1], hus, tus =>
    unfold TmsAt at tus
    obtain ⟨z0, zr0, rfl, tz0, tus⟩ := tus
    unfold TmsAt at tus
    obtain ⟨z1, zr1, rfl, tz1, tus⟩ := tus
    unfold TmsAt at tus
    subst tus
    refine ⟨_, rfl, _, rfl, a, _, 1, _, rfl, rfl, SqT.of ea1, atI_nat (j := 1) rfl, ?_⟩
    refine ⟨_, rfl, il, _, rfl, .inr (SqL.of eil1), _, rfl, by show 5 ≤ sizeLine; decide, fun t nt => ?_⟩
    have sm2 : Same H1 (upd H1 t (.tup [.str "let", .int i, z0, z1, w])) := same_new nt _
    refine q _ _ (sm1.trans sm2) ?_
    simp only [rebT]
    unfold TmAt
    exact ⟨t, z0, z1, w, rfl, ov_new (sm1.free nt) upd_same, TmAt.same (ov_base sF) _ _ tz0, TmAt.same (ov_base sF) _ _ tz1, og.same (ov_base sF)⟩
  | ite x y z o =>
    unfold TmAt at ta
    obtain ⟨a, u1, u2, u3, w, rfl, ea, t1, t2, t3, og⟩ := ta
    have ea0 := sF _ _ ea
    refine ⟨_, rfl, a, _, 0, _, rfl, rfl, SqT.of ea0, at0, ?_⟩
    refine ⟨_, rfl, 1, rfl, a, _, -1, w, rfl, rfl, SqT.of ea0, atI_neg1 (n := 4) rfl rfl, ?_⟩
    refine ⟨_, rfl, by show 3 ≤ sizeLine; decide, fun tp ntp => ?_⟩
    refine ⟨tp, _, rfl, .inr (SqT.of upd_same), rfl, rfl, _, rfl, ?_⟩
    have sm1 : Same H (upd H tp (.tup [.str "int", .str "prim", .str "ref"])) := same_new ntp _
    generalize upd H tp (.tup [.str "int", .str "prim", .str "ref"]) = H1 at sm1
    refine if_false_of (by decide +kernel) ?_
    have ea1 := sm1 _ _ ea0
    have eil1 := sm1 _ _ eil
    refine ⟨_, rfl, rfl, _, rfl, ?_⟩
    refine if_false_of (str_ne (by decide +kernel)) ?_
    refine ⟨_, rfl, rfl, _, rfl, ?_⟩
    refine if_false_of (str_ne (by decide +kernel)) ?_
    refine ⟨_, rfl, rfl, _, rfl, ?_⟩
    refine if_false_of (str_ne (by decide +kernel)) ?_
    refine ⟨_, rfl, rfl, _, rfl, ?_⟩
    refine if_false_of (str_ne (by decide +kernel)) ?_
    match us, hus, tus with
    | [k0, k1, k2], hus, tus =>
    unfold TmsAt at tus
    obtain ⟨z0, zr0, rfl, tz0, tus⟩ := tus
    unfold TmsAt at tus
    obtain ⟨z1, zr1, rfl, tz1, tus⟩ := tus
    unfold TmsAt at tus
    obtain ⟨z2, zr2, rfl, tz2, tus⟩ := tus
    unfold TmsAt at tus
    subst tus
    refine ⟨_, rfl, _, rfl, il, _, rfl, .inr (SqL.of eil1), _, rfl, by show 5 ≤ sizeLine; decide, fun t nt => ?_⟩
    have sm2 : Same H1 (upd H1 t (.tup [.str "if", z0, z1, z2, w])) := same_new nt _
    refine q _ _ (sm1.trans sm2) ?_
    simp only [rebT]
    unfold TmAt
    exact ⟨t, z0, z1, z2, w, rfl, ov_new (sm1.free nt) upd_same, TmAt.same (ov_base sF) _ _ tz0, TmAt.same (ov_base sF) _ _ tz1, TmAt.same (ov_base sF) _ _ tz2, og.same (ov_base sF)⟩
  | app f xs0 o =>
    unfold TmAt at ta
    obtain ⟨a, u, l, us0, w, rfl, ea, el, tf, tx, og⟩ := ta
    have ea0 := sF _ _ ea
    refine ⟨_, rfl, a, _, 0, _, rfl, rfl, SqT.of ea0, at0, ?_⟩
    refine ⟨_, rfl, 1, rfl, a, _, -1, w, rfl, rfl, SqT.of ea0, atI_neg1 (n := 3) rfl rfl, ?_⟩
    refine ⟨_, rfl, by show 3 ≤ sizeLine; decide, fun tp ntp => ?_⟩
    refine ⟨tp, _, rfl, .inr (SqT.of upd_same), rfl, rfl, _, rfl, ?_⟩
    have sm1 : Same H (upd H tp (.tup [.str "int", .str "prim", .str "ref"])) := same_new ntp _
    generalize upd H tp (.tup [.str "int", .str "prim", .str "ref"]) = H1 at sm1
    refine if_false_of (by decide +kernel) ?_
    have ea1 := sm1 _ _ ea0
    have eil1 := sm1 _ _ eil
    refine ⟨_, rfl, rfl, _, rfl, ?_⟩
    refine if_true_of str_eq ?_
    match us, hus, tus with
    | k0 :: kr, hus, tus =>
    unfold TmsAt at tus
    obtain ⟨z0, zr, rfl, tz, tzr⟩ := tus
    refine ⟨_, rfl, _, rfl, il, _, 0, _, rfl, rfl, SqL.of eil1, at0, ?_⟩
    refine ⟨_, rfl, 1, rfl, il, _, rfl, SqL.of eil1, fun p np => ?_⟩
    rw [cut_tail]
    refine ⟨_, rfl, by show 4 ≤ sizeLine; decide, fun t nt => ?_⟩
    have sm2 : Same H1 (upd (upd H1 p (.lst zr)) t (.tup [.str "app", z0, .ref p, w])) := (same_new np _).trans (same_new nt _)
    refine q _ _ (sm1.trans sm2) ?_
    simp only [rebT]
    unfold TmAt
    exact ⟨t, z0, p, zr, w, rfl, ov_new ((sm1.trans (same_new np _)).free nt) upd_same, ov_new (sm1.free np) (same_new nt _ _ _ upd_same), TmAt.same (ov_base sF) _ _ tz, TmsAt.same (ov_base sF) _ _ tzr, og.same (ov_base sF)⟩
  | pair x y o =>
    unfold TmAt at ta
    obtain ⟨a, u1, u2, w, rfl, ea, t1, t2, og⟩ := ta
    have ea0 := sF _ _ ea
    refine ⟨_, rfl, a, _, 0, _, rfl, rfl, SqT.of ea0, at0, ?_⟩
    refine ⟨_, rfl, 1, rfl, a, _, -1, w, rfl, rfl, SqT.of ea0, atI_neg1 (n := 3) rfl rfl, ?_⟩
    refine ⟨_, rfl, by show 3 ≤ sizeLine; decide, fun tp ntp => ?_⟩
    refine ⟨tp, _, rfl, .inr (SqT.of upd_same), rfl, rfl, _, rfl, ?_⟩
    have sm1 : Same H (upd H tp (.tup [.str "int", .str "prim", .str "ref"])) := same_new ntp _
    generalize upd H tp (.tup [.str "int", .str "prim", .str "ref"]) = H1 at sm1
    refine if_false_of (by decide +kernel) ?_
    have ea1 := sm1 _ _ ea0
    have eil1 := sm1 _ _ eil
    refine ⟨_, rfl, rfl, _, rfl, ?_⟩
    refine if_false_of (str_ne (by decide +kernel)) ?_
    refine ⟨_, rfl, rfl, _, rfl, ?_⟩
    refine if_false_of (str_ne (by decide +kernel)) ?_
    refine ⟨_, rfl, rfl, _, rfl, ?_⟩
    refine if_false_of (str_ne (by decide +kernel)) ?_
    refine ⟨_, rfl, rfl, _, rfl, ?_⟩
    refine if_false_of (str_ne (by decide +kernel)) ?_
    match us, hus, tus with
    | [k0, k1], hus, tus =>
    unfold TmsAt at tus
    obtain ⟨z0, zr0, rfl, tz0, tus⟩ := tus
    unfold TmsAt at tus
    obtain ⟨z1, zr1, rfl, tz1, tus⟩ := tus
    unfold TmsAt at tus
    subst tus
    refine ⟨_, rfl, _, rfl, il, _, rfl, .inr (SqL.of eil1), _, rfl, by show 4 ≤ sizeLine; decide, fun t nt => ?_⟩
    have sm2 : Same H1 (upd H1 t (.tup [.str "pair", z0, z1, w])) := same_new nt _
    refine q _ _ (sm1.trans sm2) ?_
    simp only [rebT]
    unfold TmAt
    exact ⟨t, z0, z1, w, rfl, ov_new (sm1.free nt) upd_same, TmAt.same (ov_base sF) _ _ tz0, TmAt.same (ov_base sF) _ _ tz1, og.same (ov_base sF)⟩
end
end Sg

namespace Sg
open PySem PySem.Spec PyProof.Rows L2
variable [Now]
/-! ### inner_tasks -/
structure Job where
  t : Tm
  m : Int → Option Tm
  fin : Bool
def JobAt (Hh : Hp) (j : Job) (x : V) : Prop := ∃ a v d kvs c, x = .ref a ∧ Hh a = some (.tup [v, .ref d, .bl j.fin]) ∧ TmAt Hh j.t v ∧ Hh d = some (.dK kvs) ∧ DG kvs c ∧ TC Hh j.m c ∧ kvs.length ≤ 3000
theorem JobAt.same {Hh Hh' : Hp} {j : Job} {x : V} (e : Same Hh Hh') (h : JobAt Hh j x) : JobAt Hh' j x := by
  obtain ⟨a, v, d, kvs, c, h1, h2, h3, h4, h5, h6, h7⟩ := h
  exact ⟨a, v, d, kvs, c, h1, e _ _ h2, TmAt.same e _ _ h3, e _ _ h4, h5, h6.same e, h7⟩
inductive JobsAt (Hh : Hp) : List Job → List V → Prop where
  | nil : JobsAt Hh [] []
  | cons {j x js xs} : JobAt Hh j x → JobsAt Hh js xs → JobsAt Hh (j :: js) (x :: xs)
theorem JobsAt.same {Hh Hh' : Hp} (e : Same Hh Hh') : ∀ {js : List Job} {xs : List V}, JobsAt Hh js xs → JobsAt Hh' js xs
  | _, _, .nil => .nil
  | _, _, .cons h r => .cons (h.same e) (r.same e)
theorem JobsAt.len {Hh : Hp} : ∀ {js : List Job} {xs : List V}, JobsAt Hh js xs → xs.length = js.length
  | _, _, .nil => rfl
  | _, _, .cons h r => by rw [List.length_cons, List.length_cons, r.len]
theorem JobsAt.app {Hh : Hp} {ks : List Job} {ys : List V} (g : JobsAt Hh ks ys) : ∀ {js : List Job} {xs : List V}, JobsAt Hh js xs → JobsAt Hh (js ++ ks) (xs ++ ys)
  | _, _, .nil => g
  | _, _, .cons h r => .cons h (JobsAt.app g r)
theorem JobsAt.one {Hh : Hp} {j : Job} {x : V} (h : JobAt Hh j x) : JobsAt Hh [j] [x] := .cons h .nil
theorem JobsAt.rev {Hh : Hp} : ∀ {js : List Job} {xs : List V}, JobsAt Hh js xs → JobsAt Hh js.reverse xs.reverse
  | _, _, .nil => .nil
  | _, _, .cons h r => by
    rw [List.reverse_cons, List.reverse_cons]
    exact (JobsAt.one h).app r.rev
theorem JobsAt.init {Hh : Hp} : ∀ {js : List Job} {j : Job} {xs : List V}, JobsAt Hh (js ++ [j]) xs → ∃ ys y, xs = ys ++ [y] ∧ JobsAt Hh js ys ∧ JobAt Hh j y
  | [], j, _, .cons h .nil => ⟨[], _, rfl, .nil, h⟩
  | k :: js, j, _, .cons h r => by
    obtain ⟨ys, y, e, h1, h2⟩ := JobsAt.init (js := js) r
    exact ⟨_ :: ys, y, by rw [e]; rfl, .cons h h1, h2⟩
/-- the jobs of a term's parts -/
def kidJ (m : Int → Option Tm) (t : Tm) : List Job := if bnds t = [] then (kids t).map fun u => ⟨u, m, false⟩ else (kids t).dropLast.map (fun u => (⟨u, m, false⟩ : Job)) ++ (kids t).getLast?.toList.map fun u => ⟨u, rmM m (bnds t), false⟩
def jobS (j : Job) : Tm := sub j.m j.t
theorem subs_map (m : Int → Option Tm) : ∀ ts : List Tm, subs m ts = ts.map fun u => jobS ⟨u, m, false⟩
  | [] => rfl
  | t :: ts => by
    simp only [subs, List.map_cons]
    rw [subs_map m ts]
    rfl
theorem kidJ_sub (m : Int → Option Tm) (t : Tm) : (kidJ m t).map jobS = kidS m t := by
  unfold kidJ
  by_cases z : bnds t = []
  · rw [if_pos z, kidS_free m z, subs_map, List.map_map]
    rfl
  · rw [if_neg z]
    obtain ⟨pre, b, h1, h2⟩ := kidS_bound m z
    rw [h1, h2, subs_map, List.dropLast_concat, List.getLast?_concat, List.map_append, List.map_map]
    rfl
theorem kidJ_length (m : Int → Option Tm) (t : Tm) : (kidJ m t).length = (kids t).length := by
  rw [← kidS_length m t, ← kidJ_sub m t, List.length_map]
theorem kidJ_fin (m : Int → Option Tm) (t : Tm) : ∀ j ∈ kidJ m t, j.fin = false := fun j h => by
  unfold kidJ at h
  split at h
  · obtain ⟨u, _, e⟩ := List.mem_map.mp h
    rw [← e]
  · rcases List.mem_append.mp h with h | h
    · obtain ⟨u, _, e⟩ := List.mem_map.mp h
      rw [← e]
    · obtain ⟨u, _, e⟩ := List.mem_map.mp h
      rw [← e]
theorem Same.rmn {F H' : Hp} {D : Addr} (e : Same F H') (n : F D = none) : Same F (rmL [D] H') := fun b o q => rm_in (by
  intro z
  rw [List.mem_singleton.mp z, n] at q
  cases q) (e _ _ q)
theorem rm_put {u : Addr} {H : Hp} {o : HO} : rmL [u] (upd H u o) = rmL [u] H := by
  funext a
  unfold rmL
  by_cases z : a = u
  · rw [if_pos (by simp [z]), if_pos (by simp [z])]
  · rw [if_neg (by simp [z]), if_neg (by simp [z]), upd_ne z]
theorem rm1 {u a : Addr} {H : Hp} {o : HO} (n : a ≠ u) (h : H a = some o) : rmL [u] H a = some o := rm_in (by simp [n]) h
theorem Same.rm {bs : List Addr} {H H' : Hp} (e : Same H H') : Same (rmL bs H) (rmL bs H') := fun x o q => by
  have z := rm_of q
  exact rm_in z.1 (e _ _ z.2)
theorem ixN_neg1 (n : Nat) : ixN (n + 1) (-1) = some n := by
  unfold ixN
  rw [if_neg (by decide), if_pos (by omega)]
  congr 1
  omega
/-- what stands in a dict of True -/
def inC (ids : List Int) : Int → Option V := fun x => if x ∈ ids then some (.bl true) else none
def spTasks : Sp := fun vs H Q _ => ∃ (F : Hp) (t : Tm) (v : V) (d : Addr) (kvs : List (Key × V)) (m : Int → Option Tm) (c : Int → Option V), vs = [v, .ref d] ∧ Same F H ∧ TmAt F t v ∧ F d = some (.dK kvs) ∧ DG kvs c ∧ TC F m c ∧ kvs.length ≤ 3000 ∧ (kids t).length ≤ 9000 ∧ (bnds t).length ≤ 9000 ∧
  ∀ H' p xs, Same H H' → H p = none → H' p = some (.lst xs.reverse) → JobsAt (ov F H (rmL [p] H')) (kidJ m t) xs → Q (.ref p) H'
theorem scTasks : FnScope ["term", "visible", "inner", "tasks", "part", "hidden", "variable", "left"] ["term", "visible"] (defScope cInnerTasks) := ⟨rfl, rfl, rfl, by decide +kernel, rfl, by decide +kernel, by decide +kernel⟩
section
variable {P : Program} {w : World} {K : PySem.W.Frag} {mg : Str → Option Value} {base : Heap}
theorem ok_tasks {f fI fB : Addr} {fd fdI fdB : FuncData} {k : Nat} (F : Fun K "inner_tasks" "inner_tasks" cInnerTasks f fd)
    (GI : FnOk P w K mg base CX0 k fI fdI ["term"] spKids) (bI : Binds K fdI ["term"] []) (kI : PySem.W.keepIn K (.ref fI) = true) (mI : mg "inner_terms" = some (.ref fI))
    (GB : FnOk P w K mg base CX0 k fB fdB ["term"] spBnds) (bB : Binds K fdB ["term"] []) (kB : PySem.W.keepIn K (.ref fB) = true) (mB : mg "bound_in_body" = some (.ref fB)) : FnOk P w K mg base CX0 (k + 1) f fd ["term", "visible"] spTasks := by
  refine F.ok scTasks (fun vs H Q E h => ?_) (fun cdv A outer st H vs Q E hr h => ?_)
  · obtain ⟨F, t, v, d, kvs, m, c, rfl, _⟩ := h
    rfl
  obtain ⟨Fh, t, v, d, kvs, m, c, rfl, sF, ta, ed, dg, tc, hkv, hk, hb, q⟩ := h
  have hu : (A.deeper (envOfC "inner_tasks" (defScope cInnerTasks) st.heap.objs.size f cdv)).units + 1 < cLine := by
    have := hr.units
    omega
  refine ⟨_, pss_cons (ps_set (i := 2) scTasks.nd rfl (.inl rfl) (pe_call GI hr (by rfl) mI kI bI .nil pass0 (pa_cons (pv 0) pa_nil)))
    (pss_cons (ps_setLc (i := 3) (own := [("part", 4)]) (g := gName 4) (tt := tYes) rfl scTasks.nd rfl rfl (sw_true rfl rfl (by decide) (by decide +kernel)) (pi_list (pv 2)) (blkOk_by (N := ["term", "visible", "inner", "tasks", "part", "hidden", "variable", "left"]) (sc := defScope cInnerTasks) (by decide +kernel))
      (fun _ _ _ _ _ => pg_name (i := 4) scTasks.nd rfl (Or.inl rfl)) (fun _ _ _ _ _ => pts_nil) (fun _ _ _ _ _ => pe_tup (pa_cons (pv 4) (pa_cons (pv 1) (pa_cons pe_bl pa_nil)))))
    (pss_cons (ps_set (i := 5) scTasks.nd rfl (.inr rfl) (pe_dc (own := [("variable", 6)]) (g := gName 6) (tt := tYes) rfl scTasks.nd (pi_list (pe_call GB hr (by rfl) mB kB bB .nil pass0 (pa_cons (pv 0) pa_nil))) (blkOk_by (N := ["term", "visible", "inner", "tasks", "part", "hidden", "variable", "left"]) (sc := defScope cInnerTasks) (by decide +kernel))
      (fun _ _ _ _ _ => pg_name (i := 6) scTasks.nd rfl (Or.inl rfl)) (fun _ _ _ _ _ => pts_nil) (fun _ _ _ _ _ => pv 6) (fun _ _ _ _ _ => pe_bl)))
    (pss_cons (ps_if (pt_truth (pv 5) (fun _ => by rfl))
      (pss_cons (ps_lock (ps_setDc (i := 7) (own := [("variable", 6)]) (g := gName 6) rfl scTasks.nd rfl rfl (sw_trueD rfl rfl (by decide) (by decide +kernel)) (pi_keys (pv 1)) (blkOk_by (N := ["term", "visible", "inner", "tasks", "part", "hidden", "variable", "left"]) (sc := defScope cInnerTasks) (by decide +kernel))
        (fun _ _ _ _ _ => pg_name (i := 6) scTasks.nd rfl (Or.inl rfl)) (fun _ _ _ _ _ => pts_one (pt_cmp (pc_dnotin hu (pv 6) (pv 5)))) (fun _ _ _ _ _ => pv 6) (fun _ _ _ _ _ => pe_dget hu (pv 1) (pv 6) (fun _ _ => rfl))))
      (pss_one (ps_asg (pe_tup (pa_cons (pe_ix ix_list (pv 2) (pe_un un_neg pe_int) (fun _ _ => rfl)) (pa_cons (pv 7) (pa_cons pe_bl pa_nil)))) (pg_sub (pv 3) (pe_un un_neg pe_int) set_list (fun _ => rfl))))) pss_nil)
    (pss_cons (ps_expr (pe_bm0 PySem.F.plainAttrs_list PySem.F.slot_list_reverse PySem.F.type_list_reverse mt_reverse (pv 3)))
    (pss_one (ps_ret (pv 3))))))), ?_⟩
  refine ⟨_, rfl, Fh, t, v, rfl, sF, ta, hk, fun H1 pi xs s1 n1 e1 tx => ?_⟩
  have lxs := tx.len
  have sF1 := sF.trans s1
  refine ⟨_, rfl, pi, rfl, ⟨_, SqL.of e1⟩, fun D hD => ?_⟩
  have FD : Fh D = none := sF1.free hD
  refine lc_list (K := K) (a := pi) (xs := xs) (fun i H' => Same H1 H' ∧ ∃ ys, H' D = some (.lst ys) ∧ JobsAt (ov Fh H (rmL [D] H')) (((kids t).take i).map fun u => ⟨u, m, false⟩) ys) ⟨same_new hD _, [], upd_same, .nil⟩ (fun i H' _ e => e.1.seq (SqL.of e1)) ?_ ?_
  · rintro i x H' hx ⟨sm, ys, eD, jt⟩
    obtain ⟨u, hu2, tu⟩ := tx.get hx
    have hi : i < (kids t).length := (List.getElem?_eq_some_iff.mp hu2).1
    refine ⟨rfl, yes_k ⟨_, rfl, _, rfl, by show 3 ≤ sizeLine; decide, fun T nT => ?_⟩⟩
    have DT : D ≠ T := ne_of_none eD nT
    have sT : Same H' (upd H' T (.tup [x, .ref d, .bl false])) := same_new nT _
    have eT : (upd H' T (.tup [x, .ref d, .bl false])) T = some (.tup [x, .ref d, .bl false]) := upd_same
    generalize upd H' T (.tup [x, .ref d, .bl false]) = H2 at sT eT
    have ll := jt.len
    rw [List.length_map, List.length_take] at ll
    have sFr : Same Fh (ov Fh H (rmL [D] H2)) := ov_base sF
    have HT := (s1.trans sm).free nT
    refine ⟨ys, sT _ _ eD, smallL (by omega), fun b o e => ?_, ys ++ [.ref T], upd_same, ?_⟩
    · rw [upd_ne (ne_of_none e hD)]
      exact sT _ _ (sm _ _ e)
    · rw [rm_put, List.take_add_one, hu2, List.map_append]
      exact JobsAt.app (.one ⟨T, x, d, kvs, c, rfl, ov_new HT (rm1 (Ne.symm DT) eT), TmAt.same sFr _ _ tu, sFr _ _ ed, dg, tc.same sFr, hkv⟩) (jt.same (ov_up (Same.rm sT)))
  rintro H2 ⟨s2, ys, eD, jt⟩
  rw [lxs, List.take_length] at jt
  have s02 := s1.trans s2
  have HD : H D = none := s1.free hD
  refine ⟨_, rfl, Fh, t, v, rfl, sF.trans s02, ta, hb, fun H3 pb s3 n3 e3 => ⟨pb, rfl, ⟨_, SqL.of e3⟩, fun D2 hD2 => ?_⟩⟩
  refine dc_it (walk_list (K := K) (a := pb) (xs := (bnds t).map V.int)) (fun i H' => Same H3 H' ∧ ∃ kh, H' D2 = some (.dK kh) ∧ DG kh (inC ((bnds t).take i)) ∧ kh.length ≤ i) ⟨same_new hD2 _, [], upd_same, DG.nil, Nat.le_refl _⟩ (fun i H' _ e => e.1.seq (SqL.of e3)) ?_ ?_
  · rintro i x H' H'' hi ⟨sm, kh, eh, dh, lh⟩ ⟨rfl, hx⟩
    obtain ⟨z, hz, rfl⟩ := get_map hx
    have hi2 : i < (bnds t).length := (List.getElem?_eq_some_iff.mp hz).1
    refine ⟨rfl, yes_k ⟨_, rfl, kh, Sum.inl z, rfl, eh, smallL (by omega), fun b o e => ?_, _, upd_same, ?_, Nat.le_trans (length_putK kh (Sum.inl z : Key) _) (by omega)⟩⟩
    · rw [upd_ne (ne_of_none e hD2)]
      exact sm _ _ e
    · have e : upG (inC ((bnds t).take i)) z (.bl true) = inC ((bnds t).take (i + 1)) := by
        funext x
        unfold upG inC
        rw [List.take_add_one, hz]
        by_cases y : x = z
        · rw [if_pos y, if_pos (by simp [y])]
        · rw [if_neg y]
          by_cases w : x ∈ (bnds t).take i
          · rw [if_pos w, if_pos (List.mem_append_left _ w)]
          · rw [if_neg w, if_neg (by simp [y, w])]
      rw [← e]
      exact dh.put
  rintro H4 ⟨s4, kh, eh, dh, lh⟩
  rw [List.length_map] at dh lh
  rw [List.take_length] at dh
  have s24 := s3.trans s4
  have s04 := s02.trans s24
  have eD4 := s24 _ _ eD
  have jt4 := jt.same (ov_up (Same.rm s24))
  have ll := jt.len
  rw [List.length_map] at ll
  by_cases bz : bnds t = []
  · have kh0 : kh = [] := by
      rw [bz] at lh
      exact List.length_eq_zero_iff.mp (Nat.le_zero.mp lh)
    rw [kh0] at eh
    refine ⟨_, rfl, _, .inr (.inr ⟨[], eh, rfl⟩), ?_⟩
    refine if_false_of rfl ?_
    refine ⟨_, rfl, .inl ⟨rfl, _, SqL.of eD4⟩, D, _, rfl, rfl, eD4, ?_⟩
    refine ⟨_, rfl, q _ D ys (fun b o e => ?_) HD upd_same ?_⟩
    · rw [upd_ne (ne_of_none e HD)]
      exact s04 _ _ e
    · rw [rm_put]
      unfold kidJ
      rw [if_pos bz]
      exact jt4
  · obtain ⟨pre, b, hpb, _⟩ := kidS_bound m bz
    have lpb : (kids t).length = pre.length + 1 := by rw [hpb, List.length_append]; rfl
    have khn : ∃ k0 kr, kh = k0 :: kr := by
      obtain ⟨b0, br, hbz⟩ := List.exists_cons_of_ne_nil bz
      cases kh with
      | nil =>
        have := dh.1 b0
        unfold inC at this
        rw [hbz, if_pos List.mem_cons_self] at this
        cases this
      | cons k0 kr => exact ⟨k0, kr, rfl⟩
    obtain ⟨k0, kr, ekh⟩ := khn
    refine ⟨_, rfl, _, .inr (.inr ⟨k0 :: kr, by rw [← ekh]; exact eh, rfl⟩), ?_⟩
    refine if_true_of rfl ?_
    have ed4 := s04 _ _ (sF _ _ ed)
    refine ⟨d, .dK kvs, ed4, trivial, fun od => ?_⟩
    refine ⟨_, rfl, d, od, rfl, .inl ⟨kvs, upd_same, fun D3 hD3 => ?_⟩⟩
    have dD3 : D3 ≠ d := fun e => by
      rw [e, upd_same] at hD3
      cases hD3
    have hD34 : H4 D3 = none := by
      rw [upd_ne dD3] at hD3
      exact hD3
    have dD2 : D2 ≠ d := fun e => by
      rw [e, ed4] at eh
      cases eh
      rw [e] at hD2
      rw [s3 _ _ (s02 _ _ (sF _ _ ed))] at hD2
      cases hD2
    have ehL : (upd H4 d (.frz od (.dK kvs))) D2 = some (.dK kh) := by
      rw [upd_ne dD2]
      exact eh
    refine dc_it (walk_keys (d := d) (o := od) (kvs := kvs)) (fun i H' => Same (upd H4 d (.frz od (.dK kvs))) H' ∧ ∃ kl ci, H' D3 = some (.dK kl) ∧ DG kl ci ∧ CG kvs (rmC c (bnds t)) ci i ∧ kl.length ≤ i) ⟨same_new hD3 _, [], _, upd_same, DG.nil, CG.nil, Nat.le_refl _⟩ (fun i H' _ e => e.1 _ _ upd_same) ?_ ?_
    · rintro i x H' H'' hi ⟨sm, kl, ci, el, dl, cg, ll2⟩ ⟨rfl, kk, vv, hkv2, rfl⟩
      obtain ⟨i0, v0, ep⟩ := dg.2 _ (List.mem_of_getElem? hkv2)
      injection ep with ek ev
      subst ek ev
      obtain ⟨y, hy⟩ := dg.has (List.mem_of_getElem? hkv2)
      have gh : DGet H'' D2 (.int i0) (inC (bnds t) i0) := .inl ⟨kh, Sum.inl i0, .inl (sm _ _ ehL), rfl, (dh.1 i0).symm⟩
      have gd : DGet H'' d (.int i0) (some y) := .inl ⟨kvs, Sum.inl i0, .inr ⟨od, sm _ _ upd_same⟩, rfl, by rw [dg.1 i0, hy]⟩
      refine ⟨rfl, ?_⟩
      refine ⟨_, rfl, _, rfl, D2, _, rfl, gh, _, rfl, ?_⟩
      by_cases w : i0 ∈ bnds t
      · have e : inC (bnds t) i0 = some (.bl true) := if_pos w
        rw [e]
        refine if_false_of rfl ?_
        exact ⟨sm, kl, ci, el, dl, cg.skip hkv2 (if_pos w), Nat.le_succ_of_le ll2⟩
      · have e : inC (bnds t) i0 = none := if_neg w
        rw [e]
        refine if_true_of rfl ?_
        refine ⟨_, rfl, _, rfl, _, rfl, d, _, rfl, gd, kl, Sum.inl i0, rfl, el, smallL (by omega), fun b o e2 => ?_, _, _, upd_same, dl.put, cg.step hkv2 (show rmC c (bnds t) i0 = some y from (if_neg w).trans hy), Nat.le_trans (length_putK kl (Sum.inl i0 : Key) _) (by omega)⟩
        rw [upd_ne (ne_of_none e2 hD3)]
        exact sm _ _ e2
    rintro H5 ⟨s5, kl, ci, el, dl, cg, ll2⟩
    have ecl : ci = rmC c (bnds t) := CG.all dg (fun x y e => by
      unfold rmC at e
      by_cases w : x ∈ bnds t
      · rw [if_pos w] at e
        cases e
      · rw [if_neg w] at e
        exact ⟨y, e⟩) cg
    subst ecl
    refine ⟨s5 _ _ upd_same, ?_⟩
    have s46 : Same H4 (upd H5 d (.dK kvs)) := fun b o e => by
      by_cases z : b = d
      · rw [z, upd_same]
        rw [z, ed4] at e
        exact e
      · rw [upd_ne z]
        refine s5 _ _ ?_
        rw [upd_ne z]
        exact e
    have el6 : (upd H5 d (.dK kvs)) D3 = some (.dK kl) := by
      rw [upd_ne dD3]
      exact el
    generalize upd H5 d (.dK kvs) = H6 at s46 el6
    have s06 := s04.trans s46
    have e16 := s46 _ _ (s24 _ _ (s2 _ _ e1))
    have g1 : xs[pre.length]? = some (xs[pre.length]'(by omega)) := List.getElem?_eq_getElem _
    obtain ⟨b1, gc1, tc1⟩ := tx.get g1
    have eb1 : b1 = b := by
      rw [hpb, List.getElem?_append_right (Nat.le_refl _), Nat.sub_self] at gc1
      exact (Option.some.inj gc1).symm
    rw [eb1] at tc1
    refine ⟨_, rfl, 1, rfl, pi, xs, -1, _, rfl, rfl, SqL.of e16, atI_neg1 (by omega) g1, ?_⟩
    refine ⟨_, rfl, by show 3 ≤ sizeLine; decide, fun T nT => ?_⟩
    have eD6 := s46 _ _ eD4
    have DT : D ≠ T := ne_of_none eD6 nT
    have sT : Same H6 (upd H6 T (.tup [xs[pre.length], .ref D3, .bl false])) := same_new nT _
    have eT : (upd H6 T (.tup [xs[pre.length], .ref D3, .bl false])) T = some (.tup [xs[pre.length], .ref D3, .bl false]) := upd_same
    generalize upd H6 T (.tup [xs[pre.length], .ref D3, .bl false]) = H7 at sT eT
    have eD7 := sT _ _ eD6
    have jt7 := jt4.same (ov_up (Same.rm (s46.trans sT)))
    rw [hpb, List.map_append] at jt7
    obtain ⟨yi, yl, rfl, jti, _⟩ := jt7.init
    rw [List.length_append] at ll
    have ll3 : yi.length = pre.length := by
      have := jti.len
      rw [List.length_map] at this
      exact this
    refine ⟨_, rfl, 1, rfl, D, _, -1, yi.length, rfl, rfl, eD7, by rw [List.length_append]; exact ixN_neg1 _, ?_⟩
    have eset : (yi ++ [yl]).set yi.length (.ref T) = yi ++ [.ref T] := by
      rw [List.set_append_right _ _ (Nat.le_refl _), Nat.sub_self]
      rfl
    rw [eset]
    refine ⟨_, rfl, .inl ⟨rfl, _, SqL.of upd_same⟩, D, _, rfl, rfl, upd_same, ?_⟩
    refine ⟨_, rfl, q _ D (yi ++ [.ref T]) (fun b2 o e => ?_) HD upd_same ?_⟩
    · rw [upd_ne (ne_of_none e HD), upd_ne (ne_of_none e HD)]
      exact sT _ _ (s06 _ _ e)
    · rw [rm_put, rm_put]
      unfold kidJ
      rw [if_neg bz, hpb, List.dropLast_concat, List.getLast?_concat]
      have sFr : Same Fh (ov Fh H (rmL [D] H7)) := ov_base sF
      have HT := s06.free nT
      have H3D := s04.free hD34
      have D3D : D3 ≠ D := fun e => by
        rw [e, eD6] at el6
        cases el6
      exact JobsAt.app (.one ⟨T, _, D3, kl, _, rfl, ov_new HT (rm1 (Ne.symm DT) eT), TmAt.same sFr _ _ tc1, ov_new H3D (rm1 D3D (sT _ _ el6)), dl, (tc.rm (bnds t)).same sFr, Nat.le_trans ll2 hkv⟩) jti
end
end Sg

namespace Sg
open PySem PySem.Spec PyProof.Rows L2
variable [Now]
/-! ### placed, fresh, put -/
theorem wok_kids : ∀ {t : Tm}, wok t → woks (kids t) ∧ (bnds t).length ≤ 5 := by
  intro t h
  cases t with
  | int n o => exact ⟨by simp only [kids, woks], Nat.zero_le _⟩
  | prim n o => exact ⟨by simp only [kids, woks], Nat.zero_le _⟩
  | ref n o => exact ⟨by simp only [kids, woks], Nat.zero_le _⟩
  | fn ids b o =>
    simp only [wok] at h
    exact ⟨by simp only [kids, woks]; exact ⟨h.2.2.1, trivial⟩, by show ids.length ≤ 5; omega⟩
  | rc i ids b o =>
    simp only [wok] at h
    exact ⟨by simp only [kids, woks]; exact ⟨h.2.2.2.1, trivial⟩, by show ids.length + 1 ≤ 5; omega⟩
  | lt i x b o =>
    simp only [wok] at h
    exact ⟨by simp only [kids, woks]; exact ⟨h.2.1, h.2.2.1, trivial⟩, by show 1 ≤ 5; omega⟩
  | ite x y z o =>
    simp only [wok] at h
    exact ⟨by simp only [kids, woks]; exact ⟨h.1, h.2.1, h.2.2.1, trivial⟩, Nat.zero_le _⟩
  | app f xs o =>
    simp only [wok] at h
    exact ⟨by simp only [kids, woks]; exact ⟨h.1, h.2.1⟩, Nat.zero_le _⟩
  | pair x y o =>
    simp only [wok] at h
    exact ⟨by simp only [kids, woks]; exact ⟨h.1, h.2.1, trivial⟩, Nat.zero_le _⟩
theorem woks_mem : ∀ {ts : List Tm} {t : Tm}, woks ts → t ∈ ts → wok t
  | [], t, _, h => by cases h
  | u :: ts, t, h, e => by
    simp only [woks] at h
    rcases List.mem_cons.mp e with e | e
    · rw [e]
      exact h.1
    · exact woks_mem h.2 e
theorem mszs_mem : ∀ {ts : List Tm} {t : Tm}, t ∈ ts → msz t ≤ mszs ts
  | u :: ts, t, e => by
    simp only [mszs]
    rcases List.mem_cons.mp e with e | e
    · rw [e]
      omega
    · have := mszs_mem e
      omega
theorem kidJ_t (m : Int → Option Tm) (t : Tm) : (kidJ m t).map (·.t) = kids t := by
  unfold kidJ
  by_cases z : bnds t = []
  · rw [if_pos z, List.map_map]
    exact List.map_id' _
  · rw [if_neg z]
    obtain ⟨pre, b, h1, _⟩ := kidS_bound m z
    rw [h1, List.dropLast_concat, List.getLast?_concat, List.map_append, List.map_map]
    congr 1
    exact List.map_id' _
def exec : List Job → List Tm → Option (List Tm)
  | [], d => some d
  | ⟨t, m, false⟩ :: r, d => exec r (d ++ [sub m t])
  | ⟨t, _, true⟩ :: r, d => if (kids t).length ≤ d.length then exec r (d.take (d.length - (kids t).length) ++ [rebT t (d.drop (d.length - (kids t).length))]) else none
theorem exec_many : ∀ (js r : List Job) (d : List Tm), (∀ j ∈ js, j.fin = false) → exec (js ++ r) d = exec r (d ++ js.map jobS)
  | [], r, d, _ => by simp
  | ⟨t, m, fin⟩ :: js, r, d, h => by
    have hf : fin = false := h _ List.mem_cons_self
    subst hf
    show exec (js ++ r) (d ++ [sub m t]) = _
    rw [exec_many js r _ fun j hj => h j (List.mem_cons_of_mem _ hj), List.append_assoc]
    rfl
theorem exec_open (t : Tm) (m : Int → Option Tm) (r : List Job) (d : List Tm) (h : ∀ i o, t ≠ .ref i o) : exec (kidJ m t ++ ⟨t, m, true⟩ :: r) d = exec (⟨t, m, false⟩ :: r) d := by
  rw [exec_many _ _ _ (kidJ_fin m t), kidJ_sub]
  have l : (kidS m t).length = (kids t).length := kidS_length m t
  show (if (kids t).length ≤ (d ++ kidS m t).length then _ else _) = _
  rw [List.length_append, l, if_pos (by omega), show d.length + (kids t).length - (kids t).length = d.length by omega, List.take_left, List.drop_left, rebT_sub m t h]
  rfl
def jw (j : Job) : Nat := if j.fin then 1 else 2 * msz j.t
def jws : List Job → Nat
  | [] => 0
  | j :: r => jw j + jws r
theorem jw_pos (j : Job) : 1 ≤ jw j := by
  unfold jw
  have := msz_pos j.t
  split <;> omega
theorem jws_len : ∀ js : List Job, js.length ≤ jws js
  | [] => Nat.le_refl _
  | j :: r => by
    have := jws_len r
    have := jw_pos j
    simp only [jws, List.length_cons]
    omega
theorem jws_app : ∀ a b : List Job, jws (a ++ b) = jws a + jws b
  | [], b => by simp [jws]
  | j :: a, b => by
    show jw j + jws (a ++ b) = jw j + jws a + jws b
    rw [jws_app a b]
    omega
theorem jws_kids (m : Int → Option Tm) (t : Tm) : jws (kidJ m t) = 2 * mszs (kids t) := by
  rw [← kidJ_t m t]
  have h := kidJ_fin m t
  generalize kidJ m t = js at h
  induction js with
  | nil => rfl
  | cons j r ih =>
    have q := ih fun x hx => h x (List.mem_cons_of_mem _ hx)
    have hj := h j List.mem_cons_self
    show jw j + jws r = 2 * (msz j.t + mszs (r.map (·.t)))
    rw [q]
    unfold jw
    rw [hj]
    simp only [Bool.false_eq_true, if_false]
    omega
theorem TmsAt.app {F : Hp} {us : List Tm} {ws : List V} (g : TmsAt F us ws) : ∀ {ts : List Tm} {vs : List V}, TmsAt F ts vs → TmsAt F (ts ++ us) (vs ++ ws)
  | [], vs, h => by
    unfold TmsAt at h
    subst h
    exact g
  | t :: ts, vs, h => by
    unfold TmsAt at h
    obtain ⟨v, r, rfl, h2, h3⟩ := h
    exact .cons h2 (TmsAt.app g h3)
theorem TmsAt.take {F : Hp} : ∀ {ts : List Tm} {vs : List V} (n : Nat), TmsAt F ts vs → TmsAt F (ts.take n) (vs.take n)
  | [], vs, n, h => by
    unfold TmsAt at h
    subst h
    rw [List.take_nil, List.take_nil]
    exact .nil
  | t :: ts, vs, 0, h => .nil
  | t :: ts, vs, n + 1, h => by
    unfold TmsAt at h
    obtain ⟨v, r, rfl, h2, h3⟩ := h
    exact .cons h2 (TmsAt.take n h3)
theorem TmsAt.drop {F : Hp} : ∀ {ts : List Tm} {vs : List V} (n : Nat), TmsAt F ts vs → TmsAt F (ts.drop n) (vs.drop n)
  | [], vs, n, h => by
    unfold TmsAt at h
    subst h
    rw [List.drop_nil, List.drop_nil]
    exact .nil
  | t :: ts, vs, 0, h => h
  | t :: ts, vs, n + 1, h => by
    unfold TmsAt at h
    obtain ⟨v, r, rfl, h2, h3⟩ := h
    exact TmsAt.drop n h3
theorem TmAt.head {F : Hp} : ∀ {t : Tm} {v : V}, TmAt F t v → ∃ a r, v = .ref a ∧ F a = some (.tup (.str (kind t) :: r)) := by
  intro t v h
  cases t <;> (unfold TmAt at h; first
    | (obtain ⟨a, w, h1, h2, _⟩ := h; exact ⟨a, _, h1, h2⟩)
    | (obtain ⟨a, l, u, w, h1, h2, _⟩ := h; exact ⟨a, _, h1, h2⟩)
    | (obtain ⟨a, u, l, vs, w, h1, h2, _⟩ := h; exact ⟨a, _, h1, h2⟩)
    | (obtain ⟨a, u1, u2, u3, w, h1, h2, _⟩ := h; exact ⟨a, _, h1, h2⟩))
theorem cut_from (xs : List V) (a : Nat) (h : a ≤ xs.length) : cutV xs (some (a : Int)) none = xs.drop a := by
  unfold cutV
  rw [HT.sIx_nat, HT.sIx_none, Nat.min_eq_left h, List.take_of_length_le]
  rw [List.length_drop]
  exact Nat.le_refl _
theorem rmL_put {bs : List Addr} {u : Addr} {H : Hp} {o : HO} (h : u ∈ bs) : rmL bs (upd H u o) = rmL bs H := by
  funext a
  unfold rmL
  by_cases z : a ∈ bs
  · rw [if_pos z, if_pos z]
  · rw [if_neg z, if_neg z, upd_ne fun e => z (by rw [e]; exact h)]
theorem Same.rmb {F H' : Hp} {bs : List Addr} (e : Same F H') (n : ∀ b ∈ bs, F b = none) : Same F (rmL bs H') := fun b o q => rm_in (fun z => by
  rw [n b z] at q
  cases q) (e _ _ q)
theorem kind_ref {t : Tm} (h : kind t = "ref") : ∃ i o, t = .ref i o := by
  cases t with
  | ref i o => exact ⟨i, o, rfl⟩
  | _ =>
    simp only [kind] at h
    exact absurd h (by decide +kernel)
theorem ovb_put {bs : List Addr} {u : Addr} {F H H' : Hp} {o : HO} (h : u ∈ bs) : rmL bs (ov F H (upd H' u o)) = rmL bs (ov F H H') := by
  funext a
  unfold rmL ov
  by_cases z : a ∈ bs
  · rw [if_pos z, if_pos z]
  · rw [if_neg z, if_neg z, upd_ne (fun w => z (by rw [w]; exact h))]
theorem ovb_up {bs : List Addr} {F H H' H'' : Hp} (e : Same H' H'') : Same (rmL bs (ov F H H')) (rmL bs (ov F H H'')) := Same.rm (ov_up e)
theorem ovb_new {bs : List Addr} {F H H' : Hp} {a : Addr} {o : HO} (n : H a = none) (h : a ∉ bs) (e : H' a = some o) : rmL bs (ov F H H') a = some o := rm_in h (ov_new n e)
def spPlaced : Sp := fun vs H Q _ => ∃ (F : Hp) (t : Tm) (v : V) (d : Addr) (kvs : List (Key × V)) (m : Int → Option Tm) (c : Int → Option V), vs = [v, .ref d] ∧ Same F H ∧ TmAt F t v ∧ F d = some (.dK kvs) ∧ DG kvs c ∧ TC F m c ∧ kvs.length ≤ 3000 ∧ wok t ∧ msz t ≤ 8000 ∧
  ∀ H' u, Same H H' → TmAt (ov F H H') (sub m t) u → Q u H'
theorem scPlaced : FnScope ["term", "values", "done", "tasks", "part", "visible", "finished", "start", "inner"] ["term", "values"] (defScope cPlaced) := ⟨rfl, rfl, rfl, by decide +kernel, rfl, by decide +kernel, by decide +kernel⟩
section
variable {P : Program} {w : World} {K : PySem.W.Frag} {mg : Str → Option Value} {base : Heap}
theorem ok_placed {f fI fR fT : Addr} {fd fdI fdR fdT : FuncData} {k : Nat} (F : Fun K "placed" "placed" cPlaced f fd)
    (GI : FnOk P w K mg base CX0 k fI fdI ["term"] spKids) (bI : Binds K fdI ["term"] []) (kI : PySem.W.keepIn K (.ref fI) = true) (mI : mg "inner_terms" = some (.ref fI))
    (GR : FnOk P w K mg base CX0 k fR fdR ["term", "inner"] spReb) (bR : Binds K fdR ["term", "inner"] []) (kR : PySem.W.keepIn K (.ref fR) = true) (mR : mg "rebuilt" = some (.ref fR))
    (GT : FnOk P w K mg base CX0 k fT fdT ["term", "visible"] spTasks) (bT : Binds K fdT ["term", "visible"] []) (kT : PySem.W.keepIn K (.ref fT) = true) (mT : mg "inner_tasks" = some (.ref fT))
    (ml : mg "len" = none) : FnOk P w K mg base CX0 (k + 1) f fd ["term", "values"] spPlaced := by
  refine F.ok scPlaced (fun vs H Q E h => ?_) (fun cdv A outer st H vs Q E hr h => ?_)
  · obtain ⟨F, t, v, d, kvs, m, c, rfl, _⟩ := h
    rfl
  obtain ⟨Fh, t, v, d, kvs, m, c, rfl, sF, ta, ed, dg, tc, hkv, hw0, hz0, q⟩ := h
  have hu : (A.deeper (envOfC "placed" (defScope cPlaced) st.heap.objs.size f cdv)).units + 1 < cLine := by
    have := hr.units
    omega
  refine ⟨_, pss_cons (ps_set (i := 2) scPlaced.nd rfl (.inl rfl) (pe_lst pa_nil))
    (pss_cons (ps_set (i := 3) scPlaced.nd rfl (.inl rfl) (pe_lst (pa_cons (pe_tup (pa_cons (pv 0) (pa_cons (pv 1) (pa_cons pe_bl pa_nil)))) pa_nil)))
    (pss_cons (ps_while PassesOwn.never (pt_truth (pv 3) (fun _ => by rfl))
      (pss_cons (ps_asg (pe_bm0 PySem.F.plainAttrs_list PySem.F.slot_list_pop PySem.F.type_list_pop mt_pop (pv 3)) (pg_tup rfl (pgs_cons (pg_name (i := 4) scPlaced.nd rfl (.inl rfl)) (pgs_cons (pg_name (i := 5) scPlaced.nd rfl (.inl rfl)) (pgs_cons (pg_name (i := 6) scPlaced.nd rfl (.inl rfl)) pgs_nil)))))
      (pss_one (ps_if (pt_val (pv 6))
        (pss_cons (ps_set (i := 7) scPlaced.nd rfl (.inl rfl) (pe_op op_sub (pe_callB call_len_seq (by rfl) ml PySem.boot_len (pa_cons (pv 2) pa_nil)) (pe_callB call_len_seq (by rfl) ml PySem.boot_len (pa_cons (pe_call GI hr (by rfl) mI kI bI .nil pass0 (pa_cons (pv 4) pa_nil)) pa_nil))))
        (pss_cons (ps_set (i := 8) scPlaced.nd rfl (.inl rfl) (pe_slice sl_list (pv 2) (po_some (pv 7)) po_none))
        (pss_cons (ps_delTail (pv 2) (pv 7))
        (pss_one (ps_expr (pe_bm PySem.F.plainAttrs_list PySem.F.slot_list_append PySem.F.type_list_append mt_append (pv 2) (pa_cons (pe_call GR hr (by rfl) mR kR bR .nil pass0 (pa_cons (pv 4) (pa_cons (pv 8) pa_nil))) pa_nil)))))))
        (pss_one (ps_if (pt_cmpR op_eq (pe_ix ix_tup (pv 4) pe_int (fun _ _ => rfl)) pe_str (nomark _))
          (pss_one (ps_expr (pe_bm PySem.F.plainAttrs_list PySem.F.slot_list_append PySem.F.type_list_append mt_append (pv 2) (pa_cons (pe_dget2 hu (pv 5) (pe_ix ix_tup (pv 4) pe_int (fun _ _ => rfl)) (pv 4) ⟨rfl, rfl, rfl, rfl⟩) pa_nil))))
          (pss_cons (ps_expr (pe_bm PySem.F.plainAttrs_list PySem.F.slot_list_append PySem.F.type_list_append mt_append (pv 3) (pa_cons (pe_tup (pa_cons (pv 4) (pa_cons (pv 5) (pa_cons pe_bl pa_nil)))) pa_nil)))
          (pss_one (ps_expr (pe_bm PySem.F.plainAttrs_list PySem.F.slot_list_extend PySem.F.type_list_extend mt_extend (pv 3) (pa_cons (pe_call GT hr (by rfl) mT kT bT .nil pass0 (pa_cons (pv 4) (pa_cons (pv 5) pa_nil))) pa_nil)))))))))))
    (pss_one (ps_ret (pe_ix ix_list (pv 2) pe_int (fun _ _ => rfl)))))), ?_⟩
  refine ⟨by show 0 ≤ sizeLine; decide, fun dn ndn => ?_⟩
  refine ⟨_, rfl, _, rfl, by show 3 ≤ sizeLine; decide, fun a na => ?_⟩
  refine ⟨by show 1 ≤ sizeLine; decide, fun tk ntk => ?_⟩
  have sa1 : Same H (upd H dn (.lst [])) := same_new ndn _
  have edn : (upd H dn (.lst [])) dn = some (.lst []) := upd_same
  generalize upd H dn (.lst []) = Ha at sa1 edn na ntk
  have sa2 : Same Ha (upd Ha a (.tup [v, .ref d, .bl false])) := same_new na _
  have ea : (upd Ha a (.tup [v, .ref d, .bl false])) a = some (.tup [v, .ref d, .bl false]) := upd_same
  have eda : a ≠ dn := fun z => by
    rw [z, edn] at na
    cases na
  replace edn := sa2 _ _ edn
  generalize upd Ha a (.tup [v, .ref d, .bl false]) = Hb at sa2 ea edn ntk
  have sab := sa1.trans sa2
  have Htk : H tk = none := sab.free ntk
  have tdn : tk ≠ dn := fun z => by
    rw [z, edn] at ntk
    cases ntk
  have atk : a ≠ tk := ne_of_none ea ntk
  have Fdn : ∀ b ∈ [dn, tk], Fh b = none := fun b hb => by
    rcases List.mem_cons.mp hb with e | e
    · rw [e]
      exact sF.free ndn
    · rw [List.mem_singleton.mp e]
      exact sF.free Htk
  have sbk : Same H (upd Hb tk (.lst [.ref a])) := sab.trans (same_new ntk _)
  have sFr : Same Fh (rmL [dn, tk] (ov Fh H (upd Hb tk (.lst [.ref a])))) := Same.rmb (ov_base sF) Fdn
  have rin : ∀ {X : Hp}, Same H X → Same (rmL [dn, tk] (ov Fh H X)) X := fun e => rm_sub.trans (ov_in sF e)
  refine ⟨fun n σ H' => ∃ (js : List Job) (xs : List V) (ds : List Tm) (vs : List V) (y4 y5 y6 y7 y8 : Option V), σ = [some v, some (.ref d), some (.ref dn), some (.ref tk), y4, y5, y6, y7, y8] ∧ Same H H' ∧ H' dn = some (.lst vs) ∧ H' tk = some (.lst xs.reverse) ∧ TmsAt (rmL [dn, tk] (ov Fh H H')) ds vs ∧ JobsAt (rmL [dn, tk] (ov Fh H H')) js xs ∧
      exec js ds = some [sub m t] ∧ n = jws js ∧ ds.length + jws js ≤ 2 * msz t ∧ ∀ j ∈ js, wok j.t ∧ msz j.t ≤ 8000,
    ⟨jws [⟨t, m, false⟩], [⟨t, m, false⟩], [.ref a], [], [], none, none, none, none, none, rfl, sbk, by rw [upd_ne (Ne.symm tdn)]; exact edn, upd_same, .nil, .one ⟨a, v, d, kvs, c, rfl, rm_in (by simp [eda, atk]) (ov_new (sa1.free na) (by rw [upd_ne atk]; exact ea)), TmAt.same sFr _ _ ta, sFr _ _ ed, dg, tc.same sFr, hkv⟩, rfl, rfl, Nat.le_of_eq (by show 0 + (2 * msz t + 0) = _; omega), fun j hj => by rw [List.mem_singleton.mp hj]; exact ⟨hw0, hz0⟩⟩, ?_⟩
  clear sFr sbk atk edn ea eda sa2 sa1 sab ntk na a
  rintro n σ H1 ⟨js, xs, ds, vs, y4, y5, y6, y7, y8, rfl, sm, edn, etk, tds, jxs, he, rfl, hb, hjs⟩
  refine ⟨_, rfl, _, .inl ⟨_, SqL.of etk, rfl⟩, ?_⟩
  cases jxs with
  | nil =>
    refine if_false_of (by simp) ?_
    have e1 : ds = [sub m t] := Option.some.inj he
    rw [e1] at tds
    unfold TmsAt at tds
    obtain ⟨u, r, rfl, tu, _⟩ := tds
    exact ⟨_, rfl, dn, _, 0, u, rfl, rfl, SqL.of edn, at0, q H1 u sm (TmAt.same rm_sub _ _ tu)⟩
  | @cons j x js xs hj jxs =>
  refine if_true_of (by simp) ?_
  refine ⟨_, fun _ _ z => z, ?_⟩
  obtain ⟨a, pv4, d2, k2, c2, rfl, ea, tp, ed2, dg2, tc2, hk2⟩ := hj
  have hrev : (V.ref a :: xs).reverse.dropLast = xs.reverse := by simp
  refine ⟨_, rfl, .inl ⟨rfl, _, SqL.of etk⟩, tk, _, .ref a, rfl, rfl, etk, by simp, ?_⟩
  rw [hrev]
  have sm2 : Same H (upd H1 tk (.lst xs.reverse)) := same_mut sm Htk _
  have etk2 : (upd H1 tk (.lst xs.reverse)) tk = some (.lst xs.reverse) := upd_same
  have edn2 : (upd H1 tk (.lst xs.reverse)) dn = some (.lst vs) := by
    rw [upd_ne (Ne.symm tdn)]
    exact edn
  rw [← ovb_put (u := tk) (o := .lst xs.reverse) (by simp)] at ea tp ed2 tc2 tds jxs
  generalize upd H1 tk (.lst xs.reverse) = H2 at sm2 etk2 edn2 ea tp ed2 tc2 tds jxs
  clear sm edn etk H1
  refine ⟨a, _, rfl, SqT.of (rin sm2 _ _ ea), rfl, _, _, rfl, _, _, rfl, _, _, rfl, rfl, ?_⟩
  have hj := hjs j List.mem_cons_self
  have hjs' : ∀ k ∈ js, wok k.t ∧ msz k.t ≤ 8000 := fun k hk => hjs k (List.mem_cons_of_mem _ hk)
  have wk := wok_kids hj.1
  have zk := msz_kids j.t
  have lk := len_mszs (kids j.t)
  have lds := tds.len
  have ljx := jxs.len
  have ljw := jws_len js
  have lz := msz_pos j.t
  have nin : ∀ {G : Hp} {b : Addr}, G dn ≠ none → G tk ≠ none → G b = none → b ∉ [dn, tk] := fun {G b} g1 g2 e z => by
    rcases List.mem_cons.mp z with w | w
    · exact g1 (w ▸ e)
    · exact g2 (List.mem_singleton.mp w ▸ e)
  refine ⟨_, rfl, j.fin, rfl, ?_⟩
  obtain ⟨jt, jm, jf⟩ := j
  simp only at *
  cases jf with
  | true =>
    refine if_true_of rfl ?_
    have he2 : (kids jt).length ≤ ds.length ∧ exec js (ds.take (ds.length - (kids jt).length) ++ [rebT jt (ds.drop (ds.length - (kids jt).length))]) = some [sub m t] := by
      have he' : (if (kids jt).length ≤ ds.length then exec js (ds.take (ds.length - (kids jt).length) ++ [rebT jt (ds.drop (ds.length - (kids jt).length))]) else none) = some [sub m t] := he
      by_cases z : (kids jt).length ≤ ds.length
      · rw [if_pos z] at he'
        exact ⟨z, he'⟩
      · rw [if_neg z] at he'
        cases he'
    obtain ⟨hle, he3⟩ := he2
    refine ⟨_, rfl, dn, vs, rfl, .inl (SqL.of edn2), ?_⟩
    refine ⟨_, rfl, rmL [dn, tk] (ov Fh H H2), jt, pv4, rfl, rin sm2, tp, by omega, fun H3 pi ks s3 n3 e3 tks => ⟨pi, ks, rfl, .inl (SqL.of e3), _, _, rfl, rfl, ?_⟩⟩
    have lks := tks.len
    have edn3 := s3 _ _ edn2
    have etk3 := s3 _ _ etk2
    have hst : (vs.length : Int) - (ks.length : Nat) = ((ds.length - (kids jt).length : Nat) : Int) := by omega
    refine ⟨_, rfl, _, rfl, ((ds.length - (kids jt).length : Nat) : Int), congrArg V.int hst, dn, vs, rfl, SqL.of edn3, fun pin npin => ?_⟩
    rw [cut_from vs _ (by omega)]
    generalize hA : ds.length - (kids jt).length = A0 at he3 hst
    have s4 : Same H3 (upd H3 pin (.lst (vs.drop A0))) := same_new npin _
    have epin : (upd H3 pin (.lst (vs.drop A0))) pin = some (.lst (vs.drop A0)) := upd_same
    generalize upd H3 pin (.lst (vs.drop A0)) = H4 at s4 epin
    have edn4 := s4 _ _ edn3
    have etk4 := s4 _ _ etk3
    have pdn : pin ≠ dn := fun z => by
      rw [z, edn3] at npin
      cases npin
    refine ⟨_, rfl, _, rfl, dn, vs, A0, rfl, congrArg V.int hst, edn4, by omega, ?_⟩
    have edn5 : (upd H4 dn (.lst (vs.take A0))) dn = some (.lst (vs.take A0)) := upd_same
    have etk5 : (upd H4 dn (.lst (vs.take A0))) tk = some (.lst xs.reverse) := by
      rw [upd_ne tdn]
      exact etk4
    have epin5 : (upd H4 dn (.lst (vs.take A0))) pin = some (.lst (vs.drop A0)) := by
      rw [upd_ne pdn]
      exact epin
    have sm5 : Same H (upd H4 dn (.lst (vs.take A0))) := same_mut (sm2.trans (s3.trans s4)) ndn _
    have r25 : Same (rmL [dn, tk] (ov Fh H H2)) (rmL [dn, tk] (ov Fh H (upd H4 dn (.lst (vs.take A0))))) := by
      rw [ovb_put (by simp)]
      exact ovb_up (s3.trans s4)
    generalize upd H4 dn (.lst (vs.take A0)) = H5 at edn5 etk5 epin5 sm5 r25
    refine ⟨_, rfl, .inl ⟨rfl, _, SqL.of edn5⟩, ?_⟩
    refine ⟨_, rfl, _, rfl, rmL [dn, tk] (ov Fh H H2), jt, pv4, pin, vs.drop A0, ds.drop A0, rfl, r25.trans (rin sm5), tp, epin5, TmsAt.drop A0 tds, by rw [List.length_drop]; omega, by omega, by omega, fun H6 u s6 tu => ?_⟩
    have edn6 := s6 _ _ edn5
    have etk6 := s6 _ _ etk5
    refine ⟨dn, _, _, rfl, rfl, edn6, by rw [List.length_take]; exact smallL (by omega), ?_⟩
    have r26 : Same (rmL [dn, tk] (ov Fh H H2)) (rmL [dn, tk] (ov Fh H (upd H6 dn (.lst (vs.take A0 ++ [u]))))) := by
      rw [ovb_put (by simp)]
      exact r25.trans (ovb_up s6)
    have tu6 : TmAt (rmL [dn, tk] (ov Fh H (upd H6 dn (.lst (vs.take A0 ++ [u]))))) (rebT jt (ds.drop A0)) u := by
      rw [ovb_put (by simp)]
      exact TmAt.same (ov_sub (r25.trans (ovb_up s6)) fun b o n e => ovb_new (sm5.free n) (nin (by rw [edn5]; simp) (by rw [etk5]; simp) n) e) _ _ tu
    refine ⟨jws js, ?_, js, xs, ds.take A0 ++ [rebT jt (ds.drop A0)], vs.take A0 ++ [u], _, _, _, _, _, rfl, same_mut (sm5.trans s6) ndn _, upd_same, by rw [upd_ne tdn]; exact etk6, TmsAt.app (.one tu6) (TmsAt.same r26 _ _ (TmsAt.take A0 tds)), jxs.same r26, he3, rfl, ?_, hjs'⟩
    · show jws js < 1 + jws js
      omega
    · rw [List.length_append, List.length_take]
      have hb2 : ds.length + (1 + jws js) ≤ 2 * msz t := hb
      show min A0 ds.length + 1 + jws js ≤ _
      omega
  | false =>
    refine if_false_of rfl ?_
    have hb2 : ds.length + (2 * msz jt + jws js) ≤ 2 * msz t := hb
    obtain ⟨a1, r1, rfl, eh1⟩ := tp.head
    refine ⟨_, rfl, a1, _, 0, _, rfl, rfl, SqT.of (rin sm2 _ _ eh1), at0, rfl, _, rfl, ?_⟩
    by_cases hk : kind jt = "ref"
    · refine if_true_of (by rw [hk]; exact str_eq) ?_
      obtain ⟨i, o, rfl⟩ := kind_ref hk
      have tp0 := tp
      unfold TmAt at tp
      obtain ⟨a2, w2, e2, ea2, og2⟩ := tp
      cases e2
      refine ⟨_, rfl, .inl ⟨rfl, _, SqL.of edn2⟩, ?_⟩
      refine ⟨_, rfl, d2, rfl, .inl ⟨k2, .inl (rin sm2 _ _ ed2)⟩, _, rfl, a1, _, 1, _, rfl, rfl, SqT.of (rin sm2 _ _ ea2), at1, _, rfl, c2 i, .inl ⟨k2, Sum.inl i, .inl (rin sm2 _ _ ed2), rfl, (dg2.1 i).symm⟩, dn, _, _, rfl, rfl, edn2, smallL (by omega), ?_⟩
      have tuT : TmAt (rmL [dn, tk] (ov Fh H H2)) (sub jm (.ref i o)) ((c2 i).getD (.ref a1)) := by
        simp only [sub]
        rcases tc2 i with ⟨e1, e2⟩ | ⟨T, w, e1, e2, h⟩
        · rw [e1, e2]
          exact tp0
        · rw [e1, e2]
          exact h
      refine ⟨jws js, ?_, js, xs, ds ++ [sub jm (.ref i o)], vs ++ [(c2 i).getD (.ref a1)], _, _, _, _, _, rfl, same_mut sm2 ndn _, upd_same, by rw [upd_ne tdn]; exact etk2, ?_, ?_, he, rfl, ?_, hjs'⟩
      · show jws js < 2 * msz (.ref i o) + jws js
        omega
      · rw [ovb_put (by simp)]
        exact TmsAt.app (.one tuT) tds
      · rw [ovb_put (by simp)]
        exact jxs
      · rw [List.length_append]
        show ds.length + 1 + jws js ≤ _
        omega
    · refine if_false_of (str_ne hk) ?_
      have hnr : ∀ i o, jt ≠ .ref i o := fun i o e => hk (by rw [e]; rfl)
      refine ⟨_, rfl, .inl ⟨rfl, _, SqL.of etk2⟩, ?_⟩
      refine ⟨_, rfl, _, rfl, by show 3 ≤ sizeLine; decide, fun T nT => ?_⟩
      have sT : Same H2 (upd H2 T (.tup [.ref a1, .ref d2, .bl true])) := same_new nT _
      have eT : (upd H2 T (.tup [.ref a1, .ref d2, .bl true])) T = some (.tup [.ref a1, .ref d2, .bl true]) := upd_same
      have Tin : T ∉ [dn, tk] := nin (by rw [edn2]; simp) (by rw [etk2]; simp) nT
      generalize upd H2 T (.tup [.ref a1, .ref d2, .bl true]) = H3 at sT eT
      have edn3 := sT _ _ edn2
      have etk3 := sT _ _ etk2
      refine ⟨tk, _, _, rfl, rfl, etk3, by rw [List.length_reverse]; exact smallL (by omega), ?_⟩
      have etk4 : (upd H3 tk (.lst (xs.reverse ++ [.ref T]))) tk = some (.lst (xs.reverse ++ [.ref T])) := upd_same
      have edn4 : (upd H3 tk (.lst (xs.reverse ++ [.ref T]))) dn = some (.lst vs) := by
        rw [upd_ne (Ne.symm tdn)]
        exact edn3
      have sm4 : Same H (upd H3 tk (.lst (xs.reverse ++ [.ref T]))) := same_mut (sm2.trans sT) Htk _
      have r24 : Same (rmL [dn, tk] (ov Fh H H2)) (rmL [dn, tk] (ov Fh H (upd H3 tk (.lst (xs.reverse ++ [.ref T]))))) := by
        rw [ovb_put (by simp)]
        exact ovb_up sT
      have eT4 : rmL [dn, tk] (ov Fh H (upd H3 tk (.lst (xs.reverse ++ [.ref T])))) T = some (.tup [.ref a1, .ref d2, .bl true]) := by
        rw [ovb_put (by simp)]
        exact ovb_new (sm2.free nT) Tin eT
      generalize upd H3 tk (.lst (xs.reverse ++ [.ref T])) = H4 at etk4 edn4 sm4 r24 eT4
      refine ⟨_, rfl, .inl ⟨rfl, _, SqL.of etk4⟩, ?_⟩
      refine ⟨_, rfl, _, rfl, rmL [dn, tk] (ov Fh H H2), jt, .ref a1, d2, k2, jm, c2, rfl, r24.trans (rin sm4), tp, ed2, dg2, tc2, hk2, by omega, by omega, fun H5 p ws s5 n5 e5 jk => ?_⟩
      have etk5 := s5 _ _ etk4
      have edn5 := s5 _ _ edn4
      have lws := jk.len
      rw [kidJ_length] at lws
      refine ⟨tk, p, _, _, rfl, rfl, etk5, e5, by rw [List.length_append, List.length_reverse, List.length_reverse]; show xs.length + 1 + ws.length ≤ sizeLine; exact small (by omega), ?_⟩
      have r25 : Same (rmL [dn, tk] (ov Fh H H2)) (rmL [dn, tk] (ov Fh H H5)) := r24.trans (ovb_up s5)
      refine ⟨jws (kidJ jm jt ++ ⟨jt, jm, true⟩ :: js), ?_, kidJ jm jt ++ ⟨jt, jm, true⟩ :: js, ws ++ .ref T :: xs, ds, vs, _, _, _, _, _, rfl, same_mut (sm4.trans s5) Htk _, by rw [upd_ne (Ne.symm tdn)]; exact edn5, by rw [upd_same]; simp, ?_, ?_, ?_, rfl, ?_, ?_⟩
      · rw [jws_app, jws_kids]
        show 2 * mszs (kids jt) + (1 + jws js) < 2 * msz jt + jws js
        omega
      · rw [ovb_put (by simp)]
        exact TmsAt.same r25 _ _ tds
      · rw [ovb_put (by simp)]
        refine JobsAt.app (.cons ⟨T, .ref a1, d2, k2, c2, rfl, ovb_up s5 _ _ eT4, TmAt.same r25 _ _ tp, r25 _ _ ed2, dg2, tc2.same r25, hk2⟩ (jxs.same r25)) (jk.same (ov_sub r25 fun b o n e => ?_))
        have z := rm_of e
        exact ovb_new (sm4.free n) (nin (by rw [edn4]; simp) (by rw [etk4]; simp) n) z.2
      · rw [exec_open jt jm js ds hnr]
        exact he
      · rw [jws_app, jws_kids]
        show ds.length + (2 * mszs (kids jt) + (1 + jws js)) ≤ _
        omega
      · intro j hj2
        rcases List.mem_append.mp hj2 with e | e
        · have hm : j.t ∈ kids jt := by
            rw [← kidJ_t jm jt]
            exact List.mem_map.mpr ⟨j, e, rfl⟩
          refine ⟨woks_mem wk.1 hm, ?_⟩
          have := mszs_mem hm
          omega
        · rcases List.mem_cons.mp e with e | e
          · rw [e]
            exact hj
          · exact hjs' j e
/-- fresh(term): an equal one -/
def spFresh : Sp := fun vs H Q _ => ∃ (F : Hp) (t : Tm) (v : V), vs = [v] ∧ Same F H ∧ TmAt F t v ∧ wok t ∧ msz t ≤ 8000 ∧ ∀ H' u, Same H H' → TmAt (ov F H H') t u → Q u H'
theorem scFresh : FnScope ["term"] ["term"] (defScope cFresh) := ⟨rfl, rfl, rfl, by decide +kernel, rfl, by decide +kernel, by decide +kernel⟩
theorem ok_fresh {f fP : Addr} {fd fdP : FuncData} {k : Nat} (F : Fun K "fresh" "fresh" cFresh f fd)
    (GP : FnOk P w K mg base CX0 k fP fdP ["term", "values"] spPlaced) (bP : Binds K fdP ["term", "values"] []) (kP : PySem.W.keepIn K (.ref fP) = true) (mP : mg "placed" = some (.ref fP)) : FnOk P w K mg base CX0 (k + 1) f fd ["term"] spFresh := by
  refine F.ok scFresh (fun vs H Q E h => ?_) (fun cdv A outer st H vs Q E hr h => ?_)
  · obtain ⟨F, t, v, rfl, _⟩ := h
    rfl
  obtain ⟨Fh, t, v, rfl, sF, ta, hw, hz, q⟩ := h
  refine ⟨_, pss_one (ps_ret (pe_call GP hr (by rfl) mP kP bP .nil pass0 (pa_cons (pv 0) (pa_cons pe_dnewK pa_nil)))), ?_⟩
  refine ⟨_, rfl, fun d nd => ?_⟩
  have sd : Same H (upd H d (.dK [])) := same_new nd _
  refine ⟨ov Fh H (upd H d (.dK [])), t, v, d, [], fun _ => none, fun _ => none, rfl, ov_in sF sd, TmAt.same (ov_base sF) _ _ ta, ov_new nd upd_same, DG.nil, TC.nil, Nat.zero_le _, hw, hz, fun H' u s tu => ?_⟩
  rw [sub_none] at tu
  exact q H' u (sd.trans s) (TmAt.same (ov_ov sF sd s) _ _ tu)
end
end Sg

namespace Sg
open PySem PySem.Spec PyProof.Rows L2 Evl
open C8 (Cal pe_c)
variable [Now]
/-! ### _law_put -/
theorem t_next {D : Ends} {σ : L2.St} {H : Hp} (h : D.nx σ H) : tNext D σ H := h
theorem flat_ints : ∀ xs : List Int, (xs.map V.int).all flatV = true
  | [] => rfl
  | x :: xs => by
    show (true && (xs.map V.int).all flatV) = true
    rw [flat_ints xs]
    rfl
theorem inV_ints (i : Int) : ∀ xs : List Int, inV (V.int i) (xs.map V.int) = decide (i ∈ xs)
  | [] => by simp [inV]
  | x :: xs => by
    show (eqV (V.int x) (V.int i) || inV (V.int i) (xs.map V.int)) = _
    rw [inV_ints i xs]
    have e : eqV (V.int x) (V.int i) = decide (x = i) := by
      show (x == i) = decide (x = i)
      by_cases z : x = i
      · rw [decide_eq_true z, z]
        exact beq_self_eq_true i
      · rw [decide_eq_false z]
        exact beq_false_of_ne z
    rw [e]
    by_cases z : i = x
    · simp [z]
    · simp [z, Ne.symm z]
theorem subs_of (m : Int → Option Tm) {F : Hp} : ∀ {ts : List Tm} {vs : List V}, vs.length = ts.length → (∀ (i : Nat) (s : Tm) (y : V), ts[i]? = some s → vs[i]? = some y → TmAt F (sub m s) y) → TmsAt F (subs m ts) vs
  | [], vs, hl, h => by
    simp only [subs]
    unfold TmsAt
    exact List.length_eq_zero_iff.mp hl
  | t :: ts, [], hl, h => by simp at hl
  | t :: ts, v :: vs, hl, h => by
    simp only [subs]
    unfold TmsAt
    exact ⟨v, vs, rfl, h 0 t v rfl rfl, subs_of m (by simpa using hl) fun i s y hs hy => h (i + 1) s y hs hy⟩
def spPut (n : Nat) : Sp := fun vs H Q _ => ∃ (F : Hp) (t : Tm) (v : V) (d : Addr) (kvs : List (Key × V)) (m : Int → Option Tm) (c : Int → Option V), vs = [v, .ref d] ∧ Same F H ∧ TmAt F t v ∧ F d = some (.dK kvs) ∧ DG kvs c ∧ TC F m c ∧ kvs.length ≤ 3000 ∧ wok t ∧ msz t ≤ 8000 ∧ mht t < n ∧
  ∀ H' u, Same H H' → TmAt (ov F H H') (sub m t) u → Q u H'
theorem bx_tm {F : Hp} {t : Tm} {v : V} (h : TmAt F t v) : Bx (fun v H => TmAt H t v) v F := fun H' e => TmAt.same e t v h
theorem fw_put {n : Nat} {te1 te2 : TE} {σ : L2.St} {G : Hp} {x : Tm} {xv : V} {d : Addr} {kvs : List (Key × V)} {m : Int → Option Tm} {c : Int → Option V} (h1 : Ev te1 σ G xv) (h2 : Ev te2 σ G (.ref d)) (ed : G d = some (.dK kvs)) (dg : DG kvs c) (tc : TC G m c) (hkv : kvs.length ≤ 3000) (tx : TmAt G x xv) (hw : wok x) (hz : msz x ≤ 8000) (hn : mht x < n) :
    Fw (tCall (spPut n) [] E0 (tCons te1 (tCons te2 tNil))) σ G fun u H => TmAt H (sub m x) u :=
  fw_call (fwa_ev (ea_cons h1 (ea_cons h2 ea_nil))) fun vs H G' sFG sGH b Q q => by
    have e := b.now
    subst e
    exact ⟨G', x, xv, d, kvs, m, c, rfl, sGH, TmAt.same sFG _ _ tx, sFG _ _ ed, dg, tc.same sFG, hkv, hw, hz, hn, fun H' u e t => q u H' e (bx_tm t)⟩
theorem scPut : FnScope ["t", "values", "kind", "ids", "inner", "key", "part", "rows"] ["t", "values"] (defScope sPut) := ⟨rfl, rfl, rfl, by decide +kernel, rfl, by decide +kernel, by decide +kernel⟩
theorem put_none {f : Addr} {fd : FuncData} {P : Program} {w : World} {K : PySem.W.Frag} {mg : Str → Option Value} {base : Heap} {k : Nat} : FnOk P w K mg base CX0 k f fd ["t", "values"] (spPut 0) := by
  have no : ∀ vs H Q E, ¬ spPut 0 vs H Q E := fun vs H Q E h => by
    obtain ⟨F, t, v, d, kvs, m, c, _, _, _, _, _, _, _, _, _, h1, _⟩ := h
    omega
  exact ⟨fun vs H Q E h => absurd h (no vs H Q E), fun A outer s H args us vs Q E _ _ _ _ h => absurd h (no vs H Q E)⟩
section
variable {P : Program} {w : World} {K : PySem.W.Frag} {mg : Str → Option Value} {base : Heap}
theorem ok_put {f : Addr} {fd : FuncData} {k n : Nat} (F : Fun K "_law_put" "_law_put" sPut f fd) (C0 : Cal P w K mg base k "_law_put" (spPut n) []) (m_tuple : mg "tuple" = none) : FnOk P w K mg base CX0 (k + 1) f fd ["t", "values"] (spPut (n + 1)) := by
  refine F.ok scPut (fun vs H Q E h => ?_) (fun cdv A outer st H vs Q E hr h => ?_)
  · obtain ⟨F, t, v, d, kvs, m, c, rfl, _⟩ := h
    rfl
  obtain ⟨Fh, t, v, d, kvs, m, c, rfl, sF, ta, ed, dg, tc, hkv, hw, hz, hn, q⟩ := h
  have hu : (A.deeper (envOfC "_law_put" (defScope sPut) st.heap.objs.size f cdv)).units + 1 < cLine := by
    have := hr.units
    omega
  refine ⟨_, pss_split 7 (pss_cons (ps_set (i := 2) scPut.nd rfl (.inl rfl) (pe_ix ix_tup (pv 0) pe_int (fun _ _ => rfl)))
    (pss_cons (ps_if (pt_cmpR op_eq (pv 2) pe_str (nomark _)) (pss_one (ps_ret (pe_dget2 hu (pv 1) (pe_ix ix_tup (pv 0) pe_int (fun _ _ => rfl)) (pv 0) ⟨rfl, rfl, rfl, rfl⟩))) pss_nil)
    (pss_cons (ps_if (pt_cmpR op_in_seq (pv 2) (pe_tup (pa_cons pe_str (pa_cons pe_str pa_nil))) rfl) (pss_one (ps_ret (pv 0))) pss_nil)
    (pss_cons (ps_set (i := 3) scPut.nd rfl (.inl rfl) (pe_lst pa_nil))
    (pss_cons (ps_if (pt_cmpR op_eq (pv 2) pe_str (nomark _)) (pss_one (ps_set (i := 3) scPut.nd rfl (.inl rfl) (pe_ix ix_tup (pv 0) pe_int (fun _ _ => rfl)))) pss_nil)
    (pss_cons (ps_if (pt_cmpR op_eq (pv 2) pe_str (nomark _)) (pss_one (ps_set (i := 3) scPut.nd rfl (.inl rfl) (pe_op op_cat (pe_lst (pa_cons (pe_ix ix_tup (pv 0) pe_int (fun _ _ => rfl)) pa_nil)) (pe_ix ix_tup (pv 0) pe_int (fun _ _ => rfl))))) pss_nil)
    (pss_one (ps_if (pt_cmpR op_eq (pv 2) pe_str (nomark _)) (pss_one (ps_set (i := 3) scPut.nd rfl (.inl rfl) (pe_lst (pa_cons (pe_ix ix_tup (pv 0) pe_int (fun _ _ => rfl)) pa_nil)))) pss_nil))))))))
    (pss_cons (ps_set (i := 4) scPut.nd rfl (.inl rfl) pe_dnewK)
    (Evl.pss_cut (ps_lock (ps_for PassesOwn.never rfl (pi_keys (pv 1)) (pg_name (i := 5) scPut.nd rfl (.inl rfl)) (pss_one (ps_if (pt_cmpR op_notIn_seq (pv 5) (pv 3) rfl) (pss_one (ps_dput hu (pv 4) (pv 5) (pe_dget hu (pv 1) (pv 5) (fun _ _ => rfl)) (by rfl))) pss_nil))))
    (pss_cons (ps_if (pt_cmpR op_eq (pv 2) pe_str (nomark _)) (pss_one (ps_ret (pe_tup (pa_cons pe_str (pa_cons (pe_ix ix_tup (pv 0) pe_int (fun _ _ => rfl)) (pa_cons (pe_c C0 hr (Nat.le_refl _) (by rfl) (pa_cons (pe_ix ix_tup (pv 0) pe_int (fun _ _ => rfl)) (pa_cons (pv 4) pa_nil))) (pa_cons (pe_ix ix_tup (pv 0) pe_int (fun _ _ => rfl)) pa_nil))))))) pss_nil)
    (pss_cons (ps_if (pt_cmpR op_eq (pv 2) pe_str (nomark _)) (pss_one (ps_ret (pe_tup (pa_cons pe_str (pa_cons (pe_ix ix_tup (pv 0) pe_int (fun _ _ => rfl)) (pa_cons (pe_ix ix_tup (pv 0) pe_int (fun _ _ => rfl)) (pa_cons (pe_c C0 hr (Nat.le_refl _) (by rfl) (pa_cons (pe_ix ix_tup (pv 0) pe_int (fun _ _ => rfl)) (pa_cons (pv 4) pa_nil))) (pa_cons (pe_ix ix_tup (pv 0) pe_int (fun _ _ => rfl)) pa_nil)))))))) pss_nil)
    (pss_cons (ps_if (pt_cmpR op_eq (pv 2) pe_str (nomark _)) (pss_one (ps_ret (pe_tup (pa_cons pe_str (pa_cons (pe_ix ix_tup (pv 0) pe_int (fun _ _ => rfl)) (pa_cons (pe_c C0 hr (Nat.le_refl _) (by rfl) (pa_cons (pe_ix ix_tup (pv 0) pe_int (fun _ _ => rfl)) (pa_cons (pv 1) pa_nil))) (pa_cons (pe_c C0 hr (Nat.le_refl _) (by rfl) (pa_cons (pe_ix ix_tup (pv 0) pe_int (fun _ _ => rfl)) (pa_cons (pv 4) pa_nil))) (pa_cons (pe_ix ix_tup (pv 0) pe_int (fun _ _ => rfl)) pa_nil)))))))) pss_nil)
    (pss_cons (ps_if (pt_cmpR op_eq (pv 2) pe_str (nomark _)) (pss_one (ps_ret (pe_tup (pa_cons pe_str (pa_cons (pe_c C0 hr (Nat.le_refl _) (by rfl) (pa_cons (pe_ix ix_tup (pv 0) pe_int (fun _ _ => rfl)) (pa_cons (pv 1) pa_nil))) (pa_cons (pe_lc (own := [("part", 6)]) (g := gName 6) (tt := tYes) rfl scPut.nd (pi_list (pe_ix ix_tup (pv 0) pe_int (fun _ _ => rfl))) (blkOk_by (N := ["t", "values", "kind", "ids", "inner", "key", "part", "rows"]) (sc := defScope sPut) (by decide +kernel)) (fun _ _ _ _ _ => pg_name (i := 6) scPut.nd rfl (Or.inl rfl)) (fun _ _ _ _ _ => pts_nil) (fun _ _ _ _ _ => (pe_c C0 hr (Nat.le_refl _) (by rfl) (pa_cons (pv 6) (pa_cons (pv 1) pa_nil))))) (pa_cons (pe_ix ix_tup (pv 0) pe_int (fun _ _ => rfl)) pa_nil))))))) pss_nil)
    (pss_cons (ps_setLc (i := 7) (own := [("part", 6)]) (g := gName 6) (tt := tYes) rfl scPut.nd rfl rfl (sw_true rfl rfl (by decide) (by decide +kernel)) (pi_tup (pe_slice sl_tup (pv 0) (po_some pe_int) (po_some (pe_un un_neg pe_int)))) (blkOk_by (N := ["t", "values", "kind", "ids", "inner", "key", "part", "rows"]) (sc := defScope sPut) (by decide +kernel)) (fun _ _ _ _ _ => pg_name (i := 6) scPut.nd rfl (Or.inl rfl)) (fun _ _ _ _ _ => pts_nil) (fun _ _ _ _ _ => (pe_c C0 hr (Nat.le_refl _) (by rfl) (pa_cons (pv 6) (pa_cons (pv 1) pa_nil)))))
    (pss_one (ps_ret (pe_op op_catT (pe_op op_catT (pe_tup (pa_cons (pv 2) pa_nil)) (pe_callTy call_tuple_of (by rfl) m_tuple PyProof.Rows.boot_tuple (pa_cons (pv 7) pa_nil))) (pe_tup (pa_cons (pe_ix ix_tup (pv 0) (pe_un un_neg pe_int) (fun _ _ => rfl)) pa_nil)))))))))))), ?_⟩
  refine ⟨fun σ' H' => ∃ l, σ' = [some v, some (.ref d), some (.str (kind t)), some (.ref l), none, none, none, none] ∧ Same H H' ∧ H' l = some (.lst ((bnds t).map V.int)) ∧ kids t ≠ [], ?_, ?_⟩
  · cases t with
    | int n o =>
      unfold TmAt at ta
      obtain ⟨a, wo1, rfl, ea, og⟩ := ta
      have ea0 := sF _ _ ea
      refine ⟨_, rfl, a, _, 0, _, rfl, rfl, SqT.of ea0, at0, ?_⟩
      refine ⟨_, rfl, rfl, _, rfl, ?_⟩
      refine if_false_of (str_ne (by decide +kernel)) ?_
      refine ⟨_, rfl, by show 2 ≤ sizeLine; decide, fun tp ntp => ?_⟩
      refine ⟨tp, _, rfl, .inr (SqT.of upd_same), rfl, rfl, _, rfl, ?_⟩
      have sm1 : Same H (upd H tp (.tup [.str "int", .str "prim"])) := same_new ntp _
      generalize upd H tp (.tup [.str "int", .str "prim"]) = H1 at sm1
      refine if_true_of (by decide +kernel) ?_
      refine ⟨_, rfl, q _ _ sm1 ?_⟩
      simp only [sub]
      unfold TmAt
      exact ⟨a, wo1, rfl, ov_base sF _ _ ea, og.same (ov_base sF)⟩
    | prim s o =>
      unfold TmAt at ta
      obtain ⟨a, wo1, rfl, ea, og⟩ := ta
      have ea0 := sF _ _ ea
      refine ⟨_, rfl, a, _, 0, _, rfl, rfl, SqT.of ea0, at0, ?_⟩
      refine ⟨_, rfl, rfl, _, rfl, ?_⟩
      refine if_false_of (str_ne (by decide +kernel)) ?_
      refine ⟨_, rfl, by show 2 ≤ sizeLine; decide, fun tp ntp => ?_⟩
      refine ⟨tp, _, rfl, .inr (SqT.of upd_same), rfl, rfl, _, rfl, ?_⟩
      have sm1 : Same H (upd H tp (.tup [.str "int", .str "prim"])) := same_new ntp _
      generalize upd H tp (.tup [.str "int", .str "prim"]) = H1 at sm1
      refine if_true_of (by decide +kernel) ?_
      refine ⟨_, rfl, q _ _ sm1 ?_⟩
      simp only [sub]
      unfold TmAt
      exact ⟨a, wo1, rfl, ov_base sF _ _ ea, og.same (ov_base sF)⟩
    | ref i o =>
      unfold TmAt at ta
      obtain ⟨a, wo1, rfl, ea, og⟩ := ta
      have ea0 := sF _ _ ea
      refine ⟨_, rfl, a, _, 0, _, rfl, rfl, SqT.of ea0, at0, ?_⟩
      refine ⟨_, rfl, rfl, _, rfl, ?_⟩
      refine if_true_of str_eq ?_
      refine ⟨_, rfl, d, rfl, .inl ⟨kvs, .inl (sF _ _ ed)⟩, ?_⟩
      refine ⟨_, rfl, a, _, 1, _, rfl, rfl, SqT.of ea0, atI_nat (j := 1) rfl, ?_⟩
      refine ⟨_, rfl, _, DGet.k (k := (Sum.inl i : Key)) (sF _ _ ed), ?_⟩
      rw [dg.1 i]
      refine q _ _ (Same.refl _) ?_
      simp only [sub]
      rcases tc i with ⟨z1, z2⟩ | ⟨t, v, z1, z2, z3⟩
      · rw [z1, z2]
        show TmAt _ (.ref i o) (.ref a)
        unfold TmAt
        exact ⟨a, wo1, rfl, ov_base sF _ _ ea, og.same (ov_base sF)⟩
      · rw [z1, z2]
        exact TmAt.same (ov_base sF) t v z3
    | fn ids b o =>
      unfold TmAt at ta
      obtain ⟨a, l, u, wo1, rfl, ea, el, tb, og⟩ := ta
      have ea0 := sF _ _ ea
      refine ⟨_, rfl, a, _, 0, _, rfl, rfl, SqT.of ea0, at0, ?_⟩
      refine ⟨_, rfl, rfl, _, rfl, ?_⟩
      refine if_false_of (str_ne (by decide +kernel)) ?_
      refine ⟨_, rfl, by show 2 ≤ sizeLine; decide, fun tp ntp => ?_⟩
      refine ⟨tp, _, rfl, .inr (SqT.of upd_same), rfl, rfl, _, rfl, ?_⟩
      have sm1 : Same H (upd H tp (.tup [.str "int", .str "prim"])) := same_new ntp _
      generalize upd H tp (.tup [.str "int", .str "prim"]) = H1 at sm1
      refine if_false_of (by decide +kernel) ?_
      have ea1 := sm1 _ _ ea0
      refine ⟨by show 0 ≤ sizeLine; decide, fun l0 nl0 => ?_⟩
      have sm2 : Same H (upd H1 l0 (.lst [])) := sm1.trans (same_new nl0 _)
      have el0 : (upd H1 l0 (.lst [])) l0 = some (.lst []) := upd_same
      generalize upd H1 l0 (.lst []) = H2 at sm2 el0
      have ea2 := sm2 _ _ ea0
      refine ⟨_, rfl, rfl, _, rfl, ?_⟩
      refine if_true_of str_eq ?_
      refine ⟨_, rfl, a, _, 1, _, rfl, rfl, SqT.of ea2, atI_nat (j := 1) rfl, ?_⟩
      refine ⟨_, rfl, rfl, _, rfl, ?_⟩
      refine if_false_of (str_ne (by decide +kernel)) ?_
      refine ⟨_, rfl, rfl, _, rfl, ?_⟩
      refine if_false_of (str_ne (by decide +kernel)) ?_
      exact ⟨l, rfl, sm2, sm2 _ _ (sF _ _ el), by simp [kids]⟩
    | rc i ids b o =>
      unfold TmAt at ta
      obtain ⟨a, l, u, wo1, rfl, ea, el, tb, og⟩ := ta
      have ea0 := sF _ _ ea
      refine ⟨_, rfl, a, _, 0, _, rfl, rfl, SqT.of ea0, at0, ?_⟩
      refine ⟨_, rfl, rfl, _, rfl, ?_⟩
      refine if_false_of (str_ne (by decide +kernel)) ?_
      refine ⟨_, rfl, by show 2 ≤ sizeLine; decide, fun tp ntp => ?_⟩
      refine ⟨tp, _, rfl, .inr (SqT.of upd_same), rfl, rfl, _, rfl, ?_⟩
      have sm1 : Same H (upd H tp (.tup [.str "int", .str "prim"])) := same_new ntp _
      generalize upd H tp (.tup [.str "int", .str "prim"]) = H1 at sm1
      refine if_false_of (by decide +kernel) ?_
      have ea1 := sm1 _ _ ea0
      refine ⟨by show 0 ≤ sizeLine; decide, fun l0 nl0 => ?_⟩
      have sm2 : Same H (upd H1 l0 (.lst [])) := sm1.trans (same_new nl0 _)
      have el0 : (upd H1 l0 (.lst [])) l0 = some (.lst []) := upd_same
      generalize upd H1 l0 (.lst []) = H2 at sm2 el0
      have ea2 := sm2 _ _ ea0
      refine ⟨_, rfl, rfl, _, rfl, ?_⟩
      refine if_false_of (str_ne (by decide +kernel)) ?_
      refine ⟨_, rfl, rfl, _, rfl, ?_⟩
      refine if_true_of str_eq ?_
      refine ⟨_, rfl, a, _, 1, _, rfl, rfl, SqT.of ea2, atI_nat (j := 1) rfl, ?_⟩
      refine ⟨by show 1 ≤ sizeLine; decide, fun l1 nl1 => ?_⟩
      have sm3 : Same H (upd H2 l1 (.lst [.int i])) := sm2.trans (same_new nl1 _)
      have el1 : (upd H2 l1 (.lst [.int i])) l1 = some (.lst [.int i]) := upd_same
      generalize upd H2 l1 (.lst [.int i]) = H3 at sm3 el1
      refine ⟨_, rfl, a, _, 2, _, rfl, rfl, SqT.of (sm3 _ _ ea0), atI_nat (j := 2) rfl, ?_⟩
      have hw' := hw
      simp only [wok] at hw'
      refine ⟨l1, l, _, _, rfl, rfl, el1, sm3 _ _ (sF _ _ el), by rw [List.length_map]; exact small (by show 1 + ids.length ≤ 100000; omega), fun l2 nl2 => ?_⟩
      refine ⟨_, rfl, rfl, _, rfl, ?_⟩
      refine if_false_of (str_ne (by decide +kernel)) ?_
      exact ⟨l2, rfl, sm3.trans (same_new nl2 _), upd_same, by simp [kids]⟩
    | lt i x b o =>
      unfold TmAt at ta
      obtain ⟨a, u1, u2, wo1, rfl, ea, t1, t2, og⟩ := ta
      have ea0 := sF _ _ ea
      refine ⟨_, rfl, a, _, 0, _, rfl, rfl, SqT.of ea0, at0, ?_⟩
      refine ⟨_, rfl, rfl, _, rfl, ?_⟩
      refine if_false_of (str_ne (by decide +kernel)) ?_
      refine ⟨_, rfl, by show 2 ≤ sizeLine; decide, fun tp ntp => ?_⟩
      refine ⟨tp, _, rfl, .inr (SqT.of upd_same), rfl, rfl, _, rfl, ?_⟩
      have sm1 : Same H (upd H tp (.tup [.str "int", .str "prim"])) := same_new ntp _
      generalize upd H tp (.tup [.str "int", .str "prim"]) = H1 at sm1
      refine if_false_of (by decide +kernel) ?_
      have ea1 := sm1 _ _ ea0
      refine ⟨by show 0 ≤ sizeLine; decide, fun l0 nl0 => ?_⟩
      have sm2 : Same H (upd H1 l0 (.lst [])) := sm1.trans (same_new nl0 _)
      have el0 : (upd H1 l0 (.lst [])) l0 = some (.lst []) := upd_same
      generalize upd H1 l0 (.lst []) = H2 at sm2 el0
      have ea2 := sm2 _ _ ea0
      refine ⟨_, rfl, rfl, _, rfl, ?_⟩
      refine if_false_of (str_ne (by decide +kernel)) ?_
      refine ⟨_, rfl, rfl, _, rfl, ?_⟩
      refine if_false_of (str_ne (by decide +kernel)) ?_
      refine ⟨_, rfl, rfl, _, rfl, ?_⟩
      refine if_true_of str_eq ?_
      refine ⟨_, rfl, a, _, 1, _, rfl, rfl, SqT.of ea2, atI_nat (j := 1) rfl, ?_⟩
      refine ⟨by show 1 ≤ sizeLine; decide, fun l1 nl1 => ?_⟩
      exact ⟨l1, rfl, sm2.trans (same_new nl1 _), upd_same, by simp [kids]⟩
    | ite x y z o =>
      unfold TmAt at ta
      obtain ⟨a, u1, u2, u3, wo1, rfl, ea, t1, t2, t3, og⟩ := ta
      have ea0 := sF _ _ ea
      refine ⟨_, rfl, a, _, 0, _, rfl, rfl, SqT.of ea0, at0, ?_⟩
      refine ⟨_, rfl, rfl, _, rfl, ?_⟩
      refine if_false_of (str_ne (by decide +kernel)) ?_
      refine ⟨_, rfl, by show 2 ≤ sizeLine; decide, fun tp ntp => ?_⟩
      refine ⟨tp, _, rfl, .inr (SqT.of upd_same), rfl, rfl, _, rfl, ?_⟩
      have sm1 : Same H (upd H tp (.tup [.str "int", .str "prim"])) := same_new ntp _
      generalize upd H tp (.tup [.str "int", .str "prim"]) = H1 at sm1
      refine if_false_of (by decide +kernel) ?_
      have ea1 := sm1 _ _ ea0
      refine ⟨by show 0 ≤ sizeLine; decide, fun l0 nl0 => ?_⟩
      have sm2 : Same H (upd H1 l0 (.lst [])) := sm1.trans (same_new nl0 _)
      have el0 : (upd H1 l0 (.lst [])) l0 = some (.lst []) := upd_same
      generalize upd H1 l0 (.lst []) = H2 at sm2 el0
      have ea2 := sm2 _ _ ea0
      refine ⟨_, rfl, rfl, _, rfl, ?_⟩
      refine if_false_of (str_ne (by decide +kernel)) ?_
      refine ⟨_, rfl, rfl, _, rfl, ?_⟩
      refine if_false_of (str_ne (by decide +kernel)) ?_
      refine ⟨_, rfl, rfl, _, rfl, ?_⟩
      refine if_false_of (str_ne (by decide +kernel)) ?_
      exact ⟨l0, rfl, sm2, el0, by simp [kids]⟩
    | app f xs o =>
      unfold TmAt at ta
      obtain ⟨a, u, l, vs, wo1, rfl, ea, el, t1, t2, og⟩ := ta
      have ea0 := sF _ _ ea
      refine ⟨_, rfl, a, _, 0, _, rfl, rfl, SqT.of ea0, at0, ?_⟩
      refine ⟨_, rfl, rfl, _, rfl, ?_⟩
      refine if_false_of (str_ne (by decide +kernel)) ?_
      refine ⟨_, rfl, by show 2 ≤ sizeLine; decide, fun tp ntp => ?_⟩
      refine ⟨tp, _, rfl, .inr (SqT.of upd_same), rfl, rfl, _, rfl, ?_⟩
      have sm1 : Same H (upd H tp (.tup [.str "int", .str "prim"])) := same_new ntp _
      generalize upd H tp (.tup [.str "int", .str "prim"]) = H1 at sm1
      refine if_false_of (by decide +kernel) ?_
      have ea1 := sm1 _ _ ea0
      refine ⟨by show 0 ≤ sizeLine; decide, fun l0 nl0 => ?_⟩
      have sm2 : Same H (upd H1 l0 (.lst [])) := sm1.trans (same_new nl0 _)
      have el0 : (upd H1 l0 (.lst [])) l0 = some (.lst []) := upd_same
      generalize upd H1 l0 (.lst []) = H2 at sm2 el0
      have ea2 := sm2 _ _ ea0
      refine ⟨_, rfl, rfl, _, rfl, ?_⟩
      refine if_false_of (str_ne (by decide +kernel)) ?_
      refine ⟨_, rfl, rfl, _, rfl, ?_⟩
      refine if_false_of (str_ne (by decide +kernel)) ?_
      refine ⟨_, rfl, rfl, _, rfl, ?_⟩
      refine if_false_of (str_ne (by decide +kernel)) ?_
      exact ⟨l0, rfl, sm2, el0, by simp [kids]⟩
    | pair x y o =>
      unfold TmAt at ta
      obtain ⟨a, u1, u2, wo1, rfl, ea, t1, t2, og⟩ := ta
      have ea0 := sF _ _ ea
      refine ⟨_, rfl, a, _, 0, _, rfl, rfl, SqT.of ea0, at0, ?_⟩
      refine ⟨_, rfl, rfl, _, rfl, ?_⟩
      refine if_false_of (str_ne (by decide +kernel)) ?_
      refine ⟨_, rfl, by show 2 ≤ sizeLine; decide, fun tp ntp => ?_⟩
      refine ⟨tp, _, rfl, .inr (SqT.of upd_same), rfl, rfl, _, rfl, ?_⟩
      have sm1 : Same H (upd H tp (.tup [.str "int", .str "prim"])) := same_new ntp _
      generalize upd H tp (.tup [.str "int", .str "prim"]) = H1 at sm1
      refine if_false_of (by decide +kernel) ?_
      have ea1 := sm1 _ _ ea0
      refine ⟨by show 0 ≤ sizeLine; decide, fun l0 nl0 => ?_⟩
      have sm2 : Same H (upd H1 l0 (.lst [])) := sm1.trans (same_new nl0 _)
      have el0 : (upd H1 l0 (.lst [])) l0 = some (.lst []) := upd_same
      generalize upd H1 l0 (.lst []) = H2 at sm2 el0
      have ea2 := sm2 _ _ ea0
      refine ⟨_, rfl, rfl, _, rfl, ?_⟩
      refine if_false_of (str_ne (by decide +kernel)) ?_
      refine ⟨_, rfl, rfl, _, rfl, ?_⟩
      refine if_false_of (str_ne (by decide +kernel)) ?_
      refine ⟨_, rfl, rfl, _, rfl, ?_⟩
      refine if_false_of (str_ne (by decide +kernel)) ?_
      exact ⟨l0, rfl, sm2, el0, by simp [kids]⟩
  rintro σ1 H1 ⟨l, rfl, s1, el, hk⟩
  intro di ndi
  have dil : di ≠ l := fun z => by
    rw [z, el] at ndi
    cases ndi
  have s2 : Same H (upd H1 di (.dK [])) := s1.trans (same_new ndi _)
  have edi : (upd H1 di (.dK [])) di = some (.dK []) := upd_same
  have nd0 : H di = none := s1.free ndi
  have el2 : (upd H1 di (.dK [])) l = some (.lst ((bnds t).map V.int)) := by
    rw [upd_ne (Ne.symm dil)]
    exact el
  generalize upd H1 di (.dK []) = H2 at s2 edi el2
  have ed2 := s2 _ _ (sF _ _ ed)
  have did : di ≠ d := fun z => by
    have := sF _ _ ed
    rw [← z, nd0] at this
    cases this
  have ld : l ≠ d := fun z => by
    rw [z, ed2] at el2
    cases el2
  refine ⟨fun σ' H' => ∃ (y5 : Option V) (kI : List (Key × V)), σ' = [some v, some (.ref d), some (.str (kind t)), some (.ref l), some (.ref di), y5, none, none] ∧ Same H H' ∧ H' di = some (.dK kI) ∧ DG kI (rmC c (bnds t)) ∧ kI.length ≤ kvs.length, ?_, ?_⟩
  · refine ⟨d, .dK kvs, ed2, trivial, fun od => ?_⟩
    refine ⟨_, rfl, d, od, rfl, .inl ⟨kvs, upd_same, ?_⟩⟩
    refine for_it (walk_keys (d := d) (o := od) (kvs := kvs)) (fun i σ H' => ∃ (y5 : Option V) (kI : List (Key × V)) (ci : Int → Option V), σ = [some v, some (.ref d), some (.str (kind t)), some (.ref l), some (.ref di), y5, none, none] ∧ Kb [di] (upd H2 d (.frz od (.dK kvs))) H' ∧ H' di = some (.dK kI) ∧ DG kI ci ∧ CG kvs (rmC c (bnds t)) ci i ∧ kI.length ≤ i)
      ⟨none, [], _, rfl, Kb.refl _ _, by rw [upd_ne did]; exact edi, DG.nil, CG.nil, Nat.zero_le _⟩ (fun i σ H' _ ⟨_, _, _, _, kb, _⟩ => kb d _ (by simp [Ne.symm did]) upd_same) ?_ ?_
    · rintro i x σ H' H'' hi ⟨y5, kI, ci, rfl, kb, eI, dI, cp, lI⟩ ⟨rfl, kk, vv, hkv, rfl⟩
      obtain ⟨i0, v0, ep⟩ := dg.2 _ (List.mem_of_getElem? hkv)
      injection ep with ek ev
      subst ek ev
      obtain ⟨v1, hv1⟩ := dg.has (List.mem_of_getElem? hkv)
      have el3 : H'' l = some (.lst ((bnds t).map V.int)) := kb l _ (by simp [Ne.symm dil]) (by rw [upd_ne ld]; exact el2)
      refine ⟨_, rfl, _, rfl, l, _, rfl, .inl (SqL.of el3), rfl, flat_ints _, _, rfl, ?_⟩
      by_cases hz : i0 ∈ bnds t
      · refine if_false_of (by show (!inV (V.int i0) ((bnds t).map V.int)) = false; rw [inV_ints, decide_eq_true hz]; rfl) ?_
        refine ⟨_, kI, ci, rfl, kb, eI, dI, cp.skip hkv (by unfold rmC; rw [if_pos hz]), by omega⟩
      · refine if_true_of (by show (!inV (V.int i0) ((bnds t).map V.int)) = true; rw [inV_ints, decide_eq_false hz]; rfl) ?_
        refine ⟨_, rfl, _, rfl, d, v1, rfl, .inl ⟨kvs, Sum.inl i0, .inr ⟨od, kb d _ (by simp [Ne.symm did]) upd_same⟩, rfl, by rw [dg.1 i0, hv1]⟩, _, rfl, _, rfl, di, _, rfl, DPut.k (k := (Sum.inl i0 : Key)) eI (smallL (by omega)), ?_⟩
        refine ⟨_, _, _, rfl, kb.put List.mem_cons_self _, upd_same, dI.put, cp.step hkv (by unfold rmC; rw [if_neg hz]; exact hv1), by have := length_putK kI (Sum.inl i0 : Key) v1; omega⟩
    rintro σ Hx ⟨y5, kI, ci, rfl, kbx, eI, dI, cp, lI⟩
    rw [cp.all dg (fun x w hw => by
      unfold rmC at hw
      by_cases z : x ∈ bnds t
      · rw [if_pos z] at hw
        cases hw
      · rw [if_neg z] at hw
        exact ⟨w, hw⟩)] at dI
    refine ⟨kbx d _ (by simp [Ne.symm did]) upd_same, ?_⟩
    refine ⟨y5, kI, rfl, fun b o y => ?_, by rw [upd_ne did]; exact eI, dI, lI⟩
    have y2 := s2 b o y
    by_cases z : b = d
    · rw [z, upd_same]
      rw [z, ed2] at y2
      exact y2
    · rw [upd_ne z]
      exact kbx b o (fun w => by rw [List.mem_singleton.mp w, nd0] at y; cases y) (by rw [upd_ne z]; exact y2)
  rintro σ2 H2 ⟨y5, kI, rfl, s2, edi, dgI, lI⟩
  have nd0 : H di = none := s1.free ndi
  have sGH : Same (ov Fh H H2) H2 := ov_in sF s2
  have sFG : Same Fh (ov Fh H H2) := ov_base sF
  have edG : (ov Fh H H2) di = some (.dK kI) := ov_new nd0 edi
  have tcG := tc.same sFG
  have edG0 := sFG _ _ ed
  have up : ∀ {H3 : Hp}, Same H2 H3 → Same (ov (ov Fh H H2) H2 H3) (ov Fh H H3) := fun e => ov_ov sF s2 e
  generalize hG : ov Fh H H2 = G at *
  cases t with
  | int n o => exact absurd rfl hk
  | prim s o => exact absurd rfl hk
  | ref i o => exact absurd rfl hk
  | fn ids b o =>
    unfold TmAt at ta
    obtain ⟨a, l, u, wo1, rfl, ea, el, tb, og⟩ := ta
    refine ⟨_, rfl, rfl, _, rfl, ?_⟩
    refine if_true_of str_eq ?_
    refine r_fw (F := G) (fw_tup (fwa_cons (fw_val ev_c) (fwa_cons (fw_val (ev_op (ev_var rfl) ev_c (rv_ixT (SqT.of (sFG _ _ ea)) (atI_nat (j := 1) rfl)))) (fwa_cons (fw_put (m := rmM m ids) (ev_op (ev_var rfl) ev_c (rv_ixT (SqT.of (sFG _ _ ea)) (atI_nat (j := 2) rfl))) (ev_var rfl) edG dgI (tcG.rm _) (by omega) (TmAt.same sFG _ _ tb) (by have := hw; simp only [wok, woks] at this; exact this.2.2.1) (by have := hz; simp only [msz, mszs] at this; omega) (by have := hn; simp only [mht, mhts] at this; omega)) (fwa_cons (fw_val (ev_op (ev_var rfl) ev_c (rv_ixT (SqT.of (sFG _ _ ea)) (atI_nat (j := 3) rfl)))) fwa_nil)))) (fun vs _ h => by obtain ⟨_, _, rfl, _, _, _, rfl, _, _, _, rfl, _, _, _, rfl, _, h⟩ := h; subst h; exact (by decide : (4 : Nat) ≤ 100000))) sGH (fun u H3 e3 b => ?_)
    have b2 := b _ (up e3)
    obtain ⟨_, _, rfl, et, _, _, rfl, rfl, _, _, rfl, rfl, _, _, rfl, tp, _, _, rfl, rfl, rfl⟩ := b2
    have sFO : Same Fh (ov Fh H H3) := ov_base sF
    refine q H3 _ (s2.trans e3) ?_
    simp only [sub]
    unfold TmAt
    exact ⟨_, l, _, _, rfl, et, sFO _ _ el, tp, og.same sFO⟩
  | rc i ids b o =>
    unfold TmAt at ta
    obtain ⟨a, l, u, wo1, rfl, ea, el, tb, og⟩ := ta
    refine ⟨_, rfl, rfl, _, rfl, ?_⟩
    refine if_false_of (str_ne (show ("rec" : Str) ≠ "fn" by decide +kernel)) ?_
    refine ⟨_, rfl, rfl, _, rfl, ?_⟩
    refine if_true_of str_eq ?_
    refine r_fw (F := G) (fw_tup (fwa_cons (fw_val ev_c) (fwa_cons (fw_val (ev_op (ev_var rfl) ev_c (rv_ixT (SqT.of (sFG _ _ ea)) (atI_nat (j := 1) rfl)))) (fwa_cons (fw_val (ev_op (ev_var rfl) ev_c (rv_ixT (SqT.of (sFG _ _ ea)) (atI_nat (j := 2) rfl)))) (fwa_cons (fw_put (m := rmM m (i :: ids)) (ev_op (ev_var rfl) ev_c (rv_ixT (SqT.of (sFG _ _ ea)) (atI_nat (j := 3) rfl))) (ev_var rfl) edG dgI (tcG.rm _) (by omega) (TmAt.same sFG _ _ tb) (by have := hw; simp only [wok, woks] at this; exact this.2.2.2.1) (by have := hz; simp only [msz, mszs] at this; omega) (by have := hn; simp only [mht, mhts] at this; omega)) (fwa_cons (fw_val (ev_op (ev_var rfl) ev_c (rv_ixT (SqT.of (sFG _ _ ea)) (atI_nat (j := 4) rfl)))) fwa_nil))))) (fun vs _ h => by obtain ⟨_, _, rfl, _, _, _, rfl, _, _, _, rfl, _, _, _, rfl, _, _, _, rfl, _, h⟩ := h; subst h; exact (by decide : (5 : Nat) ≤ 100000))) sGH (fun u H3 e3 b => ?_)
    have b2 := b _ (up e3)
    obtain ⟨_, _, rfl, et, _, _, rfl, rfl, _, _, rfl, rfl, _, _, rfl, rfl, _, _, rfl, tp, _, _, rfl, rfl, rfl⟩ := b2
    have sFO : Same Fh (ov Fh H H3) := ov_base sF
    refine q H3 _ (s2.trans e3) ?_
    simp only [sub]
    unfold TmAt
    exact ⟨_, l, _, _, rfl, et, sFO _ _ el, tp, og.same sFO⟩
  | lt i x b o =>
    unfold TmAt at ta
    obtain ⟨a, u1, u2, wo1, rfl, ea, t1, t2, og⟩ := ta
    refine ⟨_, rfl, rfl, _, rfl, ?_⟩
    refine if_false_of (str_ne (show ("let" : Str) ≠ "fn" by decide +kernel)) ?_
    refine ⟨_, rfl, rfl, _, rfl, ?_⟩
    refine if_false_of (str_ne (show ("let" : Str) ≠ "rec" by decide +kernel)) ?_
    refine ⟨_, rfl, rfl, _, rfl, ?_⟩
    refine if_true_of str_eq ?_
    refine r_fw (F := G) (fw_tup (fwa_cons (fw_val ev_c) (fwa_cons (fw_val (ev_op (ev_var rfl) ev_c (rv_ixT (SqT.of (sFG _ _ ea)) (atI_nat (j := 1) rfl)))) (fwa_cons (fw_put (m := m) (ev_op (ev_var rfl) ev_c (rv_ixT (SqT.of (sFG _ _ ea)) (atI_nat (j := 2) rfl))) (ev_var rfl) edG0 dg tcG hkv (TmAt.same sFG _ _ t1) (by have := hw; simp only [wok, woks] at this; exact this.2.1) (by have := hz; simp only [msz, mszs] at this; omega) (by have := hn; simp only [mht, mhts] at this; omega)) (fwa_cons (fw_put (m := rmM m [i]) (ev_op (ev_var rfl) ev_c (rv_ixT (SqT.of (sFG _ _ ea)) (atI_nat (j := 3) rfl))) (ev_var rfl) edG dgI (tcG.rm _) (by omega) (TmAt.same sFG _ _ t2) (by have := hw; simp only [wok, woks] at this; exact this.2.2.1) (by have := hz; simp only [msz, mszs] at this; omega) (by have := hn; simp only [mht, mhts] at this; omega)) (fwa_cons (fw_val (ev_op (ev_var rfl) ev_c (rv_ixT (SqT.of (sFG _ _ ea)) (atI_nat (j := 4) rfl)))) fwa_nil))))) (fun vs _ h => by obtain ⟨_, _, rfl, _, _, _, rfl, _, _, _, rfl, _, _, _, rfl, _, _, _, rfl, _, h⟩ := h; subst h; exact (by decide : (5 : Nat) ≤ 100000))) sGH (fun u H3 e3 b => ?_)
    have b2 := b _ (up e3)
    obtain ⟨_, _, rfl, et, _, _, rfl, rfl, _, _, rfl, rfl, _, _, rfl, tp1, _, _, rfl, tp2, _, _, rfl, rfl, rfl⟩ := b2
    have sFO : Same Fh (ov Fh H H3) := ov_base sF
    refine q H3 _ (s2.trans e3) ?_
    simp only [sub]
    unfold TmAt
    exact ⟨_, _, _, _, rfl, et, tp1, tp2, og.same sFO⟩
  | ite x y z o =>
    unfold TmAt at ta
    obtain ⟨a, u1, u2, u3, wo1, rfl, ea, t1, t2, t3, og⟩ := ta
    refine ⟨_, rfl, rfl, _, rfl, ?_⟩
    refine if_false_of (str_ne (show ("if" : Str) ≠ "fn" by decide +kernel)) ?_
    refine ⟨_, rfl, rfl, _, rfl, ?_⟩
    refine if_false_of (str_ne (show ("if" : Str) ≠ "rec" by decide +kernel)) ?_
    refine ⟨_, rfl, rfl, _, rfl, ?_⟩
    refine if_false_of (str_ne (show ("if" : Str) ≠ "let" by decide +kernel)) ?_
    refine ⟨_, rfl, rfl, _, rfl, ?_⟩
    refine if_false_of (str_ne (show ("if" : Str) ≠ "app" by decide +kernel)) ?_
    refine t_next ?_
    dsimp only
    refine qw_asgL (F := G) (RL := Each 3 (fun i u H => ∃ s, ([x, y, z] : List Tm)[i]? = some s ∧ TmAt H (sub m s) u)) ?_ sGH (fun p ys H3 np e3 hp b => ?_)
    · refine fwl_lcNT (xs := [u1, u2, u3]) (fun i u H => ∃ s, ([x, y, z] : List Tm)[i]? = some s ∧ TmAt H (sub m s) u) (eu_slT (xs := [.str "if", u1, u2, u3, wo1]) (lo := some 1) (hi := some (-1)) (ev_var rfl) (eo_some ev_c) (eo_some (ev_un ev_c ru_neg)) (SqT.of (sFG _ _ ea)) (by show ¬ (HT.sIx 5 0 (some 1) = 0 ∧ HT.sIx 5 5 (some (-1)) = 5); decide)) (by show 3 ≤ 40000; decide) (fun _ => by rfl) ?_
      intro i yv hy
      match i, hy with
      | 0, hy =>
        have e : yv = u1 := by
          simpa using hy.symm
        subst e
        exact (fw_put (m := m) (ev_var rfl) (ev_var rfl) edG0 dg tcG hkv (TmAt.same sFG _ _ t1) (by have := hw; simp only [wok] at this; exact this.1) (by have := hz; simp only [msz] at this; omega) (by have := hn; simp only [mht] at this; omega)).imp fun u H b => ⟨x, rfl, b.now⟩
      | 1, hy =>
        have e : yv = u2 := by
          simpa using hy.symm
        subst e
        exact (fw_put (m := m) (ev_var rfl) (ev_var rfl) edG0 dg tcG hkv (TmAt.same sFG _ _ t2) (by have := hw; simp only [wok] at this; exact this.2.1) (by have := hz; simp only [msz] at this; omega) (by have := hn; simp only [mht] at this; omega)).imp fun u H b => ⟨y, rfl, b.now⟩
      | 2, hy =>
        have e : yv = u3 := by
          simpa using hy.symm
        subst e
        exact (fw_put (m := m) (ev_var rfl) (ev_var rfl) edG0 dg tcG hkv (TmAt.same sFG _ _ t3) (by have := hw; simp only [wok] at this; exact this.2.2.1) (by have := hz; simp only [msz] at this; omega) (by have := hn; simp only [mht] at this; omega)).imp fun u H b => ⟨z, rfl, b.now⟩
      | i + 3, hy => simp at hy
    have hl : ys.length = 3 := b.now.1
    refine s_retU (xs := [.str "if"] ++ ys ++ [wo1]) (eu_cat (eu_cat (eu_tup (ea_cons (ev_var rfl) ea_nil) (by show 1 ≤ 100000; decide)) (eu_tupleL (ev_var rfl) (SqL.of hp)) (by simp) (fun z => by rw [z] at hl; cases hl) (by rw [hl]; decide)) (eu_tup (ea_cons (ev_op (ev_var rfl) (ev_un ev_c ru_neg) (rv_ixT (i := -1) (SqT.of (e3 _ _ (sGH _ _ (sFG _ _ ea)))) rfl)) ea_nil) (by show 1 ≤ 100000; decide)) (by simp) (by simp) (by simp [hl])) (fun p4 H4 n4 e4 h4 => ?_)
    match ys, hl with
    | [y1, y2, y3], _ =>
      have b2 := b _ (wo_sub.trans ((up e3).trans (ov_up (F := Fh) (H := H) e4)))
      obtain ⟨s0, hs0, tp0⟩ := b2.2 0 y1 rfl
      cases hs0
      obtain ⟨s1, hs1, tp1⟩ := b2.2 1 y2 rfl
      cases hs1
      obtain ⟨s2, hs2, tp2⟩ := b2.2 2 y3 rfl
      cases hs2
      refine q H4 _ ((s2.trans e3).trans e4) ?_
      simp only [sub]
      unfold TmAt
      exact ⟨p4, y1, y2, y3, wo1, rfl, ov_new ((s2.trans e3).free n4) h4, tp0, tp1, tp2, og.same (ov_base sF)⟩
  | app f xs o =>
    unfold TmAt at ta
    obtain ⟨a, u, l, vs, wo1, rfl, ea, el, t1, t2, og⟩ := ta
    refine ⟨_, rfl, rfl, _, rfl, ?_⟩
    refine if_false_of (str_ne (show ("app" : Str) ≠ "fn" by decide +kernel)) ?_
    refine ⟨_, rfl, rfl, _, rfl, ?_⟩
    refine if_false_of (str_ne (show ("app" : Str) ≠ "rec" by decide +kernel)) ?_
    refine ⟨_, rfl, rfl, _, rfl, ?_⟩
    refine if_false_of (str_ne (show ("app" : Str) ≠ "let" by decide +kernel)) ?_
    refine ⟨_, rfl, rfl, _, rfl, ?_⟩
    refine if_true_of str_eq ?_
    refine r_fw (F := G) (fw_tup (fwa_cons (fw_val ev_c) (fwa_cons (fw_put (m := m) (ev_op (ev_var rfl) ev_c (rv_ixT (SqT.of (sFG _ _ ea)) (atI_nat (j := 1) rfl))) (ev_var rfl) edG0 dg tcG hkv (TmAt.same sFG _ _ t1) (by have := hw; simp only [wok, woks] at this; exact this.1) (by have := hz; simp only [msz, mszs] at this; omega) (by have := hn; simp only [mht, mhts] at this; omega)) (fwa_cons (fw_list (fwl_lcL (fun i u H => ∃ s, xs[i]? = some s ∧ TmAt H (sub m s) u) (ev_op (ev_var rfl) ev_c (rv_ixT (SqT.of (sFG _ _ ea)) (atI_nat (j := 2) rfl))) (SqL.of (sFG _ _ el)) (by have := TmsAt.len t2; have h2 := len_mszs xs; have h3 := hz; simp only [msz] at h3; omega) (fun _ => rfl) (fun i y hy => by
          obtain ⟨s, hs, ts⟩ := TmsAt.get t2 hy
          refine (fw_put (m := m) (ev_var rfl) (ev_var rfl) edG0 dg tcG hkv (TmAt.same sFG _ _ ts) (woks_get (by have := hw; simp only [wok] at this; exact this.2.1) hs) (by have := mszs_get hs; have h2 := hz; simp only [msz] at h2; omega) (by have := mhts_get hs; have h2 := hn; simp only [mht] at h2; omega)).imp fun u H b => ⟨s, hs, b.now⟩))) (fwa_cons (fw_val (ev_op (ev_var rfl) ev_c (rv_ixT (SqT.of (sFG _ _ ea)) (atI_nat (j := 3) rfl)))) fwa_nil)))) (fun vs _ h => by obtain ⟨_, _, rfl, _, _, _, rfl, _, _, _, rfl, _, _, _, rfl, _, h⟩ := h; subst h; exact (by decide : (4 : Nat) ≤ 100000))) sGH (fun u H3 e3 b => ?_)
    have b2 := b _ (up e3)
    obtain ⟨_, _, rfl, et, _, _, rfl, rfl, _, _, rfl, tp1, _, _, rfl, ⟨l2, ys, rfl, el2, hys⟩, _, _, rfl, rfl, rfl⟩ := b2
    have sFO : Same Fh (ov Fh H H3) := ov_base sF
    refine q H3 _ (s2.trans e3) ?_
    simp only [sub]
    unfold TmAt
    exact ⟨_, _, l2, ys, _, rfl, et, el2, tp1, subs_of m (by have := TmsAt.len t2; rw [← this]; exact hys.1) (fun i s y hs hy => by obtain ⟨s2, h2, h3⟩ := hys.2 i y hy; rw [hs] at h2; cases h2; exact h3), og.same sFO⟩
  | pair x y o =>
    unfold TmAt at ta
    obtain ⟨a, u1, u2, wo1, rfl, ea, t1, t2, og⟩ := ta
    refine ⟨_, rfl, rfl, _, rfl, ?_⟩
    refine if_false_of (str_ne (show ("pair" : Str) ≠ "fn" by decide +kernel)) ?_
    refine ⟨_, rfl, rfl, _, rfl, ?_⟩
    refine if_false_of (str_ne (show ("pair" : Str) ≠ "rec" by decide +kernel)) ?_
    refine ⟨_, rfl, rfl, _, rfl, ?_⟩
    refine if_false_of (str_ne (show ("pair" : Str) ≠ "let" by decide +kernel)) ?_
    refine ⟨_, rfl, rfl, _, rfl, ?_⟩
    refine if_false_of (str_ne (show ("pair" : Str) ≠ "app" by decide +kernel)) ?_
    refine t_next ?_
    dsimp only
    refine qw_asgL (F := G) (RL := Each 2 (fun i u H => ∃ s, ([x, y] : List Tm)[i]? = some s ∧ TmAt H (sub m s) u)) ?_ sGH (fun p ys H3 np e3 hp b => ?_)
    · refine fwl_lcNT (xs := [u1, u2]) (fun i u H => ∃ s, ([x, y] : List Tm)[i]? = some s ∧ TmAt H (sub m s) u) (eu_slT (xs := [.str "pair", u1, u2, wo1]) (lo := some 1) (hi := some (-1)) (ev_var rfl) (eo_some ev_c) (eo_some (ev_un ev_c ru_neg)) (SqT.of (sFG _ _ ea)) (by show ¬ (HT.sIx 4 0 (some 1) = 0 ∧ HT.sIx 4 4 (some (-1)) = 4); decide)) (by show 2 ≤ 40000; decide) (fun _ => by rfl) ?_
      intro i yv hy
      match i, hy with
      | 0, hy =>
        have e : yv = u1 := by
          simpa using hy.symm
        subst e
        exact (fw_put (m := m) (ev_var rfl) (ev_var rfl) edG0 dg tcG hkv (TmAt.same sFG _ _ t1) (by have := hw; simp only [wok] at this; exact this.1) (by have := hz; simp only [msz] at this; omega) (by have := hn; simp only [mht] at this; omega)).imp fun u H b => ⟨x, rfl, b.now⟩
      | 1, hy =>
        have e : yv = u2 := by
          simpa using hy.symm
        subst e
        exact (fw_put (m := m) (ev_var rfl) (ev_var rfl) edG0 dg tcG hkv (TmAt.same sFG _ _ t2) (by have := hw; simp only [wok] at this; exact this.2.1) (by have := hz; simp only [msz] at this; omega) (by have := hn; simp only [mht] at this; omega)).imp fun u H b => ⟨y, rfl, b.now⟩
      | i + 2, hy => simp at hy
    have hl : ys.length = 2 := b.now.1
    refine s_retU (xs := [.str "pair"] ++ ys ++ [wo1]) (eu_cat (eu_cat (eu_tup (ea_cons (ev_var rfl) ea_nil) (by show 1 ≤ 100000; decide)) (eu_tupleL (ev_var rfl) (SqL.of hp)) (by simp) (fun z => by rw [z] at hl; cases hl) (by rw [hl]; decide)) (eu_tup (ea_cons (ev_op (ev_var rfl) (ev_un ev_c ru_neg) (rv_ixT (i := -1) (SqT.of (e3 _ _ (sGH _ _ (sFG _ _ ea)))) rfl)) ea_nil) (by show 1 ≤ 100000; decide)) (by simp) (by simp) (by simp [hl])) (fun p4 H4 n4 e4 h4 => ?_)
    match ys, hl with
    | [y1, y2], _ =>
      have b2 := b _ (wo_sub.trans ((up e3).trans (ov_up (F := Fh) (H := H) e4)))
      obtain ⟨s0, hs0, tp0⟩ := b2.2 0 y1 rfl
      cases hs0
      obtain ⟨s1, hs1, tp1⟩ := b2.2 1 y2 rfl
      cases hs1
      refine q H4 _ ((s2.trans e3).trans e4) ?_
      simp only [sub]
      unfold TmAt
      exact ⟨p4, y1, y2, wo1, rfl, ov_new ((s2.trans e3).free n4) h4, tp0, tp1, og.same (ov_base sF)⟩
end
end Sg

namespace Sg
open PySem PySem.Spec PyProof.Rows L2
variable [Now]
/-! ### what is new -/
def nw (H H' : Hp) : Hp := fun a => if H a = none then H' a else none
theorem nw_new {H H' : Hp} {a : Addr} {o : HO} (n : H a = none) (h : H' a = some o) : nw H H' a = some o := by
  unfold nw
  rw [if_pos n]
  exact h
theorem nw_of {H H' : Hp} {a : Addr} {o : HO} (h : nw H H' a = some o) : H a = none ∧ H' a = some o := by
  unfold nw at h
  by_cases z : H a = none
  · rw [if_pos z] at h
    exact ⟨z, h⟩
  · rw [if_neg z] at h
    cases h
/-- what stands there stands here -/
def Dm (H H1 : Hp) : Prop := ∀ a, H1 a = none → H a = none
theorem Dm.refl (H : Hp) : Dm H H := fun _ e => e
theorem Dm.trans {H H1 H2 : Hp} (a : Dm H H1) (b : Dm H1 H2) : Dm H H2 := fun x e => a x (b x e)
theorem Same.dm {H H1 : Hp} (e : Same H H1) : Dm H H1 := fun _ n => e.free n
theorem Kp.dm {p c : Addr} {H H' : Hp} (k : Kp p c H H') (S' : St p c H') : Dm H H' := fun _ n => k.free S' n
theorem nw_base {H H1 H' : Hp} (h : Dm H H1) : Same (nw H1 H') (nw H H') := fun b o q => by
  have z := nw_of q
  exact nw_new (h b z.1) z.2
theorem nw_up {H H' H'' : Hp} (h : ∀ b o, H b = none → H' b = some o → H'' b = some o) : Same (nw H H') (nw H H'') := fun b o q => by
  have z := nw_of q
  exact nw_new z.1 (h b o z.1 z.2)
theorem nw_sub {H H' : Hp} : Same (nw H H') H' := fun _ _ q => (nw_of q).2
theorem nw_same {H H' H'' : Hp} (e : Same H' H'') : Same (nw H H') (nw H H'') := nw_up fun b o _ q => e _ _ q
theorem St.some {p c : Addr} {H : Hp} (s : St p c H) : H p ≠ none ∧ H c ≠ none := by
  obtain ⟨xs, sd, s⟩ := s
  exact ⟨by rw [s.hp]; simp, by rw [s.hc]; simp⟩
theorem Kp.nw {p c : Addr} {H H' H'' : Hp} (S : St p c H) (k : Kp p c H' H'') : Same (Sg.nw H H') (Sg.nw H H'') := nw_up fun b o n q => k b o (fun z => S.some.1 (z ▸ n)) (fun z => S.some.2 (z ▸ n)) q
theorem nw_put {H H' : Hp} {D : Addr} {o : HO} (h : H D ≠ none) : Same (nw H H') (nw H (upd H' D o)) := nw_up fun b u n q => by
  rw [upd_ne (show b ≠ D from fun z => h (by rw [← z]; exact n))]
  exact q
/-! ### _law_term -/
def bnd : Nat → Nat
  | 0 => 1
  | r + 1 => 2 + 3 * bnd r
theorem bnd_pos : ∀ r, 1 ≤ bnd r
  | 0 => Nat.le_refl _
  | r + 1 => by
    show 1 ≤ 2 + 3 * bnd r
    omega
mutual
/-- no unbound variables but these; and no pairs -/
def clp : List Int → Tm → Prop
  | _, .int _ _ => True
  | _, .prim _ _ => True
  | env, .ref i _ => i ∈ env
  | env, .fn ids b _ => clp (env ++ ids) b
  | env, .rc i ids b _ => clp (env ++ [i] ++ ids) b
  | env, .lt i x b _ => clp env x ∧ clp (env ++ [i]) b
  | env, .ite x y z _ => clp env x ∧ clp env y ∧ clp env z
  | env, .app f xs _ => clp env f ∧ clps env xs
  | _, .pair _ _ _ => False
def clps : List Int → List Tm → Prop
  | _, [] => True
  | env, t :: ts => clp env t ∧ clps env ts
end
theorem clps_app (e : List Int) : ∀ (a b : List Tm), clps e a → clps e b → clps e (a ++ b)
  | [], b, _, hb => hb
  | x :: a, b, ha, hb => by
    simp only [List.cons_append, clps] at ha ⊢
    exact ⟨ha.1, clps_app e a b ha.2 hb⟩
mutual
theorem clp_clo : ∀ (env : List Int) (t : Tm), clp env t → clo env t
  | env, .int _ _, h => by simp only [clo]
  | env, .prim _ _, h => by simp only [clo]
  | env, .ref i _, h => by
    simp only [clp] at h
    simp only [clo]
    exact h
  | env, .fn ids b _, h => by
    simp only [clp] at h
    simp only [clo]
    exact clp_clo _ b h
  | env, .rc i ids b _, h => by
    simp only [clp] at h
    simp only [clo]
    exact clp_clo _ b h
  | env, .lt i x b _, h => by
    simp only [clp] at h
    simp only [clo]
    exact ⟨clp_clo _ x h.1, clp_clo _ b h.2⟩
  | env, .ite x y z _, h => by
    simp only [clp] at h
    simp only [clo]
    exact ⟨clp_clo _ x h.1, clp_clo _ y h.2.1, clp_clo _ z h.2.2⟩
  | env, .app f xs _, h => by
    simp only [clp] at h
    simp only [clo]
    exact ⟨clp_clo _ f h.1, clps_clos _ xs h.2⟩
  | env, .pair _ _ _, h => by simp only [clp] at h
theorem clps_clos : ∀ (env : List Int) (ts : List Tm), clps env ts → clos env ts
  | env, [], h => by simp only [clos]
  | env, t :: ts, h => by
    simp only [clps] at h
    simp only [clos]
    exact ⟨clp_clo _ t h.1, clps_clos _ ts h.2⟩
end
def spTerm (n : Nat) : Sp := fun vs H Q _ => ∃ (p c e : Addr) (env : List Int) (d : Nat), vs = [.ref p, .ref e, .int (d : Nat)] ∧ d < n ∧ d ≤ 4 ∧ H e = some (.lst (env.map V.int)) ∧ e ≠ p ∧ e ≠ c ∧ env.length + 5 * d ≤ 100 ∧ (∀ i ∈ env, i.natAbs ≤ 1000) ∧ St p c H ∧
  ∀ H' t v, Kp p c H H' → St p c H' → TmAt (nw H H') t v → wok t → clp env t → mht t ≤ 2 * d → msz t ≤ bnd d → Q v H'
theorem scTerm : FnScope ["state", "env", "deep", "kind", "o", "value", "rows", "args", "ids", "body", "name", "k"] ["state", "env", "deep"] (defScope sTerm) := ⟨rfl, rfl, rfl, by decide +kernel, rfl, by decide +kernel, by decide +kernel⟩
theorem term_none {f : Addr} {fd : FuncData} {P : Program} {w : World} {K : PySem.W.Frag} {mg : Str → Option Value} {base : Heap} {k : Nat} : FnOk P w K mg base CX0 k f fd ["state", "env", "deep"] (spTerm 0) := by
  have no : ∀ vs H Q E, ¬ spTerm 0 vs H Q E := fun vs H Q E h => by
    obtain ⟨p, c, e, env, d, _, h1, _⟩ := h
    omega
  exact ⟨fun vs H Q E h => absurd h (no vs H Q E), fun A outer s H args us vs Q E _ _ _ _ h => absurd h (no vs H Q E)⟩
section
variable {P : Program} {w : World} {K : PySem.W.Frag} {mg : Str → Option Value} {base : Heap}
theorem ok_term {f fD fK : Addr} {fd fdD fdK : FuncData} {k n : Nat} (F : Fun K "_law_term" "_law_term" sTerm f fd)
    (G : FnOk P w K mg base CX0 k f fd ["state", "env", "deep"] (spTerm n)) (bF : Binds K fd ["state", "env", "deep"] []) (mF : mg "_law_term" = some (.ref f))
    (GD : FnOk P w K mg base CX0 k fD fdD ["state", "many"] spDraw) (bD : Binds K fdD ["state", "many"] []) (kD : PySem.W.keepIn K (.ref fD) = true) (mD : mg "_law_draw" = some (.ref fD))
    (GK : FnOk P w K mg base CX0 k fK fdK ["state", "row"] spPick) (bK : Binds K fdK ["state", "row"] []) (kK : PySem.W.keepIn K (.ref fK) = true) (mK : mg "_law_pick" = some (.ref fK))
    (mr : mg "range" = none) (ml : mg "len" = none) (mt : mg "tuple" = none) : FnOk P w K mg base CX0 (k + 1) f fd ["state", "env", "deep"] (spTerm (n + 1)) := by
  refine F.ok scTerm (fun vs H Q E h => ?_) (fun cdv A outer st H vs Q E hr h => ?_)
  · obtain ⟨p, c, e, env, d, rfl, _⟩ := h
    rfl
  obtain ⟨p, c, e, env, d, rfl, hdn, hd4, he, nep, nec, hlen, hib, S0, q⟩ := h
  refine ⟨_, pss_cons (ps_set (i := 3) scTerm.nd rfl (.inl rfl) (pe_call GD hr (by rfl) mD kD bD .nil pass0 (pa_cons (pv 0) (pa_cons pe_int pa_nil))))
 (pss_cons (ps_set (i := 4) scTerm.nd rfl (.inl rfl) (pe_tup (pa_cons (pe_op op_sub (pe_call GD hr (by rfl) mD kD bD .nil pass0 (pa_cons (pv 0) (pa_cons pe_int pa_nil))) pe_int) (pa_cons (pe_callTy call_tuple_of (by rfl) mt PyProof.Rows.boot_tuple (pa_cons (pe_lc (own := [("k", 11)]) (g := gName 11) (tt := tYes) rfl scTerm.nd (pi_range1 (by rfl) mr (pa_cons (pe_call GD hr (by rfl) mD kD bD .nil pass0 (pa_cons (pv 0) (pa_cons pe_int pa_nil))) pa_nil)) (blkOk_by (N := ["state", "env", "deep", "kind", "o", "value", "rows", "args", "ids", "body", "name", "k"]) (sc := defScope sTerm) (by decide +kernel)) (fun _ _ _ _ _ => pg_name (i := 11) scTerm.nd rfl (Or.inl rfl)) (fun _ _ _ _ _ => pts_nil) (fun _ _ _ _ _ => pv 11)) pa_nil)) (pa_cons (pe_op op_sub (pe_call GD hr (by rfl) mD kD bD .nil pass0 (pa_cons (pv 0) (pa_cons pe_int pa_nil))) pe_int) pa_nil)))))
 (pss_cons (ps_if (pw_or (pt_cmpR op_eq (pv 2) pe_int (nomark _)) (pw_or1 (pt_cmpR op_eq (pv 3) pe_int (nomark _)))).pt (Evl.pss_cut (ps_if (pw_and (pt_cmpR op_gt (pe_callB call_len_seq (by rfl) ml PySem.boot_len (pa_cons (pv 1) pa_nil)) pe_int (nomark _)) (pw_and1 (pt_cmpR op_eq (pe_call GD hr (by rfl) mD kD bD .nil pass0 (pa_cons (pv 0) (pa_cons pe_int pa_nil))) pe_int (nomark _)))).pt (pss_one (ps_ret (pe_tup (pa_cons pe_str (pa_cons (pe_call GK hr (by rfl) mK kK bK .nil pass0 (pa_cons (pv 0) (pa_cons (pv 1) pa_nil))) (pa_cons (pv 4) pa_nil)))))) pss_nil)
 (pss_cons (ps_if (pt_cmpR op_eq (pe_call GD hr (by rfl) mD kD bD .nil pass0 (pa_cons (pv 0) (pa_cons pe_int pa_nil))) pe_int (nomark _)) (pss_one (ps_ret (pe_tup (pa_cons pe_str (pa_cons (pe_call GK hr (by rfl) mK kK bK .nil pass0 (pa_cons (pv 0) (pa_cons (pe_lst (pa_cons pe_str (pa_cons pe_str (pa_cons pe_str pa_nil)))) pa_nil))) (pa_cons (pv 4) pa_nil)))))) pss_nil)
 (pss_one (ps_ret (pe_tup (pa_cons pe_str (pa_cons (pe_call GK hr (by rfl) mK kK bK .nil pass0 (pa_cons (pv 0) (pa_cons (pe_lst (pa_cons pe_int (pa_cons pe_int (pa_cons pe_int (pa_cons (pe_un un_neg pe_int) (pa_cons pe_int (pa_cons (pe_un un_neg pe_int) (pa_cons pe_int pa_nil)))))))) pa_nil))) (pa_cons (pv 4) pa_nil)))))))) pss_nil)
 (pss_cons (ps_if (pt_cmpR op_eq (pv 3) pe_int (nomark _)) (pss_cons (ps_set (i := 5) scTerm.nd rfl (.inl rfl) (pe_call G hr (by rfl) mF F.kp bF .nil pass0 (pa_cons (pv 0) (pa_cons (pv 1) (pa_cons (pe_op op_sub (pv 2) pe_int) pa_nil)))))
 (pss_one (ps_ret (pe_tup (pa_cons pe_str (pa_cons (pe_op op_sub pe_int (pv 2)) (pa_cons (pv 5) (pa_cons (pe_call G hr (by rfl) mF F.kp bF .nil pass0 (pa_cons (pv 0) (pa_cons (pe_op op_cat (pv 1) (pe_lst (pa_cons (pe_op op_sub pe_int (pv 2)) pa_nil))) (pa_cons (pe_op op_sub (pv 2) pe_int) pa_nil)))) (pa_cons (pv 4) pa_nil))))))))) pss_nil)
 (pss_cons (ps_if (pt_cmpR op_eq (pv 3) pe_int (nomark _)) (pss_cons (ps_setLc (i := 6) (own := [("k", 11)]) (g := gName 11) (tt := tYes) rfl scTerm.nd rfl rfl (sw_true rfl rfl (by decide) (by decide +kernel)) (pi_range1 (by rfl) mr (pa_cons pe_int pa_nil)) (blkOk_by (N := ["state", "env", "deep", "kind", "o", "value", "rows", "args", "ids", "body", "name", "k"]) (sc := defScope sTerm) (by decide +kernel)) (fun _ _ _ _ _ => pg_name (i := 11) scTerm.nd rfl (Or.inl rfl)) (fun _ _ _ _ _ => pts_nil) (fun _ _ _ _ _ => (pe_call G hr (by rfl) mF F.kp bF .nil pass0 (pa_cons (pv 0) (pa_cons (pv 1) (pa_cons (pe_op op_sub (pv 2) pe_int) pa_nil))))))
 (pss_one (ps_ret (pe_tup (pa_cons pe_str (pa_cons (pe_ix ix_list (pv 6) pe_int (fun _ _ => rfl)) (pa_cons (pe_ix ix_list (pv 6) pe_int (fun _ _ => rfl)) (pa_cons (pe_ix ix_list (pv 6) pe_int (fun _ _ => rfl)) (pa_cons (pv 4) pa_nil))))))))) pss_nil)
 (pss_cons (ps_setLc (i := 7) (own := [("k", 11)]) (g := gName 11) (tt := tYes) rfl scTerm.nd rfl rfl (sw_true rfl rfl (by decide) (by decide +kernel)) (pi_range1 (by rfl) mr (pa_cons (pe_call GK hr (by rfl) mK kK bK .nil pass0 (pa_cons (pv 0) (pa_cons (pe_lst (pa_cons pe_int (pa_cons pe_int (pa_cons pe_int (pa_cons pe_int (pa_cons pe_int pa_nil)))))) pa_nil))) pa_nil)) (blkOk_by (N := ["state", "env", "deep", "kind", "o", "value", "rows", "args", "ids", "body", "name", "k"]) (sc := defScope sTerm) (by decide +kernel)) (fun _ _ _ _ _ => pg_name (i := 11) scTerm.nd rfl (Or.inl rfl)) (fun _ _ _ _ _ => pts_nil) (fun _ _ _ _ _ => (pe_call G hr (by rfl) mF F.kp bF .nil pass0 (pa_cons (pv 0) (pa_cons (pv 1) (pa_cons (pe_op op_sub (pv 2) pe_int) pa_nil))))))
 (pss_cons (ps_if (pt_cmpR op_eq (pv 3) pe_int (nomark _)) (pss_cons (ps_setLc (i := 8) (own := [("k", 11)]) (g := gName 11) (tt := tYes) rfl scTerm.nd rfl rfl (sw_true rfl rfl (by decide) (by decide +kernel)) (pi_range1 (by rfl) mr (pa_cons (pe_call GK hr (by rfl) mK kK bK .nil pass0 (pa_cons (pv 0) (pa_cons (pe_lst (pa_cons (pe_callB call_len_seq (by rfl) ml PySem.boot_len (pa_cons (pv 7) pa_nil)) (pa_cons (pe_callB call_len_seq (by rfl) ml PySem.boot_len (pa_cons (pv 7) pa_nil)) (pa_cons pe_int pa_nil)))) pa_nil))) pa_nil)) (blkOk_by (N := ["state", "env", "deep", "kind", "o", "value", "rows", "args", "ids", "body", "name", "k"]) (sc := defScope sTerm) (by decide +kernel)) (fun _ _ _ _ _ => pg_name (i := 11) scTerm.nd rfl (Or.inl rfl)) (fun _ _ _ _ _ => pts_nil) (fun _ _ _ _ _ => (pe_op op_add (pe_op op_mul pe_int (pv 2)) (pv 11))))
 (pss_one (ps_ret (pe_tup (pa_cons pe_str (pa_cons (pe_tup (pa_cons pe_str (pa_cons (pv 8) (pa_cons (pe_call G hr (by rfl) mF F.kp bF .nil pass0 (pa_cons (pv 0) (pa_cons (pe_op op_cat (pv 1) (pv 8)) (pa_cons (pe_op op_sub (pv 2) pe_int) pa_nil)))) (pa_cons (pv 4) pa_nil))))) (pa_cons (pv 7) (pa_cons (pv 4) pa_nil)))))))) pss_nil)
 (pss_cons (ps_if (pt_cmpR op_eq (pv 3) pe_int (nomark _)) (pss_cons (ps_setLc (i := 8) (own := [("k", 11)]) (g := gName 11) (tt := tYes) rfl scTerm.nd rfl rfl (sw_true rfl rfl (by decide) (by decide +kernel)) (pi_range1 (by rfl) mr (pa_cons (pe_callB call_len_seq (by rfl) ml PySem.boot_len (pa_cons (pv 7) pa_nil)) pa_nil)) (blkOk_by (N := ["state", "env", "deep", "kind", "o", "value", "rows", "args", "ids", "body", "name", "k"]) (sc := defScope sTerm) (by decide +kernel)) (fun _ _ _ _ _ => pg_name (i := 11) scTerm.nd rfl (Or.inl rfl)) (fun _ _ _ _ _ => pts_nil) (fun _ _ _ _ _ => (pe_op op_add (pe_op op_add (pe_op op_mul pe_int (pv 2)) pe_int) (pv 11))))
 (pss_cons (ps_set (i := 9) scTerm.nd rfl (.inl rfl) (pe_call G hr (by rfl) mF F.kp bF .nil pass0 (pa_cons (pv 0) (pa_cons (pe_op op_cat (pe_op op_cat (pv 1) (pe_lst (pa_cons (pe_op op_mul pe_int (pv 2)) pa_nil))) (pv 8)) (pa_cons (pe_op op_sub (pv 2) pe_int) pa_nil)))))
 (pss_one (ps_ret (pe_tup (pa_cons pe_str (pa_cons (pe_tup (pa_cons pe_str (pa_cons (pe_op op_mul pe_int (pv 2)) (pa_cons (pv 8) (pa_cons (pv 9) (pa_cons (pv 4) pa_nil)))))) (pa_cons (pv 7) (pa_cons (pv 4) pa_nil))))))))) pss_nil)
 (pss_cons (ps_if (pt_cmpR op_eq (pv 3) pe_int (nomark _)) (pss_one (ps_ret (pe_tup (pa_cons pe_str (pa_cons (pe_call G hr (by rfl) mF F.kp bF .nil pass0 (pa_cons (pv 0) (pa_cons (pv 1) (pa_cons (pe_op op_sub (pv 2) pe_int) pa_nil)))) (pa_cons (pv 7) (pa_cons (pv 4) pa_nil))))))) pss_nil)
 (pss_cons (ps_if (pt_cmpR op_eq (pv 3) pe_int (nomark _)) (pss_one (ps_ret (pe_tup (pa_cons pe_str (pa_cons (pe_tup (pa_cons pe_str (pa_cons (pe_call GK hr (by rfl) mK kK bK .nil pass0 (pa_cons (pv 0) (pa_cons (pe_lst (pa_cons pe_str (pa_cons pe_str pa_nil))) pa_nil))) (pa_cons (pv 4) pa_nil)))) (pa_cons (pe_lst (pa_cons (pe_call G hr (by rfl) mF F.kp bF .nil pass0 (pa_cons (pv 0) (pa_cons (pv 1) (pa_cons (pe_op op_sub (pv 2) pe_int) pa_nil)))) pa_nil)) (pa_cons (pv 4) pa_nil))))))) pss_nil)
 (pss_cons (ps_set (i := 10) scTerm.nd rfl (.inl rfl) (pe_call GK hr (by rfl) mK kK bK .nil pass0 (pa_cons (pv 0) (pa_cons (pe_lst (pa_cons pe_str (pa_cons pe_str (pa_cons pe_str (pa_cons pe_str (pa_cons pe_str (pa_cons pe_str pa_nil))))))) pa_nil))))
 (pss_cons (ps_setLc (i := 6) (own := [("k", 11)]) (g := gName 11) (tt := tYes) rfl scTerm.nd rfl rfl (sw_true rfl rfl (by decide) (by decide +kernel)) (pi_range1 (by rfl) mr (pa_cons (pe_call GK hr (by rfl) mK kK bK .nil pass0 (pa_cons (pv 0) (pa_cons (pe_lst (pa_cons pe_int (pa_cons pe_int (pa_cons pe_int (pa_cons pe_int (pa_cons pe_int (pa_cons pe_int pa_nil))))))) pa_nil))) pa_nil)) (blkOk_by (N := ["state", "env", "deep", "kind", "o", "value", "rows", "args", "ids", "body", "name", "k"]) (sc := defScope sTerm) (by decide +kernel)) (fun _ _ _ _ _ => pg_name (i := 11) scTerm.nd rfl (Or.inl rfl)) (fun _ _ _ _ _ => pts_nil) (fun _ _ _ _ _ => (pe_call G hr (by rfl) mF F.kp bF .nil pass0 (pa_cons (pv 0) (pa_cons (pv 1) (pa_cons (pe_op op_sub (pv 2) pe_int) pa_nil))))))
 (pss_one (ps_ret (pe_tup (pa_cons pe_str (pa_cons (pe_tup (pa_cons pe_str (pa_cons (pv 10) (pa_cons (pv 4) pa_nil)))) (pa_cons (pv 6) (pa_cons (pv 4) pa_nil)))))))))))))))))), ?_⟩
  refine ⟨_, rfl, p, c, 9, rfl, by decide, by decide, S0, fun H1 kd kp1 S1 a1 b1 => ?_⟩
  refine ⟨_, rfl, p, c, 3, rfl, by decide, by decide, S1, fun H2 r2 kp2 S2 a2 b2 => ?_⟩
  refine ⟨_, _, rfl, rfl, ?_⟩
  refine ⟨_, rfl, p, c, 3, rfl, by decide, by decide, S2, fun H3 r3 kp3 S3 a3 b3 => ⟨r3, rfl, by omega, by omega, fun D hD => ?_⟩⟩
  refine lc_range (lo := 0) (n := r3.toNat) (fun i H' => Same H3 H' ∧ ∃ rs : List Int, H' D = some (.lst (rs.map V.int)) ∧ rs.length = i ∧ ∀ r ∈ rs, r.natAbs ≤ 1000) ⟨same_new hD _, [], upd_same, rfl, fun r hr => by cases hr⟩ ?_ ?_
  · rintro i H' hi ⟨sm, rs, eD, hl, hb⟩
    refine ⟨rfl, yes_k ?_⟩
    refine ⟨_, rfl, _, eD, by rw [List.length_map, hl]; exact smallL (by omega), same_mut sm hD _, rs ++ [0 + (i : Int)], by rw [upd_same, List.map_append]; rfl, by rw [List.length_append, hl]; rfl, fun r hr => ?_⟩
    rcases List.mem_append.mp hr with e | e
    · exact hb r e
    · rw [List.mem_singleton.mp e]
      omega
  rintro H4 ⟨sm4, rs, eD, hl, hb⟩
  refine ⟨D, _, rfl, .inl ⟨SqL.of eD, fun t nt => ?_⟩⟩
  have sm5 : Same H3 (upd H4 t (.tup (rs.map V.int))) := sm4.trans (same_new nt _)
  have et5 : (upd H4 t (.tup (rs.map V.int))) t = some (.tup (rs.map V.int)) := upd_same
  generalize upd H4 t (.tup (rs.map V.int)) = H5 at sm5 et5
  have kp5 := ((kp1.trans kp2).trans kp3).trans (Same.kp sm5)
  have S5 := S3.same sm5
  have nt0 : H t = none := (((kp1.trans kp2).trans kp3).trans (Same.kp sm4)).free (S3.same sm4) nt
  have ntp := (S3.same sm4).new nt
  refine ⟨_, rfl, p, c, 2, rfl, by decide, by decide, S5, fun H6 r6 kp6 S6 a6 b6 => ?_⟩
  refine ⟨_, _, rfl, rfl, ?_⟩
  refine ⟨by show 3 ≤ sizeLine; decide, fun t2 nt2 => ?_⟩
  have s7 : Same H6 (upd H6 t2 (.tup [.int (r2 - 1), .ref t, .int (r6 - 1)])) := same_new nt2 _
  have et7 : (upd H6 t2 (.tup [.int (r2 - 1), .ref t, .int (r6 - 1)])) t2 = some (.tup [.int (r2 - 1), .ref t, .int (r6 - 1)]) := upd_same
  have nt20 : H t2 = none := (kp5.trans kp6).free S6 nt2
  have et56 := s7 _ _ (kp6 t _ ntp.1 ntp.2 et5)
  generalize upd H6 t2 (.tup [.int (r2 - 1), .ref t, .int (r6 - 1)]) = Ho at s7 et7 et56
  have kpo : Kp p c H Ho := (kp5.trans kp6).trans (Same.kp s7)
  have So : St p c Ho := S6.same s7
  have og : OgAt (nw H Ho) ⟨r2 - 1, rs, r6 - 1⟩ (.ref t2) := .inl ⟨t2, t, rfl, nw_new nt20 et7, nw_new nt0 et56⟩
  have oo : OgOk ⟨r2 - 1, rs, r6 - 1⟩ := ⟨by show (r2 - 1).natAbs ≤ 1000; omega, by show rs.length ≤ 4; omega, hb, by show (r6 - 1).natAbs ≤ 1000; omega⟩
  generalize (⟨r2 - 1, rs, r6 - 1⟩ : Og) = o at og oo
  generalize V.ref t2 = wo at og
  clear kp1 kp2 kp3 kp5 kp6 s7 sm5 sm4 S1 S2 S3 S5 S6 et7 et56 et5 eD hD nt0 nt20 ntp nt nt2 hb hl a2 b2 a3 b3 a6 b6
  have heo := kpo e _ nep nec he
  have el : (env.map V.int).length = env.length := List.length_map _
  have leaf : ∀ (H3 : Hp) (t : Addr) (x : V) (tag : Str) (T : Tm), Kp p c Ho H3 → St p c H3 → H3 t = none → ((nw H (upd H3 t (.tup [.str tag, x, wo]))) t = some (.tup [.str tag, x, wo]) → OgAt (nw H (upd H3 t (.tup [.str tag, x, wo]))) o wo → TmAt (nw H (upd H3 t (.tup [.str tag, x, wo]))) T (.ref t)) → wok T → clp env T → mht T ≤ 0 → msz T ≤ 1 → Q (.ref t) (upd H3 t (.tup [.str tag, x, wo])) := fun H3 t x tag T kp S nt hT hm hc hh hz =>
    q _ T _ ((kpo.trans kp).trans (Same.kp (same_new nt _))) (S.same (same_new nt _)) (hT (nw_new ((kpo.trans kp).free S nt) upd_same) (og.same ((kp.nw S0).trans (nw_same (same_new nt _))))) hm hc (by omega) (Nat.le_trans hz (bnd_pos d))
  refine ⟨_, rfl, rfl, _, rfl, ?_⟩
  by_cases zd : d = 0
  · refine if_true_of (by simp [zd]) ?_
    refine if_true_of rfl ?_
    refine ⟨fun σ H' => σ = [some (.ref p), some (.ref e), some (.int (d : Nat)), some (.int kd), some wo, none, none, none, none, none, none, none] ∧ Kp p c Ho H' ∧ St p c H', ?_, ?_⟩
    · refine ⟨_, rfl, e, _, rfl, .inl (SqL.of heo), _, _, rfl, rfl, _, rfl, ?_⟩
      by_cases zl : env = []
      · refine if_false_of (by simp [zl]) ?_
        refine if_false_of rfl ?_
        exact ⟨rfl, Kp.refl p c Ho, So⟩
      · have lpos : 0 < env.length := List.length_pos_iff.mpr zl
        refine if_true_of (decide_eq_true (by rw [List.length_map]; omega)) ?_
        refine ⟨_, rfl, p, c, 2, rfl, by decide, by decide, So, fun H3 r3 kp3 S3 a3 b3 => ?_⟩
        refine ⟨rfl, _, rfl, ?_⟩
        by_cases z3 : r3 = 0
        · refine if_true_of (by simp [z3]) ?_
          refine ⟨_, rfl, _, rfl, p, c, e, _, rfl, kp3 e _ nep nec heo, nep, nec, by simp [zl], by rw [List.length_map]; omega, S3, fun H4 v kp4 S4 hv => ⟨_, rfl, by show 3 ≤ sizeLine; decide, fun t nt => ?_⟩⟩
          obtain ⟨i, hi, rfl⟩ := List.mem_map.mp hv
          have hib2 := hib i hi
          exact leaf H4 t (.int i) "ref" (.ref i o) (kp3.trans kp4) S4 nt (fun a b => by unfold TmAt; exact ⟨t, wo, rfl, a, b⟩) (by simp only [wok]; exact ⟨by omega, oo⟩) (by simp only [clp]; exact hi) (Nat.zero_le _) (Nat.le_refl _)
        · refine if_false_of (by simp [z3]) ?_
          exact ⟨rfl, kp3, S3⟩
    · rintro σ Hx ⟨rfl, kpx, Sx⟩
      refine ⟨_, rfl, p, c, 6, rfl, by decide, by decide, Sx, fun H5 r5 kp5 S5 a5 b5 => ?_⟩
      refine ⟨rfl, _, rfl, ?_⟩
      by_cases z5 : r5 = 0
      · refine if_true_of (by simp [z5]) ?_
        refine ⟨_, rfl, by show 3 ≤ sizeLine; decide, fun b nb => ?_⟩
        have nbs := S5.new nb
        refine ⟨p, c, b, _, rfl, upd_same, nbs.1, nbs.2, by simp, by show 3 ≤ 1000; decide, S5.same (same_new nb _), fun H6 v kp6 S6 hv => ⟨_, rfl, by show 3 ≤ sizeLine; decide, fun t nt => ?_⟩⟩
        obtain ⟨s, rfl, hs⟩ : ∃ s : Str, v = .str s ∧ s.length ≤ 20 ∧ ∀ c ∈ s.cps.toList, c < 128 := by
          rcases List.mem_cons.mp hv with e | e
          · exact ⟨"none", e, by decide +kernel, by decide +kernel⟩
          · rcases List.mem_cons.mp e with e | e
            · exact ⟨"+", e, by decide +kernel, by decide +kernel⟩
            · exact ⟨"head", List.mem_singleton.mp e, by decide +kernel, by decide +kernel⟩
        have kpA : Kp p c Ho H6 := ((kpx.trans kp5).trans (Same.kp (same_new nb _))).trans kp6
        exact leaf H6 t (.str s) "prim" (.prim s o) kpA S6 nt (fun a b => by unfold TmAt; exact ⟨t, wo, rfl, a, b⟩) (by simp only [wok]; exact ⟨hs.1, hs.2, oo⟩) (by simp only [clp]) (Nat.zero_le _) (Nat.le_refl _)
      · refine if_false_of (by simp [z5]) ?_
        refine ⟨_, rfl, 3, rfl, 999999999, rfl, by show 7 ≤ sizeLine; decide, fun b nb => ?_⟩
        have nbs := S5.new nb
        refine ⟨p, c, b, _, rfl, upd_same, nbs.1, nbs.2, by simp, by show 7 ≤ 1000; decide, S5.same (same_new nb _), fun H6 v kp6 S6 hv => ⟨_, rfl, by show 3 ≤ sizeLine; decide, fun t nt => ?_⟩⟩
        obtain ⟨m, rfl, hm⟩ : ∃ m : Int, v = .int m ∧ m.natAbs ≤ 999999999 := by
          have z : v = .int 0 ∨ v = .int 1 ∨ v = .int 2 ∨ v = .int (-3) ∨ v = .int 999999999 ∨ v = .int (-999999999) ∨ v = .int 31623 := by simpa using hv
          rcases z with z | z | z | z | z | z | z
          · exact ⟨_, z, by decide⟩
          · exact ⟨_, z, by decide⟩
          · exact ⟨_, z, by decide⟩
          · exact ⟨_, z, by decide⟩
          · exact ⟨_, z, by decide⟩
          · exact ⟨_, z, by decide⟩
          · exact ⟨_, z, by decide⟩
        have kpA : Kp p c Ho H6 := ((kpx.trans kp5).trans (Same.kp (same_new nb _))).trans kp6
        exact leaf H6 t (.int m) "int" (.int m o) kpA S6 nt (fun a b => by unfold TmAt; exact ⟨t, wo, rfl, a, b⟩) (by simp only [wok]; exact ⟨hm, oo⟩) (by simp only [clp]) (Nat.zero_le _) (Nat.le_refl _)
  refine if_false_of (by simp [zd]) ?_
  refine ⟨_, rfl, rfl, _, rfl, ?_⟩
  by_cases zk : kd = 0
  · refine if_true_of (by simp [zk]) ?_
    refine ⟨fun σ H' => σ = [some (.ref p), some (.ref e), some (.int (d : Nat)), some (.int kd), some wo, none, none, none, none, none, none, none] ∧ Kp p c Ho H' ∧ St p c H', ?_, ?_⟩
    · refine ⟨_, rfl, e, _, rfl, .inl (SqL.of heo), _, _, rfl, rfl, _, rfl, ?_⟩
      by_cases zl : env = []
      · refine if_false_of (by simp [zl]) ?_
        refine if_false_of rfl ?_
        exact ⟨rfl, Kp.refl p c Ho, So⟩
      · have lpos : 0 < env.length := List.length_pos_iff.mpr zl
        refine if_true_of (decide_eq_true (by rw [List.length_map]; omega)) ?_
        refine ⟨_, rfl, p, c, 2, rfl, by decide, by decide, So, fun H3 r3 kp3 S3 a3 b3 => ?_⟩
        refine ⟨rfl, _, rfl, ?_⟩
        by_cases z3 : r3 = 0
        · refine if_true_of (by simp [z3]) ?_
          refine ⟨_, rfl, _, rfl, p, c, e, _, rfl, kp3 e _ nep nec heo, nep, nec, by simp [zl], by rw [List.length_map]; omega, S3, fun H4 v kp4 S4 hv => ⟨_, rfl, by show 3 ≤ sizeLine; decide, fun t nt => ?_⟩⟩
          obtain ⟨i, hi, rfl⟩ := List.mem_map.mp hv
          have hib2 := hib i hi
          exact leaf H4 t (.int i) "ref" (.ref i o) (kp3.trans kp4) S4 nt (fun a b => by unfold TmAt; exact ⟨t, wo, rfl, a, b⟩) (by simp only [wok]; exact ⟨by omega, oo⟩) (by simp only [clp]; exact hi) (Nat.zero_le _) (Nat.le_refl _)
        · refine if_false_of (by simp [z3]) ?_
          exact ⟨rfl, kp3, S3⟩
    · rintro σ Hx ⟨rfl, kpx, Sx⟩
      refine ⟨_, rfl, p, c, 6, rfl, by decide, by decide, Sx, fun H5 r5 kp5 S5 a5 b5 => ?_⟩
      refine ⟨rfl, _, rfl, ?_⟩
      by_cases z5 : r5 = 0
      · refine if_true_of (by simp [z5]) ?_
        refine ⟨_, rfl, by show 3 ≤ sizeLine; decide, fun b nb => ?_⟩
        have nbs := S5.new nb
        refine ⟨p, c, b, _, rfl, upd_same, nbs.1, nbs.2, by simp, by show 3 ≤ 1000; decide, S5.same (same_new nb _), fun H6 v kp6 S6 hv => ⟨_, rfl, by show 3 ≤ sizeLine; decide, fun t nt => ?_⟩⟩
        obtain ⟨s, rfl, hs⟩ : ∃ s : Str, v = .str s ∧ s.length ≤ 20 ∧ ∀ c ∈ s.cps.toList, c < 128 := by
          rcases List.mem_cons.mp hv with e | e
          · exact ⟨"none", e, by decide +kernel, by decide +kernel⟩
          · rcases List.mem_cons.mp e with e | e
            · exact ⟨"+", e, by decide +kernel, by decide +kernel⟩
            · exact ⟨"head", List.mem_singleton.mp e, by decide +kernel, by decide +kernel⟩
        have kpA : Kp p c Ho H6 := ((kpx.trans kp5).trans (Same.kp (same_new nb _))).trans kp6
        exact leaf H6 t (.str s) "prim" (.prim s o) kpA S6 nt (fun a b => by unfold TmAt; exact ⟨t, wo, rfl, a, b⟩) (by simp only [wok]; exact ⟨hs.1, hs.2, oo⟩) (by simp only [clp]) (Nat.zero_le _) (Nat.le_refl _)
      · refine if_false_of (by simp [z5]) ?_
        refine ⟨_, rfl, 3, rfl, 999999999, rfl, by show 7 ≤ sizeLine; decide, fun b nb => ?_⟩
        have nbs := S5.new nb
        refine ⟨p, c, b, _, rfl, upd_same, nbs.1, nbs.2, by simp, by show 7 ≤ 1000; decide, S5.same (same_new nb _), fun H6 v kp6 S6 hv => ⟨_, rfl, by show 3 ≤ sizeLine; decide, fun t nt => ?_⟩⟩
        obtain ⟨m, rfl, hm⟩ : ∃ m : Int, v = .int m ∧ m.natAbs ≤ 999999999 := by
          have z : v = .int 0 ∨ v = .int 1 ∨ v = .int 2 ∨ v = .int (-3) ∨ v = .int 999999999 ∨ v = .int (-999999999) ∨ v = .int 31623 := by simpa using hv
          rcases z with z | z | z | z | z | z | z
          · exact ⟨_, z, by decide⟩
          · exact ⟨_, z, by decide⟩
          · exact ⟨_, z, by decide⟩
          · exact ⟨_, z, by decide⟩
          · exact ⟨_, z, by decide⟩
          · exact ⟨_, z, by decide⟩
          · exact ⟨_, z, by decide⟩
        have kpA : Kp p c Ho H6 := ((kpx.trans kp5).trans (Same.kp (same_new nb _))).trans kp6
        exact leaf H6 t (.int m) "int" (.int m o) kpA S6 nt (fun a b => by unfold TmAt; exact ⟨t, wo, rfl, a, b⟩) (by simp only [wok]; exact ⟨hm, oo⟩) (by simp only [clp]) (Nat.zero_le _) (Nat.le_refl _)
  refine if_false_of (by simp [zk]) ?_
  obtain ⟨d', rfl⟩ : ∃ d', d = d' + 1 := ⟨d - 1, by omega⟩
  have ed : ((d' + 1 : Nat) : Int) - 1 = (d' : Nat) := by omega
  have bp := bnd_pos d'
  refine ⟨_, rfl, rfl, _, rfl, ?_⟩
  by_cases z1 : kd = 1
  · refine if_true_of (by simp [z1]) ?_
    refine ⟨_, rfl, _, rfl, _, rfl, _, _, rfl, rfl, p, c, e, env, d', (show [V.ref p, V.ref e, V.int (((d' + 1 : Nat) : Int) - 1)] = [V.ref p, V.ref e, V.int (d' : Nat)] by rw [ed]), by omega, by omega, heo, nep, nec, by omega, hib, So, fun H3 x v3 kp3 S3 t3 m3 c3 h3 z3 => ?_⟩
    have he3 := kp3 e _ nep nec heo
    obtain ⟨i0, hi0⟩ : ∃ i0 : Int, i0 = 7 - ((d' + 1 : Nat) : Int) := ⟨_, rfl⟩
    refine ⟨_, rfl, _, _, rfl, rfl, _, rfl, _, rfl, _, rfl, _, rfl, _, _, rfl, rfl, by show 1 ≤ sizeLine; decide, fun b1 nb1 => ?_⟩
    have sb1 : Same H3 (upd H3 b1 (.lst [V.int (7 - ((d' + 1 : Nat) : Int))])) := same_new nb1 _
    refine ⟨e, b1, _, _, rfl, rfl, sb1 _ _ he3, upd_same, by rw [List.length_map]; show env.length + 1 ≤ sizeLine; exact small (by omega), fun e2 ne2 => ?_⟩
    have sb2 := sb1.trans (same_new ne2 (.lst (env.map V.int ++ [V.int (7 - ((d' + 1 : Nat) : Int))])))
    have S5 := S3.same sb2
    have ne2' := (S3.same sb1).new ne2
    refine ⟨_, rfl, _, _, rfl, rfl, p, c, e2, env ++ [i0], d', (show [V.ref p, V.ref e2, V.int (((d' + 1 : Nat) : Int) - 1)] = [V.ref p, V.ref e2, V.int (d' : Nat)] by rw [ed]), by omega, by omega, by rw [upd_same, List.map_append, hi0]; rfl, ne2'.1, ne2'.2, by rw [List.length_append]; show env.length + 1 + 5 * d' ≤ 100; omega, ?_, S5, fun H6 b v6 kp6 S6 t6 m6 c6 h6 z6 => ?_⟩
    · intro i hi
      rcases List.mem_append.mp hi with e5 | e5
      · exact hib i e5
      · rw [List.mem_singleton.mp e5]
        omega
    refine ⟨_, rfl, by show 5 ≤ sizeLine; decide, fun t nt => ?_⟩
    have kp36 : Kp p c H3 H6 := (Same.kp sb2).trans kp6
    have kpz := kp3.trans kp36
    have kpA := kpo.trans kpz
    refine q _ (.lt i0 x b o) _ (kpA.trans (Same.kp (same_new nt _))) (S6.same (same_new nt _)) ?_ ?_ ?_ ?_ ?_
    · unfold TmAt
      refine ⟨t, v3, v6, wo, rfl, nw_new (kpA.free S6 nt) (by rw [upd_same, hi0]), TmAt.same ((nw_base (kpo.dm So)).trans ((kp36.nw S0).trans (nw_same (same_new nt _)))) _ _ t3, TmAt.same ((nw_base (((kpo.trans kp3).trans (Same.kp sb2)).dm S5)).trans (nw_same (same_new nt _))) _ _ t6, og.same ((kpz.nw S0).trans (nw_same (same_new nt _)))⟩
    · simp only [wok]
      exact ⟨by omega, m3, m6, oo⟩
    · simp only [clp]
      exact ⟨c3, c6⟩
    · show 1 + max (mht x) (mht b) ≤ 2 * (d' + 1)
      omega
    · show 1 + msz x + msz b ≤ 2 + 3 * bnd d'
      omega
  · refine if_false_of (by simp [z1]) ?_
    refine ⟨_, rfl, rfl, _, rfl, ?_⟩
    by_cases z2 : kd = 2
    · refine if_true_of (by simp [z2]) ?_
      refine ⟨3, rfl, by decide, by decide, fun D hD => ?_⟩
      obtain ⟨HD, hHD⟩ : ∃ HD, HD = upd Ho D (.lst []) := ⟨_, rfl⟩
      have SD : St p c HD := by
        rw [hHD]
        exact (So).same (same_new hD _)
      have eHD : HD D ≠ none := by
        rw [hHD, upd_same]
        simp
      have nD := (So).new hD
      have HD0 : H D = none := (kpo.trans (Kp.refl p c Ho)).free (So) hD
      have HoD : Ho D = none := (Kp.refl p c Ho).free (So) hD
      have dmHD : Dm H HD := by
        rw [hHD]
        exact ((kpo.trans (Kp.refl p c Ho)).dm (So)).trans (Same.dm (same_new hD _))
      refine lc_range (lo := 0) (n := 3) (fun i H' => Kp p c Ho H' ∧ St p c H' ∧ Dm HD H' ∧ ∃ (ts : List Tm) (vs : List V), H' D = some (.lst vs) ∧ TmsAt (nw HD H') ts vs ∧ ts.length = i ∧ woks ts ∧ clps env ts ∧ mhts ts ≤ 2 * d' ∧ mszs ts ≤ i * bnd d')
        ⟨(Kp.refl p c Ho).mut HoD _, (So).same (same_new hD _), (show Dm HD (upd Ho D (.lst [])) from hHD ▸ Dm.refl _), [], [], upd_same, TmsAt.nil, rfl, trivial, trivial, Nat.zero_le _, Nat.zero_le _⟩ ?_ ?_
      · rintro i H' hi ⟨kp5, S5, dm5, ts, vs, eD, ut, hl, hw, hc, hh, hz⟩
        refine ⟨rfl, yes_k ?_⟩
        refine ⟨_, rfl, _, rfl, _, rfl, _, _, rfl, rfl, p, c, e, env, d', (show [V.ref p, V.ref e, V.int (((d' + 1 : Nat) : Int) - 1)] = [V.ref p, V.ref e, V.int (d' : Nat)] by rw [ed]), by omega, by omega, kp5 e _ nep nec heo, nep, nec, by omega, hib, S5, fun H6 t v kp6 S6 u6 w6 c6 h6 z6 => ?_⟩
        have eD6 := kp6 D _ nD.1 nD.2 eD
        have sp : Same (nw HD H6) (nw HD (upd H6 D (.lst (vs ++ [v])))) := nw_put eHD
        refine ⟨vs, eD6, ?_, (kp5.trans kp6).mut HoD _, S6.put nD.1 nD.2 _, fun b z => ?_, ts ++ [t], vs ++ [v], upd_same, ?_, by rw [List.length_append, hl]; rfl, woks_app _ _ hw ⟨w6, trivial⟩, clps_app _ _ _ hc ⟨c6, trivial⟩, ?_, ?_⟩
        · rw [ut.len, hl]
          exact smallL (by omega)
        · by_cases y : b = D
          · rw [y, upd_same] at z
            cases z
          · rw [upd_ne y] at z
            exact dm5 b (kp6.free S6 z)
        · exact TmsAt.snoc (TmAt.same ((nw_base dm5).trans sp) _ _ u6) (TmsAt.same ((kp6.nw SD).trans sp) _ _ ut)
        · rw [mhts_app]
          simp only [mhts]
          omega
        · rw [mszs_app]
          simp only [mszs]
          have e5 : (i + 1) * bnd d' = i * bnd d' + bnd d' := Nat.succ_mul _ _
          omega
      rintro Ha ⟨kpa, Sa, dma, ats, avs, eDa, uta0, hla, hwa, hca, hha, hza⟩
      have uta : TmsAt (nw H Ha) ats avs := TmsAt.same (nw_base dmHD) _ _ uta0
      have nDa : nw H Ha D = some (.lst avs) := nw_new HD0 eDa
      clear uta0 dma dmHD eHD SD hHD HD
      match ats, avs, hla, uta, hwa, hca, hha, hza, eDa with
      | [x, y, z], avs, hla, uta, hwa, hca, hha, hza, eDa =>
        unfold TmsAt at uta
        obtain ⟨v1, r1, rfl, t1, uta⟩ := uta
        unfold TmsAt at uta
        obtain ⟨v2, r2, rfl, t2, uta⟩ := uta
        unfold TmsAt at uta
        obtain ⟨v3, r3, rfl, t3, uta⟩ := uta
        unfold TmsAt at uta
        subst uta
        refine ⟨_, rfl, D, _, 0, v1, rfl, rfl, SqL.of eDa, atI_nat (j := 0) rfl, _, rfl, D, _, 1, v2, rfl, rfl, SqL.of eDa, atI_nat (j := 1) rfl, _, rfl, D, _, 2, v3, rfl, rfl, SqL.of eDa, atI_nat (j := 2) rfl, _, rfl, by show 5 ≤ sizeLine; decide, fun t nt => ?_⟩
        have kpA := kpo.trans kpa
        have kpz := kpa
        simp only [woks] at hwa
        simp only [clps] at hca
        simp only [mhts] at hha
        simp only [mszs] at hza
        have sm : Same (nw H Ha) (nw H (upd Ha t (.tup [.str "if", v1, v2, v3, wo]))) := nw_same (same_new nt _)
        refine q _ (.ite x y z o) _ (kpA.trans (Same.kp (same_new nt _))) (Sa.same (same_new nt _)) ?_ ?_ ?_ ?_ ?_
        · unfold TmAt
          exact ⟨t, v1, v2, v3, wo, rfl, nw_new (kpA.free Sa nt) upd_same, TmAt.same sm _ _ t1, TmAt.same sm _ _ t2, TmAt.same sm _ _ t3, og.same ((kpz.nw S0).trans (nw_same (same_new nt _)))⟩
        · simp only [wok]
          exact ⟨hwa.1, hwa.2.1, hwa.2.2.1, oo⟩
        · simp only [clp]
          exact ⟨hca.1, hca.2.1, hca.2.2.1⟩
        · show 1 + max (mht x) (max (mht y) (mht z)) ≤ 2 * (d' + 1)
          omega
        · show 1 + msz x + msz y + msz z ≤ 2 + 3 * bnd d'
          omega
    · refine if_false_of (by simp [z2]) ?_
      refine ⟨_, rfl, by show 5 ≤ sizeLine; decide, fun ba nba => ?_⟩
      have nbas := So.new nba
      refine ⟨p, c, ba, _, rfl, upd_same, nbas.1, nbas.2, by simp, by show 5 ≤ 1000; decide, So.same (same_new nba _), fun Hr vr kpr Sr hvr => ?_⟩
      obtain ⟨ra, rfl, hra0, hra2⟩ : ∃ m : Int, vr = .int m ∧ 0 ≤ m ∧ m ≤ 2 := by
        have z : vr = .int 0 ∨ vr = .int 1 ∨ vr = .int 2 := by simpa using hvr
        rcases z with z | z | z
        · exact ⟨_, z, by decide, by decide⟩
        · exact ⟨_, z, by decide, by decide⟩
        · exact ⟨_, z, by decide, by decide⟩
      have kpr2 : Kp p c Ho Hr := (Same.kp (same_new nba _)).trans kpr
      refine ⟨ra, rfl, by omega, by omega, fun D hD => ?_⟩
      obtain ⟨HD, hHD⟩ : ∃ HD, HD = upd Hr D (.lst []) := ⟨_, rfl⟩
      have SD : St p c HD := by
        rw [hHD]
        exact (Sr).same (same_new hD _)
      have eHD : HD D ≠ none := by
        rw [hHD, upd_same]
        simp
      have nD := (Sr).new hD
      have HD0 : H D = none := (kpo.trans (kpr2)).free (Sr) hD
      have HoD : Ho D = none := (kpr2).free (Sr) hD
      have dmHD : Dm H HD := by
        rw [hHD]
        exact ((kpo.trans (kpr2)).dm (Sr)).trans (Same.dm (same_new hD _))
      refine lc_range (lo := 0) (n := ra.toNat) (fun i H' => Kp p c Ho H' ∧ St p c H' ∧ Dm HD H' ∧ ∃ (ts : List Tm) (vs : List V), H' D = some (.lst vs) ∧ TmsAt (nw HD H') ts vs ∧ ts.length = i ∧ woks ts ∧ clps env ts ∧ mhts ts ≤ 2 * d' ∧ mszs ts ≤ i * bnd d')
        ⟨(kpr2).mut HoD _, (Sr).same (same_new hD _), (show Dm HD (upd Hr D (.lst [])) from hHD ▸ Dm.refl _), [], [], upd_same, TmsAt.nil, rfl, trivial, trivial, Nat.zero_le _, Nat.zero_le _⟩ ?_ ?_
      · rintro i H' hi ⟨kp5, S5, dm5, ts, vs, eD, ut, hl, hw, hc, hh, hz⟩
        refine ⟨rfl, yes_k ?_⟩
        refine ⟨_, rfl, _, rfl, _, rfl, _, _, rfl, rfl, p, c, e, env, d', (show [V.ref p, V.ref e, V.int (((d' + 1 : Nat) : Int) - 1)] = [V.ref p, V.ref e, V.int (d' : Nat)] by rw [ed]), by omega, by omega, kp5 e _ nep nec heo, nep, nec, by omega, hib, S5, fun H6 t v kp6 S6 u6 w6 c6 h6 z6 => ?_⟩
        have eD6 := kp6 D _ nD.1 nD.2 eD
        have sp : Same (nw HD H6) (nw HD (upd H6 D (.lst (vs ++ [v])))) := nw_put eHD
        refine ⟨vs, eD6, ?_, (kp5.trans kp6).mut HoD _, S6.put nD.1 nD.2 _, fun b z => ?_, ts ++ [t], vs ++ [v], upd_same, ?_, by rw [List.length_append, hl]; rfl, woks_app _ _ hw ⟨w6, trivial⟩, clps_app _ _ _ hc ⟨c6, trivial⟩, ?_, ?_⟩
        · rw [ut.len, hl]
          exact smallL (by omega)
        · by_cases y : b = D
          · rw [y, upd_same] at z
            cases z
          · rw [upd_ne y] at z
            exact dm5 b (kp6.free S6 z)
        · exact TmsAt.snoc (TmAt.same ((nw_base dm5).trans sp) _ _ u6) (TmsAt.same ((kp6.nw SD).trans sp) _ _ ut)
        · rw [mhts_app]
          simp only [mhts]
          omega
        · rw [mszs_app]
          simp only [mszs]
          have e5 : (i + 1) * bnd d' = i * bnd d' + bnd d' := Nat.succ_mul _ _
          omega
      rintro Ha ⟨kpa, Sa, dma, ats, avs, eDa, uta0, hla, hwa, hca, hha, hza⟩
      have uta : TmsAt (nw H Ha) ats avs := TmsAt.same (nw_base dmHD) _ _ uta0
      have nDa : nw H Ha D = some (.lst avs) := nw_new HD0 eDa
      clear uta0 dma dmHD eHD SD hHD HD
      have hea := kpa e _ nep nec heo
      have la : avs.length = ats.length := uta.len
      have lat : ats.length ≤ 2 := by omega
      have zat : mszs ats ≤ 2 * bnd d' := Nat.le_trans hza (Nat.mul_le_mul_right _ (by omega))
      clear hD HoD kpr2 kpr Sr nbas nba hvr
      refine ⟨_, rfl, rfl, _, rfl, ?_⟩
      by_cases z3 : kd = 3
      · refine if_true_of (by simp [z3]) ?_
        refine ⟨_, rfl, _, rfl, D, _, rfl, .inl (SqL.of eDa), _, rfl, D, _, rfl, .inl (SqL.of eDa), by show 3 ≤ sizeLine; decide, fun b nb => ?_⟩
        have nbs := Sa.new nb
        refine ⟨p, c, b, _, rfl, upd_same, nbs.1, nbs.2, by simp, by show 3 ≤ 1000; decide, Sa.same (same_new nb _), fun H5 v5 kp5 S5 hv5 => ?_⟩
        obtain ⟨r5, rfl, h50, h52⟩ : ∃ m : Int, v5 = .int m ∧ 0 ≤ m ∧ m ≤ 2 := by
          have z : v5 = .int (avs.length : Nat) ∨ v5 = .int 1 := by simpa using hv5
          rcases z with z | z
          · exact ⟨_, z, by omega, by omega⟩
          · exact ⟨_, z, by decide, by decide⟩
        have kpa5 : Kp p c Ha H5 := (Same.kp (same_new nb _)).trans kp5
        refine ⟨r5, rfl, by omega, by omega, fun D2 hD2 => ?_⟩
        refine lc_range (lo := 0) (n := r5.toNat) (fun i H' => Same H5 H' ∧ ∃ ids : List Int, H' D2 = some (.lst (ids.map V.int)) ∧ ids.length = i ∧ ∀ j ∈ ids, j.natAbs ≤ 1000) ⟨same_new hD2 _, [], upd_same, rfl, fun r hr => by cases hr⟩ ?_ ?_
        · rintro i H' hi ⟨sm, ids, eD, hl, hb⟩
          refine ⟨rfl, yes_k ?_⟩
          refine ⟨_, rfl, _, _, rfl, rfl, .inl ⟨by decide, by decide⟩, _, rfl, _, _, rfl, rfl, _, eD, by rw [List.length_map, hl]; exact smallL (by omega), same_mut sm hD2 _, ids ++ [10 * ((d' + 1 : Nat) : Int) + (0 + (i : Int))], by rw [upd_same, List.map_append]; rfl, by rw [List.length_append, hl]; rfl, fun r hr => ?_⟩
          rcases List.mem_append.mp hr with e5 | e5
          · exact hb r e5
          · rw [List.mem_singleton.mp e5]
            omega
        rintro H7 ⟨sm7, ids, eD7, hl7, hb7⟩
        have kp7 : Kp p c Ha H7 := (kpa5).trans (Same.kp sm7)
        have S7 := (S5).same sm7
        have nD2 := (S5).new hD2
        have HD20 : H D2 = none := ((kpo.trans kpa).trans (kpa5)).free (S5) hD2
        have lids : ids.length ≤ 2 := by omega
        have he7 := kp7 e _ nep nec hea
        refine ⟨_, rfl, _, rfl, _, rfl, _, rfl, e, D2, _, _, rfl, rfl, he7, eD7, by rw [List.length_map, List.length_map]; exact small (by omega), fun e2 ne2 => ?_⟩
        have sb2 : Same H7 (upd H7 e2 (.lst (env.map V.int ++ ids.map V.int))) := same_new ne2 _
        have ne2' := S7.new ne2
        have S8 := S7.same sb2
        refine ⟨_, rfl, _, _, rfl, rfl, p, c, e2, env ++ ids, d', (show [V.ref p, V.ref e2, V.int (((d' + 1 : Nat) : Int) - 1)] = [V.ref p, V.ref e2, V.int (d' : Nat)] by rw [ed]), by omega, by omega, by rw [upd_same, List.map_append], ne2'.1, ne2'.2, by rw [List.length_append]; omega, ?_, S8, fun H9 bt v9 kp9 S9 t9 m9 c9 h9 z9 => ?_⟩
        · intro i hi
          rcases List.mem_append.mp hi with e5 | e5
          · exact hib i e5
          · exact hb7 i e5
        refine ⟨_, rfl, by show 4 ≤ sizeLine; decide, fun t1 nt1 => ?_⟩
        refine ⟨_, rfl, _, rfl, by show 4 ≤ sizeLine; decide, fun t nt => ?_⟩
        have kp79 : Kp p c H7 H9 := (Same.kp sb2).trans kp9
        have kpA9 : Kp p c H H9 := (kpo.trans kpa).trans (kp7.trans kp79)
        have st : Same H9 (upd (upd H9 t1 (.tup [.str "fn", .ref D2, v9, wo])) t (.tup [.str "app", .ref t1, .ref D, wo])) := (same_new nt1 _).trans (same_new nt _)
        refine q _ (.app (.fn ids bt o) ats o) _ (kpA9.trans (Same.kp st)) (S9.same st) ?_ ?_ ?_ ?_ ?_
        · have og9 := og.same (((kpa.trans (kp7.trans kp79)).nw S0).trans (nw_same st))
          unfold TmAt
          refine ⟨t, .ref t1, D, avs, wo, rfl, nw_new ((kpA9.trans (Same.kp (same_new nt1 _))).free (S9.same (same_new nt1 _)) nt) upd_same, (((kp7.trans kp79).nw S0).trans (nw_same st)) _ _ nDa, ?_, TmsAt.same (((kp7.trans kp79).nw S0).trans (nw_same st)) _ _ uta, og9⟩
          unfold TmAt
          exact ⟨t1, D2, v9, wo, rfl, nw_new (kpA9.free S9 nt1) (same_new nt _ _ _ upd_same), nw_new HD20 (st _ _ (kp79 D2 _ nD2.1 nD2.2 eD7)), TmAt.same ((nw_base ((((kpo.trans kpa).trans kp7).trans (Same.kp sb2)).dm S8)).trans (nw_same st)) _ _ t9, og9⟩
        · simp only [wok]
          exact ⟨⟨by omega, fun i hi => by have := hb7 i hi; omega, m9, oo⟩, hwa, oo⟩
        · simp only [clp]
          exact ⟨c9, hca⟩
        · show 1 + max (1 + mht bt) (mhts ats) ≤ 2 * (d' + 1)
          omega
        · show 1 + (1 + msz bt) + mszs ats ≤ 2 + 3 * bnd d'
          omega
      · refine if_false_of (by simp [z3]) ?_
        refine ⟨_, rfl, rfl, _, rfl, ?_⟩
        by_cases z4 : kd = 4
        · refine if_true_of (by simp [z4]) ?_
          refine ⟨_, rfl, D, _, rfl, .inl (SqL.of eDa), (avs.length : Nat), rfl, by omega, by omega, fun D2 hD2 => ?_⟩
          refine lc_range (lo := 0) (n := avs.length) (fun i H' => Same Ha H' ∧ ∃ ids : List Int, H' D2 = some (.lst (ids.map V.int)) ∧ ids.length = i ∧ ∀ j ∈ ids, j.natAbs ≤ 1000) ⟨same_new hD2 _, [], upd_same, rfl, fun r hr => by cases hr⟩ ?_ ?_
          · rintro i H' hi ⟨sm, ids, eD, hl, hb⟩
            refine ⟨rfl, yes_k ?_⟩
            refine ⟨_, rfl, _, _, rfl, rfl, .inl ⟨by decide, by decide⟩, _, _, rfl, rfl, _, rfl, _, _, rfl, rfl, _, eD, by rw [List.length_map, hl]; exact smallL (by omega), same_mut sm hD2 _, ids ++ [(10 * ((d' + 1 : Nat) : Int) + 5) + (0 + (i : Int))], by rw [upd_same, List.map_append]; rfl, by rw [List.length_append, hl]; rfl, fun r hr => ?_⟩
            rcases List.mem_append.mp hr with e5 | e5
            · exact hb r e5
            · rw [List.mem_singleton.mp e5]
              omega
          rintro H7 ⟨sm7, ids, eD7, hl7, hb7⟩
          have kp7 : Kp p c Ha H7 := (Kp.refl p c Ha).trans (Same.kp sm7)
          have S7 := (Sa).same sm7
          have nD2 := (Sa).new hD2
          have HD20 : H D2 = none := ((kpo.trans kpa).trans (Kp.refl p c Ha)).free (Sa) hD2
          have lids : ids.length ≤ 2 := by omega
          have he7 := kp7 e _ nep nec hea
          obtain ⟨i0, hi0⟩ : ∃ i0 : Int, i0 = 10 * ((d' + 1 : Nat) : Int) := ⟨_, rfl⟩
          refine ⟨_, rfl, _, rfl, _, rfl, _, _, rfl, rfl, .inl ⟨by decide, by decide⟩, by show 1 ≤ sizeLine; decide, fun b1 nb1 => ?_⟩
          have sb1 : Same H7 (upd H7 b1 (.lst [V.int (10 * ((d' + 1 : Nat) : Int))])) := same_new nb1 _
          refine ⟨e, b1, _, _, rfl, rfl, sb1 _ _ he7, upd_same, by rw [List.length_map]; show env.length + 1 ≤ sizeLine; exact small (by omega), fun b2 nb2 => ?_⟩
          have sb2 := sb1.trans (same_new nb2 (.lst (env.map V.int ++ [V.int (10 * ((d' + 1 : Nat) : Int))])))
          refine ⟨_, rfl, b2, D2, _, _, rfl, rfl, upd_same, sb2 _ _ eD7, by rw [List.length_append, List.length_map, List.length_map]; show env.length + 1 + ids.length ≤ sizeLine; exact small (by omega), fun e2 ne2 => ?_⟩
          have sb3 := sb2.trans (same_new ne2 (.lst (env.map V.int ++ [V.int (10 * ((d' + 1 : Nat) : Int))] ++ ids.map V.int)))
          have ne2' := (S7.same sb2).new ne2
          have S8 := S7.same sb3
          refine ⟨_, rfl, _, _, rfl, rfl, p, c, e2, env ++ [i0] ++ ids, d', (show [V.ref p, V.ref e2, V.int (((d' + 1 : Nat) : Int) - 1)] = [V.ref p, V.ref e2, V.int (d' : Nat)] by rw [ed]), by omega, by omega, by rw [upd_same, List.map_append, List.map_append, hi0]; rfl, ne2'.1, ne2'.2, by rw [List.length_append, List.length_append]; show env.length + 1 + ids.length + 5 * d' ≤ 100; omega, ?_, S8, fun H9 bt v9 kp9 S9 t9 m9 c9 h9 z9 => ?_⟩
          · intro i hi
            rcases List.mem_append.mp hi with e5 | e5
            · rcases List.mem_append.mp e5 with e5 | e5
              · exact hib i e5
              · rw [List.mem_singleton.mp e5]
                omega
            · exact hb7 i e5
          refine ⟨_, rfl, _, _, rfl, rfl, .inl ⟨by decide, by decide⟩, _, rfl, _, rfl, _, rfl, by show 5 ≤ sizeLine; decide, fun t1 nt1 => ?_⟩
          refine ⟨_, rfl, _, rfl, by show 4 ≤ sizeLine; decide, fun t nt => ?_⟩
          have kp79 : Kp p c H7 H9 := (Same.kp sb3).trans kp9
          have kpA9 : Kp p c H H9 := (kpo.trans kpa).trans (kp7.trans kp79)
          have st : Same H9 (upd (upd H9 t1 (.tup [.str "rec", .int (10 * ((d' + 1 : Nat) : Int)), .ref D2, v9, wo])) t (.tup [.str "app", .ref t1, .ref D, wo])) := (same_new nt1 _).trans (same_new nt _)
          refine q _ (.app (.rc i0 ids bt o) ats o) _ (kpA9.trans (Same.kp st)) (S9.same st) ?_ ?_ ?_ ?_ ?_
          · have og9 := og.same (((kpa.trans (kp7.trans kp79)).nw S0).trans (nw_same st))
            unfold TmAt
            refine ⟨t, .ref t1, D, avs, wo, rfl, nw_new ((kpA9.trans (Same.kp (same_new nt1 _))).free (S9.same (same_new nt1 _)) nt) upd_same, (((kp7.trans kp79).nw S0).trans (nw_same st)) _ _ nDa, ?_, TmsAt.same (((kp7.trans kp79).nw S0).trans (nw_same st)) _ _ uta, og9⟩
            unfold TmAt
            exact ⟨t1, D2, v9, wo, rfl, nw_new (kpA9.free S9 nt1) (by rw [hi0]; exact same_new nt _ _ _ upd_same), nw_new HD20 (st _ _ (kp79 D2 _ nD2.1 nD2.2 eD7)), TmAt.same ((nw_base ((((kpo.trans kpa).trans kp7).trans (Same.kp sb3)).dm S8)).trans (nw_same st)) _ _ t9, og9⟩
          · simp only [wok]
            exact ⟨⟨by omega, by omega, fun i hi => by have := hb7 i hi; omega, m9, oo⟩, hwa, oo⟩
          · simp only [clp]
            exact ⟨c9, hca⟩
          · show 1 + max (1 + mht bt) (mhts ats) ≤ 2 * (d' + 1)
            omega
          · show 1 + (1 + msz bt) + mszs ats ≤ 2 + 3 * bnd d'
            omega
        · refine if_false_of (by simp [z4]) ?_
          refine ⟨_, rfl, rfl, _, rfl, ?_⟩
          by_cases z5 : kd = 5
          · refine if_true_of (by simp [z5]) ?_
            refine ⟨_, rfl, _, rfl, _, rfl, _, _, rfl, rfl, p, c, e, env, d', (show [V.ref p, V.ref e, V.int (((d' + 1 : Nat) : Int) - 1)] = [V.ref p, V.ref e, V.int (d' : Nat)] by rw [ed]), by omega, by omega, kpa e _ nep nec heo, nep, nec, by omega, hib, Sa, fun H9 ft v9 kp9 S9 t9 m9 c9 h9 z9 => ?_⟩
            refine ⟨_, rfl, _, rfl, by show 4 ≤ sizeLine; decide, fun t nt => ?_⟩
            have kpA9 : Kp p c H H9 := (kpo.trans kpa).trans kp9
            have st : Same H9 (upd H9 t (.tup [.str "app", v9, .ref D, wo])) := same_new nt _
            refine q _ (.app ft ats o) _ (kpA9.trans (Same.kp st)) (S9.same st) ?_ ?_ ?_ ?_ ?_
            · unfold TmAt
              exact ⟨t, v9, D, avs, wo, rfl, nw_new (kpA9.free S9 nt) upd_same, ((kp9.nw S0).trans (nw_same st)) _ _ nDa, TmAt.same ((nw_base ((kpo.trans kpa).dm Sa)).trans (nw_same st)) _ _ t9, TmsAt.same ((kp9.nw S0).trans (nw_same st)) _ _ uta, og.same (((kpa.trans kp9).nw S0).trans (nw_same st))⟩
            · simp only [wok]
              exact ⟨m9, hwa, oo⟩
            · simp only [clp]
              exact ⟨c9, hca⟩
            · show 1 + max (mht ft) (mhts ats) ≤ 2 * (d' + 1)
              omega
            · show 1 + msz ft + mszs ats ≤ 2 + 3 * bnd d'
              omega
          · refine if_false_of (by simp [z5]) ?_
            refine ⟨_, rfl, rfl, _, rfl, ?_⟩
            by_cases z6 : kd = 6
            · refine if_true_of (by simp [z6]) ?_
              refine ⟨_, rfl, by show 2 ≤ sizeLine; decide, fun b nb => ?_⟩
              have nbs := Sa.new nb
              refine ⟨p, c, b, _, rfl, upd_same, nbs.1, nbs.2, by simp, by show 2 ≤ 1000; decide, Sa.same (same_new nb _), fun H5 v5 kp5 S5 hv5 => ?_⟩
              obtain ⟨s5, rfl, hs5⟩ : ∃ s : Str, v5 = .str s ∧ s.length ≤ 20 ∧ ∀ c ∈ s.cps.toList, c < 128 := by
                rcases List.mem_cons.mp hv5 with e | e
                · exact ⟨"head", e, by decide +kernel, by decide +kernel⟩
                · exact ⟨"tail", List.mem_singleton.mp e, by decide +kernel, by decide +kernel⟩
              have kpa5 : Kp p c Ha H5 := (Same.kp (same_new nb _)).trans kp5
              refine ⟨_, rfl, by show 3 ≤ sizeLine; decide, fun t1 nt1 => ?_⟩
              have st1 : Same H5 (upd H5 t1 (.tup [.str "prim", .str s5, wo])) := same_new nt1 _
              have S6 := S5.same st1
              have kpo6 : Kp p c Ho (upd H5 t1 (.tup [.str "prim", .str s5, wo])) := (kpa.trans kpa5).trans (Same.kp st1)
              have ht1 : H t1 = none := ((kpo.trans kpa).trans kpa5).free S5 nt1
              have et1 : (upd H5 t1 (.tup [.str "prim", .str s5, wo])) t1 = some (.tup [.str "prim", .str s5, wo]) := upd_same
              have n1 := S5.new nt1
              refine ⟨_, rfl, _, rfl, _, rfl, _, _, rfl, rfl, p, c, e, env, d', (show [V.ref p, V.ref e, V.int (((d' + 1 : Nat) : Int) - 1)] = [V.ref p, V.ref e, V.int (d' : Nat)] by rw [ed]), by omega, by omega, kpo6 e _ nep nec heo, nep, nec, by omega, hib, S6, fun H9 ft v9 kp9 S9 t9 m9 c9 h9 z9 => ?_⟩
              refine ⟨by show 1 ≤ sizeLine; decide, fun l nl => ?_⟩
              refine ⟨_, rfl, by show 4 ≤ sizeLine; decide, fun t nt => ?_⟩
              have kpA9 : Kp p c H H9 := (kpo.trans kpo6).trans kp9
              have st : Same H9 (upd (upd H9 l (.lst [v9])) t (.tup [.str "app", .ref t1, .ref l, wo])) := (same_new nl _).trans (same_new nt _)
              refine q _ (.app (.prim s5 o) [ft] o) _ (kpA9.trans (Same.kp st)) (S9.same st) ?_ ?_ ?_ ?_ ?_
              · have og9 := og.same (((kpo6.trans kp9).nw S0).trans (nw_same st))
                unfold TmAt
                refine ⟨t, .ref t1, l, [v9], wo, rfl, nw_new ((kpA9.trans (Same.kp (same_new nl _))).free (S9.same (same_new nl _)) nt) upd_same, nw_new (kpA9.free S9 nl) (same_new nt _ _ _ upd_same), ?_, .one (TmAt.same ((nw_base ((kpo.trans kpo6).dm S6)).trans (nw_same st)) _ _ t9), og9⟩
                unfold TmAt
                exact ⟨t1, wo, rfl, nw_new ht1 (st _ _ (kp9 t1 _ n1.1 n1.2 et1)), og9⟩
              · simp only [wok, woks]
                exact ⟨⟨hs5.1, hs5.2, oo⟩, ⟨m9, trivial⟩, oo⟩
              · simp only [clp, clps]
                exact ⟨trivial, c9, trivial⟩
              · show 1 + max 0 (max (mht ft) 0) ≤ 2 * (d' + 1)
                omega
              · show 1 + 1 + (msz ft + 0) ≤ 2 + 3 * bnd d'
                omega
            · refine if_false_of (by simp [z6]) ?_
              refine ⟨_, rfl, by show 6 ≤ sizeLine; decide, fun b nb => ?_⟩
              have nbs := Sa.new nb
              refine ⟨p, c, b, _, rfl, upd_same, nbs.1, nbs.2, by simp, by show 6 ≤ 1000; decide, Sa.same (same_new nb _), fun H5 v5 kp5 S5 hv5 => ?_⟩
              obtain ⟨s5, rfl, hs5⟩ : ∃ s : Str, v5 = .str s ∧ s.length ≤ 20 ∧ ∀ c ∈ s.cps.toList, c < 128 := by
                have z : v5 = .str "+" ∨ v5 = .str "-" ∨ v5 = .str "*" ∨ v5 = .str "<" ∨ v5 = .str "=" ∨ v5 = .str "pair" := by simpa using hv5
                rcases z with z | z | z | z | z | z
                · exact ⟨_, z, by decide +kernel, by decide +kernel⟩
                · exact ⟨_, z, by decide +kernel, by decide +kernel⟩
                · exact ⟨_, z, by decide +kernel, by decide +kernel⟩
                · exact ⟨_, z, by decide +kernel, by decide +kernel⟩
                · exact ⟨_, z, by decide +kernel, by decide +kernel⟩
                · exact ⟨_, z, by decide +kernel, by decide +kernel⟩
              have kpo5 : Kp p c Ho H5 := kpa.trans ((Same.kp (same_new nb _)).trans kp5)
              clear hza hha hca hwa hla eDa kpa Sa uta nDa hea la lat zat HD0 nD nbs nb kp5 hv5
              refine ⟨_, rfl, by show 6 ≤ sizeLine; decide, fun ba nba => ?_⟩
              have nbas := S5.new nba
              refine ⟨p, c, ba, _, rfl, upd_same, nbas.1, nbas.2, by simp, by show 6 ≤ 1000; decide, S5.same (same_new nba _), fun Hq vr kpr Sr hvr => ?_⟩
              obtain ⟨rq, rfl, hra0, hra2⟩ : ∃ m : Int, vr = .int m ∧ 0 ≤ m ∧ m ≤ 2 := by
                have z : vr = .int 2 ∨ vr = .int 1 := by simpa using hvr
                rcases z with z | z
                · exact ⟨_, z, by decide, by decide⟩
                · exact ⟨_, z, by decide, by decide⟩
              have kpr2 : Kp p c Ho Hq := kpo5.trans ((Same.kp (same_new nba _)).trans kpr)
              refine ⟨rq, rfl, by omega, by omega, fun D hD => ?_⟩
              obtain ⟨HD, hHD⟩ : ∃ HD, HD = upd Hq D (.lst []) := ⟨_, rfl⟩
              have SD : St p c HD := by
                rw [hHD]
                exact (Sr).same (same_new hD _)
              have eHD : HD D ≠ none := by
                rw [hHD, upd_same]
                simp
              have nD := (Sr).new hD
              have HD0 : H D = none := (kpo.trans (kpr2)).free (Sr) hD
              have HoD : Ho D = none := (kpr2).free (Sr) hD
              have dmHD : Dm H HD := by
                rw [hHD]
                exact ((kpo.trans (kpr2)).dm (Sr)).trans (Same.dm (same_new hD _))
              refine lc_range (lo := 0) (n := rq.toNat) (fun i H' => Kp p c Ho H' ∧ St p c H' ∧ Dm HD H' ∧ ∃ (ts : List Tm) (vs : List V), H' D = some (.lst vs) ∧ TmsAt (nw HD H') ts vs ∧ ts.length = i ∧ woks ts ∧ clps env ts ∧ mhts ts ≤ 2 * d' ∧ mszs ts ≤ i * bnd d')
                ⟨(kpr2).mut HoD _, (Sr).same (same_new hD _), (show Dm HD (upd Hq D (.lst [])) from hHD ▸ Dm.refl _), [], [], upd_same, TmsAt.nil, rfl, trivial, trivial, Nat.zero_le _, Nat.zero_le _⟩ ?_ ?_
              · rintro i H' hi ⟨kp5, S5, dm5, ts, vs, eD, ut, hl, hw, hc, hh, hz⟩
                refine ⟨rfl, yes_k ?_⟩
                refine ⟨_, rfl, _, rfl, _, rfl, _, _, rfl, rfl, p, c, e, env, d', (show [V.ref p, V.ref e, V.int (((d' + 1 : Nat) : Int) - 1)] = [V.ref p, V.ref e, V.int (d' : Nat)] by rw [ed]), by omega, by omega, kp5 e _ nep nec heo, nep, nec, by omega, hib, S5, fun H6 t v kp6 S6 u6 w6 c6 h6 z6 => ?_⟩
                have eD6 := kp6 D _ nD.1 nD.2 eD
                have sp : Same (nw HD H6) (nw HD (upd H6 D (.lst (vs ++ [v])))) := nw_put eHD
                refine ⟨vs, eD6, ?_, (kp5.trans kp6).mut HoD _, S6.put nD.1 nD.2 _, fun b z => ?_, ts ++ [t], vs ++ [v], upd_same, ?_, by rw [List.length_append, hl]; rfl, woks_app _ _ hw ⟨w6, trivial⟩, clps_app _ _ _ hc ⟨c6, trivial⟩, ?_, ?_⟩
                · rw [ut.len, hl]
                  exact smallL (by omega)
                · by_cases y : b = D
                  · rw [y, upd_same] at z
                    cases z
                  · rw [upd_ne y] at z
                    exact dm5 b (kp6.free S6 z)
                · exact TmsAt.snoc (TmAt.same ((nw_base dm5).trans sp) _ _ u6) (TmsAt.same ((kp6.nw SD).trans sp) _ _ ut)
                · rw [mhts_app]
                  simp only [mhts]
                  omega
                · rw [mszs_app]
                  simp only [mszs]
                  have e5 : (i + 1) * bnd d' = i * bnd d' + bnd d' := Nat.succ_mul _ _
                  omega
              rintro Hz ⟨kpa, Sa, dma, ats, avs, eDa, uta0, hla, hwa, hca, hha, hza⟩
              have uta : TmsAt (nw H Hz) ats avs := TmsAt.same (nw_base dmHD) _ _ uta0
              have nDa : nw H Hz D = some (.lst avs) := nw_new HD0 eDa
              clear uta0 dma dmHD eHD SD hHD HD
              have zat : mszs ats ≤ 2 * bnd d' := Nat.le_trans hza (Nat.mul_le_mul_right _ (by omega))
              refine ⟨_, rfl, _, rfl, by show 3 ≤ sizeLine; decide, fun t1 nt1 => ?_⟩
              refine ⟨_, rfl, _, rfl, by show 4 ≤ sizeLine; decide, fun t nt => ?_⟩
              have kpA9 : Kp p c H Hz := kpo.trans kpa
              have st : Same Hz (upd (upd Hz t1 (.tup [.str "prim", .str s5, wo])) t (.tup [.str "app", .ref t1, .ref D, wo])) := (same_new nt1 _).trans (same_new nt _)
              refine q _ (.app (.prim s5 o) ats o) _ (kpA9.trans (Same.kp st)) (Sa.same st) ?_ ?_ ?_ ?_ ?_
              · have og9 := og.same ((kpa.nw S0).trans (nw_same st))
                unfold TmAt
                refine ⟨t, .ref t1, D, avs, wo, rfl, nw_new ((kpA9.trans (Same.kp (same_new nt1 _))).free (Sa.same (same_new nt1 _)) nt) upd_same, nw_same st _ _ nDa, ?_, TmsAt.same (nw_same st) _ _ uta, og9⟩
                unfold TmAt
                exact ⟨t1, wo, rfl, nw_new (kpA9.free Sa nt1) (same_new nt _ _ _ upd_same), og9⟩
              · simp only [wok]
                exact ⟨⟨hs5.1, hs5.2, oo⟩, hwa, oo⟩
              · simp only [clp]
                exact ⟨trivial, hca⟩
              · show 1 + max 0 (mhts ats) ≤ 2 * (d' + 1)
                omega
              · show 1 + 1 + mszs ats ≤ 2 + 3 * bnd d'
                omega
end
end Sg

namespace Sg
open PySem PySem.Spec PyProof.Rows L2
variable [Now]
/-! ### terms as data: ==, repr -/
def ogD (o : Og) : PyData := .tuple [.int o.u, .tuple (o.rs.map PyData.int), .int o.h]
mutual
def tmD : Tm → PyData
  | .int n o => .tuple [.str "int", .int n, ogD o]
  | .prim s o => .tuple [.str "prim", .str s, ogD o]
  | .ref i o => .tuple [.str "ref", .int i, ogD o]
  | .fn ids b o => .tuple [.str "fn", .list (ids.map PyData.int), tmD b, ogD o]
  | .rc i ids b o => .tuple [.str "rec", .int i, .list (ids.map PyData.int), tmD b, ogD o]
  | .lt i x b o => .tuple [.str "let", .int i, tmD x, tmD b, ogD o]
  | .ite x y z o => .tuple [.str "if", tmD x, tmD y, tmD z, ogD o]
  | .app f xs o => .tuple [.str "app", tmD f, .list (tmDs xs), ogD o]
  | .pair x y o => .tuple [.str "pair", tmD x, tmD y, ogD o]
def tmDs : List Tm → List PyData
  | [] => []
  | t :: ts => tmD t :: tmDs ts
end
section
variable {K : PySem.W.Frag}
theorem dp_ints {F : Hp} : ∀ rs : List Int, DpAll K F (rs.map V.int) (rs.map PyData.int)
  | [] => .nil
  | r :: rs => .cons (.int r) (dp_ints rs)
def NowOk (K : PySem.W.Frag) : Prop := ∀ F : Hp, Dp K F Now.n (ogD ⟨-1, [], -1⟩)
theorem dp_og (hN : NowOk K) {F : Hp} {o : Og} {v : V} (h : OgAt F o v) : Dp K F v (ogD o) := by
  rcases h with ⟨a, b, rfl, h1, h2⟩ | ⟨rfl, rfl⟩
  · exact .tup (SqT.of h1) (.cons (.int _) (.cons (.tup (SqT.of h2) (dp_ints _)) (.cons (.int _) .nil)))
  · exact hN F
mutual
theorem dp_tm (hN : NowOk K) {F : Hp} : ∀ (t : Tm) (v : V), TmAt F t v → Dp K F v (tmD t)
  | .int n o, v, h => by
    unfold TmAt at h
    obtain ⟨a, w, rfl, h1, h2⟩ := h
    simp only [tmD]
    exact .tup (SqT.of h1) (.cons (.str _) (.cons (.int _) (.cons (dp_og hN h2) .nil)))
  | .prim s o, v, h => by
    unfold TmAt at h
    obtain ⟨a, w, rfl, h1, h2⟩ := h
    simp only [tmD]
    exact .tup (SqT.of h1) (.cons (.str _) (.cons (.str _) (.cons (dp_og hN h2) .nil)))
  | .ref i o, v, h => by
    unfold TmAt at h
    obtain ⟨a, w, rfl, h1, h2⟩ := h
    simp only [tmD]
    exact .tup (SqT.of h1) (.cons (.str _) (.cons (.int _) (.cons (dp_og hN h2) .nil)))
  | .fn ids b o, v, h => by
    unfold TmAt at h
    obtain ⟨a, l, u, w, rfl, h1, h2, h3, h4⟩ := h
    simp only [tmD]
    exact .tup (SqT.of h1) (.cons (.str _) (.cons (.lst (SqL.of h2) (dp_ints _)) (.cons (dp_tm hN b u h3) (.cons (dp_og hN h4) .nil))))
  | .rc i ids b o, v, h => by
    unfold TmAt at h
    obtain ⟨a, l, u, w, rfl, h1, h2, h3, h4⟩ := h
    simp only [tmD]
    exact .tup (SqT.of h1) (.cons (.str _) (.cons (.int _) (.cons (.lst (SqL.of h2) (dp_ints _)) (.cons (dp_tm hN b u h3) (.cons (dp_og hN h4) .nil)))))
  | .lt i x b o, v, h => by
    unfold TmAt at h
    obtain ⟨a, u1, u2, w, rfl, h1, h2, h3, h4⟩ := h
    simp only [tmD]
    exact .tup (SqT.of h1) (.cons (.str _) (.cons (.int _) (.cons (dp_tm hN x u1 h2) (.cons (dp_tm hN b u2 h3) (.cons (dp_og hN h4) .nil)))))
  | .ite x y z o, v, h => by
    unfold TmAt at h
    obtain ⟨a, u1, u2, u3, w, rfl, h1, h2, h3, h4, h5⟩ := h
    simp only [tmD]
    exact .tup (SqT.of h1) (.cons (.str _) (.cons (dp_tm hN x u1 h2) (.cons (dp_tm hN y u2 h3) (.cons (dp_tm hN z u3 h4) (.cons (dp_og hN h5) .nil)))))
  | .app f xs o, v, h => by
    unfold TmAt at h
    obtain ⟨a, u, l, vs, w, rfl, h1, h2, h3, h4, h5⟩ := h
    simp only [tmD]
    exact .tup (SqT.of h1) (.cons (.str _) (.cons (dp_tm hN f u h3) (.cons (.lst (SqL.of h2) (dp_tms hN xs vs h4)) (.cons (dp_og hN h5) .nil))))
  | .pair x y o, v, h => by
    unfold TmAt at h
    obtain ⟨a, u1, u2, w, rfl, h1, h2, h3, h4⟩ := h
    simp only [tmD]
    exact .tup (SqT.of h1) (.cons (.str _) (.cons (dp_tm hN x u1 h2) (.cons (dp_tm hN y u2 h3) (.cons (dp_og hN h4) .nil))))
theorem dp_tms (hN : NowOk K) {F : Hp} : ∀ (ts : List Tm) (vs : List V), TmsAt F ts vs → DpAll K F vs (tmDs ts)
  | [], vs, h => by
    unfold TmsAt at h
    subst h
    simp only [tmDs]
    exact .nil
  | t :: ts, vs, h => by
    unfold TmsAt at h
    obtain ⟨v, r, rfl, h2, h3⟩ := h
    simp only [tmDs]
    exact .cons (dp_tm hN t v h2) (dp_tms hN ts r h3)
end
end
theorem ints_can : ∀ rs : List Int, PyData.canLayAll0 (rs.map PyData.int) = true
  | [] => rfl
  | r :: rs => by
    simp only [List.map_cons, PyData.canLayAll0, PyData.canLay0, Bool.true_and]
    exact ints_can rs
theorem ints_depth : ∀ rs : List Int, PyData.depthAll (rs.map PyData.int) = 0
  | [] => rfl
  | r :: rs => by
    simp only [List.map_cons, PyData.depthAll, PyData.depth]
    rw [ints_depth rs]
    rfl
theorem og_can (o : Og) : PyData.canLay0 (ogD o) = true := by
  simp only [ogD, PyData.canLay0, PyData.canLayAll0, Bool.and_true, Bool.true_and]
  exact ints_can _
theorem og_depth (o : Og) : PyData.depth (ogD o) = 2 := by
  simp only [ogD, PyData.depth, PyData.depthAll]
  rw [ints_depth]
  rfl
theorem strOk_of {s : Str} (h : ∀ c ∈ s.cps.toList, c < 128) : PyData.strOk s = true := by
  show s.cps.all (· < 0x110000) = true
  rw [← Array.all_toList]
  exact List.all_eq_true.mpr fun c hc => decide_eq_true (Nat.lt_trans (h c hc) (by decide))
mutual
theorem tm_can : ∀ (env : List Int) (t : Tm), mok env t → PyData.canLay0 (tmD t) = true
  | env, .int n o, _ => by
    simp only [tmD, PyData.canLay0, PyData.canLayAll0, og_can, Bool.and_true]
    decide +kernel
  | env, .prim s o, h => by
    simp only [mok] at h
    simp only [tmD, PyData.canLay0, PyData.canLayAll0, og_can, strOk_of h.2.1, Bool.and_true]
    decide +kernel
  | env, .ref i o, _ => by
    simp only [tmD, PyData.canLay0, PyData.canLayAll0, og_can, Bool.and_true]
    decide +kernel
  | env, .fn ids b o, h => by
    simp only [mok] at h
    simp only [tmD, PyData.canLay0, PyData.canLayAll0, og_can, ints_can, tm_can _ b h.2.2.1, Bool.and_true]
    decide +kernel
  | env, .rc i ids b o, h => by
    simp only [mok] at h
    simp only [tmD, PyData.canLay0, PyData.canLayAll0, og_can, ints_can, tm_can _ b h.2.2.2.1, Bool.and_true]
    decide +kernel
  | env, .lt i x b o, h => by
    simp only [mok] at h
    simp only [tmD, PyData.canLay0, PyData.canLayAll0, og_can, tm_can _ x h.2.1, tm_can _ b h.2.2.1, Bool.and_true]
    decide +kernel
  | env, .ite x y z o, h => by
    simp only [mok] at h
    simp only [tmD, PyData.canLay0, PyData.canLayAll0, og_can, tm_can _ x h.1, tm_can _ y h.2.1, tm_can _ z h.2.2.1, Bool.and_true]
    decide +kernel
  | env, .app f xs o, h => by
    simp only [mok] at h
    simp only [tmD, PyData.canLay0, PyData.canLayAll0, og_can, tm_can _ f h.1, tms_can _ xs h.2.1, Bool.and_true]
    decide +kernel
  | env, .pair x y o, h => by simp only [mok] at h
theorem tms_can : ∀ (env : List Int) (ts : List Tm), moks env ts → PyData.canLayAll0 (tmDs ts) = true
  | _, [], _ => rfl
  | env, t :: ts, h => by
    simp only [moks] at h
    simp only [tmDs, PyData.canLayAll0, tm_can env t h.1, tms_can env ts h.2]
    rfl
end
mutual
theorem tm_depth : ∀ t : Tm, PyData.depth (tmD t) ≤ 2 * mht t + 3
  | .int n o => by
    simp only [tmD, PyData.depth, PyData.depthAll, og_depth, mht]
    omega
  | .prim s o => by
    simp only [tmD, PyData.depth, PyData.depthAll, og_depth, mht]
    omega
  | .ref i o => by
    simp only [tmD, PyData.depth, PyData.depthAll, og_depth, mht]
    omega
  | .fn ids b o => by
    have := tm_depth b
    simp only [tmD, PyData.depth, PyData.depthAll, og_depth, ints_depth, mht]
    omega
  | .rc i ids b o => by
    have := tm_depth b
    simp only [tmD, PyData.depth, PyData.depthAll, og_depth, ints_depth, mht]
    omega
  | .lt i x b o => by
    have := tm_depth x
    have := tm_depth b
    simp only [tmD, PyData.depth, PyData.depthAll, og_depth, mht]
    omega
  | .ite x y z o => by
    have := tm_depth x
    have := tm_depth y
    have := tm_depth z
    simp only [tmD, PyData.depth, PyData.depthAll, og_depth, mht]
    omega
  | .app f xs o => by
    have := tm_depth f
    have := tms_depth xs
    simp only [tmD, PyData.depth, PyData.depthAll, og_depth, mht]
    omega
  | .pair x y o => by
    have := tm_depth x
    have := tm_depth y
    simp only [tmD, PyData.depth, PyData.depthAll, og_depth, mht]
    omega
theorem tms_depth : ∀ ts : List Tm, PyData.depthAll (tmDs ts) ≤ 2 * mhts ts + 3
  | [] => by
    simp only [tmDs, PyData.depthAll]
    omega
  | t :: ts => by
    have := tm_depth t
    have := tms_depth ts
    simp only [tmDs, PyData.depthAll, mhts]
    omega
end
end Sg

namespace Sg
open PySem PySem.Spec PyProof.Rows L2
variable [Now]
/-! ### how long a term is shown -/
theorem num_len {n : Int} (h : n.natAbs ≤ 999999999) : (Str.ofString (toString n)).length ≤ 10 := by
  have hl : (TL.numL n.natAbs).length ≤ 9 := TL.numL_len (by decide) (by omega)
  by_cases z : 0 ≤ n
  · have e : n = ((n.natAbs : Nat) : Int) := by omega
    have q : (Str.ofString (toString ((n.natAbs : Nat) : Int))).cps.toList = TL.numL n.natAbs := TL.tl_num n.natAbs
    rw [e]
    show (Str.ofString (toString ((n.natAbs : Nat) : Int))).cps.size ≤ 10
    rw [← Array.length_toList, q]
    omega
  · have hn : n < 0 := by omega
    rw [PyProof.Rows.len_text_neg hn]
    have e : (0 : Int) - n = ((n.natAbs : Nat) : Int) := by omega
    rw [e]
    have q : (Str.ofString (toString ((n.natAbs : Nat) : Int))).cps.toList = TL.numL n.natAbs := TL.tl_num n.natAbs
    show 1 + (Str.ofString (toString ((n.natAbs : Nat) : Int))).cps.size ≤ 10
    rw [← Array.length_toList, q]
    omega
theorem num_log {n : Int} (h : n.natAbs ≤ 999999999) : n.natAbs.log2 < 1920 := by
  by_cases z : n.natAbs = 0
  · rw [z]
    decide
  · have : n.natAbs.log2 < 30 := (Nat.log2_lt z (k := 30)).mpr (by omega)
    omega
theorem ints_show : ∀ rs : List Int, (∀ r ∈ rs, r.natAbs ≤ 999999999) → PyData.showableAll (rs.map PyData.int) = true ∧ PyData.hasDictAll (rs.map PyData.int) = false ∧ ((PyData.shownAll (rs.map PyData.int)).map (·.length)).sum + 2 * (PyData.shownAll (rs.map PyData.int)).length ≤ 12 * rs.length
  | [], _ => ⟨rfl, rfl, Nat.le_refl _⟩
  | r :: rs, h => by
    have q := ints_show rs fun x hx => h x (List.mem_cons_of_mem _ hx)
    have hr := h r List.mem_cons_self
    have := num_len hr
    simp only [List.map_cons, PyData.showableAll, PyData.hasDictAll, PyData.shownAll, PyData.showable, PyData.hasDict, PyData.shown, List.sum_cons, List.length_cons]
    refine ⟨by rw [decide_eq_true (num_log hr), q.1]; rfl, by rw [q.2.1]; rfl, ?_⟩
    omega
theorem og_show {o : Og} (h : OgOk o) : PyData.showable (ogD o) = true ∧ PyData.hasDict (ogD o) = false ∧ (PyData.shown (ogD o)).length ≤ 90 := by
  obtain ⟨h1, h2, h3, h4⟩ := h
  have q := ints_show o.rs fun r hr => by have := h3 r hr; omega
  have l1 := num_len (n := o.u) (by omega)
  have l2 := num_len (n := o.h) (by omega)
  have z1 := tupleText_len_le (PyData.shownAll (o.rs.map PyData.int))
  have z := tupleText_len_le [(toString o.u : Str), tupleText (PyData.shownAll (o.rs.map PyData.int)), (toString o.h : Str)]
  simp only [ogD, PyData.showable, PyData.showableAll, PyData.hasDict, PyData.hasDictAll, PyData.shown, PyData.shownAll]
  simp only [List.map_cons, List.map_nil, List.sum_cons, List.sum_nil, List.length_cons, List.length_nil] at z
  refine ⟨by rw [decide_eq_true (num_log (n := o.u) (by omega)), decide_eq_true (num_log (n := o.h) (by omega)), q.1]; rfl, by rw [q.2.1]; rfl, ?_⟩
  have := q.2.2
  omega
theorem ids_show {rs : List Int} (h : ∀ r ∈ rs, r.natAbs ≤ 100000) (hl : rs.length ≤ 4) : PyData.showableAll (rs.map PyData.int) = true ∧ PyData.hasDictAll (rs.map PyData.int) = false ∧ (listText (PyData.shownAll (rs.map PyData.int))).length ≤ 51 := by
  have q := ints_show rs fun r hr => by have := h r hr; omega
  have z := listText_len_le (PyData.shownAll (rs.map PyData.int))
  exact ⟨q.1, q.2.1, by have := q.2.2; omega⟩
mutual
theorem tm_show : ∀ (env : List Int) (t : Tm), mok env t → PyData.showable (tmD t) = true ∧ PyData.hasDict (tmD t) = false ∧ (PyData.shown (tmD t)).length + 2 ≤ 400 * msz t
  | env, .int n o, h => by
    simp only [mok] at h
    have g := og_show h.2
    have l := num_len h.1
    have e1 : (reprText "int").length = 5 := by decide +kernel
    have z := tupleText_len_le [reprText "int", (toString n : Str), PyData.shown (ogD o)]
    simp only [tmD, PyData.showable, PyData.showableAll, PyData.hasDict, PyData.hasDictAll, PyData.shown, PyData.shownAll, msz]
    simp only [List.map_cons, List.map_nil, List.sum_cons, List.sum_nil, List.length_cons, List.length_nil] at z
    refine ⟨by rw [decide_eq_true (num_log h.1), g.1]; rfl, by rw [g.2.1]; rfl, by omega⟩
  | env, .prim s o, h => by
    simp only [mok] at h
    have g := og_show h.2.2
    have l := StrLaws.reprText_len s (fun c hc => Nat.lt_trans (h.2.1 c hc) (by decide))
    have e1 : (reprText "prim").length = 6 := by decide +kernel
    have z := tupleText_len_le [reprText "prim", reprText s, PyData.shown (ogD o)]
    simp only [tmD, PyData.showable, PyData.showableAll, PyData.hasDict, PyData.hasDictAll, PyData.shown, PyData.shownAll, msz]
    simp only [List.map_cons, List.map_nil, List.sum_cons, List.sum_nil, List.length_cons, List.length_nil] at z
    refine ⟨by rw [g.1]; rfl, by rw [g.2.1]; rfl, by omega⟩
  | env, .ref i o, h => by
    simp only [mok] at h
    have g := og_show h.2.2
    have l := num_len (n := i) (by omega)
    have e1 : (reprText "ref").length = 5 := by decide +kernel
    have z := tupleText_len_le [reprText "ref", (toString i : Str), PyData.shown (ogD o)]
    simp only [tmD, PyData.showable, PyData.showableAll, PyData.hasDict, PyData.hasDictAll, PyData.shown, PyData.shownAll, msz]
    simp only [List.map_cons, List.map_nil, List.sum_cons, List.sum_nil, List.length_cons, List.length_nil] at z
    refine ⟨by rw [decide_eq_true (num_log (n := i) (by omega)), g.1]; rfl, by rw [g.2.1]; rfl, by omega⟩
  | env, .fn ids b o, h => by
    simp only [mok] at h
    have g := og_show h.2.2.2.1
    have l := ids_show h.2.1 h.1
    have qb := tm_show _ b h.2.2.1
    have e1 : (reprText "fn").length = 4 := by decide +kernel
    have z := tupleText_len_le [reprText "fn", listText (PyData.shownAll (ids.map PyData.int)), PyData.shown (tmD b), PyData.shown (ogD o)]
    simp only [tmD, PyData.showable, PyData.showableAll, PyData.hasDict, PyData.hasDictAll, PyData.shown, PyData.shownAll, msz]
    simp only [List.map_cons, List.map_nil, List.sum_cons, List.sum_nil, List.length_cons, List.length_nil] at z
    refine ⟨by rw [l.1, qb.1, g.1]; rfl, by rw [l.2.1, qb.2.1, g.2.1]; rfl, by omega⟩
  | env, .rc i ids b o, h => by
    simp only [mok] at h
    have g := og_show h.2.2.2.2.1
    have l := ids_show h.2.2.1 h.1
    have l2 := num_len (n := i) (by omega)
    have qb := tm_show _ b h.2.2.2.1
    have e1 : (reprText "rec").length = 5 := by decide +kernel
    have z := tupleText_len_le [reprText "rec", (toString i : Str), listText (PyData.shownAll (ids.map PyData.int)), PyData.shown (tmD b), PyData.shown (ogD o)]
    simp only [tmD, PyData.showable, PyData.showableAll, PyData.hasDict, PyData.hasDictAll, PyData.shown, PyData.shownAll, msz]
    simp only [List.map_cons, List.map_nil, List.sum_cons, List.sum_nil, List.length_cons, List.length_nil] at z
    refine ⟨by rw [decide_eq_true (num_log (n := i) (by omega)), l.1, qb.1, g.1]; rfl, by rw [l.2.1, qb.2.1, g.2.1]; rfl, by omega⟩
  | env, .lt i x b o, h => by
    simp only [mok] at h
    have g := og_show h.2.2.2
    have l2 := num_len (n := i) (by omega)
    have qx := tm_show _ x h.2.1
    have qb := tm_show _ b h.2.2.1
    have e1 : (reprText "let").length = 5 := by decide +kernel
    have z := tupleText_len_le [reprText "let", (toString i : Str), PyData.shown (tmD x), PyData.shown (tmD b), PyData.shown (ogD o)]
    simp only [tmD, PyData.showable, PyData.showableAll, PyData.hasDict, PyData.hasDictAll, PyData.shown, PyData.shownAll, msz]
    simp only [List.map_cons, List.map_nil, List.sum_cons, List.sum_nil, List.length_cons, List.length_nil] at z
    refine ⟨by rw [decide_eq_true (num_log (n := i) (by omega)), qx.1, qb.1, g.1]; rfl, by rw [qx.2.1, qb.2.1, g.2.1]; rfl, by omega⟩
  | env, .ite x y w o, h => by
    simp only [mok] at h
    have g := og_show h.2.2.2
    have qx := tm_show _ x h.1
    have qy := tm_show _ y h.2.1
    have qw := tm_show _ w h.2.2.1
    have e1 : (reprText "if").length = 4 := by decide +kernel
    have z := tupleText_len_le [reprText "if", PyData.shown (tmD x), PyData.shown (tmD y), PyData.shown (tmD w), PyData.shown (ogD o)]
    simp only [tmD, PyData.showable, PyData.showableAll, PyData.hasDict, PyData.hasDictAll, PyData.shown, PyData.shownAll, msz]
    simp only [List.map_cons, List.map_nil, List.sum_cons, List.sum_nil, List.length_cons, List.length_nil] at z
    refine ⟨by rw [qx.1, qy.1, qw.1, g.1]; rfl, by rw [qx.2.1, qy.2.1, qw.2.1, g.2.1]; rfl, by omega⟩
  | env, .app f xs o, h => by
    simp only [mok] at h
    have g := og_show h.2.2
    have qf := tm_show _ f h.1
    have qx := tms_show _ xs h.2.1
    have e1 : (reprText "app").length = 5 := by decide +kernel
    have z2 := listText_len_le (PyData.shownAll (tmDs xs))
    have z := tupleText_len_le [reprText "app", PyData.shown (tmD f), listText (PyData.shownAll (tmDs xs)), PyData.shown (ogD o)]
    simp only [tmD, PyData.showable, PyData.showableAll, PyData.hasDict, PyData.hasDictAll, PyData.shown, PyData.shownAll, msz]
    simp only [List.map_cons, List.map_nil, List.sum_cons, List.sum_nil, List.length_cons, List.length_nil] at z
    refine ⟨by rw [qf.1, qx.1, g.1]; rfl, by rw [qf.2.1, qx.2.1, g.2.1]; rfl, by omega⟩
  | env, .pair x y o, h => by simp only [mok] at h
theorem tms_show : ∀ (env : List Int) (ts : List Tm), moks env ts → PyData.showableAll (tmDs ts) = true ∧ PyData.hasDictAll (tmDs ts) = false ∧ ((PyData.shownAll (tmDs ts)).map (·.length)).sum + 2 * (PyData.shownAll (tmDs ts)).length ≤ 400 * mszs ts
  | _, [], _ => ⟨rfl, rfl, Nat.le_refl _⟩
  | env, t :: ts, h => by
    simp only [moks] at h
    have p := tm_show env t h.1
    have q := tms_show env ts h.2
    simp only [tmDs, PyData.showableAll, PyData.hasDictAll, PyData.shownAll, mszs, List.map_cons, List.sum_cons, List.length_cons]
    refine ⟨by rw [p.1, q.1]; rfl, by rw [p.2.1, q.2.1]; rfl, ?_⟩
    omega
end
end Sg

namespace Sg
open PySem PySem.Spec PyProof.Rows L2
variable [Now]
/-! ### terms as data, pairs too; how long they are shown -/
mutual
theorem tm_canW : ∀ (t : Tm), wok t → PyData.canLay0 (tmD t) = true
  | .int n o, _ => by
    simp only [tmD, PyData.canLay0, PyData.canLayAll0, og_can, Bool.and_true]
    decide +kernel
  | .prim s o, h => by
    simp only [wok] at h
    simp only [tmD, PyData.canLay0, PyData.canLayAll0, og_can, strOk_of h.2.1, Bool.and_true]
    decide +kernel
  | .ref i o, _ => by
    simp only [tmD, PyData.canLay0, PyData.canLayAll0, og_can, Bool.and_true]
    decide +kernel
  | .fn ids b o, h => by
    simp only [wok] at h
    simp only [tmD, PyData.canLay0, PyData.canLayAll0, og_can, ints_can, tm_canW b h.2.2.1, Bool.and_true]
    decide +kernel
  | .rc i ids b o, h => by
    simp only [wok] at h
    simp only [tmD, PyData.canLay0, PyData.canLayAll0, og_can, ints_can, tm_canW b h.2.2.2.1, Bool.and_true]
    decide +kernel
  | .lt i x b o, h => by
    simp only [wok] at h
    simp only [tmD, PyData.canLay0, PyData.canLayAll0, og_can, tm_canW x h.2.1, tm_canW b h.2.2.1, Bool.and_true]
    decide +kernel
  | .ite x y z o, h => by
    simp only [wok] at h
    simp only [tmD, PyData.canLay0, PyData.canLayAll0, og_can, tm_canW x h.1, tm_canW y h.2.1, tm_canW z h.2.2.1, Bool.and_true]
    decide +kernel
  | .app f xs o, h => by
    simp only [wok] at h
    simp only [tmD, PyData.canLay0, PyData.canLayAll0, og_can, tm_canW f h.1, tms_canW xs h.2.1, Bool.and_true]
    decide +kernel
  | .pair x y o, h => by
    simp only [wok] at h
    simp only [tmD, PyData.canLay0, PyData.canLayAll0, og_can, tm_canW x h.1, tm_canW y h.2.1, Bool.and_true]
    decide +kernel
theorem tms_canW : ∀ (ts : List Tm), woks ts → PyData.canLayAll0 (tmDs ts) = true
  | [], _ => rfl
  | t :: ts, h => by
    simp only [woks] at h
    simp only [tmDs, PyData.canLayAll0, tm_canW t h.1, tms_canW ts h.2]
    rfl
end
mutual
theorem tm_showW : ∀ (t : Tm), wok t → PyData.showable (tmD t) = true ∧ PyData.hasDict (tmD t) = false ∧ (PyData.shown (tmD t)).length + 2 ≤ 400 * msz t
  | .int n o, h => by
    simp only [wok] at h
    have g := og_show h.2
    have l := num_len h.1
    have e1 : (reprText "int").length = 5 := by decide +kernel
    have z := tupleText_len_le [reprText "int", (toString n : Str), PyData.shown (ogD o)]
    simp only [tmD, PyData.showable, PyData.showableAll, PyData.hasDict, PyData.hasDictAll, PyData.shown, PyData.shownAll, msz]
    simp only [List.map_cons, List.map_nil, List.sum_cons, List.sum_nil, List.length_cons, List.length_nil] at z
    refine ⟨by rw [decide_eq_true (num_log h.1), g.1]; rfl, by rw [g.2.1]; rfl, by omega⟩
  | .prim s o, h => by
    simp only [wok] at h
    have g := og_show h.2.2
    have l := StrLaws.reprText_len s (fun c hc => Nat.lt_trans (h.2.1 c hc) (by decide))
    have e1 : (reprText "prim").length = 6 := by decide +kernel
    have z := tupleText_len_le [reprText "prim", reprText s, PyData.shown (ogD o)]
    simp only [tmD, PyData.showable, PyData.showableAll, PyData.hasDict, PyData.hasDictAll, PyData.shown, PyData.shownAll, msz]
    simp only [List.map_cons, List.map_nil, List.sum_cons, List.sum_nil, List.length_cons, List.length_nil] at z
    refine ⟨by rw [g.1]; rfl, by rw [g.2.1]; rfl, by omega⟩
  | .ref i o, h => by
    simp only [wok] at h
    have g := og_show h.2
    have l := num_len (n := i) (by omega)
    have e1 : (reprText "ref").length = 5 := by decide +kernel
    have z := tupleText_len_le [reprText "ref", (toString i : Str), PyData.shown (ogD o)]
    simp only [tmD, PyData.showable, PyData.showableAll, PyData.hasDict, PyData.hasDictAll, PyData.shown, PyData.shownAll, msz]
    simp only [List.map_cons, List.map_nil, List.sum_cons, List.sum_nil, List.length_cons, List.length_nil] at z
    refine ⟨by rw [decide_eq_true (num_log (n := i) (by omega)), g.1]; rfl, by rw [g.2.1]; rfl, by omega⟩
  | .fn ids b o, h => by
    simp only [wok] at h
    have g := og_show h.2.2.2
    have l := ids_show h.2.1 h.1
    have qb := tm_showW b h.2.2.1
    have e1 : (reprText "fn").length = 4 := by decide +kernel
    have z := tupleText_len_le [reprText "fn", listText (PyData.shownAll (ids.map PyData.int)), PyData.shown (tmD b), PyData.shown (ogD o)]
    simp only [tmD, PyData.showable, PyData.showableAll, PyData.hasDict, PyData.hasDictAll, PyData.shown, PyData.shownAll, msz]
    simp only [List.map_cons, List.map_nil, List.sum_cons, List.sum_nil, List.length_cons, List.length_nil] at z
    refine ⟨by rw [l.1, qb.1, g.1]; rfl, by rw [l.2.1, qb.2.1, g.2.1]; rfl, by omega⟩
  | .rc i ids b o, h => by
    simp only [wok] at h
    have g := og_show h.2.2.2.2
    have l := ids_show h.2.2.1 h.1
    have l2 := num_len (n := i) (by omega)
    have qb := tm_showW b h.2.2.2.1
    have e1 : (reprText "rec").length = 5 := by decide +kernel
    have z := tupleText_len_le [reprText "rec", (toString i : Str), listText (PyData.shownAll (ids.map PyData.int)), PyData.shown (tmD b), PyData.shown (ogD o)]
    simp only [tmD, PyData.showable, PyData.showableAll, PyData.hasDict, PyData.hasDictAll, PyData.shown, PyData.shownAll, msz]
    simp only [List.map_cons, List.map_nil, List.sum_cons, List.sum_nil, List.length_cons, List.length_nil] at z
    refine ⟨by rw [decide_eq_true (num_log (n := i) (by omega)), l.1, qb.1, g.1]; rfl, by rw [l.2.1, qb.2.1, g.2.1]; rfl, by omega⟩
  | .lt i x b o, h => by
    simp only [wok] at h
    have g := og_show h.2.2.2
    have l2 := num_len (n := i) (by omega)
    have qx := tm_showW x h.2.1
    have qb := tm_showW b h.2.2.1
    have e1 : (reprText "let").length = 5 := by decide +kernel
    have z := tupleText_len_le [reprText "let", (toString i : Str), PyData.shown (tmD x), PyData.shown (tmD b), PyData.shown (ogD o)]
    simp only [tmD, PyData.showable, PyData.showableAll, PyData.hasDict, PyData.hasDictAll, PyData.shown, PyData.shownAll, msz]
    simp only [List.map_cons, List.map_nil, List.sum_cons, List.sum_nil, List.length_cons, List.length_nil] at z
    refine ⟨by rw [decide_eq_true (num_log (n := i) (by omega)), qx.1, qb.1, g.1]; rfl, by rw [qx.2.1, qb.2.1, g.2.1]; rfl, by omega⟩
  | .ite x y w o, h => by
    simp only [wok] at h
    have g := og_show h.2.2.2
    have qx := tm_showW x h.1
    have qy := tm_showW y h.2.1
    have qw := tm_showW w h.2.2.1
    have e1 : (reprText "if").length = 4 := by decide +kernel
    have z := tupleText_len_le [reprText "if", PyData.shown (tmD x), PyData.shown (tmD y), PyData.shown (tmD w), PyData.shown (ogD o)]
    simp only [tmD, PyData.showable, PyData.showableAll, PyData.hasDict, PyData.hasDictAll, PyData.shown, PyData.shownAll, msz]
    simp only [List.map_cons, List.map_nil, List.sum_cons, List.sum_nil, List.length_cons, List.length_nil] at z
    refine ⟨by rw [qx.1, qy.1, qw.1, g.1]; rfl, by rw [qx.2.1, qy.2.1, qw.2.1, g.2.1]; rfl, by omega⟩
  | .app f xs o, h => by
    simp only [wok] at h
    have g := og_show h.2.2
    have qf := tm_showW f h.1
    have qx := tms_showW xs h.2.1
    have e1 : (reprText "app").length = 5 := by decide +kernel
    have z2 := listText_len_le (PyData.shownAll (tmDs xs))
    have z := tupleText_len_le [reprText "app", PyData.shown (tmD f), listText (PyData.shownAll (tmDs xs)), PyData.shown (ogD o)]
    simp only [tmD, PyData.showable, PyData.showableAll, PyData.hasDict, PyData.hasDictAll, PyData.shown, PyData.shownAll, msz]
    simp only [List.map_cons, List.map_nil, List.sum_cons, List.sum_nil, List.length_cons, List.length_nil] at z
    refine ⟨by rw [qf.1, qx.1, g.1]; rfl, by rw [qf.2.1, qx.2.1, g.2.1]; rfl, by omega⟩
  | .pair x y o, h => by
    simp only [wok] at h
    have g := og_show h.2.2
    have qx := tm_showW x h.1
    have qy := tm_showW y h.2.1
    have e1 : (reprText "pair").length = 6 := by decide +kernel
    have z := tupleText_len_le [reprText "pair", PyData.shown (tmD x), PyData.shown (tmD y), PyData.shown (ogD o)]
    simp only [tmD, PyData.showable, PyData.showableAll, PyData.hasDict, PyData.hasDictAll, PyData.shown, PyData.shownAll, msz]
    simp only [List.map_cons, List.map_nil, List.sum_cons, List.sum_nil, List.length_cons, List.length_nil] at z
    refine ⟨by rw [qx.1, qy.1, g.1]; rfl, by rw [qx.2.1, qy.2.1, g.2.1]; rfl, by omega⟩
theorem tms_showW : ∀ (ts : List Tm), woks ts → PyData.showableAll (tmDs ts) = true ∧ PyData.hasDictAll (tmDs ts) = false ∧ ((PyData.shownAll (tmDs ts)).map (·.length)).sum + 2 * (PyData.shownAll (tmDs ts)).length ≤ 400 * mszs ts
  | [], _ => ⟨rfl, rfl, Nat.le_refl _⟩
  | t :: ts, h => by
    simp only [woks] at h
    have p := tm_showW t h.1
    have q := tms_showW ts h.2
    simp only [tmDs, PyData.showableAll, PyData.hasDictAll, PyData.shownAll, mszs, List.map_cons, List.sum_cons, List.length_cons]
    refine ⟨by rw [p.1, q.1]; rfl, by rw [p.2.1, q.2.1]; rfl, ?_⟩
    omega
end

theorem rm_wok {m : Int → Option Tm} (hm : ∀ i t, m i = some t → wok t) (ids : List Int) : ∀ i t, rmM m ids i = some t → wok t := fun i t h => by
  unfold rmM at h
  by_cases z : i ∈ ids
  · rw [if_pos z] at h
    cases h
  · rw [if_neg z] at h
    exact hm i t h
mutual
theorem sub_wok (m : Int → Option Tm) (hm : ∀ i t, m i = some t → wok t) : ∀ t : Tm, wok t → wok (sub m t)
  | .int n o, h => by simp only [sub]; exact h
  | .prim s o, h => by simp only [sub]; exact h
  | .ref i o, h => by
    simp only [sub]
    cases e : m i with
    | none => exact h
    | some t => exact hm i t e
  | .fn ids b o, h => by
    simp only [sub, wok] at h ⊢
    exact ⟨h.1, h.2.1, sub_wok _ (rm_wok hm ids) b h.2.2.1, h.2.2.2⟩
  | .rc i ids b o, h => by
    simp only [sub, wok] at h ⊢
    exact ⟨h.1, h.2.1, h.2.2.1, sub_wok _ (rm_wok hm (i :: ids)) b h.2.2.2.1, h.2.2.2.2⟩
  | .lt i x b o, h => by
    simp only [sub, wok] at h ⊢
    exact ⟨h.1, sub_wok m hm x h.2.1, sub_wok _ (rm_wok hm [i]) b h.2.2.1, h.2.2.2⟩
  | .ite x y z o, h => by
    simp only [sub, wok] at h ⊢
    exact ⟨sub_wok m hm x h.1, sub_wok m hm y h.2.1, sub_wok m hm z h.2.2.1, h.2.2.2⟩
  | .app f xs o, h => by
    simp only [sub, wok] at h ⊢
    exact ⟨sub_wok m hm f h.1, subs_wok m hm xs h.2.1, h.2.2⟩
  | .pair x y o, h => by
    simp only [sub, wok] at h ⊢
    exact ⟨sub_wok m hm x h.1, sub_wok m hm y h.2.1, h.2.2⟩
theorem subs_wok (m : Int → Option Tm) (hm : ∀ i t, m i = some t → wok t) : ∀ ts : List Tm, woks ts → woks (subs m ts)
  | [], h => by simp only [subs]; exact h
  | t :: ts, h => by
    simp only [subs, woks] at h ⊢
    exact ⟨sub_wok m hm t h.1, subs_wok m hm ts h.2⟩
end
theorem rm_all {Z : Tm → Prop} {m : Int → Option Tm} (hm : ∀ i t, m i = some t → Z t) (ids : List Int) : ∀ i t, rmM m ids i = some t → Z t := fun i t h => by
  unfold rmM at h
  by_cases z : i ∈ ids
  · rw [if_pos z] at h
    cases h
  · rw [if_neg z] at h
    exact hm i t h
mutual
theorem sub_msz (m : Int → Option Tm) {c : Nat} (hc : 1 ≤ c) (hm : ∀ i t, m i = some t → msz t ≤ c) : ∀ t : Tm, msz (sub m t) ≤ c * msz t
  | .int n o => by simp only [sub, msz]; omega
  | .prim s o => by simp only [sub, msz]; omega
  | .ref i o => by
    simp only [sub]
    cases e : m i with
    | none =>
      show msz (.ref i o) ≤ _
      simp only [msz]
      omega
    | some t =>
      have := hm i t e
      show msz t ≤ _
      simp only [msz]
      omega
  | .fn ids b o => by
    have := sub_msz _ hc (rm_all hm ids) b
    simp only [sub, msz, Nat.mul_add, Nat.mul_one]
    omega
  | .rc i ids b o => by
    have := sub_msz _ hc (rm_all hm (i :: ids)) b
    simp only [sub, msz, Nat.mul_add, Nat.mul_one]
    omega
  | .lt i x b o => by
    have h1 := sub_msz m hc hm x
    have h2 := sub_msz _ hc (rm_all hm [i]) b
    simp only [sub, msz, Nat.mul_add, Nat.mul_one]
    omega
  | .ite x y z o => by
    have h1 := sub_msz m hc hm x
    have h2 := sub_msz m hc hm y
    have h3 := sub_msz m hc hm z
    simp only [sub, msz, Nat.mul_add, Nat.mul_one]
    omega
  | .app f xs o => by
    have h1 := sub_msz m hc hm f
    have h2 := subs_msz m hc hm xs
    simp only [sub, msz, Nat.mul_add, Nat.mul_one]
    omega
  | .pair x y o => by
    have h1 := sub_msz m hc hm x
    have h2 := sub_msz m hc hm y
    simp only [sub, msz, Nat.mul_add, Nat.mul_one]
    omega
theorem subs_msz (m : Int → Option Tm) {c : Nat} (hc : 1 ≤ c) (hm : ∀ i t, m i = some t → msz t ≤ c) : ∀ ts : List Tm, mszs (subs m ts) ≤ c * mszs ts
  | [] => by simp only [subs, mszs]; omega
  | t :: ts => by
    have h1 := sub_msz m hc hm t
    have h2 := subs_msz m hc hm ts
    simp only [subs, mszs, Nat.mul_add]
    omega
end
mutual
theorem sub_mht (m : Int → Option Tm) {c : Nat} (hm : ∀ i t, m i = some t → mht t ≤ c) : ∀ t : Tm, mht (sub m t) ≤ mht t + c
  | .int n o => by simp only [sub, mht]; omega
  | .prim s o => by simp only [sub, mht]; omega
  | .ref i o => by
    simp only [sub]
    cases e : m i with
    | none =>
      show mht (.ref i o) ≤ _
      simp only [mht]
      omega
    | some t =>
      have := hm i t e
      show mht t ≤ _
      simp only [mht]
      omega
  | .fn ids b o => by
    have := sub_mht _ (rm_all hm ids) b
    simp only [sub, mht]
    omega
  | .rc i ids b o => by
    have := sub_mht _ (rm_all hm (i :: ids)) b
    simp only [sub, mht]
    omega
  | .lt i x b o => by
    have h1 := sub_mht m hm x
    have h2 := sub_mht _ (rm_all hm [i]) b
    simp only [sub, mht]
    omega
  | .ite x y z o => by
    have h1 := sub_mht m hm x
    have h2 := sub_mht m hm y
    have h3 := sub_mht m hm z
    simp only [sub, mht]
    omega
  | .app f xs o => by
    have h1 := sub_mht m hm f
    have h2 := subs_mht m hm xs
    simp only [sub, mht]
    omega
  | .pair x y o => by
    have h1 := sub_mht m hm x
    have h2 := sub_mht m hm y
    simp only [sub, mht]
    omega
theorem subs_mht (m : Int → Option Tm) {c : Nat} (hm : ∀ i t, m i = some t → mht t ≤ c) : ∀ ts : List Tm, mhts (subs m ts) ≤ mhts ts + c
  | [] => by simp only [subs, mhts]; omega
  | t :: ts => by
    have h1 := sub_mht m hm t
    have h2 := subs_mht m hm ts
    simp only [subs, mhts]
    omega
end
end Sg

namespace Sg
open PySem PySem.Spec PyProof.Rows L2
variable [Now]
/-! ### values, one step, sizes: on terms as data -/
def isV : Tm → Bool
  | .int _ _ => true
  | .prim _ _ => true
  | .fn _ _ _ => true
  | .rc _ _ _ _ => true
  | .pair x y _ => isV x && isV y
  | _ => false
/-- as the law looks: by the first word alone -/
def rdy : Tm → Bool
  | .int _ _ => true
  | .prim _ _ => true
  | .fn _ _ _ => true
  | .rc _ _ _ _ => true
  | .pair _ _ _ => true
  | _ => false
mutual
/-- pairs hold values, and lists are short -/
def gd : Tm → Prop
  | .int _ _ => True
  | .prim _ _ => True
  | .ref _ _ => True
  | .fn _ b _ => gd b
  | .rc _ _ b _ => gd b
  | .lt _ x b _ => gd x ∧ gd b
  | .ite x y z _ => gd x ∧ gd y ∧ gd z
  | .app f xs _ => gd f ∧ gds xs ∧ xs.length ≤ 3000
  | .pair x y _ => isV x = true ∧ isV y = true ∧ gd x ∧ gd y
def gds : List Tm → Prop
  | [] => True
  | t :: ts => gd t ∧ gds ts
end
theorem isV_rdy : ∀ {t : Tm}, gd t → isV t = rdy t := fun {t} h => by
  cases t <;> simp only [isV, rdy]
  simp only [gd] at h
  rw [h.1, h.2.1]
  rfl
theorem isV_sub (m : Int → Option Tm) : ∀ t : Tm, isV t = true → isV (sub m t) = true
  | .int n o, h => by simp only [sub]; exact h
  | .prim s o, h => by simp only [sub]; exact h
  | .fn ids b o, h => by simp only [sub, isV]
  | .rc i ids b o, h => by simp only [sub, isV]
  | .pair x y o, h => by
    simp only [isV, Bool.and_eq_true] at h
    simp only [sub, isV, isV_sub m x h.1, isV_sub m y h.2, Bool.and_self]
  | .ref i o, h => by simp [isV] at h
  | .lt i x b o, h => by simp [isV] at h
  | .ite x y z o, h => by simp [isV] at h
  | .app f xs o, h => by simp [isV] at h
mutual
theorem gd_sub (m : Int → Option Tm) (hm : ∀ i t, m i = some t → gd t) : ∀ t : Tm, gd t → gd (sub m t)
  | .int n o, h => by simp only [sub]; exact h
  | .prim s o, h => by simp only [sub]; exact h
  | .ref i o, h => by
    simp only [sub]
    cases e : m i with
    | none => exact h
    | some t => exact hm i t e
  | .fn ids b o, h => by
    simp only [sub, gd] at h ⊢
    exact gd_sub _ (rm_all hm ids) b h
  | .rc i ids b o, h => by
    simp only [sub, gd] at h ⊢
    exact gd_sub _ (rm_all hm (i :: ids)) b h
  | .lt i x b o, h => by
    simp only [sub, gd] at h ⊢
    exact ⟨gd_sub m hm x h.1, gd_sub _ (rm_all hm [i]) b h.2⟩
  | .ite x y z o, h => by
    simp only [sub, gd] at h ⊢
    exact ⟨gd_sub m hm x h.1, gd_sub m hm y h.2.1, gd_sub m hm z h.2.2⟩
  | .app f xs o, h => by
    simp only [sub, gd] at h ⊢
    exact ⟨gd_sub m hm f h.1, gds_sub m hm xs h.2.1, by rw [subs_length]; exact h.2.2⟩
  | .pair x y o, h => by
    simp only [sub, gd] at h ⊢
    exact ⟨isV_sub m x h.1, isV_sub m y h.2.1, gd_sub m hm x h.2.2.1, gd_sub m hm y h.2.2.2⟩
theorem gds_sub (m : Int → Option Tm) (hm : ∀ i t, m i = some t → gd t) : ∀ ts : List Tm, gds ts → gds (subs m ts)
  | [], h => by simp only [subs]; exact h
  | t :: ts, h => by
    simp only [subs, gds] at h ⊢
    exact ⟨gd_sub m hm t h.1, gds_sub m hm ts h.2⟩
end
theorem gds_get : ∀ {ts : List Tm} {i : Nat} {t : Tm}, gds ts → ts[i]? = some t → gd t
  | [], i, t, _, e => by simp at e
  | u :: ts, i, t, h, e => by
    simp only [gds] at h
    cases i with
    | zero =>
      cases e
      exact h.1
    | succ i => exact gds_get (i := i) h.2 e
/-! closed -/
mutual
theorem clo_mono : ∀ {e1 e2 : List Int} (t : Tm), (∀ i ∈ e1, i ∈ e2) → clo e1 t → clo e2 t
  | e1, e2, .int n o, h, g => by simp only [clo] at g ⊢
  | e1, e2, .prim s o, h, g => by simp only [clo] at g ⊢
  | e1, e2, .ref i o, h, g => by
    simp only [clo] at g ⊢
    exact h i g
  | e1, e2, .fn ids b o, h, g => by
    simp only [clo] at g ⊢
    exact clo_mono b (fun i hi => by
      rcases List.mem_append.mp hi with z | z
      · exact List.mem_append_left _ (h i z)
      · exact List.mem_append_right _ z) g
  | e1, e2, .rc j ids b o, h, g => by
    simp only [clo] at g ⊢
    exact clo_mono b (fun i hi => by
      rcases List.mem_append.mp hi with z | z
      · rcases List.mem_append.mp z with z | z
        · exact List.mem_append_left _ (List.mem_append_left _ (h i z))
        · exact List.mem_append_left _ (List.mem_append_right _ z)
      · exact List.mem_append_right _ z) g
  | e1, e2, .lt j x b o, h, g => by
    simp only [clo] at g ⊢
    exact ⟨clo_mono x h g.1, clo_mono b (fun i hi => by
      rcases List.mem_append.mp hi with z | z
      · exact List.mem_append_left _ (h i z)
      · exact List.mem_append_right _ z) g.2⟩
  | e1, e2, .ite x y z o, h, g => by
    simp only [clo] at g ⊢
    exact ⟨clo_mono x h g.1, clo_mono y h g.2.1, clo_mono z h g.2.2⟩
  | e1, e2, .app f xs o, h, g => by
    simp only [clo] at g ⊢
    exact ⟨clo_mono f h g.1, clos_mono xs h g.2⟩
  | e1, e2, .pair x y o, h, g => by
    simp only [clo] at g ⊢
    exact ⟨clo_mono x h g.1, clo_mono y h g.2⟩
theorem clos_mono : ∀ {e1 e2 : List Int} (ts : List Tm), (∀ i ∈ e1, i ∈ e2) → clos e1 ts → clos e2 ts
  | e1, e2, [], h, g => by simp only [clos]
  | e1, e2, t :: ts, h, g => by
    simp only [clos] at g ⊢
    exact ⟨clo_mono t h g.1, clos_mono ts h g.2⟩
end
theorem rm_env {m : Int → Option Tm} {e1 e2 : List Int} (h : ∀ i ∈ e1, m i = none → i ∈ e2) (ids : List Int) : ∀ i ∈ e1 ++ ids, rmM m ids i = none → i ∈ e2 ++ ids := fun i hi hn => by
  by_cases z : i ∈ ids
  · exact List.mem_append_right _ z
  · unfold rmM at hn
    rw [if_neg z] at hn
    rcases List.mem_append.mp hi with w | w
    · exact List.mem_append_left _ (h i w hn)
    · exact absurd w z
mutual
theorem clo_sub : ∀ {e1 e2 : List Int} {m : Int → Option Tm} (t : Tm), (∀ i ∈ e1, m i = none → i ∈ e2) → (∀ i s, m i = some s → clo [] s) → clo e1 t → clo e2 (sub m t)
  | e1, e2, m, .int n o, h, c, g => by simp only [sub, clo]
  | e1, e2, m, .prim s o, h, c, g => by simp only [sub, clo]
  | e1, e2, m, .ref i o, h, c, g => by
    simp only [clo] at g
    simp only [sub]
    cases e : m i with
    | none =>
      show clo e2 (.ref i o)
      simp only [clo]
      exact h i g e
    | some s => exact clo_mono s (fun i z => by cases z) (c i s e)
  | e1, e2, m, .fn ids b o, h, c, g => by
    simp only [sub, clo] at g ⊢
    exact clo_sub b (rm_env h ids) (rm_all c ids) g
  | e1, e2, m, .rc j ids b o, h, c, g => by
    simp only [sub, clo] at g ⊢
    rw [List.append_assoc] at g ⊢
    exact clo_sub b (rm_env h (j :: ids)) (rm_all c (j :: ids)) g
  | e1, e2, m, .lt j x b o, h, c, g => by
    simp only [sub, clo] at g ⊢
    exact ⟨clo_sub x h c g.1, clo_sub b (rm_env h [j]) (rm_all c [j]) g.2⟩
  | e1, e2, m, .ite x y z o, h, c, g => by
    simp only [sub, clo] at g ⊢
    exact ⟨clo_sub x h c g.1, clo_sub y h c g.2.1, clo_sub z h c g.2.2⟩
  | e1, e2, m, .app f xs o, h, c, g => by
    simp only [sub, clo] at g ⊢
    exact ⟨clo_sub f h c g.1, clos_sub xs h c g.2⟩
  | e1, e2, m, .pair x y o, h, c, g => by
    simp only [sub, clo] at g ⊢
    exact ⟨clo_sub x h c g.1, clo_sub y h c g.2⟩
theorem clos_sub : ∀ {e1 e2 : List Int} {m : Int → Option Tm} (ts : List Tm), (∀ i ∈ e1, m i = none → i ∈ e2) → (∀ i s, m i = some s → clo [] s) → clos e1 ts → clos e2 (subs m ts)
  | e1, e2, m, [], h, c, g => by simp only [subs, clos]
  | e1, e2, m, t :: ts, h, c, g => by
    simp only [subs, clos] at g ⊢
    exact ⟨clo_sub t h c g.1, clos_sub ts h c g.2⟩
end
/-! ### values for parameters -/
def bindM : (Int → Option Tm) → List Int → List Tm → Int → Option Tm
  | m, i :: is, x :: xs => bindM (upT m i x) is xs
  | m, _, _ => m
theorem bindM_all {Z : Tm → Prop} : ∀ {is : List Int} {xs : List Tm} {m : Int → Option Tm}, (∀ i t, m i = some t → Z t) → (∀ x ∈ xs, Z x) → ∀ i t, bindM m is xs i = some t → Z t
  | [], xs, m, h, g, i, t, e => by
    unfold bindM at e
    exact h i t e
  | j :: is, [], m, h, g, i, t, e => by
    unfold bindM at e
    exact h i t e
  | j :: is, x :: xs, m, h, g, i, t, e => by
    unfold bindM at e
    refine bindM_all (fun i2 t2 e2 => ?_) (fun y hy => g y (List.mem_cons_of_mem _ hy)) i t e
    unfold upT at e2
    by_cases z : i2 = j
    · rw [if_pos z] at e2
      cases e2
      exact g x List.mem_cons_self
    · rw [if_neg z] at e2
      exact h i2 t2 e2
theorem bindM_keep : ∀ {is : List Int} {xs : List Tm} {m : Int → Option Tm} {i : Int}, m i ≠ none → bindM m is xs i ≠ none
  | [], xs, m, i, h => by
    unfold bindM
    exact h
  | j :: is, [], m, i, h => by
    unfold bindM
    exact h
  | j :: is, x :: xs, m, i, h => by
    unfold bindM
    refine bindM_keep ?_
    unfold upT
    by_cases z : i = j
    · rw [if_pos z]
      simp
    · rw [if_neg z]
      exact h
theorem bindM_has : ∀ {is : List Int} {xs : List Tm} {m : Int → Option Tm} {i : Int}, is.length = xs.length → i ∈ is → bindM m is xs i ≠ none
  | [], xs, m, i, hl, h => by cases h
  | j :: is, [], m, i, hl, h => by simp at hl
  | j :: is, x :: xs, m, i, hl, h => by
    unfold bindM
    rcases List.mem_cons.mp h with z | z
    · refine bindM_keep ?_
      unfold upT
      rw [if_pos z]
      simp
    · exact bindM_has (by simpa using hl) z
/-! ### one step, as the law finds it -/
def nowO : Og := ⟨-1, [], -1⟩
def arith (s : Str) (a b : Int) : Option Int :=
  if s = "<" then some (if a < b then 1 else 0)
  else if s = "=" then some (if a = b then 1 else 0)
  else if s = "+" then (if (a + b).natAbs ≤ 999999999 then some (a + b) else none)
  else if s = "-" then (if (a - b).natAbs ≤ 999999999 then some (a - b) else none)
  else if s = "*" then (if (a * b).natAbs ≤ 999999999 then some (a * b) else none)
  else none
end Sg

namespace Sg
open PySem PySem.Spec PyProof.Rows L2
variable [Now]
def primR (s : Str) (xs : List Tm) : Option Tm :=
  if s = "pair" then (match xs with | [x, y] => some (.pair x y nowO) | _ => none)
  else if s = "head" then (match xs with | [.pair x _ _] => some x | _ => none)
  else if s = "tail" then (match xs with | [.pair _ y _] => some y | _ => none)
  else match xs with | [.int a _, .int b _] => (arith s a b).map fun n => .int n nowO | _ => none
def applyR (f : Tm) (xs : List Tm) : Option Tm := match f with
  | .prim s _ => primR s xs
  | .fn ids b _ => if ids.length = xs.length then some (sub (bindM (fun _ => none) ids xs) b) else none
  | .rc i ids b _ => if ids.length = xs.length then some (sub (bindM (upT (fun _ => none) i f) ids xs) b) else none
  | _ => none
def isZ : Tm → Bool
  | .int n _ => decide (n = 0)
  | _ => false
mutual
def nxt : Tm → Option Tm
  | .lt i x b o => if rdy x = true then some (sub (upT (fun _ => none) i x) b) else (nxt x).map fun r => .lt i r b o
  | .ite x y z o => if rdy x = true then some (if isZ x = true then z else y) else (nxt x).map fun r => .ite r y z o
  | .app f xs o => if rdy f = true then (match nxts xs with | none => applyR f xs | some r => r.map fun l => .app f l o) else (nxt f).map fun r => .app r xs o
  | _ => none
def nxts : List Tm → Option (Option (List Tm))
  | [] => none
  | t :: ts => if rdy t = true then (match nxts ts with | none => none | some r => some (r.map fun l => t :: l)) else some ((nxt t).map fun r => r :: ts)
end
def mvf : Tm → List Tm
  | .app f xs _ => f :: xs
  | .lt _ x _ _ => [x]
  | .ite x _ _ _ => [x]
  | _ => []
def byR : Tm → Option Tm
  | .lt i x b _ => some (sub (upT (fun _ => none) i x) b)
  | .ite x y z _ => some (if isZ x = true then z else y)
  | .app f xs _ => applyR f xs
  | _ => none
theorem nxts_none : ∀ {ts : List Tm}, (∀ t ∈ ts, rdy t = true) → nxts ts = none
  | [], _ => by simp only [nxts]
  | t :: ts, h => by
    simp only [nxts]
    rw [if_pos (h t List.mem_cons_self), nxts_none fun x hx => h x (List.mem_cons_of_mem _ hx)]
theorem nxts_all : ∀ {ts : List Tm}, nxts ts = none → ∀ t ∈ ts, rdy t = true
  | [], _, t, h => by cases h
  | u :: ts, e, t, h => by
    simp only [nxts] at e
    by_cases z : rdy u = true
    · rw [if_pos z] at e
      cases q : nxts ts with
      | none =>
        rcases List.mem_cons.mp h with w | w
        · rw [w]
          exact z
        · exact nxts_all q t w
      | some r =>
        rw [q] at e
        cases e
    · rw [if_neg z] at e
      cases e
theorem nxts_some : ∀ {ts : List Tm} {k : Nat} {c : Tm}, (∀ j t, j < k → ts[j]? = some t → rdy t = true) → ts[k]? = some c → rdy c = false → nxts ts = some ((nxt c).map fun r => ts.set k r)
  | [], k, c, _, e, _ => by simp at e
  | t :: ts, 0, c, _, e, hc => by
    cases e
    simp only [nxts]
    rw [if_neg (by rw [hc]; decide)]
    rfl
  | t :: ts, k + 1, c, h, e, hc => by
    simp only [nxts]
    rw [if_pos (h 0 t (Nat.succ_pos _) rfl), nxts_some (ts := ts) (k := k) (fun j u hj hu => h (j + 1) u (Nat.succ_lt_succ hj) hu) e hc]
    cases nxt c <;> rfl
theorem nxt_step {t c : Tm} {k : Nat} (h : ∀ j u, j < k → (mvf t)[j]? = some u → rdy u = true) (e : (mvf t)[k]? = some c) (hc : rdy c = false) : nxt t = (nxt c).map fun r => rebT t ((kids t).set k r) := by
  have hcn : ¬ rdy c = true := by rw [hc]; decide
  cases t <;> simp only [mvf] at e h
  case lt i x b o =>
    cases k with
    | zero =>
      cases e
      simp only [nxt]
      rw [if_neg hcn]
      rfl
    | succ k => simp at e
  case ite x y z o =>
    cases k with
    | zero =>
      cases e
      simp only [nxt]
      rw [if_neg hcn]
      rfl
    | succ k => simp at e
  case app f xs o =>
    cases k with
    | zero =>
      cases e
      simp only [nxt]
      rw [if_neg hcn]
      rfl
    | succ k =>
      simp only [nxt]
      rw [if_pos (h 0 f (Nat.succ_pos _) rfl), nxts_some (ts := xs) (k := k) (fun j u hj hu => h (j + 1) u (Nat.succ_lt_succ hj) hu) e hc]
      cases nxt c <;> rfl
  all_goals simp at e
theorem nxt_rule {t : Tm} (h : ∀ u ∈ mvf t, rdy u = true) : nxt t = byR t := by
  cases t <;> simp only [nxt, byR]
  case lt i x b o => rw [if_pos (h x (by simp [mvf]))]
  case ite x y z o => rw [if_pos (h x (by simp [mvf]))]
  case app f xs o =>
    rw [if_pos (h f (by simp [mvf])), nxts_none fun u hu => h u (by simp [mvf, hu])]
/-! what a step keeps -/
structure All3 (t : Tm) : Prop where
  wk : wok t
  g : gd t
  c : clo [] t
structure Alls (ts : List Tm) : Prop where
  wk : woks ts
  g : gds ts
  c : clos [] ts
theorem Alls.get {ts : List Tm} (h : Alls ts) {t : Tm} (m : t ∈ ts) : All3 t := by
  obtain ⟨i, e⟩ := List.getElem?_of_mem m
  exact ⟨woks_get h.wk e, gds_get h.g e, clos_get h.c e⟩
theorem all3_app {f : Tm} {xs : List Tm} {o : Og} : All3 (.app f xs o) ↔ All3 f ∧ Alls xs ∧ xs.length ≤ 3000 ∧ OgOk o := by
  refine ⟨fun ⟨a, b, c⟩ => ?_, fun ⟨⟨a, b, c⟩, ⟨d, e, g⟩, l, ho⟩ => ?_⟩
  · simp only [wok, gd, clo] at a b c
    exact ⟨⟨a.1, b.1, c.1⟩, ⟨a.2.1, b.2.1, c.2⟩, b.2.2, a.2.2⟩
  · refine ⟨?_, ?_, ?_⟩ <;> simp only [wok, gd, clo]
    · exact ⟨a, d, ho⟩
    · exact ⟨b, e, l⟩
    · exact ⟨c, g⟩
theorem all3_pair {x y : Tm} {o : Og} : All3 (.pair x y o) ↔ All3 x ∧ All3 y ∧ isV x = true ∧ isV y = true ∧ OgOk o := by
  refine ⟨fun ⟨a, b, c⟩ => ?_, fun ⟨⟨a, b, c⟩, ⟨d, e, g⟩, l, l2, ho⟩ => ?_⟩
  · simp only [wok, gd, clo] at a b c
    exact ⟨⟨a.1, b.2.2.1, c.1⟩, ⟨a.2.1, b.2.2.2, c.2⟩, b.1, b.2.1, a.2.2⟩
  · refine ⟨?_, ?_, ?_⟩ <;> simp only [wok, gd, clo]
    · exact ⟨a, d, ho⟩
    · exact ⟨l, l2, b, e⟩
    · exact ⟨c, g⟩
theorem all3_ite {x y z : Tm} {o : Og} : All3 (.ite x y z o) ↔ All3 x ∧ All3 y ∧ All3 z ∧ OgOk o := by
  refine ⟨fun ⟨a, b, c⟩ => ?_, fun ⟨⟨a, b, c⟩, ⟨d, e, g⟩, ⟨d2, e2, g2⟩, ho⟩ => ?_⟩
  · simp only [wok, gd, clo] at a b c
    exact ⟨⟨a.1, b.1, c.1⟩, ⟨a.2.1, b.2.1, c.2.1⟩, ⟨a.2.2.1, b.2.2, c.2.2⟩, a.2.2.2⟩
  · refine ⟨?_, ?_, ?_⟩ <;> simp only [wok, gd, clo]
    · exact ⟨a, d, d2, ho⟩
    · exact ⟨b, e, e2⟩
    · exact ⟨c, g, g2⟩
theorem now_ok : OgOk nowO := by
  unfold nowO OgOk
  exact ⟨by decide, by decide, by simp, by decide⟩
theorem arith_small {s : Str} {a b n : Int} (h : arith s a b = some n) : n.natAbs ≤ 999999999 := by
  unfold arith at h
  split at h
  · cases h
    split <;> decide
  · split at h
    · cases h
      split <;> decide
    · split at h
      · split at h
        · cases h
          assumption
        · cases h
      · split at h
        · split at h
          · cases h
            assumption
          · cases h
        · split at h
          · split at h
            · cases h
              assumption
            · cases h
          · cases h
theorem primR_ok {s : Str} {xs : List Tm} {u : Tm} (h : primR s xs = some u) (ha : ∀ x ∈ xs, All3 x ∧ isV x = true) : All3 u := by
  unfold primR at h
  split at h
  · split at h
    · rename_i x y
      cases h
      have h1 := ha x (by simp)
      have h2 := ha y (by simp)
      exact all3_pair.mpr ⟨h1.1, h2.1, h1.2, h2.2, now_ok⟩
    · cases h
  · split at h
    · split at h
      · rename_i x y o
        cases h
        exact (all3_pair.mp (ha (.pair u y o) (by simp)).1).1
      · cases h
    · split at h
      · split at h
        · rename_i x y o
          cases h
          exact (all3_pair.mp (ha (.pair x u o) (by simp)).1).2.1
        · cases h
      · split at h
        · rename_i a oa b ob
          cases e : arith s a b with
          | none =>
            rw [e] at h
            cases h
          | some n =>
            rw [e] at h
            cases h
            refine ⟨?_, ?_, ?_⟩ <;> simp only [wok, gd, clo]
            exact ⟨arith_small e, now_ok⟩
        · cases h
theorem sub_all3 {m : Int → Option Tm} {b : Tm} {ids : List Int} (wk : wok b) (g : gd b) (c : clo ids b) (hm : ∀ i s, m i = some s → All3 s) (hi : ∀ i ∈ ids, m i ≠ none) : All3 (sub m b) :=
  ⟨sub_wok m (fun i s e => (hm i s e).wk) b wk, gd_sub m (fun i s e => (hm i s e).g) b g, clo_sub b (fun i hi2 e => absurd e (hi i hi2)) (fun i s e => (hm i s e).c) c⟩
theorem applyR_ok {f u : Tm} {xs : List Tm} (h : applyR f xs = some u) (hf : All3 f) (ha : ∀ x ∈ xs, All3 x ∧ isV x = true) : All3 u := by
  unfold applyR at h
  split at h
  · exact primR_ok h ha
  · rename_i ids b o
    split at h
    · rename_i hl
      cases h
      obtain ⟨a, g, c⟩ := hf
      simp only [wok, gd, clo] at a g c
      exact sub_all3 (ids := ids) a.2.2.1 g (by simpa using c) (bindM_all (Z := All3) (fun i s e => by cases e) fun x hx => (ha x hx).1) fun i hi => bindM_has hl hi
    · cases h
  · rename_i j ids b o
    split at h
    · rename_i hl
      cases h
      have hf' := hf
      obtain ⟨a, g, c⟩ := hf
      simp only [wok, gd, clo] at a g c
      refine sub_all3 (ids := j :: ids) a.2.2.2.1 g (by simpa using c) (bindM_all (Z := All3) (fun i s e => ?_) fun x hx => (ha x hx).1) fun i hi => ?_
      · unfold upT at e
        by_cases z : i = j
        · rw [if_pos z] at e
          cases e
          exact hf'
        · rw [if_neg z] at e
          cases e
      · rcases List.mem_cons.mp hi with z | z
        · refine bindM_keep ?_
          unfold upT
          rw [if_pos z]
          simp
        · exact bindM_has hl z
    · cases h
  · cases h
mutual
theorem nxt_ok : ∀ (t u : Tm), nxt t = some u → All3 t → All3 u
  | .lt i x b o, u, h, ⟨a, g, c⟩ => by
    simp only [wok, gd, clo] at a g c
    simp only [nxt] at h
    by_cases z : rdy x = true
    · rw [if_pos z] at h
      cases h
      refine sub_all3 (ids := [i]) a.2.2.1 g.2 (by simpa using c.2) (fun j s e => ?_) fun j hj => ?_
      · unfold upT at e
        by_cases w : j = i
        · rw [if_pos w] at e
          cases e
          exact ⟨a.2.1, g.1, c.1⟩
        · rw [if_neg w] at e
          cases e
      · unfold upT
        rw [if_pos (List.mem_singleton.mp hj)]
        simp
    · rw [if_neg z] at h
      cases e : nxt x with
      | none =>
        rw [e] at h
        cases h
      | some r =>
        rw [e] at h
        cases h
        have q := nxt_ok x r e ⟨a.2.1, g.1, c.1⟩
        refine ⟨?_, ?_, ?_⟩ <;> simp only [wok, gd, clo]
        · exact ⟨a.1, q.wk, a.2.2⟩
        · exact ⟨q.g, g.2⟩
        · exact ⟨q.c, c.2⟩
  | .ite x y z o, u, h, k => by
    have k2 := all3_ite.mp k
    simp only [nxt] at h
    by_cases w : rdy x = true
    · rw [if_pos w] at h
      cases h
      split
      · exact k2.2.2.1
      · exact k2.2.1
    · rw [if_neg w] at h
      cases e : nxt x with
      | none =>
        rw [e] at h
        cases h
      | some r =>
        rw [e] at h
        cases h
        exact all3_ite.mpr ⟨nxt_ok x r e k2.1, k2.2⟩
  | .app f xs o, u, h, k => by
    have k2 := all3_app.mp k
    simp only [nxt] at h
    by_cases w : rdy f = true
    · rw [if_pos w] at h
      cases e : nxts xs with
      | none =>
        rw [e] at h
        exact applyR_ok h k2.1 fun x hx => ⟨k2.2.1.get hx, by rw [isV_rdy (k2.2.1.get hx).g]; exact nxts_all e x hx⟩
      | some r =>
        rw [e] at h
        cases r with
        | none => cases h
        | some l =>
          cases h
          have q := nxts_ok xs l e k2.2.1
          exact all3_app.mpr ⟨k2.1, q.1, by rw [q.2]; exact k2.2.2.1, k2.2.2.2⟩
    · rw [if_neg w] at h
      cases e : nxt f with
      | none =>
        rw [e] at h
        cases h
      | some r =>
        rw [e] at h
        cases h
        exact all3_app.mpr ⟨nxt_ok f r e k2.1, k2.2⟩
  | .int n o, u, h, _ => by simp [nxt] at h
  | .prim s o, u, h, _ => by simp [nxt] at h
  | .ref i o, u, h, _ => by simp [nxt] at h
  | .fn ids b o, u, h, _ => by simp [nxt] at h
  | .rc i ids b o, u, h, _ => by simp [nxt] at h
  | .pair x y o, u, h, _ => by simp [nxt] at h
theorem nxts_ok : ∀ (ts l : List Tm), nxts ts = some (some l) → Alls ts → Alls l ∧ l.length = ts.length
  | [], l, h, _ => by simp [nxts] at h
  | t :: ts, l, h, ⟨a, g, c⟩ => by
    simp only [woks, gds, clos] at a g c
    simp only [nxts] at h
    by_cases z : rdy t = true
    · rw [if_pos z] at h
      cases e : nxts ts with
      | none =>
        rw [e] at h
        cases h
      | some r =>
        rw [e] at h
        cases r with
        | none => cases h
        | some l2 =>
          cases h
          have q := nxts_ok ts l2 e ⟨a.2, g.2, c.2⟩
          refine ⟨⟨?_, ?_, ?_⟩, by rw [List.length_cons, List.length_cons, q.2]⟩ <;> simp only [woks, gds, clos]
          · exact ⟨a.1, q.1.wk⟩
          · exact ⟨g.1, q.1.g⟩
          · exact ⟨c.1, q.1.c⟩
    · rw [if_neg z] at h
      cases e : nxt t with
      | none =>
        rw [e] at h
        cases h
      | some r =>
        rw [e] at h
        cases h
        have q := nxt_ok t r e ⟨a.1, g.1, c.1⟩
        refine ⟨⟨?_, ?_, ?_⟩, rfl⟩ <;> simp only [woks, gds, clos]
        · exact ⟨q.wk, a.2⟩
        · exact ⟨q.g, g.2⟩
        · exact ⟨q.c, c.2⟩
end
/-! sizes -/
def big (t : Tm) : Prop := 3000 < msz t ∨ 100 < mht t
instance (t : Tm) : Decidable (big t) := by
  unfold big
  exact inferInstance
end Sg

namespace Sg
open PySem PySem.Spec PyProof.Rows L2 Evl
open C8 (Cal pe_c)
variable [Now]
/-! ### check_size, is_value -/
theorem gd_kids : ∀ {t : Tm}, gd t → gds (kids t) ∧ (kids t).length ≤ 3001 := fun {t} h => by
  cases t <;> simp only [gd] at h <;> simp only [kids, gds, List.length_cons, List.length_nil]
  all_goals first
    | exact ⟨trivial, by decide⟩
    | exact ⟨⟨h, trivial⟩, by decide⟩
    | exact ⟨⟨h.1, h.2, trivial⟩, by decide⟩
    | exact ⟨⟨h.1, h.2.1, h.2.2, trivial⟩, by decide⟩
    | exact ⟨⟨h.2.2.1, h.2.2.2, trivial⟩, by decide⟩
    | exact ⟨⟨h.1, h.2.1⟩, by omega⟩
theorem mht_kids : ∀ t : Tm, mht t = if kids t = [] then 0 else 1 + mhts (kids t) := fun t => by
  cases t <;> simp [mht, kids, mhts]
/-- a stack of terms and depths: is there one too deep, are there too many -/
structure Tk where
  t : Tm
  d : Nat
def tkAt (F : Hp) (j : Tk) (x : V) : Prop := ∃ a v, x = .ref a ∧ F a = some (.tup [v, .int (j.d : Nat)]) ∧ TmAt F j.t v
theorem tkAt.same {F F' : Hp} {j : Tk} {x : V} (e : Same F F') (h : tkAt F j x) : tkAt F' j x := by
  obtain ⟨a, v, h1, h2, h3⟩ := h
  exact ⟨a, v, h1, e _ _ h2, TmAt.same e _ _ h3⟩
/-- item by item -/
def Alls2 {α : Type} (R : α → V → Prop) : List α → List V → Prop
  | [], ys => ys = []
  | x :: xs, ys => ∃ y r, ys = y :: r ∧ R x y ∧ Alls2 R xs r
theorem Alls2.len {α : Type} {R : α → V → Prop} : ∀ {xs : List α} {ys : List V}, Alls2 R xs ys → ys.length = xs.length
  | [], ys, h => by
    unfold Alls2 at h
    rw [h]
    rfl
  | x :: xs, ys, h => by
    unfold Alls2 at h
    obtain ⟨y, r, rfl, _, h2⟩ := h
    rw [List.length_cons, List.length_cons, h2.len]
theorem Alls2.mono {α : Type} {R S : α → V → Prop} (f : ∀ x y, R x y → S x y) : ∀ {xs : List α} {ys : List V}, Alls2 R xs ys → Alls2 S xs ys
  | [], ys, h => by
    unfold Alls2 at h ⊢
    exact h
  | x :: xs, ys, h => by
    unfold Alls2 at h ⊢
    obtain ⟨y, r, h1, h2, h3⟩ := h
    exact ⟨y, r, h1, f _ _ h2, h3.mono f⟩
theorem Alls2.app {α : Type} {R : α → V → Prop} {us : List α} {ws : List V} (g : Alls2 R us ws) : ∀ {xs : List α} {ys : List V}, Alls2 R xs ys → Alls2 R (xs ++ us) (ys ++ ws)
  | [], ys, h => by
    unfold Alls2 at h
    rw [h]
    exact g
  | x :: xs, ys, h => by
    unfold Alls2 at h
    obtain ⟨y, r, rfl, h2, h3⟩ := h
    show Alls2 R (x :: (xs ++ us)) (y :: (r ++ ws))
    unfold Alls2
    exact ⟨y, r ++ ws, rfl, h2, Alls2.app g h3⟩
theorem Alls2.of {α : Type} {R : α → V → Prop} : ∀ {xs : List α} {ys : List V}, ys.length = xs.length → (∀ (i : Nat) (x : α) (y : V), xs[i]? = some x → ys[i]? = some y → R x y) → Alls2 R xs ys
  | [], ys, hl, _ => by
    unfold Alls2
    exact List.length_eq_zero_iff.mp hl
  | x :: xs, [], hl, _ => by simp at hl
  | x :: xs, y :: ys, hl, h => by
    unfold Alls2
    exact ⟨y, ys, rfl, h 0 x y rfl rfl, Alls2.of (by simpa using hl) fun i a b h1 h2 => h (i + 1) a b h1 h2⟩
theorem Alls2.snoc {α : Type} {R : α → V → Prop} {xs : List α} {x : α} {ys : List V} (h : Alls2 R (xs ++ [x]) ys) : ∃ r y, ys = r ++ [y] ∧ Alls2 R xs r ∧ R x y := by
  induction xs generalizing ys with
  | nil =>
    have h' : Alls2 R [x] ys := h
    unfold Alls2 at h'
    obtain ⟨y, r, rfl, h2, h3⟩ := h'
    unfold Alls2 at h3
    rw [h3]
    exact ⟨[], y, rfl, by unfold Alls2; rfl, h2⟩
  | cons z zs ih =>
    have h' : Alls2 R (z :: (zs ++ [x])) ys := h
    unfold Alls2 at h'
    obtain ⟨y, r, rfl, h2, h3⟩ := h'
    obtain ⟨r', y', rfl, h4, h5⟩ := ih h3
    exact ⟨y :: r', y', rfl, by unfold Alls2; exact ⟨y, r', rfl, h2, h4⟩, h5⟩
theorem Alls2.nil {α : Type} {R : α → V → Prop} : Alls2 R [] [] := by
  unfold Alls2
  rfl
theorem Alls2.one {α : Type} {R : α → V → Prop} {x : α} {y : V} (h : R x y) : Alls2 R [x] [y] := by
  unfold Alls2
  exact ⟨y, [], rfl, h, .nil⟩
theorem TmsAt.alls {F : Hp} : ∀ {ts : List Tm} {vs : List V}, TmsAt F ts vs → Alls2 (TmAt F) ts vs
  | [], vs, h => by
    unfold TmsAt at h
    unfold Alls2
    exact h
  | t :: ts, vs, h => by
    unfold TmsAt at h
    obtain ⟨v, r, h1, h2, h3⟩ := h
    unfold Alls2
    exact ⟨v, r, h1, h2, h3.alls⟩
def tks : List Tk → Nat
  | [] => 0
  | j :: js => msz j.t + tks js
theorem tks_app : ∀ a b : List Tk, tks (a ++ b) = tks a + tks b
  | [], b => by
    show tks b = 0 + tks b
    omega
  | j :: a, b => by
    show msz j.t + tks (a ++ b) = msz j.t + tks a + tks b
    rw [tks_app a b]
    omega
theorem tks_kids (d : Nat) : ∀ ts : List Tm, tks (ts.map fun u => ⟨u, d⟩) = mszs ts
  | [] => rfl
  | t :: ts => by
    show msz t + tks (ts.map fun u => ⟨u, d⟩) = _
    rw [tks_kids d ts]
    simp only [mszs]
def deepT (js : List Tk) : Prop := ∃ j ∈ js, 100 < j.d + mht j.t
theorem mhts_le : ∀ {ts : List Tm} {t : Tm}, t ∈ ts → mht t ≤ mhts ts
  | [], t, h => by cases h
  | u :: ts, t, h => by
    simp only [mhts]
    rcases List.mem_cons.mp h with z | z
    · rw [z]
      omega
    · have := mhts_le z
      omega
theorem mhts_ex : ∀ {ts : List Tm} {n : Nat}, n < mhts ts → ∃ t ∈ ts, n < mht t
  | [], n, h => by
    simp only [mhts] at h
    omega
  | u :: ts, n, h => by
    simp only [mhts] at h
    by_cases z : n < mht u
    · exact ⟨u, List.mem_cons_self, z⟩
    · obtain ⟨t, h1, h2⟩ := mhts_ex (ts := ts) (n := n) (by omega)
      exact ⟨t, List.mem_cons_of_mem _ h1, h2⟩
/-- the last one taken off, its parts put on -/
theorem deep_step {js : List Tk} {j : Tk} (h : j.d ≤ 100) : deepT (js ++ [j]) ↔ deepT (js ++ (kids j.t).map fun u => ⟨u, j.d + 1⟩) := by
  have mk := mht_kids j.t
  refine ⟨fun ⟨i, hi, hd⟩ => ?_, fun ⟨i, hi, hd⟩ => ?_⟩
  · rcases List.mem_append.mp hi with z | z
    · exact ⟨i, List.mem_append_left _ z, hd⟩
    · rw [List.mem_singleton.mp z, mk] at hd
      by_cases k : kids j.t = []
      · rw [if_pos k] at hd
        omega
      · rw [if_neg k] at hd
        obtain ⟨u, hu, h2⟩ : ∃ u ∈ kids j.t, 99 - j.d < mht u + (j.d - 99) := by
          by_cases z100 : j.d = 100
          · obtain ⟨u, us, e⟩ := List.exists_cons_of_ne_nil k
            exact ⟨u, by rw [e]; exact List.mem_cons_self, by omega⟩
          · obtain ⟨u, hu, h2⟩ := mhts_ex (ts := kids j.t) (n := 99 - j.d) (by omega)
            exact ⟨u, hu, by omega⟩
        exact ⟨⟨u, j.d + 1⟩, List.mem_append_right _ (List.mem_map.mpr ⟨u, hu, rfl⟩), by show 100 < j.d + 1 + mht u; omega⟩
  · rcases List.mem_append.mp hi with z | z
    · exact ⟨i, List.mem_append_left _ z, hd⟩
    · obtain ⟨u, hu, e⟩ := List.mem_map.mp z
      have := mhts_le hu
      refine ⟨j, List.mem_append_right _ List.mem_cons_self, ?_⟩
      rw [mk, if_neg (fun w => by rw [w] at hu; cases hu)]
      rw [← e] at hd
      have hd' : 100 < j.d + 1 + mht u := hd
      omega
theorem fwl_kids {te : TE} {σ : L2.St} {G : Hp} {t : Tm} {v : V} {E : XK} (h : Ev te σ G v) (ta : TmAt G t v) (hk : (kids t).length ≤ 9000) : FwL (tCall spKids [] E (tCons te tNil)) σ G fun xs H => TmsAt H (kids t) xs :=
  fwl_call (fwa_ev (ea_cons h ea_nil)) fun vs H G' sFG sGH b Q q => by
    have e := b.now
    subst e
    exact ⟨G', t, v, rfl, sGH, TmAt.same sFG _ _ ta, hk, fun H' p xs s n e tx => q p xs H' n s e fun H2 e2 => TmsAt.same ((wo_ov n sGH).trans e2) _ _ tx⟩
def spSize (CL : Addr) : Sp := fun vs H Q E => ∃ (F : Hp) (t : Tm) (v : V), vs = [v] ∧ Same F H ∧ TmAt F t v ∧ gd t ∧ (¬ big t → ∀ H', Same H H' → Q .non H') ∧ (big t → ∀ H', Same H H' → E (.ref CL) none H')
theorem scSize : FnScope ["term", "count", "tasks", "part", "depth", "inner"] ["term"] (defScope cCheckSize) := ⟨rfl, rfl, rfl, by decide +kernel, rfl, by decide +kernel, by decide +kernel⟩
def spIsV : Sp := fun vs H Q _ => ∃ (F : Hp) (t : Tm) (v : V), vs = [v] ∧ Same F H ∧ TmAt F t v ∧ gd t ∧ msz t ≤ 8000 ∧ ∀ H', Same H H' → Q (.bl (isV t)) H'
theorem scIsV : FnScope ["term", "waiting", "part"] ["term"] (defScope cIsValue) := ⟨rfl, rfl, rfl, by decide +kernel, rfl, by decide +kernel, by decide +kernel⟩
section
variable {P : Program} {w : World} {K : PySem.W.Frag} {mg : Str → Option Value} {base : Heap}
theorem ok_size {f CL : Addr} {fd : FuncData} {k : Nat} {tD tM : Tok} (F : Fun K "check_size" "check_size" cCheckSize f fd) (XL : ExC K mg CL "LimitError") (CI : Cal P w K mg base k "inner_terms" spKids [])
    (gD : True ∧ mg "DEEPEST_PART" = some (.int 100 tD)) (gM : True ∧ mg "MOST_PARTS" = some (.int 3000 tM)) : FnOk P w K mg base (L2.CX P w) (k + 1) f fd ["term"] (spSize CL) := by
  refine F.okX scSize (fun vs H Q E h => ?_) (fun cdv A outer st H vs Q E hr h => ?_)
  · obtain ⟨F, t, v, rfl, _⟩ := h
    rfl
  obtain ⟨Fh, t, v, rfl, sF, ta, hg, qN, qE⟩ := h
  refine ⟨_, (pss_cons (ps_set (i := 1) scSize.nd rfl (.inl rfl) pe_int)
    (pss_cons (ps_set (i := 2) scSize.nd rfl (.inl rfl) (pe_lst (pa_cons (pe_tup (pa_cons (pv 0) (pa_cons pe_int pa_nil))) pa_nil)))
    (pss_one (ps_while (passes_of rfl) (pt_truth (pv 2) (fun _ => by rfl)) (pss_cons (ps_asg (pe_bm0 PySem.F.plainAttrs_list PySem.F.slot_list_pop PySem.F.type_list_pop mt_pop (pv 2)) (pg_tup rfl (pgs_cons (pg_name (i := 3) scSize.nd rfl (.inl rfl)) (pgs_cons (pg_name (i := 4) scSize.nd rfl (.inr rfl)) pgs_nil))))
    (pss_cons (ps_aug (i := 1) scSize.nd rfl (.inl rfl) pe_int ip_add)
    (pss_cons (ps_if (PW.pt (pw_or (pt_cmpR op_gt (pv 4) (pe_glob (v := .int 100) (by rfl) gD.2 ⟨_, rfl⟩) (nomark _)) (pw_or1 (pt_cmpR op_gt (pv 1) (pe_glob (v := .int 3000) (by rfl) gM.2 ⟨_, rfl⟩) (nomark _))))) (pss_one (ps_raise rfl (takes_of rfl rfl rfl rfl) (pmk_own PySem.F.excBase_ValueError XL.x XL.g XL.k (raises_own XL.b XL.t) (by rfl)))) pss_nil)
    (pss_one (ps_expr (pe_bm PySem.F.plainAttrs_list PySem.F.slot_list_extend PySem.F.type_list_extend mt_extend (pv 2) (pa_cons (pe_lc (own := [("inner", 5)]) (g := gName 5) (tt := tYes) rfl scSize.nd (pi_list (pe_c CI hr (Nat.le_refl _) (by rfl) (pa_cons (pv 3) pa_nil))) (blkOk_by (N := ["term", "count", "tasks", "part", "depth", "inner"]) (sc := defScope cCheckSize) (by decide +kernel)) (fun _ _ _ _ _ => pg_name (i := 5) scSize.nd rfl (Or.inl rfl)) (fun _ _ _ _ _ => pts_nil) (fun _ _ _ _ _ => (pe_tup (pa_cons (pv 5) (pa_cons (pe_op op_add (pv 4) pe_int) pa_nil))))) pa_nil))))))))))), ?_⟩
  refine ⟨_, rfl, by show 2 ≤ sizeLine; decide, fun a na => ?_⟩
  refine ⟨by show 1 ≤ sizeLine; decide, fun tk ntk => ?_⟩
  have s1 : Same H (upd H a (.tup [v, .int 0])) := same_new na _
  have ea : (upd H a (.tup [v, .int 0])) a = some (.tup [v, .int 0]) := upd_same
  generalize upd H a (.tup [v, .int 0]) = H1 at s1 ea ntk
  have ntk0 := s1.free ntk
  have atk : a ≠ tk := ne_of_none ea ntk
  have s2 : Same H (upd H1 tk (.lst [.ref a])) := s1.trans (same_new ntk _)
  refine ⟨fun n σ H' => ∃ (js : List Tk) (xs : List V) (cnt : Nat) (y3 y4 y5 : Option V), σ = [some v, some (.int (cnt : Nat)), some (.ref tk), y3, y4, y5] ∧ Same H H' ∧ H' tk = some (.lst xs) ∧ Alls2 (tkAt (bs tk Fh H H')) js xs ∧
      n = tks js ∧ (∀ j ∈ js, gd j.t) ∧ cnt ≤ 3000 ∧ xs.length ≤ 1 + 3001 * cnt ∧ (big t ↔ deepT js ∨ 3000 < cnt + tks js),
    ⟨tks [⟨t, 0⟩], [⟨t, 0⟩], [.ref a], 0, none, none, none, rfl, s2, upd_same, .one ⟨a, v, rfl, ?_, TmAt.same (bs_base sF ntk0) _ _ ta⟩, rfl, fun j hj => by rw [List.mem_singleton.mp hj]; exact hg, by decide, by show 1 ≤ _; omega, ?_⟩, ?_⟩
  · rw [bs_put]
    exact bs_new na atk ea
  · unfold big deepT
    simp only [tks, List.mem_singleton, exists_eq_left]
    omega
  clear s1 ea ntk atk s2 na a
  rintro n σ H1 ⟨js, xs, cnt, y3, y4, y5, rfl, sm, etk, tjs, rfl, hgj, hcnt, hxs, hbig⟩
  refine ⟨_, rfl, _, .inl ⟨_, SqL.of etk, rfl⟩, ?_⟩
  rcases List.eq_nil_or_concat js with rfl | ⟨js, j, rfl⟩
  · unfold Alls2 at tjs
    rw [tjs]
    refine if_false_of rfl ?_
    refine qN (fun z => ?_) H1 sm
    rcases hbig.mp z with ⟨j, hj, _⟩ | z
    · cases hj
    · have : 3000 < cnt + 0 := z
      omega
  rw [List.concat_eq_append] at tjs hgj hbig
  obtain ⟨r, y, rfl, tjr, a, pv1, rfl, ea, tp⟩ := tjs.snoc
  refine if_true_of (by simp) ?_
  refine ⟨_, fun _ _ z => z, ?_⟩
  refine ⟨_, rfl, .inl ⟨rfl, _, SqL.of etk⟩, tk, _, .ref a, rfl, rfl, etk, by simp, ?_⟩
  have hdl : (r ++ [V.ref a]).dropLast = r := by simp
  rw [hdl]
  have sm2 : Same H (upd H1 tk (.lst r)) := same_mut sm ntk0 _
  have etk2 : (upd H1 tk (.lst r)) tk = some (.lst r) := upd_same
  rw [← bs_put (tk := tk) (o := .lst r)] at ea tp tjr
  generalize upd H1 tk (.lst r) = H2 at sm2 etk2 ea tp tjr
  clear sm etk tjs
  have sG : Same (bs tk Fh H H2) H2 := bs_in sF fun b o _ e => sm2 b o e
  refine ⟨a, _, rfl, SqT.of (sG _ _ ea), rfl, _, _, rfl, _, _, rfl, rfl, ?_⟩
  refine ⟨_, rfl, _, _, rfl, rfl, ?_⟩
  have hgj1 := hgj j (List.mem_append_right _ List.mem_cons_self)
  have gk := gd_kids hgj1
  have mp := msz_pos j.t
  have tka : tks (js ++ [j]) = tks js + msz j.t := by
    rw [tks_app]
    rfl
  have zk := msz_kids j.t
  have hlr := hxs
  rw [List.length_append, List.length_singleton] at hlr
  refine ⟨_, rfl, _, _, rfl, rfl, _, rfl, ?_⟩
  by_cases hd : j.d ≤ 100
  · refine if_false_of (decide_eq_false (by omega)) ?_
    refine ⟨_, rfl, _, _, rfl, rfl, _, rfl, ?_⟩
    by_cases hc : cnt + 1 ≤ 3000
    · refine if_false_of (decide_eq_false (by simp only []; omega)) ?_
      refine w_extL (F := bs tk Fh H H2) (RL := Each (kids j.t).length fun i x G => ∃ u, (kids j.t)[i]? = some u ∧ tkAt G ⟨u, j.d + 1⟩ x) etk2 (ev_var rfl) ?_ sG (fun ys G z => ?_) (fun p ys H3 np e3 hp b => ?_)
      · refine fwl_lcFL (SL := fun xs G => TmsAt G (kids j.t) xs) _ (fwl_kids (ev_var rfl) tp (by omega)) (fun xs G z => z.len) (by omega) (fun _ => by rfl) ?_
        intro xs G sFG bk i x hx
        obtain ⟨u, hu, tu⟩ := bk.now.get hx
        refine (fw_tup (fwa_cons (fw_var rfl (bx_tm tu)) (fwa_cons (fw_val (ev_op (ev_var rfl) ev_c rv_I0)) fwa_nil)) (fun vs _ z => by obtain ⟨_, _, rfl, _, _, _, rfl, _, z⟩ := z; subst z; exact (by decide : (2 : Nat) ≤ 100000))).imp fun y G2 b2 => ?_
        obtain ⟨a2, vs, rfl, h2, _, _, rfl, h3, _, _, rfl, rfl, rfl⟩ := b2.now
        exact ⟨u, hu, a2, _, rfl, h2, h3⟩
      · rw [z.1]
        have : (3001 : Nat) * 3001 ≤ sizeLine := by decide
        have : 3001 * cnt ≤ 3001 * 3000 := Nat.mul_le_mul_left _ (by omega)
        omega
      · have e3b : Same (bs tk Fh H H2) (bs tk Fh H H3) := bs_up e3
        have np0 : p ≠ tk := fun z => by
          rw [z, etk2] at np
          cases np
        have upn : Same (wo p (ov (bs tk Fh H H2) H2 H3)) (bs tk Fh H H3) := fun c o z => by
          have w := wo_of z
          rcases ov_of w.2 with y | y
          · exact bs_new (sm2.free y.1) (fun q => by rw [q, etk2] at y; cases y.1) y.2
          · exact e3b c o y.2
        have b2 := b _ upn
        refine ⟨tks (js ++ (kids j.t).map fun u => ⟨u, j.d + 1⟩), ?_, js ++ (kids j.t).map fun u => ⟨u, j.d + 1⟩, r ++ ys, cnt + 1, _, _, _, rfl, same_mut (sm2.trans e3) ntk0 _, upd_same, ?_, rfl, ?_, hc, ?_, ?_⟩
        · rw [List.concat_eq_append, tks_app, tks_app, tks_kids]
          show _ < tks js + (msz j.t + 0)
          omega
        · rw [bs_put]
          refine Alls2.app (Alls2.of (by rw [b2.1, List.length_map]) fun i jj y h1 h2 => ?_) (tjr.mono fun _ _ z => z.same e3b)
          obtain ⟨u, hu, e⟩ := get_map h1
          obtain ⟨u2, hu2, t2⟩ := b2.2 i y h2
          rw [hu] at hu2
          cases hu2
          rw [← e]
          exact t2
        · intro jj hj
          rcases List.mem_append.mp hj with z | z
          · exact hgj jj (List.mem_append_left _ z)
          · obtain ⟨u, hu, e⟩ := List.mem_map.mp z
            obtain ⟨i, hi⟩ := List.getElem?_of_mem hu
            rw [← e]
            exact gds_get gk.1 hi
        · rw [List.length_append, b2.1]
          omega
        · rw [hbig, deep_step hd, tka, tks_app, tks_kids]
          exact or_congr Iff.rfl (by omega)
    · refine if_true_of (decide_eq_true (by simp only []; omega)) ?_
      refine qE (hbig.mpr (.inr ?_)) H2 sm2
      rw [tka]
      omega
  · refine if_true_of (decide_eq_true (by omega)) ?_
    exact qE (hbig.mpr (.inl ⟨j, List.mem_append_right _ List.mem_cons_self, by omega⟩)) H2 sm2
theorem ok_isV {f : Addr} {fd : FuncData} {k : Nat} (F : Fun K "is_value" "is_value" cIsValue f fd) (CI : Cal P w K mg base k "inner_terms" spKids []) : FnOk P w K mg base CX0 (k + 1) f fd ["term"] spIsV := by
  refine F.ok scIsV (fun vs H Q E h => ?_) (fun cdv A outer st H vs Q E hr h => ?_)
  · obtain ⟨F, t, v, rfl, _⟩ := h
    rfl
  obtain ⟨Fh, t, v, rfl, sF, ta, hg, hz, q⟩ := h
  refine ⟨_, (pss_cons (ps_set (i := 1) scIsV.nd rfl (.inl rfl) (pe_lst (pa_cons (pv 0) pa_nil)))
    (pss_cons (ps_while PassesOwn.never (pt_truth (pv 1) (fun _ => by rfl)) (pss_cons (ps_set (i := 2) scIsV.nd rfl (.inl rfl) (pe_bm0 PySem.F.plainAttrs_list PySem.F.slot_list_pop PySem.F.type_list_pop mt_pop (pv 1)))
    (pss_one (ps_if (pt_cmpR op_eq (pe_ix ix_tup (pv 2) pe_int (fun _ _ => rfl)) pe_str (nomark _)) (pss_one (ps_expr (pe_bm PySem.F.plainAttrs_list PySem.F.slot_list_extend PySem.F.type_list_extend mt_extend (pv 1) (pa_cons (pe_c CI hr (Nat.le_refl _) (by rfl) (pa_cons (pv 2) pa_nil)) pa_nil)))) (pss_one (ps_if (pt_cmpR op_notIn_seq (pe_ix ix_tup (pv 2) pe_int (fun _ _ => rfl)) (pe_tup (pa_cons pe_str (pa_cons pe_str (pa_cons pe_str (pa_cons pe_str pa_nil))))) rfl) (pss_one (ps_ret pe_bl)) pss_nil))))))
    (pss_one (ps_ret pe_bl)))), ?_⟩
  refine ⟨_, rfl, by show 1 ≤ sizeLine; decide, fun tk ntk => ?_⟩
  refine ⟨fun n σ H' => ∃ (js : List Tm) (xs : List V) (y2 : Option V), σ = [some v, some (.ref tk), y2] ∧ Same H H' ∧ H' tk = some (.lst xs) ∧ Alls2 (TmAt (bs tk Fh H H')) js xs ∧ n = mszs js ∧ (∀ j ∈ js, gd j) ∧ mszs js ≤ 8000 ∧ js.length ≤ mszs js ∧ isV t = js.all isV,
    ⟨mszs [t], [t], [v], none, rfl, same_new ntk _, upd_same, .one (TmAt.same (bs_base sF ntk) _ _ ta), rfl, fun j hj => by rw [List.mem_singleton.mp hj]; exact hg, by simp only [mszs]; omega, by simp only [mszs]; have := msz_pos t; simp; omega, by simp⟩, ?_⟩
  rintro n σ H1 ⟨js, xs, y2, rfl, sm, etk, tjs, rfl, hgj, hz1, hl1, hv⟩
  refine ⟨_, rfl, _, .inl ⟨_, SqL.of etk, rfl⟩, ?_⟩
  rcases List.eq_nil_or_concat js with rfl | ⟨js, j, rfl⟩
  · unfold Alls2 at tjs
    rw [tjs]
    refine if_false_of rfl ?_
    rw [hv] at q
    exact q H1 sm
  rw [List.concat_eq_append] at tjs hgj hz1 hl1 hv
  obtain ⟨r, y, rfl, tjr, tp⟩ := tjs.snoc
  refine if_true_of (by simp) ?_
  refine ⟨_, fun _ _ z => z, ?_⟩
  refine ⟨_, rfl, .inl ⟨rfl, _, SqL.of etk⟩, tk, _, y, rfl, rfl, etk, by simp, ?_⟩
  have hdl : (r ++ [y]).dropLast = r := by simp
  rw [hdl]
  have sm2 : Same H (upd H1 tk (.lst r)) := same_mut sm ntk _
  have etk2 : (upd H1 tk (.lst r)) tk = some (.lst r) := upd_same
  rw [← bs_put (tk := tk) (o := .lst r)] at tp tjr
  generalize upd H1 tk (.lst r) = H2 at sm2 etk2 tp tjr
  clear sm etk tjs
  have sG : Same (bs tk Fh H H2) H2 := bs_in sF fun b o _ e => sm2 b o e
  have hgj1 := hgj j (List.mem_append_right _ List.mem_cons_self)
  have gk := gd_kids hgj1
  have zk := msz_kids j
  have lk := len_mszs (kids j)
  have zja : mszs (js ++ [j]) = mszs js + msz j := by
    rw [mszs_app]
    simp only [mszs]
    omega
  rw [zja] at hz1 hl1
  rw [List.length_append, List.length_singleton] at hl1
  have ljr := tjr.len
  have va : (js ++ [j]).all isV = (js.all isV && isV j) := by
    rw [List.all_append]
    simp
  rw [va] at hv
  obtain ⟨a, rr, rfl, ea⟩ := tp.head
  have ea2 := sG _ _ ea
  refine ⟨_, rfl, a, _, 0, _, rfl, rfl, SqT.of ea2, at0, rfl, _, rfl, ?_⟩
  by_cases hp : kind j = "pair"
  · refine if_true_of (decide_eq_true (congrArg V.str hp)) ?_
    refine w_extL (F := bs tk Fh H H2) etk2 (ev_var rfl) (fwl_kids (ev_var rfl) tp (by omega)) sG (fun ys G z => ?_) (fun p ys H3 np e3 hpp b => ?_)
    · rw [z.len]
      exact Nat.le_trans (by omega) (by decide : 20000 ≤ sizeLine)
    · have e3b : Same (bs tk Fh H H2) (bs tk Fh H H3) := bs_up e3
      have upn : Same (wo p (ov (bs tk Fh H H2) H2 H3)) (bs tk Fh H H3) := fun c o z => by
        have w := wo_of z
        rcases ov_of w.2 with y | y
        · exact bs_new (sm2.free y.1) (fun q => by rw [q, etk2] at y; cases y.1) y.2
        · exact e3b c o y.2
      have b2 := b _ upn
      refine ⟨mszs (js ++ kids j), ?_, js ++ kids j, r ++ ys, _, rfl, same_mut (sm2.trans e3) ntk _, upd_same, ?_, rfl, ?_, ?_, ?_, ?_⟩
      · rw [List.concat_eq_append, mszs_app, zja]
        omega
      · rw [bs_put]
        exact Alls2.app b2.alls (tjr.mono fun _ _ z => TmAt.same e3b _ _ z)
      · intro jj hj
        rcases List.mem_append.mp hj with z | z
        · exact hgj jj (List.mem_append_left _ z)
        · obtain ⟨i, hi⟩ := List.getElem?_of_mem z
          exact gds_get gk.1 hi
      · rw [mszs_app]
        omega
      · exact len_mszs _
      · rw [hv, List.all_append]
        congr 1
        cases j <;> simp only [kind] at hp
        all_goals first
          | (exfalso; revert hp; decide +kernel)
          | simp [isV, kids]
  · refine if_false_of (decide_eq_false fun z => hp (by injection z)) ?_
    refine ⟨_, rfl, a, _, 0, _, rfl, rfl, SqT.of ea2, at0, ?_⟩
    refine ⟨by show 4 ≤ sizeLine; decide, fun tp4 ntp => ?_⟩
    refine ⟨tp4, _, rfl, .inr (SqT.of upd_same), rfl, rfl, _, rfl, ?_⟩
    have sm3 : Same H (upd H2 tp4 (.tup [.str "int", .str "prim", .str "fn", .str "rec"])) := sm2.trans (same_new ntp _)
    have etk3 := same_new ntp (.tup [.str "int", .str "prim", .str "fn", .str "rec"]) _ _ etk2
    have sb3 : Same (bs tk Fh H H2) (bs tk Fh H (upd H2 tp4 (.tup [.str "int", .str "prim", .str "fn", .str "rec"]))) := bs_up (same_new ntp _)
    generalize upd H2 tp4 (.tup [.str "int", .str "prim", .str "fn", .str "rec"]) = H3 at sm3 etk3 sb3
    cases hv2 : isV j with
    | true =>
      refine if_false_of ?_ ?_
      · cases j <;> simp only [isV] at hv2 <;> simp only [kind] <;> first
          | decide +kernel
          | (cases hv2)
          | exact absurd rfl hp
      · rw [hv2, Bool.and_true] at hv
        refine ⟨mszs js, ?_, js, r, _, rfl, sm3, etk3, tjr.mono fun _ _ z => TmAt.same sb3 _ _ z, rfl, fun jj hj => hgj jj (List.mem_append_left _ hj), by omega, len_mszs _, hv⟩
        rw [List.concat_eq_append, zja]
        have := msz_pos j
        omega
    | false =>
      refine if_true_of ?_ ?_
      · cases j <;> simp only [isV] at hv2 <;> simp only [kind] <;> first
          | decide +kernel
          | (cases hv2)
          | exact absurd rfl hp
      · rw [hv2, Bool.and_false] at hv
        rw [hv] at q
        exact q H3 sm3
end
end Sg

namespace Sg
open PySem PySem.Spec PyProof.Rows L2 Evl
open C8 (Cal pe_c)
variable [Now]
/-! ### made_values_first, first_to_be_made_a_value -/
def spMvf : Sp := fun vs H Q _ => ∃ (F : Hp) (t : Tm) (v : V), vs = [v] ∧ Same F H ∧ TmAt F t v ∧ gd t ∧ ∀ H' p xs, Same H H' → H p = none → H' p = some (.lst xs) → TmsAt F (mvf t) xs → Q (.ref p) H'
def fst0 : List Tm → Nat → Option Nat
  | [], _ => none
  | t :: ts, i => if isV t = true then fst0 ts (i + 1) else some i
theorem fst0_cons (t : Tm) (ts : List Tm) (i : Nat) : fst0 (t :: ts) i = if isV t = true then fst0 ts (i + 1) else some i := rfl
def onV : Option Nat → V
  | none => .non
  | some k => .int (k : Nat)
def spFst : Sp := fun vs H Q _ => ∃ (F : Hp) (t : Tm) (v : V), vs = [v] ∧ Same F H ∧ TmAt F t v ∧ gd t ∧ msz t ≤ 8000 ∧ ∀ H', Same H H' → Q (onV (fst0 (mvf t) 0)) H'
theorem mvf_kids : ∀ {t : Tm} {i : Nat} {u : Tm}, (mvf t)[i]? = some u → (kids t)[i]? = some u := fun {t i u} h => by
  cases t <;> simp only [mvf] at h <;> simp only [kids]
  case app f xs o => exact h
  case lt j x b o =>
    cases i with
    | zero => exact h
    | succ i => simp at h
  case ite x y z o =>
    cases i with
    | zero => exact h
    | succ i => simp at h
  all_goals simp at h
theorem fwl_lst_of {te : TE} {σ : L2.St} {F : Hp} {RL : List V → Hp → Prop} (h : FwL te σ F RL) : FwL te σ F RL := h
theorem scMvf : FnScope ["term"] ["term"] (defScope cMadeValuesFirst) := ⟨rfl, rfl, rfl, by decide +kernel, rfl, by decide +kernel, by decide +kernel⟩
theorem scFst : FnScope ["term", "at", "part"] ["term"] (defScope cFirstToBeMadeAValue) := ⟨rfl, rfl, rfl, by decide +kernel, rfl, by decide +kernel, by decide +kernel⟩
section
variable {P : Program} {w : World} {K : PySem.W.Frag} {mg : Str → Option Value} {base : Heap}
theorem ok_mvf {f : Addr} {fd : FuncData} {k : Nat} (F : Fun K "made_values_first" "made_values_first" cMadeValuesFirst f fd) (CI : Cal P w K mg base k "inner_terms" spKids []) : FnOk P w K mg base CX0 (k + 1) f fd ["term"] spMvf := by
  refine F.ok scMvf (fun vs H Q E h => ?_) (fun cdv A outer st H vs Q E hr h => ?_)
  · obtain ⟨F, t, v, rfl, _⟩ := h
    rfl
  obtain ⟨Fh, t, v, rfl, sF, ta, hg, q⟩ := h
  refine ⟨_, (pss_cons (ps_if (pt_cmpR op_eq (pe_ix ix_tup (pv 0) pe_int (fun _ _ => rfl)) pe_str (nomark _)) (pss_one (ps_ret (pe_c CI hr (Nat.le_refl _) (by rfl) (pa_cons (pv 0) pa_nil)))) pss_nil)
    (pss_cons (ps_if (pt_cmpR op_in_seq (pe_ix ix_tup (pv 0) pe_int (fun _ _ => rfl)) (pe_tup (pa_cons pe_str (pa_cons pe_str pa_nil))) rfl) (pss_one (ps_ret (pe_slice sl_list (pe_c CI hr (Nat.le_refl _) (by rfl) (pa_cons (pv 0) pa_nil)) po_none (po_some pe_int)))) pss_nil)
    (pss_one (ps_ret (pe_lst pa_nil))))), ?_⟩
  have gk := gd_kids hg
  obtain ⟨a, rr, rfl, ea⟩ := ta.head
  refine ⟨_, rfl, a, _, 0, _, rfl, rfl, SqT.of (sF _ _ ea), at0, rfl, _, rfl, ?_⟩
  by_cases h1 : kind t = "app"
  · refine if_true_of (decide_eq_true (congrArg V.str h1)) ?_
    refine ⟨_, rfl, Fh, t, _, rfl, sF, ta, by omega, fun H1 p xs s1 n1 e1 tx => q H1 p xs s1 n1 e1 ?_⟩
    cases t <;> simp only [kind] at h1
    all_goals first
      | (exfalso; revert h1; decide +kernel)
      | exact tx
  refine if_false_of (decide_eq_false fun z => h1 (by injection z)) ?_
  refine ⟨_, rfl, a, _, 0, _, rfl, rfl, SqT.of (sF _ _ ea), at0, ?_⟩
  refine ⟨by show 2 ≤ sizeLine; decide, fun tp ntp => ?_⟩
  refine ⟨tp, _, rfl, .inr (SqT.of upd_same), rfl, rfl, _, rfl, ?_⟩
  have sm1 : Same H (upd H tp (.tup [.str "let", .str "if"])) := same_new ntp _
  generalize upd H tp (.tup [.str "let", .str "if"]) = H1 at sm1
  by_cases h2 : kind t = "let" ∨ kind t = "if"
  · refine if_true_of ?_ ?_
    · rcases h2 with z | z <;> rw [z] <;> decide +kernel
    · refine ⟨_, rfl, Fh, t, _, rfl, sF.trans sm1, ta, by omega, fun H2 p xs s2 n2 e2 tx => ⟨_, rfl, p, xs, rfl, SqL.of e2, fun p3 np3 => ?_⟩⟩
      refine q _ p3 _ ((sm1.trans s2).trans (same_new np3 _)) ((sm1.trans s2).free np3) upd_same ?_
      cases t <;> simp only [kind] at h2 <;> simp only [kids] at tx <;> simp only [mvf]
      all_goals first
        | (exfalso; revert h2; decide +kernel)
        | skip
      all_goals
        unfold TmsAt at tx
        obtain ⟨y, r, rfl, h3, h4⟩ := tx
        have hl := h4.len
        have e : cutV (y :: r) none (some 1) = [y] := by
          unfold cutV HT.sIx
          simp [hl]
        rw [e]
        exact TmsAt.one h3
  refine if_false_of ?_ ?_
  · cases t <;> simp only [kind] at h1 h2 ⊢ <;> first
      | decide +kernel
      | (exfalso; exact h1 rfl)
      | (exfalso; exact h1 trivial)
      | (exfalso; exact h2 (.inl rfl))
      | (exfalso; exact h2 (.inr rfl))
      | (exfalso; exact h2 (.inl trivial))
      | (exfalso; exact h2 (.inr trivial))
  refine ⟨by show 0 ≤ sizeLine; decide, fun p np => ?_⟩
  refine q _ p [] (sm1.trans (same_new np _)) (sm1.free np) upd_same ?_
  cases t <;> simp only [kind] at h1 h2 <;> simp only [mvf] <;> first
    | exact .nil
    | (exfalso; exact h1 rfl)
    | (exfalso; exact h1 trivial)
    | (exfalso; exact h2 (.inl rfl))
    | (exfalso; exact h2 (.inr rfl))
    | (exfalso; exact h2 (.inl trivial))
    | (exfalso; exact h2 (.inr trivial))
theorem ok_fst {f : Addr} {fd : FuncData} {k : Nat} (F : Fun K "first_to_be_made_a_value" "first_to_be_made_a_value" cFirstToBeMadeAValue f fd) (CM : Cal P w K mg base k "made_values_first" spMvf []) (CV : Cal P w K mg base k "is_value" spIsV []) (m_enumerate : mg "enumerate" = none) : FnOk P w K mg base CX0 (k + 1) f fd ["term"] spFst := by
  refine F.ok scFst (fun vs H Q E h => ?_) (fun cdv A outer st H vs Q E hr h => ?_)
  · obtain ⟨F, t, v, rfl, _⟩ := h
    rfl
  obtain ⟨Fh, t, v, rfl, sF, ta, hg, hz, q⟩ := h
  refine ⟨_, (pss_cons (ps_for PassesOwn.never rfl (pi_enum (by rfl) m_enumerate (pa_cons (pe_c CM hr (Nat.le_refl _) (by rfl) (pa_cons (pv 0) pa_nil)) pa_nil)) (pg_tup rfl (pgs_cons (pg_name (i := 1) scFst.nd rfl (.inl rfl)) (pgs_cons (pg_name (i := 2) scFst.nd rfl (.inl rfl)) pgs_nil))) (pss_one (ps_if (pt_not (pt_val (pe_c CV hr (Nat.le_refl _) (by rfl) (pa_cons (pv 2) pa_nil)))) (pss_one (ps_ret (pv 1))) pss_nil)))
    (pss_one (ps_ret pe_non))), ?_⟩
  have gk := gd_kids hg
  have zk := msz_kids t
  refine ⟨_, rfl, Fh, t, v, rfl, sF, ta, hg, fun H1 p xs s1 n1 e1 tx => ⟨p, xs, rfl, SqL.of e1, ?_⟩⟩
  have lx := tx.len
  refine for_it (walk_enum (K := K) (a := p) (xs := xs)) (fun i σ H' => ∃ (y1 y2 : Option V), σ = [some v, y1, y2] ∧ Same H1 H' ∧ fst0 (mvf t) 0 = fst0 ((mvf t).drop i) i)
    ⟨none, none, rfl, Same.refl _, rfl⟩ (fun i σ H' _ ⟨_, _, _, s, _⟩ => SqL.of (s _ _ e1)) ?_ ?_
  · rintro i x σ H' H'' hi ⟨y1, y2, rfl, sm, hf⟩ ⟨T, x1, x2, rfl, nT, rfl, e1, e2⟩
    cases e1
    obtain ⟨u, hu, tu⟩ := tx.get e2
    have hil : i < (mvf t).length := (List.getElem?_eq_some_iff.mp hu).1
    have hd : (mvf t).drop i = u :: (mvf t).drop (i + 1) := by
      rw [List.drop_eq_getElem_cons hil]
      congr 1
      have := (List.getElem?_eq_some_iff.mp hu).2
      exact this
    rw [hd] at hf
    refine ⟨T, _, rfl, SqT.of upd_same, rfl, ?_⟩
    have sT : Same H1 (upd H' T (.tup [.int (i : Nat), x2])) := sm.trans (same_new nT _)
    generalize upd H' T (.tup [.int (i : Nat), x2]) = H2 at sT
    have hk := mvf_kids hu
    have zu := mszs_get hk
    refine ⟨_, _, rfl, _, _, rfl, rfl, ?_⟩
    refine ⟨_, rfl, Fh, u, x2, rfl, sF.trans (s1.trans sT), tu, gds_get gk.1 hk, by omega, fun H3 s3 => ⟨_, rfl, ?_⟩⟩
    rw [fst0_cons] at hf
    cases hv : isV u with
    | true =>
      rw [hv, if_pos rfl] at hf
      exact ⟨_, _, rfl, sT.trans s3, hf⟩
    | false =>
      rw [hv, if_neg (by decide)] at hf
      rw [hf] at q
      exact ⟨_, rfl, q H3 (s1.trans (sT.trans s3))⟩
  · rintro σ H2 ⟨y1, y2, rfl, sm, hf⟩
    rw [lx, List.drop_length] at hf
    rw [hf] at q
    exact q H2 (s1.trans sm)
end
end Sg

namespace Sg
open PySem PySem.Spec PyProof.Rows L2 Evl
open C8 (Cal pe_c)
variable [Now]
/-! ### calculated, made_by_primitive -/
def spCalc (CS : Addr) : Sp := fun vs H Q E => ∃ (s : Str) (a b : Int), vs = [.str s, .int a, .int b] ∧ s ∈ (["+", "-", "*", "<", "="] : List Str) ∧ a.natAbs ≤ 999999999 ∧ b.natAbs ≤ 999999999 ∧ (∀ n, arith s a b = some n → ∀ H', Same H H' → Q (.int n) H') ∧ (arith s a b = none → ∀ H', Same H H' → E (.ref CS) none H')
def spMbp (CS : Addr) : Sp := fun vs H Q E => ∃ (F : Hp) (s : Str) (l : Addr) (ys : List V) (xs : List Tm), vs = [.str s, .ref l] ∧ Same F H ∧ F l = some (.lst ys) ∧ TmsAt F xs ys ∧ woks xs ∧ xs.length ≤ 3000 ∧
  (∀ u, primR s xs = some u → ∀ H' v, Same H H' → TmAt (ov F H H') u v → Q v H') ∧ (primR s xs = none → ∀ H', Same H H' → E (.ref CS) none H')
theorem scCalc : FnScope ["name", "a", "b", "result"] ["name", "a", "b"] (defScope cCalculated) := ⟨rfl, rfl, rfl, by decide +kernel, rfl, by decide +kernel, by decide +kernel⟩
theorem scMbp : FnScope ["name", "args", "kinds", "arg"] ["name", "args"] (defScope cMadeByPrimitive) := ⟨rfl, rfl, rfl, by decide +kernel, rfl, by decide +kernel, by decide +kernel⟩
theorem len2 {α : Type} : ∀ {xs : List α}, xs.length = 2 → ∃ x y, xs = [x, y]
  | [x, y], _ => ⟨x, y, rfl⟩
  | [], h => by simp at h
  | [_], h => by simp at h
  | _ :: _ :: _ :: _, h => by simp at h
theorem abs_gt (r : Int) : 999999999 < (if r < 0 then -r else r) ↔ (r > 999999999 ∨ -r > 999999999) := by
  split <;> omega
theorem kinds1 (s : Str) : ∀ xs : List Tm, PyData.eqv (.list (xs.map fun t => PyData.str (kind t))) (.list [.str s]) = true ↔ ∃ x, xs = [x] ∧ kind x = s
  | [] => by simp [PyData.eqv, PyData.eqvAll]
  | [x] => by simp [PyData.eqv, PyData.eqvAll]
  | x :: y :: r => by simp [PyData.eqv, PyData.eqvAll]
theorem kinds2 (s z : Str) : ∀ xs : List Tm, PyData.eqv (.list (xs.map fun t => PyData.str (kind t))) (.list [.str s, .str z]) = true ↔ ∃ x y, xs = [x, y] ∧ kind x = s ∧ kind y = z
  | [] => by simp [PyData.eqv, PyData.eqvAll]
  | [x] => by simp [PyData.eqv, PyData.eqvAll]
  | [x, y] => by
    simp [PyData.eqv, PyData.eqvAll]
    exact ⟨fun h => ⟨x, y, ⟨rfl, rfl⟩, h⟩, fun ⟨_, _, ⟨h1, h2⟩, h⟩ => by rw [h1, h2]; exact h⟩
  | x :: y :: w :: r => by simp [PyData.eqv, PyData.eqvAll]
theorem kinds_can : ∀ xs : List Tm, PyData.canLayAll0 (xs.map fun t => PyData.str (kind t)) = true ∧ PyData.depthAll (xs.map fun t => PyData.str (kind t)) = 0
  | [] => ⟨rfl, rfl⟩
  | x :: r => by
    have h := kinds_can r
    simp only [List.map_cons, PyData.canLayAll0, PyData.canLay0, PyData.depthAll, PyData.depth, h.1, h.2, Bool.and_true]
    refine ⟨?_, rfl⟩
    cases x <;> simp only [kind] <;> decide +kernel
theorem kinds_shape (xs : List Tm) : SeqAt.shaped (.list (xs.map fun t => PyData.str (kind t))) = true := by
  unfold SeqAt.shaped
  simp only [PyData.canLay0, PyData.depth, (kinds_can xs).1, (kinds_can xs).2]
  decide
theorem kind_pair {t : Tm} (h : kind t = "pair") : ∃ x y o, t = .pair x y o := by
  cases t <;> simp only [kind] at h <;> first
    | (exfalso; revert h; decide +kernel)
    | exact ⟨_, _, _, rfl⟩
theorem kind_int {t : Tm} (h : kind t = "int") : ∃ n o, t = .int n o := by
  cases t <;> simp only [kind] at h <;> first
    | (exfalso; revert h; decide +kernel)
    | exact ⟨_, _, rfl⟩
section
variable {P : Program} {w : World} {K : PySem.W.Frag} {mg : Str → Option Value} {base : Heap}
theorem ok_calc {f CS : Addr} {fd : FuncData} {k : Nat} {tL : Tok} (F : Fun K "calculated" "calculated" cCalculated f fd) (XS : ExC K mg CS "StuckError") (gL : True ∧ mg "LARGEST_INTEGER" = some (.int 999999999 tL)) (m_abs : mg "abs" = none) : FnOk P w K mg base (L2.CX P w) (k + 1) f fd ["name", "a", "b"] (spCalc CS) := by
  refine F.okX scCalc (fun vs H Q E h => ?_) (fun cdv A outer st H vs Q E hr h => ?_)
  · obtain ⟨s, a, b, rfl, _⟩ := h
    rfl
  obtain ⟨s, a, b, rfl, hs, ha, hb, qN, qE⟩ := h
  refine ⟨_, (pss_cons (ps_if (pt_cmpR op_eq (pv 0) pe_str (nomark _)) (pss_one (ps_ret (pe_ifExp (pt_cmpR op_lt (pv 1) (pv 2) (nomark _)) pe_int pe_int))) pss_nil)
    (pss_cons (ps_if (pt_cmpR op_eq (pv 0) pe_str (nomark _)) (pss_one (ps_ret (pe_ifExp (pt_cmpR op_eq (pv 1) (pv 2) (nomark _)) pe_int pe_int))) pss_nil)
    (pss_cons (ps_if (pt_cmpR op_eq (pv 0) pe_str (nomark _)) (pss_one (ps_set (i := 3) scCalc.nd rfl (.inl rfl) (pe_op op_add (pv 1) (pv 2)))) (pss_one (ps_if (pt_cmpR op_eq (pv 0) pe_str (nomark _)) (pss_one (ps_set (i := 3) scCalc.nd rfl (.inl rfl) (pe_op op_sub (pv 1) (pv 2)))) (pss_one (ps_set (i := 3) scCalc.nd rfl (.inl rfl) (pe_op op_mul (pv 1) (pv 2)))))))
    (pss_cons (ps_if (pt_cmpR op_gt (pe_callB call_abs (by rfl) m_abs PyProof.Rows.boot_abs (pa_cons (pv 3) pa_nil)) (pe_glob (v := .int 999999999) (by rfl) gL.2 ⟨_, rfl⟩) (nomark _)) (pss_one (ps_raise rfl (takes_of rfl rfl rfl rfl) (pmk_own PySem.F.excBase_ValueError XS.x XS.g XS.k (raises_own XS.b XS.t) (by rfl)))) pss_nil)
    (pss_one (ps_ret (pv 3))))))), ?_⟩
  refine ⟨_, rfl, rfl, _, rfl, ?_⟩
  by_cases h1 : s = "<"
  · refine if_true_of (decide_eq_true (congrArg V.str h1)) ?_
    refine ⟨_, rfl, _, rfl, a, b, rfl, rfl, _, rfl, ?_⟩
    have e : arith s a b = some (if a < b then 1 else 0) := by
      unfold arith
      rw [if_pos h1]
    by_cases z : a < b
    · refine if_true_of (decide_eq_true z) ?_
      rw [if_pos z] at e
      exact qN _ e H (Same.refl H)
    · refine if_false_of (decide_eq_false z) ?_
      rw [if_neg z] at e
      exact qN _ e H (Same.refl H)
  refine if_false_of (decide_eq_false fun z => h1 (by injection z)) ?_
  refine ⟨_, rfl, rfl, _, rfl, ?_⟩
  by_cases h2 : s = "="
  · refine if_true_of (decide_eq_true (congrArg V.str h2)) ?_
    refine ⟨_, rfl, _, rfl, rfl, _, rfl, ?_⟩
    have e : arith s a b = some (if a = b then 1 else 0) := by
      unfold arith
      rw [if_neg h1, if_pos h2]
    by_cases z : a = b
    · refine if_true_of (decide_eq_true (congrArg V.int z)) ?_
      rw [if_pos z] at e
      exact qN _ e H (Same.refl H)
    · refine if_false_of (decide_eq_false fun y => z (by injection y)) ?_
      rw [if_neg z] at e
      exact qN _ e H (Same.refl H)
  refine if_false_of (decide_eq_false fun z => h2 (by injection z)) ?_
  refine ⟨_, rfl, rfl, _, rfl, ?_⟩
  have cut : ∀ r : Int, arith s a b = (if r.natAbs ≤ 999999999 then some r else none) → (r > 999999999 ∨ -r > 999999999 → arith s a b = none) ∧ (¬ (r > 999999999 ∨ -r > 999999999) → arith s a b = some r) := fun r e => by
    refine ⟨fun z => ?_, fun z => ?_⟩
    · rw [if_neg (by omega)] at e
      exact e
    · rw [if_pos (by omega)] at e
      exact e
  by_cases h3 : s = "+"
  · refine if_true_of (decide_eq_true (congrArg V.str h3)) ?_
    refine ⟨_, rfl, _, rfl, _, _, rfl, rfl, ?_⟩
    have e : arith s a b = (if (a + b).natAbs ≤ 999999999 then some (a + b) else none) := by
      unfold arith
      rw [if_neg h1, if_neg h2, if_pos h3]
    have c := cut (a + b) e
    refine ⟨_, rfl, _, rfl, _, _, rfl, rfl, _, rfl, ?_⟩
    by_cases z : (a + b) > 999999999 ∨ -(a + b) > 999999999
    · refine if_true_of (decide_eq_true ((abs_gt _).mpr z)) ?_
      exact qE (c.1 z) H (Same.refl H)
    · refine if_false_of (decide_eq_false fun y => z ((abs_gt _).mp y)) ?_
      exact ⟨_, rfl, qN _ (c.2 z) H (Same.refl H)⟩
  refine if_false_of (decide_eq_false fun z => h3 (by injection z)) ?_
  refine ⟨_, rfl, rfl, _, rfl, ?_⟩
  by_cases h4 : s = "-"
  · refine if_true_of (decide_eq_true (congrArg V.str h4)) ?_
    refine ⟨_, rfl, _, rfl, _, _, rfl, rfl, ?_⟩
    have e : arith s a b = (if (a - b).natAbs ≤ 999999999 then some (a - b) else none) := by
      unfold arith
      rw [if_neg h1, if_neg h2, if_neg h3, if_pos h4]
    have c := cut (a - b) e
    refine ⟨_, rfl, _, rfl, _, _, rfl, rfl, _, rfl, ?_⟩
    by_cases z : (a - b) > 999999999 ∨ -(a - b) > 999999999
    · refine if_true_of (decide_eq_true ((abs_gt _).mpr z)) ?_
      exact qE (c.1 z) H (Same.refl H)
    · refine if_false_of (decide_eq_false fun y => z ((abs_gt _).mp y)) ?_
      exact ⟨_, rfl, qN _ (c.2 z) H (Same.refl H)⟩
  refine if_false_of (decide_eq_false fun z => h4 (by injection z)) ?_
  refine ⟨_, rfl, _, rfl, _, _, rfl, rfl, .inl ⟨by omega, by omega⟩, ?_⟩
  have h5 : s = "*" := by
    simp only [List.mem_cons, List.not_mem_nil, or_false] at hs
    rcases hs with z | z | z | z | z
    · exact absurd z h3
    · exact absurd z h4
    · exact z
    · exact absurd z h1
    · exact absurd z h2
  have e : arith s a b = (if (a * b).natAbs ≤ 999999999 then some (a * b) else none) := by
    unfold arith
    rw [if_neg h1, if_neg h2, if_neg h3, if_neg h4, if_pos h5]
  have c := cut (a * b) e
  refine ⟨_, rfl, _, rfl, _, _, rfl, rfl, _, rfl, ?_⟩
  by_cases z : (a * b) > 999999999 ∨ -(a * b) > 999999999
  · refine if_true_of (decide_eq_true ((abs_gt _).mpr z)) ?_
    exact qE (c.1 z) H (Same.refl H)
  · refine if_false_of (decide_eq_false fun y => z ((abs_gt _).mp y)) ?_
    exact ⟨_, rfl, qN _ (c.2 z) H (Same.refl H)⟩
theorem ok_mbp {f CS : Addr} {fd : FuncData} {k : Nat} (F : Fun K "made_by_primitive" "made_by_primitive" cMadeByPrimitive f fd) (XS : ExC K mg CS "StuckError") (CC : CalX P w K mg base k "calculated" (spCalc CS)) (gN : ∃ u, mg "NOWHERE" = some u ∧ RelV Now.n u) (m_len : mg "len" = none) : FnOk P w K mg base (L2.CX P w) (k + 1) f fd ["name", "args"] (spMbp CS) := by
  refine F.okX scMbp (fun vs H Q E h => ?_) (fun cdv A outer st H vs Q E hr h => ?_)
  · obtain ⟨F, s, l, ys, xs, rfl, _⟩ := h
    rfl
  obtain ⟨Fh, s, l, ys, xs, rfl, sF, el, tx, hw, hn, qN, qE⟩ := h
  refine ⟨_, pss_split 2 (pss_cons (ps_setLc (i := 2) (own := [("arg", 3)]) (g := gName 3) (tt := tYes) rfl scMbp.nd rfl rfl (sw_true rfl rfl (by decide) (by decide +kernel)) (pi_list (pv 1)) (blkOk_by (N := ["name", "args", "kinds", "arg"]) (sc := defScope cMadeByPrimitive) (by decide +kernel)) (fun _ _ _ _ _ => pg_name (i := 3) scMbp.nd rfl (Or.inl rfl)) (fun _ _ _ _ _ => pts_nil) (fun _ _ _ _ _ => (pe_ix (ix_tupK (K := K) rfl) (pv 3) pe_int (fun _ _ => rfl))))
    (pss_one (ps_if (PW.pt (pw_and (pt_cmpR op_eq (pv 0) pe_str (nomark _)) (pw_and1 (pt_cmpR op_eq (pe_callB call_len_seq (by rfl) m_len PySem.boot_len (pa_cons (pv 1) pa_nil)) pe_int (nomark _))))) (pss_one (ps_ret (pe_tup (pa_cons pe_str (pa_cons (pe_ix ix_list (pv 1) pe_int (fun _ _ => rfl)) (pa_cons (pe_ix ix_list (pv 1) pe_int (fun _ _ => rfl)) (pa_cons (C8.pe_gc (v := Now.n) (by rfl) gN) pa_nil))))))) pss_nil)))
    (pss_split 1 (pss_one (ps_if (PW.pt (pw_and (pt_cmpR op_eq (pv 0) pe_str (nomark _)) (pw_and1 (pt_cmpR (op_eqD hr.units) (pv 2) (pe_lst (pa_cons pe_str pa_nil)) (nomark _))))) (pss_one (ps_ret (pe_ix ix_tup (pe_ix ix_list (pv 1) pe_int (fun _ _ => rfl)) pe_int (fun _ _ => rfl)))) pss_nil))
    (pss_split 1 (pss_one (ps_if (PW.pt (pw_and (pt_cmpR op_eq (pv 0) pe_str (nomark _)) (pw_and1 (pt_cmpR (op_eqD hr.units) (pv 2) (pe_lst (pa_cons pe_str pa_nil)) (nomark _))))) (pss_one (ps_ret (pe_ix ix_tup (pe_ix ix_list (pv 1) pe_int (fun _ _ => rfl)) pe_int (fun _ _ => rfl)))) pss_nil))
    (pss_split 1 (pss_one (ps_if (PW.pt (pw_and (pt_cmpR op_in_seq (pv 0) (pe_tup (pa_cons pe_str (pa_cons pe_str (pa_cons pe_str (pa_cons pe_str (pa_cons pe_str pa_nil)))))) rfl) (pw_and1 (pt_cmpR (op_eqD hr.units) (pv 2) (pe_lst (pa_cons pe_str (pa_cons pe_str pa_nil))) (nomark _))))) (pss_one (ps_ret (pe_tup (pa_cons pe_str (pa_cons (pe_cX CC hr (Nat.le_refl _) rfl (takes_of rfl rfl rfl rfl) (pa_cons (pv 0) (pa_cons (pe_ix ix_tup (pe_ix ix_list (pv 1) pe_int (fun _ _ => rfl)) pe_int (fun _ _ => rfl)) (pa_cons (pe_ix ix_tup (pe_ix ix_list (pv 1) pe_int (fun _ _ => rfl)) pe_int (fun _ _ => rfl)) pa_nil)))) (pa_cons (C8.pe_gc (v := Now.n) (by rfl) gN) pa_nil)))))) pss_nil))
    (pss_one (ps_raise rfl (takes_of rfl rfl rfl rfl) (pmk_own PySem.F.excBase_ValueError XS.x XS.g XS.k (raises_own XS.b XS.t) (by rfl))))))), ?_⟩
  have lx := tx.len
  have gi : ∀ {i : Nat} {u : Tm}, xs[i]? = some u → ∃ y, ys[i]? = some y ∧ TmAt Fh u y := fun {i u} h => by
    have hi := (List.getElem?_eq_some_iff.mp h).1
    obtain ⟨y, hy⟩ : ∃ y, ys[i]? = some y := ⟨ys[i]'(by omega), by simp⟩
    obtain ⟨u2, h2, h3⟩ := tx.get hy
    rw [h] at h2
    cases h2
    exact ⟨y, hy, h3⟩
  have dpk : ∀ {G : Hp} {p : Addr}, G p = some (.lst (xs.map fun t => V.str (kind t))) → Dp K G (.ref p) (.list (xs.map fun t => PyData.str (kind t))) := fun {G p} e => by
    refine .lst (SqL.of e) ?_
    clear qN qE tx hw hn lx gi e
    induction xs with
    | nil => exact .nil
    | cons x r ih => exact .cons (.str _) ih
  refine ⟨fun σ H' => ∃ p, σ = [some (.str s), some (.ref l), some (.ref p), none] ∧ Same H H' ∧ H' p = some (.lst (xs.map fun t => V.str (kind t))) ∧ ¬ (s = "pair" ∧ xs.length = 2), ?_, ?_⟩
  · refine qw_asgL (F := Fh) (RL := Each ys.length fun i y _ => ∃ t, xs[i]? = some t ∧ y = .str (kind t)) ?_ sF (fun p zs H1 np e1 hp b => ?_)
    · refine fwl_lcL _ (ev_var rfl) (SqL.of el) (by omega) (fun _ => by rfl) ?_
      intro i y hy
      obtain ⟨u, hu, tu⟩ := tx.get hy
      obtain ⟨a, r, rfl, ea⟩ := tu.head
      exact fw_ev (ev_op (ev_var rfl) ev_c (rv_ixT (SqT.of ea) at0)) fun _ _ => ⟨u, hu, rfl⟩
    have zz : zs = xs.map fun t => V.str (kind t) := by
      refine List.ext_getElem? fun i => ?_
      rw [List.getElem?_map]
      by_cases z : i < zs.length
      · have hz : zs[i]? = some zs[i] := by simp [z]
        obtain ⟨t, h1, h2⟩ := b.now.2 i _ hz
        rw [hz, h1, h2]
        rfl
      · rw [List.getElem?_eq_none (by omega), List.getElem?_eq_none (by have := b.now.1; omega)]
        rfl
    rw [zz] at hp
    clear b zz zs
    refine ⟨_, rfl, rfl, _, rfl, ?_⟩
    by_cases h1 : s = "pair"
    · refine if_true_of (decide_eq_true (congrArg V.str h1)) ?_
      refine ⟨_, rfl, l, ys, rfl, .inl (SqL.of (e1 _ _ (sF _ _ el))), rfl, _, rfl, ?_⟩
      by_cases h2 : xs.length = 2
      · refine if_true_of (decide_eq_true (congrArg V.int (by omega))) ?_
        obtain ⟨x0, x1, rfl⟩ := len2 h2
        obtain ⟨y0, y1, rfl⟩ := len2 (show ys.length = 2 by omega)
        have t0 := gi (i := 0) rfl
        have t1 := gi (i := 1) rfl
        obtain ⟨_, e0, t0⟩ := t0
        obtain ⟨_, e1', t1⟩ := t1
        cases e0
        cases e1'
        refine r_fw (F := Fh) (fw_tup (fwa_cons (fw_val ev_c) (fwa_cons (fw_ev (ev_op (ev_var rfl) ev_c (rv_ixL (SqL.of el) (atI_nat (j := 0) rfl))) (bx_tm t0)) (fwa_cons (fw_ev (ev_op (ev_var rfl) ev_c (rv_ixL (SqL.of el) (atI_nat (j := 1) rfl))) (bx_tm t1)) (fwa_cons (fw_val ev_c) fwa_nil)))) (fun vs _ h => by obtain ⟨_, _, rfl, _, _, _, rfl, _, _, _, rfl, _, _, _, rfl, _, h⟩ := h; subst h; exact (by decide : (4 : Nat) ≤ 100000))) (sF.trans e1) (fun v H3 e3 b => ?_)
        obtain ⟨a, _, rfl, ea, _, _, rfl, rfl, _, _, rfl, g0, _, _, rfl, g1, _, _, rfl, rfl, rfl⟩ := b _ (ov_tr sF e1)
        refine qN (.pair x0 x1 nowO) (by unfold primR; rw [if_pos h1]) H3 _ (e1.trans e3) ?_
        unfold TmAt
        exact ⟨a, _, _, _, rfl, ea, g0, g1, .inr ⟨rfl, rfl⟩⟩
      · refine if_false_of (decide_eq_false fun z => h2 (by injection z; omega)) ?_
        exact ⟨p, rfl, e1, hp, fun z => h2 z.2⟩
    · refine if_false_of (decide_eq_false fun z => h1 (by injection z)) ?_
      exact ⟨p, rfl, e1, hp, fun z => h1 z.1⟩
  rintro σ H1 ⟨p, rfl, s1, hp, n1⟩
  refine ⟨fun σ H' => ∃ p, σ = [some (.str s), some (.ref l), some (.ref p), none] ∧ Same H H' ∧ H' p = some (.lst (xs.map fun t => V.str (kind t))) ∧ ¬ (s = "head" ∧ ∃ x, xs = [x] ∧ kind x = "pair"), ?_, ?_⟩
  · refine ⟨_, rfl, rfl, _, rfl, ?_⟩
    by_cases h1 : s = "head"
    · refine if_true_of (decide_eq_true (congrArg V.str h1)) ?_
      refine ⟨_, rfl, by show 1 ≤ sizeLine; decide, fun p2 np2 => ?_⟩
      have s2 : Same H1 (upd H1 p2 (.lst [.str "pair"])) := same_new np2 _
      have e2 : (upd H1 p2 (.lst [.str "pair"])) p2 = some (.lst [.str "pair"]) := upd_same
      generalize upd H1 p2 (.lst [.str "pair"]) = H2 at s2 e2
      refine ⟨_, .list [.str "pair"], dpk (s2 _ _ hp), .lst (SqL.of e2) (.cons (.str _) .nil), kinds_shape xs, by decide +kernel, _, rfl, ?_⟩
      by_cases h2 : ∃ x, xs = [x] ∧ kind x = "pair"
      · refine if_true_of ((kinds1 "pair" xs).mpr h2) ?_
        obtain ⟨x, rfl, hk⟩ := h2
        obtain ⟨y, hy, ty⟩ := gi (i := 0) rfl
        obtain ⟨c, d, o, rfl⟩ := kind_pair hk
        unfold TmAt at ty
        obtain ⟨a, u1, u2, wo1, rfl, ea, tc, td, og⟩ := ty
        have s12 := s1.trans s2
        refine ⟨_, rfl, l, ys, 0, _, rfl, rfl, SqL.of (s12 _ _ (sF _ _ el)), atI_nat (j := 0) hy, a, _, 1, _, rfl, rfl, SqT.of (s12 _ _ (sF _ _ ea)), atI_nat (j := 1) rfl, ?_⟩
        exact qN c (by unfold primR; rw [if_neg (by rw [h1]; decide +kernel), if_pos h1]) H2 _ s12 (TmAt.same (ov_base sF) _ _ tc)
      · refine if_false_of (by cases hq : PyData.eqv (.list (xs.map fun t => PyData.str (kind t))) (.list [.str "pair"]) with
          | false => rfl
          | true => exact absurd ((kinds1 "pair" xs).mp hq) h2) ?_
        exact ⟨p, rfl, s1.trans s2, s2 _ _ hp, fun z => h2 z.2⟩
    · refine if_false_of (decide_eq_false fun z => h1 (by injection z)) ?_
      exact ⟨p, rfl, s1, hp, fun z => h1 z.1⟩
  clear hp p
  clear s1 H1
  rintro σ H1 ⟨p, rfl, s1, hp, n2⟩
  refine ⟨fun σ H' => ∃ p, σ = [some (.str s), some (.ref l), some (.ref p), none] ∧ Same H H' ∧ H' p = some (.lst (xs.map fun t => V.str (kind t))) ∧ ¬ (s = "tail" ∧ ∃ x, xs = [x] ∧ kind x = "pair"), ?_, ?_⟩
  · refine ⟨_, rfl, rfl, _, rfl, ?_⟩
    by_cases h1 : s = "tail"
    · refine if_true_of (decide_eq_true (congrArg V.str h1)) ?_
      refine ⟨_, rfl, by show 1 ≤ sizeLine; decide, fun p2 np2 => ?_⟩
      have s2 : Same H1 (upd H1 p2 (.lst [.str "pair"])) := same_new np2 _
      have e2 : (upd H1 p2 (.lst [.str "pair"])) p2 = some (.lst [.str "pair"]) := upd_same
      generalize upd H1 p2 (.lst [.str "pair"]) = H2 at s2 e2
      refine ⟨_, .list [.str "pair"], dpk (s2 _ _ hp), .lst (SqL.of e2) (.cons (.str _) .nil), kinds_shape xs, by decide +kernel, _, rfl, ?_⟩
      by_cases h2 : ∃ x, xs = [x] ∧ kind x = "pair"
      · refine if_true_of ((kinds1 "pair" xs).mpr h2) ?_
        obtain ⟨x, rfl, hk⟩ := h2
        obtain ⟨y, hy, ty⟩ := gi (i := 0) rfl
        obtain ⟨c, d, o, rfl⟩ := kind_pair hk
        unfold TmAt at ty
        obtain ⟨a, u1, u2, wo1, rfl, ea, tc, td, og⟩ := ty
        have s12 := s1.trans s2
        refine ⟨_, rfl, l, ys, 0, _, rfl, rfl, SqL.of (s12 _ _ (sF _ _ el)), atI_nat (j := 0) hy, a, _, 2, _, rfl, rfl, SqT.of (s12 _ _ (sF _ _ ea)), atI_nat (j := 2) rfl, ?_⟩
        exact qN d (by unfold primR; rw [if_neg (by rw [h1]; decide +kernel), if_neg (by rw [h1]; decide +kernel), if_pos h1]) H2 _ s12 (TmAt.same (ov_base sF) _ _ td)
      · refine if_false_of (by cases hq : PyData.eqv (.list (xs.map fun t => PyData.str (kind t))) (.list [.str "pair"]) with
          | false => rfl
          | true => exact absurd ((kinds1 "pair" xs).mp hq) h2) ?_
        exact ⟨p, rfl, s1.trans s2, s2 _ _ hp, fun z => h2 z.2⟩
    · refine if_false_of (decide_eq_false fun z => h1 (by injection z)) ?_
      exact ⟨p, rfl, s1, hp, fun z => h1 z.1⟩
  clear hp p
  clear s1 H1
  rintro σ H1 ⟨p, rfl, s1, hp, n3⟩
  have fail : ¬ (s ∈ (["+", "-", "*", "<", "="] : List Str) ∧ ∃ x y, xs = [x, y] ∧ kind x = "int" ∧ kind y = "int") → primR s xs = none := fun hf => by
    unfold primR
    split
    · rename_i h
      split
      · rename_i x y
        exact absurd ⟨h, rfl⟩ n1
      · rfl
    · split
      · rename_i h
        split
        · exact absurd ⟨h, _, rfl, rfl⟩ n2
        · rfl
      · split
        · rename_i h
          split
          · exact absurd ⟨h, _, rfl, rfl⟩ n3
          · rfl
        · split
          · rename_i a oa b ob
            cases e : arith s a b with
            | none => rfl
            | some n =>
              exfalso
              refine hf ⟨?_, _, _, rfl, rfl, rfl⟩
              unfold arith at e
              simp only [List.mem_cons, List.not_mem_nil, or_false]
              split at e
              · rename_i z
                exact .inr (.inr (.inr (.inl z)))
              · split at e
                · rename_i z
                  exact .inr (.inr (.inr (.inr z)))
                · split at e
                  · rename_i z
                    exact .inl z
                  · split at e
                    · rename_i z
                      exact .inr (.inl z)
                    · split at e
                      · rename_i z
                        exact .inr (.inr (.inl z))
                      · cases e
          · rfl
  refine ⟨fun σ H' => ∃ p, σ = [some (.str s), some (.ref l), some (.ref p), none] ∧ Same H H' ∧ primR s xs = none, ?_, ?_⟩
  · refine ⟨_, rfl, by show 5 ≤ sizeLine; decide, fun p2 np2 => ?_⟩
    have s2 : Same H1 (upd H1 p2 (.tup [.str "+", .str "-", .str "*", .str "<", .str "="])) := same_new np2 _
    refine ⟨p2, _, rfl, .inr (SqT.of upd_same), rfl, rfl, _, rfl, ?_⟩
    generalize upd H1 p2 (.tup [.str "+", .str "-", .str "*", .str "<", .str "="]) = H2 at s2
    have hp2 := s2 _ _ hp
    by_cases h1 : s ∈ (["+", "-", "*", "<", "="] : List Str)
    · refine if_true_of ?_ ?_
      · simp only [List.mem_cons, List.not_mem_nil, or_false] at h1
        rcases h1 with z | z | z | z | z <;> rw [z] <;> decide +kernel
      refine ⟨_, rfl, by show 2 ≤ sizeLine; decide, fun p3 np3 => ?_⟩
      have s3 : Same H2 (upd H2 p3 (.lst [.str "int", .str "int"])) := same_new np3 _
      have e3 : (upd H2 p3 (.lst [.str "int", .str "int"])) p3 = some (.lst [.str "int", .str "int"]) := upd_same
      generalize upd H2 p3 (.lst [.str "int", .str "int"]) = H3 at s3 e3
      have s13 := (s1.trans s2).trans s3
      refine ⟨_, .list [.str "int", .str "int"], dpk (s3 _ _ hp2), .lst (SqL.of e3) (.cons (.str _) (.cons (.str _) .nil)), kinds_shape xs, by decide +kernel, _, rfl, ?_⟩
      by_cases h2 : ∃ x y, xs = [x, y] ∧ kind x = "int" ∧ kind y = "int"
      · refine if_true_of ((kinds2 "int" "int" xs).mpr h2) ?_
        obtain ⟨x, y, rfl, hx, hy⟩ := h2
        obtain ⟨na, oa, rfl⟩ := kind_int hx
        obtain ⟨nb, ob, rfl⟩ := kind_int hy
        obtain ⟨ya, hya, ta⟩ := gi (i := 0) rfl
        obtain ⟨yb, hyb, tb⟩ := gi (i := 1) rfl
        unfold TmAt at ta tb
        obtain ⟨aa, wa, rfl, ea, _⟩ := ta
        obtain ⟨ab, wb, rfl, eb, _⟩ := tb
        simp only [woks, wok] at hw
        have pr : primR s [.int na oa, .int nb ob] = (arith s na nb).map fun n => .int n nowO := by
          unfold primR
          rw [if_neg (fun z => by rw [z] at h1; revert h1; decide +kernel), if_neg (fun z => by rw [z] at h1; revert h1; decide +kernel), if_neg (fun z => by rw [z] at h1; revert h1; decide +kernel)]
        refine ⟨_, rfl, _, rfl, l, ys, 0, _, rfl, rfl, SqL.of (s13 _ _ (sF _ _ el)), atI_nat (j := 0) hya, aa, _, 1, _, rfl, rfl, SqT.of (s13 _ _ (sF _ _ ea)), atI_nat (j := 1) rfl, ?_⟩
        refine ⟨_, rfl, l, ys, 1, _, rfl, rfl, SqL.of (s13 _ _ (sF _ _ el)), atI_nat (j := 1) hyb, ab, _, 1, _, rfl, rfl, SqT.of (s13 _ _ (sF _ _ eb)), atI_nat (j := 1) rfl, ?_⟩
        refine ⟨s, na, nb, rfl, h1, hw.1.1, hw.2.1.1, fun n en H4 s4 => ?_, fun en H4 s4 => ?_⟩
        · refine ⟨by show 3 ≤ sizeLine; decide, fun t nt => ?_⟩
          have s14 := s13.trans s4
          refine qN (.int n nowO) (by rw [pr, en]; rfl) _ _ (s14.trans (same_new nt _)) ?_
          unfold TmAt
          exact ⟨t, _, rfl, ov_new (s14.free nt) upd_same, .inr ⟨rfl, rfl⟩⟩
        · exact qE (by rw [pr, en]; rfl) H4 (s13.trans s4)
      · refine if_false_of (by cases hq : PyData.eqv (.list (xs.map fun t => PyData.str (kind t))) (.list [.str "int", .str "int"]) with
          | false => rfl
          | true => exact absurd ((kinds2 "int" "int" xs).mp hq) h2) ?_
        exact ⟨p, rfl, s13, fail fun z => h2 z.2⟩
    · refine if_false_of ?_ ?_
      · simp only [List.mem_cons, List.not_mem_nil, or_false] at h1
        have : ∀ z : Str, s ≠ z → (eqV (V.str z) (V.str s)) = false := fun z hz => by
          unfold eqV
          simp [Ne.symm hz]
        simp only [inV, List.any_cons, List.any_nil, this "+" (fun z => h1 (.inl z)), this "-" (fun z => h1 (.inr (.inl z))), this "*" (fun z => h1 (.inr (.inr (.inl z)))), this "<" (fun z => h1 (.inr (.inr (.inr (.inl z))))), this "=" (fun z => h1 (.inr (.inr (.inr (.inr z)))))]
        rfl
      exact ⟨p, rfl, s1.trans s2, fail fun z => h1 z.1⟩
  rintro σ H2 ⟨p2, rfl, s2, hf⟩
  exact qE hf H2 s2
end
end Sg

namespace Sg
open PySem PySem.Spec PyProof.Rows L2 Evl
open C8 (Cal pe_c)
variable [Now]
/-! ### called, applied, by_rule -/
theorem bindM_snoc : ∀ {is : List Int} {xs : List Tm} {m : Int → Option Tm} {j : Int} {x : Tm}, is.length = xs.length → bindM m (is ++ [j]) (xs ++ [x]) = upT (bindM m is xs) j x
  | [], [], m, j, x, _ => rfl
  | [], _ :: _, m, j, x, h => by simp at h
  | _ :: _, [], m, j, x, h => by simp at h
  | i :: is, y :: xs, m, j, x, h => by
    show bindM (upT m i y) (is ++ [j]) (xs ++ [x]) = upT (bindM (upT m i y) is xs) j x
    exact bindM_snoc (by simpa using h)
def spCalled (CS : Addr) : Sp := fun vs H Q E => ∃ (F : Hp) (lp la d : Addr) (ids : List Int) (ys : List V) (xs : List Tm) (b : Tm) (vb : V) (kvs : List (Key × V)) (m : Int → Option Tm) (c : Int → Option V), vs = [.ref lp, vb, .ref la, .ref d] ∧ Same F H ∧ F lp = some (.lst (ids.map V.int)) ∧ TmAt F b vb ∧ F la = some (.lst ys) ∧ TmsAt F xs ys ∧ F d = some (.dK kvs) ∧ DG kvs c ∧ TC F m c ∧ kvs.length ≤ 1 ∧ ids.length ≤ 4 ∧ wok b ∧ msz b ≤ 8000 ∧
  (ids.length = xs.length → ∀ H' v, Same H H' → TmAt (ov F H H') (sub (bindM m ids xs) b) v → Q v H') ∧ (¬ ids.length = xs.length → ∀ H', Same H H' → E (.ref CS) none H')
def spApplied (CS : Addr) : Sp := fun vs H Q E => ∃ (F : Hp) (f : Tm) (vf : V) (l : Addr) (ys : List V) (xs : List Tm), vs = [vf, .ref l] ∧ Same F H ∧ TmAt F f vf ∧ F l = some (.lst ys) ∧ TmsAt F xs ys ∧ wok f ∧ msz f ≤ 8000 ∧ woks xs ∧ xs.length ≤ 3000 ∧
  (∀ u, applyR f xs = some u → ∀ H' v, Same H H' → TmAt (ov F H H') u v → Q v H') ∧ (applyR f xs = none → ∀ H', Same H H' → E (.ref CS) none H')
def spByR (CS : Addr) : Sp := fun vs H Q E => ∃ (F : Hp) (t : Tm) (v : V), vs = [v] ∧ Same F H ∧ TmAt F t v ∧ wok t ∧ gd t ∧ msz t ≤ 8000 ∧ (∀ u ∈ mvf t, isV u = true) ∧
  (∀ u, byR t = some u → ∀ H' v, Same H H' → TmAt (ov F H H') u v → Q v H') ∧ (byR t = none → ∀ H', Same H H' → E (.ref CS) none H')
theorem scCalled : FnScope ["parameters", "body", "args", "values", "given", "parameter", "value"] ["parameters", "body", "args", "values"] (defScope cCalled) := ⟨rfl, rfl, rfl, by decide +kernel, rfl, by decide +kernel, by decide +kernel⟩
theorem scApplied : FnScope ["function", "args"] ["function", "args"] (defScope cApplied) := ⟨rfl, rfl, rfl, by decide +kernel, rfl, by decide +kernel, by decide +kernel⟩
theorem scByR : FnScope ["term"] ["term"] (defScope cByRule) := ⟨rfl, rfl, rfl, by decide +kernel, rfl, by decide +kernel, by decide +kernel⟩
section
variable {P : Program} {w : World} {K : PySem.W.Frag} {mg : Str → Option Value} {base : Heap}
theorem ok_called {f CS : Addr} {fd : FuncData} {k : Nat} (F : Fun K "called" "called" cCalled f fd) (XS : ExC K mg CS "StuckError") (CP : Cal P w K mg base k "placed" spPlaced []) (m_len : mg "len" = none) (m_dict : mg "dict" = none) (m_zip : mg "zip" = none) : FnOk P w K mg base (L2.CX P w) (k + 1) f fd ["parameters", "body", "args", "values"] (spCalled CS) := by
  refine F.okX scCalled (fun vs H Q E h => ?_) (fun cdv A outer st H vs Q E hr h => ?_)
  · obtain ⟨F, lp, la, d, ids, ys, xs, b, vb, kvs, m, c, rfl, _⟩ := h
    rfl
  obtain ⟨Fh, lp, la, d, ids, ys, xs, b, vb, kvs, m, c, rfl, sF, ep, tb, el, tx, ed, dg, tc, hk1, hi4, hw, hz, qN, qE⟩ := h
  have hu : (A.deeper (envOfC "called" (defScope cCalled) st.heap.objs.size f cdv)).units + 1 < cLine := by
    have := hr.units
    omega
  refine ⟨_, (pss_cons (ps_if (pt_cmpR op_ne (pe_callB call_len_seq (by rfl) m_len PySem.boot_len (pa_cons (pv 2) pa_nil)) (pe_callB call_len_seq (by rfl) m_len PySem.boot_len (pa_cons (pv 0) pa_nil)) (nomark _)) (pss_one (ps_raise rfl (takes_of rfl rfl rfl rfl) (pmk_own PySem.F.excBase_ValueError XS.x XS.g XS.k (raises_own XS.b XS.t) (by rfl)))) pss_nil)
    (pss_cons (ps_set (i := 4) scCalled.nd rfl (.inl rfl) (pe_callTy call_dictD (by rfl) m_dict PyProof.Rows.boot_dict (pa_cons (pv 3) pa_nil)))
    (pss_cons (ps_for (passes_of rfl) rfl (pi_zip (by rfl) m_zip (pa_cons (pv 0) (pa_cons (pv 2) pa_nil))) (pg_tup rfl (pgs_cons (pg_name (i := 5) scCalled.nd rfl (.inl rfl)) (pgs_cons (pg_name (i := 6) scCalled.nd rfl (.inl rfl)) pgs_nil))) (pss_one (ps_dput hu (pv 4) (pv 5) (pv 6) (by rfl))))
    (pss_one (ps_ret (pe_c CP hr (Nat.le_refl _) (by rfl) (pa_cons (pv 1) (pa_cons (pv 4) pa_nil)))))))), ?_⟩
  have lx := tx.len
  refine ⟨_, rfl, la, ys, rfl, .inl (SqL.of (sF _ _ el)), _, rfl, lp, _, rfl, .inl (SqL.of (sF _ _ ep)), rfl, _, rfl, ?_⟩
  by_cases hl : ids.length = xs.length
  · refine if_false_of ?_ ?_
    · have : (V.int (ys.length : Nat)) = V.int ((ids.map V.int).length : Nat) := by
        rw [List.length_map, hl, lx]
      simp [this]
    refine ⟨_, rfl, d, kvs, rfl, .inl (sF _ _ ed), fun g ng => ?_⟩
    have s1 : Same H (upd H g (.dK kvs)) := same_new ng _
    have e1 : (upd H g (.dK kvs)) g = some (.dK kvs) := upd_same
    generalize upd H g (.dK kvs) = H1 at s1 e1
    have sF1 := sF.trans s1
    refine ⟨_, rfl, _, rfl, lp, la, _, ys, rfl, SqL.of (sF1 _ _ ep), SqL.of (sF1 _ _ el), ?_⟩
    have gF : Fh g = none := sF.free ng
    refine for_it (walk_zip (K := K) (a := lp) (b := la) (xs := ids.map V.int) (ys := ys) (n := ids.length) (by rw [List.length_map]; omega)) (fun i σ H' => ∃ (y5 y6 : Option V) (kg : List (Key × V)) (cg : Int → Option V), σ = [some (.ref lp), some vb, some (.ref la), some (.ref d), some (.ref g), y5, y6] ∧ Same H H' ∧ H' g = some (.dK kg) ∧ DG kg cg ∧ TC Fh (bindM m (ids.take i) (xs.take i)) cg ∧ kg.length ≤ 1 + i)
      ⟨none, none, kvs, c, rfl, s1, e1, dg, by simpa [bindM] using tc, by omega⟩ (fun i σ H' _ ⟨_, _, _, _, _, s, _⟩ => ⟨SqL.of (s _ _ (sF _ _ ep)), SqL.of (s _ _ (sF _ _ el))⟩) ?_ ?_
    · rintro i x σ H' H'' hi ⟨y5, y6, kg, cg, rfl, sm, eg, dgg, tcg, lg⟩ ⟨T, x1, x2, rfl, nT, rfl, h1, h2⟩
      obtain ⟨z, hz1, rfl⟩ := get_map h1
      obtain ⟨u, hu1, tu⟩ := tx.get h2
      have gT : g ≠ T := ne_of_none eg nT
      refine ⟨T, _, rfl, SqT.of upd_same, rfl, ?_⟩
      refine ⟨_, _, rfl, _, _, rfl, rfl, ?_⟩
      refine ⟨_, rfl, _, rfl, _, rfl, g, _, rfl, DPut.k (k := (Sum.inl z : Key)) (by rw [upd_ne gT]; exact eg) (smallL (by omega)), ?_⟩
      refine ⟨_, _, _, _, rfl, same_mut (sm.trans (same_new nT _)) ng _, upd_same, dgg.put, ?_, Nat.le_trans (length_putK kg (Sum.inl z : Key) x2) (by omega)⟩
      rw [List.take_add_one, List.take_add_one, hz1, hu1]
      show TC Fh (bindM m (ids.take i ++ [z]) (xs.take i ++ [u])) _
      rw [bindM_snoc (by rw [List.length_take, List.length_take]; omega)]
      exact tcg.up tu
    rintro σ H2 ⟨y5, y6, kg, cg, rfl, s2, eg, dgg, tcg, lg⟩
    rw [List.take_length, hl, List.take_length] at tcg
    have sG : Same (ov Fh H H2) H2 := ov_in sF s2
    refine ⟨_, rfl, _, rfl, ov Fh H H2, b, vb, g, kg, _, cg, rfl, sG, TmAt.same (ov_base sF) _ _ tb, ov_new ng eg, dgg, tcg.same (ov_base sF), by omega, hw, hz, fun H3 v s3 tv => qN hl H3 v (s2.trans s3) (TmAt.same (ov_ov sF s2 s3) _ _ tv)⟩
  · refine if_true_of ?_ ?_
    · have : ¬ (V.int (ys.length : Nat)) = V.int ((ids.map V.int).length : Nat) := fun z => hl (by
        injection z with z
        rw [List.length_map] at z
        omega)
      show (!decide (V.int (ys.length : Nat) = V.int ((ids.map V.int).length : Nat))) = true
      rw [decide_eq_false this]
      rfl
    exact qE hl H (Same.refl H)
theorem ok_applied {f CS : Addr} {fd : FuncData} {k : Nat} (F : Fun K "applied" "applied" cApplied f fd) (XS : ExC K mg CS "StuckError") (CC : CalX P w K mg base k "called" (spCalled CS)) (CM : CalX P w K mg base k "made_by_primitive" (spMbp CS)) : FnOk P w K mg base (L2.CX P w) (k + 1) f fd ["function", "args"] (spApplied CS) := by
  refine F.okX scApplied (fun vs H Q E h => ?_) (fun cdv A outer st H vs Q E hr h => ?_)
  · obtain ⟨F, f, vf, l, ys, xs, rfl, _⟩ := h
    rfl
  obtain ⟨Fh, fn, vf, l, ys, xs, rfl, sF, tf, ey, tx, hw, hz, hwx, hn, qN, qE⟩ := h
  refine ⟨_, (pss_cons (ps_if (pt_cmpR op_eq (pe_ix ix_tup (pv 0) pe_int (fun _ _ => rfl)) pe_str (nomark _)) (pss_one (ps_ret (pe_cX CC hr (Nat.le_refl _) rfl (takes_of rfl rfl rfl rfl) (pa_cons (pe_ix ix_tup (pv 0) pe_int (fun _ _ => rfl)) (pa_cons (pe_ix ix_tup (pv 0) pe_int (fun _ _ => rfl)) (pa_cons (pv 1) (pa_cons pe_dnewK pa_nil))))))) pss_nil)
    (pss_cons (ps_if (pt_cmpR op_eq (pe_ix ix_tup (pv 0) pe_int (fun _ _ => rfl)) pe_str (nomark _)) (pss_one (ps_ret (pe_cX CC hr (Nat.le_refl _) rfl (takes_of rfl rfl rfl rfl) (pa_cons (pe_ix ix_tup (pv 0) pe_int (fun _ _ => rfl)) (pa_cons (pe_ix ix_tup (pv 0) pe_int (fun _ _ => rfl)) (pa_cons (pv 1) (pa_cons (pe_disp (pps_cons (pe_ix ix_tup (pv 0) pe_int (fun _ _ => rfl)) (pv 0) pps_nil) (by rfl) (by rfl) (fun z => by cases z) (by decide)) pa_nil))))))) pss_nil)
    (pss_cons (ps_if (pt_cmpR op_eq (pe_ix ix_tup (pv 0) pe_int (fun _ _ => rfl)) pe_str (nomark _)) (pss_one (ps_ret (pe_cX CM hr (Nat.le_refl _) rfl (takes_of rfl rfl rfl rfl) (pa_cons (pe_ix ix_tup (pv 0) pe_int (fun _ _ => rfl)) (pa_cons (pv 1) pa_nil))))) pss_nil)
    (pss_one (ps_raise rfl (takes_of rfl rfl rfl rfl) (pmk_own PySem.F.excBase_ValueError XS.x XS.g XS.k (raises_own XS.b XS.t) (by rfl))))))), ?_⟩
  cases fn with
  | int n o =>
    unfold TmAt at tf
    obtain ⟨a, wo1, rfl, ea, og⟩ := tf
    refine ⟨_, rfl, a, _, 0, _, rfl, rfl, SqT.of (sF _ _ ea), at0, rfl, _, rfl, ?_⟩
    refine if_false_of (str_ne (show ("int" : Str) ≠ "fn" by decide +kernel)) ?_
    refine ⟨_, rfl, a, _, 0, _, rfl, rfl, SqT.of (sF _ _ ea), at0, rfl, _, rfl, ?_⟩
    refine if_false_of (str_ne (show ("int" : Str) ≠ "rec" by decide +kernel)) ?_
    refine ⟨_, rfl, a, _, 0, _, rfl, rfl, SqT.of (sF _ _ ea), at0, rfl, _, rfl, ?_⟩
    refine if_false_of (str_ne (show ("int" : Str) ≠ "prim" by decide +kernel)) ?_
    exact qE (by simp only [applyR]) H (Same.refl H)
  | prim s o =>
    unfold TmAt at tf
    obtain ⟨a, wo1, rfl, ea, og⟩ := tf
    refine ⟨_, rfl, a, _, 0, _, rfl, rfl, SqT.of (sF _ _ ea), at0, rfl, _, rfl, ?_⟩
    refine if_false_of (str_ne (show ("prim" : Str) ≠ "fn" by decide +kernel)) ?_
    refine ⟨_, rfl, a, _, 0, _, rfl, rfl, SqT.of (sF _ _ ea), at0, rfl, _, rfl, ?_⟩
    refine if_false_of (str_ne (show ("prim" : Str) ≠ "rec" by decide +kernel)) ?_
    refine ⟨_, rfl, a, _, 0, _, rfl, rfl, SqT.of (sF _ _ ea), at0, rfl, _, rfl, ?_⟩
    refine if_true_of str_eq ?_
    refine ⟨_, rfl, a, _, 1, _, rfl, rfl, SqT.of (sF _ _ ea), atI_nat (j := 1) rfl, _, rfl, ?_⟩
    exact ⟨Fh, s, l, ys, xs, rfl, sF, ey, tx, hwx, hn, fun u e H' v s1 tv => qN u (by simp only [applyR]; exact e) H' v s1 tv, fun e H' s1 => qE (by simp only [applyR]; exact e) H' s1⟩
  | ref i o =>
    unfold TmAt at tf
    obtain ⟨a, wo1, rfl, ea, og⟩ := tf
    refine ⟨_, rfl, a, _, 0, _, rfl, rfl, SqT.of (sF _ _ ea), at0, rfl, _, rfl, ?_⟩
    refine if_false_of (str_ne (show ("ref" : Str) ≠ "fn" by decide +kernel)) ?_
    refine ⟨_, rfl, a, _, 0, _, rfl, rfl, SqT.of (sF _ _ ea), at0, rfl, _, rfl, ?_⟩
    refine if_false_of (str_ne (show ("ref" : Str) ≠ "rec" by decide +kernel)) ?_
    refine ⟨_, rfl, a, _, 0, _, rfl, rfl, SqT.of (sF _ _ ea), at0, rfl, _, rfl, ?_⟩
    refine if_false_of (str_ne (show ("ref" : Str) ≠ "prim" by decide +kernel)) ?_
    exact qE (by simp only [applyR]) H (Same.refl H)
  | fn ids b o =>
    unfold TmAt at tf
    obtain ⟨a, l0, u, wo1, rfl, ea, el, tb, og⟩ := tf
    refine ⟨_, rfl, a, _, 0, _, rfl, rfl, SqT.of (sF _ _ ea), at0, rfl, _, rfl, ?_⟩
    refine if_true_of str_eq ?_
    simp only [wok, msz] at hw hz
    refine ⟨_, rfl, a, _, 1, _, rfl, rfl, SqT.of (sF _ _ ea), atI_nat (j := 1) rfl, _, rfl, a, _, 2, _, rfl, rfl, SqT.of (sF _ _ ea), atI_nat (j := 2) rfl, _, rfl, fun d nd => ?_⟩
    have sd : Same H (upd H d (.dK [])) := same_new nd _
    refine ⟨ov Fh H (upd H d (.dK [])), l0, l, d, ids, ys, xs, b, u, [], fun _ => none, fun _ => none, rfl, ov_in sF sd, ov_base sF _ _ el, TmAt.same (ov_base sF) _ _ tb, ov_base sF _ _ ey, TmsAt.same (ov_base sF) _ _ tx, ov_new nd upd_same, DG.nil, TC.nil, by decide, by omega, hw.2.2.1, by omega, fun e H' v s tv => qN _ (by simp only [applyR]; rw [if_pos e]) H' v (sd.trans s) (TmAt.same (ov_ov sF sd s) _ _ tv), fun e H' s => qE (by simp only [applyR]; rw [if_neg e]) H' (sd.trans s)⟩
  | rc i ids b o =>
    unfold TmAt at tf
    obtain ⟨a, l0, u, wo1, rfl, ea, el, tb, og⟩ := tf
    refine ⟨_, rfl, a, _, 0, _, rfl, rfl, SqT.of (sF _ _ ea), at0, rfl, _, rfl, ?_⟩
    refine if_false_of (str_ne (show ("rec" : Str) ≠ "fn" by decide +kernel)) ?_
    refine ⟨_, rfl, a, _, 0, _, rfl, rfl, SqT.of (sF _ _ ea), at0, rfl, _, rfl, ?_⟩
    refine if_true_of str_eq ?_
    have tfv : TmAt Fh (.rc i ids b o) (.ref a) := by
      unfold TmAt
      exact ⟨a, l0, u, wo1, rfl, ea, el, tb, og⟩
    simp only [wok, msz] at hw hz
    refine ⟨_, rfl, a, _, 2, _, rfl, rfl, SqT.of (sF _ _ ea), atI_nat (j := 2) rfl, _, rfl, a, _, 3, _, rfl, rfl, SqT.of (sF _ _ ea), atI_nat (j := 3) rfl, _, rfl, fun d nd => ?_⟩
    have sd : Same H (upd H d (.dK [])) := same_new nd _
    refine ⟨_, rfl, a, _, 1, _, rfl, rfl, SqT.of (sd _ _ (sF _ _ ea)), atI_nat (j := 1) rfl, _, rfl, upd_same, [((Sum.inl i : Key), .ref a)], rfl, by show 1 ≤ 15; decide, ?_⟩
    have e2 : mergeK [] [((Sum.inl i : Key), V.ref a)] = putK [] (Sum.inl i : Key) (.ref a) := rfl
    rw [e2]
    have sd2 : Same H (upd (upd H d (.dK [])) d (.dK (putK [] (Sum.inl i : Key) (.ref a)))) := same_mut sd nd _
    refine ⟨ov Fh H (upd (upd H d (.dK [])) d (.dK (putK [] (Sum.inl i : Key) (.ref a)))), l0, l, d, ids, ys, xs, b, u, _, upT (fun _ => none) i (.rc i ids b o), _, rfl, ov_in sF sd2, ov_base sF _ _ el, TmAt.same (ov_base sF) _ _ tb, ov_base sF _ _ ey, TmsAt.same (ov_base sF) _ _ tx, ov_new nd upd_same, DG.nil.put, TC.nil.up (TmAt.same (ov_base sF) _ _ tfv), by show 1 ≤ 1; decide, by omega, hw.2.2.2.1, by omega, fun e H' v s tv => qN _ (by simp only [applyR]; rw [if_pos e]) H' v (sd2.trans s) (TmAt.same (ov_ov sF sd2 s) _ _ tv), fun e H' s => qE (by simp only [applyR]; rw [if_neg e]) H' (sd2.trans s)⟩
  | lt i x b o =>
    unfold TmAt at tf
    obtain ⟨a, u1, u2, wo1, rfl, ea, t1, t2, og⟩ := tf
    refine ⟨_, rfl, a, _, 0, _, rfl, rfl, SqT.of (sF _ _ ea), at0, rfl, _, rfl, ?_⟩
    refine if_false_of (str_ne (show ("let" : Str) ≠ "fn" by decide +kernel)) ?_
    refine ⟨_, rfl, a, _, 0, _, rfl, rfl, SqT.of (sF _ _ ea), at0, rfl, _, rfl, ?_⟩
    refine if_false_of (str_ne (show ("let" : Str) ≠ "rec" by decide +kernel)) ?_
    refine ⟨_, rfl, a, _, 0, _, rfl, rfl, SqT.of (sF _ _ ea), at0, rfl, _, rfl, ?_⟩
    refine if_false_of (str_ne (show ("let" : Str) ≠ "prim" by decide +kernel)) ?_
    exact qE (by simp only [applyR]) H (Same.refl H)
  | ite x y z o =>
    unfold TmAt at tf
    obtain ⟨a, u1, u2, u3, wo1, rfl, ea, t1, t2, t3, og⟩ := tf
    refine ⟨_, rfl, a, _, 0, _, rfl, rfl, SqT.of (sF _ _ ea), at0, rfl, _, rfl, ?_⟩
    refine if_false_of (str_ne (show ("if" : Str) ≠ "fn" by decide +kernel)) ?_
    refine ⟨_, rfl, a, _, 0, _, rfl, rfl, SqT.of (sF _ _ ea), at0, rfl, _, rfl, ?_⟩
    refine if_false_of (str_ne (show ("if" : Str) ≠ "rec" by decide +kernel)) ?_
    refine ⟨_, rfl, a, _, 0, _, rfl, rfl, SqT.of (sF _ _ ea), at0, rfl, _, rfl, ?_⟩
    refine if_false_of (str_ne (show ("if" : Str) ≠ "prim" by decide +kernel)) ?_
    exact qE (by simp only [applyR]) H (Same.refl H)
  | app f xs0 o =>
    unfold TmAt at tf
    obtain ⟨a, u, l0, vs0, wo1, rfl, ea, el, t1, t2, og⟩ := tf
    refine ⟨_, rfl, a, _, 0, _, rfl, rfl, SqT.of (sF _ _ ea), at0, rfl, _, rfl, ?_⟩
    refine if_false_of (str_ne (show ("app" : Str) ≠ "fn" by decide +kernel)) ?_
    refine ⟨_, rfl, a, _, 0, _, rfl, rfl, SqT.of (sF _ _ ea), at0, rfl, _, rfl, ?_⟩
    refine if_false_of (str_ne (show ("app" : Str) ≠ "rec" by decide +kernel)) ?_
    refine ⟨_, rfl, a, _, 0, _, rfl, rfl, SqT.of (sF _ _ ea), at0, rfl, _, rfl, ?_⟩
    refine if_false_of (str_ne (show ("app" : Str) ≠ "prim" by decide +kernel)) ?_
    exact qE (by simp only [applyR]) H (Same.refl H)
  | pair x y o =>
    unfold TmAt at tf
    obtain ⟨a, u1, u2, wo1, rfl, ea, t1, t2, og⟩ := tf
    refine ⟨_, rfl, a, _, 0, _, rfl, rfl, SqT.of (sF _ _ ea), at0, rfl, _, rfl, ?_⟩
    refine if_false_of (str_ne (show ("pair" : Str) ≠ "fn" by decide +kernel)) ?_
    refine ⟨_, rfl, a, _, 0, _, rfl, rfl, SqT.of (sF _ _ ea), at0, rfl, _, rfl, ?_⟩
    refine if_false_of (str_ne (show ("pair" : Str) ≠ "rec" by decide +kernel)) ?_
    refine ⟨_, rfl, a, _, 0, _, rfl, rfl, SqT.of (sF _ _ ea), at0, rfl, _, rfl, ?_⟩
    refine if_false_of (str_ne (show ("pair" : Str) ≠ "prim" by decide +kernel)) ?_
    exact qE (by simp only [applyR]) H (Same.refl H)
theorem ok_byR {f CS : Addr} {fd : FuncData} {k : Nat} (F : Fun K "by_rule" "by_rule" cByRule f fd) (hk : 2 ≤ k) (hN : NowOk K) (XS : ExC K mg CS "StuckError") (CA : CalX P w K mg base k "applied" (spApplied CS)) (CP : Cal P w K mg base k "placed" spPlaced []) : FnOk P w K mg base (L2.CX P w) (k + 1) f fd ["term"] (spByR CS) := by
  refine F.okX scByR (fun vs H Q E h => ?_) (fun cdv A outer st H vs Q E hr h => ?_)
  · obtain ⟨F, t, v, rfl, _⟩ := h
    rfl
  obtain ⟨Fh, t, v, rfl, sF, ta, hw, hg, hz, hv, qN, qE⟩ := h
  have hu230 : (A.deeper (envOfC "by_rule" (defScope cByRule) st.heap.objs.size f cdv)).units + 230 < cLine := by
    have := hr.un
    omega
  refine ⟨_, (pss_cons (ps_if (pt_cmpR op_eq (pe_ix ix_tup (pv 0) pe_int (fun _ _ => rfl)) pe_str (nomark _)) (pss_one (ps_ret (pe_c CP hr (Nat.le_refl _) (by rfl) (pa_cons (pe_ix ix_tup (pv 0) pe_int (fun _ _ => rfl)) (pa_cons (pe_disp (pps_cons (pe_ix ix_tup (pv 0) pe_int (fun _ _ => rfl)) (pe_ix ix_tup (pv 0) pe_int (fun _ _ => rfl)) pps_nil) (by rfl) (by rfl) (fun z => by cases z) (by decide)) pa_nil))))) pss_nil)
    (pss_cons (ps_if (pt_cmpR op_eq (pe_ix ix_tup (pv 0) pe_int (fun _ _ => rfl)) pe_str (nomark _)) (pss_one (ps_ret (pe_ifExp (pt_cmpR (op_eqW hu230) (pe_slice sl_tup (pe_ix ix_tup (pv 0) pe_int (fun _ _ => rfl)) po_none (po_some pe_int)) (pe_tup (pa_cons pe_str (pa_cons pe_int pa_nil))) (nomark _)) (pe_ix ix_tup (pv 0) pe_int (fun _ _ => rfl)) (pe_ix ix_tup (pv 0) pe_int (fun _ _ => rfl))))) pss_nil)
    (pss_cons (ps_if (pt_cmpR op_eq (pe_ix ix_tup (pv 0) pe_int (fun _ _ => rfl)) pe_str (nomark _)) (pss_one (ps_ret (pe_cX CA hr (Nat.le_refl _) rfl (takes_of rfl rfl rfl rfl) (pa_cons (pe_ix ix_tup (pv 0) pe_int (fun _ _ => rfl)) (pa_cons (pe_ix ix_tup (pv 0) pe_int (fun _ _ => rfl)) pa_nil))))) pss_nil)
    (pss_one (ps_raise rfl (takes_of rfl rfl rfl rfl) (pmk_own PySem.F.excBase_ValueError XS.x XS.g XS.k (raises_own XS.b XS.t) (by rfl))))))), ?_⟩
  cases t with
  | int n o =>
    have tav := ta
    unfold TmAt at ta
    obtain ⟨a, wo1, rfl, ea, og⟩ := ta
    refine ⟨_, rfl, a, _, 0, _, rfl, rfl, SqT.of (sF _ _ ea), at0, rfl, _, rfl, ?_⟩
    refine if_false_of (str_ne (show ("int" : Str) ≠ "let" by decide +kernel)) ?_
    refine ⟨_, rfl, a, _, 0, _, rfl, rfl, SqT.of (sF _ _ ea), at0, rfl, _, rfl, ?_⟩
    refine if_false_of (str_ne (show ("int" : Str) ≠ "if" by decide +kernel)) ?_
    refine ⟨_, rfl, a, _, 0, _, rfl, rfl, SqT.of (sF _ _ ea), at0, rfl, _, rfl, ?_⟩
    refine if_false_of (str_ne (show ("int" : Str) ≠ "app" by decide +kernel)) ?_
    exact qE rfl H (Same.refl H)
  | prim s o =>
    have tav := ta
    unfold TmAt at ta
    obtain ⟨a, wo1, rfl, ea, og⟩ := ta
    refine ⟨_, rfl, a, _, 0, _, rfl, rfl, SqT.of (sF _ _ ea), at0, rfl, _, rfl, ?_⟩
    refine if_false_of (str_ne (show ("prim" : Str) ≠ "let" by decide +kernel)) ?_
    refine ⟨_, rfl, a, _, 0, _, rfl, rfl, SqT.of (sF _ _ ea), at0, rfl, _, rfl, ?_⟩
    refine if_false_of (str_ne (show ("prim" : Str) ≠ "if" by decide +kernel)) ?_
    refine ⟨_, rfl, a, _, 0, _, rfl, rfl, SqT.of (sF _ _ ea), at0, rfl, _, rfl, ?_⟩
    refine if_false_of (str_ne (show ("prim" : Str) ≠ "app" by decide +kernel)) ?_
    exact qE rfl H (Same.refl H)
  | ref i o =>
    have tav := ta
    unfold TmAt at ta
    obtain ⟨a, wo1, rfl, ea, og⟩ := ta
    refine ⟨_, rfl, a, _, 0, _, rfl, rfl, SqT.of (sF _ _ ea), at0, rfl, _, rfl, ?_⟩
    refine if_false_of (str_ne (show ("ref" : Str) ≠ "let" by decide +kernel)) ?_
    refine ⟨_, rfl, a, _, 0, _, rfl, rfl, SqT.of (sF _ _ ea), at0, rfl, _, rfl, ?_⟩
    refine if_false_of (str_ne (show ("ref" : Str) ≠ "if" by decide +kernel)) ?_
    refine ⟨_, rfl, a, _, 0, _, rfl, rfl, SqT.of (sF _ _ ea), at0, rfl, _, rfl, ?_⟩
    refine if_false_of (str_ne (show ("ref" : Str) ≠ "app" by decide +kernel)) ?_
    exact qE rfl H (Same.refl H)
  | fn ids b o =>
    have tav := ta
    unfold TmAt at ta
    obtain ⟨a, l, u, wo1, rfl, ea, el, tb, og⟩ := ta
    refine ⟨_, rfl, a, _, 0, _, rfl, rfl, SqT.of (sF _ _ ea), at0, rfl, _, rfl, ?_⟩
    refine if_false_of (str_ne (show ("fn" : Str) ≠ "let" by decide +kernel)) ?_
    refine ⟨_, rfl, a, _, 0, _, rfl, rfl, SqT.of (sF _ _ ea), at0, rfl, _, rfl, ?_⟩
    refine if_false_of (str_ne (show ("fn" : Str) ≠ "if" by decide +kernel)) ?_
    refine ⟨_, rfl, a, _, 0, _, rfl, rfl, SqT.of (sF _ _ ea), at0, rfl, _, rfl, ?_⟩
    refine if_false_of (str_ne (show ("fn" : Str) ≠ "app" by decide +kernel)) ?_
    exact qE rfl H (Same.refl H)
  | rc i ids b o =>
    have tav := ta
    unfold TmAt at ta
    obtain ⟨a, l, u, wo1, rfl, ea, el, tb, og⟩ := ta
    refine ⟨_, rfl, a, _, 0, _, rfl, rfl, SqT.of (sF _ _ ea), at0, rfl, _, rfl, ?_⟩
    refine if_false_of (str_ne (show ("rec" : Str) ≠ "let" by decide +kernel)) ?_
    refine ⟨_, rfl, a, _, 0, _, rfl, rfl, SqT.of (sF _ _ ea), at0, rfl, _, rfl, ?_⟩
    refine if_false_of (str_ne (show ("rec" : Str) ≠ "if" by decide +kernel)) ?_
    refine ⟨_, rfl, a, _, 0, _, rfl, rfl, SqT.of (sF _ _ ea), at0, rfl, _, rfl, ?_⟩
    refine if_false_of (str_ne (show ("rec" : Str) ≠ "app" by decide +kernel)) ?_
    exact qE rfl H (Same.refl H)
  | lt i x b o =>
    have tav := ta
    unfold TmAt at ta
    obtain ⟨a, u1, u2, wo1, rfl, ea, t1, t2, og⟩ := ta
    refine ⟨_, rfl, a, _, 0, _, rfl, rfl, SqT.of (sF _ _ ea), at0, rfl, _, rfl, ?_⟩
    refine if_true_of str_eq ?_
    simp only [wok, msz] at hw hz
    refine ⟨_, rfl, a, _, 3, _, rfl, rfl, SqT.of (sF _ _ ea), atI_nat (j := 3) rfl, fun d nd => ?_⟩
    have sd : Same H (upd H d (.dK [])) := same_new nd _
    refine ⟨_, rfl, a, _, 1, _, rfl, rfl, SqT.of (sd _ _ (sF _ _ ea)), atI_nat (j := 1) rfl, _, rfl, a, _, 2, _, rfl, rfl, SqT.of (sd _ _ (sF _ _ ea)), atI_nat (j := 2) rfl, upd_same, [((Sum.inl i : Key), u1)], rfl, by show 1 ≤ 15; decide, ?_⟩
    have e2 : mergeK [] [((Sum.inl i : Key), u1)] = putK [] (Sum.inl i : Key) u1 := rfl
    rw [e2]
    have sd2 : Same H (upd (upd H d (.dK [])) d (.dK (putK [] (Sum.inl i : Key) u1))) := same_mut sd nd _
    refine ⟨ov Fh H (upd (upd H d (.dK [])) d (.dK (putK [] (Sum.inl i : Key) u1))), b, u2, d, _, upT (fun _ => none) i x, _, rfl, ov_in sF sd2, TmAt.same (ov_base sF) _ _ t2, ov_new nd upd_same, DG.nil.put, TC.nil.up (TmAt.same (ov_base sF) _ _ t1), by show 1 ≤ 3000; decide, hw.2.2.1, by omega, fun H' v s tv => qN _ rfl H' v (sd2.trans s) (TmAt.same (ov_ov sF sd2 s) _ _ tv)⟩
  | ite x y z o =>
    have tav := ta
    unfold TmAt at ta
    obtain ⟨a, u1, u2, u3, wo1, rfl, ea, t1, t2, t3, og⟩ := ta
    refine ⟨_, rfl, a, _, 0, _, rfl, rfl, SqT.of (sF _ _ ea), at0, rfl, _, rfl, ?_⟩
    refine if_false_of (str_ne (show ("if" : Str) ≠ "let" by decide +kernel)) ?_
    refine ⟨_, rfl, a, _, 0, _, rfl, rfl, SqT.of (sF _ _ ea), at0, rfl, _, rfl, ?_⟩
    refine if_true_of str_eq ?_
    have hvx := hv x (by simp [mvf])
    have key : ∃ (b : Addr) (k2 : Str) (y2 : V) (r : List V) (d2 : PyData), u1 = .ref b ∧ Fh b = some (.tup (.str k2 :: y2 :: r)) ∧ r ≠ [] ∧ Dp K Fh y2 d2 ∧ d2.canLay0 = true ∧ PyData.strOk k2 = true ∧ (PyData.eqv (.tuple [.str k2, d2]) (.tuple [.str "int", .int 0]) = isZ x) := by
      simp only [wok] at hw
      have hwx := hw.1
      cases x with
      | int n o =>
        unfold TmAt at t1
        obtain ⟨b, w1, rfl, eb, _⟩ := t1
        refine ⟨b, "int", _, _, .int n, rfl, eb, by simp, .int n, by simp [PyData.canLay0], by decide +kernel, ?_⟩
        simp [PyData.eqv, PyData.eqvAll, isZ]
        rfl
      | prim s o =>
        unfold TmAt at t1
        obtain ⟨b, w1, rfl, eb, _⟩ := t1
        simp only [wok] at hwx
        refine ⟨b, "prim", _, _, .str s, rfl, eb, by simp, .str s, strOk_of hwx.2.1, by decide +kernel, ?_⟩
        simp [PyData.eqv, PyData.eqvAll, isZ]
      | fn ids b0 o =>
        unfold TmAt at t1
        obtain ⟨b, l1, w0, w1, rfl, eb, el, _, _⟩ := t1
        refine ⟨b, "fn", _, _, .list (ids.map PyData.int), rfl, eb, by simp, .lst (SqL.of el) (dp_ints _), by simp only [PyData.canLay0]; exact ints_can _, by decide +kernel, ?_⟩
        simp [PyData.eqv, PyData.eqvAll, isZ]
      | rc i ids b0 o =>
        unfold TmAt at t1
        obtain ⟨b, l1, w0, w1, rfl, eb, _, _, _⟩ := t1
        refine ⟨b, "rec", _, _, .int i, rfl, eb, by simp, .int i, by simp [PyData.canLay0], by decide +kernel, ?_⟩
        have : (("rec" : Str) == "int") = false := by decide +kernel
        simp [PyData.eqv, PyData.eqvAll, isZ, this]
      | pair x1 x2 o =>
        unfold TmAt at t1
        obtain ⟨b, w0, w1, w2, rfl, eb, ty, _, _⟩ := t1
        simp only [wok] at hwx
        refine ⟨b, "pair", _, _, tmD x1, rfl, eb, by simp, dp_tm hN x1 _ ty, tm_canW x1 hwx.1, by decide +kernel, ?_⟩
        have : (("pair" : Str) == "int") = false := by decide +kernel
        simp [PyData.eqv, PyData.eqvAll, isZ, this]
      | ref i o => simp [isV] at hvx
      | lt i x b o => simp [isV] at hvx
      | ite x y z o => simp [isV] at hvx
      | app f xs o => simp [isV] at hvx
    obtain ⟨b, k2, y2, r, d2, rfl, eb, hr2, hd2, cl2, ok2, ez⟩ := key
    refine ⟨_, rfl, a, _, 1, _, rfl, rfl, SqT.of (sF _ _ ea), atI_nat (j := 1) rfl, _, rfl, b, _, rfl, SqT.of (sF _ _ eb), ?_, fun p np => ?_⟩
    · have hl : 1 ≤ r.length := Nat.one_le_iff_ne_zero.mpr fun z => hr2 (List.length_eq_zero_iff.mp z)
      intro z
      have z2 := z.2
      have e5 : HT.sIx (V.str k2 :: y2 :: r).length (V.str k2 :: y2 :: r).length (some 2) = 2 := by
        unfold HT.sIx
        simp
      rw [e5] at z2
      simp only [List.length_cons] at z2
      omega
    have ec : cutV (V.str k2 :: y2 :: r) none (some 2) = [.str k2, y2] := by
      unfold cutV HT.sIx
      simp
    rw [ec]
    have s1 : Same H (upd H p (.tup [.str k2, y2])) := same_new np _
    have e1 : (upd H p (.tup [.str k2, y2])) p = some (.tup [.str k2, y2]) := upd_same
    generalize upd H p (.tup [.str k2, y2]) = H1 at s1 e1
    refine ⟨by show 2 ≤ sizeLine; decide, fun p2 np2 => ?_⟩
    have s2 : Same H1 (upd H1 p2 (.tup [.str "int", .int 0])) := same_new np2 _
    have e2 : (upd H1 p2 (.tup [.str "int", .int 0])) p2 = some (.tup [.str "int", .int 0]) := upd_same
    generalize upd H1 p2 (.tup [.str "int", .int 0]) = H2 at s2 e2
    have s12 := s1.trans s2
    refine ⟨.tuple [.str k2, d2], .tuple [.str "int", .int 0], .tup (SqT.of (s2 _ _ e1)) (.cons (.str _) (.cons (Dp.same (sF.trans s12) _ _ hd2) .nil)), .tup (SqT.of e2) (.cons (.str _) (.cons (.int _) .nil)), by simp only [PyData.canLay0, PyData.canLayAll0, cl2, ok2]; rfl, by decide +kernel, Nat.le_trans (Nat.min_le_right _ _) (by decide), _, rfl, ?_⟩
    cases hz0 : isZ x with
    | true =>
      refine if_true_of (by rw [ez, hz0]) ?_
      refine ⟨_, rfl, a, _, 3, _, rfl, rfl, SqT.of ((sF.trans s12) _ _ ea), atI_nat (j := 3) rfl, ?_⟩
      exact qN z (by simp only [byR]; rw [if_pos hz0]) H2 _ s12 (TmAt.same (ov_base sF) _ _ t3)
    | false =>
      refine if_false_of (by rw [ez, hz0]) ?_
      refine ⟨_, rfl, a, _, 2, _, rfl, rfl, SqT.of ((sF.trans s12) _ _ ea), atI_nat (j := 2) rfl, ?_⟩
      exact qN y (by simp only [byR]; rw [if_neg (by rw [hz0]; decide)]) H2 _ s12 (TmAt.same (ov_base sF) _ _ t2)
  | app f xs o =>
    have tav := ta
    unfold TmAt at ta
    obtain ⟨a, u, l, vs, wo1, rfl, ea, el, t1, t2, og⟩ := ta
    refine ⟨_, rfl, a, _, 0, _, rfl, rfl, SqT.of (sF _ _ ea), at0, rfl, _, rfl, ?_⟩
    refine if_false_of (str_ne (show ("app" : Str) ≠ "let" by decide +kernel)) ?_
    refine ⟨_, rfl, a, _, 0, _, rfl, rfl, SqT.of (sF _ _ ea), at0, rfl, _, rfl, ?_⟩
    refine if_false_of (str_ne (show ("app" : Str) ≠ "if" by decide +kernel)) ?_
    refine ⟨_, rfl, a, _, 0, _, rfl, rfl, SqT.of (sF _ _ ea), at0, rfl, _, rfl, ?_⟩
    refine if_true_of str_eq ?_
    simp only [wok, gd, msz] at hw hg hz
    refine ⟨_, rfl, a, _, 1, _, rfl, rfl, SqT.of (sF _ _ ea), atI_nat (j := 1) rfl, _, rfl, a, _, 2, _, rfl, rfl, SqT.of (sF _ _ ea), atI_nat (j := 2) rfl, ?_⟩
    exact ⟨Fh, f, u, l, vs, xs, rfl, sF, t1, el, t2, hw.1, by omega, hw.2.1, hg.2.2, fun u2 e H' v s1 tv => qN u2 (by simp only [byR]; exact e) H' v s1 tv, fun e H' s1 => qE (by simp only [byR]; exact e) H' s1⟩
  | pair x y o =>
    have tav := ta
    unfold TmAt at ta
    obtain ⟨a, u1, u2, wo1, rfl, ea, t1, t2, og⟩ := ta
    refine ⟨_, rfl, a, _, 0, _, rfl, rfl, SqT.of (sF _ _ ea), at0, rfl, _, rfl, ?_⟩
    refine if_false_of (str_ne (show ("pair" : Str) ≠ "let" by decide +kernel)) ?_
    refine ⟨_, rfl, a, _, 0, _, rfl, rfl, SqT.of (sF _ _ ea), at0, rfl, _, rfl, ?_⟩
    refine if_false_of (str_ne (show ("pair" : Str) ≠ "if" by decide +kernel)) ?_
    refine ⟨_, rfl, a, _, 0, _, rfl, rfl, SqT.of (sF _ _ ea), at0, rfl, _, rfl, ?_⟩
    refine if_false_of (str_ne (show ("pair" : Str) ≠ "app" by decide +kernel)) ?_
    exact qE rfl H (Same.refl H)
end
end Sg

namespace Sg
open PySem PySem.Spec PyProof.Rows L2 Evl
open C8 (Cal pe_c)
variable [Now]
/-! ### stepped, step -/
def plug (P : List (Tm × Nat)) (r : Tm) : Tm := P.foldr (fun q r => rebT q.1 ((kids q.1).set q.2 r)) r
theorem plug_snoc (P : List (Tm × Nat)) (q : Tm × Nat) (r : Tm) : plug (P ++ [q]) r = plug P (rebT q.1 ((kids q.1).set q.2 r)) := by
  unfold plug
  rw [List.foldr_append]
  rfl
theorem plug_drop {P : List (Tm × Nat)} {j : Nat} {q : Tm × Nat} (h : P[j]? = some q) (r : Tm) : plug (P.drop j) r = rebT q.1 ((kids q.1).set q.2 (plug (P.drop (j + 1)) r)) := by
  have hj := (List.getElem?_eq_some_iff.mp h)
  obtain ⟨h1, h2⟩ := hj
  rw [List.drop_eq_getElem_cons h1, h2]
  rfl
theorem fst0_none : ∀ {ts : List Tm} {i : Nat}, fst0 ts i = none → ∀ t ∈ ts, isV t = true
  | [], i, _, t, h => by cases h
  | u :: ts, i, e, t, h => by
    rw [fst0_cons] at e
    cases hv : isV u with
    | true =>
      rw [hv, if_pos rfl] at e
      rcases List.mem_cons.mp h with z | z
      · rw [z]
        exact hv
      · exact fst0_none e t z
    | false =>
      rw [hv, if_neg (by decide)] at e
      cases e
theorem fst0_some : ∀ {ts : List Tm} {i k : Nat}, fst0 ts i = some k → i ≤ k ∧ (∀ j u, j < k - i → ts[j]? = some u → isV u = true) ∧ ∃ c, ts[k - i]? = some c ∧ isV c = false
  | [], i, k, e => by cases e
  | u :: ts, i, k, e => by
    rw [fst0_cons] at e
    cases hv : isV u with
    | true =>
      rw [hv, if_pos rfl] at e
      obtain ⟨h1, h2, c, h3, h4⟩ := fst0_some e
      have e1 : k - i = (k - (i + 1)) + 1 := by omega
      refine ⟨by omega, fun j x hj hx => ?_, c, ?_, h4⟩
      · cases j with
        | zero =>
          cases hx
          exact hv
        | succ j => exact h2 j x (by omega) hx
      · rw [e1]
        exact h3
    | false =>
      rw [hv, if_neg (by decide)] at e
      cases e
      refine ⟨Nat.le_refl _, fun j x hj => by omega, u, ?_, hv⟩
      rw [Nat.sub_self]
      rfl
theorem TmsAt.set {F : Hp} {r : Tm} {v : V} (h2 : TmAt F r v) : ∀ {ts : List Tm} {vs : List V} (k : Nat), TmsAt F ts vs → TmsAt F (ts.set k r) (vs.set k v)
  | [], vs, k, h => by
    unfold TmsAt at h
    rw [h]
    exact .nil
  | t :: ts, vs, k, h => by
    unfold TmsAt at h
    obtain ⟨w, s, rfl, h3, h4⟩ := h
    cases k with
    | zero =>
      show TmsAt F (r :: ts) (v :: s)
      exact .cons h2 h4
    | succ k =>
      show TmsAt F (t :: ts.set k r) (w :: s.set k v)
      exact .cons h3 (h4.set h2 k)
/-- a place on the way down -/
def ptAt (F : Hp) (q : Tm × Nat) (x : V) : Prop := ∃ a v, x = .ref a ∧ F a = some (.tup [v, .int (q.2 : Nat)]) ∧ TmAt F q.1 v
theorem ptAt.same {F F' : Hp} {q : Tm × Nat} {x : V} (e : Same F F') (h : ptAt F q x) : ptAt F' q x := by
  obtain ⟨a, v, h1, h2, h3⟩ := h
  exact ⟨a, v, h1, e _ _ h2, TmAt.same e _ _ h3⟩
theorem Alls2.get {α : Type} {R : α → V → Prop} : ∀ {xs : List α} {ys : List V} {i : Nat} {y : V}, Alls2 R xs ys → ys[i]? = some y → ∃ x, xs[i]? = some x ∧ R x y
  | [], ys, i, y, h, e => by
    unfold Alls2 at h
    rw [h] at e
    simp at e
  | x :: xs, ys, i, y, h, e => by
    unfold Alls2 at h
    obtain ⟨z, r, rfl, h2, h3⟩ := h
    cases i with
    | zero =>
      cases e
      exact ⟨x, rfl, h2⟩
    | succ i => exact Alls2.get (i := i) h3 e
def spStepped (CS : Addr) : Sp := fun vs H Q E => ∃ (F : Hp) (t : Tm) (v : V), vs = [v] ∧ Same F H ∧ TmAt F t v ∧ wok t ∧ gd t ∧ msz t ≤ 3000 ∧
  (∀ u, nxt t = some u → ∀ H' v, Same H H' → TmAt (ov F H H') u v → Q v H') ∧ (nxt t = none → ∀ H', Same H H' → E (.ref CS) none H')
def spCStep (CL CS : Addr) : Sp := fun vs H Q E => ∃ (F : Hp) (t : Tm) (v : V), vs = [v] ∧ Same F H ∧ TmAt F t v ∧ All3 t ∧ ¬ big t ∧
  (isV t = true → ∀ H', Same H H' → Q .non H') ∧ (isV t = false → nxt t = none → ∀ H', Same H H' → E (.ref CS) none H') ∧
  (isV t = false → ∀ u, nxt t = some u → big u → ∀ H', Same H H' → E (.ref CL) none H') ∧ (isV t = false → ∀ u, nxt t = some u → ¬ big u → ∀ H' v, Same H H' → TmAt (ov F H H') u v → Q v H')
theorem scStepped : FnScope ["term", "path", "at", "result", "outer", "place", "inner"] ["term"] (defScope cStepped) := ⟨rfl, rfl, rfl, by decide +kernel, rfl, by decide +kernel, by decide +kernel⟩
theorem scCStep : FnScope ["term", "after"] ["term"] (defScope cStep) := ⟨rfl, rfl, rfl, by decide +kernel, rfl, by decide +kernel, by decide +kernel⟩
section
variable {P : Program} {w : World} {K : PySem.W.Frag} {mg : Str → Option Value} {base : Heap}
theorem ok_stepped {f CS : Addr} {fd : FuncData} {k : Nat} (F : Fun K "stepped" "stepped" cStepped f fd) (CF : Cal P w K mg base k "first_to_be_made_a_value" spFst []) (CI : Cal P w K mg base k "inner_terms" spKids []) (CB : CalX P w K mg base k "by_rule" (spByR CS)) (CR : Cal P w K mg base k "rebuilt" spReb []) (m_reversed : mg "reversed" = none) : FnOk P w K mg base (L2.CX P w) (k + 1) f fd ["term"] (spStepped CS) := by
  refine F.okX scStepped (fun vs H Q E h => ?_) (fun cdv A outer st H vs Q E hr h => ?_)
  · obtain ⟨F, t, v, rfl, _⟩ := h
    rfl
  obtain ⟨Fh, t, v, rfl, sF, ta, hw, hg, hz, qN, qE⟩ := h
  refine ⟨_, (pss_cons (ps_set (i := 1) scStepped.nd rfl (.inl rfl) (pe_lst pa_nil))
    (pss_cons (ps_set (i := 2) scStepped.nd rfl (.inl rfl) (pe_c CF hr (Nat.le_refl _) (by rfl) (pa_cons (pv 0) pa_nil)))
    (pss_cons (ps_while (passes_of rfl) (pt_cmpR op_notN (pv 2) pe_non (nomark _)) (pss_cons (ps_expr (pe_bm PySem.F.plainAttrs_list PySem.F.slot_list_append PySem.F.type_list_append mt_append (pv 1) (pa_cons (pe_tup (pa_cons (pv 0) (pa_cons (pv 2) pa_nil))) pa_nil)))
    (pss_cons (ps_set (i := 0) scStepped.nd rfl (.inl rfl) (pe_ix ix_list (pe_c CI hr (Nat.le_refl _) (by rfl) (pa_cons (pv 0) pa_nil)) (pv 2) (fun _ _ => rfl)))
    (pss_one (ps_set (i := 2) scStepped.nd rfl (.inl rfl) (pe_c CF hr (Nat.le_refl _) (by rfl) (pa_cons (pv 0) pa_nil)))))))
    (pss_cons (ps_set (i := 3) scStepped.nd rfl (.inl rfl) (pe_cX CB hr (Nat.le_refl _) rfl (takes_of rfl rfl rfl rfl) (pa_cons (pv 0) pa_nil)))
    (pss_cons (ps_for (passes_of rfl) rfl (pi_reversed (by rfl) m_reversed (pa_cons (pv 1) pa_nil)) (pg_tup rfl (pgs_cons (pg_name (i := 4) scStepped.nd rfl (.inl rfl)) (pgs_cons (pg_name (i := 5) scStepped.nd rfl (.inl rfl)) pgs_nil))) (pss_cons (ps_set (i := 6) scStepped.nd rfl (.inl rfl) (pe_c CI hr (Nat.le_refl _) (by rfl) (pa_cons (pv 4) pa_nil)))
    (pss_cons (ps_asg (pv 3) (pg_sub (pv 6) (pv 5) set_list (fun _ => rfl)))
    (pss_one (ps_set (i := 3) scStepped.nd rfl (.inl rfl) (pe_c CR hr (Nat.le_refl _) (by rfl) (pa_cons (pv 4) (pa_cons (pv 6) pa_nil))))))))
    (pss_one (ps_ret (pv 3)))))))), ?_⟩
  refine ⟨by show 0 ≤ sizeLine; decide, fun pa npa => ?_⟩
  have s1 : Same H (upd H pa (.lst [])) := same_new npa _
  have e1 : (upd H pa (.lst [])) pa = some (.lst []) := upd_same
  generalize upd H pa (.lst []) = H1 at s1 e1
  refine ⟨_, rfl, Fh, t, v, rfl, sF.trans s1, ta, hg, by omega, fun H2 s2 => ?_⟩
  refine ⟨fun n σ H' => ∃ (c : Tm) (vc : V) (P : List (Tm × Nat)) (xs : List V) (y3 y4 y5 y6 : Option V), σ = [some vc, some (.ref pa), some (onV (fst0 (mvf c) 0)), y3, y4, y5, y6] ∧ Same H H' ∧ H' pa = some (.lst xs) ∧ Alls2 (ptAt (bs pa Fh H H')) P xs ∧ TmAt Fh c vc ∧ wok c ∧ gd c ∧ (nxt t = (nxt c).map (plug P)) ∧
      (∀ q ∈ P, wok q.1 ∧ gd q.1 ∧ msz q.1 ≤ 3000 ∧ q.2 < (kids q.1).length ∧ ∃ v, TmAt Fh q.1 v) ∧ n = msz c ∧ P.length + msz c ≤ msz t,
    ⟨msz t, t, v, [], [], _, _, _, _, rfl, s1.trans s2, s2 _ _ e1, .nil, ta, hw, hg, by cases nxt t <;> rfl, (fun q hq => by cases hq), rfl, by simp⟩, ?_⟩
  clear s1 e1 s2
  rintro n σ H3 ⟨c, vc, P, xs, y3, y4, y5, y6, rfl, sm, epa, tP, tc, wc, gc, hnx, hP, rfl, hlen⟩
  refine ⟨_, rfl, rfl, _, rfl, ?_⟩
  have gk := gd_kids gc
  have wk := wok_kids wc
  have zk := msz_kids c
  have lP := tP.len
  cases hf : fst0 (mvf c) 0 with
  | some kk =>
    obtain ⟨_, hbef, c', hc', hv'⟩ := fst0_some hf
    rw [Nat.sub_zero] at hbef hc'
    have hkc := mvf_kids hc'
    have hkl := (List.getElem?_eq_some_iff.mp hkc).1
    refine if_true_of rfl ?_
    refine ⟨_, fun _ _ z => z, ?_⟩
    -- path.append((term, at))
    refine ⟨_, rfl, .inl ⟨rfl, _, SqL.of epa⟩, ?_⟩
    refine ⟨_, rfl, _, rfl, by show 2 ≤ sizeLine; decide, fun a na => ?_⟩
    have s4 : Same H3 (upd H3 a (.tup [vc, onV (some kk)])) := same_new na _
    have ea : (upd H3 a (.tup [vc, onV (some kk)])) a = some (.tup [vc, .int (kk : Nat)]) := upd_same
    generalize upd H3 a (.tup [vc, onV (some kk)]) = H4 at s4 ea
    have apa : a ≠ pa := fun z => by
      rw [z, epa] at na
      cases na
    refine ⟨pa, _, _, rfl, rfl, s4 _ _ epa, by rw [lP]; exact smallL (by omega), ?_⟩
    have sm5 : Same H (upd H4 pa (.lst (xs ++ [.ref a]))) := same_mut (sm.trans s4) npa _
    have epa5 : (upd H4 pa (.lst (xs ++ [.ref a]))) pa = some (.lst (xs ++ [.ref a])) := upd_same
    have hb5 : Same (bs pa Fh H H3) (bs pa Fh H (upd H4 pa (.lst (xs ++ [.ref a])))) := by
      rw [bs_put]
      exact bs_up s4
    have ea5 : (bs pa Fh H (upd H4 pa (.lst (xs ++ [.ref a])))) a = some (.tup [vc, .int (kk : Nat)]) := by
      rw [bs_put]
      exact bs_new (sm.free na) apa ea
    generalize upd H4 pa (.lst (xs ++ [.ref a])) = H5 at sm5 epa5 hb5 ea5
    -- term = inner_terms(term)[at]
    refine ⟨_, rfl, Fh, c, vc, rfl, sF.trans sm5, tc, by omega, fun H6 p ks s6 n6 e6 tk => ?_⟩
    obtain ⟨v', hv6⟩ : ∃ y, ks[kk]? = some y := ⟨ks[kk]'(by rw [tk.len]; exact hkl), by simp⟩
    obtain ⟨c2, hc2, tc'⟩ := tk.get hv6
    rw [hkc] at hc2
    cases hc2
    refine ⟨_, rfl, p, ks, (kk : Nat), v', rfl, rfl, SqL.of e6, atI_nat hv6, ?_⟩
    have zc := mszs_get hkc
    have g' := gds_get gk.1 hkc
    have w' := woks_get wk.1 hkc
    refine ⟨_, rfl, Fh, c', v', rfl, (sF.trans sm5).trans s6, tc', g', by omega, fun H7 s7 => ?_⟩
    have sm7 := (sm5.trans s6).trans s7
    have b7 : Same (bs pa Fh H H5) (bs pa Fh H H7) := bs_up (s6.trans s7)
    refine ⟨msz c', by omega, c', v', P ++ [(c, kk)], xs ++ [.ref a], _, _, _, _, rfl, sm7, s7 _ _ (s6 _ _ epa5), ?_, tc', w', g', ?_, ?_, rfl, by rw [List.length_append]; simp only [List.length_singleton]; omega⟩
    · exact Alls2.app (.one ⟨a, vc, rfl, b7 _ _ ea5, TmAt.same (bs_base sF npa) _ _ tc⟩) (tP.mono fun _ _ z => z.same (hb5.trans b7))
    · rw [hnx, nxt_step (t := c) (c := c') (k := kk) (fun j u hj hu => by rw [← isV_rdy (gds_get gk.1 (mvf_kids hu))]; exact hbef j u hj hu) hc' (by rw [← isV_rdy g']; exact hv')]
      cases nxt c' with
      | none => rfl
      | some r => exact congrArg some (plug_snoc P (c, kk) r).symm
    · intro q hq
      rcases List.mem_append.mp hq with z | z
      · exact hP q z
      · rw [List.mem_singleton.mp z]
        exact ⟨wc, gc, (by show msz c ≤ 3000; omega), hkl, vc, tc⟩
  | none =>
    refine if_false_of rfl ?_
    have allv := fst0_none hf
    have hnc : nxt c = byR c := nxt_rule fun u hu => by
      obtain ⟨i, hi⟩ := List.getElem?_of_mem hu
      rw [← isV_rdy (gds_get gk.1 (mvf_kids hi))]
      exact allv u hu
    refine ⟨_, rfl, Fh, c, vc, rfl, sF.trans sm, tc, wc, gc, by omega, allv, fun u0 hu0 H4 v4 s4 t4 => ?_, fun hn H4 s4 => qE (by rw [hnx, hnc, hn]; rfl) H4 (sm.trans s4)⟩
    rw [hnc, hu0] at hnx
    have epa4 := s4 _ _ epa
    have sm4 := sm.trans s4
    refine ⟨_, rfl, pa, xs, rfl, SqL.of epa4, ?_⟩
    have sB : Same (bs pa Fh H H3) H3 := bs_in sF fun b o _ e => sm b o e
    refine for_it (walk_rev (K := K) (a := pa) (xs := xs)) (fun i σ H' => ∃ (vr : V) (y4 y5 y6 : Option V), σ = [some vc, some (.ref pa), some (onV none), some vr, y4, y5, y6] ∧ Same H4 H' ∧ TmAt (ov Fh H H') (plug (P.drop (P.length - i)) u0) vr)
      ⟨v4, _, _, _, rfl, Same.refl _, ?_⟩ (fun i σ H' _ ⟨_, _, _, _, _, s, _⟩ => SqL.of (s _ _ epa4)) ?_ ?_
    · rw [Nat.sub_zero, List.drop_length]
      exact TmAt.same (ov_tr sF sm) _ _ t4
    · rintro i x σ H5 H5' hi ⟨vr, y4, y5, y6, rfl, s5, t5⟩ ⟨rfl, hx⟩
      obtain ⟨q, hq, a, vq, rfl, ea, tq⟩ := tP.get hx
      have hqm := List.mem_of_getElem? hq
      obtain ⟨wq, gq, zq, hkq, _⟩ := hP q hqm
      have sm5 := sm4.trans s5
      have sB5 := (sB.trans s4).trans s5
      refine ⟨a, _, rfl, SqT.of (sB5 _ _ ea), rfl, ?_⟩
      refine ⟨_, _, rfl, _, _, rfl, rfl, ?_⟩
      have gkq := gd_kids gq
      -- inner = inner_terms(outer)
      refine ⟨_, rfl, ov Fh H H5', q.1, vq, rfl, ov_in sF sm5, TmAt.same (wo_sub.trans (ov_up (s4.trans s5))) _ _ tq, by omega, fun H6 p ks s6 n6 e6 tk => ?_⟩
      have lk := tk.len
      refine ⟨_, rfl, _, rfl, _, rfl, p, ks, (q.2 : Nat), q.2, rfl, rfl, e6, ixN_nat (by omega), ?_⟩
      have s7 : Same H5' (upd H6 p (.lst (ks.set q.2 vr))) := same_mut s6 n6 _
      have e7 : (upd H6 p (.lst (ks.set q.2 vr))) p = some (.lst (ks.set q.2 vr)) := upd_same
      generalize upd H6 p (.lst (ks.set q.2 vr)) = H7 at s7 e7
      refine ⟨_, rfl, _, rfl, ov Fh H H5', q.1, vq, p, ks.set q.2 vr, (kids q.1).set q.2 (plug (P.drop (P.length - i)) u0), rfl, (ov_in sF sm5).trans s7, TmAt.same (wo_sub.trans (ov_up (s4.trans s5))) _ _ tq, e7, tk.set t5 q.2, by rw [List.length_set], by omega, by have := (wok_kids wq).2; omega, fun H8 v8 s8 t8 => ?_⟩
      have il : P.length - 1 - i = xs.length - 1 - i := by omega
      refine ⟨v8, _, _, _, rfl, (s5.trans s7).trans s8, ?_⟩
      have ed : P.length - (i + 1) = xs.length - 1 - i := by omega
      rw [ed, plug_drop hq, show xs.length - 1 - i + 1 = P.length - i by omega]
      refine TmAt.same (fun b o z => ?_) _ _ t8
      rcases ov_of z with y | y
      · exact ov_new ((sm5.trans s7).free y.1) y.2
      · exact ov_up (s7.trans s8) b o y.2
    · rintro σ H5 ⟨vr, y4, y5, y6, rfl, s5, t5⟩
      rw [lP, Nat.sub_self, List.drop_zero] at t5
      exact ⟨_, rfl, qN (plug P u0) hnx H5 vr (sm4.trans s5) t5⟩
theorem ok_cstep {f CS CL : Addr} {fd : FuncData} {k : Nat} (F : Fun K "step" "step" cStep f fd) (CZ : CalX P w K mg base k "check_size" (spSize CL)) (CV : Cal P w K mg base k "is_value" spIsV []) (CS1 : CalX P w K mg base k "stepped" (spStepped CS)) (CFr : Cal P w K mg base k "fresh" spFresh []) : FnOk P w K mg base (L2.CX P w) (k + 1) f fd ["term"] (spCStep CL CS) := by
  refine F.okX scCStep (fun vs H Q E h => ?_) (fun cdv A outer st H vs Q E hr h => ?_)
  · obtain ⟨F, t, v, rfl, _⟩ := h
    rfl
  obtain ⟨Fh, t, v, rfl, sF, ta, h3, hb, q1, q2, q3, q4⟩ := h
  refine ⟨_, (pss_cons (ps_expr (pe_cX CZ hr (Nat.le_refl _) rfl (takes_of rfl rfl rfl rfl) (pa_cons (pv 0) pa_nil)))
    (pss_cons (ps_if (pt_val (pe_c CV hr (Nat.le_refl _) (by rfl) (pa_cons (pv 0) pa_nil))) (pss_one (ps_ret pe_non)) pss_nil)
    (pss_cons (ps_set (i := 1) scCStep.nd rfl (.inl rfl) (pe_cX CS1 hr (Nat.le_refl _) rfl (takes_of rfl rfl rfl rfl) (pa_cons (pv 0) pa_nil)))
    (pss_cons (ps_expr (pe_cX CZ hr (Nat.le_refl _) rfl (takes_of rfl rfl rfl rfl) (pa_cons (pv 1) pa_nil)))
    (pss_one (ps_ret (pe_c CFr hr (Nat.le_refl _) (by rfl) (pa_cons (pv 1) pa_nil)))))))), ?_⟩
  have hz : msz t ≤ 3000 := by
    unfold big at hb
    omega
  refine ⟨_, rfl, Fh, t, v, rfl, sF, ta, h3.g, fun _ H1 s1 => ?_, fun z => absurd z hb⟩
  refine ⟨_, rfl, Fh, t, v, rfl, sF.trans s1, ta, h3.g, by omega, fun H2 s2 => ⟨_, rfl, ?_⟩⟩
  have s12 := s1.trans s2
  cases hv : isV t with
  | true =>
    refine if_true_of rfl ?_
    exact q1 hv H2 s12
  | false =>
    refine if_false_of rfl ?_
    refine ⟨_, rfl, Fh, t, v, rfl, sF.trans s12, ta, h3.wk, h3.g, hz, fun u hu H3 v3 s3 t3 => ?_, fun hn H3 s3 => q2 hv hn H3 (s12.trans s3)⟩
    have u3 := nxt_ok t u hu h3
    have s13 := s12.trans s3
    have t3' : TmAt (ov Fh H H3) u v3 := TmAt.same (ov_tr sF s12) _ _ t3
    refine ⟨_, rfl, ov Fh H H3, u, v3, rfl, ov_in sF s13, t3', u3.g, fun hnb H4 s4 => ?_, fun hbu H4 s4 => q3 hv u hu hbu H4 (s13.trans s4)⟩
    have hzu : msz u ≤ 3000 := by
      unfold big at hnb
      omega
    refine ⟨_, rfl, ov Fh H H3, u, v3, rfl, (ov_in sF s13).trans s4, t3', u3.wk, by omega, fun H5 v5 s5 t5 => q4 hv u hu hnb H5 v5 ((s13.trans s4).trans s5) (TmAt.same (fun b o z => ?_) _ _ t5)⟩
    rcases ov_of z with y | y
    · exact ov_new ((s13.trans s4).free y.1) y.2
    · exact ov_up (s4.trans s5) b o y.2
end
end Sg

namespace Sg
open PySem PySem.Spec PyProof.Rows L2 Evl
open C8 (Cal pe_c)
variable [Now]
/-! ### run -/
/-- which clause takes which error -/
structure ExP (K : PySem.W.Frag) (CL CS : Addr) : Prop where
  ss : PySem.W.exmOne K (.ref CS) (.ref CS) = some true
  ls : PySem.W.exmOne K (.ref CL) (.ref CS) = some false
  ll : PySem.W.exmOne K (.ref CL) (.ref CL) = some true
def runL : Nat → Tm → List Tm × Str
  | 0, t => ([t], if isV t = true then "value" else "going")
  | n + 1, t => if isV t = true then ([t], "value") else match nxt t with
    | none => ([t], "stuck")
    | some u => if big u then ([t], "limit") else (t :: (runL n u).1, (runL n u).2)
def spRun : Sp := fun vs H Q _ => ∃ (F : Hp) (t : Tm) (v : V) (n : Nat), vs = [v, .int (n : Nat)] ∧ n ≤ 100 ∧ Same F H ∧ TmAt F t v ∧ All3 t ∧ ¬ big t ∧
  ∀ H' p l xs, Same H H' → H' p = some (.tup [.ref l, .str (runL n t).2]) → H' l = some (.lst xs) → TmsAt H' (runL n t).1 xs → Q (.ref p) H'
theorem scRun : FnScope ["term", "limit", "states", "_", "after"] ["term", "limit"] (defScope cRun) := ⟨rfl, rfl, rfl, by decide +kernel, rfl, by decide +kernel, by decide +kernel⟩
section
variable {P : Program} {w : World} {K : PySem.W.Frag} {mg : Str → Option Value} {base : Heap}
theorem ok_run {f CS CL : Addr} {fd : FuncData} {k : Nat} (F : Fun K "run" "run" cRun f fd) (XS : ExC K mg CS "StuckError") (XL : ExC K mg CL "LimitError") (XP : ExP K CL CS) (CS1 : CalX P w K mg base k "step" (spCStep CL CS)) (CFr : Cal P w K mg base k "fresh" spFresh []) (CV : Cal P w K mg base k "is_value" spIsV []) (m_range : mg "range" = none) : FnOk P w K mg base CX0 (k + 1) f fd ["term", "limit"] spRun := by
  refine F.ok scRun (fun vs H Q E h => ?_) (fun cdv A outer st H vs Q E hr h => ?_)
  · obtain ⟨F, t, v, n, rfl, _⟩ := h
    rfl
  obtain ⟨Fh, t, v, n, rfl, hn, sF, ta, h3, hb, q⟩ := h
  refine ⟨_, (pss_cons (ps_set (i := 2) scRun.nd rfl (.inl rfl) (pe_lst (pa_cons (pe_c CFr hr (Nat.le_refl _) (by rfl) (pa_cons (pv 0) pa_nil)) pa_nil)))
    (pss_cons (ps_try_many (Wout := fun _ _ _ _ => False) rfl rfl takes0 (fun W pn xe tk po => (pss_one (ps_for po rfl (pi_range1 (by rfl) m_range (pa_cons (pv 1) pa_nil)) (pg_name (i := 3) scRun.nd rfl (.inl rfl)) (pss_cons (ps_set (i := 4) scRun.nd rfl (.inl rfl) (by exact (pe_cX CS1 hr (Nat.le_refl _) rfl tk (by exact (pa_cons (pe_ix (ix_listK (K := K) rfl) (pv 2) (pe_un un_neg pe_int) (fun _ _ => rfl)) pa_nil)))))
    (pss_cons (ps_if (by exact (pt_cmpR op_isN (pv 4) pe_non (nomark _))) (pss_one (ps_ret (by exact (pe_tup (pa_cons (pv 2) (pa_cons pe_str pa_nil)))))) pss_nil)
    (pss_one (ps_expr (by exact (pe_bmK (K := K) rfl PySem.F.plainAttrs_list PySem.F.slot_list_append PySem.F.type_list_append mt_append (pv 2) (pa_cons (pv 4) pa_nil)))))))))) (.cons ⟨rfl, by decide, .inl XS.g⟩ (fun a oe cls d pn hz hf => (pss_one (ps_ret (pe_tup (pa_cons (pv 2) (pa_cons pe_str pa_nil)))))) (.cons ⟨rfl, by decide, .inl XL.g⟩ (fun a oe cls d pn hz hf => (pss_one (ps_ret (pe_tup (pa_cons (pv 2) (pa_cons pe_str pa_nil)))))) .nil)))
    (pss_one (ps_ret (pe_tup (pa_cons (pv 2) (pa_cons (pe_ifExp (pt_val (pe_c CV hr (Nat.le_refl _) (by rfl) (pa_cons (pe_ix ix_list (pv 2) (pe_un un_neg pe_int) (fun _ _ => rfl)) pa_nil))) pe_str pe_str) pa_nil))))))), ?_⟩
  have hz : msz t ≤ 3000 := by
    unfold big at hb
    omega
  refine ⟨_, rfl, Fh, t, v, rfl, sF, ta, h3.wk, by omega, fun H1 v1 s1 t1 => ?_⟩
  refine ⟨by show 1 ≤ sizeLine; decide, fun l nl => ?_⟩
  have nl0 := s1.free nl
  have s2 : Same H (upd H1 l (.lst [v1])) := s1.trans (same_new nl _)
  have e2 : (upd H1 l (.lst [v1])) l = some (.lst [v1]) := upd_same
  have t2 : TmsAt (bs l Fh H (upd H1 l (.lst [v1]))) [t] [v1] := .one (TmAt.same (fun b o z => by
    rw [bs_put]
    refine wo_in (fun y => ?_) z
    rw [y] at z
    rcases ov_of z with w | w
    · rw [nl] at w
      cases w.2
    · exact w.1 nl0) _ _ t1)
  generalize upd H1 l (.lst [v1]) = H2 at s2 e2 t2
  -- the end of each way
  have fin : ∀ (pre : List Tm) (c : Tm) (xs : List V) (H5 : Hp) (e : Str), Same H H5 → H5 l = some (.lst xs) → TmsAt (bs l Fh H H5) (pre ++ [c]) xs → (runL n t) = (pre ++ [c], e) → ∀ p, H5 p = none → Q (.ref p) (upd H5 p (.tup [.ref l, .str e])) := fun pre c xs H5 e sm el tx er p np => by
    have s6 : Same H5 (upd H5 p (.tup [.ref l, .str e])) := same_new np _
    refine q _ p l xs (sm.trans s6) (by rw [er]; exact upd_same) (s6 _ _ el) (by rw [er]; exact TmsAt.same ((bs_in sF fun b o _ y => sm b o y).trans s6) _ _ tx)
  refine ⟨_, rfl, n, rfl, by omega, by omega, ?_⟩
  refine for_range (lo := 0) (n := (n : Int).toNat) (fun i σ H' => ∃ (pre : List Tm) (c : Tm) (xs : List V) (y3 y4 : Option V), σ = [some v, some (.int (n : Nat)), some (.ref l), y3, y4] ∧ Same H H' ∧ H' l = some (.lst xs) ∧ TmsAt (bs l Fh H H') (pre ++ [c]) xs ∧ pre.length = i ∧ All3 c ∧ ¬ big c ∧ i ≤ n ∧ runL n t = (pre ++ (runL (n - i) c).1, (runL (n - i) c).2))
    ⟨[], t, [v1], none, none, rfl, s2, e2, t2, rfl, h3, hb, Nat.zero_le _, rfl⟩ ?_ ?_
  · rintro i σ H3 hi ⟨pre, c, xs, y3, y4, rfl, sm, el, tx, hpl, c3, hbc, hin, hrun⟩
    have hi2 : i < n := by simpa using hi
    have lx := tx.len
    rw [List.length_append, List.length_singleton] at lx
    obtain ⟨vc, hvc⟩ : ∃ y, xs[pre.length]? = some y := ⟨xs[pre.length]'(by omega), by simp⟩
    obtain ⟨c', hc', tc⟩ := tx.get hvc
    have ec : c' = c := by
      rw [List.getElem?_append_right (Nat.le_refl _), Nat.sub_self] at hc'
      cases hc'
      rfl
    subst ec
    have sB : Same (bs l Fh H H3) H3 := bs_in sF fun b o _ e => sm b o e
    have hr1 : n - i = (n - (i + 1)) + 1 := by omega
    rw [hr1] at hrun
    simp only [runL] at hrun
    refine ⟨_, rfl, _, rfl, l, xs, -1, vc, rfl, rfl, SqL.of el, atI_neg1 (n := pre.length) (by omega) hvc, ?_⟩
    refine ⟨bs l Fh H H3, c', vc, rfl, sB, tc, c3, hbc, fun hv H4 s4 => ?_, fun hv hn2 H4 s4 => ?_, fun hv u hu hbu H4 s4 => ?_, fun hv u hu hbu H4 v4 s4 t4 => ?_⟩
    · rw [if_pos hv] at hrun
      refine ⟨_, rfl, rfl, _, rfl, ?_⟩
      refine if_true_of rfl ?_
      refine ⟨_, rfl, by show 2 ≤ sizeLine; decide, fun p np => ?_⟩
      exact fin pre c' xs H4 "value" (sm.trans s4) (s4 _ _ el) (TmsAt.same (bs_up s4) _ _ tx) hrun p np
    · rw [if_neg (by rw [hv]; decide), hn2] at hrun
      refine ⟨true, XP.ss, fun _ a na => ?_, fun z => Bool.noConfusion z⟩
      refine ⟨_, rfl, by show 2 ≤ sizeLine; decide, fun p np => ?_⟩
      exact fin pre c' xs H4 "stuck" (sm.trans s4) (s4 _ _ el) (TmsAt.same (bs_up s4) _ _ tx) hrun p np
    · rw [if_neg (by rw [hv]; decide), hu] at hrun
      simp only [] at hrun
      rw [if_pos hbu] at hrun
      refine ⟨false, XP.ls, fun z => Bool.noConfusion z, fun _ => ⟨true, XP.ll, fun _ a na => ?_, fun z => Bool.noConfusion z⟩⟩
      refine ⟨_, rfl, by show 2 ≤ sizeLine; decide, fun p np => ?_⟩
      exact fin pre c' xs H4 "limit" (sm.trans s4) (s4 _ _ el) (TmsAt.same (bs_up s4) _ _ tx) hrun p np
    · rw [if_neg (by rw [hv]; decide), hu] at hrun
      simp only [] at hrun
      rw [if_neg hbu] at hrun
      obtain ⟨a4, r4, rfl, _⟩ := t4.head
      refine ⟨_, rfl, rfl, _, rfl, ?_⟩
      refine if_false_of rfl ?_
      have sm4 := sm.trans s4
      refine ⟨_, rfl, .inl ⟨rfl, _, SqL.of (s4 _ _ el)⟩, _, rfl, l, _, _, rfl, rfl, s4 _ _ el, smallL (by omega), ?_⟩
      refine ⟨pre ++ [c'], u, xs ++ [.ref a4], _, _, rfl, same_mut sm4 nl0 _, upd_same, ?_, by rw [List.length_append, hpl]; rfl, nxt_ok c' u hu c3, hbu, hi2, ?_⟩
      · rw [bs_put]
        refine TmsAt.snoc (TmAt.same (fun b o z => ?_) _ _ t4) (TmsAt.same (bs_up s4) _ _ tx)
        rcases ov_of z with y | y
        · exact bs_new (sm.free y.1) (fun w => by rw [w, el] at y; cases y.1) y.2
        · exact bs_up s4 b o y.2
      · rw [hrun]
        show (pre ++ (c' :: _), _) = _
        rw [List.append_assoc]
        rfl
  · rintro σ H3 ⟨pre, c, xs, y3, y4, rfl, sm, el, tx, hpl, c3, hbc, hin, hrun⟩
    have hnn : n - (n : Int).toNat = 0 := by simp
    rw [hnn] at hrun
    simp only [runL] at hrun
    have lx := tx.len
    rw [List.length_append, List.length_singleton] at lx
    obtain ⟨vc, hvc⟩ : ∃ y, xs[pre.length]? = some y := ⟨xs[pre.length]'(by omega), by simp⟩
    obtain ⟨c', hc', tc⟩ := tx.get hvc
    have ec : c' = c := by
      rw [List.getElem?_append_right (Nat.le_refl _), Nat.sub_self] at hc'
      cases hc'
      rfl
    subst ec
    have sB : Same (bs l Fh H H3) H3 := bs_in sF fun b o _ e => sm b o e
    have hz' : msz c' ≤ 3000 := by
      unfold big at hbc
      omega
    refine ⟨_, rfl, _, rfl, _, rfl, l, xs, -1, vc, rfl, rfl, SqL.of el, atI_neg1 (n := pre.length) (by omega) hvc, ?_⟩
    refine ⟨bs l Fh H H3, c', vc, rfl, sB, tc, c3.g, by omega, fun H4 s4 => ⟨_, rfl, ?_⟩⟩
    cases hv : isV c' with
    | true =>
      refine if_true_of rfl ?_
      rw [if_pos hv] at hrun
      refine ⟨by show 2 ≤ sizeLine; decide, fun p np => ?_⟩
      exact fin pre c' xs H4 "value" (sm.trans s4) (s4 _ _ el) (TmsAt.same (bs_up s4) _ _ tx) hrun p np
    | false =>
      refine if_false_of rfl ?_
      rw [if_neg (by rw [hv]; decide)] at hrun
      refine ⟨by show 2 ≤ sizeLine; decide, fun p np => ?_⟩
      exact fin pre c' xs H4 "going" (sm.trans s4) (s4 _ _ el) (TmsAt.same (bs_up s4) _ _ tx) hrun p np
end
end Sg

namespace Sg
open PySem PySem.Spec PyProof.Rows L2 Evl
open C8 (Cal pe_c)
variable [Now]
/-! ### the law's own: ready, prim -/
/-- a term, or the word stuck -/
def RAt (F : Hp) (r : Option Tm) (v : V) : Prop := match r with
  | none => v = .str "stuck"
  | some u => TmAt F u v
theorem RAt.same {F F' : Hp} {r : Option Tm} {v : V} (e : Same F F') (h : RAt F r v) : RAt F' r v := by
  cases r with
  | none => exact h
  | some u => exact TmAt.same e _ _ h
def spReady : Sp := fun vs H Q _ => ∃ (F : Hp) (t : Tm) (v : V), vs = [v] ∧ Same F H ∧ TmAt F t v ∧ ∀ H', Same H H' → Q (.bl (rdy t)) H'
def spPrim : Sp := fun vs H Q _ => ∃ (F : Hp) (s : Str) (l : Addr) (ys : List V) (xs : List Tm), vs = [.str s, .ref l] ∧ Same F H ∧ F l = some (.lst ys) ∧ TmsAt F xs ys ∧ woks xs ∧ xs.length ≤ 3000 ∧ ∀ H' v, Same H H' → RAt (ov F H H') (primR s xs) v → Q v H'
theorem scReady : FnScope ["t"] ["t"] (defScope sReady) := ⟨rfl, rfl, rfl, by decide +kernel, rfl, by decide +kernel, by decide +kernel⟩
theorem scPrim : FnScope ["name", "args", "o", "kinds", "arg", "a", "b", "due"] ["name", "args"] (defScope sPrim) := ⟨rfl, rfl, rfl, by decide +kernel, rfl, by decide +kernel, by decide +kernel⟩
theorem primR_none {s : Str} {xs : List Tm} (n1 : ¬ (s = "pair" ∧ xs.length = 2)) (n2 : ¬ (s = "head" ∧ ∃ x, xs = [x] ∧ kind x = "pair")) (n3 : ¬ (s = "tail" ∧ ∃ x, xs = [x] ∧ kind x = "pair"))
    (hf : ¬ (s ∈ (["+", "-", "*", "<", "="] : List Str) ∧ ∃ x y, xs = [x, y] ∧ kind x = "int" ∧ kind y = "int")) : primR s xs = none := by
  unfold primR
  split
  · rename_i h
    split
    · exact absurd ⟨h, rfl⟩ n1
    · rfl
  · split
    · rename_i h
      split
      · exact absurd ⟨h, _, rfl, rfl⟩ n2
      · rfl
    · split
      · rename_i h
        split
        · exact absurd ⟨h, _, rfl, rfl⟩ n3
        · rfl
      · split
        · rename_i a oa b ob
          cases e : arith s a b with
          | none => rfl
          | some n =>
            exfalso
            refine hf ⟨?_, _, _, rfl, rfl, rfl⟩
            unfold arith at e
            simp only [List.mem_cons, List.not_mem_nil, or_false]
            split at e
            · rename_i z
              exact .inr (.inr (.inr (.inl z)))
            · split at e
              · rename_i z
                exact .inr (.inr (.inr (.inr z)))
              · split at e
                · rename_i z
                  exact .inl z
                · split at e
                  · rename_i z
                    exact .inr (.inl z)
                  · split at e
                    · rename_i z
                      exact .inr (.inr (.inl z))
                    · cases e
        · rfl
theorem in5 {s : Str} (h : s ∈ (["+", "-", "*", "<", "="] : List Str)) : inV (V.str s) [.str "+", .str "-", .str "*", .str "<", .str "="] = true := by
  simp only [List.mem_cons, List.not_mem_nil, or_false] at h
  rcases h with z | z | z | z | z <;> rw [z] <;> decide +kernel
theorem out5 {s : Str} (h1 : ¬ s ∈ (["+", "-", "*", "<", "="] : List Str)) : inV (V.str s) [.str "+", .str "-", .str "*", .str "<", .str "="] = false := by
  simp only [List.mem_cons, List.not_mem_nil, or_false] at h1
  have this : ∀ z : Str, s ≠ z → (eqV (V.str z) (V.str s)) = false := fun z hz => by
    unfold eqV
    simp [Ne.symm hz]
  simp only [inV, List.any_cons, List.any_nil, this "+" (fun z => h1 (.inl z)), this "-" (fun z => h1 (.inr (.inl z))), this "*" (fun z => h1 (.inr (.inr (.inl z)))), this "<" (fun z => h1 (.inr (.inr (.inr (.inl z))))), this "=" (fun z => h1 (.inr (.inr (.inr (.inr z)))))]
  rfl
section
variable {P : Program} {w : World} {K : PySem.W.Frag} {mg : Str → Option Value} {base : Heap}
theorem ok_ready {f : Addr} {fd : FuncData} {k : Nat} (F : Fun K "_law_ready" "_law_ready" sReady f fd) : FnOk P w K mg base CX0 (k + 1) f fd ["t"] spReady := by
  refine F.ok scReady (fun vs H Q E h => ?_) (fun cdv A outer st H vs Q E hr h => ?_)
  · obtain ⟨F, t, v, rfl, _⟩ := h
    rfl
  obtain ⟨Fh, t, v, rfl, sF, ta, q⟩ := h
  refine ⟨_, (pss_one (ps_ret (pe_cmpR op_in_seq (pe_ix ix_tup (pv 0) pe_int (fun _ _ => rfl)) (pe_tup (pa_cons pe_str (pa_cons pe_str (pa_cons pe_str (pa_cons pe_str (pa_cons pe_str pa_nil)))))) rfl))), ?_⟩
  obtain ⟨a, rr, rfl, ea⟩ := ta.head
  refine ⟨_, rfl, a, _, 0, _, rfl, rfl, SqT.of (sF _ _ ea), at0, ?_⟩
  refine ⟨by show 5 ≤ sizeLine; decide, fun tp ntp => ?_⟩
  refine ⟨tp, _, rfl, .inr (SqT.of upd_same), rfl, rfl, ?_⟩
  have e : inV (V.str (kind t)) [.str "int", .str "prim", .str "fn", .str "rec", .str "pair"] = rdy t := by
    cases t <;> simp only [kind, rdy] <;> decide +kernel
  have g := q (upd H tp (.tup [.str "int", .str "prim", .str "fn", .str "rec", .str "pair"])) (same_new ntp _)
  rw [← e] at g
  exact g
theorem ok_prim {f : Addr} {fd : FuncData} {k : Nat} (F : Fun K "_law_prim" "_law_prim" sPrim f fd) (m_len : mg "len" = none) (m_int : mg "int" = none) : FnOk P w K mg base CX0 (k + 1) f fd ["name", "args"] spPrim := by
  refine F.ok scPrim (fun vs H Q E h => ?_) (fun cdv A outer st H vs Q E hr h => ?_)
  · obtain ⟨F, s, l, ys, xs, rfl, _⟩ := h
    rfl
  obtain ⟨Fh, s, l, ys, xs, rfl, sF, el, tx, hw, hn, q⟩ := h
  have hu : (A.deeper (envOfC "_law_prim" (defScope sPrim) st.heap.objs.size f cdv)).units + 1 < cLine := by
    have := hr.units
    omega
  refine ⟨_, pss_split 2 (pss_cons (ps_set (i := 2) scPrim.nd rfl (.inl rfl) (pe_tup (pa_cons (pe_un un_neg pe_int) (pa_cons (pe_tup pa_nil) (pa_cons (pe_un un_neg pe_int) pa_nil)))))
    (pss_one (ps_setLc (i := 3) (own := [("arg", 4)]) (g := gName 4) (tt := tYes) rfl scPrim.nd rfl rfl (sw_true rfl rfl (by decide) (by decide +kernel)) (pi_list (pv 1)) (blkOk_by (N := ["name", "args", "o", "kinds", "arg", "a", "b", "due"]) (sc := defScope sPrim) (by decide +kernel)) (fun _ _ _ _ _ => pg_name (i := 4) scPrim.nd rfl (Or.inl rfl)) (fun _ _ _ _ _ => pts_nil) (fun _ _ _ _ _ => (pe_ix (ix_tupK (K := K) rfl) (pv 4) pe_int (fun _ _ => rfl))))))
    (pss_split 1 (pss_one (ps_if (PW.pt (pw_and (pt_cmpR op_eq (pv 0) pe_str (nomark _)) (pw_and1 (pt_cmpR op_eq (pe_callB call_len_seq (by rfl) m_len PySem.boot_len (pa_cons (pv 1) pa_nil)) pe_int (nomark _))))) (pss_one (ps_ret (pe_tup (pa_cons pe_str (pa_cons (pe_ix ix_list (pv 1) pe_int (fun _ _ => rfl)) (pa_cons (pe_ix ix_list (pv 1) pe_int (fun _ _ => rfl)) (pa_cons (pv 2) pa_nil))))))) pss_nil))
    (pss_split 1 (pss_one (ps_if (PW.pt (pw_and (pt_cmpR op_in_seq (pv 0) (pe_tup (pa_cons pe_str (pa_cons pe_str pa_nil))) rfl) (pw_and1 (pt_cmpR (op_eqD hr.units) (pv 3) (pe_lst (pa_cons pe_str pa_nil)) (nomark _))))) (pss_one (ps_ret (pe_ix ix_tup (pe_ix ix_list (pv 1) pe_int (fun _ _ => rfl)) (pe_op op_add pe_int (pe_callTy call_int1 (by rfl) m_int PyProof.Rows.boot_int (pa_cons (pe_cmpR op_eq (pv 0) pe_str (nomark _)) pa_nil))) (fun _ _ => rfl)))) pss_nil))
    (pss_split 1 (pss_one (ps_if (PW.pt (pw_or (pt_cmpR op_notIn_seq (pv 0) (pe_tup (pa_cons pe_str (pa_cons pe_str (pa_cons pe_str (pa_cons pe_str (pa_cons pe_str pa_nil)))))) rfl) (pw_or1 (pt_cmpR (op_neD hr.units) (pv 3) (pe_lst (pa_cons pe_str (pa_cons pe_str pa_nil))) (nomark _))))) (pss_one (ps_ret pe_str)) pss_nil))
    (pss_cons (ps_set (i := 5) scPrim.nd rfl (.inl rfl) (pe_ix ix_tup (pe_ix ix_list (pv 1) pe_int (fun _ _ => rfl)) pe_int (fun _ _ => rfl)))
    (pss_cons (ps_set (i := 6) scPrim.nd rfl (.inl rfl) (pe_ix ix_tup (pe_ix ix_list (pv 1) pe_int (fun _ _ => rfl)) pe_int (fun _ _ => rfl)))
    (pss_cons (ps_set (i := 7) scPrim.nd rfl (.inl rfl) (pe_dget hu (pe_disp (pps_cons pe_str (pe_op op_add (pv 5) (pv 6)) (pps_cons pe_str (pe_op op_sub (pv 5) (pv 6)) (pps_cons pe_str (pe_op op_mul (pv 5) (pv 6)) (pps_cons pe_str (pe_callTy call_int1 (by rfl) m_int PyProof.Rows.boot_int (pa_cons (pe_cmpR op_lt (pv 5) (pv 6) (nomark _)) pa_nil)) (pps_cons pe_str (pe_callTy call_int1 (by rfl) m_int PyProof.Rows.boot_int (pa_cons (pe_cmpR op_eq (pv 5) (pv 6) (nomark _)) pa_nil)) pps_nil))))) (by rfl) (by rfl) (fun z => by cases z) (by decide)) (pv 0) (fun _ _ => rfl)))
    (pss_cons (ps_if (PW.pt (pw_or (pt_cmpR op_gt (pv 7) pe_int (nomark _)) (pw_or1 (pt_cmpR op_lt (pv 7) (pe_un un_neg pe_int) (nomark _))))) (pss_one (ps_ret pe_str)) pss_nil)
    (pss_one (ps_ret (pe_tup (pa_cons pe_str (pa_cons (pv 7) (pa_cons (pv 2) pa_nil))))))))))))), ?_⟩
  have lx := tx.len
  have gi : ∀ {i : Nat} {u : Tm}, xs[i]? = some u → ∃ y, ys[i]? = some y ∧ TmAt Fh u y := fun {i u} h => by
    have hi := (List.getElem?_eq_some_iff.mp h).1
    obtain ⟨y, hy⟩ : ∃ y, ys[i]? = some y := ⟨ys[i]'(by omega), by simp⟩
    obtain ⟨u2, h2, h3⟩ := tx.get hy
    rw [h] at h2
    cases h2
    exact ⟨y, hy, h3⟩
  have dpk : ∀ {G : Hp} {p : Addr}, G p = some (.lst (xs.map fun t => V.str (kind t))) → Dp K G (.ref p) (.list (xs.map fun t => PyData.str (kind t))) := fun {G p} e => by
    refine .lst (SqL.of e) ?_
    clear q tx hw hn lx gi e
    induction xs with
    | nil => exact .nil
    | cons x r ih => exact .cons (.str _) ih
  refine ⟨fun σ H' => ∃ p vo, σ = [some (.str s), some (.ref l), some vo, some (.ref p), none, none, none, none] ∧ Same H H' ∧ H' p = some (.lst (xs.map fun t => V.str (kind t))) ∧ OgAt (ov Fh H H') nowO vo, ?_, ?_⟩
  · refine qw_asg (F := Fh) (R := fun v G => OgAt G nowO v) ?_ sF (fun vo H1 e1 b1 => ?_)
    · refine (fw_tup (fwa_cons (fw_val (ev_un ev_c ru_neg)) (fwa_cons (fw_tup fwa_nil (fun vs _ h => by subst h; exact Nat.zero_le _)) (fwa_cons (fw_val (ev_un ev_c ru_neg)) fwa_nil))) (fun vs _ h => by obtain ⟨_, _, rfl, _, _, _, rfl, _, _, _, rfl, _, h⟩ := h; subst h; exact (by decide : (3 : Nat) ≤ 100000))).imp fun v G b => ?_
      obtain ⟨a, _, rfl, ea, _, _, rfl, rfl, _, _, rfl, ⟨c, _, rfl, ec, rfl⟩, _, _, rfl, rfl, rfl⟩ := b.now
      exact .inl ⟨a, c, rfl, ea, ec⟩
    refine w_asgL (F := Fh) (RL := Each ys.length fun i y _ => ∃ t, xs[i]? = some t ∧ y = .str (kind t)) ?_ (sF.trans e1) (fun p zs H2 np e2 hp b => ?_)
    · refine fwl_lcL _ (ev_var rfl) (SqL.of el) (by omega) (fun _ => by rfl) ?_
      intro i y hy
      obtain ⟨u, hu, tu⟩ := tx.get hy
      obtain ⟨a, r, rfl, ea⟩ := tu.head
      exact fw_ev (ev_op (ev_var rfl) ev_c (rv_ixT (SqT.of ea) at0)) fun _ _ => ⟨u, hu, rfl⟩
    have zz : zs = xs.map fun t => V.str (kind t) := by
      refine List.ext_getElem? fun i => ?_
      rw [List.getElem?_map]
      by_cases z : i < zs.length
      · have hz : zs[i]? = some zs[i] := by simp [z]
        obtain ⟨t, h1, h2⟩ := b.now.2 i _ hz
        rw [hz, h1, h2]
        rfl
      · rw [List.getElem?_eq_none (by omega), List.getElem?_eq_none (by have := b.now.1; omega)]
        rfl
    rw [zz] at hp
    exact ⟨p, vo, rfl, e1.trans e2, hp, b1 _ (ov_up e2)⟩
  rintro σ H1 ⟨p, vo, rfl, s1, hp, og⟩
  refine ⟨fun σ H' => H1 = H' ∧ σ = [some (.str s), some (.ref l), some vo, some (.ref p), none, none, none, none] ∧ ¬ (s = "pair" ∧ xs.length = 2), ?_, ?_⟩
  · refine ⟨_, rfl, rfl, _, rfl, ?_⟩
    by_cases h1 : s = "pair"
    · refine if_true_of (decide_eq_true (congrArg V.str h1)) ?_
      refine ⟨_, rfl, l, ys, rfl, .inl (SqL.of (s1 _ _ (sF _ _ el))), rfl, _, rfl, ?_⟩
      by_cases h2 : xs.length = 2
      · refine if_true_of (decide_eq_true (congrArg V.int (by omega))) ?_
        obtain ⟨x0, x1, rfl⟩ := len2 h2
        obtain ⟨y0, y1, rfl⟩ := len2 (show ys.length = 2 by omega)
        have t0 := gi (i := 0) rfl
        have t1 := gi (i := 1) rfl
        obtain ⟨_, e0, t0⟩ := t0
        obtain ⟨_, e1', t1⟩ := t1
        cases e0
        cases e1'
        have sG : Same (ov Fh H H1) H1 := ov_in sF s1
        have sFG : Same Fh (ov Fh H H1) := ov_base sF
        refine r_fw (F := ov Fh H H1) (fw_tup (fwa_cons (fw_val ev_c) (fwa_cons (fw_ev (ev_op (ev_var rfl) ev_c (rv_ixL (SqL.of (sFG _ _ el)) (atI_nat (j := 0) rfl))) (bx_tm (TmAt.same sFG _ _ t0))) (fwa_cons (fw_ev (ev_op (ev_var rfl) ev_c (rv_ixL (SqL.of (sFG _ _ el)) (atI_nat (j := 1) rfl))) (bx_tm (TmAt.same sFG _ _ t1))) (fwa_cons (fw_val (ev_var rfl)) fwa_nil)))) (fun vs _ h => by obtain ⟨_, _, rfl, _, _, _, rfl, _, _, _, rfl, _, _, _, rfl, _, h⟩ := h; subst h; exact (by decide : (4 : Nat) ≤ 100000))) sG (fun v H3 e3 b => ?_)
        obtain ⟨a, _, rfl, ea, _, _, rfl, rfl, _, _, rfl, g0, _, _, rfl, g1, _, _, rfl, rfl, rfl⟩ := b _ (ov_ov sF s1 e3)
        refine q H3 _ (s1.trans e3) ?_
        unfold primR
        rw [if_pos h1]
        show TmAt _ (.pair x0 x1 nowO) _
        unfold TmAt
        exact ⟨a, _, _, _, rfl, ea, g0, g1, og.same (ov_up e3)⟩
      · refine if_false_of (decide_eq_false fun z => h2 (by injection z; omega)) ?_
        exact ⟨rfl, rfl, fun z => h2 z.2⟩
    · refine if_false_of (decide_eq_false fun z => h1 (by injection z)) ?_
      exact ⟨rfl, rfl, fun z => h1 z.1⟩
  rintro σ _ ⟨rfl, rfl, n1⟩
  refine ⟨fun σ H' => σ = [some (.str s), some (.ref l), some vo, some (.ref p), none, none, none, none] ∧ Same H1 H' ∧ ¬ (s = "head" ∧ ∃ x, xs = [x] ∧ kind x = "pair") ∧ ¬ (s = "tail" ∧ ∃ x, xs = [x] ∧ kind x = "pair"), ?_, ?_⟩
  · refine ⟨_, rfl, by show 2 ≤ sizeLine; decide, fun p2 np2 => ?_⟩
    refine ⟨p2, _, rfl, .inr (SqT.of upd_same), rfl, rfl, _, rfl, ?_⟩
    have s2 : Same H1 (upd H1 p2 (.tup [.str "head", .str "tail"])) := same_new np2 _
    generalize upd H1 p2 (.tup [.str "head", .str "tail"]) = H2 at s2
    by_cases h1 : s = "head" ∨ s = "tail"
    · refine if_true_of (by rcases h1 with z | z <;> rw [z] <;> decide +kernel) ?_
      refine ⟨_, rfl, by show 1 ≤ sizeLine; decide, fun p3 np3 => ?_⟩
      have s3 : Same H2 (upd H2 p3 (.lst [.str "pair"])) := same_new np3 _
      have e3 : (upd H2 p3 (.lst [.str "pair"])) p3 = some (.lst [.str "pair"]) := upd_same
      generalize upd H2 p3 (.lst [.str "pair"]) = H3 at s3 e3
      refine ⟨_, .list [.str "pair"], dpk (s3 _ _ (s2 _ _ hp)), .lst (SqL.of e3) (.cons (.str _) .nil), kinds_shape xs, by decide +kernel, _, rfl, ?_⟩
      by_cases h2 : ∃ x, xs = [x] ∧ kind x = "pair"
      · refine if_true_of ((kinds1 "pair" xs).mpr h2) ?_
        obtain ⟨x, rfl, hk⟩ := h2
        obtain ⟨y, hy, ty⟩ := gi (i := 0) rfl
        obtain ⟨c, d, o, rfl⟩ := kind_pair hk
        unfold TmAt at ty
        obtain ⟨a, u1, u2, wo1, rfl, ea, tc, td, og2⟩ := ty
        have s13 := (s1.trans s2).trans s3
        refine ⟨_, rfl, l, ys, 0, _, rfl, rfl, SqL.of (s13 _ _ (sF _ _ el)), atI_nat (j := 0) hy, ?_⟩
        refine ⟨_, rfl, rfl, .inr ⟨_, rfl, ?_⟩⟩
        rcases h1 with z | z
        · refine ⟨_, _, rfl, rfl, a, _, 1, u1, rfl, ?_, SqT.of (s13 _ _ (sF _ _ ea)), atI_nat (j := 1) rfl, ?_⟩
          · rw [z]
            decide +kernel
          · refine q H3 _ s13 ?_
            unfold primR
            rw [if_neg (by rw [z]; decide +kernel), if_pos z]
            exact TmAt.same (ov_base sF) _ _ tc
        · refine ⟨_, _, rfl, rfl, a, _, 2, u2, rfl, ?_, SqT.of (s13 _ _ (sF _ _ ea)), atI_nat (j := 2) rfl, ?_⟩
          · rw [z]
            decide +kernel
          · refine q H3 _ s13 ?_
            unfold primR
            rw [if_neg (by rw [z]; decide +kernel), if_neg (by rw [z]; decide +kernel), if_pos z]
            exact TmAt.same (ov_base sF) _ _ td
      · refine if_false_of (by cases hq : PyData.eqv (.list (xs.map fun t => PyData.str (kind t))) (.list [.str "pair"]) with
          | false => rfl
          | true => exact absurd ((kinds1 "pair" xs).mp hq) h2) ?_
        exact ⟨rfl, s2.trans s3, fun z => h2 z.2, fun z => h2 z.2⟩
    · refine if_false_of ?_ ?_
      · have this : ∀ z : Str, s ≠ z → (eqV (V.str z) (V.str s)) = false := fun z hz => by
          unfold eqV
          simp [Ne.symm hz]
        show inV (V.str s) [.str "head", .str "tail"] = false
        simp only [inV, List.any_cons, List.any_nil, this "head" (fun z => h1 (.inl z)), this "tail" (fun z => h1 (.inr z))]
        rfl
      exact ⟨rfl, s2, fun z => h1 (.inl z.1), fun z => h1 (.inr z.1)⟩
  rintro σ H2 ⟨rfl, s12, n2, n3⟩
  have s2 := s1.trans s12
  have stuck : primR s xs = none → ∀ {G : Hp}, Same H G → Q (.str "stuck") G := fun e G sg => q G _ sg (by rw [e]; rfl)
  refine ⟨fun σ H' => σ = [some (.str s), some (.ref l), some vo, some (.ref p), none, none, none, none] ∧ Same H2 H' ∧ s ∈ (["+", "-", "*", "<", "="] : List Str) ∧ ∃ x y, xs = [x, y] ∧ kind x = "int" ∧ kind y = "int", ?_, ?_⟩
  · refine ⟨_, rfl, by show 5 ≤ sizeLine; decide, fun p3 np3 => ?_⟩
    refine ⟨p3, _, rfl, .inr (SqT.of upd_same), rfl, rfl, _, rfl, ?_⟩
    have s3 : Same H2 (upd H2 p3 (.tup [.str "+", .str "-", .str "*", .str "<", .str "="])) := same_new np3 _
    generalize upd H2 p3 (.tup [.str "+", .str "-", .str "*", .str "<", .str "="]) = H3 at s3
    by_cases h1 : s ∈ (["+", "-", "*", "<", "="] : List Str)
    · refine if_false_of (by show (!inV (V.str s) [.str "+", .str "-", .str "*", .str "<", .str "="]) = false; rw [in5 h1]; rfl) ?_
      refine ⟨_, rfl, by show 2 ≤ sizeLine; decide, fun p4 np4 => ?_⟩
      have s4 : Same H3 (upd H3 p4 (.lst [.str "int", .str "int"])) := same_new np4 _
      have e4 : (upd H3 p4 (.lst [.str "int", .str "int"])) p4 = some (.lst [.str "int", .str "int"]) := upd_same
      generalize upd H3 p4 (.lst [.str "int", .str "int"]) = H4 at s4 e4
      refine ⟨_, .list [.str "int", .str "int"], dpk (s4 _ _ (s3 _ _ (s12 _ _ hp))), .lst (SqL.of e4) (.cons (.str _) (.cons (.str _) .nil)), kinds_shape xs, by decide +kernel, _, rfl, ?_⟩
      by_cases h2 : ∃ x y, xs = [x, y] ∧ kind x = "int" ∧ kind y = "int"
      · refine if_false_of (by rw [(kinds2 "int" "int" xs).mpr h2]; rfl) ?_
        exact ⟨rfl, s3.trans s4, h1, h2⟩
      · refine if_true_of (by cases hq : PyData.eqv (.list (xs.map fun t => PyData.str (kind t))) (.list [.str "int", .str "int"]) with
          | false => rfl
          | true => exact absurd ((kinds2 "int" "int" xs).mp hq) h2) ?_
        exact stuck (primR_none n1 n2 n3 fun z => h2 z.2) (s2.trans (s3.trans s4))
    · refine if_true_of (by show (!inV (V.str s) [.str "+", .str "-", .str "*", .str "<", .str "="]) = true; rw [out5 h1]; rfl) ?_
      exact stuck (primR_none n1 n2 n3 fun z => h1 z.1) (s2.trans s3)
  rintro σ H3 ⟨rfl, s23, h5, x, y, rfl, hx, hy⟩
  have s3 := s2.trans s23
  obtain ⟨na, oa, rfl⟩ := kind_int hx
  obtain ⟨nb, ob, rfl⟩ := kind_int hy
  obtain ⟨ya, hya, ta⟩ := gi (i := 0) rfl
  obtain ⟨yb, hyb, tb⟩ := gi (i := 1) rfl
  unfold TmAt at ta tb
  obtain ⟨aa, wa, rfl, ea, _⟩ := ta
  obtain ⟨ab, wb, rfl, eb, _⟩ := tb
  simp only [woks, wok] at hw
  have pr : primR s [.int na oa, .int nb ob] = (arith s na nb).map fun n => .int n nowO := by
    unfold primR
    rw [if_neg (fun z => by rw [z] at h5; revert h5; decide +kernel), if_neg (fun z => by rw [z] at h5; revert h5; decide +kernel), if_neg (fun z => by rw [z] at h5; revert h5; decide +kernel)]
  rw [pr] at stuck q
  refine ⟨_, rfl, l, ys, 0, _, rfl, rfl, SqL.of (s3 _ _ (sF _ _ el)), atI_nat (j := 0) hya, aa, _, 1, _, rfl, rfl, SqT.of (s3 _ _ (sF _ _ ea)), atI_nat (j := 1) rfl, ?_⟩
  refine ⟨_, rfl, l, ys, 1, _, rfl, rfl, SqL.of (s3 _ _ (sF _ _ el)), atI_nat (j := 1) hyb, ab, _, 1, _, rfl, rfl, SqT.of (s3 _ _ (sF _ _ eb)), atI_nat (j := 1) rfl, ?_⟩
  intro pd npd
  refine ⟨_, rfl, _, rfl, _, _, rfl, rfl, ?_⟩
  refine ⟨_, rfl, _, rfl, _, _, rfl, rfl, ?_⟩
  refine ⟨_, rfl, _, rfl, _, _, rfl, rfl, .inl ⟨by omega, by omega⟩, ?_⟩
  refine ⟨_, rfl, _, rfl, _, _, rfl, rfl, .inr ⟨_, rfl, ?_⟩⟩
  refine ⟨_, rfl, _, rfl, rfl, .inr ⟨_, rfl, ?_⟩⟩
  have dtab : ∃ r : Int, valV (mergeK [] [((Sum.inr "+" : Key), V.int (na + nb)), (Sum.inr "-", V.int (na - nb)), (Sum.inr "*", V.int (na * nb)), (Sum.inr "<", V.int (if decide (na < nb) = true then 1 else 0)), (Sum.inr "=", V.int (if decide (V.int na = V.int nb) = true then 1 else 0))]) (Sum.inr s) = some (.int r) ∧ arith s na nb = if r > 999999999 ∨ r < -999999999 then none else some r := by
    simp only [List.mem_cons, List.not_mem_nil, or_false] at h5
    rcases h5 with z | z | z | z | z <;> rw [z]
    · refine ⟨na + nb, by rfl, ?_⟩
      unfold arith
      rw [if_neg (by decide +kernel), if_neg (by decide +kernel), if_pos rfl]
      split <;> split <;> first | rfl | omega
    · refine ⟨na - nb, by rfl, ?_⟩
      unfold arith
      rw [if_neg (by decide +kernel), if_neg (by decide +kernel), if_neg (by decide +kernel), if_pos rfl]
      split <;> split <;> first | rfl | omega
    · refine ⟨na * nb, by rfl, ?_⟩
      unfold arith
      rw [if_neg (by decide +kernel), if_neg (by decide +kernel), if_neg (by decide +kernel), if_neg (by decide +kernel), if_pos rfl]
      generalize na * nb = m
      split <;> split <;> first | rfl | omega
    · refine ⟨if na < nb then 1 else 0, ?_, ?_⟩
      · by_cases y : na < nb
        · rw [if_pos y, if_pos (decide_eq_true y)]
          rfl
        · rw [if_neg y, if_neg (by rw [decide_eq_false y]; decide)]
          rfl
      · unfold arith
        rw [if_pos rfl]
        split <;> rfl
    · refine ⟨if na = nb then 1 else 0, ?_, ?_⟩
      · by_cases y : na = nb
        · rw [if_pos y, if_pos (decide_eq_true (congrArg V.int y))]
          rfl
        · have y2 : ¬ (V.int na = V.int nb) := fun h => y (by injection h)
          rw [if_neg y, decide_eq_false y2]
          rfl
      · unfold arith
        rw [if_neg (by decide +kernel), if_pos rfl]
        split <;> rfl
  obtain ⟨r, hv, har⟩ := dtab
  refine ⟨upd_same, [((Sum.inr "+" : Key), V.int (na + nb)), (Sum.inr "-", V.int (na - nb)), (Sum.inr "*", V.int (na * nb)), (Sum.inr "<", V.int (if decide (na < nb) = true then 1 else 0)), (Sum.inr "=", V.int (if decide (V.int na = V.int nb) = true then 1 else 0))], rfl, by show 5 ≤ 15; decide, ?_⟩
  have s4 : Same H (upd (upd H3 pd (.dK [])) pd (.dK (mergeK [] [((Sum.inr "+" : Key), V.int (na + nb)), (Sum.inr "-", V.int (na - nb)), (Sum.inr "*", V.int (na * nb)), (Sum.inr "<", V.int (if decide (na < nb) = true then 1 else 0)), (Sum.inr "=", V.int (if decide (V.int na = V.int nb) = true then 1 else 0))]))) := same_mut (s3.trans (same_new npd _)) (s3.free npd) _
  have s34 : Same H3 (upd (upd H3 pd (.dK [])) pd (.dK (mergeK [] [((Sum.inr "+" : Key), V.int (na + nb)), (Sum.inr "-", V.int (na - nb)), (Sum.inr "*", V.int (na * nb)), (Sum.inr "<", V.int (if decide (na < nb) = true then 1 else 0)), (Sum.inr "=", V.int (if decide (V.int na = V.int nb) = true then 1 else 0))]))) := same_mut (same_new npd _) npd _
  refine ⟨_, rfl, pd, .int r, rfl, ?_, ?_⟩
  · have g := DGet.k (k := (Sum.inr s : Key)) (H := upd (upd H3 pd (.dK [])) pd (.dK (mergeK [] [((Sum.inr "+" : Key), V.int (na + nb)), (Sum.inr "-", V.int (na - nb)), (Sum.inr "*", V.int (na * nb)), (Sum.inr "<", V.int (if decide (na < nb) = true then 1 else 0)), (Sum.inr "=", V.int (if decide (V.int na = V.int nb) = true then 1 else 0))]))) upd_same
    rw [hv] at g
    exact g
  generalize upd (upd H3 pd (.dK [])) pd _ = H4 at s4 s34
  refine ⟨_, rfl, _, _, rfl, rfl, _, rfl, ?_⟩
  by_cases z1 : r > 999999999
  · refine if_true_of (decide_eq_true z1) ?_
    refine if_true_of rfl ?_
    exact stuck (by rw [har, if_pos (.inl z1)]; rfl) s4
  · refine if_false_of (decide_eq_false z1) ?_
    refine ⟨_, rfl, _, rfl, _, _, rfl, rfl, _, rfl, ?_⟩
    by_cases z2 : r < -999999999
    · refine if_true_of (decide_eq_true z2) ?_
      exact stuck (by rw [har, if_pos (.inr z2)]; rfl) s4
    · refine if_false_of (decide_eq_false z2) ?_
      have har2 : arith s na nb = some r := by rw [har, if_neg (fun z => z.elim z1 z2)]
      refine ⟨_, rfl, _, rfl, by show 3 ≤ sizeLine; decide, fun t nt => ?_⟩
      have s45 := same_new nt (.tup [.str "int", .int r, vo])
      refine q _ _ (s4.trans s45) ?_
      rw [har2]
      show TmAt _ (.int r nowO) _
      unfold TmAt
      have s25 := (s23.trans s34).trans s45
      exact ⟨t, vo, rfl, ov_new (s4.free nt) upd_same, og.same (ov_up (s12.trans s25))⟩
end
end Sg

namespace Sg
open PySem PySem.Spec PyProof.Rows L2 Evl
open C8 (Cal pe_c)
variable [Now]
/-! ### the law's own: apply, next -/
def spApply : Sp := fun vs H Q _ => ∃ (F : Hp) (f : Tm) (vf : V) (l : Addr) (ys : List V) (xs : List Tm), vs = [vf, .ref l] ∧ Same F H ∧ TmAt F f vf ∧ F l = some (.lst ys) ∧ TmsAt F xs ys ∧ wok f ∧ msz f ≤ 3000 ∧ mht f ≤ 100 ∧ woks xs ∧ xs.length ≤ 2999 ∧
  ∀ H' v, Same H H' → RAt (ov F H H') (applyR f xs) v → Q v H'
def spNext (n : Nat) : Sp := fun vs H Q _ => ∃ (F : Hp) (t : Tm) (v : V), vs = [v] ∧ Same F H ∧ TmAt F t v ∧ All3 t ∧ rdy t = false ∧ msz t ≤ 3000 ∧ mht t ≤ 100 ∧ mht t < n ∧ ∀ H' v, Same H H' → RAt (ov F H H') (nxt t) v → Q v H'
theorem scApply : FnScope ["f", "args", "ids", "body", "values", "k"] ["f", "args"] (defScope sApply) := ⟨rfl, rfl, rfl, by decide +kernel, rfl, by decide +kernel, by decide +kernel⟩
theorem scNext : FnScope ["t", "kind", "at", "inner", "rows", "k"] ["t"] (defScope sNext) := ⟨rfl, rfl, rfl, by decide +kernel, rfl, by decide +kernel, by decide +kernel⟩
theorem tm_ne_str (r : Tm) {s : Str} : PyData.eqv (tmD r) (.str s) = false := by
  cases r <;> simp only [tmD, PyData.eqv]
theorem next_none {f : Addr} {fd : FuncData} {P : Program} {w : World} {K : PySem.W.Frag} {mg : Str → Option Value} {base : Heap} {k : Nat} : FnOk P w K mg base CX0 k f fd ["t"] (spNext 0) := by
  have no : ∀ vs H Q E, ¬ spNext 0 vs H Q E := fun vs H Q E h => by
    obtain ⟨F, t, v, _, _, _, _, _, _, _, h1, _⟩ := h
    omega
  exact ⟨fun vs H Q E h => absurd h (no vs H Q E), fun A outer s H args us vs Q E _ _ _ _ h => absurd h (no vs H Q E)⟩
section
variable {P : Program} {w : World} {K : PySem.W.Frag} {mg : Str → Option Value} {base : Heap}
theorem ok_apply {f : Addr} {fd : FuncData} {k : Nat} (F : Fun K "_law_apply" "_law_apply" sApply f fd) (CPr : Cal P w K mg base k "_law_prim" spPrim []) (CPu : Cal P w K mg base k "_law_put" (spPut 102) []) (m_len : mg "len" = none) (m_range : mg "range" = none) : FnOk P w K mg base CX0 (k + 1) f fd ["f", "args"] spApply := by
  refine F.ok scApply (fun vs H Q E h => ?_) (fun cdv A outer st H vs Q E hr h => ?_)
  · obtain ⟨F, f, vf, l, ys, xs, rfl, _⟩ := h
    rfl
  obtain ⟨Fh, fn, vf, l, ys, xs, rfl, sF, tf, ey, tx, hw, hz, hh, hwx, hn, q⟩ := h
  have hu : (A.deeper (envOfC "_law_apply" (defScope sApply) st.heap.objs.size f cdv)).units + 1 < cLine := by
    have := hr.units
    omega
  refine ⟨_, pss_split 2 (pss_cons (ps_if (pt_cmpR op_eq (pe_ix ix_tup (pv 0) pe_int (fun _ _ => rfl)) pe_str (nomark _)) (pss_one (ps_ret (pe_c CPr hr (Nat.le_refl _) (by rfl) (pa_cons (pe_ix ix_tup (pv 0) pe_int (fun _ _ => rfl)) (pa_cons (pv 1) pa_nil))))) pss_nil)
    (pss_one (ps_if (pt_cmpR op_eq (pe_ix ix_tup (pv 0) pe_int (fun _ _ => rfl)) pe_str (nomark _)) (pss_one (ps_par3 (i := 2) (j := 3) (l := 4) rfl scApply.nd rfl rfl rfl (by decide) (by decide) (by decide) rfl rfl rfl (pa_cons (pe_ix ix_tup (pv 0) pe_int (fun _ _ => rfl)) (pa_cons (pe_ix ix_tup (pv 0) pe_int (fun _ _ => rfl)) (pa_cons pe_dnewK pa_nil))) (by rfl))) (pss_one (ps_if (pt_cmpR op_eq (pe_ix ix_tup (pv 0) pe_int (fun _ _ => rfl)) pe_str (nomark _)) (pss_cons (ps_par3 (i := 2) (j := 3) (l := 4) rfl scApply.nd rfl rfl rfl (by decide) (by decide) (by decide) rfl rfl rfl (pa_cons (pe_ix ix_tup (pv 0) pe_int (fun _ _ => rfl)) (pa_cons (pe_ix ix_tup (pv 0) pe_int (fun _ _ => rfl)) (pa_cons pe_dnewK pa_nil))) (by rfl))
    (pss_one (ps_dput hu (pv 4) (pe_ix ix_tup (pv 0) pe_int (fun _ _ => rfl)) (pv 0) (by rfl)))) (pss_one (ps_ret pe_str)))))))
    (pss_cons (ps_if (pt_cmpR op_ne (pe_callB call_len_seq (by rfl) m_len PySem.boot_len (pa_cons (pv 2) pa_nil)) (pe_callB call_len_seq (by rfl) m_len PySem.boot_len (pa_cons (pv 1) pa_nil)) (nomark _)) (pss_one (ps_ret pe_str)) pss_nil)
    (pss_cons (ps_for PassesOwn.never rfl (pi_range1 (by rfl) m_range (pa_cons (pe_callB call_len_seq (by rfl) m_len PySem.boot_len (pa_cons (pv 2) pa_nil)) pa_nil)) (pg_name (i := 5) scApply.nd rfl (.inl rfl)) (pss_one (ps_dput hu (pv 4) (pe_ix ix_list (pv 2) (pv 5) (fun _ _ => rfl)) (pe_ix ix_list (pv 1) (pv 5) (fun _ _ => rfl)) (by rfl))))
    (pss_one (ps_ret (pe_c CPu hr (Nat.le_refl _) (by rfl) (pa_cons (pv 3) (pa_cons (pv 4) pa_nil))))))), ?_⟩
  have lx := tx.len
  refine ⟨fun σ H' => ∃ (lp : Addr) (ids : List Int) (b : Tm) (vb : V) (d : Addr) (kvs : List (Key × V)) (m : Int → Option Tm) (c : Int → Option V), σ = [some vf, some (.ref l), some (.ref lp), some vb, some (.ref d), none] ∧ Same H H' ∧ Fh lp = some (.lst (ids.map V.int)) ∧ TmAt Fh b vb ∧ H' d = some (.dK kvs) ∧ H d = none ∧ DG kvs c ∧ TC Fh m c ∧ kvs.length ≤ 1 ∧ wok b ∧ msz b ≤ 8000 ∧ mht b < 102 ∧ applyR fn xs = (if ids.length = xs.length then some (sub (bindM m ids xs) b) else none), ?_, ?_⟩
  · cases fn with
    | int n o =>
      unfold TmAt at tf
      obtain ⟨a, wo1, rfl, ea, og⟩ := tf
      refine ⟨_, rfl, a, _, 0, _, rfl, rfl, SqT.of (sF _ _ ea), at0, rfl, _, rfl, ?_⟩
      refine if_false_of (str_ne (show ("int" : Str) ≠ "prim" by decide +kernel)) ?_
      refine ⟨_, rfl, a, _, 0, _, rfl, rfl, SqT.of (sF _ _ ea), at0, rfl, _, rfl, ?_⟩
      refine if_false_of (str_ne (show ("int" : Str) ≠ "fn" by decide +kernel)) ?_
      refine ⟨_, rfl, a, _, 0, _, rfl, rfl, SqT.of (sF _ _ ea), at0, rfl, _, rfl, ?_⟩
      refine if_false_of (str_ne (show ("int" : Str) ≠ "rec" by decide +kernel)) ?_
      exact q H _ (Same.refl H) (by simp only [applyR]; rfl)
    | prim s o =>
      unfold TmAt at tf
      obtain ⟨a, wo1, rfl, ea, og⟩ := tf
      refine ⟨_, rfl, a, _, 0, _, rfl, rfl, SqT.of (sF _ _ ea), at0, rfl, _, rfl, ?_⟩
      refine if_true_of str_eq ?_
      refine ⟨_, rfl, a, _, 1, _, rfl, rfl, SqT.of (sF _ _ ea), atI_nat (j := 1) rfl, _, rfl, ?_⟩
      exact ⟨Fh, s, l, ys, xs, rfl, sF, ey, tx, hwx, by omega, fun H' v s1 tv => q H' v s1 (by simp only [applyR]; exact tv)⟩
    | ref i o =>
      unfold TmAt at tf
      obtain ⟨a, wo1, rfl, ea, og⟩ := tf
      refine ⟨_, rfl, a, _, 0, _, rfl, rfl, SqT.of (sF _ _ ea), at0, rfl, _, rfl, ?_⟩
      refine if_false_of (str_ne (show ("ref" : Str) ≠ "prim" by decide +kernel)) ?_
      refine ⟨_, rfl, a, _, 0, _, rfl, rfl, SqT.of (sF _ _ ea), at0, rfl, _, rfl, ?_⟩
      refine if_false_of (str_ne (show ("ref" : Str) ≠ "fn" by decide +kernel)) ?_
      refine ⟨_, rfl, a, _, 0, _, rfl, rfl, SqT.of (sF _ _ ea), at0, rfl, _, rfl, ?_⟩
      refine if_false_of (str_ne (show ("ref" : Str) ≠ "rec" by decide +kernel)) ?_
      exact q H _ (Same.refl H) (by simp only [applyR]; rfl)
    | fn ids b o =>
      unfold TmAt at tf
      obtain ⟨a, l0, u, wo1, rfl, ea, el, tb, og⟩ := tf
      refine ⟨_, rfl, a, _, 0, _, rfl, rfl, SqT.of (sF _ _ ea), at0, rfl, _, rfl, ?_⟩
      refine if_false_of (str_ne (show ("fn" : Str) ≠ "prim" by decide +kernel)) ?_
      refine ⟨_, rfl, a, _, 0, _, rfl, rfl, SqT.of (sF _ _ ea), at0, rfl, _, rfl, ?_⟩
      refine if_true_of str_eq ?_
      simp only [wok, msz, mht] at hw hz hh
      refine ⟨_, rfl, a, _, 1, _, rfl, rfl, SqT.of (sF _ _ ea), atI_nat (j := 1) rfl, _, rfl, a, _, 2, _, rfl, rfl, SqT.of (sF _ _ ea), atI_nat (j := 2) rfl, fun d nd => ?_⟩
      refine ⟨_, _, _, rfl, ?_⟩
      have sd : Same H (upd H d (.dK [])) := same_new nd _
      exact ⟨l0, ids, b, u, d, [], fun _ => none, fun _ => none, rfl, sd, el, tb, upd_same, nd, DG.nil, TC.nil, by show 0 ≤ 1; decide, hw.2.2.1, by omega, by omega, by simp only [applyR]⟩
    | rc i ids b o =>
      unfold TmAt at tf
      obtain ⟨a, l0, u, wo1, rfl, ea, el, tb, og⟩ := tf
      refine ⟨_, rfl, a, _, 0, _, rfl, rfl, SqT.of (sF _ _ ea), at0, rfl, _, rfl, ?_⟩
      refine if_false_of (str_ne (show ("rec" : Str) ≠ "prim" by decide +kernel)) ?_
      refine ⟨_, rfl, a, _, 0, _, rfl, rfl, SqT.of (sF _ _ ea), at0, rfl, _, rfl, ?_⟩
      refine if_false_of (str_ne (show ("rec" : Str) ≠ "fn" by decide +kernel)) ?_
      refine ⟨_, rfl, a, _, 0, _, rfl, rfl, SqT.of (sF _ _ ea), at0, rfl, _, rfl, ?_⟩
      refine if_true_of str_eq ?_
      have tfv : TmAt Fh (.rc i ids b o) (.ref a) := by
        unfold TmAt
        exact ⟨a, l0, u, wo1, rfl, ea, el, tb, og⟩
      simp only [wok, msz, mht] at hw hz hh
      refine ⟨_, rfl, a, _, 2, _, rfl, rfl, SqT.of (sF _ _ ea), atI_nat (j := 2) rfl, _, rfl, a, _, 3, _, rfl, rfl, SqT.of (sF _ _ ea), atI_nat (j := 3) rfl, fun d nd => ?_⟩
      refine ⟨_, _, _, rfl, ?_⟩
      have sd : Same H (upd H d (.dK [])) := same_new nd _
      refine ⟨_, rfl, _, rfl, _, rfl, a, _, 1, _, rfl, rfl, SqT.of (sd _ _ (sF _ _ ea)), atI_nat (j := 1) rfl, d, _, rfl, DPut.k (k := (Sum.inl i : Key)) upd_same (by show 0 < sizeLine; decide), ?_⟩
      exact ⟨l0, ids, b, u, d, _, upT (fun _ => none) i (.rc i ids b o), _, rfl, same_mut sd nd _, el, tb, upd_same, nd, DG.nil.put, TC.nil.up tfv, by show 1 ≤ 1; decide, hw.2.2.2.1, by omega, by omega, by simp only [applyR]⟩
    | lt i x b o =>
      unfold TmAt at tf
      obtain ⟨a, u1, u2, wo1, rfl, ea, t1, t2, og⟩ := tf
      refine ⟨_, rfl, a, _, 0, _, rfl, rfl, SqT.of (sF _ _ ea), at0, rfl, _, rfl, ?_⟩
      refine if_false_of (str_ne (show ("let" : Str) ≠ "prim" by decide +kernel)) ?_
      refine ⟨_, rfl, a, _, 0, _, rfl, rfl, SqT.of (sF _ _ ea), at0, rfl, _, rfl, ?_⟩
      refine if_false_of (str_ne (show ("let" : Str) ≠ "fn" by decide +kernel)) ?_
      refine ⟨_, rfl, a, _, 0, _, rfl, rfl, SqT.of (sF _ _ ea), at0, rfl, _, rfl, ?_⟩
      refine if_false_of (str_ne (show ("let" : Str) ≠ "rec" by decide +kernel)) ?_
      exact q H _ (Same.refl H) (by simp only [applyR]; rfl)
    | ite x y z o =>
      unfold TmAt at tf
      obtain ⟨a, u1, u2, u3, wo1, rfl, ea, t1, t2, t3, og⟩ := tf
      refine ⟨_, rfl, a, _, 0, _, rfl, rfl, SqT.of (sF _ _ ea), at0, rfl, _, rfl, ?_⟩
      refine if_false_of (str_ne (show ("if" : Str) ≠ "prim" by decide +kernel)) ?_
      refine ⟨_, rfl, a, _, 0, _, rfl, rfl, SqT.of (sF _ _ ea), at0, rfl, _, rfl, ?_⟩
      refine if_false_of (str_ne (show ("if" : Str) ≠ "fn" by decide +kernel)) ?_
      refine ⟨_, rfl, a, _, 0, _, rfl, rfl, SqT.of (sF _ _ ea), at0, rfl, _, rfl, ?_⟩
      refine if_false_of (str_ne (show ("if" : Str) ≠ "rec" by decide +kernel)) ?_
      exact q H _ (Same.refl H) (by simp only [applyR]; rfl)
    | app f xs0 o =>
      unfold TmAt at tf
      obtain ⟨a, u, l0, vs0, wo1, rfl, ea, el, t1, t2, og⟩ := tf
      refine ⟨_, rfl, a, _, 0, _, rfl, rfl, SqT.of (sF _ _ ea), at0, rfl, _, rfl, ?_⟩
      refine if_false_of (str_ne (show ("app" : Str) ≠ "prim" by decide +kernel)) ?_
      refine ⟨_, rfl, a, _, 0, _, rfl, rfl, SqT.of (sF _ _ ea), at0, rfl, _, rfl, ?_⟩
      refine if_false_of (str_ne (show ("app" : Str) ≠ "fn" by decide +kernel)) ?_
      refine ⟨_, rfl, a, _, 0, _, rfl, rfl, SqT.of (sF _ _ ea), at0, rfl, _, rfl, ?_⟩
      refine if_false_of (str_ne (show ("app" : Str) ≠ "rec" by decide +kernel)) ?_
      exact q H _ (Same.refl H) (by simp only [applyR]; rfl)
    | pair x y o =>
      unfold TmAt at tf
      obtain ⟨a, u1, u2, wo1, rfl, ea, t1, t2, og⟩ := tf
      refine ⟨_, rfl, a, _, 0, _, rfl, rfl, SqT.of (sF _ _ ea), at0, rfl, _, rfl, ?_⟩
      refine if_false_of (str_ne (show ("pair" : Str) ≠ "prim" by decide +kernel)) ?_
      refine ⟨_, rfl, a, _, 0, _, rfl, rfl, SqT.of (sF _ _ ea), at0, rfl, _, rfl, ?_⟩
      refine if_false_of (str_ne (show ("pair" : Str) ≠ "fn" by decide +kernel)) ?_
      refine ⟨_, rfl, a, _, 0, _, rfl, rfl, SqT.of (sF _ _ ea), at0, rfl, _, rfl, ?_⟩
      refine if_false_of (str_ne (show ("pair" : Str) ≠ "rec" by decide +kernel)) ?_
      exact q H _ (Same.refl H) (by simp only [applyR]; rfl)
  rintro σ H1 ⟨lp, ids, b, vb, d, kvs, m, c, rfl, s1, ep, tb, ed, nd, dg, tc, hk1, hwb, hzb, hhb, har⟩
  rw [har] at q
  refine ⟨_, rfl, lp, _, rfl, .inl (SqL.of (s1 _ _ (sF _ _ ep))), _, rfl, l, ys, rfl, .inl (SqL.of (s1 _ _ (sF _ _ ey))), rfl, _, rfl, ?_⟩
  by_cases hl : ids.length = xs.length
  · rw [if_pos hl] at q
    refine if_false_of ?_ ?_
    · show (!decide (V.int ((ids.map V.int).length : Nat) = V.int (ys.length : Nat))) = false
      rw [decide_eq_true (by rw [List.length_map, hl, lx])]
      rfl
    refine ⟨_, rfl, lp, _, rfl, .inl (SqL.of (s1 _ _ (sF _ _ ep))), _, rfl, by omega, by rw [List.length_map]; omega, ?_⟩
    have hNN : (((ids.map V.int).length : Nat) : Int).toNat = ids.length := by rw [List.length_map]; rfl
    refine for_range (lo := 0) (n := (((ids.map V.int).length : Nat) : Int).toNat) (fun i σ H' => ∃ (y5 : Option V) (kg : List (Key × V)) (cg : Int → Option V), σ = [some vf, some (.ref l), some (.ref lp), some vb, some (.ref d), y5] ∧ Same H H' ∧ H' d = some (.dK kg) ∧ DG kg cg ∧ TC Fh (bindM m (ids.take i) (xs.take i)) cg ∧ kg.length ≤ 1 + i) ⟨none, kvs, c, rfl, s1, ed, dg, by simpa [bindM] using tc, by omega⟩ ?_ ?_
    · rintro i σ H2 hi ⟨y5, kg, cg, rfl, s2, ed2, dgg, tcg, lg⟩
      rw [hNN] at hi
      obtain ⟨z, hz1⟩ : ∃ z, ids[i]? = some z := ⟨ids[i], by simp⟩
      obtain ⟨y, hy1⟩ : ∃ y, ys[i]? = some y := ⟨ys[i]'(by omega), by simp⟩
      obtain ⟨u, hu1, tu⟩ := tx.get hy1
      refine ⟨_, rfl, _, rfl, l, ys, _, y, rfl, rfl, SqL.of (s2 _ _ (sF _ _ ey)), by rw [Int.zero_add]; exact atI_nat (j := i) hy1, ?_⟩
      refine ⟨_, rfl, _, rfl, _, rfl, lp, _, _, V.int z, rfl, rfl, SqL.of (s2 _ _ (sF _ _ ep)), by rw [Int.zero_add]; exact atI_nat (j := i) (by rw [List.getElem?_map, hz1]; rfl), d, _, rfl, DPut.k (k := (Sum.inl z : Key)) ed2 (smallL (by omega)), ?_⟩
      refine ⟨_, _, _, rfl, same_mut s2 nd _, upd_same, dgg.put, ?_, Nat.le_trans (length_putK kg (Sum.inl z : Key) y) (by omega)⟩
      rw [List.take_add_one, List.take_add_one, hz1, hu1]
      show TC Fh (bindM m (ids.take i ++ [z]) (xs.take i ++ [u])) _
      rw [bindM_snoc (by rw [List.length_take, List.length_take]; omega)]
      exact tcg.up tu
    rintro σ H2 ⟨y5, kg, cg, rfl, s2, ed2, dgg, tcg, lg⟩
    rw [hNN, List.take_length, hl, List.take_length] at tcg
    rw [hNN] at lg
    have sG : Same (ov Fh H H2) H2 := ov_in sF s2
    refine ⟨_, rfl, _, rfl, ov Fh H H2, b, vb, d, kg, _, cg, rfl, sG, TmAt.same (ov_base sF) _ _ tb, ov_new nd ed2, dgg, tcg.same (ov_base sF), by omega, hwb, hzb, hhb, fun H3 v s3 tv => q H3 v (s2.trans s3) (TmAt.same (ov_ov sF s2 s3) _ _ tv)⟩
  · rw [if_neg hl] at q
    refine if_true_of ?_ ?_
    · have : ¬ (V.int ((ids.map V.int).length : Nat)) = V.int (ys.length : Nat) := fun z => hl (by
        injection z with z
        rw [List.length_map] at z
        omega)
      show (!decide (V.int ((ids.map V.int).length : Nat) = V.int (ys.length : Nat))) = true
      rw [decide_eq_false this]
      rfl
    exact q H1 _ s1 rfl
theorem ok_next {f : Addr} {fd : FuncData} {k n : Nat} (F : Fun K "_law_next" "_law_next" sNext f fd) (hk : 2 ≤ k) (hN : NowOk K) (CRd : Cal P w K mg base k "_law_ready" spReady []) (C0 : Cal P w K mg base k "_law_next" (spNext n) []) (CPu : Cal P w K mg base k "_law_put" (spPut 102) []) (CAp : Cal P w K mg base k "_law_apply" spApply []) (m_len : mg "len" = none) (m_int : mg "int" = none) (m_range : mg "range" = none) : FnOk P w K mg base CX0 (k + 1) f fd ["t"] (spNext (n + 1)) := by
  refine F.ok scNext (fun vs H Q E h => ?_) (fun cdv A outer st H vs Q E hr h => ?_)
  · obtain ⟨F, t, v, rfl, _⟩ := h
    rfl
  obtain ⟨Fh, t, v, rfl, sF, ta, h3, hr0, hz, hh, hn, q⟩ := h
  have hu230 : (A.deeper (envOfC "_law_next" (defScope sNext) st.heap.objs.size f cdv)).units + 230 < cLine := by
    have := hr.un
    omega
  refine ⟨_, pss_split 2 (pss_cons (ps_set (i := 1) scNext.nd rfl (.inl rfl) (pe_ix ix_tup (pv 0) pe_int (fun _ _ => rfl)))
    (pss_one (ps_if (PW.pt (pw_or (pt_cmpR op_eq (pv 1) pe_str (nomark _)) (pw_or1 (pt_cmpR op_eq (pv 1) pe_str (nomark _))))) (pss_cons (ps_set (i := 2) scNext.nd rfl (.inl rfl) (pe_op op_add pe_int (pe_callTy call_int1 (by rfl) m_int PyProof.Rows.boot_int (pa_cons (pe_cmpR op_eq (pv 1) pe_str (nomark _)) pa_nil))))
    (pss_cons (ps_if (pt_not (pt_val (pe_c CRd hr (Nat.le_refl _) (by rfl) (pa_cons (pe_ix ix_tup (pv 0) (pv 2) (fun _ _ => rfl)) pa_nil)))) (pss_cons (ps_set (i := 3) scNext.nd rfl (.inl rfl) (pe_c C0 hr (Nat.le_refl _) (by rfl) (pa_cons (pe_ix ix_tup (pv 0) (pv 2) (fun _ _ => rfl)) pa_nil)))
    (pss_cons (ps_if (pt_cmpR (op_eqW hu230) (pv 3) pe_str (nomark _)) (pss_one (ps_ret (pv 3))) pss_nil)
    (pss_one (ps_ret (pe_op op_catT (pe_op op_catT (pe_slice sl_tup (pv 0) po_none (po_some (pv 2))) (pe_tup (pa_cons (pv 3) pa_nil))) (pe_slice sl_tup (pv 0) (po_some (pe_op op_add (pv 2) pe_int)) po_none)))))) pss_nil)
    (pss_cons (ps_if (pt_cmpR op_eq (pv 1) pe_str (nomark _)) (pss_one (ps_ret (pe_c CPu hr (Nat.le_refl _) (by rfl) (pa_cons (pe_ix ix_tup (pv 0) pe_int (fun _ _ => rfl)) (pa_cons (pe_disp (pps_cons (pe_ix ix_tup (pv 0) pe_int (fun _ _ => rfl)) (pe_ix ix_tup (pv 0) pe_int (fun _ _ => rfl)) pps_nil) (by rfl) (by rfl) (fun z => by cases z) (by decide)) pa_nil))))) pss_nil)
    (pss_one (ps_ret (pe_ix ix_tup (pv 0) (pe_op op_add pe_int (pe_callTy call_int1 (by rfl) m_int PyProof.Rows.boot_int (pa_cons (pe_and (pe_cmpR op_eq (pe_ix ix_tup (pe_ix ix_tup (pv 0) pe_int (fun _ _ => rfl)) pe_int (fun _ _ => rfl)) pe_str (nomark _)) (pe_one (pe_cmpR op_eq (pe_ix ix_tup (pe_ix ix_tup (pv 0) pe_int (fun _ _ => rfl)) pe_int (fun _ _ => rfl)) pe_int (nomark _)))) pa_nil))) (fun _ _ => rfl))))))) pss_nil)))
    (pss_cons (ps_set (i := 4) scNext.nd rfl (.inl rfl) (pe_op op_cat (pe_lst (pa_cons (pe_ix ix_tup (pv 0) pe_int (fun _ _ => rfl)) pa_nil)) (pe_ix ix_tup (pv 0) pe_int (fun _ _ => rfl))))
    (pss_cons (ps_for PassesOwn.never rfl (pi_range1 (by rfl) m_range (pa_cons (pe_callB call_len_seq (by rfl) m_len PySem.boot_len (pa_cons (pv 4) pa_nil)) pa_nil)) (pg_name (i := 5) scNext.nd rfl (.inl rfl)) (pss_one (ps_if (pt_not (pt_val (pe_c CRd hr (Nat.le_refl _) (by rfl) (pa_cons (pe_ix ix_list (pv 4) (pv 5) (fun _ _ => rfl)) pa_nil)))) (pss_cons (ps_set (i := 3) scNext.nd rfl (.inl rfl) (pe_c C0 hr (Nat.le_refl _) (by rfl) (pa_cons (pe_ix ix_list (pv 4) (pv 5) (fun _ _ => rfl)) pa_nil)))
    (pss_cons (ps_if (pt_cmpR (op_eqW hu230) (pv 3) pe_str (nomark _)) (pss_one (ps_ret (pv 3))) pss_nil)
    (pss_cons (ps_asg (pv 3) (pg_sub (pv 4) (pv 5) set_list (fun _ => rfl)))
    (pss_one (ps_ret (pe_tup (pa_cons pe_str (pa_cons (pe_ix ix_list (pv 4) pe_int (fun _ _ => rfl)) (pa_cons (pe_slice sl_list (pv 4) (po_some pe_int) po_none) (pa_cons (pe_ix ix_tup (pv 0) pe_int (fun _ _ => rfl)) pa_nil)))))))))) pss_nil)))
    (pss_one (ps_ret (pe_c CAp hr (Nat.le_refl _) (by rfl) (pa_cons (pe_ix ix_tup (pv 0) pe_int (fun _ _ => rfl)) (pa_cons (pe_ix ix_tup (pv 0) pe_int (fun _ _ => rfl)) pa_nil))))))), ?_⟩
  refine ⟨fun σ H' => H = H' ∧ ∃ f xs o, t = .app f xs o ∧ σ = [some v, some (.str "app"), none, none, none, none], ?_, ?_⟩
  · cases t with
    | int n o => simp [rdy] at hr0
    | prim s o => simp [rdy] at hr0
    | fn ids b o => simp [rdy] at hr0
    | rc i ids b o => simp [rdy] at hr0
    | pair x y o => simp [rdy] at hr0
    | ref i o =>
      have := h3.c
      simp [clo] at this
    | app f xs o =>
      unfold TmAt at ta
      obtain ⟨a, u, l0, vs0, wo1, rfl, ea, el, t1, t2, og⟩ := ta
      refine ⟨_, rfl, a, _, 0, _, rfl, rfl, SqT.of (sF _ _ ea), at0, ?_⟩
      refine ⟨_, rfl, rfl, _, rfl, if_false_of (str_ne (show ("app" : Str) ≠ "let" by decide +kernel)) ?_⟩
      refine ⟨_, rfl, rfl, _, rfl, if_false_of (str_ne (show ("app" : Str) ≠ "if" by decide +kernel)) ?_⟩
      exact ⟨rfl, f, xs, o, rfl, rfl⟩
    | lt i x b o =>
      unfold TmAt at ta
      obtain ⟨a, u1, u2, wo1, rfl, ea, t1, t2, og⟩ := ta
      refine ⟨_, rfl, a, _, 0, _, rfl, rfl, SqT.of (sF _ _ ea), at0, ?_⟩
      refine ⟨_, rfl, rfl, _, rfl, if_true_of str_eq ?_⟩
      refine ⟨_, rfl, rfl, .inr ⟨_, rfl, ?_⟩⟩
      refine ⟨_, _, rfl, rfl, ?_⟩
      have hw := h3.wk
      have hg := h3.g
      have hc := h3.c
      simp only [wok, gd, clo] at hw hg hc
      simp only [msz, mht] at hz hh hn
      refine ⟨_, rfl, _, rfl, a, _, 2, u1, rfl, rfl, SqT.of (sF _ _ ea), atI_nat (j := 2) rfl, ?_⟩
      refine ⟨Fh, x, u1, rfl, sF, t1, fun H1 s1 => ?_⟩
      refine ⟨_, rfl, ?_⟩
      by_cases hx : rdy x = true
      · refine if_false_of (by rw [hx]; rfl) ?_
        refine ⟨_, rfl, rfl, _, rfl, if_true_of str_eq ?_⟩
        refine ⟨_, rfl, a, _, 3, _, rfl, rfl, SqT.of (s1 _ _ (sF _ _ ea)), atI_nat (j := 3) rfl, fun d nd => ?_⟩
        have sd : Same H1 (upd H1 d (.dK [])) := same_new nd _
        have s1d := s1.trans sd
        refine ⟨_, rfl, a, _, 1, _, rfl, rfl, SqT.of (s1d _ _ (sF _ _ ea)), atI_nat (j := 1) rfl, _, rfl, a, _, 2, _, rfl, rfl, SqT.of (s1d _ _ (sF _ _ ea)), atI_nat (j := 2) rfl, upd_same, [((Sum.inl i : Key), u1)], rfl, by show 1 ≤ 15; decide, ?_⟩
        have e2 : mergeK [] [((Sum.inl i : Key), u1)] = putK [] (Sum.inl i : Key) u1 := rfl
        rw [e2]
        have sd2 : Same H1 (upd (upd H1 d (.dK [])) d (.dK (putK [] (Sum.inl i : Key) u1))) := same_mut sd nd _
        have sF1 := sF.trans s1
        exact ⟨ov Fh H1 (upd (upd H1 d (.dK [])) d (.dK (putK [] (Sum.inl i : Key) u1))), b, u2, d, _, upT (fun _ => none) i x, _, rfl, ov_in sF1 sd2, TmAt.same (ov_base sF1) _ _ t2, ov_new nd upd_same, DG.nil.put, TC.nil.up (TmAt.same (ov_base sF1) _ _ t1), by show 1 ≤ 3000; decide, hw.2.2.1, by omega, by omega, fun H' v s tv => q H' v (s1.trans (sd2.trans s)) (by simp only [nxt]; rw [if_pos hx]; exact TmAt.same ((ov_ov sF1 sd2 s).trans (ov_tr sF s1)) _ _ tv)⟩
      · have hx' : rdy x = false := by simpa using hx
        refine if_true_of (by rw [hx']; rfl) ?_
        refine ⟨_, rfl, _, rfl, a, _, 2, u1, rfl, rfl, SqT.of (s1 _ _ (sF _ _ ea)), atI_nat (j := 2) rfl, ?_⟩
        have hx3 : All3 x := ⟨hw.2.1, hg.1, hc.1⟩
        refine ⟨Fh, x, u1, rfl, sF.trans s1, t1, hx3, hx', by omega, by omega, by omega, fun H2 v2 s2 rv => ?_⟩
        cases e : nxt x with
        | none =>
          rw [e] at rv
          have e2 : v2 = .str "stuck" := rv
          subst e2
          refine ⟨_, rfl, .str "stuck", .str "stuck", .str _, .str _, by decide +kernel, by decide +kernel, by decide, _, rfl, ?_⟩
          refine if_true_of (by decide +kernel) ?_
          exact ⟨_, rfl, q H2 _ (s1.trans s2) (by simp only [nxt]; rw [if_neg hx, e]; rfl)⟩
        | some r =>
          rw [e] at rv
          have tr : TmAt (ov Fh H1 H2) r v2 := rv
          have sG : Same (ov Fh H1 H2) H2 := ov_in (sF.trans s1) s2
          have r3 : All3 r := nxt_ok x r e hx3
          refine ⟨_, rfl, tmD r, .str "stuck", Dp.same sG _ _ (dp_tm hN r v2 tr), .str _, tm_canW r r3.wk, by decide +kernel, Nat.le_trans (Nat.min_le_right _ _) (by decide), _, rfl, ?_⟩
          refine if_false_of (tm_ne_str r) ?_
          have ea2 := s2 _ _ (s1 _ _ (sF _ _ ea))
          refine s_retU (xs := [.str "let", .int i] ++ [v2] ++ [u2, wo1]) (eu_cat (eu_cat (eu_slT (xs := [.str "let", .int i, u1, u2, wo1]) (lo := none) (hi := some 2) (ev_var rfl) eo_none (eo_some (ev_var rfl)) (SqT.of ea2) (by show ¬ (HT.sIx 5 0 none = 0 ∧ HT.sIx 5 5 (some 2) = 5); decide)) (eu_tup (ea_cons (ev_var rfl) ea_nil) (by show 1 ≤ 100000; decide)) (by show [V.str "let", V.int i] ≠ []; simp) (by simp) (by show 2 + 1 ≤ 100000; decide)) (eu_slT (xs := [.str "let", .int i, u1, u2, wo1]) (lo := some 3) (hi := none) (ev_var rfl) (eo_some (ev_op (ev_var rfl) ev_c (rv_I0 (g := fun i j => V.int (i + j)) (i := 2) (j := 1)))) eo_none (SqT.of ea2) (by show ¬ (HT.sIx 5 0 (some 3) = 0 ∧ HT.sIx 5 5 none = 5); decide)) (by simp) (by show [u2, wo1] ≠ []; simp) (by show 2 + 1 + 2 ≤ 100000; decide)) (fun p4 H4 n4 e4 h4 => ?_)
          refine q H4 _ ((s1.trans s2).trans e4) ?_
          simp only [nxt]
          rw [if_neg hx, e]
          show TmAt _ (.lt i r b o) _
          unfold TmAt
          have s4 : Same (ov Fh H1 H2) (ov Fh H H4) := (ov_tr sF s1).trans (ov_up e4)
          have sB : Same Fh (ov Fh H H4) := ov_base sF
          exact ⟨p4, v2, u2, wo1, rfl, ov_new ((s1.trans s2).free n4) h4, TmAt.same s4 _ _ tr, TmAt.same sB _ _ t2, og.same sB⟩
    | ite x y z o =>
      unfold TmAt at ta
      obtain ⟨a, u1, u2, u3, wo1, rfl, ea, t1, t2, t3, og⟩ := ta
      refine ⟨_, rfl, a, _, 0, _, rfl, rfl, SqT.of (sF _ _ ea), at0, ?_⟩
      refine ⟨_, rfl, rfl, _, rfl, if_false_of (str_ne (show ("if" : Str) ≠ "let" by decide +kernel)) ?_⟩
      refine ⟨_, rfl, rfl, _, rfl, if_true_of str_eq ?_⟩
      refine ⟨_, rfl, rfl, .inr ⟨_, rfl, ?_⟩⟩
      refine ⟨_, _, rfl, rfl, ?_⟩
      have hw := h3.wk
      have hg := h3.g
      have hc := h3.c
      simp only [wok, gd, clo] at hw hg hc
      simp only [msz, mht] at hz hh hn
      refine ⟨_, rfl, _, rfl, a, _, 1, u1, rfl, rfl, SqT.of (sF _ _ ea), atI_nat (j := 1) rfl, ?_⟩
      refine ⟨Fh, x, u1, rfl, sF, t1, fun H1 s1 => ?_⟩
      refine ⟨_, rfl, ?_⟩
      by_cases hx : rdy x = true
      · refine if_false_of (by rw [hx]; rfl) ?_
        refine ⟨_, rfl, rfl, _, rfl, if_false_of (str_ne (show ("if" : Str) ≠ "let" by decide +kernel)) ?_⟩
        have e1 := s1 _ _ (sF _ _ ea)
        have fin : nxt (.ite x y z o) = some (if isZ x = true then z else y) := by
          simp only [nxt]
          rw [if_pos hx]
        rw [fin] at q
        by_cases hki : kind x = "int"
        · cases x with
          | int m o2 =>
            unfold TmAt at t1
            obtain ⟨b, w2, rfl, eb, _⟩ := t1
            have eb1 := s1 _ _ (sF _ _ eb)
            refine ⟨_, rfl, _, rfl, a, _, 1, _, rfl, rfl, SqT.of e1, atI_nat (j := 1) rfl, b, _, 0, _, rfl, rfl, SqT.of eb1, at0, rfl, _, rfl, if_true_of str_eq ?_⟩
            refine ⟨_, rfl, a, _, 1, _, rfl, rfl, SqT.of e1, atI_nat (j := 1) rfl, b, _, 1, _, rfl, rfl, SqT.of eb1, atI_nat (j := 1) rfl, rfl, .inr ⟨_, rfl, ?_⟩⟩
            by_cases hm : m = 0
            · subst hm
              refine ⟨_, _, rfl, rfl, a, _, 3, u3, rfl, rfl, SqT.of e1, atI_nat (j := 3) rfl, q H1 _ s1 ?_⟩
              exact TmAt.same (ov_base sF) _ _ t3
            · refine ⟨_, _, rfl, rfl, a, _, 2, u2, rfl, ?_, SqT.of e1, atI_nat (j := 2) rfl, q H1 _ s1 ?_⟩
              · rw [if_neg (by simp [hm])]
                rfl
              · have : isZ (.int m o2) = false := by simp [isZ, hm]
                rw [this]
                exact TmAt.same (ov_base sF) _ _ t2
          | _ => exact absurd hki (by simp only [kind]; decide +kernel)
        · obtain ⟨b, rr, rfl, eb⟩ := t1.head
          have eb1 := s1 _ _ (sF _ _ eb)
          refine ⟨_, rfl, _, rfl, a, _, 1, _, rfl, rfl, SqT.of e1, atI_nat (j := 1) rfl, b, _, 0, _, rfl, rfl, SqT.of eb1, at0, rfl, _, rfl, if_false_of (str_ne hki) ?_⟩
          refine .inr ⟨_, rfl, _, _, rfl, rfl, a, _, 2, u2, rfl, rfl, SqT.of e1, atI_nat (j := 2) rfl, q H1 _ s1 ?_⟩
          have : isZ x = false := by
            cases x with
            | int m o2 => exact absurd rfl hki
            | _ => rfl
          rw [this]
          exact TmAt.same (ov_base sF) _ _ t2
      · have hx' : rdy x = false := by simpa using hx
        refine if_true_of (by rw [hx']; rfl) ?_
        refine ⟨_, rfl, _, rfl, a, _, 1, u1, rfl, rfl, SqT.of (s1 _ _ (sF _ _ ea)), atI_nat (j := 1) rfl, ?_⟩
        have hx3 : All3 x := (all3_ite.mp h3).1
        refine ⟨Fh, x, u1, rfl, sF.trans s1, t1, hx3, hx', by omega, by omega, by omega, fun H2 v2 s2 rv => ?_⟩
        cases e : nxt x with
        | none =>
          rw [e] at rv
          have e2 : v2 = .str "stuck" := rv
          subst e2
          refine ⟨_, rfl, .str "stuck", .str "stuck", .str _, .str _, by decide +kernel, by decide +kernel, by decide, _, rfl, ?_⟩
          refine if_true_of (by decide +kernel) ?_
          exact ⟨_, rfl, q H2 _ (s1.trans s2) (by simp only [nxt]; rw [if_neg hx, e]; rfl)⟩
        | some r =>
          rw [e] at rv
          have tr : TmAt (ov Fh H1 H2) r v2 := rv
          have sG : Same (ov Fh H1 H2) H2 := ov_in (sF.trans s1) s2
          have r3 : All3 r := nxt_ok x r e hx3
          refine ⟨_, rfl, tmD r, .str "stuck", Dp.same sG _ _ (dp_tm hN r v2 tr), .str _, tm_canW r r3.wk, by decide +kernel, Nat.le_trans (Nat.min_le_right _ _) (by decide), _, rfl, ?_⟩
          refine if_false_of (tm_ne_str r) ?_
          have ea2 := s2 _ _ (s1 _ _ (sF _ _ ea))
          refine s_retU (xs := [.str "if"] ++ [v2] ++ [u2, u3, wo1]) (eu_cat (eu_cat (eu_slT (xs := [.str "if", u1, u2, u3, wo1]) (lo := none) (hi := some 1) (ev_var rfl) eo_none (eo_some (ev_var rfl)) (SqT.of ea2) (by show ¬ (HT.sIx 5 0 none = 0 ∧ HT.sIx 5 5 (some 1) = 5); decide)) (eu_tup (ea_cons (ev_var rfl) ea_nil) (by show 1 ≤ 100000; decide)) (by show [V.str "if"] ≠ []; simp) (by simp) (by show 1 + 1 ≤ 100000; decide)) (eu_slT (xs := [.str "if", u1, u2, u3, wo1]) (lo := some 2) (hi := none) (ev_var rfl) (eo_some (ev_op (ev_var rfl) ev_c (rv_I0 (g := fun i j => V.int (i + j)) (i := 1) (j := 1)))) eo_none (SqT.of ea2) (by show ¬ (HT.sIx 5 0 (some 2) = 0 ∧ HT.sIx 5 5 none = 5); decide)) (by simp) (by show [u2, u3, wo1] ≠ []; simp) (by show 1 + 1 + 3 ≤ 100000; decide)) (fun p4 H4 n4 e4 h4 => ?_)
          refine q H4 _ ((s1.trans s2).trans e4) ?_
          simp only [nxt]
          rw [if_neg hx, e]
          show TmAt _ (.ite r y z o) _
          unfold TmAt
          have s4 : Same (ov Fh H1 H2) (ov Fh H H4) := (ov_tr sF s1).trans (ov_up e4)
          have sB : Same Fh (ov Fh H H4) := ov_base sF
          exact ⟨p4, v2, u2, u3, wo1, rfl, ov_new ((s1.trans s2).free n4) h4, TmAt.same s4 _ _ tr, TmAt.same sB _ _ t2, TmAt.same sB _ _ t3, og.same sB⟩
  rintro σ _ ⟨rfl, f, xs, o, rfl, rfl⟩
  unfold TmAt at ta
  obtain ⟨a, u, l0, vs0, wo1, rfl, ea, el, t1, t2, og⟩ := ta
  have h3a := all3_app.mp h3
  simp only [msz, mht] at hz hh hn
  have lx := t2.len
  have hlx : xs.length < 3000 := by
    have := len_mszs xs
    omega
  refine ⟨_, rfl, a, _, 1, u, rfl, rfl, SqT.of (sF _ _ ea), atI_nat (j := 1) rfl, by show 1 ≤ sizeLine; decide, fun p np => ?_⟩
  have s1 : Same H (upd H p (.lst [u])) := same_new np _
  have e1 : (upd H p (.lst [u])) p = some (.lst [u]) := upd_same
  generalize upd H p (.lst [u]) = H1 at s1 e1
  refine ⟨_, rfl, a, _, 2, _, rfl, rfl, SqT.of (s1 _ _ (sF _ _ ea)), atI_nat (j := 2) rfl, p, l0, [u], vs0, rfl, rfl, e1, s1 _ _ (sF _ _ el), sz_of (by rw [lx]; show 1 + _ ≤ _; omega), fun rw0 nrw => ?_⟩
  have s2 : Same H1 (upd H1 rw0 (.lst ([u] ++ vs0))) := same_new nrw _
  have e2 : (upd H1 rw0 (.lst ([u] ++ vs0))) rw0 = some (.lst (u :: vs0)) := upd_same
  have nr : H rw0 = none := s1.free nrw
  generalize upd H1 rw0 (.lst ([u] ++ vs0)) = H2 at s2 e2
  have s12 := s1.trans s2
  refine ⟨_, rfl, rw0, _, rfl, .inl (SqL.of e2), _, rfl, by omega, by rw [List.length_cons, lx]; omega, ?_⟩
  have hNN : (((u :: vs0).length : Nat) : Int).toNat = (u :: vs0).length := rfl
  refine for_range (lo := 0) (n := (((u :: vs0).length : Nat) : Int).toNat) (fun i σ H' => ∃ y5 : Option V, σ = [some (.ref a), some (.str "app"), none, none, some (.ref rw0), y5] ∧ Same H H' ∧ H' rw0 = some (.lst (u :: vs0)) ∧ ∀ j t, j < i → (f :: xs)[j]? = some t → rdy t = true) ⟨none, rfl, s12, e2, fun j t hj => absurd hj (Nat.not_lt_zero _)⟩ ?_ ?_
  · rintro i σ H3 hi ⟨y5, rfl, s3, e3, hrd⟩
    rw [hNN] at hi
    have tms : TmsAt Fh (f :: xs) (u :: vs0) := by
      unfold TmsAt
      exact ⟨u, vs0, rfl, t1, t2⟩
    obtain ⟨y, hy⟩ : ∃ y, (u :: vs0)[i]? = some y := ⟨(u :: vs0)[i], by simp⟩
    obtain ⟨c, hc, tc⟩ := tms.get hy
    have ixi : ixN (u :: vs0).length (0 + (i : Int)) = some i := by
      rw [Int.zero_add]
      exact ixN_nat hi
    have hat : atI (u :: vs0) (0 + (i : Int)) = some y := by
      rw [Int.zero_add]
      exact atI_nat (j := i) hy
    refine ⟨_, rfl, _, rfl, rw0, _, _, y, rfl, rfl, SqL.of e3, hat, ?_⟩
    refine ⟨Fh, c, y, rfl, sF.trans s3, tc, fun H4 s4 => ?_⟩
    refine ⟨_, rfl, ?_⟩
    have s34 := s3.trans s4
    by_cases hx : rdy c = true
    · refine if_false_of (by rw [hx]; rfl) ?_
      refine ⟨_, rfl, s34, s4 _ _ e3, fun j t hj ht => ?_⟩
      by_cases hji : j < i
      · exact hrd j t hji ht
      · have : j = i := by omega
        subst this
        rw [hc] at ht
        cases ht
        exact hx
    · have hx' : rdy c = false := by simpa using hx
      refine if_true_of (by rw [hx']; rfl) ?_
      refine ⟨_, rfl, _, rfl, rw0, _, _, y, rfl, rfl, SqL.of (s4 _ _ e3), hat, ?_⟩
      have hc3 : All3 c := by
        cases i with
        | zero =>
          cases hc
          exact h3a.1
        | succ i => exact h3a.2.1.get (List.mem_of_getElem? hc)
      have hcz : msz c ≤ 3000 ∧ mht c ≤ 99 ∧ mht c < n := by
        cases i with
        | zero =>
          cases hc
          exact ⟨by omega, by omega, by omega⟩
        | succ i =>
          have h1 := mszs_get (ts := xs) (i := i) hc
          have h2 := mhts_get (ts := xs) (i := i) hc
          exact ⟨by omega, by omega, by omega⟩
      refine ⟨Fh, c, y, rfl, sF.trans s34, tc, hc3, hx', hcz.1, by omega, hcz.2.2, fun H5 v2 s5 rv => ?_⟩
      have st : nxt (.app f xs o) = (nxt c).map fun r => rebT (.app f xs o) ((f :: xs).set i r) := nxt_step (t := .app f xs o) (k := i) hrd hc hx'
      have s35 := s34.trans s5
      cases e : nxt c with
      | none =>
        rw [e] at rv
        have e2 : v2 = .str "stuck" := rv
        subst e2
        refine ⟨_, rfl, .str "stuck", .str "stuck", .str _, .str _, by decide +kernel, by decide +kernel, by decide, _, rfl, ?_⟩
        refine if_true_of (by decide +kernel) ?_
        exact ⟨_, rfl, q H5 _ s35 (by rw [st, e]; rfl)⟩
      | some r =>
        rw [e] at rv
        have tr : TmAt (ov Fh H4 H5) r v2 := rv
        have sG : Same (ov Fh H4 H5) H5 := ov_in (sF.trans s34) s5
        have r3 : All3 r := nxt_ok c r e hc3
        refine ⟨_, rfl, tmD r, .str "stuck", Dp.same sG _ _ (dp_tm hN r v2 tr), .str _, tm_canW r r3.wk, by decide +kernel, Nat.le_trans (Nat.min_le_right _ _) (by decide), _, rfl, ?_⟩
        refine if_false_of (tm_ne_str r) ?_
        have tmS : TmsAt (ov Fh H4 H5) ((f :: xs).set i r) ((u :: vs0).set i v2) := TmsAt.set tr i (tms.same (ov_base (sF.trans s34)))
        obtain ⟨y0, ys', hys⟩ : ∃ y0 ys', (u :: vs0).set i v2 = y0 :: ys' := by
          cases i with
          | zero => exact ⟨_, _, rfl⟩
          | succ i => exact ⟨_, _, rfl⟩
        obtain ⟨f', xs', hxs⟩ : ∃ f' xs', (f :: xs).set i r = f' :: xs' := by
          cases i with
          | zero => exact ⟨_, _, rfl⟩
          | succ i => exact ⟨_, _, rfl⟩
        have e9 : nxt (.app f xs o) = some (.app f' xs' o) := by
          rw [st, e]
          show some (rebT (.app f xs o) ((f :: xs).set i r)) = _
          rw [hxs]
          rfl
        rw [e9] at q
        rw [hys, hxs] at tmS
        unfold TmsAt at tmS
        obtain ⟨y0', ys2, ey, tf', txs'⟩ := tmS
        cases ey
        have e5 : H5 rw0 = some (.lst (u :: vs0)) := s5 _ _ (s4 _ _ e3)
        refine ⟨_, rfl, _, rfl, _, rfl, rw0, u :: vs0, _, i, rfl, rfl, e5, ixi, ?_⟩
        rw [hys]
        have s36 : Same H (upd H5 rw0 (.lst (y0 :: ys'))) := same_mut s35 nr _
        have e6 : (upd H5 rw0 (.lst (y0 :: ys'))) rw0 = some (.lst (y0 :: ys')) := upd_same
        have sv : Same (ov Fh H4 H5) (ov Fh H (upd H5 rw0 (.lst (y0 :: ys')))) := fun b ob hb => by
          have hb4 : H4 rw0 ≠ none := by
            rw [s4 _ _ e3]
            simp
          rcases ov_of hb with z | z
          · exact ov_new (s34.free z.1) (by
              rw [upd_ne (fun w => hb4 (by rw [← w]; exact z.1))]
              exact z.2)
          · exact ov_base sF _ _ z.2
        generalize upd H5 rw0 (.lst (y0 :: ys')) = H6 at s36 e6 sv
        refine ⟨_, rfl, rw0, _, 0, y0, rfl, rfl, SqL.of e6, at0, ?_⟩
        have cu : cutV (y0 :: ys') (some 1) none = ys' := by
          unfold cutV HT.sIx
          simp
        refine ⟨_, rfl, _, rfl, rw0, _, rfl, SqL.of e6, fun p2 np2 => ?_⟩
        rw [cu]
        have s7 : Same H6 (upd H6 p2 (.lst ys')) := same_new np2 _
        have e7 : (upd H6 p2 (.lst ys')) p2 = some (.lst ys') := upd_same
        generalize upd H6 p2 (.lst ys') = H7 at s7 e7
        have s37 := s36.trans s7
        refine ⟨_, rfl, a, _, 3, _, rfl, rfl, SqT.of (s37 _ _ (sF _ _ ea)), atI_nat (j := 3) rfl, by show 4 ≤ sizeLine; decide, fun p3 np3 => ?_⟩
        have s8 : Same H7 (upd H7 p3 (.tup [.str "app", y0, .ref p2, wo1])) := same_new np3 _
        have e8 : (upd H7 p3 (.tup [.str "app", y0, .ref p2, wo1])) p3 = some (.tup [.str "app", y0, .ref p2, wo1]) := upd_same
        generalize upd H7 p3 (.tup [.str "app", y0, .ref p2, wo1]) = H8 at s8 e8
        refine q H8 _ (s37.trans s8) ?_
        have sv8 : Same (ov Fh H4 H5) (ov Fh H H8) := sv.trans (ov_up (s7.trans s8))
        show TmAt _ (.app f' xs' o) _
        unfold TmAt
        exact ⟨p3, y0, p2, ys', wo1, rfl, ov_new (s37.free np3) e8, ov_new (s36.free np2) (s8 _ _ e7), TmAt.same sv8 _ _ tf', txs'.same sv8, og.same (ov_base sF)⟩
  rintro σ H3 ⟨y5, rfl, s3, e3, hrd⟩
  rw [hNN, List.length_cons, lx] at hrd
  have hall : ∀ t ∈ mvf (.app f xs o), rdy t = true := fun t ht => by
    obtain ⟨j, e⟩ := List.getElem?_of_mem (show t ∈ f :: xs from ht)
    have := (List.getElem?_eq_some_iff.mp e).1
    rw [List.length_cons] at this
    exact hrd j t (by omega) e
  have fin : nxt (.app f xs o) = applyR f xs := nxt_rule hall
  rw [fin] at q
  have hw := h3.wk
  simp only [wok] at hw
  refine ⟨_, rfl, a, _, 1, u, rfl, rfl, SqT.of (s3 _ _ (sF _ _ ea)), atI_nat (j := 1) rfl, _, rfl, a, _, 2, _, rfl, rfl, SqT.of (s3 _ _ (sF _ _ ea)), atI_nat (j := 2) rfl, ?_⟩
  exact ⟨Fh, f, u, l0, vs0, xs, rfl, sF.trans s3, t1, el, t2, hw.1, by omega, by omega, hw.2.1, by omega, fun H' v s tv => q H' v (s3.trans s) (tv.same (ov_tr sF s3))⟩
end
end Sg

namespace Sg
open PySem PySem.Spec PyProof.Rows L2 Evl
open C8 (Cal pe_c)
variable [Now]
/-! ### the law's own: size -/
theorem call_isiQ {X : Cx} {K : PySem.W.Frag} (e : X.K = K) : CallR X (.builtin "isinstance") (rIsi K) := by
  cases e
  exact call_isi
theorem TmAt.head2 {F : Hp} {t : Tm} {v : V} (h : TmAt F t v) : ∃ a y r, v = .ref a ∧ F a = some (.tup (.str (kind t) :: y :: r)) := by
  cases t <;> (unfold TmAt at h; first
    | (obtain ⟨a, w, h1, h2, _⟩ := h; exact ⟨a, _, _, h1, h2⟩)
    | (obtain ⟨a, w, w2, h1, h2, _⟩ := h; exact ⟨a, _, _, h1, h2⟩)
    | (obtain ⟨a, w, w2, w3, h1, h2, _⟩ := h; exact ⟨a, _, _, h1, h2⟩)
    | (obtain ⟨a, w, w2, w3, w4, h1, h2, _⟩ := h; exact ⟨a, _, _, h1, h2⟩))
/-- a part of a term: whether it is one itself -/
inductive Pt (F : Hp) : V → Bool → Prop where
  | str (s : Str) : Pt F (.str s) false
  | int (i : Int) : Pt F (.int i) false
  | lst {l : Addr} {xs : List V} : F l = some (.lst xs) → Pt F (.ref l) false
  | tm {t : Tm} {v : V} : TmAt F t v → Pt F v true
  | og {o : Og} {v : V} : OgAt F o v → Pt F v false
section
variable {K : PySem.W.Frag} {σ : L2.St} {F : Hp}
theorem tyx_sq {a : Addr} {xs : List V} (h : SqT K F a xs) : TyX K F (.ref a) (.type "tuple") := by
  rcases h with (z | ⟨o, z⟩) | ⟨o, its, n, h1, h2, _⟩
  · exact .base (.tup z)
  · exact .fTuple z
  · exact .kTuple h1 h2
theorem rc_isi {x : V} {c : String} {t : Value} {b : Bool} (ty : ∀ H1, Same F H1 → TyX K H1 x t) (e : PySem.W.kitOne K t (.type c) = some b) : RC (rIsi K) [x, .ty c] F (.bl b) := fun H1 e1 Q q => ⟨x, .ty c, t, .type c, b, rfl, .ty c, ty H1 e1, e, q H1 (Ex.refl H1)⟩
theorem og_sq (hN : NowOk K) {o : Og} {v : V} (h : OgAt F o v) : ∃ a x i y, v = .ref a ∧ SqT K F a [.int i, x, y] := by
  rcases h with ⟨a, b, rfl, h1, _⟩ | ⟨rfl, _⟩
  · exact ⟨a, _, _, _, rfl, SqT.of h1⟩
  · have h := hN F
    unfold ogD at h
    generalize Now.n = v at h
    cases h with
    | @tup a xs ds hs hd =>
      cases hd with
      | cons h1 h2 =>
        cases h1
        cases h2 with
        | cons h3 h4 =>
          cases h4 with
          | cons h5 h6 =>
            cases h6
            exact ⟨a, _, _, _, rfl, hs⟩
theorem et_pt (hN : NowOk K) {x : V} {b : Bool} (hx : σ[4]? = some (some x)) (h : Pt F x b) : EvT (tAnd (tB (tCB (rIsi K) (tCons (tVar 4) (tCons (tC (V.ty "tuple")) tNil)))) (tAnd (tTest (tOp (rI0 fun i j => V.bl (decide (j < i))) (tCB (rLenS K) (tCons (tVar 4) tNil)) (tC (V.int 1)))) (tB (tCB (rIsi K) (tCons (tOp (rIxT K) (tVar 4) (tC (V.int 0))) (tCons (tC (V.ty "str")) tNil)))))) σ F b := by
  have no : ∀ {t : Value}, (∀ H1, Same F H1 → TyX K H1 x t) → PySem.W.kitOne K t (.type "tuple") = some false → ∀ u : TT, EvT (tAnd (tB (tCB (rIsi K) (tCons (tVar 4) (tCons (tC (V.ty "tuple")) tNil)))) u) σ F false := fun ty e u =>
    et_is (et_and (a := false) (b := false) (et_B (ev_cb (ea_cons (ev_var hx) (ea_cons ev_c ea_nil)) (rc_isi ty e))) (fun z => by cases z)) rfl
  have yes : ∀ {a : Addr} {y : V} {r : List V} {t : Value} {b : Bool}, x = .ref a → SqT K F a (y :: r) → r ≠ [] → (∀ H1, Same F H1 → TyX K H1 y t) → PySem.W.kitOne K t (.type "str") = some b → EvT (tAnd (tB (tCB (rIsi K) (tCons (tVar 4) (tCons (tC (V.ty "tuple")) tNil)))) (tAnd (tTest (tOp (rI0 fun i j => V.bl (decide (j < i))) (tCB (rLenS K) (tCons (tVar 4) tNil)) (tC (V.int 1)))) (tB (tCB (rIsi K) (tCons (tOp (rIxT K) (tVar 4) (tC (V.int 0))) (tCons (tC (V.ty "str")) tNil)))))) σ F b := by
    intro a y r t b ex hs hr ty e
    subst ex
    have hl : 0 < r.length := List.length_pos_iff.mpr hr
    refine et_is (et_and (a := true) (b := true && b) (et_B (ev_cb (ea_cons (ev_var hx) (ea_cons ev_c ea_nil)) (rc_isi (fun H1 e1 => tyx_sq (ex_t e1 hs)) (kit_ty (by decide +kernel))))) fun _ => et_and (et_is (et_test (ev_op (x := V.int ((y :: r).length : Nat)) (y := V.int 1) (fun H1 e1 Q q => ev_var hx H1 e1 _ fun H2 e2 => ⟨a, y :: r, rfl, .inr (ex_t (e1.trans e2) hs), q H2 e2⟩) ev_c rv_I0)) ?_) fun _ => et_B (ev_cb (ea_cons (ev_op (ev_var hx) ev_c (rv_ixT hs at0)) (ea_cons ev_c ea_nil)) (rc_isi ty e))) (by cases b <;> rfl)
    simp only [List.length_cons, decide_eq_true_eq]
    omega
  cases h with
  | str s => exact no (fun H1 _ => .base (.str s)) (kit_ty (by decide +kernel)) _
  | int i => exact no (fun H1 _ => .base (.int i)) (kit_ty (by decide +kernel)) _
  | lst hl => exact no (fun H1 e => .base (.lst (e _ _ hl))) (kit_ty (by decide +kernel)) _
  | tm ht =>
    obtain ⟨a, y, r, rfl, ea⟩ := ht.head2
    exact yes rfl (SqT.of ea) (by simp) (fun H1 _ => .base (.str _)) (kit_ty (by decide +kernel))
  | og ho =>
    obtain ⟨a, z, i, y, rfl, hs⟩ := og_sq hN ho
    exact yes rfl hs (by simp) (fun H1 _ => .base (.int _)) (kit_ty (by decide +kernel))
theorem el_lcT {a : Addr} {xs : List V} {tl te : TE} {t : TT} {j : Nat} {vs : List Nat} (f : Nat → Bool) (v : Nat → V) (h : Ev tl σ F (.ref a)) (hx : SqT K F a xs) (hz : xs.length ≤ 40000) (hw : ∀ x, wipe ((wipe σ vs).set j (some x)) vs = wipe σ vs)
    (ht : ∀ (i : Nat) (x : V) H1, Ex F H1 → xs[i]? = some x → EvT t ((wipe σ vs).set j (some x)) H1 (f i)) (he : ∀ (i : Nat) (x : V) H1, Ex F H1 → xs[i]? = some x → f i = true → Ev te ((wipe σ vs).set j (some x)) H1 (v i)) :
    EvL (tLc (iTup K tl) (gName j) t te vs) σ F (given xs.length f v) := fun H0 e Q q => h H0 e _ fun H1 e1 => ⟨a, rfl, ⟨xs, ex_t (e.trans e1) hx⟩, fun Dl hD =>
  lc_tup (xs := xs) (Cw H1 f v Dl) ⟨hD, Ex.new hD, upd_same⟩ (fun i H' _ p => ex_t ((e.trans e1).trans p.2.1) hx) (fun i x H' hi p => ⟨hw x, cw_turn p (by have := (List.getElem?_eq_some_iff.mp hi).1; omega) (ht i x H1 (e.trans e1) hi) (fun hf => he i x H1 (e.trans e1) hi hf)⟩)
    (fun H' p => q Dl H' (fresh_back e1 p.1) (e1.trans p.2.1) p.2.2)⟩
end
/-- the parts of a term but an application's arguments -/
def kids0 : Tm → List Tm
  | .app f _ _ => [f]
  | t => kids t
theorem Pt.same {F F' : Hp} {v : V} {b : Bool} (e : Same F F') (h : Pt F v b) : Pt F' v b := by
  cases h with
  | str s => exact .str s
  | int i => exact .int i
  | lst hl => exact .lst (e _ _ hl)
  | tm ht => exact .tm (TmAt.same e _ _ ht)
  | og ho => exact .og (ho.same e)
def atP (xs : List V) (i : Nat) : V := (xs[i]?).getD .non
def atB (xs : List Bool) (i : Nat) : Bool := (xs[i]?).getD false
theorem all_pt {F : Hp} : ∀ {xs : List V} {bs : List Bool}, xs.length = bs.length → (∀ p ∈ xs.zip bs, Pt F p.1 p.2) → ∀ (i : Nat) (x : V), xs[i]? = some x → Pt F x (atB bs i)
  | [], _, _, _, i, x, h => by simp at h
  | x :: xs, [], hl, _, i, y, h => by simp at hl
  | x :: xs, b :: bs, hl, hp, 0, y, h => by
    cases h
    exact hp (x, b) (by simp)
  | x :: xs, b :: bs, hl, hp, i + 1, y, h => all_pt (xs := xs) (bs := bs) (by simpa using hl) (fun p hp2 => hp p (by simp [hp2])) i y h
theorem parts_of {F : Hp} {t : Tm} {v : V} (h : TmAt F t v) : ∃ (a : Addr) (xs : List V) (bs : List Bool) (kv : List V), v = .ref a ∧ F a = some (.tup (.str (kind t) :: xs)) ∧ xs.length ≤ 5 ∧ (∀ (i : Nat) (x : V), (V.str (kind t) :: xs)[i]? = some x → Pt F x (atB (false :: bs) i)) ∧ given (xs.length + 1) (atB (false :: bs)) (atP (.str (kind t) :: xs)) = kv ∧ TmsAt F (kids0 t) kv := by
  cases t with
  | int n o =>
    unfold TmAt at h
    obtain ⟨a, wo1, rfl, ea, og⟩ := h
    refine ⟨a, _, [false, false], [], rfl, ea, by simp, ?_, rfl, ?_⟩
    · refine all_pt rfl fun p hp => ?_
      simp only [List.zip_cons_cons, List.zip_nil_left, List.mem_cons, List.not_mem_nil, or_false] at hp
      rcases hp with rfl | rfl | rfl
      · exact .str _
      · exact .int _
      · exact .og og
    · show TmsAt F [] _
      simp only [TmsAt]
  | prim s o =>
    unfold TmAt at h
    obtain ⟨a, wo1, rfl, ea, og⟩ := h
    refine ⟨a, _, [false, false], [], rfl, ea, by simp, ?_, rfl, ?_⟩
    · refine all_pt rfl fun p hp => ?_
      simp only [List.zip_cons_cons, List.zip_nil_left, List.mem_cons, List.not_mem_nil, or_false] at hp
      rcases hp with rfl | rfl | rfl
      · exact .str _
      · exact .str _
      · exact .og og
    · show TmsAt F [] _
      simp only [TmsAt]
  | ref i o =>
    unfold TmAt at h
    obtain ⟨a, wo1, rfl, ea, og⟩ := h
    refine ⟨a, _, [false, false], [], rfl, ea, by simp, ?_, rfl, ?_⟩
    · refine all_pt rfl fun p hp => ?_
      simp only [List.zip_cons_cons, List.zip_nil_left, List.mem_cons, List.not_mem_nil, or_false] at hp
      rcases hp with rfl | rfl | rfl
      · exact .str _
      · exact .int _
      · exact .og og
    · show TmsAt F [] _
      simp only [TmsAt]
  | fn ids b o =>
    unfold TmAt at h
    obtain ⟨a, l0, u, wo1, rfl, ea, el, tb, og⟩ := h
    refine ⟨a, _, [false, true, false], [u], rfl, ea, by simp, ?_, rfl, ?_⟩
    · refine all_pt rfl fun p hp => ?_
      simp only [List.zip_cons_cons, List.zip_nil_left, List.mem_cons, List.not_mem_nil, or_false] at hp
      rcases hp with rfl | rfl | rfl | rfl
      · exact .str _
      · exact .lst el
      · exact .tm tb
      · exact .og og
    · show TmsAt F [b] _
      unfold TmsAt
      exact ⟨_, _, rfl, tb, rfl⟩
  | rc i ids b o =>
    unfold TmAt at h
    obtain ⟨a, l0, u, wo1, rfl, ea, el, tb, og⟩ := h
    refine ⟨a, _, [false, false, true, false], [u], rfl, ea, by simp, ?_, rfl, ?_⟩
    · refine all_pt rfl fun p hp => ?_
      simp only [List.zip_cons_cons, List.zip_nil_left, List.mem_cons, List.not_mem_nil, or_false] at hp
      rcases hp with rfl | rfl | rfl | rfl | rfl
      · exact .str _
      · exact .int _
      · exact .lst el
      · exact .tm tb
      · exact .og og
    · show TmsAt F [b] _
      unfold TmsAt
      exact ⟨_, _, rfl, tb, rfl⟩
  | lt i x b o =>
    unfold TmAt at h
    obtain ⟨a, u1, u2, wo1, rfl, ea, t1, t2, og⟩ := h
    refine ⟨a, _, [false, true, true, false], [u1, u2], rfl, ea, by simp, ?_, rfl, ?_⟩
    · refine all_pt rfl fun p hp => ?_
      simp only [List.zip_cons_cons, List.zip_nil_left, List.mem_cons, List.not_mem_nil, or_false] at hp
      rcases hp with rfl | rfl | rfl | rfl | rfl
      · exact .str _
      · exact .int _
      · exact .tm t1
      · exact .tm t2
      · exact .og og
    · show TmsAt F [x, b] _
      unfold TmsAt
      exact ⟨_, _, rfl, t1, ⟨_, _, rfl, t2, rfl⟩⟩
  | ite x y z o =>
    unfold TmAt at h
    obtain ⟨a, u1, u2, u3, wo1, rfl, ea, t1, t2, t3, og⟩ := h
    refine ⟨a, _, [true, true, true, false], [u1, u2, u3], rfl, ea, by simp, ?_, rfl, ?_⟩
    · refine all_pt rfl fun p hp => ?_
      simp only [List.zip_cons_cons, List.zip_nil_left, List.mem_cons, List.not_mem_nil, or_false] at hp
      rcases hp with rfl | rfl | rfl | rfl | rfl
      · exact .str _
      · exact .tm t1
      · exact .tm t2
      · exact .tm t3
      · exact .og og
    · show TmsAt F [x, y, z] _
      unfold TmsAt
      exact ⟨_, _, rfl, t1, ⟨_, _, rfl, t2, ⟨_, _, rfl, t3, rfl⟩⟩⟩
  | app f xs0 o =>
    unfold TmAt at h
    obtain ⟨a, u, l0, vs0, wo1, rfl, ea, el, t1, t2, og⟩ := h
    refine ⟨a, _, [true, false, false], [u], rfl, ea, by simp, ?_, rfl, ?_⟩
    · refine all_pt rfl fun p hp => ?_
      simp only [List.zip_cons_cons, List.zip_nil_left, List.mem_cons, List.not_mem_nil, or_false] at hp
      rcases hp with rfl | rfl | rfl | rfl
      · exact .str _
      · exact .tm t1
      · exact .lst el
      · exact .og og
    · show TmsAt F [f] _
      unfold TmsAt
      exact ⟨_, _, rfl, t1, rfl⟩
  | pair x y o =>
    unfold TmAt at h
    obtain ⟨a, u1, u2, wo1, rfl, ea, t1, t2, og⟩ := h
    refine ⟨a, _, [true, true, false], [u1, u2], rfl, ea, by simp, ?_, rfl, ?_⟩
    · refine all_pt rfl fun p hp => ?_
      simp only [List.zip_cons_cons, List.zip_nil_left, List.mem_cons, List.not_mem_nil, or_false] at hp
      rcases hp with rfl | rfl | rfl | rfl
      · exact .str _
      · exact .tm t1
      · exact .tm t2
      · exact .og og
    · show TmsAt F [x, y] _
      unfold TmsAt
      exact ⟨_, _, rfl, t1, ⟨_, _, rfl, t2, rfl⟩⟩
theorem mszs_takeL (ts : List Tm) (i : Nat) : mszs (ts.take i) ≤ mszs ts := by
  have h := mszs_app (ts.take i) (ts.drop i)
  rw [List.take_append_drop] at h
  omega
def spLSize (n : Nat) : Sp := fun vs H Q _ => ∃ (F : Hp) (t : Tm) (v : V) (dp mn : Nat), vs = [v, .int dp, .int mn] ∧ Same F H ∧ TmAt F t v ∧ wok t ∧ gd t ∧ dp ≤ 101 ∧ 101 - dp < n ∧ ∀ H', Same H H' → Q (.int (if dp + mht t ≤ 100 ∧ mn + msz t ≤ 3000 then ((mn + msz t : Nat) : Int) else 9999)) H'
theorem scLSize : FnScope ["t", "deep", "many", "rows", "part"] ["t", "deep", "many"] (defScope sSize) := ⟨rfl, rfl, rfl, by decide +kernel, rfl, by decide +kernel, by decide +kernel⟩
theorem lsize_none {f : Addr} {fd : FuncData} {P : Program} {w : World} {K : PySem.W.Frag} {mg : Str → Option Value} {base : Heap} {k : Nat} : FnOk P w K mg base CX0 k f fd ["t", "deep", "many"] (spLSize 0) := by
  have no : ∀ vs H Q E, ¬ spLSize 0 vs H Q E := fun vs H Q E h => by
    obtain ⟨F, t, v, d, m, _, _, _, _, _, _, h1, _⟩ := h
    omega
  exact ⟨fun vs H Q E h => absurd h (no vs H Q E), fun A outer s H args us vs Q E _ _ _ _ h => absurd h (no vs H Q E)⟩
section
variable {P : Program} {w : World} {K : PySem.W.Frag} {mg : Str → Option Value} {base : Heap}
theorem ok_lsize {f : Addr} {fd : FuncData} {k n : Nat} (F : Fun K "_law_size" "_law_size" sSize f fd) (hN : NowOk K) (C0 : Cal P w K mg base k "_law_size" (spLSize n) []) (m_len : mg "len" = none) (m_isinstance : mg "isinstance" = none) (m_tuple : mg "tuple" = none) (m_str : mg "str" = none) : FnOk P w K mg base CX0 (k + 1) f fd ["t", "deep", "many"] (spLSize (n + 1)) := by
  refine F.ok scLSize (fun vs H Q E h => ?_) (fun cdv A outer st H vs Q E hr h => ?_)
  · obtain ⟨F, t, v, d, m, rfl, _⟩ := h
    rfl
  obtain ⟨Fh, t, v, dp, mn, rfl, sF, ta, hw, hg, hd1, hd2, q⟩ := h
  refine ⟨_, pss_split 2 (pss_cons (ps_set (i := 2) scLSize.nd rfl (.inl rfl) (pe_op op_add (pv 2) pe_int))
    (pss_one (ps_if (PW.pt (pw_or (pt_cmpR op_gt (pv 1) pe_int (nomark _)) (pw_or1 (pt_cmpR op_gt (pv 2) pe_int (nomark _))))) (pss_one (ps_ret pe_int)) pss_nil)))
    (pss_split 2 (pss_cons (ps_setLc (i := 3) (own := [("part", 4)]) (g := gName 4)  rfl scLSize.nd rfl rfl (sw_true rfl rfl (by decide) (by decide +kernel)) (pi_tup (pv 0)) (blkOk_by (N := ["t", "deep", "many", "rows", "part"]) (sc := defScope sSize) (by decide +kernel)) (fun _ _ _ _ _ => pg_name (i := 4) scLSize.nd rfl (Or.inl rfl)) (fun _ _ _ _ _ => pts_one (PW.pt (pw_and (pt_val (pe_callB (call_isiQ (K := K) rfl) (by rfl) m_isinstance boot_isinstance (pa_cons (pv 4) (pa_cons (pe_bltn (v := .ty "tuple") (by rfl) m_tuple PyProof.Rows.boot_tuple rfl) pa_nil)))) (pw_and (pt_cmpR op_gt (pe_callB (call_len_seqK (K := K) rfl) (by rfl) m_len PySem.boot_len (pa_cons (pv 4) pa_nil)) pe_int (nomark _)) (pw_and1 (pt_val (pe_callB (call_isiQ (K := K) rfl) (by rfl) m_isinstance boot_isinstance (pa_cons (pe_ix (ix_tupK (K := K) rfl) (pv 4) pe_int (fun _ _ => rfl)) (pa_cons (pe_bltn (v := .ty "str") (by rfl) m_str PyProof.Rows.boot_str rfl) pa_nil))))))))) (fun _ _ _ _ _ => (pv 4)))
    (pss_one (ps_if (pt_cmpR op_eq (pe_ix ix_tup (pv 0) pe_int (fun _ _ => rfl)) pe_str (nomark _)) (pss_one (ps_set (i := 3) scLSize.nd rfl (.inl rfl) (pe_op op_cat (pv 3) (pe_ix ix_tup (pv 0) pe_int (fun _ _ => rfl))))) pss_nil)))
    (pss_cons (ps_for PassesOwn.never rfl (pi_list (pv 3)) (pg_name (i := 4) scLSize.nd rfl (.inl rfl)) (pss_cons (ps_set (i := 2) scLSize.nd rfl (.inl rfl) (pe_c C0 hr (Nat.le_refl _) (by rfl) (pa_cons (pv 4) (pa_cons (pe_op op_add (pv 1) pe_int) (pa_cons (pv 2) pa_nil)))))
    (pss_one (ps_if (pt_cmpR op_gt (pv 2) pe_int (nomark _)) (pss_one (ps_ret pe_int)) pss_nil))))
    (pss_one (ps_ret (pv 2))))), ?_⟩
  obtain ⟨a, parts, bs, kv, rfl, ea, hp5, hpt, hgv, tkv⟩ := parts_of ta
  refine ⟨fun σ H' => H = H' ∧ σ = [some (.ref a), some (.int dp), some (.int ((mn + 1 : Nat) : Int)), none, none] ∧ dp ≤ 100 ∧ mn + 1 ≤ 3000, ?_, ?_⟩
  · refine ⟨_, rfl, _, _, rfl, rfl, ?_⟩
    refine ⟨_, rfl, _, _, rfl, rfl, _, rfl, ?_⟩
    have pos := msz_pos t
    by_cases h1 : dp ≤ 100
    · refine if_false_of (by simp only [decide_eq_false_iff_not]; omega) ?_
      refine ⟨_, rfl, _, _, rfl, rfl, _, rfl, ?_⟩
      by_cases h2 : mn + 1 ≤ 3000
      · refine if_false_of (by simp only [decide_eq_false_iff_not]; omega) ?_
        exact ⟨rfl, rfl, h1, h2⟩
      · refine if_true_of (by simp only [decide_eq_true_eq]; omega) ?_
        have g := q H (Same.refl H)
        rw [if_neg (fun z => by have := z.2; omega)] at g
        exact g
    · refine if_true_of (by simp only [decide_eq_true_eq]; omega) ?_
      have g := q H (Same.refl H)
      rw [if_neg (fun z => by have := z.1; omega)] at g
      exact g
  rintro σ _ ⟨rfl, rfl, hd, hm⟩
  refine ⟨fun σ H' => ∃ (l : Addr) (vs : List V) (y4 : Option V), σ = [some (.ref a), some (.int dp), some (.int ((mn + 1 : Nat) : Int)), some (.ref l), y4] ∧ Same H H' ∧ H' l = some (.lst vs) ∧ TmsAt Fh (kids t) vs, ?_, ?_⟩
  · have ea' := sF _ _ ea
    refine q_asgL (el_lcT (a := a) (xs := .str (kind t) :: parts) (atB (false :: bs)) (atP (.str (kind t) :: parts)) (ev_var rfl) (SqT.of ea') (by simp only [List.length_cons]; omega) (fun _ => by rfl) (fun i x H1 e1 hx => ?_) (fun i x H1 e1 hx hf => ?_)) (fun p H1 np e1 h1 => ?_)
    · exact et_pt hN rfl ((hpt i x hx).same (sF.trans e1))
    · have e : atP (.str (kind t) :: parts) i = x := by
        unfold atP
        rw [hx]
        rfl
      rw [e]
      exact ev_var rfl
    · rw [show (V.str (kind t) :: parts).length = parts.length + 1 from rfl, hgv] at h1
      refine ⟨_, rfl, a, _, 0, _, rfl, rfl, SqT.of (e1 _ _ ea'), at0, rfl, _, rfl, ?_⟩
      by_cases hk : kind t = "app"
      · refine if_true_of (decide_eq_true (congrArg V.str hk)) ?_
        cases t with
        | app f0 xs0 o0 =>
          unfold TmAt at ta
          obtain ⟨a', u, l0, vs0, wo1, hh, ea2, el, t1, t2, og⟩ := ta
          cases hh
          rw [ea] at ea2
          injection ea2 with z
          injection z with z
          injection z with _ z
          subst z
          have tk0 : TmsAt Fh [f0] kv := tkv
          unfold TmsAt at tk0
          obtain ⟨w2, s2, rfl, tw, ts⟩ := tk0
          unfold TmsAt at ts
          subst ts
          have hlen : vs0.length ≤ 3000 := by
            have := t2.len
            simp only [gd] at hg
            omega
          refine ⟨_, rfl, _, rfl, a, _, 2, _, rfl, rfl, SqT.of (e1 _ _ ea'), atI_nat (j := 2) rfl, p, l0, [w2], vs0, rfl, rfl, h1, e1 _ _ (sF _ _ el), sz_of (by show 1 + _ ≤ _; omega), fun r hr => ?_⟩
          refine ⟨r, w2 :: vs0, none, rfl, e1.trans (same_new hr _), upd_same, ?_⟩
          show TmsAt Fh (f0 :: xs0) _
          unfold TmsAt
          exact ⟨w2, vs0, rfl, tw, t2⟩
        | _ => exact absurd hk (by simp only [kind]; decide +kernel)
      · refine if_false_of (str_ne hk) ?_
        have e0 : kids0 t = kids t := by
          cases t with
          | app f0 xs0 o0 => exact absurd rfl hk
          | _ => rfl
        rw [e0] at tkv
        exact ⟨p, kv, none, rfl, e1, h1, tkv⟩
  rintro σ H1 ⟨l, vs, y4, rfl, s1, el, tv⟩
  have mk := mht_kids t
  have mz := msz_kids t
  have hlv := tv.len
  refine q_forLn (ev_var rfl) (SqL.of el) (fun i σ H' => ∃ y4 : Option V, σ = [some (.ref a), some (.int dp), some (.int ((mn + 1 + mszs ((kids t).take i) : Nat) : Int)), some (.ref l), y4] ∧ Same H1 H' ∧ mn + 1 + mszs ((kids t).take i) ≤ 3000 ∧ ∀ j c, j < i → (kids t)[j]? = some c → dp + 1 + mht c ≤ 100)
    (fun H2 e2 => ⟨y4, rfl, e2, by simp only [List.take_zero, mszs]; omega, fun j c hj => absurd hj (Nat.not_lt_zero _)⟩) (fun i σ H' _ ⟨_, _, s, _⟩ => SqL.of (s _ _ el)) ?_ ?_
  · rintro i x σ H' hx ⟨y4, rfl, s2, hm2, hall⟩
    obtain ⟨c, hc, tc⟩ := tv.get hx
    have hcm : c ∈ kids t := List.mem_of_getElem? hc
    have hne : kids t ≠ [] := fun z => by rw [z] at hcm; cases hcm
    rw [if_neg hne] at mk
    have hch := mhts_le hcm
    refine ⟨_, rfl, _, rfl, _, _, rfl, rfl, _, rfl, ?_⟩
    refine ⟨Fh, c, x, dp + 1, mn + 1 + mszs ((kids t).take i), rfl, sF.trans (s1.trans s2), tc, woks_get (wok_kids hw).1 hc, gds_get (gd_kids hg).1 hc, by omega, by omega, fun H3 s3 => ?_⟩
    have tk : mszs ((kids t).take (i + 1)) = mszs ((kids t).take i) + msz c := by
      rw [List.take_add_one, hc]
      show mszs (_ ++ [c]) = _
      rw [mszs_app]
      simp only [mszs]
      omega
    have tle := mszs_takeL (kids t) (i + 1)
    refine ⟨_, rfl, _, _, rfl, rfl, _, rfl, ?_⟩
    by_cases hfit : dp + 1 + mht c ≤ 100 ∧ mn + 1 + mszs ((kids t).take i) + msz c ≤ 3000
    · rw [if_pos hfit]
      refine if_false_of (by simp only [decide_eq_false_iff_not]; omega) ?_
      refine ⟨some x, ?_, s2.trans s3, by omega, fun j c2 hj hc2 => ?_⟩
      · rw [show mn + 1 + mszs ((kids t).take (i + 1)) = mn + 1 + mszs ((kids t).take i) + msz c by omega]
        rfl
      · by_cases hji : j < i
        · exact hall j c2 hji hc2
        · have : j = i := by omega
          subst this
          rw [hc] at hc2
          cases hc2
          exact hfit.1
    · rw [if_neg hfit]
      refine if_true_of (by decide) ?_
      have g := q H3 ((s1.trans s2).trans s3)
      rw [if_neg (fun z => hfit ⟨by omega, by omega⟩)] at g
      exact g
  · rintro σ H2 ⟨y4, rfl, s2, hm2, hall⟩
    rw [hlv, List.take_length] at hm2
    rw [hlv, List.take_length]
    have g := q H2 (s1.trans s2)
    have hmh : dp + mht t ≤ 100 := by
      rw [mk]
      split
      · omega
      · rename_i hne
        have hd99 : dp + 1 ≤ 100 := by
          cases hk : kids t with
          | nil => exact absurd hk hne
          | cons c r =>
            have := hall 0 c (by rw [hlv, hk]; exact Nat.succ_pos _) (by rw [hk]; rfl)
            omega
        have : mhts (kids t) + dp + 1 ≤ 100 := by
          rcases Nat.lt_or_ge 100 (mhts (kids t) + dp + 1) with z | z
          · obtain ⟨c, hc, hcz⟩ := mhts_ex (n := 99 - dp) (ts := kids t) (by omega)
            obtain ⟨j, hj⟩ := List.getElem?_of_mem hc
            have hjl := (List.getElem?_eq_some_iff.mp hj).1
            have := hall j c (by omega) hj
            omega
          · exact z
        omega
    rw [if_pos ⟨hmh, by omega⟩] at g
    rw [show mn + 1 + mszs (kids t) = mn + msz t by omega]
    exact ⟨_, rfl, g⟩
end
end Sg

namespace Sg
open PySem PySem.Spec PyProof.Rows L2 Evl
open C8 (Cal pe_c)
variable [Now]
/-! ### the law's own: step -/
theorem call_isEQ {X : Cx} {K : PySem.W.Frag} {a D : Addr} {oe : Obj} {pn : List (Addr × Obj)} (e : X.K = K) (C : ExcC K D) (hz : Zc (.ref D) none oe) (hf : ∃ vs, oe.data = .fields vs) : CallR (X.suite a ((a, oe) :: pn)) (.builtin "isinstance") (rIsE K D a) := by
  cases e
  exact call_isE C hz hf
theorem hd_as {X : Cx} {D : Addr} {st : Stmt} {su : List Stmt} {t : Addr → TS} (h : ∀ (a : Addr) (oe : Obj) (pn : List (Addr × Obj)), Zc (.ref D) none oe → (∃ vs, oe.data = .fields vs) → PSs (X.suite a ((a, oe) :: pn)) (st :: su) (t a)) :
    ∀ (a : Addr) (oe : Obj) (cls : Value) (d : Option Addr) (pn : List (Addr × Obj)), Zc cls d oe → (∃ vs, oe.data = .fields vs) → PSs (X.suite a ((a, oe) :: pn)) (st :: su) (fun E σ H => (cls = .ref D ∧ d = none) ∧ t a E σ H) := fun a oe cls d pn hz hf =>
  ⟨fun pins s σ H E I g => by
    obtain ⟨⟨e1, e2⟩, g⟩ := g
    subst e1 e2
    exact (h a oe pn hz hf).run pins s σ H E I g⟩
structure KindP (K : PySem.W.Frag) (CG CL CS : Addr) : Prop where
  sg : PySem.W.kitOne K (.ref CS) (.ref CG) = some true
  sl : PySem.W.kitOne K (.ref CS) (.ref CL) = some false
  lg : PySem.W.kitOne K (.ref CL) (.ref CG) = some true
def spLStep : Sp := fun vs H Q _ => ∃ (F : Hp) (t : Tm) (v : V), vs = [v] ∧ Same F H ∧ TmAt F t v ∧ All3 t ∧ ¬ big t ∧
  (isV t = true → ∀ H', Same H H' → Q .non H') ∧ (isV t = false → nxt t = none → ∀ H' p, Same H H' → H' p = some (.tup [.str "refused", .str "stuck"]) → Q (.ref p) H') ∧
  (isV t = false → ∀ u, nxt t = some u → big u → ∀ H' p, Same H H' → H' p = some (.tup [.str "refused", .str "limit"]) → Q (.ref p) H') ∧ (isV t = false → ∀ u, nxt t = some u → ¬ big u → ∀ H' v, Same H H' → TmAt (ov F H H') u v → Q v H')
theorem scLStep : FnScope ["term", "e"] ["term"] (defScope sStep) := ⟨rfl, rfl, rfl, by decide +kernel, rfl, by decide +kernel, by decide +kernel⟩
section
variable {P : Program} {w : World} {K : PySem.W.Frag} {mg : Str → Option Value} {base : Heap}
theorem ok_lstep {f CG CS CL : Addr} {fd : FuncData} {k : Nat} (F : Fun K "_law_step" "_law_step" sStep f fd) (XS : ExC K mg CS "StuckError") (XL : ExC K mg CL "LimitError") (gG : mg "SugarError" = some (.ref CG)) (XP : ExP K CL CS) (KP : KindP K CG CL CS) (XCS : ExcC K CS) (XCL : ExcC K CL) (CSt : CalX P w K mg base k "step" (spCStep CL CS)) (m_isinstance : mg "isinstance" = none) : FnOk P w K mg base CX0 (k + 1) f fd ["term"] spLStep := by
  refine F.ok scLStep (fun vs H Q E h => ?_) (fun cdv A outer st H vs Q E hr h => ?_)
  · obtain ⟨F, t, v, rfl, _⟩ := h
    rfl
  obtain ⟨Fh, t, v, rfl, sF, ta, h3, hb, q1, q2, q3, q4⟩ := h
  refine ⟨_, (pss_cons (ps_try_manyAs (i := 1) (Wout := fun _ _ _ _ => False) rfl rfl scLStep.nd rfl rfl takes0 (fun W pn xe tk po => (pss_one (ps_ret (by exact (pe_cX CSt hr (Nat.le_refl _) rfl tk (by exact (pa_cons (pv 0) pa_nil))))))) (.cons ⟨rfl, by decide, .inl XS.g⟩ (hd_as (D := CS) fun a oe pn hz hf => (pss_one (ps_if (PW.pt (pw_and (pt_val (pe_callB (call_isEQ (K := K) rfl XCS hz hf) (by rfl) m_isinstance boot_isinstance (pa_cons (pv 1) (pa_cons (pe_glob (v := .ref CG) (by rfl) gG rfl) pa_nil)))) (pw_and1 (pt_not (pt_val (pe_callB (call_isEQ (K := K) rfl XCS hz hf) (by rfl) m_isinstance boot_isinstance (pa_cons (pv 1) (pa_cons (pe_glob (v := .ref CL) (by rfl) XL.g rfl) pa_nil)))))))) (pss_one (ps_ret (pe_tup (pa_cons pe_str (pa_cons pe_str pa_nil))))) pss_nil))) (.cons ⟨rfl, by decide, .inl XL.g⟩ (hd_as (D := CL) fun a oe pn hz hf => (pss_one (ps_if (pt_val (pe_callB (call_isEQ (K := K) rfl XCL hz hf) (by rfl) m_isinstance boot_isinstance (pa_cons (pv 1) (pa_cons (pe_glob (v := .ref CG) (by rfl) gG rfl) pa_nil)))) (pss_one (ps_ret (pe_tup (pa_cons pe_str (pa_cons pe_str pa_nil))))) pss_nil))) .nil)))
    (pss_one (ps_ret (pe_tup (pa_cons pe_str (pa_cons pe_str pa_nil)))))), ?_⟩
  refine ⟨_, rfl, Fh, t, v, rfl, sF, ta, h3, hb, fun hv H4 s4 => q1 hv H4 s4, fun hv hn2 H4 s4 => ?_, fun hv u hu hbu H4 s4 => ?_, fun hv u hu hbu H4 v4 s4 t4 => q4 hv u hu hbu H4 v4 s4 t4⟩
  · refine ⟨true, XP.ss, fun _ a na => ?_, fun z => Bool.noConfusion z⟩
    refine ⟨⟨rfl, rfl⟩, ?_⟩
    refine ⟨_, rfl, .ref CG, .ref CG, true, rfl, fun u r => r, KP.sg, _, rfl, ?_⟩
    refine if_true_of rfl ?_
    refine ⟨_, rfl, .ref CL, .ref CL, false, rfl, fun u r => r, KP.sl, _, rfl, ?_⟩
    refine if_true_of rfl ?_
    refine ⟨by show 2 ≤ sizeLine; decide, fun p np => ?_⟩
    exact q2 hv hn2 _ p (s4.trans (same_new np _)) upd_same
  · refine ⟨false, XP.ls, fun z => Bool.noConfusion z, fun _ => ⟨true, XP.ll, fun _ a na => ?_, fun z => Bool.noConfusion z⟩⟩
    refine ⟨⟨rfl, rfl⟩, ?_⟩
    refine ⟨_, rfl, .ref CG, .ref CG, true, rfl, fun u r => r, KP.lg, _, rfl, ?_⟩
    refine if_true_of rfl ?_
    refine ⟨by show 2 ≤ sizeLine; decide, fun p np => ?_⟩
    exact q3 hv u hu hbu _ p (s4.trans (same_new np _)) upd_same
end
end Sg

namespace Sg
open PySem PySem.Spec PyProof.Rows L2 Evl
open C8 (Cal pe_c)
variable [Now]
/-! ### law -/
theorem runL_ok : ∀ (n : Nat) (t : Tm), All3 t → ¬ big t → ∀ x ∈ (runL n t).1, All3 x ∧ ¬ big x
  | 0, t, h, hb, x, hx => by
    simp only [runL, List.mem_singleton] at hx
    subst hx
    exact ⟨h, hb⟩
  | n + 1, t, h, hb, x, hx => by
    simp only [runL] at hx
    by_cases hv : isV t = true
    · rw [if_pos hv] at hx
      rw [List.mem_singleton.mp hx]
      exact ⟨h, hb⟩
    · rw [if_neg hv] at hx
      cases e : nxt t with
      | none =>
        rw [e] at hx
        rw [List.mem_singleton.mp hx]
        exact ⟨h, hb⟩
      | some u =>
        rw [e] at hx
        simp only [] at hx
        by_cases hu : big u
        · rw [if_pos hu] at hx
          rw [List.mem_singleton.mp hx]
          exact ⟨h, hb⟩
        · rw [if_neg hu] at hx
          rcases List.mem_cons.mp hx with z | z
          · rw [z]
            exact ⟨h, hb⟩
          · exact runL_ok n u (nxt_ok t u e h) hu x z
theorem runL_str : ∀ (n : Nat) (t : Tm), PyData.strOk (runL n t).2 = true
  | 0, t => by
    simp only [runL]
    split
    · show PyData.strOk "value" = true
      decide +kernel
    · show PyData.strOk "going" = true
      decide +kernel
  | n + 1, t => by
    simp only [runL]
    split
    · show PyData.strOk "value" = true
      decide +kernel
    · split
      · show PyData.strOk "stuck" = true
        decide +kernel
      · rename_i u _
        split
        · show PyData.strOk "limit" = true
          decide +kernel
        · exact runL_str n u
theorem woks_of : ∀ {ts : List Tm}, (∀ x ∈ ts, wok x) → woks ts
  | [], _ => by simp only [woks]
  | t :: ts, h => by
    simp only [woks]
    exact ⟨h t List.mem_cons_self, woks_of fun x hx => h x (List.mem_cons_of_mem _ hx)⟩
theorem mhts_of {ts : List Tm} {n : Nat} (h : ∀ x ∈ ts, mht x ≤ n) : mhts ts ≤ n := by
  rcases Nat.lt_or_ge n (mhts ts) with z | z
  · obtain ⟨c, hc, hz⟩ := mhts_ex z
    have := h c hc
    omega
  · exact z
mutual
theorem clp_gd : ∀ (env : List Int) (t : Tm), clp env t → msz t ≤ 3000 → gd t
  | env, .int _ _, h, z => by simp only [gd]
  | env, .prim _ _, h, z => by simp only [gd]
  | env, .ref i _, h, z => by simp only [gd]
  | env, .fn ids b _, h, z => by
    simp only [clp] at h
    simp only [msz] at z
    simp only [gd]
    exact clp_gd _ b h (by omega)
  | env, .rc i ids b _, h, z => by
    simp only [clp] at h
    simp only [msz] at z
    simp only [gd]
    exact clp_gd _ b h (by omega)
  | env, .lt i x b _, h, z => by
    simp only [clp] at h
    simp only [msz] at z
    simp only [gd]
    exact ⟨clp_gd _ x h.1 (by omega), clp_gd _ b h.2 (by omega)⟩
  | env, .ite x y w _, h, z => by
    simp only [clp] at h
    simp only [msz] at z
    simp only [gd]
    exact ⟨clp_gd _ x h.1 (by omega), clp_gd _ y h.2.1 (by omega), clp_gd _ w h.2.2 (by omega)⟩
  | env, .app f xs _, h, z => by
    simp only [clp] at h
    simp only [msz] at z
    simp only [gd]
    have := len_mszs xs
    exact ⟨clp_gd _ f h.1 (by omega), clps_gds _ xs h.2 (by omega), by omega⟩
  | env, .pair _ _ _, h, z => by simp only [clp] at h
theorem clps_gds : ∀ (env : List Int) (ts : List Tm), clps env ts → mszs ts ≤ 3000 → gds ts
  | env, [], h, z => by simp only [gds]
  | env, t :: ts, h, z => by
    simp only [clps] at h
    simp only [mszs] at z
    simp only [gds]
    exact ⟨clp_gd _ t h.1 (by omega), clps_gds _ ts h.2 (by omega)⟩
end
def spLaw (K : PySem.W.Frag) : Sp := fun vs H Q _ => ∃ (a : Addr) (ns : List Int), vs = [.ref a] ∧ SqL K H a (ns.map V.int) ∧ ns.length ≤ 63 ∧ ∀ H', Q (.bl true) H'
theorem scLaw : FnScope ["script", "state", "term", "states", "end", "before", "k", "now", "due", "told"] ["script"] (defScope sLaw) := ⟨rfl, rfl, rfl, by decide +kernel, rfl, by decide +kernel, by decide +kernel⟩
section
variable {P : Program} {w : World} {K : PySem.W.Frag} {mg : Str → Option Value} {base : Heap}
theorem ok_law {f : Addr} {fd : FuncData} {k : Nat} (F : Fun K "law" "law" sLaw f fd) (hk : 2 ≤ k) (hN : NowOk K) (CS : Cal P w K mg base k "_law_state" (spState K) []) (CT : Cal P w K mg base k "_law_term" (spTerm 5) []) (CSz : Cal P w K mg base k "_law_size" (spLSize 102) []) (CSt : Cal P w K mg base k "_law_step" spLStep []) (CRd : Cal P w K mg base k "_law_ready" spReady []) (CNx : Cal P w K mg base k "_law_next" (spNext 101) []) (CRun : Cal P w K mg base k "run" spRun [])
    (m_repr : mg "repr" = none) (m_isinstance : mg "isinstance" = none) (m_tuple : mg "tuple" = none) (m_range : mg "range" = none) : FnG P w K mg base CX0 (k + 1) f fd ["script"] (spLaw K) := by
  refine fnG_of F scLaw (fun vs H Q E h => ?_) (fun cdv A outer st H vs Q E gA hr h => ?_)
  · obtain ⟨a, ns, rfl, _⟩ := h
    rfl
  obtain ⟨a, ns, rfl, hS, hlen, q⟩ := h
  have hu230 : (A.deeper (envOfC "law" (defScope sLaw) st.heap.objs.size f cdv)).units + 230 < cLine := by
    have := hr.un
    omega
  have hu1 : (A.deeper (envOfC "law" (defScope sLaw) st.heap.objs.size f cdv)).units + 100 < cLine := by omega
  refine ⟨_, pss_split 5 (pss_cons (ps_set (i := 1) scLaw.nd rfl (.inl rfl) (pe_c CS hr (Nat.le_refl _) (by rfl) (pa_cons (pv 0) pa_nil)))
    (pss_cons (ps_set (i := 2) scLaw.nd rfl (.inl rfl) (pe_c CT hr (Nat.le_refl _) (by rfl) (pa_cons (pv 1) (pa_cons (pe_lst pa_nil) (pa_cons pe_int pa_nil)))))
    (pss_cons (ps_set (i := 3) scLaw.nd rfl (.inl rfl) (pe_lst (pa_cons (pv 2) pa_nil)))
    (pss_cons (ps_set (i := 4) scLaw.nd rfl (.inl rfl) pe_str)
    (pss_one (ps_set (i := 5) scLaw.nd rfl (.inl rfl) (pe_callB (call_reprD gA hu1) (by rfl) m_repr PyProof.Rows.boot_repr (pa_cons (pv 2) pa_nil))))))))
    (pss_split 1 (pss_one (ps_for PassesOwn.never rfl (pi_range1 (by rfl) m_range (pa_cons pe_int pa_nil)) (pg_name (i := 6) scLaw.nd rfl (.inl rfl)) (pss_cons (ps_set (i := 7) scLaw.nd rfl (.inl rfl) (pe_ix ix_list (pv 3) (pe_un un_neg pe_int) (fun _ _ => rfl)))
    (pss_cons (ps_if (pt_cmpR op_gt (pe_c CSz hr (Nat.le_refl _) (by rfl) (pa_cons (pv 7) (pa_cons pe_int (pa_cons pe_int pa_nil)))) pe_int (nomark _)) (pss_one (ps_ret (pe_cmpR (op_eqW hu230) (pe_c CSt hr (Nat.le_refl _) (by rfl) (pa_cons (pv 7) pa_nil)) (pe_tup (pa_cons pe_str (pa_cons pe_str pa_nil))) (nomark _)))) pss_nil)
    (pss_cons (ps_if (pt_val (pe_c CRd hr (Nat.le_refl _) (by rfl) (pa_cons (pv 7) pa_nil))) (pss_cons (ps_set (i := 4) scLaw.nd rfl (.inl rfl) pe_str)
    (pss_cons (ps_if (pt_cmpR op_notN (pe_c CSt hr (Nat.le_refl _) (by rfl) (pa_cons (pv 7) pa_nil)) pe_non (nomark _)) (pss_one (ps_ret pe_bl)) pss_nil)
    (pss_one ps_break))) pss_nil)
    (pss_cons (ps_set (i := 8) scLaw.nd rfl (.inl rfl) (pe_c CNx hr (Nat.le_refl _) (by rfl) (pa_cons (pv 7) pa_nil)))
    (pss_cons (ps_if (PW.pt (pw_and (pt_cmpR (op_neW hu230) (pv 8) pe_str (nomark _)) (pw_and1 (pt_cmpR op_gt (pe_c CSz hr (Nat.le_refl _) (by rfl) (pa_cons (pv 8) (pa_cons pe_int (pa_cons pe_int pa_nil)))) pe_int (nomark _))))) (pss_one (ps_ret (pe_cmpR (op_eqW hu230) (pe_c CSt hr (Nat.le_refl _) (by rfl) (pa_cons (pv 7) pa_nil)) (pe_tup (pa_cons pe_str (pa_cons pe_str pa_nil))) (nomark _)))) pss_nil)
    (pss_cons (ps_set (i := 9) scLaw.nd rfl (.inl rfl) (pe_c CSt hr (Nat.le_refl _) (by rfl) (pa_cons (pv 7) pa_nil)))
    (pss_cons (ps_if (PW.pt (pw_or (PW.pt (pw_and (pt_cmpR (op_eqW hu230) (pv 8) pe_str (nomark _)) (pw_and1 (pt_cmpR (op_neW hu230) (pv 9) (pe_tup (pa_cons pe_str (pa_cons pe_str pa_nil))) (nomark _))))) (pw_or1 (PW.pt (pw_and (pt_cmpR (op_neW hu230) (pv 8) pe_str (nomark _)) (pw_and1 (pt_cmpR (op_neW hu230) (pv 9) (pv 8) (nomark _)))))))) (pss_one (ps_ret pe_bl)) pss_nil)
    (pss_cons (ps_if (pt_cmpR (op_eqW hu230) (pv 8) pe_str (nomark _)) (pss_cons (ps_set (i := 4) scLaw.nd rfl (.inl rfl) pe_str)
    (pss_one ps_break)) pss_nil)
    (pss_one (ps_expr (pe_bm PySem.F.plainAttrs_list PySem.F.slot_list_append PySem.F.type_list_append mt_append (pv 3) (pa_cons (pv 8) pa_nil))))))))))))))
    (pss_split 1 (pss_one (ps_if (pt_val (pe_c CRd hr (Nat.le_refl _) (by rfl) (pa_cons (pe_ix ix_list (pv 3) (pe_un un_neg pe_int) (fun _ _ => rfl)) pa_nil))) (pss_one (ps_set (i := 4) scLaw.nd rfl (.inl rfl) pe_str)) pss_nil))
    (pss_cons (ps_set (i := 9) scLaw.nd rfl (.inl rfl) (pe_c CRun hr (Nat.le_refl _) (by rfl) (pa_cons (pv 2) (pa_cons pe_int pa_nil))))
    (pss_one (ps_ret (pe_and (pe_callB call_isi (by rfl) m_isinstance boot_isinstance (pa_cons (pv 9) (pa_cons (pe_bltn (v := .ty "tuple") (by rfl) m_tuple PyProof.Rows.boot_tuple rfl) pa_nil))) (pe_and (pe_cmpR (op_eqW hu230) (pv 9) (pe_tup (pa_cons (pv 3) (pa_cons (pv 4) pa_nil))) (nomark _)) (pe_one (pe_cmpR op_eq (pe_callB (call_reprD gA hu1) (by rfl) m_repr PyProof.Rows.boot_repr (pa_cons (pv 2) pa_nil)) (pv 5) (nomark _)))))))))), ?_⟩
  refine ⟨fun σ H' => ∃ (sv : V) (t : Tm) (at0 : Addr) (ls : Addr) (H2 F : Hp), σ = [some (.ref a), some sv, some (.ref at0), some (.ref ls), some (.str "going"), some (.str (tmD t).shown), none, none, none, none] ∧ Same F H2 ∧ TmAt F t (.ref at0) ∧ H2 ls = none ∧ Same H2 H' ∧ H' ls = some (.lst [.ref at0]) ∧ All3 t ∧ ¬ big t ∧ mht t ≤ 8 ∧ msz t ≤ 161, ?_, ?_⟩
  · refine ⟨_, rfl, a, ns, rfl, hS, hlen, fun H1 p c sm1 np nc S1 => ?_⟩
    refine ⟨_, rfl, by show 0 ≤ sizeLine; decide, fun e1 ne1 => ?_⟩
    have ne1' := S1.new ne1
    refine ⟨p, c, e1, [], 4, rfl, by decide, by decide, upd_same, ne1'.1, ne1'.2, by decide, fun i hi => (by cases hi), S1.same (same_new ne1 _), fun H2 t vt kp2 S2 at2 wt ct ht zt => ?_⟩
    have b4 : bnd 4 = 161 := by decide
    rw [b4] at zt
    obtain ⟨at0, rr, rfl, _⟩ := at2.head
    have sN : Same (nw (upd H1 e1 (.lst [])) H2) H2 := nw_sub
    generalize nw (upd H1 e1 (.lst [])) H2 = Fh at at2 sN
    refine ⟨_, rfl, by show 1 ≤ sizeLine; decide, fun ls nls => ?_⟩
    have s3 : Same H2 (upd H2 ls (.lst [.ref at0])) := same_new nls _
    have e3 : (upd H2 ls (.lst [.ref at0])) ls = some (.lst [.ref at0]) := upd_same
    generalize upd H2 ls (.lst [.ref at0]) = H3 at s3 e3
    have g1 := tm_showW t wt
    have g2 := tm_depth t
    refine ⟨_, rfl, at0, tmD t, rfl, Dp.same (sN.trans s3) _ _ (dp_tm hN t _ at2), g1.1, g1.2.1, by omega, small (by omega), ?_⟩
    exact ⟨_, t, at0, ls, H2, Fh, rfl, sN, at2, nls, s3, e3, ⟨wt, clp_gd _ t ct (by omega), clp_clo _ t ct⟩, (by unfold big; omega), ht, zt⟩
  rintro σ H3 ⟨sv, t, at0, ls, H2, Fh, rfl, sF, ta, nls, s3, e3, h3, hb, ht, zt⟩
  generalize hR : runL 12 t = R
  have sB0 : Same Fh (bs ls Fh H2 H3) := bs_base sF nls
  refine ⟨fun σ H' => ∃ (e : Str) (pre : List Tm) (c : Tm) (xs : List V) (y6 y7 y8 y9 : Option V), σ = [some (.ref a), some sv, some (.ref at0), some (.ref ls), some (.str e), some (.str (tmD t).shown), y6, y7, y8, y9] ∧ Same H2 H' ∧ H' ls = some (.lst xs) ∧ TmsAt (bs ls Fh H2 H') (pre ++ [c]) xs ∧ R.1 = pre ++ [c] ∧ All3 c ∧ (rdy c = true → R.2 = "value") ∧ (rdy c = false → R.2 = e), ?_, ?_⟩
  · refine ⟨12, rfl, by decide, by decide, ?_⟩
    refine for_range (lo := 0) (n := (12 : Int).toNat) (fun i σ H' => ∃ (pre : List Tm) (c : Tm) (xs : List V) (y6 y7 y8 y9 : Option V), σ = [some (.ref a), some sv, some (.ref at0), some (.ref ls), some (.str "going"), some (.str (tmD t).shown), y6, y7, y8, y9] ∧ Same H2 H' ∧ H' ls = some (.lst xs) ∧ TmsAt (bs ls Fh H2 H') (pre ++ [c]) xs ∧ pre.length = i ∧ All3 c ∧ ¬ big c ∧ i ≤ 12 ∧ R = (pre ++ (runL (12 - i) c).1, (runL (12 - i) c).2))
      ⟨[], t, [.ref at0], none, none, none, none, rfl, s3, e3, .one (TmAt.same sB0 _ _ ta), rfl, h3, hb, by decide, hR.symm⟩ ?_ ?_
    · rintro i σ H4 hi ⟨pre, c, xs, y6, y7, y8, y9, rfl, sm, el, tx, hpl, c3, hbc, hin, hrun⟩
      have hi2 : i < 12 := by simpa using hi
      have lx := tx.len
      rw [List.length_append, List.length_singleton] at lx
      obtain ⟨vc, hvc⟩ : ∃ y, xs[pre.length]? = some y := ⟨xs[pre.length]'(by omega), by simp⟩
      obtain ⟨c', hc', tc⟩ := tx.get hvc
      have ec : c' = c := by
        rw [List.getElem?_append_right (Nat.le_refl _), Nat.sub_self] at hc'
        cases hc'
        rfl
      subst ec
      have sB : Same (bs ls Fh H2 H4) H4 := bs_in sF fun b o _ e => sm b o e
      have hr1 : 12 - i = (12 - (i + 1)) + 1 := by omega
      rw [hr1] at hrun
      simp only [runL] at hrun
      have hbc' := hbc
      unfold big at hbc'
      have hvr := isV_rdy c3.g
      refine ⟨_, rfl, _, rfl, ls, xs, -1, vc, rfl, rfl, SqL.of el, atI_neg1 (n := pre.length) (by omega) hvc, ?_⟩
      refine ⟨_, rfl, bs ls Fh H2 H4, c', vc, 0, 0, rfl, sB, tc, c3.wk, c3.g, by decide, by decide, fun H5 s5 => ?_⟩
      rw [if_pos ⟨by omega, by omega⟩]
      refine ⟨_, _, rfl, rfl, _, rfl, if_false_of (by simp only [decide_eq_false_iff_not]; omega) ?_⟩
      have sB5 := sB.trans s5
      refine ⟨_, rfl, bs ls Fh H2 H4, c', vc, rfl, sB5, tc, fun H6 s6 => ⟨_, rfl, ?_⟩⟩
      have sB6 := sB5.trans s6
      have s46 := s5.trans s6
      cases hv : rdy c' with
      | true =>
        rw [hv] at hvr
        rw [if_pos hvr] at hrun
        refine if_true_of rfl ?_
        refine ⟨_, rfl, bs ls Fh H2 H4, c', vc, rfl, sB6, tc, c3, hbc, fun _ H7 s7 => ?_, (fun z => by rw [hvr] at z; cases z), (fun z => by rw [hvr] at z; cases z), (fun z => by rw [hvr] at z; cases z)⟩
        refine ⟨rfl, _, rfl, if_false_of rfl ?_⟩
        have s47 := s46.trans s7
        exact ⟨"value", pre, c', xs, _, _, _, _, rfl, sm.trans s47, s47 _ _ el, TmsAt.same (bs_up s47) _ _ tx, by rw [hrun], c3, fun _ => by rw [hrun], (fun z => by rw [hv] at z; cases z)⟩
      | false =>
        rw [hv] at hvr
        rw [if_neg (by rw [hvr]; decide)] at hrun
        refine if_false_of rfl ?_
        refine ⟨_, rfl, bs ls Fh H2 H4, c', vc, rfl, sB6, tc, c3, hv, by omega, by omega, by omega, fun H7 v7 s7 rv => ?_⟩
        have sB7 := sB6.trans s7
        have s47 := s46.trans s7
        cases e : nxt c' with
        | none =>
          rw [e] at rv hrun
          have ev : v7 = .str "stuck" := rv
          subst ev
          refine ⟨_, rfl, .str "stuck", .str "stuck", .str _, .str _, by decide +kernel, by decide +kernel, by decide, _, rfl, if_false_of (by decide +kernel) ?_⟩
          refine if_false_of rfl ?_
          refine ⟨_, rfl, bs ls Fh H2 H4, c', vc, rfl, sB7, tc, c3, hbc, (fun z => by rw [hvr] at z; cases z), (fun _ _ H8 p s8 hp => ?_), (fun _ u z => by rw [e] at z; cases z), (fun _ u z => by rw [e] at z; cases z)⟩
          refine ⟨_, rfl, .str "stuck", .str "stuck", .str _, .str _, by decide +kernel, by decide +kernel, by decide, _, rfl, if_true_of (by decide +kernel) ?_⟩
          refine ⟨_, rfl, by show 2 ≤ sizeLine; decide, fun p2 np2 => ?_⟩
          have s9 : Same H8 (upd H8 p2 (.tup [.str "refused", .str "stuck"])) := same_new np2 _
          have e9 : (upd H8 p2 (.tup [.str "refused", .str "stuck"])) p2 = some (.tup [.str "refused", .str "stuck"]) := upd_same
          generalize upd H8 p2 (.tup [.str "refused", .str "stuck"]) = H9 at s9 e9
          refine ⟨.tuple [.str "refused", .str "stuck"], .tuple [.str "refused", .str "stuck"], .tup (SqT.of (s9 _ _ hp)) (.cons (.str _) (.cons (.str _) .nil)), .tup (SqT.of e9) (.cons (.str _) (.cons (.str _) .nil)), by decide +kernel, by decide +kernel, by decide, _, rfl, if_false_of (by decide +kernel) ?_⟩
          refine ⟨_, rfl, .str "stuck", .str "stuck", .str _, .str _, by decide +kernel, by decide +kernel, by decide, _, rfl, if_false_of (by decide +kernel) ?_⟩
          refine if_false_of rfl ?_
          refine ⟨_, rfl, .str "stuck", .str "stuck", .str _, .str _, by decide +kernel, by decide +kernel, by decide, _, rfl, if_true_of (by decide +kernel) ?_⟩
          have s49 := (s47.trans s8).trans s9
          exact ⟨"stuck", pre, c', xs, _, _, _, _, rfl, sm.trans s49, s49 _ _ el, TmsAt.same (bs_up s49) _ _ tx, by rw [hrun], c3, (fun z => by rw [hv] at z; cases z), fun _ => by rw [hrun]⟩
        | some u =>
          rw [e] at rv hrun
          have tr : TmAt (ov (bs ls Fh H2 H4) H6 H7) u v7 := rv
          have sG : Same (ov (bs ls Fh H2 H4) H6 H7) H7 := ov_in sB6 s7
          have u3 := nxt_ok c' u e c3
          have du : ∀ H', Same H7 H' → Dp K H' v7 (tmD u) := fun H' s => Dp.same (sG.trans s) _ _ (dp_tm hN u v7 tr)
          have dst : min (PyData.depth (tmD u)) (PyData.depth (.str "stuck")) ≤ 220 := Nat.le_trans (Nat.min_le_right _ _) (by decide)
          refine ⟨_, rfl, tmD u, .str "stuck", du H7 (Same.refl _), .str _, tm_canW u u3.wk, by decide +kernel, dst, _, rfl, if_true_of (by rw [tm_ne_str u]; rfl) ?_⟩
          refine ⟨_, rfl, ov (bs ls Fh H2 H4) H6 H7, u, v7, 0, 0, rfl, sG, tr, u3.wk, u3.g, by decide, by decide, fun H8 s8 => ?_⟩
          refine ⟨_, _, rfl, rfl, _, rfl, ?_⟩
          have sB8 := sB7.trans s8
          have s48 := s47.trans s8
          by_cases hbu : big u
          · have hbu' := hbu
            unfold big at hbu'
            rw [if_neg (by omega)]
            refine if_true_of (by decide) ?_
            refine ⟨_, rfl, bs ls Fh H2 H4, c', vc, rfl, sB8, tc, c3, hbc, (fun z => by rw [hvr] at z; cases z), (fun _ z => by rw [e] at z; cases z), (fun _ u2 hu2 hbu2 H9 p s9 hp => ?_), (fun _ u2 hu2 hb2 => by rw [e] at hu2; cases hu2; exact absurd hbu hb2)⟩
            refine ⟨by show 2 ≤ sizeLine; decide, fun p2 np2 => ?_⟩
            have s10 : Same H9 (upd H9 p2 (.tup [.str "refused", .str "limit"])) := same_new np2 _
            have e10 : (upd H9 p2 (.tup [.str "refused", .str "limit"])) p2 = some (.tup [.str "refused", .str "limit"]) := upd_same
            generalize upd H9 p2 (.tup [.str "refused", .str "limit"]) = H10 at s10 e10
            refine ⟨.tuple [.str "refused", .str "limit"], .tuple [.str "refused", .str "limit"], .tup (SqT.of (s10 _ _ hp)) (.cons (.str _) (.cons (.str _) .nil)), .tup (SqT.of e10) (.cons (.str _) (.cons (.str _) .nil)), by decide +kernel, by decide +kernel, by decide, ?_⟩
            rw [show PyData.eqv (.tuple [.str "refused", .str "limit"]) (.tuple [.str "refused", .str "limit"]) = true by decide +kernel]
            exact q H10
          · have hbu' := hbu
            unfold big at hbu'
            rw [if_pos ⟨by omega, by omega⟩]
            simp only [] at hrun
            rw [if_neg hbu] at hrun
            refine if_false_of (by simp only [decide_eq_false_iff_not]; omega) ?_
            refine ⟨_, rfl, bs ls Fh H2 H4, c', vc, rfl, sB8, tc, c3, hbc, (fun z => by rw [hvr] at z; cases z), (fun _ z => by rw [e] at z; cases z), (fun _ u2 hu2 hbu2 => by rw [e] at hu2; cases hu2; exact absurd hbu2 hbu), (fun _ u2 hu2 _ H9 v9 s9 t9 => ?_)⟩
            rw [e] at hu2
            cases hu2
            have s79 := s8.trans s9
            have d9 := dp_tm hN u v9 (TmAt.same (ov_in sB8 s9) _ _ t9)
            have dd : min (PyData.depth (tmD u)) (PyData.depth (tmD u)) ≤ 220 := Nat.le_trans (Nat.min_le_left _ _) (by have := tm_depth u; omega)
            refine ⟨_, rfl, tmD u, .str "stuck", du H9 s79, .str _, tm_canW u u3.wk, by decide +kernel, dst, _, rfl, if_false_of (tm_ne_str u) ?_⟩
            refine if_false_of rfl ?_
            refine ⟨_, rfl, tmD u, .str "stuck", du H9 s79, .str _, tm_canW u u3.wk, by decide +kernel, dst, _, rfl, if_true_of (by rw [tm_ne_str u]; rfl) ?_⟩
            refine ⟨_, rfl, _, rfl, tmD u, tmD u, d9, du H9 s79, tm_canW u u3.wk, tm_canW u u3.wk, dd, _, rfl, if_false_of (by rw [SeqAt.eqv_refl _ (tm_canW u u3.wk)]; rfl) ?_⟩
            refine ⟨_, rfl, tmD u, .str "stuck", du H9 s79, .str _, tm_canW u u3.wk, by decide +kernel, dst, _, rfl, if_false_of (tm_ne_str u) ?_⟩
            have s49 := s47.trans s79
            have el9 := s49 _ _ el
            refine ⟨_, rfl, .inl ⟨rfl, _, SqL.of el9⟩, _, rfl, ls, _, _, rfl, rfl, el9, smallL (by omega), ?_⟩
            refine ⟨pre ++ [c'], u, xs ++ [v7], _, _, _, _, rfl, same_mut (sm.trans s49) nls _, upd_same, ?_, by rw [List.length_append, hpl]; rfl, u3, hbu, hi2, ?_⟩
            · rw [bs_put]
              refine TmsAt.snoc (TmAt.same (fun b o z => ?_) _ _ tr) (TmsAt.same (bs_up s49) _ _ tx)
              rcases ov_of z with y | y
              · exact bs_new ((sm.trans s46).free y.1) (fun w => by rw [w, s46 _ _ el] at y; cases y.1) (s79 _ _ y.2)
              · exact bs_up s49 b o y.2
            · rw [hrun]
              show (pre ++ (c' :: _), _) = _
              rw [List.append_assoc]
              rfl
    · rintro σ H4 ⟨pre, c, xs, y6, y7, y8, y9, rfl, sm, el, tx, hpl, c3, hbc, hin, hrun⟩
      have hnn : 12 - (12 : Int).toNat = 0 := by decide
      rw [hnn] at hrun
      simp only [runL] at hrun
      have hvr := isV_rdy c3.g
      refine ⟨"going", pre, c, xs, _, _, _, _, rfl, sm, el, tx, by rw [hrun], c3, fun z => by rw [hrun, hvr, z]; rfl, fun z => by rw [hrun, hvr, z]; rfl⟩
  rintro σ H4 ⟨e, pre, c, xs, y6, y7, y8, y9, rfl, sm, el, tx, hr1, c3, hrv, hrn⟩
  refine ⟨fun σ H' => ∃ (y6 y7 y8 y9 : Option V), σ = [some (.ref a), some sv, some (.ref at0), some (.ref ls), some (.str R.2), some (.str (tmD t).shown), y6, y7, y8, y9] ∧ Same H2 H' ∧ H' ls = some (.lst xs) ∧ TmsAt (bs ls Fh H2 H') R.1 xs, ?_, ?_⟩
  · have lx := tx.len
    rw [List.length_append, List.length_singleton] at lx
    obtain ⟨vc, hvc⟩ : ∃ y, xs[pre.length]? = some y := ⟨xs[pre.length]'(by omega), by simp⟩
    obtain ⟨c', hc', tc⟩ := tx.get hvc
    have ec : c' = c := by
      rw [List.getElem?_append_right (Nat.le_refl _), Nat.sub_self] at hc'
      cases hc'
      rfl
    subst ec
    have sB : Same (bs ls Fh H2 H4) H4 := bs_in sF fun b o _ e => sm b o e
    refine ⟨_, rfl, _, rfl, ls, xs, -1, vc, rfl, rfl, SqL.of el, atI_neg1 (n := pre.length) (by omega) hvc, ?_⟩
    refine ⟨bs ls Fh H2 H4, c', vc, rfl, sB, tc, fun H5 s5 => ⟨_, rfl, ?_⟩⟩
    cases hv : rdy c' with
    | true =>
      refine if_true_of rfl ?_
      exact ⟨_, _, _, _, by rw [hrv hv]; rfl, sm.trans s5, s5 _ _ el, by rw [hr1]; exact TmsAt.same (bs_up s5) _ _ tx⟩
    | false =>
      refine if_false_of rfl ?_
      exact ⟨_, _, _, _, by rw [hrn hv], sm.trans s5, s5 _ _ el, by rw [hr1]; exact TmsAt.same (bs_up s5) _ _ tx⟩
  clear tx el hr1 hrv hrn sm y6 y7 y8 y9 sB0 s3 e3
  rintro σ H5 ⟨y6, y7, y8, y9, rfl, sm, el, tx⟩
  refine ⟨_, rfl, Fh, t, .ref at0, 12, rfl, by decide, sF.trans sm, ta, h3, hb, fun H6 p l ys s6 hp hl ty => ?_⟩
  rw [hR] at hp ty
  have sB : Same (bs ls Fh H2 H5) H5 := bs_in sF fun b o _ e => sm b o e
  have ok := runL_ok 12 t h3 hb
  rw [hR] at ok
  have wk : woks R.1 := woks_of fun x hx => (ok x hx).1.wk
  have mh : mhts R.1 ≤ 100 := mhts_of fun x hx => by
    have := (ok x hx).2
    unfold big at this
    omega
  have so : PyData.strOk R.2 = true := by
    rw [← hR]
    exact runL_str 12 t
  have cl : PyData.canLay0 (.tuple [.list (tmDs R.1), .str R.2]) = true := by
    simp only [PyData.canLay0, PyData.canLayAll0, tms_canW _ wk, so]
    rfl
  have dd : min (PyData.depth (.tuple [.list (tmDs R.1), .str R.2])) (PyData.depth (.tuple [.list (tmDs R.1), .str R.2])) ≤ 220 := by
    have := tms_depth R.1
    simp only [PyData.depth, PyData.depthAll]
    omega
  refine ⟨_, rfl, .ref p, .ty "tuple", .type "tuple", .type "tuple", true, rfl, .ty _, .base (.tup hp), kit_ty (by decide +kernel), _, rfl, if_true_of rfl ?_⟩
  refine ⟨_, rfl, _, rfl, _, rfl, by show 2 ≤ sizeLine; decide, fun p7 np7 => ?_⟩
  have s7 : Same H6 (upd H6 p7 (.tup [.ref ls, .str R.2])) := same_new np7 _
  have e7 : (upd H6 p7 (.tup [.ref ls, .str R.2])) p7 = some (.tup [.ref ls, .str R.2]) := upd_same
  generalize upd H6 p7 (.tup [.ref ls, .str R.2]) = H7 at s7 e7
  have s57 := s6.trans s7
  refine ⟨.tuple [.list (tmDs R.1), .str R.2], .tuple [.list (tmDs R.1), .str R.2], .tup (SqT.of (s7 _ _ hp)) (.cons (.lst (SqL.of (s7 _ _ hl)) (dp_tms hN _ _ (TmsAt.same s7 _ _ ty))) (.cons (.str _) .nil)), .tup (SqT.of e7) (.cons (.lst (SqL.of (s57 _ _ el)) (dp_tms hN _ _ (TmsAt.same (sB.trans s57) _ _ tx))) (.cons (.str _) .nil)), cl, cl, dd, _, rfl, ?_⟩
  refine if_true_of (SeqAt.eqv_refl _ cl) ?_
  have g1 := tm_showW t h3.wk
  have g2 := tm_depth t
  refine ⟨_, rfl, at0, tmD t, rfl, Dp.same ((sF.trans sm).trans s57) _ _ (dp_tm hN t _ ta), g1.1, g1.2.1, by omega, small (by omega), ?_⟩
  refine ⟨_, rfl, rfl, ?_⟩
  rw [decide_eq_true rfl]
  exact q H7
end
end Sg

namespace Sg
open PySem PySem.Spec PyProof.Rows L2
/-! ### what the top has written -/
def spLaw0 (K : PySem.W.Frag) : Sp := fun vs H Q _ => ∃ (a : Addr) (ns : List Int), vs = [.ref a] ∧ SqL K H a (ns.map V.int) ∧ ns.length ≤ 63 ∧ ∀ H', Q (.bl true) H'
theorem all_mk {P : Program} {w : World} {K : PySem.W.Frag} {h : Heap} {mg : Str → Option Value} {fa : Addr} (X : K.In h) (G : h.Ns mainGlobals mg) (hfa : mg "law" = some (.ref fa))
    {f1 : Addr} {od1 an1 : Option Addr} {sl1 : Array (Option Value)} {oc1 kV1 dc1 pm1 cd1 ct1 : Value}
    {f2 : Addr} {od2 an2 : Option Addr} {sl2 : Array (Option Value)} {oc2 kV2 dc2 pm2 cd2 ct2 : Value}
    {f3 : Addr} {od3 an3 : Option Addr} {sl3 : Array (Option Value)} {oc3 kV3 dc3 pm3 cd3 ct3 : Value}
    {f4 : Addr} {od4 an4 : Option Addr} {sl4 : Array (Option Value)} {oc4 kV4 dc4 pm4 cd4 ct4 : Value}
    {f5 : Addr} {od5 an5 : Option Addr} {sl5 : Array (Option Value)} {oc5 kV5 dc5 pm5 cd5 ct5 : Value}
    {f6 : Addr} {od6 an6 : Option Addr} {sl6 : Array (Option Value)} {oc6 kV6 dc6 pm6 cd6 ct6 : Value}
    {f7 : Addr} {od7 an7 : Option Addr} {sl7 : Array (Option Value)} {oc7 kV7 dc7 pm7 cd7 ct7 : Value}
    {f8 : Addr} {od8 an8 : Option Addr} {sl8 : Array (Option Value)} {oc8 kV8 dc8 pm8 cd8 ct8 : Value}
    {f9 : Addr} {od9 an9 : Option Addr} {sl9 : Array (Option Value)} {oc9 kV9 dc9 pm9 cd9 ct9 : Value}
    {f10 : Addr} {od10 an10 : Option Addr} {sl10 : Array (Option Value)} {oc10 kV10 dc10 pm10 cd10 ct10 : Value}
    {f11 : Addr} {od11 an11 : Option Addr} {sl11 : Array (Option Value)} {oc11 kV11 dc11 pm11 cd11 ct11 : Value}
    {f12 : Addr} {od12 an12 : Option Addr} {sl12 : Array (Option Value)} {oc12 kV12 dc12 pm12 cd12 ct12 : Value}
    {f13 : Addr} {od13 an13 : Option Addr} {sl13 : Array (Option Value)} {oc13 kV13 dc13 pm13 cd13 ct13 : Value}
    {f14 : Addr} {od14 an14 : Option Addr} {sl14 : Array (Option Value)} {oc14 kV14 dc14 pm14 cd14 ct14 : Value}
    {f15 : Addr} {od15 an15 : Option Addr} {sl15 : Array (Option Value)} {oc15 kV15 dc15 pm15 cd15 ct15 : Value}
    {f16 : Addr} {od16 an16 : Option Addr} {sl16 : Array (Option Value)} {oc16 kV16 dc16 pm16 cd16 ct16 : Value}
    {f17 : Addr} {od17 an17 : Option Addr} {sl17 : Array (Option Value)} {oc17 kV17 dc17 pm17 cd17 ct17 : Value}
    {f18 : Addr} {od18 an18 : Option Addr} {sl18 : Array (Option Value)} {oc18 kV18 dc18 pm18 cd18 ct18 : Value}
    {f19 : Addr} {od19 an19 : Option Addr} {sl19 : Array (Option Value)} {oc19 kV19 dc19 pm19 cd19 ct19 : Value}
    {f20 : Addr} {od20 an20 : Option Addr} {sl20 : Array (Option Value)} {oc20 kV20 dc20 pm20 cd20 ct20 : Value}
    {f21 : Addr} {od21 an21 : Option Addr} {sl21 : Array (Option Value)} {oc21 kV21 dc21 pm21 cd21 ct21 : Value}
    {f22 : Addr} {od22 an22 : Option Addr} {sl22 : Array (Option Value)} {oc22 kV22 dc22 pm22 cd22 ct22 : Value}
    {f23 : Addr} {od23 an23 : Option Addr} {sl23 : Array (Option Value)} {oc23 kV23 dc23 pm23 cd23 ct23 : Value}
    {f24 : Addr} {od24 an24 : Option Addr} {sl24 : Array (Option Value)} {oc24 kV24 dc24 pm24 cd24 ct24 : Value}
    {f25 : Addr} {od25 an25 : Option Addr} {sl25 : Array (Option Value)} {oc25 kV25 dc25 pm25 cd25 ct25 : Value}
    {f26 : Addr} {od26 an26 : Option Addr} {sl26 : Array (Option Value)} {oc26 kV26 dc26 pm26 cd26 ct26 : Value}
    {f27 : Addr} {od27 an27 : Option Addr} {sl27 : Array (Option Value)} {oc27 kV27 dc27 pm27 cd27 ct27 : Value}
    {f28 : Addr} {od28 an28 : Option Addr} {sl28 : Array (Option Value)} {oc28 kV28 dc28 pm28 cd28 ct28 : Value}
    {f29 : Addr} {od29 an29 : Option Addr} {sl29 : Array (Option Value)} {oc29 kV29 dc29 pm29 cd29 ct29 : Value}
    {f30 : Addr} {od30 an30 : Option Addr} {sl30 : Array (Option Value)} {oc30 kV30 dc30 pm30 cd30 ct30 : Value}
    {aN aE CS CL CG : Addr} {odN odE : Option Addr} {nN nE : Nat} {slN slE : Array (Option Value)} {u1 u2 t_DEEPEST_PART t_MOST_PARTS t_LARGEST_INTEGER : Tok}
    (a1 : PySem.W.nsIn K mainGlobals "inner_terms" = some (some (.ref f1)))
    (l1 : K.lookup f1 = some ⟨oc1, od1, .func (PySem.W.fnOf "inner_terms" "inner_terms" (defArgs cInnerTerms) (defBody cInnerTerms) (defScope cInnerTerms) .none kV1 dc1 pm1 an1 cd1 ct1), sl1⟩)
    (c1 : PySem.W.codeIn K cd1 "inner_terms" = true)
    (k1 : PySem.W.keepIn K (.ref f1) = true)
    (a2 : PySem.W.nsIn K mainGlobals "bound_in_body" = some (some (.ref f2)))
    (l2 : K.lookup f2 = some ⟨oc2, od2, .func (PySem.W.fnOf "bound_in_body" "bound_in_body" (defArgs cBoundInBody) (defBody cBoundInBody) (defScope cBoundInBody) .none kV2 dc2 pm2 an2 cd2 ct2), sl2⟩)
    (c2 : PySem.W.codeIn K cd2 "bound_in_body" = true)
    (k2 : PySem.W.keepIn K (.ref f2) = true)
    (a3 : PySem.W.nsIn K mainGlobals "rebuilt" = some (some (.ref f3)))
    (l3 : K.lookup f3 = some ⟨oc3, od3, .func (PySem.W.fnOf "rebuilt" "rebuilt" (defArgs cRebuilt) (defBody cRebuilt) (defScope cRebuilt) .none kV3 dc3 pm3 an3 cd3 ct3), sl3⟩)
    (c3 : PySem.W.codeIn K cd3 "rebuilt" = true)
    (k3 : PySem.W.keepIn K (.ref f3) = true)
    (a4 : PySem.W.nsIn K mainGlobals "fresh" = some (some (.ref f4)))
    (l4 : K.lookup f4 = some ⟨oc4, od4, .func (PySem.W.fnOf "fresh" "fresh" (defArgs cFresh) (defBody cFresh) (defScope cFresh) .none kV4 dc4 pm4 an4 cd4 ct4), sl4⟩)
    (c4 : PySem.W.codeIn K cd4 "fresh" = true)
    (k4 : PySem.W.keepIn K (.ref f4) = true)
    (a5 : PySem.W.nsIn K mainGlobals "placed" = some (some (.ref f5)))
    (l5 : K.lookup f5 = some ⟨oc5, od5, .func (PySem.W.fnOf "placed" "placed" (defArgs cPlaced) (defBody cPlaced) (defScope cPlaced) .none kV5 dc5 pm5 an5 cd5 ct5), sl5⟩)
    (c5 : PySem.W.codeIn K cd5 "placed" = true)
    (k5 : PySem.W.keepIn K (.ref f5) = true)
    (a6 : PySem.W.nsIn K mainGlobals "inner_tasks" = some (some (.ref f6)))
    (l6 : K.lookup f6 = some ⟨oc6, od6, .func (PySem.W.fnOf "inner_tasks" "inner_tasks" (defArgs cInnerTasks) (defBody cInnerTasks) (defScope cInnerTasks) .none kV6 dc6 pm6 an6 cd6 ct6), sl6⟩)
    (c6 : PySem.W.codeIn K cd6 "inner_tasks" = true)
    (k6 : PySem.W.keepIn K (.ref f6) = true)
    (a7 : PySem.W.nsIn K mainGlobals "check_size" = some (some (.ref f7)))
    (l7 : K.lookup f7 = some ⟨oc7, od7, .func (PySem.W.fnOf "check_size" "check_size" (defArgs cCheckSize) (defBody cCheckSize) (defScope cCheckSize) .none kV7 dc7 pm7 an7 cd7 ct7), sl7⟩)
    (c7 : PySem.W.codeIn K cd7 "check_size" = true)
    (k7 : PySem.W.keepIn K (.ref f7) = true)
    (a8 : PySem.W.nsIn K mainGlobals "is_value" = some (some (.ref f8)))
    (l8 : K.lookup f8 = some ⟨oc8, od8, .func (PySem.W.fnOf "is_value" "is_value" (defArgs cIsValue) (defBody cIsValue) (defScope cIsValue) .none kV8 dc8 pm8 an8 cd8 ct8), sl8⟩)
    (c8 : PySem.W.codeIn K cd8 "is_value" = true)
    (k8 : PySem.W.keepIn K (.ref f8) = true)
    (a9 : PySem.W.nsIn K mainGlobals "made_values_first" = some (some (.ref f9)))
    (l9 : K.lookup f9 = some ⟨oc9, od9, .func (PySem.W.fnOf "made_values_first" "made_values_first" (defArgs cMadeValuesFirst) (defBody cMadeValuesFirst) (defScope cMadeValuesFirst) .none kV9 dc9 pm9 an9 cd9 ct9), sl9⟩)
    (c9 : PySem.W.codeIn K cd9 "made_values_first" = true)
    (k9 : PySem.W.keepIn K (.ref f9) = true)
    (a10 : PySem.W.nsIn K mainGlobals "first_to_be_made_a_value" = some (some (.ref f10)))
    (l10 : K.lookup f10 = some ⟨oc10, od10, .func (PySem.W.fnOf "first_to_be_made_a_value" "first_to_be_made_a_value" (defArgs cFirstToBeMadeAValue) (defBody cFirstToBeMadeAValue) (defScope cFirstToBeMadeAValue) .none kV10 dc10 pm10 an10 cd10 ct10), sl10⟩)
    (c10 : PySem.W.codeIn K cd10 "first_to_be_made_a_value" = true)
    (k10 : PySem.W.keepIn K (.ref f10) = true)
    (a11 : PySem.W.nsIn K mainGlobals "stepped" = some (some (.ref f11)))
    (l11 : K.lookup f11 = some ⟨oc11, od11, .func (PySem.W.fnOf "stepped" "stepped" (defArgs cStepped) (defBody cStepped) (defScope cStepped) .none kV11 dc11 pm11 an11 cd11 ct11), sl11⟩)
    (c11 : PySem.W.codeIn K cd11 "stepped" = true)
    (k11 : PySem.W.keepIn K (.ref f11) = true)
    (a12 : PySem.W.nsIn K mainGlobals "by_rule" = some (some (.ref f12)))
    (l12 : K.lookup f12 = some ⟨oc12, od12, .func (PySem.W.fnOf "by_rule" "by_rule" (defArgs cByRule) (defBody cByRule) (defScope cByRule) .none kV12 dc12 pm12 an12 cd12 ct12), sl12⟩)
    (c12 : PySem.W.codeIn K cd12 "by_rule" = true)
    (k12 : PySem.W.keepIn K (.ref f12) = true)
    (a13 : PySem.W.nsIn K mainGlobals "applied" = some (some (.ref f13)))
    (l13 : K.lookup f13 = some ⟨oc13, od13, .func (PySem.W.fnOf "applied" "applied" (defArgs cApplied) (defBody cApplied) (defScope cApplied) .none kV13 dc13 pm13 an13 cd13 ct13), sl13⟩)
    (c13 : PySem.W.codeIn K cd13 "applied" = true)
    (k13 : PySem.W.keepIn K (.ref f13) = true)
    (a14 : PySem.W.nsIn K mainGlobals "called" = some (some (.ref f14)))
    (l14 : K.lookup f14 = some ⟨oc14, od14, .func (PySem.W.fnOf "called" "called" (defArgs cCalled) (defBody cCalled) (defScope cCalled) .none kV14 dc14 pm14 an14 cd14 ct14), sl14⟩)
    (c14 : PySem.W.codeIn K cd14 "called" = true)
    (k14 : PySem.W.keepIn K (.ref f14) = true)
    (a15 : PySem.W.nsIn K mainGlobals "made_by_primitive" = some (some (.ref f15)))
    (l15 : K.lookup f15 = some ⟨oc15, od15, .func (PySem.W.fnOf "made_by_primitive" "made_by_primitive" (defArgs cMadeByPrimitive) (defBody cMadeByPrimitive) (defScope cMadeByPrimitive) .none kV15 dc15 pm15 an15 cd15 ct15), sl15⟩)
    (c15 : PySem.W.codeIn K cd15 "made_by_primitive" = true)
    (k15 : PySem.W.keepIn K (.ref f15) = true)
    (a16 : PySem.W.nsIn K mainGlobals "calculated" = some (some (.ref f16)))
    (l16 : K.lookup f16 = some ⟨oc16, od16, .func (PySem.W.fnOf "calculated" "calculated" (defArgs cCalculated) (defBody cCalculated) (defScope cCalculated) .none kV16 dc16 pm16 an16 cd16 ct16), sl16⟩)
    (c16 : PySem.W.codeIn K cd16 "calculated" = true)
    (k16 : PySem.W.keepIn K (.ref f16) = true)
    (a17 : PySem.W.nsIn K mainGlobals "step" = some (some (.ref f17)))
    (l17 : K.lookup f17 = some ⟨oc17, od17, .func (PySem.W.fnOf "step" "step" (defArgs cStep) (defBody cStep) (defScope cStep) .none kV17 dc17 pm17 an17 cd17 ct17), sl17⟩)
    (c17 : PySem.W.codeIn K cd17 "step" = true)
    (k17 : PySem.W.keepIn K (.ref f17) = true)
    (a18 : PySem.W.nsIn K mainGlobals "run" = some (some (.ref f18)))
    (l18 : K.lookup f18 = some ⟨oc18, od18, .func (PySem.W.fnOf "run" "run" (defArgs cRun) (defBody cRun) (defScope cRun) .none kV18 dc18 pm18 an18 cd18 ct18), sl18⟩)
    (c18 : PySem.W.codeIn K cd18 "run" = true)
    (k18 : PySem.W.keepIn K (.ref f18) = true)
    (a19 : PySem.W.nsIn K mainGlobals "_law_state" = some (some (.ref f19)))
    (l19 : K.lookup f19 = some ⟨oc19, od19, .func (PySem.W.fnOf "_law_state" "_law_state" (defArgs sState) (defBody sState) (defScope sState) .none kV19 dc19 pm19 an19 cd19 ct19), sl19⟩)
    (c19 : PySem.W.codeIn K cd19 "_law_state" = true)
    (k19 : PySem.W.keepIn K (.ref f19) = true)
    (a20 : PySem.W.nsIn K mainGlobals "_law_draw" = some (some (.ref f20)))
    (l20 : K.lookup f20 = some ⟨oc20, od20, .func (PySem.W.fnOf "_law_draw" "_law_draw" (defArgs sDraw) (defBody sDraw) (defScope sDraw) .none kV20 dc20 pm20 an20 cd20 ct20), sl20⟩)
    (c20 : PySem.W.codeIn K cd20 "_law_draw" = true)
    (k20 : PySem.W.keepIn K (.ref f20) = true)
    (a21 : PySem.W.nsIn K mainGlobals "_law_pick" = some (some (.ref f21)))
    (l21 : K.lookup f21 = some ⟨oc21, od21, .func (PySem.W.fnOf "_law_pick" "_law_pick" (defArgs sPick) (defBody sPick) (defScope sPick) .none kV21 dc21 pm21 an21 cd21 ct21), sl21⟩)
    (c21 : PySem.W.codeIn K cd21 "_law_pick" = true)
    (k21 : PySem.W.keepIn K (.ref f21) = true)
    (a22 : PySem.W.nsIn K mainGlobals "_law_term" = some (some (.ref f22)))
    (l22 : K.lookup f22 = some ⟨oc22, od22, .func (PySem.W.fnOf "_law_term" "_law_term" (defArgs sTerm) (defBody sTerm) (defScope sTerm) .none kV22 dc22 pm22 an22 cd22 ct22), sl22⟩)
    (c22 : PySem.W.codeIn K cd22 "_law_term" = true)
    (k22 : PySem.W.keepIn K (.ref f22) = true)
    (a23 : PySem.W.nsIn K mainGlobals "_law_put" = some (some (.ref f23)))
    (l23 : K.lookup f23 = some ⟨oc23, od23, .func (PySem.W.fnOf "_law_put" "_law_put" (defArgs sPut) (defBody sPut) (defScope sPut) .none kV23 dc23 pm23 an23 cd23 ct23), sl23⟩)
    (c23 : PySem.W.codeIn K cd23 "_law_put" = true)
    (k23 : PySem.W.keepIn K (.ref f23) = true)
    (a24 : PySem.W.nsIn K mainGlobals "_law_prim" = some (some (.ref f24)))
    (l24 : K.lookup f24 = some ⟨oc24, od24, .func (PySem.W.fnOf "_law_prim" "_law_prim" (defArgs sPrim) (defBody sPrim) (defScope sPrim) .none kV24 dc24 pm24 an24 cd24 ct24), sl24⟩)
    (c24 : PySem.W.codeIn K cd24 "_law_prim" = true)
    (k24 : PySem.W.keepIn K (.ref f24) = true)
    (a25 : PySem.W.nsIn K mainGlobals "_law_apply" = some (some (.ref f25)))
    (l25 : K.lookup f25 = some ⟨oc25, od25, .func (PySem.W.fnOf "_law_apply" "_law_apply" (defArgs sApply) (defBody sApply) (defScope sApply) .none kV25 dc25 pm25 an25 cd25 ct25), sl25⟩)
    (c25 : PySem.W.codeIn K cd25 "_law_apply" = true)
    (k25 : PySem.W.keepIn K (.ref f25) = true)
    (a26 : PySem.W.nsIn K mainGlobals "_law_ready" = some (some (.ref f26)))
    (l26 : K.lookup f26 = some ⟨oc26, od26, .func (PySem.W.fnOf "_law_ready" "_law_ready" (defArgs sReady) (defBody sReady) (defScope sReady) .none kV26 dc26 pm26 an26 cd26 ct26), sl26⟩)
    (c26 : PySem.W.codeIn K cd26 "_law_ready" = true)
    (k26 : PySem.W.keepIn K (.ref f26) = true)
    (a27 : PySem.W.nsIn K mainGlobals "_law_next" = some (some (.ref f27)))
    (l27 : K.lookup f27 = some ⟨oc27, od27, .func (PySem.W.fnOf "_law_next" "_law_next" (defArgs sNext) (defBody sNext) (defScope sNext) .none kV27 dc27 pm27 an27 cd27 ct27), sl27⟩)
    (c27 : PySem.W.codeIn K cd27 "_law_next" = true)
    (k27 : PySem.W.keepIn K (.ref f27) = true)
    (a28 : PySem.W.nsIn K mainGlobals "_law_size" = some (some (.ref f28)))
    (l28 : K.lookup f28 = some ⟨oc28, od28, .func (PySem.W.fnOf "_law_size" "_law_size" (defArgs sSize) (defBody sSize) (defScope sSize) .none kV28 dc28 pm28 an28 cd28 ct28), sl28⟩)
    (c28 : PySem.W.codeIn K cd28 "_law_size" = true)
    (k28 : PySem.W.keepIn K (.ref f28) = true)
    (a29 : PySem.W.nsIn K mainGlobals "_law_step" = some (some (.ref f29)))
    (l29 : K.lookup f29 = some ⟨oc29, od29, .func (PySem.W.fnOf "_law_step" "_law_step" (defArgs sStep) (defBody sStep) (defScope sStep) .none kV29 dc29 pm29 an29 cd29 ct29), sl29⟩)
    (c29 : PySem.W.codeIn K cd29 "_law_step" = true)
    (k29 : PySem.W.keepIn K (.ref f29) = true)
    (a30 : PySem.W.nsIn K mainGlobals "law" = some (some (.ref f30)))
    (l30 : K.lookup f30 = some ⟨oc30, od30, .func (PySem.W.fnOf "law" "law" (defArgs sLaw) (defBody sLaw) (defScope sLaw) .none kV30 dc30 pm30 an30 cd30 ct30), sl30⟩)
    (c30 : PySem.W.codeIn K cd30 "law" = true)
    (k30 : PySem.W.keepIn K (.ref f30) = true)
    (z_list : PySem.W.nsIn K mainGlobals "list" = some none)
    (z_len : PySem.W.nsIn K mainGlobals "len" = some none)
    (z_range : PySem.W.nsIn K mainGlobals "range" = some none)
    (z_int : PySem.W.nsIn K mainGlobals "int" = some none)
    (z_abs : PySem.W.nsIn K mainGlobals "abs" = some none)
    (z_tuple : PySem.W.nsIn K mainGlobals "tuple" = some none)
    (z_repr : PySem.W.nsIn K mainGlobals "repr" = some none)
    (z_str : PySem.W.nsIn K mainGlobals "str" = some none)
    (z_isinstance : PySem.W.nsIn K mainGlobals "isinstance" = some none)
    (z_enumerate : PySem.W.nsIn K mainGlobals "enumerate" = some none)
    (z_reversed : PySem.W.nsIn K mainGlobals "reversed" = some none)
    (z_dict : PySem.W.nsIn K mainGlobals "dict" = some none)
    (z_zip : PySem.W.nsIn K mainGlobals "zip" = some none)
    (g_DP : PySem.W.nsIn K mainGlobals "DEEPEST_PART" = some (some (.int 100 t_DEEPEST_PART)))
    (g_MP : PySem.W.nsIn K mainGlobals "MOST_PARTS" = some (some (.int 3000 t_MOST_PARTS)))
    (g_LI : PySem.W.nsIn K mainGlobals "LARGEST_INTEGER" = some (some (.int 999999999 t_LARGEST_INTEGER)))
    (g_NW : PySem.W.nsIn K mainGlobals "NOWHERE" = some (some (.ref aN)))
    (l_NW : K.lookup aN = some ⟨.type "tuple", odN, .seq #[.int (-1) u1, .ref aE, .int (-1) u2] nN, slN⟩)
    (l_NE : K.lookup aE = some ⟨.type "tuple", odE, .seq #[] nE, slE⟩)
    (g_CS : PySem.W.nsIn K mainGlobals "StuckError" = some (some (.ref CS)))
    (g_CL : PySem.W.nsIn K mainGlobals "LimitError" = some (some (.ref CL)))
    (g_CG : PySem.W.nsIn K mainGlobals "SugarError" = some (some (.ref CG)))
    (x_CS : PySem.W.excIn K CS [.type "ValueError", .type "Exception", .type "BaseException", .type "object"] "ValueError.__new__" = true)
    (k_CS : PySem.W.keepIn K (.ref CS) = true)
    (e_CS : PySem.W.subIn K (.ref CS) (.type "BaseException") = some true)
    (t_CS : PySem.W.typeIn K (.ref CS) = some (.type "type"))
    (h_CS : PySem.W.hasDictIn K CS = true)
    (ga_CS : PySem.W.findIn K (.ref CS) "__getattribute__" = some (some (.builtin "BaseException.__getattribute__")))
    (gg_CS : PySem.W.findIn K (.ref CS) "__getattr__" = some none)
    (hc_CS : PySem.W.findIn K (.ref CS) "__class__" = some (some (.builtin "object.__class__")))
    (mo_CS : PySem.W.mroIn K CS (.type "object") = some true)
    (x_CL : PySem.W.excIn K CL [.type "ValueError", .type "Exception", .type "BaseException", .type "object"] "ValueError.__new__" = true)
    (k_CL : PySem.W.keepIn K (.ref CL) = true)
    (e_CL : PySem.W.subIn K (.ref CL) (.type "BaseException") = some true)
    (t_CL : PySem.W.typeIn K (.ref CL) = some (.type "type"))
    (h_CL : PySem.W.hasDictIn K CL = true)
    (ga_CL : PySem.W.findIn K (.ref CL) "__getattribute__" = some (some (.builtin "BaseException.__getattribute__")))
    (gg_CL : PySem.W.findIn K (.ref CL) "__getattr__" = some none)
    (hc_CL : PySem.W.findIn K (.ref CL) "__class__" = some (some (.builtin "object.__class__")))
    (mo_CL : PySem.W.mroIn K CL (.type "object") = some true)
    (hsp : PySem.W.specialIn K (.builtin "object.__class__") "__get__" = some (some (.builtin "getset_descriptor.__get__")))
    (htk : PySem.W.takesIn K (.builtin "object.__class__") = some true)
    (s_SS : PySem.W.subIn K (.ref CS) (.ref CS) = some true)
    (s_LS : PySem.W.subIn K (.ref CL) (.ref CS) = some false)
    (s_LL : PySem.W.subIn K (.ref CL) (.ref CL) = some true)
    (q_sg : PySem.W.kitOne K (.ref CS) (.ref CG) = some true)
    (q_sl : PySem.W.kitOne K (.ref CS) (.ref CL) = some false)
    (q_lg : PySem.W.kitOne K (.ref CL) (.ref CG) = some true)
    : ∃ fd : FuncData, (∀ (s : Shared) (v : Value), BindsTo s fd ⟨[v], []⟩ [("script", v)]) ∧ ∀ base : Heap, K.In base → base.Ns mainGlobals mg → FnG P w K mg base CX0 205 fa fd ["script"] (spLaw0 K) := by
  have e := hfa.symm.trans (PySem.W.mg_of X G a30)
  cases e
  letI : Now := ⟨.ref aN⟩
  have hN : NowOk K := fun F => Dp.tup (a := aN) (xs := [.int (-1), .ref aE, .int (-1)]) (.inr ⟨_, _, _, l_NW, rfl, rfl, by show 3 ≤ sizeLine; decide, .cons ⟨_, rfl⟩ (.cons rfl (.cons ⟨_, rfl⟩ .nil))⟩) (.cons (.int _) (.cons (.tup (a := aE) (.inr ⟨_, _, _, l_NE, rfl, rfl, by show 0 ≤ sizeLine; decide, .nil⟩) .nil) (.cons (.int _) .nil)))
  have XS : ExC K mg CS "StuckError" := ⟨PySem.W.mg_of X G g_CS, x_CS, k_CS, e_CS, t_CS⟩
  have XL : ExC K mg CL "LimitError" := ⟨PySem.W.mg_of X G g_CL, x_CL, k_CL, e_CL, t_CL⟩
  have XP : ExP K CL CS := ⟨PySem.W.exm_ref e_CS h_CS t_CS s_SS, PySem.W.exm_ref e_CS h_CS t_CS s_LS, PySem.W.exm_ref e_CL h_CL t_CL s_LL⟩
  have KP : KindP K CG CL CS := ⟨q_sg, q_sl, q_lg⟩
  have XCS : L2.ExcC K CS := ⟨ga_CS, gg_CS, e_CS, h_CS, hc_CS, hsp, htk, mo_CS⟩
  have XCL : L2.ExcC K CL := ⟨ga_CL, gg_CL, e_CL, h_CL, hc_CL, hsp, htk, mo_CL⟩
  have F1 := fun_mk (st := cInnerTerms) l1 c1 k1
  have b1 := F1.binds (ps := ["term"]) fun _ _ _ _ _ _ us hl => match us, hl with | [_], _ => rfl
  have g1 := PySem.W.mg_of X G a1
  have F2 := fun_mk (st := cBoundInBody) l2 c2 k2
  have b2 := F2.binds (ps := ["term"]) fun _ _ _ _ _ _ us hl => match us, hl with | [_], _ => rfl
  have g2 := PySem.W.mg_of X G a2
  have F3 := fun_mk (st := cRebuilt) l3 c3 k3
  have b3 := F3.binds (ps := ["term", "inner"]) fun _ _ _ _ _ _ us hl => match us, hl with | [_, _], _ => rfl
  have g3 := PySem.W.mg_of X G a3
  have F4 := fun_mk (st := cFresh) l4 c4 k4
  have b4 := F4.binds (ps := ["term"]) fun _ _ _ _ _ _ us hl => match us, hl with | [_], _ => rfl
  have g4 := PySem.W.mg_of X G a4
  have F5 := fun_mk (st := cPlaced) l5 c5 k5
  have b5 := F5.binds (ps := ["term", "values"]) fun _ _ _ _ _ _ us hl => match us, hl with | [_, _], _ => rfl
  have g5 := PySem.W.mg_of X G a5
  have F6 := fun_mk (st := cInnerTasks) l6 c6 k6
  have b6 := F6.binds (ps := ["term", "visible"]) fun _ _ _ _ _ _ us hl => match us, hl with | [_, _], _ => rfl
  have g6 := PySem.W.mg_of X G a6
  have F7 := fun_mk (st := cCheckSize) l7 c7 k7
  have b7 := F7.binds (ps := ["term"]) fun _ _ _ _ _ _ us hl => match us, hl with | [_], _ => rfl
  have g7 := PySem.W.mg_of X G a7
  have F8 := fun_mk (st := cIsValue) l8 c8 k8
  have b8 := F8.binds (ps := ["term"]) fun _ _ _ _ _ _ us hl => match us, hl with | [_], _ => rfl
  have g8 := PySem.W.mg_of X G a8
  have F9 := fun_mk (st := cMadeValuesFirst) l9 c9 k9
  have b9 := F9.binds (ps := ["term"]) fun _ _ _ _ _ _ us hl => match us, hl with | [_], _ => rfl
  have g9 := PySem.W.mg_of X G a9
  have F10 := fun_mk (st := cFirstToBeMadeAValue) l10 c10 k10
  have b10 := F10.binds (ps := ["term"]) fun _ _ _ _ _ _ us hl => match us, hl with | [_], _ => rfl
  have g10 := PySem.W.mg_of X G a10
  have F11 := fun_mk (st := cStepped) l11 c11 k11
  have b11 := F11.binds (ps := ["term"]) fun _ _ _ _ _ _ us hl => match us, hl with | [_], _ => rfl
  have g11 := PySem.W.mg_of X G a11
  have F12 := fun_mk (st := cByRule) l12 c12 k12
  have b12 := F12.binds (ps := ["term"]) fun _ _ _ _ _ _ us hl => match us, hl with | [_], _ => rfl
  have g12 := PySem.W.mg_of X G a12
  have F13 := fun_mk (st := cApplied) l13 c13 k13
  have b13 := F13.binds (ps := ["function", "args"]) fun _ _ _ _ _ _ us hl => match us, hl with | [_, _], _ => rfl
  have g13 := PySem.W.mg_of X G a13
  have F14 := fun_mk (st := cCalled) l14 c14 k14
  have b14 := F14.binds (ps := ["parameters", "body", "args", "values"]) fun _ _ _ _ _ _ us hl => match us, hl with | [_, _, _, _], _ => rfl
  have g14 := PySem.W.mg_of X G a14
  have F15 := fun_mk (st := cMadeByPrimitive) l15 c15 k15
  have b15 := F15.binds (ps := ["name", "args"]) fun _ _ _ _ _ _ us hl => match us, hl with | [_, _], _ => rfl
  have g15 := PySem.W.mg_of X G a15
  have F16 := fun_mk (st := cCalculated) l16 c16 k16
  have b16 := F16.binds (ps := ["name", "a", "b"]) fun _ _ _ _ _ _ us hl => match us, hl with | [_, _, _], _ => rfl
  have g16 := PySem.W.mg_of X G a16
  have F17 := fun_mk (st := cStep) l17 c17 k17
  have b17 := F17.binds (ps := ["term"]) fun _ _ _ _ _ _ us hl => match us, hl with | [_], _ => rfl
  have g17 := PySem.W.mg_of X G a17
  have F18 := fun_mk (st := cRun) l18 c18 k18
  have b18 := F18.binds (ps := ["term", "limit"]) fun _ _ _ _ _ _ us hl => match us, hl with | [_, _], _ => rfl
  have g18 := PySem.W.mg_of X G a18
  have F19 := fun_mk (st := sState) l19 c19 k19
  have b19 := F19.binds (ps := ["script"]) fun _ _ _ _ _ _ us hl => match us, hl with | [_], _ => rfl
  have g19 := PySem.W.mg_of X G a19
  have F20 := fun_mk (st := sDraw) l20 c20 k20
  have b20 := F20.binds (ps := ["state", "many"]) fun _ _ _ _ _ _ us hl => match us, hl with | [_, _], _ => rfl
  have g20 := PySem.W.mg_of X G a20
  have F21 := fun_mk (st := sPick) l21 c21 k21
  have b21 := F21.binds (ps := ["state", "row"]) fun _ _ _ _ _ _ us hl => match us, hl with | [_, _], _ => rfl
  have g21 := PySem.W.mg_of X G a21
  have F22 := fun_mk (st := sTerm) l22 c22 k22
  have b22 := F22.binds (ps := ["state", "env", "deep"]) fun _ _ _ _ _ _ us hl => match us, hl with | [_, _, _], _ => rfl
  have g22 := PySem.W.mg_of X G a22
  have F23 := fun_mk (st := sPut) l23 c23 k23
  have b23 := F23.binds (ps := ["t", "values"]) fun _ _ _ _ _ _ us hl => match us, hl with | [_, _], _ => rfl
  have g23 := PySem.W.mg_of X G a23
  have F24 := fun_mk (st := sPrim) l24 c24 k24
  have b24 := F24.binds (ps := ["name", "args"]) fun _ _ _ _ _ _ us hl => match us, hl with | [_, _], _ => rfl
  have g24 := PySem.W.mg_of X G a24
  have F25 := fun_mk (st := sApply) l25 c25 k25
  have b25 := F25.binds (ps := ["f", "args"]) fun _ _ _ _ _ _ us hl => match us, hl with | [_, _], _ => rfl
  have g25 := PySem.W.mg_of X G a25
  have F26 := fun_mk (st := sReady) l26 c26 k26
  have b26 := F26.binds (ps := ["t"]) fun _ _ _ _ _ _ us hl => match us, hl with | [_], _ => rfl
  have g26 := PySem.W.mg_of X G a26
  have F27 := fun_mk (st := sNext) l27 c27 k27
  have b27 := F27.binds (ps := ["t"]) fun _ _ _ _ _ _ us hl => match us, hl with | [_], _ => rfl
  have g27 := PySem.W.mg_of X G a27
  have F28 := fun_mk (st := sSize) l28 c28 k28
  have b28 := F28.binds (ps := ["t", "deep", "many"]) fun _ _ _ _ _ _ us hl => match us, hl with | [_, _, _], _ => rfl
  have g28 := PySem.W.mg_of X G a28
  have F29 := fun_mk (st := sStep) l29 c29 k29
  have b29 := F29.binds (ps := ["term"]) fun _ _ _ _ _ _ us hl => match us, hl with | [_], _ => rfl
  have g29 := PySem.W.mg_of X G a29
  have F30 := fun_mk (st := sLaw) l30 c30 k30
  have g30 := PySem.W.mg_of X G a30
  have y_list := PySem.W.mg_none_of X G z_list
  have y_len := PySem.W.mg_none_of X G z_len
  have y_range := PySem.W.mg_none_of X G z_range
  have y_int := PySem.W.mg_none_of X G z_int
  have y_abs := PySem.W.mg_none_of X G z_abs
  have y_tuple := PySem.W.mg_none_of X G z_tuple
  have y_repr := PySem.W.mg_none_of X G z_repr
  have y_str := PySem.W.mg_none_of X G z_str
  have y_isinstance := PySem.W.mg_none_of X G z_isinstance
  have y_enumerate := PySem.W.mg_none_of X G z_enumerate
  have y_reversed := PySem.W.mg_none_of X G z_reversed
  have y_dict := PySem.W.mg_none_of X G z_dict
  have y_zip := PySem.W.mg_none_of X G z_zip
  refine ⟨PySem.W.fnOf "law" "law" (defArgs sLaw) (defBody sLaw) (defScope sLaw) .none kV30 dc30 pm30 an30 cd30 ct30, fun s v => .of_eq rfl, fun base _ _ => ?_⟩
  have Gi : FnOk P w K mg base CX0 1 f1 _ ["term"] (spKids) := ok_kids F1 y_list
  have Gb : FnOk P w K mg base CX0 1 f2 _ ["term"] (spBnds) := ok_bnds F2 y_list
  have Gr : FnOk P w K mg base CX0 1 f3 _ ["term", "inner"] (spReb) := ok_reb F3 y_list
  have Gt : FnOk P w K mg base CX0 2 f6 _ ["term", "visible"] (spTasks) := ok_tasks F6 Gi b1 k1 g1 Gb b2 k2 g2
  have Gp : FnOk P w K mg base CX0 3 f5 _ ["term", "values"] (spPlaced) := ok_placed F5 (Gi.mono (by decide)) b1 k1 g1 (Gr.mono (by decide)) b3 k3 g3 Gt b6 k6 g6 y_len
  have Gf : FnOk P w K mg base CX0 4 f4 _ ["term"] (spFresh) := ok_fresh F4 Gp b5 k5 g5
  have Gz : FnOk P w K mg base (L2.CX P w) 2 f7 _ ["term"] (spSize CL) := ok_size F7 XL ⟨⟨_, _, _, _, Gi, g1, k1, b1, .nil⟩⟩ ⟨True.intro, PySem.W.mg_of X G g_DP⟩ ⟨True.intro, PySem.W.mg_of X G g_MP⟩
  have Gv : FnOk P w K mg base CX0 2 f8 _ ["term"] (spIsV) := ok_isV F8 ⟨⟨_, _, _, _, Gi, g1, k1, b1, .nil⟩⟩
  have Gm : FnOk P w K mg base CX0 2 f9 _ ["term"] (spMvf) := ok_mvf F9 ⟨⟨_, _, _, _, Gi, g1, k1, b1, .nil⟩⟩
  have Gs1 : FnOk P w K mg base CX0 3 f10 _ ["term"] (spFst) := ok_fst F10 ⟨⟨_, _, _, _, Gm, g9, k9, b9, .nil⟩⟩ ⟨⟨_, _, _, _, Gv, g8, k8, b8, .nil⟩⟩ y_enumerate
  have Gc : FnOk P w K mg base (L2.CX P w) 1 f16 _ ["name", "a", "b"] (spCalc CS) := ok_calc F16 XS ⟨True.intro, PySem.W.mg_of X G g_LI⟩ y_abs
  have Gmb : FnOk P w K mg base (L2.CX P w) 2 f15 _ ["name", "args"] (spMbp CS) := ok_mbp F15 XS ⟨⟨_, _, _, Gc, g16, k16, b16⟩⟩ ⟨_, PySem.W.mg_of X G g_NW, rfl⟩ y_len
  have Gcd : FnOk P w K mg base (L2.CX P w) 4 f14 _ ["parameters", "body", "args", "values"] (spCalled CS) := ok_called F14 XS ⟨⟨_, _, _, _, Gp, g5, k5, b5, .nil⟩⟩ y_len y_dict y_zip
  have Gap : FnOk P w K mg base (L2.CX P w) 5 f13 _ ["function", "args"] (spApplied CS) := ok_applied F13 XS ⟨⟨_, _, _, Gcd, g14, k14, b14⟩⟩ ⟨⟨_, _, _, (Gmb.mono (by decide)), g15, k15, b15⟩⟩
  have Gby : FnOk P w K mg base (L2.CX P w) 6 f12 _ ["term"] (spByR CS) := ok_byR F12 (by decide) hN XS ⟨⟨_, _, _, Gap, g13, k13, b13⟩⟩ ⟨⟨_, _, _, _, (Gp.mono (by decide)), g5, k5, b5, .nil⟩⟩
  have Gsp : FnOk P w K mg base (L2.CX P w) 7 f11 _ ["term"] (spStepped CS) := ok_stepped F11 ⟨⟨_, _, _, _, (Gs1.mono (by decide)), g10, k10, b10, .nil⟩⟩ ⟨⟨_, _, _, _, (Gi.mono (by decide)), g1, k1, b1, .nil⟩⟩ ⟨⟨_, _, _, Gby, g12, k12, b12⟩⟩ ⟨⟨_, _, _, _, (Gr.mono (by decide)), g3, k3, b3, .nil⟩⟩ y_reversed
  have Gst : FnOk P w K mg base (L2.CX P w) 8 f17 _ ["term"] (spCStep CL CS) := ok_cstep F17 ⟨⟨_, _, _, (Gz.mono (by decide)), g7, k7, b7⟩⟩ ⟨⟨_, _, _, _, (Gv.mono (by decide)), g8, k8, b8, .nil⟩⟩ ⟨⟨_, _, _, Gsp, g11, k11, b11⟩⟩ ⟨⟨_, _, _, _, (Gf.mono (by decide)), g4, k4, b4, .nil⟩⟩
  have Grn : FnOk P w K mg base CX0 9 f18 _ ["term", "limit"] (spRun) := ok_run F18 XS XL XP ⟨⟨_, _, _, Gst, g17, k17, b17⟩⟩ ⟨⟨_, _, _, _, (Gf.mono (by decide)), g4, k4, b4, .nil⟩⟩ ⟨⟨_, _, _, _, (Gv.mono (by decide)), g8, k8, b8, .nil⟩⟩ y_range
  have Ls : FnOk P w K mg base CX0 1 f19 _ ["script"] (spState K) := ok_state F19 y_int y_abs
  have Ld : ∀ n, FnOk P w K mg base CX0 (n + 1) f20 _ ["state", "many"] (spDraw) := fun n => ok_draw F20 y_int y_len
  have Lk : ∀ n, FnOk P w K mg base CX0 (n + 2) f21 _ ["state", "row"] (spPick) := fun n => ok_pick F21 (Ld n) b20 k20 g20 y_len
  have Lt : ∀ n, FnOk P w K mg base CX0 (n + 2) f22 _ ["state", "env", "deep"] (spTerm n) := fun n => by
    induction n with
    | zero => exact term_none
    | succ n ih => exact ok_term F22 ih b22 g22 (Ld (n + 1)) b20 k20 g20 (Lk n) b21 k21 g21 y_range y_len y_tuple
  have Lu : ∀ n, FnOk P w K mg base CX0 n f23 _ ["t", "values"] (spPut n) := fun n => by
    induction n with
    | zero => exact put_none
    | succ n ih => exact ok_put F23 ⟨⟨_, _, _, _, ih, g23, k23, b23, .nil⟩⟩ y_tuple
  have Lp : FnOk P w K mg base CX0 1 f24 _ ["name", "args"] (spPrim) := ok_prim F24 y_len y_int
  have Lr : FnOk P w K mg base CX0 1 f26 _ ["t"] (spReady) := ok_ready F26
  have La : FnOk P w K mg base CX0 103 f25 _ ["f", "args"] (spApply) := ok_apply F25 ⟨⟨_, _, _, _, (Lp.mono (by decide)), g24, k24, b24, .nil⟩⟩ ⟨⟨_, _, _, _, Lu 102, g23, k23, b23, .nil⟩⟩ y_len y_range
  have Ln : ∀ n, FnOk P w K mg base CX0 (103 + n) f27 _ ["t"] (spNext n) := fun n => by
    induction n with
    | zero => exact next_none
    | succ n ih => exact ok_next (k := 103 + n) F27 (by omega) hN ⟨⟨_, _, _, _, (Lr.mono (by omega)), g26, k26, b26, .nil⟩⟩ ⟨⟨_, _, _, _, ih, g27, k27, b27, .nil⟩⟩ ⟨⟨_, _, _, _, ((Lu 102).mono (by omega)), g23, k23, b23, .nil⟩⟩ ⟨⟨_, _, _, _, (La.mono (by omega)), g25, k25, b25, .nil⟩⟩ y_len y_int y_range
  have Lz : ∀ n, FnOk P w K mg base CX0 n f28 _ ["t", "deep", "many"] (spLSize n) := fun n => by
    induction n with
    | zero => exact lsize_none
    | succ n ih => exact ok_lsize F28 hN ⟨⟨_, _, _, _, ih, g28, k28, b28, .nil⟩⟩ y_len y_isinstance y_tuple y_str
  have Lst : FnOk P w K mg base CX0 9 f29 _ ["term"] (spLStep) := ok_lstep F29 XS XL (PySem.W.mg_of X G g_CG) XP KP XCS XCL ⟨⟨_, _, _, Gst, g17, k17, b17⟩⟩ y_isinstance
  exact ok_law F30 (by decide) hN ⟨⟨_, _, _, _, (Ls.mono (by decide)), g19, k19, b19, .nil⟩⟩ ⟨⟨_, _, _, _, ((Lt 5).mono (by decide)), g22, k22, b22, .nil⟩⟩ ⟨⟨_, _, _, _, ((Lz 102).mono (by decide)), g28, k28, b28, .nil⟩⟩ ⟨⟨_, _, _, _, (Lst.mono (by decide)), g29, k29, b29, .nil⟩⟩ ⟨⟨_, _, _, _, (Lr.mono (by decide)), g26, k26, b26, .nil⟩⟩ ⟨⟨_, _, _, _, ((Ln 101).mono (by decide)), g27, k27, b27, .nil⟩⟩ ⟨⟨_, _, _, _, (Grn.mono (by decide)), g18, k18, b18, .nil⟩⟩ y_repr y_isinstance y_tuple y_range
end Sg
open PySem PySem.W PyProof.Rows
set_option maxHeartbeats 0 in
theorem PySem.Challenge.cw_sugartrue_k06_single_steps_holds : PySem.Challenge.rw_sugartrue_k06_single_steps.Holds := by
  w_on; o_law; k_head; (case hw => w_witness2)
  k_fill
  refine L2.walkG_of (l := PySem.Challenge.rw_sugartrue_k06_single_steps) (n := 63) (k := 205) (x := "script") (sp := fun w => Sg.spLaw0 _) rfl (by decide) rfl ⟨rfl, by decide, by decide⟩ (fun w h Y => PySem.W.kIn_of Y) ?F (fun _ _ a ns hl _ hS => ⟨a, ns, rfl, hS, hl, fun _ => rfl⟩)
  case F =>
    intro w mg fa h KX G hmg
    refine' Sg.all_mk KX G hmg ?a1 ?l1 ?c1 ?k1 ?a2 ?l2 ?c2 ?k2 ?a3 ?l3 ?c3 ?k3 ?a4 ?l4 ?c4 ?k4 ?a5 ?l5 ?c5 ?k5 ?a6 ?l6 ?c6 ?k6 ?a7 ?l7 ?c7 ?k7 ?a8 ?l8 ?c8 ?k8 ?a9 ?l9 ?c9 ?k9 ?a10 ?l10 ?c10 ?k10 ?a11 ?l11 ?c11 ?k11 ?a12 ?l12 ?c12 ?k12 ?a13 ?l13 ?c13 ?k13 ?a14 ?l14 ?c14 ?k14 ?a15 ?l15 ?c15 ?k15 ?a16 ?l16 ?c16 ?k16 ?a17 ?l17 ?c17 ?k17 ?a18 ?l18 ?c18 ?k18 ?a19 ?l19 ?c19 ?k19 ?a20 ?l20 ?c20 ?k20 ?a21 ?l21 ?c21 ?k21 ?a22 ?l22 ?c22 ?k22 ?a23 ?l23 ?c23 ?k23 ?a24 ?l24 ?c24 ?k24 ?a25 ?l25 ?c25 ?k25 ?a26 ?l26 ?c26 ?k26 ?a27 ?l27 ?c27 ?k27 ?a28 ?l28 ?c28 ?k28 ?a29 ?l29 ?c29 ?k29 ?a30 ?l30 ?c30 ?k30 ?z_list ?z_len ?z_range ?z_int ?z_abs ?z_tuple ?z_repr ?z_str ?z_isinstance ?z_enumerate ?z_reversed ?z_dict ?z_zip ?g_DP ?g_MP ?g_LI ?g_NW ?l_NW ?l_NE ?g_CS ?g_CL ?g_CG ?x_CS ?k_CS ?e_CS ?t_CS ?h_CS ?ga_CS ?gg_CS ?hc_CS ?mo_CS ?x_CL ?k_CL ?e_CL ?t_CL ?h_CL ?ga_CL ?gg_CL ?hc_CL ?mo_CL ?hsp ?htk ?s_SS ?s_LS ?s_LL ?q_sg ?q_sl ?q_lg
    (case a1 => k_is)
    (case l1 => k_is)
    (case c1 => k_is)
    (case k1 => k_is)
    (case a2 => k_is)
    (case l2 => k_is)
    (case c2 => k_is)
    (case k2 => k_is)
    (case a3 => k_is)
    (case l3 => k_is)
    (case c3 => k_is)
    (case k3 => k_is)
    (case a4 => k_is)
    (case l4 => k_is)
    (case c4 => k_is)
    (case k4 => k_is)
    (case a5 => k_is)
    (case l5 => k_is)
    (case c5 => k_is)
    (case k5 => k_is)
    (case a6 => k_is)
    (case l6 => k_is)
    (case c6 => k_is)
    (case k6 => k_is)
    (case a7 => k_is)
    (case l7 => k_is)
    (case c7 => k_is)
    (case k7 => k_is)
    (case a8 => k_is)
    (case l8 => k_is)
    (case c8 => k_is)
    (case k8 => k_is)
    (case a9 => k_is)
    (case l9 => k_is)
    (case c9 => k_is)
    (case k9 => k_is)
    (case a10 => k_is)
    (case l10 => k_is)
    (case c10 => k_is)
    (case k10 => k_is)
    (case a11 => k_is)
    (case l11 => k_is)
    (case c11 => k_is)
    (case k11 => k_is)
    (case a12 => k_is)
    (case l12 => k_is)
    (case c12 => k_is)
    (case k12 => k_is)
    (case a13 => k_is)
    (case l13 => k_is)
    (case c13 => k_is)
    (case k13 => k_is)
    (case a14 => k_is)
    (case l14 => k_is)
    (case c14 => k_is)
    (case k14 => k_is)
    (case a15 => k_is)
    (case l15 => k_is)
    (case c15 => k_is)
    (case k15 => k_is)
    (case a16 => k_is)
    (case l16 => k_is)
    (case c16 => k_is)
    (case k16 => k_is)
    (case a17 => k_is)
    (case l17 => k_is)
    (case c17 => k_is)
    (case k17 => k_is)
    (case a18 => k_is)
    (case l18 => k_is)
    (case c18 => k_is)
    (case k18 => k_is)
    (case a19 => k_is)
    (case l19 => k_is)
    (case c19 => k_is)
    (case k19 => k_is)
    (case a20 => k_is)
    (case l20 => k_is)
    (case c20 => k_is)
    (case k20 => k_is)
    (case a21 => k_is)
    (case l21 => k_is)
    (case c21 => k_is)
    (case k21 => k_is)
    (case a22 => k_is)
    (case l22 => k_is)
    (case c22 => k_is)
    (case k22 => k_is)
    (case a23 => k_is)
    (case l23 => k_is)
    (case c23 => k_is)
    (case k23 => k_is)
    (case a24 => k_is)
    (case l24 => k_is)
    (case c24 => k_is)
    (case k24 => k_is)
    (case a25 => k_is)
    (case l25 => k_is)
    (case c25 => k_is)
    (case k25 => k_is)
    (case a26 => k_is)
    (case l26 => k_is)
    (case c26 => k_is)
    (case k26 => k_is)
    (case a27 => k_is)
    (case l27 => k_is)
    (case c27 => k_is)
    (case k27 => k_is)
    (case a28 => k_is)
    (case l28 => k_is)
    (case c28 => k_is)
    (case k28 => k_is)
    (case a29 => k_is)
    (case l29 => k_is)
    (case c29 => k_is)
    (case k29 => k_is)
    (case a30 => k_is)
    (case l30 => k_is)
    (case c30 => k_is)
    (case k30 => k_is)
    (case z_list => k_is)
    (case z_len => k_is)
    (case z_range => k_is)
    (case z_int => k_is)
    (case z_abs => k_is)
    (case z_tuple => k_is)
    (case z_repr => k_is)
    (case z_str => k_is)
    (case z_isinstance => k_is)
    (case z_enumerate => k_is)
    (case z_reversed => k_is)
    (case z_dict => k_is)
    (case z_zip => k_is)
    (case g_DP => k_is)
    (case g_MP => k_is)
    (case g_LI => k_is)
    (case g_NW => k_is)
    (case l_NW => k_is)
    (case l_NE => k_is)
    (case g_CS => k_is)
    (case g_CL => k_is)
    (case g_CG => k_is)
    (case x_CS => first | k_exc | k_is)
    (case k_CS => k_is)
    (case e_CS => k_is)
    (case t_CS => k_is)
    (case h_CS => k_is)
    (case ga_CS => k_is)
    (case gg_CS => k_is)
    (case hc_CS => k_is)
    (case mo_CS => k_is)
    (case x_CL => first | k_exc | k_is)
    (case k_CL => k_is)
    (case e_CL => k_is)
    (case t_CL => k_is)
    (case h_CL => k_is)
    (case ga_CL => k_is)
    (case gg_CL => k_is)
    (case hc_CL => k_is)
    (case mo_CL => k_is)
    (case hsp => k_is)
    (case htk => k_is)
    (case s_SS => k_is)
    (case s_LS => k_is)
    (case s_LL => k_is)
    (case q_sg => kit_is)
    (case q_sl => kit_is)
    (case q_lg => kit_is)
