import PyProof.Rows.All
import Wide.All
import OpenK.AllK
import Wide.FinOn
import HandS.ForMost
import HandS.Deep
import HandS.IsInst
import HandS.Codes
import HandS.ForExc
import HandS.RaiseMore
import HandS.FStr
import PySem.Challenge.RW_gridscope_k10_boxes_behind_cutting_out
set_option Elab.async false
set_option linter.all false
set_option maxRecDepth 100000
set_option maxHeartbeats 4000000
namespace Gs
open PySem L2
/-! ### a def of the text, by its name, as its callers use it -/
def Dn (P : Program) (w : World) (K : PySem.W.Frag) (mg : Str → Option Value) (base : Heap) (CX : CXT) (k : Nat) (x : Str) (ps : List Str) (sp : Sp) : Prop :=
  ∃ (f : Addr) (fd : FuncData), FnOk P w K mg base CX k f fd ps sp ∧ mg x = some (.ref f) ∧ PySem.W.keepIn K (.ref f) = true ∧ Binds K fd ps []
theorem Dn.mono {P : Program} {w : World} {K : PySem.W.Frag} {mg : Str → Option Value} {base : Heap} {CX : CXT} {j k : Nat} {x : Str} {ps : List Str} {sp : Sp} (D : Dn P w K mg base CX j x ps sp) (h : j ≤ k) : Dn P w K mg base CX k x ps sp := by
  obtain ⟨f, fd, F, m, kp, b⟩ := D
  exact ⟨f, fd, F.mono h, m, kp, b⟩
theorem Dn.imp {P : Program} {w : World} {K : PySem.W.Frag} {mg : Str → Option Value} {base : Heap} {CX : CXT} {k : Nat} {x : Str} {ps : List Str} {sp sp' : Sp} (D : Dn P w K mg base CX k x ps sp) (h : ∀ vs H Q E, sp' vs H Q E → sp vs H Q E) : Dn P w K mg base CX k x ps sp' := by
  obtain ⟨f, fd, F, m, kp, b⟩ := D
  exact ⟨f, fd, F.imp h, m, kp, b⟩
theorem pe_callD {X : Cx} {CX : CXT} {k : Nat} {x : Str} {ps : List Str} {sp : Sp} {E : XK} {p pos : Pos} {e : Expr} {es : List Expr} {t : TA} (D : Dn X.prog X.w X.K X.mg X.base CX k x ps sp) (hr : Room k X.A) (hg : Gl X x) (hx : Passes CX X E)
    (ha : PA X (e :: es) t) (hdb : (x == ("__debug__" : Str)) = false := by decide) (he : starEach (e :: es) X.env = (false, eval e X.env) :: starEach es X.env := by rfl) (hpl : (backTo pos (starEach es X.env)).any (·.1) = false := by rfl) :
    PE X (.Call (.Name x p) (e :: es) [] pos) (tCall sp [] E t) := by
  obtain ⟨f, fd, F, m, kp, b⟩ := D
  exact pe_call F hr hg m kp b .nil hx ha hdb he hpl
theorem pe_callSD {X : Cx} {CX : CXT} {k : Nat} {x : Str} {ps : List Str} {sp : Sp} {E : St → XK} {p pos : Pos} {e : Expr} {es : List Expr} {t : TA} (D : Dn X.prog X.w X.K X.mg X.base CX k x ps sp) (hr : Room k X.A) (hg : Gl X x) (hx : ∀ σ, PassesAt CX X σ (E σ))
    (ha : PA X (e :: es) t) (hdb : (x == ("__debug__" : Str)) = false := by decide) (he : starEach (e :: es) X.env = (false, eval e X.env) :: starEach es X.env := by rfl) (hpl : (backTo pos (starEach es X.env)).any (·.1) = false := by rfl) :
    PE X (.Call (.Name x p) (e :: es) [] pos) (tCallS sp E t) := by
  obtain ⟨f, fd, F, m, kp, b⟩ := D
  exact pe_callS F hr hg m kp b hx ha hdb he hpl
/-- what the top says of an own exception class without a method of its own -/
structure ExcOk (K : PySem.W.Frag) (mg : Str → Option Value) (x : Str) (C : Addr) (bm : List Value) (nid : String) : Prop where
  g : mg x = some (.ref C)
  ex : PySem.W.excIn K C bm nid = true
  kp : PySem.W.keepIn K (.ref C) = true
  b : PySem.W.subIn K (.ref C) (.type "BaseException") = some true
  t : PySem.W.typeIn K (.ref C) = some (.type "type")
  cl : PySem.W.isClsIn K C = true
  sf : PySem.W.subIn K (.ref C) (.ref C) = some true
theorem exm_own {K : PySem.W.Frag} {cls : Value} {C : Addr} {b : Bool} (hb : PySem.W.subIn K (.ref C) (.type "BaseException") = some true) (hc : PySem.W.isClsIn K C = true) (ht : PySem.W.typeIn K (.ref C) = some (.type "type")) (hs : PySem.W.subIn K cls (.ref C) = some b) : PySem.W.exmOne K cls (.ref C) = some b := by
  have h1 : PySem.W.kitCls K cls (.ref C) = some b := by
    show (if ((PySem.W.clsIn K C).isSome && PySem.W.typeIn K (.ref C) == some (.type "type")) = true then PySem.W.subIn K cls (.ref C) else none) = some b
    have h2 : (PySem.W.clsIn K C).isSome = true := hc
    rw [h2, ht, if_pos (by simp)]
    exact hs
  unfold PySem.W.exmOne
  rw [hb, if_pos (by simp)]
  exact h1
theorem ExcOk.me {K : PySem.W.Frag} {mg : Str → Option Value} {x : Str} {C : Addr} {bm : List Value} {nid : String} (e : ExcOk K mg x C bm nid) : PySem.W.exmOne K (.ref C) (.ref C) = some true := exm_own e.b e.cl e.t e.sf
abbrev veL : List Value := [.type "ValueError", .type "Exception", .type "BaseException", .type "object"]
theorem glS {X : Cx} {x z : Str} {t : Tok} {pos : Pos} (hg : Gl X x) (hm : X.mg x = some (.str z t)) (hd : (x == ("__debug__" : Str)) = false := by decide) : PE X (.Name x pos) (tC (.str z)) := pe_glob hg hm ⟨t, rfl⟩ hd
theorem glI {X : Cx} {x : Str} {i : Int} {t : Tok} {pos : Pos} (hg : Gl X x) (hm : X.mg x = some (.int i t)) (hd : (x == ("__debug__" : Str)) = false := by decide) : PE X (.Name x pos) (tC (.int i)) := pe_glob hg hm ⟨t, rfl⟩ hd
/-! ### heaps -/
theorem same_new {H : Hp} {p : Addr} (h : H p = none) (o : HO) : Same H (upd H p o) := fun b u q => by rw [upd_ne (ne_of_none q h)]; exact q
theorem Same.tup {K : PySem.W.Frag} {H H' : Hp} {a : Addr} {xs : List V} (e : Same H H') (h : SqT K H a xs) : SqT K H' a xs := by
  rcases h with (h | ⟨o, h⟩) | h
  · exact .inl (.inl (e _ _ h))
  · exact .inl (.inr ⟨o, e _ _ h⟩)
  · exact .inr h
theorem small {n : Nat} (h : n ≤ 1000) : n ≤ sizeLine := Nat.le_of_lt (small1000 h)
/-! ### data at any depth -/
mutual
theorem dp_same {K : PySem.W.Frag} {H H' : Hp} (e : Same H H') : ∀ (d : PyData) (v : V), Dp K H v d → Dp K H' v d
  | .none, _, h => by cases h; exact .non
  | .bool b, _, h => by cases h; exact .bl b
  | .int i, _, h => by cases h; exact .int i
  | .str x, _, h => by cases h; exact .str x
  | .list ds, _, h => by
    cases h with
    | lst s a => exact .lst (e.seq s) (dpAll_same e ds _ a)
  | .tuple ds, _, h => by
    cases h with
    | tup s a => exact .tup (Same.tup e s) (dpAll_same e ds _ a)
  | .dict b, _, h => by cases h
theorem dpAll_same {K : PySem.W.Frag} {H H' : Hp} (e : Same H H') : ∀ (ds : List PyData) (vs : List V), DpAll K H vs ds → DpAll K H' vs ds
  | [], _, h => by cases h; exact .nil
  | d :: ds, _, h => by
    cases h with
    | cons a b => exact .cons (dp_same e d _ a) (dpAll_same e ds _ b)
end
theorem dpAll_len {K : PySem.W.Frag} {H : Hp} : ∀ {vs : List V} {ds : List PyData}, DpAll K H vs ds → vs.length = ds.length
  | _, _, .nil => rfl
  | _, _, .cons _ b => by simp [dpAll_len b]
theorem dpAll_get {K : PySem.W.Frag} {H : Hp} : ∀ {vs : List V} {ds : List PyData} {i : Nat} {d : PyData}, DpAll K H vs ds → ds[i]? = some d → ∃ v, vs[i]? = some v ∧ Dp K H v d
  | _, _, _, _, .nil, e => by simp at e
  | _, _, 0, _, .cons a _, e => by simp at e; subst e; exact ⟨_, rfl, a⟩
  | _, _, i + 1, _, .cons _ b, e => by simpa using dpAll_get (i := i) b (by simpa using e)

/-! ### the law's own helpers: what each of them promises -/
/-- a draw: what is left of the script, its place, what is left of a great number, the seed, the count -/
def drawO (l : Addr) (i left seed n : Int) : HO := .lst [.ref l, .int i, .int left, .int seed, .int n]
def DrawAt (H : Hp) (a : Addr) : Prop := ∃ (l : Addr) (ns : List Int) (i left seed n : Int), H a = some (drawO l i left seed n) ∧ H l = some (.lst (ns.map V.int)) ∧ 0 ≤ i ∧ 0 ≤ seed ∧ seed < 1000000007
/-- all but the draw is as it was -/
def Ext (a : Addr) (H H' : Hp) : Prop := DrawAt H' a ∧ ∀ b o, b ≠ a → H b = some o → H' b = some o
theorem DrawAt.ne {H : Hp} {a l : Addr} {i left seed n : Int} {ns : List Int} (h1 : H a = some (drawO l i left seed n)) (h2 : H l = some (.lst (ns.map V.int))) : l ≠ a := by
  refine ne_of h2 h1 ?_
  intro e
  unfold drawO at e
  cases ns with
  | nil => simp at e
  | cons x r => simp at e
theorem DrawAt.same {H H' : Hp} {a : Addr} (d : DrawAt H a) (e : Same H H') : DrawAt H' a := by
  obtain ⟨l, ns, i, left, seed, n, h1, h2, r⟩ := d
  exact ⟨l, ns, i, left, seed, n, e _ _ h1, e _ _ h2, r⟩
theorem Ext.trans {a : Addr} {H H1 H2 : Hp} (x : Ext a H H1) (y : Ext a H1 H2) : Ext a H H2 := ⟨y.1, fun b o n h => y.2 b o n (x.2 b o n h)⟩
theorem Ext.same {a : Addr} {H H1 H2 : Hp} (x : Ext a H H1) (y : Same H1 H2) : Ext a H H2 := ⟨x.1.same y, fun b o n h => y b o (x.2 b o n h)⟩
theorem Ext.of {a : Addr} {H H1 : Hp} (d : DrawAt H a) (y : Same H H1) : Ext a H H1 := ⟨d.same y, fun b o _ h => y b o h⟩
theorem DrawAt.neT {H : Hp} {a b : Addr} {xs : List V} (d : DrawAt H a) (h : H b = some (.tup xs)) : b ≠ a := by
  obtain ⟨l, ns, i, left, seed, n, h1, h2, r⟩ := d
  exact ne_of h h1 (by intro e; unfold drawO at e; cases e)
/-- a tuple stays -/
theorem Ext.tup {a b : Addr} {H H1 : Hp} {xs : List V} (x : Ext a H H1) (d : DrawAt H a) (h : H b = some (.tup xs)) : H1 b = some (.tup xs) := x.2 b _ (d.neT h) h
/-! the longest list or tuple in it -/
mutual
def mxl : PyData → Nat
  | .list ds => max ds.length (mxlAll ds)
  | .tuple ds => max ds.length (mxlAll ds)
  | _ => 0
def mxlAll : List PyData → Nat
  | [] => 0
  | d :: r => max (mxl d) (mxlAll r)
end
theorem mxl_get : ∀ {ds : List PyData} {i : Nat} {d : PyData}, ds[i]? = some d → mxl d ≤ mxlAll ds
  | [], _, _, e => by simp at e
  | x :: r, 0, d, e => by
    simp at e
    subst e
    simp only [mxlAll]
    omega
  | x :: r, i + 1, d, e => by
    have := mxl_get (ds := r) (i := i) (d := d) (by simpa using e)
    simp only [mxlAll]
    omega
def spBegin (K : PySem.W.Frag) : Sp := fun vs H Q _ => ∃ (s : Addr) (ns : List Int), vs = [.ref s] ∧ SqL K H s (ns.map V.int) ∧ ∀ (a : Addr) (H' : Hp), H a = none → DrawAt H' a → Same H H' → Q (.ref a) H'
def spPick : Sp := fun vs H Q _ => ∃ (a : Addr) (many : Int), vs = [.ref a, .int many] ∧ DrawAt H a ∧ 1 ≤ many ∧ many < 1073741824 ∧
  ∀ (r : Int) (H' : Hp), 0 ≤ r → r < many → DrawAt H' a → (∀ b, b ≠ a → H' b = H b) → Q (.int r) H'
def spSame (K : PySem.W.Frag) (n : Nat) : Sp := fun vs H Q _ => ∃ (x y : V) (d : PyData), vs = [x, y] ∧ Dp K H x d ∧ Dp K H y d ∧ d.depth < n ∧ mxl d ≤ 100000 ∧ ∀ H', Same H H' → Q (.bl true) H'
theorem same_none {P : Program} {w : World} {K : PySem.W.Frag} {mg : Str → Option Value} {base : Heap} {f : Addr} {fd : FuncData} : FnOk P w K mg base CX0 0 f fd ["_law_found", "_law_due"] (spSame K 0) := by
  have no : ∀ vs H Q E, ¬ spSame K 0 vs H Q E := fun vs H Q E h => by
    obtain ⟨x, y, d, _, _, _, h1, _⟩ := h
    omega
  exact ⟨fun vs H Q E h => absurd h (no vs H Q E), fun A outer s H args us vs Q E _ _ _ _ h => absurd h (no vs H Q E)⟩
/-! ### isinstance -/
theorem kit2 {K : PySem.W.Frag} {a b c : String} {r1 r2 : Bool} (h : kitB a b = some r1) (h2 : kitB a c = some r2) : PySem.W.kitAny K (.type a) [.type b, .type c] = some (r1 || r2) := by
  refine kitAny_cons (kit_ty h) (fun e => ?_) (fun e => by rw [e]; rfl)
  rw [e, Bool.false_or]
  refine kitAny_cons (kit_ty h2) (fun e => ?_) (fun e => e)
  rw [e]
  rfl
theorem cls2 (b c : String) : Paired ClsV [.ty b, .ty c] [.type b, .type c] := .cons (.ty b) (.cons (.ty c) .nil)
theorem tyx_list {K : PySem.W.Frag} {H : Hp} {a : Addr} {xs : List V} (h : SqL K H a xs) : TyX K H (.ref a) (.type "list") := by
  rcases h with (h | ⟨o, h⟩) | ⟨o, its, n, h, c, _⟩
  · exact .base (.lst h)
  · exact .base (.frz h)
  · exact .kList h c
theorem tyx_tuple {K : PySem.W.Frag} {H : Hp} {a : Addr} {xs : List V} (h : SqT K H a xs) : TyX K H (.ref a) (.type "tuple") := by
  rcases h with (h | ⟨o, h⟩) | ⟨o, its, n, h, c, _⟩
  · exact .base (.tup h)
  · exact .fTuple h
  · exact .kTuple h c
theorem ixLk {X : Cx} {K : PySem.W.Frag} (h : X.K = K) : IxR X (rIxL K) := by subst h; exact ix_list
theorem ixTk {X : Cx} {K : PySem.W.Frag} (h : X.K = K) : IxR X (rIxT K) := by subst h; exact ix_tup
theorem ixQk {X : Cx} {K : PySem.W.Frag} (h : X.K = K) : IxR X (rIx K) := by subst h; exact ix_seq
theorem inDk {X : Cx} {K : PySem.W.Frag} (h : X.K = K) (hu : X.A.units + 65 < cLine) : OpR X (compareOp .In) (rInD K) := by subst h; exact op_inD hu
theorem ifT {c A B : Prop} [Decidable c] (h : c) (x : A) : if c then A else B := by rw [if_pos h]; exact x
theorem ifF {c A B : Prop} [Decidable c] (h : ¬ c) (x : B) : if c then A else B := by rw [if_neg h]; exact x
theorem cut_ints (ns : List Int) (lo hi : Option Int) : ∃ ms : List Int, cutV (ns.map V.int) lo hi = ms.map V.int := by
  unfold cutV
  exact ⟨_, by rw [← List.map_drop, ← List.map_take]⟩
theorem shaped_bool (b : Bool) : SeqAt.shaped (.bool b) = true := by simp [SeqAt.shaped, PyData.canLay0, PyData.depth]
theorem shaped_int (b : Int) : SeqAt.shaped (.int b) = true := by simp [SeqAt.shaped, PyData.canLay0, PyData.depth]
theorem shaped_eqv {d : PyData} (h : SeqAt.shaped d = true) : PyData.eqv d d = true := SeqAt.eqv_refl d (SeqAt.canLay_of_shaped h)
theorem depth_get : ∀ {ds : List PyData} {i : Nat} {d : PyData}, ds[i]? = some d → d.depth ≤ PyData.depthAll ds
  | [], _, _, e => by simp at e
  | x :: r, 0, d, e => by
    simp at e
    subst e
    simp only [PyData.depthAll]
    omega
  | x :: r, i + 1, d, e => by
    have := depth_get (ds := r) (i := i) (d := d) (by simpa using e)
    simp only [PyData.depthAll]
    omega
theorem rep_bl (n : Nat) : List.replicate n (V.bl true) = (List.replicate n true).map V.bl := by simp
theorem rep_all (n : Nat) : (List.replicate n true).all id = true := by simp
theorem rep_succ (n : Nat) : List.replicate n (V.bl true) ++ [V.bl true] = List.replicate (n + 1) (V.bl true) := by
  rw [← List.replicate_succ']
end Gs

set_option Elab.async false
set_option linter.all false
set_option maxRecDepth 100000
set_option maxHeartbeats 4000000
namespace K10
open PySem L2 Gs
def top (i : Nat) : Stmt := PySem.Challenge.pw_gridscope_k10_boxes_behind_cutting_out.main.body.getD i (.Pass ⟨0, 0, 0, 0⟩)
structure Tx (K : PySem.W.Frag) (mg : Str → Option Value) (cB : Addr) (tR tC : Tok) : Prop where
  no_max : mg "max" = none
  no_min : mg "min" = none
  no_len : mg "len" = none
  no_list : mg "list" = none
  no_isinstance : mg "isinstance" = none
  no_bool : mg "bool" = none
  no_int : mg "int" = none
  no_str : mg "str" = none
  no_tuple : mg "tuple" = none
  no_range : mg "range" = none
  no_all : mg "all" = none
  mg_ROW : mg "ROW" = some (.str "row" tR)
  mg_COLUMN : mg "COLUMN" = some (.str "column" tC)
  x_BadAxis : ExcOk K mg "BadAxis" cB veL "ValueError.__new__"
structure Bx where
  r : Int
  c : Int
  h : Int
  w : Int
def boxL (b : Bx) : List V := [.int b.r, .int b.c, .int b.h, .int b.w]
def boxD (b : Bx) : PyData := .tuple [.int b.r, .int b.c, .int b.h, .int b.w]
section
variable {P : Program} {w : World} {K : PySem.W.Frag} {mg : Str → Option Value} {base : Heap} {f : Addr} {fd : FuncData} {cB : Addr} {tR tC : Tok}
-- pick
abbrev s_pick : Stmt := top 12
theorem sc_pick : FnScope ["_law_draw", "_law_many", "_law_cell", "_law_got"] ["_law_draw", "_law_many"] (defScope s_pick) := ⟨rfl, rfl, rfl, by decide +kernel, rfl, by decide +kernel, by decide +kernel⟩
theorem ok_pick (F : Fun K "_law_pick" "_law_pick" s_pick f fd) (T : Tx K mg cB tR tC) : FnOk P w K mg base CX0 1 f fd ["_law_draw", "_law_many"] spPick := by
  refine F.ok sc_pick (fun vs H Q E h => ?_) (fun cdv A outer s H vs Q E hr h => ?_)
  · obtain ⟨a, many, rfl, _⟩ := h
    rfl
  · obtain ⟨a, many, rfl, D, m1, m2, k⟩ := h
    refine ⟨_, (C8.pss_cut (ps_if (PW.pt (pw_and (pt_cmpR op_lt (pe_ix ix_list (pv 0) pe_int (fun _ _ => rfl)) (pv 1) (nomark _)) (pw_and1 (pt_cmpR op_lt (pe_ix ix_list (pv 0) pe_int (fun _ _ => rfl)) (pe_callB call_len_seq (by rfl) T.no_len (by decide +kernel) (pa_cons (pe_ix ix_list (pv 0) pe_int (fun _ _ => rfl)) pa_nil)) (nomark _))))) (pss_cons (ps_set (i := 2) sc_pick.nd rfl (.inl rfl) (pe_ix ix_list (pe_ix ix_list (pv 0) pe_int (fun _ _ => rfl)) (pe_ix ix_list (pv 0) pe_int (fun _ _ => rfl)) (fun _ _ => rfl)))
        (pss_cons (ps_asg (pe_op op_add (pe_ix ix_list (pv 0) pe_int (fun _ _ => rfl)) pe_int) (pg_sub (pv 0) pe_int set_list))
        (pss_cons (ps_asg pe_int (pg_sub (pv 0) pe_int set_list))
        (pss_one (ps_if (pt_cmpR op_ge (pv 2) (pe_op op_pow pe_int pe_int) (nomark _)) (pss_one (ps_asg (pv 2) (pg_sub (pv 0) pe_int set_list))) (pss_one (ps_asg (pe_op op_mod (pe_op op_add (pe_ix ix_list (pv 0) pe_int (fun _ _ => rfl)) (pv 2)) pe_int) (pg_sub (pv 0) pe_int set_list)))))))) pss_nil)
      (pss_cons (ps_if (pt_cmpR op_ge (pe_ix ix_list (pv 0) pe_int (fun _ _ => rfl)) (pv 1) (nomark _)) (pss_cons (ps_set (i := 3) sc_pick.nd rfl (.inl rfl) (pe_op op_mod (pe_ix ix_list (pv 0) pe_int (fun _ _ => rfl)) (pv 1)))
        (pss_cons (ps_asg (pe_op op_fdiv (pe_ix ix_list (pv 0) pe_int (fun _ _ => rfl)) (pv 1)) (pg_sub (pv 0) pe_int set_list))
        (pss_one (ps_ret (pv 3))))) pss_nil)
      (pss_cons (ps_asg (pe_op op_add (pe_ix ix_list (pv 0) pe_int (fun _ _ => rfl)) pe_int) (pg_sub (pv 0) pe_int set_list))
      (pss_cons (ps_asg (pe_op op_mod (pe_op op_add (pe_op op_add (pe_op op_pow (pe_ix ix_list (pv 0) pe_int (fun _ _ => rfl)) pe_int) (pe_op op_mul pe_int (pe_ix ix_list (pv 0) pe_int (fun _ _ => rfl)))) pe_int) pe_int) (pg_sub (pv 0) pe_int set_list))
      (pss_one (ps_ret (pe_op op_mod (pe_op op_fdiv (pe_ix ix_list (pv 0) pe_int (fun _ _ => rfl)) pe_int) (pv 1)))))))), ?_⟩
    refine ⟨fun σ H1 => (∃ x y, σ = [some (.ref a), some (.int many), x, y]) ∧ DrawAt H1 a ∧ (∀ b, b ≠ a → H1 b = H b), ?_, ?_⟩
    · obtain ⟨l, ns, i, left, seed, n, h1, h2, hi, hs0, hs1⟩ := D
      have hl : l ≠ a := DrawAt.ne h1 h2
      refine ⟨_, rfl, _, _, _, _, rfl, rfl, SqL.of h1, atI_nat (j := 2) rfl, _, rfl, _, _, rfl, rfl, _, rfl, ?_⟩
      refine ite2 (fun c => ?_) (fun c => ?_)
      · refine ⟨_, rfl, _, _, _, _, rfl, rfl, SqL.of h1, atI_nat (j := 1) rfl, _, rfl, _, _, _, _, rfl, rfl, SqL.of h1, atI_nat (j := 0) rfl, _, _, rfl, .inl (SqL.of h2), _, _, rfl, rfl, _, rfl, ?_⟩
        refine ite2 (fun c => ?_) (fun c => ?_)
        · have c' : i < (((ns.map V.int).length : Nat) : Int) := of_decide_eq_true c
          rw [List.length_map] at c'
          have hk : i.toNat < ns.length := by omega
          have ek : i = ((i.toNat : Nat) : Int) := by omega
          have hat : atI (ns.map V.int) i = some (.int ns[i.toNat]) := by
            exact at_of ek (by rw [List.getElem?_map, List.getElem?_eq_getElem hk] <;> rfl)
          have g2 : ∀ o, upd H a o l = some (.lst (ns.map V.int)) := fun o => by rw [upd_ne hl]; exact h2
          refine ⟨_, rfl, _, _, _, _, rfl, rfl, SqL.of h1, atI_nat (j := 0) rfl, _, rfl, _, _, _, _, rfl, rfl, SqL.of h1, atI_nat (j := 1) rfl, _, _, _, _, rfl, rfl, SqL.of h2, hat, ?_⟩
          refine ⟨_, rfl, _, _, _, _, rfl, rfl, SqL.of h1, atI_nat (j := 1) rfl, _, _, rfl, rfl, _, rfl, _, _, _, 1, rfl, rfl, h1, rfl, ?_⟩
          refine ⟨_, rfl, _, _, _, 2, rfl, rfl, upd_same, rfl, ?_⟩
          rw [upd_upd]
          refine ⟨_, rfl, _, _, rfl, rfl, ⟨by decide, by decide, by decide⟩, _, _, rfl, rfl, _, rfl, ?_⟩
          refine ite2 (fun c => ?_) (fun c => ?_)
          · refine ⟨_, rfl, _, rfl, _, _, _, 2, rfl, rfl, upd_same, rfl, ?_⟩
            rw [upd_upd]
            exact ⟨⟨_, _, rfl⟩, ⟨l, ns, i + 1, ns[i.toNat], seed, n, upd_same, g2 _, by omega, hs0, hs1⟩, fun b hb => upd_ne hb⟩
          · refine ⟨_, rfl, _, _, _, _, rfl, rfl, SqL.of upd_same, atI_nat (j := 3) rfl, _, rfl, _, _, rfl, rfl, _, _, rfl, rfl, (by show (0 : Int) < 1000000007; decide), _, rfl, _, _, _, 3, rfl, rfl, upd_same, rfl, ?_⟩
            rw [upd_upd]
            exact ⟨⟨_, _, rfl⟩, ⟨l, ns, i + 1, 0, _, n, upd_same, g2 _, by omega, Int.emod_nonneg _ (by decide), Int.emod_lt_of_pos _ (by decide)⟩, fun b hb => upd_ne hb⟩
        · exact ⟨⟨_, _, rfl⟩, ⟨l, ns, i, left, seed, n, h1, h2, hi, hs0, hs1⟩, fun b hb => rfl⟩
      · exact ⟨⟨_, _, rfl⟩, ⟨l, ns, i, left, seed, n, h1, h2, hi, hs0, hs1⟩, fun b hb => rfl⟩
    · rintro σ H1 ⟨⟨x, y, rfl⟩, D1, fr⟩
      obtain ⟨l, ns, i, left, seed, n, h1, h2, hi, hs0, hs1⟩ := D1
      have hl : l ≠ a := DrawAt.ne h1 h2
      have g2 : ∀ o, upd H1 a o l = some (.lst (ns.map V.int)) := fun o => by rw [upd_ne hl]; exact h2
      have g3 : ∀ o b, b ≠ a → upd H1 a o b = H b := fun o b hb => by rw [upd_ne hb]; exact fr b hb
      refine ⟨_, rfl, _, _, _, _, rfl, rfl, SqL.of h1, atI_nat (j := 2) rfl, _, rfl, _, _, rfl, rfl, _, rfl, ?_⟩
      refine ite2 (fun c => ?_) (fun c => ?_)
      · refine ⟨_, rfl, _, _, _, _, rfl, rfl, SqL.of h1, atI_nat (j := 2) rfl, _, rfl, _, _, rfl, rfl, (show (0 : Int) < many by omega), ?_⟩
        refine ⟨_, rfl, _, _, _, _, rfl, rfl, SqL.of h1, atI_nat (j := 2) rfl, _, rfl, _, _, rfl, rfl, ⟨by omega, by omega⟩, _, rfl, _, _, _, 2, rfl, rfl, h1, rfl, ?_⟩
        refine ⟨_, rfl, ?_⟩
        exact k _ _ (Int.emod_nonneg _ (by omega)) (Int.emod_lt_of_pos _ (by omega)) ⟨l, ns, i, _, seed, n, upd_same, g2 _, hi, hs0, hs1⟩ (g3 _)
      · refine ⟨_, rfl, _, _, _, _, rfl, rfl, SqL.of h1, atI_nat (j := 4) rfl, _, _, rfl, rfl, _, rfl, _, _, _, 4, rfl, rfl, h1, rfl, ?_⟩
        refine ⟨_, rfl, _, _, _, _, rfl, rfl, SqL.of upd_same, atI_nat (j := 3) rfl, _, _, rfl, rfl, ⟨by decide, by decide, by omega⟩, _, rfl, _, _, _, _, rfl, rfl, SqL.of upd_same, atI_nat (j := 4) rfl, _, _, rfl, rfl, .inl ⟨by decide, by decide⟩, _, _, rfl, rfl, _, _, rfl, rfl, _, _, rfl, rfl, (by show (0 : Int) < 1000000007; decide), _, rfl, _, _, _, 3, rfl, rfl, upd_same, rfl, ?_⟩
        rw [upd_upd]
        refine ⟨_, rfl, _, _, _, _, rfl, rfl, SqL.of upd_same, atI_nat (j := 3) rfl, _, _, rfl, rfl, ⟨by decide, by decide⟩, _, rfl, _, _, rfl, rfl, (show (0 : Int) < many by omega), ?_⟩
        exact k _ _ (Int.emod_nonneg _ (by omega)) (Int.emod_lt_of_pos _ (by omega)) ⟨l, ns, i, left, _, _, upd_same, g2 _, hi, Int.emod_nonneg _ (by decide), Int.emod_lt_of_pos _ (by decide)⟩ (g3 _)
-- begin
abbrev s_begin : Stmt := top 11
theorem sc_begin : FnScope ["_law_script"] ["_law_script"] (defScope s_begin) := ⟨rfl, rfl, rfl, by decide +kernel, rfl, by decide +kernel, by decide +kernel⟩
theorem ok_begin (F : Fun K "_law_begin" "_law_begin" s_begin f fd) (T : Tx K mg cB tR tC) : FnOk P w K mg base CX0 1 f fd ["_law_script"] (spBegin K) := by
  refine F.ok sc_begin (fun vs H Q E h => ?_) (fun cdv A outer s H vs Q E hr h => ?_)
  · obtain ⟨a, ns, rfl, _⟩ := h
    rfl
  · obtain ⟨sc, ns, rfl, hS, k⟩ := h
    refine ⟨_, (pss_one (ps_ret (pe_lst (pa_cons (pe_callTy call_list_of (by rfl) T.no_list (by decide +kernel) (pa_cons (pe_slice sl_list (pv 0) po_none (po_some pe_int)) pa_nil)) (pa_cons pe_int (pa_cons pe_int (pa_cons pe_int (pa_cons pe_int pa_nil)))))))), ?_⟩
    refine ⟨_, rfl, _, rfl, _, _, rfl, hS, fun p hp => ?_⟩
    refine ⟨_, _, rfl, .inl (SqL.of upd_same), fun l hl => ?_⟩
    refine ⟨(by show 5 ≤ sizeLine; decide), fun a ha => ?_⟩
    have s0 := (same_new hp (.lst (cutV (ns.map V.int) none (some 63)))).trans (same_new hl (.lst (cutV (ns.map V.int) none (some 63))))
    obtain ⟨ms, em⟩ := cut_ints ns none (some 63)
    refine k a _ (s0.free ha) ⟨l, ms, 0, 0, 1, 0, upd_same, ?_, by decide, by decide, by decide⟩ (s0.trans (same_new ha _))
    rw [upd_ne (ne_of_none upd_same ha), upd_same, em]
-- same
abbrev s_same : Stmt := top 14
theorem sc_same : FnScope ["_law_found", "_law_due", "_law_k"] ["_law_found", "_law_due"] (defScope s_same) := ⟨rfl, rfl, rfl, by decide +kernel, rfl, by decide +kernel, by decide +kernel⟩
theorem ok_same {n : Nat} (F : Fun K "_law_same" "_law_same" s_same f fd) (T : Tx K mg cB tR tC) (D_same : Dn P w K mg base CX0 n "_law_same" ["_law_found", "_law_due"] (spSame K n)) : FnOk P w K mg base CX0 (n + 1) f fd ["_law_found", "_law_due"] (spSame K (n + 1)) := by
  refine F.ok sc_same (fun vs H Q E h => ?_) (fun cdv A outer s H vs Q E hr h => ?_)
  · obtain ⟨x, y, d, rfl, _⟩ := h
    rfl
  · obtain ⟨x, y, d, rfl, hx, hy, hd, hm, k⟩ := h
    refine ⟨_, (pss_cons (ps_if (pt_cmpR op_isN (pv 1) pe_non (nomark _)) (pss_one (ps_ret (pe_cmpR op_isN (pv 0) pe_non (nomark _)))) pss_nil)
      (pss_cons (ps_if (PW.pt (pw_or (pt_val (pe_callB call_isi (by rfl) T.no_isinstance (by decide +kernel) (pa_cons (pv 1) (pa_cons (pe_bltn (v := .ty "bool") (by rfl) T.no_bool (by decide +kernel) rfl) pa_nil)))) (pw_or1 (pt_val (pe_callB call_isi (by rfl) T.no_isinstance (by decide +kernel) (pa_cons (pv 0) (pa_cons (pe_bltn (v := .ty "bool") (by rfl) T.no_bool (by decide +kernel) rfl) pa_nil))))))) (pss_one (ps_ret (pe_and (pe_callB call_isi (by rfl) T.no_isinstance (by decide +kernel) (pa_cons (pv 1) (pa_cons (pe_bltn (v := .ty "bool") (by rfl) T.no_bool (by decide +kernel) rfl) pa_nil))) (pe_and (pe_callB call_isi (by rfl) T.no_isinstance (by decide +kernel) (pa_cons (pv 0) (pa_cons (pe_bltn (v := .ty "bool") (by rfl) T.no_bool (by decide +kernel) rfl) pa_nil))) (pe_one (pe_cmpR op_eq (pv 0) (pv 1) (nomark _))))))) pss_nil)
      (pss_cons (ps_if (pt_val (pe_callB call_isiT (by rfl) T.no_isinstance (by decide +kernel) (pa_cons (pv 1) (pa_cons (pe_tup (pa_cons (pe_bltn (v := .ty "int") (by rfl) T.no_int (by decide +kernel) rfl) (pa_cons (pe_bltn (v := .ty "str") (by rfl) T.no_str (by decide +kernel) rfl) pa_nil))) pa_nil)))) (pss_one (ps_ret (pe_and (pe_cmpR op_eq (pe_callB call_isi (by rfl) T.no_isinstance (by decide +kernel) (pa_cons (pv 0) (pa_cons (pe_bltn (v := .ty "int") (by rfl) T.no_int (by decide +kernel) rfl) pa_nil))) (pe_callB call_isi (by rfl) T.no_isinstance (by decide +kernel) (pa_cons (pv 1) (pa_cons (pe_bltn (v := .ty "int") (by rfl) T.no_int (by decide +kernel) rfl) pa_nil))) (nomark _)) (pe_and (pe_callB call_isiT (by rfl) T.no_isinstance (by decide +kernel) (pa_cons (pv 0) (pa_cons (pe_tup (pa_cons (pe_bltn (v := .ty "int") (by rfl) T.no_int (by decide +kernel) rfl) (pa_cons (pe_bltn (v := .ty "str") (by rfl) T.no_str (by decide +kernel) rfl) pa_nil))) pa_nil))) (pe_one (pe_cmpR op_eq (pv 0) (pv 1) (nomark _))))))) pss_nil)
      (pss_cons (ps_if (PW.pt (pw_or (pt_cmpR op_ne (pe_callB call_isi (by rfl) T.no_isinstance (by decide +kernel) (pa_cons (pv 0) (pa_cons (pe_bltn (v := .ty "list") (by rfl) T.no_list (by decide +kernel) rfl) pa_nil))) (pe_callB call_isi (by rfl) T.no_isinstance (by decide +kernel) (pa_cons (pv 1) (pa_cons (pe_bltn (v := .ty "list") (by rfl) T.no_list (by decide +kernel) rfl) pa_nil))) (nomark _)) (pw_or1 (pt_cmpR op_ne (pe_callB call_isi (by rfl) T.no_isinstance (by decide +kernel) (pa_cons (pv 0) (pa_cons (pe_bltn (v := .ty "tuple") (by rfl) T.no_tuple (by decide +kernel) rfl) pa_nil))) (pe_callB call_isi (by rfl) T.no_isinstance (by decide +kernel) (pa_cons (pv 1) (pa_cons (pe_bltn (v := .ty "tuple") (by rfl) T.no_tuple (by decide +kernel) rfl) pa_nil))) (nomark _))))) (pss_one (ps_ret pe_bl)) pss_nil)
      (pss_one (ps_ret (pe_and (pe_cmpR op_eq (pe_callB call_len_seq (by rfl) T.no_len (by decide +kernel) (pa_cons (pv 0) pa_nil)) (pe_callB call_len_seq (by rfl) T.no_len (by decide +kernel) (pa_cons (pv 1) pa_nil)) (nomark _)) (pe_one (pe_callB (cr_all rfl) (by rfl) T.no_all (by decide +kernel) (pa_cons (pe_lc (own := [("_law_k", 2)]) (g := gName 2) rfl sc_same.nd (pi_range1 (by rfl) T.no_range (pa_cons (pe_callB call_len_seq (by rfl) T.no_len (by decide +kernel) (pa_cons (pv 1) pa_nil)) pa_nil)) (blkOk_by (N := ["_law_found", "_law_due", "_law_k"]) (sc := defScope s_same) (by decide +kernel)) (fun _ _ _ _ _ => (pg_name (i := 2) sc_same.nd rfl (Or.inl rfl))) (fun _ _ _ _ _ => pts_nil) (fun _ _ _ _ _ => (pe_callD D_same hr (by rfl) pass0 (pa_cons (pe_ix (ixQk (K := K) rfl) (pv 0) (pv 2) (fun _ _ => rfl)) (pa_cons (pe_ix (ixQk (K := K) rfl) (pv 1) (pv 2) (fun _ _ => rfl)) pa_nil))))) pa_nil)))))))))), ?_⟩
    cases d with
    | dict kvs => cases hx
    | none =>
      cases hx
      cases hy
      exact ⟨_, rfl, rfl, _, rfl, ifT rfl ⟨_, rfl, rfl, k H (Same.refl H)⟩⟩
    | bool b =>
      cases hx
      cases hy
      have ty : ∀ H, TyX K H (.bl b) (.type "bool") := fun H => .base (.bl b)
      have kb : kitB "bool" "bool" = some true := by decide +kernel
      refine ⟨_, rfl, rfl, _, rfl, ?_⟩
      refine ifF (by simp) ?_
      refine ⟨_, rfl, _, _, _, _, true, rfl, .ty _, ty _, kit_ty kb, _, rfl, ?_⟩
      refine ifT rfl ?_
      refine ifT rfl ?_
      refine ⟨_, rfl, _, _, _, _, true, rfl, .ty _, ty _, kit_ty kb, _, rfl, ?_⟩
      refine ifT rfl ?_
      refine ⟨_, rfl, _, _, _, _, true, rfl, .ty _, ty _, kit_ty kb, _, rfl, ?_⟩
      refine ifT rfl ?_
      refine ⟨_, rfl, _, rfl, rfl, ?_⟩
      rw [decide_eq_true rfl]
      exact k H (Same.refl H)
    | int b =>
      cases hx
      cases hy
      have ty : ∀ H, TyX K H (.int b) (.type "int") := fun H => .base (.int b)
      have kb : kitB "int" "bool" = some false := by decide +kernel
      have ki : kitB "int" "int" = some true := by decide +kernel
      have ks : kitB "int" "str" = some false := by decide +kernel
      refine ⟨_, rfl, rfl, _, rfl, ?_⟩
      refine ifF (by simp) ?_
      refine ⟨_, rfl, _, _, _, _, false, rfl, .ty _, ty _, kit_ty kb, _, rfl, ?_⟩
      refine ifF (by simp) ?_
      refine ⟨_, rfl, _, _, _, _, false, rfl, .ty _, ty _, kit_ty kb, _, rfl, ?_⟩
      refine ifF (by simp) ?_
      refine ⟨_, rfl, (by show 2 ≤ sizeLine; decide), fun t1 nt1 => ⟨_, _, _, _, _, _, rfl, upd_same, cls2 _ _, ty _, kit2 ki ks, _, rfl, ?_⟩⟩
      refine ifT rfl ?_
      refine ⟨_, rfl, _, _, _, _, true, rfl, .ty _, ty _, kit_ty ki, _, rfl, _, _, _, _, true, rfl, .ty _, ty _, kit_ty ki, rfl, _, rfl, ?_⟩
      refine ifT rfl ?_
      refine ⟨_, rfl, (by show 2 ≤ sizeLine; decide), fun t2 nt2 => ⟨_, _, _, _, _, _, rfl, upd_same, cls2 _ _, ty _, kit2 ki ks, _, rfl, ?_⟩⟩
      refine ifT rfl ?_
      refine ⟨_, rfl, _, rfl, rfl, ?_⟩
      rw [decide_eq_true rfl]
      exact k _ ((same_new nt1 _).trans (same_new nt2 _))
    | str b =>
      cases hx
      cases hy
      have ty : ∀ H, TyX K H (.str b) (.type "str") := fun H => .base (.str b)
      have kb : kitB "str" "bool" = some false := by decide +kernel
      have ki : kitB "str" "int" = some false := by decide +kernel
      have ks : kitB "str" "str" = some true := by decide +kernel
      refine ⟨_, rfl, rfl, _, rfl, ?_⟩
      refine ifF (by simp) ?_
      refine ⟨_, rfl, _, _, _, _, false, rfl, .ty _, ty _, kit_ty kb, _, rfl, ?_⟩
      refine ifF (by simp) ?_
      refine ⟨_, rfl, _, _, _, _, false, rfl, .ty _, ty _, kit_ty kb, _, rfl, ?_⟩
      refine ifF (by simp) ?_
      refine ⟨_, rfl, (by show 2 ≤ sizeLine; decide), fun t1 nt1 => ⟨_, _, _, _, _, _, rfl, upd_same, cls2 _ _, ty _, kit2 ki ks, _, rfl, ?_⟩⟩
      refine ifT rfl ?_
      refine ⟨_, rfl, _, _, _, _, false, rfl, .ty _, ty _, kit_ty ki, _, rfl, _, _, _, _, false, rfl, .ty _, ty _, kit_ty ki, rfl, _, rfl, ?_⟩
      refine ifT rfl ?_
      refine ⟨_, rfl, (by show 2 ≤ sizeLine; decide), fun t2 nt2 => ⟨_, _, _, _, _, _, rfl, upd_same, cls2 _ _, ty _, kit2 ki ks, _, rfl, ?_⟩⟩
      refine ifT rfl ?_
      refine ⟨_, rfl, _, rfl, rfl, ?_⟩
      rw [decide_eq_true rfl]
      exact k _ ((same_new nt1 _).trans (same_new nt2 _))
    | list ds =>
      have hd' : PyData.depthAll ds < n := by simp only [PyData.depth] at hd; omega
      have kb : kitB "list" "bool" = some false := by decide +kernel
      have ki : kitB "list" "int" = some false := by decide +kernel
      have ks : kitB "list" "str" = some false := by decide +kernel
      have kl : kitB "list" "list" = some true := by decide +kernel
      have kt : kitB "list" "tuple" = some false := by decide +kernel
      cases hx with
      | @lst a xs _ sx ax =>
      cases hy with
      | @lst b ys _ sy ay =>
      have lx := dpAll_len ax
      have ly := dpAll_len ay
      have hm1 : ds.length ≤ 100000 := by simp only [mxl] at hm; omega
      have hm2 : mxlAll ds ≤ 100000 := by simp only [mxl] at hm; omega
      have hsl := sizeLine_eq
      refine ⟨_, rfl, rfl, _, rfl, ?_⟩
      refine ifF (by simp) ?_
      refine ⟨_, rfl, _, _, _, _, false, rfl, .ty _, tyx_list sy, kit_ty kb, _, rfl, ?_⟩
      refine ifF (by simp) ?_
      refine ⟨_, rfl, _, _, _, _, false, rfl, .ty _, tyx_list sx, kit_ty kb, _, rfl, ?_⟩
      refine ifF (by simp) ?_
      refine ⟨_, rfl, (by show 2 ≤ sizeLine; decide), fun t1 nt1 => ⟨_, _, _, _, _, _, rfl, upd_same, cls2 _ _, tyx_list ((same_new nt1 _).seq sy), kit2 ki ks, _, rfl, ?_⟩⟩
      refine ifF (by simp) ?_
      have s1 := same_new nt1 (.tup [.ty "int", .ty "str"])
      have sx1 := s1.seq sx
      have sy1 := s1.seq sy
      refine ⟨_, rfl, _, _, _, _, true, rfl, .ty _, tyx_list sx1, kit_ty kl, _, rfl, _, _, _, _, true, rfl, .ty _, tyx_list sy1, kit_ty kl, rfl, _, rfl, ?_⟩
      refine ifF (by simp) ?_
      refine ⟨_, rfl, _, _, _, _, false, rfl, .ty _, tyx_list sx1, kit_ty kt, _, rfl, _, _, _, _, false, rfl, .ty _, tyx_list sy1, kit_ty kt, rfl, _, rfl, ?_⟩
      refine ifF (by simp) ?_
      refine ⟨_, rfl, _, _, rfl, .inl sx1, _, rfl, _, _, rfl, .inl sy1, rfl, _, rfl, ?_⟩
      refine ifT (by simp [lx, ly]) ?_
      refine ⟨_, rfl, _, _, rfl, .inl sy1, _, rfl, (by omega), (by omega), fun D hD => ?_⟩
      generalize upd H t1 (HO.tup [V.ty "int", V.ty "str"]) = H1 at *
      refine lc_range (lo := 0) (n := ((ys.length : Nat) : Int).toNat) (fun i H2 => Same H1 H2 ∧ H2 D = some (.lst (List.replicate i (V.bl true)))) ⟨same_new hD _, upd_same⟩ ?_ ?_
      · rintro i H2 hi ⟨s2, e2⟩
        have hi' : i < ds.length := by omega
        have ed : ds[i]? = some ds[i] := List.getElem?_eq_getElem hi'
        obtain ⟨v, ev, dv⟩ := dpAll_get ax ed
        obtain ⟨u, eu, du⟩ := dpAll_get ay ed
        have nd : (ds[i]).depth < n := Nat.lt_of_le_of_lt (depth_get ed) hd'
        refine ⟨rfl, ?_⟩
        unfold tYes
        refine ifT rfl ?_
        refine ⟨_, rfl, _, rfl, .inl ⟨_, _, _, _, rfl, rfl, s2.seq sx1, at_of (by simp) ev, _, rfl, _, rfl, .inl ⟨_, _, _, _, rfl, rfl, s2.seq sy1, at_of (by simp) eu, _, _, _, rfl, dp_same (s1.trans s2) _ _ dv, dp_same (s1.trans s2) _ _ du, nd, Nat.le_trans (mxl_get ed) hm2, fun H3 s3 => ?_⟩⟩⟩
        refine ⟨_, s3 _ _ e2, (by rw [List.length_replicate]; omega), ?_, ?_⟩
        · intro b' o q
          rw [upd_ne (ne_of_none q hD)]
          exact s3 _ _ (s2 _ _ q)
        · rw [upd_same, rep_succ]
      · rintro H2 ⟨s2, e2⟩
        refine ⟨_, List.replicate ys.length true, rfl, SqL.of (by rw [e2, ← rep_bl]; simp), ?_⟩
        rw [rep_all]
        exact k _ (s1.trans s2)
    | tuple ds =>
      have hd' : PyData.depthAll ds < n := by simp only [PyData.depth] at hd; omega
      have kb : kitB "tuple" "bool" = some false := by decide +kernel
      have ki : kitB "tuple" "int" = some false := by decide +kernel
      have ks : kitB "tuple" "str" = some false := by decide +kernel
      have kl : kitB "tuple" "list" = some false := by decide +kernel
      have kt : kitB "tuple" "tuple" = some true := by decide +kernel
      cases hx with
      | @tup a xs _ sx ax =>
      cases hy with
      | @tup b ys _ sy ay =>
      have lx := dpAll_len ax
      have ly := dpAll_len ay
      have hm1 : ds.length ≤ 100000 := by simp only [mxl] at hm; omega
      have hm2 : mxlAll ds ≤ 100000 := by simp only [mxl] at hm; omega
      have hsl := sizeLine_eq
      refine ⟨_, rfl, rfl, _, rfl, ?_⟩
      refine ifF (by simp) ?_
      refine ⟨_, rfl, _, _, _, _, false, rfl, .ty _, tyx_tuple sy, kit_ty kb, _, rfl, ?_⟩
      refine ifF (by simp) ?_
      refine ⟨_, rfl, _, _, _, _, false, rfl, .ty _, tyx_tuple sx, kit_ty kb, _, rfl, ?_⟩
      refine ifF (by simp) ?_
      refine ⟨_, rfl, (by show 2 ≤ sizeLine; decide), fun t1 nt1 => ⟨_, _, _, _, _, _, rfl, upd_same, cls2 _ _, tyx_tuple (Same.tup (same_new nt1 _) sy), kit2 ki ks, _, rfl, ?_⟩⟩
      refine ifF (by simp) ?_
      have s1 := same_new nt1 (.tup [.ty "int", .ty "str"])
      have sx1 := Same.tup s1 sx
      have sy1 := Same.tup s1 sy
      refine ⟨_, rfl, _, _, _, _, false, rfl, .ty _, tyx_tuple sx1, kit_ty kl, _, rfl, _, _, _, _, false, rfl, .ty _, tyx_tuple sy1, kit_ty kl, rfl, _, rfl, ?_⟩
      refine ifF (by simp) ?_
      refine ⟨_, rfl, _, _, _, _, true, rfl, .ty _, tyx_tuple sx1, kit_ty kt, _, rfl, _, _, _, _, true, rfl, .ty _, tyx_tuple sy1, kit_ty kt, rfl, _, rfl, ?_⟩
      refine ifF (by simp) ?_
      refine ⟨_, rfl, _, _, rfl, .inr sx1, _, rfl, _, _, rfl, .inr sy1, rfl, _, rfl, ?_⟩
      refine ifT (by simp [lx, ly]) ?_
      refine ⟨_, rfl, _, _, rfl, .inr sy1, _, rfl, (by omega), (by omega), fun D hD => ?_⟩
      generalize upd H t1 (HO.tup [V.ty "int", V.ty "str"]) = H1 at *
      refine lc_range (lo := 0) (n := ((ys.length : Nat) : Int).toNat) (fun i H2 => Same H1 H2 ∧ H2 D = some (.lst (List.replicate i (V.bl true)))) ⟨same_new hD _, upd_same⟩ ?_ ?_
      · rintro i H2 hi ⟨s2, e2⟩
        have hi' : i < ds.length := by omega
        have ed : ds[i]? = some ds[i] := List.getElem?_eq_getElem hi'
        obtain ⟨v, ev, dv⟩ := dpAll_get ax ed
        obtain ⟨u, eu, du⟩ := dpAll_get ay ed
        have nd : (ds[i]).depth < n := Nat.lt_of_le_of_lt (depth_get ed) hd'
        refine ⟨rfl, ?_⟩
        unfold tYes
        refine ifT rfl ?_
        refine ⟨_, rfl, _, rfl, .inr (.inl ⟨_, _, _, _, rfl, rfl, Same.tup s2 sx1, at_of (by simp) ev, _, rfl, _, rfl, .inr (.inl ⟨_, _, _, _, rfl, rfl, Same.tup s2 sy1, at_of (by simp) eu, _, _, _, rfl, dp_same (s1.trans s2) _ _ dv, dp_same (s1.trans s2) _ _ du, nd, Nat.le_trans (mxl_get ed) hm2, fun H3 s3 => ?_⟩)⟩)⟩
        refine ⟨_, s3 _ _ e2, (by rw [List.length_replicate]; omega), ?_, ?_⟩
        · intro b' o q
          rw [upd_ne (ne_of_none q hD)]
          exact s3 _ _ (s2 _ _ q)
        · rw [upd_same, rep_succ]
      · rintro H2 ⟨s2, e2⟩
        refine ⟨_, List.replicate ys.length true, rfl, SqL.of (by rw [e2, ← rep_bl]; simp), ?_⟩
        rw [rep_all]
        exact k _ (s1.trans s2)
theorem same_all (F : Fun K "_law_same" "_law_same" s_same f fd) (T : Tx K mg cB tR tC) (b : Binds K fd ["_law_found", "_law_due"] []) (m : mg "_law_same" = some (.ref f)) (kp : PySem.W.keepIn K (.ref f) = true) :
    ∀ n : Nat, Dn P w K mg base CX0 n "_law_same" ["_law_found", "_law_due"] (spSame K n)
  | 0 => ⟨f, fd, same_none, m, kp, b⟩
  | n + 1 => ⟨f, fd, ok_same F T (same_all F T b m kp n), m, kp, b⟩
-- box_drawn
def spBox : Sp := fun vs H Q _ => ∃ (a : Addr) (far : Int), vs = [.ref a, .int far] ∧ DrawAt H a ∧ 6 ≤ far ∧ far < 1073741824 ∧
  ∀ (t : Addr) (b : Bx) (H' : Hp), 0 ≤ b.r → b.r < far → 0 ≤ b.c → b.c < 6 → 1 ≤ b.h → b.h ≤ 5 → 1 ≤ b.w → b.w ≤ 5 → Ext a H H' → H' t = some (.tup (boxL b)) → Q (.ref t) H'
theorem Ext.pick {a : Addr} {H H1 : Hp} (d : DrawAt H1 a) (e : ∀ b, b ≠ a → H1 b = H b) : Ext a H H1 := ⟨d, fun b o n h => by rw [e b n]; exact h⟩
abbrev s_box_drawn : Stmt := top 13
theorem sc_box_drawn : FnScope ["_law_draw", "_law_far", "_law_rows"] ["_law_draw", "_law_far"] (defScope s_box_drawn) := ⟨rfl, rfl, rfl, by decide +kernel, rfl, by decide +kernel, by decide +kernel⟩
theorem ok_box_drawn (F : Fun K "_law_box_drawn" "_law_box_drawn" s_box_drawn f fd) (D_pick : Dn P w K mg base CX0 1 "_law_pick" ["_law_draw", "_law_many"] spPick) : FnOk P w K mg base CX0 2 f fd ["_law_draw", "_law_far"] spBox := by
  refine F.ok sc_box_drawn (fun vs H Q E h => ?_) (fun cdv A outer s H vs Q E hr h => ?_)
  · obtain ⟨a, far, rfl, _⟩ := h
    rfl
  · obtain ⟨a, far, rfl, D0, f6, f30, k⟩ := h
    refine ⟨_, (pss_cons (ps_set (i := 2) sc_box_drawn.nd rfl (.inl rfl) (pe_ix ix_tup (pe_tup (pa_cons (pe_callD D_pick hr (by rfl) pass0 (pa_cons (pv 0) (pa_cons pe_int pa_nil))) (pa_cons (pe_callD D_pick hr (by rfl) pass0 (pa_cons (pv 0) (pa_cons (pv 1) pa_nil))) pa_nil))) (pe_callD D_pick hr (by rfl) pass0 (pa_cons (pv 0) (pa_cons pe_int pa_nil))) (fun _ _ => rfl)))
      (pss_one (ps_ret (pe_tup (pa_cons (pv 2) (pa_cons (pe_callD D_pick hr (by rfl) pass0 (pa_cons (pv 0) (pa_cons pe_int pa_nil))) (pa_cons (pe_op op_add pe_int (pe_callD D_pick hr (by rfl) pass0 (pa_cons (pv 0) (pa_cons pe_int pa_nil)))) (pa_cons (pe_op op_add pe_int (pe_callD D_pick hr (by rfl) pass0 (pa_cons (pv 0) (pa_cons pe_int pa_nil)))) pa_nil)))))))), ?_⟩
    refine ⟨_, rfl, _, _, rfl, D0, by decide, by decide, fun r1 H1 a1 b1 D1 e1 => ?_⟩
    refine ⟨_, rfl, _, rfl, _, _, rfl, D1, by omega, f30, fun r2 H2 a2 b2 D2 e2 => ?_⟩
    refine ⟨(by show 2 ≤ sizeLine; decide), fun t ht => ?_⟩
    have s2 := same_new ht (.tup [.int r1, .int r2])
    refine ⟨_, rfl, _, _, rfl, D2.same s2, by decide, by decide, fun r3 H3 a3 b3 D3 e3 => ?_⟩
    have x3 : Ext a H H3 := ((Ext.pick D1 e1).trans ((Ext.pick D2 e2).same s2)).trans (Ext.pick D3 e3)
    have ht3 : H3 t = some (.tup [.int r1, .int r2]) := by rw [e3 t ((D2.same s2).neT upd_same)]; exact upd_same
    obtain ⟨r, er, r0, rf⟩ : ∃ r : Int, atI [V.int r1, V.int r2] r3 = some (.int r) ∧ 0 ≤ r ∧ r < far := by
      have : r3 = 0 ∨ r3 = 1 := by omega
      rcases this with rfl | rfl
      · exact ⟨r1, atI_nat (j := 0) rfl, a1, by omega⟩
      · exact ⟨r2, atI_nat (j := 1) rfl, a2, b2⟩
    refine ⟨t, _, _, _, rfl, rfl, SqT.of ht3, er, ?_⟩
    refine ⟨_, rfl, _, rfl, _, _, rfl, D3, by decide, by decide, fun r4 H4 a4 b4 D4 e4 => ?_⟩
    refine ⟨_, rfl, _, _, rfl, D4, by decide, by decide, fun r5 H5 a5 b5 D5 e5 => ?_⟩
    refine ⟨_, _, rfl, rfl, _, rfl, _, _, rfl, D5, by decide, by decide, fun r6 H6 a6 b6 D6 e6 => ?_⟩
    refine ⟨_, _, rfl, rfl, (by show 4 ≤ sizeLine; decide), fun u hu => ?_⟩
    exact k u ⟨r, r4, 1 + r5, 1 + r6⟩ _ r0 rf a4 b4 (by show 1 ≤ 1 + r5; omega) (by show 1 + r5 ≤ 5; omega) (by show 1 ≤ 1 + r6; omega) (by show 1 + r6 ≤ 5; omega)
      (((x3.trans (Ext.pick D4 e4)).trans (Ext.pick D5 e5)).trans (Ext.pick D6 e6) |>.same (same_new hu _)) upd_same
end
end K10

set_option Elab.async false
set_option linter.all false
set_option maxRecDepth 100000
set_option maxHeartbeats 4000000
namespace K10
open PySem L2 Gs
def Good (ax : Str) : Prop := ax = "row" ∨ ax = "column"
instance (ax : Str) : Decidable (Good ax) := by unfold Good; infer_instance
theorem inV_ax (ax : Str) : inV (.str ax) [.str "row", .str "column"] = decide (ax = "row" ∨ ax = "column") := by
  have e : inV (.str ax) [.str "row", .str "column"] = ((("row" : Str) == ax) || ((("column" : Str) == ax) || false)) := rfl
  rw [e]
  by_cases h1 : ("row" : Str) = ax
  · rw [decide_eq_true (.inl h1.symm), beq_iff_eq.mpr h1]
    rfl
  · by_cases h2 : ("column" : Str) = ax
    · rw [decide_eq_true (.inr h2.symm), beq_iff_eq.mpr h2]
      simp
    · rw [decide_eq_false (by rintro (z | z); exact h1 z.symm; exact h2 z.symm), beq_eq_false_iff_ne.mpr h1, beq_eq_false_iff_ne.mpr h2]
      rfl
def spanM (b : Bx) (ax : Str) : Int × Int := if ax = "row" then (b.r, b.h) else (b.c, b.w)
def withM (b : Bx) (ax : Str) (x y : Int) : Bx := if ax = "row" then ⟨x, b.c, y, b.w⟩ else ⟨b.r, x, b.h, y⟩
theorem spanM_row {b : Bx} {ax : Str} (e : ax = "row") : spanM b ax = (b.r, b.h) := if_pos e
theorem spanM_col {b : Bx} {ax : Str} (e : ¬ ax = "row") : spanM b ax = (b.c, b.w) := if_neg e
theorem withM_row {b : Bx} {ax : Str} {x y : Int} (e : ax = "row") : withM b ax x y = ⟨x, b.c, y, b.w⟩ := if_pos e
theorem withM_col {b : Bx} {ax : Str} {x y : Int} (e : ¬ ax = "row") : withM b ax x y = ⟨b.r, x, b.h, y⟩ := if_neg e
theorem box_dp {K : PySem.W.Frag} {H : Hp} {t : Addr} {b : Bx} (h : H t = some (.tup (boxL b))) : Dp K H (.ref t) (boxD b) := .tup (SqT.of h) (.cons (.int _) (.cons (.int _) (.cons (.int _) (.cons (.int _) .nil))))
def spCheck (cB : Addr) : Sp := fun vs H Q E => ∃ ax : Str, vs = [.str ax] ∧ ax.length ≤ 100 ∧ (Good ax → ∀ H', Same H H' → Q .non H') ∧ (¬ Good ax → ∀ H', Same H H' → E (.ref cB) none H')
def spSpan : Sp := fun vs H Q _ => ∃ (p : Addr) (b : Bx) (ax : Str), vs = [.ref p, .str ax] ∧ H p = some (.tup (boxL b)) ∧ ∀ t, H t = none → Q (.ref t) (upd H t (.tup [.int (spanM b ax).1, .int (spanM b ax).2]))
def spWith : Sp := fun vs H Q _ => ∃ (p : Addr) (b : Bx) (ax : Str) (x y : Int), vs = [.ref p, .str ax, .int x, .int y] ∧ H p = some (.tup (boxL b)) ∧ ∀ t, H t = none → Q (.ref t) (upd H t (.tup (boxL (withM b ax x y))))
def aheadM (x n m : Int) : Int := if (if n + m < x then n + m else x) - n > 0 then (if n + m < x then n + m else x) - n else 0
def withinM (x l n m : Int) : Int := if (if n + m < x + l then n + m else x + l) - (if n > x then n else x) > 0 then (if n + m < x + l then n + m else x + l) - (if n > x then n else x) else 0
def cutD (b : Bx) (ax : Str) (n m : Int) : PyData := if withinM (spanM b ax).1 (spanM b ax).2 n m = (spanM b ax).2 then .none
  else boxD (withM b ax ((spanM b ax).1 - aheadM (spanM b ax).1 n m) ((spanM b ax).2 - withinM (spanM b ax).1 (spanM b ax).2 n m))
def spCut (K : PySem.W.Frag) (cB : Addr) : Sp := fun vs H Q E => ∃ (p : Addr) (b : Bx) (ax : Str) (n m : Int), vs = [.ref p, .str ax, .int n, .int m] ∧ H p = some (.tup (boxL b)) ∧ ax.length ≤ 100 ∧
  (Good ax → ∀ v H', Same H H' → Dp K H' v (cutD b ax n m) → Q v H') ∧ (¬ Good ax → ∀ H', Same H H' → E (.ref cB) none H')
def toldD (b : Bx) (ax : Str) (n m : Int) : PyData := if Good ax then cutD b ax n m else .str "BadAxis"
def spTold (K : PySem.W.Frag) : Sp := fun vs H Q _ => ∃ (p : Addr) (b : Bx) (ax : Str) (n m : Int), vs = [.ref p, .str ax, .int n, .int m] ∧ H p = some (.tup (boxL b)) ∧ ax.length ≤ 100 ∧ ∀ v H', Same H H' → Dp K H' v (toldD b ax n m) → Q v H'
section
variable {P : Program} {w : World} {K : PySem.W.Frag} {mg : Str → Option Value} {base : Heap} {f : Addr} {fd : FuncData} {cB : Addr} {tR tC : Tok}
abbrev s_check_axis : Stmt := top 6
theorem sc_check_axis : FnScope ["axis"] ["axis"] (defScope s_check_axis) := ⟨rfl, rfl, rfl, by decide +kernel, rfl, by decide +kernel, by decide +kernel⟩
theorem ok_check (F : Fun K "check_axis" "check_axis" s_check_axis f fd) (T : Tx K mg cB tR tC) : FnOk P w K mg base (L2.CX P w) 1 f fd ["axis"] (spCheck cB) := by
  refine F.okX sc_check_axis (fun vs H Q E h => ?_) (fun cdv A outer s H vs Q E hr h => ?_)
  · obtain ⟨ax, rfl, _⟩ := h
    rfl
  · obtain ⟨ax, rfl, hl, k1, k2⟩ := h
    refine ⟨_, (pss_one (ps_if (pt_cmpR op_notIn_seq (pv 0) (pe_tup (pa_cons (glS (by rfl) T.mg_ROW) (pa_cons (glS (by rfl) T.mg_COLUMN) pa_nil))) (by rfl)) (pss_one (ps_raise rfl (takes_of rfl rfl rfl rfl) (SkE.pmk_own1 PySem.F.excBase_ValueError T.x_BadAxis.ex T.x_BadAxis.g T.x_BadAxis.kp (raises_own T.x_BadAxis.b T.x_BadAxis.t) (by rfl) (pe_joined (.cons (pe_fmt (pv 0)) (.cons pe_str .nil)))))) pss_nil)), ?_⟩
    refine ⟨_, rfl, (by show 2 ≤ sizeLine; decide), fun t ht => ⟨_, _, rfl, .inr (SqT.of upd_same), rfl, rfl, _, rfl, ?_⟩⟩
    have s1 := same_new ht (.tup [.str "row", .str "column"])
    refine ite2 (fun c => ?_) (fun c => ?_)
    · refine ⟨_, rfl, .inl ⟨_, rfl, small (by omega), _, rfl, ?_, _, rfl, ?_, ?_⟩⟩
      · exact small (by rw [PySem.Str.length_append]; show 0 + ax.length ≤ 1000; omega)
      · exact small (by rw [PySem.Str.length_append, PySem.Str.length_append]; show 0 + ax.length + 11 ≤ 1000; omega)
      · refine k2 (fun z => ?_) _ s1
        have q : inV (.str ax) [.str "row", .str "column"] = true := by rw [inV_ax]; exact decide_eq_true z
        have c' : (!inV (.str ax) [.str "row", .str "column"]) = true := c
        rw [q] at c'
        cases c'
    · refine k1 ?_ _ s1
      by_cases z : (ax = "row" ∨ ax = "column")
      · exact z
      · exfalso
        refine c ?_
        show (!inV (.str ax) [.str "row", .str "column"]) = true
        rw [inV_ax, decide_eq_false z]
        rfl
abbrev s_span : Stmt := top 7
theorem sc_span : FnScope ["box", "axis", "row", "column", "high", "wide"] ["box", "axis"] (defScope s_span) := ⟨rfl, rfl, rfl, by decide +kernel, rfl, by decide +kernel, by decide +kernel⟩
theorem ok_span (F : Fun K "span" "span" s_span f fd) (T : Tx K mg cB tR tC) : FnOk P w K mg base CX0 1 f fd ["box", "axis"] spSpan := by
  refine F.ok sc_span (fun vs H Q E h => ?_) (fun cdv A outer s H vs Q E hr h => ?_)
  · obtain ⟨p, b, ax, rfl, _⟩ := h
    rfl
  · obtain ⟨p, b, ax, rfl, hp, k⟩ := h
    refine ⟨_, (pss_cons (ps_asg (pv 0) (pg_tup (by rfl) (pgs_cons (pg_name (i := 2) sc_span.nd rfl (.inl rfl)) (pgs_cons (pg_name (i := 3) sc_span.nd rfl (.inl rfl)) (pgs_cons (pg_name (i := 4) sc_span.nd rfl (.inl rfl)) (pgs_cons (pg_name (i := 5) sc_span.nd rfl (.inl rfl)) pgs_nil))))))
      (pss_one (ps_ret (pe_ifExp (pt_cmpR op_eq (pv 1) (glS (by rfl) T.mg_ROW) (nomark _)) (pe_tup (pa_cons (pv 2) (pa_cons (pv 4) pa_nil))) (pe_tup (pa_cons (pv 3) (pa_cons (pv 5) pa_nil))))))), ?_⟩
    refine ⟨_, rfl, _, _, rfl, SqT.of hp, rfl, _, _, rfl, _, _, rfl, _, _, rfl, _, _, rfl, rfl, ?_⟩
    refine ⟨_, rfl, rfl, _, rfl, ?_⟩
    refine ite2 (fun c => ?_) (fun c => ?_)
    · have e : ax = "row" := by have := of_decide_eq_true c; injection this
      refine ⟨_, rfl, _, rfl, (by show 2 ≤ sizeLine; decide), fun t ht => ?_⟩
      have := k t ht
      rw [spanM_row e] at this
      exact this
    · have e : ¬ ax = "row" := fun z => c (decide_eq_true (by rw [z]))
      refine ⟨_, rfl, _, rfl, (by show 2 ≤ sizeLine; decide), fun t ht => ?_⟩
      have := k t ht
      rw [spanM_col e] at this
      exact this
abbrev s_with_span : Stmt := top 8
theorem sc_with_span : FnScope ["box", "axis", "first", "many", "row", "column", "high", "wide"] ["box", "axis", "first", "many"] (defScope s_with_span) := ⟨rfl, rfl, rfl, by decide +kernel, rfl, by decide +kernel, by decide +kernel⟩
theorem ok_with (F : Fun K "with_span" "with_span" s_with_span f fd) (T : Tx K mg cB tR tC) : FnOk P w K mg base CX0 1 f fd ["box", "axis", "first", "many"] spWith := by
  refine F.ok sc_with_span (fun vs H Q E h => ?_) (fun cdv A outer s H vs Q E hr h => ?_)
  · obtain ⟨p, b, ax, x, y, rfl, _⟩ := h
    rfl
  · obtain ⟨p, b, ax, x, y, rfl, hp, k⟩ := h
    refine ⟨_, (pss_cons (ps_asg (pv 0) (pg_tup (by rfl) (pgs_cons (pg_name (i := 4) sc_with_span.nd rfl (.inl rfl)) (pgs_cons (pg_name (i := 5) sc_with_span.nd rfl (.inl rfl)) (pgs_cons (pg_name (i := 6) sc_with_span.nd rfl (.inl rfl)) (pgs_cons (pg_name (i := 7) sc_with_span.nd rfl (.inl rfl)) pgs_nil))))))
      (pss_one (ps_ret (pe_ifExp (pt_cmpR op_eq (pv 1) (glS (by rfl) T.mg_ROW) (nomark _)) (pe_tup (pa_cons (pv 2) (pa_cons (pv 5) (pa_cons (pv 3) (pa_cons (pv 7) pa_nil))))) (pe_tup (pa_cons (pv 4) (pa_cons (pv 2) (pa_cons (pv 6) (pa_cons (pv 3) pa_nil))))))))), ?_⟩
    refine ⟨_, rfl, _, _, rfl, SqT.of hp, rfl, _, _, rfl, _, _, rfl, _, _, rfl, _, _, rfl, rfl, ?_⟩
    refine ⟨_, rfl, rfl, _, rfl, ?_⟩
    refine ite2 (fun c => ?_) (fun c => ?_)
    · have e : ax = "row" := by have := of_decide_eq_true c; injection this
      refine ⟨_, rfl, _, rfl, _, rfl, _, rfl, (by show 4 ≤ sizeLine; decide), fun t ht => ?_⟩
      have := k t ht
      rw [withM_row e] at this
      exact this
    · have e : ¬ ax = "row" := fun z => c (decide_eq_true (by rw [z]))
      refine ⟨_, rfl, _, rfl, _, rfl, _, rfl, (by show 4 ≤ sizeLine; decide), fun t ht => ?_⟩
      have := k t ht
      rw [withM_col e] at this
      exact this
abbrev s_cut_out : Stmt := top 9
theorem sc_cut_out : FnScope ["box", "axis", "number", "many", "first", "length", "behind", "ahead", "within"] ["box", "axis", "number", "many"] (defScope s_cut_out) := ⟨rfl, rfl, rfl, by decide +kernel, rfl, by decide +kernel, by decide +kernel⟩
theorem ok_cut (F : Fun K "cut_out" "cut_out" s_cut_out f fd) (T : Tx K mg cB tR tC) (D_check_axis : Dn P w K mg base (L2.CX P w) 1 "check_axis" ["axis"] (spCheck cB)) (D_span : Dn P w K mg base CX0 1 "span" ["box", "axis"] spSpan) (D_with_span : Dn P w K mg base CX0 1 "with_span" ["box", "axis", "first", "many"] spWith) :
    FnOk P w K mg base (L2.CX P w) 2 f fd ["box", "axis", "number", "many"] (spCut K cB) := by
  refine F.okX sc_cut_out (fun vs H Q E h => ?_) (fun cdv A outer s H vs Q E hr h => ?_)
  · obtain ⟨p, b, ax, n, m, rfl, _⟩ := h
    rfl
  · obtain ⟨p, b, ax, n, m, rfl, hp, hl, k1, k2⟩ := h
    refine ⟨_, (pss_cons (ps_expr (pe_callD D_check_axis (hr.mono (by omega)) (by rfl) (passes_call (takes_of rfl rfl rfl rfl) (fun _ _ _ _ h => h)) (pa_cons (pv 1) pa_nil)))
      (pss_cons (ps_asg (pe_callD D_span (hr.mono (by omega)) (by rfl) pass0 (pa_cons (pv 0) (pa_cons (pv 1) pa_nil))) (pg_tup (by rfl) (pgs_cons (pg_name (i := 4) sc_cut_out.nd rfl (.inl rfl)) (pgs_cons (pg_name (i := 5) sc_cut_out.nd rfl (.inl rfl)) pgs_nil))))
      (pss_cons (ps_set (i := 6) sc_cut_out.nd rfl (.inl rfl) (pe_op op_add (pv 2) (pv 3)))
      (pss_cons (ps_set (i := 7) sc_cut_out.nd rfl (.inl rfl) (pe_callB (call_max2 rfl) (by rfl) T.no_max (by decide +kernel) (pa_cons pe_int (pa_cons (pe_op op_sub (pe_callB (call_min2 rfl) (by rfl) T.no_min (by decide +kernel) (pa_cons (pv 4) (pa_cons (pv 6) pa_nil))) (pv 2)) pa_nil))))
      (pss_cons (ps_set (i := 8) sc_cut_out.nd rfl (.inl rfl) (pe_callB (call_max2 rfl) (by rfl) T.no_max (by decide +kernel) (pa_cons pe_int (pa_cons (pe_op op_sub (pe_callB (call_min2 rfl) (by rfl) T.no_min (by decide +kernel) (pa_cons (pe_op op_add (pv 4) (pv 5)) (pa_cons (pv 6) pa_nil))) (pe_callB (call_max2 rfl) (by rfl) T.no_max (by decide +kernel) (pa_cons (pv 4) (pa_cons (pv 2) pa_nil)))) pa_nil))))
      (pss_cons (ps_if (pt_cmpR op_eq (pv 8) (pv 5) (nomark _)) (pss_one (ps_ret pe_non)) pss_nil)
      (pss_one (ps_ret (pe_callD D_with_span (hr.mono (by omega)) (by rfl) pass0 (pa_cons (pv 0) (pa_cons (pv 1) (pa_cons (pe_op op_sub (pv 4) (pv 7)) (pa_cons (pe_op op_sub (pv 5) (pv 8)) pa_nil))))))))))))), ?_⟩
    refine ⟨_, rfl, _, rfl, hl, fun g H1 s1 => ?_, fun g H1 s1 => k2 g H1 s1⟩
    have hp1 := s1 _ _ hp
    refine ⟨_, rfl, _, rfl, _, _, _, rfl, hp1, fun t ht => ?_⟩
    have s2 := same_new ht (.tup [.int (spanM b ax).1, .int (spanM b ax).2])
    refine ⟨_, _, rfl, SqT.of upd_same, rfl, _, _, rfl, _, _, rfl, rfl, ?_⟩
    refine ⟨_, rfl, _, rfl, _, _, rfl, rfl, ?_⟩
    refine ⟨_, rfl, _, rfl, _, _, rfl, _, rfl, _, _, rfl, rfl, _, _, rfl, ?_⟩
    refine ⟨_, rfl, _, rfl, _, _, rfl, rfl, _, rfl, _, _, rfl, _, rfl, _, rfl, _, _, rfl, _, _, rfl, rfl, _, _, rfl, ?_⟩
    refine ⟨_, rfl, _, rfl, rfl, _, rfl, ?_⟩
    refine ite2 (fun c => ?_) (fun c => ?_)
    · refine k1 g _ _ (s1.trans s2) ?_
      have e : withinM (spanM b ax).1 (spanM b ax).2 n m = (spanM b ax).2 := by have := of_decide_eq_true c; injection this
      unfold cutD
      rw [if_pos e]
      exact .non
    · have e : ¬ withinM (spanM b ax).1 (spanM b ax).2 n m = (spanM b ax).2 := fun z => c (decide_eq_true (congrArg V.int z))
      refine ⟨_, rfl, _, rfl, _, rfl, _, rfl, _, _, rfl, rfl, _, rfl, _, rfl, _, _, rfl, rfl, _, b, ax, _, _, rfl, s2 _ _ hp1, fun u hu => ?_⟩
      refine k1 g _ _ ((s1.trans s2).trans (same_new hu _)) ?_
      unfold cutD
      rw [if_neg e]
      exact box_dp upd_same
abbrev s_told : Stmt := top 15
theorem sc_told : FnScope ["_law_box", "_law_axis", "_law_number", "_law_many"] ["_law_box", "_law_axis", "_law_number", "_law_many"] (defScope s_told) := ⟨rfl, rfl, rfl, by decide +kernel, rfl, by decide +kernel, by decide +kernel⟩
theorem ok_told (F : Fun K "_law_told" "_law_told" s_told f fd) (T : Tx K mg cB tR tC) (D_cut_out : Dn P w K mg base (L2.CX P w) 2 "cut_out" ["box", "axis", "number", "many"] (spCut K cB)) :
    FnOk P w K mg base CX0 3 f fd ["_law_box", "_law_axis", "_law_number", "_law_many"] (spTold K) := by
  refine F.ok sc_told (fun vs H Q E h => ?_) (fun cdv A outer s H vs Q E hr h => ?_)
  · obtain ⟨p, b, ax, n, m, rfl, _⟩ := h
    rfl
  · obtain ⟨p, b, ax, n, m, rfl, hp, hl, k⟩ := h
    refine ⟨_, (pss_one (ps_try_only rfl rfl ⟨rfl, by decide, .inl T.x_BadAxis.g⟩ takes0 (fun W pn xe tk _ => (pss_one (ps_ret (pe_callSD D_cut_out (hr.mono (by omega)) (by rfl) (fun σ => passAt tk σ) (pa_cons (pv 0) (pa_cons (pv 1) (pa_cons (pv 2) (pa_cons (pv 3) pa_nil)))))))) (fun a oe cls d pn hz hf => (pss_one (ps_ret pe_str))))), ?_⟩
    refine ⟨_, rfl, _, rfl, _, rfl, _, rfl, _, b, ax, n, m, rfl, hp, hl, fun g v H1 s1 d1 => ?_, fun g H1 s1 => ⟨true, T.x_BadAxis.me, fun _ a ha => ?_, fun z => nomatch z⟩⟩
    · exact k v H1 s1 (by unfold toldD; rw [if_pos g]; exact d1)
    · exact k _ H1 s1 (by unfold toldD; rw [if_neg g]; exact .str _)
end
end K10

set_option Elab.async false
set_option linter.all false
set_option maxRecDepth 100000
set_option maxHeartbeats 4000000
namespace K10
open PySem L2 Gs
/-! ### the mathematics of cutting out -/
def stays (n m k : Int) : Bool := !(decide (n ≤ k) && decide (k < n + m))
def stayL (x n m : Int) (i : Nat) : List Int := ((List.range i).map fun (j : Nat) => x + (j : Int)).filter (stays n m)
def gone (n m k : Int) : Int := k - m * (if decide (n ≤ k) = true then 1 else 0)
theorem stayL_succ (x n m : Int) (i : Nat) : stayL x n m (i + 1) = stayL x n m i ++ (if stays n m (x + (i : Int)) = true then [x + (i : Int)] else []) := by
  unfold stayL
  rw [List.range_succ, List.map_append, List.filter_append]
  simp [List.filter_cons]
theorem stay_math {x n m : Int} (hm : 1 ≤ m) : ∀ i : Nat, ((stayL x n m i).length : Int) = (i : Int) - withinM x (i : Int) n m ∧ (stayL x n m i ≠ [] → ((stayL x n m i).map (gone n m))[0]? = some (x - aheadM x n m))
  | 0 => by
    refine ⟨?_, fun h => absurd rfl h⟩
    have e : stayL x n m 0 = [] := rfl
    rw [e]
    unfold withinM
    simp only [List.length_nil]
    (repeat' split) <;> omega
  | i + 1 => by
    obtain ⟨h1, h2⟩ := stay_math (x := x) (n := n) hm i
    rw [stayL_succ]
    by_cases hs : stays n m (x + (i : Int)) = true
    · rw [if_pos hs]
      have hs' : ¬ (n ≤ x + (i : Int) ∧ x + (i : Int) < n + m) := by
        intro z
        unfold stays at hs
        rw [decide_eq_true z.1, decide_eq_true z.2] at hs
        cases hs
      constructor
      · rw [List.length_append, List.length_singleton]
        unfold withinM at h1 ⊢
        (repeat' split at h1) <;> (repeat' split) <;> omega
      · intro _
        by_cases he : stayL x n m i = []
        · rw [he, List.nil_append]
          rw [he] at h1
          show some (gone n m (x + (i : Int))) = some (x - aheadM x n m)
          congr 1
          unfold gone aheadM
          unfold withinM at h1
          simp only [List.length_nil, decide_eq_true_eq] at h1 ⊢
          by_cases hn : n ≤ x + (i : Int)
          · rw [if_pos hn]
            (repeat' split at h1) <;> (repeat' split) <;> omega
          · rw [if_neg hn]
            (repeat' split at h1) <;> (repeat' split) <;> omega
        · have := h2 he
          rw [List.map_append, List.getElem?_append_left (by rw [List.length_map]; exact List.length_pos_iff.mpr he)]
          exact this
    · rw [if_neg hs, List.append_nil]
      have hs' : n ≤ x + (i : Int) ∧ x + (i : Int) < n + m := by
        unfold stays at hs
        by_cases a : n ≤ x + (i : Int)
        · by_cases b : x + (i : Int) < n + m
          · exact ⟨a, b⟩
          · rw [decide_eq_true a, decide_eq_false b] at hs
            exact absurd rfl hs
        · rw [decide_eq_false a] at hs
          exact absurd rfl hs
      refine ⟨?_, h2⟩
      unfold withinM at h1 ⊢
      (repeat' split at h1) <;> (repeat' split) <;> omega
theorem stayL_len (x n m : Int) (i : Nat) : (stayL x n m i).length ≤ i := by
  unfold stayL
  refine Nat.le_trans (List.length_filter_le _ _) ?_
  simp
theorem ints_lay : ∀ ns : List Int, PyData.canLayAll0 (ns.map PyData.int) = true ∧ PyData.depthAll (ns.map PyData.int) = 0
  | [] => by simp [PyData.canLayAll0, PyData.depthAll]
  | c :: r => by
    obtain ⟨h1, h2⟩ := ints_lay r
    constructor
    · simp [PyData.canLay0, PyData.canLayAll0] at h1 ⊢
      exact h1
    · simp only [List.map_cons, PyData.depthAll, PyData.depth]
      omega
theorem ints_shaped (ns : List Int) : SeqAt.shaped (.list (ns.map PyData.int)) = true := by
  obtain ⟨h1, h2⟩ := ints_lay ns
  unfold SeqAt.shaped
  rw [Bool.and_eq_true]
  refine ⟨by simp only [PyData.canLay0]; exact h1, decide_eq_true ?_⟩
  simp only [PyData.depth]
  omega
theorem ints_dp {K : PySem.W.Frag} {H : Hp} : ∀ ns : List Int, DpAll K H (ns.map V.int) (ns.map PyData.int)
  | [] => .nil
  | _ :: r => .cons (.int _) (ints_dp r)
theorem nil_shaped : SeqAt.shaped (.list []) = true := by simp [SeqAt.shaped, PyData.canLay0, PyData.canLayAll0, PyData.depth, PyData.depthAll]
theorem ints_nil (cs : List Int) : (!PyData.eqv (.list (cs.map PyData.int)) (.list [])) = decide (cs ≠ []) := by
  cases cs with
  | nil => simp [PyData.eqv, PyData.eqvAll]
  | cons c r => simp [PyData.eqv, PyData.eqvAll]
theorem axes_at {r : Int} (h0 : 0 ≤ r) (h1 : r < 6) : ∃ ax : Str, atI [V.str "row", V.str "column", V.str "row", V.str "column", V.str "", V.str "Column"] r = some (.str ax) ∧ ax.length ≤ 100 := by
  have : r = 0 ∨ r = 1 ∨ r = 2 ∨ r = 3 ∨ r = 4 ∨ r = 5 := by omega
  rcases this with rfl | rfl | rfl | rfl | rfl | rfl
  · exact ⟨_, atI_nat (j := 0) rfl, by decide⟩
  · exact ⟨_, atI_nat (j := 1) rfl, by decide⟩
  · exact ⟨_, atI_nat (j := 2) rfl, by decide⟩
  · exact ⟨_, atI_nat (j := 3) rfl, by decide⟩
  · exact ⟨_, atI_nat (j := 4) rfl, by decide⟩
  · exact ⟨_, atI_nat (j := 5) rfl, by decide⟩
theorem many_at {r : Int} (h0 : 0 ≤ r) (h1 : r < 2) : ∃ x : Int, atI [V.int 4, V.int 1000] r = some (.int x) ∧ 1 ≤ x ∧ x ≤ 1000 := by
  have : r = 0 ∨ r = 1 := by omega
  rcases this with rfl | rfl
  · exact ⟨4, atI_nat (j := 0) rfl, by decide, by decide⟩
  · exact ⟨1000, atI_nat (j := 1) rfl, by decide, by decide⟩
/-- the axis' place in a box -/
def atM (ax : Str) : Int := if ax = "column" then 1 else 0
theorem atM_eq (ax : Str) : (if decide (V.str ax = V.str "column") = true then (1 : Int) else 0) = atM ax := by
  unfold atM
  by_cases h : ax = "column"
  · rw [if_pos h, if_pos (decide_eq_true (by rw [h]))]
  · rw [if_neg h, if_neg (fun z => h (by have := of_decide_eq_true z; injection this))]
theorem rc_ne : ¬ ("row" : Str) = "column" := by decide +kernel
theorem box_at (b : Bx) (ax : Str) (g : Good ax) : atI (boxL b) (atM ax) = some (.int (spanM b ax).1) ∧ atI (boxL b) (atM ax + 2) = some (.int (spanM b ax).2) := by
  rcases g with rfl | rfl
  · rw [spanM_row rfl]
    unfold atM
    rw [if_neg rc_ne]
    exact ⟨atI_nat (j := 0) rfl, atI_nat (j := 2) rfl⟩
  · rw [spanM_col (fun z => rc_ne z.symm)]
    unfold atM
    rw [if_pos rfl]
    exact ⟨atI_nat (j := 1) rfl, atI_nat (j := 3) rfl⟩
theorem box_at0 (b : Bx) (ax : Str) : ∃ x : Int, atI (boxL b) (atM ax) = some (.int x) ∧ (x = b.r ∨ x = b.c) := by
  unfold atM
  by_cases h : ax = "column"
  · rw [if_pos h]
    exact ⟨b.c, atI_nat (j := 1) rfl, .inr rfl⟩
  · rw [if_neg h]
    exact ⟨b.r, atI_nat (j := 0) rfl, .inl rfl⟩
end K10

set_option Elab.async false
set_option linter.all false
set_option maxRecDepth 100000
set_option maxHeartbeats 4000000
namespace K10
open PySem L2 Gs
def spLaw (K : PySem.W.Frag) : Sp := fun vs H Q _ => ∃ (a : Addr) (ns : List Int), vs = [.ref a] ∧ SqL K H a (ns.map V.int) ∧ ns.length ≤ 63 ∧ ∀ H', Q (.bl true) H'
theorem told_depth (b : Bx) (ax : Str) (n m : Int) : (toldD b ax n m).depth ≤ 1 ∧ mxl (toldD b ax n m) ≤ 4 := by
  unfold toldD
  split
  · unfold cutD
    split
    · simp [PyData.depth, mxl]
    · simp [boxD, PyData.depth, PyData.depthAll, mxl, mxlAll]
  · simp [PyData.depth, mxl]
theorem take_map1 (l : List Int) (g : Int → Int) {i : Nat} {x : Int} (h : l[i]? = some x) : (l.take (i + 1)).map g = (l.take i).map g ++ [g x] := by
  rw [List.take_add_one, h, List.map_append]
  rfl
section
variable {P : Program} {w : World} {K : PySem.W.Frag} {mg : Str → Option Value} {base : Heap} {f : Addr} {fd : FuncData} {cB : Addr} {tR tC : Tok}
abbrev s_law : Stmt := top 16
theorem sc_law : FnScope ["_law_script", "_law_draw", "_law_turn", "_law_box", "_law_axis", "_law_at", "_law_number", "_law_many", "_law_due", "_law_stay", "_law_some", "_law_k"] ["_law_script"] (defScope s_law) := ⟨rfl, rfl, rfl, by decide +kernel, rfl, by decide +kernel, by decide +kernel⟩
theorem ok_law (F : Fun K "law" "law" s_law f fd) (T : Tx K mg cB tR tC) (D_begin : Dn P w K mg base CX0 1 "_law_begin" ["_law_script"] (spBegin K)) (D_pick : Dn P w K mg base CX0 1 "_law_pick" ["_law_draw", "_law_many"] spPick)
    (D_box_drawn : Dn P w K mg base CX0 2 "_law_box_drawn" ["_law_draw", "_law_far"] spBox) (D_same : Dn P w K mg base CX0 3 "_law_same" ["_law_found", "_law_due"] (spSame K 3))
    (D_told : Dn P w K mg base CX0 3 "_law_told" ["_law_box", "_law_axis", "_law_number", "_law_many"] (spTold K)) :
    FnOk P w K mg base CX0 4 f fd ["_law_script"] (spLaw K) := by
  refine F.ok sc_law (fun vs H Q E h => ?_) (fun cdv A outer s H vs Q E hr h => ?_)
  · obtain ⟨a, ns, rfl, _⟩ := h
    rfl
  · obtain ⟨scr, ns, rfl, hS, h63, k⟩ := h
    refine ⟨_, (pss_cons (ps_set (i := 1) sc_law.nd rfl (.inl rfl) (pe_callD D_begin (hr.mono (by omega)) (by rfl) pass0 (pa_cons (pv 0) pa_nil)))
      (pss_cons (ps_for PassesOwn.never rfl (pi_range1 (by rfl) T.no_range (pa_cons pe_int pa_nil)) (pg_name (i := 2) sc_law.nd rfl (.inl rfl))
        (pss_cons (ps_set (i := 3) sc_law.nd rfl (.inl rfl) (pe_callD D_box_drawn (hr.mono (by omega)) (by rfl) pass0 (pa_cons (pv 1) (pa_cons (pe_op op_pow pe_int pe_int) pa_nil))))
        (pss_cons (ps_set (i := 4) sc_law.nd rfl (.inl rfl) (pe_ix ix_tup (pe_tup (pa_cons pe_str (pa_cons pe_str (pa_cons pe_str (pa_cons pe_str (pa_cons pe_str (pa_cons pe_str pa_nil))))))) (pe_callD D_pick (hr.mono (by omega)) (by rfl) pass0 (pa_cons (pv 1) (pa_cons pe_int pa_nil))) (fun _ _ => rfl)))
        (pss_cons (ps_set (i := 5) sc_law.nd rfl (.inl rfl) (pe_callTy call_int1 (by rfl) T.no_int (by decide +kernel) (pa_cons (pe_cmpR op_eq (pv 4) pe_str (nomark _)) pa_nil)))
        (pss_cons (ps_set (i := 6) sc_law.nd rfl (.inr rfl) (pe_callB (call_max2 rfl) (by rfl) T.no_max (by decide +kernel) (pa_cons pe_int (pa_cons (pe_op op_sub (pe_op op_add (pe_ix ix_tup (pv 3) (pv 5) (fun _ _ => rfl)) (pe_callD D_pick (hr.mono (by omega)) (by rfl) pass0 (pa_cons (pv 1) (pa_cons pe_int pa_nil)))) pe_int) pa_nil))))
        (pss_cons (ps_set (i := 7) sc_law.nd rfl (.inr rfl) (pe_op op_add pe_int (pe_callD D_pick (hr.mono (by omega)) (by rfl) pass0 (pa_cons (pv 1) (pa_cons (pe_ix ix_tup (pe_tup (pa_cons pe_int (pa_cons pe_int pa_nil))) (pe_callD D_pick (hr.mono (by omega)) (by rfl) pass0 (pa_cons (pv 1) (pa_cons pe_int pa_nil))) (fun _ _ => rfl)) pa_nil)))))
        (pss_cons (ps_set (i := 8) sc_law.nd rfl (.inl rfl) pe_str)
        (C8.pss_cut (ps_if (pt_cmpR op_in_seq (pv 4) (pe_tup (pa_cons pe_str (pa_cons pe_str pa_nil))) (by rfl)) (pss_cons (ps_setLc (i := 9) (own := [("_law_k", 11)]) (g := gName 11) rfl sc_law.nd rfl rfl (sw_true rfl rfl rfl (by decide +kernel)) (pi_range2 (by rfl) T.no_range (pa_cons (pe_ix ix_tup (pv 3) (pv 5) (fun _ _ => rfl)) (pa_cons (pe_op op_add (pe_ix ix_tup (pv 3) (pv 5) (fun _ _ => rfl)) (pe_ix ix_tup (pv 3) (pe_op op_add (pv 5) pe_int) (fun _ _ => rfl))) pa_nil))) (blkOk_by (N := ["_law_script", "_law_draw", "_law_turn", "_law_box", "_law_axis", "_law_at", "_law_number", "_law_many", "_law_due", "_law_stay", "_law_some", "_law_k"]) (sc := defScope s_law) (by decide +kernel)) (fun _ _ _ _ _ => (pg_name (i := 11) sc_law.nd rfl (Or.inl rfl))) (fun _ _ _ _ _ => (pts_one (pt_not (pt_chain op_le op_lt (pv 6) (pv 11) (pe_op op_add (pv 6) (pv 7)))))) (fun _ _ _ _ _ => (pv 11)))
          (pss_cons (ps_setLc (i := 10) (own := [("_law_k", 11)]) (g := gName 11) rfl sc_law.nd rfl rfl (sw_true rfl rfl rfl (by decide +kernel)) (pi_list (pv 9)) (blkOk_by (N := ["_law_script", "_law_draw", "_law_turn", "_law_box", "_law_axis", "_law_at", "_law_number", "_law_many", "_law_due", "_law_stay", "_law_some", "_law_k"]) (sc := defScope s_law) (by decide +kernel)) (fun _ _ _ _ _ => (pg_name (i := 11) sc_law.nd rfl (Or.inl rfl))) (fun _ _ _ _ _ => pts_nil) (fun _ _ _ _ _ => (pe_op op_sub (pv 11) (pe_op op_mul (pv 7) (pe_callTy call_int1 (by rfl) T.no_int (by decide +kernel) (pa_cons (pe_cmpR op_ge (pv 11) (pv 6) (nomark _)) pa_nil))))))
          (pss_cons (ps_set (i := 8) sc_law.nd rfl (.inl rfl) pe_non)
          (pss_one (ps_if (pt_cmpR (op_neD hr.units) (pv 10) (pe_lst pa_nil) (nomark _)) (pss_cons (ps_set (i := 8) sc_law.nd rfl (.inl rfl) (pe_tup (pa_cons (pe_ix ix_list (pv 10) pe_int (fun _ _ => rfl)) (pa_cons (pe_ix ix_tup (pv 3) pe_int (fun _ _ => rfl)) (pa_cons (pe_callB call_len_seq (by rfl) T.no_len (by decide +kernel) (pa_cons (pv 10) pa_nil)) (pa_cons (pe_ix ix_tup (pv 3) pe_int (fun _ _ => rfl)) pa_nil))))))
            (pss_one (ps_if (pt_cmpR op_eq (pv 5) pe_int (nomark _)) (pss_one (ps_set (i := 8) sc_law.nd rfl (.inl rfl) (pe_tup (pa_cons (pe_ix ix_tup (pv 3) pe_int (fun _ _ => rfl)) (pa_cons (pe_ix ix_list (pv 10) pe_int (fun _ _ => rfl)) (pa_cons (pe_ix ix_tup (pv 3) pe_int (fun _ _ => rfl)) (pa_cons (pe_callB call_len_seq (by rfl) T.no_len (by decide +kernel) (pa_cons (pv 10) pa_nil)) pa_nil))))))) pss_nil))) pss_nil))))) pss_nil)
        (pss_one (ps_if (pt_not (pt_val (pe_callD D_same (hr.mono (by omega)) (by rfl) pass0 (pa_cons (pe_callD D_told (hr.mono (by omega)) (by rfl) pass0 (pa_cons (pv 3) (pa_cons (pv 4) (pa_cons (pv 6) (pa_cons (pv 7) pa_nil))))) (pa_cons (pv 8) pa_nil))))) (pss_one (ps_ret pe_bl)) pss_nil))))))))))
      (pss_one (ps_ret pe_bl)))), ?_⟩
    refine ⟨_, rfl, _, _, rfl, hS, fun a H1 na D1 s1 => ?_⟩
    refine ⟨_, rfl, by decide, by decide, ?_⟩
    refine for_range (lo := 0) (n := Int.toNat 6) (fun i σ H' => DrawAt H' a ∧ ∃ x2 x3 x4 x5 x6 x7 x8 x9 x10, σ = [some (.ref scr), some (.ref a), x2, x3, x4, x5, x6, x7, x8, x9, x10, none]) ⟨D1, _, _, _, _, _, _, _, _, _, rfl⟩ ?_ (fun σ H' _ => k H')
    rintro i σ H2 hi ⟨D2, x2, x3, x4, x5, x6, x7, x8, x9, x10, rfl⟩
    -- the box, the axis
    refine ⟨_, rfl, _, _, rfl, rfl, ⟨by decide, by decide, by decide⟩, _, _, rfl, D2, by decide, by decide, fun tb b H3 r0 r1 c0 c1 h0 h1 w0 w1 X3 eb => ?_⟩
    have r1' : b.r < 1000000 := r1
    refine ⟨(by show 6 ≤ sizeLine; decide), fun t2 n2 => ?_⟩
    have s3 := same_new n2 (.tup [.str "row", .str "column", .str "row", .str "column", .str "", .str "Column"])
    refine ⟨_, rfl, _, _, rfl, X3.1.same s3, by decide, by decide, fun r4 H4 p40 p41 D4 q4 => ?_⟩
    have X4 := (Ext.of X3.1 s3).trans (Ext.pick D4 q4)
    have eb4 := X4.tup X3.1 eb
    have et4 := (Ext.pick D4 q4).tup (X3.1.same s3) upd_same
    obtain ⟨ax, eax, hax⟩ := axes_at p40 p41
    refine ⟨_, _, _, _, rfl, rfl, SqT.of et4, eax, ?_⟩
    refine ⟨_, rfl, rfl, .inr ⟨_, rfl, ?_⟩⟩
    rw [atM_eq]
    -- the number
    obtain ⟨x, ex, hx⟩ := box_at0 b ax
    refine ⟨_, rfl, _, rfl, _, _, _, _, rfl, rfl, SqT.of eb4, ex, _, rfl, _, _, rfl, D4, by decide, by decide, fun r5 H5 p50 p51 D5 q5 => ?_⟩
    have eb5 := (Ext.pick D5 q5).tup D4 eb4
    refine ⟨_, _, rfl, rfl, _, _, rfl, rfl, _, _, rfl, ?_⟩
    obtain ⟨n, en⟩ : ∃ n : Int, n = (if x + r5 - 3 > 0 then x + r5 - 3 else 0) := ⟨_, rfl⟩
    rw [← en]
    have n0 : 0 ≤ n := by rw [en]; split <;> omega
    have n1 : n ≤ 1000100 := by rw [en]; split <;> omega
    -- how many
    refine ⟨_, rfl, (by show 2 ≤ sizeLine; decide), fun t6 n6 => ?_⟩
    have s6 := same_new n6 (.tup [.int 4, .int 1000])
    refine ⟨_, rfl, _, _, rfl, D5.same s6, by decide, by decide, fun r6 H6 p60 p61 D6 q6 => ?_⟩
    have X6 := (Ext.of D5 s6).trans (Ext.pick D6 q6)
    have eb6 := X6.tup D5 eb5
    have et6 := (Ext.pick D6 q6).tup (D5.same s6) upd_same
    obtain ⟨mm, emm, mm1, mm2⟩ := many_at p60 p61
    refine ⟨_, _, _, _, rfl, rfl, SqT.of et6, emm, _, _, rfl, D6, mm1, by omega, fun r7 H7 p70 p71 D7 q7 => ?_⟩
    have eb7 := (Ext.pick D7 q7).tup D6 eb6
    refine ⟨_, _, rfl, rfl, ?_⟩
    obtain ⟨m, em⟩ : ∃ m : Int, m = 1 + r7 := ⟨_, rfl⟩
    show gName 7 (V.int (1 + r7)) _ _ _
    rw [← em]
    have m1 : 1 ≤ m := by omega
    have m2 : m ≤ 1001 := by omega
    clear X3 X4 X6 s3 s6 D2 D4 D5 D6 q4 q5 q6 q7 eb eb4 eb5 eb6 et4 et6 n2 n6
    -- what is due
    refine ⟨fun σ H' => Same H7 H' ∧ ∃ v y9 y10, σ = [some (.ref scr), some (.ref a), some (.int (0 + (i : Int))), some (.ref tb), some (.str ax), some (.int (atM ax)), some (.int n), some (.int m), some v, y9, y10, none] ∧ Dp K H' v (toldD b ax n m), ?_, ?_⟩
    · refine ⟨_, rfl, (by show 2 ≤ sizeLine; decide), fun t8 n8 => ⟨_, _, rfl, .inr (SqT.of upd_same), rfl, rfl, _, rfl, ?_⟩⟩
      have s8 := same_new n8 (.tup [.str "row", .str "column"])
      have eb8 := s8 _ _ eb7
      refine ite2 (fun c => ?_) (fun c => ?_)
      · have g : Good ax := by
          have c' : inV (.str ax) [.str "row", .str "column"] = true := c
          rw [inV_ax] at c'
          exact of_decide_eq_true c'
        obtain ⟨e1, e2⟩ := box_at b ax g
        have hsp : (spanM b ax).1 = b.r ∧ (spanM b ax).2 = b.h ∨ (spanM b ax).1 = b.c ∧ (spanM b ax).2 = b.w := by
          unfold spanM
          split
          · exact .inl ⟨rfl, rfl⟩
          · exact .inr ⟨rfl, rfl⟩
        obtain ⟨fx, ef⟩ : ∃ z, z = (spanM b ax).1 := ⟨_, rfl⟩
        obtain ⟨ln, el⟩ : ∃ z, z = (spanM b ax).2 := ⟨_, rfl⟩
        rw [← ef] at e1
        rw [← el] at e2
        have f0 : 0 ≤ fx := by rcases hsp with ⟨a1, a2⟩ | ⟨a1, a2⟩ <;> omega
        have f1 : fx < 1000000 := by rcases hsp with ⟨a1, a2⟩ | ⟨a1, a2⟩ <;> omega
        have l0 : 1 ≤ ln := by rcases hsp with ⟨a1, a2⟩ | ⟨a1, a2⟩ <;> omega
        have l5 : ln ≤ 5 := by rcases hsp with ⟨a1, a2⟩ | ⟨a1, a2⟩ <;> omega
        -- stay
        refine ⟨_, rfl, _, rfl, _, _, _, _, rfl, rfl, SqT.of eb8, e1, _, rfl, _, rfl, _, _, _, _, rfl, rfl, SqT.of eb8, e1, _, rfl, _, rfl, _, _, rfl, rfl, _, _, _, _, rfl, rfl, SqT.of eb8, e2, _, _, rfl, rfl, _, _, rfl, ⟨by omega, by omega, by omega, by omega⟩, fun D hD => ?_⟩
        generalize upd H7 t8 (HO.tup [V.str "row", V.str "column"]) = H8 at s8 eb8 hD ⊢
        refine lc_range (lo := fx) (n := (fx + ln - fx).toNat) (fun j H9 => Same H8 H9 ∧ H9 D = some (.lst ((stayL fx n m j).map V.int))) ⟨same_new hD _, upd_same⟩ ?_ ?_
        · rintro j H9 hj ⟨s9, e9⟩
          have ll := stayL_len fx n m j
          refine ⟨rfl, ?_⟩
          have goYes : ∀ (q : stays n m (fx + (j : Int)) = true), ∃ acc, H9 D = some (.lst acc) ∧ acc.length < sizeLine ∧ (Same H8 (upd H9 D (.lst (acc ++ [.int (fx + (j : Int))]))) ∧ upd H9 D (.lst (acc ++ [.int (fx + (j : Int))])) D = some (.lst ((stayL fx n m (j + 1)).map V.int))) := fun q => by
            refine ⟨_, e9, Nat.lt_of_le_of_lt (by rw [List.length_map]; omega) (show 5 < sizeLine by decide), ?_, ?_⟩
            · intro b' o z
              rw [upd_ne (ne_of_none z hD)]
              exact s9 _ _ z
            · rw [upd_same, stayL_succ, if_pos q, List.map_append]
              rfl
          refine ⟨_, rfl, _, rfl, _, _, rfl, rfl, _, rfl, ?_⟩
          refine ite2 (fun q => ?_) (fun q => ?_)
          · refine ⟨_, rfl, _, rfl, _, _, rfl, rfl, _, _, rfl, rfl, _, rfl, ?_⟩
            refine ite2 (fun q2 => ?_) (fun q2 => ?_)
            · refine ⟨_, rfl, goYes ?_⟩
              unfold stays
              rw [q]
              simpa using q2
            · refine ⟨s9, ?_⟩
              rw [stayL_succ, if_neg, List.append_nil]
              · exact e9
              · unfold stays
                rw [q]
                simpa using q2
          · refine ⟨_, rfl, ?_⟩
            refine ifT rfl ?_
            refine ⟨_, rfl, goYes ?_⟩
            unfold stays
            rw [Bool.eq_false_iff.mpr q]
            rfl
        rintro H9 ⟨s9, e9⟩
        rw [show (fx + ln - fx).toNat = ln.toNat by omega] at e9
        obtain ⟨q1, q2⟩ := stay_math (x := fx) (n := n) m1 ln.toNat
        rw [show ((ln.toNat : Nat) : Int) = ln by omega] at q1
        have ll := stayL_len fx n m ln.toNat
        generalize stayL fx n m ln.toNat = L at e9 q1 q2 ll
        have eb9 := s9 _ _ eb8
        -- some
        refine ⟨_, rfl, _, rfl, ⟨_, SqL.of e9⟩, fun D2 hD2 => ?_⟩
        refine lc_list (K := K) (a := D) (xs := L.map V.int) (fun j H10 => Same H9 H10 ∧ H10 D2 = some (.lst (((L.take j).map (gone n m)).map V.int))) ⟨same_new hD2 _, upd_same⟩ (fun j H10 _ p => SqL.of (p.1 _ _ e9)) ?_ ?_
        · rintro j y H10 hy ⟨s10, e10⟩
          rw [List.getElem?_map] at hy
          cases hj : L[j]? with
          | none => rw [hj] at hy; cases hy
          | some kk =>
            rw [hj] at hy
            have hy' : V.int kk = y := Option.some.inj hy
            subst hy'
            refine ⟨rfl, ?_⟩
            unfold tYes
            refine ifT rfl ?_
            refine ⟨_, rfl, _, rfl, _, rfl, _, rfl, _, _, rfl, rfl, .inr ⟨_, rfl, _, _, rfl, rfl, .inl ⟨by omega, by omega⟩, _, _, rfl, rfl, _, e10, Nat.lt_of_le_of_lt (by rw [List.length_map, List.length_map, List.length_take]; omega) (show 5 < sizeLine by decide), ?_, ?_⟩⟩
            · intro b' o z
              rw [upd_ne (ne_of_none z hD2)]
              exact s10 _ _ z
            · rw [upd_same, take_map1 _ _ hj, List.map_append]
              rfl
        rintro H10 ⟨s10, e10⟩
        rw [List.length_map, List.take_length] at e10
        have eb10 := s10 _ _ eb9
        refine ⟨_, rfl, (by show 0 ≤ sizeLine; decide), fun p11 n11 => ?_⟩
        have s11 := same_new n11 (.lst [])
        have e11 := s11 _ _ e10
        have eb11 := s11 _ _ eb10
        refine ⟨_, _, .lst (SqL.of e11) (ints_dp _), .lst (SqL.of upd_same) .nil, ints_shaped _, nil_shaped, _, rfl, ?_⟩
        rw [ints_nil]
        have sAll := s8.trans (s9.trans (s10.trans s11))
        have lenm : ((L.map (gone n m)).map V.int).length = L.length := by simp
        refine ite2 (fun c2 => ?_) (fun c2 => ?_)
        · have ne : L ≠ [] := by
            intro z
            rw [z] at c2
            exact (of_decide_eq_true c2) rfl
          have at0 : atI ((L.map (gone n m)).map V.int) 0 = some (.int (fx - aheadM fx n m)) := atI_nat (j := 0) (by rw [List.getElem?_map, q2 ne]; rfl)
          have lp : 0 < L.length := List.length_pos_iff.mpr ne
          have wne : ¬ withinM (spanM b ax).1 (spanM b ax).2 n m = (spanM b ax).2 := by rw [← ef, ← el]; omega
          have dd : toldD b ax n m = boxD (withM b ax (fx - aheadM fx n m) (L.length : Int)) := by
            unfold toldD cutD
            rw [if_pos g, if_neg wne, ← ef, ← el, q1]
          refine ⟨_, rfl, _, _, _, _, rfl, rfl, SqL.of e11, at0, _, rfl, _, _, _, _, rfl, rfl, SqT.of eb11, atI_nat (j := 1) rfl, _, rfl, _, _, rfl, .inl (SqL.of e11), _, rfl, _, _, _, _, rfl, rfl, SqT.of eb11, atI_nat (j := 3) rfl, (by show 4 ≤ sizeLine; decide), fun t12 n12 => ?_⟩
          rw [lenm]
          have s12 := same_new n12 (.tup [.int (fx - aheadM fx n m), .int b.c, .int (L.length : Int), .int b.w])
          refine ⟨_, rfl, rfl, _, rfl, ?_⟩
          refine ite2 (fun c3 => ?_) (fun c3 => ?_)
          · have e12 := s12 _ _ e11
            have eb12 := s12 _ _ eb11
            refine ⟨_, rfl, _, _, _, _, rfl, rfl, SqT.of eb12, atI_nat (j := 0) rfl, _, rfl, _, _, _, _, rfl, rfl, SqL.of e12, at0, _, rfl, _, _, _, _, rfl, rfl, SqT.of eb12, atI_nat (j := 2) rfl, _, rfl, _, _, rfl, .inl (SqL.of e12), (by show 4 ≤ sizeLine; decide), fun t13 n13 => ?_⟩
            refine ⟨sAll.trans (s12.trans (same_new n13 _)), _, _, _, rfl, ?_⟩
            have col : ¬ ax = "row" := by
              intro z
              have := of_decide_eq_true c3
              rw [z] at this
              unfold atM at this
              rw [if_neg rc_ne] at this
              injection this with this
              cases this
            rw [dd, withM_col col, lenm]
            exact box_dp upd_same
          · refine ⟨sAll.trans s12, _, _, _, rfl, ?_⟩
            have row : ax = "row" := by
              rcases g with z | z
              · exact z
              · exfalso
                refine c3 (decide_eq_true ?_)
                unfold atM
                rw [if_pos z]
            rw [dd, withM_row row]
            exact box_dp upd_same
        · have ee : L = [] := by
            by_cases z : L = []
            · exact z
            · exfalso
              refine c2 (decide_eq_true ?_)
              intro y
              exact z (List.map_eq_nil_iff.mp y)
          refine ⟨sAll, _, _, _, rfl, ?_⟩
          have w0 : withinM (spanM b ax).1 (spanM b ax).2 n m = (spanM b ax).2 := by
            rw [← ef, ← el]
            rw [ee] at q1
            simp only [List.length_nil] at q1
            omega
          unfold toldD cutD
          rw [if_pos g, if_pos w0]
          exact .non
      · have g : ¬ Good ax := by
          intro z
          refine c ?_
          show inV (.str ax) [.str "row", .str "column"] = true
          rw [inV_ax]
          exact decide_eq_true z
        refine ⟨s8, _, _, _, rfl, ?_⟩
        unfold toldD
        rw [if_neg g]
        exact .str _
    rintro σ H8 ⟨s8, v, y9, y10, rfl, dv⟩
    obtain ⟨dd1, dd2⟩ := told_depth b ax n m
    refine ⟨_, rfl, _, rfl, _, rfl, _, rfl, _, b, ax, n, m, rfl, s8 _ _ eb7, hax, fun v2 H9 s9 d9 => ?_⟩
    refine ⟨_, rfl, _, _, _, rfl, d9, dp_same s9 _ _ dv, by omega, by omega, fun H10 s10 => ⟨_, rfl, ?_⟩⟩
    refine ifF (by simp) ?_
    exact ⟨D7.same (s8.trans (s9.trans s10)), _, _, _, _, _, _, _, _, _, rfl⟩
end
end K10

set_option Elab.async false
set_option linter.all false
set_option maxRecDepth 100000
set_option maxHeartbeats 4000000
namespace K10
open PySem L2 Gs
theorem all_mk {l : PySem.W.OpenLaw} {w : World} {K : PySem.W.Frag} {h : Heap} {mg : Str → Option Value} {fa : Addr} {cB : Addr} {tR tC : Tok} (X : K.In h) (G : h.Ns mainGlobals mg) (hfa : mg "law" = some (.ref fa))
    {f_check_axis : Addr} {od_check_axis an_check_axis : Option Addr} {sl_check_axis : Array (Option Value)} {oc_check_axis kV_check_axis dc_check_axis pm_check_axis cd_check_axis ct_check_axis : Value}
    (a_check_axis : PySem.W.nsIn K mainGlobals "check_axis" = some (some (.ref f_check_axis)))
    (l_check_axis : K.lookup f_check_axis = some ⟨oc_check_axis, od_check_axis, .func (PySem.W.fnOf "check_axis" "check_axis" (defArgs s_check_axis) (defBody s_check_axis) (defScope s_check_axis) .none kV_check_axis dc_check_axis pm_check_axis an_check_axis cd_check_axis ct_check_axis), sl_check_axis⟩)
    (c_check_axis : PySem.W.codeIn K cd_check_axis "check_axis" = true) (k_check_axis : PySem.W.keepIn K (.ref f_check_axis) = true)
    {f_span : Addr} {od_span an_span : Option Addr} {sl_span : Array (Option Value)} {oc_span kV_span dc_span pm_span cd_span ct_span : Value}
    (a_span : PySem.W.nsIn K mainGlobals "span" = some (some (.ref f_span)))
    (l_span : K.lookup f_span = some ⟨oc_span, od_span, .func (PySem.W.fnOf "span" "span" (defArgs s_span) (defBody s_span) (defScope s_span) .none kV_span dc_span pm_span an_span cd_span ct_span), sl_span⟩)
    (c_span : PySem.W.codeIn K cd_span "span" = true) (k_span : PySem.W.keepIn K (.ref f_span) = true)
    {f_with_span : Addr} {od_with_span an_with_span : Option Addr} {sl_with_span : Array (Option Value)} {oc_with_span kV_with_span dc_with_span pm_with_span cd_with_span ct_with_span : Value}
    (a_with_span : PySem.W.nsIn K mainGlobals "with_span" = some (some (.ref f_with_span)))
    (l_with_span : K.lookup f_with_span = some ⟨oc_with_span, od_with_span, .func (PySem.W.fnOf "with_span" "with_span" (defArgs s_with_span) (defBody s_with_span) (defScope s_with_span) .none kV_with_span dc_with_span pm_with_span an_with_span cd_with_span ct_with_span), sl_with_span⟩)
    (c_with_span : PySem.W.codeIn K cd_with_span "with_span" = true) (k_with_span : PySem.W.keepIn K (.ref f_with_span) = true)
    {f_cut_out : Addr} {od_cut_out an_cut_out : Option Addr} {sl_cut_out : Array (Option Value)} {oc_cut_out kV_cut_out dc_cut_out pm_cut_out cd_cut_out ct_cut_out : Value}
    (a_cut_out : PySem.W.nsIn K mainGlobals "cut_out" = some (some (.ref f_cut_out)))
    (l_cut_out : K.lookup f_cut_out = some ⟨oc_cut_out, od_cut_out, .func (PySem.W.fnOf "cut_out" "cut_out" (defArgs s_cut_out) (defBody s_cut_out) (defScope s_cut_out) .none kV_cut_out dc_cut_out pm_cut_out an_cut_out cd_cut_out ct_cut_out), sl_cut_out⟩)
    (c_cut_out : PySem.W.codeIn K cd_cut_out "cut_out" = true) (k_cut_out : PySem.W.keepIn K (.ref f_cut_out) = true)
    {f_begin : Addr} {od_begin an_begin : Option Addr} {sl_begin : Array (Option Value)} {oc_begin kV_begin dc_begin pm_begin cd_begin ct_begin : Value}
    (a_begin : PySem.W.nsIn K mainGlobals "_law_begin" = some (some (.ref f_begin)))
    (l_begin : K.lookup f_begin = some ⟨oc_begin, od_begin, .func (PySem.W.fnOf "_law_begin" "_law_begin" (defArgs s_begin) (defBody s_begin) (defScope s_begin) .none kV_begin dc_begin pm_begin an_begin cd_begin ct_begin), sl_begin⟩)
    (c_begin : PySem.W.codeIn K cd_begin "_law_begin" = true) (k_begin : PySem.W.keepIn K (.ref f_begin) = true)
    {f_pick : Addr} {od_pick an_pick : Option Addr} {sl_pick : Array (Option Value)} {oc_pick kV_pick dc_pick pm_pick cd_pick ct_pick : Value}
    (a_pick : PySem.W.nsIn K mainGlobals "_law_pick" = some (some (.ref f_pick)))
    (l_pick : K.lookup f_pick = some ⟨oc_pick, od_pick, .func (PySem.W.fnOf "_law_pick" "_law_pick" (defArgs s_pick) (defBody s_pick) (defScope s_pick) .none kV_pick dc_pick pm_pick an_pick cd_pick ct_pick), sl_pick⟩)
    (c_pick : PySem.W.codeIn K cd_pick "_law_pick" = true) (k_pick : PySem.W.keepIn K (.ref f_pick) = true)
    {f_box_drawn : Addr} {od_box_drawn an_box_drawn : Option Addr} {sl_box_drawn : Array (Option Value)} {oc_box_drawn kV_box_drawn dc_box_drawn pm_box_drawn cd_box_drawn ct_box_drawn : Value}
    (a_box_drawn : PySem.W.nsIn K mainGlobals "_law_box_drawn" = some (some (.ref f_box_drawn)))
    (l_box_drawn : K.lookup f_box_drawn = some ⟨oc_box_drawn, od_box_drawn, .func (PySem.W.fnOf "_law_box_drawn" "_law_box_drawn" (defArgs s_box_drawn) (defBody s_box_drawn) (defScope s_box_drawn) .none kV_box_drawn dc_box_drawn pm_box_drawn an_box_drawn cd_box_drawn ct_box_drawn), sl_box_drawn⟩)
    (c_box_drawn : PySem.W.codeIn K cd_box_drawn "_law_box_drawn" = true) (k_box_drawn : PySem.W.keepIn K (.ref f_box_drawn) = true)
    {f_same : Addr} {od_same an_same : Option Addr} {sl_same : Array (Option Value)} {oc_same kV_same dc_same pm_same cd_same ct_same : Value}
    (a_same : PySem.W.nsIn K mainGlobals "_law_same" = some (some (.ref f_same)))
    (l_same : K.lookup f_same = some ⟨oc_same, od_same, .func (PySem.W.fnOf "_law_same" "_law_same" (defArgs s_same) (defBody s_same) (defScope s_same) .none kV_same dc_same pm_same an_same cd_same ct_same), sl_same⟩)
    (c_same : PySem.W.codeIn K cd_same "_law_same" = true) (k_same : PySem.W.keepIn K (.ref f_same) = true)
    {f_told : Addr} {od_told an_told : Option Addr} {sl_told : Array (Option Value)} {oc_told kV_told dc_told pm_told cd_told ct_told : Value}
    (a_told : PySem.W.nsIn K mainGlobals "_law_told" = some (some (.ref f_told)))
    (l_told : K.lookup f_told = some ⟨oc_told, od_told, .func (PySem.W.fnOf "_law_told" "_law_told" (defArgs s_told) (defBody s_told) (defScope s_told) .none kV_told dc_told pm_told an_told cd_told ct_told), sl_told⟩)
    (c_told : PySem.W.codeIn K cd_told "_law_told" = true) (k_told : PySem.W.keepIn K (.ref f_told) = true)
    {f_law : Addr} {od_law an_law : Option Addr} {sl_law : Array (Option Value)} {oc_law kV_law dc_law pm_law cd_law ct_law : Value}
    (a_law : PySem.W.nsIn K mainGlobals "law" = some (some (.ref f_law)))
    (l_law : K.lookup f_law = some ⟨oc_law, od_law, .func (PySem.W.fnOf "law" "law" (defArgs s_law) (defBody s_law) (defScope s_law) .none kV_law dc_law pm_law an_law cd_law ct_law), sl_law⟩)
    (c_law : PySem.W.codeIn K cd_law "law" = true) (k_law : PySem.W.keepIn K (.ref f_law) = true)
    (z_max : PySem.W.nsIn K mainGlobals "max" = some none)
    (z_min : PySem.W.nsIn K mainGlobals "min" = some none)
    (z_len : PySem.W.nsIn K mainGlobals "len" = some none)
    (z_list : PySem.W.nsIn K mainGlobals "list" = some none)
    (z_isinstance : PySem.W.nsIn K mainGlobals "isinstance" = some none)
    (z_bool : PySem.W.nsIn K mainGlobals "bool" = some none)
    (z_int : PySem.W.nsIn K mainGlobals "int" = some none)
    (z_str : PySem.W.nsIn K mainGlobals "str" = some none)
    (z_tuple : PySem.W.nsIn K mainGlobals "tuple" = some none)
    (z_range : PySem.W.nsIn K mainGlobals "range" = some none)
    (z_all : PySem.W.nsIn K mainGlobals "all" = some none)
    (g_ROW : PySem.W.nsIn K mainGlobals "ROW" = some (some (.str "row" tR)))
    (g_COLUMN : PySem.W.nsIn K mainGlobals "COLUMN" = some (some (.str "column" tC)))
    (e_BadAxis : PySem.W.nsIn K mainGlobals "BadAxis" = some (some (.ref cB)))
    (ex_BadAxis : PySem.W.excIn K cB veL "ValueError.__new__" = true)
    (ek_BadAxis : PySem.W.keepIn K (.ref cB) = true)
    (eb_BadAxis : PySem.W.subIn K (.ref cB) (.type "BaseException") = some true)
    (et_BadAxis : PySem.W.typeIn K (.ref cB) = some (.type "type"))
    (ec_BadAxis : PySem.W.isClsIn K cB = true)
    (es_BadAxis : PySem.W.subIn K (.ref cB) (.ref cB) = some true)
    : ∃ fd : FuncData, (∀ (s : Shared) (v : Value), BindsTo s fd ⟨[v], []⟩ [("_law_script", v)]) ∧ ∀ base : Heap, K.In base → base.Ns mainGlobals mg → FnOk l.prog w K mg base CX0 4 fa fd ["_law_script"] (spLaw K) := by
  have e := hfa.symm.trans (PySem.W.mg_of X G a_law)
  cases e
  have T : Tx K mg cB tR tC := ⟨PySem.W.mg_none_of X G z_max, PySem.W.mg_none_of X G z_min, PySem.W.mg_none_of X G z_len, PySem.W.mg_none_of X G z_list, PySem.W.mg_none_of X G z_isinstance, PySem.W.mg_none_of X G z_bool, PySem.W.mg_none_of X G z_int, PySem.W.mg_none_of X G z_str, PySem.W.mg_none_of X G z_tuple, PySem.W.mg_none_of X G z_range, PySem.W.mg_none_of X G z_all, PySem.W.mg_of X G g_ROW, PySem.W.mg_of X G g_COLUMN, ⟨PySem.W.mg_of X G e_BadAxis, ex_BadAxis, ek_BadAxis, eb_BadAxis, et_BadAxis, ec_BadAxis, es_BadAxis⟩⟩
  have F_check_axis := fun_mk (st := s_check_axis) l_check_axis c_check_axis k_check_axis
  have b_check_axis := F_check_axis.binds (ps := ["axis"]) fun _ _ _ _ _ _ us hl => match us, hl with | [_], _ => rfl
  have m_check_axis := PySem.W.mg_of X G a_check_axis
  have F_span := fun_mk (st := s_span) l_span c_span k_span
  have b_span := F_span.binds (ps := ["box", "axis"]) fun _ _ _ _ _ _ us hl => match us, hl with | [_, _], _ => rfl
  have m_span := PySem.W.mg_of X G a_span
  have F_with_span := fun_mk (st := s_with_span) l_with_span c_with_span k_with_span
  have b_with_span := F_with_span.binds (ps := ["box", "axis", "first", "many"]) fun _ _ _ _ _ _ us hl => match us, hl with | [_, _, _, _], _ => rfl
  have m_with_span := PySem.W.mg_of X G a_with_span
  have F_cut_out := fun_mk (st := s_cut_out) l_cut_out c_cut_out k_cut_out
  have b_cut_out := F_cut_out.binds (ps := ["box", "axis", "number", "many"]) fun _ _ _ _ _ _ us hl => match us, hl with | [_, _, _, _], _ => rfl
  have m_cut_out := PySem.W.mg_of X G a_cut_out
  have F_begin := fun_mk (st := s_begin) l_begin c_begin k_begin
  have b_begin := F_begin.binds (ps := ["_law_script"]) fun _ _ _ _ _ _ us hl => match us, hl with | [_], _ => rfl
  have m_begin := PySem.W.mg_of X G a_begin
  have F_pick := fun_mk (st := s_pick) l_pick c_pick k_pick
  have b_pick := F_pick.binds (ps := ["_law_draw", "_law_many"]) fun _ _ _ _ _ _ us hl => match us, hl with | [_, _], _ => rfl
  have m_pick := PySem.W.mg_of X G a_pick
  have F_box_drawn := fun_mk (st := s_box_drawn) l_box_drawn c_box_drawn k_box_drawn
  have b_box_drawn := F_box_drawn.binds (ps := ["_law_draw", "_law_far"]) fun _ _ _ _ _ _ us hl => match us, hl with | [_, _], _ => rfl
  have m_box_drawn := PySem.W.mg_of X G a_box_drawn
  have F_same := fun_mk (st := s_same) l_same c_same k_same
  have b_same := F_same.binds (ps := ["_law_found", "_law_due"]) fun _ _ _ _ _ _ us hl => match us, hl with | [_, _], _ => rfl
  have m_same := PySem.W.mg_of X G a_same
  have F_told := fun_mk (st := s_told) l_told c_told k_told
  have b_told := F_told.binds (ps := ["_law_box", "_law_axis", "_law_number", "_law_many"]) fun _ _ _ _ _ _ us hl => match us, hl with | [_, _, _, _], _ => rfl
  have m_told := PySem.W.mg_of X G a_told
  have F_law := fun_mk (st := s_law) l_law c_law k_law
  refine ⟨PySem.W.fnOf "law" "law" (defArgs s_law) (defBody s_law) (defScope s_law) .none kV_law dc_law pm_law an_law cd_law ct_law, fun s v => .of_eq rfl, fun base _ _ => ?_⟩
  have D_begin : Dn l.prog w K mg base CX0 1 "_law_begin" ["_law_script"] (spBegin K) := ⟨_, _, ok_begin F_begin T, m_begin, k_begin, b_begin⟩
  have D_pick : Dn l.prog w K mg base CX0 1 "_law_pick" ["_law_draw", "_law_many"] spPick := ⟨_, _, ok_pick F_pick T, m_pick, k_pick, b_pick⟩
  have D_box : Dn l.prog w K mg base CX0 2 "_law_box_drawn" ["_law_draw", "_law_far"] spBox := ⟨_, _, ok_box_drawn F_box_drawn D_pick, m_box_drawn, k_box_drawn, b_box_drawn⟩
  have D_check : Dn l.prog w K mg base (L2.CX l.prog w) 1 "check_axis" ["axis"] (spCheck cB) := ⟨_, _, ok_check F_check_axis T, m_check_axis, k_check_axis, b_check_axis⟩
  have D_span : Dn l.prog w K mg base CX0 1 "span" ["box", "axis"] spSpan := ⟨_, _, ok_span F_span T, m_span, k_span, b_span⟩
  have D_with : Dn l.prog w K mg base CX0 1 "with_span" ["box", "axis", "first", "many"] spWith := ⟨_, _, ok_with F_with_span T, m_with_span, k_with_span, b_with_span⟩
  have D_mid : Dn l.prog w K mg base (L2.CX l.prog w) 2 "cut_out" ["box", "axis", "number", "many"] (spCut K cB) := ⟨_, _, ok_cut F_cut_out T D_check D_span D_with, m_cut_out, k_cut_out, b_cut_out⟩
  have D_told : Dn l.prog w K mg base CX0 3 "_law_told" ["_law_box", "_law_axis", "_law_number", "_law_many"] (spTold K) := ⟨_, _, ok_told F_told T D_mid, m_told, k_told, b_told⟩
  have D_same := same_all (P := l.prog) (w := w) (base := base) F_same T b_same m_same k_same 3
  exact ok_law F_law T D_begin D_pick D_box D_same D_told
theorem walk {l : PySem.W.OpenLaw} {q : Program} {loose : List Str} {XP : (Str → Option Value) → Heap → Prop} {YP : World → Heap → Prop} {d : DefRec} {K : Params → PySem.W.Frag} (hn : l.most = some 63) (hdf : d.params.defaults = [])
    (hY : ∀ (w : World) (h : Heap), YP w h → (K w.params).In h)
    (F : ∀ (w : World) (mg : Str → Option Value) (fa : Addr) (h : Heap), (K w.params).In h → h.Ns mainGlobals mg → mg d.name = some (.ref fa) →
      ∃ fd : FuncData, (∀ (s : Shared) (u : Value), BindsTo s fd ⟨[u], []⟩ [("_law_script", u)]) ∧ ∀ base : Heap, (K w.params).In base → base.Ns mainGlobals mg → FnOk l.prog w (K w.params) mg base CX0 4 fa fd ["_law_script"] (spLaw (K w.params))) :
    PySem.W.WalkO q loose XP YP l.row.toRowW d [] (fun f vs => PySem.call f vs) :=
  L2.walk_of (n := 63) (k := 4) (x := "_law_script") (CX := fun _ => CX0) (sp := fun w => spLaw (K w.params)) hn (by decide) hdf ⟨rfl, by decide, by decide⟩ hY F (fun _ _ a ns hl _ hS => ⟨a, ns, rfl, hS, hl, fun _ => rfl⟩) fun _ _ _ _ _ z => z
end K10
open PySem PySem.W PyProof.Rows
set_option maxRecDepth 100000 in
set_option maxHeartbeats 0 in
theorem PySem.Challenge.cw_gridscope_k10_boxes_behind_cutting_out_holds : PySem.Challenge.rw_gridscope_k10_boxes_behind_cutting_out.Holds := by
  w_on; o_law; k_head; (case hw => w_witness2)
  k_fill
  refine K10.walk (l := PySem.Challenge.rw_gridscope_k10_boxes_behind_cutting_out) rfl rfl (fun w h Y => PySem.W.kIn_of Y) ?F
  case F =>
    intro w mg fa h KX G hmg
    refine' K10.all_mk KX G hmg ?a_check_axis ?l_check_axis ?c_check_axis ?k_check_axis ?a_span ?l_span ?c_span ?k_span ?a_with_span ?l_with_span ?c_with_span ?k_with_span ?a_cut_out ?l_cut_out ?c_cut_out ?k_cut_out ?a_begin ?l_begin ?c_begin ?k_begin ?a_pick ?l_pick ?c_pick ?k_pick ?a_box_drawn ?l_box_drawn ?c_box_drawn ?k_box_drawn ?a_same ?l_same ?c_same ?k_same ?a_told ?l_told ?c_told ?k_told ?a_law ?l_law ?c_law ?k_law ?z_max ?z_min ?z_len ?z_list ?z_isinstance ?z_bool ?z_int ?z_str ?z_tuple ?z_range ?z_all ?g_ROW ?g_COLUMN ?e_BadAxis ?ex_BadAxis ?ek_BadAxis ?eb_BadAxis ?et_BadAxis ?ec_BadAxis ?es_BadAxis
    (case a_check_axis => k_is); (case l_check_axis => k_is); (case c_check_axis => k_is); (case k_check_axis => k_is); (case a_span => k_is); (case l_span => k_is)
    (case c_span => k_is); (case k_span => k_is); (case a_with_span => k_is); (case l_with_span => k_is); (case c_with_span => k_is); (case k_with_span => k_is)
    (case a_cut_out => k_is); (case l_cut_out => k_is); (case c_cut_out => k_is); (case k_cut_out => k_is); (case a_begin => k_is); (case l_begin => k_is)
    (case c_begin => k_is); (case k_begin => k_is); (case a_pick => k_is); (case l_pick => k_is); (case c_pick => k_is); (case k_pick => k_is)
    (case a_box_drawn => k_is); (case l_box_drawn => k_is); (case c_box_drawn => k_is); (case k_box_drawn => k_is); (case a_same => k_is); (case l_same => k_is)
    (case c_same => k_is); (case k_same => k_is); (case a_told => k_is); (case l_told => k_is); (case c_told => k_is); (case k_told => k_is)
    (case a_law => k_is); (case l_law => k_is); (case c_law => k_is); (case k_law => k_is); (case z_max => k_is); (case z_min => k_is)
    (case z_len => k_is); (case z_list => k_is); (case z_isinstance => k_is); (case z_bool => k_is); (case z_int => k_is); (case z_str => k_is)
    (case z_tuple => k_is); (case z_range => k_is); (case z_all => k_is); (case g_ROW => k_is); (case g_COLUMN => k_is); (case e_BadAxis => k_is)
    (case ex_BadAxis => k_exc); (case ek_BadAxis => k_is); (case eb_BadAxis => k_is); (case et_BadAxis => k_is); (case ec_BadAxis => k_is); (case es_BadAxis => k_is)
