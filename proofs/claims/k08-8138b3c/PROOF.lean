import PyProof.Rows.All
import Wide.All
import OpenK.AllK
import Wide.FinOn
import HandS.ForMost
import HandS.Deep
import HandS.IsInst
import HandS.Codes
import PySem.Challenge.RW_gridscope_k08_boxes_and_cells
set_option Elab.async false
set_option linter.all false
set_option maxRecDepth 100000
set_option maxHeartbeats 4000000
namespace Gs
open PySem L2
/-! ### a def of the text, by its name, as its callers use it -/
def Dn (P : Program) (w : World) (K : PySem.W.Frag) (mg : Str → Option Value) (base : Heap) (CX : CXT) (k : Nat) (x : Str) (ps : List Str) (sp : Sp) : Prop :=
  ∃ (f : Addr) (fd : FuncData), FnOk P w K mg base CX k f fd ps sp ∧ mg x = some (.ref f) ∧ PySem.W.keepIn K (.ref f) = true ∧ Binds K fd ps []
theorem Dn.mono {P : Program} {w : World} {K : PySem.W.Frag} {mg : Str → Option Value} {base : Heap} {CX : CXT} {j k : Nat} {x : Str} {ps : List Str} {sp : Sp} (D : Dn P w K mg base CX j x ps sp) (h : j ≤ k) : Dn P w K mg base CX k x ps sp := by
  obtain ⟨f, fd, F, m, kp, b⟩ := D
  exact ⟨f, fd, F.mono h, m, kp, b⟩
theorem Dn.imp {P : Program} {w : World} {K : PySem.W.Frag} {mg : Str → Option Value} {base : Heap} {CX : CXT} {k : Nat} {x : Str} {ps : List Str} {sp sp' : Sp} (D : Dn P w K mg base CX k x ps sp) (h : ∀ vs H Q E, sp' vs H Q E → sp vs H Q E) : Dn P w K mg base CX k x ps sp' := by
  obtain ⟨f, fd, F, m, kp, b⟩ := D
  exact ⟨f, fd, F.imp h, m, kp, b⟩
theorem pe_callD {X : Cx} {CX : CXT} {k : Nat} {x : Str} {ps : List Str} {sp : Sp} {E : XK} {p pos : Pos} {e : Expr} {es : List Expr} {t : TA} (D : Dn X.prog X.w X.K X.mg X.base CX k x ps sp) (hr : Room k X.A) (hg : Gl X x) (hx : Passes CX X E)
    (ha : PA X (e :: es) t) (hdb : (x == ("__debug__" : Str)) = false := by decide) (he : starEach (e :: es) X.env = (false, eval e X.env) :: starEach es X.env := by rfl) (hpl : (backTo pos (starEach es X.env)).any (·.1) = false := by rfl) :
    PE X (.Call (.Name x p) (e :: es) [] pos) (tCall sp [] E t) := by
  obtain ⟨f, fd, F, m, kp, b⟩ := D
  exact pe_call F hr hg m kp b .nil hx ha hdb he hpl
/-! ### heaps -/
theorem same_new {H : Hp} {p : Addr} (h : H p = none) (o : HO) : Same H (upd H p o) := fun b u q => by rw [upd_ne (ne_of_none q h)]; exact q
theorem Same.tup {K : PySem.W.Frag} {H H' : Hp} {a : Addr} {xs : List V} (e : Same H H') (h : SqT K H a xs) : SqT K H' a xs := by
  rcases h with (h | ⟨o, h⟩) | h
  · exact .inl (.inl (e _ _ h))
  · exact .inl (.inr ⟨o, e _ _ h⟩)
  · exact .inr h
theorem small {n : Nat} (h : n ≤ 1000) : n ≤ sizeLine := Nat.le_of_lt (small1000 h)
/-! ### data at any depth -/
mutual
theorem dp_same {K : PySem.W.Frag} {H H' : Hp} (e : Same H H') : ∀ (d : PyData) (v : V), Dp K H v d → Dp K H' v d
  | .none, _, h => by cases h; exact .non
  | .bool b, _, h => by cases h; exact .bl b
  | .int i, _, h => by cases h; exact .int i
  | .str x, _, h => by cases h; exact .str x
  | .list ds, _, h => by
    cases h with
    | lst s a => exact .lst (e.seq s) (dpAll_same e ds _ a)
  | .tuple ds, _, h => by
    cases h with
    | tup s a => exact .tup (Same.tup e s) (dpAll_same e ds _ a)
  | .dict b, _, h => by cases h
theorem dpAll_same {K : PySem.W.Frag} {H H' : Hp} (e : Same H H') : ∀ (ds : List PyData) (vs : List V), DpAll K H vs ds → DpAll K H' vs ds
  | [], _, h => by cases h; exact .nil
  | d :: ds, _, h => by
    cases h with
    | cons a b => exact .cons (dp_same e d _ a) (dpAll_same e ds _ b)
end
theorem dpAll_len {K : PySem.W.Frag} {H : Hp} : ∀ {vs : List V} {ds : List PyData}, DpAll K H vs ds → vs.length = ds.length
  | _, _, .nil => rfl
  | _, _, .cons _ b => by simp [dpAll_len b]
theorem dpAll_get {K : PySem.W.Frag} {H : Hp} : ∀ {vs : List V} {ds : List PyData} {i : Nat} {d : PyData}, DpAll K H vs ds → ds[i]? = some d → ∃ v, vs[i]? = some v ∧ Dp K H v d
  | _, _, _, _, .nil, e => by simp at e
  | _, _, 0, _, .cons a _, e => by simp at e; subst e; exact ⟨_, rfl, a⟩
  | _, _, i + 1, _, .cons _ b, e => by simpa using dpAll_get (i := i) b (by simpa using e)

/-! ### the law's own helpers: what each of them promises -/
/-- a draw: what is left of the script, its place, what is left of a great number, the seed, the count -/
def drawO (l : Addr) (i left seed n : Int) : HO := .lst [.ref l, .int i, .int left, .int seed, .int n]
def DrawAt (H : Hp) (a : Addr) : Prop := ∃ (l : Addr) (ns : List Int) (i left seed n : Int), H a = some (drawO l i left seed n) ∧ H l = some (.lst (ns.map V.int)) ∧ 0 ≤ i ∧ 0 ≤ seed ∧ seed < 1000000007
/-- all but the draw is as it was -/
def Ext (a : Addr) (H H' : Hp) : Prop := DrawAt H' a ∧ ∀ b o, b ≠ a → H b = some o → H' b = some o
theorem DrawAt.ne {H : Hp} {a l : Addr} {i left seed n : Int} {ns : List Int} (h1 : H a = some (drawO l i left seed n)) (h2 : H l = some (.lst (ns.map V.int))) : l ≠ a := by
  refine ne_of h2 h1 ?_
  intro e
  unfold drawO at e
  cases ns with
  | nil => simp at e
  | cons x r => simp at e
theorem DrawAt.same {H H' : Hp} {a : Addr} (d : DrawAt H a) (e : Same H H') : DrawAt H' a := by
  obtain ⟨l, ns, i, left, seed, n, h1, h2, r⟩ := d
  exact ⟨l, ns, i, left, seed, n, e _ _ h1, e _ _ h2, r⟩
theorem Ext.trans {a : Addr} {H H1 H2 : Hp} (x : Ext a H H1) (y : Ext a H1 H2) : Ext a H H2 := ⟨y.1, fun b o n h => y.2 b o n (x.2 b o n h)⟩
theorem Ext.same {a : Addr} {H H1 H2 : Hp} (x : Ext a H H1) (y : Same H1 H2) : Ext a H H2 := ⟨x.1.same y, fun b o n h => y b o (x.2 b o n h)⟩
theorem Ext.of {a : Addr} {H H1 : Hp} (d : DrawAt H a) (y : Same H H1) : Ext a H H1 := ⟨d.same y, fun b o _ h => y b o h⟩
theorem DrawAt.neT {H : Hp} {a b : Addr} {xs : List V} (d : DrawAt H a) (h : H b = some (.tup xs)) : b ≠ a := by
  obtain ⟨l, ns, i, left, seed, n, h1, h2, r⟩ := d
  exact ne_of h h1 (by intro e; unfold drawO at e; cases e)
/-- a tuple stays -/
theorem Ext.tup {a b : Addr} {H H1 : Hp} {xs : List V} (x : Ext a H H1) (d : DrawAt H a) (h : H b = some (.tup xs)) : H1 b = some (.tup xs) := x.2 b _ (d.neT h) h
/-! the longest list or tuple in it -/
mutual
def mxl : PyData → Nat
  | .list ds => max ds.length (mxlAll ds)
  | .tuple ds => max ds.length (mxlAll ds)
  | _ => 0
def mxlAll : List PyData → Nat
  | [] => 0
  | d :: r => max (mxl d) (mxlAll r)
end
theorem mxl_get : ∀ {ds : List PyData} {i : Nat} {d : PyData}, ds[i]? = some d → mxl d ≤ mxlAll ds
  | [], _, _, e => by simp at e
  | x :: r, 0, d, e => by
    simp at e
    subst e
    simp only [mxlAll]
    omega
  | x :: r, i + 1, d, e => by
    have := mxl_get (ds := r) (i := i) (d := d) (by simpa using e)
    simp only [mxlAll]
    omega
def spBegin (K : PySem.W.Frag) : Sp := fun vs H Q _ => ∃ (s : Addr) (ns : List Int), vs = [.ref s] ∧ SqL K H s (ns.map V.int) ∧ ∀ (a : Addr) (H' : Hp), H a = none → DrawAt H' a → Same H H' → Q (.ref a) H'
def spPick : Sp := fun vs H Q _ => ∃ (a : Addr) (many : Int), vs = [.ref a, .int many] ∧ DrawAt H a ∧ 1 ≤ many ∧ many < 1073741824 ∧
  ∀ (r : Int) (H' : Hp), 0 ≤ r → r < many → DrawAt H' a → (∀ b, b ≠ a → H' b = H b) → Q (.int r) H'
def spSame (K : PySem.W.Frag) (n : Nat) : Sp := fun vs H Q _ => ∃ (x y : V) (d : PyData), vs = [x, y] ∧ Dp K H x d ∧ Dp K H y d ∧ d.depth < n ∧ mxl d ≤ 100000 ∧ ∀ H', Same H H' → Q (.bl true) H'
/-! ### isinstance -/
theorem kit2 {K : PySem.W.Frag} {a b c : String} {r1 r2 : Bool} (h : kitB a b = some r1) (h2 : kitB a c = some r2) : PySem.W.kitAny K (.type a) [.type b, .type c] = some (r1 || r2) := by
  refine kitAny_cons (kit_ty h) (fun e => ?_) (fun e => by rw [e]; rfl)
  rw [e, Bool.false_or]
  refine kitAny_cons (kit_ty h2) (fun e => ?_) (fun e => e)
  rw [e]
  rfl
theorem cls2 (b c : String) : Paired ClsV [.ty b, .ty c] [.type b, .type c] := .cons (.ty b) (.cons (.ty c) .nil)
theorem tyx_list {K : PySem.W.Frag} {H : Hp} {a : Addr} {xs : List V} (h : SqL K H a xs) : TyX K H (.ref a) (.type "list") := by
  rcases h with (h | ⟨o, h⟩) | ⟨o, its, n, h, c, _⟩
  · exact .base (.lst h)
  · exact .base (.frz h)
  · exact .kList h c
theorem tyx_tuple {K : PySem.W.Frag} {H : Hp} {a : Addr} {xs : List V} (h : SqT K H a xs) : TyX K H (.ref a) (.type "tuple") := by
  rcases h with (h | ⟨o, h⟩) | ⟨o, its, n, h, c, _⟩
  · exact .base (.tup h)
  · exact .fTuple h
  · exact .kTuple h c
theorem ixLk {X : Cx} {K : PySem.W.Frag} (h : X.K = K) : IxR X (rIxL K) := by subst h; exact ix_list
theorem ixTk {X : Cx} {K : PySem.W.Frag} (h : X.K = K) : IxR X (rIxT K) := by subst h; exact ix_tup
theorem ixQk {X : Cx} {K : PySem.W.Frag} (h : X.K = K) : IxR X (rIx K) := by subst h; exact ix_seq
theorem inDk {X : Cx} {K : PySem.W.Frag} (h : X.K = K) (hu : X.A.units + 65 < cLine) : OpR X (compareOp .In) (rInD K) := by subst h; exact op_inD hu
theorem ifT {c A B : Prop} [Decidable c] (h : c) (x : A) : if c then A else B := by rw [if_pos h]; exact x
theorem ifF {c A B : Prop} [Decidable c] (h : ¬ c) (x : B) : if c then A else B := by rw [if_neg h]; exact x
theorem cut_ints (ns : List Int) (lo hi : Option Int) : ∃ ms : List Int, cutV (ns.map V.int) lo hi = ms.map V.int := by
  unfold cutV
  exact ⟨_, by rw [← List.map_drop, ← List.map_take]⟩
theorem shaped_bool (b : Bool) : SeqAt.shaped (.bool b) = true := by simp [SeqAt.shaped, PyData.canLay0, PyData.depth]
theorem shaped_int (b : Int) : SeqAt.shaped (.int b) = true := by simp [SeqAt.shaped, PyData.canLay0, PyData.depth]
theorem shaped_eqv {d : PyData} (h : SeqAt.shaped d = true) : PyData.eqv d d = true := SeqAt.eqv_refl d (SeqAt.canLay_of_shaped h)
theorem depth_get : ∀ {ds : List PyData} {i : Nat} {d : PyData}, ds[i]? = some d → d.depth ≤ PyData.depthAll ds
  | [], _, _, e => by simp at e
  | x :: r, 0, d, e => by
    simp at e
    subst e
    simp only [PyData.depthAll]
    omega
  | x :: r, i + 1, d, e => by
    have := depth_get (ds := r) (i := i) (d := d) (by simpa using e)
    simp only [PyData.depthAll]
    omega
theorem rep_bl (n : Nat) : List.replicate n (V.bl true) = (List.replicate n true).map V.bl := by simp
theorem rep_all (n : Nat) : (List.replicate n true).all id = true := by simp
theorem rep_succ (n : Nat) : List.replicate n (V.bl true) ++ [V.bl true] = List.replicate (n + 1) (V.bl true) := by
  rw [← List.replicate_succ']
end Gs

set_option Elab.async false
set_option linter.all false
set_option maxRecDepth 100000
set_option maxHeartbeats 4000000
namespace K08
open PySem L2 Gs
def top (i : Nat) : Stmt := PySem.Challenge.pw_gridscope_k08_boxes_and_cells.main.body.getD i (.Pass ⟨0, 0, 0, 0⟩)
structure Tx (mg : Str → Option Value) : Prop where
  no_max : mg "max" = none
  no_min : mg "min" = none
  no_len : mg "len" = none
  no_list : mg "list" = none
  no_isinstance : mg "isinstance" = none
  no_bool : mg "bool" = none
  no_int : mg "int" = none
  no_str : mg "str" = none
  no_tuple : mg "tuple" = none
  no_range : mg "range" = none
  no_all : mg "all" = none
section
variable {P : Program} {w : World} {K : PySem.W.Frag} {mg : Str → Option Value} {base : Heap} {f : Addr} {fd : FuncData}
-- pick
abbrev s_pick : Stmt := top 6
theorem sc_pick : FnScope ["_law_draw", "_law_many", "_law_cell", "_law_got"] ["_law_draw", "_law_many"] (defScope s_pick) := ⟨rfl, rfl, rfl, by decide +kernel, rfl, by decide +kernel, by decide +kernel⟩
theorem ok_pick (F : Fun K "_law_pick" "_law_pick" s_pick f fd) (T : Tx mg) : FnOk P w K mg base CX0 1 f fd ["_law_draw", "_law_many"] spPick := by
  refine F.ok sc_pick (fun vs H Q E h => ?_) (fun cdv A outer s H vs Q E hr h => ?_)
  · obtain ⟨a, many, rfl, _⟩ := h
    rfl
  · obtain ⟨a, many, rfl, D, m1, m2, k⟩ := h
    refine ⟨_, (C8.pss_cut (ps_if (PW.pt (pw_and (pt_cmpR op_lt (pe_ix ix_list (pv 0) pe_int (fun _ _ => rfl)) (pv 1) (nomark _)) (pw_and1 (pt_cmpR op_lt (pe_ix ix_list (pv 0) pe_int (fun _ _ => rfl)) (pe_callB call_len_seq (by rfl) T.no_len (by decide +kernel) (pa_cons (pe_ix ix_list (pv 0) pe_int (fun _ _ => rfl)) pa_nil)) (nomark _))))) (pss_cons (ps_set (i := 2) sc_pick.nd rfl (.inl rfl) (pe_ix ix_list (pe_ix ix_list (pv 0) pe_int (fun _ _ => rfl)) (pe_ix ix_list (pv 0) pe_int (fun _ _ => rfl)) (fun _ _ => rfl)))
        (pss_cons (ps_asg (pe_op op_add (pe_ix ix_list (pv 0) pe_int (fun _ _ => rfl)) pe_int) (pg_sub (pv 0) pe_int set_list))
        (pss_cons (ps_asg pe_int (pg_sub (pv 0) pe_int set_list))
        (pss_one (ps_if (pt_cmpR op_ge (pv 2) (pe_op op_pow pe_int pe_int) (nomark _)) (pss_one (ps_asg (pv 2) (pg_sub (pv 0) pe_int set_list))) (pss_one (ps_asg (pe_op op_mod (pe_op op_add (pe_ix ix_list (pv 0) pe_int (fun _ _ => rfl)) (pv 2)) pe_int) (pg_sub (pv 0) pe_int set_list)))))))) pss_nil)
      (pss_cons (ps_if (pt_cmpR op_ge (pe_ix ix_list (pv 0) pe_int (fun _ _ => rfl)) (pv 1) (nomark _)) (pss_cons (ps_set (i := 3) sc_pick.nd rfl (.inl rfl) (pe_op op_mod (pe_ix ix_list (pv 0) pe_int (fun _ _ => rfl)) (pv 1)))
        (pss_cons (ps_asg (pe_op op_fdiv (pe_ix ix_list (pv 0) pe_int (fun _ _ => rfl)) (pv 1)) (pg_sub (pv 0) pe_int set_list))
        (pss_one (ps_ret (pv 3))))) pss_nil)
      (pss_cons (ps_asg (pe_op op_add (pe_ix ix_list (pv 0) pe_int (fun _ _ => rfl)) pe_int) (pg_sub (pv 0) pe_int set_list))
      (pss_cons (ps_asg (pe_op op_mod (pe_op op_add (pe_op op_add (pe_op op_pow (pe_ix ix_list (pv 0) pe_int (fun _ _ => rfl)) pe_int) (pe_op op_mul pe_int (pe_ix ix_list (pv 0) pe_int (fun _ _ => rfl)))) pe_int) pe_int) (pg_sub (pv 0) pe_int set_list))
      (pss_one (ps_ret (pe_op op_mod (pe_op op_fdiv (pe_ix ix_list (pv 0) pe_int (fun _ _ => rfl)) pe_int) (pv 1)))))))), ?_⟩
    refine ⟨fun σ H1 => (∃ x y, σ = [some (.ref a), some (.int many), x, y]) ∧ DrawAt H1 a ∧ (∀ b, b ≠ a → H1 b = H b), ?_, ?_⟩
    · obtain ⟨l, ns, i, left, seed, n, h1, h2, hi, hs0, hs1⟩ := D
      have hl : l ≠ a := DrawAt.ne h1 h2
      refine ⟨_, rfl, _, _, _, _, rfl, rfl, SqL.of h1, atI_nat (j := 2) rfl, _, rfl, _, _, rfl, rfl, _, rfl, ?_⟩
      refine ite2 (fun c => ?_) (fun c => ?_)
      · refine ⟨_, rfl, _, _, _, _, rfl, rfl, SqL.of h1, atI_nat (j := 1) rfl, _, rfl, _, _, _, _, rfl, rfl, SqL.of h1, atI_nat (j := 0) rfl, _, _, rfl, .inl (SqL.of h2), _, _, rfl, rfl, _, rfl, ?_⟩
        refine ite2 (fun c => ?_) (fun c => ?_)
        · have c' : i < (((ns.map V.int).length : Nat) : Int) := of_decide_eq_true c
          rw [List.length_map] at c'
          have hk : i.toNat < ns.length := by omega
          have ek : i = ((i.toNat : Nat) : Int) := by omega
          have hat : atI (ns.map V.int) i = some (.int ns[i.toNat]) := by
            exact at_of ek (by rw [List.getElem?_map, List.getElem?_eq_getElem hk] <;> rfl)
          have g2 : ∀ o, upd H a o l = some (.lst (ns.map V.int)) := fun o => by rw [upd_ne hl]; exact h2
          refine ⟨_, rfl, _, _, _, _, rfl, rfl, SqL.of h1, atI_nat (j := 0) rfl, _, rfl, _, _, _, _, rfl, rfl, SqL.of h1, atI_nat (j := 1) rfl, _, _, _, _, rfl, rfl, SqL.of h2, hat, ?_⟩
          refine ⟨_, rfl, _, _, _, _, rfl, rfl, SqL.of h1, atI_nat (j := 1) rfl, _, _, rfl, rfl, _, rfl, _, _, _, 1, rfl, rfl, h1, rfl, ?_⟩
          refine ⟨_, rfl, _, _, _, 2, rfl, rfl, upd_same, rfl, ?_⟩
          rw [upd_upd]
          refine ⟨_, rfl, _, _, rfl, rfl, ⟨by decide, by decide, by decide⟩, _, _, rfl, rfl, _, rfl, ?_⟩
          refine ite2 (fun c => ?_) (fun c => ?_)
          · refine ⟨_, rfl, _, rfl, _, _, _, 2, rfl, rfl, upd_same, rfl, ?_⟩
            rw [upd_upd]
            exact ⟨⟨_, _, rfl⟩, ⟨l, ns, i + 1, ns[i.toNat], seed, n, upd_same, g2 _, by omega, hs0, hs1⟩, fun b hb => upd_ne hb⟩
          · refine ⟨_, rfl, _, _, _, _, rfl, rfl, SqL.of upd_same, atI_nat (j := 3) rfl, _, rfl, _, _, rfl, rfl, _, _, rfl, rfl, (by show (0 : Int) < 1000000007; decide), _, rfl, _, _, _, 3, rfl, rfl, upd_same, rfl, ?_⟩
            rw [upd_upd]
            exact ⟨⟨_, _, rfl⟩, ⟨l, ns, i + 1, 0, _, n, upd_same, g2 _, by omega, Int.emod_nonneg _ (by decide), Int.emod_lt_of_pos _ (by decide)⟩, fun b hb => upd_ne hb⟩
        · exact ⟨⟨_, _, rfl⟩, ⟨l, ns, i, left, seed, n, h1, h2, hi, hs0, hs1⟩, fun b hb => rfl⟩
      · exact ⟨⟨_, _, rfl⟩, ⟨l, ns, i, left, seed, n, h1, h2, hi, hs0, hs1⟩, fun b hb => rfl⟩
    · rintro σ H1 ⟨⟨x, y, rfl⟩, D1, fr⟩
      obtain ⟨l, ns, i, left, seed, n, h1, h2, hi, hs0, hs1⟩ := D1
      have hl : l ≠ a := DrawAt.ne h1 h2
      have g2 : ∀ o, upd H1 a o l = some (.lst (ns.map V.int)) := fun o => by rw [upd_ne hl]; exact h2
      have g3 : ∀ o b, b ≠ a → upd H1 a o b = H b := fun o b hb => by rw [upd_ne hb]; exact fr b hb
      refine ⟨_, rfl, _, _, _, _, rfl, rfl, SqL.of h1, atI_nat (j := 2) rfl, _, rfl, _, _, rfl, rfl, _, rfl, ?_⟩
      refine ite2 (fun c => ?_) (fun c => ?_)
      · refine ⟨_, rfl, _, _, _, _, rfl, rfl, SqL.of h1, atI_nat (j := 2) rfl, _, rfl, _, _, rfl, rfl, (show (0 : Int) < many by omega), ?_⟩
        refine ⟨_, rfl, _, _, _, _, rfl, rfl, SqL.of h1, atI_nat (j := 2) rfl, _, rfl, _, _, rfl, rfl, ⟨by omega, by omega⟩, _, rfl, _, _, _, 2, rfl, rfl, h1, rfl, ?_⟩
        refine ⟨_, rfl, ?_⟩
        exact k _ _ (Int.emod_nonneg _ (by omega)) (Int.emod_lt_of_pos _ (by omega)) ⟨l, ns, i, _, seed, n, upd_same, g2 _, hi, hs0, hs1⟩ (g3 _)
      · refine ⟨_, rfl, _, _, _, _, rfl, rfl, SqL.of h1, atI_nat (j := 4) rfl, _, _, rfl, rfl, _, rfl, _, _, _, 4, rfl, rfl, h1, rfl, ?_⟩
        refine ⟨_, rfl, _, _, _, _, rfl, rfl, SqL.of upd_same, atI_nat (j := 3) rfl, _, _, rfl, rfl, ⟨by decide, by decide, by omega⟩, _, rfl, _, _, _, _, rfl, rfl, SqL.of upd_same, atI_nat (j := 4) rfl, _, _, rfl, rfl, .inl ⟨by decide, by decide⟩, _, _, rfl, rfl, _, _, rfl, rfl, _, _, rfl, rfl, (by show (0 : Int) < 1000000007; decide), _, rfl, _, _, _, 3, rfl, rfl, upd_same, rfl, ?_⟩
        rw [upd_upd]
        refine ⟨_, rfl, _, _, _, _, rfl, rfl, SqL.of upd_same, atI_nat (j := 3) rfl, _, _, rfl, rfl, ⟨by decide, by decide⟩, _, rfl, _, _, rfl, rfl, (show (0 : Int) < many by omega), ?_⟩
        exact k _ _ (Int.emod_nonneg _ (by omega)) (Int.emod_lt_of_pos _ (by omega)) ⟨l, ns, i, left, _, _, upd_same, g2 _, hi, Int.emod_nonneg _ (by decide), Int.emod_lt_of_pos _ (by decide)⟩ (g3 _)
end
end K08

set_option Elab.async false
set_option linter.all false
set_option maxRecDepth 100000
set_option maxHeartbeats 4000000
namespace K08
open PySem L2 Gs
section
variable {P : Program} {w : World} {K : PySem.W.Frag} {mg : Str → Option Value} {base : Heap} {f : Addr} {fd : FuncData}
-- begin
abbrev s_begin : Stmt := top 5
theorem sc_begin : FnScope ["_law_script"] ["_law_script"] (defScope s_begin) := ⟨rfl, rfl, rfl, by decide +kernel, rfl, by decide +kernel, by decide +kernel⟩
theorem ok_begin (F : Fun K "_law_begin" "_law_begin" s_begin f fd) (T : Tx mg) : FnOk P w K mg base CX0 1 f fd ["_law_script"] (spBegin K) := by
  refine F.ok sc_begin (fun vs H Q E h => ?_) (fun cdv A outer s H vs Q E hr h => ?_)
  · obtain ⟨a, ns, rfl, _⟩ := h
    rfl
  · obtain ⟨sc, ns, rfl, hS, k⟩ := h
    refine ⟨_, (pss_one (ps_ret (pe_lst (pa_cons (pe_callTy call_list_of (by rfl) T.no_list (by decide +kernel) (pa_cons (pe_slice sl_list (pv 0) po_none (po_some pe_int)) pa_nil)) (pa_cons pe_int (pa_cons pe_int (pa_cons pe_int (pa_cons pe_int pa_nil)))))))), ?_⟩
    refine ⟨_, rfl, _, rfl, _, _, rfl, hS, fun p hp => ?_⟩
    refine ⟨_, _, rfl, .inl (SqL.of upd_same), fun l hl => ?_⟩
    refine ⟨(by show 5 ≤ sizeLine; decide), fun a ha => ?_⟩
    have s0 := (same_new hp (.lst (cutV (ns.map V.int) none (some 63)))).trans (same_new hl (.lst (cutV (ns.map V.int) none (some 63))))
    obtain ⟨ms, em⟩ := cut_ints ns none (some 63)
    refine k a _ (s0.free ha) ⟨l, ms, 0, 0, 1, 0, upd_same, ?_, by decide, by decide, by decide⟩ (s0.trans (same_new ha _))
    rw [upd_ne (ne_of_none upd_same ha), upd_same, em]
-- same
abbrev s_same : Stmt := top 9
theorem sc_same : FnScope ["_law_found", "_law_due", "_law_k"] ["_law_found", "_law_due"] (defScope s_same) := ⟨rfl, rfl, rfl, by decide +kernel, rfl, by decide +kernel, by decide +kernel⟩
theorem ok_same {n : Nat} (F : Fun K "_law_same" "_law_same" s_same f fd) (T : Tx mg) (D_same : Dn P w K mg base CX0 n "_law_same" ["_law_found", "_law_due"] (spSame K n)) : FnOk P w K mg base CX0 (n + 1) f fd ["_law_found", "_law_due"] (spSame K (n + 1)) := by
  refine F.ok sc_same (fun vs H Q E h => ?_) (fun cdv A outer s H vs Q E hr h => ?_)
  · obtain ⟨x, y, d, rfl, _⟩ := h
    rfl
  · obtain ⟨x, y, d, rfl, hx, hy, hd, hm, k⟩ := h
    refine ⟨_, (pss_cons (ps_if (pt_cmpR op_isN (pv 1) pe_non (nomark _)) (pss_one (ps_ret (pe_cmpR op_isN (pv 0) pe_non (nomark _)))) pss_nil)
      (pss_cons (ps_if (PW.pt (pw_or (pt_val (pe_callB call_isi (by rfl) T.no_isinstance (by decide +kernel) (pa_cons (pv 1) (pa_cons (pe_bltn (v := .ty "bool") (by rfl) T.no_bool (by decide +kernel) rfl) pa_nil)))) (pw_or1 (pt_val (pe_callB call_isi (by rfl) T.no_isinstance (by decide +kernel) (pa_cons (pv 0) (pa_cons (pe_bltn (v := .ty "bool") (by rfl) T.no_bool (by decide +kernel) rfl) pa_nil))))))) (pss_one (ps_ret (pe_and (pe_callB call_isi (by rfl) T.no_isinstance (by decide +kernel) (pa_cons (pv 1) (pa_cons (pe_bltn (v := .ty "bool") (by rfl) T.no_bool (by decide +kernel) rfl) pa_nil))) (pe_and (pe_callB call_isi (by rfl) T.no_isinstance (by decide +kernel) (pa_cons (pv 0) (pa_cons (pe_bltn (v := .ty "bool") (by rfl) T.no_bool (by decide +kernel) rfl) pa_nil))) (pe_one (pe_cmpR op_eq (pv 0) (pv 1) (nomark _))))))) pss_nil)
      (pss_cons (ps_if (pt_val (pe_callB call_isiT (by rfl) T.no_isinstance (by decide +kernel) (pa_cons (pv 1) (pa_cons (pe_tup (pa_cons (pe_bltn (v := .ty "int") (by rfl) T.no_int (by decide +kernel) rfl) (pa_cons (pe_bltn (v := .ty "str") (by rfl) T.no_str (by decide +kernel) rfl) pa_nil))) pa_nil)))) (pss_one (ps_ret (pe_and (pe_cmpR op_eq (pe_callB call_isi (by rfl) T.no_isinstance (by decide +kernel) (pa_cons (pv 0) (pa_cons (pe_bltn (v := .ty "int") (by rfl) T.no_int (by decide +kernel) rfl) pa_nil))) (pe_callB call_isi (by rfl) T.no_isinstance (by decide +kernel) (pa_cons (pv 1) (pa_cons (pe_bltn (v := .ty "int") (by rfl) T.no_int (by decide +kernel) rfl) pa_nil))) (nomark _)) (pe_and (pe_callB call_isiT (by rfl) T.no_isinstance (by decide +kernel) (pa_cons (pv 0) (pa_cons (pe_tup (pa_cons (pe_bltn (v := .ty "int") (by rfl) T.no_int (by decide +kernel) rfl) (pa_cons (pe_bltn (v := .ty "str") (by rfl) T.no_str (by decide +kernel) rfl) pa_nil))) pa_nil))) (pe_one (pe_cmpR op_eq (pv 0) (pv 1) (nomark _))))))) pss_nil)
      (pss_cons (ps_if (PW.pt (pw_or (pt_cmpR op_ne (pe_callB call_isi (by rfl) T.no_isinstance (by decide +kernel) (pa_cons (pv 0) (pa_cons (pe_bltn (v := .ty "list") (by rfl) T.no_list (by decide +kernel) rfl) pa_nil))) (pe_callB call_isi (by rfl) T.no_isinstance (by decide +kernel) (pa_cons (pv 1) (pa_cons (pe_bltn (v := .ty "list") (by rfl) T.no_list (by decide +kernel) rfl) pa_nil))) (nomark _)) (pw_or1 (pt_cmpR op_ne (pe_callB call_isi (by rfl) T.no_isinstance (by decide +kernel) (pa_cons (pv 0) (pa_cons (pe_bltn (v := .ty "tuple") (by rfl) T.no_tuple (by decide +kernel) rfl) pa_nil))) (pe_callB call_isi (by rfl) T.no_isinstance (by decide +kernel) (pa_cons (pv 1) (pa_cons (pe_bltn (v := .ty "tuple") (by rfl) T.no_tuple (by decide +kernel) rfl) pa_nil))) (nomark _))))) (pss_one (ps_ret pe_bl)) pss_nil)
      (pss_one (ps_ret (pe_and (pe_cmpR op_eq (pe_callB call_len_seq (by rfl) T.no_len (by decide +kernel) (pa_cons (pv 0) pa_nil)) (pe_callB call_len_seq (by rfl) T.no_len (by decide +kernel) (pa_cons (pv 1) pa_nil)) (nomark _)) (pe_one (pe_callB (cr_all rfl) (by rfl) T.no_all (by decide +kernel) (pa_cons (pe_lc (own := [("_law_k", 2)]) (g := gName 2) rfl sc_same.nd (pi_range1 (by rfl) T.no_range (pa_cons (pe_callB call_len_seq (by rfl) T.no_len (by decide +kernel) (pa_cons (pv 1) pa_nil)) pa_nil)) (blkOk_by (N := ["_law_found", "_law_due", "_law_k"]) (sc := defScope s_same) (by decide +kernel)) (fun _ _ _ _ _ => (pg_name (i := 2) sc_same.nd rfl (Or.inl rfl))) (fun _ _ _ _ _ => pts_nil) (fun _ _ _ _ _ => (pe_callD D_same hr (by rfl) pass0 (pa_cons (pe_ix (ixQk (K := K) rfl) (pv 0) (pv 2) (fun _ _ => rfl)) (pa_cons (pe_ix (ixQk (K := K) rfl) (pv 1) (pv 2) (fun _ _ => rfl)) pa_nil))))) pa_nil)))))))))), ?_⟩
    cases d with
    | dict kvs => cases hx
    | none =>
      cases hx
      cases hy
      exact ⟨_, rfl, rfl, _, rfl, ifT rfl ⟨_, rfl, rfl, k H (Same.refl H)⟩⟩
    | bool b =>
      cases hx
      cases hy
      have ty : ∀ H, TyX K H (.bl b) (.type "bool") := fun H => .base (.bl b)
      have kb : kitB "bool" "bool" = some true := by decide +kernel
      refine ⟨_, rfl, rfl, _, rfl, ?_⟩
      refine ifF (by simp) ?_
      refine ⟨_, rfl, _, _, _, _, true, rfl, .ty _, ty _, kit_ty kb, _, rfl, ?_⟩
      refine ifT rfl ?_
      refine ifT rfl ?_
      refine ⟨_, rfl, _, _, _, _, true, rfl, .ty _, ty _, kit_ty kb, _, rfl, ?_⟩
      refine ifT rfl ?_
      refine ⟨_, rfl, _, _, _, _, true, rfl, .ty _, ty _, kit_ty kb, _, rfl, ?_⟩
      refine ifT rfl ?_
      refine ⟨_, rfl, _, rfl, rfl, ?_⟩
      rw [decide_eq_true rfl]
      exact k H (Same.refl H)
    | int b =>
      cases hx
      cases hy
      have ty : ∀ H, TyX K H (.int b) (.type "int") := fun H => .base (.int b)
      have kb : kitB "int" "bool" = some false := by decide +kernel
      have ki : kitB "int" "int" = some true := by decide +kernel
      have ks : kitB "int" "str" = some false := by decide +kernel
      refine ⟨_, rfl, rfl, _, rfl, ?_⟩
      refine ifF (by simp) ?_
      refine ⟨_, rfl, _, _, _, _, false, rfl, .ty _, ty _, kit_ty kb, _, rfl, ?_⟩
      refine ifF (by simp) ?_
      refine ⟨_, rfl, _, _, _, _, false, rfl, .ty _, ty _, kit_ty kb, _, rfl, ?_⟩
      refine ifF (by simp) ?_
      refine ⟨_, rfl, (by show 2 ≤ sizeLine; decide), fun t1 nt1 => ⟨_, _, _, _, _, _, rfl, upd_same, cls2 _ _, ty _, kit2 ki ks, _, rfl, ?_⟩⟩
      refine ifT rfl ?_
      refine ⟨_, rfl, _, _, _, _, true, rfl, .ty _, ty _, kit_ty ki, _, rfl, _, _, _, _, true, rfl, .ty _, ty _, kit_ty ki, rfl, _, rfl, ?_⟩
      refine ifT rfl ?_
      refine ⟨_, rfl, (by show 2 ≤ sizeLine; decide), fun t2 nt2 => ⟨_, _, _, _, _, _, rfl, upd_same, cls2 _ _, ty _, kit2 ki ks, _, rfl, ?_⟩⟩
      refine ifT rfl ?_
      refine ⟨_, rfl, _, rfl, rfl, ?_⟩
      rw [decide_eq_true rfl]
      exact k _ ((same_new nt1 _).trans (same_new nt2 _))
    | str b =>
      cases hx
      cases hy
      have ty : ∀ H, TyX K H (.str b) (.type "str") := fun H => .base (.str b)
      have kb : kitB "str" "bool" = some false := by decide +kernel
      have ki : kitB "str" "int" = some false := by decide +kernel
      have ks : kitB "str" "str" = some true := by decide +kernel
      refine ⟨_, rfl, rfl, _, rfl, ?_⟩
      refine ifF (by simp) ?_
      refine ⟨_, rfl, _, _, _, _, false, rfl, .ty _, ty _, kit_ty kb, _, rfl, ?_⟩
      refine ifF (by simp) ?_
      refine ⟨_, rfl, _, _, _, _, false, rfl, .ty _, ty _, kit_ty kb, _, rfl, ?_⟩
      refine ifF (by simp) ?_
      refine ⟨_, rfl, (by show 2 ≤ sizeLine; decide), fun t1 nt1 => ⟨_, _, _, _, _, _, rfl, upd_same, cls2 _ _, ty _, kit2 ki ks, _, rfl, ?_⟩⟩
      refine ifT rfl ?_
      refine ⟨_, rfl, _, _, _, _, false, rfl, .ty _, ty _, kit_ty ki, _, rfl, _, _, _, _, false, rfl, .ty _, ty _, kit_ty ki, rfl, _, rfl, ?_⟩
      refine ifT rfl ?_
      refine ⟨_, rfl, (by show 2 ≤ sizeLine; decide), fun t2 nt2 => ⟨_, _, _, _, _, _, rfl, upd_same, cls2 _ _, ty _, kit2 ki ks, _, rfl, ?_⟩⟩
      refine ifT rfl ?_
      refine ⟨_, rfl, _, rfl, rfl, ?_⟩
      rw [decide_eq_true rfl]
      exact k _ ((same_new nt1 _).trans (same_new nt2 _))
    | list ds =>
      have hd' : PyData.depthAll ds < n := by simp only [PyData.depth] at hd; omega
      have kb : kitB "list" "bool" = some false := by decide +kernel
      have ki : kitB "list" "int" = some false := by decide +kernel
      have ks : kitB "list" "str" = some false := by decide +kernel
      have kl : kitB "list" "list" = some true := by decide +kernel
      have kt : kitB "list" "tuple" = some false := by decide +kernel
      cases hx with
      | @lst a xs _ sx ax =>
      cases hy with
      | @lst b ys _ sy ay =>
      have lx := dpAll_len ax
      have ly := dpAll_len ay
      have hm1 : ds.length ≤ 100000 := by simp only [mxl] at hm; omega
      have hm2 : mxlAll ds ≤ 100000 := by simp only [mxl] at hm; omega
      have hsl := sizeLine_eq
      refine ⟨_, rfl, rfl, _, rfl, ?_⟩
      refine ifF (by simp) ?_
      refine ⟨_, rfl, _, _, _, _, false, rfl, .ty _, tyx_list sy, kit_ty kb, _, rfl, ?_⟩
      refine ifF (by simp) ?_
      refine ⟨_, rfl, _, _, _, _, false, rfl, .ty _, tyx_list sx, kit_ty kb, _, rfl, ?_⟩
      refine ifF (by simp) ?_
      refine ⟨_, rfl, (by show 2 ≤ sizeLine; decide), fun t1 nt1 => ⟨_, _, _, _, _, _, rfl, upd_same, cls2 _ _, tyx_list ((same_new nt1 _).seq sy), kit2 ki ks, _, rfl, ?_⟩⟩
      refine ifF (by simp) ?_
      have s1 := same_new nt1 (.tup [.ty "int", .ty "str"])
      have sx1 := s1.seq sx
      have sy1 := s1.seq sy
      refine ⟨_, rfl, _, _, _, _, true, rfl, .ty _, tyx_list sx1, kit_ty kl, _, rfl, _, _, _, _, true, rfl, .ty _, tyx_list sy1, kit_ty kl, rfl, _, rfl, ?_⟩
      refine ifF (by simp) ?_
      refine ⟨_, rfl, _, _, _, _, false, rfl, .ty _, tyx_list sx1, kit_ty kt, _, rfl, _, _, _, _, false, rfl, .ty _, tyx_list sy1, kit_ty kt, rfl, _, rfl, ?_⟩
      refine ifF (by simp) ?_
      refine ⟨_, rfl, _, _, rfl, .inl sx1, _, rfl, _, _, rfl, .inl sy1, rfl, _, rfl, ?_⟩
      refine ifT (by simp [lx, ly]) ?_
      refine ⟨_, rfl, _, _, rfl, .inl sy1, _, rfl, (by omega), (by omega), fun D hD => ?_⟩
      generalize upd H t1 (HO.tup [V.ty "int", V.ty "str"]) = H1 at *
      refine lc_range (lo := 0) (n := ((ys.length : Nat) : Int).toNat) (fun i H2 => Same H1 H2 ∧ H2 D = some (.lst (List.replicate i (V.bl true)))) ⟨same_new hD _, upd_same⟩ ?_ ?_
      · rintro i H2 hi ⟨s2, e2⟩
        have hi' : i < ds.length := by omega
        have ed : ds[i]? = some ds[i] := List.getElem?_eq_getElem hi'
        obtain ⟨v, ev, dv⟩ := dpAll_get ax ed
        obtain ⟨u, eu, du⟩ := dpAll_get ay ed
        have nd : (ds[i]).depth < n := Nat.lt_of_le_of_lt (depth_get ed) hd'
        refine ⟨rfl, ?_⟩
        unfold tYes
        refine ifT rfl ?_
        refine ⟨_, rfl, _, rfl, .inl ⟨_, _, _, _, rfl, rfl, s2.seq sx1, at_of (by simp) ev, _, rfl, _, rfl, .inl ⟨_, _, _, _, rfl, rfl, s2.seq sy1, at_of (by simp) eu, _, _, _, rfl, dp_same (s1.trans s2) _ _ dv, dp_same (s1.trans s2) _ _ du, nd, Nat.le_trans (mxl_get ed) hm2, fun H3 s3 => ?_⟩⟩⟩
        refine ⟨_, s3 _ _ e2, (by rw [List.length_replicate]; omega), ?_, ?_⟩
        · intro b' o q
          rw [upd_ne (ne_of_none q hD)]
          exact s3 _ _ (s2 _ _ q)
        · rw [upd_same, rep_succ]
      · rintro H2 ⟨s2, e2⟩
        refine ⟨_, List.replicate ys.length true, rfl, SqL.of (by rw [e2, ← rep_bl]; simp), ?_⟩
        rw [rep_all]
        exact k _ (s1.trans s2)
    | tuple ds =>
      have hd' : PyData.depthAll ds < n := by simp only [PyData.depth] at hd; omega
      have kb : kitB "tuple" "bool" = some false := by decide +kernel
      have ki : kitB "tuple" "int" = some false := by decide +kernel
      have ks : kitB "tuple" "str" = some false := by decide +kernel
      have kl : kitB "tuple" "list" = some false := by decide +kernel
      have kt : kitB "tuple" "tuple" = some true := by decide +kernel
      cases hx with
      | @tup a xs _ sx ax =>
      cases hy with
      | @tup b ys _ sy ay =>
      have lx := dpAll_len ax
      have ly := dpAll_len ay
      have hm1 : ds.length ≤ 100000 := by simp only [mxl] at hm; omega
      have hm2 : mxlAll ds ≤ 100000 := by simp only [mxl] at hm; omega
      have hsl := sizeLine_eq
      refine ⟨_, rfl, rfl, _, rfl, ?_⟩
      refine ifF (by simp) ?_
      refine ⟨_, rfl, _, _, _, _, false, rfl, .ty _, tyx_tuple sy, kit_ty kb, _, rfl, ?_⟩
      refine ifF (by simp) ?_
      refine ⟨_, rfl, _, _, _, _, false, rfl, .ty _, tyx_tuple sx, kit_ty kb, _, rfl, ?_⟩
      refine ifF (by simp) ?_
      refine ⟨_, rfl, (by show 2 ≤ sizeLine; decide), fun t1 nt1 => ⟨_, _, _, _, _, _, rfl, upd_same, cls2 _ _, tyx_tuple (Same.tup (same_new nt1 _) sy), kit2 ki ks, _, rfl, ?_⟩⟩
      refine ifF (by simp) ?_
      have s1 := same_new nt1 (.tup [.ty "int", .ty "str"])
      have sx1 := Same.tup s1 sx
      have sy1 := Same.tup s1 sy
      refine ⟨_, rfl, _, _, _, _, false, rfl, .ty _, tyx_tuple sx1, kit_ty kl, _, rfl, _, _, _, _, false, rfl, .ty _, tyx_tuple sy1, kit_ty kl, rfl, _, rfl, ?_⟩
      refine ifF (by simp) ?_
      refine ⟨_, rfl, _, _, _, _, true, rfl, .ty _, tyx_tuple sx1, kit_ty kt, _, rfl, _, _, _, _, true, rfl, .ty _, tyx_tuple sy1, kit_ty kt, rfl, _, rfl, ?_⟩
      refine ifF (by simp) ?_
      refine ⟨_, rfl, _, _, rfl, .inr sx1, _, rfl, _, _, rfl, .inr sy1, rfl, _, rfl, ?_⟩
      refine ifT (by simp [lx, ly]) ?_
      refine ⟨_, rfl, _, _, rfl, .inr sy1, _, rfl, (by omega), (by omega), fun D hD => ?_⟩
      generalize upd H t1 (HO.tup [V.ty "int", V.ty "str"]) = H1 at *
      refine lc_range (lo := 0) (n := ((ys.length : Nat) : Int).toNat) (fun i H2 => Same H1 H2 ∧ H2 D = some (.lst (List.replicate i (V.bl true)))) ⟨same_new hD _, upd_same⟩ ?_ ?_
      · rintro i H2 hi ⟨s2, e2⟩
        have hi' : i < ds.length := by omega
        have ed : ds[i]? = some ds[i] := List.getElem?_eq_getElem hi'
        obtain ⟨v, ev, dv⟩ := dpAll_get ax ed
        obtain ⟨u, eu, du⟩ := dpAll_get ay ed
        have nd : (ds[i]).depth < n := Nat.lt_of_le_of_lt (depth_get ed) hd'
        refine ⟨rfl, ?_⟩
        unfold tYes
        refine ifT rfl ?_
        refine ⟨_, rfl, _, rfl, .inr (.inl ⟨_, _, _, _, rfl, rfl, Same.tup s2 sx1, at_of (by simp) ev, _, rfl, _, rfl, .inr (.inl ⟨_, _, _, _, rfl, rfl, Same.tup s2 sy1, at_of (by simp) eu, _, _, _, rfl, dp_same (s1.trans s2) _ _ dv, dp_same (s1.trans s2) _ _ du, nd, Nat.le_trans (mxl_get ed) hm2, fun H3 s3 => ?_⟩)⟩)⟩
        refine ⟨_, s3 _ _ e2, (by rw [List.length_replicate]; omega), ?_, ?_⟩
        · intro b' o q
          rw [upd_ne (ne_of_none q hD)]
          exact s3 _ _ (s2 _ _ q)
        · rw [upd_same, rep_succ]
      · rintro H2 ⟨s2, e2⟩
        refine ⟨_, List.replicate ys.length true, rfl, SqL.of (by rw [e2, ← rep_bl]; simp), ?_⟩
        rw [rep_all]
        exact k _ (s1.trans s2)
end
end K08

set_option Elab.async false
set_option linter.all false
set_option maxRecDepth 100000
set_option maxHeartbeats 4000000
namespace K08
open PySem L2 Gs
/-! ### boxes -/
structure Bx where
  r : Int
  c : Int
  h : Int
  w : Int
def boxL (b : Bx) : List V := [.int b.r, .int b.c, .int b.h, .int b.w]
def boxD (b : Bx) : PyData := .tuple [.int b.r, .int b.c, .int b.h, .int b.w]
/-- the common cells -/
def shM (a b : Bx) : Bx := ⟨if b.r > a.r then b.r else a.r, if b.c > a.c then b.c else a.c,
  (if b.r + b.h < a.r + a.h then b.r + b.h else a.r + a.h) - (if b.r > a.r then b.r else a.r), (if b.c + b.w < a.c + a.w then b.c + b.w else a.c + a.w) - (if b.c > a.c then b.c else a.c)⟩
def shNo (a b : Bx) : Prop := (shM a b).h < 1 ∨ (shM a b).w < 1
instance (a b : Bx) : Decidable (shNo a b) := by unfold shNo; infer_instance
def spShared : Sp := fun vs H Q _ => ∃ (p q : Addr) (a b : Bx), vs = [.ref p, .ref q] ∧ H p = some (.tup (boxL a)) ∧ H q = some (.tup (boxL b)) ∧
  (shNo a b → Q .non H) ∧ (¬ shNo a b → ∀ t, H t = none → Q (.ref t) (upd H t (.tup (boxL (shM a b)))))
def spMeet : Sp := fun vs H Q _ => ∃ (p q : Addr) (a b : Bx), vs = [.ref p, .ref q] ∧ H p = some (.tup (boxL a)) ∧ H q = some (.tup (boxL b)) ∧ ∀ H', Same H H' → Q (.bl (!decide (shNo a b))) H'
def spHas : Sp := fun vs H Q _ => ∃ (p : Addr) (a : Bx) (i j : Int), vs = [.ref p, .int i, .int j] ∧ H p = some (.tup (boxL a)) ∧ ∀ H', Same H H' → Q (.bl (!decide (shNo a ⟨i, j, 1, 1⟩))) H'
section
variable {P : Program} {w : World} {K : PySem.W.Frag} {mg : Str → Option Value} {base : Heap} {f : Addr} {fd : FuncData}
-- shared
abbrev s_shared : Stmt := top 3
theorem sc_shared : FnScope ["one", "other", "row", "column", "high", "wide"] ["one", "other"] (defScope s_shared) := ⟨rfl, rfl, rfl, by decide +kernel, rfl, by decide +kernel, by decide +kernel⟩
theorem ok_shared (F : Fun K "shared" "shared" s_shared f fd) (T : Tx mg) : FnOk P w K mg base CX0 1 f fd ["one", "other"] spShared := by
  refine F.ok sc_shared (fun vs H Q E h => ?_) (fun cdv A outer s H vs Q E hr h => ?_)
  · obtain ⟨p, q, a, b, rfl, _⟩ := h
    rfl
  · obtain ⟨p, q, a, b, rfl, hp, hq, k1, k2⟩ := h
    refine ⟨_, (pss_cons (ps_set (i := 2) sc_shared.nd rfl (.inl rfl) (pe_callB (call_max2 rfl) (by rfl) T.no_max (by decide +kernel) (pa_cons (pe_ix ix_tup (pv 0) pe_int (fun _ _ => rfl)) (pa_cons (pe_ix ix_tup (pv 1) pe_int (fun _ _ => rfl)) pa_nil))))
      (pss_cons (ps_set (i := 3) sc_shared.nd rfl (.inl rfl) (pe_callB (call_max2 rfl) (by rfl) T.no_max (by decide +kernel) (pa_cons (pe_ix ix_tup (pv 0) pe_int (fun _ _ => rfl)) (pa_cons (pe_ix ix_tup (pv 1) pe_int (fun _ _ => rfl)) pa_nil))))
      (pss_cons (ps_set (i := 4) sc_shared.nd rfl (.inl rfl) (pe_op op_sub (pe_callB (call_min2 rfl) (by rfl) T.no_min (by decide +kernel) (pa_cons (pe_op op_add (pe_ix ix_tup (pv 0) pe_int (fun _ _ => rfl)) (pe_ix ix_tup (pv 0) pe_int (fun _ _ => rfl))) (pa_cons (pe_op op_add (pe_ix ix_tup (pv 1) pe_int (fun _ _ => rfl)) (pe_ix ix_tup (pv 1) pe_int (fun _ _ => rfl))) pa_nil))) (pv 2)))
      (pss_cons (ps_set (i := 5) sc_shared.nd rfl (.inl rfl) (pe_op op_sub (pe_callB (call_min2 rfl) (by rfl) T.no_min (by decide +kernel) (pa_cons (pe_op op_add (pe_ix ix_tup (pv 0) pe_int (fun _ _ => rfl)) (pe_ix ix_tup (pv 0) pe_int (fun _ _ => rfl))) (pa_cons (pe_op op_add (pe_ix ix_tup (pv 1) pe_int (fun _ _ => rfl)) (pe_ix ix_tup (pv 1) pe_int (fun _ _ => rfl))) pa_nil))) (pv 3)))
      (pss_cons (ps_if (PW.pt (pw_or (pt_cmpR op_lt (pv 4) pe_int (nomark _)) (pw_or1 (pt_cmpR op_lt (pv 5) pe_int (nomark _))))) (pss_one (ps_ret pe_non)) pss_nil)
      (pss_one (ps_ret (pe_tup (pa_cons (pv 2) (pa_cons (pv 3) (pa_cons (pv 4) (pa_cons (pv 5) pa_nil)))))))))))), ?_⟩
    refine ⟨_, rfl, _, _, _, _, rfl, rfl, SqT.of hp, atI_nat (j := 0) rfl, _, rfl, _, _, _, _, rfl, rfl, SqT.of hq, atI_nat (j := 0) rfl, _, _, rfl, ?_⟩
    refine ⟨_, rfl, _, _, _, _, rfl, rfl, SqT.of hp, atI_nat (j := 1) rfl, _, rfl, _, _, _, _, rfl, rfl, SqT.of hq, atI_nat (j := 1) rfl, _, _, rfl, ?_⟩
    refine ⟨_, rfl, _, _, _, _, rfl, rfl, SqT.of hp, atI_nat (j := 0) rfl, _, rfl, _, _, _, _, rfl, rfl, SqT.of hp, atI_nat (j := 2) rfl, _, _, rfl, rfl, _, rfl, _, _, _, _, rfl, rfl, SqT.of hq, atI_nat (j := 0) rfl, _, rfl, _, _, _, _, rfl, rfl, SqT.of hq, atI_nat (j := 2) rfl, _, _, rfl, rfl, _, _, rfl, _, rfl, _, _, rfl, rfl, ?_⟩
    refine ⟨_, rfl, _, _, _, _, rfl, rfl, SqT.of hp, atI_nat (j := 1) rfl, _, rfl, _, _, _, _, rfl, rfl, SqT.of hp, atI_nat (j := 3) rfl, _, _, rfl, rfl, _, rfl, _, _, _, _, rfl, rfl, SqT.of hq, atI_nat (j := 1) rfl, _, rfl, _, _, _, _, rfl, rfl, SqT.of hq, atI_nat (j := 3) rfl, _, _, rfl, rfl, _, _, rfl, _, rfl, _, _, rfl, rfl, ?_⟩
    refine ⟨_, rfl, _, _, rfl, rfl, _, rfl, ?_⟩
    refine ite2 (fun c => ?_) (fun c => ?_)
    · exact ifT rfl (k1 (.inl (of_decide_eq_true c)))
    · refine ⟨_, rfl, _, _, rfl, rfl, _, rfl, ?_⟩
      refine ite2 (fun c' => ?_) (fun c' => ?_)
      · exact k1 (.inr (of_decide_eq_true c'))
      · refine ⟨_, rfl, _, rfl, _, rfl, _, rfl, (by show 4 ≤ sizeLine; decide), fun t ht => ?_⟩
        refine k2 (fun z => ?_) t ht
        rcases z with z | z
        · exact c (decide_eq_true z)
        · exact c' (decide_eq_true z)
-- meet
abbrev s_meet : Stmt := top 2
theorem sc_meet : FnScope ["one", "other"] ["one", "other"] (defScope s_meet) := ⟨rfl, rfl, rfl, by decide +kernel, rfl, by decide +kernel, by decide +kernel⟩
theorem ok_meet (F : Fun K "meet" "meet" s_meet f fd) (D_shared : Dn P w K mg base CX0 1 "shared" ["one", "other"] spShared) : FnOk P w K mg base CX0 2 f fd ["one", "other"] spMeet := by
  refine F.ok sc_meet (fun vs H Q E h => ?_) (fun cdv A outer s H vs Q E hr h => ?_)
  · obtain ⟨p, q, a, b, rfl, _⟩ := h
    rfl
  · obtain ⟨p, q, a, b, rfl, hp, hq, k⟩ := h
    refine ⟨_, (pss_one (ps_ret (pe_cmpR op_notN (pe_callD D_shared hr (by rfl) pass0 (pa_cons (pv 0) (pa_cons (pv 1) pa_nil))) pe_non (nomark _)))), ?_⟩
    refine ⟨_, rfl, _, rfl, _, _, a, b, rfl, hp, hq, fun c => ⟨rfl, ?_⟩, fun c t ht => ⟨rfl, ?_⟩⟩
    · have := k H (Same.refl H)
      rw [decide_eq_true c] at this
      exact this
    · have := k _ (same_new ht (.tup (boxL (shM a b))))
      rw [decide_eq_false c] at this
      exact this
-- has
abbrev s_has : Stmt := top 1
theorem sc_has : FnScope ["box", "row", "column", "first", "left", "high", "wide"] ["box", "row", "column"] (defScope s_has) := ⟨rfl, rfl, rfl, by decide +kernel, rfl, by decide +kernel, by decide +kernel⟩
theorem ok_has (F : Fun K "has" "has" s_has f fd) : FnOk P w K mg base CX0 3 f fd ["box", "row", "column"] spHas := by
  refine F.ok sc_has (fun vs H Q E h => ?_) (fun cdv A outer s H vs Q E hr h => ?_)
  · obtain ⟨p, a, i, j, rfl, _⟩ := h
    rfl
  · obtain ⟨p, a, i, j, rfl, hp, k⟩ := h
    refine ⟨_, (pss_cons (ps_asg (pv 0) (pg_tup (by rfl) (pgs_cons (pg_name (i := 3) sc_has.nd rfl (.inl rfl)) (pgs_cons (pg_name (i := 4) sc_has.nd rfl (.inl rfl)) (pgs_cons (pg_name (i := 5) sc_has.nd rfl (.inl rfl)) (pgs_cons (pg_name (i := 6) sc_has.nd rfl (.inl rfl)) pgs_nil))))))
      (pss_one (ps_ret (pe_and (pe_chain op_le op_lt (pv 3) (pv 1) (pe_op op_add (pv 3) (pv 5))) (pe_one (pe_chain op_le op_lt (pv 4) (pv 2) (pe_op op_add (pv 4) (pv 6)))))))), ?_⟩
    have kq : ∀ b : Bool, (b = true ↔ (a.r ≤ i ∧ i < a.r + a.h) ∧ (a.c ≤ j ∧ j < a.c + a.w)) → Q (.bl b) H := fun b hb => by
      have kk := k H (Same.refl H)
      have e1 : shNo a ⟨i, j, 1, 1⟩ ↔ ¬ ((a.r ≤ i ∧ i < a.r + a.h) ∧ (a.c ≤ j ∧ j < a.c + a.w)) := by
        unfold shNo shM
        simp only
        constructor
        · intro h
          split at h <;> split at h <;> split at h <;> split at h <;> omega
        · intro h
          split <;> split <;> split <;> split <;> omega
      have e : (!decide (shNo a ⟨i, j, 1, 1⟩)) = b := by
        cases b with
        | true => rw [decide_eq_false (fun z => e1.mp z (hb.mp rfl))]; rfl
        | false => rw [decide_eq_true (e1.mpr fun z => Bool.false_ne_true (hb.mpr z))]; rfl
      rw [e] at kk
      exact kk
    refine ⟨_, rfl, _, _, rfl, SqT.of hp, rfl, _, _, rfl, _, _, rfl, _, _, rfl, _, _, rfl, rfl, ?_⟩
    refine ⟨_, rfl, _, rfl, _, _, rfl, rfl, _, rfl, ?_⟩
    refine ite2 (fun c1 => ?_) (fun c1 => ?_)
    · have c1' := of_decide_eq_true c1
      refine ⟨_, rfl, _, rfl, _, _, rfl, rfl, _, _, rfl, rfl, _, rfl, ?_⟩
      refine ite2 (fun c2 => ?_) (fun c2 => ?_)
      · have c2' := of_decide_eq_true c2
        refine ⟨_, rfl, _, rfl, _, _, rfl, rfl, _, rfl, ?_⟩
        refine ite2 (fun c3 => ?_) (fun c3 => ?_)
        · have c3' := of_decide_eq_true c3
          refine ⟨_, rfl, _, rfl, _, _, rfl, rfl, _, _, rfl, rfl, kq _ ⟨fun q => ⟨⟨c1', c2'⟩, c3', of_decide_eq_true q⟩, fun q => decide_eq_true q.2.2⟩⟩
        · exact kq _ ⟨(fun q => nomatch q), fun q => absurd (decide_eq_true q.2.1) c3⟩
      · exact kq _ ⟨(fun q => nomatch q), fun q => absurd (decide_eq_true q.1.2) c2⟩
    · refine ⟨_, rfl, ?_⟩
      rw [if_neg (by simp)]
      exact kq _ ⟨(fun q => nomatch q), fun q => absurd (decide_eq_true q.1.1) c1⟩
-- box_drawn
def spBox : Sp := fun vs H Q _ => ∃ (a : Addr) (far : Int), vs = [.ref a, .int far] ∧ DrawAt H a ∧ 6 ≤ far ∧ far < 1073741824 ∧
  ∀ (t : Addr) (b : Bx) (H' : Hp), 0 ≤ b.r → b.r < far → 0 ≤ b.c → b.c < 6 → 1 ≤ b.h → b.h ≤ 5 → 1 ≤ b.w → b.w ≤ 5 → Ext a H H' → H' t = some (.tup (boxL b)) → Q (.ref t) H'
theorem Ext.pick {a : Addr} {H H1 : Hp} (d : DrawAt H1 a) (e : ∀ b, b ≠ a → H1 b = H b) : Ext a H H1 := ⟨d, fun b o n h => by rw [e b n]; exact h⟩
abbrev s_box_drawn : Stmt := top 7
theorem sc_box_drawn : FnScope ["_law_draw", "_law_far", "_law_rows"] ["_law_draw", "_law_far"] (defScope s_box_drawn) := ⟨rfl, rfl, rfl, by decide +kernel, rfl, by decide +kernel, by decide +kernel⟩
theorem ok_box_drawn (F : Fun K "_law_box_drawn" "_law_box_drawn" s_box_drawn f fd) (D_pick : Dn P w K mg base CX0 1 "_law_pick" ["_law_draw", "_law_many"] spPick) : FnOk P w K mg base CX0 2 f fd ["_law_draw", "_law_far"] spBox := by
  refine F.ok sc_box_drawn (fun vs H Q E h => ?_) (fun cdv A outer s H vs Q E hr h => ?_)
  · obtain ⟨a, far, rfl, _⟩ := h
    rfl
  · obtain ⟨a, far, rfl, D0, f6, f30, k⟩ := h
    refine ⟨_, (pss_cons (ps_set (i := 2) sc_box_drawn.nd rfl (.inl rfl) (pe_ix ix_tup (pe_tup (pa_cons (pe_callD D_pick hr (by rfl) pass0 (pa_cons (pv 0) (pa_cons pe_int pa_nil))) (pa_cons (pe_callD D_pick hr (by rfl) pass0 (pa_cons (pv 0) (pa_cons (pv 1) pa_nil))) pa_nil))) (pe_callD D_pick hr (by rfl) pass0 (pa_cons (pv 0) (pa_cons pe_int pa_nil))) (fun _ _ => rfl)))
      (pss_one (ps_ret (pe_tup (pa_cons (pv 2) (pa_cons (pe_callD D_pick hr (by rfl) pass0 (pa_cons (pv 0) (pa_cons pe_int pa_nil))) (pa_cons (pe_op op_add pe_int (pe_callD D_pick hr (by rfl) pass0 (pa_cons (pv 0) (pa_cons pe_int pa_nil)))) (pa_cons (pe_op op_add pe_int (pe_callD D_pick hr (by rfl) pass0 (pa_cons (pv 0) (pa_cons pe_int pa_nil)))) pa_nil)))))))), ?_⟩
    refine ⟨_, rfl, _, _, rfl, D0, by decide, by decide, fun r1 H1 a1 b1 D1 e1 => ?_⟩
    refine ⟨_, rfl, _, rfl, _, _, rfl, D1, by omega, f30, fun r2 H2 a2 b2 D2 e2 => ?_⟩
    refine ⟨(by show 2 ≤ sizeLine; decide), fun t ht => ?_⟩
    have s2 := same_new ht (.tup [.int r1, .int r2])
    refine ⟨_, rfl, _, _, rfl, D2.same s2, by decide, by decide, fun r3 H3 a3 b3 D3 e3 => ?_⟩
    have x3 : Ext a H H3 := ((Ext.pick D1 e1).trans ((Ext.pick D2 e2).same s2)).trans (Ext.pick D3 e3)
    have ht3 : H3 t = some (.tup [.int r1, .int r2]) := by rw [e3 t ((D2.same s2).neT upd_same)]; exact upd_same
    obtain ⟨r, er, r0, rf⟩ : ∃ r : Int, atI [V.int r1, V.int r2] r3 = some (.int r) ∧ 0 ≤ r ∧ r < far := by
      have : r3 = 0 ∨ r3 = 1 := by omega
      rcases this with rfl | rfl
      · exact ⟨r1, atI_nat (j := 0) rfl, a1, by omega⟩
      · exact ⟨r2, atI_nat (j := 1) rfl, a2, b2⟩
    refine ⟨t, _, _, _, rfl, rfl, SqT.of ht3, er, ?_⟩
    refine ⟨_, rfl, _, rfl, _, _, rfl, D3, by decide, by decide, fun r4 H4 a4 b4 D4 e4 => ?_⟩
    refine ⟨_, rfl, _, _, rfl, D4, by decide, by decide, fun r5 H5 a5 b5 D5 e5 => ?_⟩
    refine ⟨_, _, rfl, rfl, _, rfl, _, _, rfl, D5, by decide, by decide, fun r6 H6 a6 b6 D6 e6 => ?_⟩
    refine ⟨_, _, rfl, rfl, (by show 4 ≤ sizeLine; decide), fun u hu => ?_⟩
    exact k u ⟨r, r4, 1 + r5, 1 + r6⟩ _ r0 rf a4 b4 (by show 1 ≤ 1 + r5; omega) (by show 1 + r5 ≤ 5; omega) (by show 1 ≤ 1 + r6; omega) (by show 1 + r6 ≤ 5; omega)
      (((x3.trans (Ext.pick D4 e4)).trans (Ext.pick D5 e5)).trans (Ext.pick D6 e6) |>.same (same_new hu _)) upd_same
end
end K08

set_option Elab.async false
set_option linter.all false
set_option maxRecDepth 100000
set_option maxHeartbeats 4000000
namespace K08
open PySem L2 Gs
/-! ### cells -/
def TupSame (H H' : Hp) : Prop := ∀ t xs, H t = some (.tup xs) → H' t = some (.tup xs)
theorem TupSame.of {H H' : Hp} (s : Same H H') : TupSame H H' := fun t xs h => s t _ h
theorem TupSame.trans {H H1 H2 : Hp} (a : TupSame H H1) (b : TupSame H1 H2) : TupSame H H2 := fun t xs h => b t xs (a t xs h)
theorem TupSame.lst {H : Hp} {D : Addr} {zs : List V} (h : H D = some (.lst zs)) (o : HO) : TupSame H (upd H D o) := fun t xs q => by
  rw [upd_ne (ne_of q h (by intro e; cases e))]
  exact q
abbrev Cell := Int × Int
def CellsAt (H : Hp) (xs : List V) (cs : List Cell) : Prop := Paired (fun (v : V) (c : Cell) => ∃ t, v = .ref t ∧ H t = some (.tup [.int c.1, .int c.2])) xs cs
theorem CellsAt.mono {H H' : Hp} (s : TupSame H H') : ∀ {xs : List V} {cs : List Cell}, CellsAt H xs cs → CellsAt H' xs cs
  | _, _, .nil => .nil
  | _, _, .cons ⟨t, e, h⟩ r => .cons ⟨t, e, s _ _ h⟩ (CellsAt.mono s r)
theorem CellsAt.append {H : Hp} : ∀ {xs ys : List V} {cs ds : List Cell}, CellsAt H xs cs → CellsAt H ys ds → CellsAt H (xs ++ ys) (cs ++ ds)
  | _, _, _, _, .nil, s => s
  | _, _, _, _, .cons a r, s => .cons a (CellsAt.append r s)
theorem CellsAt.len {H : Hp} : ∀ {xs : List V} {cs : List Cell}, CellsAt H xs cs → xs.length = cs.length
  | _, _, .nil => rfl
  | _, _, .cons _ r => by simp [CellsAt.len r]
theorem CellsAt.get {H : Hp} : ∀ {xs : List V} {cs : List Cell} {i : Nat} {v : V}, CellsAt H xs cs → xs[i]? = some v → ∃ t c, v = .ref t ∧ cs[i]? = some c ∧ H t = some (.tup [.int c.1, .int c.2])
  | _, _, _, _, .nil, e => by simp at e
  | _, _, 0, _, .cons ⟨t, e1, h⟩ _, e => by simp at e; subst e; exact ⟨t, _, e1, rfl, h⟩
  | _, _, i + 1, _, .cons _ r, e => by simpa using CellsAt.get (i := i) r (by simpa using e)
def cellD (c : Cell) : PyData := .tuple [.int c.1, .int c.2]
theorem CellsAt.dp {K : PySem.W.Frag} {H : Hp} : ∀ {xs : List V} {cs : List Cell}, CellsAt H xs cs → DpAll K H xs (cs.map cellD)
  | _, _, .nil => .nil
  | _, _, .cons ⟨t, e, h⟩ r => by
    subst e
    exact .cons (.tup (SqT.of h) (.cons (.int _) (.cons (.int _) .nil))) (CellsAt.dp r)
def rowC (r c : Int) (n : Nat) : List Cell := (List.range n).map fun (j : Nat) => (r, c + (j : Int))
def rowsC (b : Bx) (n : Nat) : List Cell := (List.range n).flatMap fun (i : Nat) => rowC (b.r + (i : Int)) b.c b.w.toNat
def cellsM (b : Bx) : List Cell := rowsC b b.h.toNat
theorem rowC_succ (r c : Int) (n : Nat) : rowC r c (n + 1) = rowC r c n ++ [(r, c + (n : Int))] := by
  unfold rowC
  rw [List.range_succ, List.map_append]
  rfl
theorem rowsC_succ (b : Bx) (n : Nat) : rowsC b (n + 1) = rowsC b n ++ rowC (b.r + (n : Int)) b.c b.w.toNat := by
  unfold rowsC
  rw [List.range_succ, List.flatMap_append]
  simp
theorem rowC_len (r c : Int) (n : Nat) : (rowC r c n).length = n := by simp [rowC]
theorem rowsC_len (b : Bx) : ∀ n : Nat, (rowsC b n).length = n * b.w.toNat
  | 0 => by simp [rowsC]
  | n + 1 => by rw [rowsC_succ, List.length_append, rowsC_len b n, rowC_len, Nat.succ_mul]
structure Bd (b : Bx) : Prop where
  r0 : 0 ≤ b.r
  r1 : b.r < 10000000
  c0 : 0 ≤ b.c
  c1 : b.c < 1000
  h0 : 1 ≤ b.h
  h1 : b.h ≤ 5
  w0 : 1 ≤ b.w
  w1 : b.w ≤ 5
def spCells : Sp := fun vs H Q _ => ∃ (p : Addr) (b : Bx), vs = [.ref p] ∧ H p = some (.tup (boxL b)) ∧ Bd b ∧
  ∀ (l : Addr) (xs : List V) (H' : Hp), Same H H' → H' l = some (.lst xs) → CellsAt H' xs (cellsM b) → Q (.ref l) H'
section
variable {P : Program} {w : World} {K : PySem.W.Frag} {mg : Str → Option Value} {base : Heap} {f : Addr} {fd : FuncData}
abbrev s_cells : Stmt := top 8
theorem sc_cells : FnScope ["_law_box", "_law_found", "_law_row", "_law_column"] ["_law_box"] (defScope s_cells) := ⟨rfl, rfl, rfl, by decide +kernel, rfl, by decide +kernel, by decide +kernel⟩
theorem ok_cells (F : Fun K "_law_cells" "_law_cells" s_cells f fd) (T : Tx mg) : FnOk P w K mg base CX0 1 f fd ["_law_box"] spCells := by
  refine F.ok sc_cells (fun vs H Q E h => ?_) (fun cdv A outer s H vs Q E hr h => ?_)
  · obtain ⟨p, b, rfl, _⟩ := h
    rfl
  · obtain ⟨p, b, rfl, hp, ⟨r0, r1, c0, c1, h0, h1, w0, w1⟩, k⟩ := h
    refine ⟨_, (pss_cons (ps_set (i := 1) sc_cells.nd rfl (.inl rfl) (pe_lst pa_nil))
      (pss_cons (ps_for PassesOwn.never rfl (pi_range2 (by rfl) T.no_range (pa_cons (pe_ix ix_tup (pv 0) pe_int (fun _ _ => rfl)) (pa_cons (pe_op op_add (pe_ix ix_tup (pv 0) pe_int (fun _ _ => rfl)) (pe_ix ix_tup (pv 0) pe_int (fun _ _ => rfl))) pa_nil))) (pg_name (i := 2) sc_cells.nd rfl (.inr rfl))
        (pss_one (ps_set (i := 1) sc_cells.nd rfl (.inl rfl) (pe_op op_cat (pv 1) (pe_lc (own := [("_law_column", 3)]) (g := gName 3) rfl sc_cells.nd (pi_range2 (by rfl) T.no_range (pa_cons (pe_ix ix_tup (pv 0) pe_int (fun _ _ => rfl)) (pa_cons (pe_op op_add (pe_ix ix_tup (pv 0) pe_int (fun _ _ => rfl)) (pe_ix ix_tup (pv 0) pe_int (fun _ _ => rfl))) pa_nil))) (blkOk_by (N := ["_law_box", "_law_found", "_law_row", "_law_column"]) (sc := defScope s_cells) (by decide +kernel)) (fun _ _ _ _ _ => (pg_name (i := 3) sc_cells.nd rfl (Or.inl rfl))) (fun _ _ _ _ _ => pts_nil) (fun _ _ _ _ _ => (pe_tup (pa_cons (pv 2) (pa_cons (pv 3) pa_nil)))))))))
      (pss_one (ps_ret (pv 1))))), ?_⟩
    refine ⟨(by show 0 ≤ sizeLine; decide), fun l0 n0 => ?_⟩
    have s0 := same_new n0 (.lst [])
    have hp0 := s0 _ _ hp
    refine ⟨_, rfl, _, _, _, _, rfl, rfl, SqT.of hp0, atI_nat (j := 0) rfl, _, rfl, _, _, _, _, rfl, rfl, SqT.of hp0, atI_nat (j := 0) rfl, _, rfl, _, _, _, _, rfl, rfl, SqT.of hp0, atI_nat (j := 2) rfl, _, _, rfl, rfl, _, _, rfl, ⟨by omega, by omega, by omega, by omega⟩, ?_⟩
    refine for_range (lo := b.r) (n := (b.r + b.h - b.r).toNat) (fun i σ H1 => Same H H1 ∧ ∃ l xs v, σ = [some (.ref p), some (.ref l), v, none] ∧ H1 l = some (.lst xs) ∧ CellsAt H1 xs (rowsC b i)) ⟨s0, l0, [], none, rfl, upd_same, .nil⟩ ?_ ?_
    · rintro i σ H1 hi ⟨s1, l, xs, v, rfl, hl, hc⟩
      have hp1 := s1 _ _ hp
      refine ⟨_, rfl, _, rfl, _, _, _, _, rfl, rfl, SqT.of hp1, atI_nat (j := 1) rfl, _, rfl, _, _, _, _, rfl, rfl, SqT.of hp1, atI_nat (j := 1) rfl, _, rfl, _, _, _, _, rfl, rfl, SqT.of hp1, atI_nat (j := 3) rfl, _, _, rfl, rfl, _, _, rfl, ⟨by omega, by omega, by omega, by omega⟩, fun D hD => ?_⟩
      refine lc_range (lo := b.c) (n := (b.c + b.w - b.c).toNat) (fun j H2 => Same H1 H2 ∧ ∃ zs, H2 D = some (.lst zs) ∧ CellsAt H2 zs (rowC (b.r + (i : Int)) b.c j)) ⟨same_new hD _, [], upd_same, .nil⟩ ?_ ?_
      · rintro j H2 hj ⟨s2, zs, hz, cz⟩
        refine ⟨rfl, ?_⟩
        unfold tYes
        refine ifT rfl ?_
        refine ⟨_, rfl, _, rfl, (by show 2 ≤ sizeLine; decide), fun t ht => ?_⟩
        have st := same_new ht (.tup [.int (b.r + (i : Int)), .int (b.c + (j : Int))])
        have hz' := st _ _ hz
        have zl := cz.len
        rw [rowC_len] at zl
        refine ⟨zs, hz', Nat.lt_of_lt_of_le (by omega) (show 1000 ≤ sizeLine by decide), ?_, _, upd_same, ?_⟩
        · intro b' o q
          rw [upd_ne (ne_of_none q hD)]
          exact st _ _ (s2 _ _ q)
        · rw [rowC_succ]
          refine CellsAt.append (cz.mono ((TupSame.of st).trans (TupSame.lst hz' _))) (.cons ⟨t, rfl, ?_⟩ .nil)
          exact TupSame.lst hz' _ _ _ upd_same
      · rintro H2 ⟨s2, zs, hz, cz⟩
        have zl := cz.len
        rw [rowC_len] at zl
        have xl := hc.len
        rw [rowsC_len] at xl
        have hb : i * b.w.toNat ≤ 5 * 5 := Nat.mul_le_mul (by omega) (by omega)
        refine ⟨_, _, _, _, rfl, rfl, s2 _ _ hl, hz, small (by omega), fun t ht => ?_⟩
        have st := same_new ht (.lst (xs ++ zs))
        refine ⟨(s1.trans s2).trans st, t, _, _, rfl, upd_same, ?_⟩
        rw [rowsC_succ]
        have e : (b.c + b.w - b.c).toNat = b.w.toNat := by omega
        rw [e] at cz
        exact CellsAt.append (hc.mono (TupSame.of (s2.trans st))) (cz.mono (TupSame.of st))
    · rintro σ H1 ⟨s1, l, xs, v, rfl, hl, hc⟩
      refine ⟨_, rfl, ?_⟩
      have e : (b.r + b.h - b.r).toNat = b.h.toNat := by omega
      rw [e] at hc
      exact k l xs H1 s1 hl hc
end
end K08

set_option Elab.async false
set_option linter.all false
set_option maxRecDepth 100000
set_option maxHeartbeats 4000000
namespace K08
open PySem L2 Gs
/-! ### the mathematics of cells -/
theorem mem_rowC {r c : Int} {n : Nat} {x : Cell} : x ∈ rowC r c n ↔ x.1 = r ∧ c ≤ x.2 ∧ x.2 < c + (n : Int) := by
  unfold rowC
  rw [List.mem_map]
  constructor
  · rintro ⟨j, hj, rfl⟩
    rw [List.mem_range] at hj
    exact ⟨rfl, by show c ≤ c + (j : Int); omega, by show c + (j : Int) < c + (n : Int); omega⟩
  · rintro ⟨h1, h2, h3⟩
    refine ⟨(x.2 - c).toNat, List.mem_range.mpr (by omega), ?_⟩
    obtain ⟨x1, x2⟩ := x
    simp only at h1 h2 h3
    simp only [Prod.mk.injEq]
    omega
theorem mem_rowsC {b : Bx} {x : Cell} : ∀ {n : Nat}, x ∈ rowsC b n ↔ b.r ≤ x.1 ∧ x.1 < b.r + (n : Int) ∧ b.c ≤ x.2 ∧ x.2 < b.c + (b.w.toNat : Int)
  | 0 => by
    constructor
    · intro h
      simp [rowsC] at h
    · rintro ⟨h1, h2, _⟩
      omega
  | n + 1 => by
    rw [rowsC_succ, List.mem_append, mem_rowsC, mem_rowC]
    constructor
    · rintro (⟨h1, h2, h3, h4⟩ | ⟨h1, h2, h3⟩)
      · exact ⟨h1, by omega, h3, h4⟩
      · exact ⟨by omega, by omega, h2, h3⟩
    · rintro ⟨h1, h2, h3, h4⟩
      by_cases e : x.1 < b.r + (n : Int)
      · exact .inl ⟨h1, e, h3, h4⟩
      · exact .inr ⟨by omega, h3, h4⟩
theorem mem_cells {b : Bx} (B : Bd b) {x : Cell} : x ∈ cellsM b ↔ b.r ≤ x.1 ∧ x.1 < b.r + b.h ∧ b.c ≤ x.2 ∧ x.2 < b.c + b.w := by
  have h0 := B.h0
  have w0 := B.w0
  unfold cellsM
  rw [mem_rowsC]
  constructor
  · rintro ⟨h1, h2, h3, h4⟩
    exact ⟨h1, by omega, h3, by omega⟩
  · rintro ⟨h1, h2, h3, h4⟩
    exact ⟨h1, by omega, h3, by omega⟩
def lx (p q : Cell) : Prop := p.1 < q.1 ∨ (p.1 = q.1 ∧ p.2 < q.2)
theorem rowC_pw (r c : Int) : ∀ n : Nat, (rowC r c n).Pairwise lx
  | 0 => by simp [rowC]
  | n + 1 => by
    rw [rowC_succ, List.pairwise_append]
    refine ⟨rowC_pw r c n, by simp, fun a ha b hb => ?_⟩
    rw [mem_rowC] at ha
    simp at hb
    subst hb
    exact .inr ⟨ha.1, ha.2.2⟩
theorem rowsC_pw (b : Bx) : ∀ n : Nat, (rowsC b n).Pairwise lx
  | 0 => by simp [rowsC]
  | n + 1 => by
    rw [rowsC_succ, List.pairwise_append]
    refine ⟨rowsC_pw b n, rowC_pw _ _ _, fun x hx y hy => ?_⟩
    rw [mem_rowsC] at hx
    rw [mem_rowC] at hy
    exact .inl (by omega)
theorem pw_head : ∀ {l : List Cell} {m : Cell}, l.Pairwise lx → m ∈ l → (∀ x ∈ l, x = m ∨ lx m x) → l[0]? = some m
  | [], _, _, hm, _ => by simp at hm
  | x :: r, m, hp, hm, h => by
    rcases List.mem_cons.mp hm with e | e
    · rw [e]; rfl
    · have h1 := (List.pairwise_cons.mp hp).1 m e
      rcases h x List.mem_cons_self with z | z
      · rw [z]; rfl
      · exfalso
        rcases h1 with a | ⟨a, b⟩ <;> rcases z with c | ⟨c, d⟩ <;> omega
theorem pw_last : ∀ {l : List Cell} {m : Cell}, l.Pairwise lx → m ∈ l → (∀ x ∈ l, x = m ∨ lx x m) → ∃ r, l = r ++ [m]
  | [], _, _, hm, _ => by simp at hm
  | x :: r, m, hp, hm, h => by
    by_cases e : m ∈ r
    · obtain ⟨q, hq⟩ := pw_last (List.pairwise_cons.mp hp).2 e fun y hy => h y (List.mem_cons_of_mem _ hy)
      exact ⟨x :: q, by rw [hq]; rfl⟩
    · have e1 : m = x := by
        rcases List.mem_cons.mp hm with z | z
        · exact z
        · exact absurd z e
      subst e1
      cases r with
      | nil => exact ⟨[], rfl⟩
      | cons y q =>
        exfalso
        have h1 := (List.pairwise_cons.mp hp).1 y List.mem_cons_self
        rcases h y (List.mem_cons_of_mem _ List.mem_cons_self) with z | z
        · exact e (by rw [← z]; exact List.mem_cons_self)
        · rcases h1 with a | ⟨a, b⟩ <;> rcases z with c | ⟨c, d⟩ <;> omega
def bothM (a b : Bx) : List Cell := (cellsM a).filter fun x => decide (x ∈ cellsM b)
theorem both_pw (a b : Bx) : (bothM a b).Pairwise lx := (rowsC_pw a _).filter _
theorem mem_both {a b : Bx} (A : Bd a) (B : Bd b) {x : Cell} : x ∈ bothM a b ↔ (a.r ≤ x.1 ∧ x.1 < a.r + a.h ∧ a.c ≤ x.2 ∧ x.2 < a.c + a.w) ∧ b.r ≤ x.1 ∧ x.1 < b.r + b.h ∧ b.c ≤ x.2 ∧ x.2 < b.c + b.w := by
  unfold bothM
  rw [List.mem_filter, decide_eq_true_iff, mem_cells A, mem_cells B]
theorem sh_first {a b : Bx} (A : Bd a) (B : Bd b) (h : ¬ shNo a b) : (bothM a b)[0]? = some ((shM a b).r, (shM a b).c) := by
  refine pw_head (both_pw a b) ?_ fun x hx => ?_
  · rw [mem_both A B]
    simp only [shNo, shM] at h ⊢
    split at h <;> split at h <;> split at h <;> split at h <;> (refine ⟨⟨?_, ?_, ?_, ?_⟩, ?_, ?_, ?_, ?_⟩ <;> split <;> omega)
  · rw [mem_both A B] at hx
    obtain ⟨x1, x2⟩ := x
    simp only [shM, lx, Prod.mk.injEq] at hx ⊢
    split <;> split <;> omega
theorem sh_last {a b : Bx} (A : Bd a) (B : Bd b) (h : ¬ shNo a b) : ∃ r, bothM a b = r ++ [((shM a b).r + (shM a b).h - 1, (shM a b).c + (shM a b).w - 1)] := by
  refine pw_last (both_pw a b) ?_ fun x hx => ?_
  · rw [mem_both A B]
    simp only [shNo, shM] at h ⊢
    split at h <;> split at h <;> split at h <;> split at h <;> (refine ⟨⟨?_, ?_, ?_, ?_⟩, ?_, ?_, ?_, ?_⟩ <;> (repeat' split) <;> omega)
  · rw [mem_both A B] at hx
    obtain ⟨x1, x2⟩ := x
    simp only [shM, lx, Prod.mk.injEq] at hx ⊢
    (repeat' split) <;> omega
theorem sh_none {a b : Bx} (A : Bd a) (B : Bd b) : bothM a b = [] ↔ shNo a b := by
  constructor
  · intro e
    by_cases h : shNo a b
    · exact h
    · have := sh_first A B h
      rw [e] at this
      simp at this
  · intro h
    refine List.eq_nil_iff_forall_not_mem.mpr fun x hx => ?_
    rw [mem_both A B] at hx
    simp only [shNo, shM] at h
    split at h <;> split at h <;> split at h <;> split at h <;> omega
theorem shM_comm (a b : Bx) : shM b a = shM a b := by
  simp only [shM, Bx.mk.injEq]
  refine ⟨?_, ?_, ?_, ?_⟩ <;> (repeat' split) <;> omega
theorem shNo_comm (a b : Bx) : shNo b a ↔ shNo a b := by unfold shNo; rw [shM_comm]
theorem has_iff {a : Bx} (A : Bd a) (i j : Int) : (!decide (shNo a ⟨i, j, 1, 1⟩)) = decide ((i, j) ∈ cellsM a) := by
  have : ¬ shNo a ⟨i, j, 1, 1⟩ ↔ (i, j) ∈ cellsM a := by
    rw [mem_cells A]
    have h0 := A.h0
    have w0 := A.w0
    simp only [shNo, shM]
    split <;> split <;> split <;> split <;> omega
  by_cases h : shNo a ⟨i, j, 1, 1⟩
  · rw [decide_eq_true h, decide_eq_false (fun z => (this.mpr z) h)]
    rfl
  · rw [decide_eq_false h, decide_eq_true (this.mp h)]
    rfl
/-! ### cells as data -/
theorem cellD_eqv (x y : Cell) : PyData.eqv (cellD x) (cellD y) = decide (x = y) := by
  obtain ⟨a, b⟩ := x
  obtain ⟨c, d⟩ := y
  simp only [cellD, PyData.eqv, PyData.eqvAll]
  by_cases h1 : a = c
  · by_cases h2 : b = d
    · subst h1 h2
      simp
    · simp [h1, h2]
  · simp [h1]
theorem cells_any (cs : List Cell) (x : Cell) : ((cs.map cellD).any fun z => PyData.eqv z (cellD x)) = decide (x ∈ cs) := by
  induction cs with
  | nil => simp
  | cons y r ih =>
    rw [List.map_cons, List.any_cons, ih, cellD_eqv]
    by_cases h : y = x
    · subst h
      simp
    · have h' : ¬ x = y := fun z => h z.symm
      simp [h, h']
theorem cellD_shaped (x : Cell) : SeqAt.shaped (cellD x) = true := by simp [SeqAt.shaped, cellD, PyData.canLay0, PyData.canLayAll0, PyData.depth, PyData.depthAll]
theorem cells_lay : ∀ cs : List Cell, PyData.canLayAll0 (cs.map cellD) = true ∧ PyData.depthAll (cs.map cellD) ≤ 1
  | [] => by simp [PyData.canLayAll0, PyData.depthAll]
  | c :: r => by
    obtain ⟨h1, h2⟩ := cells_lay r
    constructor
    · simp [cellD, PyData.canLay0, PyData.canLayAll0] at h1 ⊢
      exact h1
    · simp only [List.map_cons, PyData.depthAll]
      have : (cellD c).depth = 1 := by simp [cellD, PyData.depth, PyData.depthAll]
      omega
theorem cells_shaped (cs : List Cell) : SeqAt.shaped (.list (cs.map cellD)) = true := by
  obtain ⟨h1, h2⟩ := cells_lay cs
  unfold SeqAt.shaped
  rw [Bool.and_eq_true]
  refine ⟨by simp only [PyData.canLay0]; exact h1, decide_eq_true ?_⟩
  simp only [PyData.depth]
  omega
theorem nil_shaped : SeqAt.shaped (.list []) = true := by simp [SeqAt.shaped, PyData.canLay0, PyData.canLayAll0, PyData.depth, PyData.depthAll]
theorem cells_nil (cs : List Cell) : (!PyData.eqv (.list (cs.map cellD)) (.list [])) = decide (cs ≠ []) := by
  cases cs with
  | nil => simp [PyData.eqv, PyData.eqvAll]
  | cons c r => simp [PyData.eqv, PyData.eqvAll]
end K08

set_option Elab.async false
set_option linter.all false
set_option maxRecDepth 100000
set_option maxHeartbeats 4000000
namespace K08
open PySem L2 Gs
def shD (a b : Bx) : PyData := if shNo a b then .none else boxD (shM a b)
theorem shD_comm (a b : Bx) : shD b a = shD a b := by
  unfold shD
  rw [shM_comm]
  by_cases h : shNo a b
  · rw [if_pos h, if_pos ((shNo_comm a b).mpr h)]
  · rw [if_neg h, if_neg (fun z => h ((shNo_comm a b).mp z))]
theorem shD_depth (a b : Bx) : (shD a b).depth ≤ 1 ∧ mxl (shD a b) ≤ 4 := by
  unfold shD
  split
  · simp [PyData.depth, mxl]
  · simp [boxD, PyData.depth, PyData.depthAll, mxl, mxlAll]
theorem box_dp {K : PySem.W.Frag} {H : Hp} {t : Addr} {b : Bx} (h : H t = some (.tup (boxL b))) : Dp K H (.ref t) (boxD b) := .tup (SqT.of h) (.cons (.int _) (.cons (.int _) (.cons (.int _) (.cons (.int _) .nil))))
theorem dp_int {K : PySem.W.Frag} {H : Hp} {i j : Int} (e : i = j) : Dp K H (.int i) (.int j) := by subst e; exact .int _
theorem dp_bl {K : PySem.W.Frag} {H : Hp} {i j : Bool} (e : i = j) : Dp K H (.bl i) (.bool j) := by subst e; exact .bl _
def spSharedU (K : PySem.W.Frag) : Sp := fun vs H Q _ => ∃ (p q : Addr) (a b : Bx), vs = [.ref p, .ref q] ∧ H p = some (.tup (boxL a)) ∧ H q = some (.tup (boxL b)) ∧ ∀ v H', Same H H' → Dp K H' v (shD a b) → Q v H'
theorem shared_u {K : PySem.W.Frag} (vs : List V) (H : Hp) (Q : VK) (E : XK) (h : spSharedU K vs H Q E) : spShared vs H Q E := by
  obtain ⟨p, q, a, b, e, h1, h2, k⟩ := h
  refine ⟨p, q, a, b, e, h1, h2, fun c => k _ H (Same.refl H) ?_, fun c t ht => k _ _ (same_new ht _) ?_⟩
  · unfold shD
    rw [if_pos c]
    exact .non
  · unfold shD
    rw [if_neg c]
    exact box_dp upd_same
theorem CellsAt.of {H : Hp} : ∀ {xs : List V} {cs : List Cell} {i : Nat} {c : Cell}, CellsAt H xs cs → cs[i]? = some c → ∃ t, xs[i]? = some (.ref t) ∧ H t = some (.tup [.int c.1, .int c.2])
  | _, _, _, _, .nil, e => by simp at e
  | _, _, 0, _, .cons ⟨t, e1, h⟩ _, e => by simp at e; subst e e1; exact ⟨t, rfl, h⟩
  | _, _, i + 1, _, .cons _ r, e => by simpa using CellsAt.of (i := i) r (by simpa using e)
theorem CellsAt.snoc {H : Hp} : ∀ {xs : List V} {cs : List Cell} {c : Cell}, CellsAt H xs (cs ++ [c]) → ∃ ys t, xs = ys ++ [.ref t] ∧ H t = some (.tup [.int c.1, .int c.2])
  | _, [], _, .cons ⟨t, e1, h⟩ .nil => by subst e1; exact ⟨[], t, rfl, h⟩
  | _, _ :: cs, _, .cons a r => by
    obtain ⟨ys, t, e, h⟩ := CellsAt.snoc (cs := cs) r
    subst e
    exact ⟨_ :: ys, t, rfl, h⟩
def spLaw (K : PySem.W.Frag) : Sp := fun vs H Q _ => ∃ (a : Addr) (ns : List Int), vs = [.ref a] ∧ SqL K H a (ns.map V.int) ∧ ns.length ≤ 63 ∧ ∀ H', Q (.bl true) H'
theorem far_at {r : Int} (h0 : 0 ≤ r) (h1 : r < 2) : ∃ x : Int, atI [V.int 0, V.int (10 ^ Int.toNat 6)] r = some (.int x) ∧ 0 ≤ x ∧ x ≤ 1000000 := by
  have : r = 0 ∨ r = 1 := by omega
  rcases this with rfl | rfl
  · exact ⟨0, atI_nat (j := 0) rfl, by decide, by decide⟩
  · exact ⟨10 ^ Int.toNat 6, atI_nat (j := 1) rfl, by decide, by decide⟩
theorem take_filter {α : Type} (l : List α) (p : α → Bool) {i : Nat} {x : α} (h : l[i]? = some x) : (l.take (i + 1)).filter p = (l.take i).filter p ++ (if p x = true then [x] else []) := by
  rw [List.take_add_one, h, List.filter_append]
  simp [List.filter_cons]
theorem both_len {a b : Bx} (A : Bd a) : (bothM a b).length ≤ 25 := by
  have h1 : (bothM a b).length ≤ (cellsM a).length := List.length_filter_le _ _
  have h2 : (cellsM a).length = a.h.toNat * a.w.toNat := rowsC_len a _
  have h3 : a.h.toNat * a.w.toNat ≤ 5 * 5 := Nat.mul_le_mul (by have := A.h1; omega) (by have := A.w1; omega)
  omega
theorem cells_len {a : Bx} (A : Bd a) : (cellsM a).length ≤ 25 := by
  have h2 : (cellsM a).length = a.h.toNat * a.w.toNat := rowsC_len a _
  have h3 : a.h.toNat * a.w.toNat ≤ 5 * 5 := Nat.mul_le_mul (by have := A.h1; omega) (by have := A.w1; omega)
  omega
section
variable {P : Program} {w : World} {K : PySem.W.Frag} {mg : Str → Option Value} {base : Heap} {f : Addr} {fd : FuncData}
abbrev s_law : Stmt := top 10
theorem sc_law : FnScope ["_law_script", "_law_draw", "_law_turn", "_law_one", "_law_other", "_law_far", "_law_both", "_law_due", "_law_row", "_law_column", "_law_cell"] ["_law_script"] (defScope s_law) := ⟨rfl, rfl, rfl, by decide +kernel, rfl, by decide +kernel, by decide +kernel⟩
theorem ok_law (F : Fun K "law" "law" s_law f fd) (T : Tx mg) (D_begin : Dn P w K mg base CX0 1 "_law_begin" ["_law_script"] (spBegin K)) (D_pick : Dn P w K mg base CX0 1 "_law_pick" ["_law_draw", "_law_many"] spPick)
    (D_box_drawn : Dn P w K mg base CX0 2 "_law_box_drawn" ["_law_draw", "_law_far"] spBox) (D_cells : Dn P w K mg base CX0 1 "_law_cells" ["_law_box"] spCells) (D_same : Dn P w K mg base CX0 3 "_law_same" ["_law_found", "_law_due"] (spSame K 3))
    (D_shared : Dn P w K mg base CX0 1 "shared" ["one", "other"] (spSharedU K)) (D_meet : Dn P w K mg base CX0 2 "meet" ["one", "other"] spMeet) (D_has : Dn P w K mg base CX0 3 "has" ["box", "row", "column"] spHas) :
    FnOk P w K mg base CX0 4 f fd ["_law_script"] (spLaw K) := by
  refine F.ok sc_law (fun vs H Q E h => ?_) (fun cdv A outer s H vs Q E hr h => ?_)
  · obtain ⟨a, ns, rfl, _⟩ := h
    rfl
  · obtain ⟨scr, ns, rfl, hS, h63, k⟩ := h
    have hu65 : (A.deeper (PyProof.Rows.envOfC "law" (defScope s_law) s.heap.objs.size f cdv)).units + 65 < cLine := by have := hr.un; omega
    refine ⟨_, (pss_cons (ps_set (i := 1) sc_law.nd rfl (.inl rfl) (pe_callD D_begin (hr.mono (by omega)) (by rfl) pass0 (pa_cons (pv 0) pa_nil)))
      (pss_cons (ps_for PassesOwn.never rfl (pi_range1 (by rfl) T.no_range (pa_cons pe_int pa_nil)) (pg_name (i := 2) sc_law.nd rfl (.inl rfl))
        (pss_cons (ps_set (i := 3) sc_law.nd rfl (.inl rfl) (pe_callD D_box_drawn (hr.mono (by omega)) (by rfl) pass0 (pa_cons (pv 1) (pa_cons pe_int pa_nil))))
        (pss_cons (ps_set (i := 4) sc_law.nd rfl (.inr rfl) (pe_callD D_box_drawn (hr.mono (by omega)) (by rfl) pass0 (pa_cons (pv 1) (pa_cons pe_int pa_nil))))
        (pss_cons (ps_set (i := 5) sc_law.nd rfl (.inl rfl) (pe_ix ix_tup (pe_tup (pa_cons pe_int (pa_cons (pe_op op_pow pe_int pe_int) pa_nil))) (pe_callD D_pick (hr.mono (by omega)) (by rfl) pass0 (pa_cons (pv 1) (pa_cons pe_int pa_nil))) (fun _ _ => rfl)))
        (pss_cons (ps_set (i := 3) sc_law.nd rfl (.inl rfl) (pe_tup (pa_cons (pe_op op_add (pe_ix ix_tup (pv 3) pe_int (fun _ _ => rfl)) (pv 5)) (pa_cons (pe_ix ix_tup (pv 3) pe_int (fun _ _ => rfl)) (pa_cons (pe_ix ix_tup (pv 3) pe_int (fun _ _ => rfl)) (pa_cons (pe_ix ix_tup (pv 3) pe_int (fun _ _ => rfl)) pa_nil))))))
        (pss_cons (ps_set (i := 4) sc_law.nd rfl (.inr rfl) (pe_tup (pa_cons (pe_op op_add (pe_ix ix_tup (pv 4) pe_int (fun _ _ => rfl)) (pv 5)) (pa_cons (pe_ix ix_tup (pv 4) pe_int (fun _ _ => rfl)) (pa_cons (pe_ix ix_tup (pv 4) pe_int (fun _ _ => rfl)) (pa_cons (pe_ix ix_tup (pv 4) pe_int (fun _ _ => rfl)) pa_nil))))))
        (pss_cons (ps_setLc (i := 6) (own := [("_law_cell", 10)]) (g := gName 10) rfl sc_law.nd rfl rfl (sw_true rfl rfl rfl (by decide +kernel)) (pi_list (pe_callD D_cells (hr.mono (by omega)) (by rfl) pass0 (pa_cons (pv 3) pa_nil))) (blkOk_by (N := ["_law_script", "_law_draw", "_law_turn", "_law_one", "_law_other", "_law_far", "_law_both", "_law_due", "_law_row", "_law_column", "_law_cell"]) (sc := defScope s_law) (by decide +kernel)) (fun _ _ _ _ _ => (pg_name (i := 10) sc_law.nd rfl (Or.inl rfl))) (fun _ _ _ _ _ => (pts_one (pt_cmpR (inDk (K := K) rfl hu65) (pv 10) (pe_callD D_cells (hr.mono (by omega)) (by rfl) pass0 (pa_cons (pv 4) pa_nil)) (by rfl)))) (fun _ _ _ _ _ => (pv 10)))
        (pss_cons (ps_set (i := 7) sc_law.nd rfl (.inl rfl) pe_non)
        (C8.pss_cut (ps_if (pt_cmpR (op_neD hr.units) (pv 6) (pe_lst pa_nil) (nomark _)) (pss_one (ps_set (i := 7) sc_law.nd rfl (.inl rfl) (pe_op op_catT (pe_ix ix_list (pv 6) pe_int (fun _ _ => rfl)) (pe_tup (pa_cons (pe_op op_add (pe_op op_sub (pe_ix ix_tup (pe_ix ix_list (pv 6) (pe_un un_neg pe_int) (fun _ _ => rfl)) pe_int (fun _ _ => rfl)) (pe_ix ix_tup (pe_ix ix_list (pv 6) pe_int (fun _ _ => rfl)) pe_int (fun _ _ => rfl))) pe_int) (pa_cons (pe_op op_add (pe_op op_sub (pe_ix ix_tup (pe_ix ix_list (pv 6) (pe_un un_neg pe_int) (fun _ _ => rfl)) pe_int (fun _ _ => rfl)) (pe_ix ix_tup (pe_ix ix_list (pv 6) pe_int (fun _ _ => rfl)) pe_int (fun _ _ => rfl))) pe_int) pa_nil)))))) pss_nil)
        (pss_cons (ps_if (pt_not (pt_val (pe_callD D_same (hr.mono (by omega)) (by rfl) pass0 (pa_cons (pe_lst (pa_cons (pe_callD D_shared (hr.mono (by omega)) (by rfl) pass0 (pa_cons (pv 3) (pa_cons (pv 4) pa_nil))) (pa_cons (pe_callD D_shared (hr.mono (by omega)) (by rfl) pass0 (pa_cons (pv 4) (pa_cons (pv 3) pa_nil))) pa_nil))) (pa_cons (pe_lst (pa_cons (pv 7) (pa_cons (pv 7) pa_nil))) pa_nil))))) (pss_one (ps_ret pe_bl)) pss_nil)
        (pss_cons (ps_if (pt_not (pt_val (pe_callD D_same (hr.mono (by omega)) (by rfl) pass0 (pa_cons (pe_lst (pa_cons (pe_callD D_meet (hr.mono (by omega)) (by rfl) pass0 (pa_cons (pv 3) (pa_cons (pv 4) pa_nil))) (pa_cons (pe_callD D_meet (hr.mono (by omega)) (by rfl) pass0 (pa_cons (pv 4) (pa_cons (pv 3) pa_nil))) pa_nil))) (pa_cons (pe_lst (pa_cons (pe_cmpR (op_neD hr.units) (pv 6) (pe_lst pa_nil) (nomark _)) (pa_cons (pe_cmpR (op_neD hr.units) (pv 6) (pe_lst pa_nil) (nomark _)) pa_nil))) pa_nil))))) (pss_one (ps_ret pe_bl)) pss_nil)
        (pss_one (ps_for PassesOwn.never rfl (pi_range2 (by rfl) T.no_range (pa_cons (pe_op op_sub (pe_ix ix_tup (pv 3) pe_int (fun _ _ => rfl)) pe_int) (pa_cons (pe_op op_add (pe_op op_add (pe_ix ix_tup (pv 3) pe_int (fun _ _ => rfl)) (pe_ix ix_tup (pv 3) pe_int (fun _ _ => rfl))) pe_int) pa_nil))) (pg_name (i := 8) sc_law.nd rfl (.inl rfl))
          (pss_one (ps_for PassesOwn.never rfl (pi_range2 (by rfl) T.no_range (pa_cons (pe_op op_sub (pe_ix ix_tup (pv 3) pe_int (fun _ _ => rfl)) pe_int) (pa_cons (pe_op op_add (pe_op op_add (pe_ix ix_tup (pv 3) pe_int (fun _ _ => rfl)) (pe_ix ix_tup (pv 3) pe_int (fun _ _ => rfl))) pe_int) pa_nil))) (pg_name (i := 9) sc_law.nd rfl (.inl rfl))
            (pss_one (ps_if (pt_not (pt_val (pe_callD D_same (hr.mono (by omega)) (by rfl) pass0 (pa_cons (pe_callD D_has (hr.mono (by omega)) (by rfl) pass0 (pa_cons (pv 3) (pa_cons (pv 8) (pa_cons (pv 9) pa_nil)))) (pa_cons (pe_cmpR (op_inD hu65) (pe_tup (pa_cons (pv 8) (pa_cons (pv 9) pa_nil))) (pe_callD D_cells (hr.mono (by omega)) (by rfl) pass0 (pa_cons (pv 3) pa_nil)) (by rfl)) pa_nil))))) (pss_one (ps_ret pe_bl)) pss_nil)))))))))))))))))
      (pss_one (ps_ret pe_bl)))), ?_⟩
    refine ⟨_, rfl, _, _, rfl, hS, fun a H1 na D1 s1 => ?_⟩
    refine ⟨_, rfl, by decide, by decide, ?_⟩
    refine for_range (lo := 0) (n := Int.toNat 4) (fun i σ H' => DrawAt H' a ∧ ∃ x2 x3 x4 x5 x6 x7 x8 x9, σ = [some (.ref scr), some (.ref a), x2, x3, x4, x5, x6, x7, x8, x9, none]) ⟨D1, _, _, _, _, _, _, _, _, rfl⟩ ?_ (fun σ H' _ => k H')
    rintro i σ H2 hi ⟨D2, x2, x3, x4, x5, x6, x7, x8, x9, rfl⟩
    -- the two boxes
    refine ⟨_, rfl, _, _, rfl, D2, by decide, by decide, fun t1 b1 H3 r10 r11 c10 c11 h10 h11 w10 w11 X3 e1 => ?_⟩
    refine ⟨_, rfl, _, _, rfl, X3.1, by decide, by decide, fun t2 b2 H4 r20 r21 c20 c21 h20 h21 w20 w21 X4 e2 => ?_⟩
    have e1' := X4.tup X3.1 e1
    -- far
    refine ⟨_, _, rfl, rfl, ⟨by decide, by decide, by decide⟩, (by show 2 ≤ sizeLine; decide), fun t3 n3 => ?_⟩
    have s3 := same_new n3 (.tup [.int 0, .int (10 ^ Int.toNat 6)])
    have D4 := X4.1.same s3
    refine ⟨_, rfl, _, _, rfl, D4, by decide, by decide, fun r H5 p0 p1 D5 q5 => ?_⟩
    have X5 : Ext a H4 H5 := (Ext.of X4.1 s3).trans (Ext.pick D5 q5)
    have f1 := X5.tup X4.1 e1'
    have f2 := X5.tup X4.1 e2
    have e3 : H5 t3 = some (.tup [.int 0, .int (10 ^ Int.toNat 6)]) := (Ext.pick D5 q5).tup D4 upd_same
    obtain ⟨far, ef, f0, f6⟩ := far_at p0 p1
    refine ⟨_, _, _, _, rfl, rfl, SqT.of e3, ef, ?_⟩
    refine ⟨_, rfl, _, _, _, _, rfl, rfl, SqT.of f1, atI_nat (j := 0) rfl, _, rfl, _, _, rfl, rfl, _, rfl, _, _, _, _, rfl, rfl, SqT.of f1, atI_nat (j := 1) rfl, _, rfl, _, _, _, _, rfl, rfl, SqT.of f1, atI_nat (j := 2) rfl, _, rfl, _, _, _, _, rfl, rfl, SqT.of f1, atI_nat (j := 3) rfl, (by show 4 ≤ sizeLine; decide), fun t4 n4 => ?_⟩
    have s4 := same_new n4 (.tup [.int (b1.r + far), .int b1.c, .int b1.h, .int b1.w])
    have g2 := s4 _ _ f2
    refine ⟨_, rfl, _, _, _, _, rfl, rfl, SqT.of g2, atI_nat (j := 0) rfl, _, rfl, _, _, rfl, rfl, _, rfl, _, _, _, _, rfl, rfl, SqT.of g2, atI_nat (j := 1) rfl, _, rfl, _, _, _, _, rfl, rfl, SqT.of g2, atI_nat (j := 2) rfl, _, rfl, _, _, _, _, rfl, rfl, SqT.of g2, atI_nat (j := 3) rfl, (by show 4 ≤ sizeLine; decide), fun t5 n5 => ?_⟩
    have s5 := same_new n5 (.tup [.int (b2.r + far), .int b2.c, .int b2.h, .int b2.w])
    obtain ⟨c1, ec1⟩ : ∃ c : Bx, c = ⟨b1.r + far, b1.c, b1.h, b1.w⟩ := ⟨_, rfl⟩
    obtain ⟨c2, ec2⟩ : ∃ c : Bx, c = ⟨b2.r + far, b2.c, b2.h, b2.w⟩ := ⟨_, rfl⟩
    have B1 : Bd c1 := by subst ec1; exact ⟨by show 0 ≤ b1.r + far; omega, by show b1.r + far < 10000000; omega, c10, by show b1.c < 1000; omega, h10, h11, w10, w11⟩
    have B2 : Bd c2 := by subst ec2; exact ⟨by show 0 ≤ b2.r + far; omega, by show b2.r + far < 10000000; omega, c20, by show b2.c < 1000; omega, h20, h21, w20, w21⟩
    have l1 : [V.int (b1.r + far), V.int b1.c, V.int b1.h, V.int b1.w] = boxL c1 := by subst ec1; rfl
    have l2 : [V.int (b2.r + far), V.int b2.c, V.int b2.h, V.int b2.w] = boxL c2 := by subst ec2; rfl
    rw [l1] at s4 n5 s5 ⊢
    rw [l2] at s5 ⊢
    have D6 : DrawAt (upd (upd H5 t4 (.tup (boxL c1))) t5 (.tup (boxL c2))) a := D5.same (s4.trans s5)
    have k4 : (upd (upd H5 t4 (.tup (boxL c1))) t5 (.tup (boxL c2))) t4 = some (.tup (boxL c1)) := s5 _ _ upd_same
    have k5 : (upd (upd H5 t4 (.tup (boxL c1))) t5 (.tup (boxL c2))) t5 = some (.tup (boxL c2)) := upd_same
    generalize upd (upd H5 t4 (.tup (boxL c1))) t5 (.tup (boxL c2)) = H6 at D6 k4 k5 ⊢
    -- the cells of both
    refine ⟨_, rfl, _, _, rfl, k4, B1, fun l xs H7 s7 hl7 c7 => ?_⟩
    refine ⟨l, rfl, ⟨_, SqL.of hl7⟩, fun D hD => ?_⟩
    refine lc_list (K := K) (a := l) (xs := xs) (fun i H8 => Same H7 H8 ∧ ∃ zs, H8 D = some (.lst zs) ∧ CellsAt H8 zs (((cellsM c1).take i).filter fun x => decide (x ∈ cellsM c2))) ⟨same_new hD _, [], upd_same, .nil⟩ (fun i H8 _ p => SqL.of (p.1 _ _ hl7)) ?_ ?_
    · rintro j x H8 hx ⟨s8, zs, hz, cz⟩
      obtain ⟨t, c, rfl, hc, ht⟩ := c7.get hx
      refine ⟨rfl, ?_⟩
      refine ⟨_, rfl, _, rfl, _, _, rfl, (s7.trans s8) _ _ k5, B2, fun m ys H9 s9 hl9 c9 => ?_⟩
      have ht9 := s9 _ _ (s8 _ _ ht)
      refine ⟨cellD c, (cellsM c2).map cellD, .tup (SqT.of ht9) (.cons (.int _) (.cons (.int _) .nil)), .lst (SqL.of hl9) c9.dp, cellD_shaped c, cells_shaped _, _, rfl, ?_⟩
      rw [cells_any]
      have zl := cz.len
      have zl2 : zs.length ≤ 25 := by
        rw [zl]
        exact Nat.le_trans (List.length_filter_le _ _) (Nat.le_trans (List.length_take_le _ _) (by
          have := cells_len B1
          have := (List.getElem?_eq_some_iff.mp hc).1
          omega))
      refine ite2 (fun q => ?_) (fun q => ?_)
      · refine ⟨_, rfl, zs, s9 _ _ hz, Nat.lt_of_le_of_lt zl2 (by decide), ?_, _, upd_same, ?_⟩
        · intro b' o z
          rw [upd_ne (ne_of_none z hD)]
          exact s9 _ _ (s8 _ _ z)
        · rw [take_filter _ _ hc, if_pos q]
          have ts := TupSame.lst (s9 _ _ hz) (.lst (zs ++ [.ref t]))
          exact CellsAt.append (cz.mono ((TupSame.of s9).trans ts)) (.cons ⟨t, rfl, ts _ _ ht9⟩ .nil)
      · refine ⟨s8.trans s9, zs, s9 _ _ hz, ?_⟩
        rw [take_filter _ _ hc, if_neg q, List.append_nil]
        exact cz.mono (TupSame.of s9)
    rintro H8 ⟨s8, zs, hz, cz⟩
    rw [show (((cellsM c1).take xs.length).filter fun x => decide (x ∈ cellsM c2)) = bothM c1 c2 by rw [c7.len, List.take_length]; rfl] at cz
    have D8 := D6.same (s7.trans s8)
    have k4' := (s7.trans s8) _ _ k4
    have k5' := (s7.trans s8) _ _ k5
    clear hl7 c7 s7 hD
    -- due
    have both_dp : ∀ H', Same H8 H' → Dp K H' (.ref D) (.list ((bothM c1 c2).map cellD)) := fun H' s' => .lst (SqL.of (s' _ _ hz)) (cz.mono (TupSame.of s')).dp
    have nil_dp : ∀ (H' : Hp) (p : Addr), H' p = some (.lst []) → Dp K H' (.ref p) (.list []) := fun H' p h => .lst (SqL.of h) .nil
    refine ⟨fun σ H' => Same H8 H' ∧ ∃ v, σ = [some (.ref scr), some (.ref a), some (.int (0 + (i : Int))), some (.ref t4), some (.ref t5), some (.int far), some (.ref D), some v, x8, x9, none] ∧ Dp K H' v (shD c1 c2), ?_, ?_⟩
    · refine ⟨_, rfl, (by show 0 ≤ sizeLine; decide), fun p9 n9 => ?_⟩
      have s9 := same_new n9 (.lst [])
      refine ⟨_, _, both_dp _ s9, nil_dp _ _ upd_same, cells_shaped _, nil_shaped, _, rfl, ?_⟩
      rw [cells_nil]
      refine ite2 (fun q => ?_) (fun q => ?_)
      · have yes : ¬ shNo c1 c2 := fun z => (of_decide_eq_true q) ((sh_none B1 B2).mpr z)
        obtain ⟨tf, ef0, hf⟩ := cz.of (sh_first B1 B2 yes)
        obtain ⟨rr, er⟩ := sh_last B1 B2 yes
        have cz2 := cz
        rw [er] at cz2
        obtain ⟨ys, tl, ez, hl⟩ := cz2.snoc
        have at0 : atI zs 0 = some (.ref tf) := atI_nat (j := 0) ef0
        have atl : atI zs (-1) = some (.ref tl) := by rw [ez]; exact atI_last ys _
        have hz9 := s9 _ _ hz
        have hf9 := s9 _ _ hf
        have hl9 := s9 _ _ hl
        refine ⟨_, rfl, _, _, _, _, rfl, rfl, SqL.of hz9, at0, _, rfl, _, rfl, _, _, _, _, rfl, rfl, SqL.of hz9, atl, _, _, _, _, rfl, rfl, SqT.of hl9, atI_nat (j := 0) rfl, _, rfl, _, _, _, _, rfl, rfl, SqL.of hz9, at0, _, _, _, _, rfl, rfl, SqT.of hf9, atI_nat (j := 0) rfl, _, _, rfl, rfl, _, _, rfl, rfl, ?_⟩
        refine ⟨_, rfl, _, rfl, _, _, _, _, rfl, rfl, SqL.of hz9, atl, _, _, _, _, rfl, rfl, SqT.of hl9, atI_nat (j := 1) rfl, _, rfl, _, _, _, _, rfl, rfl, SqL.of hz9, at0, _, _, _, _, rfl, rfl, SqT.of hf9, atI_nat (j := 1) rfl, _, _, rfl, rfl, _, _, rfl, rfl, (by show 2 ≤ sizeLine; decide), fun u hu => ?_⟩
        refine ⟨_, _, _, _, rfl, rfl, SqT.of ((same_new hu _) _ _ hf9), SqT.of upd_same, (by simp), (by show 4 ≤ sizeLine; decide), (fun z => by simp at z), fun _ y hy => ?_⟩
        refine ⟨s9.trans ((same_new hu _).trans (same_new hy _)), _, rfl, ?_⟩
        unfold shD
        rw [if_neg yes]
        refine .tup (SqT.of upd_same) ?_
        have z1 : (shM c1 c2).r + (shM c1 c2).h - 1 - (shM c1 c2).r + 1 = (shM c1 c2).h := by omega
        have z2 : (shM c1 c2).c + (shM c1 c2).w - 1 - (shM c1 c2).c + 1 = (shM c1 c2).w := by omega
        exact .cons (.int _) (.cons (.int _) (.cons (dp_int z1) (.cons (dp_int z2) .nil)))
      · have no : shNo c1 c2 := (sh_none B1 B2).mp (by
          by_cases e : bothM c1 c2 = []
          · exact e
          · exact absurd (decide_eq_true e) q)
        refine ⟨s9, _, rfl, ?_⟩
        unfold shD
        rw [if_pos no]
        exact .non
    rintro σ H9 ⟨s9, v, rfl, dv⟩
    have k4n := s9 _ _ k4'
    have k5n := s9 _ _ k5'
    have D9 := D8.same s9
    obtain ⟨dp1, dp2⟩ := shD_depth c1 c2
    -- shared, both ways
    refine ⟨_, rfl, _, rfl, _, _, c1, c2, rfl, k4n, k5n, fun v1 HA sA d1 => ?_⟩
    refine ⟨_, rfl, _, rfl, _, _, c2, c1, rfl, sA _ _ k5n, sA _ _ k4n, fun v2 HB sB d2 => ?_⟩
    rw [shD_comm] at d2
    refine ⟨(by show 2 ≤ sizeLine; decide), fun La na' => ?_⟩
    have sC := same_new na' (.lst [v1, v2])
    refine ⟨_, rfl, _, rfl, (by show 2 ≤ sizeLine; decide), fun Lb nb => ?_⟩
    have sD := same_new nb (.lst [v, v])
    refine ⟨_, _, .list [shD c1 c2, shD c1 c2], rfl, .lst (SqL.of (sD _ _ upd_same)) (.cons (dp_same (sB.trans (sC.trans sD)) _ _ d1) (.cons (dp_same (sC.trans sD) _ _ d2) .nil)),
      .lst (SqL.of upd_same) (.cons (dp_same (sA.trans (sB.trans (sC.trans sD))) _ _ dv) (.cons (dp_same (sA.trans (sB.trans (sC.trans sD))) _ _ dv) .nil)), ?_, ?_, fun HE sE => ⟨_, rfl, ?_⟩⟩
    · simp only [PyData.depth, PyData.depthAll]
      omega
    · simp only [mxl, mxlAll, List.length_cons, List.length_nil]
      omega
    refine ifF (by simp) ?_
    have sAll := sA.trans (sB.trans (sC.trans (sD.trans sE)))
    have k4e := sAll _ _ k4n
    have k5e := sAll _ _ k5n
    have D_e := D9.same sAll
    have s8e := s9.trans sAll
    clear sA sB sC sD sE d1 d2 na' nb
    -- meet, both ways
    refine ⟨_, rfl, _, rfl, _, _, c1, c2, rfl, k4e, k5e, fun HA sA => ?_⟩
    refine ⟨_, rfl, _, rfl, _, _, c2, c1, rfl, sA _ _ k5e, sA _ _ k4e, fun HB sB => ?_⟩
    refine ⟨(by show 2 ≤ sizeLine; decide), fun La na' => ?_⟩
    have sC := same_new na' (.lst [.bl (!decide (shNo c1 c2)), .bl (!decide (shNo c2 c1))])
    refine ⟨_, rfl, (by show 0 ≤ sizeLine; decide), fun p1 n1 => ?_⟩
    have sD := same_new n1 (.lst [])
    refine ⟨_, _, both_dp _ (s8e.trans (sA.trans (sB.trans (sC.trans sD)))), nil_dp _ _ upd_same, cells_shaped _, nil_shaped, ?_⟩
    refine ⟨_, rfl, (by show 0 ≤ sizeLine; decide), fun p2 n2 => ?_⟩
    have sE := same_new n2 (.lst [])
    refine ⟨_, _, both_dp _ (s8e.trans (sA.trans (sB.trans (sC.trans (sD.trans sE))))), nil_dp _ _ upd_same, cells_shaped _, nil_shaped, ?_⟩
    refine ⟨(by show 2 ≤ sizeLine; decide), fun Lb nb => ?_⟩
    rw [cells_nil]
    have em : (!decide (shNo c1 c2)) = decide (bothM c1 c2 ≠ []) := by
      by_cases e : shNo c1 c2
      · rw [decide_eq_true e, decide_eq_false (fun z => z ((sh_none B1 B2).mpr e))]
        rfl
      · rw [decide_eq_false e, decide_eq_true (show bothM c1 c2 ≠ [] from fun z => e ((sh_none B1 B2).mp z))]
        rfl
    have em2 : (!decide (shNo c2 c1)) = decide (bothM c1 c2 ≠ []) := by
      rw [← em]
      congr 1
      exact decide_eq_decide.mpr (shNo_comm c1 c2)
    have sF := same_new nb (.lst [.bl (decide (bothM c1 c2 ≠ [])), .bl (decide (bothM c1 c2 ≠ []))])
    refine ⟨_, _, .list [.bool (decide (bothM c1 c2 ≠ [])), .bool (decide (bothM c1 c2 ≠ []))], rfl, .lst (SqL.of (sF _ _ (sE _ _ (sD _ _ upd_same)))) (.cons (dp_bl em) (.cons (dp_bl em2) .nil)), .lst (SqL.of upd_same) (.cons (.bl _) (.cons (.bl _) .nil)), ?_, ?_, fun HG sG => ⟨_, rfl, ?_⟩⟩
    · simp [PyData.depth, PyData.depthAll]
    · simp [mxl, mxlAll]
    refine ifF (by simp) ?_
    have sAll2 := sA.trans (sB.trans (sC.trans (sD.trans (sE.trans (sF.trans sG)))))
    have k4g := sAll2 _ _ k4e
    have D_g := D_e.same sAll2
    clear sA sB sC sD sE sF sG
    obtain ⟨r0, r1, c0, c1', h0, h1, w0, w1⟩ := B1
    -- has, cell by cell
    refine ⟨_, rfl, _, _, _, _, rfl, rfl, SqT.of k4g, atI_nat (j := 0) rfl, _, _, rfl, rfl, _, rfl, _, _, _, _, rfl, rfl, SqT.of k4g, atI_nat (j := 0) rfl, _, rfl, _, _, _, _, rfl, rfl, SqT.of k4g, atI_nat (j := 2) rfl, _, _, rfl, rfl, _, _, rfl, rfl, _, _, rfl, ⟨by omega, by omega, by omega, by omega⟩, ?_⟩
    refine for_range (lo := c1.r - 1) (n := (c1.r + c1.h + 1 - (c1.r - 1)).toNat) (fun _ σ H' => (DrawAt H' a ∧ H' t4 = some (.tup (boxL c1))) ∧ ∃ y8 y9, σ = [some (.ref scr), some (.ref a), some (.int (0 + (i : Int))), some (.ref t4), some (.ref t5), some (.int far), some (.ref D), some v, y8, y9, none]) ⟨⟨D_g, k4g⟩, _, _, rfl⟩ ?_ ?_
    · rintro i1 σ HI _ ⟨⟨D_i, k4i⟩, y8, y9, rfl⟩
      refine ⟨_, rfl, _, _, _, _, rfl, rfl, SqT.of k4i, atI_nat (j := 1) rfl, _, _, rfl, rfl, _, rfl, _, _, _, _, rfl, rfl, SqT.of k4i, atI_nat (j := 1) rfl, _, rfl, _, _, _, _, rfl, rfl, SqT.of k4i, atI_nat (j := 3) rfl, _, _, rfl, rfl, _, _, rfl, rfl, _, _, rfl, ⟨by omega, by omega, by omega, by omega⟩, ?_⟩
      refine for_range (lo := c1.c - 1) (n := (c1.c + c1.w + 1 - (c1.c - 1)).toNat) (fun _ σ H' => (DrawAt H' a ∧ H' t4 = some (.tup (boxL c1))) ∧ ∃ y9, σ = [some (.ref scr), some (.ref a), some (.int (0 + (i : Int))), some (.ref t4), some (.ref t5), some (.int far), some (.ref D), some v, some (.int (c1.r - 1 + (i1 : Int))), y9, none]) ⟨⟨D_i, k4i⟩, _, rfl⟩ ?_ ?_
      · rintro j1 σ HJ _ ⟨⟨D_j, k4j⟩, y9, rfl⟩
        refine ⟨_, rfl, _, rfl, _, rfl, _, c1, _, _, rfl, k4j, fun HA sA => ?_⟩
        refine ⟨_, rfl, _, rfl, (by show 2 ≤ sizeLine; decide), fun t ht => ?_⟩
        have sB := same_new ht (.tup [.int (c1.r - 1 + (i1 : Int)), .int (c1.c - 1 + (j1 : Int))])
        refine ⟨_, rfl, _, c1, rfl, sB _ _ (sA _ _ k4j), ⟨r0, r1, c0, c1', h0, h1, w0, w1⟩, fun m ys HC sC hm cm => ?_⟩
        refine ⟨cellD (c1.r - 1 + (i1 : Int), c1.c - 1 + (j1 : Int)), (cellsM c1).map cellD, .tup (SqT.of (sC _ _ upd_same)) (.cons (.int _) (.cons (.int _) .nil)), .lst (SqL.of hm) cm.dp, cellD_shaped _, cells_shaped _, ?_⟩
        rw [cells_any, has_iff ⟨r0, r1, c0, c1', h0, h1, w0, w1⟩]
        refine ⟨_, _, .bool (decide ((c1.r - 1 + (i1 : Int), c1.c - 1 + (j1 : Int)) ∈ cellsM c1)), rfl, .bl _, .bl _, by simp [PyData.depth], by simp [mxl], fun HD sD => ⟨_, rfl, ?_⟩⟩
        refine ifF (by simp) ?_
        have sX := sA.trans (sB.trans (sC.trans sD))
        exact ⟨⟨D_j.same sX, sX _ _ k4j⟩, _, rfl⟩
      · rintro σ HJ ⟨⟨D_j, k4j⟩, y9, rfl⟩
        exact ⟨⟨D_j, k4j⟩, _, _, rfl⟩
    · rintro σ HI ⟨⟨D_i, k4i⟩, y8, y9, rfl⟩
      exact ⟨D_i, _, _, _, _, _, _, _, _, rfl⟩
end
end K08

set_option Elab.async false
set_option linter.all false
set_option maxRecDepth 100000
set_option maxHeartbeats 4000000
namespace K08
open PySem L2 Gs
theorem same_none {P : Program} {w : World} {K : PySem.W.Frag} {mg : Str → Option Value} {base : Heap} {f : Addr} {fd : FuncData} : FnOk P w K mg base CX0 0 f fd ["_law_found", "_law_due"] (spSame K 0) := by
  have no : ∀ vs H Q E, ¬ spSame K 0 vs H Q E := fun vs H Q E h => by
    obtain ⟨x, y, d, _, _, _, h1, _⟩ := h
    omega
  exact ⟨fun vs H Q E h => absurd h (no vs H Q E), fun A outer s H args us vs Q E _ _ _ _ h => absurd h (no vs H Q E)⟩
theorem same_all {P : Program} {w : World} {K : PySem.W.Frag} {mg : Str → Option Value} {base : Heap} {f : Addr} {fd : FuncData} (F : Fun K "_law_same" "_law_same" s_same f fd) (T : Tx mg) (b : Binds K fd ["_law_found", "_law_due"] []) (m : mg "_law_same" = some (.ref f)) (kp : PySem.W.keepIn K (.ref f) = true) :
    ∀ n : Nat, Dn P w K mg base CX0 n "_law_same" ["_law_found", "_law_due"] (spSame K n)
  | 0 => ⟨f, fd, same_none, m, kp, b⟩
  | n + 1 => ⟨f, fd, ok_same F T (same_all F T b m kp n), m, kp, b⟩
theorem all_mk {l : PySem.W.OpenLaw} {w : World} {K : PySem.W.Frag} {h : Heap} {mg : Str → Option Value} {fa : Addr} (X : K.In h) (G : h.Ns mainGlobals mg) (hfa : mg "law" = some (.ref fa))
    {f_shared : Addr} {od_shared an_shared : Option Addr} {sl_shared : Array (Option Value)} {oc_shared kV_shared dc_shared pm_shared cd_shared ct_shared : Value}
    (a_shared : PySem.W.nsIn K mainGlobals "shared" = some (some (.ref f_shared)))
    (l_shared : K.lookup f_shared = some ⟨oc_shared, od_shared, .func (PySem.W.fnOf "shared" "shared" (defArgs s_shared) (defBody s_shared) (defScope s_shared) .none kV_shared dc_shared pm_shared an_shared cd_shared ct_shared), sl_shared⟩)
    (c_shared : PySem.W.codeIn K cd_shared "shared" = true) (k_shared : PySem.W.keepIn K (.ref f_shared) = true)
    {f_meet : Addr} {od_meet an_meet : Option Addr} {sl_meet : Array (Option Value)} {oc_meet kV_meet dc_meet pm_meet cd_meet ct_meet : Value}
    (a_meet : PySem.W.nsIn K mainGlobals "meet" = some (some (.ref f_meet)))
    (l_meet : K.lookup f_meet = some ⟨oc_meet, od_meet, .func (PySem.W.fnOf "meet" "meet" (defArgs s_meet) (defBody s_meet) (defScope s_meet) .none kV_meet dc_meet pm_meet an_meet cd_meet ct_meet), sl_meet⟩)
    (c_meet : PySem.W.codeIn K cd_meet "meet" = true) (k_meet : PySem.W.keepIn K (.ref f_meet) = true)
    {f_has : Addr} {od_has an_has : Option Addr} {sl_has : Array (Option Value)} {oc_has kV_has dc_has pm_has cd_has ct_has : Value}
    (a_has : PySem.W.nsIn K mainGlobals "has" = some (some (.ref f_has)))
    (l_has : K.lookup f_has = some ⟨oc_has, od_has, .func (PySem.W.fnOf "has" "has" (defArgs s_has) (defBody s_has) (defScope s_has) .none kV_has dc_has pm_has an_has cd_has ct_has), sl_has⟩)
    (c_has : PySem.W.codeIn K cd_has "has" = true) (k_has : PySem.W.keepIn K (.ref f_has) = true)
    {f_begin : Addr} {od_begin an_begin : Option Addr} {sl_begin : Array (Option Value)} {oc_begin kV_begin dc_begin pm_begin cd_begin ct_begin : Value}
    (a_begin : PySem.W.nsIn K mainGlobals "_law_begin" = some (some (.ref f_begin)))
    (l_begin : K.lookup f_begin = some ⟨oc_begin, od_begin, .func (PySem.W.fnOf "_law_begin" "_law_begin" (defArgs s_begin) (defBody s_begin) (defScope s_begin) .none kV_begin dc_begin pm_begin an_begin cd_begin ct_begin), sl_begin⟩)
    (c_begin : PySem.W.codeIn K cd_begin "_law_begin" = true) (k_begin : PySem.W.keepIn K (.ref f_begin) = true)
    {f_pick : Addr} {od_pick an_pick : Option Addr} {sl_pick : Array (Option Value)} {oc_pick kV_pick dc_pick pm_pick cd_pick ct_pick : Value}
    (a_pick : PySem.W.nsIn K mainGlobals "_law_pick" = some (some (.ref f_pick)))
    (l_pick : K.lookup f_pick = some ⟨oc_pick, od_pick, .func (PySem.W.fnOf "_law_pick" "_law_pick" (defArgs s_pick) (defBody s_pick) (defScope s_pick) .none kV_pick dc_pick pm_pick an_pick cd_pick ct_pick), sl_pick⟩)
    (c_pick : PySem.W.codeIn K cd_pick "_law_pick" = true) (k_pick : PySem.W.keepIn K (.ref f_pick) = true)
    {f_box_drawn : Addr} {od_box_drawn an_box_drawn : Option Addr} {sl_box_drawn : Array (Option Value)} {oc_box_drawn kV_box_drawn dc_box_drawn pm_box_drawn cd_box_drawn ct_box_drawn : Value}
    (a_box_drawn : PySem.W.nsIn K mainGlobals "_law_box_drawn" = some (some (.ref f_box_drawn)))
    (l_box_drawn : K.lookup f_box_drawn = some ⟨oc_box_drawn, od_box_drawn, .func (PySem.W.fnOf "_law_box_drawn" "_law_box_drawn" (defArgs s_box_drawn) (defBody s_box_drawn) (defScope s_box_drawn) .none kV_box_drawn dc_box_drawn pm_box_drawn an_box_drawn cd_box_drawn ct_box_drawn), sl_box_drawn⟩)
    (c_box_drawn : PySem.W.codeIn K cd_box_drawn "_law_box_drawn" = true) (k_box_drawn : PySem.W.keepIn K (.ref f_box_drawn) = true)
    {f_cells : Addr} {od_cells an_cells : Option Addr} {sl_cells : Array (Option Value)} {oc_cells kV_cells dc_cells pm_cells cd_cells ct_cells : Value}
    (a_cells : PySem.W.nsIn K mainGlobals "_law_cells" = some (some (.ref f_cells)))
    (l_cells : K.lookup f_cells = some ⟨oc_cells, od_cells, .func (PySem.W.fnOf "_law_cells" "_law_cells" (defArgs s_cells) (defBody s_cells) (defScope s_cells) .none kV_cells dc_cells pm_cells an_cells cd_cells ct_cells), sl_cells⟩)
    (c_cells : PySem.W.codeIn K cd_cells "_law_cells" = true) (k_cells : PySem.W.keepIn K (.ref f_cells) = true)
    {f_same : Addr} {od_same an_same : Option Addr} {sl_same : Array (Option Value)} {oc_same kV_same dc_same pm_same cd_same ct_same : Value}
    (a_same : PySem.W.nsIn K mainGlobals "_law_same" = some (some (.ref f_same)))
    (l_same : K.lookup f_same = some ⟨oc_same, od_same, .func (PySem.W.fnOf "_law_same" "_law_same" (defArgs s_same) (defBody s_same) (defScope s_same) .none kV_same dc_same pm_same an_same cd_same ct_same), sl_same⟩)
    (c_same : PySem.W.codeIn K cd_same "_law_same" = true) (k_same : PySem.W.keepIn K (.ref f_same) = true)
    {f_law : Addr} {od_law an_law : Option Addr} {sl_law : Array (Option Value)} {oc_law kV_law dc_law pm_law cd_law ct_law : Value}
    (a_law : PySem.W.nsIn K mainGlobals "law" = some (some (.ref f_law)))
    (l_law : K.lookup f_law = some ⟨oc_law, od_law, .func (PySem.W.fnOf "law" "law" (defArgs s_law) (defBody s_law) (defScope s_law) .none kV_law dc_law pm_law an_law cd_law ct_law), sl_law⟩)
    (c_law : PySem.W.codeIn K cd_law "law" = true) (k_law : PySem.W.keepIn K (.ref f_law) = true)
    (z_max : PySem.W.nsIn K mainGlobals "max" = some none)
    (z_min : PySem.W.nsIn K mainGlobals "min" = some none)
    (z_len : PySem.W.nsIn K mainGlobals "len" = some none)
    (z_list : PySem.W.nsIn K mainGlobals "list" = some none)
    (z_isinstance : PySem.W.nsIn K mainGlobals "isinstance" = some none)
    (z_bool : PySem.W.nsIn K mainGlobals "bool" = some none)
    (z_int : PySem.W.nsIn K mainGlobals "int" = some none)
    (z_str : PySem.W.nsIn K mainGlobals "str" = some none)
    (z_tuple : PySem.W.nsIn K mainGlobals "tuple" = some none)
    (z_range : PySem.W.nsIn K mainGlobals "range" = some none)
    (z_all : PySem.W.nsIn K mainGlobals "all" = some none)
    : ∃ fd : FuncData, (∀ (s : Shared) (v : Value), BindsTo s fd ⟨[v], []⟩ [("_law_script", v)]) ∧ ∀ base : Heap, K.In base → base.Ns mainGlobals mg → FnOk l.prog w K mg base CX0 4 fa fd ["_law_script"] (spLaw K) := by
  have e := hfa.symm.trans (PySem.W.mg_of X G a_law)
  cases e
  have T : Tx mg := ⟨PySem.W.mg_none_of X G z_max, PySem.W.mg_none_of X G z_min, PySem.W.mg_none_of X G z_len, PySem.W.mg_none_of X G z_list, PySem.W.mg_none_of X G z_isinstance, PySem.W.mg_none_of X G z_bool, PySem.W.mg_none_of X G z_int, PySem.W.mg_none_of X G z_str, PySem.W.mg_none_of X G z_tuple, PySem.W.mg_none_of X G z_range, PySem.W.mg_none_of X G z_all⟩
  have F_shared := fun_mk (st := s_shared) l_shared c_shared k_shared
  have b_shared := F_shared.binds (ps := ["one", "other"]) fun _ _ _ _ _ _ us hl => match us, hl with | [_, _], _ => rfl
  have m_shared := PySem.W.mg_of X G a_shared
  have F_meet := fun_mk (st := s_meet) l_meet c_meet k_meet
  have b_meet := F_meet.binds (ps := ["one", "other"]) fun _ _ _ _ _ _ us hl => match us, hl with | [_, _], _ => rfl
  have m_meet := PySem.W.mg_of X G a_meet
  have F_has := fun_mk (st := s_has) l_has c_has k_has
  have b_has := F_has.binds (ps := ["box", "row", "column"]) fun _ _ _ _ _ _ us hl => match us, hl with | [_, _, _], _ => rfl
  have m_has := PySem.W.mg_of X G a_has
  have F_begin := fun_mk (st := s_begin) l_begin c_begin k_begin
  have b_begin := F_begin.binds (ps := ["_law_script"]) fun _ _ _ _ _ _ us hl => match us, hl with | [_], _ => rfl
  have m_begin := PySem.W.mg_of X G a_begin
  have F_pick := fun_mk (st := s_pick) l_pick c_pick k_pick
  have b_pick := F_pick.binds (ps := ["_law_draw", "_law_many"]) fun _ _ _ _ _ _ us hl => match us, hl with | [_, _], _ => rfl
  have m_pick := PySem.W.mg_of X G a_pick
  have F_box_drawn := fun_mk (st := s_box_drawn) l_box_drawn c_box_drawn k_box_drawn
  have b_box_drawn := F_box_drawn.binds (ps := ["_law_draw", "_law_far"]) fun _ _ _ _ _ _ us hl => match us, hl with | [_, _], _ => rfl
  have m_box_drawn := PySem.W.mg_of X G a_box_drawn
  have F_cells := fun_mk (st := s_cells) l_cells c_cells k_cells
  have b_cells := F_cells.binds (ps := ["_law_box"]) fun _ _ _ _ _ _ us hl => match us, hl with | [_], _ => rfl
  have m_cells := PySem.W.mg_of X G a_cells
  have F_same := fun_mk (st := s_same) l_same c_same k_same
  have b_same := F_same.binds (ps := ["_law_found", "_law_due"]) fun _ _ _ _ _ _ us hl => match us, hl with | [_, _], _ => rfl
  have m_same := PySem.W.mg_of X G a_same
  have F_law := fun_mk (st := s_law) l_law c_law k_law
  refine ⟨PySem.W.fnOf "law" "law" (defArgs s_law) (defBody s_law) (defScope s_law) .none kV_law dc_law pm_law an_law cd_law ct_law, fun s v => .of_eq rfl, fun base _ _ => ?_⟩
  have D_begin : Dn l.prog w K mg base CX0 1 "_law_begin" ["_law_script"] (spBegin K) := ⟨_, _, ok_begin F_begin T, m_begin, k_begin, b_begin⟩
  have D_pick : Dn l.prog w K mg base CX0 1 "_law_pick" ["_law_draw", "_law_many"] spPick := ⟨_, _, ok_pick F_pick T, m_pick, k_pick, b_pick⟩
  have D_box : Dn l.prog w K mg base CX0 2 "_law_box_drawn" ["_law_draw", "_law_far"] spBox := ⟨_, _, ok_box_drawn F_box_drawn D_pick, m_box_drawn, k_box_drawn, b_box_drawn⟩
  have D_cells : Dn l.prog w K mg base CX0 1 "_law_cells" ["_law_box"] spCells := ⟨_, _, ok_cells F_cells T, m_cells, k_cells, b_cells⟩
  have D_sh : Dn l.prog w K mg base CX0 1 "shared" ["one", "other"] spShared := ⟨_, _, ok_shared F_shared T, m_shared, k_shared, b_shared⟩
  have D_meet : Dn l.prog w K mg base CX0 2 "meet" ["one", "other"] spMeet := ⟨_, _, ok_meet F_meet D_sh, m_meet, k_meet, b_meet⟩
  have D_has : Dn l.prog w K mg base CX0 3 "has" ["box", "row", "column"] spHas := ⟨_, _, ok_has F_has, m_has, k_has, b_has⟩
  have D_same := same_all (P := l.prog) (w := w) (base := base) F_same T b_same m_same k_same 3
  exact ok_law F_law T D_begin D_pick D_box D_cells D_same (D_sh.imp shared_u) D_meet D_has
theorem walk {l : PySem.W.OpenLaw} {q : Program} {loose : List Str} {XP : (Str → Option Value) → Heap → Prop} {YP : World → Heap → Prop} {d : DefRec} {K : Params → PySem.W.Frag} (hn : l.most = some 63) (hdf : d.params.defaults = [])
    (hY : ∀ (w : World) (h : Heap), YP w h → (K w.params).In h)
    (F : ∀ (w : World) (mg : Str → Option Value) (fa : Addr) (h : Heap), (K w.params).In h → h.Ns mainGlobals mg → mg d.name = some (.ref fa) →
      ∃ fd : FuncData, (∀ (s : Shared) (u : Value), BindsTo s fd ⟨[u], []⟩ [("_law_script", u)]) ∧ ∀ base : Heap, (K w.params).In base → base.Ns mainGlobals mg → FnOk l.prog w (K w.params) mg base CX0 4 fa fd ["_law_script"] (spLaw (K w.params))) :
    PySem.W.WalkO q loose XP YP l.row.toRowW d [] (fun f vs => PySem.call f vs) :=
  L2.walk_of (n := 63) (k := 4) (x := "_law_script") (CX := fun _ => CX0) (sp := fun w => spLaw (K w.params)) hn (by decide) hdf ⟨rfl, by decide, by decide⟩ hY F (fun _ _ a ns hl _ hS => ⟨a, ns, rfl, hS, hl, fun _ => rfl⟩) fun _ _ _ _ _ z => z
end K08
open PySem PySem.W PyProof.Rows
set_option maxRecDepth 100000 in
set_option maxHeartbeats 0 in
theorem PySem.Challenge.cw_gridscope_k08_boxes_and_cells_holds : PySem.Challenge.rw_gridscope_k08_boxes_and_cells.Holds := by
  w_on; o_law; k_head; (case hw => w_witness2)
  k_fill
  refine K08.walk (l := PySem.Challenge.rw_gridscope_k08_boxes_and_cells) rfl rfl (fun w h Y => PySem.W.kIn_of Y) ?F
  case F =>
    intro w mg fa h KX G hmg
    refine' K08.all_mk KX G hmg ?a_shared ?l_shared ?c_shared ?k_shared ?a_meet ?l_meet ?c_meet ?k_meet ?a_has ?l_has ?c_has ?k_has ?a_begin ?l_begin ?c_begin ?k_begin ?a_pick ?l_pick ?c_pick ?k_pick ?a_box_drawn ?l_box_drawn ?c_box_drawn ?k_box_drawn ?a_cells ?l_cells ?c_cells ?k_cells ?a_same ?l_same ?c_same ?k_same ?a_law ?l_law ?c_law ?k_law ?z_max ?z_min ?z_len ?z_list ?z_isinstance ?z_bool ?z_int ?z_str ?z_tuple ?z_range ?z_all
    (case a_shared => k_is); (case l_shared => k_is); (case c_shared => k_is); (case k_shared => k_is); (case a_meet => k_is); (case l_meet => k_is)
    (case c_meet => k_is); (case k_meet => k_is); (case a_has => k_is); (case l_has => k_is); (case c_has => k_is); (case k_has => k_is)
    (case a_begin => k_is); (case l_begin => k_is); (case c_begin => k_is); (case k_begin => k_is); (case a_pick => k_is); (case l_pick => k_is)
    (case c_pick => k_is); (case k_pick => k_is); (case a_box_drawn => k_is); (case l_box_drawn => k_is); (case c_box_drawn => k_is); (case k_box_drawn => k_is)
    (case a_cells => k_is); (case l_cells => k_is); (case c_cells => k_is); (case k_cells => k_is); (case a_same => k_is); (case l_same => k_is)
    (case c_same => k_is); (case k_same => k_is); (case a_law => k_is); (case l_law => k_is); (case c_law => k_is); (case k_law => k_is)
    (case z_max => k_is); (case z_min => k_is); (case z_len => k_is); (case z_list => k_is); (case z_isinstance => k_is); (case z_bool => k_is)
    (case z_int => k_is); (case z_str => k_is); (case z_tuple => k_is); (case z_range => k_is); (case z_all => k_is)
