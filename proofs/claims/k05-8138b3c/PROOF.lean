import PyProof.Rows.All
import Wide.All
import OpenK.AllK
import Wide.FinOn
import HandS.ForMost
import HandS.Deep
import HandS.IsInst
import HandS.Codes
import HandS.ForExc
import HandS.RaiseMore
import HandS.FStr
import HandS.More
import HandS.Walk
import HandS.MakeKwOnly
import HandS.ExcIs
import HandS.OwnEq
import PySem.Challenge.RW_gridscope_k05_things_put_in_and_cut
set_option Elab.async false
set_option linter.all false
set_option maxRecDepth 100000
set_option maxHeartbeats 4000000
namespace Gs
open PySem L2
/-! ### a def of the text, by its name, as its callers use it -/
def Dn (P : Program) (w : World) (K : PySem.W.Frag) (mg : Str → Option Value) (base : Heap) (CX : CXT) (k : Nat) (x : Str) (ps : List Str) (sp : Sp) : Prop :=
  ∃ (f : Addr) (fd : FuncData), FnOk P w K mg base CX k f fd ps sp ∧ mg x = some (.ref f) ∧ PySem.W.keepIn K (.ref f) = true ∧ Binds K fd ps []
theorem Dn.mono {P : Program} {w : World} {K : PySem.W.Frag} {mg : Str → Option Value} {base : Heap} {CX : CXT} {j k : Nat} {x : Str} {ps : List Str} {sp : Sp} (D : Dn P w K mg base CX j x ps sp) (h : j ≤ k) : Dn P w K mg base CX k x ps sp := by
  obtain ⟨f, fd, F, m, kp, b⟩ := D
  exact ⟨f, fd, F.mono h, m, kp, b⟩
theorem Dn.imp {P : Program} {w : World} {K : PySem.W.Frag} {mg : Str → Option Value} {base : Heap} {CX : CXT} {k : Nat} {x : Str} {ps : List Str} {sp sp' : Sp} (D : Dn P w K mg base CX k x ps sp) (h : ∀ vs H Q E, sp' vs H Q E → sp vs H Q E) : Dn P w K mg base CX k x ps sp' := by
  obtain ⟨f, fd, F, m, kp, b⟩ := D
  exact ⟨f, fd, F.imp h, m, kp, b⟩
theorem pe_callD {X : Cx} {CX : CXT} {k : Nat} {x : Str} {ps : List Str} {sp : Sp} {E : XK} {p pos : Pos} {e : Expr} {es : List Expr} {t : TA} (D : Dn X.prog X.w X.K X.mg X.base CX k x ps sp) (hr : Room k X.A) (hg : Gl X x) (hx : Passes CX X E)
    (ha : PA X (e :: es) t) (hdb : (x == ("__debug__" : Str)) = false := by decide) (he : starEach (e :: es) X.env = (false, eval e X.env) :: starEach es X.env := by rfl) (hpl : (backTo pos (starEach es X.env)).any (·.1) = false := by rfl) :
    PE X (.Call (.Name x p) (e :: es) [] pos) (tCall sp [] E t) := by
  obtain ⟨f, fd, F, m, kp, b⟩ := D
  exact pe_call F hr hg m kp b .nil hx ha hdb he hpl
theorem pe_callSD {X : Cx} {CX : CXT} {k : Nat} {x : Str} {ps : List Str} {sp : Sp} {E : St → XK} {p pos : Pos} {e : Expr} {es : List Expr} {t : TA} (D : Dn X.prog X.w X.K X.mg X.base CX k x ps sp) (hr : Room k X.A) (hg : Gl X x) (hx : ∀ σ, PassesAt CX X σ (E σ))
    (ha : PA X (e :: es) t) (hdb : (x == ("__debug__" : Str)) = false := by decide) (he : starEach (e :: es) X.env = (false, eval e X.env) :: starEach es X.env := by rfl) (hpl : (backTo pos (starEach es X.env)).any (·.1) = false := by rfl) :
    PE X (.Call (.Name x p) (e :: es) [] pos) (tCallS sp E t) := by
  obtain ⟨f, fd, F, m, kp, b⟩ := D
  exact pe_callS F hr hg m kp b hx ha hdb he hpl
/-- what the top says of an own exception class without a method of its own -/
structure ExcOk (K : PySem.W.Frag) (mg : Str → Option Value) (x : Str) (C : Addr) (bm : List Value) (nid : String) : Prop where
  g : mg x = some (.ref C)
  ex : PySem.W.excIn K C bm nid = true
  kp : PySem.W.keepIn K (.ref C) = true
  b : PySem.W.subIn K (.ref C) (.type "BaseException") = some true
  t : PySem.W.typeIn K (.ref C) = some (.type "type")
  cl : PySem.W.isClsIn K C = true
  sf : PySem.W.subIn K (.ref C) (.ref C) = some true
theorem exm_own {K : PySem.W.Frag} {cls : Value} {C : Addr} {b : Bool} (hb : PySem.W.subIn K (.ref C) (.type "BaseException") = some true) (hc : PySem.W.isClsIn K C = true) (ht : PySem.W.typeIn K (.ref C) = some (.type "type")) (hs : PySem.W.subIn K cls (.ref C) = some b) : PySem.W.exmOne K cls (.ref C) = some b := by
  have h1 : PySem.W.kitCls K cls (.ref C) = some b := by
    show (if ((PySem.W.clsIn K C).isSome && PySem.W.typeIn K (.ref C) == some (.type "type")) = true then PySem.W.subIn K cls (.ref C) else none) = some b
    have h2 : (PySem.W.clsIn K C).isSome = true := hc
    rw [h2, ht, if_pos (by simp)]
    exact hs
  unfold PySem.W.exmOne
  rw [hb, if_pos (by simp)]
  exact h1
theorem ExcOk.me {K : PySem.W.Frag} {mg : Str → Option Value} {x : Str} {C : Addr} {bm : List Value} {nid : String} (e : ExcOk K mg x C bm nid) : PySem.W.exmOne K (.ref C) (.ref C) = some true := exm_own e.b e.cl e.t e.sf
abbrev ieL : List Value := [.type "IndexError", .type "LookupError", .type "Exception", .type "BaseException", .type "object"]
abbrev leL : List Value := [.type "LookupError", .type "Exception", .type "BaseException", .type "object"]
abbrev veL : List Value := [.type "ValueError", .type "Exception", .type "BaseException", .type "object"]
theorem glS {X : Cx} {x z : Str} {t : Tok} {pos : Pos} (hg : Gl X x) (hm : X.mg x = some (.str z t)) (hd : (x == ("__debug__" : Str)) = false := by decide) : PE X (.Name x pos) (tC (.str z)) := pe_glob hg hm ⟨t, rfl⟩ hd
theorem glI {X : Cx} {x : Str} {i : Int} {t : Tok} {pos : Pos} (hg : Gl X x) (hm : X.mg x = some (.int i t)) (hd : (x == ("__debug__" : Str)) = false := by decide) : PE X (.Name x pos) (tC (.int i)) := pe_glob hg hm ⟨t, rfl⟩ hd
/-! ### heaps -/
theorem same_new {H : Hp} {p : Addr} (h : H p = none) (o : HO) : Same H (upd H p o) := fun b u q => by rw [upd_ne (ne_of_none q h)]; exact q
theorem Same.tup {K : PySem.W.Frag} {H H' : Hp} {a : Addr} {xs : List V} (e : Same H H') (h : SqT K H a xs) : SqT K H' a xs := by
  rcases h with (h | ⟨o, h⟩) | h
  · exact .inl (.inl (e _ _ h))
  · exact .inl (.inr ⟨o, e _ _ h⟩)
  · exact .inr h
theorem small {n : Nat} (h : n ≤ 1000) : n ≤ sizeLine := Nat.le_of_lt (small1000 h)
/-! ### data at any depth -/
mutual
theorem dp_same {K : PySem.W.Frag} {H H' : Hp} (e : Same H H') : ∀ (d : PyData) (v : V), Dp K H v d → Dp K H' v d
  | .none, _, h => by cases h; exact .non
  | .bool b, _, h => by cases h; exact .bl b
  | .int i, _, h => by cases h; exact .int i
  | .str x, _, h => by cases h; exact .str x
  | .list ds, _, h => by
    cases h with
    | lst s a => exact .lst (e.seq s) (dpAll_same e ds _ a)
  | .tuple ds, _, h => by
    cases h with
    | tup s a => exact .tup (Same.tup e s) (dpAll_same e ds _ a)
  | .dict b, _, h => by cases h
theorem dpAll_same {K : PySem.W.Frag} {H H' : Hp} (e : Same H H') : ∀ (ds : List PyData) (vs : List V), DpAll K H vs ds → DpAll K H' vs ds
  | [], _, h => by cases h; exact .nil
  | d :: ds, _, h => by
    cases h with
    | cons a b => exact .cons (dp_same e d _ a) (dpAll_same e ds _ b)
end
theorem dpI {K : PySem.W.Frag} {H : Hp} {i j : Int} (e : i = j) : Dp K H (.int i) (.int j) := by subst e; exact .int _
theorem dpB {K : PySem.W.Frag} {H : Hp} {i j : Bool} (e : i = j) : Dp K H (.bl i) (.bool j) := by subst e; exact .bl _
theorem dpS {K : PySem.W.Frag} {H : Hp} {i j : Str} (e : i = j) : Dp K H (.str i) (.str j) := by subst e; exact .str _
theorem dpAll_len {K : PySem.W.Frag} {H : Hp} : ∀ {vs : List V} {ds : List PyData}, DpAll K H vs ds → vs.length = ds.length
  | _, _, .nil => rfl
  | _, _, .cons _ b => by simp [dpAll_len b]
theorem dpAll_get {K : PySem.W.Frag} {H : Hp} : ∀ {vs : List V} {ds : List PyData} {i : Nat} {d : PyData}, DpAll K H vs ds → ds[i]? = some d → ∃ v, vs[i]? = some v ∧ Dp K H v d
  | _, _, _, _, .nil, e => by simp at e
  | _, _, 0, _, .cons a _, e => by simp at e; subst e; exact ⟨_, rfl, a⟩
  | _, _, i + 1, _, .cons _ b, e => by simpa using dpAll_get (i := i) b (by simpa using e)

/-! ### the law's own helpers: what each of them promises -/
/-- a draw: what is left of the script, its place, what is left of a great number, the seed, the count -/
def drawO (l : Addr) (i left seed n : Int) : HO := .lst [.ref l, .int i, .int left, .int seed, .int n]
def DrawAt (H : Hp) (a : Addr) : Prop := ∃ (l : Addr) (ns : List Int) (i left seed n : Int), H a = some (drawO l i left seed n) ∧ H l = some (.lst (ns.map V.int)) ∧ 0 ≤ i ∧ 0 ≤ seed ∧ seed < 1000000007
/-- all but the draw is as it was -/
def Ext (a : Addr) (H H' : Hp) : Prop := DrawAt H' a ∧ ∀ b o, b ≠ a → H b = some o → H' b = some o
theorem DrawAt.ne {H : Hp} {a l : Addr} {i left seed n : Int} {ns : List Int} (h1 : H a = some (drawO l i left seed n)) (h2 : H l = some (.lst (ns.map V.int))) : l ≠ a := by
  refine ne_of h2 h1 ?_
  intro e
  unfold drawO at e
  cases ns with
  | nil => simp at e
  | cons x r => simp at e
theorem DrawAt.same {H H' : Hp} {a : Addr} (d : DrawAt H a) (e : Same H H') : DrawAt H' a := by
  obtain ⟨l, ns, i, left, seed, n, h1, h2, r⟩ := d
  exact ⟨l, ns, i, left, seed, n, e _ _ h1, e _ _ h2, r⟩
theorem Ext.trans {a : Addr} {H H1 H2 : Hp} (x : Ext a H H1) (y : Ext a H1 H2) : Ext a H H2 := ⟨y.1, fun b o n h => y.2 b o n (x.2 b o n h)⟩
theorem Ext.same {a : Addr} {H H1 H2 : Hp} (x : Ext a H H1) (y : Same H1 H2) : Ext a H H2 := ⟨x.1.same y, fun b o n h => y b o (x.2 b o n h)⟩
theorem Ext.of {a : Addr} {H H1 : Hp} (d : DrawAt H a) (y : Same H H1) : Ext a H H1 := ⟨d.same y, fun b o _ h => y b o h⟩
theorem DrawAt.neT {H : Hp} {a b : Addr} {xs : List V} (d : DrawAt H a) (h : H b = some (.tup xs)) : b ≠ a := by
  obtain ⟨l, ns, i, left, seed, n, h1, h2, r⟩ := d
  exact ne_of h h1 (by intro e; unfold drawO at e; cases e)
/-- a tuple stays -/
theorem Ext.tup {a b : Addr} {H H1 : Hp} {xs : List V} (x : Ext a H H1) (d : DrawAt H a) (h : H b = some (.tup xs)) : H1 b = some (.tup xs) := x.2 b _ (d.neT h) h
/-! the longest list or tuple in it -/
mutual
def mxl : PyData → Nat
  | .list ds => max ds.length (mxlAll ds)
  | .tuple ds => max ds.length (mxlAll ds)
  | _ => 0
def mxlAll : List PyData → Nat
  | [] => 0
  | d :: r => max (mxl d) (mxlAll r)
end
theorem mxl_get : ∀ {ds : List PyData} {i : Nat} {d : PyData}, ds[i]? = some d → mxl d ≤ mxlAll ds
  | [], _, _, e => by simp at e
  | x :: r, 0, d, e => by
    simp at e
    subst e
    simp only [mxlAll]
    omega
  | x :: r, i + 1, d, e => by
    have := mxl_get (ds := r) (i := i) (d := d) (by simpa using e)
    simp only [mxlAll]
    omega
def spBegin (K : PySem.W.Frag) : Sp := fun vs H Q _ => ∃ (s : Addr) (ns : List Int), vs = [.ref s] ∧ SqL K H s (ns.map V.int) ∧ ∀ (a : Addr) (H' : Hp), H a = none → DrawAt H' a → Same H H' → Q (.ref a) H'
def spPick : Sp := fun vs H Q _ => ∃ (a : Addr) (many : Int), vs = [.ref a, .int many] ∧ DrawAt H a ∧ 1 ≤ many ∧ many < 1073741824 ∧
  ∀ (r : Int) (H' : Hp), 0 ≤ r → r < many → DrawAt H' a → (∀ b, b ≠ a → H' b = H b) → Q (.int r) H'
def spSame (K : PySem.W.Frag) (n : Nat) : Sp := fun vs H Q _ => ∃ (x y : V) (d : PyData), vs = [x, y] ∧ Dp K H x d ∧ Dp K H y d ∧ d.depth < n ∧ mxl d ≤ 100000 ∧ ∀ H', Same H H' → Q (.bl true) H'
theorem same_none {P : Program} {w : World} {K : PySem.W.Frag} {mg : Str → Option Value} {base : Heap} {f : Addr} {fd : FuncData} : FnOk P w K mg base CX0 0 f fd ["_law_found", "_law_due"] (spSame K 0) := by
  have no : ∀ vs H Q E, ¬ spSame K 0 vs H Q E := fun vs H Q E h => by
    obtain ⟨x, y, d, _, _, _, h1, _⟩ := h
    omega
  exact ⟨fun vs H Q E h => absurd h (no vs H Q E), fun A outer s H args us vs Q E _ _ _ _ h => absurd h (no vs H Q E)⟩
/-! ### isinstance -/
theorem kit2 {K : PySem.W.Frag} {a b c : String} {r1 r2 : Bool} (h : kitB a b = some r1) (h2 : kitB a c = some r2) : PySem.W.kitAny K (.type a) [.type b, .type c] = some (r1 || r2) := by
  refine kitAny_cons (kit_ty h) (fun e => ?_) (fun e => by rw [e]; rfl)
  rw [e, Bool.false_or]
  refine kitAny_cons (kit_ty h2) (fun e => ?_) (fun e => e)
  rw [e]
  rfl
theorem cls2 (b c : String) : Paired ClsV [.ty b, .ty c] [.type b, .type c] := .cons (.ty b) (.cons (.ty c) .nil)
theorem tyx_list {K : PySem.W.Frag} {H : Hp} {a : Addr} {xs : List V} (h : SqL K H a xs) : TyX K H (.ref a) (.type "list") := by
  rcases h with (h | ⟨o, h⟩) | ⟨o, its, n, h, c, _⟩
  · exact .base (.lst h)
  · exact .base (.frz h)
  · exact .kList h c
theorem tyx_tuple {K : PySem.W.Frag} {H : Hp} {a : Addr} {xs : List V} (h : SqT K H a xs) : TyX K H (.ref a) (.type "tuple") := by
  rcases h with (h | ⟨o, h⟩) | ⟨o, its, n, h, c, _⟩
  · exact .base (.tup h)
  · exact .fTuple h
  · exact .kTuple h c
theorem ixLk {X : Cx} {K : PySem.W.Frag} (h : X.K = K) : IxR X (rIxL K) := by subst h; exact ix_list
theorem ixTk {X : Cx} {K : PySem.W.Frag} (h : X.K = K) : IxR X (rIxT K) := by subst h; exact ix_tup
theorem ixQk {X : Cx} {K : PySem.W.Frag} (h : X.K = K) : IxR X (rIx K) := by subst h; exact ix_seq
theorem inDk {X : Cx} {K : PySem.W.Frag} (h : X.K = K) (hu : X.A.units + 65 < cLine) : OpR X (compareOp .In) (rInD K) := by subst h; exact op_inD hu
theorem ifT {c A B : Prop} [Decidable c] (h : c) (x : A) : if c then A else B := by rw [if_pos h]; exact x
theorem ifF {c A B : Prop} [Decidable c] (h : ¬ c) (x : B) : if c then A else B := by rw [if_neg h]; exact x
theorem cut_ints (ns : List Int) (lo hi : Option Int) : ∃ ms : List Int, cutV (ns.map V.int) lo hi = ms.map V.int := by
  unfold cutV
  exact ⟨_, by rw [← List.map_drop, ← List.map_take]⟩
theorem shaped_bool (b : Bool) : SeqAt.shaped (.bool b) = true := by simp [SeqAt.shaped, PyData.canLay0, PyData.depth]
theorem shaped_int (b : Int) : SeqAt.shaped (.int b) = true := by simp [SeqAt.shaped, PyData.canLay0, PyData.depth]
theorem shaped_eqv {d : PyData} (h : SeqAt.shaped d = true) : PyData.eqv d d = true := SeqAt.eqv_refl d (SeqAt.canLay_of_shaped h)
theorem depth_get : ∀ {ds : List PyData} {i : Nat} {d : PyData}, ds[i]? = some d → d.depth ≤ PyData.depthAll ds
  | [], _, _, e => by simp at e
  | x :: r, 0, d, e => by
    simp at e
    subst e
    simp only [PyData.depthAll]
    omega
  | x :: r, i + 1, d, e => by
    have := depth_get (ds := r) (i := i) (d := d) (by simpa using e)
    simp only [PyData.depthAll]
    omega
theorem rep_bl (n : Nat) : List.replicate n (V.bl true) = (List.replicate n true).map V.bl := by simp
theorem rep_all (n : Nat) : (List.replicate n true).all id = true := by simp
theorem rep_succ (n : Nat) : List.replicate n (V.bl true) ++ [V.bl true] = List.replicate (n + 1) (V.bl true) := by
  rw [← List.replicate_succ']
end Gs

set_option Elab.async false
set_option linter.all false
set_option maxRecDepth 100000
set_option maxHeartbeats 4000000
namespace Gs
open PySem L2
/-! ### methods of an own class -/
def Mn (P : Program) (w : World) (K : PySem.W.Frag) (mg : Str → Option Value) (base : Heap) (CX : CXT) (k : Nat) (C : Addr) (m : Str) (ps : List Str) (sp : Sp) : Prop :=
  ∃ (f : Addr) (fd : FuncData), FnOk P w K mg base CX k f fd ps sp ∧ Meth K C m f ∧ Binds K fd ps []
theorem Mn.mono {P : Program} {w : World} {K : PySem.W.Frag} {mg : Str → Option Value} {base : Heap} {CX : CXT} {j k : Nat} {C : Addr} {m : Str} {ps : List Str} {sp : Sp} (D : Mn P w K mg base CX j C m ps sp) (h : j ≤ k) : Mn P w K mg base CX k C m ps sp := by
  obtain ⟨f, fd, F, m, b⟩ := D
  exact ⟨f, fd, F.mono h, m, b⟩
theorem Mn.imp {P : Program} {w : World} {K : PySem.W.Frag} {mg : Str → Option Value} {base : Heap} {CX : CXT} {k : Nat} {C : Addr} {m : Str} {ps : List Str} {sp sp' : Sp} (D : Mn P w K mg base CX k C m ps sp) (h : ∀ vs H Q E, sp' vs H Q E → sp vs H Q E) : Mn P w K mg base CX k C m ps sp' := by
  obtain ⟨f, fd, F, m, b⟩ := D
  exact ⟨f, fd, F.imp h, m, b⟩
section
variable {X : Cx} {CX : CXT} {k : Nat} {C : Addr} {m : Str} {ps : List Str} {sp : Sp} {p pos apos : Pos} {e o : Expr} {es : List Expr} {ta : TE} {t : TA}
theorem pe_methD {E : XK} {pl : Sem Bool} (c : Cls X.K C) (D : Mn X.prog X.w X.K X.mg X.base CX k C m ps sp) (hr : Room k X.A) (hx : Passes CX X E) (he : PE X o ta) (ha : PA X (e :: es) t)
    (hst : starEach (e :: es) X.env = (false, eval e X.env) :: starEach es X.env := by rfl) (hpl : (backTo pos (starEach es X.env)).any (·.1) = false := by rfl)
    (ht : eval (.Call (.Attribute o m apos) (e :: es) [] pos) X.env = (do let ov ← eval o X.env; standAt apos.atName; let (f, first) ← holding [ov] (getMethod ov m pl); callWith pos f first (backTo pos (starEach (e :: es) X.env)) (backToKw pos (keywordEach [] X.env))) := by rfl) :
    PE X (.Call (.Attribute o m apos) (e :: es) [] pos) (tMeth C m sp [] E ta t) := by
  obtain ⟨f, fd, F, hm, b⟩ := D
  exact pe_meth he c hm F hr b .nil hx ha hst hpl ht
theorem pe_methD0 {E : XK} {pl : Sem Bool} (c : Cls X.K C) (D : Mn X.prog X.w X.K X.mg X.base CX k C m ps sp) (hr : Room k X.A) (hx : Passes CX X E) (he : PE X o ta)
    (ht : eval (.Call (.Attribute o m apos) [] [] pos) X.env = (do let ov ← eval o X.env; standAt apos.atName; let (f, first) ← holding [ov] (getMethod ov m pl); callWith pos f first (backTo pos (starEach [] X.env)) (backToKw pos (keywordEach [] X.env))) := by rfl) :
    PE X (.Call (.Attribute o m apos) [] [] pos) (tMeth C m sp [] E ta tNil) := by
  obtain ⟨f, fd, F, hm, b⟩ := D
  exact pe_meth0 he c hm F hr b .nil hx ht
/-- within a try: what is raised is wished for at the slots -/
def tMethAt (C : Addr) (m : Str) (sp : Sp) (E : St → XK) (ta : TE) (t : TA) : TE := fun σ H Q => ta σ H fun x H1 => ∃ a dx fs, x = .ref a ∧ H1 a = some (.ins C dx fs) ∧ fs.lookup m = none ∧ t σ H1 fun vs H2 => sp (x :: vs) H2 Q (E σ)
theorem pe_methSD {E : St → XK} {pl : Sem Bool} (c : Cls X.K C) (D : Mn X.prog X.w X.K X.mg X.base CX k C m ps sp) (hr : Room k X.A) (hx : ∀ σ, PassesAt CX X σ (E σ)) (he : PE X o ta) (ha : PA X (e :: es) t)
    (hst : starEach (e :: es) X.env = (false, eval e X.env) :: starEach es X.env := by rfl) (hpl : (backTo pos (starEach es X.env)).any (·.1) = false := by rfl)
    (ht : eval (.Call (.Attribute o m apos) (e :: es) [] pos) X.env = (do let ov ← eval o X.env; standAt apos.atName; let (f, first) ← holding [ov] (getMethod ov m pl); callWith pos f first (backTo pos (starEach (e :: es) X.env)) (backToKw pos (keywordEach [] X.env))) := by rfl) :
    PE X (.Call (.Attribute o m apos) (e :: es) [] pos) (tMethAt C m sp E ta t) := by
  obtain ⟨f, fd, F, hm, b⟩ := D
  refine ⟨fun pins s σ H Q I h => PySem.W.methodCall_KW (pl := pl) (thn (he.run pins s σ H _ I h) fun u s1 hh => ?_) ht⟩
  obtain ⟨x, H1, I1, rx, a, dx, fs, ex, ea, l, q⟩ := hh
  subst ex
  obtain rfl : u = Value.ref a := rx
  refine getmeth_ok I1 ea c hm l (PySem.W.callWith_K (first := [.ref a]) (h₀ := X.base) I.ok.mod.kin hm.kp (thn (ha.run pos pins s1 σ H1 _ I1 q) fun us s2 hh => ?_) hst hpl)
  obtain ⟨vs, H2, I2, r, q2⟩ := hh
  exact ⟨I2.kIn, run_fnS (us := .ref a :: us) (vs := .ref a :: vs) F hr b (hx σ) I2 (.cons rfl r) q2⟩
theorem fldK {K : PySem.W.Frag} {f : Str} (h : X.K = K) (he : PE X o ta) (hb : attributeBase o f X.env (eval o X.env) = eval o X.env) : PE X (.Attribute o f pos) (tFld K ta f) := by
  subst h
  exact pe_fld he hb
end
/-! ### ints that may be written in a text -/
def Sm (i : Int) : Prop := i.natAbs < 2 ^ 200
theorem Sm.log {i : Int} (h : Sm i) : i.natAbs.log2 < 1920 := by
  by_cases z : i.natAbs = 0
  · rw [z]
    decide
  · have h1 : i.natAbs.log2 < 200 := (Nat.log2_lt z).mpr h
    omega
theorem Sm.of {i : Int} (h0 : -(10 ^ 40) ≤ i) (h1 : i ≤ 10 ^ 40) : Sm i := by
  have : i.natAbs ≤ 10 ^ 40 := by omega
  exact Nat.lt_of_le_of_lt this (by decide)
theorem Sm.len {i : Int} (h : Sm i) : (Str.ofString (toString i)).length ≤ 201 := by
  have h1 : i.natAbs.log2 < 200 := by
    by_cases z : i.natAbs = 0
    · rw [z]
      decide
    · exact (Nat.log2_lt z).mpr h
  have e := PySem.int_text_length_le (k := 200) (by decide) h1
  rw [PySem.ofString_length]
  exact e
/-! ### repr of an own class -/
def rRepr (C : Addr) (sp : Sp) (E : XK) : List V → Hp → VK → Prop := fun xs H Q => ∃ a dx fs, xs = [.ref a] ∧ H a = some (.ins C dx fs) ∧ sp [.ref a] H (fun v H' => (∃ z, v = .str z) ∧ Q v H') E
theorem call_repr {X : Cx} {CX : CXT} {k : Nat} {C f : Addr} {fd : FuncData} {ps : List Str} {sp : Sp} {E : XK} (F : FnOk X.prog X.w X.K X.mg X.base CX k f fd ps sp) (hs : PySem.W.findIn X.K (.ref C) "__repr__" = some (some (.ref f))) (hf : PySem.W.isFn X.K (.ref f) = true)
    (hb : Binds X.K fd ps []) (hr : Room (k + 1) X.A) (hx : Passes CX X E) : CallR X (.builtin "repr") (rRepr C sp E) := by
  intro pins s σ H xs us Q I r h
  obtain ⟨a, dx, fs, rfl, ha, hsp⟩ := h
  obtain ⟨u, rfl, ru⟩ := vals1 r
  cases ru
  obtain ⟨mA, J, _⟩ := ins_get I.hok ha
  obtain ⟨od, J, _⟩ := J.look
  obtain ⟨m, hF⟩ := I.fr
  have e := I.env0
  have e0 : Env0 X.prog X.w X.K X.mg X.base X.A.in1 X.stack s H := ⟨e.frames, e.mod, e.bs, e.bsz, e.funs, e.frf, e.hok, e.bare⟩
  have hl := F.len _ _ _ _ hsp
  refine PySem.W.repr_K hr.in1.units0 hF I.ok.mod.kin J hs hf ?_
  have b0 := hb s [.ref a] I.kIn (by rw [List.append_nil]; exact hl)
  rw [List.append_nil] at b0
  refine wpAny_call (codeAny_mono (F.run X.A.in1 X.stack s H ⟨[.ref a], []⟩ [.ref a] [.ref a] _ E hr.in1 e0 b0 (.cons rfl .nil) hsp) fun r s' hq => ?_)
  cases r with
  | error e => exact hx pins σ H s e s' I hq
  | ok fl =>
    cases fl with
    | ret w =>
      obtain ⟨z, H', I', rz, ⟨y, ez⟩, ex⟩ := I.after hq
      subst ez
      obtain ⟨tk, rfl⟩ := rz
      exact ⟨.str y, H', I', ⟨tk, rfl⟩, ex⟩
    | next => exact False.elim hq
    | brk => exact False.elim hq
    | cont => exact False.elim hq
/-! ### a row of sizes -/
structure Sz where
  many : Int
  common : Int
  odd : List (Int × Int × Bool)
def fldZ (n c : Int) (d : Addr) : List (Str × V) := putF "odd" (.ref d) (putF "common" (.int c) (putF "many" (.int n) []))
theorem ne1 : ¬ (("many" : Str) = "common") := by decide +kernel
theorem ne2 : ¬ (("many" : Str) = "odd") := by decide +kernel
theorem ne3 : ¬ (("common" : Str) = "odd") := by decide +kernel
theorem fldZ_eq (n c : Int) (d : Addr) : fldZ n c d = ([("many", .int n), ("common", .int c), ("odd", .ref d)] : List (Str × V)) := by
  unfold fldZ
  simp only [putF, if_neg ne1, if_neg ne2, if_neg ne3]
theorem fz_many (n c : Int) (d : Addr) : (fldZ n c d).lookup ("many" : Str) = some (.int n) := by
  unfold fldZ
  rw [lookup_putF, if_neg ne2, lookup_putF, if_neg ne1, lookup_putF, if_pos rfl]
theorem fz_common (n c : Int) (d : Addr) : (fldZ n c d).lookup ("common" : Str) = some (.int c) := by
  unfold fldZ
  rw [lookup_putF, if_neg ne3, lookup_putF, if_pos rfl]
theorem fz_odd (n c : Int) (d : Addr) : (fldZ n c d).lookup ("odd" : Str) = some (.ref d) := by
  unfold fldZ
  rw [lookup_putF, if_pos rfl]
theorem fz_no (n c : Int) (d : Addr) {m : Str} (h1 : (decide (m = "many") || decide (m = "common") || decide (m = "odd")) = false := by decide +kernel) : (fldZ n c d).lookup m = none := by
  simp only [Bool.or_eq_false_iff, decide_eq_false_iff_not] at h1
  unfold fldZ
  rw [lookup_putF, if_neg h1.2, lookup_putF, if_neg h1.1.2, lookup_putF, if_neg h1.1.1]
  rfl
theorem fz_put_odd (n c : Int) (d e : Addr) : putF "odd" (.ref e) (fldZ n c d) = fldZ n c e := by
  rw [fldZ_eq, fldZ_eq]
  simp only [putF, if_neg ne2, if_neg ne3, if_true]
theorem fz_put_many (n m c : Int) (d : Addr) : putF "many" (.int m) (fldZ n c d) = fldZ m c d := by
  rw [fldZ_eq, fldZ_eq]
  simp only [putF, if_true]
theorem fz_few (n c : Int) (d : Addr) : (fldZ n c d).length < 1000 := by rw [fldZ_eq]; show 3 < 1000; decide
abbrev OddE := Int × Int × Bool
def OddAt (H : Hp) (kvs : List (Key × V)) (odd : List OddE) : Prop := Paired (fun (kv : Key × V) (e : OddE) => kv.1 = Sum.inl e.1 ∧ ∃ t, kv.2 = .ref t ∧ H t = some (.tup [.int e.2.1, .bl e.2.2])) kvs odd
/-- tuples stay -/
def TupSame (H H' : Hp) : Prop := ∀ t xs, H t = some (.tup xs) → H' t = some (.tup xs)
theorem TupSame.of {H H' : Hp} (s : Same H H') : TupSame H H' := fun t xs h => s t _ h
theorem TupSame.trans {H H1 H2 : Hp} (a : TupSame H H1) (b : TupSame H1 H2) : TupSame H H2 := fun t xs h => b t xs (a t xs h)
theorem TupSame.upd {H : Hp} {D : Addr} {u : HO} (h : H D = some u) (hu : ∀ xs, u ≠ .tup xs) (o : HO) : TupSame H (L2.upd H D o) := fun t xs q => by
  rw [upd_ne (ne_of q h (fun e => hu xs e.symm))]
  exact q
theorem OddAt.mono {H H' : Hp} (s : TupSame H H') : ∀ {kvs : List (Key × V)} {odd : List OddE}, OddAt H kvs odd → OddAt H' kvs odd
  | _, _, .nil => .nil
  | _, _, .cons ⟨e, t, e2, h⟩ r => .cons ⟨e, t, e2, s _ _ h⟩ (OddAt.mono s r)
theorem OddAt.len {H : Hp} : ∀ {kvs : List (Key × V)} {odd : List OddE}, OddAt H kvs odd → kvs.length = odd.length
  | _, _, .nil => rfl
  | _, _, .cons _ r => by simp [OddAt.len r]
theorem OddAt.keys {H : Hp} : ∀ {kvs : List (Key × V)} {odd : List OddE}, OddAt H kvs odd → kvs.map (·.1) = (odd.map (·.1)).map Sum.inl
  | _, _, .nil => rfl
  | _, _, .cons ⟨e, _⟩ r => by simp [OddAt.keys r, e]
def look (odd : List OddE) (i : Int) : Option (Int × Bool) := (odd.find? fun e => decide (e.1 = i)).map (·.2)
theorem OddAt.look {H : Hp} : ∀ {kvs : List (Key × V)} {odd : List OddE} (i : Int), OddAt H kvs odd → (valV kvs (Sum.inl i) = none ∧ Gs.look odd i = none) ∨ ∃ t x, valV kvs (Sum.inl i) = some (.ref t) ∧ Gs.look odd i = some x ∧ H t = some (.tup [.int x.1, .bl x.2])
  | _, _, i, .nil => .inl ⟨rfl, rfl⟩
  | (k, v) :: kvs, (j, x) :: odd, i, .cons ⟨e, t, e2, h⟩ r => by
    simp only at e e2 h
    subst e e2
    by_cases hij : j = i
    · subst hij
      exact .inr ⟨t, x, by simp [valV], by simp [Gs.look], h⟩
    · have q1 : valV ((Sum.inl j, V.ref t) :: kvs) (Sum.inl i) = valV kvs (Sum.inl i) := by simp [valV, hij]
      have q2 : Gs.look ((j, x) :: odd) i = Gs.look odd i := by simp [Gs.look, hij]
      rw [q1, q2]
      exact OddAt.look i r
structure Wf (z : Sz) : Prop where
  m0 : 1 ≤ z.many
  m1 : z.many ≤ 1000000000
  c0 : 1 ≤ z.common
  c1 : z.common ≤ 60
  nd : (z.odd.map (·.1)).Nodup
  le : z.odd.length ≤ 60
  ok : ∀ e ∈ z.odd, 0 ≤ e.1 ∧ e.1 < z.many ∧ 1 ≤ e.2.1 ∧ e.2.1 ≤ 60 ∧ (e.2.1 ≠ z.common ∨ e.2.2 = true)
/-- a row of sizes stands at p, its dict at d: to be read -/
def SzR (C : Addr) (H : Hp) (p d : Addr) (z : Sz) : Prop := ∃ dx kvs, H p = some (.ins C dx (fldZ z.many z.common d)) ∧ Rd H d (.dK kvs) ∧ OddAt H kvs z.odd ∧ Wf z
/-- .. to be written -/
def SzW (C : Addr) (H : Hp) (p d : Addr) (z : Sz) : Prop := ∃ dx kvs, H p = some (.ins C dx (fldZ z.many z.common d)) ∧ H d = some (.dK kvs) ∧ OddAt H kvs z.odd ∧ Wf z
theorem SzW.r {C : Addr} {H : Hp} {p d : Addr} {z : Sz} (h : SzW C H p d z) : SzR C H p d z := by
  obtain ⟨dx, kvs, h1, h2, h3, h4⟩ := h
  exact ⟨dx, kvs, h1, .inl h2, h3, h4⟩
theorem Same.rd {H H' : Hp} (s : Same H H') {d : Addr} {u : HO} (r : Rd H d u) : Rd H' d u := by
  rcases r with r | ⟨o, r⟩
  · exact .inl (s _ _ r)
  · exact .inr ⟨o, s _ _ r⟩
theorem SzR.same {C : Addr} {H H' : Hp} {p d : Addr} {z : Sz} (h : SzR C H p d z) (s : Same H H') : SzR C H' p d z := by
  obtain ⟨dx, kvs, h1, h2, h3, h4⟩ := h
  exact ⟨dx, kvs, s _ _ h1, Same.rd s h2, h3.mono (TupSame.of s), h4⟩
theorem SzW.same {C : Addr} {H H' : Hp} {p d : Addr} {z : Sz} (h : SzW C H p d z) (s : Same H H') : SzW C H' p d z := by
  obtain ⟨dx, kvs, h1, h2, h3, h4⟩ := h
  exact ⟨dx, kvs, s _ _ h1, s _ _ h2, h3.mono (TupSame.of s), h4⟩
def stM (z : Sz) (i : Int) : Int × Bool := (look z.odd i).getD (z.common, false)
def szM (z : Sz) (i : Int) : Int := if (stM z i).2 = true then 0 else (stM z i).1
def inR (z : Sz) (i : Int) : Prop := 0 ≤ i ∧ i < z.many
/-! ### what the program's defs promise -/
def spNum (cN : Addr) : Sp := fun vs H Q E => ∃ i n : Int, vs = [.int i, .int n] ∧ Sm i ∧ Sm n ∧ (0 ≤ i ∧ i < n → Q .non H) ∧ (¬ (0 ≤ i ∧ i < n) → E (.ref cN) none H)
def spCS (cS : Addr) : Sp := fun vs H Q E => ∃ i : Int, vs = [.int i] ∧ Sm i ∧ (1 ≤ i ∧ i ≤ 60 → Q .non H) ∧ (¬ (1 ≤ i ∧ i ≤ 60) → E (.ref cS) none H)
def spState (C cN : Addr) : Sp := fun vs H Q E => ∃ (p d : Addr) (z : Sz) (i : Int), vs = [.ref p, .int i] ∧ SzR C H p d z ∧ Sm i ∧
  (inR z i → ∀ (t : Addr) (H' : Hp), Same H H' → H' t = some (.tup [.int (stM z i).1, .bl (stM z i).2]) → Q (.ref t) H') ∧ (¬ inR z i → E (.ref cN) none H)
def spQ (C cN : Addr) (g : Sz → Int → V) : Sp := fun vs H Q E => ∃ (p d : Addr) (z : Sz) (i : Int), vs = [.ref p, .int i] ∧ SzR C H p d z ∧ Sm i ∧ (inR z i → ∀ H', Same H H' → Q (g z i) H') ∧ (¬ inR z i → E (.ref cN) none H)
abbrev spSize (C cN : Addr) : Sp := spQ C cN fun z i => .int (szM z i)
abbrev spOwn (C cN : Addr) : Sp := spQ C cN fun z i => .int (stM z i).1
abbrev spHid (C cN : Addr) : Sp := spQ C cN fun z i => .bl (stM z i).2
def ahM (z : Sz) (i : Int) : Int := i * z.common + (((z.odd.map (·.1)).filter fun k => decide (k < i)).map fun k => szM z k - z.common).sum
def spAhead (C cN : Addr) : Sp := fun vs H Q E => ∃ (p d : Addr) (z : Sz) (i : Int), vs = [.ref p, .int i] ∧ SzW C H p d z ∧ Sm i ∧ (0 ≤ i ∧ i ≤ z.many → ∀ H', Same H H' → Q (.int (ahM z i)) H') ∧ (¬ (0 ≤ i ∧ i ≤ z.many) → E (.ref cN) none H)
def spTotal (C : Addr) : Sp := fun vs H Q _ => ∃ (p d : Addr) (z : Sz), vs = [.ref p] ∧ SzW C H p d z ∧ ∀ H', Same H H' → Q (.int (ahM z z.many)) H'
def spInit (C cM cS : Addr) : Sp := fun vs H Q E => ∃ (p dx : Addr) (n c : Int), vs = [.ref p, .int n, .int c] ∧ H p = some (.ins C dx []) ∧ Sm n ∧ Sm c ∧
  ((1 ≤ n ∧ n ≤ 1000000) ∧ (1 ≤ c ∧ c ≤ 60) → ∀ (d : Addr) (H' : Hp), H d = none → SzW C H' p d ⟨n, c, []⟩ → (∀ b o, H b = some o → b ≠ p → H' b = some o) → Q .non H') ∧
  (¬ (1 ≤ n ∧ n ≤ 1000000) → E (.ref cM) none H) ∧ ((1 ≤ n ∧ n ≤ 1000000) → ¬ (1 ≤ c ∧ c ≤ 60) → E (.ref cS) none H)
/-! ### small words for the loops -/
theorem OddAt.at_ {H : Hp} : ∀ {kvs : List (Key × V)} {odd : List OddE} {j : Nat} {k : Key} {v : V}, OddAt H kvs odd → kvs[j]? = some (k, v) → ∃ e, odd[j]? = some e ∧ k = Sum.inl e.1
  | _, _, _, _, _, .nil, q => by simp at q
  | _, _, 0, _, _, .cons ⟨e, _⟩ _, q => by
    simp at q
    subst q
    exact ⟨_, rfl, e⟩
  | _, _, j + 1, _, _, .cons _ r, q => by simpa using OddAt.at_ (j := j) r (by simpa using q)
theorem take_filter1 {α : Type} (l : List α) (p : α → Bool) {i : Nat} {x : α} (h : l[i]? = some x) : (l.take (i + 1)).filter p = (l.take i).filter p ++ (if p x = true then [x] else []) := by
  rw [List.take_add_one, h, List.filter_append]
  simp [List.filter_cons]
theorem take_map1 {α β : Type} (l : List α) (g : α → β) {i : Nat} {x : α} (h : l[i]? = some x) : (l.take (i + 1)).map g = (l.take i).map g ++ [g x] := by
  rw [List.take_add_one, h, List.map_append]
  rfl
/-- rows of exceptions -/
abbrev Ex3 := Int × Int × Bool
def exc1 (z : Sz) (k : Int) : Ex3 := (k, (stM z k).1, (stM z k).2)
def exD (e : Ex3) : PyData := .tuple [.int e.1, .int e.2.1, .bool e.2.2]
def DpT (H : Hp) (xs : List V) (es : List Ex3) : Prop := Paired (fun (v : V) (e : Ex3) => ∃ t, v = .ref t ∧ H t = some (.tup [.int e.1, .int e.2.1, .bl e.2.2])) xs es
theorem DpT.mono {H H' : Hp} (s : TupSame H H') : ∀ {xs : List V} {cs : List Ex3}, DpT H xs cs → DpT H' xs cs
  | _, _, .nil => .nil
  | _, _, .cons ⟨t, e, h⟩ r => .cons ⟨t, e, s _ _ h⟩ (DpT.mono s r)
theorem DpT.append {H : Hp} : ∀ {xs ys : List V} {cs ds : List Ex3}, DpT H xs cs → DpT H ys ds → DpT H (xs ++ ys) (cs ++ ds)
  | _, _, _, _, .nil, s => s
  | _, _, _, _, .cons a r, s => .cons a (DpT.append r s)
theorem DpT.len {H : Hp} : ∀ {xs : List V} {cs : List Ex3}, DpT H xs cs → xs.length = cs.length
  | _, _, .nil => rfl
  | _, _, .cons _ r => by simp [DpT.len r]
theorem DpT.dp {K : PySem.W.Frag} {H : Hp} : ∀ {xs : List V} {cs : List Ex3}, DpT H xs cs → DpAll K H xs (cs.map exD)
  | _, _, .nil => .nil
  | _, _, .cons ⟨t, e, h⟩ r => by
    subst e
    exact .cons (.tup (SqT.of h) (.cons (.int _) (.cons (.int _) (.cons (.bl _) .nil)))) (DpT.dp r)
def spExc (K : PySem.W.Frag) (C : Addr) : Sp := fun vs H Q _ => ∃ (p d : Addr) (z : Sz), vs = [.ref p] ∧ SzW C H p d z ∧ ∀ (ys : List Int) (l : Addr) (H' : Hp), ys.Perm (z.odd.map (·.1)) → ys.Pairwise (· ≤ ·) → Same H H' → Dp K H' (.ref l) (.list ((ys.map (exc1 z)).map exD)) → Q (.ref l) H'
def reprM (z : Sz) : Str := Str.empty ++ ("Sizes " : Str) ++ (toString z.many : String) ++ (" " : Str) ++ (toString z.common : String)
def spRepr (C : Addr) : Sp := fun vs H Q _ => ∃ (p d : Addr) (z : Sz), vs = [.ref p] ∧ SzR C H p d z ∧ Q (.str (reprM z)) H
end Gs

set_option Elab.async false
set_option linter.all false
set_option maxRecDepth 100000
set_option maxHeartbeats 4000000
namespace Gs
open PySem L2
/-! ### the law's own model of a row of sizes: a dict of two counts and two dicts -/
structure Zs where
  many : Int
  common : Int
  own : List (Int × Int)
  gone : List Int
def zL (n c : Int) (o g : Addr) : List (Key × V) := [(Sum.inr "many", .int n), (Sum.inr "common", .int c), (Sum.inr "own", .ref o), (Sum.inr "gone", .ref g)]
theorem nz1 : ¬ ("many" : Str) = "common" := by decide +kernel
theorem nz2 : ¬ ("many" : Str) = "own" := by decide +kernel
theorem nz3 : ¬ ("many" : Str) = "gone" := by decide +kernel
theorem nz4 : ¬ ("common" : Str) = "own" := by decide +kernel
theorem nz5 : ¬ ("common" : Str) = "gone" := by decide +kernel
theorem nz6 : ¬ ("own" : Str) = "gone" := by decide +kernel
theorem zl_many (n c : Int) (o g : Addr) : some (V.int n) = valV (zL n c o g) (Sum.inr "many") := by simp [valV, zL]
theorem zl_common (n c : Int) (o g : Addr) : some (V.int c) = valV (zL n c o g) (Sum.inr "common") := by simp [valV, zL, nz1]
theorem zl_own (n c : Int) (o g : Addr) : some (V.ref o) = valV (zL n c o g) (Sum.inr "own") := by simp [valV, zL, nz2, nz4]
theorem zl_gone (n c : Int) (o g : Addr) : some (V.ref g) = valV (zL n c o g) (Sum.inr "gone") := by simp [valV, zL, nz3, nz5, nz6]
def ownK (l : List (Int × Int)) : List (Key × V) := l.map fun e => (Sum.inl e.1, .int e.2)
def goneK (l : List Int) : List (Key × V) := l.map fun k => (Sum.inl k, .bl true)
def zown (own : List (Int × Int)) (k : Int) : Option Int := (own.find? fun e => decide (e.1 = k)).map (·.2)
theorem own_val : ∀ (own : List (Int × Int)) (k : Int), valV (ownK own) (Sum.inl k) = (zown own k).map V.int
  | [], k => rfl
  | (j, x) :: r, k => by
    by_cases h : j = k
    · subst h
      simp [valV, ownK, zown]
    · have q1 : valV (ownK ((j, x) :: r)) (Sum.inl k) = valV (ownK r) (Sum.inl k) := by simp [valV, ownK, h]
      have q2 : zown ((j, x) :: r) k = zown r k := by simp [zown, h]
      rw [q1, q2]
      exact own_val r k
theorem gone_val : ∀ (gone : List Int) (k : Int), valV (goneK gone) (Sum.inl k) = if k ∈ gone then some (.bl true) else none
  | [], k => rfl
  | j :: r, k => by
    by_cases h : j = k
    · subst h
      simp [valV, goneK]
    · have h' : ¬ k = j := fun z => h z.symm
      have q1 : valV (goneK (j :: r)) (Sum.inl k) = valV (goneK r) (Sum.inl k) := by simp [valV, goneK, h]
      rw [q1, gone_val r k]
      simp [h']
theorem gone_some (gone : List Int) (k : Int) : (valV (goneK gone) (Sum.inl k)).isSome = decide (k ∈ gone) := by
  rw [gone_val]
  by_cases h : k ∈ gone
  · rw [if_pos h, decide_eq_true h]
    rfl
  · rw [if_neg h, decide_eq_false h]
    rfl
def zkeys (z : Zs) : List Int := z.own.map (·.1) ++ z.gone.filter fun k => !(zown z.own k).isSome
structure Zok (z : Zs) : Prop where
  m0 : 1 ≤ z.many
  m1 : z.many ≤ 1000000000
  c0 : 1 ≤ z.common
  c1 : z.common ≤ 60
  le : (zkeys z).length < 64
  l1 : z.own.length ≤ 1000
  l2 : z.gone.length ≤ 1000
  ok : ∀ k ∈ zkeys z, 0 ≤ k ∧ k < z.many
structure ZAt (H : Hp) (a o g : Addr) (z : Zs) : Prop where
  ha : H a = some (.dK (zL z.many z.common o g))
  ho : H o = some (.dK (ownK z.own))
  hg : H g = some (.dK (goneK z.gone))
  ao : a ≠ o
  ag : a ≠ g
  og : o ≠ g
  ok : Zok z
theorem ZAt.same {H H' : Hp} {a o g : Addr} {z : Zs} (h : ZAt H a o g z) (s : Same H H') : ZAt H' a o g z := ⟨s _ _ h.ha, s _ _ h.ho, s _ _ h.hg, h.ao, h.ag, h.og, h.ok⟩
theorem dg_many {H : Hp} {a o g : Addr} {n c : Int} (h : H a = some (.dK (zL n c o g))) : DGet H a (.str "many") (some (.int n)) := .inl ⟨_, Sum.inr "many", .inl h, rfl, zl_many n c o g⟩
theorem dg_common {H : Hp} {a o g : Addr} {n c : Int} (h : H a = some (.dK (zL n c o g))) : DGet H a (.str "common") (some (.int c)) := .inl ⟨_, Sum.inr "common", .inl h, rfl, zl_common n c o g⟩
theorem dg_own {H : Hp} {a o g : Addr} {n c : Int} (h : H a = some (.dK (zL n c o g))) : DGet H a (.str "own") (some (.ref o)) := .inl ⟨_, Sum.inr "own", .inl h, rfl, zl_own n c o g⟩
theorem dg_gone {H : Hp} {a o g : Addr} {n c : Int} (h : H a = some (.dK (zL n c o g))) : DGet H a (.str "gone") (some (.ref g)) := .inl ⟨_, Sum.inr "gone", .inl h, rfl, zl_gone n c o g⟩
theorem dg_own1 {H : Hp} {o : Addr} {own : List (Int × Int)} (h : H o = some (.dK (ownK own))) (k : Int) : DGet H o (.int k) ((zown own k).map V.int) := .inl ⟨_, Sum.inl k, .inl h, rfl, (own_val own k).symm⟩
theorem dg_gone1 {H : Hp} {g : Addr} {gone : List Int} (h : H g = some (.dK (goneK gone))) (k : Int) : DGet H g (.int k) (valV (goneK gone) (Sum.inl k)) := .inl ⟨_, Sum.inl k, .inl h, rfl, rfl⟩
def zst (z : Zs) (k : Int) : Int × Bool := ((zown z.own k).getD z.common, decide (k ∈ z.gone))
def zsz (z : Zs) (k : Int) : Int := if k ∈ z.gone then 0 else (zown z.own k).getD z.common
theorem opt_int (o : Option Int) (c : Int) : (o.map V.int).getD (.int c) = .int (o.getD c) := by cases o <;> rfl
def zah (z : Zs) (k : Int) : Int := k * z.common + (((zkeys z).filter fun j => decide (j < k)).map fun j => zsz z j - z.common).sum
def spZodd : Sp := fun vs H Q _ => ∃ (a o g : Addr) (z : Zs), vs = [.ref a] ∧ ZAt H a o g z ∧ ∀ (ys : List Int) (l : Addr) (H' : Hp), ys.Perm (zkeys z) → ys.Pairwise (· ≤ ·) → Same H H' → H' l = some (.lst (ys.map V.int)) → Q (.ref l) H'
def spZsize : Sp := fun vs H Q _ => ∃ (a o g : Addr) (z : Zs) (k : Int), vs = [.ref a, .int k] ∧ ZAt H a o g z ∧ Q (.int (zsz z k)) H
def spZahead : Sp := fun vs H Q _ => ∃ (a o g : Addr) (z : Zs) (k : Int), vs = [.ref a, .int k] ∧ ZAt H a o g z ∧ ∀ H', Same H H' → Q (.int (zah z k)) H'
/-- the two models say the same -/
structure Rel (s : Sz) (z : Zs) : Prop where
  many : s.many = z.many
  common : s.common = z.common
  st : ∀ k, stM s k = zst z k
  keys : (s.odd.map (·.1)).Perm (zkeys z)
theorem Rel.sz {s : Sz} {z : Zs} (r : Rel s z) (k : Int) : szM s k = zsz z k := by
  unfold szM zsz
  rw [r.st k]
  unfold zst
  by_cases h : k ∈ z.gone
  · simp [h]
  · simp [h]
theorem perm_sum {l l' : List Int} (p : l.Perm l') : l.sum = l'.sum := by
  induction p with
  | nil => rfl
  | cons x _ ih => simp [ih]
  | swap x y l => simp only [List.sum_cons]; omega
  | trans _ _ h1 h2 => rw [h1, h2]
theorem Rel.ah {s : Sz} {z : Zs} (r : Rel s z) (k : Int) : ahM s k = zah z k := by
  unfold ahM zah
  rw [r.common]
  congr 1
  have e : (fun j => szM s j - z.common) = fun j => zsz z j - z.common := by
    funext j
    rw [r.sz j]
  rw [e]
  exact perm_sum ((r.keys.filter _).map _)
theorem sorted_eq {l l' : List Int} (p : l.Perm l') (h : l.Pairwise (· ≤ ·)) (h' : l'.Pairwise (· ≤ ·)) : l = l' := by
  refine List.Perm.eq_of_pairwise (le := fun a b => a ≤ b) ?_ h h' p
  intro a b _ _ h1 h2
  omega
def spZst (K : PySem.W.Frag) (C : Addr) : Sp := fun vs H Q _ => ∃ (p d a o g l : Addr) (s : Sz) (z : Zs) (ns : List Int), vs = [.ref p, .ref a, .ref l] ∧ SzW C H p d s ∧ ZAt H a o g z ∧ Rel s z ∧ H l = some (.lst (ns.map V.int)) ∧ ns.length ≤ 1000 ∧ (∀ n ∈ ns, Sm n) ∧ ∀ H', Same H H' → Q (.bl true) H'
def spFar : Sp := fun vs H Q _ => ∃ a : Addr, vs = [.ref a] ∧ DrawAt H a ∧ ∀ (i : Int) (H' : Hp), Sm i → (i < -1000000 ∨ 1000000 < i) → Ext a H H' → Q (.int i) H'
def spZnew : Sp := fun vs H Q _ => ∃ n c : Int, vs = [.int n, .int c] ∧ (1 ≤ n ∧ n ≤ 1000000000) ∧ (1 ≤ c ∧ c ≤ 60) ∧ ∀ (a o g : Addr) (H' : Hp), Same H H' → ZAt H' a o g ⟨n, c, [], []⟩ → H a = none → H o = none → H g = none → Q (.ref a) H'
theorem Ext.pick {a : Addr} {H H1 : Hp} (d : DrawAt H1 a) (e : ∀ b, b ≠ a → H1 b = H b) : Ext a H H1 := ⟨d, fun b o n h => by rw [e b n]; exact h⟩
/-- a caught error asked for its class -/
def rIsX (K : PySem.W.Frag) (a : Addr) (cls : Value) (d : Option Addr) : List V → Hp → VK → Prop := fun xs H Q => ∃ (D : Addr) (c : V) (cv : Value) (b : Bool), cls = .ref D ∧ d = none ∧ ExcC K D ∧ xs = [.ref a, c] ∧ (∀ u, RelV c u → u = cv) ∧ PySem.W.kitOne K (.ref D) cv = some b ∧ Q (.bl b) H
theorem call_isX {X : Cx} {a : Addr} {oe : Obj} {cls : Value} {d : Option Addr} {pn : List (Addr × Obj)} (hz : Zc cls d oe) (hf : ∃ vs, oe.data = .fields vs) : CallR (X.suite a ((a, oe) :: pn)) (.builtin "isinstance") (rIsX X.K a cls d) := by
  intro pins s σ H xs us Q I r h
  obtain ⟨D, c, cv, b, rfl, rfl, e, h1, h2, h3, q⟩ := h
  exact call_isE e hz hf pins s σ H xs us Q I r ⟨c, cv, b, h1, h2, h3, q⟩
theorem glR {X : Cx} {x : Str} {C : Addr} {pos : Pos} (hg : Gl X x) (hm : X.mg x = some (.ref C)) (hd : (x == ("__debug__" : Str)) = false := by decide) : PE X (.Name x pos) (tC (.ref C)) := pe_glob hg hm rfl hd
theorem kit_own {K : PySem.W.Frag} {D C : Addr} {b : Bool} (hne : D ≠ C) (hc : PySem.W.isClsIn K C = true) (ht : PySem.W.typeIn K (.ref C) = some (.type "type")) (hs : PySem.W.subIn K (.ref D) (.ref C) = some b) : PySem.W.kitOne K (.ref D) (.ref C) = some b := by
  have h2 : (PySem.W.clsIn K C).isSome = true := hc
  have h1 : PySem.W.kitCls K (.ref D) (.ref C) = some b := by
    show (if ((PySem.W.clsIn K C).isSome && PySem.W.typeIn K (.ref C) == some (.type "type")) = true then PySem.W.subIn K (.ref D) (.ref C) else none) = some b
    rw [h2, ht, if_pos (by simp)]
    exact hs
  unfold PySem.W.kitOne
  rw [if_neg (by simpa using hne)]
  exact h1
theorem kit_same {K : PySem.W.Frag} {D : Addr} : PySem.W.kitOne K (.ref D) (.ref D) = some true := by
  unfold PySem.W.kitOne
  rw [if_pos (by simp)]
theorem kit_tyE {K : PySem.W.Frag} {D : Addr} {T : String} {b : Bool} (hm : PySem.W.kitMeta T = true) (hs : PySem.W.subIn K (.ref D) (.type T) = some b) : PySem.W.kitOne K (.ref D) (.type T) = some b := by
  unfold PySem.W.kitOne
  rw [if_neg (by simp)]
  show (if PySem.W.kitMeta T = true then PySem.W.subIn K (.ref D) (.type T) else none) = some b
  rw [if_pos hm]
  exact hs
theorem rel_ty {T : String} : ∀ u, RelV (.ty T) u → u = .type T := fun u h => h
theorem rel_ref {C : Addr} : ∀ u, RelV (.ref C) u → u = .ref C := fun u h => h
theorem call_reprD {X : Cx} {CX : CXT} {k : Nat} {C : Addr} {ps : List Str} {sp : Sp} {E : XK} (D : Mn X.prog X.w X.K X.mg X.base CX k C "__repr__" ps sp) (hr : Room (k + 1) X.A) (hx : Passes CX X E) : CallR X (.builtin "repr") (rRepr C sp E) := by
  obtain ⟨f, fd, F, hm, b⟩ := D
  exact call_repr F hm.at_ hm.fn b hr hx
def zexc (z : Zs) (k : Int) : Ex3 := (k, (zst z k).1, (zst z k).2)
theorem Rel.exc {s : Sz} {z : Zs} (r : Rel s z) (k : Int) : exc1 s k = zexc z k := by
  unfold exc1 zexc
  rw [r.st k]
def reprZ (n c : Int) : Str := ("Sizes " : Str) ++ (toString n : String) ++ (" " : Str) ++ (toString c : String)
theorem Rel.repr {s : Sz} {z : Zs} (r : Rel s z) : reprM s = reprZ z.many z.common := by
  unfold reprM reprZ
  rw [r.many, r.common, PySem.Str.empty_append]
theorem ex_mxl : ∀ es : List Ex3, mxlAll (es.map exD) ≤ 3
  | [] => by simp [mxlAll]
  | e :: r => by
    have := ex_mxl r
    simp only [List.map_cons, mxlAll, exD, mxl, List.length_cons, List.length_nil]
    omega
theorem ex_depth : ∀ es : List Ex3, PyData.depthAll (es.map exD) ≤ 1
  | [] => by simp [PyData.depthAll]
  | e :: r => by
    have := ex_depth r
    simp only [List.map_cons, PyData.depthAll, exD, PyData.depth]
    omega
end Gs
namespace Gs
open PySem L2
/-! ### an instance made with a keyword-only argument -/
def Cn (P : Program) (w : World) (K : PySem.W.Frag) (mg : Str → Option Value) (base : Heap) (CX : CXT) (k : Nat) (C : Addr) (x : Str) (sp : Sp) : Prop :=
  ∃ (f : Addr) (fd : FuncData), FnOk P w K mg base CX k f fd ["self", "many", "common"] sp ∧ Mk K C f ∧ mg x = some (.ref C) ∧ KBn K fd ["self", "many", "common"] 2 ["common"] (fun us ws => us ++ ws) (fun vs zs => vs ++ zs)
section
variable {X : Cx} {CX : CXT} {k : Nat} {C : Addr} {sp : Sp} {x : Str} {p pos : Pos} {e : Expr} {kws : List Keyword} {t tk : TA}
theorem pe_mkD {E : XK} (D : Cn X.prog X.w X.K X.mg X.base CX k C x sp) (hr : Room (k + 1) X.A) (hg : Gl X x) (hx : Passes CX X E) (ha : PA X [e] t) (hkw : PK X kws tk)
    (hall : (backToKw pos (keywordEach kws X.env)).all (·.1.isSome) = true := by rfl) (hks : (backToKw pos (keywordEach kws X.env)).filterMap (·.1) = ([("common" : Str)] : List Str) := by rfl) (hdb : (x == ("__debug__" : Str)) = false := by decide)
    (he : starEach [e] X.env = (false, eval e X.env) :: starEach [] X.env := by rfl) (hpl : ((backTo pos (starEach [e] X.env)).any (·.1) || (backToKw pos (keywordEach kws X.env)).any (·.1.isNone)) = false := by rfl) :
    PE X (.Call (.Name x p) [e] kws pos) (tMakeK C 1 1 sp (fun vs zs => vs ++ zs) E t tk) := by
  obtain ⟨f, fd, F, M, m, b⟩ := D
  exact pe_makeK M F hr hg m b hx ha hkw hall hks hdb he hpl
def tMakeAt (C : Addr) (sp : Sp) (E : St → XK) (t tk : TA) : TE := fun σ H Q => t σ H fun vs H1 => tk σ H1 fun zs H2 => vs.length = 1 ∧ zs.length = 1 ∧ ∀ x dx, H2 x = none → H2 dx = none → dx ≠ x →
  sp ((.ref x :: vs) ++ zs) (upd (upd H2 dx (.own x)) x (.ins C dx [])) (fun v H3 => v = .non ∧ Q (.ref x) H3) (E σ)
theorem pe_mkSD {E : St → XK} (D : Cn X.prog X.w X.K X.mg X.base CX k C x sp) (hr : Room (k + 1) X.A) (hg : Gl X x) (hx : ∀ σ, PassesAt CX X σ (E σ)) (ha : PA X [e] t) (hkw : PK X kws tk)
    (hall : (backToKw pos (keywordEach kws X.env)).all (·.1.isSome) = true := by rfl) (hks : (backToKw pos (keywordEach kws X.env)).filterMap (·.1) = ([("common" : Str)] : List Str) := by rfl) (hdb : (x == ("__debug__" : Str)) = false := by decide)
    (he : starEach [e] X.env = (false, eval e X.env) :: starEach [] X.env := by rfl) (hpl : ((backTo pos (starEach [e] X.env)).any (·.1) || (backToKw pos (keywordEach kws X.env)).any (·.1.isNone)) = false := by rfl) :
    PE X (.Call (.Name x p) [e] kws pos) (tMakeAt C sp E t tk) := by
  obtain ⟨f, fd, F, M, m, hb⟩ := D
  refine ⟨fun pins s σ H Q I h => wpAny_Call_Name_kw (ld_glob I hg m (PySem.W.callWith_KW (h₀ := X.base) I.ok.mod.kin M.kp hall (thn (ha.run pos pins s σ H _ I h) fun us s1 hh => ?_) hpl he) hdb)⟩
  obtain ⟨vs, H1, I1, r, q⟩ := hh
  refine thn (hkw.run pos pins s1 σ H1 _ I1 q) fun ws s2 hh => ?_
  obtain ⟨zs, H2, I2, rz, l1, l2, q2⟩ := hh
  refine ⟨I2.kIn, ?_⟩
  rw [hks]
  obtain ⟨y, ey⟩ : ∃ y, y = s2.heap.objs.size := ⟨_, rfl⟩
  have hq := q2 (y + 1) y (I2.hok.fresh (by omega)) (I2.hok.fresh (by omega)) (Nat.ne_of_lt (Nat.lt_succ_self y))
  subst ey
  have J := Inv.made (C := C) I2
  have n1 : (Value.ref (s2.heap.objs.size + 1) :: us).length = 2 := by rw [List.length_cons, ← r.length, l1]
  have n2 : ws.length = 1 := by rw [← rz.length, l2]
  have b2 := hb.to _ (Value.ref (s2.heap.objs.size + 1) :: us) ws J.kIn n1 n2
  have r2 : Vals ((V.ref (s2.heap.objs.size + 1) :: vs) ++ zs) ((Value.ref (s2.heap.objs.size + 1) :: us) ++ ws) := Vals.append (.cons rfl r) rz
  refine wpAny_call (make_map (f := f) I2.kIn M.makes M.init (beq_iff_eq.mp M.fn) (codeAny_mono (F.run _ X.stack _ _ ⟨_, ([("common" : Str)] : List Str).zip ws⟩ _ _ _ (E σ) (hr.make C us _) (J.env0.make C us _) b2 r2 hq) fun rr s' hq' => ?_))
  cases rr with
  | error e => exact hx σ pins _ _ e s' J hq'
  | ok fl =>
    cases fl with
    | ret u =>
      obtain ⟨v, H', I3, rv, ev, q3⟩ := J.after hq'
      subst ev
      exact ⟨rv, V.ref _, H', I3, rfl, q3⟩
    | next => exact False.elim hq'
    | brk => exact False.elim hq'
    | cont => exact False.elim hq'
end
end Gs
namespace Gs
open PySem L2
def Cn1 (P : Program) (w : World) (K : PySem.W.Frag) (mg : Str → Option Value) (base : Heap) (CX : CXT) (k : Nat) (C : Addr) (x : Str) (sp : Sp) : Prop :=
  ∃ (f : Addr) (fd : FuncData) (ds : List Value), FnOk P w K mg base CX k f fd ["self", "many", "common"] sp ∧ Mk K C f ∧ mg x = some (.ref C) ∧ Vals [.int 1] ds ∧ Binds K fd ["self", "many", "common"] ds
theorem pe_mk1D {X : Cx} {CX : CXT} {k : Nat} {C : Addr} {sp : Sp} {x : Str} {p pos : Pos} {e : Expr} {t : TA} {E : XK} (D : Cn1 X.prog X.w X.K X.mg X.base CX k C x sp) (hr : Room (k + 1) X.A) (hg : Gl X x) (hx : Passes CX X E) (ha : PA X [e] t) (hdb : (x == ("__debug__" : Str)) = false := by decide)
    (he : starEach [e] X.env = (false, eval e X.env) :: starEach [] X.env := by rfl) (hpl : (backTo pos (starEach [] X.env)).any (·.1) = false := by rfl) : PE X (.Call (.Name x p) [e] [] pos) (tMake C sp [.int 1] E t) := by
  obtain ⟨f, fd, ds, F, M, m, v, b⟩ := D
  exact pe_make M F hr hg m b v hx ha hdb he hpl
def EqR0 (C : Addr) (a b : Addr) (H : Hp) : Prop := ∃ d e n c, SzW C H a d ⟨n, c, []⟩ ∧ SzW C H b e ⟨n, c, []⟩
theorem op_eqOwn {X : Cx} {CX : CXT} {k : Nat} {C : Addr} {ps : List Str} {R : Addr → Addr → Hp → Prop} {E : XK} (D : Mn X.prog X.w X.K X.mg X.base CX k C "__eq__" ps (spEq R)) (hr : Room k X.A) (hx : Passes CX X E) : OpR X (compareOp .Eq) (rEqG (DIns C R)) := by
  obtain ⟨f, fd, F, hm, b⟩ := D
  exact op_eqG (rcG_ins F hm.at_ hm.fn b hx) hr
theorem new2 {H : Hp} {x dx : Addr} (hx : H x = none) (hd : H dx = none) (ne : dx ≠ x) (o u : HO) : Same H (upd (upd H dx o) x u) := fun b v q => by
  rw [upd_ne (ne_of_none q hx), upd_ne (ne_of_none q hd)]
  exact q
def goodS (n c : Int) : Prop := (1 ≤ n ∧ n ≤ 1000000) ∧ (1 ≤ c ∧ c ≤ 60)
def spMade (C : Addr) : Sp := fun vs H Q _ => ∃ n c : Int, vs = [.int n, .int c] ∧ Sm n ∧ Sm c ∧ (goodS n c → ∀ (p d : Addr) (H' : Hp), Same H H' → SzW C H' p d ⟨n, c, []⟩ → Q (.ref p) H') ∧
  (¬ goodS n c → ∀ (l : Addr) (H' : Hp), Same H H' → H' l = some (.lst [.bl (!decide (1 ≤ n ∧ n ≤ 1000000)), .bl (decide (1 ≤ n ∧ n ≤ 1000000)), .bl true]) → Q (.ref l) H')
def spRef (C : Addr) : Sp := fun vs H Q _ => ∃ (p d : Addr) (z : Sz) (i way : Int), vs = [.ref p, .int i, .int way] ∧ SzW C H p d z ∧ Sm i ∧ (0 ≤ way ∧ way < 4) ∧ (way = 3 → ¬ (0 ≤ i ∧ i ≤ z.many)) ∧ (way ≠ 3 → ¬ inR z i) ∧ ∀ H', Same H H' → Q (.bl true) H'
theorem merge_zL (n c : Int) (o g : Addr) : mergeK [] (zL n c o g) = zL n c o g := by
  simp [mergeK, zL, putK, nz1, nz2, nz3, nz4, nz5, nz6]
end Gs

set_option Elab.async false
set_option linter.all false
set_option maxRecDepth 100000
set_option maxHeartbeats 4000000
namespace Gs
open PySem L2
/-! ### what is kept of a thing -/
def dropO (odd : List OddE) (i : Int) : List OddE := odd.filter fun e => decide (e.1 ≠ i)
def putO (odd : List OddE) (i : Int) (x : Int × Bool) : List OddE := if (odd.any fun e => decide (e.1 = i)) = true then odd.map (fun e => if e.1 = i then (e.1, x) else e) else odd ++ [(i, x)]
theorem inl_eq {a b : Int} : ((Sum.inl a : Key) = Sum.inl b) ↔ a = b := ⟨fun h => by injection h, fun h => by rw [h]⟩
theorem OddAt.drop {H : Hp} (i : Int) : ∀ {kvs : List (Key × V)} {odd : List OddE}, OddAt H kvs odd → OddAt H (dropK kvs (Sum.inl i)) (dropO odd i)
  | _, _, .nil => .nil
  | (k, v) :: kvs, e :: odd, .cons ⟨h1, t, h2, h3⟩ r => by
    have ih := OddAt.drop i r
    simp only at h1
    subst h1
    unfold dropK dropO at *
    by_cases h : e.1 = i
    · rw [List.filter_cons_of_neg (by simp [h]), List.filter_cons_of_neg (by simp [h])]
      exact ih
    · rw [List.filter_cons_of_pos (by simp [h]), List.filter_cons_of_pos (by simp [h])]
      exact .cons ⟨rfl, t, h2, h3⟩ ih
theorem OddAt.any {H : Hp} (i : Int) : ∀ {kvs : List (Key × V)} {odd : List OddE}, OddAt H kvs odd → (kvs.any fun kv => decide (kv.1 = Sum.inl i)) = odd.any fun e => decide (e.1 = i)
  | _, _, .nil => rfl
  | (k, v) :: kvs, e :: odd, .cons ⟨h1, _⟩ r => by
    simp only at h1
    subst h1
    rw [List.any_cons, List.any_cons, OddAt.any i r]
    congr 1
    exact decide_eq_decide.mpr inl_eq
theorem OddAt.mapped {H : Hp} (i : Int) {t : Addr} {x : Int × Bool} (ht : H t = some (.tup [.int x.1, .bl x.2])) : ∀ {kvs : List (Key × V)} {odd : List OddE}, OddAt H kvs odd → OddAt H (kvs.map fun kv => if kv.1 = Sum.inl i then (kv.1, .ref t) else kv) (odd.map fun e => if e.1 = i then (e.1, x) else e)
  | _, _, .nil => .nil
  | (k, v) :: kvs, e :: odd, .cons ⟨h1, u, h2, h3⟩ r => by
    simp only at h1
    subst h1
    rw [List.map_cons, List.map_cons]
    by_cases h : e.1 = i
    · rw [if_pos h, if_pos (inl_eq.mpr h)]
      exact .cons ⟨rfl, t, rfl, ht⟩ (OddAt.mapped i ht r)
    · rw [if_neg h, if_neg (fun z => h (inl_eq.mp z))]
      exact .cons ⟨rfl, u, h2, h3⟩ (OddAt.mapped i ht r)
theorem OddAt.snoc {H : Hp} {t : Addr} {i : Int} {x : Int × Bool} (ht : H t = some (.tup [.int x.1, .bl x.2])) : ∀ {kvs : List (Key × V)} {odd : List OddE}, OddAt H kvs odd → OddAt H (kvs ++ [(Sum.inl i, .ref t)]) (odd ++ [(i, x)])
  | _, _, .nil => .cons ⟨rfl, t, rfl, ht⟩ .nil
  | _, _, .cons a r => .cons a (OddAt.snoc ht r)
theorem OddAt.put {H : Hp} {t : Addr} {i : Int} {x : Int × Bool} (ht : H t = some (.tup [.int x.1, .bl x.2])) {kvs : List (Key × V)} {odd : List OddE} (h : OddAt H kvs odd) : OddAt H (putK kvs (Sum.inl i) (.ref t)) (putO odd i x) := by
  unfold putK putO
  rw [h.any i]
  by_cases c : (odd.any fun e => decide (e.1 = i)) = true
  · rw [if_pos c, if_pos c]
    exact h.mapped i ht
  · rw [if_neg c, if_neg c]
    exact h.snoc ht
/-! ### what a look finds behind it -/
theorem look_cons (e : OddE) (r : List OddE) (k : Int) : look (e :: r) k = if e.1 = k then some e.2 else look r k := by
  by_cases h : e.1 = k
  · simp [look, h]
  · simp [look, h]
theorem look_append (a b : List OddE) (k : Int) : look (a ++ b) k = (look a k).or (look b k) := by
  induction a with
  | nil => simp [look]
  | cons e r ih =>
    rw [List.cons_append, look_cons, look_cons, ih]
    by_cases h : e.1 = k
    · simp [h]
    · simp [h]
theorem look_drop (odd : List OddE) (i k : Int) : look (dropO odd i) k = if k = i then none else look odd k := by
  induction odd with
  | nil => simp [dropO, look]
  | cons e r ih =>
    unfold dropO at *
    by_cases h : e.1 = i
    · rw [List.filter_cons_of_neg (by simp [h]), ih, look_cons]
      by_cases hk : k = i
      · simp [hk]
      · have : ¬ e.1 = k := fun z => hk (by omega)
        simp [hk, this]
    · rw [List.filter_cons_of_pos (by simp [h]), look_cons, look_cons, ih]
      by_cases hk : e.1 = k
      · have : ¬ k = i := fun z => h (by omega)
        simp [hk, this]
      · simp [hk]
theorem look_mapped (odd : List OddE) (i k : Int) (x : Int × Bool) : look (odd.map fun e => if e.1 = i then (e.1, x) else e) k = (look odd k).map fun y => if k = i then x else y := by
  induction odd with
  | nil => simp [look]
  | cons e r ih =>
    rw [List.map_cons, look_cons, look_cons, ih]
    by_cases h : e.1 = i
    · rw [if_pos h]
      by_cases hk : e.1 = k
      · have : k = i := by omega
        simp [hk, this]
      · simp [hk]
    · rw [if_neg h]
      by_cases hk : e.1 = k
      · have : ¬ k = i := by omega
        simp [hk, this]
      · simp [hk]
theorem look_any (odd : List OddE) (i : Int) : (odd.any fun e => decide (e.1 = i)) = (look odd i).isSome := by
  induction odd with
  | nil => rfl
  | cons e r ih =>
    rw [List.any_cons, look_cons, ih]
    by_cases h : e.1 = i
    · simp [h]
    · simp [h]
theorem look_put (odd : List OddE) (i k : Int) (x : Int × Bool) : look (putO odd i x) k = if k = i then some x else look odd k := by
  unfold putO
  rw [look_any]
  by_cases c : (look odd i).isSome = true
  · rw [if_pos c, look_mapped]
    by_cases h : k = i
    · subst h
      rw [if_pos rfl]
      obtain ⟨y, e⟩ := Option.isSome_iff_exists.mp c
      rw [e]
      simp
    · simp [h]
  · rw [if_neg c, look_append]
    have c' : look odd i = none := by simpa using c
    by_cases h : k = i
    · subst h
      rw [c']
      simp [look]
    · have : look [(i, x)] k = none := by simp [look]; omega
      rw [this]
      simp [h]
theorem look_mem {odd : List OddE} {i : Int} {x : Int × Bool} (h : look odd i = some x) : (i, x) ∈ odd := by
  induction odd with
  | nil => cases h
  | cons e r ih =>
    rw [look_cons] at h
    by_cases c : e.1 = i
    · rw [if_pos c] at h
      have := Option.some.inj h
      subst this
      rw [← c]
      exact List.mem_cons_self
    · rw [if_neg c] at h
      exact List.mem_cons_of_mem _ (ih h)
theorem look_key {odd : List OddE} {i : Int} : i ∈ odd.map (·.1) ↔ (look odd i).isSome = true := by
  rw [← look_any, List.any_eq_true]
  simp only [List.mem_map, decide_eq_true_eq]
theorem look_of {odd : List OddE} (nd : (odd.map (·.1)).Nodup) {e : OddE} (h : e ∈ odd) : look odd e.1 = some e.2 := by
  induction odd with
  | nil => cases h
  | cons f r ih =>
    rw [List.map_cons, List.nodup_cons] at nd
    rw [look_cons]
    rcases List.mem_cons.mp h with rfl | h
    · rw [if_pos rfl]
    · have : ¬ f.1 = e.1 := fun z => nd.1 (by rw [z]; exact List.mem_map_of_mem h)
      rw [if_neg this]
      exact ih nd.2 h
def keepM (z : Sz) (i own : Int) (hid : Bool) : Sz := ⟨z.many, z.common, if own = z.common ∧ hid = false then dropO z.odd i else putO z.odd i (own, hid)⟩
def fullM (z : Sz) (i own : Int) (hid : Bool) : Prop := ¬ (own = z.common ∧ hid = false) ∧ look z.odd i = none ∧ 60 ≤ z.odd.length
theorem keep_st {z : Sz} {i own : Int} {hid : Bool} (k : Int) : stM (keepM z i own hid) k = if k = i then (own, hid) else stM z k := by
  unfold stM keepM
  by_cases c : own = z.common ∧ hid = false
  · simp only [if_pos c]
    rw [look_drop]
    by_cases h : k = i
    · simp [h, c.1, c.2]
    · simp [h]
  · simp only [if_neg c]
    rw [look_put]
    by_cases h : k = i
    · simp [h]
    · simp [h]
theorem nodup_filter {α : Type} {p : α → Bool} {l : List α} (h : l.Nodup) : (l.filter p).Nodup := List.Pairwise.filter p h
theorem map_filter_key (odd : List OddE) (i : Int) : (dropO odd i).map (·.1) = (odd.map (·.1)).filter fun k => decide (k ≠ i) := by
  unfold dropO
  rw [List.filter_map]
  rfl
theorem map_mapped_key (odd : List OddE) (i : Int) (x : Int × Bool) : (odd.map fun e => if e.1 = i then (e.1, x) else e).map (·.1) = odd.map (·.1) := by
  rw [List.map_map]
  refine List.map_congr_left fun e _ => ?_
  show (if e.1 = i then (e.1, x) else e).1 = e.1
  by_cases h : e.1 = i
  · rw [if_pos h]
  · rw [if_neg h]
theorem putO_len (odd : List OddE) (i : Int) (x : Int × Bool) : (putO odd i x).length ≤ odd.length + 1 := by
  unfold putO
  split
  · rw [List.length_map]; omega
  · rw [List.length_append]; exact Nat.le_refl _
theorem keep_len (z : Sz) (i own : Int) (hid : Bool) : (keepM z i own hid).odd.length ≤ z.odd.length + 1 := by
  unfold keepM
  by_cases c : own = z.common ∧ hid = false
  · simp only [if_pos c]
    exact Nat.le_succ_of_le (List.length_filter_le _ _)
  · simp only [if_neg c]
    exact putO_len _ _ _
theorem keep_wf {z : Sz} {i own : Int} {hid : Bool} (W : Wf z) (hi : inR z i) (h0 : 1 ≤ own) (h1 : own ≤ 60) (nf : ¬ fullM z i own hid) : Wf (keepM z i own hid) := by
  obtain ⟨m0, m1, c0, c1, nd, le, ok⟩ := W
  by_cases c : own = z.common ∧ hid = false
  · have e : keepM z i own hid = ⟨z.many, z.common, dropO z.odd i⟩ := by unfold keepM; simp only [if_pos c]
    rw [e]
    refine ⟨m0, m1, c0, c1, ?_, ?_, ?_⟩
    · show ((dropO z.odd i).map (·.1)).Nodup
      rw [map_filter_key]
      exact nodup_filter nd
    · exact Nat.le_trans (List.length_filter_le _ _) le
    · intro e he
      exact ok e (List.mem_filter.mp he).1
  · have e : keepM z i own hid = ⟨z.many, z.common, putO z.odd i (own, hid)⟩ := by unfold keepM; simp only [if_neg c]
    rw [e]
    have good : own ≠ z.common ∨ hid = true := by
      by_cases q : own = z.common
      · right
        cases hid
        · exact absurd ⟨q, rfl⟩ c
        · rfl
      · exact .inl q
    by_cases a : (z.odd.any fun e => decide (e.1 = i)) = true
    · have e2 : putO z.odd i (own, hid) = z.odd.map fun e => if e.1 = i then (e.1, (own, hid)) else e := by unfold putO; rw [if_pos a]
      rw [e2]
      refine ⟨m0, m1, c0, c1, ?_, ?_, ?_⟩
      · show ((z.odd.map fun e => if e.1 = i then (e.1, (own, hid)) else e).map (·.1)).Nodup
        rw [map_mapped_key]
        exact nd
      · show (z.odd.map _).length ≤ 60
        rw [List.length_map]
        exact le
      · intro e he
        obtain ⟨e', he', rfl⟩ := List.mem_map.mp he
        have := ok e' he'
        by_cases q : e'.1 = i
        · rw [if_pos q]
          exact ⟨this.1, this.2.1, h0, h1, good⟩
        · rw [if_neg q]
          exact this
    · have e2 : putO z.odd i (own, hid) = z.odd ++ [(i, (own, hid))] := by unfold putO; rw [if_neg a]
      rw [e2]
      rw [look_any] at a
      have a' : look z.odd i = none := by simpa using a
      refine ⟨m0, m1, c0, c1, ?_, ?_, ?_⟩
      · show ((z.odd ++ [(i, (own, hid))]).map (·.1)).Nodup
        rw [List.map_append, List.nodup_append]
        refine ⟨nd, by simp, ?_⟩
        intro k hk b hb e
        simp at hb
        rw [e, hb, look_key, a'] at hk
        cases hk
      · show (z.odd ++ [(i, (own, hid))]).length ≤ 60
        rw [List.length_append]
        have : ¬ 60 ≤ z.odd.length := fun q => nf ⟨c, a', q⟩
        show z.odd.length + 1 ≤ 60
        omega
      · intro e he
        rcases List.mem_append.mp he with he | he
        · exact ok e he
        · simp at he
          rw [he]
          exact ⟨hi.1, hi.2, h0, h1, good⟩
/-- all but the thing at d is as it was -/
def Frm (d : Addr) (H H' : Hp) : Prop := ∀ b o, b ≠ d → H b = some o → H' b = some o
theorem Frm.of {d : Addr} {H H' : Hp} (s : Same H H') : Frm d H H' := fun b o _ h => s b o h
theorem Frm.trans {d : Addr} {H H1 H2 : Hp} (a : Frm d H H1) (b : Frm d H1 H2) : Frm d H H2 := fun c o n h => b c o n (a c o n h)
theorem Frm.upd {d : Addr} {H : Hp} (o : HO) : Frm d H (L2.upd H d o) := fun b v n h => by rw [upd_ne n]; exact h
theorem upd_self {H : Hp} {a : Addr} {o : HO} (h : H a = some o) : upd H a o = H := by
  funext b
  by_cases e : b = a
  · subst e
    rw [upd_same, h]
  · rw [upd_ne e]
theorem dropK_none {kvs : List (Key × V)} {k : Key} (h : valV kvs k = none) : dropK kvs k = kvs := by
  unfold dropK
  rw [List.filter_eq_self]
  intro kv hk
  have h2 : (kvs.any fun kv => decide (kv.1 = k)) = false := by rw [valV_any, h]; rfl
  rw [List.any_eq_false] at h2
  have := h2 kv hk
  simpa using this
theorem sameU {H H' : Hp} (s : Same H H') {x : Addr} (h : H x = none) (o : HO) : Same H (upd H' x o) := fun b v q => by rw [upd_ne (ne_of_none q h)]; exact s b v q
/-- d.pop(k, x): in both cases what is left -/
theorem pop_both {H : Hp} {a : Addr} {kvs : List (Key × V)} {k : Key} {z : V} {Q : V → Hp → Prop} (h : H a = some (.dK kvs)) (q : ∀ v, Q v (upd H a (.dK (dropK kvs k)))) : (∀ v, valV kvs k = some v → Q v (upd H a (.dK (dropK kvs k)))) ∧ (valV kvs k = none → Q z H) := by
  refine ⟨fun v _ => q v, fun e => ?_⟩
  have := q z
  rw [dropK_none e, upd_self h] at this
  exact this
def spKeep (C cF : Addr) : Sp := fun vs H Q E => ∃ (p d : Addr) (z : Sz) (i own : Int) (hid : Bool), vs = [.ref p, .int i, .int own, .bl hid] ∧ SzW C H p d z ∧ inR z i ∧ 1 ≤ own ∧ own ≤ 60 ∧
  (¬ fullM z i own hid → ∀ H', Frm d H H' → SzW C H' p d (keepM z i own hid) → Q .non H') ∧ (fullM z i own hid → E (.ref cF) none H)
def spGive (C cN cS cF : Addr) : Sp := fun vs H Q E => ∃ (p d : Addr) (z : Sz) (i size : Int), vs = [.ref p, .int i, .int size] ∧ SzW C H p d z ∧ Sm i ∧ Sm size ∧
  (inR z i → 1 ≤ size → size ≤ 60 → ¬ fullM z i size (stM z i).2 → ∀ H', Frm d H H' → SzW C H' p d (keepM z i size (stM z i).2) → Q .non H') ∧ (¬ inR z i → E (.ref cN) none H) ∧
  (inR z i → ¬ (1 ≤ size ∧ size ≤ 60) → ∀ H', Same H H' → E (.ref cS) none H') ∧ (inR z i → 1 ≤ size → size ≤ 60 → fullM z i size (stM z i).2 → ∀ H', Same H H' → E (.ref cF) none H')
/-- hide, show, plain -/
def spTo (C cN cF : Addr) (g : Sz → Int → Int × Bool) : Sp := fun vs H Q E => ∃ (p d : Addr) (z : Sz) (i : Int), vs = [.ref p, .int i] ∧ SzW C H p d z ∧ Sm i ∧
  (inR z i → ¬ fullM z i (g z i).1 (g z i).2 → ∀ H', Frm d H H' → SzW C H' p d (keepM z i (g z i).1 (g z i).2) → Q .non H') ∧ (¬ inR z i → E (.ref cN) none H) ∧
  (inR z i → fullM z i (g z i).1 (g z i).2 → ∀ H', Same H H' → E (.ref cF) none H')
abbrev gHide : Sz → Int → Int × Bool := fun z i => ((stM z i).1, true)
abbrev gShow : Sz → Int → Int × Bool := fun z i => ((stM z i).1, false)
abbrev gPlain : Sz → Int → Int × Bool := fun z i => (z.common, (stM z i).2)
theorem st_range {z : Sz} (W : Wf z) (i : Int) : 1 ≤ (stM z i).1 ∧ (stM z i).1 ≤ 60 := by
  have e : stM z i = (look z.odd i).getD (z.common, false) := rfl
  cases h : look z.odd i with
  | none => rw [e, h]; exact ⟨W.c0, W.c1⟩
  | some x => rw [e, h]; exact ⟨(W.ok _ (look_mem h)).2.2.1, (W.ok _ (look_mem h)).2.2.2.1⟩
theorem SzW.frm {C : Addr} {H H' : Hp} {p d e : Addr} {z : Sz} (S : SzW C H p d z) (n1 : p ≠ e) (n2 : d ≠ e) (he : ∀ t xs, H t = some (.tup xs) → t ≠ e) (f : Frm e H H') : SzW C H' p d z := by
  obtain ⟨dx, kvs, h1, h2, h3, W⟩ := S
  exact ⟨dx, kvs, f _ _ n1 h1, f _ _ n2 h2, h3.mono fun t xs q => f _ _ (he t xs q) q, W⟩
/-! ### the law's own dict, changed -/
structure Zw (z : Zs) : Prop where
  nd : (z.own.map (·.1)).Nodup
  ne : ∀ e ∈ z.own, e.2 ≠ z.common
  ng : z.gone.Nodup
def zwithM (z : Zs) (k size : Int) (hid : Bool) : Zs := ⟨z.many, z.common, (z.own.filter fun e => decide (e.1 ≠ k)) ++ (if size ≠ z.common then [(k, size)] else []), (z.gone.filter fun j => decide (j ≠ k)) ++ (if hid = true then [k] else [])⟩
theorem zown_cons (e : Int × Int) (r : List (Int × Int)) (k : Int) : zown (e :: r) k = if e.1 = k then some e.2 else zown r k := by
  by_cases h : e.1 = k
  · simp [zown, h]
  · simp [zown, h]
theorem zown_append (a b : List (Int × Int)) (k : Int) : zown (a ++ b) k = (zown a k).or (zown b k) := by
  induction a with
  | nil => simp [zown]
  | cons e r ih =>
    rw [List.cons_append, zown_cons, zown_cons, ih]
    by_cases h : e.1 = k
    · simp [h]
    · simp [h]
theorem zown_drop (own : List (Int × Int)) (i k : Int) : zown (own.filter fun e => decide (e.1 ≠ i)) k = if k = i then none else zown own k := by
  induction own with
  | nil => simp [zown]
  | cons e r ih =>
    by_cases h : e.1 = i
    · rw [List.filter_cons_of_neg (by simp [h]), ih, zown_cons]
      by_cases hk : k = i
      · simp [hk]
      · have : ¬ e.1 = k := fun z => hk (by omega)
        simp [hk, this]
    · rw [List.filter_cons_of_pos (by simp [h]), zown_cons, zown_cons, ih]
      by_cases hk : e.1 = k
      · have : ¬ k = i := fun z => h (by omega)
        simp [hk, this]
      · simp [hk]
theorem zown_key {own : List (Int × Int)} {i : Int} : i ∈ own.map (·.1) ↔ (zown own i).isSome = true := by
  induction own with
  | nil => simp [zown]
  | cons e r ih =>
    rw [List.map_cons, List.mem_cons, zown_cons, ih]
    by_cases h : e.1 = i
    · simp [h]
    · have : ¬ i = e.1 := fun z => h z.symm
      simp [h, this]
theorem zown_mem {own : List (Int × Int)} {i x : Int} (h : zown own i = some x) : (i, x) ∈ own := by
  induction own with
  | nil => cases h
  | cons e r ih =>
    rw [zown_cons] at h
    by_cases c : e.1 = i
    · rw [if_pos c] at h
      have := Option.some.inj h
      subst this
      rw [← c]
      exact List.mem_cons_self
    · rw [if_neg c] at h
      exact List.mem_cons_of_mem _ (ih h)
theorem zwith_st1 (z : Zs) (k size : Int) (hid : Bool) (j : Int) : (zown (zwithM z k size hid).own j).getD z.common = if j = k then size else (zown z.own j).getD z.common := by
  show (zown ((z.own.filter fun e => decide (e.1 ≠ k)) ++ (if size ≠ z.common then [(k, size)] else [])) j).getD z.common = _
  rw [zown_append, zown_drop]
  by_cases h : j = k
  · subst h
    by_cases c : size = z.common
    · simp [c, zown]
    · simp [c, zown]
  · have h1 : zown (if size ≠ z.common then [(k, size)] else []) j = none := by
      by_cases c : size = z.common
      · simp [c, zown]
      · simp [c, zown]; omega
    rw [h1, Option.or_none, if_neg h, if_neg h]
theorem zwith_st2 (z : Zs) (k size : Int) (hid : Bool) (j : Int) : j ∈ (zwithM z k size hid).gone ↔ if j = k then hid = true else j ∈ z.gone := by
  show j ∈ ((z.gone.filter fun i => decide (i ≠ k)) ++ (if hid = true then [k] else [])) ↔ _
  rw [List.mem_append, List.mem_filter]
  by_cases h : j = k
  · subst h
    cases hid <;> simp
  · cases hid <;> simp [h]
theorem zwith_st (z : Zs) (k size : Int) (hid : Bool) (j : Int) : zst (zwithM z k size hid) j = if j = k then (size, hid) else zst z j := by
  have h1 : (zst (zwithM z k size hid) j).1 = if j = k then size else (zown z.own j).getD z.common := zwith_st1 z k size hid j
  have h2 : (zst (zwithM z k size hid) j).2 = decide (if j = k then hid = true else j ∈ z.gone) := decide_eq_decide.mpr (zwith_st2 z k size hid j)
  refine Prod.ext ?_ ?_
  · rw [h1]
    by_cases h : j = k
    · simp [h]
    · simp [h, zst]
  · rw [h2]
    by_cases h : j = k
    · simp [h]
    · simp [h, zst]
theorem zwith_w {z : Zs} (w : Zw z) (k size : Int) (hid : Bool) : Zw (zwithM z k size hid) := by
  refine ⟨?_, ?_, ?_⟩
  · show (((z.own.filter fun e => decide (e.1 ≠ k)) ++ (if size ≠ z.common then [(k, size)] else [])).map (·.1)).Nodup
    rw [List.map_append, List.nodup_append]
    refine ⟨?_, ?_, ?_⟩
    · have e : (z.own.filter fun e => decide (e.1 ≠ k)).map (·.1) = (z.own.map (·.1)).filter fun j => decide (j ≠ k) := by
        rw [List.filter_map]
        rfl
      rw [e]
      exact nodup_filter w.nd
    · split <;> simp
    · intro a ha b hb e
      obtain ⟨x, hx, rfl⟩ := List.mem_map.mp ha
      have h1 := (List.mem_filter.mp hx).2
      have h1' : x.1 ≠ k := of_decide_eq_true h1
      split at hb
      · simp at hb
        exact h1' (by rw [e, hb])
      · simp at hb
  · intro e he
    rcases List.mem_append.mp he with he | he
    · exact w.ne e (List.mem_filter.mp he).1
    · split at he
      · simp at he
        rw [he]
        assumption
      · simp at he
  · show ((z.gone.filter fun j => decide (j ≠ k)) ++ (if hid = true then [k] else [])).Nodup
    rw [List.nodup_append]
    refine ⟨nodup_filter w.ng, ?_, ?_⟩
    · split <;> simp
    · intro a ha b hb e
      have h1 : a ≠ k := of_decide_eq_true (List.mem_filter.mp ha).2
      split at hb
      · simp at hb
        exact h1 (by rw [e, hb])
      · simp at hb
theorem zkeys_nd {z : Zs} (w : Zw z) : (zkeys z).Nodup := by
  unfold zkeys
  rw [List.nodup_append]
  refine ⟨w.nd, nodup_filter w.ng, ?_⟩
  intro a ha b hb e
  have h1 := (List.mem_filter.mp hb).2
  rw [← e, zown_key.mp ha] at h1
  cases h1
theorem zkeys_mem {z : Zs} (w : Zw z) (k : Int) : k ∈ zkeys z ↔ zst z k ≠ (z.common, false) := by
  unfold zkeys
  rw [List.mem_append, List.mem_filter, zown_key]
  unfold zst
  cases h : zown z.own k with
  | none =>
    by_cases g : k ∈ z.gone
    · simp [g]
    · simp [g]
  | some x =>
    have := w.ne _ (zown_mem h)
    simp
    intro e
    exact absurd e this
theorem keys_mem {s : Sz} (W : Wf s) (k : Int) : k ∈ s.odd.map (·.1) ↔ stM s k ≠ (s.common, false) := by
  rw [look_key]
  unfold stM
  cases h : look s.odd k with
  | none => simp
  | some x =>
    have := (W.ok _ (look_mem h)).2.2.2.2
    simp
    intro e
    rw [e] at this
    rcases this with q | q
    · exact q rfl
    · cases q
theorem rel_mk {s : Sz} {z : Zs} (W : Wf s) (w : Zw z) (h1 : s.many = z.many) (h2 : s.common = z.common) (h3 : ∀ k, stM s k = zst z k) : Rel s z := by
  refine ⟨h1, h2, h3, (List.perm_ext_iff_of_nodup W.nd (zkeys_nd w)).mpr fun k => ?_⟩
  rw [keys_mem W, zkeys_mem w, h3 k, h2]
theorem zok_of {s : Sz} {z : Zs} (W : Wf s) (w : Zw z) (R : Rel s z) : Zok z := by
  have l := R.keys.length_eq
  rw [List.length_map] at l
  have le := W.le
  have lk : (zkeys z).length = z.own.length + (z.gone.filter fun k => !(zown z.own k).isSome).length := by
    unfold zkeys
    rw [List.length_append, List.length_map]
  have sub : ∀ k ∈ z.gone, k ∈ zkeys z := fun k hk => by
    rw [zkeys_mem w]
    unfold zst
    simp [hk]
  have lg : z.gone.length ≤ (zkeys z).length := by
    have p : z.gone.Perm ((zkeys z).filter fun k => decide (k ∈ z.gone)) := by
      refine (List.perm_ext_iff_of_nodup w.ng (nodup_filter (zkeys_nd w))).mpr fun k => ?_
      rw [List.mem_filter]
      exact ⟨fun h => ⟨sub k h, decide_eq_true h⟩, fun h => of_decide_eq_true h.2⟩
    rw [p.length_eq]
    exact List.length_filter_le _ _
  refine ⟨by rw [← R.many]; exact W.m0, by rw [← R.many]; exact W.m1, by rw [← R.common]; exact W.c0, by rw [← R.common]; exact W.c1, by omega, by omega, by omega, fun k hk => ?_⟩
  obtain ⟨e, he, ek⟩ := List.mem_map.mp (R.keys.mem_iff.mpr hk)
  have := W.ok e he
  rw [← R.many, ← ek]
  exact ⟨this.1, this.2.1⟩
/-- the dict and its two, with no word of what is in them -/
structure ZH (H : Hp) (a o g : Addr) (z : Zs) : Prop where
  ha : H a = some (.dK (zL z.many z.common o g))
  ho : H o = some (.dK (ownK z.own))
  hg : H g = some (.dK (goneK z.gone))
  ao : a ≠ o
  ag : a ≠ g
  og : o ≠ g
def spZwith : Sp := fun vs H Q _ => ∃ (a o g : Addr) (z : Zs) (k size : Int) (hid : Bool), vs = [.ref a, .int k, .int size, .bl hid] ∧ ZAt H a o g z ∧
  ∀ (a' o' g' : Addr) (H' : Hp), Same H H' → ZH H' a' o' g' (zwithM z k size hid) → H a' = none → H o' = none → H g' = none → Q (.ref a') H'
def spZset : Sp := fun vs H Q _ => ∃ (a o g : Addr) (z : Zs) (k size : Int), vs = [.ref a, .int k, .int size] ∧ ZAt H a o g z ∧
  ∀ (a' o' g' : Addr) (H' : Hp), Same H H' → ZH H' a' o' g' (zwithM z k size (zst z k).2) → H a' = none → H o' = none → H g' = none → Q (.ref a') H'
def spZhide : Sp := fun vs H Q _ => ∃ (a o g : Addr) (z : Zs) (k : Int) (hid : Bool), vs = [.ref a, .int k, .bl hid] ∧ ZAt H a o g z ∧
  ∀ (a' o' g' : Addr) (H' : Hp), Same H H' → ZH H' a' o' g' (zwithM z k (zst z k).1 hid) → H a' = none → H o' = none → H g' = none → Q (.ref a') H'
theorem putK_drop (kvs : List (Key × V)) (k : Key) (v : V) : putK (dropK kvs k) k v = dropK kvs k ++ [(k, v)] := by
  unfold putK
  rw [if_neg]
  intro c
  rw [List.any_eq_true] at c
  obtain ⟨x, hx, e⟩ := c
  have := (List.mem_filter.mp hx).2
  have e' : x.1 = k := of_decide_eq_true e
  exact (of_decide_eq_true this) e'
theorem drop_ownK (own : List (Int × Int)) (k : Int) : dropK (ownK own) (Sum.inl k) = ownK (own.filter fun e => decide (e.1 ≠ k)) := by
  unfold dropK ownK
  rw [List.filter_map]
  congr 1
  refine List.filter_congr fun e _ => ?_
  show decide (Sum.inl e.1 ≠ (Sum.inl k : Key)) = decide (e.1 ≠ k)
  exact decide_eq_decide.mpr (not_congr inl_eq)
theorem drop_goneK (gone : List Int) (k : Int) : dropK (goneK gone) (Sum.inl k) = goneK (gone.filter fun j => decide (j ≠ k)) := by
  unfold dropK goneK
  rw [List.filter_map]
  congr 1
  refine List.filter_congr fun e _ => ?_
  show decide (Sum.inl e ≠ (Sum.inl k : Key)) = decide (e ≠ k)
  exact decide_eq_decide.mpr (not_congr inl_eq)
theorem put_zL_own (n c : Int) (o g o' : Addr) : putK (zL n c o g) (Sum.inr "own") (.ref o') = zL n c o' g := by
  simp [putK, zL, nz1, nz2, nz3, nz4, nz5, nz6, Ne.symm nz6]
theorem put_zL_gone (n c : Int) (o g g' : Addr) : putK (zL n c o g) (Sum.inr "gone") (.ref g') = zL n c o g' := by
  simp [putK, zL, nz1, nz2, nz3, nz4, nz5, nz6]
/-! ### both side by side -/
def Nls (H H' : Hp) : Prop := ∀ b o, (∀ xs, o ≠ .lst xs) → H b = some o → H' b = some o
theorem Nls.of {H H' : Hp} (s : Same H H') : Nls H H' := fun b o _ h => s b o h
theorem Nls.trans {H H1 H2 : Hp} (x : Nls H H1) (y : Nls H1 H2) : Nls H H2 := fun b o n h => y b o n (x b o n h)
theorem Nls.ext {a : Addr} {H H' : Hp} (d : DrawAt H a) (e : Ext a H H') : Nls H H' := fun b o n h => e.2 b o (by
  obtain ⟨l, ns, i, left, seed, m, h1, _⟩ := d
  exact ne_of h h1 (n _)) h
structure Both (C : Addr) (H : Hp) (p d a o g : Addr) (s : Sz) (z : Zs) : Prop where
  S : SzW C H p d s
  Z : ZAt H a o g z
  R : Rel s z
  w : Zw z
  da : d ≠ a
  dO : d ≠ o
  dg : d ≠ g
theorem SzW.wf {C : Addr} {H : Hp} {p d : Addr} {z : Sz} (S : SzW C H p d z) : Wf z := by
  obtain ⟨_, _, _, _, _, W⟩ := S
  exact W
theorem SzW.nls {C : Addr} {H H' : Hp} {p d : Addr} {z : Sz} (S : SzW C H p d z) (e : Nls H H') : SzW C H' p d z := by
  obtain ⟨dx, kvs, h1, h2, h3, W⟩ := S
  exact ⟨dx, kvs, e _ _ (fun _ q => by cases q) h1, e _ _ (fun _ q => by cases q) h2, h3.mono fun t xs q => e _ _ (fun _ q => by cases q) q, W⟩
theorem ZAt.nls {H H' : Hp} {a o g : Addr} {z : Zs} (h : ZAt H a o g z) (e : Nls H H') : ZAt H' a o g z := ⟨e _ _ (fun _ q => by cases q) h.ha, e _ _ (fun _ q => by cases q) h.ho, e _ _ (fun _ q => by cases q) h.hg, h.ao, h.ag, h.og, h.ok⟩
theorem Both.nls {C : Addr} {H H' : Hp} {p d a o g : Addr} {s : Sz} {z : Zs} (B : Both C H p d a o g s z) (e : Nls H H') : Both C H' p d a o g s z := ⟨B.S.nls e, B.Z.nls e, B.R, B.w, B.da, B.dO, B.dg⟩
theorem ZAt.frm {H H' : Hp} {a o g d : Addr} {z : Zs} (h : ZAt H a o g z) (h1 : d ≠ a) (h2 : d ≠ o) (h3 : d ≠ g) (f : Frm d H H') : ZAt H' a o g z := ⟨f _ _ h1.symm h.ha, f _ _ h2.symm h.ho, f _ _ h3.symm h.hg, h.ao, h.ag, h.og, h.ok⟩
/-- a deed in both -/
theorem Both.step {C : Addr} {H' H'' : Hp} {p d a' o' g' : Addr} {s : Sz} {z : Zs} {i own : Int} {hid : Bool} (w : Zw z) (R : Rel s z) (S' : SzW C H' p d (keepM s i own hid)) (e : Same H' H'') (Z' : ZH H'' a' o' g' (zwithM z i own hid)) (na : H' a' = none) (no : H' o' = none) (ng : H' g' = none) :
    Both C H'' p d a' o' g' (keepM s i own hid) (zwithM z i own hid) := by
  have w' := zwith_w w i own hid
  have W' := S'.wf
  have R' : Rel (keepM s i own hid) (zwithM z i own hid) := rel_mk W' w' R.many R.common fun k => by rw [keep_st, zwith_st, R.st k]
  have hd : ∃ u, H' d = some u := by
    obtain ⟨_, kvs, _, h2, _⟩ := S'
    exact ⟨_, h2⟩
  obtain ⟨u, hd⟩ := hd
  exact ⟨S'.same e, ⟨Z'.ha, Z'.ho, Z'.hg, Z'.ao, Z'.ag, Z'.og, zok_of W' w' R'⟩, R', w', ne_of_none hd na, ne_of_none hd no, ne_of_none hd ng⟩
theorem DrawAt.frm {H H' : Hp} {a d : Addr} {kvs : List (Key × V)} (D : DrawAt H a) (hd : H d = some (.dK kvs)) (f : Frm d H H') : DrawAt H' a := by
  obtain ⟨l, ns, i, left, seed, n, h1, h2, r⟩ := D
  exact ⟨l, ns, i, left, seed, n, f _ _ (ne_of h1 hd (by intro e; unfold drawO at e; cases e)) h1, f _ _ (ne_of h2 hd (by intro e; cases e)) h2, r⟩
end Gs

set_option Elab.async false
set_option linter.all false
set_option maxRecDepth 100000
set_option maxHeartbeats 4000000
namespace Gs
open PySem L2
/-! ### sums ahead of a thing -/
theorem sz_plain {z : Sz} {i : Int} (h : ¬ i ∈ z.odd.map (·.1)) : szM z i = z.common := by
  rw [look_key] at h
  have e : look z.odd i = none := by simpa using h
  unfold szM stM
  rw [e]
  rfl
theorem sum_step (f : Int → Int) (i : Int) : ∀ l : List Int, l.Nodup → ((l.filter fun k => decide (k < i + 1)).map f).sum = ((l.filter fun k => decide (k < i)).map f).sum + if i ∈ l then f i else 0
  | [], _ => by simp
  | k :: r, nd => by
    rw [List.nodup_cons] at nd
    have ih := sum_step f i r nd.2
    by_cases h1 : k < i
    · have h2 : k < i + 1 := by omega
      have h3 : ¬ i = k := by omega
      rw [List.filter_cons_of_pos (by simpa using h2), List.filter_cons_of_pos (by simpa using h1), List.map_cons, List.map_cons, List.sum_cons, List.sum_cons, ih]
      simp only [List.mem_cons, h3, false_or]
      omega
    · by_cases h3 : k = i
      · subst h3
        have h2 : k < k + 1 := by omega
        rw [List.filter_cons_of_pos (by simpa using h2), List.filter_cons_of_neg (by simp), List.map_cons, List.sum_cons, ih]
        simp only [nd.1, if_false, List.mem_cons, true_or, if_true]
        omega
      · have h2 : ¬ k < i + 1 := by omega
        have h4 : ¬ i = k := fun z => h3 z.symm
        rw [List.filter_cons_of_neg (by simpa using h2), List.filter_cons_of_neg (by simpa using h1), ih]
        simp only [List.mem_cons, h4, false_or]
theorem ah_succ {z : Sz} (W : Wf z) (i : Int) : ahM z (i + 1) = ahM z i + szM z i := by
  unfold ahM
  rw [sum_step _ i _ W.nd]
  by_cases h : i ∈ z.odd.map (·.1)
  · rw [if_pos h, Int.add_mul]
    omega
  · rw [if_neg h, sz_plain h, Int.add_mul]
    omega
theorem ah_gap {z : Sz} {a b : Int} (h : ∀ k ∈ z.odd.map (·.1), k < a ∨ b ≤ k) (hab : a ≤ b) : ahM z b = ahM z a + (b - a) * z.common := by
  unfold ahM
  have e : ((z.odd.map (·.1)).filter fun k => decide (k < b)) = (z.odd.map (·.1)).filter fun k => decide (k < a) := by
    refine List.filter_congr fun k hk => ?_
    refine decide_eq_decide.mpr ?_
    have := h k hk
    omega
  rw [e, Int.sub_mul]
  omega
theorem ah_zero {z : Sz} (W : Wf z) : ahM z 0 = 0 := by
  unfold ahM
  have e : ((z.odd.map (·.1)).filter fun k => decide (k < 0)) = [] := by
    rw [List.filter_eq_nil_iff]
    intro k hk
    obtain ⟨e, he, ek⟩ := List.mem_map.mp hk
    have := (W.ok e he).1
    simp
    omega
  rw [e]
  simp
theorem sz_range {z : Sz} (W : Wf z) (i : Int) : 0 ≤ szM z i ∧ szM z i ≤ 60 := by
  have := st_range W i
  unfold szM
  split
  · omega
  · omega
theorem ah_nat {z : Sz} (W : Wf z) : ∀ n : Nat, 0 ≤ ahM z (n : Int) ∧ ahM z (n : Int) ≤ 60 * n
  | 0 => by
    have := ah_zero W
    show 0 ≤ ahM z 0 ∧ ahM z 0 ≤ _
    rw [this]
    omega
  | n + 1 => by
    have ih := ah_nat W n
    have s := ah_succ W (n : Int)
    have r := sz_range W (n : Int)
    have e : ((n + 1 : Nat) : Int) = (n : Int) + 1 := by omega
    rw [e, s]
    omega
theorem ah_range {z : Sz} (W : Wf z) {i : Int} (h : 0 ≤ i) : 0 ≤ ahM z i ∧ ahM z i ≤ 60 * i := by
  have := ah_nat W i.toNat
  have e : ((i.toNat : Nat) : Int) = i := by omega
  rw [e] at this
  exact this
theorem ah_mono_nat {z : Sz} (W : Wf z) (a : Int) : ∀ n : Nat, ahM z a ≤ ahM z (a + n)
  | 0 => by
    have e : a + ((0 : Nat) : Int) = a := by omega
    rw [e]
    exact Int.le_refl _
  | n + 1 => by
    have ih := ah_mono_nat W a n
    have s := ah_succ W (a + n)
    have r := sz_range W (a + n)
    have e : a + ((n + 1 : Nat) : Int) = a + n + 1 := by omega
    rw [e, s]
    omega
theorem ah_mono {z : Sz} (W : Wf z) {a b : Int} (h : a ≤ b) : ahM z a ≤ ahM z b := by
  have := ah_mono_nat W a (b - a).toNat
  have e : a + ((b - a).toNat : Int) = b := by omega
  rw [e] at this
  exact this
/-- only one thing lies over a point -/
theorem at_one {z : Sz} (W : Wf z) {i j pt : Int} (h1 : ahM z i ≤ pt) (h2 : pt < ahM z i + szM z i) (h3 : ahM z j ≤ pt) (h4 : pt < ahM z j + szM z j) : i = j := by
  have s1 := ah_succ W i
  have s2 := ah_succ W j
  rcases Int.lt_trichotomy i j with h | h | h
  · have := ah_mono W (show i + 1 ≤ j by omega)
    omega
  · exact h
  · have := ah_mono W (show j + 1 ≤ i by omega)
    omega
def spAt (C cP : Addr) : Sp := fun vs H Q E => ∃ (p d : Addr) (z : Sz) (pt : Int), vs = [.ref p, .int pt] ∧ SzW C H p d z ∧ Sm pt ∧
  (0 ≤ pt → pt < ahM z z.many → ∀ (k : Int) (t : Addr) (H' : Hp), inR z k → ahM z k ≤ pt → pt < ahM z k + szM z k → Same H H' → H' t = some (.tup [.int k, .int (pt - ahM z k)]) → Q (.ref t) H') ∧
  (¬ (0 ≤ pt ∧ pt < ahM z z.many) → ∀ H', Same H H' → E (.ref cP) none H')
theorem lt_of_pw {ys : List Int} (pw : ys.Pairwise (· ≤ ·)) (nd : ys.Nodup) : ys.Pairwise (· < ·) := by
  refine List.Pairwise.imp₂ (fun a b h1 h2 => ?_) pw nd
  omega
theorem drop_at {ys : List Int} {j : Nat} {x : Int} (h : ys[j]? = some x) : ys.drop j = x :: ys.drop (j + 1) := by
  have hj : j < ys.length := by
    rw [List.getElem?_eq_some_iff] at h
    exact h.1
  rw [List.drop_eq_getElem_cons hj]
  rw [List.getElem?_eq_getElem hj] at h
  rw [Option.some.inj h]
end Gs

set_option Elab.async false
set_option linter.all false
set_option maxRecDepth 100000
set_option maxHeartbeats 4000000
namespace Gs
open PySem L2
/-! ### rows of pairs -/
abbrev Pr := Int × Int
def prD (e : Pr) : PyData := .tuple [.int e.1, .int e.2]
def DpP (H : Hp) (xs : List V) (es : List Pr) : Prop := Paired (fun (v : V) (e : Pr) => ∃ t, v = .ref t ∧ H t = some (.tup [.int e.1, .int e.2])) xs es
theorem DpP.mono {H H' : Hp} (s : TupSame H H') : ∀ {xs : List V} {cs : List Pr}, DpP H xs cs → DpP H' xs cs
  | _, _, .nil => .nil
  | _, _, .cons ⟨t, e, h⟩ r => .cons ⟨t, e, s _ _ h⟩ (DpP.mono s r)
theorem DpP.append {H : Hp} : ∀ {xs ys : List V} {cs ds : List Pr}, DpP H xs cs → DpP H ys ds → DpP H (xs ++ ys) (cs ++ ds)
  | _, _, _, _, .nil, s => s
  | _, _, _, _, .cons a r, s => .cons a (DpP.append r s)
theorem DpP.len {H : Hp} : ∀ {xs : List V} {cs : List Pr}, DpP H xs cs → xs.length = cs.length
  | _, _, .nil => rfl
  | _, _, .cons _ r => by simp [DpP.len r]
theorem DpP.dp {K : PySem.W.Frag} {H : Hp} : ∀ {xs : List V} {cs : List Pr}, DpP H xs cs → DpAll K H xs (cs.map prD)
  | _, _, .nil => .nil
  | _, _, .cons ⟨t, e, h⟩ r => by
    subst e
    exact .cons (.tup (SqT.of h) (.cons (.int _) (.cons (.int _) .nil))) (DpP.dp r)
theorem pr_mxl : ∀ es : List Pr, mxlAll (es.map prD) ≤ 3
  | [] => by simp [mxlAll]
  | e :: r => by
    have := pr_mxl r
    simp only [List.map_cons, mxlAll, prD, mxl, List.length_cons, List.length_nil]
    omega
theorem pr_depth : ∀ es : List Pr, PyData.depthAll (es.map prD) ≤ 1
  | [] => by simp [PyData.depthAll]
  | e :: r => by
    have := pr_depth r
    simp only [List.map_cons, PyData.depthAll, prD, PyData.depth]
    omega
/-- all points in their order -/
def dueL (z : Sz) : Nat → List Pr
  | 0 => []
  | m + 1 => dueL z m ++ (List.range (szM z m).toNat).map fun (w : Nat) => ((m : Int), (w : Int))
theorem due_len {z : Sz} (W : Wf z) : ∀ m : Nat, ((dueL z m).length : Int) = ahM z m
  | 0 => by
    show (0 : Int) = ahM z 0
    rw [ah_zero W]
  | m + 1 => by
    have ih := due_len W m
    have s := ah_succ W (m : Int)
    have r := sz_range W (m : Int)
    have e : ((m + 1 : Nat) : Int) = (m : Int) + 1 := by omega
    rw [e, s]
    unfold dueL
    rw [List.length_append, List.length_map, List.length_range]
    omega
theorem due_at {z : Sz} (W : Wf z) {k w : Int} (k0 : 0 ≤ k) (w0 : 0 ≤ w) (w1 : w < szM z k) : ∀ m : Nat, k < m → (dueL z m)[(ahM z k + w).toNat]? = some (k, w)
  | 0, h => by omega
  | m + 1, h => by
    have l := due_len W m
    have a0 := (ah_range W k0).1
    unfold dueL
    by_cases hk : k < m
    · have mo := ah_mono W (show k + 1 ≤ (m : Int) by omega)
      have s := ah_succ W k
      rw [List.getElem?_append_left (by omega)]
      exact due_at W k0 w0 w1 m hk
    · have e : k = (m : Int) := by omega
      rw [List.getElem?_append_right (by rw [← e] at l; omega)]
      have e2 : (ahM z k + w).toNat - (dueL z m).length = w.toNat := by rw [← e] at l; omega
      have hw : w.toNat < (szM z (m : Int)).toNat := by rw [← e]; omega
      rw [e2, List.getElem?_map, List.getElem?_range hw]
      show some ((m : Int), (w.toNat : Int)) = some (k, w)
      rw [e]
      congr 2
      omega
theorem ints2 {a b r : Int} (h0 : 0 ≤ r) (h1 : r < 2) : ∃ n, (n = a ∨ n = b) ∧ atI [V.int a, .int b] r = some (.int n) := by
  have : r = 0 ∨ r = 1 := by omega
  rcases this with rfl | rfl
  · exact ⟨a, .inl rfl, atI_nat (j := 0) rfl⟩
  · exact ⟨b, .inr rfl, atI_nat (j := 1) rfl⟩
theorem rel0 (n c : Int) : Rel ⟨n, c, []⟩ ⟨n, c, [], []⟩ := ⟨rfl, rfl, fun k => rfl, .nil⟩
theorem zw0 (n c : Int) : Zw ⟨n, c, [], []⟩ := ⟨List.nodup_nil, fun e he => (nomatch he), List.nodup_nil⟩
theorem szw_ins {C : Addr} {H : Hp} {p d : Addr} {z : Sz} (S : SzW C H p d z) : ∃ dx, H p = some (.ins C dx (fldZ z.many z.common d)) := by
  obtain ⟨dx, kvs, h1, _⟩ := S
  exact ⟨dx, h1⟩
theorem szw_dict {C : Addr} {H : Hp} {p d : Addr} {z : Sz} (S : SzW C H p d z) : ∃ kvs, H d = some (.dK kvs) := by
  obtain ⟨dx, kvs, h1, h2, _⟩ := S
  exact ⟨kvs, h2⟩
def spLaw (K : PySem.W.Frag) : Sp := fun vs H Q _ => ∃ (a : Addr) (ns : List Int), vs = [.ref a] ∧ SqL K H a (ns.map V.int) ∧ ns.length ≤ 63 ∧ ∀ H', Q (.bl true) H'
end Gs

set_option Elab.async false
set_option linter.all false
set_option maxRecDepth 100000
set_option maxHeartbeats 4000000
namespace Gs
open PySem PySem.Spec PyProof.Rows L2
/-! ### except (A, B) as n -/
def wAsT (K : PySem.W.Frag) (c1 c2 : Value) (i : Nat) (ts : Addr → Value → Option Addr → TS) (Wo : WX) (D : Ends) : WX := fun cls d σ H =>
  ∃ yes, PySem.W.exmAny K cls [c1, c2] = some yes ∧ (yes = false → Wo cls d σ H) ∧ (yes = true → ∀ a, H a = none → ts a cls d { nx := fun τ J => D.nx (τ.set i none) J, rt := D.rt, bk := fun τ J => D.bk (τ.set i none) J, ct := fun τ J => D.ct (τ.set i none) J } (σ.set i (some (.ref a))) H)
theorem fly_push {B h : Heap} {l : List Env} {e : Addr} {Zp : Obj → Prop} (x : HandSPX.FlyingZ B l e Zp h) (o : Obj) : HandSPX.FlyingZ B l e Zp (h.push o) := by
  have kp : ∀ q u, h.get? q = some u → (h.push o).get? q = some u := fun _ _ z => Heap.get?_push_of_some _ z
  obtain ⟨y1, y2, y3, oe, vs, t, ot, us, z1, z2, z3, z4, z5, z6, z7, z8, z9⟩ := x
  exact ⟨fun q u r => kp q u (y1 q u r), y2, y3.of_keeps (fun b u r _ => ⟨u, kp b u r, rfl⟩), oe, vs, t, ot, us, kp _ _ z1, z2, z3, z4, z5, z6, kp _ _ z7, z8, z9⟩
section
variable {X : Cx} {x1 x2 n : Str} {c1 c2 : Value} {i kk : Nat} {body suite : List Stmt} {b₀ : Stmt} {p1 p2 tp pos pos' : Pos} {tb : WX → TS} {ts : Addr → Value → Option Addr → TS} {Wo : WX}
theorem ld_names {c : Value} {x : Str} {np : Pos} {pins : List (Addr × Obj)} {s : Shared} {σ : L2.St} {H : Hp} {Q E : Value → Shared → Prop} (hc : Names X x c) (I : Inv X pins σ H s) (q : Q c s) : wpAny (model X.prog X.w) X.A (eval (.Name x np) X.env) Q E s := by
  rcases hc with ⟨g, db, m | ⟨m, v, nn⟩⟩
  · exact ld_glob I g m q db
  · exact ld_blt I g m v q nn db
theorem ps_try_asT (hs : X.stack = X.env :: X.outer) (hf : X.env.frame = some X.env.locals) (hN : X.N.Nodup) (hi : X.N[i]? = some n) (hln : X.env.kindOf n = some .local) (n1 : Names X x1 c1) (n2 : Names X x2 c2) (tk : Takes X Wo)
    (hb : ∀ (W : WX) (pn : List (Addr × Obj)) (xe : Value → Shared → Prop), Takes (X.tr pn xe) W → PassesOwn (model X.prog X.w) X.A X.env xe → PSs (X.tr pn xe) body (tb W))
    (hsu : ∀ (a : Addr) (oe : Obj) (cls : Value) (d : Option Addr) (pn : List (Addr × Obj)), Zc cls d oe → (∃ vs, oe.data = .fields vs) → PSs (X.suite a ((a, oe) :: pn)) (b₀ :: suite) (ts a cls d)) :
    PS X (.Try body [.ExceptHandler (some (.Tuple [.Name x1 p1, .Name x2 p2] kk tp)) (some n) (b₀ :: suite) pos'] [] [] pos) (fun D σ H => tb (wAsT X.K c1 c2 i ts Wo D) D σ H) := by
  constructor
  intro pins s σ H D I h
  have ok := I.ok; have hfr : X.A.frames = some (X.env :: X.outer) := by rw [ok.frames, hs]
  have bind_at : Loc X.env.scope n := .inl hln
  apply wpAny_Try_except
  have run := (hb (wAsT X.K c1 c2 i ts Wo D) (X.pn ++ pins) (fun e u₁ => wpAny (model X.prog X.w) X.A (noteFrame e X.env) (fun _ u₂ => wpAny (model X.prog X.w) X.A (setFlight e none) (fun _ u₃ => wpAny (model X.prog X.w) X.A (handleBy e X.env [.ExceptHandler (some (.Tuple [.Name x1 p1, .Name x2 p2] kk tp)) (some n) (b₀ :: suite) pos']) (SP X pins D) X.xe u₃) X.xe u₂) X.xe u₁) (fun u s' xx => ?hit) PassesOwn.looking).run [] s σ H D (I.toTry _) h
  case hit =>
    obtain ⟨a, B, sI, pins', σ', H', cls, d, rfl, J', nb, up, sky, na, os, ag, yes, hyes, out, inn⟩ := xx
    have J : Inv X pins σ' H' sI := J'.ofTry ok
    rw [hs] at sky
    show wpAny (model X.prog X.w) X.A (noteFrame (.ref a) X.env) _ _ _
    refine Sky.land Zc.steady hfr hf sky fun hA flA upA => ?_
    have JA : Inv X pins σ' H' { s' with heap := hA } := J.landed nb flA.1 (up.trans upA) os ag
    obtain ⟨oA, vA, gA, zA, dA⟩ := flA.there
    have off : a ∉ frs (X.env :: X.outer) := fun hm => by
      obtain ⟨_, o2, g2, no⟩ := flA.2.2.1.mem hm
      rw [gA] at g2; cases g2
      exact no _ dA
    have offL : a ≠ X.env.locals := fun z => off (List.mem_filterMap.mpr ⟨X.env, List.mem_cons_self, by rw [hf, z]⟩)
    have offF : a ∉ X.fs := fun hm => by
      obtain ⟨v, hv, q⟩ := List.mem_filterMap.mp hm
      exact off (List.mem_filterMap.mpr ⟨v, List.mem_cons_of_mem _ hv, q⟩)
    have SA := JA.suite gA dA na offL offF
    refine wpAny_handleBy_cons (codeAny_handlers_test ?_) (by intro q; cases q)
    refine wpAny_Tuple (wpAny_items_cons (ld_names (X := X.suite a ((a, oA) :: (X.pn ++ pins))) n1 SA (wpAny_items_cons (ld_names (X := X.suite a ((a, oA) :: (X.pn ++ pins))) n2 SA (wpAny_items_nil ⟨show 2 ≤ sizeLine by decide, ?_⟩)))))
    -- the tuple of the two lies behind all that was there
    obtain ⟨hP, ehP⟩ : ∃ hP, hP = hA.push { cls := .type "tuple", data := .seq [c1, c2].toArray } := ⟨_, rfl⟩
    have flP : HandSPX.FlyingZ B (X.env :: X.outer) a (Zc cls d) hP := by rw [ehP]; exact fly_push flA _
    have upP : hA.UpToSlots hP := fun b u r _ => ⟨u.slots, by rw [ehP]; exact Heap.get?_push_of_some _ r⟩
    have JP : Inv X pins σ' H' { s' with heap := hP } := J.landed nb flP.1 ((up.trans upA).trans upP) os ag
    obtain ⟨oP, vP, gP, zP, dP⟩ := flP.there
    have kind : PySem.W.Looks (model X.prog X.w) hP (typeOf (.ref a)) cls := fun A Q E s keep q => wpAny_typeOf_ref (keep _ _ gP) (by rw [zP.1]; exact q)
    have tupAt : hP.get? hA.objs.size = some { cls := .type "tuple", data := .seq [c1, c2].toArray } := by rw [ehP]; exact Heap.get?_push_size hA rfl
    have says := PySem.W.exm_tup2 (M := model X.prog X.w) JP.kIn kind tupAt hyes
    show wpAny _ _ (excMatches (.ref a) (.ref hA.objs.size)) _ _ { s' with heap := hA.push _ }
    rw [← ehP]
    refine says.here ?_
    cases yes
    · show wpAny _ X.A (handleBy (.ref a) X.env []) _ _ _
      refine wpAny_handleBy_nil ?_
      obtain ⟨_, _, _, oQ, vQ, t, ot, us, gQ, zQ, dQ, f1, _⟩ := id flP
      unfold PySem.passOn
      refine wpAny_bind (wpAny_field gQ dQ f1 ?_)
      rw [if_neg (show ¬ ((Value.ref t == Value.none) = true) from by simp)]
      have fin : wpAny (model X.prog X.w) X.A (setFlight (.ref a) X.env.frame) (fun _ s4 => wpAny (model X.prog X.w) X.A (throw (.ref a) : Sem Flow) (SP X pins D) X.xe s4) X.xe { s' with heap := hP } := by
        rw [hf]
        exact HandSPX.setFlight_upZ flP fun h4 hh4 up4 => wpAny_throw (tk _ _ ⟨a, B, sI, pins, σ', H', cls, d, rfl, J, nb, ((up.trans upA).trans upP).trans up4, .inr (.inr (by rw [hs]; exact hh4)), na, os, ag, out rfl⟩)
      first | exact wpAny_bind (wpAny_pure (wpAny_bind fin)) | exact wpAny_bind fin
    · refine codeAny_handlers_suite_as (HandSPX.lands_againZ flP fun hB flB upB => ?_)
      have JB : Inv X pins σ' H' { s' with heap := hB } := J.landed nb flB.1 (((up.trans upA).trans upP).trans upB) os ag
      obtain ⟨oB, vB, gB, zB, dB⟩ := flB.there
      refine store_ok (X := X.suite a ((a, oB) :: (X.pn ++ pins))) (v := .ref a) (JB.suite gB dB na offL offF) hN hi bind_at rfl (fun s5 S5 => ?_) (.inr hln)
      have unb : ∀ {s6 : Shared} {τ : L2.St} {J6 : Hp} {Q : Shared → Prop}, Inv (X.suite a ((a, oB) :: (X.pn ++ pins))) [] τ J6 s6 → (∀ s7, Inv X pins (τ.set i none) J6 s7 → Q s7) → wpAny (model X.prog X.w) X.A (do bindName X.env n .none; unbindBehindTheSuite X.env n pos') (fun _ s7 => Q s7) X.xe s6 := fun S6 hq => gone_ok (S6.unsuite ok) hN hi hln hq
      refine wpAny_mono ((hsu a oB cls d (X.pn ++ pins) zB ⟨_, dB⟩).run [] s5 _ H' _ S5 (inn rfl a na)) (fun f s6 e6 => ?_) (fun _ _ z => False.elim z)
      cases f with
      | ret u => obtain ⟨v6, τ, J6, S6, r6, q6⟩ := e6; exact unb S6 fun s7 J7 => ⟨_, _, _, J7, r6, q6⟩
      | next => obtain ⟨τ, J6, S6, q6⟩ := e6; exact unb S6 fun s7 J7 => ⟨_, _, J7, q6⟩
      | brk => obtain ⟨τ, J6, S6, q6⟩ := e6; exact unb S6 fun s7 J7 => ⟨_, _, J7, q6⟩
      | cont => obtain ⟨τ, J6, S6, q6⟩ := e6; exact unb S6 fun s7 J7 => ⟨_, _, J7, q6⟩
  refine wpAny_mono run (fun f s1 e1 => ?_) (fun e s1 he => he)
  cases f with
  | ret u => obtain ⟨v, τ, J1, I1, r, q⟩ := e1; exact ⟨v, τ, J1, I1.ofTry ok, r, q⟩
  | next => obtain ⟨τ, J1, I1, q⟩ := e1; exact wpAny_execs_nil ⟨τ, J1, I1.ofTry ok, q⟩
  | brk => obtain ⟨τ, J1, I1, q⟩ := e1; exact ⟨τ, J1, I1.ofTry ok, q⟩
  | cont => obtain ⟨τ, J1, I1, q⟩ := e1; exact ⟨τ, J1, I1.ofTry ok, q⟩
end
theorem exm_any2 {K : PySem.W.Frag} {cls c1 c2 : Value} {b1 b2 : Bool} (h1 : PySem.W.exmOne K cls c1 = some b1) (h2 : PySem.W.exmOne K cls c2 = some b2) : PySem.W.exmAny K cls [c1, c2] = some (b1 || b2) := by
  unfold PySem.W.exmAny
  rw [h1]
  unfold PySem.W.exmAny
  rw [h2]
  unfold PySem.W.exmAny
  simp
theorem same_noneP {P : Program} {w : World} {K : PySem.W.Frag} {mg : Str → Option Value} {base : Heap} {f : Addr} {fd : FuncData} {ps : List Str} : FnOk P w K mg base CX0 0 f fd ps (spSame K 0) := by
  have no : ∀ vs H Q E, ¬ spSame K 0 vs H Q E := fun vs H Q E h => by
    obtain ⟨x, y, d, _, _, _, h1, _⟩ := h
    omega
  exact ⟨fun vs H Q E h => absurd h (no vs H Q E), fun A outer s H args us vs Q E _ _ _ _ h => absurd h (no vs H Q E)⟩
theorem mt_indexK {X : Cx} {K : PySem.W.Frag} (h : X.K = K) : L2.MtR X "list.index" (rIndex K) := by subst h; exact mt_index
theorem pe_bm1K {X : Cx} {K : PySem.W.Frag} {o e : Expr} {to : TE} {ta : TA} {name : Str} {apos cpos : Pos} {T id : String} {r : V → List V → Hp → VK → Prop} (hK : X.K = K) (pa : PlainAttrs T) (slot : Slot T name id) (hty : typeOf (.builtin id) = pure (.type "method_descriptor")) (hm : L2.MtR X id r) (ho : PE X o to) (ha : PA X [e] ta)
    (h1 : attributeBase o name X.env (eval o X.env) = eval o X.env := by rfl)
    (h2 : ((backTo cpos (starEach [e] X.env)).all (fun x => !x.1) && (backToKw cpos (keywordEach [] X.env)).all (fun x => x.1.isSome) && decide (([e] : List Expr).length + ([] : List Keyword).length + (if ([] : List Keyword).isEmpty then 0 else 1) < 30)) = true := by rfl)
    (h3 : (apos.endLine == cpos.line) = true := by rfl) (h4 : starEach [e] X.env = (false, eval e X.env) :: starEach [] X.env := by rfl) (h5 : (backTo cpos (starEach [] X.env)).any (·.1) = false := by rfl) : PE X (.Call (.Attribute o name apos) [e] [] cpos) (tBM K T r to ta) := by
  subst hK
  exact pe_bm pa slot hty hm ho ha h1 h2 h3 h4 h5
def spFarB : Sp := fun vs H Q _ => ∃ a : Addr, vs = [.ref a] ∧ DrawAt H a ∧ ∀ (i : Int) (H' : Hp), (-(10 ^ 40) ≤ i ∧ i ≤ 10 ^ 40) → (i < -1000000 ∨ 1000000 < i) → Gs.Ext a H H' → Q (.int i) H'
theorem Sm.of2 {i : Int} (h0 : -(10 ^ 45) ≤ i) (h1 : i ≤ 10 ^ 45) : Sm i := by
  have : i.natAbs ≤ 10 ^ 45 := by omega
  exact Nat.lt_of_le_of_lt this (by decide)
end Gs

set_option Elab.async false
set_option linter.all false
set_option maxRecDepth 100000
set_option maxHeartbeats 4000000
namespace Gs
open PySem L2
/-! ### things moved -/
def movO (f : Int → Option Int) (odd : List OddE) : List OddE := odd.filterMap fun e => (f e.1).map fun k => (k, e.2)
def Inj (f : Int → Option Int) : Prop := ∀ a b c, f a = some c → f b = some c → a = b
def fPut (i n : Int) : Int → Option Int := fun k => some (if k < i then k else k + n)
def fCut (i n : Int) : Int → Option Int := fun k => if k < i then some k else if i + n ≤ k then some (k - n) else none
theorem inj_put {i n : Int} (h : 0 ≤ n) : Inj (fPut i n) := fun a b c h1 h2 => by
  have e1 : (if a < i then a else a + n) = c := Option.some.inj h1
  have e2 : (if b < i then b else b + n) = c := Option.some.inj h2
  split at e1 <;> split at e2 <;> omega
theorem inj_cut {i n : Int} (h : 0 ≤ n) : Inj (fCut i n) := fun a b c h1 h2 => by
  unfold fCut at h1 h2
  split at h1
  · have e1 := Option.some.inj h1
    split at h2
    · have e2 := Option.some.inj h2
      omega
    · split at h2
      · have e2 := Option.some.inj h2
        omega
      · cases h2
  · split at h1
    · have e1 := Option.some.inj h1
      split at h2
      · have e2 := Option.some.inj h2
        omega
      · split at h2
        · have e2 := Option.some.inj h2
          omega
        · cases h2
    · cases h1
theorem mov_mem {f : Int → Option Int} {odd : List OddE} {e : OddE} : e ∈ movO f odd ↔ ∃ u ∈ odd, f u.1 = some e.1 ∧ u.2 = e.2 := by
  unfold movO
  rw [List.mem_filterMap]
  constructor
  · rintro ⟨u, hu, h⟩
    cases q : f u.1 with
    | none => rw [q] at h; cases h
    | some k =>
      rw [q] at h
      have := Option.some.inj h
      subst this
      exact ⟨u, hu, q, rfl⟩
  · rintro ⟨u, hu, h1, h2⟩
    refine ⟨u, hu, ?_⟩
    rw [h1, h2]
    rfl
theorem mov_snoc {f : Int → Option Int} {odd : List OddE} {j : Nat} {e : OddE} (h : odd[j]? = some e) : movO f (odd.take (j + 1)) = movO f (odd.take j) ++ (match f e.1 with | some k => [(k, e.2)] | none => []) := by
  unfold movO
  rw [List.take_add_one, h, List.filterMap_append]
  congr 1
  cases q : f e.1 with
  | none => simp [q]
  | some k => simp [q]
theorem mov_nodup {f : Int → Option Int} (fi : Inj f) : ∀ {odd : List OddE}, (odd.map (·.1)).Nodup → ((movO f odd).map (·.1)).Nodup
  | [], _ => by simp [movO]
  | e :: r, nd => by
    rw [List.map_cons, List.nodup_cons] at nd
    have ih := mov_nodup fi nd.2
    cases q : f e.1 with
    | none =>
      have : movO f (e :: r) = movO f r := by simp [movO, q]
      rw [this]
      exact ih
    | some k =>
      have : movO f (e :: r) = (k, e.2) :: movO f r := by simp [movO, q]
      rw [this, List.map_cons, List.nodup_cons]
      refine ⟨fun hm => ?_, ih⟩
      obtain ⟨u, hu, ek⟩ := List.mem_map.mp hm
      obtain ⟨v, hv, h1, _⟩ := mov_mem.mp hu
      have ek' : u.1 = k := ek
      rw [ek'] at h1
      exact nd.1 (List.mem_map.mpr ⟨v, hv, fi _ _ _ h1 q⟩)
theorem mov_new {f : Int → Option Int} (fi : Inj f) {odd : List OddE} (nd : (odd.map (·.1)).Nodup) {j : Nat} {e : OddE} (h : odd[j]? = some e) {k : Int} (hk : f e.1 = some k) : look (movO f (odd.take j)) k = none := by
  cases q : look (movO f (odd.take j)) k with
  | none => rfl
  | some x =>
    have hm := look_mem q
    obtain ⟨u, hu, h1, _⟩ := mov_mem.mp hm
    have e1 : u.1 = e.1 := fi _ _ _ h1 hk
    have sp : odd = odd.take j ++ e :: odd.drop (j + 1) := by
      have hj : j < odd.length := (List.getElem?_eq_some_iff.mp h).1
      have : odd.drop j = e :: odd.drop (j + 1) := by
        rw [List.drop_eq_getElem_cons hj]
        rw [List.getElem?_eq_getElem hj] at h
        rw [Option.some.inj h]
      rw [← this, List.take_append_drop]
    rw [sp, List.map_append, List.nodup_append] at nd
    exact absurd e1 (nd.2.2 u.1 (List.mem_map_of_mem hu) e.1 (by simp))
theorem mov_len (f : Int → Option Int) (odd : List OddE) : (movO f odd).length ≤ odd.length := List.length_filterMap_le _ _
/-- one thing more -/
theorem OddAt.mov {H : Hp} {f : Int → Option Int} (fi : Inj f) {odd : List OddE} (nd : (odd.map (·.1)).Nodup) {j : Nat} {e : OddE} (h : odd[j]? = some e) {k : Int} (hk : f e.1 = some k) {kvs : List (Key × V)} {t : Addr} (ht : H t = some (.tup [.int e.2.1, .bl e.2.2])) (o : OddAt H kvs (movO f (odd.take j))) :
    OddAt H (putK kvs (Sum.inl k) (.ref t)) (movO f (odd.take (j + 1))) := by
  have p := o.put (i := k) ht
  have e1 : putO (movO f (odd.take j)) k e.2 = movO f (odd.take (j + 1)) := by
    unfold putO
    rw [look_any, mov_new fi nd h hk, mov_snoc h, hk]
    rfl
  rw [e1] at p
  exact p
def putM (z : Sz) (i n : Int) : Sz := ⟨z.many + n, z.common, movO (fPut i n) z.odd⟩
def cutM (z : Sz) (i n : Int) : Sz := ⟨z.many - n, z.common, movO (fCut i n) z.odd⟩
theorem put_wf {z : Sz} {i n : Int} (W : Wf z) (hi : 0 ≤ i ∧ i ≤ z.many) (hn : 1 ≤ n) (hm : z.many + n ≤ 1000000000) : Wf (putM z i n) := by
  obtain ⟨m0, m1, c0, c1, nd, le, ok⟩ := W
  refine ⟨by show 1 ≤ z.many + n; omega, hm, c0, c1, mov_nodup (inj_put (by omega)) nd, Nat.le_trans (mov_len _ _) le, fun e he => ?_⟩
  obtain ⟨u, hu, h1, h2⟩ := mov_mem.mp he
  have := ok u hu
  have e1 : (if u.1 < i then u.1 else u.1 + n) = e.1 := Option.some.inj h1
  rw [← h2]
  show 0 ≤ e.1 ∧ e.1 < z.many + n ∧ _
  refine ⟨?_, ?_, this.2.2⟩ <;> (split at e1 <;> omega)
theorem cut_wf {z : Sz} {i n : Int} (W : Wf z) (hi : 0 ≤ i) (hn : 1 ≤ n) (hm : i + n ≤ z.many) (hl : n ≠ z.many) : Wf (cutM z i n) := by
  obtain ⟨m0, m1, c0, c1, nd, le, ok⟩ := W
  refine ⟨by show 1 ≤ z.many - n; omega, by show z.many - n ≤ 1000000000; omega, c0, c1, mov_nodup (inj_cut (by omega)) nd, Nat.le_trans (mov_len _ _) le, fun e he => ?_⟩
  obtain ⟨u, hu, h1, h2⟩ := mov_mem.mp he
  have := ok u hu
  rw [← h2]
  show 0 ≤ e.1 ∧ e.1 < z.many - n ∧ _
  unfold fCut at h1
  split at h1
  · have e1 := Option.some.inj h1
    exact ⟨by omega, by omega, this.2.2⟩
  · split at h1
    · have e1 := Option.some.inj h1
      exact ⟨by omega, by omega, this.2.2⟩
    · cases h1
def goodP (n : Int) : Prop := 1 ≤ n ∧ n ≤ 1000
def goodC (z : Sz) (i n : Int) : Prop := 1 ≤ n ∧ i + n ≤ z.many ∧ n ≠ z.many
def spPut (C cN cM : Addr) : Sp := fun vs H Q E => ∃ (p d : Addr) (z : Sz) (i n : Int), vs = [.ref p, .int i, .int n] ∧ SzW C H p d z ∧ Sm i ∧ Sm n ∧ z.many ≤ 100000000 ∧
  (0 ≤ i ∧ i ≤ z.many → goodP n → ∀ (d' : Addr) (H' : Hp), H d' = none → Frm p H H' → SzW C H' p d' (putM z i n) → Q .non H') ∧ (¬ (0 ≤ i ∧ i ≤ z.many) → E (.ref cN) none H) ∧ (0 ≤ i ∧ i ≤ z.many → ¬ goodP n → E (.ref cM) none H)
def spCut (C cN cM : Addr) : Sp := fun vs H Q E => ∃ (p d : Addr) (z : Sz) (i n : Int), vs = [.ref p, .int i, .int n] ∧ SzW C H p d z ∧ Sm i ∧ Sm n ∧
  (inR z i → goodC z i n → ∀ (d' : Addr) (H' : Hp), H d' = none → Frm p H H' → SzW C H' p d' (cutM z i n) → Q .non H') ∧ (¬ inR z i → E (.ref cN) none H) ∧ (inR z i → ¬ goodC z i n → E (.ref cM) none H)
end Gs

set_option Elab.async false
set_option linter.all false
set_option maxRecDepth 100000
set_option maxHeartbeats 4000000
namespace Gs
open PySem L2
/-! ### all things as a list -/
theorem look_mov {f : Int → Option Int} (fi : Inj f) {a k : Int} (h : f a = some k) : ∀ odd : List OddE, look (movO f odd) k = look odd a
  | [] => rfl
  | e :: r => by
    have ih := look_mov fi h r
    rw [look_cons]
    cases q : f e.1 with
    | none =>
      have : movO f (e :: r) = movO f r := by simp [movO, q]
      rw [this, ih, if_neg]
      intro z
      rw [z, h] at q
      cases q
    | some c =>
      have : movO f (e :: r) = (c, e.2) :: movO f r := by simp [movO, q]
      rw [this, look_cons, ih]
      by_cases hc : c = k
      · subst hc
        have := fi _ _ _ q h
        rw [if_pos rfl, if_pos this]
      · rw [if_neg hc, if_neg]
        intro z
        rw [z, h] at q
        exact hc (Option.some.inj q).symm
theorem look_mov0 {f : Int → Option Int} {k : Int} (h : ∀ a, f a ≠ some k) (odd : List OddE) : look (movO f odd) k = none := by
  cases q : look (movO f odd) k with
  | none => rfl
  | some x =>
    obtain ⟨u, _, h1, _⟩ := mov_mem.mp (look_mem q)
    exact absurd h1 (h u.1)
theorem put_st {z : Sz} {i n : Int} (hn : 0 ≤ n) (k : Int) : stM (putM z i n) k = if k < i then stM z k else if k < i + n then (z.common, false) else stM z (k - n) := by
  have e : stM (putM z i n) k = (look (movO (fPut i n) z.odd) k).getD (z.common, false) := rfl
  rw [e]
  by_cases h1 : k < i
  · rw [if_pos h1, look_mov (inj_put hn) (a := k) (by unfold fPut; rw [if_pos h1])]
    rfl
  · rw [if_neg h1]
    by_cases h2 : k < i + n
    · rw [if_pos h2, look_mov0]
      · rfl
      · intro a q
        have : (if a < i then a else a + n) = k := Option.some.inj q
        split at this <;> omega
    · rw [if_neg h2, look_mov (inj_put hn) (a := k - n) (by unfold fPut; rw [if_neg (by omega), show k - n + n = k by omega])]
      rfl
theorem cut_st {z : Sz} {i n : Int} (hn : 0 ≤ n) (k : Int) : stM (cutM z i n) k = if k < i then stM z k else stM z (k + n) := by
  have e : stM (cutM z i n) k = (look (movO (fCut i n) z.odd) k).getD (z.common, false) := rfl
  rw [e]
  by_cases h1 : k < i
  · rw [if_pos h1, look_mov (inj_cut hn) (a := k) (by unfold fCut; rw [if_pos h1])]
    rfl
  · rw [if_neg h1, look_mov (inj_cut hn) (a := k + n) (by unfold fCut; rw [if_neg (by omega), if_pos (by omega), show k + n - n = k by omega])]
    rfl
def rowsM (z : Sz) : List (Int × Bool) := (List.range z.many.toNat).map fun (k : Nat) => stM z (k : Int)
theorem rows_len (z : Sz) : (rowsM z).length = z.many.toNat := by unfold rowsM; rw [List.length_map, List.length_range]
theorem rows_at {z : Sz} {k : Nat} (h : k < z.many.toNat) : (rowsM z)[k]? = some (stM z (k : Int)) := by
  unfold rowsM
  rw [List.getElem?_map, List.getElem?_range h]
  rfl
theorem rows_no {z : Sz} {k : Nat} (h : ¬ k < z.many.toNat) : (rowsM z)[k]? = none := by
  rw [List.getElem?_eq_none]
  rw [rows_len]
  omega
theorem rows_keep {z : Sz} {i own : Int} {hid : Bool} (hi : inR z i) : rowsM (keepM z i own hid) = (rowsM z).set i.toNat (own, hid) := by
  refine List.ext_getElem? fun k => ?_
  have em : (keepM z i own hid).many = z.many := rfl
  rw [List.getElem?_set, rows_len]
  by_cases hk : k < z.many.toNat
  · rw [rows_at (z := keepM z i own hid) (by rw [em]; exact hk), rows_at hk, keep_st]
    have h1 := hi.1
    have h2 := hi.2
    by_cases e : i.toNat = k
    · rw [if_pos e, if_pos (show (k : Int) = i by omega), if_pos (by omega)]
    · rw [if_neg e, if_neg (show ¬ (k : Int) = i by omega)]
  · rw [rows_no (z := keepM z i own hid) (by rw [em]; exact hk), rows_no hk]
    have h1 := hi.1
    have h2 := hi.2
    rw [if_neg (show ¬ i.toNat = k by omega)]
theorem rows_put {z : Sz} {i n : Int} (h0 : 0 ≤ i) (h1 : i ≤ z.many) (hn : 0 ≤ n) : rowsM (putM z i n) = (rowsM z).take i.toNat ++ List.replicate n.toNat (z.common, false) ++ (rowsM z).drop i.toNat := by
  have em : (putM z i n).many = z.many + n := rfl
  have lt : ((rowsM z).take i.toNat).length = i.toNat := by rw [List.length_take, rows_len]; omega
  have lr : (List.replicate n.toNat (z.common, false)).length = n.toNat := List.length_replicate
  refine List.ext_getElem? fun k => ?_
  by_cases hk : k < (z.many + n).toNat
  · rw [rows_at (z := putM z i n) (by rw [em]; exact hk), put_st hn]
    by_cases a : (k : Int) < i
    · rw [if_pos a, List.getElem?_append_left (by rw [List.length_append]; omega), List.getElem?_append_left (by omega), List.getElem?_take, if_pos (by omega), rows_at (by omega)]
    · rw [if_neg a]
      by_cases b : (k : Int) < i + n
      · rw [if_pos b, List.getElem?_append_left (by rw [List.length_append]; omega), List.getElem?_append_right (by omega), List.getElem?_replicate, if_pos (by omega)]
      · rw [if_neg b, List.getElem?_append_right (by rw [List.length_append]; omega), List.length_append, lt, lr, List.getElem?_drop, rows_at (by omega)]
        congr 2
        omega
  · rw [rows_no (z := putM z i n) (by rw [em]; exact hk), List.getElem?_eq_none]
    rw [List.length_append, List.length_append, lt, lr, List.length_drop, rows_len]
    omega
theorem rows_cut {z : Sz} {i n : Int} (h0 : 0 ≤ i) (hn : 0 ≤ n) (h1 : i + n ≤ z.many) : rowsM (cutM z i n) = (rowsM z).take i.toNat ++ (rowsM z).drop (i + n).toNat := by
  have em : (cutM z i n).many = z.many - n := rfl
  have lt : ((rowsM z).take i.toNat).length = i.toNat := by rw [List.length_take, rows_len]; omega
  refine List.ext_getElem? fun k => ?_
  by_cases hk : k < (z.many - n).toNat
  · rw [rows_at (z := cutM z i n) (by rw [em]; exact hk), cut_st hn]
    by_cases a : (k : Int) < i
    · rw [if_pos a, List.getElem?_append_left (by omega), List.getElem?_take, if_pos (by omega), rows_at (by omega)]
    · rw [if_neg a, List.getElem?_append_right (by omega), lt, List.getElem?_drop, rows_at (by omega)]
      congr 2
      omega
  · rw [rows_no (z := cutM z i n) (by rw [em]; exact hk), List.getElem?_eq_none]
    rw [List.length_append, lt, List.length_drop, rows_len]
    omega
abbrev Rw := Int × Bool
def rwD (e : Rw) : PyData := .tuple [.int e.1, .bool e.2]
def DpR (H : Hp) (xs : List V) (es : List Rw) : Prop := Paired (fun (v : V) (e : Rw) => ∃ t, v = .ref t ∧ H t = some (.tup [.int e.1, .bl e.2])) xs es
theorem DpR.nil0 {H : Hp} : DpR H [] [] := .nil
theorem DpR.mono {H H' : Hp} (s : TupSame H H') : ∀ {xs : List V} {cs : List Rw}, DpR H xs cs → DpR H' xs cs
  | _, _, .nil => .nil
  | _, _, .cons ⟨t, e, h⟩ r => .cons ⟨t, e, s _ _ h⟩ (DpR.mono s r)
theorem DpR.append {H : Hp} : ∀ {xs ys : List V} {cs ds : List Rw}, DpR H xs cs → DpR H ys ds → DpR H (xs ++ ys) (cs ++ ds)
  | _, _, _, _, .nil, s => s
  | _, _, _, _, .cons a r, s => .cons a (DpR.append r s)
theorem DpR.len {H : Hp} : ∀ {xs : List V} {cs : List Rw}, DpR H xs cs → xs.length = cs.length
  | _, _, .nil => rfl
  | _, _, .cons _ r => by simp [DpR.len r]
theorem DpR.take {H : Hp} : ∀ (n : Nat) {xs : List V} {cs : List Rw}, DpR H xs cs → DpR H (xs.take n) (cs.take n)
  | 0, _, _, _ => by simpa using (DpR.nil0 (H := H))
  | n + 1, _, _, .nil => by simpa using (DpR.nil0 (H := H))
  | n + 1, _, _, .cons a r => by
    rw [List.take_succ_cons, List.take_succ_cons]
    exact .cons a (DpR.take n r)
theorem DpR.drop {H : Hp} : ∀ (n : Nat) {xs : List V} {cs : List Rw}, DpR H xs cs → DpR H (xs.drop n) (cs.drop n)
  | 0, _, _, h => by simpa using h
  | n + 1, _, _, .nil => by simpa using (DpR.nil0 (H := H))
  | n + 1, _, _, .cons a r => by
    rw [List.drop_succ_cons, List.drop_succ_cons]
    exact DpR.drop n r
theorem DpR.set {H : Hp} {t : Addr} {e : Rw} (ht : H t = some (.tup [.int e.1, .bl e.2])) : ∀ (n : Nat) {xs : List V} {cs : List Rw}, DpR H xs cs → DpR H (xs.set n (.ref t)) (cs.set n e)
  | _, _, _, .nil => by simpa using (DpR.nil0 (H := H))
  | 0, _, _, .cons a r => by
    rw [List.set_cons_zero, List.set_cons_zero]
    exact .cons ⟨t, rfl, ht⟩ r
  | n + 1, _, _, .cons a r => by
    rw [List.set_cons_succ, List.set_cons_succ]
    exact .cons a (DpR.set ht n r)
theorem DpR.rep {H : Hp} {t : Addr} {e : Rw} (ht : H t = some (.tup [.int e.1, .bl e.2])) : ∀ n : Nat, DpR H (List.replicate n (.ref t)) (List.replicate n e)
  | 0 => .nil
  | n + 1 => by
    rw [List.replicate_succ, List.replicate_succ]
    exact .cons ⟨t, rfl, ht⟩ (DpR.rep ht n)
theorem DpR.at_ {H : Hp} : ∀ {xs : List V} {cs : List Rw} {n : Nat} {e : Rw}, DpR H xs cs → cs[n]? = some e → ∃ t, xs[n]? = some (.ref t) ∧ H t = some (.tup [.int e.1, .bl e.2])
  | _, _, _, _, .nil, q => by simp at q
  | _, _, 0, _, .cons ⟨t, e, h⟩ _, q => by
    simp at q
    subst q
    exact ⟨t, by rw [e]; rfl, h⟩
  | _, _, n + 1, _, .cons _ r, q => by simpa using DpR.at_ (n := n) r (by simpa using q)
theorem DpR.dp {K : PySem.W.Frag} {H : Hp} : ∀ {xs : List V} {cs : List Rw}, DpR H xs cs → DpAll K H xs (cs.map rwD)
  | _, _, .nil => .nil
  | _, _, .cons ⟨t, e, h⟩ r => by
    subst e
    exact .cons (.tup (SqT.of h) (.cons (.int _) (.cons (.bl _) .nil))) (DpR.dp r)
theorem rw_mxl : ∀ es : List Rw, mxlAll (es.map rwD) ≤ 3
  | [] => by simp [mxlAll]
  | e :: r => by
    have := rw_mxl r
    simp only [List.map_cons, mxlAll, rwD, mxl, List.length_cons, List.length_nil]
    omega
theorem rw_depth : ∀ es : List Rw, PyData.depthAll (es.map rwD) ≤ 1
  | [] => by simp [PyData.depthAll]
  | e :: r => by
    have := rw_depth r
    simp only [List.map_cons, PyData.depthAll, rwD, PyData.depth]
    omega
def spNear : Sp := fun vs H Q _ => ∃ (a : Addr) (many : Int), vs = [.ref a, .int many] ∧ DrawAt H a ∧ 1 ≤ many ∧ many ≤ 1000000000 ∧ ∀ (i : Int) (H' : Hp), (-(10 ^ 41) ≤ i ∧ i ≤ 10 ^ 41) → Gs.Ext a H H' → Q (.int i) H'
theorem ints_at {xs : List Int} {r : Int} (h0 : 0 ≤ r) (h1 : r < (xs.length : Int)) : ∃ n, n ∈ xs ∧ atI (xs.map V.int) r = some (.int n) := by
  have hk : r.toNat < xs.length := by omega
  refine ⟨xs[r.toNat], List.getElem_mem hk, at_of (j := r.toNat) (by omega) ?_⟩
  rw [List.getElem?_map, List.getElem?_eq_getElem hk]
  rfl
def movM (z : Sz) (way i n : Int) : Sz := if way = 0 then putM z i n else cutM z i n
def okM (z : Sz) (way i n : Int) : Prop := if way = 0 then goodP n else goodC z i n
def inM (z : Sz) (way i : Int) : Prop := 0 ≤ i ∧ i < z.many + 1 - way
def spTried5 (C : Addr) : Sp := fun vs H Q _ => ∃ (p d : Addr) (z : Sz) (way i n : Int), vs = [.ref p, .int way, .int i, .int n] ∧ SzW C H p d z ∧ Sm i ∧ Sm n ∧ (way = 0 ∨ way = 1) ∧ z.many ≤ 100000000 ∧
  (¬ inM z way i → ∀ H', Same H H' → Q (.str "NoIndex") H') ∧ (inM z way i → ¬ okM z way i n → ∀ H', Same H H' → Q (.str "BadMany") H') ∧
  (inM z way i → okM z way i n → ∀ (d' : Addr) (H' : Hp), H d' = none → Frm p H H' → SzW C H' p d' (movM z way i n) → Q .non H')
def spRowsOf (C : Addr) : Sp := fun vs H Q _ => ∃ (a p d : Addr) (many c : Int), vs = [.ref a, .ref p, .int many, .int c] ∧ DrawAt H a ∧ SzW C H p d ⟨many, c, []⟩ ∧ many ≤ 12 ∧
  ∀ (s : Sz) (l : Addr) (xs : List V) (H' : Hp), DrawAt H' a → SzW C H' p d s → s.many = many → s.common = c → H' l = some (.lst xs) → l ≠ a → DpR H' xs (rowsM s) → Q (.ref l) H'
theorem DpR.refs {H : Hp} : ∀ {xs : List V} {cs : List Rw}, DpR H xs cs → ∀ v ∈ xs, ∃ t, v = .ref t
  | _, _, .nil, v, h => nomatch h
  | _, _, .cons ⟨t, e, _⟩ r, v, h => by
    rcases List.mem_cons.mp h with rfl | h
    · exact ⟨t, e⟩
    · exact DpR.refs r v h
/-- the rows are no part of a draw -/
theorem DpR.apart {H : Hp} {a l : Addr} {xs : List V} {rs : List Rw} (D : DrawAt H a) (h : H l = some (.lst xs)) (r : DpR H xs rs) (ne : rs ≠ []) : ∃ (l0 : Addr) (ns : List Int) (i left seed n : Int), H a = some (drawO l0 i left seed n) ∧ H l0 = some (.lst (ns.map V.int)) ∧ 0 ≤ i ∧ 0 ≤ seed ∧ seed < 1000000007 ∧ l ≠ a ∧ l ≠ l0 := by
  obtain ⟨l0, ns, i, left, seed, n, h1, h2, b1, b2, b3⟩ := D
  have nx : xs ≠ [] := by
    intro e
    have := r.len
    rw [e] at this
    exact ne (List.length_eq_zero_iff.mp this.symm)
  refine ⟨l0, ns, i, left, seed, n, h1, h2, b1, b2, b3, ?_, ?_⟩
  · refine ne_of h h1 ?_
    intro e
    unfold drawO at e
    injection e with e
    obtain ⟨t, et⟩ := r.refs (.int i) (by rw [e]; simp)
    cases et
  · refine ne_of h h2 ?_
    intro e
    injection e with e
    cases ns with
    | nil => exact nx e
    | cons m rest =>
      obtain ⟨t, et⟩ := r.refs (.int m) (by rw [e]; simp)
      cases et
theorem DpR.draw {H : Hp} {a l : Addr} {xs : List V} {rs : List Rw} (D : DrawAt H a) (h : H l = some (.lst xs)) (r : DpR H xs rs) (ne : rs ≠ []) (o : HO) : DrawAt (upd H l o) a := by
  obtain ⟨l0, ns, i, left, seed, n, h1, h2, b1, b2, b3, n1, n2⟩ := r.apart D h ne
  exact ⟨l0, ns, i, left, seed, n, by rw [upd_ne n1.symm]; exact h1, by rw [upd_ne n2.symm]; exact h2, b1, b2, b3⟩
theorem nls_upd {H : Hp} {l : Addr} {xs : List V} (h : H l = some (.lst xs)) (o : HO) : Nls H (upd H l o) := fun b u n q => by rw [upd_ne (ne_of q h (n _))]; exact q
theorem Nls.tup {H H' : Hp} (e : Nls H H') : TupSame H H' := fun t xs q => e _ _ (fun _ z => by cases z) q
theorem Frm.tup {d : Addr} {H H' : Hp} {u : HO} (f : Frm d H H') (h : H d = some u) (hu : ∀ xs, u ≠ .tup xs) : TupSame H H' := fun t xs q => f _ _ (ne_of q h (fun e => hu xs e.symm)) q
theorem rows_ne {z : Sz} (h : 1 ≤ z.many) : rowsM z ≠ [] := by
  intro e
  have := rows_len z
  rw [e] at this
  simp at this
  omega
theorem ix_nat {n j : Nat} (hj : j < n) : ixN n (j : Int) = some j := by
  unfold ixN
  rw [if_pos (show (0 : Int) ≤ (j : Int) by omega), if_pos (show (j : Int) < (n : Int) by omega), Int.toNat_natCast]
theorem cut_take {xs : List V} {k : Int} (h0 : 0 ≤ k) (h1 : k ≤ (xs.length : Int)) : cutV xs none (some k) = xs.take k.toNat := by
  unfold cutV
  have e1 : HT.sIx xs.length 0 none = 0 := rfl
  have e2 : HT.sIx xs.length xs.length (some k) = k.toNat := by
    show (if k < 0 then (k + (xs.length : Int)).toNat else min k.toNat xs.length) = k.toNat
    rw [if_neg (by omega)]
    omega
  rw [e1, e2, List.drop_zero, Nat.sub_zero]
theorem cut_drop {xs : List V} {k : Int} (h0 : 0 ≤ k) (h1 : k ≤ (xs.length : Int)) : cutV xs (some k) none = xs.drop k.toNat := by
  unfold cutV
  have e1 : HT.sIx xs.length xs.length none = xs.length := rfl
  have e2 : HT.sIx xs.length 0 (some k) = k.toNat := by
    show (if k < 0 then (k + (xs.length : Int)).toNat else min k.toNat xs.length) = k.toNat
    rw [if_neg (by omega)]
    omega
  rw [e1, e2, List.take_of_length_le]
  rw [List.length_drop]
  omega
theorem DrawAt.frmU {H H' : Hp} {a d : Addr} {u : HO} (D : DrawAt H a) (hd : H d = some u) (hu : ∀ xs, u ≠ .lst xs) (f : Frm d H H') : DrawAt H' a := by
  obtain ⟨l, ns, i, left, seed, n, h1, h2, r⟩ := D
  exact ⟨l, ns, i, left, seed, n, f _ _ (ne_of h1 hd (fun e => hu _ e.symm)) h1, f _ _ (ne_of h2 hd (fun e => hu _ e.symm)) h2, r⟩
end Gs

set_option Elab.async false
set_option linter.all false
set_option maxRecDepth 100000
set_option maxHeartbeats 4000000
namespace K05
open PySem L2 Gs
def top (i : Nat) : Stmt := PySem.Challenge.pw_gridscope_k05_things_put_in_and_cut.main.body.getD i (.Pass ⟨0, 0, 0, 0⟩)
structure Tx (K : PySem.W.Frag) (mg : Str → Option Value) (C cN cM cS cF cG : Addr) (tG tM tQ tR : Tok) : Prop where
  no_max : mg "max" = none
  no_min : mg "min" = none
  no_len : mg "len" = none
  no_list : mg "list" = none
  no_isinstance : mg "isinstance" = none
  no_bool : mg "bool" = none
  no_int : mg "int" = none
  no_str : mg "str" = none
  no_tuple : mg "tuple" = none
  no_range : mg "range" = none
  no_all : mg "all" = none
  no_sum : mg "sum" = none
  no_sorted : mg "sorted" = none
  no_any : mg "any" = none
  no_dict : mg "dict" = none
  no_repr : mg "repr" = none
  mg_GREATEST_SIZE : mg "GREATEST_SIZE" = some (.int 60 tG)
  mg_MOST_THINGS : mg "MOST_THINGS" = some (.int 1000000 tM)
  cl : Cls K C
  n_many : NoAttr K C "many"
  n_common : NoAttr K C "common"
  n_odd : NoAttr K C "odd"
  mgC : mg "Sizes" = some (.ref C)
  ins : C8.InsC K C
  x_NoIndex : ExcOk K mg "NoIndex" cN ieL "IndexError.__new__"
  x_BadMany : ExcOk K mg "BadMany" cM veL "ValueError.__new__"
  x_BadSize : ExcOk K mg "BadSize" cS veL "ValueError.__new__"
  x_Full : ExcOk K mg "Full" cF veL "ValueError.__new__"
  mg_MOST_ODD : mg "MOST_ODD" = some (.int 60 tQ)
  x_GridError : ExcOk K mg "GridError" cG veL "ValueError.__new__"
  mg_MOST_PUT : mg "MOST_PUT" = some (.int 1000 tR)
  eN : ExcC K cN
  eM : ExcC K cM
  ng : PySem.W.subIn K (.ref cN) (.ref cG) = some false
  mg_ : PySem.W.subIn K (.ref cM) (.ref cG) = some true
  mn : PySem.W.subIn K (.ref cM) (.ref cN) = some false
section
variable {P : Program} {w : World} {K : PySem.W.Frag} {mg : Str → Option Value} {base : Heap} {f : Addr} {fd : FuncData} {C cN cM cS cF cG : Addr} {tG tM tQ tR : Tok}
abbrev s_check_size : Stmt := top 15
theorem sc_check_size : FnScope ["size"] ["size"] (defScope s_check_size) := ⟨rfl, rfl, rfl, by decide +kernel, rfl, by decide +kernel, by decide +kernel⟩
theorem ok_cs (F : Fun K "check_size" "check_size" s_check_size f fd) (T : Tx K mg C cN cM cS cF cG tG tM tQ tR)  : FnOk P w K mg base (L2.CX P w) 1 f fd ["size"] (spCS cS) := by
  refine F.okX sc_check_size (fun vs H Q E h => ?_) (fun cdv A outer s H vs Q E hr h => ?_)
  · obtain ⟨i, rfl, _⟩ := h
    rfl
  · obtain ⟨i, rfl, hi, k1, k2⟩ := h
    refine ⟨_, (pss_one (ps_if (PW.pt (pw_or (pt_cmpR op_lt (pv 0) pe_int (nomark _)) (pw_or1 (pt_cmpR op_gt (pv 0) (glI (by rfl) T.mg_GREATEST_SIZE) (nomark _))))) (pss_one (ps_raise rfl (takes_of rfl rfl rfl rfl) (SkE.pmk_own1 PySem.F.excBase_ValueError T.x_BadSize.ex T.x_BadSize.g T.x_BadSize.kp (raises_own T.x_BadSize.b T.x_BadSize.t) (by rfl) (pe_joined (.cons (pe_fmt (pv 0)) (.cons pe_str (.cons (pe_fmt (glI (by rfl) T.mg_GREATEST_SIZE)) .nil))))))) pss_nil)), ?_⟩
    have bad : ¬ (1 ≤ i ∧ i ≤ 60) → tJs [tFmt (tVar 0), tC (.str " is no size from 1 to "), tFmt (tC (.int 60))] Str.empty (start ["size"] [.int i]) H fun _ H1 => E (.ref cS) none H1 := fun no => by
      have l1 := hi.len
      refine ⟨_, rfl, .inr ⟨_, rfl, hi.log, _, rfl, ?_, _, rfl, ?_, .inr ⟨_, rfl, by decide, _, rfl, ?_, k2 no⟩⟩⟩
      · exact small (by rw [PySem.Str.length_append]; show 0 + _ ≤ 1000; omega)
      · exact small (by rw [PySem.Str.length_append, PySem.Str.length_append]; show 0 + _ + 22 ≤ 1000; omega)
      · exact small (by rw [PySem.Str.length_append, PySem.Str.length_append, PySem.Str.length_append]; show 0 + _ + 22 + 2 ≤ 1000; omega)
    refine ⟨_, rfl, _, _, rfl, rfl, _, rfl, ?_⟩
    refine ite2 (fun c => ?_) (fun c => ?_)
    · have c' : i < 1 := of_decide_eq_true c
      exact ifT rfl (bad (by omega))
    · have c' : ¬ i < 1 := fun q => c (decide_eq_true q)
      refine ⟨_, rfl, _, _, rfl, rfl, _, rfl, ?_⟩
      refine ite2 (fun c2 => ?_) (fun c2 => ?_)
      · have c2' : (60 : Int) < i := of_decide_eq_true c2
        exact bad (by omega)
      · have c2' : ¬ (60 : Int) < i := fun q => c2 (decide_eq_true q)
        exact k1 (by omega)
abbrev s_check_number : Stmt := top 16
theorem sc_check_number : FnScope ["number", "count"] ["number", "count"] (defScope s_check_number) := ⟨rfl, rfl, rfl, by decide +kernel, rfl, by decide +kernel, by decide +kernel⟩
theorem ok_cn (F : Fun K "check_number" "check_number" s_check_number f fd) (T : Tx K mg C cN cM cS cF cG tG tM tQ tR)  : FnOk P w K mg base (L2.CX P w) 1 f fd ["number", "count"] (spNum cN) := by
  refine F.okX sc_check_number (fun vs H Q E h => ?_) (fun cdv A outer s H vs Q E hr h => ?_)
  · obtain ⟨i, n, rfl, _⟩ := h
    rfl
  · obtain ⟨i, n, rfl, hi, hn, k1, k2⟩ := h
    refine ⟨_, (pss_one (ps_if (PW.pt (pw_or (pt_cmpR op_lt (pv 0) pe_int (nomark _)) (pw_or1 (pt_cmpR op_ge (pv 0) (pv 1) (nomark _))))) (pss_one (ps_raise rfl (takes_of rfl rfl rfl rfl) (SkE.pmk_own1 PySem.F.excBase_IndexError T.x_NoIndex.ex T.x_NoIndex.g T.x_NoIndex.kp (raises_own T.x_NoIndex.b T.x_NoIndex.t) (by rfl) (pe_joined (.cons (pe_fmt (pv 0)) (.cons pe_str (.cons (pe_fmt (pv 1)) .nil))))))) pss_nil)), ?_⟩
    have bad : ¬ (0 ≤ i ∧ i < n) → tJs [tFmt (tVar 0), tC (.str " is no number below "), tFmt (tVar 1)] Str.empty (start ["number", "count"] [.int i, .int n]) H fun _ H1 => E (.ref cN) none H1 := fun no => by
      have l1 := hi.len
      have l2 := hn.len
      refine ⟨_, rfl, .inr ⟨_, rfl, hi.log, _, rfl, ?_, _, rfl, ?_, _, rfl, .inr ⟨_, rfl, hn.log, _, rfl, ?_, k2 no⟩⟩⟩
      · exact small (by rw [PySem.Str.length_append]; show 0 + _ ≤ 1000; omega)
      · exact small (by rw [PySem.Str.length_append, PySem.Str.length_append]; show 0 + _ + 20 ≤ 1000; omega)
      · exact small (by rw [PySem.Str.length_append, PySem.Str.length_append, PySem.Str.length_append]; show 0 + _ + 20 + _ ≤ 1000; omega)
    refine ⟨_, rfl, _, _, rfl, rfl, _, rfl, ?_⟩
    refine ite2 (fun c => ?_) (fun c => ?_)
    · have c' : i < 0 := of_decide_eq_true c
      exact ifT rfl (bad (by omega))
    · have c' : ¬ i < 0 := fun q => c (decide_eq_true q)
      refine ⟨_, rfl, _, rfl, _, _, rfl, rfl, _, rfl, ?_⟩
      refine ite2 (fun c2 => ?_) (fun c2 => ?_)
      · have c2' : n ≤ i := of_decide_eq_true c2
        exact bad (by omega)
      · have c2' : ¬ n ≤ i := fun q => c2 (decide_eq_true q)
        exact k1 (by omega)
abbrev s_Sizes_init : Stmt := inClass (top 17) 0
theorem sc_Sizes_init : FnScope ["self", "many", "common"] ["self", "many", "common"] (defScope s_Sizes_init) := ⟨rfl, rfl, rfl, by decide +kernel, rfl, by decide +kernel, by decide +kernel⟩
theorem ok_init (F : Fun K "__init__" "Sizes.__init__" s_Sizes_init f fd) (T : Tx K mg C cN cM cS cF cG tG tM tQ tR) (D_check_size : Dn P w K mg base (L2.CX P w) 1 "check_size" ["size"] (spCS cS)) : FnOk P w K mg base (L2.CX P w) 2 f fd ["self", "many", "common"] (spInit C cM cS) := by
  refine F.okX sc_Sizes_init (fun vs H Q E h => ?_) (fun cdv A outer s H vs Q E hr h => ?_)
  · obtain ⟨p, dx, n, c, rfl, _⟩ := h
    rfl
  · obtain ⟨p, dx, n, c, rfl, hp, hn, hc, k1, k2, k3⟩ := h
    refine ⟨_, (pss_cons (ps_if (PW.pt (pw_or (pt_cmpR op_lt (pv 1) pe_int (nomark _)) (pw_or1 (pt_cmpR op_gt (pv 1) (glI (by rfl) T.mg_MOST_THINGS) (nomark _))))) (pss_one (ps_raise rfl (takes_of rfl rfl rfl rfl) (SkE.pmk_own1 PySem.F.excBase_ValueError T.x_BadMany.ex T.x_BadMany.g T.x_BadMany.kp (raises_own T.x_BadMany.b T.x_BadMany.t) (by rfl) (pe_joined (.cons (pe_fmt (pv 1)) (.cons pe_str (.cons (pe_fmt (glI (by rfl) T.mg_MOST_THINGS)) .nil))))))) pss_nil)
      (pss_cons (ps_expr (pe_callD D_check_size (hr.mono (by omega)) (by rfl) (passes_call (takes_of rfl rfl rfl rfl) (fun _ _ _ _ h => h)) (pa_cons (pv 2) pa_nil)))
      (pss_cons (ps_fld (pv 0) (pv 1) rfl)
      (pss_cons (ps_fld (pv 0) (pv 2) rfl)
      (pss_one (ps_fld (pv 0) pe_dnewK rfl)))))), ?_⟩
    have bad : ¬ (1 ≤ n ∧ n ≤ 1000000) → tJs [tFmt (tVar 1), tC (.str " is no count from 1 to "), tFmt (tC (.int 1000000))] Str.empty (start ["self", "many", "common"] [.ref p, .int n, .int c]) H fun _ H1 => E (.ref cM) none H1 := fun no => by
      have l1 := hn.len
      refine ⟨_, rfl, .inr ⟨_, rfl, hn.log, _, rfl, ?_, _, rfl, ?_, .inr ⟨_, rfl, by decide, _, rfl, ?_, k2 no⟩⟩⟩
      · exact small (by rw [PySem.Str.length_append]; show 0 + _ ≤ 1000; omega)
      · exact small (by rw [PySem.Str.length_append, PySem.Str.length_append]; show 0 + _ + 23 ≤ 1000; omega)
      · exact small (by rw [PySem.Str.length_append, PySem.Str.length_append, PySem.Str.length_append]; show 0 + _ + 23 + 7 ≤ 1000; omega)
    refine ⟨_, rfl, _, _, rfl, rfl, _, rfl, ?_⟩
    refine ite2 (fun c1 => ?_) (fun c1 => ?_)
    · have c' : n < 1 := of_decide_eq_true c1
      exact ifT rfl (bad (by omega))
    · have c' : ¬ n < 1 := fun q => c1 (decide_eq_true q)
      refine ⟨_, rfl, _, _, rfl, rfl, _, rfl, ?_⟩
      refine ite2 (fun c2 => ?_) (fun c2 => ?_)
      · have c2' : (1000000 : Int) < n := of_decide_eq_true c2
        exact bad (by omega)
      · have c2' : ¬ (1000000 : Int) < n := fun q => c2 (decide_eq_true q)
        have yes : 1 ≤ n ∧ n ≤ 1000000 := by omega
        refine ⟨_, rfl, c, rfl, hc, fun yc => ?_, fun no => k3 yes no⟩
        refine ⟨_, rfl, _, rfl, p, C, dx, [], rfl, hp, T.cl, T.n_many, (by show 0 < 1000; decide), ?_⟩
        refine ⟨_, rfl, _, rfl, p, C, dx, _, rfl, upd_same, T.cl, T.n_common, (by show 1 < 1000; decide), fun d hd => ?_⟩
        rw [upd_upd] at hd
        have npd : p ≠ d := by
          intro e
          rw [e, upd_same] at hd
          cases hd
        have hd0 : H d = none := by rw [upd_ne npd.symm] at hd; exact hd
        refine ⟨_, rfl, p, C, dx, _, rfl, (by rw [upd_ne npd, upd_same]), T.cl, T.n_odd, (by show 2 < 1000; decide), ?_⟩
        refine k1 ⟨yes, yc⟩ d _ hd0 ⟨dx, [], upd_same, by rw [upd_ne npd.symm, upd_same], .nil, ⟨yes.1, by show n ≤ 1000000000; omega, yc.1, yc.2, List.nodup_nil, Nat.zero_le _, fun e he => nomatch he⟩⟩ fun b o e hb => ?_
        rw [upd_ne hb, upd_ne (ne_of_none e hd0), upd_ne hb, upd_ne hb]
        exact e
abbrev s_Sizes_state : Stmt := inClass (top 17) 3
theorem sc_Sizes_state : FnScope ["self", "number"] ["self", "number"] (defScope s_Sizes_state) := ⟨rfl, rfl, rfl, by decide +kernel, rfl, by decide +kernel, by decide +kernel⟩
theorem ok_state (F : Fun K "state" "Sizes.state" s_Sizes_state f fd) (T : Tx K mg C cN cM cS cF cG tG tM tQ tR) (D_check_number : Dn P w K mg base (L2.CX P w) 1 "check_number" ["number", "count"] (spNum cN)) : FnOk P w K mg base (L2.CX P w) 2 f fd ["self", "number"] (spState C cN) := by
  refine F.okX sc_Sizes_state (fun vs H Q E h => ?_) (fun cdv A outer s H vs Q E hr h => ?_)
  · obtain ⟨p, d, z, i, rfl, _⟩ := h
    rfl
  · obtain ⟨p, d, z, i, rfl, S, hi, k1, k2⟩ := h
    have hu := hu_of hr
    obtain ⟨dx, kvs, h1, h2, h3, W⟩ := S
    have W' := W
    obtain ⟨m0, m1, c0, c1, nd, le, ok⟩ := W'
    refine ⟨_, (pss_cons (ps_expr (pe_callD D_check_number (hr.mono (by omega)) (by rfl) (passes_call (takes_of rfl rfl rfl rfl) (fun _ _ _ _ h => h)) (pa_cons (pv 1) (pa_cons (pe_fld (pv 0) rfl) pa_nil))))
      (pss_one (ps_ret (pe_dget2 hu (pe_fld (pv 0) rfl) (pv 1) (pe_tup (pa_cons (pe_fld (pv 0) rfl) (pa_cons pe_bl pa_nil))) ⟨rfl, rfl, rfl, rfl⟩)))), ?_⟩
    refine ⟨_, rfl, _, rfl, p, C, dx, _, _, rfl, h1, T.cl, T.n_many, fz_many _ _ _, i, z.many, rfl, hi, Sm.of (by omega) (by omega), fun yes => ?_, k2⟩
    refine ⟨_, rfl, p, C, dx, _, _, rfl, h1, T.cl, T.n_odd, fz_odd _ _ _, d, rfl, .inl ⟨kvs, h2⟩, _, rfl, _, rfl, p, C, dx, _, _, rfl, h1, T.cl, T.n_common, fz_common _ _ _, (by show 2 ≤ sizeLine; decide), fun t ht => ?_⟩
    have s1 := same_new ht (.tup [.int z.common, .bl false])
    refine ⟨_, .inl ⟨kvs, Sum.inl i, Same.rd s1 h2, rfl, rfl⟩, ?_⟩
    have key : stM z i = (look z.odd i).getD (z.common, false) := rfl
    rcases h3.look i with ⟨e1, e2⟩ | ⟨u, x, e1, e2, e3⟩
    · rw [e1]
      rw [e2] at key
      exact k1 yes t _ s1 (by rw [key]; exact upd_same)
    · rw [e1]
      rw [e2] at key
      exact k1 yes u _ s1 (by rw [key]; exact s1 _ _ e3)
abbrev s_Sizes_size : Stmt := inClass (top 17) 4
theorem sc_Sizes_size : FnScope ["self", "number", "own", "hidden"] ["self", "number"] (defScope s_Sizes_size) := ⟨rfl, rfl, rfl, by decide +kernel, rfl, by decide +kernel, by decide +kernel⟩
theorem ok_size (F : Fun K "size" "Sizes.size" s_Sizes_size f fd) (T : Tx K mg C cN cM cS cF cG tG tM tQ tR) (M_state : Mn P w K mg base (L2.CX P w) 2 C "state" ["self", "number"] (spState C cN)) : FnOk P w K mg base (L2.CX P w) 3 f fd ["self", "number"] (spSize C cN) := by
  refine F.okX sc_Sizes_size (fun vs H Q E h => ?_) (fun cdv A outer s H vs Q E hr h => ?_)
  · obtain ⟨p, d, z, i, rfl, _⟩ := h
    rfl
  · obtain ⟨p, d, z, i, rfl, S, hi, k1, k2⟩ := h
    obtain ⟨dx, kvs, h1, h2, h3, W⟩ := id S
    refine ⟨_, (pss_cons (ps_asg (pe_methD T.cl M_state (hr.mono (by omega)) (passes_call (takes_of rfl rfl rfl rfl) (fun _ _ _ _ h => h)) (pv 0) (pa_cons (pv 1) pa_nil)) (pg_tup (by rfl) (pgs_cons (pg_name (i := 2) sc_Sizes_size.nd rfl (.inl rfl)) (pgs_cons (pg_name (i := 3) sc_Sizes_size.nd rfl (.inl rfl)) pgs_nil))))
      (pss_one (ps_ret (pe_ifExp (pt_val (pv 3)) pe_int (pv 2))))), ?_⟩
    refine ⟨_, rfl, p, dx, _, rfl, h1, fz_no _ _ _, _, rfl, p, d, z, i, rfl, S, hi, fun yes t H1 s1 e1 => ?_, k2⟩
    refine ⟨_, _, rfl, SqT.of e1, rfl, _, _, rfl, _, _, rfl, rfl, ?_⟩
    refine ⟨_, rfl, _, rfl, ?_⟩
    have kk : Q (.int (szM z i)) H1 := k1 yes H1 s1
    unfold szM at kk
    refine ite2 (fun c => ?_) (fun c => ?_)
    · rw [if_pos c] at kk
      exact kk
    · rw [if_neg c] at kk
      exact ⟨_, rfl, kk⟩
abbrev s_Sizes_own : Stmt := inClass (top 17) 5
theorem sc_Sizes_own : FnScope ["self", "number"] ["self", "number"] (defScope s_Sizes_own) := ⟨rfl, rfl, rfl, by decide +kernel, rfl, by decide +kernel, by decide +kernel⟩
theorem ok_own (F : Fun K "own" "Sizes.own" s_Sizes_own f fd) (T : Tx K mg C cN cM cS cF cG tG tM tQ tR) (M_state : Mn P w K mg base (L2.CX P w) 2 C "state" ["self", "number"] (spState C cN)) : FnOk P w K mg base (L2.CX P w) 3 f fd ["self", "number"] (spOwn C cN) := by
  refine F.okX sc_Sizes_own (fun vs H Q E h => ?_) (fun cdv A outer s H vs Q E hr h => ?_)
  · obtain ⟨p, d, z, i, rfl, _⟩ := h
    rfl
  · obtain ⟨p, d, z, i, rfl, S, hi, k1, k2⟩ := h
    obtain ⟨dx, kvs, h1, h2, h3, W⟩ := id S
    refine ⟨_, (pss_one (ps_ret (pe_ix ix_tup (pe_methD T.cl M_state (hr.mono (by omega)) (passes_call (takes_of rfl rfl rfl rfl) (fun _ _ _ _ h => h)) (pv 0) (pa_cons (pv 1) pa_nil)) pe_int (fun _ _ => rfl)))), ?_⟩
    refine ⟨_, rfl, p, dx, _, rfl, h1, fz_no _ _ _, _, rfl, p, d, z, i, rfl, S, hi, fun yes t H1 s1 e1 => ?_, k2⟩
    exact ⟨_, _, _, _, rfl, rfl, SqT.of e1, atI_nat (j := 0) rfl, k1 yes H1 s1⟩
abbrev s_Sizes_hidden : Stmt := inClass (top 17) 6
theorem sc_Sizes_hidden : FnScope ["self", "number"] ["self", "number"] (defScope s_Sizes_hidden) := ⟨rfl, rfl, rfl, by decide +kernel, rfl, by decide +kernel, by decide +kernel⟩
theorem ok_hidden (F : Fun K "hidden" "Sizes.hidden" s_Sizes_hidden f fd) (T : Tx K mg C cN cM cS cF cG tG tM tQ tR) (M_state : Mn P w K mg base (L2.CX P w) 2 C "state" ["self", "number"] (spState C cN)) : FnOk P w K mg base (L2.CX P w) 3 f fd ["self", "number"] (spHid C cN) := by
  refine F.okX sc_Sizes_hidden (fun vs H Q E h => ?_) (fun cdv A outer s H vs Q E hr h => ?_)
  · obtain ⟨p, d, z, i, rfl, _⟩ := h
    rfl
  · obtain ⟨p, d, z, i, rfl, S, hi, k1, k2⟩ := h
    obtain ⟨dx, kvs, h1, h2, h3, W⟩ := id S
    refine ⟨_, (pss_one (ps_ret (pe_ix ix_tup (pe_methD T.cl M_state (hr.mono (by omega)) (passes_call (takes_of rfl rfl rfl rfl) (fun _ _ _ _ h => h)) (pv 0) (pa_cons (pv 1) pa_nil)) pe_int (fun _ _ => rfl)))), ?_⟩
    refine ⟨_, rfl, p, dx, _, rfl, h1, fz_no _ _ _, _, rfl, p, d, z, i, rfl, S, hi, fun yes t H1 s1 e1 => ?_, k2⟩
    exact ⟨_, _, _, _, rfl, rfl, SqT.of e1, atI_nat (j := 1) rfl, k1 yes H1 s1⟩
abbrev s_Sizes_ahead : Stmt := inClass (top 17) 7
theorem sc_Sizes_ahead : FnScope ["self", "number", "more", "each"] ["self", "number"] (defScope s_Sizes_ahead) := ⟨rfl, rfl, rfl, by decide +kernel, rfl, by decide +kernel, by decide +kernel⟩
theorem ok_ahead (F : Fun K "ahead" "Sizes.ahead" s_Sizes_ahead f fd) (T : Tx K mg C cN cM cS cF cG tG tM tQ tR) (D_check_number : Dn P w K mg base (L2.CX P w) 1 "check_number" ["number", "count"] (spNum cN)) (M_size : Mn P w K mg base (L2.CX P w) 3 C "size" ["self", "number"] (spSize C cN)) : FnOk P w K mg base (L2.CX P w) 4 f fd ["self", "number"] (spAhead C cN) := by
  refine F.okX sc_Sizes_ahead (fun vs H Q E h => ?_) (fun cdv A outer s H vs Q E hr h => ?_)
  · obtain ⟨p, d, z, i, rfl, _⟩ := h
    rfl
  · obtain ⟨p, d, z, i, rfl, S, hi, k1, k2⟩ := h
    obtain ⟨dx, kvs, h1, h2, h3, W⟩ := id S
    have W' := W
    obtain ⟨m0, m1, c0, c1, nd, le, ok⟩ := W'
    have npd : p ≠ d := ne_of h1 h2 (by intro e; cases e)
    refine ⟨_, (pss_cons (ps_expr (pe_callD D_check_number (hr.mono (by omega)) (by rfl) (passes_call (takes_of rfl rfl rfl rfl) (fun _ _ _ _ h => h)) (pa_cons (pv 1) (pa_cons (pe_op op_add (pe_fld (pv 0) rfl) pe_int) pa_nil))))
      (pss_cons (ps_set (i := 2) sc_Sizes_ahead.nd rfl (.inl rfl) (pe_callB (cr_sum rfl) (by rfl) T.no_sum (by decide +kernel) (pa_cons (pe_lock (pe_lc (own := [("each", 3)]) (g := gName 3) rfl sc_Sizes_ahead.nd (pi_keys (pe_fld (pv 0) rfl)) (blkOk_by (N := ["self", "number", "more", "each"]) (sc := defScope s_Sizes_ahead) (by decide +kernel)) (fun _ _ _ _ _ => (pg_name (i := 3) sc_Sizes_ahead.nd rfl (Or.inl rfl))) (fun _ _ _ _ _ => (pts_one (pt_cmpR op_lt (pv 3) (pv 1) (nomark _)))) (fun _ _ _ _ _ => (pe_op op_sub (pe_methD T.cl M_size (hr.mono (by omega)) passL (pv 0) (pa_cons (pv 3) pa_nil)) (fldK (K := K) rfl (pv 0) rfl))))) pa_nil)))
      (pss_one (ps_ret (pe_op op_add (pe_op op_mul (pv 1) (pe_fld (pv 0) rfl)) (pv 2)))))), ?_⟩
    refine ⟨_, rfl, _, rfl, p, C, dx, _, _, rfl, h1, T.cl, T.n_many, fz_many _ _ _, _, _, rfl, rfl, i, z.many + 1, rfl, hi, Sm.of (by omega) (by omega), fun yes => ?_, fun no => k2 (fun y => no (by omega))⟩
    refine ⟨d, _, h2, trivial, fun od => ?_⟩
    obtain ⟨HL, eL⟩ : ∃ HL, HL = upd H d (.frz od (.dK kvs)) := ⟨_, rfl⟩
    have hLd : HL d = some (.frz od (.dK kvs)) := by rw [eL]; exact upd_same
    have hLp : HL p = some (.ins C dx (fldZ z.many z.common d)) := by rw [eL, upd_ne npd]; exact h1
    have tsL : TupSame H HL := by rw [eL]; exact TupSame.upd h2 (fun xs e => by cases e) _
    have SL : SzR C HL p d z := ⟨dx, kvs, hLp, .inr ⟨od, hLd⟩, h3.mono tsL, W⟩
    rw [← eL]
    refine ⟨_, rfl, p, C, dx, _, _, rfl, hLp, T.cl, T.n_odd, fz_odd _ _ _, d, od, rfl, .inl ⟨kvs, hLd, fun D hD => ?_⟩⟩
    refine lc_it walk_keys (fun j H2 => Same HL H2 ∧ H2 D = some (.lst (((((z.odd.map (·.1)).take j).filter fun k => decide (k < i)).map fun k => szM z k - z.common).map V.int))) ⟨same_new hD _, upd_same⟩ (fun j H2 _ q => q.1 _ _ hLd) ?_ ?_
    · rintro j x H2 H2' hj ⟨s2, e2⟩ ⟨rfl, kk, vv, ekv, rfl⟩
      obtain ⟨e, ee, eq1⟩ := h3.at_ ekv
      subst eq1
      have hm := ok e (List.mem_of_getElem? ee)
      have ek : (z.odd.map (·.1))[j]? = some e.1 := by rw [List.getElem?_map, ee]; rfl
      refine ⟨rfl, ?_⟩
      refine ⟨_, rfl, _, rfl, _, _, rfl, rfl, _, rfl, ?_⟩
      refine ite2 (fun q => ?_) (fun q => ?_)
      · refine ⟨_, rfl, p, dx, _, rfl, s2 _ _ hLp, fz_no _ _ _, _, rfl, p, d, z, e.1, rfl, SL.same s2, Sm.of (by omega) (by omega), fun _ H3 s3 => ?_, fun no => absurd ⟨hm.1, hm.2.1⟩ no⟩
        refine ⟨_, rfl, p, C, dx, _, _, rfl, s3 _ _ (s2 _ _ hLp), T.cl, T.n_common, fz_common _ _ _, _, _, rfl, rfl, _, s3 _ _ e2, ?_, ?_, ?_⟩
        · refine Nat.lt_of_le_of_lt ?_ (show 60 < sizeLine by decide)
          rw [List.length_map, List.length_map]
          refine Nat.le_trans (List.length_filter_le _ _) (Nat.le_trans (List.length_take_le' _ _) ?_)
          rw [List.length_map]
          exact le
        · intro b' o z'
          rw [upd_ne (ne_of_none z' hD)]
          exact s3 _ _ (s2 _ _ z')
        · rw [upd_same, take_filter1 _ _ ek, if_pos q, List.map_append, List.map_append]
          rfl
      · refine ⟨s2, ?_⟩
        rw [take_filter1 _ _ ek, if_neg q, List.append_nil]
        exact e2
    rintro H2 ⟨s2, e2⟩
    have eLen : kvs.length = (z.odd.map (·.1)).length := by rw [List.length_map]; exact h3.len
    rw [eLen, List.take_length] at e2
    have nDd : D ≠ d := ne_of e2 (s2 _ _ hLd) (by intro e; cases e)
    refine ⟨s2 _ _ hLd, _, _, rfl, SqL.of (by rw [upd_ne nDd]; exact e2), ?_⟩
    have sF : Same H (upd H2 d (.dK kvs)) := by
      intro b o q
      by_cases hb : b = d
      · subst hb
        rw [h2] at q
        cases q
        exact upd_same
      · rw [upd_ne hb]
        refine s2 _ _ ?_
        rw [eL, upd_ne hb]
        exact q
    refine ⟨_, rfl, _, rfl, p, C, dx, _, _, rfl, sF _ _ h1, T.cl, T.n_common, fz_common _ _ _, _, _, rfl, rfl, .inr ⟨by omega, by omega⟩, _, rfl, _, _, rfl, rfl, ?_⟩
    exact k1 (by omega) _ sF
abbrev s_Sizes_total : Stmt := inClass (top 17) 8
theorem sc_Sizes_total : FnScope ["self"] ["self"] (defScope s_Sizes_total) := ⟨rfl, rfl, rfl, by decide +kernel, rfl, by decide +kernel, by decide +kernel⟩
theorem ok_total (F : Fun K "total" "Sizes.total" s_Sizes_total f fd) (T : Tx K mg C cN cM cS cF cG tG tM tQ tR) (M_ahead : Mn P w K mg base (L2.CX P w) 4 C "ahead" ["self", "number"] (spAhead C cN)) : FnOk P w K mg base CX0 5 f fd ["self"] (spTotal C) := by
  refine F.ok sc_Sizes_total (fun vs H Q E h => ?_) (fun cdv A outer s H vs Q E hr h => ?_)
  · obtain ⟨p, d, z, rfl, _⟩ := h
    rfl
  · obtain ⟨p, d, z, rfl, S, k1⟩ := h
    obtain ⟨dx, kvs, h1, h2, h3, W⟩ := id S
    obtain ⟨m0, m1, c0, c1, nd, le, ok⟩ := W
    refine ⟨_, (pss_one (ps_ret (pe_methD T.cl M_ahead (hr.mono (by omega)) passL (pv 0) (pa_cons (pe_fld (pv 0) rfl) pa_nil)))), ?_⟩
    exact ⟨_, rfl, p, dx, _, rfl, h1, fz_no _ _ _, _, rfl, p, C, dx, _, _, rfl, h1, T.cl, T.n_many, fz_many _ _ _, p, d, z, _, rfl, S, Sm.of (by omega) (by omega), fun _ H1 s1 => k1 H1 s1, fun no => absurd ⟨by omega, Int.le_refl _⟩ no⟩
-- pick
abbrev s_pick : Stmt := top 19
theorem sc_pick : FnScope ["_law_draw", "_law_many", "_law_cell", "_law_got"] ["_law_draw", "_law_many"] (defScope s_pick) := ⟨rfl, rfl, rfl, by decide +kernel, rfl, by decide +kernel, by decide +kernel⟩
theorem ok_pick (F : Fun K "_law_pick" "_law_pick" s_pick f fd) (T : Tx K mg C cN cM cS cF cG tG tM tQ tR) : FnOk P w K mg base CX0 1 f fd ["_law_draw", "_law_many"] spPick := by
  refine F.ok sc_pick (fun vs H Q E h => ?_) (fun cdv A outer s H vs Q E hr h => ?_)
  · obtain ⟨a, many, rfl, _⟩ := h
    rfl
  · obtain ⟨a, many, rfl, D, m1, m2, k⟩ := h
    refine ⟨_, (C8.pss_cut (ps_if (PW.pt (pw_and (pt_cmpR op_lt (pe_ix ix_list (pv 0) pe_int (fun _ _ => rfl)) (pv 1) (nomark _)) (pw_and1 (pt_cmpR op_lt (pe_ix ix_list (pv 0) pe_int (fun _ _ => rfl)) (pe_callB call_len_seq (by rfl) T.no_len (by decide +kernel) (pa_cons (pe_ix ix_list (pv 0) pe_int (fun _ _ => rfl)) pa_nil)) (nomark _))))) (pss_cons (ps_set (i := 2) sc_pick.nd rfl (.inl rfl) (pe_ix ix_list (pe_ix ix_list (pv 0) pe_int (fun _ _ => rfl)) (pe_ix ix_list (pv 0) pe_int (fun _ _ => rfl)) (fun _ _ => rfl)))
        (pss_cons (ps_asg (pe_op op_add (pe_ix ix_list (pv 0) pe_int (fun _ _ => rfl)) pe_int) (pg_sub (pv 0) pe_int set_list))
        (pss_cons (ps_asg pe_int (pg_sub (pv 0) pe_int set_list))
        (pss_one (ps_if (pt_cmpR op_ge (pv 2) (pe_op op_pow pe_int pe_int) (nomark _)) (pss_one (ps_asg (pv 2) (pg_sub (pv 0) pe_int set_list))) (pss_one (ps_asg (pe_op op_mod (pe_op op_add (pe_ix ix_list (pv 0) pe_int (fun _ _ => rfl)) (pv 2)) pe_int) (pg_sub (pv 0) pe_int set_list)))))))) pss_nil)
      (pss_cons (ps_if (pt_cmpR op_ge (pe_ix ix_list (pv 0) pe_int (fun _ _ => rfl)) (pv 1) (nomark _)) (pss_cons (ps_set (i := 3) sc_pick.nd rfl (.inl rfl) (pe_op op_mod (pe_ix ix_list (pv 0) pe_int (fun _ _ => rfl)) (pv 1)))
        (pss_cons (ps_asg (pe_op op_fdiv (pe_ix ix_list (pv 0) pe_int (fun _ _ => rfl)) (pv 1)) (pg_sub (pv 0) pe_int set_list))
        (pss_one (ps_ret (pv 3))))) pss_nil)
      (pss_cons (ps_asg (pe_op op_add (pe_ix ix_list (pv 0) pe_int (fun _ _ => rfl)) pe_int) (pg_sub (pv 0) pe_int set_list))
      (pss_cons (ps_asg (pe_op op_mod (pe_op op_add (pe_op op_add (pe_op op_pow (pe_ix ix_list (pv 0) pe_int (fun _ _ => rfl)) pe_int) (pe_op op_mul pe_int (pe_ix ix_list (pv 0) pe_int (fun _ _ => rfl)))) pe_int) pe_int) (pg_sub (pv 0) pe_int set_list))
      (pss_one (ps_ret (pe_op op_mod (pe_op op_fdiv (pe_ix ix_list (pv 0) pe_int (fun _ _ => rfl)) pe_int) (pv 1)))))))), ?_⟩
    refine ⟨fun σ H1 => (∃ x y, σ = [some (.ref a), some (.int many), x, y]) ∧ DrawAt H1 a ∧ (∀ b, b ≠ a → H1 b = H b), ?_, ?_⟩
    · obtain ⟨l, ns, i, left, seed, n, h1, h2, hi, hs0, hs1⟩ := D
      have hl : l ≠ a := DrawAt.ne h1 h2
      refine ⟨_, rfl, _, _, _, _, rfl, rfl, SqL.of h1, atI_nat (j := 2) rfl, _, rfl, _, _, rfl, rfl, _, rfl, ?_⟩
      refine ite2 (fun c => ?_) (fun c => ?_)
      · refine ⟨_, rfl, _, _, _, _, rfl, rfl, SqL.of h1, atI_nat (j := 1) rfl, _, rfl, _, _, _, _, rfl, rfl, SqL.of h1, atI_nat (j := 0) rfl, _, _, rfl, .inl (SqL.of h2), _, _, rfl, rfl, _, rfl, ?_⟩
        refine ite2 (fun c => ?_) (fun c => ?_)
        · have c' : i < (((ns.map V.int).length : Nat) : Int) := of_decide_eq_true c
          rw [List.length_map] at c'
          have hk : i.toNat < ns.length := by omega
          have ek : i = ((i.toNat : Nat) : Int) := by omega
          have hat : atI (ns.map V.int) i = some (.int ns[i.toNat]) := by
            exact at_of ek (by rw [List.getElem?_map, List.getElem?_eq_getElem hk] <;> rfl)
          have g2 : ∀ o, upd H a o l = some (.lst (ns.map V.int)) := fun o => by rw [upd_ne hl]; exact h2
          refine ⟨_, rfl, _, _, _, _, rfl, rfl, SqL.of h1, atI_nat (j := 0) rfl, _, rfl, _, _, _, _, rfl, rfl, SqL.of h1, atI_nat (j := 1) rfl, _, _, _, _, rfl, rfl, SqL.of h2, hat, ?_⟩
          refine ⟨_, rfl, _, _, _, _, rfl, rfl, SqL.of h1, atI_nat (j := 1) rfl, _, _, rfl, rfl, _, rfl, _, _, _, 1, rfl, rfl, h1, rfl, ?_⟩
          refine ⟨_, rfl, _, _, _, 2, rfl, rfl, upd_same, rfl, ?_⟩
          rw [upd_upd]
          refine ⟨_, rfl, _, _, rfl, rfl, ⟨by decide, by decide, by decide⟩, _, _, rfl, rfl, _, rfl, ?_⟩
          refine ite2 (fun c => ?_) (fun c => ?_)
          · refine ⟨_, rfl, _, rfl, _, _, _, 2, rfl, rfl, upd_same, rfl, ?_⟩
            rw [upd_upd]
            exact ⟨⟨_, _, rfl⟩, ⟨l, ns, i + 1, ns[i.toNat], seed, n, upd_same, g2 _, by omega, hs0, hs1⟩, fun b hb => upd_ne hb⟩
          · refine ⟨_, rfl, _, _, _, _, rfl, rfl, SqL.of upd_same, atI_nat (j := 3) rfl, _, rfl, _, _, rfl, rfl, _, _, rfl, rfl, (by show (0 : Int) < 1000000007; decide), _, rfl, _, _, _, 3, rfl, rfl, upd_same, rfl, ?_⟩
            rw [upd_upd]
            exact ⟨⟨_, _, rfl⟩, ⟨l, ns, i + 1, 0, _, n, upd_same, g2 _, by omega, Int.emod_nonneg _ (by decide), Int.emod_lt_of_pos _ (by decide)⟩, fun b hb => upd_ne hb⟩
        · exact ⟨⟨_, _, rfl⟩, ⟨l, ns, i, left, seed, n, h1, h2, hi, hs0, hs1⟩, fun b hb => rfl⟩
      · exact ⟨⟨_, _, rfl⟩, ⟨l, ns, i, left, seed, n, h1, h2, hi, hs0, hs1⟩, fun b hb => rfl⟩
    · rintro σ H1 ⟨⟨x, y, rfl⟩, D1, fr⟩
      obtain ⟨l, ns, i, left, seed, n, h1, h2, hi, hs0, hs1⟩ := D1
      have hl : l ≠ a := DrawAt.ne h1 h2
      have g2 : ∀ o, upd H1 a o l = some (.lst (ns.map V.int)) := fun o => by rw [upd_ne hl]; exact h2
      have g3 : ∀ o b, b ≠ a → upd H1 a o b = H b := fun o b hb => by rw [upd_ne hb]; exact fr b hb
      refine ⟨_, rfl, _, _, _, _, rfl, rfl, SqL.of h1, atI_nat (j := 2) rfl, _, rfl, _, _, rfl, rfl, _, rfl, ?_⟩
      refine ite2 (fun c => ?_) (fun c => ?_)
      · refine ⟨_, rfl, _, _, _, _, rfl, rfl, SqL.of h1, atI_nat (j := 2) rfl, _, rfl, _, _, rfl, rfl, (show (0 : Int) < many by omega), ?_⟩
        refine ⟨_, rfl, _, _, _, _, rfl, rfl, SqL.of h1, atI_nat (j := 2) rfl, _, rfl, _, _, rfl, rfl, ⟨by omega, by omega⟩, _, rfl, _, _, _, 2, rfl, rfl, h1, rfl, ?_⟩
        refine ⟨_, rfl, ?_⟩
        exact k _ _ (Int.emod_nonneg _ (by omega)) (Int.emod_lt_of_pos _ (by omega)) ⟨l, ns, i, _, seed, n, upd_same, g2 _, hi, hs0, hs1⟩ (g3 _)
      · refine ⟨_, rfl, _, _, _, _, rfl, rfl, SqL.of h1, atI_nat (j := 4) rfl, _, _, rfl, rfl, _, rfl, _, _, _, 4, rfl, rfl, h1, rfl, ?_⟩
        refine ⟨_, rfl, _, _, _, _, rfl, rfl, SqL.of upd_same, atI_nat (j := 3) rfl, _, _, rfl, rfl, ⟨by decide, by decide, by omega⟩, _, rfl, _, _, _, _, rfl, rfl, SqL.of upd_same, atI_nat (j := 4) rfl, _, _, rfl, rfl, .inl ⟨by decide, by decide⟩, _, _, rfl, rfl, _, _, rfl, rfl, _, _, rfl, rfl, (by show (0 : Int) < 1000000007; decide), _, rfl, _, _, _, 3, rfl, rfl, upd_same, rfl, ?_⟩
        rw [upd_upd]
        refine ⟨_, rfl, _, _, _, _, rfl, rfl, SqL.of upd_same, atI_nat (j := 3) rfl, _, _, rfl, rfl, ⟨by decide, by decide⟩, _, rfl, _, _, rfl, rfl, (show (0 : Int) < many by omega), ?_⟩
        exact k _ _ (Int.emod_nonneg _ (by omega)) (Int.emod_lt_of_pos _ (by omega)) ⟨l, ns, i, left, _, _, upd_same, g2 _, hi, Int.emod_nonneg _ (by decide), Int.emod_lt_of_pos _ (by decide)⟩ (g3 _)
-- begin
abbrev s_begin : Stmt := top 20
theorem sc_begin : FnScope ["_law_script"] ["_law_script"] (defScope s_begin) := ⟨rfl, rfl, rfl, by decide +kernel, rfl, by decide +kernel, by decide +kernel⟩
theorem ok_begin (F : Fun K "_law_begin" "_law_begin" s_begin f fd) (T : Tx K mg C cN cM cS cF cG tG tM tQ tR) : FnOk P w K mg base CX0 1 f fd ["_law_script"] (spBegin K) := by
  refine F.ok sc_begin (fun vs H Q E h => ?_) (fun cdv A outer s H vs Q E hr h => ?_)
  · obtain ⟨a, ns, rfl, _⟩ := h
    rfl
  · obtain ⟨sc, ns, rfl, hS, k⟩ := h
    refine ⟨_, (pss_one (ps_ret (pe_lst (pa_cons (pe_callTy call_list_of (by rfl) T.no_list (by decide +kernel) (pa_cons (pe_slice sl_list (pv 0) po_none (po_some pe_int)) pa_nil)) (pa_cons pe_int (pa_cons pe_int (pa_cons pe_int (pa_cons pe_int pa_nil)))))))), ?_⟩
    refine ⟨_, rfl, _, rfl, _, _, rfl, hS, fun p hp => ?_⟩
    refine ⟨_, _, rfl, .inl (SqL.of upd_same), fun l hl => ?_⟩
    refine ⟨(by show 5 ≤ sizeLine; decide), fun a ha => ?_⟩
    have s0 := (same_new hp (.lst (cutV (ns.map V.int) none (some 63)))).trans (same_new hl (.lst (cutV (ns.map V.int) none (some 63))))
    obtain ⟨ms, em⟩ := cut_ints ns none (some 63)
    refine k a _ (s0.free ha) ⟨l, ms, 0, 0, 1, 0, upd_same, ?_, by decide, by decide, by decide⟩ (s0.trans (same_new ha _))
    rw [upd_ne (ne_of_none upd_same ha), upd_same, em]
-- same
abbrev s_same : Stmt := top 23
theorem sc_same : FnScope ["_law_found", "_law_due", "_law_k"] ["_law_found", "_law_due"] (defScope s_same) := ⟨rfl, rfl, rfl, by decide +kernel, rfl, by decide +kernel, by decide +kernel⟩
theorem ok_same {n : Nat} (F : Fun K "_law_same" "_law_same" s_same f fd) (T : Tx K mg C cN cM cS cF cG tG tM tQ tR) (D_same : Dn P w K mg base CX0 n "_law_same" ["_law_found", "_law_due"] (spSame K n)) : FnOk P w K mg base CX0 (n + 1) f fd ["_law_found", "_law_due"] (spSame K (n + 1)) := by
  refine F.ok sc_same (fun vs H Q E h => ?_) (fun cdv A outer s H vs Q E hr h => ?_)
  · obtain ⟨x, y, d, rfl, _⟩ := h
    rfl
  · obtain ⟨x, y, d, rfl, hx, hy, hd, hm, k⟩ := h
    refine ⟨_, (pss_cons (ps_if (pt_cmpR op_isN (pv 1) pe_non (nomark _)) (pss_one (ps_ret (pe_cmpR op_isN (pv 0) pe_non (nomark _)))) pss_nil)
      (pss_cons (ps_if (PW.pt (pw_or (pt_val (pe_callB call_isi (by rfl) T.no_isinstance (by decide +kernel) (pa_cons (pv 1) (pa_cons (pe_bltn (v := .ty "bool") (by rfl) T.no_bool (by decide +kernel) rfl) pa_nil)))) (pw_or1 (pt_val (pe_callB call_isi (by rfl) T.no_isinstance (by decide +kernel) (pa_cons (pv 0) (pa_cons (pe_bltn (v := .ty "bool") (by rfl) T.no_bool (by decide +kernel) rfl) pa_nil))))))) (pss_one (ps_ret (pe_and (pe_callB call_isi (by rfl) T.no_isinstance (by decide +kernel) (pa_cons (pv 1) (pa_cons (pe_bltn (v := .ty "bool") (by rfl) T.no_bool (by decide +kernel) rfl) pa_nil))) (pe_and (pe_callB call_isi (by rfl) T.no_isinstance (by decide +kernel) (pa_cons (pv 0) (pa_cons (pe_bltn (v := .ty "bool") (by rfl) T.no_bool (by decide +kernel) rfl) pa_nil))) (pe_one (pe_cmpR op_eq (pv 0) (pv 1) (nomark _))))))) pss_nil)
      (pss_cons (ps_if (pt_val (pe_callB call_isiT (by rfl) T.no_isinstance (by decide +kernel) (pa_cons (pv 1) (pa_cons (pe_tup (pa_cons (pe_bltn (v := .ty "int") (by rfl) T.no_int (by decide +kernel) rfl) (pa_cons (pe_bltn (v := .ty "str") (by rfl) T.no_str (by decide +kernel) rfl) pa_nil))) pa_nil)))) (pss_one (ps_ret (pe_and (pe_cmpR op_eq (pe_callB call_isi (by rfl) T.no_isinstance (by decide +kernel) (pa_cons (pv 0) (pa_cons (pe_bltn (v := .ty "int") (by rfl) T.no_int (by decide +kernel) rfl) pa_nil))) (pe_callB call_isi (by rfl) T.no_isinstance (by decide +kernel) (pa_cons (pv 1) (pa_cons (pe_bltn (v := .ty "int") (by rfl) T.no_int (by decide +kernel) rfl) pa_nil))) (nomark _)) (pe_and (pe_callB call_isiT (by rfl) T.no_isinstance (by decide +kernel) (pa_cons (pv 0) (pa_cons (pe_tup (pa_cons (pe_bltn (v := .ty "int") (by rfl) T.no_int (by decide +kernel) rfl) (pa_cons (pe_bltn (v := .ty "str") (by rfl) T.no_str (by decide +kernel) rfl) pa_nil))) pa_nil))) (pe_one (pe_cmpR op_eq (pv 0) (pv 1) (nomark _))))))) pss_nil)
      (pss_cons (ps_if (PW.pt (pw_or (pt_cmpR op_ne (pe_callB call_isi (by rfl) T.no_isinstance (by decide +kernel) (pa_cons (pv 0) (pa_cons (pe_bltn (v := .ty "list") (by rfl) T.no_list (by decide +kernel) rfl) pa_nil))) (pe_callB call_isi (by rfl) T.no_isinstance (by decide +kernel) (pa_cons (pv 1) (pa_cons (pe_bltn (v := .ty "list") (by rfl) T.no_list (by decide +kernel) rfl) pa_nil))) (nomark _)) (pw_or1 (pt_cmpR op_ne (pe_callB call_isi (by rfl) T.no_isinstance (by decide +kernel) (pa_cons (pv 0) (pa_cons (pe_bltn (v := .ty "tuple") (by rfl) T.no_tuple (by decide +kernel) rfl) pa_nil))) (pe_callB call_isi (by rfl) T.no_isinstance (by decide +kernel) (pa_cons (pv 1) (pa_cons (pe_bltn (v := .ty "tuple") (by rfl) T.no_tuple (by decide +kernel) rfl) pa_nil))) (nomark _))))) (pss_one (ps_ret pe_bl)) pss_nil)
      (pss_one (ps_ret (pe_and (pe_cmpR op_eq (pe_callB call_len_seq (by rfl) T.no_len (by decide +kernel) (pa_cons (pv 0) pa_nil)) (pe_callB call_len_seq (by rfl) T.no_len (by decide +kernel) (pa_cons (pv 1) pa_nil)) (nomark _)) (pe_one (pe_callB (cr_all rfl) (by rfl) T.no_all (by decide +kernel) (pa_cons (pe_lc (own := [("_law_k", 2)]) (g := gName 2) rfl sc_same.nd (pi_range1 (by rfl) T.no_range (pa_cons (pe_callB call_len_seq (by rfl) T.no_len (by decide +kernel) (pa_cons (pv 1) pa_nil)) pa_nil)) (blkOk_by (N := ["_law_found", "_law_due", "_law_k"]) (sc := defScope s_same) (by decide +kernel)) (fun _ _ _ _ _ => (pg_name (i := 2) sc_same.nd rfl (Or.inl rfl))) (fun _ _ _ _ _ => pts_nil) (fun _ _ _ _ _ => (pe_callD D_same hr (by rfl) pass0 (pa_cons (pe_ix (ixQk (K := K) rfl) (pv 0) (pv 2) (fun _ _ => rfl)) (pa_cons (pe_ix (ixQk (K := K) rfl) (pv 1) (pv 2) (fun _ _ => rfl)) pa_nil))))) pa_nil)))))))))), ?_⟩
    cases d with
    | dict kvs => cases hx
    | none =>
      cases hx
      cases hy
      exact ⟨_, rfl, rfl, _, rfl, ifT rfl ⟨_, rfl, rfl, k H (Same.refl H)⟩⟩
    | bool b =>
      cases hx
      cases hy
      have ty : ∀ H, TyX K H (.bl b) (.type "bool") := fun H => .base (.bl b)
      have kb : kitB "bool" "bool" = some true := by decide +kernel
      refine ⟨_, rfl, rfl, _, rfl, ?_⟩
      refine ifF (by simp) ?_
      refine ⟨_, rfl, _, _, _, _, true, rfl, .ty _, ty _, kit_ty kb, _, rfl, ?_⟩
      refine ifT rfl ?_
      refine ifT rfl ?_
      refine ⟨_, rfl, _, _, _, _, true, rfl, .ty _, ty _, kit_ty kb, _, rfl, ?_⟩
      refine ifT rfl ?_
      refine ⟨_, rfl, _, _, _, _, true, rfl, .ty _, ty _, kit_ty kb, _, rfl, ?_⟩
      refine ifT rfl ?_
      refine ⟨_, rfl, _, rfl, rfl, ?_⟩
      rw [decide_eq_true rfl]
      exact k H (Same.refl H)
    | int b =>
      cases hx
      cases hy
      have ty : ∀ H, TyX K H (.int b) (.type "int") := fun H => .base (.int b)
      have kb : kitB "int" "bool" = some false := by decide +kernel
      have ki : kitB "int" "int" = some true := by decide +kernel
      have ks : kitB "int" "str" = some false := by decide +kernel
      refine ⟨_, rfl, rfl, _, rfl, ?_⟩
      refine ifF (by simp) ?_
      refine ⟨_, rfl, _, _, _, _, false, rfl, .ty _, ty _, kit_ty kb, _, rfl, ?_⟩
      refine ifF (by simp) ?_
      refine ⟨_, rfl, _, _, _, _, false, rfl, .ty _, ty _, kit_ty kb, _, rfl, ?_⟩
      refine ifF (by simp) ?_
      refine ⟨_, rfl, (by show 2 ≤ sizeLine; decide), fun t1 nt1 => ⟨_, _, _, _, _, _, rfl, upd_same, cls2 _ _, ty _, kit2 ki ks, _, rfl, ?_⟩⟩
      refine ifT rfl ?_
      refine ⟨_, rfl, _, _, _, _, true, rfl, .ty _, ty _, kit_ty ki, _, rfl, _, _, _, _, true, rfl, .ty _, ty _, kit_ty ki, rfl, _, rfl, ?_⟩
      refine ifT rfl ?_
      refine ⟨_, rfl, (by show 2 ≤ sizeLine; decide), fun t2 nt2 => ⟨_, _, _, _, _, _, rfl, upd_same, cls2 _ _, ty _, kit2 ki ks, _, rfl, ?_⟩⟩
      refine ifT rfl ?_
      refine ⟨_, rfl, _, rfl, rfl, ?_⟩
      rw [decide_eq_true rfl]
      exact k _ ((same_new nt1 _).trans (same_new nt2 _))
    | str b =>
      cases hx
      cases hy
      have ty : ∀ H, TyX K H (.str b) (.type "str") := fun H => .base (.str b)
      have kb : kitB "str" "bool" = some false := by decide +kernel
      have ki : kitB "str" "int" = some false := by decide +kernel
      have ks : kitB "str" "str" = some true := by decide +kernel
      refine ⟨_, rfl, rfl, _, rfl, ?_⟩
      refine ifF (by simp) ?_
      refine ⟨_, rfl, _, _, _, _, false, rfl, .ty _, ty _, kit_ty kb, _, rfl, ?_⟩
      refine ifF (by simp) ?_
      refine ⟨_, rfl, _, _, _, _, false, rfl, .ty _, ty _, kit_ty kb, _, rfl, ?_⟩
      refine ifF (by simp) ?_
      refine ⟨_, rfl, (by show 2 ≤ sizeLine; decide), fun t1 nt1 => ⟨_, _, _, _, _, _, rfl, upd_same, cls2 _ _, ty _, kit2 ki ks, _, rfl, ?_⟩⟩
      refine ifT rfl ?_
      refine ⟨_, rfl, _, _, _, _, false, rfl, .ty _, ty _, kit_ty ki, _, rfl, _, _, _, _, false, rfl, .ty _, ty _, kit_ty ki, rfl, _, rfl, ?_⟩
      refine ifT rfl ?_
      refine ⟨_, rfl, (by show 2 ≤ sizeLine; decide), fun t2 nt2 => ⟨_, _, _, _, _, _, rfl, upd_same, cls2 _ _, ty _, kit2 ki ks, _, rfl, ?_⟩⟩
      refine ifT rfl ?_
      refine ⟨_, rfl, _, rfl, rfl, ?_⟩
      rw [decide_eq_true rfl]
      exact k _ ((same_new nt1 _).trans (same_new nt2 _))
    | list ds =>
      have hd' : PyData.depthAll ds < n := by simp only [PyData.depth] at hd; omega
      have kb : kitB "list" "bool" = some false := by decide +kernel
      have ki : kitB "list" "int" = some false := by decide +kernel
      have ks : kitB "list" "str" = some false := by decide +kernel
      have kl : kitB "list" "list" = some true := by decide +kernel
      have kt : kitB "list" "tuple" = some false := by decide +kernel
      cases hx with
      | @lst a xs _ sx ax =>
      cases hy with
      | @lst b ys _ sy ay =>
      have lx := dpAll_len ax
      have ly := dpAll_len ay
      have hm1 : ds.length ≤ 100000 := by simp only [mxl] at hm; omega
      have hm2 : mxlAll ds ≤ 100000 := by simp only [mxl] at hm; omega
      have hsl := sizeLine_eq
      refine ⟨_, rfl, rfl, _, rfl, ?_⟩
      refine ifF (by simp) ?_
      refine ⟨_, rfl, _, _, _, _, false, rfl, .ty _, tyx_list sy, kit_ty kb, _, rfl, ?_⟩
      refine ifF (by simp) ?_
      refine ⟨_, rfl, _, _, _, _, false, rfl, .ty _, tyx_list sx, kit_ty kb, _, rfl, ?_⟩
      refine ifF (by simp) ?_
      refine ⟨_, rfl, (by show 2 ≤ sizeLine; decide), fun t1 nt1 => ⟨_, _, _, _, _, _, rfl, upd_same, cls2 _ _, tyx_list ((same_new nt1 _).seq sy), kit2 ki ks, _, rfl, ?_⟩⟩
      refine ifF (by simp) ?_
      have s1 := same_new nt1 (.tup [.ty "int", .ty "str"])
      have sx1 := s1.seq sx
      have sy1 := s1.seq sy
      refine ⟨_, rfl, _, _, _, _, true, rfl, .ty _, tyx_list sx1, kit_ty kl, _, rfl, _, _, _, _, true, rfl, .ty _, tyx_list sy1, kit_ty kl, rfl, _, rfl, ?_⟩
      refine ifF (by simp) ?_
      refine ⟨_, rfl, _, _, _, _, false, rfl, .ty _, tyx_list sx1, kit_ty kt, _, rfl, _, _, _, _, false, rfl, .ty _, tyx_list sy1, kit_ty kt, rfl, _, rfl, ?_⟩
      refine ifF (by simp) ?_
      refine ⟨_, rfl, _, _, rfl, .inl sx1, _, rfl, _, _, rfl, .inl sy1, rfl, _, rfl, ?_⟩
      refine ifT (by simp [lx, ly]) ?_
      refine ⟨_, rfl, _, _, rfl, .inl sy1, _, rfl, (by omega), (by omega), fun D hD => ?_⟩
      generalize upd H t1 (HO.tup [V.ty "int", V.ty "str"]) = H1 at *
      refine lc_range (lo := 0) (n := ((ys.length : Nat) : Int).toNat) (fun i H2 => Same H1 H2 ∧ H2 D = some (.lst (List.replicate i (V.bl true)))) ⟨same_new hD _, upd_same⟩ ?_ ?_
      · rintro i H2 hi ⟨s2, e2⟩
        have hi' : i < ds.length := by omega
        have ed : ds[i]? = some ds[i] := List.getElem?_eq_getElem hi'
        obtain ⟨v, ev, dv⟩ := dpAll_get ax ed
        obtain ⟨u, eu, du⟩ := dpAll_get ay ed
        have nd : (ds[i]).depth < n := Nat.lt_of_le_of_lt (depth_get ed) hd'
        refine ⟨rfl, ?_⟩
        unfold tYes
        refine ifT rfl ?_
        refine ⟨_, rfl, _, rfl, .inl ⟨_, _, _, _, rfl, rfl, s2.seq sx1, at_of (by simp) ev, _, rfl, _, rfl, .inl ⟨_, _, _, _, rfl, rfl, s2.seq sy1, at_of (by simp) eu, _, _, _, rfl, dp_same (s1.trans s2) _ _ dv, dp_same (s1.trans s2) _ _ du, nd, Nat.le_trans (mxl_get ed) hm2, fun H3 s3 => ?_⟩⟩⟩
        refine ⟨_, s3 _ _ e2, (by rw [List.length_replicate]; omega), ?_, ?_⟩
        · intro b' o q
          rw [upd_ne (ne_of_none q hD)]
          exact s3 _ _ (s2 _ _ q)
        · rw [upd_same, rep_succ]
      · rintro H2 ⟨s2, e2⟩
        refine ⟨_, List.replicate ys.length true, rfl, SqL.of (by rw [e2, ← rep_bl]; simp), ?_⟩
        rw [rep_all]
        exact k _ (s1.trans s2)
    | tuple ds =>
      have hd' : PyData.depthAll ds < n := by simp only [PyData.depth] at hd; omega
      have kb : kitB "tuple" "bool" = some false := by decide +kernel
      have ki : kitB "tuple" "int" = some false := by decide +kernel
      have ks : kitB "tuple" "str" = some false := by decide +kernel
      have kl : kitB "tuple" "list" = some false := by decide +kernel
      have kt : kitB "tuple" "tuple" = some true := by decide +kernel
      cases hx with
      | @tup a xs _ sx ax =>
      cases hy with
      | @tup b ys _ sy ay =>
      have lx := dpAll_len ax
      have ly := dpAll_len ay
      have hm1 : ds.length ≤ 100000 := by simp only [mxl] at hm; omega
      have hm2 : mxlAll ds ≤ 100000 := by simp only [mxl] at hm; omega
      have hsl := sizeLine_eq
      refine ⟨_, rfl, rfl, _, rfl, ?_⟩
      refine ifF (by simp) ?_
      refine ⟨_, rfl, _, _, _, _, false, rfl, .ty _, tyx_tuple sy, kit_ty kb, _, rfl, ?_⟩
      refine ifF (by simp) ?_
      refine ⟨_, rfl, _, _, _, _, false, rfl, .ty _, tyx_tuple sx, kit_ty kb, _, rfl, ?_⟩
      refine ifF (by simp) ?_
      refine ⟨_, rfl, (by show 2 ≤ sizeLine; decide), fun t1 nt1 => ⟨_, _, _, _, _, _, rfl, upd_same, cls2 _ _, tyx_tuple (Same.tup (same_new nt1 _) sy), kit2 ki ks, _, rfl, ?_⟩⟩
      refine ifF (by simp) ?_
      have s1 := same_new nt1 (.tup [.ty "int", .ty "str"])
      have sx1 := Same.tup s1 sx
      have sy1 := Same.tup s1 sy
      refine ⟨_, rfl, _, _, _, _, false, rfl, .ty _, tyx_tuple sx1, kit_ty kl, _, rfl, _, _, _, _, false, rfl, .ty _, tyx_tuple sy1, kit_ty kl, rfl, _, rfl, ?_⟩
      refine ifF (by simp) ?_
      refine ⟨_, rfl, _, _, _, _, true, rfl, .ty _, tyx_tuple sx1, kit_ty kt, _, rfl, _, _, _, _, true, rfl, .ty _, tyx_tuple sy1, kit_ty kt, rfl, _, rfl, ?_⟩
      refine ifF (by simp) ?_
      refine ⟨_, rfl, _, _, rfl, .inr sx1, _, rfl, _, _, rfl, .inr sy1, rfl, _, rfl, ?_⟩
      refine ifT (by simp [lx, ly]) ?_
      refine ⟨_, rfl, _, _, rfl, .inr sy1, _, rfl, (by omega), (by omega), fun D hD => ?_⟩
      generalize upd H t1 (HO.tup [V.ty "int", V.ty "str"]) = H1 at *
      refine lc_range (lo := 0) (n := ((ys.length : Nat) : Int).toNat) (fun i H2 => Same H1 H2 ∧ H2 D = some (.lst (List.replicate i (V.bl true)))) ⟨same_new hD _, upd_same⟩ ?_ ?_
      · rintro i H2 hi ⟨s2, e2⟩
        have hi' : i < ds.length := by omega
        have ed : ds[i]? = some ds[i] := List.getElem?_eq_getElem hi'
        obtain ⟨v, ev, dv⟩ := dpAll_get ax ed
        obtain ⟨u, eu, du⟩ := dpAll_get ay ed
        have nd : (ds[i]).depth < n := Nat.lt_of_le_of_lt (depth_get ed) hd'
        refine ⟨rfl, ?_⟩
        unfold tYes
        refine ifT rfl ?_
        refine ⟨_, rfl, _, rfl, .inr (.inl ⟨_, _, _, _, rfl, rfl, Same.tup s2 sx1, at_of (by simp) ev, _, rfl, _, rfl, .inr (.inl ⟨_, _, _, _, rfl, rfl, Same.tup s2 sy1, at_of (by simp) eu, _, _, _, rfl, dp_same (s1.trans s2) _ _ dv, dp_same (s1.trans s2) _ _ du, nd, Nat.le_trans (mxl_get ed) hm2, fun H3 s3 => ?_⟩)⟩)⟩
        refine ⟨_, s3 _ _ e2, (by rw [List.length_replicate]; omega), ?_, ?_⟩
        · intro b' o q
          rw [upd_ne (ne_of_none q hD)]
          exact s3 _ _ (s2 _ _ q)
        · rw [upd_same, rep_succ]
      · rintro H2 ⟨s2, e2⟩
        refine ⟨_, List.replicate ys.length true, rfl, SqL.of (by rw [e2, ← rep_bl]; simp), ?_⟩
        rw [rep_all]
        exact k _ (s1.trans s2)
theorem same_all (F : Fun K "_law_same" "_law_same" s_same f fd) (T : Tx K mg C cN cM cS cF cG tG tM tQ tR) (b : Binds K fd ["_law_found", "_law_due"] []) (m : mg "_law_same" = some (.ref f)) (kp : PySem.W.keepIn K (.ref f) = true) :
    ∀ n : Nat, Dn P w K mg base CX0 n "_law_same" ["_law_found", "_law_due"] (spSame K n)
  | 0 => ⟨f, fd, same_none, m, kp, b⟩
  | n + 1 => ⟨f, fd, ok_same F T (same_all F T b m kp n), m, kp, b⟩
end
end K05

set_option Elab.async false
set_option linter.all false
set_option maxRecDepth 100000
set_option maxHeartbeats 4000000
namespace K05
open PySem L2 Gs
section
variable {P : Program} {w : World} {K : PySem.W.Frag} {mg : Str → Option Value} {base : Heap} {f : Addr} {fd : FuncData} {C cN cM cS cF cG : Addr} {tG tM tQ tR : Tok}
abbrev s_Sizes_keep : Stmt := inClass (top 17) 12
theorem sc_Sizes_keep : FnScope ["self", "number", "own", "hidden"] ["self", "number", "own", "hidden"] (defScope s_Sizes_keep) := ⟨rfl, rfl, rfl, by decide +kernel, rfl, by decide +kernel, by decide +kernel⟩
theorem ok_keep (F : Fun K "keep" "Sizes.keep" s_Sizes_keep f fd) (T : Tx K mg C cN cM cS cF cG tG tM tQ tR)  : FnOk P w K mg base (L2.CX P w) 1 f fd ["self", "number", "own", "hidden"] (spKeep C cF) := by
  refine F.okX sc_Sizes_keep (fun vs H Q E h => ?_) (fun cdv A outer s H vs Q E hr h => ?_)
  · obtain ⟨p, d, z, i, own, hid, rfl, _⟩ := h
    rfl
  · obtain ⟨p, d, z, i, own, hid, rfl, S, hi, o0, o1, k1, k2⟩ := h
    have hu := hu_of hr
    obtain ⟨dx, kvs, h1, h2, h3, W⟩ := id S
    have npd : p ≠ d := ne_of h1 h2 (by intro e; cases e)
    refine ⟨_, (C8.pss_cut (ps_if (PW.pt (pw_and (pt_cmpR op_eq (pv 2) (pe_fld (pv 0) rfl) (nomark _)) (pw_and1 (pt_not (pt_val (pv 3)))))) (pss_cons (ps_expr (pe_dpop2 (pe_fld (pv 0) rfl) (pv 1) pe_non ⟨rfl, rfl, rfl, rfl⟩))
        (pss_one ps_retN)) pss_nil)
      (C8.pss_cut (ps_if (PW.pt (pw_and (pt_cmp (pc_dnotin hu (pv 1) (pe_fld (pv 0) rfl))) (pw_and1 (pt_cmpR op_ge (pe_callB call_lenD (by rfl) T.no_len (by decide +kernel) (pa_cons (pe_fld (pv 0) rfl) pa_nil)) (glI (by rfl) T.mg_MOST_ODD) (nomark _))))) (pss_one (ps_raise rfl (takes_of rfl rfl rfl rfl) (SkE.pmk_own1 PySem.F.excBase_ValueError T.x_Full.ex T.x_Full.g T.x_Full.kp (raises_own T.x_Full.b T.x_Full.t) (by rfl) (pe_joined (.cons (pe_fmt (glI (by rfl) T.mg_MOST_ODD)) (.cons pe_str .nil)))))) pss_nil)
      (pss_one (ps_dput hu (pe_fld (pv 0) rfl) (pv 1) (pe_tup (pa_cons (pv 2) (pa_cons (pv 3) pa_nil))) rfl)))), ?_⟩
    refine ⟨fun σ H' => σ = start ["self", "number", "own", "hidden"] [.ref p, .int i, .int own, .bl hid] ∧ H = H' ∧ ¬ (own = z.common ∧ hid = false), ?_, ?_⟩
    · refine ⟨_, rfl, _, rfl, p, C, dx, _, _, rfl, h1, T.cl, T.n_common, fz_common _ _ _, rfl, _, rfl, ?_⟩
      refine ite2 (fun c => ?_) (fun c => ?_)
      · have c' : own = z.common := by have := of_decide_eq_true c; injection this
        refine ⟨_, rfl, _, rfl, ?_⟩
        refine ite2 (fun g => ?_) (fun g => ?_)
        · have g' : hid = false := by cases hid <;> simp_all
          have full : ¬ fullM z i own hid := fun q => q.1 ⟨c', g'⟩
          refine ⟨_, rfl, p, C, dx, _, _, rfl, h1, T.cl, T.n_odd, fz_odd _ _ _, d, rfl, .inl ⟨kvs, .inl h2⟩, _, rfl, kvs, Sum.inl i, h2, rfl, pop_both (z := .non) h2 fun v => ?_⟩
          refine k1 full _ (Frm.upd _) ⟨dx, _, (by rw [upd_ne npd]; exact h1), upd_same, ?_, keep_wf W hi o0 o1 full⟩
          have e : (keepM z i own hid).odd = dropO z.odd i := by unfold keepM; simp only [if_pos (show own = z.common ∧ hid = false from ⟨c', g'⟩)]
          rw [e]
          exact (h3.mono (TupSame.upd h2 (fun xs e => by cases e) _)).drop i
        · exact ⟨rfl, rfl, fun q => g (by rw [q.2]; rfl)⟩
      · refine ifF (by simp) ?_
        exact ⟨rfl, rfl, fun q => c (decide_eq_true (congrArg V.int q.1))⟩
    rintro σ H' ⟨rfl, rfl, nc⟩
    refine ⟨fun σ H' => σ = start ["self", "number", "own", "hidden"] [.ref p, .int i, .int own, .bl hid] ∧ H = H' ∧ ¬ fullM z i own hid, ?_, ?_⟩
    · refine ⟨_, rfl, _, rfl, p, C, dx, _, _, rfl, h1, T.cl, T.n_odd, fz_odd _ _ _, d, _, rfl, .inl ⟨kvs, Sum.inl i, .inl h2, rfl, rfl⟩, _, rfl, ?_⟩
      refine ite2 (fun c => ?_) (fun c => ?_)
      · have c' : look z.odd i = none := by
          rcases h3.look i with ⟨e1, e2⟩ | ⟨u, x, e1, e2, e3⟩
          · exact e2
          · rw [e1] at c; cases c
        refine ⟨_, rfl, p, C, dx, _, _, rfl, h1, T.cl, T.n_odd, fz_odd _ _ _, d, kvs, rfl, h2, _, _, rfl, rfl, _, rfl, ?_⟩
        refine ite2 (fun g => ?_) (fun g => ?_)
        · have g' : (60 : Int) ≤ (kvs.length : Int) := of_decide_eq_true g
          rw [h3.len] at g'
          refine .inr ⟨_, rfl, by decide, _, rfl, ?_, _, rfl, ?_, k2 ⟨nc, c', by omega⟩⟩
          · exact small (by decide +kernel)
          · exact small (by decide +kernel)
        · have g' : ¬ (60 : Int) ≤ (kvs.length : Int) := fun q => g (decide_eq_true q)
          rw [h3.len] at g'
          exact ⟨rfl, rfl, fun q => g' (by have := q.2.2; omega)⟩
      · refine ifF (by simp) ?_
        refine ⟨rfl, rfl, fun q => c ?_⟩
        rcases h3.look i with ⟨e1, e2⟩ | ⟨u, x, e1, e2, e3⟩
        · rw [e1]; rfl
        · rw [q.2.1] at e2; cases e2
    rintro σ H' ⟨rfl, rfl, nf⟩
    refine ⟨_, rfl, _, rfl, (by show 2 ≤ sizeLine; decide), fun t ht => ?_⟩
    have s1 := same_new ht (.tup [.int own, .bl hid])
    have h21 := s1 _ _ h2
    have le := W.le
    refine ⟨_, rfl, p, C, dx, _, _, rfl, s1 _ _ h1, T.cl, T.n_odd, fz_odd _ _ _, _, rfl, d, _, rfl, .inl ⟨kvs, Sum.inl i, h21, rfl, Nat.lt_of_le_of_lt (by rw [h3.len]; exact le) (show 60 < sizeLine by decide), rfl⟩, ?_⟩
    have ts : TupSame (upd H t (.tup [.int own, .bl hid])) (upd (upd H t (.tup [.int own, .bl hid])) d (.dK (putK kvs (Sum.inl i) (.ref t)))) := TupSame.upd h21 (fun xs e => by cases e) _
    refine k1 nf _ ((Frm.of s1).trans (Frm.upd _)) ⟨dx, _, (by rw [upd_ne npd]; exact s1 _ _ h1), upd_same, ?_, keep_wf W hi o0 o1 nf⟩
    have e : (keepM z i own hid).odd = putO z.odd i (own, hid) := by unfold keepM; simp only [if_neg nc]
    rw [e]
    exact ((h3.mono (TupSame.of s1)).mono ts).put (ts _ _ upd_same)
abbrev s_Sizes_give : Stmt := inClass (top 17) 13
theorem sc_Sizes_give : FnScope ["self", "number", "size", "hidden"] ["self", "number", "size"] (defScope s_Sizes_give) := ⟨rfl, rfl, rfl, by decide +kernel, rfl, by decide +kernel, by decide +kernel⟩
theorem ok_give (F : Fun K "give" "Sizes.give" s_Sizes_give f fd) (T : Tx K mg C cN cM cS cF cG tG tM tQ tR) (D_check_size : Dn P w K mg base (L2.CX P w) 1 "check_size" ["size"] (spCS cS)) (M_own : Mn P w K mg base (L2.CX P w) 3 C "own" ["self", "number"] (spOwn C cN)) (M_hidden : Mn P w K mg base (L2.CX P w) 3 C "hidden" ["self", "number"] (spHid C cN)) (M_keep : Mn P w K mg base (L2.CX P w) 1 C "keep" ["self", "number", "own", "hidden"] (spKeep C cF)) : FnOk P w K mg base (L2.CX P w) 4 f fd ["self", "number", "size"] (spGive C cN cS cF) := by
  refine F.okX sc_Sizes_give (fun vs H Q E h => ?_) (fun cdv A outer s H vs Q E hr h => ?_)
  · obtain ⟨p, d, z, i, size, rfl, _⟩ := h
    rfl
  · obtain ⟨p, d, z, i, size, rfl, S, hi, hs, k1, k2, k3, k4⟩ := h
    obtain ⟨dx, kvs, h1, h2, h3, W⟩ := id S
    refine ⟨_, (pss_cons (ps_set (i := 3) sc_Sizes_give.nd rfl (.inl rfl) (pe_methD T.cl M_hidden (hr.mono (by omega)) (passes_call (takes_of rfl rfl rfl rfl) (fun _ _ _ _ h => h)) (pv 0) (pa_cons (pv 1) pa_nil)))
      (pss_cons (ps_expr (pe_callD D_check_size (hr.mono (by omega)) (by rfl) (passes_call (takes_of rfl rfl rfl rfl) (fun _ _ _ _ h => h)) (pa_cons (pv 2) pa_nil)))
      (pss_one (ps_expr (pe_methD T.cl M_keep (hr.mono (by omega)) (passes_call (takes_of rfl rfl rfl rfl) (fun _ _ _ _ h => h)) (pv 0) (pa_cons (pv 1) (pa_cons (pv 2) (pa_cons (pv 3) pa_nil)))))))), ?_⟩
    refine ⟨_, rfl, p, dx, _, rfl, h1, fz_no _ _ _, _, rfl, p, d, z, i, rfl, S.r, hi, fun yes H1 s1 => ?_, k2⟩
    refine ⟨_, rfl, size, rfl, hs, fun ys => ?_, fun no => k3 yes no H1 s1⟩
    refine ⟨_, rfl, p, dx, _, rfl, s1 _ _ h1, fz_no _ _ _, _, rfl, _, rfl, _, rfl, p, d, z, i, size, _, rfl, S.same s1, yes, ys.1, ys.2, fun nf H' fr S' => ?_, fun fu => k4 yes ys.1 ys.2 fu H1 s1⟩
    exact k1 yes ys.1 ys.2 nf H' ((Frm.of s1).trans fr) S'
abbrev s_Sizes_hide : Stmt := inClass (top 17) 15
theorem sc_Sizes_hide : FnScope ["self", "number"] ["self", "number"] (defScope s_Sizes_hide) := ⟨rfl, rfl, rfl, by decide +kernel, rfl, by decide +kernel, by decide +kernel⟩
theorem ok_hide (F : Fun K "hide" "Sizes.hide" s_Sizes_hide f fd) (T : Tx K mg C cN cM cS cF cG tG tM tQ tR) (M_own : Mn P w K mg base (L2.CX P w) 3 C "own" ["self", "number"] (spOwn C cN)) (M_hidden : Mn P w K mg base (L2.CX P w) 3 C "hidden" ["self", "number"] (spHid C cN)) (M_keep : Mn P w K mg base (L2.CX P w) 1 C "keep" ["self", "number", "own", "hidden"] (spKeep C cF)) : FnOk P w K mg base (L2.CX P w) 4 f fd ["self", "number"] (spTo C cN cF gHide) := by
  refine F.okX sc_Sizes_hide (fun vs H Q E h => ?_) (fun cdv A outer s H vs Q E hr h => ?_)
  · obtain ⟨p, d, z, i, rfl, _⟩ := h
    rfl
  · obtain ⟨p, d, z, i, rfl, S, hi, k1, k2, k3⟩ := h
    obtain ⟨dx, kvs, h1, h2, h3, W⟩ := id S
    have rg := st_range W i
    refine ⟨_, (pss_one (ps_expr (pe_methD T.cl M_keep (hr.mono (by omega)) (passes_call (takes_of rfl rfl rfl rfl) (fun _ _ _ _ h => h)) (pv 0) (pa_cons (pv 1) (pa_cons (pe_methD T.cl M_own (hr.mono (by omega)) (passes_call (takes_of rfl rfl rfl rfl) (fun _ _ _ _ h => h)) (pv 0) (pa_cons (pv 1) pa_nil)) (pa_cons pe_bl pa_nil)))))), ?_⟩
    refine ⟨_, rfl, p, dx, _, rfl, h1, fz_no _ _ _, _, rfl, _, rfl, p, dx, _, rfl, h1, fz_no _ _ _, _, rfl, p, d, z, i, rfl, S.r, hi, fun yes H1 s1 => ?_, k2⟩
    refine ⟨p, d, z, i, _, _, rfl, S.same s1, yes, rg.1, rg.2, fun nf H' fr S' => ?_, fun fu => k3 yes fu H1 s1⟩
    exact k1 yes nf H' ((Frm.of s1).trans fr) S'
abbrev s_Sizes_put : Stmt := inClass (top 17) 17
theorem sc_Sizes_put : FnScope ["self", "number", "many", "moved", "old"] ["self", "number", "many"] (defScope s_Sizes_put) := ⟨rfl, rfl, rfl, by decide +kernel, rfl, by decide +kernel, by decide +kernel⟩
theorem ok_put (F : Fun K "put" "Sizes.put" s_Sizes_put f fd) (T : Tx K mg C cN cM cS cF cG tG tM tQ tR) (D_check_number : Dn P w K mg base (L2.CX P w) 1 "check_number" ["number", "count"] (spNum cN)) : FnOk P w K mg base (L2.CX P w) 2 f fd ["self", "number", "many"] (spPut C cN cM) := by
  refine F.okX sc_Sizes_put (fun vs H Q E h => ?_) (fun cdv A outer s H vs Q E hr h => ?_)
  · obtain ⟨p, d, z, i, n, rfl, _⟩ := h
    rfl
  · obtain ⟨p, d, z, i, n, rfl, S, hi, hn, big, k1, k2, k3⟩ := h
    have hu := hu_of hr
    obtain ⟨dx, kvs, h1, h2, h3, W⟩ := id S
    have W' := W
    obtain ⟨m0, m1, c0, c1, nd, le, ok⟩ := W'
    have npd : p ≠ d := ne_of h1 h2 (by intro e; cases e)
    refine ⟨_, (pss_cons (ps_expr (pe_callD D_check_number (hr.mono (by omega)) (by rfl) (passes_call (takes_of rfl rfl rfl rfl) (fun _ _ _ _ h => h)) (pa_cons (pv 1) (pa_cons (pe_op op_add (pe_fld (pv 0) rfl) pe_int) pa_nil))))
      (C8.pss_cut (ps_if (PW.pt (pw_or (pt_cmpR op_lt (pv 2) pe_int (nomark _)) (pw_or1 (pt_cmpR op_gt (pv 2) (glI (by rfl) T.mg_MOST_PUT) (nomark _))))) (pss_one (ps_raise rfl (takes_of rfl rfl rfl rfl) (SkE.pmk_own1 PySem.F.excBase_ValueError T.x_BadMany.ex T.x_BadMany.g T.x_BadMany.kp (raises_own T.x_BadMany.b T.x_BadMany.t) (by rfl) (pe_joined (.cons (pe_fmt (pv 2)) (.cons pe_str (.cons (pe_fmt (glI (by rfl) T.mg_MOST_PUT)) .nil))))))) pss_nil)
      (pss_cons (ps_set (i := 3) sc_Sizes_put.nd rfl (.inl rfl) pe_dnewK)
      (pss_cons (ps_lock (ps_for (passes_of rfl) rfl (pi_keys (pe_fld (pv 0) rfl)) (pg_name (i := 4) sc_Sizes_put.nd rfl (.inl rfl))
        (pss_one (ps_dput hu (pv 3) (pe_ifExp (pt_cmpR op_lt (pv 4) (pv 1) (nomark _)) (pv 4) (pe_op op_add (pv 4) (pv 2))) (pe_dget hu (pe_fld (pv 0) rfl) (pv 4) (fun _ _ => rfl)) rfl))))
      (pss_cons (ps_fld (pv 0) (pv 3) rfl)
      (pss_one (ps_fldaug (pv 0) (pv 2) in_add))))))), ?_⟩
    refine ⟨_, rfl, _, rfl, p, C, dx, _, _, rfl, h1, T.cl, T.n_many, fz_many _ _ _, _, _, rfl, rfl, i, z.many + 1, rfl, hi, Sm.of (by omega) (by omega), fun yes => ?_, fun no => k2 (fun y => no (by omega))⟩
    have yes' : 0 ≤ i ∧ i ≤ z.many := by omega
    have bad : ¬ goodP n → tJs [tFmt (tVar 2), tC (.str " is no count from 1 to "), tFmt (tC (.int 1000))] Str.empty (start ["self", "number", "many", "moved", "old"] [.ref p, .int i, .int n]) H fun _ H1 => E (.ref cM) none H1 := fun no => by
      have l1 := hn.len
      refine ⟨_, rfl, .inr ⟨_, rfl, hn.log, _, rfl, ?_, _, rfl, ?_, .inr ⟨_, rfl, by decide, _, rfl, ?_, k3 yes' no⟩⟩⟩
      · exact small (by rw [PySem.Str.length_append]; show 0 + _ ≤ 1000; omega)
      · exact small (by rw [PySem.Str.length_append, PySem.Str.length_append]; show 0 + _ + 23 ≤ 1000; omega)
      · exact small (by rw [PySem.Str.length_append, PySem.Str.length_append, PySem.Str.length_append]; show 0 + _ + 23 + 4 ≤ 1000; omega)
    refine ⟨fun σ H' => σ = start ["self", "number", "many", "moved", "old"] [.ref p, .int i, .int n] ∧ H = H' ∧ goodP n, ?_, ?_⟩
    · refine ⟨_, rfl, _, _, rfl, rfl, _, rfl, ?_⟩
      refine ite2 (fun c => ?_) (fun c => ?_)
      · have c' : n < 1 := of_decide_eq_true c
        exact ifT rfl (bad (fun y => by have := y.1; omega))
      · have c' : ¬ n < 1 := fun q => c (decide_eq_true q)
        refine ⟨_, rfl, _, _, rfl, rfl, _, rfl, ?_⟩
        refine ite2 (fun c2 => ?_) (fun c2 => ?_)
        · have c2' : (1000 : Int) < n := of_decide_eq_true c2
          exact bad (fun y => by have := y.2; omega)
        · have c2' : ¬ (1000 : Int) < n := fun q => c2 (decide_eq_true q)
          exact ⟨rfl, rfl, by omega, by omega⟩
    rintro σ H' ⟨rfl, rfl, good⟩
    refine fun m nm => ?_
    have s1 := same_new nm (.dK [])
    have e1 : upd H m (.dK []) m = some (.dK []) := upd_same
    generalize upd H m (.dK []) = H1 at s1 e1 ⊢
    have dm : d ≠ m := ne_of_none h2 nm
    have pm : p ≠ m := ne_of_none h1 nm
    refine ⟨d, _, s1 _ _ h2, trivial, fun od => ?_⟩
    obtain ⟨HL, eL⟩ : ∃ HL, HL = upd H1 d (.frz od (.dK kvs)) := ⟨_, rfl⟩
    have hLd : HL d = some (.frz od (.dK kvs)) := by rw [eL]; exact upd_same
    have hLp : HL p = some (.ins C dx (fldZ z.many z.common d)) := by rw [eL, upd_ne npd]; exact s1 _ _ h1
    have hLm : HL m = some (.dK []) := by rw [eL, upd_ne dm.symm]; exact e1
    have tsL : TupSame H HL := (TupSame.of s1).trans (by rw [eL]; exact TupSame.upd (s1 _ _ h2) (fun xs e => by cases e) _)
    rw [← eL]
    refine ⟨_, rfl, p, C, dx, _, _, rfl, hLp, T.cl, T.n_odd, fz_odd _ _ _, d, od, rfl, .inl ⟨kvs, hLd, ?_⟩⟩
    refine for_it walk_keys (fun j σ H' => Frm m HL H' ∧ (∃ x4, σ = [some (.ref p), some (.int i), some (.int n), some (.ref m), x4]) ∧ ∃ kws, H' m = some (.dK kws) ∧ OddAt H' kws (movO (fPut i n) (z.odd.take j))) ⟨fun b o _ q => q, ⟨_, rfl⟩, [], hLm, .nil⟩ (fun j σ H' _ q => q.1 _ _ dm hLd) ?_ ?_
    · rintro j y σ H2 _ hj ⟨f2, ⟨x4, rfl⟩, kws, hm, om⟩ ⟨eH, kk, vv, ekv, rfl⟩
      rw [eH]
      obtain ⟨e, ee, eq1⟩ := h3.at_ ekv
      subst eq1
      have hin := ok e (List.mem_of_getElem? ee)
      obtain ⟨t, x, v1, v2, v3⟩ : ∃ t x, valV kvs (Sum.inl e.1) = some (.ref t) ∧ look z.odd e.1 = some x ∧ H t = some (.tup [.int x.1, .bl x.2]) := by
        have lk := look_of nd (List.mem_of_getElem? ee)
        rcases h3.look e.1 with ⟨_, b2⟩ | r
        · rw [lk] at b2; cases b2
        · exact r
      rw [look_of nd (List.mem_of_getElem? ee)] at v2
      have vx := Option.some.inj v2
      subst vx
      have tm : ∀ q xs, HL q = some (.tup xs) → q ≠ m := fun q xs r => ne_of r hLm (by intro z; cases z)
      have ht2 : H2 t = some (.tup [.int e.2.1, .bl e.2.2]) := f2 _ _ (tm _ _ (tsL _ _ v3)) (tsL _ _ v3)
      have kl : kws.length < sizeLine := Nat.lt_of_le_of_lt (by rw [om.len]; exact Nat.le_trans (mov_len _ _) (Nat.le_trans (List.length_take_le' _ _) le)) (show 60 < sizeLine by decide)
      have put : ∀ k', fPut i n e.1 = some k' → Frm m HL (upd H2 m (.dK (putK kws (Sum.inl k') (.ref t)))) ∧ ∃ kws', upd H2 m (.dK (putK kws (Sum.inl k') (.ref t))) m = some (.dK kws') ∧ OddAt (upd H2 m (.dK (putK kws (Sum.inl k') (.ref t)))) kws' (movO (fPut i n) (z.odd.take (j + 1))) := fun k' hk => by
        refine ⟨f2.trans (Frm.upd _), _, upd_same, ?_⟩
        have ts : TupSame H2 (upd H2 m (.dK (putK kws (Sum.inl k') (.ref t)))) := TupSame.upd hm (fun xs e => by cases e) _
        exact (om.mono ts).mov (inj_put (by have := good.1; omega)) nd ee hk (ts _ _ ht2)
      refine ⟨_, rfl, p, C, dx, _, _, rfl, f2 _ _ pm hLp, T.cl, T.n_odd, fz_odd _ _ _, _, rfl, d, _, rfl, .inl ⟨kvs, Sum.inl e.1, .inr ⟨od, f2 _ _ dm hLd⟩, rfl, v1.symm⟩, ?_⟩
      refine ⟨_, rfl, _, rfl, _, rfl, _, _, rfl, rfl, _, rfl, ?_⟩
      refine ite2 (fun c => ?_) (fun c => ?_)
      · have c' : e.1 < i := of_decide_eq_true c
        obtain ⟨g1, kws', g2, g3⟩ := put e.1 (by unfold fPut; rw [if_pos c'])
        exact ⟨_, rfl, m, _, rfl, .inl ⟨kws, Sum.inl e.1, hm, rfl, kl, rfl⟩, g1, ⟨_, rfl⟩, kws', g2, g3⟩
      · have c' : ¬ e.1 < i := fun q => c (decide_eq_true q)
        obtain ⟨g1, kws', g2, g3⟩ := put (e.1 + n) (by unfold fPut; rw [if_neg c'])
        exact ⟨_, rfl, _, rfl, _, _, rfl, rfl, m, _, rfl, .inl ⟨kws, Sum.inl (e.1 + n), hm, rfl, kl, rfl⟩, g1, ⟨_, rfl⟩, kws', g2, g3⟩
    rintro σ H2 ⟨f2, ⟨x4, rfl⟩, kws, hm, om⟩
    rw [h3.len, List.take_length] at om
    have h2d := f2 _ _ dm hLd
    refine ⟨h2d, ?_⟩
    have ts3 : TupSame H2 (upd H2 d (.dK kvs)) := TupSame.upd h2d (fun xs e => by cases e) _
    have m3 : upd H2 d (.dK kvs) m = some (.dK kws) := by rw [upd_ne dm.symm]; exact hm
    have p3 : upd H2 d (.dK kvs) p = some (.ins C dx (fldZ z.many z.common d)) := by rw [upd_ne npd]; exact f2 _ _ pm hLp
    have f3 : Frm p H (upd H2 d (.dK kvs)) := fun b o nb q => by
      by_cases hb : b = d
      · subst hb
        rw [h2] at q
        cases q
        exact upd_same
      · rw [upd_ne hb]
        refine f2 _ _ (ne_of_none q nm) ?_
        rw [eL, upd_ne hb]
        exact s1 _ _ q
    have o3 := om.mono ts3
    generalize upd H2 d (.dK kvs) = H3 at m3 p3 f3 o3 ⊢
    refine ⟨_, rfl, _, rfl, p, C, dx, _, rfl, p3, T.cl, T.n_odd, fz_few _ _ _, ?_⟩
    rw [fz_put_odd]
    refine ⟨_, rfl, p, C, dx, _, _, rfl, upd_same, T.cl, T.n_many, fz_many _ _ _, _, rfl, _, _, rfl, rfl, dx, _, upd_same, fz_few _ _ _, ?_⟩
    rw [fz_put_many, upd_upd]
    have tsp : TupSame H3 (upd H3 p (.ins C dx (fldZ (z.many + n) z.common m))) := TupSame.upd p3 (fun xs e => by cases e) _
    exact k1 yes' good m _ nm (f3.trans (Frm.upd _)) ⟨dx, kws, upd_same, (by rw [upd_ne pm.symm]; exact m3), o3.mono tsp, put_wf W yes' good.1 (by have := good.2; omega)⟩
abbrev s_Sizes_cut : Stmt := inClass (top 17) 18
theorem sc_Sizes_cut : FnScope ["self", "number", "many", "behind", "moved", "old"] ["self", "number", "many"] (defScope s_Sizes_cut) := ⟨rfl, rfl, rfl, by decide +kernel, rfl, by decide +kernel, by decide +kernel⟩
theorem ok_cut (F : Fun K "cut" "Sizes.cut" s_Sizes_cut f fd) (T : Tx K mg C cN cM cS cF cG tG tM tQ tR) (D_check_number : Dn P w K mg base (L2.CX P w) 1 "check_number" ["number", "count"] (spNum cN)) : FnOk P w K mg base (L2.CX P w) 2 f fd ["self", "number", "many"] (spCut C cN cM) := by
  refine F.okX sc_Sizes_cut (fun vs H Q E h => ?_) (fun cdv A outer s H vs Q E hr h => ?_)
  · obtain ⟨p, d, z, i, n, rfl, _⟩ := h
    rfl
  · obtain ⟨p, d, z, i, n, rfl, S, hi, hn, k1, k2, k3⟩ := h
    have hu := hu_of hr
    obtain ⟨dx, kvs, h1, h2, h3, W⟩ := id S
    have W' := W
    obtain ⟨m0, m1, c0, c1, nd, le, ok⟩ := W'
    have npd : p ≠ d := ne_of h1 h2 (by intro e; cases e)
    refine ⟨_, (pss_cons (ps_expr (pe_callD D_check_number (hr.mono (by omega)) (by rfl) (passes_call (takes_of rfl rfl rfl rfl) (fun _ _ _ _ h => h)) (pa_cons (pv 1) (pa_cons (pe_fld (pv 0) rfl) pa_nil))))
      (pss_cons (ps_set (i := 3) sc_Sizes_cut.nd rfl (.inl rfl) (pe_op op_add (pv 1) (pv 2)))
      (C8.pss_cut (ps_if (PW.pt (pw_or (pt_cmpR op_lt (pv 2) pe_int (nomark _)) (pw_or (pt_cmpR op_gt (pv 3) (pe_fld (pv 0) rfl) (nomark _)) (pw_or1 (pt_cmpR op_eq (pv 2) (pe_fld (pv 0) rfl) (nomark _)))))) (pss_one (ps_raise rfl (takes_of rfl rfl rfl rfl) (SkE.pmk_own1 PySem.F.excBase_ValueError T.x_BadMany.ex T.x_BadMany.g T.x_BadMany.kp (raises_own T.x_BadMany.b T.x_BadMany.t) (by rfl) (pe_joined (.cons (pe_fmt (pv 2)) (.cons pe_str (.cons (pe_fmt (pv 1)) (.cons pe_str (.cons (pe_fmt (pe_fld (pv 0) rfl)) .nil))))))))) pss_nil)
      (pss_cons (ps_set (i := 4) sc_Sizes_cut.nd rfl (.inl rfl) pe_dnewK)
      (pss_cons (ps_lock (ps_for (passes_of rfl) rfl (pi_keys (pe_fld (pv 0) rfl)) (pg_name (i := 5) sc_Sizes_cut.nd rfl (.inl rfl))
        (pss_one (ps_if (pt_cmpR op_lt (pv 5) (pv 1) (nomark _)) (pss_one (ps_dput hu (pv 4) (pv 5) (pe_dget hu (pe_fld (pv 0) rfl) (pv 5) (fun _ _ => rfl)) rfl)) (pss_one (ps_if (pt_cmpR op_ge (pv 5) (pv 3) (nomark _)) (pss_one (ps_dput hu (pv 4) (pe_op op_sub (pv 5) (pv 2)) (pe_dget hu (pe_fld (pv 0) rfl) (pv 5) (fun _ _ => rfl)) rfl)) pss_nil))))))
      (pss_cons (ps_fld (pv 0) (pv 4) rfl)
      (pss_one (ps_fldaug (pv 0) (pv 2) in_sub)))))))), ?_⟩
    have sm : Sm z.many := Sm.of (by omega) (by omega)
    refine ⟨_, rfl, _, rfl, p, C, dx, _, _, rfl, h1, T.cl, T.n_many, fz_many _ _ _, i, z.many, rfl, hi, sm, fun yes => ?_, k2⟩
    refine ⟨_, rfl, _, rfl, _, _, rfl, rfl, ?_⟩
    have bad : ¬ goodC z i n → tJs [tFmt (tVar 2), tC (.str " things can't be cut out at "), tFmt (tVar 1), tC (.str " of "), tFmt (tFld K (tVar 0) "many")] Str.empty (List.set (start ["self", "number", "many", "behind", "moved", "old"] [.ref p, .int i, .int n]) 3 (some (.int (i + n)))) H fun _ H1 => E (.ref cM) none H1 := fun no => by
      have l1 := hn.len
      have l2 := hi.len
      have l3 := sm.len
      refine ⟨_, rfl, .inr ⟨_, rfl, hn.log, _, rfl, ?_, _, rfl, ?_, _, rfl, .inr ⟨_, rfl, hi.log, _, rfl, ?_, _, rfl, ?_, _, rfl, p, C, dx, _, _, rfl, h1, T.cl, T.n_many, fz_many _ _ _, .inr ⟨_, rfl, sm.log, _, rfl, ?_, k3 yes no⟩⟩⟩⟩
      · exact small (by rw [PySem.Str.length_append]; show 0 + _ ≤ 1000; omega)
      · exact small (by rw [PySem.Str.length_append, PySem.Str.length_append]; show 0 + _ + 28 ≤ 1000; omega)
      · exact small (by rw [PySem.Str.length_append, PySem.Str.length_append, PySem.Str.length_append]; show 0 + _ + 28 + _ ≤ 1000; omega)
      · exact small (by rw [PySem.Str.length_append, PySem.Str.length_append, PySem.Str.length_append, PySem.Str.length_append]; show 0 + _ + 28 + _ + 4 ≤ 1000; omega)
      · exact small (by rw [PySem.Str.length_append, PySem.Str.length_append, PySem.Str.length_append, PySem.Str.length_append, PySem.Str.length_append]; show 0 + _ + 28 + _ + 4 + _ ≤ 1000; omega)
    refine ⟨fun σ H' => σ = List.set (start ["self", "number", "many", "behind", "moved", "old"] [.ref p, .int i, .int n]) 3 (some (.int (i + n))) ∧ H = H' ∧ goodC z i n, ?_, ?_⟩
    · refine ⟨_, rfl, _, _, rfl, rfl, _, rfl, ?_⟩
      refine ite2 (fun c => ?_) (fun c => ?_)
      · have c' : n < 1 := of_decide_eq_true c
        exact ifT rfl (bad (fun y => by have := y.1; omega))
      · have c' : ¬ n < 1 := fun q => c (decide_eq_true q)
        refine ⟨_, rfl, _, rfl, p, C, dx, _, _, rfl, h1, T.cl, T.n_many, fz_many _ _ _, _, _, rfl, rfl, _, rfl, ?_⟩
        refine ite2 (fun c2 => ?_) (fun c2 => ?_)
        · have c2' : z.many < i + n := of_decide_eq_true c2
          exact ifT rfl (bad (fun y => by have := y.2.1; omega))
        · have c2' : ¬ z.many < i + n := fun q => c2 (decide_eq_true q)
          refine ⟨_, rfl, _, rfl, p, C, dx, _, _, rfl, h1, T.cl, T.n_many, fz_many _ _ _, rfl, _, rfl, ?_⟩
          refine ite2 (fun c3 => ?_) (fun c3 => ?_)
          · have c3' : n = z.many := by have := of_decide_eq_true c3; injection this
            exact bad (fun y => y.2.2 c3')
          · have c3' : ¬ n = z.many := fun q => c3 (decide_eq_true (congrArg V.int q))
            exact ⟨rfl, rfl, by omega, by omega, c3'⟩
    rintro σ H' ⟨rfl, rfl, good⟩
    refine fun m nm => ?_
    have s1 := same_new nm (.dK [])
    have e1 : upd H m (.dK []) m = some (.dK []) := upd_same
    generalize upd H m (.dK []) = H1 at s1 e1 ⊢
    have dm : d ≠ m := ne_of_none h2 nm
    have pm : p ≠ m := ne_of_none h1 nm
    refine ⟨d, _, s1 _ _ h2, trivial, fun od => ?_⟩
    obtain ⟨HL, eL⟩ : ∃ HL, HL = upd H1 d (.frz od (.dK kvs)) := ⟨_, rfl⟩
    have hLd : HL d = some (.frz od (.dK kvs)) := by rw [eL]; exact upd_same
    have hLp : HL p = some (.ins C dx (fldZ z.many z.common d)) := by rw [eL, upd_ne npd]; exact s1 _ _ h1
    have hLm : HL m = some (.dK []) := by rw [eL, upd_ne dm.symm]; exact e1
    have tsL : TupSame H HL := (TupSame.of s1).trans (by rw [eL]; exact TupSame.upd (s1 _ _ h2) (fun xs e => by cases e) _)
    rw [← eL]
    refine ⟨_, rfl, p, C, dx, _, _, rfl, hLp, T.cl, T.n_odd, fz_odd _ _ _, d, od, rfl, .inl ⟨kvs, hLd, ?_⟩⟩
    refine for_it walk_keys (fun j σ H' => Frm m HL H' ∧ (∃ x4, σ = [some (.ref p), some (.int i), some (.int n), some (.int (i + n)), some (.ref m), x4]) ∧ ∃ kws, H' m = some (.dK kws) ∧ OddAt H' kws (movO (fCut i n) (z.odd.take j))) ⟨fun b o _ q => q, ⟨_, rfl⟩, [], hLm, .nil⟩ (fun j σ H' _ q => q.1 _ _ dm hLd) ?_ ?_
    · rintro j y σ H2 _ hj ⟨f2, ⟨x4, rfl⟩, kws, hm, om⟩ ⟨eH, kk, vv, ekv, rfl⟩
      rw [eH]
      obtain ⟨e, ee, eq1⟩ := h3.at_ ekv
      subst eq1
      have hin := ok e (List.mem_of_getElem? ee)
      obtain ⟨t, x, v1, v2, v3⟩ : ∃ t x, valV kvs (Sum.inl e.1) = some (.ref t) ∧ look z.odd e.1 = some x ∧ H t = some (.tup [.int x.1, .bl x.2]) := by
        have lk := look_of nd (List.mem_of_getElem? ee)
        rcases h3.look e.1 with ⟨_, b2⟩ | r
        · rw [lk] at b2; cases b2
        · exact r
      rw [look_of nd (List.mem_of_getElem? ee)] at v2
      have vx := Option.some.inj v2
      subst vx
      have tm : ∀ q xs, HL q = some (.tup xs) → q ≠ m := fun q xs r => ne_of r hLm (by intro z; cases z)
      have ht2 : H2 t = some (.tup [.int e.2.1, .bl e.2.2]) := f2 _ _ (tm _ _ (tsL _ _ v3)) (tsL _ _ v3)
      have kl : kws.length < sizeLine := Nat.lt_of_le_of_lt (by rw [om.len]; exact Nat.le_trans (mov_len _ _) (Nat.le_trans (List.length_take_le' _ _) le)) (show 60 < sizeLine by decide)
      have put : ∀ k', fCut i n e.1 = some k' → Frm m HL (upd H2 m (.dK (putK kws (Sum.inl k') (.ref t)))) ∧ ∃ kws', upd H2 m (.dK (putK kws (Sum.inl k') (.ref t))) m = some (.dK kws') ∧ OddAt (upd H2 m (.dK (putK kws (Sum.inl k') (.ref t)))) kws' (movO (fCut i n) (z.odd.take (j + 1))) := fun k' hk => by
        refine ⟨f2.trans (Frm.upd _), _, upd_same, ?_⟩
        have ts : TupSame H2 (upd H2 m (.dK (putK kws (Sum.inl k') (.ref t)))) := TupSame.upd hm (fun xs e => by cases e) _
        exact (om.mono ts).mov (inj_cut (by have := good.1; omega)) nd ee hk (ts _ _ ht2)
      refine ⟨_, rfl, _, rfl, _, _, rfl, rfl, _, rfl, ?_⟩
      refine ite2 (fun c => ?_) (fun c => ?_)
      · have c' : e.1 < i := of_decide_eq_true c
        obtain ⟨g1, kws', g2, g3⟩ := put e.1 (by unfold fCut; rw [if_pos c'])
        refine ⟨_, rfl, p, C, dx, _, _, rfl, f2 _ _ pm hLp, T.cl, T.n_odd, fz_odd _ _ _, _, rfl, d, _, rfl, .inl ⟨kvs, Sum.inl e.1, .inr ⟨od, f2 _ _ dm hLd⟩, rfl, v1.symm⟩, ?_⟩
        exact ⟨_, rfl, _, rfl, m, _, rfl, .inl ⟨kws, Sum.inl e.1, hm, rfl, kl, rfl⟩, g1, ⟨_, rfl⟩, kws', g2, g3⟩
      · have c' : ¬ e.1 < i := fun q => c (decide_eq_true q)
        refine ⟨_, rfl, _, rfl, _, _, rfl, rfl, _, rfl, ?_⟩
        refine ite2 (fun c2 => ?_) (fun c2 => ?_)
        · have c2' : i + n ≤ e.1 := of_decide_eq_true c2
          obtain ⟨g1, kws', g2, g3⟩ := put (e.1 - n) (by unfold fCut; rw [if_neg c', if_pos c2'])
          refine ⟨_, rfl, p, C, dx, _, _, rfl, f2 _ _ pm hLp, T.cl, T.n_odd, fz_odd _ _ _, _, rfl, d, _, rfl, .inl ⟨kvs, Sum.inl e.1, .inr ⟨od, f2 _ _ dm hLd⟩, rfl, v1.symm⟩, ?_⟩
          exact ⟨_, rfl, _, rfl, _, rfl, _, _, rfl, rfl, m, _, rfl, .inl ⟨kws, Sum.inl (e.1 - n), hm, rfl, kl, rfl⟩, g1, ⟨_, rfl⟩, kws', g2, g3⟩
        · have c2' : ¬ i + n ≤ e.1 := fun q => c2 (decide_eq_true q)
          have no : fCut i n e.1 = none := by unfold fCut; rw [if_neg c', if_neg c2']
          refine ⟨f2, ⟨_, rfl⟩, kws, hm, ?_⟩
          rw [mov_snoc ee, no, List.append_nil]
          exact om
    rintro σ H2 ⟨f2, ⟨x4, rfl⟩, kws, hm, om⟩
    rw [h3.len, List.take_length] at om
    have h2d := f2 _ _ dm hLd
    refine ⟨h2d, ?_⟩
    have ts3 : TupSame H2 (upd H2 d (.dK kvs)) := TupSame.upd h2d (fun xs e => by cases e) _
    have m3 : upd H2 d (.dK kvs) m = some (.dK kws) := by rw [upd_ne dm.symm]; exact hm
    have p3 : upd H2 d (.dK kvs) p = some (.ins C dx (fldZ z.many z.common d)) := by rw [upd_ne npd]; exact f2 _ _ pm hLp
    have f3 : Frm p H (upd H2 d (.dK kvs)) := fun b o nb q => by
      by_cases hb : b = d
      · subst hb
        rw [h2] at q
        cases q
        exact upd_same
      · rw [upd_ne hb]
        refine f2 _ _ (ne_of_none q nm) ?_
        rw [eL, upd_ne hb]
        exact s1 _ _ q
    have o3 := om.mono ts3
    generalize upd H2 d (.dK kvs) = H3 at m3 p3 f3 o3 ⊢
    refine ⟨_, rfl, _, rfl, p, C, dx, _, rfl, p3, T.cl, T.n_odd, fz_few _ _ _, ?_⟩
    rw [fz_put_odd]
    refine ⟨_, rfl, p, C, dx, _, _, rfl, upd_same, T.cl, T.n_many, fz_many _ _ _, _, rfl, _, _, rfl, rfl, dx, _, upd_same, fz_few _ _ _, ?_⟩
    rw [fz_put_many, upd_upd]
    have tsp : TupSame H3 (upd H3 p (.ins C dx (fldZ (z.many - n) z.common m))) := TupSame.upd p3 (fun xs e => by cases e) _
    exact k1 yes good m _ nm (f3.trans (Frm.upd _)) ⟨dx, kws, upd_same, (by rw [upd_ne pm.symm]; exact m3), o3.mono tsp, cut_wf W yes.1 good.1 good.2.1 good.2.2⟩
abbrev s_far : Stmt := top 21
theorem sc_far : FnScope ["_law_draw", "_law_number"] ["_law_draw"] (defScope s_far) := ⟨rfl, rfl, rfl, by decide +kernel, rfl, by decide +kernel, by decide +kernel⟩
theorem ok_far (F : Fun K "_law_far" "_law_far" s_far f fd) (T : Tx K mg C cN cM cS cF cG tG tM tQ tR) (D_pick : Dn P w K mg base CX0 1 "_law_pick" ["_law_draw", "_law_many"] spPick) : FnOk P w K mg base CX0 2 f fd ["_law_draw"] spFarB := by
  refine F.ok sc_far (fun vs H Q E h => ?_) (fun cdv A outer s H vs Q E hr h => ?_)
  · obtain ⟨a, rfl, _⟩ := h
    rfl
  · obtain ⟨a, rfl, D0, k⟩ := h
    refine ⟨_, (pss_cons (ps_set (i := 1) sc_far.nd rfl (.inl rfl) (pe_op op_add (pe_op op_add (pe_op op_mul pe_int (pe_op op_pow pe_int pe_int)) (pe_callD D_pick (hr.mono (by omega)) (by rfl) pass0 (pa_cons (pv 0) (pa_cons (pe_op op_pow pe_int pe_int) pa_nil)))) (pe_op op_mul (pe_op op_pow pe_int pe_int) (pe_callD D_pick (hr.mono (by omega)) (by rfl) pass0 (pa_cons (pv 0) (pa_cons pe_int pa_nil))))))
      (pss_one (ps_ret (pe_ix ix_tup (pe_tup (pa_cons (pv 1) (pa_cons (pe_op op_sub pe_int (pv 1)) pa_nil))) (pe_callD D_pick (hr.mono (by omega)) (by rfl) pass0 (pa_cons (pv 0) (pa_cons pe_int pa_nil))) (fun _ _ => rfl))))), ?_⟩
    refine ⟨_, _, rfl, rfl, ⟨by decide, by decide, by decide⟩, _, _, rfl, rfl, .inl ⟨by decide, by decide⟩, _, rfl, _, _, rfl, rfl, ⟨by decide, by decide, by decide⟩, _, _, rfl, D0, by decide, by decide, fun r1 H1 a1 b1 D1 q1 => ?_⟩
    refine ⟨_, _, rfl, rfl, _, _, rfl, rfl, ⟨by decide, by decide, by decide⟩, _, rfl, _, _, rfl, D1, by decide, by decide, fun r2 H2 a2 b2 D2 q2 => ?_⟩
    refine ⟨_, _, rfl, rfl, .inr ⟨by omega, by omega⟩, _, _, rfl, rfl, ?_⟩
    have b1' : r1 < 1000000000 := b1
    obtain ⟨n, en⟩ : ∃ n : Int, n = 2 * 10 ^ Int.toNat 6 + r1 + 10 ^ Int.toNat 29 * r2 := ⟨_, rfl⟩
    have n0 : 1000000 < n := by
      rw [en, show (10 : Int) ^ Int.toNat 6 = 1000000 from by decide, show (10 : Int) ^ Int.toNat 29 = 100000000000000000000000000000 from by decide]
      omega
    have n1 : n ≤ 10 ^ 40 := by
      rw [en, show (10 : Int) ^ Int.toNat 6 = 1000000 from by decide, show (10 : Int) ^ Int.toNat 29 = 100000000000000000000000000000 from by decide]
      omega
    show gName 1 (V.int (2 * 10 ^ Int.toNat 6 + r1 + 10 ^ Int.toNat 29 * r2)) _ _ _
    rw [← en]
    refine ⟨_, rfl, _, rfl, _, _, rfl, rfl, (by show 2 ≤ sizeLine; decide), fun t ht => ?_⟩
    have s3 := same_new ht (.tup [.int n, .int (0 - n)])
    refine ⟨_, rfl, _, _, rfl, D2.same s3, by decide, by decide, fun r3 H3 a3 b3 D3 q3 => ?_⟩
    have x3 : Gs.Ext a H H3 := ((Ext.pick D1 q1).trans ((Ext.pick D2 q2).same s3)).trans (Ext.pick D3 q3)
    have ht3 : H3 t = some (.tup [.int n, .int (0 - n)]) := (Ext.pick D3 q3).tup (D2.same s3) upd_same
    have : r3 = 0 ∨ r3 = 1 := by omega
    rcases this with rfl | rfl
    · exact ⟨t, _, _, _, rfl, rfl, SqT.of ht3, atI_nat (j := 0) rfl, k n H3 ⟨by omega, n1⟩ (.inr n0) x3⟩
    · exact ⟨t, _, _, _, rfl, rfl, SqT.of ht3, atI_nat (j := 1) rfl, k (0 - n) H3 ⟨by omega, by omega⟩ (.inl (by omega)) x3⟩
abbrev s_near : Stmt := top 22
theorem sc_near : FnScope ["_law_draw", "_law_many", "_law_odd"] ["_law_draw", "_law_many"] (defScope s_near) := ⟨rfl, rfl, rfl, by decide +kernel, rfl, by decide +kernel, by decide +kernel⟩
theorem ok_near (F : Fun K "_law_near" "_law_near" s_near f fd) (T : Tx K mg C cN cM cS cF cG tG tM tQ tR) (D_pick : Dn P w K mg base CX0 1 "_law_pick" ["_law_draw", "_law_many"] spPick) (D_far : Dn P w K mg base CX0 2 "_law_far" ["_law_draw"] spFarB) : FnOk P w K mg base CX0 3 f fd ["_law_draw", "_law_many"] spNear := by
  refine F.ok sc_near (fun vs H Q E h => ?_) (fun cdv A outer s H vs Q E hr h => ?_)
  · obtain ⟨a, many, rfl, _⟩ := h
    rfl
  · obtain ⟨a, many, rfl, D0, m0, m1, k⟩ := h
    refine ⟨_, (pss_cons (ps_set (i := 2) sc_near.nd rfl (.inl rfl) (pe_tup (pa_cons (pe_callD D_far (hr.mono (by omega)) (by rfl) pass0 (pa_cons (pv 0) pa_nil)) (pa_cons (pe_op op_sub pe_int pe_int) (pa_cons (pv 1) (pa_cons (pe_op op_add (pv 1) pe_int) pa_nil))))))
      (pss_one (ps_ret (pe_ifExp (pt_cmpR op_eq (pe_callD D_pick (hr.mono (by omega)) (by rfl) pass0 (pa_cons (pv 0) (pa_cons pe_int pa_nil))) pe_int (nomark _)) (pe_ix ix_tup (pv 2) (pe_callD D_pick (hr.mono (by omega)) (by rfl) pass0 (pa_cons (pv 0) (pa_cons pe_int pa_nil))) (fun _ _ => rfl)) (pe_callD D_pick (hr.mono (by omega)) (by rfl) pass0 (pa_cons (pv 0) (pa_cons (pe_callB (call_max2 rfl) (by rfl) T.no_max (by decide +kernel) (pa_cons pe_int (pa_cons (pv 1) pa_nil))) pa_nil))))))), ?_⟩
    refine ⟨_, rfl, a, rfl, D0, fun fr H1 sfr ffr X1 => ?_⟩
    refine ⟨_, _, rfl, rfl, _, rfl, _, rfl, _, _, rfl, rfl, (by show 4 ≤ sizeLine; decide), fun t2 n2 => ?_⟩
    obtain ⟨H2, eH⟩ : ∃ H2, H2 = upd H1 t2 (.tup ([fr, 0 - 1, many, many + 1].map V.int)) := ⟨_, rfl⟩
    have s2 : Same H1 H2 := by rw [eH]; exact same_new n2 _
    have et : H2 t2 = some (.tup ([fr, 0 - 1, many, many + 1].map V.int)) := by rw [eH]; exact upd_same
    show gName 2 (V.ref t2) _ (upd H1 t2 (.tup ([fr, 0 - 1, many, many + 1].map V.int))) _
    rw [← eH]
    have D2 := X1.1.same s2
    refine ⟨_, rfl, _, _, rfl, D2, by decide, by decide, fun r3 H3 p3 q3 D3 e3 => ⟨rfl, _, rfl, ?_⟩⟩
    have X3 := (X1.same s2).trans (Ext.pick D3 e3)
    refine ite2 (fun c => ?_) (fun c => ?_)
    · refine ⟨_, rfl, _, rfl, _, _, rfl, D3, by decide, by decide, fun r4 H4 p4 q4 D4 e4 => ?_⟩
      obtain ⟨n, hn, en⟩ := ints_at (xs := [fr, 0 - 1, many, many + 1]) p4 (by exact q4)
      have et4 := (Ext.pick D4 e4).tup D3 ((Ext.pick D3 e3).tup D2 et)
      refine ⟨_, _, _, _, rfl, rfl, SqT.of et4, en, k n H4 ?_ (X3.trans (Ext.pick D4 e4))⟩
      simp only [List.mem_cons, List.mem_nil_iff, or_false] at hn
      rcases hn with rfl | rfl | rfl | rfl
      · omega
      · omega
      · omega
      · omega
    · refine ⟨_, rfl, _, rfl, _, _, rfl, ?_⟩
      rw [show (if many > 1 then many else 1) = many by split <;> omega]
      exact ⟨_, _, rfl, D3, by omega, by omega, fun r4 H4 p4 q4 D4 e4 => k r4 H4 ⟨by omega, by omega⟩ (X3.trans (Ext.pick D4 e4))⟩
end
end K05

set_option Elab.async false
set_option linter.all false
set_option maxRecDepth 100000
set_option maxHeartbeats 4000000
namespace K05
open PySem L2 Gs
section
variable {P : Program} {w : World} {K : PySem.W.Frag} {mg : Str → Option Value} {base : Heap} {f : Addr} {fd : FuncData} {C cN cM cS cF cG : Addr} {tG tM tQ tR : Tok}
abbrev s_tried : Stmt := top 24
theorem sc_tried : FnScope ["_law_sizes", "_law_way", "_law_k", "_law_many", "e"] ["_law_sizes", "_law_way", "_law_k", "_law_many"] (defScope s_tried) := ⟨rfl, rfl, rfl, by decide +kernel, rfl, by decide +kernel, by decide +kernel⟩
theorem ok_tried (F : Fun K "_law_tried" "_law_tried" s_tried f fd) (T : Tx K mg C cN cM cS cF cG tG tM tQ tR) (M_put : Mn P w K mg base (L2.CX P w) 2 C "put" ["self", "number", "many"] (spPut C cN cM)) (M_cut : Mn P w K mg base (L2.CX P w) 2 C "cut" ["self", "number", "many"] (spCut C cN cM)) : FnOk P w K mg base CX0 3 f fd ["_law_sizes", "_law_way", "_law_k", "_law_many"] (spTried5 C) := by
  refine F.ok sc_tried (fun vs H Q E h => ?_) (fun cdv A outer s H vs Q E hr h => ?_)
  · obtain ⟨p, d, z, way, i, n, rfl, _⟩ := h
    rfl
  · obtain ⟨p, d, z, way, i, n, rfl, S, hi, hn, hw, big, k1, k2, k3⟩ := h
    obtain ⟨dx, kvs, h1, h2, h3, W⟩ := id S
    have nMN : cM ≠ cN := fun e => by have := T.mn; rw [← e, T.x_BadMany.sf] at this; cases this
    refine ⟨_, (pss_one (ps_try_asT (i := 4) rfl rfl sc_tried.nd rfl rfl ⟨rfl, by decide, .inl T.x_GridError.g⟩ ⟨rfl, by decide, .inl T.x_NoIndex.g⟩ takes0 (fun W pn xe tk _ => (pss_one (ps_ret (pe_ifExp (pt_cmpR op_eq (pv 1) pe_int (nomark _)) (pe_methSD T.cl M_put (hr.mono (by omega)) (fun σ => passAt tk σ) (pv 0) (pa_cons (pv 2) (pa_cons (pv 3) pa_nil))) (pe_methSD T.cl M_cut (hr.mono (by omega)) (fun σ => passAt tk σ) (pv 0) (pa_cons (pv 2) (pa_cons (pv 3) pa_nil))))))) (fun a oe cls d pn hz hf => (pss_one (ps_ret (pe_ifExp (pt_val (pe_callB (call_isX hz hf) (by rfl) T.no_isinstance (by decide +kernel) (pa_cons (pv 4) (pa_cons (glR (by rfl) T.x_NoIndex.g) pa_nil)))) pe_str (pe_ix (ixTk (K := K) rfl) (pe_tup (pa_cons pe_str (pa_cons pe_str pa_nil))) (pe_callTy call_int1 (by rfl) T.no_int (by decide +kernel) (pa_cons (pe_callB (call_isX hz hf) (by rfl) T.no_isinstance (by decide +kernel) (pa_cons (pv 4) (pa_cons (glR (by rfl) T.x_BadMany.g) pa_nil))) pa_nil)) (fun _ _ => rfl)))))))), ?_⟩
    refine ⟨_, rfl, rfl, _, rfl, ?_⟩
    refine ite2 (fun c => ?_) (fun c => ?_)
    · have e : way = 0 := by have := of_decide_eq_true c; injection this
      subst e
      refine ⟨_, rfl, p, dx, _, rfl, h1, fz_no _ _ _, _, rfl, _, rfl, p, d, z, i, n, rfl, S, hi, hn, big, fun y g => k3 ⟨y.1, by have := y.2; omega⟩ g, fun no => ?_, fun y no => ?_⟩
      · refine ⟨true, exm_any2 (exm_own T.x_GridError.b T.x_GridError.cl T.x_GridError.t T.ng) T.x_NoIndex.me, (fun q => nomatch q), fun _ e' he' => ?_⟩
        refine ⟨_, rfl, cN, _, _, true, rfl, rfl, T.eN, rfl, rel_ref, kit_same, _, rfl, ?_⟩
        refine ifT rfl ?_
        exact k1 (fun y => no ⟨y.1, by have := y.2; omega⟩) H (Same.refl H)
      · refine ⟨true, exm_any2 (exm_own T.x_GridError.b T.x_GridError.cl T.x_GridError.t T.mg_) (exm_own T.x_NoIndex.b T.x_NoIndex.cl T.x_NoIndex.t T.mn), (fun q => nomatch q), fun _ e' he' => ?_⟩
        refine ⟨_, rfl, cM, _, _, false, rfl, rfl, T.eM, rfl, rel_ref, kit_own nMN T.x_NoIndex.cl T.x_NoIndex.t T.mn, _, rfl, ?_⟩
        refine ifF (by simp) ?_
        refine ⟨(by show 2 ≤ sizeLine; decide), fun t1 n1 => ?_⟩
        have s1 := same_new n1 (.tup [.str "other", .str "BadMany"])
        refine ⟨_, rfl, cM, _, _, true, rfl, rfl, T.eM, rfl, rel_ref, kit_same, .inr ⟨_, rfl, ?_⟩⟩
        exact ⟨t1, _, _, _, rfl, rfl, SqT.of upd_same, atI_nat (j := 1) rfl, k2 ⟨y.1, by have := y.2; omega⟩ no _ s1⟩
    · have e0 : ¬ way = 0 := fun q => c (decide_eq_true (congrArg V.int q))
      have e : way = 1 := by omega
      subst e
      refine ⟨_, rfl, p, dx, _, rfl, h1, fz_no _ _ _, _, rfl, _, rfl, p, d, z, i, n, rfl, S, hi, hn, fun y g => k3 ⟨y.1, by have := y.2; omega⟩ g, fun no => ?_, fun y no => ?_⟩
      · refine ⟨true, exm_any2 (exm_own T.x_GridError.b T.x_GridError.cl T.x_GridError.t T.ng) T.x_NoIndex.me, (fun q => nomatch q), fun _ e' he' => ?_⟩
        refine ⟨_, rfl, cN, _, _, true, rfl, rfl, T.eN, rfl, rel_ref, kit_same, _, rfl, ?_⟩
        refine ifT rfl ?_
        exact k1 (fun y => no ⟨y.1, by have := y.2; omega⟩) H (Same.refl H)
      · refine ⟨true, exm_any2 (exm_own T.x_GridError.b T.x_GridError.cl T.x_GridError.t T.mg_) (exm_own T.x_NoIndex.b T.x_NoIndex.cl T.x_NoIndex.t T.mn), (fun q => nomatch q), fun _ e' he' => ?_⟩
        refine ⟨_, rfl, cM, _, _, false, rfl, rfl, T.eM, rfl, rel_ref, kit_own nMN T.x_NoIndex.cl T.x_NoIndex.t T.mn, _, rfl, ?_⟩
        refine ifF (by simp) ?_
        refine ⟨(by show 2 ≤ sizeLine; decide), fun t1 n1 => ?_⟩
        have s1 := same_new n1 (.tup [.str "other", .str "BadMany"])
        refine ⟨_, rfl, cM, _, _, true, rfl, rfl, T.eM, rfl, rel_ref, kit_same, .inr ⟨_, rfl, ?_⟩⟩
        exact ⟨t1, _, _, _, rfl, rfl, SqT.of upd_same, atI_nat (j := 1) rfl, k2 ⟨y.1, by have := y.2; omega⟩ no _ s1⟩
abbrev s_rows_of : Stmt := top 25
theorem sc_rows_of : FnScope ["_law_draw", "_law_sizes", "_law_many", "_law_usual", "_law_k", "_law_rows", "_law_turn", "_law_size"] ["_law_draw", "_law_sizes", "_law_many", "_law_usual"] (defScope s_rows_of) := ⟨rfl, rfl, rfl, by decide +kernel, rfl, by decide +kernel, by decide +kernel⟩
theorem ok_rows_of (F : Fun K "_law_rows_of" "_law_rows_of" s_rows_of f fd) (T : Tx K mg C cN cM cS cF cG tG tM tQ tR) (D_pick : Dn P w K mg base CX0 1 "_law_pick" ["_law_draw", "_law_many"] spPick) (M_give : Mn P w K mg base (L2.CX P w) 4 C "give" ["self", "number", "size"] (spGive C cN cS cF)) (M_hide : Mn P w K mg base (L2.CX P w) 4 C "hide" ["self", "number"] (spTo C cN cF gHide)) : FnOk P w K mg base CX0 5 f fd ["_law_draw", "_law_sizes", "_law_many", "_law_usual"] (spRowsOf C) := by
  refine F.ok sc_rows_of (fun vs H Q E h => ?_) (fun cdv A outer s H vs Q E hr h => ?_)
  · obtain ⟨a, p, d, many, c, rfl, _⟩ := h
    rfl
  · obtain ⟨a, p, d, many, c, rfl, D0, S, big, k⟩ := h
    have W0 := S.wf
    have m0 : 1 ≤ many := W0.m0
    refine ⟨_, (pss_cons (ps_setLc (i := 5) (own := [("_law_k", 4)]) (g := gName 4) rfl sc_rows_of.nd rfl rfl (sw_true rfl rfl rfl (by decide +kernel)) (pi_range1 (by rfl) T.no_range (pa_cons (pv 2) pa_nil)) (blkOk_by (N := ["_law_draw", "_law_sizes", "_law_many", "_law_usual", "_law_k", "_law_rows", "_law_turn", "_law_size"]) (sc := defScope s_rows_of) (by decide +kernel)) (fun _ _ _ _ _ => (pg_name (i := 4) sc_rows_of.nd rfl (Or.inl rfl))) (fun _ _ _ _ _ => pts_nil) (fun _ _ _ _ _ => (pe_tup (pa_cons (pv 3) (pa_cons pe_bl pa_nil)))))
      (C8.pss_cut (ps_for PassesOwn.never rfl (pi_range1 (by rfl) T.no_range (pa_cons (pe_callD D_pick (hr.mono (by omega)) (by rfl) pass0 (pa_cons (pv 0) (pa_cons pe_int pa_nil))) pa_nil)) (pg_name (i := 6) sc_rows_of.nd rfl (.inl rfl))
        (pss_cons (ps_set (i := 4) sc_rows_of.nd rfl (.inl rfl) (pe_callD D_pick (hr.mono (by omega)) (by rfl) pass0 (pa_cons (pv 0) (pa_cons (pv 2) pa_nil))))
        (pss_cons (ps_set (i := 7) sc_rows_of.nd rfl (.inl rfl) (pe_op op_add pe_int (pe_callD D_pick (hr.mono (by omega)) (by rfl) pass0 (pa_cons (pv 0) (pa_cons pe_int pa_nil)))))
        (pss_cons (ps_expr (pe_methD T.cl M_give (hr.mono (by omega)) passL (pv 1) (pa_cons (pv 4) (pa_cons (pv 7) pa_nil))))
        (pss_cons (ps_asg (pe_tup (pa_cons (pv 7) (pa_cons (pe_ix ix_tup (pe_ix ix_list (pv 5) (pv 4) (fun _ _ => rfl)) pe_int (fun _ _ => rfl)) pa_nil))) (pg_sub (pv 5) (pv 4) set_list))
        (pss_one (ps_if (pt_cmpR op_eq (pe_callD D_pick (hr.mono (by omega)) (by rfl) pass0 (pa_cons (pv 0) (pa_cons pe_int pa_nil))) pe_int (nomark _)) (pss_cons (ps_expr (pe_methD T.cl M_hide (hr.mono (by omega)) passL (pv 1) (pa_cons (pv 4) pa_nil)))
          (pss_one (ps_asg (pe_tup (pa_cons (pv 7) (pa_cons pe_bl pa_nil))) (pg_sub (pv 5) (pv 4) set_list)))) pss_nil)))))))
      (pss_one (ps_ret (pv 5))))), ?_⟩
    refine ⟨_, rfl, _, rfl, by omega, by omega, fun l nl => ?_⟩
    refine lc_range (lo := 0) (n := Int.toNat many) (fun i H' => Same H H' ∧ ∃ acc, H' l = some (.lst acc) ∧ DpR H' acc (List.replicate i (c, false))) ⟨same_new nl _, [], upd_same, .nil⟩ ?_ ?_
    · rintro i H1 hi ⟨s1, acc, e1, da⟩
      refine ⟨rfl, ?_⟩
      unfold tYes
      refine ifT rfl ?_
      refine ⟨_, rfl, (by show 2 ≤ sizeLine; decide), fun t ht => ?_⟩
      have st := same_new ht (.tup [.int c, .bl false])
      have et : upd H1 t (.tup [.int c, .bl false]) t = some (.tup [.int c, .bl false]) := upd_same
      generalize upd H1 t (.tup [.int c, .bl false]) = H2 at st et ⊢
      have al := da.len
      rw [List.length_replicate] at al
      refine ⟨acc, st _ _ e1, Nat.lt_of_le_of_lt (by omega) (show 12 < sizeLine by decide), ?_, acc ++ [.ref t], upd_same, ?_⟩
      · intro b' o q
        rw [upd_ne (ne_of_none q nl)]
        exact st _ _ (s1 _ _ q)
      · have ts : TupSame H2 (upd H2 l (.lst (acc ++ [.ref t]))) := TupSame.upd (st _ _ e1) (fun xs e => by cases e) _
        rw [List.replicate_succ']
        exact ((da.mono (TupSame.of st)).mono ts).append (.cons ⟨t, rfl, ts _ _ et⟩ .nil)
    rintro H1 ⟨s1, acc, e1, da⟩
    have la : l ≠ a := by
      obtain ⟨l0, ns0, i0, lf0, sd0, n0, dh, _⟩ := D0
      exact (ne_of_none dh nl).symm
    have r0 : List.replicate many.toNat (c, false) = rowsM ⟨many, c, []⟩ := by
      refine List.ext_getElem? fun j => ?_
      by_cases hj : j < many.toNat
      · rw [List.getElem?_replicate, if_pos hj, rows_at (z := ⟨many, c, []⟩) hj]
        rfl
      · rw [List.getElem?_replicate, if_neg hj, rows_no (z := ⟨many, c, []⟩) hj]
    rw [r0] at da
    refine ⟨fun σ H' => DrawAt H' a ∧ ∃ s xs x4 x6 x7, σ = [some (.ref a), some (.ref p), some (.int many), some (.int c), x4, some (.ref l), x6, x7] ∧ SzW C H' p d s ∧ s.many = many ∧ s.common = c ∧ H' l = some (.lst xs) ∧ DpR H' xs (rowsM s), ?_, ?_⟩
    · refine ⟨_, rfl, _, _, rfl, D0.same s1, by decide, by decide, fun r2 H2 p2 q2 D2 e2 => ?_⟩
      have q2' : r2 < 9 := q2
      have n2 := Nls.ext (D0.same s1) (Ext.pick D2 e2)
      refine ⟨_, rfl, by omega, by omega, ?_⟩
      refine for_range (lo := 0) (n := Int.toNat r2) (fun j σ H' => DrawAt H' a ∧ ∃ s xs x4 x6 x7, σ = [some (.ref a), some (.ref p), some (.int many), some (.int c), x4, some (.ref l), x6, x7] ∧ SzW C H' p d s ∧ s.many = many ∧ s.common = c ∧ s.odd.length ≤ 2 * j ∧ H' l = some (.lst xs) ∧ DpR H' xs (rowsM s)) ⟨D2, _, acc, _, _, _, rfl, (S.same s1).nls n2, rfl, rfl, Nat.le_refl _, (e2 l la).trans e1, da.mono n2.tup⟩ ?_ ?_
      · rintro j σ H3 hj ⟨D3, s, xs, x4, x6, x7, rfl, S3, hm, hc, ho, el, dr⟩
        have W := S3.wf
        have rne := rows_ne W.m0
        refine ⟨_, rfl, _, rfl, _, _, rfl, D3, by omega, by omega, fun k4 H4 p4 q4 D4 e4 => ?_⟩
        have n4 := Nls.ext D3 (Ext.pick D4 e4)
        refine ⟨_, rfl, _, _, rfl, D4, by decide, by decide, fun r5 H5 p5 q5 D5 e5 => ?_⟩
        have q5' : r5 < 9 := q5
        have n5 := Nls.ext D4 (Ext.pick D5 e5)
        refine ⟨_, _, rfl, rfl, ?_⟩
        obtain ⟨size, es⟩ : ∃ size : Int, size = 1 + r5 := ⟨_, rfl⟩
        show gName 7 (V.int (1 + r5)) _ _ _
        rw [← es]
        have S5 := (S3.nls n4).nls n5
        have el5 : H5 l = some (.lst xs) := (e5 l la).trans ((e4 l la).trans el)
        have dr5 := dr.mono (n4.tup.trans n5.tup)
        have inr : inR s k4 := ⟨p4, by omega⟩
        obtain ⟨dx, hx⟩ := szw_ins S5
        obtain ⟨kvs, hdk⟩ := szw_dict S5
        refine ⟨_, rfl, p, dx, _, rfl, hx, fz_no _ _ _, _, rfl, _, rfl, p, d, s, k4, size, rfl, S5, Sm.of (by omega) (by omega), Sm.of (by omega) (by omega), fun _ _ _ nf H6 f6 S6 => ?_, fun no => absurd inr no, fun _ no => absurd ⟨by omega, by omega⟩ no, fun _ _ _ fu => absurd fu.2.2 (by omega)⟩
        have D6 := D5.frm hdk f6
        have el6 : H6 l = some (.lst xs) := f6 _ _ (ne_of el5 hdk (by intro e; cases e)) el5
        have dr6 := dr5.mono (f6.tup hdk (fun xs e => by cases e))
        have kn : k4.toNat < (rowsM s).length := by rw [rows_len]; omega
        have kx : k4.toNat < xs.length := by rw [dr.len]; exact kn
        have kk : k4 = ((k4.toNat : Nat) : Int) := by omega
        have rk := rows_at (z := s) (k := k4.toNat) (by omega)
        rw [← kk] at rk
        obtain ⟨t6, xt, ht6⟩ := dr6.at_ rk
        -- the row's size
        refine ⟨_, rfl, _, rfl, _, rfl, l, _, _, _, rfl, rfl, SqL.of el6, at_of kk xt, _, _, _, _, rfl, rfl, SqT.of ht6, atI_nat (j := 1) rfl, (by show 2 ≤ sizeLine; decide), fun t7 n7 => ?_⟩
        have s7 := same_new n7 (.tup [.int size, .bl (stM s k4).2])
        have et7 : upd H6 t7 (.tup [.int size, .bl (stM s k4).2]) t7 = some (.tup [.int size, .bl (stM s k4).2]) := upd_same
        generalize upd H6 t7 (.tup [.int size, .bl (stM s k4).2]) = H7 at s7 et7 ⊢
        refine ⟨_, rfl, _, rfl, l, xs, k4, k4.toNat, rfl, rfl, s7 _ _ el6, (by rw [kk]; exact ix_nat kx), ?_⟩
        have n8 := nls_upd (s7 _ _ el6) (.lst (xs.set k4.toNat (.ref t7)))
        have D8 := dr6.mono (TupSame.of s7) |>.draw (D6.same s7) (s7 _ _ el6) rne (.lst (xs.set k4.toNat (.ref t7)))
        have dr8 := ((dr6.mono (TupSame.of s7)).mono n8.tup).set (t := t7) (e := (size, (stM s k4).2)) (n8.tup _ _ et7) k4.toNat
        rw [← rows_keep inr] at dr8
        have S8 := (S6.same s7).nls n8
        have el8 : upd H7 l (.lst (xs.set k4.toNat (.ref t7))) l = some (.lst (xs.set k4.toNat (.ref t7))) := upd_same
        generalize upd H7 l (.lst (xs.set k4.toNat (.ref t7))) = H8 at n8 D8 dr8 S8 el8 ⊢
        have kl := keep_len s k4 size (stM s k4).2
        generalize es8 : keepM s k4 size (stM s k4).2 = s8 at kl S8 dr8 S6
        have inr8 : inR s8 k4 := by rw [← es8]; exact inr
        have hm8 : s8.many = many := by rw [← es8]; exact hm
        have hc8 : s8.common = c := by rw [← es8]; exact hc
        have st8 : (stM s8 k4).1 = size := by rw [← es8, keep_st, if_pos rfl]
        have rne8 := rows_ne S8.wf.m0
        refine ⟨_, rfl, _, _, rfl, D8, by decide, by decide, fun r9 H9 p9 q9 D9 e9 => ⟨rfl, _, rfl, ?_⟩⟩
        have n9 := Nls.ext D8 (Ext.pick D9 e9)
        have S9 := S8.nls n9
        have el9 := (e9 l la).trans el8
        have dr9 := dr8.mono n9.tup
        refine ite2 (fun g => ?_) (fun g => ?_)
        · obtain ⟨dx9, hx9⟩ := szw_ins S9
          obtain ⟨kvs9, hdk9⟩ := szw_dict S9
          refine ⟨_, rfl, p, dx9, _, rfl, hx9, fz_no _ _ _, _, rfl, p, d, s8, k4, rfl, S9, Sm.of (by omega) (by omega), fun _ nf H10 f10 S10 => ?_, fun no => absurd inr8 no, fun _ fu => absurd fu.2.2 (by omega)⟩
          have D10 := D9.frm hdk9 f10
          have el10 := f10 _ _ (ne_of el9 hdk9 (by intro e; cases e)) el9
          have dr10 := dr9.mono (f10.tup hdk9 (fun xs e => by cases e))
          refine ⟨_, rfl, (by show 2 ≤ sizeLine; decide), fun t11 n11 => ?_⟩
          have s11 := same_new n11 (.tup [.int size, .bl true])
          have et11 : upd H10 t11 (.tup [.int size, .bl true]) t11 = some (.tup [.int size, .bl true]) := upd_same
          generalize upd H10 t11 (.tup [.int size, .bl true]) = H11 at s11 et11 ⊢
          refine ⟨_, rfl, _, rfl, l, _, k4, k4.toNat, rfl, rfl, s11 _ _ el10, (by rw [kk]; exact ix_nat (by rw [List.length_set]; exact kx)), ?_⟩
          have n12 := nls_upd (s11 _ _ el10) (.lst ((xs.set k4.toNat (.ref t7)).set k4.toNat (.ref t11)))
          have D12 := dr10.mono (TupSame.of s11) |>.draw (D10.same s11) (s11 _ _ el10) rne8 (.lst ((xs.set k4.toNat (.ref t7)).set k4.toNat (.ref t11)))
          have dr12 := ((dr10.mono (TupSame.of s11)).mono n12.tup).set (t := t11) (e := (size, true)) (n12.tup _ _ et11) k4.toNat
          have S12 := (S10.same s11).nls n12
          have eg : gHide s8 k4 = (size, true) := by show ((stM s8 k4).1, true) = _; rw [st8]
          rw [eg] at S12
          rw [← rows_keep inr8] at dr12
          refine ⟨D12, _, _, _, _, _, rfl, S12, hm8, hc8, ?_, upd_same, dr12⟩
          exact Nat.le_trans (keep_len _ _ _ _) (by omega)
        · exact ⟨D9, s8, _, _, _, _, rfl, S9, hm8, hc8, by omega, el9, dr9⟩
      · rintro σ H3 ⟨D3, s, xs, x4, x6, x7, rfl, S3, hm, hc, ho, el, dr⟩
        exact ⟨D3, s, xs, _, _, _, rfl, S3, hm, hc, el, dr⟩
    rintro σ H3 ⟨D3, s, xs, x4, x6, x7, rfl, S3, hm, hc, el, dr⟩
    exact ⟨_, rfl, k s l xs H3 D3 S3 hm hc el la dr⟩
end
end K05

set_option Elab.async false
set_option linter.all false
set_option maxRecDepth 100000
set_option maxHeartbeats 4000000
namespace K05
open PySem L2 Gs
section
variable {P : Program} {w : World} {K : PySem.W.Frag} {mg : Str → Option Value} {base : Heap} {f : Addr} {fd : FuncData} {C cN cM cS cF cG : Addr} {tG tM tQ tR : Tok}
abbrev s_law : Stmt := top 26
theorem sc_law : FnScope ["_law_script", "_law_draw", "_law_many", "_law_usual", "_law_sizes", "_law_rows", "_law_turn", "_law_way", "_law_k", "_law_more", "_law_due", "_law_found", "_law_far_here"] ["_law_script"] (defScope s_law) := ⟨rfl, rfl, rfl, by decide +kernel, rfl, by decide +kernel, by decide +kernel⟩
theorem ok_law (F : Fun K "law" "law" s_law f fd) (T : Tx K mg C cN cM cS cF cG tG tM tQ tR) (D_begin : Dn P w K mg base CX0 1 "_law_begin" ["_law_script"] (spBegin K)) (D_pick : Dn P w K mg base CX0 1 "_law_pick" ["_law_draw", "_law_many"] spPick) (D_far : Dn P w K mg base CX0 2 "_law_far" ["_law_draw"] spFarB)
    (D_same : Dn P w K mg base CX0 3 "_law_same" ["_law_found", "_law_due"] (spSame K 3)) (D_near : Dn P w K mg base CX0 3 "_law_near" ["_law_draw", "_law_many"] spNear) (D_tried : Dn P w K mg base CX0 3 "_law_tried" ["_law_sizes", "_law_way", "_law_k", "_law_many"] (spTried5 C))
    (D_rows_of : Dn P w K mg base CX0 5 "_law_rows_of" ["_law_draw", "_law_sizes", "_law_many", "_law_usual"] (spRowsOf C)) (D_Sizes : Cn P w K mg base (L2.CX P w) 2 C "Sizes" (spInit C cM cS)) (M_put : Mn P w K mg base (L2.CX P w) 2 C "put" ["self", "number", "many"] (spPut C cN cM))
    (M_own : Mn P w K mg base (L2.CX P w) 3 C "own" ["self", "number"] (spOwn C cN)) (M_hidden : Mn P w K mg base (L2.CX P w) 3 C "hidden" ["self", "number"] (spHid C cN)) (M_total : Mn P w K mg base CX0 5 C "total" ["self"] (spTotal C)) : FnOk P w K mg base CX0 7 f fd ["_law_script"] (spLaw K) := by
  refine F.ok sc_law (fun vs H Q E h => ?_) (fun cdv A outer s H vs Q E hr h => ?_)
  · obtain ⟨a, ns, rfl, _⟩ := h
    rfl
  · obtain ⟨scr, ns, rfl, hS, h63, k⟩ := h
    have hu := hu_of hr
    refine ⟨_, (pss_cons (ps_set (i := 1) sc_law.nd rfl (.inl rfl) (pe_callD D_begin (hr.mono (by omega)) (by rfl) pass0 (pa_cons (pv 0) pa_nil)))
      (pss_cons (ps_set (i := 2) sc_law.nd rfl (.inl rfl) (pe_op op_add pe_int (pe_callD D_pick (hr.mono (by omega)) (by rfl) pass0 (pa_cons (pv 1) (pa_cons pe_int pa_nil)))))
      (pss_cons (ps_set (i := 3) sc_law.nd rfl (.inl rfl) (pe_op op_add pe_int (pe_callD D_pick (hr.mono (by omega)) (by rfl) pass0 (pa_cons (pv 1) (pa_cons pe_int pa_nil)))))
      (pss_cons (ps_set (i := 4) sc_law.nd rfl (.inr rfl) (pe_mkD D_Sizes (hr.mono (by omega)) (by rfl) passL (pa_cons (pv 2) pa_nil) (pk_cons (pv 3) pk_nil)))
      (pss_cons (ps_set (i := 5) sc_law.nd rfl (.inl rfl) (pe_callD D_rows_of (hr.mono (by omega)) (by rfl) pass0 (pa_cons (pv 1) (pa_cons (pv 4) (pa_cons (pv 2) (pa_cons (pv 3) pa_nil))))))
      (C8.pss_cut (ps_for PassesOwn.never rfl (pi_range1 (by rfl) T.no_range (pa_cons (pe_callD D_pick (hr.mono (by omega)) (by rfl) pass0 (pa_cons (pv 1) (pa_cons pe_int pa_nil))) pa_nil)) (pg_name (i := 6) sc_law.nd rfl (.inl rfl))
        (pss_cons (ps_set (i := 7) sc_law.nd rfl (.inl rfl) (pe_callD D_pick (hr.mono (by omega)) (by rfl) pass0 (pa_cons (pv 1) (pa_cons pe_int pa_nil))))
        (pss_cons (ps_set (i := 8) sc_law.nd rfl (.inl rfl) (pe_ix ix_tup (pe_tup (pa_cons (pe_op op_sub (pe_callD D_pick (hr.mono (by omega)) (by rfl) pass0 (pa_cons (pv 1) (pa_cons (pe_op op_add (pe_callB call_len_seq (by rfl) T.no_len (by decide +kernel) (pa_cons (pv 5) pa_nil)) pe_int) pa_nil))) pe_int) (pa_cons (pe_callD D_near (hr.mono (by omega)) (by rfl) pass0 (pa_cons (pv 1) (pa_cons (pe_callB call_len_seq (by rfl) T.no_len (by decide +kernel) (pa_cons (pv 5) pa_nil)) pa_nil))) pa_nil))) (pe_callD D_pick (hr.mono (by omega)) (by rfl) pass0 (pa_cons (pv 1) (pa_cons pe_int pa_nil))) (fun _ _ => rfl)))
        (pss_cons (ps_set (i := 9) sc_law.nd rfl (.inl rfl) (pe_ix ix_tup (pe_tup (pa_cons (pe_op op_add pe_int (pe_callD D_pick (hr.mono (by omega)) (by rfl) pass0 (pa_cons (pv 1) (pa_cons pe_int pa_nil)))) (pa_cons (pe_op op_add pe_int (pe_callD D_pick (hr.mono (by omega)) (by rfl) pass0 (pa_cons (pv 1) (pa_cons pe_int pa_nil)))) (pa_cons pe_int (pa_cons (pe_callB call_len_seq (by rfl) T.no_len (by decide +kernel) (pa_cons (pv 5) pa_nil)) (pa_cons pe_int (pa_cons (pe_callD D_far (hr.mono (by omega)) (by rfl) pass0 (pa_cons (pv 1) pa_nil)) pa_nil))))))) (pe_callD D_pick (hr.mono (by omega)) (by rfl) pass0 (pa_cons (pv 1) (pa_cons pe_int pa_nil))) (fun _ _ => rfl)))
        (pss_cons (ps_set (i := 10) sc_law.nd rfl (.inl rfl) pe_non)
        (C8.pss_cut (ps_if (PW.pt (pw_or (pt_cmpR op_lt (pv 9) pe_int (nomark _)) (pw_or (PW.pt (pw_and (pt_cmpR op_eq (pv 7) pe_int (nomark _)) (pw_and1 (pt_cmpR op_gt (pv 9) pe_int (nomark _))))) (pw_or1 (PW.pt (pw_and (pt_cmpR op_eq (pv 7) pe_int (nomark _)) (pw_and1 (PW.pt (pw_or (pt_cmpR op_gt (pe_op op_add (pv 8) (pv 9)) (pe_callB call_len_seq (by rfl) T.no_len (by decide +kernel) (pa_cons (pv 5) pa_nil)) (nomark _)) (pw_or1 (pt_cmpR op_eq (pv 9) (pe_callB call_len_seq (by rfl) T.no_len (by decide +kernel) (pa_cons (pv 5) pa_nil)) (nomark _)))))))))))) (pss_one (ps_set (i := 10) sc_law.nd rfl (.inl rfl) pe_str)) pss_nil)
        (C8.pss_cut (ps_if (pt_not (pt_chain op_le op_lt pe_int (pv 8) (pe_op op_sub (pe_op op_add (pe_callB call_len_seq (by rfl) T.no_len (by decide +kernel) (pa_cons (pv 5) pa_nil)) pe_int) (pv 7)))) (pss_one (ps_set (i := 10) sc_law.nd rfl (.inl rfl) pe_str)) pss_nil)
        (C8.pss_cut (ps_if (pt_not (pt_val (pe_callD D_same (hr.mono (by omega)) (by rfl) pass0 (pa_cons (pe_callD D_tried (hr.mono (by omega)) (by rfl) pass0 (pa_cons (pv 4) (pa_cons (pv 7) (pa_cons (pv 8) (pa_cons (pv 9) pa_nil))))) (pa_cons (pv 10) pa_nil))))) (pss_one (ps_ret pe_bl)) pss_nil)
        (C8.pss_cut (ps_if (PW.pt (pw_and (pt_cmpR op_isN (pv 10) pe_non (nomark _)) (pw_and1 (pt_cmpR op_eq (pv 7) pe_int (nomark _))))) (pss_one (ps_set (i := 5) sc_law.nd rfl (.inl rfl) (pe_op op_cat (pe_op op_cat (pe_slice sl_list (pv 5) po_none (po_some (pv 8))) (pe_op op_rep (pe_lst (pa_cons (pe_tup (pa_cons (pv 3) (pa_cons pe_bl pa_nil))) pa_nil)) (pv 9))) (pe_slice sl_list (pv 5) (po_some (pv 8)) po_none)))) pss_nil)
        (C8.pss_cut (ps_if (PW.pt (pw_and (pt_cmpR op_isN (pv 10) pe_non (nomark _)) (pw_and1 (pt_cmpR op_eq (pv 7) pe_int (nomark _))))) (pss_one (ps_set (i := 5) sc_law.nd rfl (.inl rfl) (pe_op op_cat (pe_slice sl_list (pv 5) po_none (po_some (pv 8))) (pe_slice sl_list (pv 5) (po_some (pe_op op_add (pv 8) (pv 9))) po_none)))) pss_nil)
        (pss_cons (ps_setLc (i := 11) (own := [("_law_k", 8)]) (g := gName 8) rfl sc_law.nd rfl rfl (sw_true rfl rfl rfl (by decide +kernel)) (pi_range1 (by rfl) T.no_range (pa_cons (pe_callB call_len_seq (by rfl) T.no_len (by decide +kernel) (pa_cons (pv 5) pa_nil)) pa_nil)) (blkOk_by (N := ["_law_script", "_law_draw", "_law_many", "_law_usual", "_law_sizes", "_law_rows", "_law_turn", "_law_way", "_law_k", "_law_more", "_law_due", "_law_found", "_law_far_here"]) (sc := defScope s_law) (by decide +kernel)) (fun _ _ _ _ _ => (pg_name (i := 8) sc_law.nd rfl (Or.inl rfl))) (fun _ _ _ _ _ => pts_nil) (fun _ _ _ _ _ => (pe_tup (pa_cons (pe_methD T.cl M_own (hr.mono (by omega)) passL (pv 4) (pa_cons (pv 8) pa_nil)) (pa_cons (pe_methD T.cl M_hidden (hr.mono (by omega)) passL (pv 4) (pa_cons (pv 8) pa_nil)) pa_nil)))))
        (pss_one (ps_if (PW.pt (pw_or (pt_not (pt_val (pe_callD D_same (hr.mono (by omega)) (by rfl) pass0 (pa_cons (pv 11) (pa_cons (pv 5) pa_nil))))) (pw_or1 (pt_cmpR op_ne (pe_fld (pv 4) rfl) (pe_callB call_len_seq (by rfl) T.no_len (by decide +kernel) (pa_cons (pv 5) pa_nil)) (nomark _))))) (pss_one (ps_ret pe_bl)) pss_nil)))))))))))))
      (pss_cons (ps_set (i := 12) sc_law.nd rfl (.inl rfl) (pe_mkD D_Sizes (hr.mono (by omega)) (by rfl) passL (pa_cons (pe_op op_pow pe_int pe_int) pa_nil) (pk_cons (pv 3) pk_nil)))
      (pss_cons (ps_expr (pe_methD T.cl M_put (hr.mono (by omega)) passL (pv 12) (pa_cons (pe_ix ix_tup (pe_tup (pa_cons pe_int (pa_cons (pe_op op_pow pe_int pe_int) pa_nil))) (pe_callD D_pick (hr.mono (by omega)) (by rfl) pass0 (pa_cons (pv 1) (pa_cons pe_int pa_nil))) (fun _ _ => rfl)) (pa_cons pe_int pa_nil))))
      (pss_one (ps_ret (pe_callD D_same (hr.mono (by omega)) (by rfl) pass0 (pa_cons (pe_lst (pa_cons (pe_fld (pv 12) rfl) (pa_cons (pe_methD0 T.cl M_total (hr.mono (by omega)) pass0 (pv 12)) pa_nil))) (pa_cons (pe_lst (pa_cons (pe_op op_add (pe_op op_pow pe_int pe_int) pe_int) (pa_cons (pe_op op_mul (pe_op op_add (pe_op op_pow pe_int pe_int) pe_int) (pv 3)) pa_nil))) pa_nil))))))))))))), ?_⟩
    refine ⟨_, rfl, _, _, rfl, hS, fun a H1 na D1 s1 => ?_⟩
    refine ⟨_, rfl, _, _, rfl, D1, by decide, by decide, fun r2 H2 p2 q2 D2 e2 => ?_⟩
    refine ⟨_, _, rfl, rfl, ?_⟩
    have q2' : r2 < 12 := q2
    obtain ⟨many, em⟩ : ∃ many : Int, many = 1 + r2 := ⟨_, rfl⟩
    show gName 2 (V.int (1 + r2)) _ _ _
    rw [← em]
    refine ⟨_, rfl, _, _, rfl, D2, by decide, by decide, fun r3 H3 p3 q3 D3 e3 => ?_⟩
    refine ⟨_, _, rfl, rfl, ?_⟩
    have q3' : r3 < 9 := q3
    obtain ⟨c, ec⟩ : ∃ c : Int, c = 1 + r3 := ⟨_, rfl⟩
    show gName 3 (V.int (1 + r3)) _ _ _
    rw [← ec]
    have hmany : 1 ≤ many ∧ many ≤ 1000000 := by omega
    have hc : 1 ≤ c ∧ c ≤ 60 := by omega
    refine ⟨_, rfl, _, rfl, rfl, rfl, fun x dx nx nd ne => ?_⟩
    have s4 := new2 nx nd ne (.own x) (.ins C dx [])
    refine ⟨x, dx, many, c, rfl, upd_same, Sm.of (by omega) (by omega), Sm.of (by omega) (by omega), fun _ d0 H5 hd S5 fr => ⟨rfl, ?_⟩, fun no => absurd hmany no, fun _ no => absurd hc no⟩
    have s35 : Same H3 H5 := fun b o q => fr b o (s4 _ _ q) (ne_of_none q nx)
    have D5 := D3.same s35
    clear fr hd s4 nx nd ne s35 D3 D2 e3 e2
    refine ⟨_, rfl, _, rfl, _, rfl, _, rfl, a, x, d0, many, c, rfl, D5, S5, by omega, fun sz0 l0 xs0 H6 D6 S6 hm6 hc6 el6 la6 dr6 => ?_⟩
    refine ⟨fun σ H' => DrawAt H' a ∧ ∃ x5 x6 x7 x8 x9 x10 x11, σ = [some (.ref scr), some (.ref a), some (.int many), some (.int c), some (.ref x), x5, x6, x7, x8, x9, x10, x11, none], ?_, ?_⟩
    · refine ⟨_, rfl, _, _, rfl, D6, by decide, by decide, fun r7 H7 p7 q7 D7 e7 => ?_⟩
      have q7' : r7 < 13 := q7
      have n7 := Nls.ext D6 (Ext.pick D7 e7)
      refine ⟨_, rfl, by omega, by omega, ?_⟩
      refine for_range (lo := 0) (n := Int.toNat r7) (fun j σ H' => DrawAt H' a ∧ ∃ d s l xs x6 x7 x8 x9 x10 x11, σ = [some (.ref scr), some (.ref a), some (.int many), some (.int c), some (.ref x), some (.ref l), x6, x7, x8, x9, x10, x11, none] ∧ SzW C H' x d s ∧ s.common = c ∧ s.many ≤ 12 + 1000 * j ∧ H' l = some (.lst xs) ∧ DpR H' xs (rowsM s)) ⟨D7, d0, sz0, l0, xs0, _, _, _, _, _, _, rfl, S6.nls n7, hc6, by omega, (e7 l0 la6).trans el6, dr6.mono n7.tup⟩ ?_ ?_
      · rintro j σ H8 hj ⟨D8, d, sz, l, xs, x6, x7, x8, x9, x10, x11, rfl, S8, hc8, hm8, el8, dr8⟩
        have W := S8.wf
        have w0 := W.m0
        have rne := rows_ne W.m0
        have xl : (xs.length : Int) = sz.many := by rw [dr8.len, rows_len]; omega
        have step : ∀ {H9 H10 : Hp}, DrawAt H9 a → Gs.Ext a H9 H10 → H9 l = some (.lst xs) → DpR H9 xs (rowsM sz) → SzW C H9 x d sz → (H10 l = some (.lst xs) ∧ DpR H10 xs (rowsM sz) ∧ SzW C H10 x d sz) := fun {H9 H10} D9 e9 h9 r9 z9 => by
          obtain ⟨l9, ns9, i9, lf9, sd9, n9, _, _, _, _, _, nla, _⟩ := r9.apart D9 h9 rne
          exact ⟨e9.2 _ _ nla h9, r9.mono (Nls.ext D9 e9).tup, z9.nls (Nls.ext D9 e9)⟩
        -- way
        refine ⟨_, rfl, _, _, rfl, D8, by decide, by decide, fun way H9 p9 q9 D9 e9 => ?_⟩
        have q9' : way < 2 := q9
        obtain ⟨el9, dr9, S9⟩ := step D8 (Ext.pick D9 e9) el8 dr8 S8
        -- number
        refine ⟨_, rfl, _, rfl, _, _, rfl, .inl (SqL.of el9), _, _, rfl, rfl, _, _, rfl, D9, by omega, by omega, fun r10 H10 p10 q10 D10 e10 => ?_⟩
        obtain ⟨el10, dr10, S10⟩ := step D9 (Ext.pick D10 e10) el9 dr9 S9
        refine ⟨_, _, rfl, rfl, _, rfl, _, rfl, _, _, rfl, .inl (SqL.of el10), a, _, rfl, D10, by omega, by omega, fun i11 H11 b11 X11 => ?_⟩
        obtain ⟨el11, dr11, S11⟩ := step D10 X11 el10 dr10 S10
        refine ⟨(by show 2 ≤ sizeLine; decide), fun t12 n12 => ?_⟩
        obtain ⟨H12, eH12⟩ : ∃ H12, H12 = upd H11 t12 (.tup [.int (r10 - 1), .int i11]) := ⟨_, rfl⟩
        have s12 : Same H11 H12 := by rw [eH12]; exact same_new n12 _
        have et12 : H12 t12 = some (.tup [.int (r10 - 1), .int i11]) := by rw [eH12]; exact upd_same
        have D12 := X11.1.same s12
        refine ⟨_, rfl, a, _, rfl, (by rw [eH12] at D12; exact D12), by decide, by decide, fun r13 H13 p13 q13 D13 e13 => ?_⟩
        have e13' : ∀ b, b ≠ a → H13 b = H12 b := by rw [eH12]; exact e13
        obtain ⟨el13, dr13, S13⟩ := step D12 (Ext.pick D13 e13') (s12 _ _ el11) (dr11.mono (TupSame.of s12)) (S11.same s12)
        obtain ⟨i, hi, ei⟩ := ints2 (a := r10 - 1) (b := i11) p13 q13
        have et13 := (Ext.pick D13 e13').tup D12 et12
        refine ⟨_, _, _, _, rfl, rfl, SqT.of et13, ei, ?_⟩
        have bi : -(10 ^ 41) ≤ i ∧ i ≤ 10 ^ 41 := by rcases hi with rfl | rfl <;> omega
        have si : Sm i := Sm.of2 (by omega) (by omega)
        clear et13 ei hi et12 D8 D9 D10 X11 D12 e9 e10 e13 e13' el8 el9 el10 el11 dr9 dr10 dr11 S9 S10 S11 s12 b11
        -- how many
        refine ⟨_, rfl, _, _, rfl, D13, by decide, by decide, fun r14 H14 p14 q14 D14 e14 => ?_⟩
        obtain ⟨el14, dr14, S14⟩ := step D13 (Ext.pick D14 e14) el13 dr13 S13
        refine ⟨_, _, rfl, rfl, _, rfl, _, _, rfl, D14, by decide, by decide, fun r15 H15 p15 q15 D15 e15 => ?_⟩
        obtain ⟨el15, dr15, S15⟩ := step D14 (Ext.pick D15 e15) el14 dr14 S14
        refine ⟨_, _, rfl, rfl, _, rfl, _, _, rfl, .inl (SqL.of el15), _, rfl, a, rfl, D15, fun fr16 H16 b16 _ X16 => ?_⟩
        obtain ⟨el16, dr16, S16⟩ := step D15 X16 el15 dr15 S15
        refine ⟨(by show 6 ≤ sizeLine; decide), fun t17 n17 => ?_⟩
        obtain ⟨H17, eH17⟩ : ∃ H17, H17 = upd H16 t17 (.tup ([1 + r14, 1 + r15, 0, (xs.length : Int), 1001, fr16].map V.int)) := ⟨_, rfl⟩
        have s17 : Same H16 H17 := by rw [eH17]; exact same_new n17 _
        have et17 : H17 t17 = some (.tup ([1 + r14, 1 + r15, 0, (xs.length : Int), 1001, fr16].map V.int)) := by rw [eH17]; exact upd_same
        have D17 := X16.1.same s17
        refine ⟨_, rfl, a, _, rfl, (by rw [eH17] at D17; exact D17), by decide, by decide, fun r18 H18 p18 q18 D18 e18 => ?_⟩
        have e18' : ∀ b, b ≠ a → H18 b = H17 b := by rw [eH17]; exact e18
        obtain ⟨el18, dr18, S18⟩ := step D17 (Ext.pick D18 e18') (s17 _ _ el16) (dr16.mono (TupSame.of s17)) (S16.same s17)
        obtain ⟨n, hn, en⟩ := ints_at (xs := [1 + r14, 1 + r15, 0, (xs.length : Int), 1001, fr16]) p18 (by exact q18)
        have et18 := (Ext.pick D18 e18').tup D17 et17
        refine ⟨_, _, _, _, rfl, rfl, SqT.of et18, en, ?_⟩
        have q14' : r14 < 3 := q14
        have q15' : r15 < 3 := q15
        have sn : Sm n := by
          simp only [List.mem_cons, List.mem_nil_iff, or_false] at hn
          rcases hn with rfl | rfl | rfl | rfl | rfl | rfl <;> exact Sm.of2 (by omega) (by omega)
        clear et18 en hn et17 D13 D14 D15 X16 D17 e14 e15 e18 e18' el13 el14 el15 el16 dr13 dr14 dr15 dr16 S13 S14 S15 S16 s17 b16
        -- what is due
        have hw : way = 0 ∨ way = 1 := by omega
        refine ⟨fun σ H' => H18 = H' ∧ ∃ v10, σ = [some (.ref scr), some (.ref a), some (.int many), some (.int c), some (.ref x), some (.ref l), some (.int (0 + (j : Int))), some (.int way), some (.int i), some (.int n), some v10, x11, none] ∧ ((okM sz way i n ∧ v10 = .non) ∨ (¬ okM sz way i n ∧ v10 = .str "BadMany")), ?_, ?_⟩
        · refine ⟨_, rfl, _, _, rfl, rfl, _, rfl, ?_⟩
          refine ite2 (fun c1 => ?_) (fun c1 => ?_)
          · have c1' : n < 1 := of_decide_eq_true c1
            refine ifT rfl ?_
            refine ⟨rfl, _, rfl, .inr ⟨fun y => ?_, rfl⟩⟩
            unfold okM at y
            split at y
            · have := y.1; omega
            · have := y.1; omega
          · have c1' : ¬ n < 1 := fun q => c1 (decide_eq_true q)
            refine ⟨_, rfl, rfl, _, rfl, ?_⟩
            refine ite2 (fun c2 => ?_) (fun c2 => ?_)
            · have e0 : way = 0 := by have := of_decide_eq_true c2; injection this
              refine ⟨_, rfl, _, _, rfl, rfl, _, rfl, ?_⟩
              refine ite2 (fun c3 => ?_) (fun c3 => ?_)
              · have c3' : (1000 : Int) < n := of_decide_eq_true c3
                refine ifT rfl ?_
                refine ⟨rfl, _, rfl, .inr ⟨fun y => ?_, rfl⟩⟩
                unfold okM at y
                rw [if_pos e0] at y
                have := y.2
                omega
              · have c3' : ¬ (1000 : Int) < n := fun q => c3 (decide_eq_true q)
                refine ⟨_, rfl, rfl, _, rfl, ?_⟩
                refine ite2 (fun c4 => ?_) (fun c4 => ?_)
                · have e1 : way = 1 := by have := of_decide_eq_true c4; injection this
                  omega
                · refine ifF (by simp) ?_
                  refine ⟨rfl, _, rfl, .inl ⟨?_, rfl⟩⟩
                  unfold okM
                  rw [if_pos e0]
                  exact ⟨by omega, by omega⟩
            · have e0 : ¬ way = 0 := fun q => c2 (decide_eq_true (congrArg V.int q))
              refine ifF (by simp) ?_
              refine ⟨_, rfl, rfl, _, rfl, ?_⟩
              refine ite2 (fun c4 => ?_) (fun c4 => ?_)
              · refine ⟨_, rfl, _, rfl, _, _, rfl, rfl, _, rfl, _, _, rfl, .inl (SqL.of el18), _, _, rfl, rfl, _, rfl, ?_⟩
                refine ite2 (fun c5 => ?_) (fun c5 => ?_)
                · have c5' : (xs.length : Int) < i + n := of_decide_eq_true c5
                  refine ifT rfl ?_
                  refine ⟨rfl, _, rfl, .inr ⟨fun y => ?_, rfl⟩⟩
                  unfold okM at y
                  rw [if_neg e0] at y
                  have := y.2.1
                  omega
                · have c5' : ¬ (xs.length : Int) < i + n := fun q => c5 (decide_eq_true q)
                  refine ⟨_, rfl, _, rfl, _, _, rfl, .inl (SqL.of el18), rfl, _, rfl, ?_⟩
                  refine ite2 (fun c6 => ?_) (fun c6 => ?_)
                  · have c6' : n = (xs.length : Int) := by have := of_decide_eq_true c6; injection this
                    refine ⟨rfl, _, rfl, .inr ⟨fun y => ?_, rfl⟩⟩
                    unfold okM at y
                    rw [if_neg e0] at y
                    have := y.2.2
                    omega
                  · have c6' : ¬ n = (xs.length : Int) := fun q => c6 (decide_eq_true (congrArg V.int q))
                    refine ⟨rfl, _, rfl, .inl ⟨?_, rfl⟩⟩
                    unfold okM
                    rw [if_neg e0]
                    exact ⟨by omega, by omega, by omega⟩
              · have e1 : ¬ way = 1 := fun q => c4 (decide_eq_true (congrArg V.int q))
                omega
        rintro σ H18' ⟨rfl, v10, rfl, cs1⟩
        refine ⟨fun σ H' => H18 = H' ∧ ∃ v10, σ = [some (.ref scr), some (.ref a), some (.int many), some (.int c), some (.ref x), some (.ref l), some (.int (0 + (j : Int))), some (.int way), some (.int i), some (.int n), some v10, x11, none] ∧ ((inM sz way i ∧ okM sz way i n ∧ v10 = .non) ∨ (inM sz way i ∧ ¬ okM sz way i n ∧ v10 = .str "BadMany") ∨ (¬ inM sz way i ∧ v10 = .str "NoIndex")), ?_, ?_⟩
        · refine ⟨_, rfl, _, _, rfl, rfl, _, rfl, ?_⟩
          refine ite2 (fun c1 => ?_) (fun c1 => ?_)
          · have c1' : 0 ≤ i := of_decide_eq_true c1
            refine ⟨_, rfl, _, _, rfl, .inl (SqL.of el18), _, _, rfl, rfl, _, rfl, _, _, rfl, rfl, _, _, rfl, rfl, _, rfl, ?_⟩
            by_cases q : i < (xs.length : Int) + 1 - way
            · rw [decide_eq_true q]
              refine ifF (by simp) ?_
              have y : inM sz way i := ⟨c1', by omega⟩
              rcases cs1 with ⟨g, e⟩ | ⟨g, e⟩
              · exact ⟨rfl, v10, rfl, .inl ⟨y, g, e⟩⟩
              · exact ⟨rfl, v10, rfl, .inr (.inl ⟨y, g, e⟩)⟩
            · rw [decide_eq_false q]
              refine ifT (by simp) ?_
              exact ⟨rfl, _, rfl, .inr (.inr ⟨fun y => q (by have := y.2; omega), rfl⟩)⟩
          · have c1' : ¬ 0 ≤ i := fun q => c1 (decide_eq_true q)
            refine ⟨_, rfl, ?_⟩
            refine ifT (by simp) ?_
            exact ⟨rfl, _, rfl, .inr (.inr ⟨fun y => c1' y.1, rfl⟩)⟩
        clear cs1 v10
        rintro σ H18' ⟨rfl, v10, rfl, cs⟩
        -- what is done
        refine ⟨fun σ H' => DrawAt H' a ∧ σ = [some (.ref scr), some (.ref a), some (.int many), some (.int c), some (.ref x), some (.ref l), some (.int (0 + (j : Int))), some (.int way), some (.int i), some (.int n), some v10, x11, none] ∧ H' l = some (.lst xs) ∧ DpR H' xs (rowsM sz) ∧ ((v10 = .non ∧ inM sz way i ∧ okM sz way i n ∧ ∃ d', SzW C H' x d' (movM sz way i n)) ∨ (v10 ≠ .non ∧ SzW C H' x d sz)), ?_, ?_⟩
        · refine ⟨_, rfl, _, rfl, _, rfl, _, rfl, x, d, sz, way, i, n, rfl, S18, si, sn, hw, by omega, fun no H' s' => ?_, fun y no H' s' => ?_, fun y g d' H' nd' fr' S' => ?_⟩
          · rcases cs with ⟨y, _⟩ | ⟨y, _⟩ | ⟨_, rfl⟩
            · exact absurd y no
            · exact absurd y no
            · refine ⟨_, rfl, _, _, .str "NoIndex", rfl, .str _, .str _, by simp [PyData.depth], by simp [mxl], fun H'' s'' => ⟨_, rfl, ?_⟩⟩
              refine ifF (by simp) ?_
              have ss := s'.trans s''
              exact ⟨D18.same ss, rfl, ss _ _ el18, dr18.mono (TupSame.of ss), .inr ⟨(fun q => nomatch q), S18.same ss⟩⟩
          · rcases cs with ⟨_, g, _⟩ | ⟨_, _, rfl⟩ | ⟨n', _⟩
            · exact absurd g no
            · refine ⟨_, rfl, _, _, .str "BadMany", rfl, .str _, .str _, by simp [PyData.depth], by simp [mxl], fun H'' s'' => ⟨_, rfl, ?_⟩⟩
              refine ifF (by simp) ?_
              have ss := s'.trans s''
              exact ⟨D18.same ss, rfl, ss _ _ el18, dr18.mono (TupSame.of ss), .inr ⟨(fun q => nomatch q), S18.same ss⟩⟩
            · exact absurd y n'
          · rcases cs with ⟨_, _, rfl⟩ | ⟨_, n', _⟩ | ⟨n', _⟩
            · obtain ⟨dx8, hx8⟩ := szw_ins S18
              refine ⟨_, rfl, _, _, .none, rfl, .non, .non, by simp [PyData.depth], by simp [mxl], fun H'' s'' => ⟨_, rfl, ?_⟩⟩
              refine ifF (by simp) ?_
              have el' : H' l = some (.lst xs) := fr' _ _ (ne_of el18 hx8 (by intro e; cases e)) el18
              exact ⟨(D18.frmU hx8 (fun _ e => by cases e) fr').same s'', rfl, s'' _ _ el', (dr18.mono (fr'.tup hx8 (fun _ e => by cases e))).mono (TupSame.of s''), .inl ⟨rfl, y, g, d', S'.same s''⟩⟩
            · exact absurd g n'
            · exact absurd y n'
        rintro σ H19 ⟨D19, rfl, el19, dr19, cs19⟩
        clear cs D18 S18 el18 dr18 step
        have lim : xs.length ≤ 20000 := by omega
        refine ⟨fun σ H' => DrawAt H' a ∧ ∃ l xs, σ = [some (.ref scr), some (.ref a), some (.int many), some (.int c), some (.ref x), some (.ref l), some (.int (0 + (j : Int))), some (.int way), some (.int i), some (.int n), some v10, x11, none] ∧ H' l = some (.lst xs) ∧ ((v10 = .non ∧ way = 1 ∧ inM sz way i ∧ okM sz way i n ∧ DpR H' xs (rowsM sz) ∧ ∃ d', SzW C H' x d' (movM sz way i n)) ∨ ((v10 ≠ .non ∨ way = 0) ∧ ∃ d' s', SzW C H' x d' s' ∧ DpR H' xs (rowsM s') ∧ s'.common = c ∧ s'.many ≤ 12 + 1000 * ((j : Int) + 1))), ?_, ?_⟩
        · refine ⟨_, rfl, rfl, _, rfl, ?_⟩
          refine ite2 (fun g => ?_) (fun g => ?_)
          · have g' : v10 = .non := of_decide_eq_true g
            rcases cs19 with ⟨_, y, ok, d', S19⟩ | ⟨no, _⟩
            · refine ⟨_, rfl, rfl, _, rfl, ?_⟩
              refine ite2 (fun g2 => ?_) (fun g2 => ?_)
              · have e0 : way = 0 := by have := of_decide_eq_true g2; injection this
                subst e0
                have okp : goodP n := ok
                have S19' : SzW C H19 x d' (putM sz i n) := S19
                obtain ⟨o1, o2⟩ := okp
                obtain ⟨y1, y2⟩ := y
                have il : i ≤ (xs.length : Int) := by omega
                refine ⟨_, rfl, _, rfl, _, rfl, _, _, rfl, SqL.of el19, fun p1 np1 => ?_⟩
                rw [cut_take y1 il]
                have s1 := same_new np1 (.lst (xs.take i.toNat))
                have h1 : upd H19 p1 (.lst (xs.take i.toNat)) p1 = some (.lst (xs.take i.toNat)) := upd_same
                generalize upd H19 p1 (.lst (xs.take i.toNat)) = J1 at s1 h1 ⊢
                refine ⟨_, rfl, (by show 2 ≤ sizeLine; decide), fun t nt => ?_⟩
                have s2 := same_new nt (.tup [.int c, .bl false])
                have h2 : upd J1 t (.tup [.int c, .bl false]) t = some (.tup [.int c, .bl false]) := upd_same
                generalize upd J1 t (.tup [.int c, .bl false]) = J2 at s2 h2 ⊢
                refine ⟨(by show 1 ≤ sizeLine; decide), fun p3 np3 => ?_⟩
                have s3 := same_new np3 (.lst [.ref t])
                have h3 : upd J2 p3 (.lst [.ref t]) p3 = some (.lst [.ref t]) := upd_same
                generalize upd J2 p3 (.lst [.ref t]) = J3 at s3 h3 ⊢
                refine ⟨_, rfl, p3, n, _, rfl, rfl, h3, by omega, by omega, small (by show 1 * n.toNat ≤ 1000; omega), fun p4 np4 => ?_⟩
                rw [List.flatten_replicate_singleton]
                have s4 := same_new np4 (.lst (List.replicate n.toNat (.ref t)))
                have h4 : upd J3 p4 (.lst (List.replicate n.toNat (.ref t))) p4 = some (.lst (List.replicate n.toNat (.ref t))) := upd_same
                generalize upd J3 p4 (.lst (List.replicate n.toNat (.ref t))) = J4 at s4 h4 ⊢
                have s14 := s2.trans (s3.trans s4)
                refine ⟨p1, p4, _, _, rfl, rfl, s14 _ _ h1, h4, Nat.le_of_lt (Nat.lt_of_le_of_lt (by rw [List.length_take, List.length_replicate]; omega) (show 100000 < sizeLine by decide)), fun p5 np5 => ?_⟩
                have s5 := same_new np5 (.lst (xs.take i.toNat ++ List.replicate n.toNat (.ref t)))
                have h5 : upd J4 p5 (.lst (xs.take i.toNat ++ List.replicate n.toNat (.ref t))) p5 = some (.lst (xs.take i.toNat ++ List.replicate n.toNat (.ref t))) := upd_same
                generalize upd J4 p5 (.lst (xs.take i.toNat ++ List.replicate n.toNat (.ref t))) = J5 at s5 h5 ⊢
                have s05 := s1.trans (s14.trans s5)
                refine ⟨_, rfl, _, rfl, _, rfl, _, _, rfl, SqL.of (s05 _ _ el19), fun p6 np6 => ?_⟩
                rw [cut_drop y1 il]
                have s6 := same_new np6 (.lst (xs.drop i.toNat))
                have h6 : upd J5 p6 (.lst (xs.drop i.toNat)) p6 = some (.lst (xs.drop i.toNat)) := upd_same
                generalize upd J5 p6 (.lst (xs.drop i.toNat)) = J6 at s6 h6 ⊢
                refine ⟨p5, p6, _, _, rfl, rfl, s6 _ _ h5, h6, Nat.le_of_lt (Nat.lt_of_le_of_lt (by rw [List.length_append, List.length_take, List.length_replicate, List.length_drop]; omega) (show 100000 < sizeLine by decide)), fun p7 np7 => ?_⟩
                have s7 := same_new np7 (.lst (xs.take i.toNat ++ List.replicate n.toNat (.ref t) ++ xs.drop i.toNat))
                have s07 := s05.trans (s6.trans s7)
                refine ⟨D19.same s07, p7, _, rfl, upd_same, .inr ⟨.inr rfl, d', _, S19'.same s07, ?_, hc8, by show sz.many + n ≤ _; omega⟩⟩
                rw [rows_put y1 (by omega) (by omega)]
                have dr7 := dr19.mono (TupSame.of s07)
                refine ((dr7.take i.toNat).append (DpR.rep ?_ n.toNat)).append (dr7.drop i.toNat)
                rw [hc8]
                exact (s3.trans (s4.trans (s5.trans (s6.trans s7)))) _ _ h2
              · have e0 : ¬ way = 0 := fun q => g2 (decide_eq_true (congrArg V.int q))
                exact ⟨D19, l, xs, rfl, el19, .inl ⟨g', by omega, y, ok, dr19, d', S19⟩⟩
            · exact absurd g' no
          · have g' : v10 ≠ .non := fun q => g (decide_eq_true q)
            refine ifF (by simp) ?_
            rcases cs19 with ⟨e, _⟩ | ⟨_, S19⟩
            · exact absurd e g'
            · exact ⟨D19, l, xs, rfl, el19, .inr ⟨.inl g', d, sz, S19, dr19, hc8, by omega⟩⟩
        clear cs19 el19 dr19 xl lim rne
        rintro σ H20 ⟨D20, l, xs, rfl, el20, cs20⟩
        refine ⟨fun σ H' => DrawAt H' a ∧ ∃ l xs d' s', σ = [some (.ref scr), some (.ref a), some (.int many), some (.int c), some (.ref x), some (.ref l), some (.int (0 + (j : Int))), some (.int way), some (.int i), some (.int n), some v10, x11, none] ∧ H' l = some (.lst xs) ∧ SzW C H' x d' s' ∧ DpR H' xs (rowsM s') ∧ s'.common = c ∧ s'.many ≤ 12 + 1000 * ((j : Int) + 1), ?_, ?_⟩
        · refine ⟨_, rfl, rfl, _, rfl, ?_⟩
          refine ite2 (fun g => ?_) (fun g => ?_)
          · have g' : v10 = .non := of_decide_eq_true g
            refine ⟨_, rfl, rfl, _, rfl, ?_⟩
            refine ite2 (fun g2 => ?_) (fun g2 => ?_)
            · have e1 : way = 1 := by have := of_decide_eq_true g2; injection this
              rcases cs20 with ⟨_, _, y, ok, dr20, d', S20⟩ | ⟨no | no, _⟩
              · subst e1
                obtain ⟨o1, o2, o3⟩ : goodC sz i n := ok
                have S20' : SzW C H20 x d' (cutM sz i n) := S20
                obtain ⟨y1, y2⟩ := y
                have xl : (xs.length : Int) = sz.many := by rw [dr20.len, rows_len]; omega
                refine ⟨_, rfl, _, rfl, _, rfl, _, _, rfl, SqL.of el20, fun p1 np1 => ?_⟩
                rw [cut_take y1 (by omega)]
                have s1 := same_new np1 (.lst (xs.take i.toNat))
                have h1 : upd H20 p1 (.lst (xs.take i.toNat)) p1 = some (.lst (xs.take i.toNat)) := upd_same
                generalize upd H20 p1 (.lst (xs.take i.toNat)) = J1 at s1 h1 ⊢
                refine ⟨_, rfl, _, rfl, _, rfl, _, _, rfl, rfl, _, rfl, _, _, rfl, SqL.of (s1 _ _ el20), fun p2 np2 => ?_⟩
                rw [cut_drop (show 0 ≤ i + n by omega) (by omega)]
                have s2 := same_new np2 (.lst (xs.drop (i + n).toNat))
                have h2 : upd J1 p2 (.lst (xs.drop (i + n).toNat)) p2 = some (.lst (xs.drop (i + n).toNat)) := upd_same
                generalize upd J1 p2 (.lst (xs.drop (i + n).toNat)) = J2 at s2 h2 ⊢
                refine ⟨p1, p2, _, _, rfl, rfl, s2 _ _ h1, h2, Nat.le_of_lt (Nat.lt_of_le_of_lt (by rw [List.length_take, List.length_drop]; omega) (show 100000 < sizeLine by decide)), fun p3 np3 => ?_⟩
                have s3 := same_new np3 (.lst (xs.take i.toNat ++ xs.drop (i + n).toNat))
                have s03 := s1.trans (s2.trans s3)
                refine ⟨D20.same s03, p3, _, d', _, rfl, upd_same, S20'.same s03, ?_, hc8, by show sz.many - n ≤ _; omega⟩
                rw [rows_cut y1 (by omega) (by omega)]
                have dr3 := dr20.mono (TupSame.of s03)
                exact (dr3.take i.toNat).append (dr3.drop (i + n).toNat)
              · exact absurd g' no
              · omega
            · have e1 : ¬ way = 1 := fun q => g2 (decide_eq_true (congrArg V.int q))
              rcases cs20 with ⟨_, e, _⟩ | ⟨_, d', s', S20, dr20, c20, m20⟩
              · exact absurd e e1
              · exact ⟨D20, l, xs, d', s', rfl, el20, S20, dr20, c20, m20⟩
          · have g' : v10 ≠ .non := fun q => g (decide_eq_true q)
            refine ifF (by simp) ?_
            rcases cs20 with ⟨e, _⟩ | ⟨_, d', s', S20, dr20, c20, m20⟩
            · exact absurd e g'
            · exact ⟨D20, l, xs, d', s', rfl, el20, S20, dr20, c20, m20⟩
        rintro σ H21 ⟨D21, l, xs, d', s', rfl, el21, S21, dr21, c21, m21⟩
        clear cs20 el20 D20
        have W' := S21.wf
        have w0' := W'.m0
        have xl : (xs.length : Int) = s'.many := by rw [dr21.len, rows_len]; omega
        have rl : (rowsM s').length = xs.length := dr21.len.symm
        -- what is found
        refine ⟨_, rfl, _, _, rfl, .inl (SqL.of el21), _, rfl, by omega, by omega, fun D22 hD22 => ?_⟩
        refine lc_range (lo := 0) (n := Int.toNat (xs.length : Int)) (fun q H' => Same H21 H' ∧ ∃ acc, H' D22 = some (.lst acc) ∧ DpR H' acc ((rowsM s').take q)) ⟨same_new hD22 _, [], upd_same, .nil⟩ ?_ ?_
        · rintro q H23 hq ⟨s23, acc, e23, da⟩
          refine ⟨rfl, ?_⟩
          unfold tYes
          refine ifT rfl ?_
          have S23 := S21.same s23
          obtain ⟨dx, hx⟩ := szw_ins S23
          have inr : inR s' (0 + (q : Int)) := ⟨by omega, by omega⟩
          have sq : Sm (0 + (q : Int)) := Sm.of (by omega) (by omega)
          refine ⟨_, rfl, x, dx, _, rfl, hx, fz_no _ _ _, _, rfl, x, d', s', _, rfl, S23.r, sq, fun _ H24 s24 => ?_, fun no => absurd inr no⟩
          refine ⟨_, rfl, x, dx, _, rfl, s24 _ _ hx, fz_no _ _ _, _, rfl, x, d', s', _, rfl, (S23.same s24).r, sq, fun _ H25 s25 => ?_, fun no => absurd inr no⟩
          refine ⟨(by show 2 ≤ sizeLine; decide), fun t ht => ?_⟩
          have st := same_new ht (.tup [.int (stM s' (0 + (q : Int))).1, .bl (stM s' (0 + (q : Int))).2])
          have et : upd H25 t (.tup [.int (stM s' (0 + (q : Int))).1, .bl (stM s' (0 + (q : Int))).2]) t = some (.tup [.int (stM s' (0 + (q : Int))).1, .bl (stM s' (0 + (q : Int))).2]) := upd_same
          generalize upd H25 t (.tup [.int (stM s' (0 + (q : Int))).1, .bl (stM s' (0 + (q : Int))).2]) = H26 at st et ⊢
          have s36 := s24.trans (s25.trans st)
          have al := da.len
          rw [List.length_take] at al
          refine ⟨acc, s36 _ _ e23, Nat.lt_of_le_of_lt (by omega) (show 100000 < sizeLine by decide), ?_, acc ++ [.ref t], upd_same, ?_⟩
          · intro b' o z'
            rw [upd_ne (ne_of_none z' hD22)]
            exact s36 _ _ (s23 _ _ z')
          · have ts : TupSame H26 (upd H26 D22 (.lst (acc ++ [.ref t]))) := TupSame.upd (s36 _ _ e23) (fun xs e => by cases e) _
            rw [List.take_add_one, rows_at (z := s') (k := q) (by omega)]
            refine ((da.mono (TupSame.of s36)).mono ts).append (.cons ⟨t, rfl, ts _ _ ?_⟩ .nil)
            rw [et, show (0 : Int) + (q : Int) = (q : Int) by omega]
        rintro H23 ⟨s23, acc, e23, da⟩
        rw [show Int.toNat (xs.length : Int) = (rowsM s').length by omega, List.take_length] at da
        have S23 := S21.same s23
        obtain ⟨dx, hx⟩ := szw_ins S23
        refine ⟨_, rfl, _, rfl, _, _, .list ((rowsM s').map rwD), rfl, ?_, ?_, ?_, ?_, fun H24 s24 => ⟨_, rfl, ?_⟩⟩
        · exact .lst (SqL.of e23) da.dp
        · exact .lst (SqL.of (s23 _ _ el21)) (dr21.mono (TupSame.of s23)).dp
        · have := rw_depth (rowsM s')
          simp only [PyData.depth]
          omega
        · have := rw_mxl (rowsM s')
          simp only [mxl, List.length_map]
          omega
        refine ifF (by simp) ?_
        refine ⟨_, rfl, x, C, dx, _, _, rfl, s24 _ _ hx, T.cl, T.n_many, fz_many _ _ _, _, rfl, _, _, rfl, .inl (SqL.of (s24 _ _ (s23 _ _ el21))), rfl, _, rfl, ?_⟩
        refine ifF (by rw [xl]; simp) ?_
        have s34 := s23.trans s24
        exact ⟨D21.same s34, d', s', l, xs, _, _, _, _, _, _, rfl, S21.same s34, c21, by omega, s34 _ _ el21, dr21.mono (TupSame.of s34)⟩
      · rintro σ H8 ⟨D8, d, sz, l, xs, x6, x7, x8, x9, x10, x11, rfl, _⟩
        exact ⟨D8, _, _, _, _, _, _, _, rfl⟩
    rintro σ H8 ⟨D8, x5, x6, x7, x8, x9, x10, x11, rfl⟩
    have e6 : (10 : Int) ^ Int.toNat 6 = 1000000 := by decide
    refine ⟨_, _, rfl, rfl, ⟨by decide, by decide, by decide⟩, _, rfl, rfl, rfl, fun y dy ny nd ne => ?_⟩
    have s9 := new2 ny nd ne (.own y) (.ins C dy [])
    refine ⟨y, dy, _, c, rfl, upd_same, Sm.of (by decide) (by decide), Sm.of (by omega) (by omega), fun _ d9 H9 hd9 S9 fr9 => ⟨rfl, ?_⟩, fun no => absurd (by decide) no, fun _ no => absurd hc no⟩
    rw [e6] at S9
    have s89 : Same H8 H9 := fun b o q => fr9 b o (s9 _ _ q) (ne_of_none q ny)
    have D9 := D8.same s89
    obtain ⟨dx9, hx9⟩ := szw_ins S9
    refine ⟨_, rfl, y, dx9, _, rfl, hx9, fz_no _ _ _, _, _, rfl, rfl, ⟨by decide, by decide, by decide⟩, (by show 2 ≤ sizeLine; decide), fun t10 n10 => ?_⟩
    obtain ⟨H10, eH10⟩ : ∃ H10, H10 = upd H9 t10 (.tup [.int 0, .int (10 ^ Int.toNat 6)]) := ⟨_, rfl⟩
    have s10 : Same H9 H10 := by rw [eH10]; exact same_new n10 _
    have et10 : H10 t10 = some (.tup [.int 0, .int (10 ^ Int.toNat 6)]) := by rw [eH10]; exact upd_same
    have D10 := D9.same s10
    refine ⟨_, rfl, a, _, rfl, (by rw [eH10] at D10; exact D10), by decide, by decide, fun r11 H11 p11 q11 D11 e11 => ?_⟩
    have e11' : ∀ b, b ≠ a → H11 b = H10 b := by rw [eH10]; exact e11
    have S11 := (S9.same s10).nls (Nls.ext D10 (Ext.pick D11 e11'))
    obtain ⟨i, hi, ei⟩ := ints2 (a := 0) (b := 10 ^ Int.toNat 6) p11 q11
    have et11 := (Ext.pick D11 e11').tup D10 et10
    rw [e6] at hi
    refine ⟨_, _, _, _, rfl, rfl, SqT.of et11, ei, ?_⟩
    refine ⟨y, d9, _, i, 1000, rfl, S11, Sm.of (by omega) (by omega), Sm.of (by decide) (by decide), (by show (1000000 : Int) ≤ 100000000; decide), fun _ _ d12 H12 _ _ S12 => ?_, fun no => absurd (show 0 ≤ i ∧ i ≤ (1000000 : Int) by omega) no, fun _ no => absurd (show goodP 1000 from ⟨by decide, by decide⟩) no⟩
    obtain ⟨dx12, hx12⟩ := szw_ins S12
    have tot : ahM (putM ⟨1000000, c, []⟩ i 1000) (putM ⟨1000000, c, []⟩ i 1000).many = 1001000 * c := by
      show ahM ⟨1000000 + 1000, c, []⟩ (1000000 + 1000) = 1001000 * c
      unfold ahM
      simp
    refine ⟨_, rfl, y, C, dx12, _, _, rfl, hx12, T.cl, T.n_many, fz_many _ _ _, _, rfl, y, dx12, _, rfl, hx12, fz_no _ _ _, y, d12, _, rfl, S12, fun H13 s13 => ?_⟩
    rw [tot]
    refine ⟨(by show 2 ≤ sizeLine; decide), fun l14 n14 => ?_⟩
    refine ⟨_, _, rfl, rfl, ⟨by decide, by decide, by decide⟩, _, _, rfl, rfl, _, _, rfl, rfl, ⟨by decide, by decide, by decide⟩, _, _, rfl, rfl, _, rfl, _, _, rfl, rfl, .inr ⟨by omega, by omega⟩, (by show 2 ≤ sizeLine; decide), fun l15 n15 => ?_⟩
    have s14 := same_new n14 (.lst [.int 1001000, .int (1001000 * c)])
    refine ⟨_, _, .list [.int 1001000, .int (1001000 * c)], rfl, ?_, ?_, by simp [PyData.depth, PyData.depthAll], by simp [mxl, mxlAll], fun H16 s16 => k H16⟩
    · exact .lst (SqL.of ((same_new n15 _) _ _ upd_same)) (.cons (dpI rfl) (.cons (dpI rfl) .nil))
    · exact .lst (SqL.of upd_same) (.cons (dpI (by show (10 : Int) ^ Int.toNat 6 + 1000 = 1001000; rw [e6]; rfl)) (.cons (dpI (by show ((10 : Int) ^ Int.toNat 6 + 1000) * c = 1001000 * c; rw [e6]; rfl)) .nil))
end
end K05

set_option Elab.async false
set_option linter.all false
set_option maxRecDepth 100000
set_option maxHeartbeats 4000000
namespace K05
open PySem L2 Gs
theorem all_mk {l : PySem.W.OpenLaw} {w : World} {K : PySem.W.Frag} {h : Heap} {mg : Str → Option Value} {fa : Addr} {C cN cM cS cF cG : Addr} {tG tM tQ tR : Tok} {kV_init : Value} (X : K.In h) (G : h.Ns mainGlobals mg) (hfa : mg "law" = some (.ref fa))
    {f_begin : Addr} {od_begin an_begin : Option Addr} {sl_begin : Array (Option Value)} {oc_begin dc_begin pm_begin cd_begin ct_begin kV_begin : Value}
    (a_begin : PySem.W.nsIn K mainGlobals "_law_begin" = some (some (.ref f_begin)))
    (l_begin : K.lookup f_begin = some ⟨oc_begin, od_begin, .func (PySem.W.fnOf "_law_begin" "_law_begin" (defArgs s_begin) (defBody s_begin) (defScope s_begin) .none kV_begin dc_begin pm_begin an_begin cd_begin ct_begin), sl_begin⟩)
    (c_begin : PySem.W.codeIn K cd_begin "_law_begin" = true)
    (k_begin : PySem.W.keepIn K (.ref f_begin) = true)
    {f_pick : Addr} {od_pick an_pick : Option Addr} {sl_pick : Array (Option Value)} {oc_pick dc_pick pm_pick cd_pick ct_pick kV_pick : Value}
    (a_pick : PySem.W.nsIn K mainGlobals "_law_pick" = some (some (.ref f_pick)))
    (l_pick : K.lookup f_pick = some ⟨oc_pick, od_pick, .func (PySem.W.fnOf "_law_pick" "_law_pick" (defArgs s_pick) (defBody s_pick) (defScope s_pick) .none kV_pick dc_pick pm_pick an_pick cd_pick ct_pick), sl_pick⟩)
    (c_pick : PySem.W.codeIn K cd_pick "_law_pick" = true)
    (k_pick : PySem.W.keepIn K (.ref f_pick) = true)
    {f_far : Addr} {od_far an_far : Option Addr} {sl_far : Array (Option Value)} {oc_far dc_far pm_far cd_far ct_far kV_far : Value}
    (a_far : PySem.W.nsIn K mainGlobals "_law_far" = some (some (.ref f_far)))
    (l_far : K.lookup f_far = some ⟨oc_far, od_far, .func (PySem.W.fnOf "_law_far" "_law_far" (defArgs s_far) (defBody s_far) (defScope s_far) .none kV_far dc_far pm_far an_far cd_far ct_far), sl_far⟩)
    (c_far : PySem.W.codeIn K cd_far "_law_far" = true)
    (k_far : PySem.W.keepIn K (.ref f_far) = true)
    {f_check_size : Addr} {od_check_size an_check_size : Option Addr} {sl_check_size : Array (Option Value)} {oc_check_size dc_check_size pm_check_size cd_check_size ct_check_size kV_check_size : Value}
    (a_check_size : PySem.W.nsIn K mainGlobals "check_size" = some (some (.ref f_check_size)))
    (l_check_size : K.lookup f_check_size = some ⟨oc_check_size, od_check_size, .func (PySem.W.fnOf "check_size" "check_size" (defArgs s_check_size) (defBody s_check_size) (defScope s_check_size) .none kV_check_size dc_check_size pm_check_size an_check_size cd_check_size ct_check_size), sl_check_size⟩)
    (c_check_size : PySem.W.codeIn K cd_check_size "check_size" = true)
    (k_check_size : PySem.W.keepIn K (.ref f_check_size) = true)
    {f_check_number : Addr} {od_check_number an_check_number : Option Addr} {sl_check_number : Array (Option Value)} {oc_check_number dc_check_number pm_check_number cd_check_number ct_check_number kV_check_number : Value}
    (a_check_number : PySem.W.nsIn K mainGlobals "check_number" = some (some (.ref f_check_number)))
    (l_check_number : K.lookup f_check_number = some ⟨oc_check_number, od_check_number, .func (PySem.W.fnOf "check_number" "check_number" (defArgs s_check_number) (defBody s_check_number) (defScope s_check_number) .none kV_check_number dc_check_number pm_check_number an_check_number cd_check_number ct_check_number), sl_check_number⟩)
    (c_check_number : PySem.W.codeIn K cd_check_number "check_number" = true)
    (k_check_number : PySem.W.keepIn K (.ref f_check_number) = true)
    {f_same : Addr} {od_same an_same : Option Addr} {sl_same : Array (Option Value)} {oc_same dc_same pm_same cd_same ct_same kV_same : Value}
    (a_same : PySem.W.nsIn K mainGlobals "_law_same" = some (some (.ref f_same)))
    (l_same : K.lookup f_same = some ⟨oc_same, od_same, .func (PySem.W.fnOf "_law_same" "_law_same" (defArgs s_same) (defBody s_same) (defScope s_same) .none kV_same dc_same pm_same an_same cd_same ct_same), sl_same⟩)
    (c_same : PySem.W.codeIn K cd_same "_law_same" = true)
    (k_same : PySem.W.keepIn K (.ref f_same) = true)
    {f_near : Addr} {od_near an_near : Option Addr} {sl_near : Array (Option Value)} {oc_near dc_near pm_near cd_near ct_near kV_near : Value}
    (a_near : PySem.W.nsIn K mainGlobals "_law_near" = some (some (.ref f_near)))
    (l_near : K.lookup f_near = some ⟨oc_near, od_near, .func (PySem.W.fnOf "_law_near" "_law_near" (defArgs s_near) (defBody s_near) (defScope s_near) .none kV_near dc_near pm_near an_near cd_near ct_near), sl_near⟩)
    (c_near : PySem.W.codeIn K cd_near "_law_near" = true)
    (k_near : PySem.W.keepIn K (.ref f_near) = true)
    {f_tried : Addr} {od_tried an_tried : Option Addr} {sl_tried : Array (Option Value)} {oc_tried dc_tried pm_tried cd_tried ct_tried kV_tried : Value}
    (a_tried : PySem.W.nsIn K mainGlobals "_law_tried" = some (some (.ref f_tried)))
    (l_tried : K.lookup f_tried = some ⟨oc_tried, od_tried, .func (PySem.W.fnOf "_law_tried" "_law_tried" (defArgs s_tried) (defBody s_tried) (defScope s_tried) .none kV_tried dc_tried pm_tried an_tried cd_tried ct_tried), sl_tried⟩)
    (c_tried : PySem.W.codeIn K cd_tried "_law_tried" = true)
    (k_tried : PySem.W.keepIn K (.ref f_tried) = true)
    {f_rows_of : Addr} {od_rows_of an_rows_of : Option Addr} {sl_rows_of : Array (Option Value)} {oc_rows_of dc_rows_of pm_rows_of cd_rows_of ct_rows_of kV_rows_of : Value}
    (a_rows_of : PySem.W.nsIn K mainGlobals "_law_rows_of" = some (some (.ref f_rows_of)))
    (l_rows_of : K.lookup f_rows_of = some ⟨oc_rows_of, od_rows_of, .func (PySem.W.fnOf "_law_rows_of" "_law_rows_of" (defArgs s_rows_of) (defBody s_rows_of) (defScope s_rows_of) .none kV_rows_of dc_rows_of pm_rows_of an_rows_of cd_rows_of ct_rows_of), sl_rows_of⟩)
    (c_rows_of : PySem.W.codeIn K cd_rows_of "_law_rows_of" = true)
    (k_rows_of : PySem.W.keepIn K (.ref f_rows_of) = true)
    {f_law : Addr} {od_law an_law : Option Addr} {sl_law : Array (Option Value)} {oc_law dc_law pm_law cd_law ct_law kV_law : Value}
    (a_law : PySem.W.nsIn K mainGlobals "law" = some (some (.ref f_law)))
    (l_law : K.lookup f_law = some ⟨oc_law, od_law, .func (PySem.W.fnOf "law" "law" (defArgs s_law) (defBody s_law) (defScope s_law) .none kV_law dc_law pm_law an_law cd_law ct_law), sl_law⟩)
    (c_law : PySem.W.codeIn K cd_law "law" = true)
    (k_law : PySem.W.keepIn K (.ref f_law) = true)
    {f_state : Addr} {od_state an_state : Option Addr} {sl_state : Array (Option Value)} {oc_state dc_state pm_state cd_state ct_state kV_state : Value}
    (a_state : PySem.W.findIn K (.ref C) "state" = some (some (.ref f_state)))
    (i_state : PySem.W.isFn K (.ref f_state) = true)
    (l_state : K.lookup f_state = some ⟨oc_state, od_state, .func (PySem.W.fnOf "state" "Sizes.state" (defArgs s_Sizes_state) (defBody s_Sizes_state) (defScope s_Sizes_state) .none kV_state dc_state pm_state an_state cd_state ct_state), sl_state⟩)
    (c_state : PySem.W.codeIn K cd_state "Sizes.state" = true)
    (k_state : PySem.W.keepIn K (.ref f_state) = true)
    {f_size : Addr} {od_size an_size : Option Addr} {sl_size : Array (Option Value)} {oc_size dc_size pm_size cd_size ct_size kV_size : Value}
    (a_size : PySem.W.findIn K (.ref C) "size" = some (some (.ref f_size)))
    (i_size : PySem.W.isFn K (.ref f_size) = true)
    (l_size : K.lookup f_size = some ⟨oc_size, od_size, .func (PySem.W.fnOf "size" "Sizes.size" (defArgs s_Sizes_size) (defBody s_Sizes_size) (defScope s_Sizes_size) .none kV_size dc_size pm_size an_size cd_size ct_size), sl_size⟩)
    (c_size : PySem.W.codeIn K cd_size "Sizes.size" = true)
    (k_size : PySem.W.keepIn K (.ref f_size) = true)
    {f_own : Addr} {od_own an_own : Option Addr} {sl_own : Array (Option Value)} {oc_own dc_own pm_own cd_own ct_own kV_own : Value}
    (a_own : PySem.W.findIn K (.ref C) "own" = some (some (.ref f_own)))
    (i_own : PySem.W.isFn K (.ref f_own) = true)
    (l_own : K.lookup f_own = some ⟨oc_own, od_own, .func (PySem.W.fnOf "own" "Sizes.own" (defArgs s_Sizes_own) (defBody s_Sizes_own) (defScope s_Sizes_own) .none kV_own dc_own pm_own an_own cd_own ct_own), sl_own⟩)
    (c_own : PySem.W.codeIn K cd_own "Sizes.own" = true)
    (k_own : PySem.W.keepIn K (.ref f_own) = true)
    {f_hidden : Addr} {od_hidden an_hidden : Option Addr} {sl_hidden : Array (Option Value)} {oc_hidden dc_hidden pm_hidden cd_hidden ct_hidden kV_hidden : Value}
    (a_hidden : PySem.W.findIn K (.ref C) "hidden" = some (some (.ref f_hidden)))
    (i_hidden : PySem.W.isFn K (.ref f_hidden) = true)
    (l_hidden : K.lookup f_hidden = some ⟨oc_hidden, od_hidden, .func (PySem.W.fnOf "hidden" "Sizes.hidden" (defArgs s_Sizes_hidden) (defBody s_Sizes_hidden) (defScope s_Sizes_hidden) .none kV_hidden dc_hidden pm_hidden an_hidden cd_hidden ct_hidden), sl_hidden⟩)
    (c_hidden : PySem.W.codeIn K cd_hidden "Sizes.hidden" = true)
    (k_hidden : PySem.W.keepIn K (.ref f_hidden) = true)
    {f_ahead : Addr} {od_ahead an_ahead : Option Addr} {sl_ahead : Array (Option Value)} {oc_ahead dc_ahead pm_ahead cd_ahead ct_ahead kV_ahead : Value}
    (a_ahead : PySem.W.findIn K (.ref C) "ahead" = some (some (.ref f_ahead)))
    (i_ahead : PySem.W.isFn K (.ref f_ahead) = true)
    (l_ahead : K.lookup f_ahead = some ⟨oc_ahead, od_ahead, .func (PySem.W.fnOf "ahead" "Sizes.ahead" (defArgs s_Sizes_ahead) (defBody s_Sizes_ahead) (defScope s_Sizes_ahead) .none kV_ahead dc_ahead pm_ahead an_ahead cd_ahead ct_ahead), sl_ahead⟩)
    (c_ahead : PySem.W.codeIn K cd_ahead "Sizes.ahead" = true)
    (k_ahead : PySem.W.keepIn K (.ref f_ahead) = true)
    {f_total : Addr} {od_total an_total : Option Addr} {sl_total : Array (Option Value)} {oc_total dc_total pm_total cd_total ct_total kV_total : Value}
    (a_total : PySem.W.findIn K (.ref C) "total" = some (some (.ref f_total)))
    (i_total : PySem.W.isFn K (.ref f_total) = true)
    (l_total : K.lookup f_total = some ⟨oc_total, od_total, .func (PySem.W.fnOf "total" "Sizes.total" (defArgs s_Sizes_total) (defBody s_Sizes_total) (defScope s_Sizes_total) .none kV_total dc_total pm_total an_total cd_total ct_total), sl_total⟩)
    (c_total : PySem.W.codeIn K cd_total "Sizes.total" = true)
    (k_total : PySem.W.keepIn K (.ref f_total) = true)
    {f_keep : Addr} {od_keep an_keep : Option Addr} {sl_keep : Array (Option Value)} {oc_keep dc_keep pm_keep cd_keep ct_keep kV_keep : Value}
    (a_keep : PySem.W.findIn K (.ref C) "keep" = some (some (.ref f_keep)))
    (i_keep : PySem.W.isFn K (.ref f_keep) = true)
    (l_keep : K.lookup f_keep = some ⟨oc_keep, od_keep, .func (PySem.W.fnOf "keep" "Sizes.keep" (defArgs s_Sizes_keep) (defBody s_Sizes_keep) (defScope s_Sizes_keep) .none kV_keep dc_keep pm_keep an_keep cd_keep ct_keep), sl_keep⟩)
    (c_keep : PySem.W.codeIn K cd_keep "Sizes.keep" = true)
    (k_keep : PySem.W.keepIn K (.ref f_keep) = true)
    {f_give : Addr} {od_give an_give : Option Addr} {sl_give : Array (Option Value)} {oc_give dc_give pm_give cd_give ct_give kV_give : Value}
    (a_give : PySem.W.findIn K (.ref C) "give" = some (some (.ref f_give)))
    (i_give : PySem.W.isFn K (.ref f_give) = true)
    (l_give : K.lookup f_give = some ⟨oc_give, od_give, .func (PySem.W.fnOf "give" "Sizes.give" (defArgs s_Sizes_give) (defBody s_Sizes_give) (defScope s_Sizes_give) .none kV_give dc_give pm_give an_give cd_give ct_give), sl_give⟩)
    (c_give : PySem.W.codeIn K cd_give "Sizes.give" = true)
    (k_give : PySem.W.keepIn K (.ref f_give) = true)
    {f_hide : Addr} {od_hide an_hide : Option Addr} {sl_hide : Array (Option Value)} {oc_hide dc_hide pm_hide cd_hide ct_hide kV_hide : Value}
    (a_hide : PySem.W.findIn K (.ref C) "hide" = some (some (.ref f_hide)))
    (i_hide : PySem.W.isFn K (.ref f_hide) = true)
    (l_hide : K.lookup f_hide = some ⟨oc_hide, od_hide, .func (PySem.W.fnOf "hide" "Sizes.hide" (defArgs s_Sizes_hide) (defBody s_Sizes_hide) (defScope s_Sizes_hide) .none kV_hide dc_hide pm_hide an_hide cd_hide ct_hide), sl_hide⟩)
    (c_hide : PySem.W.codeIn K cd_hide "Sizes.hide" = true)
    (k_hide : PySem.W.keepIn K (.ref f_hide) = true)
    {f_put : Addr} {od_put an_put : Option Addr} {sl_put : Array (Option Value)} {oc_put dc_put pm_put cd_put ct_put kV_put : Value}
    (a_put : PySem.W.findIn K (.ref C) "put" = some (some (.ref f_put)))
    (i_put : PySem.W.isFn K (.ref f_put) = true)
    (l_put : K.lookup f_put = some ⟨oc_put, od_put, .func (PySem.W.fnOf "put" "Sizes.put" (defArgs s_Sizes_put) (defBody s_Sizes_put) (defScope s_Sizes_put) .none kV_put dc_put pm_put an_put cd_put ct_put), sl_put⟩)
    (c_put : PySem.W.codeIn K cd_put "Sizes.put" = true)
    (k_put : PySem.W.keepIn K (.ref f_put) = true)
    {f_cut : Addr} {od_cut an_cut : Option Addr} {sl_cut : Array (Option Value)} {oc_cut dc_cut pm_cut cd_cut ct_cut kV_cut : Value}
    (a_cut : PySem.W.findIn K (.ref C) "cut" = some (some (.ref f_cut)))
    (i_cut : PySem.W.isFn K (.ref f_cut) = true)
    (l_cut : K.lookup f_cut = some ⟨oc_cut, od_cut, .func (PySem.W.fnOf "cut" "Sizes.cut" (defArgs s_Sizes_cut) (defBody s_Sizes_cut) (defScope s_Sizes_cut) .none kV_cut dc_cut pm_cut an_cut cd_cut ct_cut), sl_cut⟩)
    (c_cut : PySem.W.codeIn K cd_cut "Sizes.cut" = true)
    (k_cut : PySem.W.keepIn K (.ref f_cut) = true)
    {f_init : Addr} {od_init an_init : Option Addr} {sl_init : Array (Option Value)} {oc_init dc_init pm_init cd_init ct_init : Value}
    (a_init : PySem.W.findIn K (.ref C) "__init__" = some (some (.ref f_init)))
    (i_init : PySem.W.isFn K (.ref f_init) = true)
    (l_init : K.lookup f_init = some ⟨oc_init, od_init, .func (PySem.W.fnOf "__init__" "Sizes.__init__" (defArgs s_Sizes_init) (defBody s_Sizes_init) (defScope s_Sizes_init) .none kV_init dc_init pm_init an_init cd_init ct_init), sl_init⟩)
    (c_init : PySem.W.codeIn K cd_init "Sizes.__init__" = true)
    (k_init : PySem.W.keepIn K (.ref f_init) = true)
    (z_max : PySem.W.nsIn K mainGlobals "max" = some none)
    (z_min : PySem.W.nsIn K mainGlobals "min" = some none)
    (z_len : PySem.W.nsIn K mainGlobals "len" = some none)
    (z_list : PySem.W.nsIn K mainGlobals "list" = some none)
    (z_isinstance : PySem.W.nsIn K mainGlobals "isinstance" = some none)
    (z_bool : PySem.W.nsIn K mainGlobals "bool" = some none)
    (z_int : PySem.W.nsIn K mainGlobals "int" = some none)
    (z_str : PySem.W.nsIn K mainGlobals "str" = some none)
    (z_tuple : PySem.W.nsIn K mainGlobals "tuple" = some none)
    (z_range : PySem.W.nsIn K mainGlobals "range" = some none)
    (z_all : PySem.W.nsIn K mainGlobals "all" = some none)
    (z_sum : PySem.W.nsIn K mainGlobals "sum" = some none)
    (z_sorted : PySem.W.nsIn K mainGlobals "sorted" = some none)
    (z_any : PySem.W.nsIn K mainGlobals "any" = some none)
    (z_dict : PySem.W.nsIn K mainGlobals "dict" = some none)
    (z_repr : PySem.W.nsIn K mainGlobals "repr" = some none)
    (g_GREATEST_SIZE : PySem.W.nsIn K mainGlobals "GREATEST_SIZE" = some (some (.int 60 tG)))
    (g_MOST_THINGS : PySem.W.nsIn K mainGlobals "MOST_THINGS" = some (some (.int 1000000 tM)))
    (g_MOST_ODD : PySem.W.nsIn K mainGlobals "MOST_ODD" = some (some (.int 60 tQ)))
    (g_MOST_PUT : PySem.W.nsIn K mainGlobals "MOST_PUT" = some (some (.int 1000 tR)))
    (p_Sizes : PySem.W.plainGet K C Str.empty = true)
    (hd_Sizes : PySem.W.hasDictIn K C = true)
    (po_Sizes : PySem.W.plainOver K C = true)
    (sa_Sizes : PySem.W.findIn K (.ref C) "__setattr__" = some (some (.builtin "object.__setattr__")))
    (n_Sizes_many : PySem.W.findIn K (.ref C) "many" = some none)
    (n_Sizes_common : PySem.W.findIn K (.ref C) "common" = some none)
    (n_Sizes_odd : PySem.W.findIn K (.ref C) "odd" = some none)
    (g_Sizes : PySem.W.nsIn K mainGlobals "Sizes" = some (some (.ref C)))
    (mk_Sizes : PySem.W.makesIn K C = true)
    (kc_Sizes : PySem.W.keepIn K (.ref C) = true)
    (ia_Sizes : PySem.W.findIn K (.ref C) "__class__" = some (some (.builtin "object.__class__")))
    (io : PySem.W.specialIn K (.builtin "object.__class__") "__get__" = some (some (.builtin "getset_descriptor.__get__")))
    (it : PySem.W.takesIn K (.builtin "object.__class__") = some true)
    (im_Sizes : PySem.W.mroIn K C (.type "object") = some true)
    (e_NoIndex : PySem.W.nsIn K mainGlobals "NoIndex" = some (some (.ref cN)))
    (ex_NoIndex : PySem.W.excIn K cN ieL "IndexError.__new__" = true)
    (ek_NoIndex : PySem.W.keepIn K (.ref cN) = true)
    (eb_NoIndex : PySem.W.subIn K (.ref cN) (.type "BaseException") = some true)
    (et_NoIndex : PySem.W.typeIn K (.ref cN) = some (.type "type"))
    (ec_NoIndex : PySem.W.isClsIn K cN = true)
    (es_NoIndex : PySem.W.subIn K (.ref cN) (.ref cN) = some true)
    (e_BadMany : PySem.W.nsIn K mainGlobals "BadMany" = some (some (.ref cM)))
    (ex_BadMany : PySem.W.excIn K cM veL "ValueError.__new__" = true)
    (ek_BadMany : PySem.W.keepIn K (.ref cM) = true)
    (eb_BadMany : PySem.W.subIn K (.ref cM) (.type "BaseException") = some true)
    (et_BadMany : PySem.W.typeIn K (.ref cM) = some (.type "type"))
    (ec_BadMany : PySem.W.isClsIn K cM = true)
    (es_BadMany : PySem.W.subIn K (.ref cM) (.ref cM) = some true)
    (e_BadSize : PySem.W.nsIn K mainGlobals "BadSize" = some (some (.ref cS)))
    (ex_BadSize : PySem.W.excIn K cS veL "ValueError.__new__" = true)
    (ek_BadSize : PySem.W.keepIn K (.ref cS) = true)
    (eb_BadSize : PySem.W.subIn K (.ref cS) (.type "BaseException") = some true)
    (et_BadSize : PySem.W.typeIn K (.ref cS) = some (.type "type"))
    (ec_BadSize : PySem.W.isClsIn K cS = true)
    (es_BadSize : PySem.W.subIn K (.ref cS) (.ref cS) = some true)
    (e_Full : PySem.W.nsIn K mainGlobals "Full" = some (some (.ref cF)))
    (ex_Full : PySem.W.excIn K cF veL "ValueError.__new__" = true)
    (ek_Full : PySem.W.keepIn K (.ref cF) = true)
    (eb_Full : PySem.W.subIn K (.ref cF) (.type "BaseException") = some true)
    (et_Full : PySem.W.typeIn K (.ref cF) = some (.type "type"))
    (ec_Full : PySem.W.isClsIn K cF = true)
    (es_Full : PySem.W.subIn K (.ref cF) (.ref cF) = some true)
    (e_GridError : PySem.W.nsIn K mainGlobals "GridError" = some (some (.ref cG)))
    (ex_GridError : PySem.W.excIn K cG veL "ValueError.__new__" = true)
    (ek_GridError : PySem.W.keepIn K (.ref cG) = true)
    (eb_GridError : PySem.W.subIn K (.ref cG) (.type "BaseException") = some true)
    (et_GridError : PySem.W.typeIn K (.ref cG) = some (.type "type"))
    (ec_GridError : PySem.W.isClsIn K cG = true)
    (es_GridError : PySem.W.subIn K (.ref cG) (.ref cG) = some true)
    (xg_NoIndex : PySem.W.findIn K (.ref cN) "__getattribute__" = some (some (.builtin "BaseException.__getattribute__")))
    (xk_NoIndex : PySem.W.findIn K (.ref cN) "__getattr__" = some none)
    (xd_NoIndex : PySem.W.hasDictIn K cN = true)
    (xc_NoIndex : PySem.W.findIn K (.ref cN) "__class__" = some (some (.builtin "object.__class__")))
    (xm_NoIndex : PySem.W.mroIn K cN (.type "object") = some true)
    (xg_BadMany : PySem.W.findIn K (.ref cM) "__getattribute__" = some (some (.builtin "BaseException.__getattribute__")))
    (xk_BadMany : PySem.W.findIn K (.ref cM) "__getattr__" = some none)
    (xd_BadMany : PySem.W.hasDictIn K cM = true)
    (xc_BadMany : PySem.W.findIn K (.ref cM) "__class__" = some (some (.builtin "object.__class__")))
    (xm_BadMany : PySem.W.mroIn K cM (.type "object") = some true)
    (u1 : PySem.W.subIn K (.ref cN) (.ref cG) = some false)
    (u2 : PySem.W.subIn K (.ref cM) (.ref cG) = some true)
    (u3 : PySem.W.subIn K (.ref cM) (.ref cN) = some false)
    : ∃ fd : FuncData, (∀ (s : Shared) (v : Value), BindsTo s fd ⟨[v], []⟩ [("_law_script", v)]) ∧ ∀ base : Heap, K.In base → base.Ns mainGlobals mg → FnOk l.prog w K mg base CX0 7 fa fd ["_law_script"] (spLaw K) := by
  have e := hfa.symm.trans (PySem.W.mg_of X G a_law)
  cases e
  have T : Tx K mg C cN cM cS cF cG tG tM tQ tR := ⟨PySem.W.mg_none_of X G z_max, PySem.W.mg_none_of X G z_min, PySem.W.mg_none_of X G z_len, PySem.W.mg_none_of X G z_list, PySem.W.mg_none_of X G z_isinstance, PySem.W.mg_none_of X G z_bool, PySem.W.mg_none_of X G z_int, PySem.W.mg_none_of X G z_str, PySem.W.mg_none_of X G z_tuple, PySem.W.mg_none_of X G z_range, PySem.W.mg_none_of X G z_all, PySem.W.mg_none_of X G z_sum, PySem.W.mg_none_of X G z_sorted, PySem.W.mg_none_of X G z_any, PySem.W.mg_none_of X G z_dict, PySem.W.mg_none_of X G z_repr, PySem.W.mg_of X G g_GREATEST_SIZE, PySem.W.mg_of X G g_MOST_THINGS, ⟨p_Sizes, hd_Sizes, po_Sizes, sa_Sizes⟩, n_Sizes_many, n_Sizes_common, n_Sizes_odd, PySem.W.mg_of X G g_Sizes, ⟨⟨p_Sizes, hd_Sizes, po_Sizes, sa_Sizes⟩, ia_Sizes, io, it, im_Sizes, kit_same⟩, ⟨PySem.W.mg_of X G e_NoIndex, ex_NoIndex, ek_NoIndex, eb_NoIndex, et_NoIndex, ec_NoIndex, es_NoIndex⟩, ⟨PySem.W.mg_of X G e_BadMany, ex_BadMany, ek_BadMany, eb_BadMany, et_BadMany, ec_BadMany, es_BadMany⟩, ⟨PySem.W.mg_of X G e_BadSize, ex_BadSize, ek_BadSize, eb_BadSize, et_BadSize, ec_BadSize, es_BadSize⟩, ⟨PySem.W.mg_of X G e_Full, ex_Full, ek_Full, eb_Full, et_Full, ec_Full, es_Full⟩, PySem.W.mg_of X G g_MOST_ODD, ⟨PySem.W.mg_of X G e_GridError, ex_GridError, ek_GridError, eb_GridError, et_GridError, ec_GridError, es_GridError⟩, PySem.W.mg_of X G g_MOST_PUT, ⟨xg_NoIndex, xk_NoIndex, eb_NoIndex, xd_NoIndex, xc_NoIndex, io, it, xm_NoIndex⟩, ⟨xg_BadMany, xk_BadMany, eb_BadMany, xd_BadMany, xc_BadMany, io, it, xm_BadMany⟩, u1, u2, u3⟩
  have F_begin := fun_mk (st := s_begin) l_begin c_begin k_begin
  have b_begin := F_begin.binds (ps := ["_law_script"]) fun _ _ _ _ _ _ us hl => match us, hl with | [_], _ => rfl
  have m_begin := PySem.W.mg_of X G a_begin
  have F_pick := fun_mk (st := s_pick) l_pick c_pick k_pick
  have b_pick := F_pick.binds (ps := ["_law_draw", "_law_many"]) fun _ _ _ _ _ _ us hl => match us, hl with | [_, _], _ => rfl
  have m_pick := PySem.W.mg_of X G a_pick
  have F_far := fun_mk (st := s_far) l_far c_far k_far
  have b_far := F_far.binds (ps := ["_law_draw"]) fun _ _ _ _ _ _ us hl => match us, hl with | [_], _ => rfl
  have m_far := PySem.W.mg_of X G a_far
  have F_check_size := fun_mk (st := s_check_size) l_check_size c_check_size k_check_size
  have b_check_size := F_check_size.binds (ps := ["size"]) fun _ _ _ _ _ _ us hl => match us, hl with | [_], _ => rfl
  have m_check_size := PySem.W.mg_of X G a_check_size
  have F_check_number := fun_mk (st := s_check_number) l_check_number c_check_number k_check_number
  have b_check_number := F_check_number.binds (ps := ["number", "count"]) fun _ _ _ _ _ _ us hl => match us, hl with | [_, _], _ => rfl
  have m_check_number := PySem.W.mg_of X G a_check_number
  have F_same := fun_mk (st := s_same) l_same c_same k_same
  have b_same := F_same.binds (ps := ["_law_found", "_law_due"]) fun _ _ _ _ _ _ us hl => match us, hl with | [_, _], _ => rfl
  have m_same := PySem.W.mg_of X G a_same
  have F_near := fun_mk (st := s_near) l_near c_near k_near
  have b_near := F_near.binds (ps := ["_law_draw", "_law_many"]) fun _ _ _ _ _ _ us hl => match us, hl with | [_, _], _ => rfl
  have m_near := PySem.W.mg_of X G a_near
  have F_tried := fun_mk (st := s_tried) l_tried c_tried k_tried
  have b_tried := F_tried.binds (ps := ["_law_sizes", "_law_way", "_law_k", "_law_many"]) fun _ _ _ _ _ _ us hl => match us, hl with | [_, _, _, _], _ => rfl
  have m_tried := PySem.W.mg_of X G a_tried
  have F_rows_of := fun_mk (st := s_rows_of) l_rows_of c_rows_of k_rows_of
  have b_rows_of := F_rows_of.binds (ps := ["_law_draw", "_law_sizes", "_law_many", "_law_usual"]) fun _ _ _ _ _ _ us hl => match us, hl with | [_, _, _, _], _ => rfl
  have m_rows_of := PySem.W.mg_of X G a_rows_of
  have F_law := fun_mk (st := s_law) l_law c_law k_law
  have F_state := fun_mk (st := s_Sizes_state) l_state c_state k_state
  have b_state := F_state.binds (ps := ["self", "number"]) fun _ _ _ _ _ _ us hl => match us, hl with | [_, _], _ => rfl
  have me_state : Meth K C "state" f_state := ⟨a_state, i_state, k_state⟩
  have F_size := fun_mk (st := s_Sizes_size) l_size c_size k_size
  have b_size := F_size.binds (ps := ["self", "number"]) fun _ _ _ _ _ _ us hl => match us, hl with | [_, _], _ => rfl
  have me_size : Meth K C "size" f_size := ⟨a_size, i_size, k_size⟩
  have F_own := fun_mk (st := s_Sizes_own) l_own c_own k_own
  have b_own := F_own.binds (ps := ["self", "number"]) fun _ _ _ _ _ _ us hl => match us, hl with | [_, _], _ => rfl
  have me_own : Meth K C "own" f_own := ⟨a_own, i_own, k_own⟩
  have F_hidden := fun_mk (st := s_Sizes_hidden) l_hidden c_hidden k_hidden
  have b_hidden := F_hidden.binds (ps := ["self", "number"]) fun _ _ _ _ _ _ us hl => match us, hl with | [_, _], _ => rfl
  have me_hidden : Meth K C "hidden" f_hidden := ⟨a_hidden, i_hidden, k_hidden⟩
  have F_ahead := fun_mk (st := s_Sizes_ahead) l_ahead c_ahead k_ahead
  have b_ahead := F_ahead.binds (ps := ["self", "number"]) fun _ _ _ _ _ _ us hl => match us, hl with | [_, _], _ => rfl
  have me_ahead : Meth K C "ahead" f_ahead := ⟨a_ahead, i_ahead, k_ahead⟩
  have F_total := fun_mk (st := s_Sizes_total) l_total c_total k_total
  have b_total := F_total.binds (ps := ["self"]) fun _ _ _ _ _ _ us hl => match us, hl with | [_], _ => rfl
  have me_total : Meth K C "total" f_total := ⟨a_total, i_total, k_total⟩
  have F_keep := fun_mk (st := s_Sizes_keep) l_keep c_keep k_keep
  have b_keep := F_keep.binds (ps := ["self", "number", "own", "hidden"]) fun _ _ _ _ _ _ us hl => match us, hl with | [_, _, _, _], _ => rfl
  have me_keep : Meth K C "keep" f_keep := ⟨a_keep, i_keep, k_keep⟩
  have F_give := fun_mk (st := s_Sizes_give) l_give c_give k_give
  have b_give := F_give.binds (ps := ["self", "number", "size"]) fun _ _ _ _ _ _ us hl => match us, hl with | [_, _, _], _ => rfl
  have me_give : Meth K C "give" f_give := ⟨a_give, i_give, k_give⟩
  have F_hide := fun_mk (st := s_Sizes_hide) l_hide c_hide k_hide
  have b_hide := F_hide.binds (ps := ["self", "number"]) fun _ _ _ _ _ _ us hl => match us, hl with | [_, _], _ => rfl
  have me_hide : Meth K C "hide" f_hide := ⟨a_hide, i_hide, k_hide⟩
  have F_put := fun_mk (st := s_Sizes_put) l_put c_put k_put
  have b_put := F_put.binds (ps := ["self", "number", "many"]) fun _ _ _ _ _ _ us hl => match us, hl with | [_, _, _], _ => rfl
  have me_put : Meth K C "put" f_put := ⟨a_put, i_put, k_put⟩
  have F_cut := fun_mk (st := s_Sizes_cut) l_cut c_cut k_cut
  have b_cut := F_cut.binds (ps := ["self", "number", "many"]) fun _ _ _ _ _ _ us hl => match us, hl with | [_, _, _], _ => rfl
  have me_cut : Meth K C "cut" f_cut := ⟨a_cut, i_cut, k_cut⟩
  have F_init := fun_mk (st := s_Sizes_init) l_init c_init k_init
  refine ⟨PySem.W.fnOf "law" "law" (defArgs s_law) (defBody s_law) (defScope s_law) .none kV_law dc_law pm_law an_law cd_law ct_law, fun s v => .of_eq rfl, fun base _ _ => ?_⟩
  have D_begin : Dn l.prog w K mg base CX0 1 "_law_begin" ["_law_script"] (spBegin K) := ⟨_, _, ok_begin F_begin T, m_begin, k_begin, b_begin⟩
  have D_pick : Dn l.prog w K mg base CX0 1 "_law_pick" ["_law_draw", "_law_many"] spPick := ⟨_, _, ok_pick F_pick T, m_pick, k_pick, b_pick⟩
  have D_far : Dn l.prog w K mg base CX0 2 "_law_far" ["_law_draw"] spFarB := ⟨_, _, ok_far F_far T D_pick, m_far, k_far, b_far⟩
  have D_check_size : Dn l.prog w K mg base (L2.CX l.prog w) 1 "check_size" ["size"] (spCS cS) := ⟨_, _, ok_cs F_check_size T, m_check_size, k_check_size, b_check_size⟩
  have D_check_number : Dn l.prog w K mg base (L2.CX l.prog w) 1 "check_number" ["number", "count"] (spNum cN) := ⟨_, _, ok_cn F_check_number T, m_check_number, k_check_number, b_check_number⟩
  have M_state : Mn l.prog w K mg base (L2.CX l.prog w) 2 C "state" ["self", "number"] (spState C cN) := ⟨_, _, ok_state F_state T D_check_number, me_state, b_state⟩
  have M_size : Mn l.prog w K mg base (L2.CX l.prog w) 3 C "size" ["self", "number"] (spSize C cN) := ⟨_, _, ok_size F_size T M_state, me_size, b_size⟩
  have M_own : Mn l.prog w K mg base (L2.CX l.prog w) 3 C "own" ["self", "number"] (spOwn C cN) := ⟨_, _, ok_own F_own T M_state, me_own, b_own⟩
  have M_hidden : Mn l.prog w K mg base (L2.CX l.prog w) 3 C "hidden" ["self", "number"] (spHid C cN) := ⟨_, _, ok_hidden F_hidden T M_state, me_hidden, b_hidden⟩
  have M_ahead : Mn l.prog w K mg base (L2.CX l.prog w) 4 C "ahead" ["self", "number"] (spAhead C cN) := ⟨_, _, ok_ahead F_ahead T D_check_number M_size, me_ahead, b_ahead⟩
  have M_total : Mn l.prog w K mg base CX0 5 C "total" ["self"] (spTotal C) := ⟨_, _, ok_total F_total T M_ahead, me_total, b_total⟩
  have M_keep : Mn l.prog w K mg base (L2.CX l.prog w) 1 C "keep" ["self", "number", "own", "hidden"] (spKeep C cF) := ⟨_, _, ok_keep F_keep T, me_keep, b_keep⟩
  have M_give : Mn l.prog w K mg base (L2.CX l.prog w) 4 C "give" ["self", "number", "size"] (spGive C cN cS cF) := ⟨_, _, ok_give F_give T D_check_size M_own M_hidden M_keep, me_give, b_give⟩
  have M_hide : Mn l.prog w K mg base (L2.CX l.prog w) 4 C "hide" ["self", "number"] (spTo C cN cF gHide) := ⟨_, _, ok_hide F_hide T M_own M_hidden M_keep, me_hide, b_hide⟩
  have M_put : Mn l.prog w K mg base (L2.CX l.prog w) 2 C "put" ["self", "number", "many"] (spPut C cN cM) := ⟨_, _, ok_put F_put T D_check_number, me_put, b_put⟩
  have M_cut : Mn l.prog w K mg base (L2.CX l.prog w) 2 C "cut" ["self", "number", "many"] (spCut C cN cM) := ⟨_, _, ok_cut F_cut T D_check_number, me_cut, b_cut⟩
  have D_same := same_all (P := l.prog) (w := w) (base := base) F_same T b_same m_same k_same
  have okI := ok_init (P := l.prog) (w := w) (base := base) F_init T D_check_size
  have mkI : Mk K C f_init := ⟨mk_Sizes, a_init, i_init, kc_Sizes⟩
  have D_Sizes : Cn l.prog w K mg base (L2.CX l.prog w) 2 C "Sizes" (spInit C cM cS) := ⟨_, _, okI, mkI, T.mgC, ⟨fun s us ws _ l1 l2 => .of_eq (match us, ws, l1, l2 with | [_, _], [_], _, _ => rfl), fun r1 r2 => Vals.append r1 r2⟩⟩
  have D_near : Dn l.prog w K mg base CX0 3 "_law_near" ["_law_draw", "_law_many"] spNear := ⟨_, _, ok_near F_near T D_pick D_far, m_near, k_near, b_near⟩
  have D_tried : Dn l.prog w K mg base CX0 3 "_law_tried" ["_law_sizes", "_law_way", "_law_k", "_law_many"] (spTried5 C) := ⟨_, _, ok_tried F_tried T M_put M_cut, m_tried, k_tried, b_tried⟩
  have D_rows_of : Dn l.prog w K mg base CX0 5 "_law_rows_of" ["_law_draw", "_law_sizes", "_law_many", "_law_usual"] (spRowsOf C) := ⟨_, _, ok_rows_of F_rows_of T D_pick M_give M_hide, m_rows_of, k_rows_of, b_rows_of⟩
  exact ok_law F_law T D_begin D_pick D_far (D_same 3) D_near D_tried D_rows_of D_Sizes M_put M_own M_hidden M_total
theorem walk {l : PySem.W.OpenLaw} {q : Program} {loose : List Str} {XP : (Str → Option Value) → Heap → Prop} {YP : World → Heap → Prop} {d : DefRec} {K : Params → PySem.W.Frag} (hn : l.most = some 63) (hdf : d.params.defaults = [])
    (hY : ∀ (w : World) (h : Heap), YP w h → (K w.params).In h)
    (F : ∀ (w : World) (mg : Str → Option Value) (fa : Addr) (h : Heap), (K w.params).In h → h.Ns mainGlobals mg → mg d.name = some (.ref fa) →
      ∃ fd : FuncData, (∀ (s : Shared) (u : Value), BindsTo s fd ⟨[u], []⟩ [("_law_script", u)]) ∧ ∀ base : Heap, (K w.params).In base → base.Ns mainGlobals mg → FnOk l.prog w (K w.params) mg base CX0 7 fa fd ["_law_script"] (spLaw (K w.params))) :
    PySem.W.WalkO q loose XP YP l.row.toRowW d [] (fun f vs => PySem.call f vs) :=
  L2.walk_of (n := 63) (k := 7) (x := "_law_script") (CX := fun _ => CX0) (sp := fun w => spLaw (K w.params)) hn (by decide) hdf ⟨rfl, by decide, by decide⟩ hY F (fun _ _ a ns hl _ hS => ⟨a, ns, rfl, hS, hl, fun _ => rfl⟩) fun _ _ _ _ _ z => z
end K05
open PySem PySem.W PyProof.Rows
set_option maxRecDepth 100000 in
set_option maxHeartbeats 0 in
theorem PySem.Challenge.cw_gridscope_k05_things_put_in_and_cut_holds : PySem.Challenge.rw_gridscope_k05_things_put_in_and_cut.Holds := by
  w_on; o_law; k_head; (case hw => w_witness2)
  k_fill
  refine K05.walk (l := PySem.Challenge.rw_gridscope_k05_things_put_in_and_cut) rfl rfl (fun w h Y => PySem.W.kIn_of Y) ?F
  case F =>
    intro w mg fa h KX G hmg
    refine' K05.all_mk KX G hmg ?a_begin ?l_begin ?c_begin ?k_begin ?a_pick ?l_pick ?c_pick ?k_pick ?a_far ?l_far ?c_far ?k_far ?a_check_size ?l_check_size ?c_check_size ?k_check_size ?a_check_number ?l_check_number ?c_check_number ?k_check_number ?a_same ?l_same ?c_same ?k_same ?a_near ?l_near ?c_near ?k_near ?a_tried ?l_tried ?c_tried ?k_tried ?a_rows_of ?l_rows_of ?c_rows_of ?k_rows_of ?a_law ?l_law ?c_law ?k_law ?a_state ?i_state ?l_state ?c_state ?k_state ?a_size ?i_size ?l_size ?c_size ?k_size ?a_own ?i_own ?l_own ?c_own ?k_own ?a_hidden ?i_hidden ?l_hidden ?c_hidden ?k_hidden ?a_ahead ?i_ahead ?l_ahead ?c_ahead ?k_ahead ?a_total ?i_total ?l_total ?c_total ?k_total ?a_keep ?i_keep ?l_keep ?c_keep ?k_keep ?a_give ?i_give ?l_give ?c_give ?k_give ?a_hide ?i_hide ?l_hide ?c_hide ?k_hide ?a_put ?i_put ?l_put ?c_put ?k_put ?a_cut ?i_cut ?l_cut ?c_cut ?k_cut ?a_init ?i_init ?l_init ?c_init ?k_init ?z_max ?z_min ?z_len ?z_list ?z_isinstance ?z_bool ?z_int ?z_str ?z_tuple ?z_range ?z_all ?z_sum ?z_sorted ?z_any ?z_dict ?z_repr ?g_GREATEST_SIZE ?g_MOST_THINGS ?g_MOST_ODD ?g_MOST_PUT ?p_Sizes ?hd_Sizes ?po_Sizes ?sa_Sizes ?n_Sizes_many ?n_Sizes_common ?n_Sizes_odd ?g_Sizes ?mk_Sizes ?kc_Sizes ?ia_Sizes ?io ?it ?im_Sizes ?e_NoIndex ?ex_NoIndex ?ek_NoIndex ?eb_NoIndex ?et_NoIndex ?ec_NoIndex ?es_NoIndex ?e_BadMany ?ex_BadMany ?ek_BadMany ?eb_BadMany ?et_BadMany ?ec_BadMany ?es_BadMany ?e_BadSize ?ex_BadSize ?ek_BadSize ?eb_BadSize ?et_BadSize ?ec_BadSize ?es_BadSize ?e_Full ?ex_Full ?ek_Full ?eb_Full ?et_Full ?ec_Full ?es_Full ?e_GridError ?ex_GridError ?ek_GridError ?eb_GridError ?et_GridError ?ec_GridError ?es_GridError ?xg_NoIndex ?xk_NoIndex ?xd_NoIndex ?xc_NoIndex ?xm_NoIndex ?xg_BadMany ?xk_BadMany ?xd_BadMany ?xc_BadMany ?xm_BadMany ?u1 ?u2 ?u3
    (case a_begin => k_is); (case a_pick => k_is); (case a_far => k_is); (case a_check_size => k_is); (case a_check_number => k_is); (case a_same => k_is)
    (case a_near => k_is); (case a_tried => k_is); (case a_rows_of => k_is); (case a_law => k_is); (case z_max => k_is); (case z_min => k_is)
    (case z_len => k_is); (case z_list => k_is); (case z_isinstance => k_is); (case z_bool => k_is); (case z_int => k_is); (case z_str => k_is)
    (case z_tuple => k_is); (case z_range => k_is); (case z_all => k_is); (case z_sum => k_is); (case z_sorted => k_is); (case z_any => k_is)
    (case z_dict => k_is); (case z_repr => k_is); (case g_GREATEST_SIZE => k_is); (case g_MOST_THINGS => k_is); (case g_MOST_ODD => k_is); (case g_MOST_PUT => k_is)
    (case g_Sizes => k_is); (case e_NoIndex => k_is); (case e_BadMany => k_is); (case e_BadSize => k_is); (case e_Full => k_is); (case e_GridError => k_is)
    (case l_begin => k_is); (case c_begin => k_is); (case k_begin => k_is); (case l_pick => k_is); (case c_pick => k_is); (case k_pick => k_is)
    (case l_far => k_is); (case c_far => k_is); (case k_far => k_is); (case l_check_size => k_is); (case c_check_size => k_is); (case k_check_size => k_is)
    (case l_check_number => k_is); (case c_check_number => k_is); (case k_check_number => k_is); (case l_same => k_is); (case c_same => k_is); (case k_same => k_is)
    (case l_near => k_is); (case c_near => k_is); (case k_near => k_is); (case l_tried => k_is); (case c_tried => k_is); (case k_tried => k_is)
    (case l_rows_of => k_is); (case c_rows_of => k_is); (case k_rows_of => k_is); (case l_law => k_is); (case c_law => k_is); (case k_law => k_is)
    (case a_state => k_is); (case i_state => k_is); (case l_state => k_is); (case c_state => k_is); (case k_state => k_is); (case a_size => k_is)
    (case i_size => k_is); (case l_size => k_is); (case c_size => k_is); (case k_size => k_is); (case a_own => k_is); (case i_own => k_is)
    (case l_own => k_is); (case c_own => k_is); (case k_own => k_is); (case a_hidden => k_is); (case i_hidden => k_is); (case l_hidden => k_is)
    (case c_hidden => k_is); (case k_hidden => k_is); (case a_ahead => k_is); (case i_ahead => k_is); (case l_ahead => k_is); (case c_ahead => k_is)
    (case k_ahead => k_is); (case a_total => k_is); (case i_total => k_is); (case l_total => k_is); (case c_total => k_is); (case k_total => k_is)
    (case a_keep => k_is); (case i_keep => k_is); (case l_keep => k_is); (case c_keep => k_is); (case k_keep => k_is); (case a_give => k_is)
    (case i_give => k_is); (case l_give => k_is); (case c_give => k_is); (case k_give => k_is); (case a_hide => k_is); (case i_hide => k_is)
    (case l_hide => k_is); (case c_hide => k_is); (case k_hide => k_is); (case a_put => k_is); (case i_put => k_is); (case l_put => k_is)
    (case c_put => k_is); (case k_put => k_is); (case a_cut => k_is); (case i_cut => k_is); (case l_cut => k_is); (case c_cut => k_is)
    (case k_cut => k_is); (case a_init => k_is); (case i_init => k_is); (case l_init => k_is); (case c_init => k_is); (case k_init => k_is)
    (case p_Sizes => k_is); (case hd_Sizes => k_is); (case po_Sizes => k_is); (case sa_Sizes => k_is); (case n_Sizes_many => k_is); (case n_Sizes_common => k_is)
    (case n_Sizes_odd => k_is); (case mk_Sizes => k_is); (case kc_Sizes => k_is); (case ia_Sizes => k_is); (case io => k_is); (case it => k_is)
    (case im_Sizes => k_is); (case ex_NoIndex => k_exc); (case ek_NoIndex => k_is); (case eb_NoIndex => k_is); (case et_NoIndex => k_is); (case ec_NoIndex => k_is)
    (case es_NoIndex => k_is); (case ex_BadMany => k_exc); (case ek_BadMany => k_is); (case eb_BadMany => k_is); (case et_BadMany => k_is); (case ec_BadMany => k_is)
    (case es_BadMany => k_is); (case ex_BadSize => k_exc); (case ek_BadSize => k_is); (case eb_BadSize => k_is); (case et_BadSize => k_is); (case ec_BadSize => k_is)
    (case es_BadSize => k_is); (case ex_Full => k_exc); (case ek_Full => k_is); (case eb_Full => k_is); (case et_Full => k_is); (case ec_Full => k_is)
    (case es_Full => k_is); (case ex_GridError => k_exc); (case ek_GridError => k_is); (case eb_GridError => k_is); (case et_GridError => k_is); (case ec_GridError => k_is)
    (case es_GridError => k_is); (case xg_NoIndex => k_is); (case xk_NoIndex => k_is); (case xd_NoIndex => k_is); (case xc_NoIndex => k_is); (case xm_NoIndex => k_is)
    (case xg_BadMany => k_is); (case xk_BadMany => k_is); (case xd_BadMany => k_is); (case xc_BadMany => k_is); (case xm_BadMany => k_is); (case u1 => k_is)
    (case u2 => k_is); (case u3 => k_is)
