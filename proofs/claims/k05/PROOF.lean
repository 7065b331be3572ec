import PyProof.Rows.All
import Wide.All
import OpenK.AllK
import Wide.FinOn
import PyProof.EqAt
import PyProof.EqKinds
import PyProof.TupleCall
import PyProof.ReprRoads
import HandS.ForMost
import HandS.Walk
import HandS.TupAny
import HandS.TupMul
import HandS.Zip
import HandS.Defaults
import HandS.Style
import HandS.Evl
import HandS.FStrTup
import HandS.Conv
import HandS.More
import HandS.Set
import KE.DatumOrd
import KE.SortData
import HandS.MakeKwOnly
import HandS.ExcInit
import HandS.ExcSuper
import KE.KExcSuper
import HandS.WordsExc
import HandS.CallSlots
import HandS.ExcField
import HandS.ExcIs
import HandS.SetTxt0
import HandS.SetBool
import HandS.Comp
import HandS.Codes
import HandS.Deep
import HandS.IsInst
import PyProof.InstNe
import OpenK.KOps
import PyProof.Rows.IntBool
import HandS.SetFor
import HandS.Text
import KE.KCallOwn
import HandS.FStr
import HandS.DictComp
import PyProof.ReprReads
import KE.KFmtOwn
import PyProof.ReprHeads
import PyProof.ReprNest
import PyProof.NeKinds
import HandS.Small
import PyProof.FitsInt
import PySem.Challenge.RW_partkits_k05_heaps_compared_and_shown
set_option Elab.async false
set_option linter.all false
set_option maxRecDepth 100000
set_option maxHeartbeats 4000000
namespace PK
open PySem PySem.Spec PyProof.Rows L2

/-! ### defs that show things: called where nothing is being shown -/
structure FnG (P : Program) (w : World) (K : PySem.W.Frag) (mg : Str → Option Value) (base : Heap) (CX : CXT)
    (k : Nat) (f : Addr) (fd : FuncData) (ps : List Str) (sp : Sp) : Prop where
  len : ∀ vs H Q E, sp vs H Q E → vs.length = ps.length
  go : ∀ {A : Around} {outer : List Env} {s : Shared} {H : Hp} {args : Args} {us : List Value} {vs : List V} {Q : VK} {E : XK},
    A.guards = some [] → Room k A → Env0 P w K mg base A outer s H → BindsTo s fd args (ps.zip us) → Vals vs us →
    sp vs H Q E → codeAny (model P w) A (.call (.ref f) args) (CR CX outer P w H s Q E) s
theorem FnG.of {P : Program} {w : World} {K : PySem.W.Frag} {mg : Str → Option Value} {base : Heap} {CX : CXT}
    {k : Nat} {f : Addr} {fd : FuncData} {ps : List Str} {sp : Sp} (F : FnOk P w K mg base CX k f fd ps sp) :
    FnG P w K mg base CX k f fd ps sp :=
  ⟨F.len, fun _ hr e0 hb hv hs => F.run _ _ _ _ _ _ _ _ _ hr e0 hb hv hs⟩

/-- the def's promise from its body, the body read where nothing is being shown -/
theorem fnG_of {CX : CXT} {P : Program} {w : World} {K : PySem.W.Frag} {mg : Str → Option Value} {base : Heap} {k : Nat} {f : Addr} {fd : FuncData}
    {x qual : Str} {st : Stmt} {N ps : List Str} {sp : Sp} (F : Fun K x qual st f fd) (S : FnScope N ps (defScope st))
    (len : ∀ vs H Q E, sp vs H Q E → vs.length = ps.length)
    (hbody : ∀ (cdv : Value) (A : Around) (outer : List Env) (s : Shared) (H : Hp) (vs : List V) (Q : VK) (E : XK), A.guards = some [] →
      Room k (A.deeper (envOfC qual (defScope st) s.heap.objs.size f cdv)) → sp vs H Q E →
      ∃ t, PSs (cxOf CX P w K mg base N qual (defScope st) f cdv A outer s H E) (defBody st) t ∧
        t { nx := fun _ H' => Q .non H', rt := Q } (start N vs) H) : FnG P w K mg base CX (k + 1) f fd ps sp := by
  obtain ⟨oc, od, kV, doc, pm, an, cdv, ct, osl, rfl, lk, hcd⟩ := F.ex
  refine ⟨len, fun {A outer s H args us vs Q E} hgd hr e0 hb hv hsp => ?_⟩
  have kept : ∀ b o, base.get? b = some o → s.heap.get? b = some o := fun b o e => (e0.bs b o e).1
  have KX := e0.mod.kin.keeps kept
  have noLim := e0.mod.nolimit.keeps kept
  refine codeAny_call_function hr.depth (KX _ _ lk) rfl S.co S.gen rfl (PySem.W.codeRec_of KX hcd) (hb _ _ _ _ ?_)
  refine wpAny_newFunctionEnv_cells S.kind (fun y hy => ?_) fun env he s1 hx => ?_
  · rcases S.par y.1 (List.of_mem_zip (show (y.1, y.2) ∈ ps.zip us from hy)).1 with q | q
    · exact Or.inl q
    · exact Or.inr ⟨q, PySem.W.cellsFrom_some _ _ _ (Or.inl q)⟩
  cases he
  refine ⟨noLim.keeps hx.toInCall.keep, codeAny_func ?_⟩
  obtain ⟨t, ht, hq⟩ := hbody cdv A outer s H vs Q E hgd (hr.deeper _) hsp
  have I := inv_start (CX := CX) (N := N) (E := E) S hr.hd e0 (len _ _ _ _ hsp) hv hx
  refine wpAny_mono (ht.run [] s1 _ H _ I hq) (fun fl s' hs => ?_) (fun _ _ h => h)
  cases fl with
  | ret u =>
    obtain ⟨v, σ', H', J, rv, q⟩ := hs
    exact ⟨v, H', J.os, J.bare, J.base, J.hok, rv, q⟩
  | next =>
    obtain ⟨σ', H', J, q⟩ := hs
    exact ⟨V.non, H', J.os, J.bare, J.base, J.hok, rfl, q⟩
  | brk => exact hs.elim fun _ h => h.elim fun _ h => h.2.elim
  | cont => exact hs.elim fun _ h => h.elim fun _ h => h.2.elim

section
variable {X : Cx} {CX : CXT} {k : Nat} {f : Addr} {fd : FuncData} {ps : List Str} {sp : Sp} {dvs : List V} {ds : List Value} {E : XK}
  {x : Str} {p pos : Pos} {e : Expr} {es : List Expr} {t : TA}
theorem pe_callG (F : FnG X.prog X.w X.K X.mg X.base CX k f fd ps sp) (hgd : X.A.guards = some []) (hr : Room k X.A) (hg : Gl X x)
    (hm : X.mg x = some (.ref f)) (hk : PySem.W.keepIn X.K (.ref f) = true) (hb : Binds X.K fd ps ds) (hd : Vals dvs ds) (hx : Passes CX X E)
    (ha : PA X (e :: es) t) (hdb : (x == ("__debug__" : Str)) = false := by decide)
    (he : starEach (e :: es) X.env = (false, eval e X.env) :: starEach es X.env := by rfl)
    (hpl : (backTo pos (starEach es X.env)).any (·.1) = false := by rfl) :
    PE X (.Call (.Name x p) (e :: es) [] pos) (tCall sp dvs E t) := by
  refine ⟨fun pins s σ H Q I h => wpAny_Call_Name_kw (ld_glob I hg hm ?_ hdb)⟩
  refine PySem.W.callWith_K (h₀ := X.base) I.ok.mod.kin hk (thn (ha.run pos pins s σ H _ I h) ?_) he hpl
  rintro us s1 ⟨vs, H1, J, r, q⟩
  refine ⟨J.kIn, ?_⟩
  have r2 : Vals (vs ++ dvs) (us ++ ds) := r.append hd
  have hl : (us ++ ds).length = ps.length := r2.length.symm.trans (F.len _ _ _ _ q)
  refine wpAny_call (codeAny_mono (F.go hgd hr J.env0 (hb s1 us J.kIn hl) r2 q) ?_)
  intro res s2 hq
  match res, hq with
  | .error er, hq => exact hx pins σ H1 s1 er s2 J hq
  | .ok (.ret u), hq => exact J.after hq
  | .ok .next, hq => exact hq.elim
  | .ok .brk, hq => exact hq.elim
  | .ok .cont, hq => exact hq.elim

end

/-! ### repr of data -/
theorem call_repr {X : Cx} {k : Nat} (hgd : X.A.guards = some []) (hr : Room k X.A) : CallR X (.builtin "repr")
    (fun xs H Q => ∃ a d, xs = [.ref a] ∧ Dp X.K H (.ref a) d ∧ d.showable = true ∧ d.hasDict = false ∧ d.depth ≤ 100 ∧
      d.shown.length ≤ sizeLine ∧ Q (.str d.shown) H) := by
  intro pins s σ H xs us Q I r h
  obtain ⟨a, d, rfl, hd, hs, hn, hdp, hz, q⟩ := h
  obtain ⟨u, rfl, rr⟩ := vals1 r
  cases rr
  obtain ⟨as, rd⟩ := Dp.reads I d _ _ hd rfl
  have hu := hr.un
  refine repr_of_reads' rd hs (fun e => by rw [hn] at e; cases e) hgd (by omega) (fun _ _ e => e) (fun h' u tk hk => ?_) hz
  exact ⟨.str _, H, I.kept (t' := tk) hk, ⟨_, rfl⟩, q⟩
end PK
namespace PK
open PySem PySem.Spec PyProof.Rows L2
section
open PySem.SeqAt
open PySem.AutoSeq1 (wpAny_loadPart')
open PySem.MeetsSeq PySem.MeetsSeq2 PySem.MeetsSeq3

end

section
variable {X : Cx}
end

/-! ### t[::-1] -/
section
variable {prog : Program} {w : World} {A : Around} {E : Value → Shared → Prop} {s : Shared}
theorem places_rev (n : Nat) : Builtin.Slice.slicePlaces ((n : Int) - 1) (-1) (-1) = n := by
  unfold Builtin.Slice.slicePlaces
  have h1 : ¬ ((-1 : Int) > 0) := by omega
  simp only [h1, if_false]
  by_cases h : (n : Int) - 1 > -1
  · rw [if_pos h]
    have e : ((n : Int) - 1 - -1 - 1) / (- -1) = (n : Int) - 1 := by
      rw [Int.neg_neg, Int.ediv_one]
      omega
    rw [e]
    omega
  · rw [if_neg h]
    omega
theorem fm_congr {α β : Type} {f g : α → Option β} : ∀ {l : List α}, (∀ k ∈ l, f k = g k) → l.filterMap f = l.filterMap g
  | [], _ => rfl
  | x :: l, h => by
    rw [List.filterMap_cons, List.filterMap_cons, h x List.mem_cons_self, fm_congr fun k hk => h k (List.mem_cons_of_mem _ hk)]
theorem range_pick {α : Type} : ∀ l : List α, (List.range l.length).filterMap (fun k => l[k]?) = l
  | [] => rfl
  | a :: l => by
    rw [List.length_cons, List.range_succ_eq_map, List.filterMap_cons, List.filterMap_map]
    have e : ((fun k => (a :: l)[k]?) ∘ Nat.succ) = fun k => l[k]? := by
      funext k
      rfl
    rw [e, range_pick l]
    rfl
theorem pick_rev (xs : Array Value) : ((List.range xs.size).filterMap fun (k : Nat) => xs[(((xs.size : Int) - 1) + (k : Int) * (-1)).toNat]?).toArray = xs.toList.reverse.toArray := by
  congr 1
  have el : xs.size = xs.toList.reverse.length := by simp
  have e1 : ((List.range xs.size).filterMap fun (k : Nat) => xs[(((xs.size : Int) - 1) + (k : Int) * (-1)).toNat]?) = (List.range xs.size).filterMap fun k => xs.toList.reverse[k]? := by
    refine fm_congr fun k hk => ?_
    have hk' := List.mem_range.mp hk
    rw [List.getElem?_reverse (by simpa using hk')]
    have e2 : (((xs.size : Int) - 1) + (k : Int) * (-1)).toNat = xs.toList.length - 1 - k := by
      rw [Array.length_toList]
      omega
    rw [e2, Array.getElem?_toList]
  rw [e1, el]
  exact range_pick _
theorem applied_rev {sl : Addr} {n : Nat} {vl vu vs : Value} {R : Int × Int × Nat → Shared → Prop} (hs : s.heap.IsSliceOf sl vl vu vs)
    (pl : IsPart vl none) (pu : IsPart vu none) (pv : IsPart vs (some (-1))) (hR : R ((n : Int) - 1, -1, n) s) :
    wpAny (model prog w) A (Builtin.Slice.sliceApplied (.ref sl) (pure (n : Int))) R E s := by
  obtain ⟨os, hos, hcs, hds⟩ := id hs
  unfold Builtin.Slice.sliceApplied Builtin.Slice.sliceFields
  refine wpAny_bind (wpAny_bind (wpAny_field hos hds (x := vl) rfl (wpAny_bind (wpAny_field hos hds (x := vu) rfl (wpAny_bind (wpAny_field hos hds (x := vs) rfl (wpAny_pure ?_)))))))
  refine wpAny_bind (HT.slicePart_ pv ?_)
  show wpAny _ _ (if ((-1 : Int) == 0) = true then _ else _) _ _ s
  rw [if_neg (by decide)]
  refine wpAny_bind (HT.slicePart_ pl (wpAny_bind (HT.slicePart_ pu (wpAny_bind (wpAny_pure ?_)))))
  show wpAny _ _ (pure ((n : Int) - 1, (-1 : Int), Builtin.Slice.slicePlaces ((n : Int) - 1) (-1) (-1))) _ _ s
  rw [places_rev]
  exact wpAny_pure hR
theorem getItem_tup_rev {t sl : Addr} {items : Array Value} {vl vu vs : Value} {Q : Value → Shared → Prop} (ht : IsTup s.heap t items)
    (hs : s.heap.IsSliceOf sl vl vu vs) (pl : IsPart vl none) (pu : IsPart vu none) (pv : IsPart vs (some (-1)))
    (h : Q (.ref s.heap.objs.size) { s with heap := s.heap.push { cls := .type "tuple", data := .seq items.toList.reverse.toArray } })
    (hsz : items.size ≤ sizeLine) : wpAny (model prog w) A (getItem (.ref t) (.ref sl)) Q E s := by
  have htake : sizeOk (.seq items.toList.reverse.toArray) := by
    show items.toList.reverse.toArray.size ≤ sizeLine
    rw [List.size_toArray, List.length_reverse, Array.length_toList]
    exact hsz
  obtain ⟨os, hos, hcs, hds⟩ := id hs
  have hTs : s.TypeIs (.ref sl) "slice" := ⟨os, hos, hcs⟩
  unfold getItem
  try with_reducible refine wpAny_holding ?_
  first | refine wpAny_bind (wpAny_pure ?_) | skip
  refine wpAny_bind (wpAny_sequenceKey ht.typeIs (by decide) ?_)
  refine wpAny_bind (wpAny_callSpecial?_slot (name := Str.ofString "__getitem__") ht.typeIs PyProof.Rows.slot_tuple_getitem
    (wpAny_call_entry PyProof.Rows.slot_tuple_getitem ht.typeIs entry_tuple_getitem ?_ (args_tuple_getitem _ _)))
  show wpAny _ _ (Builtin.Tuple.tupleItemsOf (.ref t) >>= _) _ _ s
  refine wpAny_bind (tupleItemsOf_ ht (wpAny_bind (wpAny_typeOf hTs ?_)))
  rw [if_pos (by decide)]
  refine wpAny_bind (applied_rev hs pl pu pv ?_)
  have hno : ¬ ((((items.size : Int) - 1) == 0 && (-1 : Int) == 1 && items.size == items.size) = true) := by
    intro q
    rw [Bool.and_eq_true, Bool.and_eq_true] at q
    exact absurd q.1.2 (by decide)
  show wpAny _ _ (if (((items.size : Int) - 1) == 0 && (-1 : Int) == 1 && items.size == items.size) = true then _ else _) _ _ s
  rw [if_neg hno, pick_rev]
  first
    | exact wpAny_bind (m := Builtin.Tuple.tupleExact _) (wpAny_newObj_type (wpAny_pure ⟨_, rfl, wpAny_pure h⟩) htake)
    | exact wpAny_bind (wpAny_bind (m := Builtin.Tuple.tupleExact _) (wpAny_newObj_type (wpAny_pure ⟨_, rfl, wpAny_pure h⟩) htake))
end
section
variable {X : Cx}
def tRevT (K : PySem.W.Frag) (te : TE) : TE := fun σ H Q => te σ H fun x H1 => ∃ a xs, x = .ref a ∧ SqT K H1 a xs ∧
  ∀ p, H1 p = none → Q (.ref p) (upd H1 p (.tup xs.reverse))
theorem pe_revT {e : Expr} {te : TE} {k : Nat} {p1 p2 p3 pos : Pos} (he : PE X e te) :
    PE X (.Subscript e (.Slice none none (some (.UnaryOp .USub (.Constant (.int 1) k p1) p2)) p3) pos) (tRevT X.K te) := by
  refine ⟨fun pins s σ H Q I h => Subscript_ (thn (he.run pins s σ H _ I h) ?_)⟩
  rintro v s1 ⟨x, H1, I1, r1, a, xs, rfl, hx, q⟩
  cases r1
  have hst : PO X (some (.UnaryOp .USub (.Constant (.int 1) k p1) p2)) (tPart (tUn (rU fun i => .int (-i)) (tC (.int 1)))) := po_some (pe_un un_neg pe_int)
  refine wpAny_Slice (thn (po_none.run pins s1 σ H1 (fun o H' => o = none ∧ H' = H1) I1 ⟨rfl, rfl⟩) ?_)
  rintro vl s2 ⟨l, H2, I2, pl, rfl, rfl⟩
  refine thn (po_none.run pins s2 σ H2 (fun o H' => o = none ∧ H' = H2) I2 ⟨rfl, rfl⟩) ?_
  rintro vu s3 ⟨u, H3, I3, pu, rfl, rfl⟩
  refine thn (hst.run pins s3 σ H3 (fun o H' => o = some (-1) ∧ H' = H3) I3 ⟨1, rfl, -1, rfl, rfl, rfl⟩) ?_
  rintro vs s4 ⟨o, H4, I4, ps, rfl, rfl⟩
  have I5 : Inv X pins σ H4 { s4 with heap := s4.heap.push { cls := .type "slice", data := .fields #[vl, vu, vs] } } :=
    I4.kept (t' := s4.toks) fun b ob q => Heap.get?_push_of_some _ q
  obtain ⟨its, r, ht, hz⟩ := I5.tuple hx
  have hlen := r.length
  show wpAny (model X.prog X.w) X.A (subscriptTail e _ (.ref a) (.ref s4.heap.objs.size)) _ _ _
  refine tail_any (ops := [.ref a, .ref s4.heap.objs.size]) ht.typeIs (PyProof.Rows.slot_tuple_getitem.lookup) ?_ (by with_unfolding_all rfl)
  refine getItem_tup_rev ht (Heap.IsSliceOf.new _ vl vu vs) pl pu ps ?_ (by rw [List.size_toArray]; omega)
  refine ⟨.ref _, _, I5.laid (t' := s4.toks) (o := .tup xs.reverse) (fun b ob q => Heap.get?_push_of_some _ q) (Nat.le_refl _) ?_, rfl, q _ (I5.hok.fresh (Nat.le_refl _))⟩
  refine ⟨by rw [List.length_reverse]; exact hz, its.reverse, r.reverse, ⟨_, Heap.get?_push_size _ rfl, rfl, 0, rfl⟩⟩
end

/-! ### xs != [], xs == [] -/
section
open PySem.SeqAt
open PySem.AutoSeq1 (wpAny_loadPart')
open PySem.MeetsSeq PySem.MeetsSeq2 PySem.MeetsSeq3
theorem list_ne_sizes (l b : Addr) (xs ys : Array Value) (n m : Nat) (sl sl2 : Array (Option Value)) (hc : (xs.size != ys.size) = true) :
    Meets (Builtin.«list.__ne__» ⟨[.ref l, .ref b], []⟩)
      (fun _ R s => s.heap.get? l = some { cls := .type "list", dict := none, data := .seq xs n, slots := sl } ∧
        s.heap.get? b = some { cls := .type "list", dict := none, data := .seq ys m, slots := sl2 } ∧ R (.ok (.ret (.bool true))) s) :=
  .of_wp fun prog w A R s h => by
    obtain ⟨hp, g, d, tk, os⟩ := s
    obtain ⟨hl, hb, h⟩ := h
    have f3 := AutoSeq1.sub_list_list
    wp_walk using wpAny_loadPart' hl, wpAny_loadPart' hb
    exact ⟨_, rfl, h⟩
end
section
variable {X : Cx}
def rNeNil (K : PySem.W.Frag) : R2 := fun x y H Q => ∃ a b xs, x = .ref a ∧ y = .ref b ∧ SqL K H a xs ∧ SqL K H b [] ∧ Q (.bl (!xs.isEmpty)) H
theorem op_neNil {k : Nat} (hr : Room k X.A) : OpR X (compareOp .NotEq) (rNeNil X.K) := by
  intro pins s σ H x y v u Q I rx ry h
  obtain ⟨a, b, xs, rfl, rfl, ha, hb, q⟩ := h
  cases xs with
  | nil => exact op_neD hr.units pins s σ H _ _ v u Q I rx ry ⟨.list [], .list [], .lst ha .nil, .lst hb .nil, rfl, rfl, q⟩
  | cons z zs =>
    cases rx
    cases ry
    obtain ⟨its, r, ⟨⟨cls, dd, data, sl⟩, n, ho, hc, hdd, hd⟩, _⟩ := I.list ha
    obtain ⟨jts, r2, ⟨⟨cls2, dd2, data2, sl2⟩, n2, ho2, hc2, hdd2, hd2⟩, _⟩ := I.list hb
    simp only at hc hd hdd hc2 hd2 hdd2
    subst hc hd hdd hc2 hd2 hdd2
    cases r2
    have hz : (its.toArray.size != ([] : List Value).toArray.size) = true := by
      rw [List.size_toArray, ← r.length]
      rfl
    exact richCompare_meets_room (op := .NotEq) ⟨_, ho, rfl⟩ ⟨_, ho2, rfl⟩ PySem.F.slot_list_ne PySem.F.entry_list_ne (PySem.F.args_list_ne_2 _ _)
      (list_ne_sizes a b its.toArray ([] : List Value).toArray n n2 sl sl2 hz) ⟨ho, ho2, (fun z => nomatch z), ⟨.bl true, H, I, rfl, q⟩⟩ hr.units0
end
end PK
namespace PK
open PySem PySem.Spec PyProof.Rows L2

/-- a def that may be called: its promise, its name, how its arguments come -/
structure Cal (P : Program) (w : World) (K : PySem.W.Frag) (mg : Str → Option Value) (base : Heap) (k : Nat) (x : Str) (f : Addr)
    (fd : FuncData) (ps : List Str) (sp : Sp) : Prop where
  ok : FnOk P w K mg base CX0 k f fd ps sp
  g : mg x = some (.ref f)
  kp : PySem.W.keepIn K (.ref f) = true
  b : Binds K fd ps []
structure CalG (P : Program) (w : World) (K : PySem.W.Frag) (mg : Str → Option Value) (base : Heap) (k : Nat) (x : Str) (f : Addr)
    (fd : FuncData) (ps : List Str) (sp : Sp) : Prop where
  ok : FnG P w K mg base CX0 k f fd ps sp
  g : mg x = some (.ref f)
  kp : PySem.W.keepIn K (.ref f) = true
  b : Binds K fd ps []

/-! ### the heap but for one object -/
/-- all that was tracked, but the object at a, is as it was -/
def Ext (a : Addr) (H H' : Hp) : Prop := ∀ b o, H b = some o → b ≠ a → H' b = some o
theorem Ext.refl (a : Addr) (H : Hp) : Ext a H H := fun _ _ h _ => h
theorem Ext.trans {a : Addr} {H H1 H2 : Hp} (x : Ext a H H1) (y : Ext a H1 H2) : Ext a H H2 := fun b o h n => y b o (x b o h n) n
theorem Ext.of {a : Addr} {H H' : Hp} (x : Same H H') : Ext a H H' := fun b o h _ => x b o h
theorem Ext.new {a p : Addr} {H H1 : Hp} {o : HO} (x : Ext a H H1) (np : H1 p = none) : Ext a H (upd H1 p o) := fun b u h n => by
  have h1 := x b u h n
  rw [upd_ne (ne_of_none h1 np)]
  exact h1
theorem Ext.at {a : Addr} {H H1 : Hp} {o : HO} (x : Ext a H H1) : Ext a H (upd H1 a o) := fun b u h n => by
  rw [upd_ne n]
  exact x b u h n
/-- a new object of ours changes -/
theorem Ext.own {a p : Addr} {H H1 : Hp} {o : HO} (x : Ext a H H1) (np : H p = none) : Ext a H (upd H1 p o) := fun b u h n => by
  rw [upd_ne (ne_of_none h np)]
  exact x b u h n
theorem Ext.free {a p : Addr} {H H1 : Hp} (x : Ext a H H1) (np : H1 p = none) (ne : p ≠ a) : H p = none := by
  cases q : H p with
  | none => rfl
  | some o =>
    rw [x p o q ne] at np
    cases np
theorem same_new {H H1 : Hp} {p : Addr} {o : HO} (x : Same H H1) (np : H1 p = none) : Same H (upd H1 p o) := fun b u h => by
  have h1 := x b u h
  rw [upd_ne (ne_of_none h1 np)]
  exact h1
theorem same_own {H H1 : Hp} {p : Addr} {o : HO} (x : Same H H1) (np : H p = none) : Same H (upd H1 p o) := fun b u h => by
  rw [upd_ne (ne_of_none h np)]
  exact x b u h

/-! ### what the law draws from -/
abbrev kC : Key := Sum.inr "cells"
abbrev kA : Key := Sum.inr "at"
abbrev kL : Key := Sum.inr "left"
abbrev kN : Key := Sum.inr "count"
def feed (c : Addr) (i l n : Int) : List (Key × V) := [(kC, .ref c), (kA, .int i), (kL, .int l), (kN, .int n)]
theorem feed_putA (c : Addr) (i l n j : Int) : putK (feed c i l n) kA (.int j) = feed c j l n := rfl
theorem feed_putL (c : Addr) (i l n j : Int) : putK (feed c i l n) kL (.int j) = feed c i j n := rfl
theorem feed_putN (c : Addr) (i l n j : Int) : putK (feed c i l n) kN (.int j) = feed c i l j := rfl
theorem feed_len (c : Addr) (i l n : Int) : (feed c i l n).length < sizeLine := by
  show 4 < sizeLine
  decide
theorem feed_merge (c : Addr) (i l n : Int) : mergeK [] (feed c i l n) = feed c i l n := rfl
/-- the feed at a: cells, all of them ints, and three numbers -/
structure Feed (H : Hp) (a : Addr) (c : Addr) (cs : List Int) (i l n : Int) : Prop where
  d : H a = some (.dK (feed c i l n))
  l : H c = some (.lst (cs.map V.int))
  i0 : 0 ≤ i
theorem Feed.ne {H : Hp} {a c : Addr} {cs : List Int} {i l n : Int} (f : Feed H a c cs i l n) : c ≠ a := ne_of f.l f.d (by intro z; cases z)
def IsFeed (H : Hp) (a c : Addr) : Prop := ∃ cs i l n, Feed H a c cs i l n
theorem Feed.new {H : Hp} {a c p : Addr} {cs : List Int} {i l n : Int} {o : HO} (f : Feed H a c cs i l n) (np : H p = none) : Feed (upd H p o) a c cs i l n :=
  ⟨by rw [upd_ne (ne_of_none f.d np)]; exact f.d, by rw [upd_ne (ne_of_none f.l np)]; exact f.l, f.i0⟩
theorem Feed.put {H : Hp} {a c : Addr} {cs : List Int} {i l n i' l' n' : Int} (f : Feed H a c cs i l n) (h : 0 ≤ i') : Feed (upd H a (.dK (feed c i' l' n'))) a c cs i' l' n' :=
  ⟨upd_same, by rw [upd_ne f.ne]; exact f.l, h⟩
theorem IsFeed.new {H : Hp} {a c p : Addr} {o : HO} (f : IsFeed H a c) (np : H p = none) : IsFeed (upd H p o) a c := by
  obtain ⟨cs, i, l, n, f⟩ := f
  exact ⟨cs, i, l, n, f.new np⟩
theorem IsFeed.keep {H H' : Hp} {a c : Addr} (f : IsFeed H a c) (h : Same H H') : IsFeed H' a c := by
  obtain ⟨cs, i, l, n, f⟩ := f
  exact ⟨cs, i, l, n, h _ _ f.d, h _ _ f.l, f.i0⟩
theorem IsFeed.some {H : Hp} {a c : Addr} (f : IsFeed H a c) : ∃ o, H a = some o := by
  obtain ⟨cs, i, l, n, f⟩ := f
  exact ⟨_, f.d⟩
theorem IsFeed.ne {H : Hp} {a c p : Addr} (f : IsFeed H a c) (np : H p = none) : p ≠ a ∧ p ≠ c := by
  obtain ⟨cs, i, l, n, f⟩ := f
  exact ⟨(ne_of_none f.d np).symm, (ne_of_none f.l np).symm⟩
/-- an object of ours that is neither the feed nor its cells changes -/
theorem IsFeed.own {H : Hp} {a c p : Addr} {o : HO} (f : IsFeed H a c) (h : p ≠ a ∧ p ≠ c) : IsFeed (upd H p o) a c := by
  obtain ⟨cs, i, l, n, f⟩ := f
  exact ⟨cs, i, l, n, by rw [upd_ne h.1.symm]; exact f.d, by rw [upd_ne h.2.symm]; exact f.l, f.i0⟩

/-- a draw: any number below the second -/
def spDraw : Sp := fun vs H Q _ => ∃ (a c : Addr) (m : Int), vs = [.ref a, .int m] ∧ IsFeed H a c ∧ 0 < m ∧ m ≤ 1000000 ∧
  ∀ (r : Int) (H' : Hp), 0 ≤ r → r < m → Ext a H H' → IsFeed H' a c → Q (.int r) H'

end PK
namespace PK
open PySem PySem.Spec PyProof.Rows L2
/-- a small letter; a word: one to eight of them -/
def Lw (c : Nat) : Prop := 97 ≤ c ∧ c ≤ 122
structure Word (y : Str) : Prop where
  one : 1 ≤ y.length
  eight : y.length ≤ 8
  low : ∀ c ∈ y.cps.toList, Lw c
abbrev abc : Str := "abcdefghijklmnopqrstuvwxyz"
theorem abc_list : abc.cps.toList = List.range' 97 26 := by decide +kernel
theorem abc_len : abc.length ≤ sizeLine := by decide +kernel
theorem abc_at {i : Int} (h0 : 0 ≤ i) (h1 : i < 26) : ∃ c, atI abc.cps.toList i = some c ∧ Lw c := by
  refine ⟨97 + i.toNat, ?_, by omega, by omega⟩
  rw [abc_list]
  obtain ⟨n, rfl⟩ := Int.eq_ofNat_of_zero_le h0
  refine atI_nat ?_
  rw [Int.toNat_natCast, List.getElem?_range' (by omega)]
  rw [Nat.one_mul]
theorem len_one (c : Nat) : (⟨#[c]⟩ : Str).length = 1 := rfl
/-- a sign behind a word -/
theorem word_snoc {y : Str} {c : Nat} (h : Word y) (h8 : y.length < 8) (hc : Lw c) : Word (y ++ ⟨#[c]⟩) := by
  refine ⟨?_, ?_, fun d hd => ?_⟩
  · rw [strLen_append, len_one]; omega
  · rw [strLen_append, len_one]; omega
  · rw [mem_cps_append] at hd
    rcases hd with z | z
    · exact h.low d z
    · have e : d = c := by simpa using z
      rw [e]; exact hc
/-- a sign, and up to seven behind it -/
theorem word_join {c : Nat} {l : List Nat} (hc : Lw c) (hl : l.length ≤ 7) (h : ∀ d ∈ l, Lw d) : Word (⟨#[c]⟩ ++ Txt.join ⟨#[]⟩ (l.map fun k => (⟨#[k]⟩ : Str))) := by
  rw [TL.join_eq, join_ones]
  have e : (⟨l.toArray⟩ : Str).length = l.length := by simp [Str.length]
  refine ⟨?_, ?_, fun d hd => ?_⟩
  · rw [strLen_append, len_one]; omega
  · rw [strLen_append, len_one, e]; omega
  · rw [mem_cps_append] at hd
    rcases hd with z | z
    · have e : d = c := by simpa using z
      rw [e]; exact hc
    · exact h d (by simpa using z)

end PK
namespace PK
open PySem PySem.Spec PyProof.Rows L2
end PK
namespace PK
open PySem PySem.Spec PyProof.Rows L2

/-! ### what never changes: tuples -/
def Tk : HO → Prop
  | .tup _ => True
  | .frz _ _ => True
  | _ => False
/-- the tuples (and what is locked) stay -/
def TKeep (H H' : Hp) : Prop := ∀ b u, Tk u → H b = some u → H' b = some u
theorem TKeep.refl (H : Hp) : TKeep H H := fun _ _ _ h => h
theorem TKeep.trans {H H1 H2 : Hp} (x : TKeep H H1) (y : TKeep H1 H2) : TKeep H H2 := fun b u t h => y b u t (x b u t h)
theorem TKeep.of {H H' : Hp} (x : Same H H') : TKeep H H' := fun b u _ h => x b u h
theorem TKeep.new {H : Hp} {p : Addr} {o : HO} (np : H p = none) : TKeep H (upd H p o) := fun b u _ h => by
  rw [upd_ne (ne_of_none h np)]
  exact h
theorem TKeep.lst {H : Hp} {p : Addr} {xs : List V} {o : HO} (hp : H p = some (.lst xs)) : TKeep H (upd H p o) := fun b u t h => by
  rw [upd_ne (ne_of h hp (by rintro rfl; exact t))]
  exact h
theorem TKeep.ext {H H' : Hp} {a : Addr} {kv : List (Key × V)} (ha : H a = some (.dK kv)) (x : Ext a H H') : TKeep H H' := fun b u t h =>
  x b u h (ne_of h ha (by rintro rfl; exact t))
theorem TKeep.feed {H H' : Hp} {a c : Addr} (f : IsFeed H a c) (x : Ext a H H') : TKeep H H' := by
  obtain ⟨cs, i, l, n, f⟩ := f
  exact TKeep.ext f.d x
theorem TKeep.sq {K : PySem.W.Frag} {H H' : Hp} {b : Addr} {xs : List V} (x : TKeep H H') (h : SqT K H b xs) : SqT K H' b xs := by
  rcases h with (h | ⟨o, h⟩) | h
  · exact Or.inl (Or.inl (x _ _ trivial h))
  · exact Or.inl (Or.inr ⟨o, x _ _ trivial h⟩)
  · exact Or.inr h
mutual
/-- data without lists and dicts -/
def flatT : PyData → Bool
  | .none | .bool _ | .int _ | .str _ => true
  | .tuple xs => flatTs xs
  | _ => false
def flatTs : List PyData → Bool
  | [] => true
  | x :: xs => flatT x && flatTs xs
end
mutual
theorem Dp.keepT {K : PySem.W.Frag} {H H' : Hp} (x : TKeep H H') : ∀ {d : PyData} {v : V}, flatT d = true → Dp K H v d → Dp K H' v d
  | .none, _, _, .non => .non
  | .bool _, _, _, .bl b => .bl b
  | .int _, _, _, .int i => .int i
  | .str _, _, _, .str y => .str y
  | .list _, _, h, _ => by simp [flatT] at h
  | .dict _, _, h, _ => by simp [flatT] at h
  | .tuple ds, _, h, .tup hs ha => .tup (x.sq hs) (DpAll.keepT x (by simpa [flatT] using h) ha)
theorem DpAll.keepT {K : PySem.W.Frag} {H H' : Hp} (x : TKeep H H') : ∀ {ds : List PyData} {vs : List V}, flatTs ds = true → DpAll K H vs ds → DpAll K H' vs ds
  | [], _, _, .nil => .nil
  | d :: ds, _, h, .cons h1 h2 => by
    have h' : flatT d = true ∧ flatTs ds = true := by simpa [flatTs] using h
    exact .cons (Dp.keepT x h'.1 h1) (DpAll.keepT x h'.2 h2)
end
mutual
theorem Dp.same {K : PySem.W.Frag} {H H' : Hp} (x : Same H H') : ∀ {d : PyData} {v : V}, Dp K H v d → Dp K H' v d
  | .none, _, .non => .non
  | .bool _, _, .bl b => .bl b
  | .int _, _, .int i => .int i
  | .str _, _, .str y => .str y
  | .list ds, _, .lst hs ha => .lst (x.seq hs) (DpAll.same x ha)
  | .tuple ds, _, .tup hs ha => .tup ((TKeep.of x).sq hs) (DpAll.same x ha)
theorem DpAll.same {K : PySem.W.Frag} {H H' : Hp} (x : Same H H') : ∀ {ds : List PyData} {vs : List V}, DpAll K H vs ds → DpAll K H' vs ds
  | [], _, .nil => .nil
  | d :: ds, _, .cons h1 h2 => .cons (Dp.same x h1) (DpAll.same x h2)
end
theorem DpAll.len {K : PySem.W.Frag} {H : Hp} : ∀ {vs : List V} {ds : List PyData}, DpAll K H vs ds → vs.length = ds.length
  | _, _, .nil => rfl
  | _, _, .cons _ h => by rw [List.length_cons, List.length_cons, DpAll.len h]
theorem DpAll.snoc {K : PySem.W.Frag} {H : Hp} {v : V} {d : PyData} (h : Dp K H v d) : ∀ {vs : List V} {ds : List PyData}, DpAll K H vs ds → DpAll K H (vs ++ [v]) (ds ++ [d])
  | _, _, .nil => .cons h .nil
  | _, _, .cons h1 h2 => .cons h1 (DpAll.snoc h h2)
theorem DpAll.app {K : PySem.W.Frag} {H : Hp} : ∀ {vs us : List V} {ds es : List PyData}, DpAll K H vs ds → DpAll K H us es → DpAll K H (vs ++ us) (ds ++ es)
  | _, _, _, _, .nil, h => h
  | _, _, _, _, .cons h1 h2, h => .cons h1 (DpAll.app h2 h)
theorem DpAll.get {K : PySem.W.Frag} {H : Hp} : ∀ {vs : List V} {ds : List PyData} {i : Nat} {d : PyData}, DpAll K H vs ds → ds[i]? = some d → ∃ v, vs[i]? = some v ∧ Dp K H v d
  | _, _, _, _, .nil, h => by simp at h
  | _, _, 0, _, .cons h1 _, h => ⟨_, rfl, by
    have e := Option.some.inj h
    rw [← e]; exact h1⟩
  | _, _, i + 1, _, .cons _ h2, h => by
    obtain ⟨v, e, r⟩ := DpAll.get (i := i) h2 (by simpa using h)
    exact ⟨v, by simpa using e, r⟩
theorem DpAll.getV {K : PySem.W.Frag} {H : Hp} : ∀ {vs : List V} {ds : List PyData} {i : Nat} {v : V}, DpAll K H vs ds → vs[i]? = some v → ∃ d, ds[i]? = some d ∧ Dp K H v d
  | _, _, _, _, .nil, h => by simp at h
  | _, _, 0, _, .cons h1 _, h => ⟨_, rfl, by
    have e := Option.some.inj h
    rw [← e]; exact h1⟩
  | _, _, i + 1, _, .cons _ h2, h => by
    obtain ⟨v, e, r⟩ := DpAll.getV (i := i) h2 (by simpa using h)
    exact ⟨v, by simpa using e, r⟩
theorem DpAll.take {K : PySem.W.Frag} {H : Hp} : ∀ (n : Nat) {vs : List V} {ds : List PyData}, DpAll K H vs ds → DpAll K H (vs.take n) (ds.take n)
  | 0, _, _, _ => .nil
  | _ + 1, _, _, .nil => .nil
  | n + 1, _, _, .cons h1 h2 => .cons h1 (DpAll.take n h2)
theorem DpAll.rev {K : PySem.W.Frag} {H : Hp} : ∀ {vs : List V} {ds : List PyData}, DpAll K H vs ds → DpAll K H vs.reverse ds.reverse
  | _, _, .nil => .nil
  | _, _, .cons h1 h2 => by
    rw [List.reverse_cons, List.reverse_cons]
    exact DpAll.snoc h1 (DpAll.rev h2)
theorem DpAll.ints {K : PySem.W.Frag} {H : Hp} : ∀ ns : List Int, DpAll K H (ns.map V.int) (ns.map PyData.int)
  | [] => .nil
  | n :: ns => .cons (.int n) (DpAll.ints ns)
theorem DpAll.of_ints {K : PySem.W.Frag} {H : Hp} : ∀ {ns : List Int} {vs : List V}, DpAll K H vs (ns.map PyData.int) → vs = ns.map V.int
  | [], _, .nil => rfl
  | n :: ns, _, .cons (.int _) h => by rw [DpAll.of_ints h]; rfl
theorem DpAll.of_strs {K : PySem.W.Frag} {H : Hp} : ∀ {ns : List Str} {vs : List V}, DpAll K H vs (ns.map PyData.str) → vs = ns.map V.str
  | [], _, .nil => rfl
  | n :: ns, _, .cons (.str _) h => by rw [DpAll.of_strs h]; rfl
theorem Dp.tupE {K : PySem.W.Frag} {H : Hp} {v : V} {ds : List PyData} (h : Dp K H v (.tuple ds)) : ∃ b xs, v = .ref b ∧ SqT K H b xs ∧ DpAll K H xs ds := by
  cases h with
  | tup hs ha => exact ⟨_, _, rfl, hs, ha⟩
theorem Dp.lstE {K : PySem.W.Frag} {H : Hp} {v : V} {ds : List PyData} (h : Dp K H v (.list ds)) : ∃ b xs, v = .ref b ∧ SqL K H b xs ∧ DpAll K H xs ds := by
  cases h with
  | lst hs ha => exact ⟨_, _, rfl, hs, ha⟩

/-! ### what can be shown, how deep and how long it is -/
structure Sh (d : PyData) (dp n : Nat) : Prop where
  ok : d.showable = true
  nd : d.hasDict = false
  dep : d.depth ≤ dp
  len : d.shown.length ≤ n
theorem Sh.mono {d : PyData} {a b n m : Nat} (h : Sh d a n) (h1 : a ≤ b) (h2 : n ≤ m) : Sh d b m := ⟨h.ok, h.nd, Nat.le_trans h.dep h1, Nat.le_trans h.len h2⟩
theorem Sh.all {dp n : Nat} : ∀ {ds : List PyData}, (∀ d ∈ ds, Sh d dp n) → PyData.showableAll ds = true ∧ PyData.hasDictAll ds = false ∧
    PyData.depthAll ds ≤ dp ∧ ((PyData.shownAll ds).map (·.length)).sum ≤ ds.length * n ∧ (PyData.shownAll ds).length = ds.length
  | [], _ => ⟨rfl, rfl, Nat.zero_le _, Nat.zero_le _, rfl⟩
  | d :: ds, h => by
    obtain ⟨h1, h2, h3, h4, h5⟩ := Sh.all (ds := ds) fun e he => h e (List.mem_cons_of_mem _ he)
    have q := h d List.mem_cons_self
    refine ⟨?_, ?_, ?_, ?_, ?_⟩
    · show (d.showable && PyData.showableAll ds) = true
      rw [q.ok, h1]
      rfl
    · show (d.hasDict || PyData.hasDictAll ds) = false
      rw [q.nd, h2]
      rfl
    · show max d.depth (PyData.depthAll ds) ≤ dp
      exact Nat.max_le.mpr ⟨q.dep, h3⟩
    · show (d.shown.length :: ((PyData.shownAll ds).map (·.length))).sum ≤ (d :: ds).length * n
      rw [List.sum_cons, List.length_cons, Nat.succ_mul]
      have := q.len
      omega
    · show (PyData.shownAll ds).length + 1 = ds.length + 1
      rw [h5]
theorem Sh.tuple {dp n m : Nat} {ds : List PyData} (h : ∀ d ∈ ds, Sh d dp n) (hm : ds.length ≤ m) : Sh (.tuple ds) (dp + 1) (m * n + 2 * m + 3) := by
  obtain ⟨h1, h2, h3, h4, h5⟩ := Sh.all h
  refine ⟨by simpa [PyData.showable] using h1, by simpa [PyData.hasDict] using h2, by simpa [PyData.depth] using h3, ?_⟩
  have e : (PyData.shown (.tuple ds)) = tupleText (PyData.shownAll ds) := by simp only [PyData.shown]
  rw [e]
  have l := tupleText_len_le (PyData.shownAll ds)
  rw [h5] at l
  have : ds.length * n ≤ m * n := Nat.mul_le_mul_right n hm
  omega
theorem Sh.list {dp n m : Nat} {ds : List PyData} (h : ∀ d ∈ ds, Sh d dp n) (hm : ds.length ≤ m) : Sh (.list ds) (dp + 1) (m * n + 2 * m + 3) := by
  obtain ⟨h1, h2, h3, h4, h5⟩ := Sh.all h
  refine ⟨by simpa [PyData.showable] using h1, by simpa [PyData.hasDict] using h2, by simpa [PyData.depth] using h3, ?_⟩
  have e : (PyData.shown (.list ds)) = listText (PyData.shownAll ds) := by simp only [PyData.shown]
  rw [e]
  have l := listText_len_le (PyData.shownAll ds)
  rw [h5] at l
  have : ds.length * n ≤ m * n := Nat.mul_le_mul_right n hm
  omega
theorem Sh.non : Sh .none 0 4 := ⟨rfl, rfl, Nat.le_refl _, by decide +kernel⟩
theorem Sh.bl (b : Bool) : Sh (.bool b) 0 5 := ⟨rfl, rfl, Nat.le_refl _, by cases b <;> decide +kernel⟩
theorem Sh.word {y : Str} (h : Word y) : Sh (.str y) 0 82 := by
  refine ⟨rfl, rfl, Nat.le_refl _, ?_⟩
  have e : (PyData.shown (.str y)) = reprText y := by simp only [PyData.shown]
  rw [e]
  have l := StrLaws.reprText_len y fun c hc => Nat.lt_of_le_of_lt (h.low c hc).2 (by decide)
  have := h.eight
  omega
/-- a number of at most 1920 bits -/
theorem Sh.intB {i : Int} {k : Nat} (hk : 0 < k) (h : i.natAbs.log2 < k) (hk2 : k ≤ 1920) : Sh (.int i) 0 (k + 1) := by
  refine ⟨decide_eq_true (Nat.lt_of_lt_of_le h hk2), rfl, Nat.le_refl _, ?_⟩
  have e : (PyData.shown (.int i)) = Str.ofString (toString i) := by simp only [PyData.shown]
  rw [e, PySem.ofString_length]
  exact int_text_length_le hk h
theorem Sh.int {i : Int} (h0 : 0 ≤ i) (h : i < 2 ^ 64) : Sh (.int i) 0 65 := by
  refine Sh.intB (k := 64) (by decide) ?_ (by decide)
  by_cases z : i.natAbs = 0
  · rw [z]; decide
  · exact (Nat.log2_lt z).mpr (by omega)
end PK
namespace PK
open PySem PySem.Spec PyProof.Rows L2

/-! ### wants, ways, rows, sheets as data -/
abbrev Want := Str × List Str × Int
abbrev Way := List Want
abbrev Row := List Way
abbrev Sheet := List Row
structure WantOk (x : Want) : Prop where
  form : Word x.1
  shades : ∀ y ∈ x.2.1, Word y
  few : x.2.1.length ≤ 8
  one : 1 ≤ x.2.2
  most : x.2.2 ≤ 1000000000
structure WayOk (n : Nat) (x : Way) : Prop where
  len : x.length ≤ n
  each : ∀ y ∈ x, WantOk y
structure RowOk (n : Nat) (x : Row) : Prop where
  some : 1 ≤ x.length
  len : x.length ≤ 3
  each : ∀ y ∈ x, WayOk n y
structure SheetOk (m n : Nat) (x : Sheet) : Prop where
  len : x.length ≤ m
  each : ∀ y ∈ x, RowOk n y
theorem flatTs_of {ds : List PyData} : (∀ d ∈ ds, flatT d = true) → flatTs ds = true := by
  induction ds with
  | nil => intro _; rfl
  | cons d ds ih =>
    intro h
    show (flatT d && flatTs ds) = true
    rw [h d List.mem_cons_self, ih fun e he => h e (List.mem_cons_of_mem _ he)]
    rfl
theorem flat_map {α : Type} {f : α → PyData} (hf : ∀ x, flatT (f x) = true) (l : List α) : flatTs (l.map f) = true :=
  flatTs_of fun d hd => by
    obtain ⟨x, _, rfl⟩ := List.mem_map.mp hd
    exact hf x
/-! ### all choices: two ways to count them -/
/-- as the program does it -/
def grow (told : List (List Int)) (L : Nat) : List (List Int) := told.flatMap fun c => (List.range L).map fun (p : Nat) => c ++ [((p : Nat) : Int)]
end PK
namespace PK
open PySem PySem.Spec PyProof.Rows L2
/-- a list of words at p, some of them -/
structure Words (H : Hp) (p : Addr) (ws : List Str) : Prop where
  at_ : H p = some (.lst (ws.map V.str))
  some : ws ≠ []
  few : ws.length ≤ 8
  each : ∀ y ∈ ws, Word y
theorem Words.ext {H H' : Hp} {a c p : Addr} {ws : List Str} (w : Words H p ws) (f : IsFeed H a c) (x : Ext a H H') : Words H' p ws := by
  obtain ⟨cs, i, l, n, f⟩ := f
  exact ⟨x p _ w.at_ (ne_of w.at_ f.d (by intro z; cases z)), w.some, w.few, w.each⟩
theorem Words.new {H : Hp} {p q : Addr} {o : HO} {ws : List Str} (w : Words H p ws) (nq : H q = none) : Words (upd H q o) p ws :=
  ⟨by rw [upd_ne (ne_of_none w.at_ nq)]; exact w.at_, w.some, w.few, w.each⟩
theorem Words.same {H H' : Hp} {p : Addr} {ws : List Str} (w : Words H p ws) (x : Same H H') : Words H' p ws := ⟨x _ _ w.at_, w.some, w.few, w.each⟩
theorem Words.own {H : Hp} {p q : Addr} {o : HO} {ws : List Str} (w : Words H p ws) (ne : p ≠ q) : Words (upd H q o) p ws :=
  ⟨by rw [upd_ne ne]; exact w.at_, w.some, w.few, w.each⟩
theorem Words.pos {H : Hp} {p : Addr} {ws : List Str} (w : Words H p ws) : 0 < ws.length := by
  cases h : ws with
  | nil => exact absurd h w.some
  | cons _ _ => simp
end PK
namespace PK
open PySem PySem.Spec PyProof.Rows L2
/-- one more behind data of a list, the tuples kept -/
theorem dp_snoc {α : Type} {f : α → PyData} {K : PySem.W.Frag} {H H' : Hp} {vs : List V} {xs : List α} {v : V} {x : α} (hf : ∀ x, flatT (f x) = true) (h : DpAll K H vs (xs.map f)) (t : TKeep H H') (hv : Dp K H' v (f x)) :
    DpAll K H' (vs ++ [v]) ((xs ++ [x]).map f) := by
  rw [List.map_append]
  exact DpAll.snoc hv (DpAll.keepT t (flat_map hf xs) h)
theorem dp_move {α : Type} {f : α → PyData} {K : PySem.W.Frag} {H H' : Hp} {vs : List V} {xs : List α} (hf : ∀ x, flatT (f x) = true) (h : DpAll K H vs (xs.map f)) (t : TKeep H H') :
    DpAll K H' vs (xs.map f) := DpAll.keepT t (flat_map hf xs) h
theorem dp_lenM {α : Type} {f : α → PyData} {K : PySem.W.Frag} {H : Hp} {vs : List V} {xs : List α} (h : DpAll K H vs (xs.map f)) : vs.length = xs.length := by
  rw [DpAll.len h, List.length_map]
end PK
namespace PK
open PySem PySem.Spec PyProof.Rows L2
/-! ### places in the text -/
theorem take_snoc {α : Type} {l : List α} {i : Nat} {x : α} (h : l[i]? = some x) : l.take (i + 1) = l.take i ++ [x] := by
  rw [List.take_add_one, h]
  rfl
end PK
/-! The rules with the written part K said: within a comprehension the block's own context is not named. -/
namespace PK
open PySem PySem.Spec PyProof.Rows L2
def rTupOf (K : PySem.W.Frag) : List V → Hp → VK → Prop := fun xs H Q => ∃ p ys, xs = [.ref p] ∧
  ((SqL K H p ys ∧ ∀ l, H l = none → Q (.ref l) (upd H l (.tup ys))) ∨ (SqT K H p ys ∧ Q (.ref p) H))
def rLenOf (K : PySem.W.Frag) : List V → Hp → VK → Prop := fun xs H Q => ∃ p ys, xs = [.ref p] ∧ (SqL K H p ys ∨ SqT K H p ys) ∧ Q (.int ys.length) H
def rListOf (K : PySem.W.Frag) : List V → Hp → VK → Prop := fun xs H Q => ∃ p ys, xs = [.ref p] ∧ (SqL K H p ys ∨ SqT K H p ys) ∧
  ∀ l, H l = none → Q (.ref l) (upd H l (.lst ys))
def rRepr (K : PySem.W.Frag) : List V → Hp → VK → Prop := fun xs H Q => ∃ a d, xs = [.ref a] ∧ Dp K H (.ref a) d ∧ d.showable = true ∧ d.hasDict = false ∧ d.depth ≤ 100 ∧
  d.shown.length ≤ sizeLine ∧ Q (.str d.shown) H
section
variable {X : Cx} (K : PySem.W.Frag)
theorem k_tup (hK : X.K = K := by rfl) : CallR X (.type "tuple") (rTupOf K) := by subst hK; exact call_tuple_of
theorem k_len (hK : X.K = K := by rfl) : CallR X (.builtin "len") (rLenOf K) := by subst hK; exact call_len_seq
theorem k_list (hK : X.K = K := by rfl) : CallR X (.type "list") (rListOf K) := by subst hK; exact call_list_of
theorem k_repr {k : Nat} (hgd : X.A.guards = some []) (hr : Room k X.A) (hK : X.K = K := by rfl) : CallR X (.builtin "repr") (rRepr K) := by subst hK; exact call_repr hgd hr
theorem k_sum (hc : X.calm = true) (hK : X.K = K := by rfl) : CallR X (.builtin "sum") (rSum K) := by subst hK; exact cr_sum hc
theorem kx_list (hK : X.K = K := by rfl) : IxR X (rIxL K) := by subst hK; exact ix_list
theorem ks_list (hK : X.K = K := by rfl) : SlR X (rSlL K) := by subst hK; exact sl_list
theorem ks_tup (hK : X.K = K := by rfl) : SlR X (rSlA K) := by subst hK; exact sl_tupA
theorem ko_catA (hK : X.K = K := by rfl) : OpR X (binaryOp .Add) (rCatA K) := by subst hK; exact op_catA
theorem ko_neNil {k : Nat} (hr : Room k X.A) (hK : X.K = K := by rfl) : OpR X (compareOp .NotEq) (rNeNil K) := by subst hK; exact op_neNil hr
theorem ko_eqD {k : Nat} (hr : Room k X.A) (hK : X.K = K := by rfl) : OpR X (compareOp .Eq) (rEqD K) := by subst hK; exact op_eqD hr.units
theorem ko_neD {k : Nat} (hr : Room k X.A) (hK : X.K = K := by rfl) : OpR X (compareOp .NotEq) (rNeD K) := by subst hK; exact op_neD hr.units
theorem pk_list {tg l : Expr} {tl : TE} (hl : PE X l tl) (hK : X.K = K := by rfl) : PI X tg l (iList K tl) := by subst hK; exact pi_list hl
theorem pk_tup {tg l : Expr} {tl : TE} (hl : PE X l tl) (hK : X.K = K := by rfl) : PI X tg l (iTup K tl) := by subst hK; exact pi_tup hl
theorem pek_revT {e : Expr} {te : TE} {k : Nat} {p1 p2 p3 pos : Pos} (he : PE X e te) (hK : X.K = K := by rfl) :
    PE X (.Subscript e (.Slice none none (some (.UnaryOp .USub (.Constant (.int 1) k p1) p2)) p3) pos) (tRevT K te) := by subst hK; exact pe_revT he
theorem pgk_tup {es : List Expr} {k n : Nat} {t : TGs} {pos : Pos} (hc : X.calm = true) (h : PGs X es t) (hK : X.K = K := by rfl)
    (hn : (assignEach es X.env).length = n := by rfl) (hst : (assignEach es X.env).findIdx? (·.1) = none := by rfl) : PG X (.Tuple es k pos) (gTup K n t) := by
  subst hK; exact pg_tup hc h hn hst
end
end PK
namespace PK
open PySem PySem.Spec PyProof.Rows L2
section
open PySem.SeqAt
open PySem.AutoSeq1 (wpAny_loadPart')
open PySem.MeetsSeq PySem.MeetsSeq2 PySem.MeetsSeq3
end
end PK
namespace PK
open PySem PySem.Spec PyProof.Rows L2 RZ
section
variable {J J1 : It} {n n1 : Nat} {G G1 : Hp → Prop} {Y Y1 : Nat → Hp → V → Hp → Prop}
end
end PK
/-! Defs with defaults, called by places and by names. -/
namespace PK
open PySem PySem.Spec PyProof.Rows L2 RZ
theorem fund_mk {K : PySem.W.Frag} {x qual : Str} {st : Stmt} {f T : Addr} {oc : Value} {od an : Option Addr} {osl : Array (Option Value)} {kV doc pm cdv ct : Value} {o : Obj} {its : List Value} {n : Nat} {dvs : List V}
    (l : K.lookup f = some ⟨oc, od, .func (PySem.W.fnOf x qual (defArgs st) (defBody st) (defScope st) (.ref T) kV doc pm an cdv ct), osl⟩)
    (c : PySem.W.codeIn K cdv qual = true) (k : PySem.W.keepIn K (.ref f) = true) (lT : K.lookup T = some o) (oT : o.data = .seq its.toArray n) (r : Vals dvs its) (hd : dvs ≠ []) :
    FunD K x qual (defArgs st) (defBody st) (defScope st) dvs [] f (PySem.W.fnOf x qual (defArgs st) (defBody st) (defScope st) (.ref T) kV doc pm an cdv ct) :=
  ⟨⟨oc, od, .ref T, kV, doc, pm, an, cdv, ct, osl, rfl, l, c, Or.inr ⟨hd, T, o, its, n, rfl, lT, oT, r⟩, Or.inl rfl⟩, k⟩
/-- how such a call binds: n values by their places, ks the names of the others -/
def KB (K : PySem.W.Frag) (fd : FuncData) (ps : List Str) (n : Nat) (ks : List Str) (gV : List V → List V → List V) : Prop :=
  ∃ g : List Value → List Value → List Value, KBn K fd ps n ks g gV
theorem kb_of {K : PySem.W.Frag} {x qual : Str} {params : Arguments} {body : List Stmt} {scope : Scope} {dvs : List V} {f : Addr} {fd : FuncData} {ps : List Str}
    (F : FunD K x qual params body scope dvs [] f fd) (n : Nat) (ks : List Str) (g : {α : Type} → List α → List α → List α → List α) (hd : dvs ≠ [])
    (hrel : ∀ {vs ds zs : List V} {us its ws : List Value}, Vals vs us → Vals ds its → Vals zs ws → Vals (g vs ds zs) (g us its ws))
    (h : ∀ (T : Addr) (kV doc pm : Value) (an : Option Addr) (cdv ct : Value) (us its ws : List Value), us.length = n → its.length = dvs.length → ws.length = ks.length →
      (∃ k, bindArgs (PySem.W.fnOf x qual params body scope (.ref T) kV doc pm an cdv ct) ⟨us, ks.zip ws⟩ = seqItems? (.ref T) >>= k ∧ k (some its.toArray) = pure (ps.zip (g us its ws)))) :
    KB K fd ps n ks (fun vs zs => g vs dvs zs) := by
  obtain ⟨oc, od, dV, kV, doc, pm, an, cdv, ct, osl, rfl, lk, hcd, hD, hK⟩ := F.ex
  rcases hD with ⟨e, _⟩ | ⟨_, T, o, its, m, rfl, lT, oT, rT⟩
  · exact absurd e hd
  · refine ⟨fun us ws => g us its ws, fun s us ws X l1 l2 => ?_, fun r1 r2 => hrel r1 rT r2⟩
    obtain ⟨k, e1, e2⟩ := h T kV doc pm an cdv ct us its ws l1 rT.length.symm l2
    refine BindsTo.of_looks fun M => ?_
    rw [e1]
    exact looks_items X lT oT (PySem.W.Looks.of_pure e2)
section
variable {X : Cx} {CX : CXT} {k n : Nat} {f : Addr} {fd : FuncData} {ps ks : List Str} {sp : Sp} {E : XK} {x : Str} {p pos : Pos} {e : Expr} {es : List Expr} {kws : List Keyword} {t tk : TA} {gV : List V → List V → List V}
end
structure CalD (P : Program) (w : World) (K : PySem.W.Frag) (mg : Str → Option Value) (base : Heap) (k : Nat) (x : Str) (f : Addr)
    (fd : FuncData) (ps : List Str) (sp : Sp) : Prop where
  ok : FnOk P w K mg base CX0 k f fd ps sp
  g : mg x = some (.ref f)
  kp : PySem.W.keepIn K (.ref f) = true
/-! ### lengths of choices -/
theorem SheetOk.mono {a b c d : Nat} {x : Sheet} (h : SheetOk a b x) (h1 : a ≤ c) (h2 : b ≤ d) : SheetOk c d x :=
  ⟨Nat.le_trans h.len h1, fun r hr => ⟨(h.each r hr).some, (h.each r hr).len, fun w hw => ⟨Nat.le_trans ((h.each r hr).each w hw).len h2, ((h.each r hr).each w hw).each⟩⟩⟩
/-- the rule for a def that shows things and lets no exception out -/
theorem funG_ok {P : Program} {w : World} {K : PySem.W.Frag} {mg : Str → Option Value} {base : Heap} {k : Nat} {f : Addr} {fd : FuncData}
    {x qual : Str} {st : Stmt} {N ps : List Str} {sp : Sp} (F : Fun K x qual st f fd) (S : FnScope N ps (defScope st))
    (len : ∀ vs H Q E, sp vs H Q E → vs.length = ps.length)
    (hbody : ∀ (cdv : Value) (A : Around) (outer : List Env) (s : Shared) (H : Hp) (vs : List V) (Q : VK) (E : XK), A.guards = some [] →
      Room k (A.deeper (envOfC qual (defScope st) s.heap.objs.size f cdv)) → sp vs H Q E →
      ∃ t, PSs (cxOf CX0 P w K mg base N qual (defScope st) f cdv A outer s H E).nox (defBody st) t ∧
        t { nx := fun _ H' => Q .non H', rt := Q } (start N vs) H) : FnG P w K mg base CX0 (k + 1) f fd ps sp :=
  fnG_of F S len fun cdv A outer s H vs Q E hg hr h => by
    obtain ⟨t, ht, hq⟩ := hbody cdv A outer s H vs Q E hg hr h
    exact ⟨t, ht.nox, hq⟩
end PK
/-! The order of data; sorted and min of data; sorted of a dict with tuple keys. -/
namespace PK
open PySem PySem.Spec PyProof.Rows L2
/-! ### the order -/
abbrev dlt : PyData → PyData → Bool := PySem.W.dataLt
mutual
theorem eqv_eq : ∀ (x y : PyData), PySem.W.alike x y = true → PyData.eqv x y = true → x = y
  | .none, y, h, e => by cases y <;> simp [PySem.W.alike] at h <;> rfl
  | .bool _, y, h, e => by cases y <;> simp [PySem.W.alike] at h; simpa [PyData.eqv] using e
  | .int _, y, h, e => by cases y <;> simp [PySem.W.alike] at h; simpa [PyData.eqv] using e
  | .str _, y, h, e => by cases y <;> simp [PySem.W.alike] at h; simpa [PyData.eqv] using e
  | .list xs, y, h, e => by
    cases y with
    | list ys => rw [eqvAll_eq xs ys (by simpa [PySem.W.alike] using h) (by simpa [PyData.eqv] using e)]
    | _ => simp [PySem.W.alike] at h
  | .tuple xs, y, h, e => by
    cases y with
    | tuple ys => rw [eqvAll_eq xs ys (by simpa [PySem.W.alike] using h) (by simpa [PyData.eqv] using e)]
    | _ => simp [PySem.W.alike] at h
  | .dict _, y, h, e => by cases y <;> simp [PySem.W.alike] at h
theorem eqvAll_eq : ∀ (xs ys : List PyData), PySem.W.alikeAll xs ys = true → PyData.eqvAll xs ys = true → xs = ys
  | [], [], _, _ => rfl
  | [], _ :: _, _, e => by simp [PyData.eqvAll] at e
  | _ :: _, [], _, e => by simp [PyData.eqvAll] at e
  | x :: xs, y :: ys, h, e => by
    obtain ⟨h1, h2⟩ := PySem.W.alike_all_cons h
    rw [PySem.W.eqv_all_cons, Bool.and_eq_true] at e
    rw [eqv_eq x y h1 e.1, eqvAll_eq xs ys h2 e.2]
end
mutual
theorem eqv_refl : ∀ (x : PyData), flatT x = true → PyData.eqv x x = true
  | .none, _ => by simp [PyData.eqv]
  | .bool _, _ => by simp [PyData.eqv]
  | .int _, _ => by simp [PyData.eqv]
  | .str _, _ => by simp [PyData.eqv]
  | .list _, h => by simp [flatT] at h
  | .dict _, h => by simp [flatT] at h
  | .tuple xs, h => by
    rw [PyData.eqv]
    exact eqvAll_refl xs (by simpa [flatT] using h)
theorem eqvAll_refl : ∀ (xs : List PyData), flatTs xs = true → PyData.eqvAll xs xs = true
  | [], _ => by simp [PyData.eqvAll]
  | x :: xs, h => by
    have h' : flatT x = true ∧ flatTs xs = true := by simpa [flatTs] using h
    rw [PySem.W.eqv_all_cons, eqv_refl x h'.1, eqvAll_refl xs h'.2]
    rfl
end
theorem eqv_false {x y : PyData} (h : PySem.W.alike x y = true) (e : x ≠ y) : PyData.eqv x y = false := by
  cases q : PyData.eqv x y with
  | false => rfl
  | true => exact absurd (eqv_eq x y h q) e
theorem dlt_irr (x : PyData) : dlt x x = false := PyProof.Rows.lex_irrefl _
theorem dlt_tr {x y z : PyData} (h1 : dlt x y = true) (h2 : dlt y z = true) : dlt x z = true := PyProof.Rows.lex_trans _ _ _ h1 h2
theorem dlt_asym {x y : PyData} (h : dlt x y = true) : dlt y x = false := by
  cases q : dlt y x with
  | false => rfl
  | true =>
    have := dlt_tr h q
    rw [dlt_irr] at this
    cases this
theorem dlt_split {x z : PyData} (y : PyData) (h : dlt x z = true) : dlt x y = true ∨ dlt y z = true := PyProof.Rows.lex_negTrans _ _ _ h
theorem dlt_tot {x y : PyData} (h : PySem.W.alike x y = true) (e : x ≠ y) : dlt x y = true ∨ dlt y x = true := by
  cases q1 : dlt x y with
  | true => exact Or.inl rfl
  | false =>
    cases q2 : dlt y x with
    | true => exact Or.inr rfl
    | false =>
      have et := PyProof.Rows.lex_total _ _ q1 q2
      have f := (PySem.W.toks_eqv x y h).2 (eqv_false h e) [.inl 0] [.inl 1]
      rw [et, PySem.W.lex_pre, PyProof.Rows.lex_irrefl] at f
      exact absurd f (by decide)
/-- rising -/
def Rises (ds : List PyData) : Prop := ds.Pairwise fun x y => dlt x y = true
theorem rises_ext : ∀ {xs ys : List PyData}, Rises xs → Rises ys → (∀ d, d ∈ xs ↔ d ∈ ys) → xs = ys
  | [], [], _, _, _ => rfl
  | [], y :: _, _, _, h => nomatch (h y).mpr List.mem_cons_self
  | x :: _, [], _, _, h => nomatch (h x).mp List.mem_cons_self
  | x :: xs, y :: ys, h1, h2, h => by
    obtain ⟨a1, a2⟩ := List.pairwise_cons.mp h1
    obtain ⟨b1, b2⟩ := List.pairwise_cons.mp h2
    have e : x = y := by
      rcases List.mem_cons.mp ((h x).mp List.mem_cons_self) with q | q
      · exact q
      · rcases List.mem_cons.mp ((h y).mpr List.mem_cons_self) with q2 | q2
        · exact q2.symm
        · have c1 := b1 x q
          have c2 := dlt_asym (a1 y q2)
          rw [c1] at c2
          cases c2
    subst e
    have nx : x ∉ xs := fun q => by
      have := a1 x q
      rw [dlt_irr] at this
      cases this
    have ny : x ∉ ys := fun q => by
      have := b1 x q
      rw [dlt_irr] at this
      cases this
    rw [rises_ext a2 b2 fun d => ⟨fun hd => ?_, fun hd => ?_⟩]
    · rcases List.mem_cons.mp ((h d).mp (List.mem_cons_of_mem _ hd)) with q | q
      · subst q
        exact absurd hd nx
      · exact q
    · rcases List.mem_cons.mp ((h d).mpr (List.mem_cons_of_mem _ hd)) with q | q
      · subst q
        exact absurd hd ny
      · exact q
/-! ### sorted -/
def srt {α : Type} (rev : Bool) (k : α → PyData) (bs : List α) : List α := bs.mergeSort (PySem.W.dataLe rev k)
theorem srt_perm {α : Type} (rev : Bool) (k : α → PyData) (bs : List α) : (srt rev k bs).Perm bs := List.mergeSort_perm _ _
theorem srt_up {α : Type} (k : α → PyData) (bs : List α) : (srt false k bs).Pairwise fun x y => dlt (k y) (k x) = false := by
  have tr : ∀ a b c : α, PySem.W.dataLe false k a b = true → PySem.W.dataLe false k b c = true → PySem.W.dataLe false k a c = true := by
    intro a b c h1 h2
    rw [PySem.W.dataLe_eq] at h1 h2 ⊢
    simp only [cond_false, Bool.not_eq_true'] at h1 h2 ⊢
    cases q : PySem.W.dataLt (k c) (k a) with
    | false => rfl
    | true =>
      rcases dlt_split (k b) q with z | z
      · rw [show PySem.W.dataLt (k c) (k b) = true from z] at h2
        cases h2
      · rw [show PySem.W.dataLt (k b) (k a) = true from z] at h1
        cases h1
  have tot : ∀ a b : α, (PySem.W.dataLe false k a b || PySem.W.dataLe false k b a) = true := by
    intro a b
    rw [PySem.W.dataLe_eq]
    simp only [cond_false]
    cases q : PySem.W.dataLt (k b) (k a) with
    | false => rfl
    | true =>
      have := dlt_asym q
      rw [show PySem.W.dataLt (k a) (k b) = false from this]
      rfl
  refine (List.pairwise_mergeSort tr tot bs).imp fun {a b} h => ?_
  rw [PySem.W.dataLe_eq] at h
  simpa using h
/-- alike, all different: strictly rising -/
theorem srt_rises {α : Type} {k : α → PyData} {bs : List α} (ha : PySem.W.AllAlike (bs.map k)) (hn : (bs.map k).Nodup) : Rises ((srt false k bs).map k) := by
  have p := (srt_perm false k bs).map k
  have hn' : ((srt false k bs).map k).Nodup := p.nodup_iff.mpr hn
  have up : ((srt false k bs).map k).Pairwise fun x y => dlt y x = false := List.pairwise_map.mpr (srt_up k bs)
  have ha' : PySem.W.AllAlike ((srt false k bs).map k) := fun d hd e he => ha d (p.mem_iff.mp hd) e (p.mem_iff.mp he)
  generalize (srt false k bs).map k = ds at hn' up ha'
  have both : ds.Pairwise fun x y => x ≠ y ∧ dlt y x = false := by
    have := hn'
    unfold List.Nodup at this
    exact List.pairwise_and_iff.mpr ⟨this, up⟩
  clear up hn'
  unfold Rises
  induction ds with
  | nil => exact List.Pairwise.nil
  | cons d ds ih =>
    obtain ⟨h1, h2⟩ := List.pairwise_cons.mp both
    refine List.pairwise_cons.mpr ⟨fun e he => ?_, ih (fun a h b h' => ha' a (List.mem_cons_of_mem _ h) b (List.mem_cons_of_mem _ h')) h2⟩
    obtain ⟨q1, q2⟩ := h1 e he
    rcases dlt_tot (ha' d List.mem_cons_self e (List.mem_cons_of_mem _ he)) q1 with z | z
    · exact z
    · rw [z] at q2
      cases q2
/-! ### the rules -/
structure Cmpb (ds : List PyData) : Prop where
  al : PySem.W.AllAlike ds
  so : PySem.W.Sortable ds
  dp : ∀ d ∈ ds, d.depth ≤ 90
theorem dp_pairs {K : PySem.W.Frag} {H : Hp} : ∀ {bs : List (V × PyData)}, (∀ b ∈ bs, Dp K H b.1 b.2) → DpAll K H (bs.map (·.1)) (bs.map (·.2))
  | [], _ => .nil
  | b :: bs, h => .cons (h b List.mem_cons_self) (dp_pairs fun c hc => h c (List.mem_cons_of_mem _ hc))
theorem dp_zip {K : PySem.W.Frag} {H : Hp} : ∀ {xs : List V} {ds : List PyData}, DpAll K H xs ds → (∀ b ∈ xs.zip ds, Dp K H b.1 b.2) ∧ (xs.zip ds).map (·.1) = xs ∧ (xs.zip ds).map (·.2) = ds
  | _, _, .nil => ⟨fun _ h => (nomatch h), rfl, rfl⟩
  | x :: xs, d :: ds, .cons h1 h2 => by
    obtain ⟨a, b, c⟩ := dp_zip h2
    refine ⟨fun p hp => ?_, ?_, ?_⟩
    · rcases List.mem_cons.mp hp with rfl | q
      · exact h1
      · exact a p q
    · show x :: (xs.zip ds).map (·.1) = _
      rw [b]
    · show d :: (xs.zip ds).map (·.2) = _
      rw [c]
theorem each_vals {bs : List (V × PyData)} : ∀ {us : List Value}, Vals (bs.map (·.1)) us → PySem.W.EachIs (fun v b => RelV b.1 v) us bs := by
  induction bs with
  | nil =>
    intro us r
    cases r
    exact .nil
  | cons b bs ih =>
    intro us r
    cases r with
    | cons r1 r2 => exact .cons r1 (ih r2)
theorem vals_each {bs : List (V × PyData)} : ∀ {us : List Value}, PySem.W.EachIs (fun v b => RelV b.1 v) us bs → Vals (bs.map (·.1)) us
  | _, .nil => .nil
  | _, .cons r1 r2 => .cons r1 (vals_each r2)
theorem each_reads {X : Cx} {pins : List (Addr × Obj)} {σ : L2.St} {H : Hp} {s : Shared} (I : Inv X pins σ H s) : ∀ {bs : List (V × PyData)} {us : List Value}, PySem.W.EachIs (fun v b => RelV b.1 v) us bs → (∀ b ∈ bs, Dp X.K H b.1 b.2) →
    PySem.W.EachIs (fun v (b : V × PyData) => ∃ as, Reads s.heap v b.2 as) us bs
  | _, _, .nil, _ => .nil
  | _, _, .cons r1 r2, h => .cons (Dp.reads I _ _ _ (h _ List.mem_cons_self) r1) (each_reads I r2 fun b hb => h b (List.mem_cons_of_mem _ hb))
theorem vals_back : ∀ {xs : List V} {us : List Value} {i : Nat} {u : Value}, Vals xs us → us[i]? = some u → ∃ x, xs[i]? = some x ∧ RelV x u
  | _, _, _, _, .nil, h => by simp at h
  | x :: _, _, 0, u, .cons r _, h => ⟨x, rfl, by
    have e := Option.some.inj h
    rw [← e]; exact r⟩
  | _, _, i + 1, _, .cons _ r, h => by
    obtain ⟨x, e, q⟩ := vals_back (i := i) r (by simpa using h)
    exact ⟨x, by simpa using e, q⟩
section
variable {X : Cx}
theorem depthAll_le {n : Nat} : ∀ {ds : List PyData}, (∀ d ∈ ds, d.depth ≤ n) → PyData.depthAll ds ≤ n
  | [], _ => Nat.zero_le _
  | d :: ds, h => Nat.max_le.mpr ⟨h d List.mem_cons_self, depthAll_le fun e he => h e (List.mem_cons_of_mem _ he)⟩
theorem minD_at : ∀ (ds : List PyData) (d : PyData), (PySem.W.minD d ds = d ∨ PySem.W.minD d ds ∈ ds) ∧ dlt d (PySem.W.minD d ds) = false ∧ ∀ e ∈ ds, dlt e (PySem.W.minD d ds) = false
  | [], d => ⟨Or.inl rfl, dlt_irr d, fun _ h => (nomatch h)⟩
  | e :: ds, d => by
    show (PySem.W.minD (if dlt e d then e else d) ds = d ∨ _) ∧ _
    have ee : PySem.W.minD d (e :: ds) = PySem.W.minD (if dlt e d then e else d) ds := rfl
    rw [ee]
    cases q : dlt e d with
    | true =>
      obtain ⟨h1, h2, h3⟩ := minD_at ds e
      refine ⟨Or.inr ?_, ?_, fun f hf => ?_⟩
      · rcases h1 with z | z
        · show PySem.W.minD e ds ∈ _
          rw [z]; exact List.mem_cons_self
        · exact List.mem_cons_of_mem _ z
      · show dlt d (PySem.W.minD e ds) = false
        cases z : dlt d (PySem.W.minD e ds) with
        | false => rfl
        | true =>
          have := dlt_tr q z
          rw [h2] at this
          cases this
      · rcases List.mem_cons.mp hf with rfl | hf
        · exact h2
        · exact h3 f hf
    | false =>
      obtain ⟨h1, h2, h3⟩ := minD_at ds d
      refine ⟨?_, h2, fun f hf => ?_⟩
      · rcases h1 with z | z
        · exact Or.inl z
        · exact Or.inr (List.mem_cons_of_mem _ z)
      · rcases List.mem_cons.mp hf with rfl | hf
        · show dlt f (PySem.W.minD d ds) = false
          cases z : dlt f (PySem.W.minD d ds) with
          | false => rfl
          | true =>
            rcases dlt_split d z with y | y
            · rw [q] at y; cases y
            · rw [h2] at y; cases y
        · exact h3 f hf
/-! ### a dict with tuple keys -/
def kD : Key → PyData
  | .inl i => .int i
  | .inr x => .str x
theorem dp_key {K : PySem.W.Frag} {H : Hp} : ∀ k : Key, Dp K H (kV k) (kD k)
  | .inl i => .int i
  | .inr x => .str x
theorem dp_keys {K : PySem.W.Frag} {H : Hp} : ∀ ks : List Key, DpAll K H (ks.map kV) (ks.map kD)
  | [] => .nil
  | k :: ks => .cons (dp_key k) (dp_keys ks)
abbrev tkD (k : List Key) : PyData := .tuple (k.map kD)
/-- sorted(d) of a dict whose keys are tuples -/
def rSrtT : List V → Hp → VK → Prop := fun vs H Q => ∃ (a : Addr) (kvs : List (List Key × V)), vs = [.ref a] ∧ Rd H a (.dT kvs) ∧ Cmpb (kvs.map fun p => tkD p.1) ∧
  ∀ (p : Addr) (L : List (V × PyData)), H p = none → (∃ bs : List Addr, IsKeys H kvs bs ∧ L = srt false (·.2) ((bs.map V.ref).zip (kvs.map fun p => tkD p.1))) → Q (.ref p) (upd H p (.lst (L.map (·.1))))
theorem keys_dp {K : PySem.W.Frag} {H : Hp} : ∀ {kvs : List (List Key × V)} {bs : List Addr}, IsKeys H kvs bs → DpAll K H (bs.map V.ref) (kvs.map fun p => tkD p.1)
  | _, _, .nil => .nil
  | p :: _, b :: _, .cons h t => .cons (.tup (SqT.of h) (dp_keys p.1)) (keys_dp t)
theorem call_srtT {k : Nat} (hcalm : X.calm = true) (hr : Room k X.A) : CallR X (.builtin "sorted") rSrtT := by
  intro pins s σ H xs us Q I r h
  obtain ⟨a, kvs, rfl, hd, hc, q⟩ := h
  rw [Vals.ref1 r]
  obtain ⟨z, hs, ks, pr, o, es, ep, ho, hx, hdt, he, hn⟩ := (show ObjOk X.prog X.w H s.heap a (.dT kvs) from hd.ok I.hok)
  have l1 : es.size = ks.length := size_of_entries he
  have l2 : kvs.length = ks.length := Paired.length pr
  have hu := hr.un
  refine Calls.call_function_entry PyProof.Rows.kind_sorted PyProof.Rows.plain_sorted PyProof.Rows.entry_sorted (PyProof.Rows.args_sorted1 _) ?_
  unfold Builtin.«sorted»
  refine wpAny_bind (m := checkCount "sorted" 1 1 _) (wpAny_pure ?_)
  refine wpAny_bind (PySem.W.kdu_collect (A := X.A.in1) (kdl_raw hs hx hdt) (I.ok.hd hcalm) ho (by omega) fun h' tk acc' kp it => ?_)
  have ea : acc'.toList = ks.map fun x => Value.ref x.2.1 := items_out (by rw [List.length_map, ← l1]; exact it) fun j v => by
    rintro ⟨en, hen, rfl⟩
    obtain ⟨b, hb, e2⟩ := Option.map_eq_some_iff.mp ((entry_at he j).symm.trans hen)
    rw [List.getElem?_map, hb, ← e2]
    rfl
  have eb : acc'.toList = (ks.map fun x => x.2.1).map Value.ref := by rw [ea, List.map_map]; all_goals rfl
  have rv : Vals ((ks.map fun x => x.2.1).map V.ref) acc'.toList := by rw [eb]; exact vals_refs _
  have ik := isKeys_of pr
  have hdp : DpAll X.K H ((ks.map fun x => x.2.1).map V.ref) (kvs.map fun p => tkD p.1) := keys_dp ik
  obtain ⟨z1, z2, z3⟩ := dp_zip hdp
  have I1 : Inv X pins σ H { s with heap := h', toks := tk } := I.kept kp
  have hal : acc'.toList.length = ks.length := by rw [Array.length_toList, it.1]; exact l1
  refine wpAny_bind (wpAny_newList ?_ (by omega))
  have hoL : (h'.push (seqObj "list" acc'.toList.toArray 0)).get? h'.objs.size = some (seqObj "list" acc'.toList.toArray 0) := Heap.get?_push_size _ rfl
  show wpAny _ _ _ _ _ { s with heap := h'.push (seqObj "list" acc'.toList.toArray 0), toks := tk }
  have e : PySem.W.EachIs (fun v (b : V × PyData) => RelV b.1 v) acc'.toList (((ks.map fun x => x.2.1).map V.ref).zip (kvs.map fun p => tkD p.1)) := each_vals (by rw [z2]; exact rv)
  have er := each_reads I1 e z1
  generalize hB : ((ks.map fun x => x.2.1).map V.ref).zip (kvs.map fun p => tkD p.1) = B at z1 z2 z3 e er
  have al : PySem.W.AllAlike (B.map fun b : V × PyData => b.2) := by rw [z3]; exact hc.al
  have so : PySem.W.Sortable (B.map fun b : V × PyData => b.2) := by rw [z3]; exact hc.so
  have er' : PySem.W.EachIs (fun v (b : V × PyData) => ∃ as, Reads (PySem.W.sortingHeap (h'.push (seqObj "list" acc'.toList.toArray 0)) h'.objs.size acc'.toList) v b.2 as) acc'.toList B :=
    er.mono fun v b ⟨as, rd⟩ => ⟨as, PyProof.Rows.Reads.keeps (fun b o eo => PySem.W.sortingHeap_old (Nat.ne_of_lt (Heap.lt_size eo)) (Heap.get?_push_of_some _ eo)) rd⟩
  refine wpAny_bind (wpAny_holding (wpAny_call_entry PyProof.Rows.slot_list_sort ⟨_, hoL, rfl⟩ PyProof.Rows.entry_list_sort
    (PySem.W.list_sort_vals (κ := PySem.W.dataKind (PySem.W.sortingHeap (h'.push (seqObj "list" acc'.toList.toArray 0)) h'.objs.size acc'.toList) (B.map fun b : V × PyData => b.2)) (s := { s with heap := h'.push (seqObj "list" acc'.toList.toArray 0), toks := tk }) hoL
      (PySem.W.SortsAt.data (s := { s with heap := PySem.W.sortingHeap (h'.push (seqObj "list" acc'.toList.toArray 0)) h'.objs.size acc'.toList, toks := tk })
        (PySem.W.each_map (R := fun v d => ∃ as, Reads (PySem.W.sortingHeap (h'.push (seqObj "list" acc'.toList.toArray 0)) h'.objs.size acc'.toList) v d as) (fun b : V × PyData => b.2) er') al so
        (PySem.W.bound_map fun b hb => by
          have := hc.dp b.2 (by rw [← z3]; exact List.mem_map.mpr ⟨b, hb, rfl⟩)
          show X.A.units + 2 + _ < _
          omega)) (by omega) ⟨_, rfl, ?_⟩)
    (PyProof.Rows.args_list_sort _)))
  have eo := PySem.W.sortVals_data (enc := fun b : V × PyData => b.2) false e er' al
  have lo : (PySem.W.sortVals (PySem.W.dataKind (PySem.W.sortingHeap (h'.push (seqObj "list" acc'.toList.toArray 0)) h'.objs.size acc'.toList) (B.map fun b : V × PyData => b.2)) false acc'.toList acc'.toList).length = acc'.toList.length := PySem.W.sortVals_length false rfl
  generalize PySem.W.sortVals (PySem.W.dataKind (PySem.W.sortingHeap (h'.push (seqObj "list" acc'.toList.toArray 0)) h'.objs.size acc'.toList) (B.map fun b : V × PyData => b.2)) false acc'.toList acc'.toList = out at eo lo
  obtain ⟨e', he'⟩ := PyProof.Rows.sortedHeap_at (vs := acc'.toList) (out := out.toArray) hoL
  refine wpAny_pure ⟨_, rfl, .ref h'.objs.size, upd H h'.objs.size (.lst ((srt false (·.2) B).map (·.1))), I1.laid (t' := tk) (fun b u e => ?_) (Nat.le_refl _)
    (show ObjOk X.prog X.w _ _ _ (.lst ((srt false (·.2) B).map (·.1))) from ⟨?_, out, e', vals_each eo, he'⟩), rfl, q _ _ (I1.hok.fresh (Nat.le_refl _)) ⟨_, ik, by rw [hB]⟩⟩
  · have hb : b < h'.objs.size := Heap.lt_size e
    rw [PyProof.Rows.sortedHeap_old (Nat.ne_of_lt hb) (by rw [size_push']; exact Nat.lt_succ_of_lt hb)]
    exact Heap.get?_push_of_some _ e
  · have := (vals_each eo).length
    unfold srt
    rw [this]
    omega
end
end PK
/-! Part rows: their sums, rising, each part once. -/
namespace PK
open PySem PySem.Spec PyProof.Rows L2
abbrev PKey := Str × Str
abbrev PRow := Str × Str × Int
def pk (r : PRow) : PKey := (r.1, r.2.1)
def pkD (k : PKey) : PyData := .tuple [.str k.1, .str k.2]
def prowD (r : PRow) : PyData := .tuple [.str r.1, .str r.2.1, .int r.2.2]
def rowsD (L : List PRow) : PyData := .tuple (L.map prowD)
theorem flat_pk (k : PKey) : flatT (pkD k) = true := rfl
theorem flat_prow (r : PRow) : flatT (prowD r) = true := rfl
theorem flatTs_map {α : Type} {f : α → PyData} (h : ∀ a, flatT (f a) = true) : ∀ l : List α, flatTs (l.map f) = true
  | [] => rfl
  | a :: l => by
    show (flatT (f a) && flatTs (l.map f)) = true
    rw [h a, flatTs_map h l]
    rfl
theorem flat_rows (L : List PRow) : flatT (rowsD L) = true := by
  show flatTs (L.map prowD) = true
  exact flatTs_map flat_prow L
theorem pkD_inj {a b : PKey} (h : pkD a = pkD b) : a = b := by
  unfold pkD at h
  injection h with h
  injection h with h1 h2
  injection h1 with h1
  injection h2 with h2 _
  injection h2 with h2
  exact Prod.ext h1 h2
theorem pkD_alike (a b : PKey) : PySem.W.alike (pkD a) (pkD b) = true := by simp [pkD, PySem.W.alike, PySem.W.alikeAll]
theorem pk_allAlike (ks : List PKey) : PySem.W.AllAlike (ks.map pkD) := PySem.W.AllAlike.of pkD_alike
theorem pk_cmpb (ks : List PKey) : Cmpb (ks.map pkD) := ⟨pk_allAlike ks, PySem.W.Sortable.tuples fun b => ⟨_, _, rfl⟩, fun d hd => by
  obtain ⟨k, _, rfl⟩ := List.mem_map.mp hd
  show 1 ≤ 90
  decide⟩
theorem nodup_mapD {ks : List PKey} (h : ks.Nodup) : (ks.map pkD).Nodup := by
  unfold List.Nodup at h ⊢
  refine List.pairwise_map.mpr (h.imp fun {a b} q e => q (pkD_inj e))
/-! ### how many -/
def cnt : List PRow → PKey → Int
  | [], _ => 0
  | r :: L, k => (if pk r = k then r.2.2 else 0) + cnt L k
theorem cnt_nil (k : PKey) : cnt [] k = 0 := rfl
theorem cnt_cons (r : PRow) (L : List PRow) (k : PKey) : cnt (r :: L) k = (if pk r = k then r.2.2 else 0) + cnt L k := rfl
theorem cnt_app : ∀ (L M : List PRow) (k : PKey), cnt (L ++ M) k = cnt L k + cnt M k
  | [], M, k => by rw [List.nil_append, cnt_nil]; omega
  | r :: L, M, k => by
    rw [List.cons_append, cnt_cons, cnt_cons, cnt_app L M k]
    omega
theorem cnt_none {L : List PRow} {k : PKey} (h : k ∉ L.map pk) : cnt L k = 0 := by
  induction L with
  | nil => rfl
  | cons r L ih =>
    rw [List.map_cons, List.mem_cons, not_or] at h
    rw [cnt_cons, if_neg (fun e => h.1 e.symm), ih h.2]
    rfl
/-- a drawn row: words, from 1 on -/
structure PRowOk (b : Int) (r : PRow) : Prop where
  f : Word r.1
  s : Word r.2.1
  lo : 1 ≤ r.2.2
  hi : r.2.2 ≤ b
structure RowsOk (n : Nat) (b : Int) (L : List PRow) : Prop where
  len : L.length ≤ n
  each : ∀ r ∈ L, PRowOk b r
theorem PRowOk.mono {b c : Int} {r : PRow} (h : PRowOk b r) (hb : b ≤ c) : PRowOk c r := ⟨h.f, h.s, h.lo, Int.le_trans h.hi hb⟩
theorem RowsOk.mono {n m : Nat} {b c : Int} {L : List PRow} (h : RowsOk n b L) (hn : n ≤ m) (hb : b ≤ c) : RowsOk m c L := ⟨Nat.le_trans h.len hn, fun r hr => (h.each r hr).mono hb⟩
theorem RowsOk.tail {n : Nat} {b : Int} {r : PRow} {L : List PRow} (h : RowsOk n b (r :: L)) : RowsOk n b L := ⟨by have := h.len; rw [List.length_cons] at this; omega, fun q hq => h.each q (List.mem_cons_of_mem _ hq)⟩
theorem cnt_nn {n : Nat} {b : Int} {L : List PRow} (h : RowsOk n b L) (k : PKey) : 0 ≤ cnt L k := by
  induction L with
  | nil => exact Int.le_refl 0
  | cons r L ih =>
    rw [cnt_cons]
    have h1 := (h.each r List.mem_cons_self).lo
    have h2 := ih h.tail
    split <;> omega
theorem cnt_pos {n : Nat} {b : Int} {L : List PRow} (h : RowsOk n b L) {k : PKey} (hk : k ∈ L.map pk) : 0 < cnt L k := by
  induction L with
  | nil => cases hk
  | cons r L ih =>
    rw [cnt_cons]
    have h1 := (h.each r List.mem_cons_self).lo
    have h2 := cnt_nn h.tail k
    rcases List.mem_cons.mp hk with e | e
    · rw [if_pos e.symm]; omega
    · have := ih h.tail e
      split <;> omega
theorem cnt_le {n : Nat} {b : Int} (hb : 0 ≤ b) {L : List PRow} (h : RowsOk n b L) (k : PKey) : cnt L k ≤ (L.length : Int) * b := by
  induction L with
  | nil => simp [cnt_nil]
  | cons r L ih =>
    rw [cnt_cons, List.length_cons]
    have h1 := (h.each r List.mem_cons_self).hi
    have h2 := ih h.tail
    have e : ((L.length + 1 : Nat) : Int) * b = (L.length : Int) * b + b := by
      rw [Int.natCast_add, Int.add_mul]
      simp
    rw [e]
    split <;> omega
theorem cnt_key {n : Nat} {b : Int} {L : List PRow} (h : RowsOk n b L) (k : PKey) : k ∈ L.map pk ↔ 0 < cnt L k := by
  refine ⟨cnt_pos h, fun q => ?_⟩
  by_cases z : k ∈ L.map pk
  · exact z
  · rw [cnt_none z] at q
    omega
/-! ### the sums, rising -/
def nub : List PKey → List PKey
  | [] => []
  | k :: ks => k :: (nub ks).filter fun q => decide (q ≠ k)
theorem mem_nub {k : PKey} : ∀ {ks : List PKey}, k ∈ nub ks ↔ k ∈ ks
  | [] => Iff.rfl
  | q :: ks => by
    show k ∈ q :: _ ↔ _
    rw [List.mem_cons, List.mem_cons, List.mem_filter, mem_nub (ks := ks)]
    by_cases e : k = q
    · simp [e]
    · simp [e]
theorem nodup_nub : ∀ ks : List PKey, (nub ks).Nodup
  | [] => List.nodup_nil
  | q :: ks => List.nodup_cons.mpr ⟨fun h => by
      have := (List.mem_filter.mp h).2
      simp at this, (nodup_nub ks).filter _⟩
def skeys (L : List PRow) : List PKey := srt false pkD (nub (L.map pk))
def sumR (L : List PRow) : List PRow := (skeys L).map fun k => (k.1, k.2, cnt L k)
theorem mem_skeys {L : List PRow} {k : PKey} : k ∈ skeys L ↔ k ∈ L.map pk := ((srt_perm false pkD _).mem_iff).trans mem_nub
theorem skeys_rises (L : List PRow) : Rises ((skeys L).map pkD) := srt_rises (pk_allAlike _) (nodup_mapD (nodup_nub _))
theorem sumR_keys (L : List PRow) : (sumR L).map pk = skeys L := by
  unfold sumR
  rw [List.map_map]
  exact List.map_id'' (fun k => rfl) _
theorem map_inj {ks ls : List PKey} : ks.map pkD = ls.map pkD → ks = ls := by
  induction ks generalizing ls with
  | nil => intro h; cases ls with
    | nil => rfl
    | cons => cases h
  | cons k ks ih =>
    intro h
    cases ls with
    | nil => cases h
    | cons l ls =>
      rw [List.map_cons, List.map_cons] at h
      injection h with h1 h2
      rw [pkD_inj h1, ih h2]
/-- rising keys that are just these -/
theorem skeys_of {L : List PRow} {ks : List PKey} (h : Rises (ks.map pkD)) (hm : ∀ k, k ∈ ks ↔ k ∈ L.map pk) : ks = skeys L := by
  refine map_inj (rises_ext h (skeys_rises L) fun d => ⟨fun hd => ?_, fun hd => ?_⟩)
  · obtain ⟨k, hk, rfl⟩ := List.mem_map.mp hd
    exact List.mem_map.mpr ⟨k, mem_skeys.mpr ((hm k).mp hk), rfl⟩
  · obtain ⟨k, hk, rfl⟩ := List.mem_map.mp hd
    exact List.mem_map.mpr ⟨k, (hm k).mpr (mem_skeys.mp hk), rfl⟩
theorem sumR_of {L M : List PRow} (h : Rises (M.map fun r => pkD (pk r))) (hm : ∀ k, k ∈ M.map pk ↔ k ∈ L.map pk) (hc : ∀ r ∈ M, r.2.2 = cnt L (pk r)) : M = sumR L := by
  have e : M.map pk = skeys L := skeys_of (by rw [List.map_map]; exact h) hm
  unfold sumR
  rw [← e, List.map_map]
  symm
  refine (List.map_congr_left (g := id) fun r hr => ?_).trans (List.map_id _)
  show (r.1, r.2.1, cnt L (pk r)) = r
  rw [← hc r hr]
theorem sumR_congr {L M : List PRow} (hm : ∀ k, k ∈ L.map pk ↔ k ∈ M.map pk) (hc : ∀ k, cnt L k = cnt M k) : sumR L = sumR M := by
  have e : skeys L = skeys M := skeys_of (skeys_rises L) fun k => mem_skeys.trans (hm k)
  unfold sumR
  rw [e]
  exact List.map_congr_left fun k _ => by rw [hc k]
/-- the same how many of each: the same sums -/
theorem sumR_eq {n m : Nat} {b c : Int} {L M : List PRow} (hL : RowsOk n b L) (hM : RowsOk m c M) (h : ∀ k, cnt L k = cnt M k) : sumR L = sumR M :=
  sumR_congr (fun k => by rw [cnt_key hL, cnt_key hM, h k]) h
theorem sumR_len (L : List PRow) : (sumR L).length ≤ L.length := by
  unfold sumR
  rw [List.length_map]
  have h : ∀ ks : List PKey, (nub ks).length ≤ ks.length := by
    intro ks
    induction ks with
    | nil => exact Nat.le_refl _
    | cons k ks ih =>
      show ((nub ks).filter _).length + 1 ≤ ks.length + 1
      have := List.length_filter_le (fun q => decide (q ≠ k)) (nub ks)
      omega
  have e := (srt_perm false pkD (nub (L.map pk))).length_eq
  have := h (L.map pk)
  rw [List.length_map] at this
  unfold skeys
  omega
theorem sumR_ok {n : Nat} {b : Int} (hb : 0 ≤ b) {L : List PRow} (h : RowsOk n b L) : RowsOk n (n * b) (sumR L) := by
  refine ⟨Nat.le_trans (sumR_len L) h.len, fun r hr => ?_⟩
  unfold sumR at hr
  obtain ⟨k, hk, rfl⟩ := List.mem_map.mp hr
  have hk' := mem_skeys.mp hk
  obtain ⟨q, hq, rfl⟩ := List.mem_map.mp hk'
  have okq := h.each q hq
  refine ⟨okq.f, okq.s, ?_, ?_⟩
  · have := cnt_pos h hk'
    show 1 ≤ cnt L (pk q)
    omega
  · have h1 := cnt_le hb h (pk q)
    have h2 : (L.length : Int) * b ≤ (n : Int) * b := Int.mul_le_mul_of_nonneg_right (by have := h.len; omega) hb
    exact Int.le_trans h1 h2
theorem sumR_nil : sumR [] = [] := by
  have := sumR_len []
  exact List.eq_nil_of_length_eq_zero (Nat.le_zero.mp this)
/-! ### shown -/
end PK
/-! A dict of how many, by part; what the heaps' defs promise. -/
namespace PK
open PySem PySem.Spec PyProof.Rows L2
abbrev kk (k : PKey) : List Key := [Sum.inr k.1, Sum.inr k.2]
theorem kk_inj {a b : PKey} (h : kk a = kk b) : a = b := by
  injection h with h1 h2
  injection h2 with h2 _
  injection h1 with h1
  injection h2 with h2
  exact Prod.ext h1 h2
def ent (ks : List PKey) (c : PKey → Int) : List (List Key × V) := ks.map fun k => (kk k, V.int (c k))
theorem ent_val (c : PKey → Int) (k : PKey) : ∀ ks : List PKey, valV (ent ks c) (kk k) = if k ∈ ks then some (.int (c k)) else none
  | [] => by simp [ent, valV_nil]
  | q :: ks => by
    show valV ((kk q, V.int (c q)) :: ent ks c) (kk k) = _
    by_cases e : q = k
    · subst e
      rw [valV_pos rfl, if_pos List.mem_cons_self]
    · rw [valV_neg (fun h => e (kk_inj h)), ent_val c k ks]
      by_cases z : k ∈ ks
      · rw [if_pos z, if_pos (List.mem_cons_of_mem _ z)]
      · rw [if_neg z, if_neg (fun y => by
          rcases List.mem_cons.mp y with y | y
          · exact e y.symm
          · exact z y)]
theorem ent_any (c : PKey → Int) (k : PKey) (ks : List PKey) : ((ent ks c).any fun kv => decide (kv.1 = kk k)) = decide (k ∈ ks) := by
  rw [Bool.eq_iff_iff, List.any_eq_true, decide_eq_true_eq]
  constructor
  · rintro ⟨kv, h1, h2⟩
    obtain ⟨q, hq, rfl⟩ := List.mem_map.mp h1
    have := kk_inj (of_decide_eq_true h2)
    subst this
    exact hq
  · intro h
    exact ⟨_, List.mem_map.mpr ⟨k, h, rfl⟩, decide_eq_true rfl⟩
/-- one more row of this part -/
theorem ent_put {ks : List PKey} {c c' : PKey → Int} {k : PKey} {n : Int} (h1 : c' k = n) (h2 : ∀ q, q ≠ k → c' q = c q) :
    putK (ent ks c) (kk k) (.int n) = ent (if k ∈ ks then ks else ks ++ [k]) c' := by
  unfold putK
  rw [ent_any]
  by_cases z : k ∈ ks
  · rw [if_pos (decide_eq_true z), if_pos z]
    unfold ent
    rw [List.map_map]
    refine List.map_congr_left fun q hq => ?_
    show (if kk q = kk k then (kk q, V.int n) else (kk q, V.int (c q))) = (kk q, V.int (c' q))
    by_cases e : q = k
    · subst e
      rw [if_pos rfl, h1]
    · rw [if_neg (fun h => e (kk_inj h)), h2 q e]
  · rw [if_neg (by simpa using z), if_neg z]
    unfold ent
    rw [List.map_append]
    congr 1
    · refine List.map_congr_left fun q hq => ?_
      have e : q ≠ k := fun e => z (by rw [← e]; exact hq)
      rw [h2 q e]
    · show _ = [(kk k, V.int (c' k))]
      rw [h1]
theorem ent_keys (ks : List PKey) (c : PKey → Int) : ((ent ks c).map fun p => tkD p.1) = ks.map pkD := by
  unfold ent
  rw [List.map_map]
  rfl
theorem Dp.prowE {K : PySem.W.Frag} {H : Hp} {v : V} {r : PRow} (h : Dp K H v (prowD r)) : ∃ b, v = .ref b ∧ SqT K H b [.str r.1, .str r.2.1, .int r.2.2] := by
  obtain ⟨b, xs, rfl, hb, ha⟩ := Dp.tupE h
  cases ha with
  | cons h1 h2 =>
    cases h2 with
    | cons h3 h4 =>
      cases h4 with
      | cons h5 h6 =>
        cases h6
        cases h1
        cases h3
        cases h5
        exact ⟨b, rfl, hb⟩
theorem Dp.pkE {K : PySem.W.Frag} {H : Hp} {v : V} {k : PKey} (h : Dp K H v (pkD k)) : ∃ b, v = .ref b ∧ SqT K H b [.str k.1, .str k.2] := by
  obtain ⟨b, xs, rfl, hb, ha⟩ := Dp.tupE h
  cases ha with
  | cons h1 h2 =>
    cases h2 with
    | cons h3 h4 =>
      cases h4
      cases h1
      cases h3
      exact ⟨b, rfl, hb⟩
theorem Dp.prow {K : PySem.W.Frag} {H : Hp} {b : Addr} {r : PRow} (h : SqT K H b [.str r.1, .str r.2.1, .int r.2.2]) : Dp K H (.ref b) (prowD r) := .tup h (.cons (.str _) (.cons (.str _) (.cons (.int _) .nil)))
theorem Dp.pk {K : PySem.W.Frag} {H : Hp} {b : Addr} {k : PKey} (h : SqT K H b [.str k.1, .str k.2]) : Dp K H (.ref b) (pkD k) := .tup h (.cons (.str _) (.cons (.str _) .nil))
theorem cnt_snoc {L : List PRow} {i : Nat} {r : PRow} (h : L[i]? = some r) (k : PKey) : cnt (L.take (i + 1)) k = cnt (L.take i) k + if PK.pk r = k then r.2.2 else 0 := by
  rw [take_snoc h, cnt_app, cnt_cons, cnt_nil]
  omega
/-! ### the promises -/
/-- added_rows: the sums, rising -/
def spAdded (K : PySem.W.Frag) : Sp := fun vs H Q _ => ∃ (v : V) (L : List PRow), vs = [v] ∧ Dp K H v (rowsD L) ∧ L.length ≤ 900 ∧
  ∀ (p : Addr) (us : List V) (H' : Hp), H p = none → Same H H' → H' p = some (.tup us) → DpAll K H' us ((sumR L).map prowD) → Q (.ref p) H'
/-- a heap's attributes -/
def hf (t : Addr) : List (Str × V) := putF "held" (.ref t) []
theorem hf_held (t : Addr) : (hf t).lookup ("held" : Str) = some (.ref t) := by
  unfold hf
  rw [lookup_putF, if_pos rfl]
theorem hf_no (t : Addr) {m : Str} (h : ¬ m = "held") : (hf t).lookup m = none := by
  unfold hf
  rw [lookup_putF, if_neg h]
  all_goals rfl
/-- a heap of these rows stands at p -/
def HeapAt (K : PySem.W.Frag) (C : Addr) (H : Hp) (p : Addr) (L : List PRow) : Prop := ∃ dx t, H p = some (.ins C dx (hf t)) ∧ Dp K H (.ref t) (rowsD L)
theorem HeapAt.same {K : PySem.W.Frag} {C : Addr} {H H' : Hp} {p : Addr} {L : List PRow} (h : HeapAt K C H p L) (s : Same H H') : HeapAt K C H' p L := by
  obtain ⟨dx, t, h1, h2⟩ := h
  exact ⟨dx, t, s _ _ h1, Dp.same s h2⟩
theorem HeapAt.ext {K : PySem.W.Frag} {C : Addr} {H H' : Hp} {p a c : Addr} {L : List PRow} (h : HeapAt K C H p L) (fe : IsFeed H a c) (x : Ext a H H') : HeapAt K C H' p L := by
  obtain ⟨dx, t, h1, h2⟩ := h
  obtain ⟨cs, i, l, n, fe'⟩ := id fe
  exact ⟨dx, t, x _ _ h1 (ne_of h1 fe'.d (by intro z; cases z)), Dp.keepT (TKeep.feed fe x) (flat_rows L) h2⟩
/-- __init__ -/
def spInit (K : PySem.W.Frag) (C : Addr) : Sp := fun vs H Q _ => ∃ (p dx : Addr) (x : V) (L : List PRow), vs = [.ref p, x] ∧ H p = some (.ins C dx []) ∧ ((x = .non ∧ L = []) ∨ Dp K H x (rowsD L)) ∧ L.length ≤ 900 ∧
  ∀ H' : Hp, (∀ b o, H b = some o → b ≠ p → H' b = some o) → HeapAt K C H' p (sumR L) → Q .non H'
/-- rows() -/
def spRows (K : PySem.W.Frag) (C : Addr) : Sp := fun vs H Q _ => ∃ (p : Addr) (L : List PRow), vs = [.ref p] ∧ HeapAt K C H p L ∧ L.length ≤ 900 ∧
  ∀ (v : V) (H' : Hp), Same H H' → Dp K H' v (rowsD L) → Q v H'
/-- what is known of the class -/
structure HCls (K : PySem.W.Frag) (mg : Str → Option Value) (C : Addr) : Prop where
  cl : Cls K C
  nh : NoAttr K C "held"
  mg : mg "Heap" = some (.ref C)
end PK
/-! A heap made: Heap(), Heap(x), Heap(rows=x). -/
namespace PK
open PySem PySem.Spec PyProof.Rows L2
/-- all that is known of the class and its __init__ -/
structure HMk (P : Program) (w : World) (K : PySem.W.Frag) (mg : Str → Option Value) (base : Heap) (k : Nat) (C f : Addr) (fd : FuncData) : Prop where
  c : HCls K mg C
  m : Mk K C f
  ok : FnOk P w K mg base CX0 k f fd ["self", "rows"] (spInit K C)
  b0 : ∃ ds, Vals [V.non] ds ∧ Binds K fd ["self", "rows"] ds
  b1 : KB K fd ["self", "rows"] 2 [] (fun vs _ => vs)
  bk : KB K fd ["self", "rows"] 1 ["rows"] (fun vs zs => vs ++ zs)
/-- of x: none, or rows -/
def mkHeap (K : PySem.W.Frag) (C : Addr) (x : V) (H : Hp) (Q : VK) : Prop := ∃ L : List PRow, ((x = .non ∧ L = []) ∨ Dp K H x (rowsD L)) ∧ L.length ≤ 900 ∧
  ∀ (p : Addr) (H' : Hp), H p = none → Same H H' → HeapAt K C H' p (sumR L) → Q (.ref p) H'
def tHeap (K : PySem.W.Frag) (C : Addr) (te : TE) : TE := fun σ H Q => te σ H fun x H1 => mkHeap K C x H1 Q
theorem mk_init {K : PySem.W.Frag} {C : Addr} {x : V} {H : Hp} {Q : VK} {E : XK} (h : mkHeap K C x H Q) (p dx : Addr) (np : H p = none) (nd : H dx = none) (ne : dx ≠ p) :
    spInit K C [.ref p, x] (upd (upd H dx (.own p)) p (.ins C dx [])) (fun v H2 => v = .non ∧ Q (.ref p) H2) E := by
  obtain ⟨L, hx, hL, q⟩ := h
  have s1 : Same H (upd (upd H dx (.own p)) p (.ins C dx [])) := fun b o e => by
    rw [upd_ne (ne_of_none e np), upd_ne (ne_of_none e nd)]
    exact e
  refine ⟨p, dx, x, L, rfl, upd_same, ?_, hL, fun H' kp hh => ⟨rfl, q p H' np (Same.made np nd kp) hh⟩⟩
  rcases hx with hx | hx
  · exact Or.inl hx
  · exact Or.inr (Dp.same s1 hx)
section
variable {X : Cx} {k : Nat} {C f : Addr} {fd : FuncData} {p pos : Pos} {e : Expr} {kw : Keyword} {te : TE}
/-- the one argument -/
def one (R : V → Hp → Prop) : List V → Hp → Prop := fun vs H => match vs with
  | [x] => R x H
  | _ => False
theorem one_at {R : V → Hp → Prop} {vs : List V} {H : Hp} (h : one R vs H) : ∃ x, vs = [x] ∧ R x H := by
  match vs, h with
  | [x], h => exact ⟨x, rfl, h⟩
theorem pe_heap1 (M : HMk X.prog X.w X.K X.mg X.base k C f fd) (hr : Room (k + 1) X.A) (hg : Gl X "Heap") (ha : PE X e te)
    (he : starEach [e] X.env = (false, eval e X.env) :: starEach [] X.env := by rfl) (hpl : (backTo pos (starEach [] X.env)).any (·.1) = false := by rfl) :
    PE X (.Call (.Name "Heap" p) [e] [] pos) (tHeap X.K C te) := by
  refine ⟨fun pins s σ H Q I h => ?_⟩
  obtain ⟨g, hb⟩ := M.b1
  refine wpAny_Call_Name_kw (ld_glob I hg M.c.mg ?_ (by decide))
  refine PySem.W.callWith_K (h₀ := X.base) I.ok.mod.kin M.m.kp (thn ((pa_cons ha pa_nil he).run pos pins s σ H (one fun x H1 => mkHeap X.K C x H1 Q) I h) ?_) he hpl
  rintro us s1 ⟨vs, H1, I1, r, q⟩
  refine ⟨I1.kIn, ?_⟩
  obtain ⟨x, rfl, q⟩ := one_at q
  exact run_makeK (n := 1) (ks := []) (ws := []) (zs := []) M.m M.ok hr hb (E := fun _ _ _ => False) pass0 I1 r .nil rfl rfl fun p dx np nd ne => mk_init q p dx np nd ne
end
/-- a method that may be called, all its arguments given -/
structure MCal (P : Program) (w : World) (K : PySem.W.Frag) (mg : Str → Option Value) (base : Heap) (k : Nat) (C : Addr) (x : Str) (f : Addr) (fd : FuncData) (ps : List Str) (sp : Sp) : Prop where
  ok : FnOk P w K mg base CX0 k f fd ps sp
  m : Meth K C x f
  b : Binds K fd ps []
theorem HeapAt.no {K : PySem.W.Frag} {C : Addr} {H : Hp} {p : Addr} {L : List PRow} (h : HeapAt K C H p L) {m : Str} (hm : ¬ m = "held") : ∃ dx fs, H p = some (.ins C dx fs) ∧ fs.lookup m = none := by
  obtain ⟨dx, t, h1, _⟩ := h
  exact ⟨dx, _, h1, hf_no t hm⟩
end PK
/-! Drawn rows; sums by taking the least one by one; rows parted in two. -/
namespace PK
open PySem PySem.Spec PyProof.Rows L2
theorem word_ok {y : Str} (h : Word y) : PyData.strOk y = true := by
  unfold PyData.strOk
  rw [Array.all_eq_true_iff_forall_mem]
  intro c hc
  have := (h.low c (by simpa using hc)).2
  exact decide_eq_true (by omega)
theorem pk_eqv (a b : PKey) : PyData.eqv (pkD a) (pkD b) = decide (a = b) := by
  by_cases e : a = b
  · subst e
    rw [decide_eq_true rfl]
    exact eqv_refl _ (flat_pk a)
  · rw [decide_eq_false e]
    exact eqv_false (pkD_alike a b) fun z => e (pkD_inj z)
/-- the rows of one part -/
def ofPart (L : List PRow) (k : PKey) : List Int := (L.filter fun r => decide (pk r = k)).map fun r => r.2.2
theorem ofPart_sum (k : PKey) : ∀ L : List PRow, (ofPart L k).sum = cnt L k
  | [] => rfl
  | r :: L => by
    have ih := ofPart_sum k L
    unfold ofPart at ih ⊢
    rw [cnt_cons]
    by_cases e : pk r = k
    · rw [List.filter_cons_of_pos (by simpa using e), List.map_cons, List.sum_cons, ih, if_pos e]
    · rw [List.filter_cons_of_neg (by simpa using e), ih, if_neg e]
      omega
theorem pk_alikeAll (ks : List PKey) : PySem.W.AlikeAll (ks.map pkD) := ⟨pk_allAlike ks, fun x hx => by
  obtain ⟨k, _, rfl⟩ := List.mem_map.mp hx
  intro z
  cases z⟩
/-- the least of keys -/
theorem least_key {k : PKey} {ks : List PKey} : ∃ m, m ∈ k :: ks ∧ PySem.W.minD (pkD k) (ks.map pkD) = pkD m ∧ ∀ q ∈ k :: ks, q ≠ m → dlt (pkD m) (pkD q) = true := by
  obtain ⟨h1, h2, h3⟩ := minD_at (ks.map pkD) (pkD k)
  have hm : ∃ m, m ∈ k :: ks ∧ PySem.W.minD (pkD k) (ks.map pkD) = pkD m := by
    rcases h1 with h1 | h1
    · exact ⟨k, List.mem_cons_self, h1⟩
    · obtain ⟨m, hm, e⟩ := List.mem_map.mp h1
      exact ⟨m, List.mem_cons_of_mem _ hm, e.symm⟩
  obtain ⟨m, hm, e⟩ := hm
  refine ⟨m, hm, e, fun q hq hne => ?_⟩
  rw [e] at h2 h3
  have hf : dlt (pkD q) (pkD m) = false := by
    rcases List.mem_cons.mp hq with rfl | hq
    · exact h2
    · exact h3 _ (List.mem_map.mpr ⟨q, hq, rfl⟩)
  rcases dlt_tot (pkD_alike m q) (fun z => hne (pkD_inj z).symm) with z | z
  · exact z
  · rw [z] at hf
    cases hf
/-- what has been found, what is left -/
structure Least (L M : List PRow) (ks : List PKey) : Prop where
  up : Rises (M.map fun r => pkD (pk r))
  ahead : ∀ r ∈ M, ∀ q ∈ ks, dlt (pkD (pk r)) (pkD q) = true
  all : ∀ k, k ∈ L.map pk ↔ k ∈ M.map pk ∨ k ∈ ks
  many : ∀ r ∈ M, r.2.2 = cnt L (pk r)
theorem Least.start (L : List PRow) : Least L [] (L.map pk) := ⟨List.Pairwise.nil, fun _ h => (nomatch h), fun k => ⟨Or.inr, fun h => h.resolve_left (fun z => nomatch z)⟩, fun _ h => (nomatch h)⟩
theorem Least.done {L M : List PRow} (h : Least L M []) : M = sumR L := sumR_of h.up (fun k => ⟨fun z => (h.all k).mpr (Or.inl z), fun z => ((h.all k).mp z).resolve_right (fun z => nomatch z)⟩) h.many
theorem Least.next {L M : List PRow} {ks : List PKey} {m : PKey} (h : Least L M ks) (hm : m ∈ ks) (hl : ∀ q ∈ ks, q ≠ m → dlt (pkD m) (pkD q) = true) :
    Least L (M ++ [(m.1, m.2, cnt L m)]) (ks.filter fun q => decide (q ≠ m)) := by
  refine ⟨?_, fun r hr q hq => ?_, fun k => ?_, fun r hr => ?_⟩
  · unfold Rises
    rw [List.map_append]
    refine List.pairwise_append.mpr ⟨h.up, List.pairwise_singleton _ _, fun d hd e he => ?_⟩
    obtain ⟨r, hr, rfl⟩ := List.mem_map.mp hd
    have : e = pkD m := List.mem_singleton.mp he
    rw [this]
    exact h.ahead r hr m hm
  · obtain ⟨q1, q2⟩ := List.mem_filter.mp hq
    rcases List.mem_append.mp hr with hr | hr
    · exact h.ahead r hr q q1
    · rw [List.mem_singleton.mp hr]
      exact hl q q1 (of_decide_eq_true q2)
  · rw [h.all k, List.map_append, List.mem_append, List.mem_filter]
    show _ ↔ (k ∈ M.map pk ∨ k ∈ [m]) ∨ _
    rw [List.mem_singleton, decide_eq_true_eq]
    by_cases e : k = m
    · subst e
      simp [hm]
    · simp [e]
  · rcases List.mem_append.mp hr with hr | hr
    · exact h.many r hr
    · rw [List.mem_singleton.mp hr]
      rfl
/-! ### rows parted in two -/
def parted1 (r : PRow) : List PRow := (if 1 < r.2.2 then [(r.1, r.2.1, r.2.2 / 2)] else []) ++ [(r.1, r.2.1, r.2.2 - r.2.2 / 2)]
def parted (L : List PRow) : List PRow := L.flatMap parted1
end PK
/-! An own error whose __init__ says super().__init__(text), its families over ValueError. -/
namespace PK
open PySem PySem.Spec PyProof.Rows L2
/-! ### the bound built-in __init__, called -/
section
variable {prog : Program} {w : World} {A : Around} {E : Value → Shared → Prop} {h : Heap} {g : Array GenState} {d : Drawn} {t : Nat} {os : OsState}
variable {nm q : Str} {C N : Addr} {bs bm : List Value} {hdct : Bool} {sn : List Str} {sub : List Value} {ab : Bool} {col : Option Bool} {dd : Option Addr} {k0 k1 k2 k3 k5 : Option Value}
end
/-! ### a def that says super() -/
/-- the def of the text, within the class at D -/
structure FunS (P : Program) (K : PySem.W.Frag) (x qual : Str) (st : Stmt) (D f : Addr) (fd : FuncData) : Prop where
  ex : ∃ (oc : Value) (od : Option Addr) (osl : Array (Option Value)) (kV doc pm : Value) (an : Option Addr) (cda : Addr) (ct : Value) (cc : Addr) (ccl : Value) (cdd : Option Addr) (vs : Array Value) (ccs : Array (Option Value)) (file : Str) (tf : Tok) (cl : Value) (cld : Option Addr) (csl : Array (Option Value)),
    fd = PySem.W.fnX x qual (defArgs st) (defBody st) (defScope st) [("__class__", cc)] .none kV doc pm an (.ref cda) ct ∧ K.lookup f = some ⟨oc, od, .func fd, osl⟩ ∧ PySem.W.codeIn K (.ref cda) qual = true ∧
    K.lookup cda = some ⟨ccl, cdd, .fields vs, ccs⟩ ∧ vs[2]? = some (.str file tf) ∧ ((P.main.file : Str) == file) = true ∧ K.lookup cc = some ⟨cl, cld, .cell (some (.ref D)), csl⟩
  top : (P.main.scope.names.lookup ("super" : Str)).isSome = false
/-- the class of the error, with its line of classes over ValueError -/
structure SupC (K : PySem.W.Frag) (mg : Str → Option Value) (C : Addr) : Prop where
  ex : OexC K C
  cls : ∃ cd, PySem.W.clsIn K C = some cd
  self : PySem.W.mroIn K C (.ref C) = some true
  ve : PySem.W.mroIn K C (.type "ValueError") = some true
  up : PySem.W.ks_superIn K C C "__init__" = some (some (.builtin "ValueError.__init__"))
  third : PySem.W.nsIn K cStatics "thirdparty.any" = some none
  sup : mg "super" = none
structure SScope (N ps : List Str) (sc : Scope) : Prop where
  kind : sc.kind = .function
  co : sc.isCoroutine = false
  gen : sc.isGenerator = false
  nd : N.Nodup
  pre : N.take ps.length = ps
  par : ∀ x ∈ ps, sc.names.lookup x = some .local
  nocell : ∀ y ∈ sc.names, y.2 ≠ .cell
  fr : ∀ y ∈ sc.names, y.2 = .free → y.1 = "__class__"
  ksup : sc.names.lookup ("super" : Str) = some .globalImplicit
  kcls : sc.names.lookup ("__class__" : Str) = some .free
end PK
/-! Heaps together, what is above, what lacks. -/
namespace PK
open PySem PySem.Spec PyProof.Rows L2
/-- of this form, and of this shade where one is told -/
def sel (f : Str) (o : Option Str) (r : PRow) : Bool := decide (r.1 = f) && match o with
  | none => true
  | some t => decide (r.2.1 = t)
def selL (L : List PRow) (f : Str) (o : Option Str) : List Int := (L.filter (sel f o)).map fun r => r.2.2
def manyR (L : List PRow) (f : Str) (o : Option Str) : Int := (selL L f o).sum
theorem selL_snoc {L : List PRow} {i : Nat} {r : PRow} (h : L[i]? = some r) (f : Str) (o : Option Str) : selL (L.take (i + 1)) f o = selL (L.take i) f o ++ if sel f o r = true then [r.2.2] else [] := by
  unfold selL
  rw [take_snoc h, List.filter_append, List.map_append]
  congr 1
  by_cases e : sel f o r = true
  · rw [if_pos e, List.filter_cons_of_pos e]
    rfl
  · rw [if_neg e, List.filter_cons_of_neg e]
    rfl
theorem selL_len (L : List PRow) (f : Str) (o : Option Str) : (selL L f o).length ≤ L.length := by
  unfold selL
  rw [List.length_map]
  exact List.length_filter_le _ _
/-- what the one has more than the other -/
def above1 (M : List PRow) (r : PRow) : Option PRow := if 0 < r.2.2 - cnt M (pk r) then some (r.1, r.2.1, r.2.2 - cnt M (pk r)) else none
def aboveR (L M : List PRow) : List PRow := L.filterMap (above1 M)
theorem aboveR_len (L M : List PRow) : (aboveR L M).length ≤ L.length := List.length_filterMap_le _ _
theorem aboveR_mem {L M : List PRow} {q : PRow} (h : q ∈ aboveR L M) : ∃ r ∈ L, pk q = pk r ∧ q.2.2 = r.2.2 - cnt M (pk r) ∧ 0 < q.2.2 := by
  obtain ⟨r, hr, e⟩ := List.mem_filterMap.mp h
  unfold above1 at e
  split at e
  · rename_i z
    cases e
    exact ⟨r, hr, rfl, rfl, z⟩
  · cases e
theorem aboveR_ok {n m : Nat} {b c : Int} {L M : List PRow} (hL : RowsOk n b L) (hM : RowsOk m c M) : RowsOk n b (aboveR L M) := by
  refine ⟨Nat.le_trans (aboveR_len L M) hL.len, fun q hq => ?_⟩
  obtain ⟨r, hr, e1, e2, h0⟩ := aboveR_mem hq
  have okr := hL.each r hr
  have hn := cnt_nn hM (pk r)
  have hi := okr.hi
  have f1 : q.1 = r.1 := congrArg (fun k : PKey => k.1) e1
  have f2 : q.2.1 = r.2.1 := congrArg (fun k : PKey => k.2) e1
  exact ⟨by rw [f1]; exact okr.f, by rw [f2]; exact okr.s, by omega, by omega⟩
theorem rises_above {L M : List PRow} (h : Rises (L.map fun r => pkD (pk r))) : Rises ((aboveR L M).map fun r => pkD (pk r)) := by
  unfold Rises at h ⊢
  rw [List.pairwise_map] at h ⊢
  unfold aboveR
  refine List.pairwise_filterMap.mpr (h.imp fun {a b} z a' ha b' hb => ?_)
  unfold above1 at ha hb
  split at ha
  · split at hb
    · cases ha
      cases hb
      exact z
    · cases hb
  · cases ha
/-- rising rows are their own sums -/
theorem sumR_id {M : List PRow} (h : Rises (M.map fun r => pkD (pk r))) : sumR M = M := by
  symm
  refine sumR_of h (fun k => Iff.rfl) fun r hr => ?_
  have nd : (M.map pk).Nodup := by
    unfold Rises at h
    rw [List.pairwise_map] at h
    unfold List.Nodup
    rw [List.pairwise_map]
    refine h.imp fun {a b} z e => ?_
    rw [e, dlt_irr] at z
    cases z
  clear h
  induction M with
  | nil => cases hr
  | cons q M ih =>
    rw [List.map_cons] at nd
    obtain ⟨n1, n2⟩ := List.nodup_cons.mp nd
    rw [cnt_cons]
    rcases List.mem_cons.mp hr with e | e
    · subst e
      rw [if_pos rfl, cnt_none n1]
      omega
    · have hne : ¬ pk q = pk r := fun z => n1 (by rw [z]; exact List.mem_map.mpr ⟨r, e, rfl⟩)
      rw [if_neg hne, ← ih e n2]
      omega
theorem sumR_rises (L : List PRow) : Rises ((sumR L).map fun r => pkD (pk r)) := by
  have e : ((sumR L).map fun r => pkD (pk r)) = ((sumR L).map pk).map pkD := by rw [List.map_map]; rfl
  rw [e, sumR_keys]
  exact skeys_rises L
/-! ### what the methods promise -/
def spManyM (K : PySem.W.Frag) (C : Addr) : Sp := fun vs H Q _ => ∃ (p : Addr) (f : Str) (x : V) (o : Option Str) (L : List PRow), vs = [.ref p, .str f, x] ∧ HeapAt K C H p L ∧ L.length ≤ 900 ∧
  ((x = .non ∧ o = none) ∨ ∃ t, x = .str t ∧ o = some t) ∧ ∀ H' : Hp, Same H H' → Q (.int (manyR L f o)) H'
/-- rows == (), rows != () -/
theorem rows_shaped {n : Nat} {b : Int} {L : List PRow} (h : RowsOk n b L) : SeqAt.shaped (rowsD L) = true := by
  have hc : PyData.canLayAll0 (L.map prowD) = true := by
    have all := h.each
    clear h
    induction L with
    | nil => rfl
    | cons r L ih =>
      rw [List.map_cons]
      show (PyData.canLay0 (prowD r) && PyData.canLayAll0 (L.map prowD)) = true
      rw [ih fun q hq => all q (List.mem_cons_of_mem _ hq)]
      have okr := all r List.mem_cons_self
      simp [prowD, PyData.canLay0, PyData.canLayAll0, word_ok okr.f, word_ok okr.s]
  have hd : (rowsD L).depth ≤ 64 := by
    have : PyData.depthAll (L.map prowD) ≤ 63 := depthAll_le fun d hd => by
      obtain ⟨r, _, rfl⟩ := List.mem_map.mp hd
      show 1 ≤ 63
      decide
    show PyData.depthAll (L.map prowD) + 1 ≤ 64
    omega
  unfold SeqAt.shaped
  rw [show (rowsD L).canLay0 = true from by simpa [rowsD, PyData.canLay0] using hc, decide_eq_true hd]
  rfl
theorem rows_alike (L M : List PRow) : PySem.W.alike (rowsD L) (rowsD M) = true := by
  show PySem.W.alikeAll (L.map prowD) (M.map prowD) = true
  induction L generalizing M with
  | nil => simp [PySem.W.alikeAll]
  | cons r L ih =>
    cases M with
    | nil => simp [PySem.W.alikeAll]
    | cons q M =>
      rw [List.map_cons, List.map_cons, PySem.W.alikeAll, ih]
      simp [prowD, PySem.W.alike, PySem.W.alikeAll]
theorem prowD_inj {a b : PRow} (h : prowD a = prowD b) : a = b := by
  unfold prowD at h
  injection h with h
  injection h with h1 h
  injection h with h2 h
  injection h with h3 _
  injection h1 with h1
  injection h2 with h2
  injection h3 with h3
  exact Prod.ext h1 (Prod.ext h2 h3)
theorem rowsD_inj {L M : List PRow} (h : rowsD L = rowsD M) : L = M := by
  unfold rowsD at h
  injection h with h
  exact (List.map_inj_right fun a b => prowD_inj).mp h
theorem rows_eqv (L M : List PRow) : PyData.eqv (rowsD L) (rowsD M) = decide (L = M) := by
  by_cases e : L = M
  · subst e
    rw [decide_eq_true rfl]
    exact eqv_refl _ (flat_rows L)
  · rw [decide_eq_false e]
    exact eqv_false (rows_alike L M) fun z => e (rowsD_inj z)
end PK
/-! Sets of texts: made by a comprehension, sorted. -/
namespace PK
open PySem PySem.Spec PyProof.Rows L2
/-- the set at a holds just the texts l, each once -/
def SetTx (P : Program) (w : World) (h : Heap) (a : Addr) (l : List Str) : Prop := ∃ D : Froz.SD, h.get? a = some (Froz.sObj "set" D) ∧ Froz.TxOk P w D l ∧ Ris D.2.2.place.toList ∧ (w.params.followText "set-order" = true ∨ D.2.2.led = true)
def SetTO (P : Program) (w : World) (a : Addr) (l : List Str) : HO := .ext fun h => SetTx P w h a l
/-- one more -/
def ins (k : Str) (l : List Str) : List Str := if k ∈ l then l else k :: l
section
variable {P : Program} {w : World} {A : Around} {E : Value → Shared → Prop} {s : Shared}
end
/-! ### members -/
/-- texts in order -/
def sortS (l : List Str) : List Str := srt false PyData.str l
theorem str_alike (a b : Str) : PySem.W.alike (PyData.str a) (PyData.str b) = true := by simp [PySem.W.alike]
/-! ### sorted -/
section
variable {X : Cx}
end
end PK
/-! {text for target in iter}. -/
namespace PK
open PySem PySem.Spec PyProof.Rows L2
section
variable {X : Cx} {pins : List (Addr × Obj)} {σ : L2.St} {H : Hp} {s : Shared}
end
end PK
/-! The forms of a heap. -/
namespace PK
open PySem PySem.Spec PyProof.Rows L2
def formL (L : List PRow) : List Str := L.foldl (fun l r => ins r.1 l) []
def formsR (L : List PRow) : List Str := sortS (formL L)
end PK
/-! Drawn names are unlike. -/
namespace PK
open PySem PySem.Spec PyProof.Rows L2
theorem cps_app (x y : Str) : (x ++ y).cps.toList = x.cps.toList ++ y.cps.toList := by
  show (x.cps ++ y.cps).toList = _
  exact Array.toList_append ..
def hd1 (y : Str) : Option Nat := y.cps.toList.head?
def letterOf (j : Int) : Nat := 97 + (j % 26).toNat
theorem abc_at2 {i : Int} (h0 : 0 ≤ i) (h1 : i < 26) {x : Nat} (h : atI abc.cps.toList i = some x) : x = 97 + i.toNat := by
  rw [abc_list] at h
  obtain ⟨n, rfl⟩ := Int.eq_ofNat_of_zero_le h0
  have e : atI (List.range' 97 26) (n : Int) = some (97 + n) := by
    refine atI_nat ?_
    rw [List.getElem?_range' (by omega), Nat.one_mul]
  rw [e] at h
  rw [Int.toNat_natCast]
  exact (Option.some.inj h).symm
structure NmOk (a0 z : Int) (ws : List Str) : Prop where
  nd : ws.Nodup
  lo : a0 ≤ z
  few : z - a0 ≤ ws.length
  hd : ∀ y ∈ ws, ∃ j, a0 < j ∧ j ≤ z ∧ hd1 y = some (letterOf j)
  last : ∀ h : ws ≠ [], hd1 (ws.getLast h) = some (letterOf z) ∧ ∀ y ∈ ws, hd1 y = some (letterOf z) → y.length ≤ (ws.getLast h).length
theorem NmOk.nil (a0 : Int) : NmOk a0 a0 [] := ⟨List.nodup_nil, Int.le_refl _, by simp, fun _ h => (nomatch h), fun h => absurd rfl h⟩
theorem last_snoc {ws : List Str} {y : Str} (h : ws ++ [y] ≠ []) : (ws ++ [y]).getLast h = y := by simp
/-- one with another letter behind the last one -/
theorem NmOk.more {a0 z : Int} {ws : List Str} {c : Nat} (n : NmOk a0 z ws) (h : ws ≠ []) (h1 : 1 ≤ (ws.getLast h).length) : NmOk a0 z (ws ++ [ws.getLast h ++ ⟨#[c]⟩]) := by
  obtain ⟨e1, e2⟩ := n.last h
  have lm := List.getLast_mem h
  have hz := n.hd _ lm
  have hh : hd1 (ws.getLast h ++ ⟨#[c]⟩) = some (letterOf z) := by
    rw [← e1]
    unfold hd1
    generalize ws.getLast h = y at h1
    have e : (y ++ (⟨#[c]⟩ : Str)).cps.toList = y.cps.toList ++ [c] := cps_app _ _
    rw [e]
    have : y.cps.toList ≠ [] := fun q => by
      have : y.length = 0 := by
        show y.cps.size = 0
        rw [← Array.length_toList, q]
        rfl
      omega
    cases q : y.cps.toList with
    | nil => exact absurd q this
    | cons a l => rfl
  have ll : (ws.getLast h ++ (⟨#[c]⟩ : Str)).length = (ws.getLast h).length + 1 := by rw [strLen_append, len_one]
  refine ⟨?_, n.lo, ?_, fun y hy => ?_, fun h' => ?_⟩
  · refine List.nodup_append.mpr ⟨n.nd, List.nodup_cons.mpr ⟨by simp, List.nodup_nil⟩, fun a ha b hb e => ?_⟩
    rw [List.mem_singleton.mp hb] at e
    have := e2 a ha (by rw [e]; exact hh)
    rw [e, ll] at this
    omega
  · rw [List.length_append, List.length_singleton]
    have := n.few
    omega
  · rcases List.mem_append.mp hy with q | q
    · exact n.hd y q
    · rw [List.mem_singleton.mp q, hh]
      obtain ⟨j, j1, j2, _⟩ := hz
      exact ⟨z, by omega, Int.le_refl _, rfl⟩
  · rw [last_snoc]
    refine ⟨hh, fun y hy q => ?_⟩
    rcases List.mem_append.mp hy with z1 | z1
    · have := e2 y z1 q
      omega
    · rw [List.mem_singleton.mp z1]
      exact Nat.le_refl _
/-- one with the next letter ahead -/
theorem NmOk.next {a0 z : Int} {ws : List Str} {y : Str} (n : NmOk a0 z ws) (h8 : ws.length ≤ 20) (hy : hd1 y = some (letterOf (z + 1))) : NmOk a0 (z + 1) (ws ++ [y]) := by
  have few := n.few
  have lo := n.lo
  have ne : ∀ v ∈ ws, hd1 v ≠ some (letterOf (z + 1)) := fun v hv q => by
    obtain ⟨j, j1, j2, e⟩ := n.hd v hv
    rw [e] at q
    have q := Option.some.inj q
    unfold letterOf at q
    have a1 := Int.emod_nonneg j (show (26 : Int) ≠ 0 by decide)
    have a2 := Int.emod_nonneg (z + 1) (show (26 : Int) ≠ 0 by decide)
    omega
  refine ⟨?_, by omega, ?_, fun v hv => ?_, fun h' => ?_⟩
  · refine List.nodup_append.mpr ⟨n.nd, List.nodup_cons.mpr ⟨by simp, List.nodup_nil⟩, fun a ha b hb e => ?_⟩
    rw [List.mem_singleton.mp hb] at e
    exact ne a ha (by rw [e]; exact hy)
  · rw [List.length_append, List.length_singleton]
    omega
  · rcases List.mem_append.mp hv with q | q
    · obtain ⟨j, j1, j2, e⟩ := n.hd v q
      exact ⟨j, j1, by omega, e⟩
    · rw [List.mem_singleton.mp q]
      exact ⟨z + 1, by omega, Int.le_refl _, hy⟩
  · rw [last_snoc]
    refine ⟨hy, fun v hv q => ?_⟩
    rcases List.mem_append.mp hv with z1 | z1
    · exact absurd q (ne v z1)
    · rw [List.mem_singleton.mp z1]
      exact Nat.le_refl _
theorem hd_cons {x : Nat} {y : Str} : hd1 (⟨#[x]⟩ ++ y) = some x := by
  unfold hd1
  have e : ((⟨#[x]⟩ : Str) ++ y).cps.toList = x :: y.cps.toList := cps_app _ _
  rw [e]
  rfl
end PK
/-! Words near a word; how many of a form; methods called with keywords. -/
namespace PK
open PySem PySem.Spec PyProof.Rows L2
/-! ### o.m(.., k = v, ..) -/
abbrev viaMeth (env : Env) (o : Expr) (m : Str) (pl : Sem Bool) (apos pos : Pos) (args : List Expr) (kws : List Keyword) : Sem Value := do
  let x ← eval o env; standAt apos.atName; let (g, fst) ← holding [x] (getMethod x m pl); callWith pos g fst (backTo pos (starEach args env)) (backToKw pos (keywordEach kws env))
section
variable {X : Cx} {CX : CXT} {k n : Nat} {C f : Addr} {fd : FuncData} {ps ks : List Str} {sp : Sp} {E : XK} {m : Str} {apos pos : Pos} {o e : Expr} {es : List Expr} {kws : List Keyword} {ta : TE} {t tk : TA} {gV : List V → List V → List V}
end
/-! ### texts in a list of texts -/
/-! ### words near a word -/
def w7 (y : Str) : Str := Txt.slice y none (some 7) ++ "a"
def w1 (y : Str) : Str := Txt.slice y none (some 1)
def wz (y : Str) : Str := Txt.slice y none (some (-1)) ++ "z"
def near (y : Str) : List Str := [w7 y, w1 y, wz y]
/-! ### sorted(l), l of unlike texts -/
/-! ### places in the text -/
/-! ### how many of a form -/
/-! ### what the law holds a heap against -/
theorem HeapAt.lst {K : PySem.W.Frag} {C : Addr} {H : Hp} {p d : Addr} {L : List PRow} {xs : List V} {o : HO} (h : HeapAt K C H p L) (hd : H d = some (.lst xs)) : HeapAt K C (upd H d o) p L := by
  obtain ⟨dx, t, h1, h2⟩ := h
  refine ⟨dx, t, ?_, Dp.keepT (TKeep.lst hd) (flat_rows L) h2⟩
  rw [upd_ne (ne_of h1 hd (by intro z; cases z))]
  exact h1
structure MMn (P : Program) (w : World) (K : PySem.W.Frag) (mg : Str → Option Value) (base : Heap) (k : Nat) (C f : Addr) (fd : FuncData) : Prop where
  ok : FnOk P w K mg base CX0 k f fd ["self", "form", "shade"] (spManyM K C)
  m : Meth K C "many" f
  k2 : KB K fd ["self", "form", "shade"] 2 [] (fun vs _ => vs ++ [.non])
  k3 : KB K fd ["self", "form", "shade"] 3 [] (fun vs _ => vs)
  kf : KB K fd ["self", "form", "shade"] 1 ["form"] (fun vs zs => vs ++ (zs ++ [.non]))
  ks : KB K fd ["self", "form", "shade"] 2 ["shade"] (fun vs zs => vs ++ zs)
  ksf : KB K fd ["self", "form", "shade"] 1 ["shade", "form"] (fun vs zs => vs ++ zs.reverse)
end PK
/-! Heaps by ==, != and len: own methods that built-in ones call; methods that raise, within a try. -/
namespace PK
open PySem PySem.Spec PyProof.Rows L2
section
variable {prog : Program} {w : World} {A : Around} {E : Value → Shared → Prop} {s : Shared} {K : PySem.W.Frag} {x C f : Addr} {ox : Obj} {od : Option Obj}
/-- x != b where the class says == alone -/
theorem ne_own {b tb : Value} {Q : Value → Shared → Prop} (hu : A.units + 1 < cLine) (X : K.In s.heap) (I : PySem.W.InstAt s.heap x ox C od) (hb : PySem.W.Looks (model prog w) s.heap (typeOf b) tb) (hn : PySem.W.notFirst K C tb = true)
    (hs : PySem.W.findIn K (.ref C) "__ne__" = some (some (.builtin "object.__ne__"))) (ho : PySem.W.subIn K (.ref C) (.type "object") = some true)
    (he : PySem.W.findIn K (.ref C) "__eq__" = some (some (.ref f))) (hf : PySem.W.isFn K (.ref f) = true)
    (h : wpAny (model prog w) A.in1 (call (.ref f) [.ref x, b]) (fun v s' => ∃ r, v = .bool r ∧ Q (.bool (!r)) s') E s) :
    wpAny (model prog w) A (richCompare .NotEq (.ref x) b) Q E s := by
  have one : wpAny (model prog w) A (tryCompare (.ref x) "__ne__" b) (fun r s' => ∃ v, r = some v ∧ Q v s') E s := by
    unfold tryCompare callSpecialIfBound? bindSpecialIfBound?
    refine wpAny_bind (wpAny_holding (wpAny_bind (wpAny_bind (wpAny_bind (I.type.here ((PySem.W.looks_findIn X hs).here (wpAny_bind (wpAny_askSetting (wpAny_ite ?_)))))))))
    have fin : wpAny (model prog w) A (call (.builtin "object.__ne__") ([.ref x] ++ [b]) >>= fun v => pure (some v)) (fun r s' => wpAny (model prog w) A (match r with | some .notImplemented | none => pure none | some v => pure (some v) : Sem (Option Value)) (fun r s' => ∃ v, r = some v ∧ Q v s') E s') E s := by
      refine wpAny_bind (wpAny_call (codeAny_call_builtin F.cmp_object.ne.plain F.cmpEntry_ne (PySem.W.check_slot F.cmpKind_ne F.cmpSplit_ne (I.type.andThen (PySem.W.looks_subIn X ho)) (F.cmpArgs_ne _ _) ?_)))
      unfold Builtin.«object.__ne__»
      refine wpAny_bind (wpAny_of_eq (a := ((Value.ref x : Value), [b])) (by first | rfl | (simp only [slotArgs]; rfl)) (wpAny_bind (wpAny_cRoomFor hu (wpAny_bind (PySem.W.ifBound_K X I he hf (wpAny_mono h (fun v s' q => ?_) fun _ _ z => z))))))
      obtain ⟨r, rfl, q⟩ := q
      refine wpAny_bind (wpAny_truthy_bool ?_)
      refine wpAny_pure ?_
      show wpAny (model prog w) A (pure (some (Value.bool !r))) _ E s'
      refine wpAny_pure (wpAny_pure ?_)
      exact ⟨_, rfl, q⟩
    rw [F.cmp_object.ne.bind (.ref x)]
    split
    · exact wpAny_bind (wpAny_pure (wpAny_pure fin))
    · exact wpAny_tryCatch (wpAny_bind (wpAny_pure (wpAny_pure fin)))
  unfold richCompare
  simp only [oneThing_ref]
  have last : ∀ {s1 : Shared} {g : Option Value → Sem Value}, s1 = s → (∀ v, g (some v) = pure v) → wpAny (model prog w) A (tryCompare (.ref x) (cmpInfo CmpOp.NotEq).2.fst b >>= g) Q E s1 := by
    rintro s1 g rfl hg
    refine wpAny_bind (wpAny_mono one (fun r s' z => ?_) fun _ _ z => z)
    obtain ⟨v, rfl, q⟩ := z
    rw [hg]
    exact wpAny_pure q
  refine wpAny_holding (wpAny_bind (wpAny_cRoomFor (by omega) (wpAny_bind (I.type.here (wpAny_bind (hb.here ?_))))))
  split
  · rename_i q
    have e : PySem.W.subIn K tb (.ref C) = some false := (Bool.or_eq_true_iff.mp hn).elim (fun z => by rw [beq_iff_eq.mp z] at q; simp at q) fun z => beq_iff_eq.mp z
    refine wpAny_bind ((PySem.W.looks_subIn X e).here ?_)
    rw [if_neg Bool.false_ne_true]
    exact last rfl fun _ => rfl
  · refine wpAny_bind (wpAny_pure ?_)
    rw [if_neg Bool.false_ne_true]
    exact last rfl fun _ => rfl
end
section
variable {X : Cx} {pins : List (Addr × Obj)} {σ : L2.St} {H : Hp} {s : Shared} {k : Nat} {f C : Addr} {fd : FuncData} {ps : List Str} {sp : Sp}
/-- an own def, called by a built-in one -/
theorem run_in {A : Around} {us : List Value} {vs : List V} {Q : VK} {E : XK} (F : FnOk X.prog X.w X.K X.mg X.base CX0 k f fd ps sp) (hr : Room k A) (hf : A.frames = X.A.frames) (hb : Binds X.K fd ps []) (I : Inv X pins σ H s)
    (r : Vals vs us) (h : sp vs H Q E) : wpAny (model X.prog X.w) A (call (.ref f) us) (EP X pins σ Q) X.xe s := by
  have e := I.env0
  have e0 : Env0 X.prog X.w X.K X.mg X.base A X.stack s H := ⟨by rw [hf]; exact e.frames, e.mod, e.bs, e.bsz, e.funs, e.frf, e.hok, e.bare⟩
  have b := hb s us I.kIn (by rw [List.append_nil, ← r.length]; exact F.len _ _ _ _ h)
  rw [List.append_nil] at b
  refine wpAny_call (codeAny_mono (F.run A X.stack s H ⟨us, []⟩ us vs Q E hr e0 b r h) fun res s' hq => ?_)
  match res, hq with
  | .ok (.ret u), hq => exact I.after hq
  | .ok .next, hq => exact hq.elim
  | .ok .brk, hq => exact hq.elim
  | .ok .cont, hq => exact hq.elim
  | .error _, hq => exact hq.elim
end
theorem k_isi {X : Cx} (K : PySem.W.Frag) (hK : X.K = K := by rfl) : CallR X (.builtin "isinstance") (rIsi K) := by subst hK; exact call_isi
/-! ### two heaps -/
/-- what is told of the class beside -/
structure HIs (K : PySem.W.Frag) (C : Addr) : Prop where
  ca : PySem.W.findIn K (.ref C) "__class__" = some (some (.builtin "object.__class__"))
  cg : PySem.W.specialIn K (.builtin "object.__class__") "__get__" = some (some (.builtin "getset_descriptor.__get__"))
  ct : PySem.W.takesIn K (.builtin "object.__class__") = some true
  cm : PySem.W.mroIn K C (.type "object") = some true
theorem kit_self (K : PySem.W.Frag) (C : Addr) : PySem.W.kitOne K (.ref C) (.ref C) = some true := by
  unfold PySem.W.kitOne
  rw [if_pos (beq_self_eq_true _)]
theorem HeapAt.ty {K : PySem.W.Frag} {mg : Str → Option Value} {C p : Addr} {H : Hp} {L : List PRow} (h : HeapAt K C H p L) (T : HCls K mg C) (U : HIs K C) : TyX K H (.ref p) (.ref C) := by
  obtain ⟨dx, t, h1, _⟩ := h
  exact .base (.ins h1 T.cl U.ca U.cg U.ct U.cm)
/-- == of two heaps -/
def spEqH (K : PySem.W.Frag) (C : Addr) : Sp := fun vs H Q _ => ∃ (p q : Addr) (L M : List PRow) (n : Nat) (b : Int), vs = [.ref p, .ref q] ∧ HeapAt K C H p L ∧ HeapAt K C H q M ∧ RowsOk n b L ∧ RowsOk n b M ∧
  Q (.bl (decide (L = M))) H
def spLenH (K : PySem.W.Frag) (C : Addr) : Sp := fun vs H Q _ => ∃ (p : Addr) (L : List PRow), vs = [.ref p] ∧ HeapAt K C H p L ∧ L.length ≤ 900 ∧ Q (.int L.length) H
def rEqH (K : PySem.W.Frag) (C : Addr) : R2 := fun x y H Q => ∃ (p q : Addr) (L M : List PRow) (n : Nat) (b : Int), x = .ref p ∧ y = .ref q ∧ HeapAt K C H p L ∧ HeapAt K C H q M ∧ RowsOk n b L ∧ RowsOk n b M ∧
  Q (.bl (decide (L = M))) H
def rNeH (K : PySem.W.Frag) (C : Addr) : R2 := fun x y H Q => ∃ (p q : Addr) (L M : List PRow) (n : Nat) (b : Int), x = .ref p ∧ y = .ref q ∧ HeapAt K C H p L ∧ HeapAt K C H q M ∧ RowsOk n b L ∧ RowsOk n b M ∧
  Q (.bl (!decide (L = M))) H
def rLenH (K : PySem.W.Frag) (C : Addr) : List V → Hp → VK → Prop := fun xs H Q => ∃ (p : Addr) (L : List PRow), xs = [.ref p] ∧ HeapAt K C H p L ∧ L.length ≤ 900 ∧ Q (.int L.length) H
/-- an own method with its class's name for it -/
structure HSp (P : Program) (w : World) (K : PySem.W.Frag) (mg : Str → Option Value) (base : Heap) (k : Nat) (C : Addr) (x : Str) (f : Addr) (fd : FuncData) (ps : List Str) (sp : Sp) : Prop where
  ok : FnOk P w K mg base CX0 k f fd ps sp
  fi : PySem.W.findIn K (.ref C) x = some (some (.ref f))
  fn : PySem.W.isFn K (.ref f) = true
  b : Binds K fd ps []
section
variable {X : Cx} {k : Nat} {C f : Addr} {fd : FuncData}
theorem HeapAt.inst {pins : List (Addr × Obj)} {σ : L2.St} {H : Hp} {s : Shared} {p : Addr} {L : List PRow} (h : HeapAt X.K C H p L) (I : Inv X pins σ H s) : ∃ ox od, PySem.W.InstAt s.heap p ox C (some od) := by
  obtain ⟨dx, t, h1, _⟩ := h
  obtain ⟨mA, J, _⟩ := ins_get I.hok h1
  obtain ⟨od, J, _⟩ := J.look
  exact ⟨_, od, J⟩
theorem op_eqH (K : PySem.W.Frag) (E : HSp X.prog X.w K X.mg X.base k C "__eq__" f fd ["self", "other"] (spEqH K C)) (hr : Room k X.A) (hK : X.K = K := by rfl) : OpR X (compareOp .Eq) (rEqH K C) := by
  subst hK
  intro pins s σ H x y v u Q I rx ry h
  obtain ⟨p, q, L, M, n, b, rfl, rfl, hp, hq, okL, okM, z⟩ := h
  cases rx
  cases ry
  obtain ⟨ox, od, J⟩ := hp.inst I
  obtain ⟨oy, oe, J'⟩ := hq.inst I
  obtain ⟨m, hF⟩ := I.fr
  show wpAny (model X.prog X.w) X.A (richCompare .Eq (.ref p) (.ref q)) (EP X pins σ Q) X.xe s
  refine PySem.W.cmp_K (op := .Eq) (tb := .ref C) hr.units0 hF I.ok.mod.kin J J'.type (by simp [PySem.W.notFirst]) E.fi E.fn ?_
  refine wpAny_mono (run_in (Q := fun v H' => v = .bl (decide (L = M)) ∧ H' = H) (E := fun _ _ _ => False) E.ok hr rfl E.b I (vs := [.ref p, .ref q]) (.cons rfl (.cons rfl .nil)) ⟨p, q, L, M, n, b, rfl, hp, hq, okL, okM, rfl, rfl⟩) (fun r s' g => ?_) fun _ _ z => z
  obtain ⟨v, H', I', rv, rfl, rfl⟩ := g
  cases rv
  exact ⟨.bl (decide (L = M)), _, I', rfl, z⟩
theorem op_neH (K : PySem.W.Frag) (E : HSp X.prog X.w K X.mg X.base k C "__eq__" f fd ["self", "other"] (spEqH K C)) (hne : PySem.W.findIn K (.ref C) "__ne__" = some (some (.builtin "object.__ne__"))) (hob : PySem.W.subIn K (.ref C) (.type "object") = some true)
    (hr : Room (k + 1) X.A) (hK : X.K = K := by rfl) : OpR X (compareOp .NotEq) (rNeH K C) := by
  subst hK
  intro pins s σ H x y v u Q I rx ry h
  obtain ⟨p, q, L, M, n, b, rfl, rfl, hp, hq, okL, okM, z⟩ := h
  cases rx
  cases ry
  obtain ⟨ox, od, J⟩ := hp.inst I
  obtain ⟨oy, oe, J'⟩ := hq.inst I
  show wpAny (model X.prog X.w) X.A (richCompare .NotEq (.ref p) (.ref q)) (EP X pins σ Q) X.xe s
  refine ne_own (tb := .ref C) (by have := hr.un; omega) I.kIn J J'.type (by simp [PySem.W.notFirst]) hne hob E.fi E.fn ?_
  refine wpAny_mono (run_in (Q := fun v H' => v = .bl (decide (L = M)) ∧ H' = H) (E := fun _ _ _ => False) E.ok hr.in1 rfl E.b I (vs := [.ref p, .ref q]) (.cons rfl (.cons rfl .nil)) ⟨p, q, L, M, n, b, rfl, hp, hq, okL, okM, rfl, rfl⟩) (fun r s' g => ?_) fun _ _ z => z
  obtain ⟨v, H', I', rv, rfl, rfl⟩ := g
  cases rv
  exact ⟨_, rfl, .bl (!decide (L = M)), _, I', rfl, z⟩
theorem call_lenH (K : PySem.W.Frag) (E : HSp X.prog X.w K X.mg X.base k C "__len__" f fd ["self"] (spLenH K C)) (hr : Room (k + 1) X.A) (hK : X.K = K := by rfl) : CallR X (.builtin "len") (rLenH K C) := by
  subst hK
  intro pins s σ H xs us Q I r h
  obtain ⟨p, L, rfl, hp, hL, z⟩ := h
  obtain ⟨u, rfl, ru⟩ := vals1 r
  cases ru
  obtain ⟨ox, od, J⟩ := hp.inst I
  obtain ⟨m, hF⟩ := I.fr
  refine PySem.W.len_K hF I.ok.mod.kin J E.fi E.fn ?_
  refine wpAny_mono (run_in (Q := fun v H' => v = .int L.length ∧ H' = H) (E := fun _ _ _ => False) E.ok hr.in1 rfl E.b I (vs := [.ref p]) (.cons rfl .nil) ⟨p, L, rfl, hp, hL, rfl, rfl⟩) (fun r s' g => ?_) fun _ _ z => z
  obtain ⟨v, H', I', rv, rfl, rfl⟩ := g
  obtain ⟨t, rfl⟩ := rv
  exact ⟨⟨by omega, by omega⟩, .int L.length, _, I'.tok _, ⟨_, rfl⟩, z⟩
end
/-! ### a method that may raise, within a try -/
section
variable {X : Cx} {CX : CXT} {k : Nat} {f C : Addr} {fd : FuncData} {ps : List Str} {sp : Sp} {E : L2.St → XK} {m : Str} {pos apos : Pos} {e o : Expr} {es : List Expr} {ta : TE} {t : TA}
end
end PK
/-! Things of any kind: what stays, how long they are shown, what they are. -/
namespace PK
open PySem PySem.Spec PyProof.Rows L2
/-! ### what stays: tuples and lists -/
def Lk : HO → Prop
  | .tup _ => True
  | .frz _ _ => True
  | .lst _ => True
  | _ => False
def LKeep (H H' : Hp) : Prop := ∀ b u, Lk u → H b = some u → H' b = some u
theorem LKeep.refl (H : Hp) : LKeep H H := fun _ _ _ h => h
theorem LKeep.trans {H H1 H2 : Hp} (x : LKeep H H1) (y : LKeep H1 H2) : LKeep H H2 := fun b u t h => y b u t (x b u t h)
theorem LKeep.of {H H' : Hp} (x : Same H H') : LKeep H H' := fun b u _ h => x b u h
theorem LKeep.feed {H H' : Hp} {a c : Addr} (f : IsFeed H a c) (x : Ext a H H') : LKeep H H' := fun b u t h => by
  obtain ⟨cs, i, l, n, f⟩ := f
  exact x b u h (ne_of h f.d (by rintro rfl; exact t))
theorem LKeep.sqT {K : PySem.W.Frag} {H H' : Hp} {b : Addr} {xs : List V} (x : LKeep H H') (h : SqT K H b xs) : SqT K H' b xs := by
  rcases h with (h | ⟨o, h⟩) | h
  · exact Or.inl (Or.inl (x _ _ trivial h))
  · exact Or.inl (Or.inr ⟨o, x _ _ trivial h⟩)
  · exact Or.inr h
theorem LKeep.sqL {K : PySem.W.Frag} {H H' : Hp} {b : Addr} {xs : List V} (x : LKeep H H') (h : SqL K H b xs) : SqL K H' b xs := by
  rcases h with (h | ⟨o, h⟩) | h
  · exact Or.inl (Or.inl (x _ _ trivial h))
  · exact Or.inl (Or.inr ⟨o, x _ _ trivial h⟩)
  · exact Or.inr h
mutual
theorem Dp.keepL {K : PySem.W.Frag} {H H' : Hp} (x : LKeep H H') : ∀ {d : PyData} {v : V}, Dp K H v d → Dp K H' v d
  | .none, _, .non => .non
  | .bool _, _, .bl b => .bl b
  | .int _, _, .int i => .int i
  | .str _, _, .str y => .str y
  | .list _, _, .lst hs ha => .lst (x.sqL hs) (DpAll.keepL x ha)
  | .tuple _, _, .tup hs ha => .tup (x.sqT hs) (DpAll.keepL x ha)
theorem DpAll.keepL {K : PySem.W.Frag} {H H' : Hp} (x : LKeep H H') : ∀ {ds : List PyData} {vs : List V}, DpAll K H vs ds → DpAll K H' vs ds
  | [], _, .nil => .nil
  | _ :: _, _, .cons h1 h2 => .cons (Dp.keepL x h1) (DpAll.keepL x h2)
end
/-- all but the object at d -/
def mask (H : Hp) (d : Addr) : Hp := fun b => if b = d then none else H b
/-! ### what can be laid, shown -/
structure Ok (d : PyData) : Prop where
  lay : d.canLay0 = true
  sh : d.showable = true
  nd : d.hasDict = false
theorem okAll {ds : List PyData} : (∀ d ∈ ds, Ok d) ↔ (PyData.canLayAll0 ds = true ∧ PyData.showableAll ds = true ∧ PyData.hasDictAll ds = false) := by
  induction ds with
  | nil => exact ⟨fun _ => ⟨rfl, rfl, rfl⟩, fun _ d h => (nomatch h)⟩
  | cons d ds ih =>
    constructor
    · intro h
      obtain ⟨h1, h2, h3⟩ := ih.mp fun e he => h e (List.mem_cons_of_mem _ he)
      have q := h d List.mem_cons_self
      refine ⟨?_, ?_, ?_⟩
      · show (d.canLay0 && PyData.canLayAll0 ds) = true
        rw [q.lay, h1]
        rfl
      · show (d.showable && PyData.showableAll ds) = true
        rw [q.sh, h2]
        rfl
      · show (d.hasDict || PyData.hasDictAll ds) = false
        rw [q.nd, h3]
        rfl
    · rintro ⟨h1, h2, h3⟩
      have h1 : (d.canLay0 && PyData.canLayAll0 ds) = true := h1
      have h2 : (d.showable && PyData.showableAll ds) = true := h2
      have h3 : (d.hasDict || PyData.hasDictAll ds) = false := h3
      rw [Bool.and_eq_true] at h1 h2
      rw [Bool.or_eq_false_iff] at h3
      intro e he
      rcases List.mem_cons.mp he with rfl | he
      · exact ⟨h1.1, h2.1, h3.1⟩
      · exact ih.mpr ⟨h1.2, h2.2, h3.2⟩ e he
theorem Ok.tuple {ds : List PyData} (h : ∀ d ∈ ds, Ok d) : Ok (.tuple ds) := by
  obtain ⟨h1, h2, h3⟩ := okAll.mp h
  exact ⟨by simpa [PyData.canLay0] using h1, by simpa [PyData.showable] using h2, by simpa [PyData.hasDict] using h3⟩
theorem Ok.list {ds : List PyData} (h : ∀ d ∈ ds, Ok d) : Ok (.list ds) := by
  obtain ⟨h1, h2, h3⟩ := okAll.mp h
  exact ⟨by simpa [PyData.canLay0] using h1, by simpa [PyData.showable] using h2, by simpa [PyData.hasDict] using h3⟩
theorem Ok.mem {ds : List PyData} (h : Ok (.tuple ds)) : ∀ d ∈ ds, Ok d := okAll.mpr ⟨by simpa [PyData.canLay0] using h.lay, by simpa [PyData.showable] using h.sh, by simpa [PyData.hasDict] using h.nd⟩
theorem Ok.memL {ds : List PyData} (h : Ok (.list ds)) : ∀ d ∈ ds, Ok d := okAll.mpr ⟨by simpa [PyData.canLay0] using h.lay, by simpa [PyData.showable] using h.sh, by simpa [PyData.hasDict] using h.nd⟩
/-! ### a bound of the length when shown -/
mutual
def wt : PyData → Nat
  | .none => 4
  | .bool _ => 5
  | .int i => i.natAbs.log2 + 2
  | .str y => 10 * y.length + 2
  | .tuple ds => wts ds + 3
  | .list ds => wts ds + 3
  | .dict _ => 0
def wts : List PyData → Nat
  | [] => 0
  | d :: ds => wt d + 2 + wts ds
end
theorem wts_app : ∀ a b : List PyData, wts (a ++ b) = wts a + wts b
  | [], b => by rw [List.nil_append]; show _ = 0 + _; omega
  | d :: a, b => by
    show wt d + 2 + wts (a ++ b) = wt d + 2 + wts a + wts b
    rw [wts_app a b]
    omega
theorem wts_take (n : Nat) : ∀ ds : List PyData, wts (ds.take n) ≤ wts ds := by
  intro ds
  have := wts_app (ds.take n) (ds.drop n)
  rw [List.take_append_drop] at this
  omega
theorem wts_drop (n : Nat) (ds : List PyData) : wts (ds.drop n) ≤ wts ds := by
  have := wts_app (ds.take n) (ds.drop n)
  rw [List.take_append_drop] at this
  omega
theorem wts_len {n : Nat} : ∀ {ds : List PyData}, wts ds ≤ 2 * n → ds.length ≤ n
  | [], _ => Nat.zero_le _
  | d :: ds, h => by
    have h : wt d + 2 + wts ds ≤ 2 * n := h
    have := wts_len (n := n - 1) (ds := ds) (by omega)
    rw [List.length_cons]
    omega
theorem cps_small {y : Str} (h : PyData.strOk y = true) : ∀ c ∈ y.cps.toList, c < 16 ^ 8 := fun c hc => by
  unfold PyData.strOk at h
  rw [Array.all_eq_true_iff_forall_mem] at h
  have := of_decide_eq_true (h c (by simpa using hc))
  omega
mutual
theorem shown_wt : ∀ d : PyData, Ok d → d.shown.length ≤ wt d
  | .none, _ => by decide +kernel
  | .bool b, _ => by cases b <;> decide +kernel
  | .int i, _ => by
    have e : (PyData.shown (.int i)) = Str.ofString (toString i) := by simp only [PyData.shown]
    rw [e, PySem.ofString_length]
    exact int_text_length_le (k := i.natAbs.log2 + 1) (by omega) (by omega)
  | .str y, h => by
    have e : (PyData.shown (.str y)) = reprText y := by simp only [PyData.shown]
    rw [e]
    exact StrLaws.reprText_len y (cps_small (by simpa [PyData.canLay0] using h.lay))
  | .tuple ds, h => by
    have e : (PyData.shown (.tuple ds)) = tupleText (PyData.shownAll ds) := by simp only [PyData.shown]
    rw [e]
    have l := tupleText_len_le (PyData.shownAll ds)
    have q := shownAll_wt ds h.mem
    show _ ≤ wts ds + 3
    omega
  | .list ds, h => by
    have e : (PyData.shown (.list ds)) = listText (PyData.shownAll ds) := by simp only [PyData.shown]
    rw [e]
    have l := listText_len_le (PyData.shownAll ds)
    have q := shownAll_wt ds h.memL
    show _ ≤ wts ds + 3
    omega
  | .dict _, h => by
    have := h.lay
    simp [PyData.canLay0] at this
theorem shownAll_wt : ∀ ds : List PyData, (∀ d ∈ ds, Ok d) → ((PyData.shownAll ds).map (·.length)).sum + 2 * (PyData.shownAll ds).length ≤ wts ds
  | [], _ => Nat.le_refl _
  | d :: ds, h => by
    have h1 := shown_wt d (h d List.mem_cons_self)
    have h2 := shownAll_wt ds fun e he => h e (List.mem_cons_of_mem _ he)
    show (d.shown.length :: ((PyData.shownAll ds).map (·.length))).sum + 2 * ((PyData.shownAll ds).length + 1) ≤ wt d + 2 + wts ds
    rw [List.sum_cons]
    omega
end
/-- a thing: how deep, how long -/
structure Tg (dp n : Nat) (d : PyData) : Prop where
  ok : Ok d
  dep : d.depth ≤ dp
  wt : wt d ≤ n
theorem Tg.sh {dp n : Nat} {d : PyData} (h : Tg dp n d) : Sh d dp n := ⟨h.ok.sh, h.ok.nd, h.dep, Nat.le_trans (shown_wt d h.ok) h.wt⟩
theorem Tg.mono {dp n dp' n' : Nat} {d : PyData} (h : Tg dp n d) (h1 : dp ≤ dp') (h2 : n ≤ n') : Tg dp' n' d := ⟨h.ok, Nat.le_trans h.dep h1, Nat.le_trans h.wt h2⟩
theorem Tg.shaped {dp n : Nat} {d : PyData} (h : Tg dp n d) (hd : dp ≤ 64) : SeqAt.shaped d = true := by
  unfold SeqAt.shaped
  rw [h.ok.lay, decide_eq_true (Nat.le_trans h.dep hd)]
  rfl
theorem depthAll_mem {d : PyData} : ∀ {ds : List PyData}, d ∈ ds → d.depth ≤ PyData.depthAll ds
  | e :: ds, h => by
    show _ ≤ max e.depth (PyData.depthAll ds)
    rcases List.mem_cons.mp h with rfl | h
    · exact Nat.le_max_left _ _
    · exact Nat.le_trans (depthAll_mem h) (Nat.le_max_right _ _)
theorem depth_tuple (ds : List PyData) : (PyData.tuple ds).depth = PyData.depthAll ds + 1 := by simp only [PyData.depth]
theorem depth_list (ds : List PyData) : (PyData.list ds).depth = PyData.depthAll ds + 1 := by simp only [PyData.depth]
theorem Tg.tuple {dp n : Nat} {ds : List PyData} (h : ∀ d ∈ ds, Ok d ∧ d.depth ≤ dp) (hn : wts ds + 3 ≤ n) : Tg (dp + 1) n (.tuple ds) := by
  refine ⟨Ok.tuple fun d hd => (h d hd).1, ?_, hn⟩
  rw [depth_tuple]
  exact Nat.succ_le_succ (depthAll_le fun d hd => (h d hd).2)
theorem Tg.list {dp n : Nat} {ds : List PyData} (h : ∀ d ∈ ds, Ok d ∧ d.depth ≤ dp) (hn : wts ds + 3 ≤ n) : Tg (dp + 1) n (.list ds) := by
  refine ⟨Ok.list fun d hd => (h d hd).1, ?_, hn⟩
  rw [depth_list]
  exact Nat.succ_le_succ (depthAll_le fun d hd => (h d hd).2)
theorem Tg.each {dp n : Nat} {ds : List PyData} (h : Tg (dp + 1) n (.tuple ds)) : ∀ d ∈ ds, Ok d ∧ d.depth ≤ dp := fun d hd => by
  refine ⟨h.ok.mem d hd, ?_⟩
  have h1 := h.dep
  rw [depth_tuple] at h1
  have := depthAll_mem hd
  omega
theorem Ok.non : Ok .none := ⟨rfl, rfl, rfl⟩
theorem Ok.bl (b : Bool) : Ok (.bool b) := ⟨rfl, rfl, rfl⟩
theorem Ok.int {i : Int} (h : i.natAbs.log2 < 1920) : Ok (.int i) := ⟨rfl, decide_eq_true h, rfl⟩
theorem Ok.str {y : Str} (h : PyData.strOk y = true) : Ok (.str y) := ⟨h, rfl, rfl⟩
/-! ### the kinds -/
def tyD : PyData → String
  | .none => "NoneType"
  | .bool _ => "bool"
  | .int _ => "int"
  | .str _ => "str"
  | .tuple _ => "tuple"
  | .list _ => "list"
  | .dict _ => "dict"
theorem Dp.ty {K : PySem.W.Frag} {H : Hp} {v : V} {d : PyData} (h : Dp K H v d) : TyX K H v (.type (tyD d)) := by
  cases h with
  | non => exact .base .non
  | bl b => exact .base (.bl b)
  | int i => exact .base (.int i)
  | str y => exact .base (.str y)
  | lst hs _ =>
    rcases hs with (h | ⟨o, h⟩) | ⟨o, its, n, hk, hc, _⟩
    · exact .base (.lst h)
    · exact .base (.frz h)
    · exact .kList hk hc
  | tup hs _ =>
    rcases hs with (h | ⟨o, h⟩) | ⟨o, its, n, hk, hc, _⟩
    · exact .base (.tup h)
    · exact .fTuple h
    · exact .kTuple hk hc
theorem DpAll.three {K : PySem.W.Frag} {H : Hp} {xs : List V} {ds : List PyData} (h : DpAll K H xs ds) (hl : xs.length = 3) : ∃ d0 d1 d2 x0 x1 x2, ds = [d0, d1, d2] ∧ xs = [x0, x1, x2] ∧ Dp K H x0 d0 ∧ Dp K H x1 d1 ∧ Dp K H x2 d2 := by
  cases h with
  | nil => cases hl
  | cons h0 h =>
    cases h with
    | nil => cases hl
    | cons h1 h =>
      cases h with
      | nil => cases hl
      | cons h2 h =>
        cases h with
        | nil => exact ⟨_, _, _, _, _, _, rfl, rfl, h0, h1, h2⟩
        | cons _ _ => simp at hl
/-! ### names that are the built-in ones -/
def NoB (mg : Str → Option Value) (l : List Str) : Prop := ∀ x ∈ l, mg x = none
abbrev BL : List Str := ["isinstance", "int", "bool", "str", "tuple", "list", "len", "range", "repr", "all", "ord", "sorted", "set", "sum", "min", "zip", "max", "enumerate", "dict"]
/-- the program's own letters -/
structure Abc (mg : Str → Option Value) : Prop where
  le : ∃ u, mg "LETTERS" = some u ∧ RelV (.str abc) u
  lo : ∃ u, mg "LONGEST_WORD" = some u ∧ RelV (.int 8) u
/-! ### looks -/
end PK
/-! All but some lists that grow. -/
namespace PK
open PySem PySem.Spec PyProof.Rows L2
def ms (S : List Addr) (H : Hp) : Hp := fun b => if b ∈ S then none else H b
section
variable {K : PySem.W.Frag} {S : List Addr} {H H' : Hp} {a c o p D : Addr} {x u : HO}
theorem ms_at (h : H p = some u) (n : p ∉ S) : ms S H p = some u := by
  unfold ms
  rw [if_neg n]
  exact h
theorem ms_some (h : ms S H p = some u) : H p = some u ∧ p ∉ S := by
  unfold ms at h
  split at h
  · cases h
  · rename_i z
    exact ⟨h, z⟩
theorem ms_sub : Same (ms S H) H := fun b o h => (ms_some h).1
theorem ms_upd (h : o ∈ S) : ms S (upd H o x) = ms S H := by
  funext b
  unfold ms
  split
  · rfl
  · rename_i z
    exact upd_ne (fun e => z (by rw [e]; exact h))
end
theorem Dp.full {K : PySem.W.Frag} {S : List Addr} {H : Hp} {v : V} {d : PyData} (h : Dp K (ms S H) v d) : Dp K H v d := Dp.same ms_sub h
/-- these are lists -/
def Ls (S : List Addr) (H : Hp) : Prop := ∀ q ∈ S, ∃ l, H q = some (.lst l)
theorem Ls.keep {S : List Addr} {H H' : Hp} (h : Ls S H) (k : LKeep H H') : Ls S H' := fun q hq => by
  obtain ⟨l, e⟩ := h q hq
  exact ⟨l, k _ _ trivial e⟩
theorem Ls.same {S : List Addr} {H H' : Hp} (h : Ls S H) (k : Same H H') : Ls S H' := h.keep (LKeep.of k)
theorem Ls.out {S : List Addr} {H : Hp} {p : Addr} (h : Ls S H) (n : H p = none) : p ∉ S := fun z => by
  obtain ⟨l, e⟩ := h p z
  rw [n] at e
  cases e
theorem Ls.cons {S : List Addr} {H : Hp} {p : Addr} {l : List V} (e : H p = some (.lst l)) (h : Ls S H) : Ls (p :: S) H := fun q hq => by
  rcases List.mem_cons.mp hq with rfl | z
  · exact ⟨l, e⟩
  · exact h q z
theorem Ls.set {S : List Addr} {H : Hp} {t : Addr} {l : List V} (h : Ls S H) : Ls S (upd H t (.lst l)) := fun q hq => by
  by_cases z : q = t
  · rw [z]
    exact ⟨l, upd_same⟩
  · rw [upd_ne z]
    exact h q hq
theorem Ls.nil (H : Hp) : Ls [] H := fun _ h => (nomatch h)
end PK
/-! Things bent at some place. -/
namespace PK
open PySem PySem.Spec PyProof.Rows L2
/-! ### how great the numbers are -/
mutual
def mx : PyData → Nat
  | .int i => i.natAbs.log2
  | .tuple ds => mxs ds
  | .list ds => mxs ds
  | _ => 0
def mxs : List PyData → Nat
  | [] => 0
  | d :: ds => max (mx d) (mxs ds)
end
theorem mxs_le {m : Nat} : ∀ {ds : List PyData}, mxs ds ≤ m ↔ ∀ d ∈ ds, mx d ≤ m
  | [] => ⟨fun _ _ h => (nomatch h), fun _ => Nat.zero_le _⟩
  | d :: ds => by
    show max (mx d) (mxs ds) ≤ m ↔ _
    rw [Nat.max_le, mxs_le (ds := ds)]
    constructor
    · rintro ⟨h1, h2⟩ e he
      rcases List.mem_cons.mp he with rfl | he
      · exact h1
      · exact h2 e he
    · exact fun h => ⟨h d List.mem_cons_self, fun e he => h e (List.mem_cons_of_mem _ he)⟩
/-- what is known of a thing: texts, numbers, depth -/
structure Bd (m dp : Nat) (d : PyData) : Prop where
  lay : d.canLay0 = true
  mx : mx d ≤ m
  dep : d.depth ≤ dp
theorem canLay_all {ds : List PyData} : PyData.canLayAll0 ds = true ↔ ∀ d ∈ ds, d.canLay0 = true := by
  induction ds with
  | nil => exact ⟨fun _ _ h => (nomatch h), fun _ => rfl⟩
  | cons d ds ih =>
    show (d.canLay0 && PyData.canLayAll0 ds) = true ↔ _
    rw [Bool.and_eq_true, ih]
    constructor
    · rintro ⟨h1, h2⟩ e he
      rcases List.mem_cons.mp he with rfl | he
      · exact h1
      · exact h2 e he
    · exact fun h => ⟨h d List.mem_cons_self, fun e he => h e (List.mem_cons_of_mem _ he)⟩
mutual
theorem ok_of : ∀ {d : PyData} {m : Nat}, d.canLay0 = true → mx d ≤ m → m < 1920 → Ok d
  | .none, _, _, _, _ => Ok.non
  | .bool b, _, _, _, _ => Ok.bl b
  | .int i, _, _, h, hm => Ok.int (Nat.lt_of_le_of_lt h hm)
  | .str y, _, h, _, _ => Ok.str h
  | .tuple ds, _, h, h2, hm => Ok.tuple (oks_of (by simpa [PyData.canLay0] using h) h2 hm)
  | .list ds, _, h, h2, hm => Ok.list (oks_of (by simpa [PyData.canLay0] using h) h2 hm)
  | .dict _, _, h, _, _ => by simp [PyData.canLay0] at h
theorem oks_of : ∀ {ds : List PyData} {m : Nat}, PyData.canLayAll0 ds = true → mxs ds ≤ m → m < 1920 → ∀ d ∈ ds, Ok d
  | [], _, _, _, _, _, h => (nomatch h)
  | e :: ds, m, h, h2, hm, d, hd => by
    have h : (e.canLay0 && PyData.canLayAll0 ds) = true := h
    have h2 : max (mx e) (mxs ds) ≤ m := h2
    rw [Bool.and_eq_true] at h
    rw [Nat.max_le] at h2
    rcases List.mem_cons.mp hd with z | z
    · rw [z]
      exact ok_of h.1 h2.1 hm
    · exact oks_of h.2 h2.2 hm d z
end
theorem Bd.ok {m dp : Nat} {d : PyData} (h : Bd m dp d) (hm : m < 1920) : Ok d := ok_of h.lay h.mx hm
theorem Bd.mono {m dp m' dp' : Nat} {d : PyData} (h : Bd m dp d) (h1 : m ≤ m') (h2 : dp ≤ dp') : Bd m' dp' d := ⟨h.lay, Nat.le_trans h.mx h1, Nat.le_trans h.dep h2⟩
theorem Bd.tuple {m dp : Nat} {ds : List PyData} (h : ∀ d ∈ ds, Bd m dp d) : Bd m (dp + 1) (.tuple ds) := by
  refine ⟨?_, mxs_le.mpr fun d hd => (h d hd).mx, ?_⟩
  · have := canLay_all.mpr fun d hd => (h d hd).lay
    simpa [PyData.canLay0] using this
  · rw [depth_tuple]
    exact Nat.succ_le_succ (depthAll_le fun d hd => (h d hd).dep)
theorem Bd.list {m dp : Nat} {ds : List PyData} (h : ∀ d ∈ ds, Bd m dp d) : Bd m (dp + 1) (.list ds) := by
  refine ⟨?_, mxs_le.mpr fun d hd => (h d hd).mx, ?_⟩
  · have := canLay_all.mpr fun d hd => (h d hd).lay
    simpa [PyData.canLay0] using this
  · rw [depth_list]
    exact Nat.succ_le_succ (depthAll_le fun d hd => (h d hd).dep)
theorem Bd.mem {m dp : Nat} {ds : List PyData} (h : Bd m (dp + 1) (.tuple ds)) : ∀ d ∈ ds, Bd m dp d := fun d hd => by
  refine ⟨canLay_all.mp (by simpa [PyData.canLay0] using h.lay) d hd, mxs_le.mp h.mx d hd, ?_⟩
  have h1 := h.dep
  rw [depth_tuple] at h1
  have := depthAll_mem hd
  omega
theorem Bd.non {m dp : Nat} : Bd m dp .none := ⟨rfl, Nat.zero_le _, Nat.zero_le _⟩
theorem Bd.bl {m dp : Nat} (b : Bool) : Bd m dp (.bool b) := ⟨rfl, Nat.zero_le _, Nat.zero_le _⟩
theorem Bd.int {m dp : Nat} {i : Int} (h : i.natAbs.log2 ≤ m) : Bd m dp (.int i) := ⟨rfl, h, Nat.zero_le _⟩
theorem Bd.str {m dp : Nat} {y : Str} (h : PyData.strOk y = true) : Bd m dp (.str y) := ⟨h, Nat.zero_le _, Nat.zero_le _⟩
/-! ### slices of data -/
theorem DpAll.drop {K : PySem.W.Frag} {H : Hp} : ∀ (n : Nat) {vs : List V} {ds : List PyData}, DpAll K H vs ds → DpAll K H (vs.drop n) (ds.drop n)
  | 0, _, _, h => h
  | _ + 1, _, _, .nil => .nil
  | n + 1, _, _, .cons _ h2 => DpAll.drop n h2
/-- what is cut out of them -/
theorem DpAll.cut {K : PySem.W.Frag} {H : Hp} {vs : List V} {ds : List PyData} (h : DpAll K H vs ds) (lo hi : Option Int) : ∃ es, DpAll K H (cutV vs lo hi) es ∧ (∀ e ∈ es, e ∈ ds) ∧ wts es ≤ wts ds := by
  unfold cutV
  refine ⟨_, DpAll.take _ (DpAll.drop _ h), fun e he => List.mem_of_mem_drop (List.mem_of_mem_take he), ?_⟩
  exact Nat.le_trans (wts_take _ _) (wts_drop _ _)
/-- a slice of a tuple -/
theorem rd_sl {K : PySem.W.Frag} {H : Hp} {b : Addr} {xs : List V} {lo hi : Option Int} {Q : VK} (hb : SqT K H b xs) (q : ∀ c H', Same H H' → SqT K H' c (cutV xs lo hi) → Q (.ref c) H') :
    (HT.sIx xs.length 0 lo = 0 ∧ HT.sIx xs.length xs.length hi = xs.length → Q (.ref b) H) ∧ (¬ (HT.sIx xs.length 0 lo = 0 ∧ HT.sIx xs.length xs.length hi = xs.length) → ∀ p, H p = none → Q (.ref p) (upd H p (.tup (cutV xs lo hi)))) := by
  refine ⟨fun hw => ?_, fun _ p np => q p _ (same_new (Same.refl H) np) (SqT.of upd_same)⟩
  have e : cutV xs lo hi = xs := by
    unfold cutV
    rw [hw.1, hw.2]
    simp
  have := q b H (Same.refl H)
  rw [e] at this
  exact this hb
/-! ### sums with a truth -/
def asI : V → Option Int
  | .int i => some i
  | .bl b => some (b2i b)
  | _ => none
section
variable {X : Cx}
theorem op_addW : OpR X (binaryOp .Add) (fun x y H Q => ∃ i j, asI x = some i ∧ y = .int j ∧ Q (.int (i + j)) H) := by
  intro pins s σ H x y v u Q I rx ry h
  obtain ⟨i, j, hx, rfl, q⟩ := h
  obtain ⟨t, rfl⟩ := ry
  cases x with
  | int n =>
    cases hx
    exact op_add pins s σ H (.int i) (.int j) v _ Q I rx ⟨t, rfl⟩ ⟨_, _, rfl, rfl, q⟩
  | bl b =>
    cases hx
    cases rx
    exact PySem.IntBool.add_bool_int ⟨.int _, H, I.tok _, ⟨_, rfl⟩, q⟩
  | _ => cases hx
theorem op_subW : OpR X (binaryOp .Sub) (fun x y H Q => ∃ i j, asI x = some i ∧ y = .int j ∧ Q (.int (i - j)) H) := by
  intro pins s σ H x y v u Q I rx ry h
  obtain ⟨i, j, hx, rfl, q⟩ := h
  obtain ⟨t, rfl⟩ := ry
  cases x with
  | int n =>
    cases hx
    exact op_sub pins s σ H (.int i) (.int j) v _ Q I rx ⟨t, rfl⟩ ⟨_, _, rfl, rfl, q⟩
  | bl b =>
    cases hx
    cases rx
    exact PySem.IntBool.sub_bool_int ⟨.int _, H, I.tok _, ⟨_, rfl⟩, q⟩
  | _ => cases hx
/-- str(n), n a number or a truth -/
def txI : V → Str
  | .int i => toString i
  | .bl b => if b then "True" else "False"
  | _ => ""
theorem call_strW : CallR X (.type "str") (fun xs H Q => ∃ x i, xs = [x] ∧ asI x = some i ∧ i.natAbs.log2 < 1920 ∧ Q (.str (txI x)) H) := by
  intro pins s σ H xs us Q I r h
  obtain ⟨x, i, rfl, hx, hl, q⟩ := h
  obtain ⟨u, rfl, ru⟩ := vals1 r
  cases x with
  | int n =>
    cases hx
    obtain ⟨t, rfl⟩ := ru
    exact PySem.P.str_of_int hl ⟨.str _, H, I.tok _, ⟨_, rfl⟩, q⟩
  | bl b =>
    cases hx
    cases ru
    exact PySem.P.str_of_bool ⟨.str _, H, I.tok _, ⟨_, rfl⟩, q⟩
  | _ => cases hx
end
end PK
namespace PK
open PySem PySem.Spec PyProof.Rows L2
end PK
namespace PK
open PySem PySem.Spec PyProof.Rows L2
theorem strOk_of (s : String) : PyData.strOk (Str.ofString s) = true := by
  unfold PyData.strOk
  rw [Array.all_eq_true_iff_forall_mem]
  intro c hc
  rw [Str.ofString_eq_toList] at hc
  have hc : c ∈ (s.toList.map Char.toNat) := by simpa using hc
  obtain ⟨x, _, rfl⟩ := List.mem_map.mp hc
  have := x.valid
  refine decide_eq_true ?_
  rcases this with h | ⟨_, h⟩
  · have : x.val.toNat < 55296 := h
    show x.val.toNat < 1114112
    omega
  · have : x.val.toNat < 1114112 := h
    exact this
end PK
namespace PK
open PySem PySem.Spec PyProof.Rows L2
/-! ### slices and sums of tuples, wherever the answer lies -/
def rSlB (K : PySem.W.Frag) : V → Option Int → Option Int → Hp → VK → Prop := fun x lo hi H Q => ∃ a xs, x = .ref a ∧ SqT K H a xs ∧ ∀ c H', Same H H' → SqT K H' c (cutV xs lo hi) → Q (.ref c) H'
def rCatB (K : PySem.W.Frag) : R2 := fun x y H Q => ∃ a b xs ys, x = .ref a ∧ y = .ref b ∧ SqT K H a xs ∧ SqT K H b ys ∧ xs.length + ys.length ≤ sizeLine ∧ ∀ c H', Same H H' → SqT K H' c (xs ++ ys) → Q (.ref c) H'
theorem ks_tupB {X : Cx} (K : PySem.W.Frag) (hK : X.K = K := by rfl) : SlR X (rSlB K) := by
  intro pins s σ H x v vl vu lo hi sl Q I rx hs pl pu h
  obtain ⟨a, xs, e, hx, q⟩ := h
  exact ks_tup K hK pins s σ H x v vl vu lo hi sl Q I rx hs pl pu ⟨a, xs, e, hx, rd_sl hx q⟩
theorem ko_catB {X : Cx} (K : PySem.W.Frag) (hK : X.K = K := by rfl) : OpR X (binaryOp .Add) (rCatB K) := by
  intro pins s σ H x y v u Q I rx ry h
  obtain ⟨a, b, xs, ys, e1, e2, ha, hb, hz, q⟩ := h
  refine ko_catA K hK pins s σ H x y v u Q I rx ry ⟨a, b, xs, ys, e1, e2, ha, hb, hz, fun z => ?_, fun _ z => ?_, fun _ _ c nc => q c _ (same_new (Same.refl H) nc) (SqT.of upd_same)⟩
  · subst z
    exact q b H (Same.refl H) hb
  · subst z
    rw [List.append_nil] at q
    exact q a H (Same.refl H) ha
end PK
namespace PK
open PySem PySem.Spec PyProof.Rows L2
end PK
/-! Texts of drawn signs. -/
namespace PK
open PySem PySem.Spec PyProof.Rows L2
end PK
namespace PK
open PySem PySem.Spec PyProof.Rows L2
end PK
/-! Things that are kept in lists that grow: all but these lists. -/
namespace PK
open PySem PySem.Spec PyProof.Rows L2
end PK
/-! Shades, wants and ways: what they are. -/
namespace PK
open PySem PySem.Spec PyProof.Rows L2
end PK
/-! set(t) of texts. -/
namespace PK
open PySem PySem.Spec PyProof.Rows L2
section
variable {P : Program} {w : World} {A : Around} {E : Value → Shared → Prop} {s : Shared}
theorem SetTx.at {h h' : Heap} {a : Addr} {l : List Str} (R : SetTx P w h a l) (k : ∀ o, h.get? a = some o → h'.get? a = some o) : SetTx P w h' a l := by
  obtain ⟨D, hD, r⟩ := R
  exact ⟨D, k _ hD, r⟩
end
section
variable {X : Cx}
end
end PK
/-! Shades in order: told by neighbours, or by sorting the set. -/
namespace PK
open PySem PySem.Spec PyProof.Rows L2
end PK
namespace PK
open PySem PySem.Spec PyProof.Rows L2
end PK
/-! Things by value: a def's body as a computation over plain things, apart from the memory. -/
namespace LP
open PySem PySem.Spec PyProof.Rows L2 PK
/-! ### plain things -/
inductive D where
  | non
  | bl (b : Bool)
  | int (i : Int)
  | str (s : Str)
  | tup (l : List D)
  | lst (l : List D)
  | dct (ks vs : List D)
  | set (l : List Str)
  | txt (s : Str)
  | obj (c : Nat) (l : List D)
  | tok (n : Nat)
deriving Inhabited
/-- what may be raised: which class, its fields -/
structure Ex where
  c : Nat
  l : List D
/-! ### computations: what is wanted of the answer, of what is raised -/
structure W (α : Type) where
  wp : (α → Prop) → (Ex → Prop) → Prop
  mono : ∀ {Q Q' : α → Prop} {E E' : Ex → Prop}, (∀ a, Q a → Q' a) → (∀ e, E e → E' e) → wp Q E → wp Q' E'
namespace W
variable {α β γ : Type}
def ret (a : α) : W α := ⟨fun Q _ => Q a, fun h _ q => h _ q⟩
def bind (m : W α) (f : α → W β) : W β := ⟨fun Q E => m.wp (fun a => (f a).wp Q E) E, fun h1 h2 q => m.mono (fun a => (f a).mono h1 h2) h2 q⟩
def want (p : Prop) : W Unit := ⟨fun Q _ => p ∧ Q (), fun h _ q => ⟨q.1, h _ q.2⟩⟩
def fail : W α := ⟨fun _ _ => False, fun _ _ q => q⟩
def raise (e : Ex) : W α := ⟨fun _ E => E e, fun _ h q => h _ q⟩
def any (P : α → Prop) : W α := ⟨fun Q _ => ∀ a, P a → Q a, fun h _ q a p => h _ (q a p)⟩
/-- nothing is raised -/
def calm (m : W α) : W α := ⟨fun Q _ => m.wp Q fun _ => False, fun h _ q => m.mono h (fun _ z => z) q⟩
def ite (b : Bool) (x y : W α) : W α := match b with | true => x | false => y
instance : Monad W where
  pure := ret
  bind := bind
theorem ret_wp {a : α} {Q : α → Prop} {E : Ex → Prop} : (ret a).wp Q E ↔ Q a := Iff.rfl
theorem bind_wp {m : W α} {f : α → W β} {Q : β → Prop} {E : Ex → Prop} : (bind m f).wp Q E ↔ m.wp (fun a => (f a).wp Q E) E := Iff.rfl
theorem want_wp {p : Prop} {Q : Unit → Prop} {E : Ex → Prop} : (want p).wp Q E ↔ p ∧ Q () := Iff.rfl
theorem any_wp {P : α → Prop} {Q : α → Prop} {E : Ex → Prop} : (any P).wp Q E ↔ ∀ a, P a → Q a := Iff.rfl
@[ext] theorem ext {a b : W α} (h : a.wp = b.wp) : a = b := by
  cases a
  cases b
  cases h
  rfl
theorem ret_bind {a : α} {f : α → W β} : bind (ret a) f = f a := rfl
end W
/-! ### where one stands -/
/-- what is not a tuple: it may change -/
def Mt : HO → Prop
  | .tup _ => False
  | .frz _ (.tup _) => False
  | _ => True
/-- the program, its classes, the kind of feed -/
structure Sig where
  P : Program
  w : World
  K : PySem.W.Frag
  cl : Nat → Option Addr
  fl : Nat → List Str
  fk : Hp → Addr → Addr → Prop
  fks : ∀ H H' a c, fk H a c → H' a = H a → H' c = H c → fk H' a c
  fkm : ∀ H a c, fk H a c → (∃ o, H a = some o ∧ Mt o) ∧ ∃ o, H c = some o ∧ Mt o
/-- what stands beside: nothing; the feed, which may change; things of a store, which don't -/
inductive Fd where
  | none
  | some (p : Addr × Addr)
  | al (l : List Addr)
/-- .., and the feed: what may change beside -/
structure Ctx where
  Γ : Sig
  fd : Fd
namespace Ctx
abbrev P (Ξ : Ctx) : Program := Ξ.Γ.P
abbrev w (Ξ : Ctx) : World := Ξ.Γ.w
abbrev K (Ξ : Ctx) : PySem.W.Frag := Ξ.Γ.K
abbrev cl (Ξ : Ctx) : Nat → Option Addr := Ξ.Γ.cl
abbrev fl (Ξ : Ctx) : Nat → List Str := Ξ.Γ.fl
def ff (Ξ : Ctx) : List Addr := match Ξ.fd with
  | .none => []
  | .some (a, c) => [a, c]
  | .al _ => []
def FI (Ξ : Ctx) (H : Hp) : Prop := match Ξ.fd with
  | .none => True
  | .some (a, c) => Ξ.Γ.fk H a c
  | .al _ => True
def tk (Ξ : Ctx) (n : Nat) : Option V := match Ξ.fd with
  | .none => none
  | .some (a, _) => if n = 0 then some (.ref a) else none
  | .al l => match n with
    | 0 => none
    | n + 1 => l[n]?.map V.ref
theorem fst (Ξ : Ctx) (H H' : Hp) (h : ∀ b ∈ Ξ.ff, H' b = H b) (f : Ξ.FI H) : Ξ.FI H' := by
  unfold FI ff at *
  split at f
  · rename_i e
    trivial
  · rename_i a c e
    rw [e] at h
    exact Ξ.Γ.fks H H' a c f (h a List.mem_cons_self) (h c (List.mem_cons_of_mem _ List.mem_cons_self))
  · trivial
theorem fex (Ξ : Ctx) (H : Hp) (f : Ξ.FI H) : ∀ b ∈ Ξ.ff, ∃ o, H b = some o ∧ Mt o := by
  unfold FI at f
  unfold ff
  split at f
  · exact fun b hb => (nomatch hb)
  · rename_i a c e
    intro b hb
    rcases List.mem_cons.mp hb with rfl | hb
    · exact (Ξ.Γ.fkm H _ _ f).1
    · rw [List.mem_singleton.mp hb]
      exact (Ξ.Γ.fkm H _ _ f).2
  · exact fun b hb => (nomatch hb)
end Ctx
mutual
inductive Rp (Ξ : Ctx) (H : Hp) : V → D → Prop
  | non : Rp Ξ H .non .non
  | bl (b : Bool) : Rp Ξ H (.bl b) (.bl b)
  | int (i : Int) : Rp Ξ H (.int i) (.int i)
  | str (y : Str) : PyData.strOk y = true → Rp Ξ H (.str y) (.str y)
  | tup {a : Addr} {xs : List V} {ds : List D} : SqT Ξ.K H a xs → RpAll Ξ H xs ds → Rp Ξ H (.ref a) (.tup ds)
  | lst {a : Addr} {xs : List V} {ds : List D} : H a = some (.lst xs) → RpAll Ξ H xs ds → Rp Ξ H (.ref a) (.lst ds)
  | obj {a C dx : Addr} {c : Nat} {xs : List V} {ds : List D} : H a = some (.ins C dx ((Ξ.fl c).zip xs)) → Ξ.cl c = some C → RpAll Ξ H xs ds → Rp Ξ H (.ref a) (.obj c ds)
  | tok {v : V} {n : Nat} : Ξ.tk n = some v → Rp Ξ H v (.tok n)
  | set {a : Addr} {l : List Str} : H a = some (SetTO Ξ.P Ξ.w a l) → l.Nodup → (∀ y ∈ l, PyData.strOk y = true) → Rp Ξ H (.ref a) (.set l)
  | txt (s : Str) : Rp Ξ H (.str s) (.txt s)
  | dct {a : Addr} {ks vs : List D} {ps : List (Str × Str)} : H a = some (.dK (ps.map fun p => (Sum.inr p.1, V.str p.2))) → (∀ p ∈ ps, PyData.strOk p.1 = true ∧ PyData.strOk p.2 = true) → ks = ps.map (fun p => D.str p.1) → vs = ps.map (fun p => D.str p.2) → Rp Ξ H (.ref a) (.dct ks vs)
inductive RpAll (Ξ : Ctx) (H : Hp) : List V → List D → Prop
  | nil : RpAll Ξ H [] []
  | cons {v : V} {vs : List V} {d : D} {ds : List D} : Rp Ξ H v d → RpAll Ξ H vs ds → RpAll Ξ H (v :: vs) (d :: ds)
end
theorem sqT_same {K : PySem.W.Frag} {H H' : Hp} {b : Addr} {xs : List V} (x : Same H H') (h : SqT K H b xs) : SqT K H' b xs := (LKeep.of x).sqT h
section
variable {Ξ : Ctx} {H H' : Hp}
mutual
theorem Rp.same (x : Same H H') : ∀ {d : D} {v : V}, Rp Ξ H v d → Rp Ξ H' v d
  | .non, _, .non => .non
  | .bl _, _, .bl b => .bl b
  | .int _, _, .int i => .int i
  | .str _, _, .str y h => .str y h
  | .tup _, _, .tup hs ha => .tup (sqT_same x hs) (RpAll.same x ha)
  | .lst _, _, .lst hs ha => .lst (x _ _ hs) (RpAll.same x ha)
  | .obj _ _, _, .obj h1 h2 ha => .obj (x _ _ h1) h2 (RpAll.same x ha)
  | .tok _, _, .tok h => .tok h
  | .set _, _, .set h n o => .set (x _ _ h) n o
  | .txt _, _, .txt s => .txt s
  | .dct _ _, _, .dct h o e1 e2 => .dct (x _ _ h) o e1 e2
theorem RpAll.same (x : Same H H') : ∀ {ds : List D} {vs : List V}, RpAll Ξ H vs ds → RpAll Ξ H' vs ds
  | [], _, .nil => .nil
  | _ :: _, _, .cons h1 h2 => .cons (Rp.same x h1) (RpAll.same x h2)
end
theorem RpAll.len : ∀ {vs : List V} {ds : List D}, RpAll Ξ H vs ds → vs.length = ds.length
  | _, _, .nil => rfl
  | _, _, .cons _ h => congrArg (· + 1) (RpAll.len h)
theorem RpAll.app : ∀ {vs us : List V} {ds es : List D}, RpAll Ξ H vs ds → RpAll Ξ H us es → RpAll Ξ H (vs ++ us) (ds ++ es)
  | _, _, _, _, .nil, h => h
  | _, _, _, _, .cons h1 h2, h => .cons h1 (RpAll.app h2 h)
theorem RpAll.snoc {v : V} {d : D} {vs : List V} {ds : List D} (h : Rp Ξ H v d) (h2 : RpAll Ξ H vs ds) : RpAll Ξ H (vs ++ [v]) (ds ++ [d]) := h2.app (.cons h .nil)
theorem RpAll.get : ∀ {vs : List V} {ds : List D} {i : Nat} {d : D}, RpAll Ξ H vs ds → ds[i]? = some d → ∃ v, vs[i]? = some v ∧ Rp Ξ H v d
  | _, _, _, _, .nil, h => by simp at h
  | _, _, 0, _, .cons h1 _, h => ⟨_, rfl, by simp at h; subst h; exact h1⟩
  | _, _, i + 1, _, .cons _ h2, h => RpAll.get (i := i) h2 (by simpa using h)
theorem RpAll.getV : ∀ {vs : List V} {ds : List D} {i : Nat} {v : V}, RpAll Ξ H vs ds → vs[i]? = some v → ∃ d, ds[i]? = some d ∧ Rp Ξ H v d
  | _, _, _, _, .nil, h => by simp at h
  | _, _, 0, _, .cons h1 _, h => ⟨_, rfl, by simp at h; subst h; exact h1⟩
  | _, _, i + 1, _, .cons _ h2, h => RpAll.getV (i := i) h2 (by simpa using h)
theorem RpAll.take : ∀ (n : Nat) {vs : List V} {ds : List D}, RpAll Ξ H vs ds → RpAll Ξ H (vs.take n) (ds.take n)
  | 0, _, _, _ => .nil
  | _ + 1, _, _, .nil => .nil
  | n + 1, _, _, .cons h1 h2 => .cons h1 (RpAll.take n h2)
theorem RpAll.drop : ∀ (n : Nat) {vs : List V} {ds : List D}, RpAll Ξ H vs ds → RpAll Ξ H (vs.drop n) (ds.drop n)
  | 0, _, _, h => h
  | _ + 1, _, _, .nil => .nil
  | n + 1, _, _, .cons _ h2 => RpAll.drop n h2
theorem RpAll.rev : ∀ {vs : List V} {ds : List D}, RpAll Ξ H vs ds → RpAll Ξ H vs.reverse ds.reverse
  | _, _, .nil => .nil
  | _, _, .cons h1 h2 => by
    rw [List.reverse_cons, List.reverse_cons]
    exact (RpAll.rev h2).app (.cons h1 .nil)
theorem RpAll.set {v : V} {d : D} (h : Rp Ξ H v d) : ∀ (n : Nat) {vs : List V} {ds : List D}, RpAll Ξ H vs ds → RpAll Ξ H (vs.set n v) (ds.set n d)
  | _, _, _, .nil => .nil
  | 0, _, _, .cons _ h2 => .cons h h2
  | n + 1, _, _, .cons h1 h2 => .cons h1 (RpAll.set h n h2)
theorem RpAll.strs_ok : ∀ {ys : List Str} {vs : List V}, RpAll Ξ H vs (ys.map D.str) → ∀ y ∈ ys, PyData.strOk y = true
  | [], _, _, _, h => (nomatch h)
  | _ :: _, _, .cons h1 h2, y, h => by
    rcases List.mem_cons.mp h with rfl | h
    · cases h1
      assumption
    · exact RpAll.strs_ok h2 y h
theorem RpAll.ints : ∀ ys : List Int, RpAll Ξ H (ys.map V.int) (ys.map D.int)
  | [] => .nil
  | y :: ys => .cons (.int y) (RpAll.ints ys)
theorem RpAll.of_strs : ∀ {ys : List Str} {vs : List V}, RpAll Ξ H vs (ys.map D.str) → vs = ys.map V.str
  | [], _, .nil => rfl
  | _ :: _, _, .cons h1 h2 => by
    cases h1
    rw [RpAll.of_strs h2]
    rfl
theorem RpAll.of_ints : ∀ {ys : List Int} {vs : List V}, RpAll Ξ H vs (ys.map D.int) → vs = ys.map V.int
  | [], _, .nil => rfl
  | _ :: _, _, .cons h1 h2 => by
    cases h1
    rw [RpAll.of_ints h2]
    rfl
theorem Rp.tupE {v : V} {ds : List D} (h : Rp Ξ H v (.tup ds)) : ∃ b xs, v = .ref b ∧ SqT Ξ.K H b xs ∧ RpAll Ξ H xs ds := by
  cases h with
  | tup hs ha => exact ⟨_, _, rfl, hs, ha⟩
theorem Rp.lstE {v : V} {ds : List D} (h : Rp Ξ H v (.lst ds)) : ∃ b xs, v = .ref b ∧ H b = some (.lst xs) ∧ RpAll Ξ H xs ds := by
  cases h with
  | lst hs ha => exact ⟨_, _, rfl, hs, ha⟩
end
/-! ### data -/
mutual
def D.toP : D → PyData
  | .non => .none
  | .bl b => .bool b
  | .int i => .int i
  | .str y => .str y
  | .tup l => .tuple (D.toPs l)
  | .lst l => .list (D.toPs l)
  | .dct _ _ => .none
  | .set _ => .none
  | .txt _ => .none
  | .obj _ _ => .none
  | .tok _ => .none
def D.toPs : List D → List PyData
  | [] => []
  | d :: l => d.toP :: D.toPs l
end
mutual
/-- no objects in it -/
def D.plain : D → Bool
  | .non => true
  | .bl _ => true
  | .int _ => true
  | .str _ => true
  | .tup l => D.plains l
  | .lst l => D.plains l
  | .dct _ _ => false
  | .set _ => false
  | .txt _ => false
  | .obj _ _ => false
  | .tok _ => false
def D.plains : List D → Bool
  | [] => true
  | d :: l => d.plain && D.plains l
end
theorem toPs_map : ∀ l : List D, D.toPs l = l.map D.toP
  | [] => rfl
  | d :: l => by
    show d.toP :: D.toPs l = _
    rw [toPs_map l]
    rfl
theorem plains_all : ∀ l : List D, D.plains l = l.all D.plain
  | [] => rfl
  | d :: l => by
    show (d.plain && D.plains l) = _
    rw [plains_all l]
    rfl
section
variable {Ξ : Ctx} {H : Hp}
mutual
theorem Rp.dp : ∀ {d : D} {v : V}, d.plain = true → Rp Ξ H v d → Dp Ξ.K H v d.toP
  | .non, _, _, .non => .non
  | .bl _, _, _, .bl b => .bl b
  | .int _, _, _, .int i => .int i
  | .str _, _, _, .str y _ => .str y
  | .tup l, _, h, .tup hs ha => .tup hs (RpAll.dp h ha)
  | .lst l, _, h, .lst hs ha => .lst (SqL.of hs) (RpAll.dp h ha)
  | .dct _ _, _, h, _ => by cases h
  | .set _, _, h, _ => by cases h
  | .txt _, _, h, _ => by cases h
  | .obj _ _, _, h, _ => by cases h
  | .tok _, _, h, _ => by cases h
theorem RpAll.dp : ∀ {ds : List D} {vs : List V}, D.plains ds = true → RpAll Ξ H vs ds → DpAll Ξ.K H vs (D.toPs ds)
  | [], _, _, .nil => .nil
  | d :: ds, _, h, .cons h1 h2 => by
    have h : (d.plain && D.plains ds) = true := h
    rw [Bool.and_eq_true] at h
    exact .cons (Rp.dp h.1 h1) (RpAll.dp h.2 h2)
end
mutual
theorem Rp.lay : ∀ {d : D} {v : V}, d.plain = true → Rp Ξ H v d → d.toP.canLay0 = true
  | .non, _, _, .non => rfl
  | .bl _, _, _, .bl b => rfl
  | .int _, _, _, .int i => rfl
  | .str _, _, _, .str y h => h
  | .tup l, _, h, .tup hs ha => by
    have := RpAll.lay h ha
    simpa [D.toP, PyData.canLay0] using this
  | .lst l, _, h, .lst hs ha => by
    have := RpAll.lay h ha
    simpa [D.toP, PyData.canLay0] using this
  | .dct _ _, _, h, _ => by cases h
  | .set _, _, h, _ => by cases h
  | .txt _, _, h, _ => by cases h
  | .obj _ _, _, h, _ => by cases h
  | .tok _, _, h, _ => by cases h
theorem RpAll.lay : ∀ {ds : List D} {vs : List V}, D.plains ds = true → RpAll Ξ H vs ds → PyData.canLayAll0 (D.toPs ds) = true
  | [], _, _, .nil => rfl
  | d :: ds, _, h, .cons h1 h2 => by
    have h : (d.plain && D.plains ds) = true := h
    rw [Bool.and_eq_true] at h
    show (d.toP.canLay0 && PyData.canLayAll0 (D.toPs ds)) = true
    rw [Rp.lay h.1 h1, RpAll.lay h.2 h2]
    rfl
end
end
end LP
namespace LP
open PySem PySem.Spec PyProof.Rows L2 PK
/-! ### growing -/
/-- all that was there, but the feed, is as it was -/
def Gr (Ξ : Ctx) (H H' : Hp) : Prop := ∀ b o, b ∉ Ξ.ff → H b = some o → H' b = some o
section
variable {Ξ : Ctx} {H H1 H2 : Hp} {S : List Addr} {p : Addr} {o : HO}
theorem Gr.refl (H : Hp) : Gr Ξ H H := fun _ _ _ h => h
theorem Gr.trans (x : Gr Ξ H H1) (y : Gr Ξ H1 H2) : Gr Ξ H H2 := fun b o n h => y b o n (x b o n h)
theorem Gr.of (x : Same H H1) : Gr Ξ H H1 := fun b o _ h => x b o h
/-- masked: what is not in S stays -/
theorem Gr.ms (x : Gr Ξ H H1) (h : ∀ b ∈ Ξ.ff, b ∈ S) : Same (ms S H) (ms S H1) := fun b o e => by
  obtain ⟨h1, h2⟩ := ms_some e
  exact ms_at (x b o (fun z => h2 (h b z)) h1) h2
theorem ms_mono {S T : List Addr} (h : ∀ b ∈ T, b ∈ S) : Same (ms S H) (ms T H) := fun b o e => by
  obtain ⟨h1, h2⟩ := ms_some e
  exact ms_at h1 fun z => h2 (h b z)
def Mu (S : List Addr) (H : Hp) : Prop := ∀ q ∈ S, ∃ o, H q = some o ∧ Mt o
theorem Mu.out {S : List Addr} (h : Mu S H) (n : H p = none) : p ∉ S := fun z => by
  obtain ⟨o, e, _⟩ := h p z
  rw [n] at e
  cases e
theorem Mu.same {S : List Addr} (h : Mu S H) (s : Same H H1) : Mu S H1 := fun q hq => by
  obtain ⟨o, e, m⟩ := h q hq
  exact ⟨o, s _ _ e, m⟩
theorem Mu.gr {S : List Addr} (h : Mu S H) (s : Gr Ξ H H1) (f : Ξ.FI H1) : Mu S H1 := fun q hq => by
  by_cases z : q ∈ Ξ.ff
  · exact Ξ.fex H1 f q z
  · obtain ⟨o, e, m⟩ := h q hq
    exact ⟨o, s _ _ z e, m⟩
theorem Mu.upd {S : List Addr} (h : Mu S H) (m : Mt o) : Mu S (upd H p o) := fun q hq => by
  by_cases z : q = p
  · rw [z]
    exact ⟨o, upd_same, m⟩
  · rw [upd_ne z]
    exact h q hq
theorem Mu.cons {S : List Addr} (h : Mu S H) (e : H p = some o) (m : Mt o) : Mu (p :: S) H := fun q hq => by
  rcases List.mem_cons.mp hq with rfl | z
  · exact ⟨o, e, m⟩
  · exact h q z
theorem sqT_mu {K : PySem.W.Frag} {S : List Addr} {c : Addr} {xs : List V} (h : SqT K H c xs) (k : Mu S H) : SqT K (ms S H) c xs := by
  rcases h with (h | ⟨o, h⟩) | h
  · exact .inl (.inl (ms_at h fun z => by
      obtain ⟨l, h1, m⟩ := k c z
      rw [h] at h1
      cases h1
      exact m))
  · refine .inl (.inr ⟨o, ms_at h fun z => ?_⟩)
    obtain ⟨l, h1, m⟩ := k c z
    rw [h] at h1
    cases h1
    exact m
  · exact .inr h
theorem FI_same (f : Ξ.FI H) (s : Same H H1) : Ξ.FI H1 := Ξ.fst H H1 (fun b hb => by
  obtain ⟨o, e, _⟩ := Ξ.fex H f b hb
  rw [e, s _ _ e]) f
theorem FI_upd (f : Ξ.FI H) (n : p ∉ Ξ.ff) : Ξ.FI (upd H p o) := Ξ.fst _ _ (fun b hb => upd_ne fun z => n (z ▸ hb)) f
theorem ff_out (f : Ξ.FI H) (n : H p = none) : p ∉ Ξ.ff := fun z => by
  obtain ⟨o, e, _⟩ := Ξ.fex H f p z
  rw [n] at e
  cases e
end
/-! ### the names -/
abbrev Env := List (Option D)
/-- what stands at an owned place -/
inductive Ow (Ξ : Ctx) (Hm : Hp) : Option HO → D → Prop
  | lst {us : List V} {ds : List D} : RpAll Ξ Hm us ds → Ow Ξ Hm (some (.lst us)) (.lst ds)
theorem Ow.same {Ξ : Ctx} {H H' : Hp} {o : Option HO} {d : D} (s : Same H H') (h : Ow Ξ H o d) : Ow Ξ H' o d := by
  cases h with
  | lst h => exact .lst (h.same s)
structure Rel (Ξ : Ctx) (H0 : Hp) (S : List Addr) (A : List (Nat × Addr)) (G : List (V × D)) (σ : L2.St) (H : Hp) (env : Env) : Prop where
  len : σ.length = env.length
  fr : ∀ i d, env[i]? = some (some d) → (∀ a, (i, a) ∉ A) → ∃ v, σ[i]? = some (some v) ∧ Rp Ξ (ms (S ++ A.map (·.2)) H) v d
  ow : ∀ i a, (i, a) ∈ A → ∃ d, env[i]? = some (some d) ∧ σ[i]? = some (some (.ref a)) ∧ Ow Ξ (ms (S ++ A.map (·.2)) H) (H a) d
  old : ∀ i a, (i, a) ∈ A → H0 a = none ∧ a ∉ S
  nd : (A.map (·.2)).Nodup
  ndk : (A.map (·.1)).Nodup
  gh : ∀ x ∈ G, Rp Ξ (ms (S ++ A.map (·.2)) H) x.1 x.2
  mu : Mu S H
  fi : Ξ.FI H
  ffs : ∀ b ∈ Ξ.ff, b ∈ S
  gr : Gr Ξ H0 H
section
variable {Ξ : Ctx} {H0 H H1 : Hp} {S : List Addr} {A : List (Nat × Addr)} {G : List (V × D)} {σ : L2.St} {env : Env}
theorem Rel.ffM (r : Rel Ξ H0 S A G σ H env) : ∀ b ∈ Ξ.ff, b ∈ S ++ A.map (·.2) := fun b hb => List.mem_append_left _ (r.ffs b hb)
theorem Rel.outA (r : Rel Ξ H0 S A G σ H env) {i : Nat} {a : Addr} (h : (i, a) ∈ A) : a ∉ Ξ.ff := fun z => (r.old i a h).2 (r.ffs a z)
theorem Rel.muA (r : Rel Ξ H0 S A G σ H env) : Mu (S ++ A.map (·.2)) H := fun q hq => by
  rcases List.mem_append.mp hq with h | h
  · exact r.mu q h
  · obtain ⟨⟨i, a⟩, hm, rfl⟩ := List.mem_map.mp h
    obtain ⟨d, _, _, ho⟩ := r.ow i a hm
    show ∃ o, H a = some o ∧ Mt o
    generalize H a = o at ho
    cases ho with
    | lst _ => exact ⟨_, rfl, trivial⟩
theorem Rel.grow (r : Rel Ξ H0 S A G σ H env) (g : Gr Ξ H H1) (f : Ξ.FI H1) : Rel Ξ H0 S A G σ H1 env := by
  have s := g.ms r.ffM
  refine ⟨r.len, fun i d h n => ?_, fun i a h => ?_, r.old, r.nd, r.ndk, fun x hx => (r.gh x hx).same s, r.mu.gr g f, f, r.ffs, r.gr.trans g⟩
  · obtain ⟨v, h1, h2⟩ := r.fr i d h n
    exact ⟨v, h1, h2.same s⟩
  · obtain ⟨d, h1, h2, h3⟩ := r.ow i a h
    refine ⟨d, h1, h2, ?_⟩
    have h4 := h3.same s
    have e : H1 a = H a := by
      generalize ho : H a = o at h3
      cases h3 with
      | lst _ => exact g a _ (r.outA h) ho
    rw [e]
    exact h4
theorem Rel.same (r : Rel Ξ H0 S A G σ H env) (s : Same H H1) : Rel Ξ H0 S A G σ H1 env := r.grow (Gr.of s) (FI_same r.fi s)
/-- one more object is kept out -/
theorem Rel.mask (r : Rel Ξ H0 S A G σ H env) {p : Addr} {o : HO} (np : H p = none) (m : Mt o) : Rel Ξ H0 (p :: S) A G σ (upd H p o) env := by
  have hA : ∀ i a, (i, a) ∈ A → a ≠ p := fun i a h z => by
    have := r.muA.out np
    exact this (List.mem_append_right _ (List.mem_map.mpr ⟨(i, a), h, z⟩))
  have s : Same (ms (S ++ A.map (·.2)) H) (ms ((p :: S) ++ A.map (·.2)) (upd H p o)) := fun b u e => by
    obtain ⟨h1, h2⟩ := ms_some e
    have n := ne_of_none h1 np
    exact ms_at (by rw [upd_ne n]; exact h1) fun z => (List.mem_cons.mp z).elim n h2
  refine ⟨r.len, fun i d h n => ?_, fun i a h => ?_, fun i a h => ?_, r.nd, r.ndk, fun x hx => (r.gh x hx).same s, ?_, ?_, fun b hb => List.mem_cons_of_mem _ (r.ffs b hb), fun b u n e => ?_⟩
  · obtain ⟨v, h1, h2⟩ := r.fr i d h n
    exact ⟨v, h1, h2.same s⟩
  · obtain ⟨d, h1, h2, h3⟩ := r.ow i a h
    refine ⟨d, h1, h2, ?_⟩
    rw [upd_ne (hA i a h)]
    exact h3.same s
  · refine ⟨(r.old i a h).1, fun z => ?_⟩
    rcases List.mem_cons.mp z with z | z
    · exact hA i a h z
    · exact (r.old i a h).2 z
  · exact (r.mu.same (same_new (Same.refl H) np)).cons upd_same m
  · exact FI_upd r.fi (ff_out r.fi np)
  · have h1 := r.gr b u n e
    rw [upd_ne (ne_of_none h1 np)]
    exact h1
end
/-- read: frozen, or an owned list with frozen things in it -/
inductive Bp (Ξ : Ctx) (M : List Addr) (H : Hp) : V → D → Prop
  | rp {v : V} {d : D} : Rp Ξ (ms M H) v d → Bp Ξ M H v d
  | lst {a : Addr} {us : List V} {ds : List D} : a ∉ Ξ.ff → H a = some (.lst us) → RpAll Ξ (ms M H) us ds → Bp Ξ M H (.ref a) (.lst ds)
section
variable {Ξ : Ctx} {H H1 : Hp} {M : List Addr} {v : V}
theorem Bp.gr {d : D} (h : Bp Ξ M H v d) (g : Gr Ξ H H1) (hf : ∀ b ∈ Ξ.ff, b ∈ M) : Bp Ξ M H1 v d := by
  cases h with
  | rp h => exact .rp (h.same (g.ms hf))
  | lst n h1 h2 => exact .lst n (g _ _ n h1) (h2.same (g.ms hf))
theorem Bp.full {d : D} (h : Bp Ξ M H v d) : Rp Ξ H v d := by
  cases h with
  | rp h => exact h.same ms_sub
  | lst _ h1 h2 => exact .lst h1 (h2.same ms_sub)
theorem Bp.lstE {ds : List D} (h : Bp Ξ M H v (.lst ds)) : ∃ b xs, v = .ref b ∧ H b = some (.lst xs) ∧ RpAll Ξ (ms M H) xs ds := by
  cases h with
  | rp h =>
    obtain ⟨b, xs, e, h1, h2⟩ := h.lstE
    exact ⟨b, xs, e, ms_sub _ _ h1, h2⟩
  | lst _ h1 h2 => exact ⟨_, _, rfl, h1, h2⟩
theorem Bp.tupE {ds : List D} (h : Bp Ξ M H v (.tup ds)) : ∃ b xs, v = .ref b ∧ SqT Ξ.K H b xs ∧ RpAll Ξ (ms M H) xs ds := by
  cases h with
  | rp h =>
    obtain ⟨b, xs, e, h1, h2⟩ := h.tupE
    exact ⟨b, xs, e, sqT_same ms_sub h1, h2⟩
end
/-! ### the readings by value -/
section
variable (Ξ : Ctx) (H0 : Hp) (O : List Nat)
def liE (p : Env → W D) : TE := fun σ H Q => ∃ S A G env E, A.map (·.1) = O ∧ Rel Ξ H0 S A G σ H env ∧
  (p env).wp (fun d => ∀ v H', Gr Ξ H H' → Rel Ξ H0 S A G σ H' env → Rp Ξ (ms (S ++ A.map (·.2)) H') v d → Q v H') E
/-- an owned name may be read -/
def liB (p : Env → W D) : TE := fun σ H Q => ∃ S A G env E, A.map (·.1) = O ∧ Rel Ξ H0 S A G σ H env ∧
  (p env).wp (fun d => ∀ v H', Gr Ξ H H' → Rel Ξ H0 S A G σ H' env → Bp Ξ (S ++ A.map (·.2)) H' v d → Q v H') E
def liA (p : Env → W (List D)) : TA := fun σ H Q => ∃ S A G env E, A.map (·.1) = O ∧ Rel Ξ H0 S A G σ H env ∧
  (p env).wp (fun ds => ∀ vs H', Gr Ξ H H' → Rel Ξ H0 S A G σ H' env → RpAll Ξ (ms (S ++ A.map (·.2)) H') vs ds → Q vs H') E
/-- arguments that are read -/
inductive BpAll (M : List Addr) (H : Hp) : List V → List D → Prop
  | nil : BpAll M H [] []
  | cons {v : V} {vs : List V} {d : D} {ds : List D} : Bp Ξ M H v d → BpAll M H vs ds → BpAll M H (v :: vs) (d :: ds)
def liAB (p : Env → W (List D)) : TA := fun σ H Q => ∃ S A G env E, A.map (·.1) = O ∧ Rel Ξ H0 S A G σ H env ∧
  (p env).wp (fun ds => ∀ vs H', Gr Ξ H H' → Rel Ξ H0 S A G σ H' env → BpAll Ξ (S ++ A.map (·.2)) H' vs ds → Q vs H') E
def liT (p : Env → W Bool) : TT := fun σ H Q => ∃ S A G env E, A.map (·.1) = O ∧ Rel Ξ H0 S A G σ H env ∧
  (p env).wp (fun b => ∀ H', Gr Ξ H H' → Rel Ξ H0 S A G σ H' env → Q b H') E
end
end LP
namespace LP
open PySem PySem.Spec PyProof.Rows L2 PK
section
variable {X : Cx}
theorem wkE {e : Expr} {t t' : TE} (h : PE X e t) (w : ∀ σ H Q, t' σ H Q → t σ H Q) : PE X e t' := ⟨fun pins s σ H Q I q => h.run pins s σ H Q I (w σ H Q q)⟩
theorem wkT {e : Expr} {t t' : TT} (h : PT X e t) (w : ∀ σ H Q, t' σ H Q → t σ H Q) : PT X e t' := ⟨fun pins s σ H Q I q => h.run pins s σ H Q I (w σ H Q q)⟩
theorem wkW {e : Expr} {t t' : TT} (h : PW X e t) (w : ∀ σ H Q, t' σ H Q → t σ H Q) : PW X e t' := ⟨fun wh pins s σ H Q I q => h.run wh pins s σ H Q I (w σ H Q q)⟩
theorem wkA {es : List Expr} {t t' : TA} (h : PA X es t) (w : ∀ σ H Q, t' σ H Q → t σ H Q) : PA X es t' := ⟨fun pos pins s σ H Q I q => h.run pos pins s σ H Q I (w σ H Q q)⟩
theorem wkS {st : Stmt} {t t' : TS} (h : PS X st t) (w : ∀ D σ H, t' D σ H → t D σ H) : PS X st t' := ⟨fun pins s σ H D I q => h.run pins s σ H D I (w D σ H q)⟩
theorem wkSs {st : List Stmt} {t t' : TS} (h : PSs X st t) (w : ∀ D σ H, t' D σ H → t D σ H) : PSs X st t' := ⟨fun pins s σ H D I q => h.run pins s σ H D I (w D σ H q)⟩
end
def getW (env : Env) (i : Nat) : W D := match env[i]? with
  | some (some d) => W.ret d
  | _ => W.fail
def asB : D → W Bool
  | .bl b => W.ret b
  | _ => W.fail
theorem getW_wp {env : Env} {i : Nat} {Q : D → Prop} {E : Ex → Prop} (h : (getW env i).wp Q E) : ∃ d, env[i]? = some (some d) ∧ Q d := by
  unfold getW at h
  split at h
  · rename_i d e
    exact ⟨d, e, h⟩
  · exact h.elim
theorem asB_wp {d : D} {Q : Bool → Prop} {E : Ex → Prop} (h : (asB d).wp Q E) : ∃ b, d = .bl b ∧ Q b := by
  cases d with
  | bl b => exact ⟨b, rfl, h⟩
  | _ => exact h.elim
section
variable {X : Cx} {Ξ : Ctx} {H0 : Hp} {O : List Nat} {e a b c : Expr} {es : List Expr} {pos : Pos}
abbrev LE (Ξ : Ctx) (H0 : Hp) (O : List Nat) (X : Cx) (e : Expr) (p : Env → W D) : Prop := PE X e (liE Ξ H0 O p)
abbrev LB (Ξ : Ctx) (H0 : Hp) (O : List Nat) (X : Cx) (e : Expr) (p : Env → W D) : Prop := PE X e (liB Ξ H0 O p)
abbrev LT (Ξ : Ctx) (H0 : Hp) (O : List Nat) (X : Cx) (e : Expr) (p : Env → W Bool) : Prop := PT X e (liT Ξ H0 O p)
theorem lb {p : Env → W D} (h : LE Ξ H0 O X e p) : LB Ξ H0 O X e p := wkE h fun σ H Q ⟨S, A, G, env, E, hO, r, q⟩ =>
  ⟨S, A, G, env, E, hO, r, (p env).mono (fun d k v H' g r' h' => k v H' g r' (.rp h')) (fun _ z => z) q⟩
/-! ### names, constants -/
theorem le_var (i : Nat) (hO : i ∉ O) (h : PE X e (tVar i)) : LE Ξ H0 O X e fun env => getW env i := wkE h fun σ H Q ⟨S, A, G, env, E, hA, r, q⟩ => by
  obtain ⟨d, he, q⟩ := getW_wp q
  obtain ⟨v, h1, h2⟩ := r.fr i d he fun a ha => hO (hA ▸ List.mem_map.mpr ⟨(i, a), ha, rfl⟩)
  exact ⟨v, h1, q v H (Gr.refl H) r h2⟩
theorem lb_var (i : Nat) (h : PE X e (tVar i)) : LB Ξ H0 O X e fun env => getW env i := wkE h fun σ H Q ⟨S, A, G, env, E, hA, r, q⟩ => by
  obtain ⟨d, he, q⟩ := getW_wp q
  by_cases z : ∃ a, (i, a) ∈ A
  · obtain ⟨a, ha⟩ := z
    obtain ⟨d', h1, h2, h3⟩ := r.ow i a ha
    rw [he] at h1
    cases h1
    refine ⟨.ref a, h2, q _ H (Gr.refl H) r ?_⟩
    generalize ho : H a = o at h3
    cases h3 with
    | lst h3 => exact .lst (r.outA ha) ho h3
  · obtain ⟨v, h1, h2⟩ := r.fr i d he fun a ha => z ⟨a, ha⟩
    exact ⟨v, h1, q v H (Gr.refl H) r (.rp h2)⟩
theorem le_const {v : V} {d : D} (hd : ∀ H, Rp Ξ H v d) (h : PE X e (tC v)) : LE Ξ H0 O X e fun _ => W.ret d := wkE h fun σ H Q ⟨S, A, G, env, E, hA, r, q⟩ => q v H (Gr.refl H) r (hd _)
theorem le_int {i : Int} {j} : LE Ξ H0 O X (.Constant (.int i) j pos) fun _ => W.ret (.int i) := le_const (fun _ => .int i) pe_int
theorem le_str {x : Str} {j} (hs : PyData.strOk x = true := by decide +kernel) : LE Ξ H0 O X (.Constant (.str x) j pos) fun _ => W.ret (.str x) := le_const (fun _ => .str x hs) pe_str
theorem le_bl {x : Bool} {j} : LE Ξ H0 O X (.Constant (.bool x) j pos) fun _ => W.ret (.bl x) := le_const (fun _ => .bl x) pe_bl
theorem le_non {j} : LE Ξ H0 O X (.Constant .none j pos) fun _ => W.ret .non := le_const (fun _ => .non) pe_non
/-! ### two parts, one behind the other -/
/-- an operator of values is kept by f -/
def OpOk (Ξ : Ctx) (r : R2) (f : D → D → W D) : Prop := ∀ (M : List Addr) (H : Hp) (x y : V) (d1 d2 : D) (Q : VK) (E : Ex → Prop), Mu M H → (∀ b ∈ Ξ.ff, b ∈ M) →
  Bp Ξ M H x d1 → Bp Ξ M H y d2 → (f d1 d2).wp (fun d => ∀ v H', Same H H' → Rp Ξ (ms M H') v d → Q v H') E → r x y H Q
/-- .. of values that are read only: the answer is told at once -/
theorem two {pa pb : Env → W D} {ta tb : TE} {f : D → D → W D} {r : R2} (hf : OpOk Ξ r f) (ha : ∀ σ H Q, liB Ξ H0 O pa σ H Q → ta σ H Q) (hb : ∀ σ H Q, liB Ξ H0 O pb σ H Q → tb σ H Q) :
    ∀ σ H Q, liE Ξ H0 O (fun env => (pa env).bind fun x => (pb env).bind fun y => f x y) σ H Q → ta σ H fun x H1 => tb σ H1 fun y H2 => r x y H2 Q := by
  rintro σ H Q ⟨S, A, G, env, E, hA, rl, q⟩
  refine ha σ H _ ⟨S, A, G, env, E, hA, rl, (pa env).mono (fun d1 k x H1 g1 r1 b1 => ?_) (fun _ z => z) q⟩
  refine hb σ H1 _ ⟨S, A, G, env, E, hA, r1, (pb env).mono (fun d2 k y H2 g2 r2 b2 => ?_) (fun _ z => z) k⟩
  refine hf _ H2 x y d1 d2 Q E r2.muA r2.ffM (b1.gr g2 r1.ffM) b2 ((f d1 d2).mono (fun d k v H3 s3 rv => ?_) (fun _ z => z) k)
  exact k v H3 ((g1.trans g2).trans (Gr.of s3)) (r2.same s3) rv
theorem le_op {op : Operator} {r : R2} {f : D → D → W D} {pa pb : Env → W D} (ho : OpR X (binaryOp op) r) (hf : OpOk Ξ r f) (ha : LB Ξ H0 O X a pa) (hb : LB Ξ H0 O X b pb) :
    LE Ξ H0 O X (.BinOp a op b pos) fun env => (pa env).bind fun x => (pb env).bind fun y => f x y :=
  wkE (pe_op ho ha hb) (two hf (fun _ _ _ h => h) fun _ _ _ h => h)
theorem le_cmp {op : CmpOp} {r : R2} {f : D → D → W D} {pa pb : Env → W D} (ho : OpR X (compareOp op) r) (hf : OpOk Ξ r f) (hm : behindInMarks op b = false) (ha : LB Ξ H0 O X a pa) (hb : LB Ξ H0 O X b pb) :
    LE Ξ H0 O X (.Compare a [op] [b] pos) fun env => (pa env).bind fun x => (pb env).bind fun y => f x y :=
  wkE (pe_cmpR ho ha hb hm) (two hf (fun _ _ _ h => h) fun _ _ _ h => h)
theorem le_ix {r : R2} {f : D → D → W D} {pa pb : Env → W D} (ho : IxR X r) (hf : OpOk Ξ r f) (hs : PlainIx b) (ha : LB Ξ H0 O X a pa) (hb : LB Ξ H0 O X b pb) :
    LE Ξ H0 O X (.Subscript a b pos) fun env => (pa env).bind fun x => (pb env).bind fun y => f x y :=
  wkE (pe_ix ho ha hb hs) (two hf (fun _ _ _ h => h) fun _ _ _ h => h)
/-! ### tests -/
theorem lt_val {p : Env → W D} (h : LE Ξ H0 O X e p) (he : ∀ whole, isTrue e X.env whole = (do let v ← whole; standAt e.pos; holding [v] (truthy v)) := by intro _; rfl) : LT Ξ H0 O X e fun env => (p env).bind asB :=
  wkT (pt_val h he) fun σ H Q ⟨S, A, G, env, E, hA, r, q⟩ => ⟨S, A, G, env, E, hA, r, (p env).mono (fun d k v H' g r' hv => by
    obtain ⟨b, rfl, k⟩ := asB_wp k
    cases hv
    exact ⟨b, rfl, k H' g r'⟩) (fun _ z => z) q⟩
theorem lt_cmp {op : CmpOp} {r : R2} {f : D → D → W D} {pa pb : Env → W D} (ho : OpR X (compareOp op) r) (hf : OpOk Ξ r f) (hm : behindInMarks op b = false) (ha : LB Ξ H0 O X a pa) (hb : LB Ξ H0 O X b pb) :
    LT Ξ H0 O X (.Compare a [op] [b] pos) fun env => ((pa env).bind fun x => (pb env).bind fun y => f x y).bind asB := by
  refine wkT (pt_cmpR ho ha hb hm) fun σ H Q h => ?_
  have key : liE Ξ H0 O (fun env => (pa env).bind fun x => (pb env).bind fun y => f x y) σ H (fun v H' => ∃ k, v = .bl k ∧ Q k H') := by
    obtain ⟨S, A, G, env, E, hA, r', q⟩ := h
    refine ⟨S, A, G, env, E, hA, r', W.mono _ (fun d k v H' g r' hv => ?_) (fun _ z => z) q⟩
    obtain ⟨b, rfl, k⟩ := asB_wp k
    cases hv
    exact ⟨b, rfl, k H' g r'⟩
  exact two hf (fun _ _ _ h => h) (fun _ _ _ h => h) σ H _ key
theorem lt_not {p : Env → W Bool} (h : LT Ξ H0 O X a p) : LT Ξ H0 O X (.UnaryOp .Not a pos) fun env => (p env).bind fun k => W.ret !k :=
  wkT (pt_not h) fun σ H Q ⟨S, A, G, env, E, hA, r, q⟩ => ⟨S, A, G, env, E, hA, r, (p env).mono (fun d k H' g r' => k H' g r') (fun _ z => z) q⟩
abbrev LW (Ξ : Ctx) (H0 : Hp) (O : List Nat) (X : Cx) (e : Expr) (p : Env → W Bool) : Prop := PW X e (liT Ξ H0 O p)
variable {rest : List Expr} {p q : Env → W Bool}
theorem lw_and1 (h : LT Ξ H0 O X a p) : LW Ξ H0 O X (.BoolOp .And [a] pos) p := pw_and1 h
theorem lw_or1 (h : LT Ξ H0 O X a p) : LW Ξ H0 O X (.BoolOp .Or [a] pos) p := pw_or1 h
theorem lw_and (h : LT Ξ H0 O X a p) (h2 : LW Ξ H0 O X (.BoolOp .And (b :: rest) pos) q) : LW Ξ H0 O X (.BoolOp .And (a :: b :: rest) pos) fun env => (p env).bind fun k => W.ite k (q env) (W.ret false) :=
  wkW (pw_and h h2) fun σ H Q ⟨S, A, G, env, E, hA, r, z⟩ => ⟨S, A, G, env, E, hA, r, (p env).mono (fun k u H' g r' => by
    cases k with
    | true => exact iteT ⟨S, A, G, env, E, hA, r', (q env).mono (fun k u H2 g2 r2 => u H2 (g.trans g2) r2) (fun _ z => z) u⟩
    | false => exact iteF (u H' g r')) (fun _ z => z) z⟩
theorem lw_or (h : LT Ξ H0 O X a p) (h2 : LW Ξ H0 O X (.BoolOp .Or (b :: rest) pos) q) : LW Ξ H0 O X (.BoolOp .Or (a :: b :: rest) pos) fun env => (p env).bind fun k => W.ite k (W.ret true) (q env) :=
  wkW (pw_or h h2) fun σ H Q ⟨S, A, G, env, E, hA, r, z⟩ => ⟨S, A, G, env, E, hA, r, (p env).mono (fun k u H' g r' => by
    cases k with
    | true => exact iteT (u H' g r')
    | false => exact iteF ⟨S, A, G, env, E, hA, r', (q env).mono (fun k u H2 g2 r2 => u H2 (g.trans g2) r2) (fun _ z => z) u⟩) (fun _ z => z) z⟩
/-! ### and, or, not, if as values -/
variable {pa pb : Env → W D}
theorem le_not (h : LE Ξ H0 O X a pa) : LE Ξ H0 O X (.UnaryOp .Not a pos) fun env => (pa env).bind fun d => (asB d).bind fun k => W.ret (.bl !k) :=
  wkE (pe_not h) fun σ H Q ⟨S, A, G, env, E, hA, r, z⟩ => ⟨S, A, G, env, E, hA, r, (pa env).mono (fun d u v H' g r' hv => by
    obtain ⟨k, rfl, u⟩ := asB_wp u
    cases hv
    exact ⟨k, rfl, u _ H' g r' (.bl _)⟩) (fun _ z => z) z⟩
theorem le_if (hc : LT Ξ H0 O X c p) (h : LE Ξ H0 O X a pa) (h2 : LE Ξ H0 O X b pb) : LE Ξ H0 O X (.IfExp c a b pos) fun env => (p env).bind fun k => W.ite k (pa env) (pb env) :=
  wkE (pe_ifExp hc h h2) fun σ H Q ⟨S, A, G, env, E, hA, r, z⟩ => ⟨S, A, G, env, E, hA, r, (p env).mono (fun k u H' g r' => by
    cases k with
    | true => exact iteT ⟨S, A, G, env, E, hA, r', (pa env).mono (fun d u v H2 g2 r2 => u v H2 (g.trans g2) r2) (fun _ z => z) u⟩
    | false => exact iteF ⟨S, A, G, env, E, hA, r', (pb env).mono (fun d u v H2 g2 r2 => u v H2 (g.trans g2) r2) (fun _ z => z) u⟩) (fun _ z => z) z⟩
/-! ### arguments, displays -/
abbrev LA (Ξ : Ctx) (H0 : Hp) (O : List Nat) (X : Cx) (es : List Expr) (p : Env → W (List D)) : Prop := PA X es (liA Ξ H0 O p)
abbrev LAB (Ξ : Ctx) (H0 : Hp) (O : List Nat) (X : Cx) (es : List Expr) (p : Env → W (List D)) : Prop := PA X es (liAB Ξ H0 O p)
theorem la_nil : LA Ξ H0 O X [] fun _ => W.ret [] := wkA pa_nil fun σ H Q ⟨S, A, G, env, E, hA, r, z⟩ => z [] H (Gr.refl H) r .nil
theorem lab_nil : LAB Ξ H0 O X [] fun _ => W.ret [] := wkA pa_nil fun σ H Q ⟨S, A, G, env, E, hA, r, z⟩ => z [] H (Gr.refl H) r .nil
variable {ps : Env → W (List D)}
theorem la_cons (h : LE Ξ H0 O X e pa) (h2 : LA Ξ H0 O X es ps) (hs : starEach (e :: es) X.env = (false, eval e X.env) :: starEach es X.env := by rfl) : LA Ξ H0 O X (e :: es) fun env => (pa env).bind fun d => (ps env).bind fun ds => W.ret (d :: ds) :=
  wkA (pa_cons h h2 hs) fun σ H Q ⟨S, A, G, env, E, hA, r, z⟩ => ⟨S, A, G, env, E, hA, r, (pa env).mono (fun d u v H1 g1 r1 hv => ⟨S, A, G, env, E, hA, r1, (ps env).mono (fun ds u vs H2 g2 r2 hvs =>
    u (v :: vs) H2 (g1.trans g2) r2 (.cons (hv.same (g2.ms r1.ffM)) hvs)) (fun _ z => z) u⟩) (fun _ z => z) z⟩
theorem lab_cons (h : LB Ξ H0 O X e pa) (h2 : LAB Ξ H0 O X es ps) (hs : starEach (e :: es) X.env = (false, eval e X.env) :: starEach es X.env := by rfl) : LAB Ξ H0 O X (e :: es) fun env => (pa env).bind fun d => (ps env).bind fun ds => W.ret (d :: ds) :=
  wkA (pa_cons h h2 hs) fun σ H Q ⟨S, A, G, env, E, hA, r, z⟩ => ⟨S, A, G, env, E, hA, r, (pa env).mono (fun d u v H1 g1 r1 hv => ⟨S, A, G, env, E, hA, r1, (ps env).mono (fun ds u vs H2 g2 r2 hvs =>
    u (v :: vs) H2 (g1.trans g2) r2 (.cons (hv.gr g2 r1.ffM) hvs)) (fun _ z => z) u⟩) (fun _ z => z) z⟩
def tupW (ds : List D) : W D := (W.want (ds.length ≤ sizeLine)).bind fun _ => W.ret (.tup ds)
def lstW (ds : List D) : W D := (W.want (ds.length ≤ sizeLine)).bind fun _ => W.ret (.lst ds)
theorem le_tup {x1} (h : LA Ξ H0 O X es ps) : LE Ξ H0 O X (.Tuple es x1 pos) fun env => (ps env).bind tupW :=
  wkE (pe_tup h) fun σ H Q ⟨S, A, G, env, E, hA, r, z⟩ => ⟨S, A, G, env, E, hA, r, (ps env).mono (fun ds u vs H1 g1 r1 hv => ⟨by rw [hv.len]; exact u.1, fun p np => by
    have s : Same H1 (upd H1 p (.tup vs)) := same_new (Same.refl H1) np
    have r2 := r1.same s
    exact u.2 (.ref p) _ (g1.trans (Gr.of s)) r2 (.tup (sqT_mu (SqT.of upd_same) r2.muA) (hv.same ((Gr.of s : Gr Ξ _ _).ms r1.ffM)))⟩) (fun _ z => z) z⟩
theorem le_lst (h : LA Ξ H0 O X es ps) : LE Ξ H0 O X (.List es pos) fun env => (ps env).bind lstW :=
  wkE (pe_lst h) fun σ H Q ⟨S, A, G, env, E, hA, r, z⟩ => ⟨S, A, G, env, E, hA, r, (ps env).mono (fun ds u vs H1 g1 r1 hv => ⟨by rw [hv.len]; exact u.1, fun p np => by
    have s : Same H1 (upd H1 p (.lst vs)) := same_new (Same.refl H1) np
    have r2 := r1.same s
    exact u.2 (.ref p) _ (g1.trans (Gr.of s)) r2 (.lst (ms_at upd_same (r1.muA.out np)) (hv.same ((Gr.of s : Gr Ξ _ _).ms r1.ffM)))⟩) (fun _ z => z) z⟩
/-! ### built-in calls -/
def CallOk (Ξ : Ctx) (r : List V → Hp → VK → Prop) (f : List D → W D) : Prop := ∀ (M : List Addr) (H : Hp) (xs : List V) (ds : List D) (Q : VK) (E : Ex → Prop), Mu M H → (∀ b ∈ Ξ.ff, b ∈ M) →
  BpAll Ξ M H xs ds → (f ds).wp (fun d => ∀ v H', Same H H' → Rp Ξ (ms M H') v d → Q v H') E → r xs H Q
theorem le_args {r : List V → Hp → VK → Prop} {f : List D → W D} (hf : CallOk Ξ r f) : ∀ σ H Q, liE Ξ H0 O (fun env => (ps env).bind f) σ H Q → liAB Ξ H0 O ps σ H fun xs H1 => r xs H1 Q := by
  rintro σ H Q ⟨S, A, G, env, E, hA, rl, q⟩
  refine ⟨S, A, G, env, E, hA, rl, (ps env).mono (fun ds k xs H1 g1 r1 b1 => ?_) (fun _ z => z) q⟩
  refine hf _ H1 xs ds Q E r1.muA r1.ffM b1 ((f ds).mono (fun d k v H3 s3 rv => ?_) (fun _ z => z) k)
  exact k v H3 (g1.trans (Gr.of s3)) (r1.same s3) rv
end
end LP
namespace LP
open PySem PySem.Spec PyProof.Rows L2 PK
/-! ### what may be done to the names -/
theorem nodup_inj {α β : Type} {f : α → β} : ∀ {l : List α}, (l.map f).Nodup → ∀ {x y : α}, x ∈ l → y ∈ l → f x = f y → x = y
  | [], _, _, _, h, _, _ => (nomatch h)
  | z :: l, nd, x, y, hx, hy, e => by
    rw [List.map_cons, List.nodup_cons] at nd
    rcases List.mem_cons.mp hx with e1 | h1
    · rcases List.mem_cons.mp hy with e2 | h2
      · rw [e1, e2]
      · exact absurd (List.mem_map.mpr ⟨y, h2, by rw [← e, e1]⟩) nd.1
    · rcases List.mem_cons.mp hy with e2 | h2
      · exact absurd (List.mem_map.mpr ⟨x, h1, by rw [e, e2]⟩) nd.1
      · exact nodup_inj nd.2 h1 h2 e
section
variable {Ξ : Ctx} {H0 H H1 : Hp} {S : List Addr} {A : List (Nat × Addr)} {G : List (V × D)} {σ : L2.St} {env : Env}
/-- some owned names are owned no more -/
theorem Rel.sub (k : Nat → Bool) (r : Rel Ξ H0 S A G σ H env) : Rel Ξ H0 S (A.filter fun x => k x.1) G σ H env := by
  have hm : ∀ b ∈ S ++ (A.filter fun x => k x.1).map (·.2), b ∈ S ++ A.map (·.2) := fun b hb => by
    rcases List.mem_append.mp hb with h | h
    · exact List.mem_append_left _ h
    · obtain ⟨x, hx, rfl⟩ := List.mem_map.mp h
      exact List.mem_append_right _ (List.mem_map.mpr ⟨x, (List.mem_filter.mp hx).1, rfl⟩)
  have s : Same (ms (S ++ A.map (·.2)) H) (ms (S ++ (A.filter fun x => k x.1).map (·.2)) H) := ms_mono hm
  have nd2 : ((A.filter fun x => k x.1).map (·.2)).Nodup := List.Sublist.nodup (List.Sublist.map _ List.filter_sublist) r.nd
  have nd1 : ((A.filter fun x => k x.1).map (·.1)).Nodup := List.Sublist.nodup (List.Sublist.map _ List.filter_sublist) r.ndk
  refine ⟨r.len, fun i d h n => ?_, fun i a h => ?_, fun i a h => r.old i a (List.mem_filter.mp h).1, nd2, nd1, fun x hx => (r.gh x hx).same s, r.mu, r.fi, r.ffs, r.gr⟩
  · by_cases z : ∃ a, (i, a) ∈ A
    · obtain ⟨a, ha⟩ := z
      obtain ⟨d', h1, h2, h3⟩ := r.ow i a ha
      rw [h] at h1
      cases h1
      have na : a ∉ S ++ (A.filter fun x => k x.1).map (·.2) := fun hb => by
        rcases List.mem_append.mp hb with hb | hb
        · exact (r.old i a ha).2 hb
        · obtain ⟨⟨j, a'⟩, hx, e⟩ := List.mem_map.mp hb
          have e : a' = a := e
          subst e
          have hxA := (List.mem_filter.mp hx).1
          have : (j, a') = (i, a') := nodup_inj r.nd hxA ha rfl
          rw [this] at hx
          exact n a' hx
      refine ⟨.ref a, h2, ?_⟩
      generalize ho : H a = o at h3
      cases h3 with
      | lst h3 => exact .lst (ms_at ho na) (h3.same s)
    · obtain ⟨v, h1, h2⟩ := r.fr i d h fun a ha => z ⟨a, ha⟩
      exact ⟨v, h1, h2.same s⟩
  · obtain ⟨d, h1, h2, h3⟩ := r.ow i a (List.mem_filter.mp h).1
    exact ⟨d, h1, h2, h3.same s⟩
theorem Rel.set {v : V} {d : D} {i : Nat} (r : Rel Ξ H0 S A G σ H env) (n : ∀ a, (i, a) ∉ A) (hv : Rp Ξ (ms (S ++ A.map (·.2)) H) v d) : Rel Ξ H0 S A G (σ.set i (some v)) H (env.set i (some d)) := by
  refine ⟨by rw [List.length_set, List.length_set]; exact r.len, fun j e h nj => ?_, fun j a h => ?_, r.old, r.nd, r.ndk, r.gh, r.mu, r.fi, r.ffs, r.gr⟩
  · by_cases z : i = j
    · subst z
      have hl : i < env.length := by
        have := (List.getElem?_eq_some_iff.mp h).1
        rwa [List.length_set] at this
      rw [List.getElem?_set_self hl] at h
      cases h
      exact ⟨v, List.getElem?_set_self (by rw [r.len]; exact hl), hv⟩
    · rw [List.getElem?_set_ne z] at h
      obtain ⟨w, h1, h2⟩ := r.fr j e h nj
      exact ⟨w, by rw [List.getElem?_set_ne z]; exact h1, h2⟩
  · have z : i ≠ j := fun z => n a (z ▸ h)
    obtain ⟨e, h1, h2, h3⟩ := r.ow j a h
    exact ⟨e, by rw [List.getElem?_set_ne z]; exact h1, by rw [List.getElem?_set_ne z]; exact h2, h3⟩
/-- a new object comes to be owned -/
theorem Rel.own {p : Addr} {d : D} {i : Nat} (r : Rel Ξ H0 S A G σ H env) (n : ∀ a, (i, a) ∉ A) (hi : i < env.length) (np : H p = none) (g : Gr Ξ H H1) (f : Ξ.FI H1) (ho : Ow Ξ (ms (p :: (S ++ A.map (·.2))) H1) (H1 p) d) :
    Rel Ξ H0 S ((i, p) :: A) G (σ.set i (some (.ref p))) H1 (env.set i (some d)) := by
  have hM : ∀ b : Addr, b ∈ S ++ ((i, p) :: A).map (·.2) ↔ b ∈ p :: (S ++ A.map (·.2)) := fun b => by
    rw [List.map_cons, List.mem_append, List.mem_cons, List.mem_cons, List.mem_append]
    constructor
    · rintro (h | h | h)
      · exact .inr (.inl h)
      · exact .inl h
      · exact .inr (.inr h)
    · rintro (h | h | h)
      · exact .inr (.inl h)
      · exact .inl h
      · exact .inr (.inr h)
  have s : Same (ms (S ++ A.map (·.2)) H) (ms (S ++ ((i, p) :: A).map (·.2)) H1) := fun b u e => by
    obtain ⟨h1, h2⟩ := ms_some e
    refine ms_at (g b u (fun z => h2 (r.ffM b z)) h1) fun z => ?_
    rcases List.mem_cons.mp ((hM b).mp z) with z | z
    · exact ne_of_none h1 np z
    · exact h2 z
  have s2 : Same (ms (p :: (S ++ A.map (·.2))) H1) (ms (S ++ ((i, p) :: A).map (·.2)) H1) := ms_mono fun b hb => (hM b).mp hb
  have hp := r.muA.out np
  refine ⟨by rw [List.length_set, List.length_set]; exact r.len, fun j e h nj => ?_, fun j a h => ?_, fun j a h => ?_, ?_, ?_, fun x hx => (r.gh x hx).same s, r.mu.gr g f, f, r.ffs, r.gr.trans g⟩
  · have z : i ≠ j := fun z => nj p (z ▸ List.mem_cons_self)
    rw [List.getElem?_set_ne z] at h
    obtain ⟨w, h1, h2⟩ := r.fr j e h fun a ha => nj a (List.mem_cons_of_mem _ ha)
    exact ⟨w, by rw [List.getElem?_set_ne z]; exact h1, h2.same s⟩
  · rcases List.mem_cons.mp h with e | h
    · cases e
      exact ⟨d, List.getElem?_set_self hi, List.getElem?_set_self (by rw [r.len]; exact hi), ho.same s2⟩
    · have z : i ≠ j := fun z => n a (z ▸ h)
      obtain ⟨e, h1, h2, h3⟩ := r.ow j a h
      have ea : H1 a = H a := by
        generalize hq : H a = o at h3
        cases h3 with
        | lst _ => exact g a _ (r.outA h) hq
      refine ⟨e, by rw [List.getElem?_set_ne z]; exact h1, by rw [List.getElem?_set_ne z]; exact h2, ?_⟩
      rw [ea]
      exact h3.same s
  · rcases List.mem_cons.mp h with e | h
    · cases e
      refine ⟨?_, fun z => hp (List.mem_append_left _ z)⟩
      cases q : H0 p with
      | none => rfl
      | some o =>
        have := r.gr p o (fun z => hp (List.mem_append_left _ (r.ffs p z))) q
        rw [np] at this
        cases this
    · exact r.old j a h
  · rw [List.map_cons, List.nodup_cons]
    exact ⟨fun z => hp (List.mem_append_right _ z), r.nd⟩
  · rw [List.map_cons, List.nodup_cons]
    refine ⟨fun z => ?_, r.ndk⟩
    obtain ⟨⟨j, a⟩, hx, e⟩ := List.mem_map.mp z
    have e : j = i := e
    subst e
    exact n a hx
/-- an owned object changes -/
theorem Rel.put {a : Addr} {d : D} {i : Nat} {o : HO} (r : Rel Ξ H0 S A G σ H env) (h : (i, a) ∈ A) (ho : Ow Ξ (ms (S ++ A.map (·.2)) H) (some o) d) : Rel Ξ H0 S A G σ (upd H a o) (env.set i (some d)) := by
  have ha : a ∈ S ++ A.map (·.2) := List.mem_append_right _ (List.mem_map.mpr ⟨(i, a), h, rfl⟩)
  have em : ms (S ++ A.map (·.2)) (upd H a o) = ms (S ++ A.map (·.2)) H := ms_upd ha
  obtain ⟨d0, e1, e2, _⟩ := r.ow i a h
  have hi : i < env.length := (List.getElem?_eq_some_iff.mp e1).1
  have uniq : ∀ {j : Nat} {b : Addr}, (j, b) ∈ A → i ≠ j → b ≠ a := fun {j b} hj z e => by
    subst e
    exact z (congrArg Prod.fst (nodup_inj r.nd h hj rfl))
  have uniqk : ∀ {b : Addr}, (i, b) ∈ A → b = a := fun {b} hj => congrArg Prod.snd (nodup_inj r.ndk hj h rfl)
  have nS := (r.old i a h).2
  refine ⟨by rw [List.length_set]; exact r.len, fun j e hj nj => ?_, fun j b hj => ?_, r.old, r.nd, r.ndk, fun x hx => by rw [em]; exact r.gh x hx, fun q hq => ?_, FI_upd r.fi (r.outA h), r.ffs, fun b u n e => ?_⟩
  · have z : i ≠ j := fun z => nj a (z ▸ h)
    rw [List.getElem?_set_ne z] at hj
    rw [em]
    exact r.fr j e hj nj
  · by_cases z : i = j
    · subst z
      have := uniqk hj
      subst this
      refine ⟨d, List.getElem?_set_self hi, e2, ?_⟩
      rw [em, upd_same]
      exact ho
    · obtain ⟨e, h1, h2, h3⟩ := r.ow j b hj
      refine ⟨e, by rw [List.getElem?_set_ne z]; exact h1, h2, ?_⟩
      rw [em, upd_ne (uniq hj z)]
      exact h3
  · rw [upd_ne (fun z => nS (by rw [← z]; exact hq))]
    exact r.mu q hq
  · have h0 := (r.old i a h).1
    rw [upd_ne (ne_of_none e h0)]
    exact r.gr b u n e
theorem Rel.ghost {g : List (V × D)} (r : Rel Ξ H0 S A G σ H env) (h : ∀ x ∈ g, Rp Ξ (ms (S ++ A.map (·.2)) H) x.1 x.2) : Rel Ξ H0 S A (g ++ G) σ H env :=
  ⟨r.len, r.fr, r.ow, r.old, r.nd, r.ndk, fun x hx => (List.mem_append.mp hx).elim (h x) (r.gh x), r.mu, r.fi, r.ffs, r.gr⟩
theorem Rel.unghost {g : List (V × D)} (r : Rel Ξ H0 S A (g ++ G) σ H env) : Rel Ξ H0 S A G σ H env :=
  ⟨r.len, r.fr, r.ow, r.old, r.nd, r.ndk, fun x hx => r.gh x (List.mem_append_right _ hx), r.mu, r.fi, r.ffs, r.gr⟩
/-- a comprehension's own names hold nothing -/
def wipeE (env : Env) : List Nat → Env
  | [] => env
  | i :: vs => (wipeE env vs).set i none
theorem wipeE_len (env : Env) : ∀ vs : List Nat, (wipeE env vs).length = env.length
  | [] => rfl
  | i :: vs => by
    show ((wipeE env vs).set i none).length = _
    rw [List.length_set, wipeE_len env vs]
theorem wipeE_some {env : Env} {i : Nat} {d : D} : ∀ {vs : List Nat}, (wipeE env vs)[i]? = some (some d) → env[i]? = some (some d) ∧ i ∉ vs
  | [], h => ⟨h, fun z => (nomatch z)⟩
  | j :: vs, h => by
    have h : ((wipeE env vs).set j none)[i]? = some (some d) := h
    by_cases z : j = i
    · subst z
      have hl := (List.getElem?_eq_some_iff.mp h).1
      rw [List.length_set] at hl
      rw [List.getElem?_set_self hl] at h
      cases h
    · rw [List.getElem?_set_ne z] at h
      obtain ⟨h1, h2⟩ := wipeE_some h
      exact ⟨h1, fun q => (List.mem_cons.mp q).elim (fun q => z q.symm) h2⟩
theorem wipeE_out {env : Env} {i : Nat} : ∀ {vs : List Nat}, i ∉ vs → (wipeE env vs)[i]? = env[i]?
  | [], _ => rfl
  | j :: vs, h => by
    show ((wipeE env vs).set j none)[i]? = _
    rw [List.getElem?_set_ne (fun z => h (by rw [z]; exact List.mem_cons_self)), wipeE_out fun z => h (List.mem_cons_of_mem _ z)]
theorem Rel.wipe (r : Rel Ξ H0 S A G σ H env) {vs : List Nat} (hv : ∀ i ∈ vs, i ∉ A.map (·.1)) : Rel Ξ H0 S A G (wipe σ vs) H (wipeE env vs) := by
  refine ⟨by rw [wipe_length, wipeE_len]; exact r.len, fun i d h n => ?_, fun i a h => ?_, r.old, r.nd, r.ndk, r.gh, r.mu, r.fi, r.ffs, r.gr⟩
  · obtain ⟨h1, h2⟩ := wipeE_some h
    obtain ⟨v, h3, h4⟩ := r.fr i d h1 n
    exact ⟨v, by rw [wipe_out h2]; exact h3, h4⟩
  · obtain ⟨d, h1, h2, h3⟩ := r.ow i a h
    have ni : i ∉ vs := fun z => hv i z (List.mem_map.mpr ⟨(i, a), h, rfl⟩)
    exact ⟨d, by rw [wipeE_out ni]; exact h1, by rw [wipe_out ni]; exact h2, h3⟩
end
end LP
namespace LP
open PySem PySem.Spec PyProof.Rows L2 PK
/-! ### targets -/
def liG (Ξ : Ctx) (H0 : Hp) (O vs : List Nat) (g : D → Env → W Env) : TG := fun v σ H Q => ∃ S A G env d E, A.map (·.1) = O ∧ Rel Ξ H0 S A G σ H env ∧ Rp Ξ (ms (S ++ A.map (·.2)) H) v d ∧
  (g d env).wp (fun env' => ∀ σ', σ'.length = σ.length → (∀ j, j ∉ vs → σ'[j]? = σ[j]?) → Rel Ξ H0 S A G σ' H env' → Q σ' H) E
def liGs (Ξ : Ctx) (H0 : Hp) (O vs : List Nat) (g : List D → Env → W Env) : TGs := fun xs σ H Q => ∃ S A G env ds E, A.map (·.1) = O ∧ Rel Ξ H0 S A G σ H env ∧ RpAll Ξ (ms (S ++ A.map (·.2)) H) xs ds ∧
  (g ds env).wp (fun env' => ∀ σ', σ'.length = σ.length → (∀ j, j ∉ vs → σ'[j]? = σ[j]?) → Rel Ξ H0 S A G σ' H env' → Q σ' H) E
section
variable {X : Cx} {Ξ : Ctx} {H0 : Hp} {O vs : List Nat} {e : Expr} {es : List Expr} {pos : Pos}
theorem wkG {t t' : TG} (h : PG X e t) (w : ∀ v σ H Q, t' v σ H Q → t v σ H Q) : PG X e t' := ⟨fun pins s σ H x u Q I r q => h.run pins s σ H x u Q I r (w x σ H Q q)⟩
theorem wkGs {t t' : TGs} (h : PGs X es t) (w : ∀ v σ H Q, t' v σ H Q → t v σ H Q) : PGs X es t' := ⟨fun pins s σ H x u Q I r q => h.run pins s σ H x u Q I r (w x σ H Q q)⟩
abbrev LG (Ξ : Ctx) (H0 : Hp) (O vs : List Nat) (X : Cx) (e : Expr) (g : D → Env → W Env) : Prop := PG X e (liG Ξ H0 O vs g)
abbrev LGs (Ξ : Ctx) (H0 : Hp) (O vs : List Nat) (X : Cx) (es : List Expr) (g : List D → Env → W Env) : Prop := PGs X es (liGs Ξ H0 O vs g)
theorem lg_name (i : Nat) (hO : i ∉ O) (hv : i ∈ vs) (h : PG X e (gName i)) : LG Ξ H0 O vs X e fun d env => W.ret (env.set i (some d)) := wkG h fun v σ H Q ⟨S, A, G, env, d, E, hA, r, hd, q⟩ => by
  refine q _ (List.length_set) (fun j hj => List.getElem?_set_ne fun z => hj (by rw [← z]; exact hv)) (r.set (fun a ha => hO ?_) hd)
  rw [← hA]
  exact List.mem_map.mpr ⟨(i, a), ha, rfl⟩
theorem lgs_nil : LGs Ξ H0 O vs X [] fun ds env => match ds with | [] => W.ret env | _ => W.fail := wkGs pgs_nil fun xs σ H Q ⟨S, A, G, env, ds, E, hA, r, hd, q⟩ => by
  cases hd with
  | nil => exact ⟨rfl, q σ rfl (fun _ _ => rfl) r⟩
  | cons _ _ => exact q.elim
def gsW (g : D → Env → W Env) (gs : List D → Env → W Env) (ds : List D) (env : Env) : W Env := match ds with
  | [] => W.fail
  | d :: ds => (g d env).bind fun env' => gs ds env'
theorem lgs_cons {g : D → Env → W Env} {gs : List D → Env → W Env} (h1 : LG Ξ H0 O vs X e g) (h2 : LGs Ξ H0 O vs X es gs) (hs : (assignEach (e :: es) X.env).map (·.2) = assign e X.env :: (assignEach es X.env).map (·.2) := by rfl) :
    LGs Ξ H0 O vs X (e :: es) (gsW g gs) := wkGs (pgs_cons h1 h2 hs) fun xs σ H Q ⟨S, A, G, env, ds, E, hA, r, hd, q⟩ => by
  cases hd with
  | nil => exact q.elim
  | cons hv hvs =>
    refine ⟨_, _, rfl, S, A, G, env, _, E, hA, r, hv, W.mono _ (fun env' k σ' l1 k1 r1 => ?_) (fun _ z => z) q⟩
    exact ⟨S, A, G, env', _, E, hA, r1, hvs, W.mono _ (fun env2 k σ2 l2 k2 r2 => k σ2 (l2.trans l1) (fun j hj => (k2 j hj).trans (k1 j hj)) r2) (fun _ z => z) k⟩
def tupG (n : Nat) (gs : List D → Env → W Env) (d : D) (env : Env) : W Env := match d with
  | .tup ds => (W.want (ds.length = n)).bind fun _ => gs ds env
  | _ => W.fail
theorem lg_tup {k n : Nat} {gs : List D → Env → W Env} (hc : X.calm = true) (hK : X.K = Ξ.K) (h : LGs Ξ H0 O vs X es gs) (hn : (assignEach es X.env).length = n := by rfl) (hst : (assignEach es X.env).findIdx? (·.1) = none := by rfl) :
    LG Ξ H0 O vs X (.Tuple es k pos) (tupG n gs) := wkG (pg_tup hc h hn hst) fun v σ H Q ⟨S, A, G, env, d, E, hA, r, hd, q⟩ => by
  cases d with
  | tup ds =>
    obtain ⟨b, xs, rfl, h1, h2⟩ := hd.tupE
    rw [hK]
    exact ⟨b, xs, rfl, sqT_same ms_sub h1, by rw [h2.len]; exact q.1, S, A, G, env, ds, E, hA, r, h2, q.2⟩
  | _ => exact q.elim
end
/-! ### what is walked -/
/-- J walks ds, while the things of g stand -/
structure Wk (Ξ : Ctx) (J : It) (g : List (V × D)) (ds : List D) : Prop where
  goes : ∀ (M : List Addr) (H : Hp) (i : Nat), Mu M H → (∀ x ∈ g, Rp Ξ (ms M H) x.1 x.2) → i < ds.length → J.go i H
  stops : ∀ (M : List Addr) (H : Hp), Mu M H → (∀ x ∈ g, Rp Ξ (ms M H) x.1 x.2) → J.stop ds.length H
  yields : ∀ (M : List Addr) (H : Hp) (i : Nat) (x : V) (H' : Hp), Mu M H → (∀ x ∈ g, Rp Ξ (ms M H) x.1 x.2) → i < ds.length → J.yld i H x H' → Same H H' ∧ ∃ d, ds[i]? = some d ∧ Rp Ξ (ms M H') x d
def liI (Ξ : Ctx) (H0 : Hp) (O : List Nat) (p : Env → W (List D)) : TI := fun σ H R => ∃ S A G env E, A.map (·.1) = O ∧ Rel Ξ H0 S A G σ H env ∧
  (p env).wp (fun ds => ∀ J H' g, Gr Ξ H H' → Rel Ξ H0 S A G σ H' env → (∀ x ∈ g, Rp Ξ (ms (S ++ A.map (·.2)) H') x.1 x.2) → Wk Ξ J g ds → R J H') E
section
variable {X : Cx} {Ξ : Ctx} {H0 : Hp} {O : List Nat} {tg e : Expr} {pos : Pos}
theorem wkI {t t' : TI} (h : PI X tg e t) (w : ∀ σ H R, t' σ H R → t σ H R) : PI X tg e t' := ⟨fun pins s σ H R I q => h.run pins s σ H R I (w σ H R q)⟩
abbrev LI (Ξ : Ctx) (H0 : Hp) (O : List Nat) (X : Cx) (tg e : Expr) (p : Env → W (List D)) : Prop := PI X tg e (liI Ξ H0 O p)
theorem wk_list {K : PySem.W.Frag} {a : Addr} {ds : List D} (hK : K = Ξ.K) : Wk Ξ (Itl K a) [(.ref a, .lst ds)] ds := by
  subst hK
  have get : ∀ {M : List Addr} {H : Hp}, (∀ x ∈ [((V.ref a : V), D.lst ds)], Rp Ξ (ms M H) x.1 x.2) → ∃ xs, SqL Ξ.K H a xs ∧ RpAll Ξ (ms M H) xs ds := fun {M H} h => by
    obtain ⟨b, xs, e, h1, h2⟩ := (h _ List.mem_cons_self).lstE
    cases e
    exact ⟨xs, SqL.of (ms_sub _ _ h1), h2⟩
  refine ⟨fun M H i _ h hi => ?_, fun M H _ h => ?_, fun M H i x H' _ h hi y => ?_⟩
  · obtain ⟨xs, h1, h2⟩ := get h
    have hx : i < xs.length := by rw [h2.len]; exact hi
    exact ⟨xs, xs[i], h1, by simp [hx]⟩
  · obtain ⟨xs, h1, h2⟩ := get h
    exact ⟨xs, h1, by rw [h2.len]; exact Nat.le_refl _⟩
  · obtain ⟨xs, h1, h2⟩ := get h
    obtain ⟨e, y⟩ := y
    subst e
    exact ⟨Same.refl _, h2.getV (y xs h1)⟩
theorem wk_tup {K : PySem.W.Frag} {a : Addr} {ds : List D} (hK : K = Ξ.K) : Wk Ξ (Itt K a) [(.ref a, .tup ds)] ds := by
  subst hK
  have get : ∀ {M : List Addr} {H : Hp}, (∀ x ∈ [((V.ref a : V), D.tup ds)], Rp Ξ (ms M H) x.1 x.2) → ∃ xs, SqT Ξ.K H a xs ∧ RpAll Ξ (ms M H) xs ds := fun {M H} h => by
    obtain ⟨b, xs, e, h1, h2⟩ := (h _ List.mem_cons_self).tupE
    cases e
    exact ⟨xs, sqT_same ms_sub h1, h2⟩
  refine ⟨fun M H i _ h hi => ?_, fun M H _ h => ?_, fun M H i x H' _ h hi y => ?_⟩
  · obtain ⟨xs, h1, h2⟩ := get h
    have hx : i < xs.length := by rw [h2.len]; exact hi
    exact ⟨xs, xs[i], h1, by simp [hx]⟩
  · obtain ⟨xs, h1, h2⟩ := get h
    exact ⟨xs, h1, by rw [h2.len]; exact Nat.le_refl _⟩
  · obtain ⟨xs, h1, h2⟩ := get h
    obtain ⟨e, y⟩ := y
    subst e
    exact ⟨Same.refl _, h2.getV (y xs h1)⟩
def rangeD (lo : Int) (n : Nat) : List D := (List.range n).map fun (i : Nat) => D.int (lo + (i : Int))
theorem wk_range {lo : Int} {n : Nat} : Wk Ξ (Itr lo n) [] (rangeD lo n) := by
  have l : (rangeD lo n).length = n := by simp [rangeD]
  refine ⟨fun M H i _ _ hi => by rw [l] at hi; exact hi, fun M H _ _ => by rw [l]; exact Nat.le_refl _, fun M H i x H' _ _ hi y => ?_⟩
  rw [l] at hi
  obtain ⟨e, y⟩ := y
  subst e y
  exact ⟨Same.refl _, .int (lo + i), by simp [rangeD, hi], .int _⟩
/-- a list or a tuple, walked -/
def walkLW : D → W (List D)
  | .lst ds => W.ret ds
  | _ => W.fail
def walkTW : D → W (List D)
  | .tup ds => W.ret ds
  | _ => W.fail
theorem li_list {p : Env → W D} (h : LE Ξ H0 O X e p) (hK : X.K = Ξ.K) : LI Ξ H0 O X tg e fun env => (p env).bind walkLW :=
  wkI (pi_list h) fun σ H R ⟨S, A, G, env, E, hA, r, q⟩ => ⟨S, A, G, env, E, hA, r, (p env).mono (fun d k v H' g r' hv => by
    cases d with
    | lst ds =>
      have hv' := hv
      obtain ⟨b, xs, rfl, h1, h2⟩ := hv'.lstE
      exact ⟨b, rfl, ⟨xs, SqL.of (ms_sub _ _ h1)⟩, k _ H' [(.ref b, .lst ds)] g r' (fun x hx => by rw [List.mem_singleton.mp hx]; exact hv) (wk_list hK)⟩
    | _ => exact k.elim) (fun _ z => z) q⟩
theorem li_tup {p : Env → W D} (h : LE Ξ H0 O X e p) (hK : X.K = Ξ.K) : LI Ξ H0 O X tg e fun env => (p env).bind walkTW :=
  wkI (pi_tup h) fun σ H R ⟨S, A, G, env, E, hA, r, q⟩ => ⟨S, A, G, env, E, hA, r, (p env).mono (fun d k v H' g r' hv => by
    cases d with
    | tup ds =>
      have hv' := hv
      obtain ⟨b, xs, rfl, h1, h2⟩ := hv'.tupE
      exact ⟨b, rfl, ⟨xs, by rw [hK]; exact sqT_same ms_sub h1⟩, k _ H' [(.ref b, .tup ds)] g r' (fun x hx => by rw [List.mem_singleton.mp hx]; exact hv) (wk_tup hK)⟩
    | _ => exact k.elim) (fun _ z => z) q⟩
def range1W : List D → W (List D)
  | [.int n] => (W.want (-(2 ^ 62) ≤ n ∧ n < 2 ^ 62)).bind fun _ => W.ret (rangeD 0 n.toNat)
  | _ => W.fail
theorem li_range {a : Expr} {p : Env → W (List D)} {pp pos : Pos} (hg : Gl X "range") (hm : X.mg "range" = none) (ha : LA Ξ H0 O X [a] p) (hs : starEach [a] X.env = [(false, eval a X.env)] := by rfl) :
    LI Ξ H0 O X tg (.Call (.Name "range" pp) [a] [] pos) fun env => (p env).bind range1W :=
  wkI (pi_range1 hg hm ha hs) fun σ H R ⟨S, A, G, env, E, hA, r, q⟩ => ⟨S, A, G, env, E, hA, r, (p env).mono (fun ds k vs H' g r' hv => by
    match ds, k, hv with
    | [.int n], k, .cons (.int _) .nil => exact ⟨n, rfl, k.1.1, k.1.2, k.2 _ H' [] g r' (fun _ hx => (nomatch hx)) wk_range⟩) (fun _ z => z) q⟩
end
/-! ### comprehensions -/
def lcW (g : D → Env → W Env) (t : Env → W Bool) (el : Env → W D) (env : Env) : List D → List D → W (List D)
  | [], acc => W.ret acc
  | d :: ds, acc => (W.calm (g d env)).bind fun env' => (W.calm (t env')).bind fun b => W.ite b
    ((W.calm (el env')).bind fun y => (W.want (acc.length < sizeLine)).bind fun _ => lcW g t el env ds (acc ++ [y])) (lcW g t el env ds acc)
/-- the new list -/
def liN (Ξ : Ctx) (H0 : Hp) (O : List Nat) (p : Env → W D) : TE := fun σ H Q => ∃ S A G env E, A.map (·.1) = O ∧ Rel Ξ H0 S A G σ H env ∧
  (p env).wp (fun d => ∀ (l : Addr) H', Gr Ξ H H' → Ξ.FI H' → H l = none → Ow Ξ (ms (l :: (S ++ A.map (·.2))) H') (H' l) d → Q (.ref l) H') E
section
variable {X : Cx} {Ξ : Ctx} {H0 : Hp} {O : List Nat}
theorem wipe_eq {σ σ' : L2.St} : ∀ {vs : List Nat}, σ'.length = σ.length → (∀ j, j ∉ vs → σ'[j]? = σ[j]?) → wipe σ' vs = wipe σ vs := by
  intro vs hl h
  refine List.ext_getElem? fun j => ?_
  by_cases z : j ∈ vs
  · by_cases q : j < σ.length
    · have key : ∀ τ : L2.St, τ.length = σ.length → (wipe τ vs)[j]? = some none := fun τ ht => by
        cases e : (wipe τ vs)[j]? with
        | none =>
          have := List.getElem?_eq_none_iff.mp e
          rw [wipe_length] at this
          omega
        | some o =>
          cases o with
          | none => rfl
          | some x => exact absurd z (wipe_some e).2
      rw [key σ' hl, key σ rfl]
    · rw [List.getElem?_eq_none (by rw [wipe_length]; omega), List.getElem?_eq_none (by rw [wipe_length]; omega)]
  · rw [wipe_out z, wipe_out z]
    exact h j z
theorem wipe_wipe {σ : L2.St} {vs : List Nat} : wipe (wipe σ vs) vs = wipe σ vs := wipe_eq (wipe_length _ _) fun j hj => wipe_out hj
/-- frozen as it is made -/
theorem le_new {e : Expr} {p : Env → W D} (h : PE X e (liN Ξ H0 O p)) : LE Ξ H0 O X e p := wkE h fun σ H Q ⟨S, A, G, env, E, hA, r, q⟩ =>
  ⟨S, A, G, env, E, hA, r, (p env).mono (fun d k l H' g f nl ho => by
    refine k (.ref l) H' g (r.grow g f) ?_
    have nM := r.muA.out nl
    generalize hq : H' l = o at ho
    cases ho with
    | lst ho => exact .lst (ms_at hq nM) (ho.same (ms_mono fun b hb => List.mem_cons_of_mem _ hb))) (fun _ z => z) q⟩
theorem lc_reads {wi : TI} {g : TG} {tt : TT} {te : TE} {vs : List Nat} {p : Env → W (List D)} {gW : D → Env → W Env} {tW : Env → W Bool} {eW : Env → W D} (hvs : ∀ i ∈ vs, i ∉ O)
    (hi : ∀ σ H R, liI Ξ H0 O p σ H R → wi σ H R) (hg : ∀ v σ H Q, liG Ξ H0 O vs gW v σ H Q → g v σ H Q) (ht : ∀ σ H Q, liT Ξ H0 O tW σ H Q → tt σ H Q) (he : ∀ σ H Q, liE Ξ H0 O eW σ H Q → te σ H Q) :
    ∀ σ H Q, liN Ξ H0 O (fun env => (p env).bind fun ds => (lcW gW tW eW (wipeE env vs) ds []).bind fun l => W.ret (.lst l)) σ H Q → tLc wi g tt te vs σ H Q := by
  rintro σ H Q ⟨S, A, G, env, E, hA, r, q⟩
  refine hi σ H _ ⟨S, A, G, env, E, hA, r, (p env).mono (fun ds k J H1 gh g1 r1 hgh w D nD => ?_) (fun _ z => z) q⟩
  have nDM := r1.muA.out nD
  have nDf : D ∉ Ξ.ff := ff_out r1.fi nD
  have hwp : ∀ i ∈ vs, i ∉ A.map (·.1) := fun i hi => by rw [hA]; exact hvs i hi
  -- the state of the turns
  let Pv : Nat → Hp → Prop := fun i H2 => ∃ us acc, Gr Ξ H1 H2 ∧ Rel Ξ H0 (D :: S) A (gh ++ G) σ H2 env ∧ H2 D = some (.lst us) ∧ RpAll Ξ (ms ((D :: S) ++ A.map (·.2)) H2) us acc ∧
    (lcW gW tW eW (wipeE env vs) (ds.drop i) acc).wp (fun l => ∀ (l' : Addr) H', Gr Ξ H H' → Ξ.FI H' → H l' = none → Ow Ξ (ms (l' :: (S ++ A.map (·.2))) H') (H' l') (.lst l) → Q (.ref l') H') E
  have hcons : ∀ {H2 : Hp}, ms (D :: (S ++ A.map (·.2))) H2 = ms ((D :: S) ++ A.map (·.2)) H2 := rfl
  have nDH : H D = none := by
    cases q : H D with
    | none => rfl
    | some o =>
      have := g1 D o nDf q
      rw [nD] at this
      cases this
  refine ⟨fun i m H2 => m = ds.length - i ∧ i ≤ ds.length ∧ Pv i H2, ⟨ds.length, rfl, Nat.zero_le _, [], [], ?_⟩, ?_⟩
  · refine ⟨Gr.of (same_new (Same.refl H1) nD), (r1.ghost hgh).mask nD trivial, upd_same, .nil, k⟩
  · rintro i m H2 ⟨rfl, hi2, us, acc, g2, r2, eD, ha, k2⟩
    have gh2 : ∀ x ∈ gh, Rp Ξ (ms ((D :: S) ++ A.map (·.2)) H2) x.1 x.2 := fun x hx => r2.gh x (List.mem_append_left _ hx)
    by_cases hlt : i < ds.length
    · refine .inr ⟨w.goes _ H2 i r2.muA gh2 hlt, Pv (i + 1), fun H' p' => ⟨ds.length - (i + 1), by omega, rfl, hlt, p'⟩, fun x H3 y => ?_⟩
      obtain ⟨s3, d, hd, rx⟩ := w.yields _ H2 i x H3 r2.muA gh2 hlt y
      have r3 := r2.same s3
      have eD3 := s3 _ _ eD
      have ha3 := ha.same ((Gr.of s3 : Gr Ξ _ _).ms r2.ffM)
      rw [List.drop_eq_getElem_cons hlt] at k2
      have ed : ds[i] = d := by
        rw [List.getElem?_eq_getElem hlt] at hd
        exact Option.some.inj hd
      rw [ed] at k2
      refine hg x _ H3 _ ⟨D :: S, A, gh ++ G, wipeE env vs, d, fun _ => False, hA, r3.wipe hwp, rx, W.mono _ (fun env' k3 σ' l' k' r4 => ?_) (fun _ z => z) k2⟩
      refine ⟨(wipe_eq l' k').trans wipe_wipe, ht σ' H3 _ ⟨D :: S, A, gh ++ G, env', fun _ => False, hA, r4, W.mono _ (fun b k4 H4 g4 r5 => ?_) (fun _ z => z) k3⟩⟩
      have back : ∀ {H5 : Hp}, Rel Ξ H0 (D :: S) A (gh ++ G) σ' H5 env' → Gr Ξ H3 H5 → Rel Ξ H0 (D :: S) A (gh ++ G) σ H5 env := fun {H5} rr gg => r3.grow gg rr.fi
      have eD4 := g4 _ _ nDf eD3
      have ha4 := ha3.same (g4.ms r3.ffM)
      cases b with
      | false => exact iteF ⟨us, acc, (g2.trans (Gr.of s3)).trans g4, back r5 g4, eD4, ha4, k4⟩
      | true =>
        refine iteT (he σ' H4 _ ⟨D :: S, A, gh ++ G, env', fun _ => False, hA, r5, W.mono _ (fun y k5 v H5 g5 r6 hv => ?_) (fun _ z => z) k4⟩)
        have eD5 := g5 _ _ nDf eD4
        have ha5 := ha4.same (g5.ms r5.ffM)
        have r7 := back r6 (g4.trans g5)
        have hD : D ∈ (D :: S) ++ A.map (·.2) := List.mem_cons_self
        refine ⟨us, eD5, by rw [ha5.len]; exact k5.1, us ++ [v], acc ++ [y], fun b o n e => ?_, ?_, upd_same, ?_, k5.2⟩
        · rw [upd_ne (ne_of_none e nD)]
          exact ((g2.trans (Gr.of s3)).trans (g4.trans g5)) b o n e
        · refine ⟨r7.len, fun j z h n => ?_, fun j a h => ?_, r7.old, r7.nd, r7.ndk, fun x hx => ?_, r7.mu.upd trivial, FI_upd r7.fi nDf, r7.ffs, fun b o n e => ?_⟩
          · rw [ms_upd hD]
            exact r7.fr j z h n
          · have na : a ≠ D := fun z => (r7.old j a h).2 (by rw [z]; exact List.mem_cons_self)
            rw [ms_upd hD, upd_ne na]
            exact r7.ow j a h
          · rw [ms_upd hD]
            exact r7.gh x hx
          · have nb : b ≠ D := fun z => by
              rw [z] at e
              have := r1.gr D o (by rw [← z]; exact n) e
              rw [nD] at this
              cases this
            rw [upd_ne nb]
            exact r7.gr b o n e
        · rw [ms_upd hD]
          exact ha5.snoc hv
    · have e : i = ds.length := by omega
      subst e
      refine .inl ⟨w.stops _ H2 r2.muA gh2, ?_⟩
      rw [List.drop_length] at k2
      refine k2 D H2 (g1.trans g2) r2.fi nDH ?_
      rw [eD]
      exact .lst ha
end
end LP
namespace LP
open PySem PySem.Spec PyProof.Rows L2 PK
/-! ### statements -/
inductive Fl where
  | nx (e : Env)
  | rt (d : D)
  | bk (e : Env)
  | ct (e : Env)
/-- what is wanted behind -/
def FQ (Ξ : Ctx) (H0 : Hp) (S : List Addr) (G : List (V × D)) (O' Ob : List Nat) (De : Ends) : Fl → Prop
  | .nx env => ∀ A σ H, A.map (·.1) = O' → Rel Ξ H0 S A G σ H env → De.nx σ H
  | .rt d => ∀ v H, Gr Ξ H0 H → Ξ.FI H → (∀ x ∈ G, Rp Ξ (ms S H) x.1 x.2) → Rp Ξ (ms S H) v d → De.rt v H
  | .bk env => ∀ A σ H, A.map (·.1) = Ob → Rel Ξ H0 S A G σ H env → De.bk σ H
  | .ct env => ∀ A σ H, A.map (·.1) = Ob → Rel Ξ H0 S A G σ H env → De.ct σ H
def liS (Ξ : Ctx) (H0 : Hp) (O O' Ob : List Nat) (p : Env → W Fl) : TS := fun De σ H => ∃ S A G env E, A.map (·.1) = O ∧ Rel Ξ H0 S A G σ H env ∧ (p env).wp (FQ Ξ H0 S G O' Ob De) E
def thenW (m : W Fl) (q : Env → W Fl) : W Fl := m.bind fun f => match f with
  | .nx e => q e
  | f => W.ret f
section
variable {X : Cx} {Ξ : Ctx} {H0 : Hp} {O O1 O2 O' Ob : List Nat} {st : Stmt} {sts a b : List Stmt} {e c : Expr} {pos : Pos} {p q : Env → W Fl}
abbrev LS (Ξ : Ctx) (H0 : Hp) (O O' Ob : List Nat) (X : Cx) (st : Stmt) (p : Env → W Fl) : Prop := PS X st (liS Ξ H0 O O' Ob p)
abbrev LSs (Ξ : Ctx) (H0 : Hp) (O O' Ob : List Nat) (X : Cx) (st : List Stmt) (p : Env → W Fl) : Prop := PSs X st (liS Ξ H0 O O' Ob p)
theorem keys_filter {A : List (Nat × Addr)} {O1 O2 : List Nat} (h : A.map (·.1) = O1) (hs : O1.filter (fun i => decide (i ∈ O2)) = O2) : (A.filter fun x => decide (x.1 ∈ O2)).map (·.1) = O2 := by
  have e : (A.filter fun x => decide (x.1 ∈ O2)).map (·.1) = (A.map (·.1)).filter fun i => decide (i ∈ O2) := by
    rw [List.filter_map]
    rfl
  rw [e, h, hs]
/-- fewer owned names at the start -/
theorem liS_sub (hs : O.filter (fun i => decide (i ∈ O2)) = O2) {De : Ends} {σ : L2.St} {H : Hp} (h : liS Ξ H0 O O' Ob p De σ H) : liS Ξ H0 O2 O' Ob p De σ H := by
  obtain ⟨S, A, G, env, E, hA, r, k⟩ := h
  exact ⟨S, _, G, env, E, keys_filter hA hs, r.sub fun i => decide (i ∈ O2), k⟩
theorem lss_sub (hs : O.filter (fun i => decide (i ∈ O2)) = O2 := by decide) (h : LSs Ξ H0 O2 O' Ob X sts p) : LSs Ξ H0 O O' Ob X sts p := wkSs h fun De σ H q => liS_sub hs q
theorem lss_nil : LSs Ξ H0 O O Ob X [] fun env => W.ret (.nx env) := wkSs pss_nil fun De σ H ⟨S, A, G, env, E, hA, r, k⟩ => k A σ H hA r
theorem lss_cons (h1 : LS Ξ H0 O O1 Ob X st p) (h2 : LSs Ξ H0 O2 O' Ob X sts q) (hs : O1.filter (fun i => decide (i ∈ O2)) = O2 := by decide) : LSs Ξ H0 O O' Ob X (st :: sts) fun env => thenW (p env) q :=
  wkSs (pss_cons h1 h2) fun De σ H ⟨S, A, G, env, E, hA, r, k⟩ => ⟨S, A, G, env, E, hA, r, (p env).mono (fun f k => by
    cases f with
    | nx env' => exact fun A' σ' H' hA' r' => ⟨S, _, G, env', E, keys_filter hA' hs, r'.sub fun i => decide (i ∈ O2), k⟩
    | rt d => exact k
    | bk env' => exact k
    | ct env' => exact k) (fun _ z => z) k⟩
theorem lss_one (h1 : LS Ξ H0 O O' Ob X st p) : LSs Ξ H0 O O' Ob X [st] p := pss_one h1
theorem ls_ret {pe : Env → W D} (h : LE Ξ H0 O X e pe) : LS Ξ H0 O O' Ob X (.Return (some e) pos) fun env => (pe env).bind fun d => W.ret (.rt d) :=
  wkS (ps_ret h) fun De σ H ⟨S, A, G, env, E, hA, r, k⟩ => ⟨S, A, G, env, E, hA, r, (pe env).mono (fun d k v H' g r' hv => k v H' r'.gr r'.fi (fun x hx => (r'.gh x hx).same (ms_mono fun b hb => List.mem_append_left _ hb)) (hv.same (ms_mono fun b hb => List.mem_append_left _ hb))) (fun _ z => z) k⟩
theorem ls_if {pt : Env → W Bool} (hc : LT Ξ H0 O X c pt) (ha : LSs Ξ H0 O O' Ob X a p) (hb : LSs Ξ H0 O O' Ob X b q) : LS Ξ H0 O O' Ob X (.If c a b pos) fun env => (pt env).bind fun k => W.ite k (p env) (q env) :=
  wkS (ps_if hc ha hb) fun De σ H ⟨S, A, G, env, E, hA, r, k⟩ => ⟨S, A, G, env, E, hA, r, (pt env).mono (fun b k H' g r' => by
    cases b with
    | true => exact iteT ⟨S, A, G, env, E, hA, r', k⟩
    | false => exact iteF ⟨S, A, G, env, E, hA, r', k⟩) (fun _ z => z) k⟩
/-- x = e -/
theorem asg_reads {te : TE} {pe : Env → W D} {i : Nat} (hO : O.filter (fun j => decide (j ∈ O')) = O') (hi : i ∉ O') (h : ∀ σ H Q, liE Ξ H0 O pe σ H Q → te σ H Q) :
    ∀ De σ H, liS Ξ H0 O O' Ob (fun env => (pe env).bind fun d => W.ret (.nx (env.set i (some d)))) De σ H → tAsg te (gName i) De σ H := by
  rintro De σ H ⟨S, A, G, env, E, hA, r, k⟩
  refine h σ H _ ⟨S, A, G, env, E, hA, r, (pe env).mono (fun d k v H' g r' hv => ?_) (fun _ z => z) k⟩
  refine k _ _ H' (keys_filter hA hO) ((r'.sub fun j => decide (j ∈ O')).set (fun a ha => hi ?_) (hv.same (ms_mono fun b hb => ?_)))
  · exact of_decide_eq_true (List.mem_filter.mp ha).2
  · rcases List.mem_append.mp hb with hb | hb
    · exact List.mem_append_left _ hb
    · obtain ⟨x, hx, rfl⟩ := List.mem_map.mp hb
      exact List.mem_append_right _ (List.mem_map.mpr ⟨x, (List.mem_filter.mp hx).1, rfl⟩)
theorem ls_set {pe : Env → W D} {i : Nat} {x : Str} {pos' : Pos} (hN : X.N.Nodup) (hi : X.N[i]? = some x) (hx : Loc X.env.scope x) (he : LE Ξ H0 O X e pe) (hO : O.filter (fun j => decide (j ∈ O')) = O' := by decide) (hi2 : i ∉ O' := by decide)
    (hs : swapsWith e (some (.Name x pos')) pos.line X.env = pure false := by rfl) (hf : X.fn x = true ∨ X.env.scope.names.lookup x = some .local := by first | exact .inl rfl | exact .inr rfl | assumption) :
    LS Ξ H0 O O' Ob X (.Assign [.Name x pos'] e pos) fun env => (pe env).bind fun d => W.ret (.nx (env.set i (some d))) :=
  wkS (ps_set hN hi hx he hs hf) (asg_reads hO hi2 fun _ _ _ h => h)
/-- x = a new list, owned -/
theorem own_reads {te : TE} {pe : Env → W D} {i : Nat} (hO : O.filter (fun j => decide (j ∈ O')) = O') (hi : i ∉ O') (h : ∀ σ H Q, liN Ξ H0 O pe σ H Q → te σ H Q) :
    ∀ De σ H, liS Ξ H0 O (i :: O') Ob (fun env => (pe env).bind fun d => (W.want (i < env.length)).bind fun _ => W.ret (.nx (env.set i (some d)))) De σ H → tAsg te (gName i) De σ H := by
  rintro De σ H ⟨S, A, G, env, E, hA, r, k⟩
  refine h σ H _ ⟨S, A, G, env, E, hA, r, (pe env).mono (fun d k l H' g f nl ho => ?_) (fun _ z => z) k⟩
  refine k.2 _ _ H' (by rw [List.map_cons, keys_filter hA hO]) ((r.sub fun j => decide (j ∈ O')).own (fun a ha => hi ?_) k.1 nl g f (ho.same (ms_mono fun b hb => ?_)))
  · exact of_decide_eq_true (List.mem_filter.mp ha).2
  · rcases List.mem_cons.mp hb with hb | hb
    · rw [hb]
      exact List.mem_cons_self
    · rcases List.mem_append.mp hb with hb | hb
      · exact List.mem_cons_of_mem _ (List.mem_append_left _ hb)
      · obtain ⟨x, hx, rfl⟩ := List.mem_map.mp hb
        exact List.mem_cons_of_mem _ (List.mem_append_right _ (List.mem_map.mpr ⟨x, (List.mem_filter.mp hx).1, rfl⟩))
theorem ls_own {pe : Env → W D} {i : Nat} {x : Str} {pos' : Pos} (hN : X.N.Nodup) (hi : X.N[i]? = some x) (hx : Loc X.env.scope x) (he : PE X e (liN Ξ H0 O pe)) (hO : O.filter (fun j => decide (j ∈ O')) = O' := by decide) (hi2 : i ∉ O' := by decide)
    (hs : swapsWith e (some (.Name x pos')) pos.line X.env = pure false := by rfl) (hf : X.fn x = true ∨ X.env.scope.names.lookup x = some .local := by first | exact .inl rfl | exact .inr rfl | assumption) :
    LS Ξ H0 O (i :: O') Ob X (.Assign [.Name x pos'] e pos) fun env => (pe env).bind fun d => (W.want (i < env.length)).bind fun _ => W.ret (.nx (env.set i (some d))) :=
  wkS (ps_set hN hi hx he hs hf) (own_reads hO hi2 fun _ _ _ h => h)
/-! ### loops -/
def forW (g : D → Env → W Env) (p : Env → W Fl) : List D → Env → W Fl
  | [], env => W.ret (.nx env)
  | d :: ds, env => (g d env).bind fun env1 => (p env1).bind fun f => match f with
    | .nx e => forW g p ds e
    | .ct e => forW g p ds e
    | .bk e => W.ret (.nx e)
    | .rt d => W.ret (.rt d)
theorem ls_for {tg iter : Expr} {body : List Stmt} {pi : Env → W (List D)} {gW : D → Env → W Env} {vs : List Nat} (hp : PassesOwn (model X.prog X.w) X.A X.env X.xe) (hc : X.calm = true) (hi : LI Ξ H0 O X tg iter pi) (hg : LG Ξ H0 O vs X tg gW) (hb : LSs Ξ H0 O O O X body p)
    (hs : ∀ x, foldedSetIterable iter X.env x = pure x := by intro _; rfl) : LS Ξ H0 O O Ob X (.For tg iter body [] pos) fun env => (pi env).bind fun ds => forW gW p ds env := by
  refine wkS (ps_for hp hc hi hg hb hs) fun De σ H ⟨S, A, G, env, E, hA, r, k⟩ => ⟨S, A, G, env, E, hA, r, (pi env).mono (fun ds k J H1 gh g1 r1 hgh w => ?_) (fun _ z => z) k⟩
  refine ⟨fun i m σ' H' => m = ds.length - i ∧ i ≤ ds.length ∧ ∃ A' env', A'.map (·.1) = O ∧ Rel Ξ H0 S A' (gh ++ G) σ' H' env' ∧ (forW gW p (ds.drop i) env').wp (FQ Ξ H0 S G O Ob De) E, ⟨ds.length, rfl, Nat.zero_le _, A, env, hA, r1.ghost hgh, k⟩, ?_⟩
  rintro i m σ2 H2 ⟨rfl, hi2, A2, env2, hA2, r2, k2⟩
  have gh2 : ∀ x ∈ gh, Rp Ξ (ms (S ++ A2.map (·.2)) H2) x.1 x.2 := fun x hx => r2.gh x (List.mem_append_left _ hx)
  by_cases hlt : i < ds.length
  · refine .inr ⟨w.goes _ H2 i r2.muA gh2 hlt, fun σ' H' => ∃ A' env', A'.map (·.1) = O ∧ Rel Ξ H0 S A' (gh ++ G) σ' H' env' ∧ (forW gW p (ds.drop (i + 1)) env').wp (FQ Ξ H0 S G O Ob De) E, fun σ' H' p' => ⟨ds.length - (i + 1), by omega, rfl, hlt, p'⟩, fun x H3 y => ?_⟩
    obtain ⟨s3, d, hd, rx⟩ := w.yields _ H2 i x H3 r2.muA gh2 hlt y
    rw [List.drop_eq_getElem_cons hlt] at k2
    have ed : ds[i] = d := by
      rw [List.getElem?_eq_getElem hlt] at hd
      exact Option.some.inj hd
    rw [ed] at k2
    refine ⟨S, A2, gh ++ G, env2, d, E, hA2, r2.same s3, rx, W.mono _ (fun env3 k3 σ3 _ _ r3 => ?_) (fun _ z => z) k2⟩
    refine ⟨S, A2, gh ++ G, env3, E, hA2, r3, (p env3).mono (fun f k4 => ?_) (fun _ z => z) k3⟩
    cases f with
    | nx e => exact fun A' σ' H' hA' r' => ⟨A', e, hA', r', k4⟩
    | ct e => exact fun A' σ' H' hA' r' => ⟨A', e, hA', r', k4⟩
    | bk e => exact fun A' σ' H' hA' r' => k4 A' σ' H' hA' r'.unghost
    | rt d => exact fun v H g f gg hv => k4 v H g f (fun x hx => gg x (List.mem_append_right _ hx)) hv
  · have e : i = ds.length := by omega
    subst e
    rw [List.drop_length] at k2
    exact .inl ⟨w.stops _ H2 r2.muA gh2, k2 A2 σ2 H2 hA2 r2.unghost⟩
def whileN (t : Env → W Bool) (p : Env → W Fl) : Nat → Env → W Fl
  | 0, _ => W.fail
  | n + 1, env => (t env).bind fun b => W.ite b ((p env).bind fun f => match f with
    | .nx e => whileN t p n e
    | .ct e => whileN t p n e
    | .bk e => W.ret (.nx e)
    | .rt d => W.ret (.rt d)) (W.ret (.nx env))
def whileW (t : Env → W Bool) (p : Env → W Fl) (env : Env) : W Fl := ⟨fun Q E => ∃ n, (whileN t p n env).wp Q E, fun h1 h2 ⟨n, q⟩ => ⟨n, W.mono _ h1 h2 q⟩⟩
theorem ls_while {body : List Stmt} {pt : Env → W Bool} (hp : PassesOwn (model X.prog X.w) X.A X.env X.xe) (hc : LT Ξ H0 O X c pt) (hb : LSs Ξ H0 O O O X body p) : LS Ξ H0 O O Ob X (.While c body [] pos) fun env => whileW pt p env := by
  refine wkS (ps_while hp hc hb) fun De σ H ⟨S, A, G, env, E, hA, r, n, k⟩ => ?_
  refine ⟨fun m σ' H' => ∃ A' env', A'.map (·.1) = O ∧ Rel Ξ H0 S A' G σ' H' env' ∧ (whileN pt p m env').wp (FQ Ξ H0 S G O Ob De) E, ⟨n, A, env, hA, r, k⟩, ?_⟩
  rintro m σ2 H2 ⟨A2, env2, hA2, r2, k2⟩
  cases m with
  | zero => exact k2.elim
  | succ m =>
    refine ⟨S, A2, G, env2, E, hA2, r2, (pt env2).mono (fun b k3 H3 g3 r3 => ?_) (fun _ z => z) k2⟩
    cases b with
    | false => exact iteF (k3 A2 σ2 H3 hA2 r3)
    | true =>
      refine iteT ⟨fun σ' H' => ∃ A' env', A'.map (·.1) = O ∧ Rel Ξ H0 S A' G σ' H' env' ∧ (whileN pt p m env').wp (FQ Ξ H0 S G O Ob De) E, fun σ' H' p' => ⟨m, by omega, p'⟩, ?_⟩
      refine ⟨S, A2, G, env2, E, hA2, r3, (p env2).mono (fun f k4 => ?_) (fun _ z => z) k3⟩
      cases f with
      | nx e => exact fun A' σ' H' hA' r' => ⟨A', e, hA', r', k4⟩
      | ct e => exact fun A' σ' H' hA' r' => ⟨A', e, hA', r', k4⟩
      | bk e => exact fun A' σ' H' hA' r' => k4 A' σ' H' hA' r'
      | rt d => exact k4
end
/-! ### defs -/
/-- how an error stands -/
def ExAt (Ξ : Ctx) (S : List Addr) (H : Hp) (C d : Addr) (ex : Ex) : Prop := Ξ.cl ex.c = some C ∧ ∃ xs, H d = some (.xd ((Ξ.fl ex.c).zip xs)) ∧ RpAll Ξ (ms S H) xs ex.l
/-- a def by value: p of what is handed in -/
def liF (Γ : Sig) (p : List D → W D) : Sp := fun vs H Q E => ∃ (fd : Fd) (S : List Addr) (ds : List D) (EE : Ex → Prop),
  Mu S H ∧ (∀ b ∈ (Ctx.mk Γ fd).ff, b ∈ S) ∧ (Ctx.mk Γ fd).FI H ∧ RpAll (Ctx.mk Γ fd) (ms S H) vs ds ∧
  (∀ ex, EE ex → ∀ C d H', Gr (Ctx.mk Γ fd) H H' → (Ctx.mk Γ fd).FI H' → H d = none → ExAt (Ctx.mk Γ fd) S H' C d ex → E (.ref C) (some d) H') ∧
  (p ds).wp (fun d => ∀ v H', Gr (Ctx.mk Γ fd) H H' → (Ctx.mk Γ fd).FI H' → Rp (Ctx.mk Γ fd) (ms S H') v d → Q v H') EE
def startE (n : Nat) (ds : List D) : Env := ds.map some ++ List.replicate (n - ds.length) none
/-- what a body gives -/
def endW (m : W Fl) : W D := m.bind fun f => match f with
  | .rt d => W.ret d
  | .nx _ => W.ret .non
  | _ => W.fail
theorem Rel.start {Ξ : Ctx} {H : Hp} {S : List Addr} {vs : List V} {ds : List D} {N : List Str} (mu : Mu S H) (hf : ∀ b ∈ Ξ.ff, b ∈ S) (fi : Ξ.FI H) (h : RpAll Ξ (ms S H) vs ds) : Rel Ξ H S [] [] (L2.start N vs) H (startE N.length ds) := by
  have em : S ++ ([] : List (Nat × Addr)).map (·.2) = S := List.append_nil S
  refine ⟨?_, fun i d hd _ => ?_, fun i a h => (nomatch h), fun i a h => (nomatch h), List.nodup_nil, List.nodup_nil, fun x hx => (nomatch hx), mu, fi, hf, Gr.refl H⟩
  · unfold L2.start startE
    simp [h.len]
  · unfold startE at hd
    have hl : i < ds.length := by
      rcases Nat.lt_or_ge i ds.length with z | z
      · exact z
      · rw [List.getElem?_append_right (by rw [List.length_map]; exact z)] at hd
        have := List.mem_of_getElem? hd
        rw [List.mem_replicate] at this
        cases this.2
    rw [List.getElem?_append_left (by rw [List.length_map]; exact hl), List.getElem?_map] at hd
    obtain ⟨d', e1, e2⟩ := Option.map_eq_some_iff.mp hd
    cases e2
    obtain ⟨v, h1, h2⟩ := h.get e1
    refine ⟨v, ?_, by rw [em]; exact h2⟩
    unfold L2.start
    rw [List.getElem?_append_left (by rw [List.length_map, h.len]; exact hl), List.getElem?_map, h1]
    rfl
section
variable {Γ : Sig} {mg : Str → Option Value} {base : Heap}
/-- THE RULE for a def by value -/
theorem ok_by {x qual : Str} {st : Stmt} {f : Addr} {fd : FuncData} {N ps : List Str} {k : Nat} {p : List D → W D} {pb : Env → W Fl} (F : Fun Γ.K x qual st f fd) (Sc : FnScope N ps (defScope st))
    (hbody : ∀ (fe : Fd) (cdv : Value) (A : Around) (outer : List PySem.Env) (s : Shared) (H : Hp) (E : XK), Room k (A.deeper (envOfC qual (defScope st) s.heap.objs.size f cdv)) →
      LSs ⟨Γ, fe⟩ H [] [] [] (cxOf CX0 Γ.P Γ.w Γ.K mg base N qual (defScope st) f cdv A outer s H E).nox (defBody st) pb)
    (hp : ∀ ds Q E, (p ds).wp Q E → ds.length = ps.length ∧ (endW (pb (startE N.length ds))).wp Q E) : FnOk Γ.P Γ.w Γ.K mg base CX0 (k + 1) f fd ps (liF Γ p) := by
  refine F.ok Sc (fun vs H Q E ⟨fe, S, ds, EE, mu, hf, fi, hv, hE, q⟩ => ?_) (fun cdv A outer s H vs Q E hr ⟨fe, S, ds, EE, mu, hf, fi, hv, hE, q⟩ => ?_)
  · rw [hv.len]
    exact (hp ds _ _ q).1
  · refine ⟨_, hbody fe cdv A outer s H E hr, S, [], [], startE N.length ds, EE, rfl, Rel.start mu hf fi hv, ?_⟩
    refine W.mono _ (fun fl' k => ?_) (fun _ z => z) (hp ds _ _ q).2
    cases fl' with
    | nx e => exact fun A' σ' H' hA' r' => k .non H' r'.gr r'.fi .non
    | rt d => exact fun v H' g f _ hv => k v H' g f hv
    | bk e => exact k.elim
    | ct e => exact k.elim
/-- .. of a def that shows things -/
theorem ok_byG {x qual : Str} {st : Stmt} {f : Addr} {fd : FuncData} {N ps : List Str} {k : Nat} {p : List D → W D} {pb : Env → W Fl} (F : Fun Γ.K x qual st f fd) (Sc : FnScope N ps (defScope st))
    (hbody : ∀ (fe : Fd) (cdv : Value) (A : Around) (outer : List PySem.Env) (s : Shared) (H : Hp) (E : XK), A.guards = some [] → Room k (A.deeper (envOfC qual (defScope st) s.heap.objs.size f cdv)) →
      LSs ⟨Γ, fe⟩ H [] [] [] (cxOf CX0 Γ.P Γ.w Γ.K mg base N qual (defScope st) f cdv A outer s H E).nox (defBody st) pb)
    (hp : ∀ ds Q E, (p ds).wp Q E → ds.length = ps.length ∧ (endW (pb (startE N.length ds))).wp Q E) : FnG Γ.P Γ.w Γ.K mg base CX0 (k + 1) f fd ps (liF Γ p) := by
  refine funG_ok F Sc (fun vs H Q E ⟨fe, S, ds, EE, mu, hf, fi, hv, hE, q⟩ => ?_) (fun cdv A outer s H vs Q E hg hr ⟨fe, S, ds, EE, mu, hf, fi, hv, hE, q⟩ => ?_)
  · rw [hv.len]
    exact (hp ds _ _ q).1
  · refine ⟨_, hbody fe cdv A outer s H E hg hr, S, [], [], startE N.length ds, EE, rfl, Rel.start mu hf fi hv, ?_⟩
    refine W.mono _ (fun fl' k => ?_) (fun _ z => z) (hp ds _ _ q).2
    cases fl' with
    | nx e => exact fun A' σ' H' hA' r' => k .non H' r'.gr r'.fi .non
    | rt d => exact fun v H' g f _ hv => k v H' g f hv
    | bk e => exact k.elim
    | ct e => exact k.elim
end
/-! ### a def called -/
section
variable {X : Cx} {Γ : Sig} {fe : Fd} {H0 : Hp} {O : List Nat} {k : Nat} {f : Addr} {fd : FuncData} {ps : List Str} {e : Expr} {es : List Expr} {x : Str} {pp pos : Pos} {p : List D → W D} {pa : Env → W (List D)}
theorem call_reads {ta : TA} (ha : ∀ σ H Q, liA ⟨Γ, fe⟩ H0 O pa σ H Q → ta σ H Q) :
    ∀ σ H Q, liE ⟨Γ, fe⟩ H0 O (fun env => (pa env).bind p) σ H Q → ta σ H fun vs H1 => liF Γ p (vs ++ []) H1 Q fun _ _ _ => True := by
  rintro σ H Q ⟨S, A, G, env, E, hA, r, q⟩
  refine ha σ H _ ⟨S, A, G, env, E, hA, r, (pa env).mono (fun ds k vs H1 g1 r1 hv => ?_) (fun _ z => z) q⟩
  show liF Γ p (vs ++ []) H1 Q _
  rw [List.append_nil]
  refine ⟨fe, S ++ A.map (·.2), ds, E, r1.muA, r1.ffM, r1.fi, hv, fun _ _ _ _ _ _ _ _ _ => trivial, (p ds).mono (fun d k v H2 g2 f2 hv2 => ?_) (fun _ z => z) k⟩
  exact k v H2 (g1.trans g2) (r1.grow g2 f2) hv2
/-- a def by value that may be called: its name, its place -/
structure CalV (Γ : Sig) (mg : Str → Option Value) (base : Heap) (k : Nat) (x : Str) (f : Addr)
    (fd : FuncData) (ps : List Str) (p : List D → W D) : Prop where
  ok : FnOk Γ.P Γ.w Γ.K mg base CX0 k f fd ps (liF Γ p)
  g : mg x = some (.ref f)
  kp : PySem.W.keepIn Γ.K (.ref f) = true
  b : Binds Γ.K fd ps []
structure CalW (Γ : Sig) (mg : Str → Option Value) (base : Heap) (k : Nat) (x : Str) (f : Addr)
    (fd : FuncData) (ps : List Str) (p : List D → W D) : Prop where
  ok : FnG Γ.P Γ.w Γ.K mg base CX0 k f fd ps (liF Γ p)
  g : mg x = some (.ref f)
  kp : PySem.W.keepIn Γ.K (.ref f) = true
  b : Binds Γ.K fd ps []
theorem le_call {mg : Str → Option Value} {base : Heap} (C : CalV Γ mg base k x f fd ps p) (hP : X.prog = Γ.P) (hw : X.w = Γ.w) (hK : X.K = Γ.K) (hmg : X.mg = mg) (hbs : X.base = base) (hr : Room k X.A) (hg : Gl X x) (ha : LA ⟨Γ, fe⟩ H0 O X (e :: es) pa)
    (hdb : (x == ("__debug__" : Str)) = false := by decide) (he : starEach (e :: es) X.env = (false, eval e X.env) :: starEach es X.env := by rfl) (hpl : (backTo pos (starEach es X.env)).any (·.1) = false := by rfl) :
    LE ⟨Γ, fe⟩ H0 O X (.Call (.Name x pp) (e :: es) [] pos) fun env => (pa env).bind p :=
  wkE (pe_call (E := fun _ _ _ => True) (by rw [hP, hw, hK, hmg, hbs]; exact C.ok) hr hg (by rw [hmg]; exact C.g) (by rw [hK]; exact C.kp) (by rw [hK]; exact C.b) .nil pass0 ha hdb he hpl) (call_reads fun _ _ _ h => h)
theorem le_callG {mg : Str → Option Value} {base : Heap} (C : CalW Γ mg base k x f fd ps p) (hP : X.prog = Γ.P) (hw : X.w = Γ.w) (hK : X.K = Γ.K) (hmg : X.mg = mg) (hbs : X.base = base) (hgd : X.A.guards = some []) (hr : Room k X.A) (hg : Gl X x) (ha : LA ⟨Γ, fe⟩ H0 O X (e :: es) pa)
    (hdb : (x == ("__debug__" : Str)) = false := by decide) (he : starEach (e :: es) X.env = (false, eval e X.env) :: starEach es X.env := by rfl) (hpl : (backTo pos (starEach es X.env)).any (·.1) = false := by rfl) :
    LE ⟨Γ, fe⟩ H0 O X (.Call (.Name x pp) (e :: es) [] pos) fun env => (pa env).bind p :=
  wkE (pe_callG (E := fun _ _ _ => True) (by rw [hP, hw, hK, hmg, hbs]; exact C.ok) hgd hr hg (by rw [hmg]; exact C.g) (by rw [hK]; exact C.kp) (by rw [hK]; exact C.b) .nil pass0 ha hdb he hpl) (call_reads fun _ _ _ h => h)
end
end LP
namespace LP
open PySem PySem.Spec PyProof.Rows L2 PK
theorem OpR.or {X : Cx} {f : Value → Value → Sem Value} {r r' : R2} (h : OpR X f r) (h' : OpR X f r') : OpR X f fun x y H Q => r x y H Q ∨ r' x y H Q := by
  intro pins s σ H x y v u Q I rx ry q
  rcases q with q | q
  · exact h pins s σ H x y v u Q I rx ry q
  · exact h' pins s σ H x y v u Q I rx ry q
theorem CallR.or {X : Cx} {f : Value} {r r' : List V → Hp → VK → Prop} (h : CallR X f r) (h' : CallR X f r') : CallR X f fun xs H Q => r xs H Q ∨ r' xs H Q := by
  intro pins s σ H xs us Q I rx q
  rcases q with q | q
  · exact h pins s σ H xs us Q I rx q
  · exact h' pins s σ H xs us Q I rx q
/-! ### texts that can be -/
theorem strOk_mem {y : Str} : PyData.strOk y = true ↔ ∀ c ∈ y.cps.toList, c < 1114112 := by
  unfold PyData.strOk
  rw [Array.all_eq_true_iff_forall_mem]
  constructor
  · intro h c hc
    exact of_decide_eq_true (h c (by simpa using hc))
  · intro h c hc
    exact decide_eq_true (h c (by simpa using hc))
theorem strOk_app {x y : Str} (hx : PyData.strOk x = true) (hy : PyData.strOk y = true) : PyData.strOk (x ++ y) = true := by
  rw [strOk_mem] at hx hy ⊢
  intro c hc
  have hc : c ∈ x.cps.toList ++ y.cps.toList := by
    have : (x ++ y).cps = x.cps ++ y.cps := rfl
    rw [this] at hc
    simpa using hc
  exact (List.mem_append.mp hc).elim (hx c) (hy c)
theorem strOk_sub {x : Str} {l : List Nat} (hx : PyData.strOk x = true) (h : ∀ c ∈ l, c ∈ x.cps.toList) : PyData.strOk ⟨l.toArray⟩ = true := by
  rw [strOk_mem] at hx ⊢
  intro c hc
  exact hx c (h c (by simpa using hc))
theorem strOk_one {x : Str} {c : Nat} (hx : PyData.strOk x = true) (h : c ∈ x.cps.toList) : PyData.strOk ⟨#[c]⟩ = true := strOk_sub (l := [c]) hx fun d hd => by rw [List.mem_singleton.mp hd]; exact h
section
variable {Ξ : Ctx} {M : List Addr} {H : Hp} {v : V}
theorem Bp.intE {i : Int} (h : Bp Ξ M H v (.int i)) : v = .int i := by
  cases h with
  | rp h => cases h; rfl
theorem Bp.strE {y : Str} (h : Bp Ξ M H v (.str y)) : v = .str y ∧ PyData.strOk y = true := by
  cases h with
  | rp h => cases h; exact ⟨rfl, by assumption⟩
theorem Bp.blE {b : Bool} (h : Bp Ξ M H v (.bl b)) : v = .bl b := by
  cases h with
  | rp h => cases h; rfl
theorem Bp.nonE (h : Bp Ξ M H v .non) : v = .non := by
  cases h with
  | rp h => cases h; rfl
theorem Bp.dp {d : D} (hp : d.plain = true) (h : Bp Ξ M H v d) : Dp Ξ.K H v d.toP := h.full.dp hp
theorem Bp.lay {d : D} (hp : d.plain = true) (h : Bp Ξ M H v d) : d.toP.canLay0 = true := h.full.lay hp
end
/-! ### sums -/
def addW : D → D → W D
  | .int i, .int j => W.ret (.int (i + j))
  | .bl b, .int j => W.ret (.int (b2i b + j))
  | .str a, .str b => (W.want (a.length + b.length ≤ sizeLine)).bind fun _ => W.ret (.str (a ++ b))
  | .tup a, .tup b => (W.want (a.length + b.length ≤ sizeLine)).bind fun _ => W.ret (.tup (a ++ b))
  | .lst a, .lst b => (W.want (a.length + b.length ≤ sizeLine)).bind fun _ => W.ret (.lst (a ++ b))
  | _, _ => W.fail
section
variable {Ξ : Ctx} {H : Hp} {M : List Addr} {d : D}
theorem at_int (i : Int) {Q : VK} (q : ∀ v H', Same H H' → Rp Ξ (ms M H') v (.int i) → Q v H') : Q (.int i) H := q _ H (Same.refl H) (.int i)
theorem at_bl (b : Bool) {Q : VK} (q : ∀ v H', Same H H' → Rp Ξ (ms M H') v (.bl b) → Q v H') : Q (.bl b) H := q _ H (Same.refl H) (.bl b)
theorem at_new {xs : List V} {ds : List D} {p : Addr} {Q : VK} (mu : Mu M H) (hx : RpAll Ξ (ms M H) xs ds) (np : H p = none) (q : ∀ v H', Same H H' → Rp Ξ (ms M H') v (.lst ds) → Q v H') : Q (.ref p) (upd H p (.lst xs)) := by
  have s : Same H (upd H p (.lst xs)) := same_new (Same.refl H) np
  have sm : Same (ms M H) (ms M (upd H p (.lst xs))) := fun b o e => by
    obtain ⟨h1, h2⟩ := ms_some e
    exact ms_at (s _ _ h1) h2
  exact q _ _ s (.lst (ms_at upd_same (mu.out np)) (hx.same sm))
theorem at_newT {xs : List V} {ds : List D} {p : Addr} {Q : VK} (mu : Mu M H) (hx : RpAll Ξ (ms M H) xs ds) (np : H p = none) (q : ∀ v H', Same H H' → Rp Ξ (ms M H') v (.tup ds) → Q v H') : Q (.ref p) (upd H p (.tup xs)) := by
  have s : Same H (upd H p (.tup xs)) := same_new (Same.refl H) np
  have sm : Same (ms M H) (ms M (upd H p (.tup xs))) := fun b o e => by
    obtain ⟨h1, h2⟩ := ms_some e
    exact ms_at (s _ _ h1) h2
  exact q _ _ s (.tup (SqT.of (ms_at upd_same (mu.out np))) (hx.same sm))
theorem same_ms {H H' : Hp} (s : Same H H') : Same (ms M H) (ms M H') := fun b o e => by
  obtain ⟨h1, h2⟩ := ms_some e
  exact ms_at (s _ _ h1) h2
theorem at_tup {xs : List V} {ds : List D} {c : Addr} {H' : Hp} {Q : VK} (mu : Mu M H) (s : Same H H') (hc : SqT Ξ.K H' c xs) (hx : RpAll Ξ (ms M H) xs ds) (q : ∀ v H', Same H H' → Rp Ξ (ms M H') v (.tup ds) → Q v H') : Q (.ref c) H' :=
  q _ _ s (.tup (sqT_mu hc (mu.same s)) (hx.same (same_ms s)))
end
section
variable {X : Cx} {Ξ : Ctx} {H0 : Hp} {O : List Nat} {a b e : Expr} {pos : Pos} {pa pb : Env → W D}
def rAdd (K : PySem.W.Frag) : R2 := fun x y H Q => (((∃ i j, asI x = some i ∧ y = .int j ∧ Q (.int (i + j)) H) ∨ (∃ i j, x = .str i ∧ y = .str j ∧ i.length + j.length ≤ sizeLine ∧ Q (.str (i ++ j)) H)) ∨ rCatB K x y H Q) ∨ rCat x y H Q
theorem add_ok : OpOk Ξ (rAdd Ξ.K) addW := by
  intro M H x y d1 d2 Q E mu hf h1 h2 q
  cases d1 <;> cases d2 <;> try exact q.elim
  · rw [h1.blE, h2.intE]
    exact .inl (.inl (.inl ⟨_, _, rfl, rfl, at_int _ q⟩))
  · rw [h1.intE, h2.intE]
    exact .inl (.inl (.inl ⟨_, _, rfl, rfl, at_int _ q⟩))
  · obtain ⟨rfl, o1⟩ := h1.strE
    obtain ⟨rfl, o2⟩ := h2.strE
    exact .inl (.inl (.inr ⟨_, _, rfl, rfl, q.1, q.2 _ H (Same.refl H) (.str _ (strOk_app o1 o2))⟩))
  · obtain ⟨b1, xs, rfl, t1, a1⟩ := h1.tupE
    obtain ⟨b2, ys, rfl, t2, a2⟩ := h2.tupE
    exact .inl (.inr ⟨b1, b2, xs, ys, rfl, rfl, t1, t2, by rw [a1.len, a2.len]; exact q.1, fun c H' s hc => at_tup mu s hc (a1.app a2) q.2⟩)
  · obtain ⟨b1, xs, rfl, t1, a1⟩ := h1.lstE
    obtain ⟨b2, ys, rfl, t2, a2⟩ := h2.lstE
    exact .inr ⟨b1, b2, xs, ys, rfl, rfl, t1, t2, by rw [a1.len, a2.len]; exact q.1, fun p np => at_new mu (a1.app a2) np q.2⟩
theorem le_add (hK : X.K = Ξ.K) (ha : LB Ξ H0 O X a pa) (hb : LB Ξ H0 O X b pb) : LE Ξ H0 O X (.BinOp a .Add b pos) fun env => (pa env).bind fun x => (pb env).bind fun y => addW x y :=
  le_op (((op_addW.or op_add_str).or (ko_catB Ξ.K hK)).or op_cat) add_ok ha hb
def subW : D → D → W D
  | .int i, .int j => W.ret (.int (i - j))
  | .bl b, .int j => W.ret (.int (b2i b - j))
  | _, _ => W.fail
theorem sub_ok : OpOk Ξ (fun x y H Q => ∃ i j, asI x = some i ∧ y = .int j ∧ Q (.int (i - j)) H) subW := by
  intro M H x y d1 d2 Q E mu hf h1 h2 q
  cases d1 <;> cases d2 <;> try exact q.elim
  · rw [h1.blE, h2.intE]
    exact ⟨_, _, rfl, rfl, at_int _ q⟩
  · rw [h1.intE, h2.intE]
    exact ⟨_, _, rfl, rfl, at_int _ q⟩
theorem le_sub (ha : LB Ξ H0 O X a pa) (hb : LB Ξ H0 O X b pb) : LE Ξ H0 O X (.BinOp a .Sub b pos) fun env => (pa env).bind fun x => (pb env).bind fun y => subW x y := le_op op_subW sub_ok ha hb
def mulW : D → D → W D
  | .int i, .int j => (W.want (CMul i j)).bind fun _ => W.ret (.int (i * j))
  | .tup a, .int k => (W.want (a ≠ [] ∧ 0 ≤ k ∧ k ≤ 1000 ∧ a.length ≤ 1000)).bind fun _ => W.ret (.tup (List.replicate k.toNat a).flatten)
  | .lst a, .int k => (W.want (0 ≤ k ∧ k ≤ 1000 ∧ a.length ≤ 1000)).bind fun _ => W.ret (.lst (List.replicate k.toNat a).flatten)
  | _, _ => W.fail
def intOp (C : Int → Int → Prop) (g : Int → Int → D) : D → D → W D
  | .int i, .int j => (W.want (C i j)).bind fun _ => W.ret (g i j)
  | _, _ => W.fail
theorem intOp_ok {C : Int → Int → Prop} {g : Int → Int → Int} : OpOk Ξ (rI C fun i j => .int (g i j)) (intOp C fun i j => .int (g i j)) := by
  intro M H x y d1 d2 Q E mu hf h1 h2 q
  cases d1 <;> cases d2 <;> try exact q.elim
  rw [h1.intE, h2.intE]
  exact ⟨_, _, rfl, rfl, q.1, at_int _ q.2⟩
def modW : D → D → W D := intOp (fun _ j => 0 < j) fun i j => .int (i % j)
def fdivW : D → D → W D := intOp CDiv fun i j => .int (i / j)
def powW : D → D → W D := intOp CPow fun i j => .int (i ^ j.toNat)
theorem le_mod (ha : LB Ξ H0 O X a pa) (hb : LB Ξ H0 O X b pb) : LE Ξ H0 O X (.BinOp a .Mod b pos) fun env => (pa env).bind fun x => (pb env).bind fun y => modW x y := le_op op_mod intOp_ok ha hb
theorem le_fdiv (ha : LB Ξ H0 O X a pa) (hb : LB Ξ H0 O X b pb) : LE Ξ H0 O X (.BinOp a .FloorDiv b pos) fun env => (pa env).bind fun x => (pb env).bind fun y => fdivW x y := le_op op_fdiv intOp_ok ha hb
theorem le_pow (ha : LB Ξ H0 O X a pa) (hb : LB Ξ H0 O X b pb) : LE Ξ H0 O X (.BinOp a .Pow b pos) fun env => (pa env).bind fun x => (pb env).bind fun y => powW x y := le_op op_pow intOp_ok ha hb
def negW : D → W D
  | .int i => W.ret (.int (-i))
  | _ => W.fail
theorem le_neg (ha : LE Ξ H0 O X a pa) : LE Ξ H0 O X (.UnaryOp .USub a pos) fun env => (pa env).bind negW :=
  wkE (pe_un un_neg ha) fun σ H Q ⟨S, A, G, env, E, hA, r, z⟩ => ⟨S, A, G, env, E, hA, r, (pa env).mono (fun d u v H' g r' hv => by
    cases d <;> try exact u.elim
    cases hv
    exact ⟨_, rfl, u _ H' g r' (.int _)⟩) (fun _ z => z) z⟩
/-! ### comparisons -/
def D.eqv (a b : D) : Bool := PyData.eqv a.toP b.toP
/-- data, not too deep -/
def D.sh (d : D) : Prop := d.plain = true ∧ d.toP.depth ≤ 64
def eqW : D → D → W D
  | .txt s, .txt t => W.ret (.bl (decide (s = t)))
  | a, b => (W.want (D.sh a ∧ D.sh b)).bind fun _ => W.ret (.bl (D.eqv a b))
def neW : D → D → W D
  | .txt s, .txt t => W.ret (.bl (!decide (s = t)))
  | a, b => (W.want (D.sh a ∧ D.sh b)).bind fun _ => W.ret (.bl (!D.eqv a b))
theorem Bp.txtE {M : List Addr} {H : Hp} {v : V} {s : Str} (h : Bp Ξ M H v (.txt s)) : v = .str s := by
  cases h with
  | rp h => cases h; rfl
theorem str_dec (s t : Str) : decide (V.str s = V.str t) = decide (s = t) := decide_eq_decide.mpr ⟨fun h => V.str.inj h, fun h => congrArg _ h⟩
theorem eqW_cases {a b : D} {Q : D → Prop} {E : Ex → Prop} (h : (eqW a b).wp Q E) : (∃ s t, a = .txt s ∧ b = .txt t ∧ Q (.bl (decide (s = t)))) ∨ (D.sh a ∧ D.sh b) ∧ Q (.bl (D.eqv a b)) := by
  unfold eqW at h
  split at h
  · exact .inl ⟨_, _, rfl, rfl, h⟩
  · exact .inr h
theorem neW_cases {a b : D} {Q : D → Prop} {E : Ex → Prop} (h : (neW a b).wp Q E) : (∃ s t, a = .txt s ∧ b = .txt t ∧ Q (.bl (!decide (s = t)))) ∨ (D.sh a ∧ D.sh b) ∧ Q (.bl (!D.eqv a b)) := by
  unfold neW at h
  split at h
  · exact .inl ⟨_, _, rfl, rfl, h⟩
  · exact .inr h
theorem Bp.shaped {M : List Addr} {H : Hp} {v : V} {d : D} (h : Bp Ξ M H v d) (s : D.sh d) : SeqAt.shaped d.toP = true := by
  unfold SeqAt.shaped
  rw [h.lay s.1, decide_eq_true s.2]
  rfl
theorem eq_ok : OpOk Ξ (fun x y H Q => rEq x y H Q ∨ rEqD Ξ.K x y H Q) eqW := by
  intro M H x y d1 d2 Q E mu hf h1 h2 q
  rcases eqW_cases q with ⟨s, t, rfl, rfl, q⟩ | ⟨⟨s1, s2⟩, q⟩
  · rw [h1.txtE, h2.txtE]
    exact .inl ⟨rfl, by rw [str_dec]; exact at_bl _ q⟩
  · exact .inr ⟨_, _, h1.dp s1.1, h2.dp s2.1, h1.shaped s1, h2.shaped s2, at_bl _ q⟩
theorem ne_ok : OpOk Ξ (fun x y H Q => rNe x y H Q ∨ rNeD Ξ.K x y H Q) neW := by
  intro M H x y d1 d2 Q E mu hf h1 h2 q
  rcases neW_cases q with ⟨s, t, rfl, rfl, q⟩ | ⟨⟨s1, s2⟩, q⟩
  · rw [h1.txtE, h2.txtE]
    exact .inl ⟨rfl, by rw [str_dec]; exact at_bl _ q⟩
  · exact .inr ⟨_, _, h1.dp s1.1, h2.dp s2.1, h1.shaped s1, h2.shaped s2, at_bl _ q⟩
theorem le_eq {k : Nat} (hr : Room k X.A) (hK : X.K = Ξ.K) (ha : LB Ξ H0 O X a pa) (hb : LB Ξ H0 O X b pb) : LE Ξ H0 O X (.Compare a [.Eq] [b] pos) fun env => (pa env).bind fun x => (pb env).bind fun y => eqW x y := le_cmp (op_eq.or (ko_eqD Ξ.K hr hK)) eq_ok (nomark _) ha hb
theorem le_ne {k : Nat} (hr : Room k X.A) (hK : X.K = Ξ.K) (ha : LB Ξ H0 O X a pa) (hb : LB Ξ H0 O X b pb) : LE Ξ H0 O X (.Compare a [.NotEq] [b] pos) fun env => (pa env).bind fun x => (pb env).bind fun y => neW x y := le_cmp (op_ne.or (ko_neD Ξ.K hr hK)) ne_ok (nomark _) ha hb
/-- an order of numbers and of texts -/
def ordW (g : Int → Int → Bool) (h : Str → Str → Bool) : D → D → W D
  | .int i, .int j => W.ret (.bl (g i j))
  | .str a, .str b => W.ret (.bl (h a b))
  | _, _ => W.fail
theorem ord_ok {g : Int → Int → Bool} {h : Str → Str → Bool} : OpOk Ξ (fun x y H Q => rI0 (fun i j => .bl (g i j)) x y H Q ∨ ∃ i j, x = .str i ∧ y = .str j ∧ Q (.bl (h i j)) H) (ordW g h) := by
  intro M H x y d1 d2 Q E mu hf h1 h2 q
  cases d1 <;> cases d2 <;> try exact q.elim
  · rw [h1.intE, h2.intE]
    exact .inl ⟨_, _, rfl, rfl, at_bl _ q⟩
  · rw [h1.strE.1, h2.strE.1]
    exact .inr ⟨_, _, rfl, rfl, at_bl _ q⟩
def slt (a b : Str) : Bool := decide (a.cps.toList < b.cps.toList)
def ltW : D → D → W D := ordW (fun i j => decide (i < j)) fun a b => slt a b
def leW : D → D → W D := ordW (fun i j => decide (i ≤ j)) fun a b => !slt b a
def gtW : D → D → W D := ordW (fun i j => decide (j < i)) fun a b => slt b a
def geW : D → D → W D := ordW (fun i j => decide (j ≤ i)) fun a b => !slt a b
def isNone : D → Bool
  | .non => true
  | _ => false
def isW (a b : D) : W D := match b with
  | .non => W.ret (.bl (isNone a))
  | _ => W.fail
def isntW (a b : D) : W D := match b with
  | .non => W.ret (.bl (!isNone a))
  | _ => W.fail
end
end LP
/-! Heaps by their counts: together, less, what lacks. -/
namespace PK
open PySem PySem.Spec PyProof.Rows L2
/-- rows of a heap: rising, each part once -/
structure Up (n : Nat) (L : List PRow) : Prop where
  ok : ∃ b : Int, RowsOk n b L
  up : Rises (L.map fun r => pkD (pk r))
theorem Up.mono {n m : Nat} {L : List PRow} (h : Up n L) (hm : n ≤ m) : Up m L := by
  obtain ⟨b, ok⟩ := h.ok
  exact ⟨⟨b, ok.mono hm (Int.le_refl _)⟩, h.up⟩
theorem Up.len {n : Nat} {L : List PRow} (h : Up n L) : L.length ≤ n := by
  obtain ⟨b, ok⟩ := h.ok
  exact ok.len
theorem Up.two {n : Nat} {L M : List PRow} (h : Up n L) (g : Up n M) : ∃ b : Int, RowsOk n b L ∧ RowsOk n b M := by
  obtain ⟨b, ok⟩ := h.ok
  obtain ⟨c, oc⟩ := g.ok
  refine ⟨max b c, ok.mono (Nat.le_refl _) (Int.le_max_left _ _), oc.mono (Nat.le_refl _) (Int.le_max_right _ _)⟩
theorem Up.nodup {n : Nat} {L : List PRow} (h : Up n L) : (L.map pk).Nodup := by
  have z := h.up
  unfold Rises at z
  rw [List.pairwise_map] at z
  unfold List.Nodup
  rw [List.pairwise_map]
  refine z.imp fun {a b} y e => ?_
  rw [e, dlt_irr] at y
  cases y
/-- counts make the heap -/
theorem Up.ext {n m : Nat} {L M : List PRow} (h : Up n L) (g : Up m M) (e : ∀ k, cnt L k = cnt M k) : L = M := by
  obtain ⟨b, ok⟩ := h.ok
  obtain ⟨c, oc⟩ := g.ok
  rw [← sumR_id h.up, ← sumR_id g.up]
  exact sumR_eq ok oc e
theorem Up.sum {n : Nat} {b : Int} {L : List PRow} (h : RowsOk n b L) (hb : 0 ≤ b) : Up n (sumR L) := ⟨⟨_, sumR_ok hb h⟩, sumR_rises L⟩
theorem Up.nil : Up 0 [] := ⟨⟨0, Nat.le_refl _, fun _ h => (nomatch h)⟩, List.Pairwise.nil⟩
theorem Up.one {f s : Str} (hf : Word f) (hs : Word s) : Up 1 [(f, s, 1)] := by
  refine ⟨⟨1, Nat.le_refl _, fun r hr => ?_⟩, List.pairwise_singleton _ _⟩
  rw [List.mem_singleton.mp hr]
  exact ⟨hf, hs, Int.le_refl _, Int.le_refl _⟩
theorem Up.app {n m : Nat} {L M : List PRow} (h : Up n L) (g : Up m M) : ∃ b : Int, 0 ≤ b ∧ RowsOk (n + m) b (L ++ M) := by
  obtain ⟨b, ok⟩ := h.ok
  obtain ⟨c, oc⟩ := g.ok
  refine ⟨max 0 (max b c), Int.le_max_left _ _, ?_, fun r hr => ?_⟩
  · rw [List.length_append]
    have := ok.len
    have := oc.len
    omega
  · rcases List.mem_append.mp hr with z | z
    · exact (ok.each r z).mono (by omega)
    · exact (oc.each r z).mono (by omega)
theorem Up.above {n m : Nat} {L M : List PRow} (h : Up n L) (g : Up m M) : Up n (aboveR L M) := by
  obtain ⟨b, ok⟩ := h.ok
  obtain ⟨c, oc⟩ := g.ok
  exact ⟨⟨b, aboveR_ok ok oc⟩, rises_above h.up⟩
/-! ### what lacks -/
end PK
namespace PK
open PySem PySem.Spec PyProof.Rows L2
end PK
/-! Short readings of heaps' methods. -/
namespace PK
open PySem PySem.Spec PyProof.Rows L2
section
variable {K : PySem.W.Frag} {C p q : Addr} {H : Hp} {L M : List PRow}
end
end PK
namespace LP
open PySem PySem.Spec PyProof.Rows L2 PK
def optW {α : Type} : Option α → W α
  | some x => W.ret x
  | none => W.fail
theorem optW_wp {α : Type} {o : Option α} {Q : α → Prop} {E : Ex → Prop} (h : (optW o).wp Q E) : ∃ x, o = some x ∧ Q x := by
  cases o with
  | none => exact h.elim
  | some x => exact ⟨x, rfl, h⟩
section
variable {X : Cx} {Ξ : Ctx} {H0 : Hp} {O : List Nat} {a b c e : Expr} {es : List Expr} {pos : Pos} {pa pb pc : Env → W D} {ps : Env → W (List D)}
/-! ### is None -/
/-! ### a < b < c -/
/-! ### x in xs -/
/-! ### xs[i] -/
def ixW : D → D → W D
  | .lst l, .int i => optW (atI l i)
  | .tup l, .int i => optW (atI l i)
  | .str z, .int i => (W.want (z.length ≤ sizeLine)).bind fun _ => (optW (atI z.cps.toList i)).bind fun c => W.ret (.str ⟨#[c]⟩)
  | _, _ => W.fail
theorem RpAll.atI {H : Hp} {xs : List V} {ds : List D} {i : Int} {d : D} (h : RpAll Ξ H xs ds) (e : atI ds i = some d) : ∃ v, atI xs i = some v ∧ Rp Ξ H v d := by
  unfold L2.atI at e ⊢
  rw [h.len]
  obtain ⟨j, h1, h2⟩ := Option.bind_eq_some_iff.mp e
  obtain ⟨v, h3, h4⟩ := h.get h2
  exact ⟨v, by rw [h1]; exact h3, h4⟩
theorem atI_mem {α : Type} {l : List α} {i : Int} {x : α} (h : atI l i = some x) : x ∈ l := by
  unfold L2.atI at h
  obtain ⟨j, _, h2⟩ := Option.bind_eq_some_iff.mp h
  exact List.mem_of_getElem? h2
theorem ix_ok : OpOk Ξ (rIx Ξ.K) ixW := by
  intro M H x y d1 d2 Q E mu hf h1 h2 q
  cases d1 <;> cases d2 <;> try exact q.elim
  · obtain ⟨rfl, o1⟩ := h1.strE
    rw [h2.intE]
    obtain ⟨l, q⟩ := q
    obtain ⟨c, hc, q⟩ := optW_wp q
    exact .inr (.inr ⟨_, _, c, rfl, rfl, l, hc, q _ H (Same.refl H) (.str _ (strOk_one o1 (atI_mem hc)))⟩)
  · obtain ⟨b1, xs, rfl, t1, a1⟩ := h1.tupE
    rw [h2.intE]
    obtain ⟨d, hd, q⟩ := optW_wp q
    obtain ⟨v, h3, h4⟩ := a1.atI hd
    exact .inr (.inl ⟨b1, xs, _, v, rfl, rfl, t1, h3, q _ H (Same.refl H) h4⟩)
  · obtain ⟨b1, xs, rfl, t1, a1⟩ := h1.lstE
    rw [h2.intE]
    obtain ⟨d, hd, q⟩ := optW_wp q
    obtain ⟨v, h3, h4⟩ := a1.atI hd
    exact .inl ⟨b1, xs, _, v, rfl, rfl, SqL.of t1, h3, q _ H (Same.refl H) h4⟩
theorem le_item (hK : X.K = Ξ.K) (hs : PlainIx b) (ha : LB Ξ H0 O X a pa) (hb : LB Ξ H0 O X b pb) : LE Ξ H0 O X (.Subscript a b pos) fun env => (pa env).bind fun x => (pb env).bind fun y => ixW x y :=
  le_ix (by rw [← hK]; exact ix_seq) ix_ok hs ha hb
/-! ### xs[a:b] -/
def cutD {α : Type} (xs : List α) (lo hi : Option Int) : List α := (xs.drop (HT.sIx xs.length 0 lo)).take (HT.sIx xs.length xs.length hi - HT.sIx xs.length 0 lo)
def slW (d : D) (lo hi : Option Int) : W D := match d with
  | .tup l => W.ret (.tup (cutD l lo hi))
  | .lst l => W.ret (.lst (cutD l lo hi))
  | .str z => (W.want (z.length ≤ sizeLine)).bind fun _ => W.ret (.str (cutS z lo hi))
  | _ => W.fail
theorem RpAll.cut {H : Hp} {xs : List V} {ds : List D} (h : RpAll Ξ H xs ds) (lo hi : Option Int) : RpAll Ξ H (cutV xs lo hi) (cutD ds lo hi) := by
  unfold cutV cutD
  rw [h.len]
  exact (h.drop _).take _
def SlOk (Ξ : Ctx) (r : V → Option Int → Option Int → Hp → VK → Prop) (f : D → Option Int → Option Int → W D) : Prop := ∀ (M : List Addr) (H : Hp) (x : V) (d : D) (lo hi : Option Int) (Q : VK) (E : Ex → Prop), Mu M H →
  Bp Ξ M H x d → (f d lo hi).wp (fun d => ∀ v H', Same H H' → Rp Ξ (ms M H') v d → Q v H') E → r x lo hi H Q
theorem sl_ok : SlOk Ξ (fun x lo hi H Q => (rSlB Ξ.K x lo hi H Q ∨ rSlL Ξ.K x lo hi H Q) ∨ rSlS x lo hi H Q) slW := by
  intro M H x d lo hi Q E mu h q
  cases d <;> try exact q.elim
  · obtain ⟨rfl, o1⟩ := h.strE
    refine .inr ⟨_, rfl, q.1, q.2 _ H (Same.refl H) (.str _ (strOk_sub o1 fun c hc => List.mem_of_mem_drop (List.mem_of_mem_take hc)))⟩
  · obtain ⟨b1, xs, rfl, t1, a1⟩ := h.tupE
    exact .inl (.inl ⟨b1, xs, rfl, t1, fun c H' s hc => at_tup mu s hc (a1.cut lo hi) q⟩)
  · obtain ⟨b1, xs, rfl, t1, a1⟩ := h.lstE
    exact .inl (.inr ⟨b1, xs, rfl, SqL.of t1, fun p np => at_new mu (a1.cut lo hi) np q⟩)
def liO (Ξ : Ctx) (H0 : Hp) (O : List Nat) (p : Env → W (Option Int)) : TO := fun σ H Q => ∃ S A G env E, A.map (·.1) = O ∧ Rel Ξ H0 S A G σ H env ∧
  (p env).wp (fun o => ∀ H', Gr Ξ H H' → Rel Ξ H0 S A G σ H' env → Q o H') E
theorem wkO {o : Option Expr} {t t' : TO} (h : PO X o t) (w : ∀ σ H Q, t' σ H Q → t σ H Q) : PO X o t' := ⟨fun pins s σ H Q I q => h.run pins s σ H Q I (w σ H Q q)⟩
def partW : D → W (Option Int)
  | .int i => W.ret (some i)
  | _ => W.fail
abbrev LO (Ξ : Ctx) (H0 : Hp) (O : List Nat) (X : Cx) (o : Option Expr) (p : Env → W (Option Int)) : Prop := PO X o (liO Ξ H0 O p)
theorem lo_none : LO Ξ H0 O X none fun _ => W.ret none := wkO po_none fun σ H Q ⟨S, A, G, env, E, hA, r, q⟩ => q H (Gr.refl H) r
theorem lo_some (h : LE Ξ H0 O X e pa) : LO Ξ H0 O X (some e) fun env => (pa env).bind partW := wkO (po_some h) fun σ H Q ⟨S, A, G, env, E, hA, r, q⟩ =>
  ⟨S, A, G, env, E, hA, r, (pa env).mono (fun d k v H' g r' hv => by
    cases d <;> try exact k.elim
    cases hv
    exact ⟨_, rfl, k H' g r'⟩) (fun _ z => z) q⟩
theorem le_slice {lo hi : Option Expr} {pl ph : Env → W (Option Int)} {p2 : Pos} (hK : X.K = Ξ.K) (h : LB Ξ H0 O X e pa) (hl : LO Ξ H0 O X lo pl) (hh : LO Ξ H0 O X hi ph) :
    LE Ξ H0 O X (.Subscript e (.Slice lo hi none p2) pos) fun env => (pa env).bind fun d => (pl env).bind fun l => (ph env).bind fun u => slW d l u := by
  refine wkE (pe_slice (((ks_tupB Ξ.K hK).or (ks_list Ξ.K hK)).or sl_str) h hl hh) fun σ H Q ⟨S, A, G, env, E, hA, r, q⟩ => ?_
  refine ⟨S, A, G, env, E, hA, r, (pa env).mono (fun d k x H1 g1 r1 b1 => ?_) (fun _ z => z) q⟩
  refine ⟨S, A, G, env, E, hA, r1, (pl env).mono (fun l k H2 g2 r2 => ?_) (fun _ z => z) k⟩
  refine ⟨S, A, G, env, E, hA, r2, (ph env).mono (fun u k H3 g3 r3 => ?_) (fun _ z => z) k⟩
  refine sl_ok _ H3 x d l u Q E r3.muA (b1.gr (g2.trans g3) r1.ffM) ((slW d l u).mono (fun d k v H4 s4 rv => ?_) (fun _ z => z) k)
  exact k v H4 (((g1.trans g2).trans g3).trans (Gr.of s4)) (r3.same s4) rv
def revTW : D → W D
  | .tup l => W.ret (.tup l.reverse)
  | _ => W.fail
def revLW : D → W D
  | .lst l => W.ret (.lst l.reverse)
  | _ => W.fail
theorem le_revT {k : Nat} {p1 p2 p3 pos : Pos} (hK : X.K = Ξ.K) (h : LB Ξ H0 O X e pa) : LE Ξ H0 O X (.Subscript e (.Slice none none (some (.UnaryOp .USub (.Constant (.int 1) k p1) p2)) p3) pos) fun env => (pa env).bind revTW :=
  wkE (pek_revT Ξ.K h hK) fun σ H Q ⟨S, A, G, env, E, hA, r, q⟩ => ⟨S, A, G, env, E, hA, r, (pa env).mono (fun d k v H' g r' hv => by
    cases d <;> try exact k.elim
    obtain ⟨b1, xs, rfl, t1, a1⟩ := hv.tupE
    exact ⟨b1, xs, rfl, t1, fun p np => at_newT r'.muA a1.rev np fun v H2 s hv => k v H2 (g.trans (Gr.of s)) (r'.same s) hv⟩) (fun _ z => z) q⟩
/-! ### built-in calls -/
theorem le_callB {id : String} {x : Str} {r : List V → Hp → VK → Prop} {f : List D → W D} {p pos : Pos} (hc : CallR X (.builtin id) r) (hf : CallOk Ξ r f) (hg : Gl X x) (hm : X.mg x = none) (hv : bootBuiltins x = some (.builtin id)) (ha : LAB Ξ H0 O X (e :: es) ps) (hn : x ≠ "__name__" := by decide) (hdb : (x == ("__debug__" : Str)) = false := by decide)
    (he : starEach (e :: es) X.env = (false, eval e X.env) :: starEach es X.env := by rfl) (hpl : (backTo pos (starEach es X.env)).any (·.1) = false := by rfl) :
    LE Ξ H0 O X (.Call (.Name x p) (e :: es) [] pos) fun env => (ps env).bind f := wkE (pe_callB hc hg hm hv ha hn hdb he hpl) (le_args hf)
theorem le_callTy {T : String} {x : Str} {r : List V → Hp → VK → Prop} {f : List D → W D} {p pos : Pos} (hc : CallR X (.type T) r) (hf : CallOk Ξ r f) (hg : Gl X x) (hm : X.mg x = none) (hv : bootBuiltins x = some (.type T)) (ha : LAB Ξ H0 O X (e :: es) ps) (hn : x ≠ "__name__" := by decide) (hdb : (x == ("__debug__" : Str)) = false := by decide)
    (he : starEach (e :: es) X.env = (false, eval e X.env) :: starEach es X.env := by rfl) (hpl : (backTo pos (starEach es X.env)).any (·.1) = false := by rfl) :
    LE Ξ H0 O X (.Call (.Name x p) (e :: es) [] pos) fun env => (ps env).bind f := wkE (pe_callTy hc hg hm hv ha hn hdb he hpl) (le_args hf)
def lenW : List D → W D
  | [.lst l] => W.ret (.int l.length)
  | [.tup l] => W.ret (.int l.length)
  | [.str s] => (W.want (s.length ≤ sizeLine)).bind fun _ => W.ret (.int s.length)
  | _ => W.fail
theorem len_ok : CallOk Ξ (fun xs H Q => rLenOf Ξ.K xs H Q ∨ ∃ z, xs = [.str z] ∧ z.length ≤ sizeLine ∧ Q (.int z.length) H) lenW := by
  intro M H xs ds Q E mu hf h q
  match ds, h, q with
  | [.lst l], .cons h .nil, q =>
    obtain ⟨b, ys, rfl, t, a⟩ := h.lstE
    exact .inl ⟨b, ys, rfl, .inl (SqL.of t), by rw [a.len]; exact at_int _ q⟩
  | [.tup l], .cons h .nil, q =>
    obtain ⟨b, ys, rfl, t, a⟩ := h.tupE
    exact .inl ⟨b, ys, rfl, .inr t, by rw [a.len]; exact at_int _ q⟩
  | [.str s], .cons h .nil, q =>
    obtain ⟨rfl, _⟩ := h.strE
    exact .inr ⟨s, rfl, q.1, at_int _ q.2⟩
theorem le_len {p pos : Pos} (hK : X.K = Ξ.K) (hg : Gl X "len") (hm : X.mg "len" = none) (ha : LAB Ξ H0 O X [e] ps) (he : starEach [e] X.env = [(false, eval e X.env)] := by rfl) : LE Ξ H0 O X (.Call (.Name "len" p) [e] [] pos) fun env => (ps env).bind lenW :=
  le_callB ((k_len Ξ.K hK).or call_len_str) len_ok hg hm PySem.boot_len ha (by decide) (by decide) he rfl
def tupleW : List D → W D
  | [.lst l] => W.ret (.tup l)
  | [.tup l] => W.ret (.tup l)
  | _ => W.fail
theorem tuple_ok : CallOk Ξ (rTupOf Ξ.K) tupleW := by
  intro M H xs ds Q E mu hf h q
  match ds, h, q with
  | [.lst l], .cons h .nil, q =>
    obtain ⟨b, ys, rfl, t, a⟩ := h.lstE
    exact ⟨b, ys, rfl, .inl ⟨SqL.of t, fun p np => at_newT mu a np q⟩⟩
  | [.tup l], .cons h .nil, q =>
    obtain ⟨b, ys, rfl, t, a⟩ := h.tupE
    exact ⟨b, ys, rfl, .inr ⟨t, at_tup mu (Same.refl H) t a q⟩⟩
theorem le_tuple {p pos : Pos} (hK : X.K = Ξ.K) (hg : Gl X "tuple") (hm : X.mg "tuple" = none) (ha : LAB Ξ H0 O X [e] ps) (he : starEach [e] X.env = [(false, eval e X.env)] := by rfl) : LE Ξ H0 O X (.Call (.Name "tuple" p) [e] [] pos) fun env => (ps env).bind tupleW :=
  le_callTy (k_tup Ξ.K hK) tuple_ok hg hm (by decide +kernel) ha (by decide) (by decide) he rfl
def listW : List D → W D
  | [.lst l] => W.ret (.lst l)
  | [.tup l] => W.ret (.lst l)
  | _ => W.fail
def isOf : List D → Option (List Int)
  | [] => some []
  | .int b :: l => (isOf l).map (b :: ·)
  | _ => none
theorem isOf_eq : ∀ {l : List D} {bs : List Int}, isOf l = some bs → l = bs.map D.int
  | [], _, h => by cases h; rfl
  | .int b :: l, _, h => by
    obtain ⟨cs, h1, rfl⟩ := Option.map_eq_some_iff.mp h
    rw [isOf_eq h1]
    rfl
theorem isOf_map (bs : List Int) : isOf (bs.map D.int) = some bs := by
  induction bs with
  | nil => rfl
  | cons b bs ih => show (isOf (bs.map D.int)).map (b :: ·) = _; rw [ih]; rfl
def sumW : List D → W D
  | [.lst l] => (optW (isOf l)).bind fun ns => W.ret (.int ns.sum)
  | _ => W.fail
theorem sum_ok : CallOk Ξ (rSum Ξ.K) sumW := by
  intro M H xs ds Q E mu hf h q
  match ds, h, q with
  | [.lst l], .cons h .nil, q =>
    obtain ⟨bs, e, q⟩ := optW_wp q
    rw [isOf_eq e] at h
    obtain ⟨b, ys, rfl, t, a⟩ := h.lstE
    rw [a.of_ints] at t
    exact ⟨b, bs, rfl, SqL.of t, at_int _ q⟩
theorem le_sum {p pos : Pos} (hc : X.calm = true) (hK : X.K = Ξ.K) (hg : Gl X "sum") (hm : X.mg "sum" = none) (ha : LAB Ξ H0 O X [e] ps) (he : starEach [e] X.env = [(false, eval e X.env)] := by rfl) : LE Ξ H0 O X (.Call (.Name "sum" p) [e] [] pos) fun env => (ps env).bind sumW :=
  le_callB (k_sum Ξ.K hc hK) sum_ok hg hm (by decide +kernel) ha (by decide) (by decide) he rfl
/-! ### isinstance, of data -/
def tyOf : D → Option String
  | .non => some "NoneType"
  | .bl _ => some "bool"
  | .int _ => some "int"
  | .str _ => some "str"
  | .tup _ => some "tuple"
  | .lst _ => some "list"
  | _ => none
theorem Bp.ty {M : List Addr} {H : Hp} {v : V} {d : D} {t : String} (h : Bp Ξ M H v d) (e : tyOf d = some t) : TyX Ξ.K H v (.type t) := by
  cases d <;> cases e
  · rw [h.nonE]; exact .base .non
  · rw [h.blE]; exact .base (.bl _)
  · rw [h.intE]; exact .base (.int _)
  · rw [h.strE.1]; exact .base (.str _)
  · obtain ⟨b, xs, rfl, t, _⟩ := h.tupE
    rcases t with (h | ⟨o, h⟩) | ⟨o, its, n, hk, hc, _⟩
    · exact .base (.tup h)
    · exact .fTuple h
    · exact .kTuple hk hc
  · obtain ⟨b, xs, rfl, t, _⟩ := h.lstE
    exact .base (.lst t)
/-- isinstance(e, T) -/
def isiW (T : String) (d : D) : W D := match tyOf d with
  | some t => W.ret (.bl (t == T || (t == "bool" && T == "int")))
  | none => W.fail
end
end LP
namespace LP
open PySem PySem.Spec PyProof.Rows L2 PK RZ
section
variable {X : Cx} {Ξ : Ctx} {H0 : Hp} {O O' Ob : List Nat} {a b c e : Expr} {es : List Expr} {pos : Pos} {pa pb pc : Env → W D} {ps : Env → W (List D)}
/-! ### comprehensions -/
abbrev LTs (Ξ : Ctx) (H0 : Hp) (O : List Nat) (X : Cx) (ifs : List Expr) (p : Env → W Bool) : Prop := PTs X ifs (liT Ξ H0 O p)
theorem lts_nil : LTs Ξ H0 O X [] fun _ => W.ret true := ⟨fun pins s σ H Q I h => pts_nil.run pins s σ H Q I (by
  obtain ⟨S, A, G, env, E, hA, r, q⟩ := h
  exact q H (Gr.refl H) r)⟩
theorem lts_one {p : Env → W Bool} (h : LT Ξ H0 O X c p) : LTs Ξ H0 O X [c] p := pts_one h
def lcD (gW : D → Env → W Env) (tW : Env → W Bool) (eW : Env → W D) (vs : List Nat) (pi : Env → W (List D)) (env : Env) : W D :=
  (pi env).bind fun ds => (lcW gW tW eW (wipeE env vs) ds []).bind fun l => W.ret (.lst l)
section
variable {elt tg iter : Expr} {ifs : List Expr} {scope : Scope} {own : List (Str × Nat)} {pi : Env → W (List D)} {gW : D → Env → W Env} {tW : Env → W Bool} {eW : Env → W D}
theorem ln_lc (hc : X.calm = true) (hN : X.N.Nodup) (hi : LI Ξ H0 O X tg iter pi) (ok : BlkOk X.N X.env.scope scope own) (hvs : ∀ i ∈ own.map (·.2), i ∉ O)
    (hg : ∀ (s : Shared) (H : Hp) (C : Addr) (cl : List (Str × Addr)) (fp : List Addr), LG Ξ H0 O (own.map (·.2)) (X.blk s H scope (compEnvC scope cl C X.env) fp) tg gW)
    (ht : ∀ (s : Shared) (H : Hp) (C : Addr) (cl : List (Str × Addr)) (fp : List Addr), LTs Ξ H0 O (X.blk s H scope (compEnvC scope cl C X.env) fp) ifs tW)
    (he : ∀ (s : Shared) (H : Hp) (C : Addr) (cl : List (Str × Addr)) (fp : List Addr), LE Ξ H0 O (X.blk s H scope (compEnvC scope cl C X.env) fp) elt eW) (hs : ∀ x, foldedSetIterable iter X.env x = pure x := by intro _; rfl) :
    PE X (.ListComp elt [⟨tg, iter, ifs, 0⟩] scope pos) (liN Ξ H0 O (lcD gW tW eW (own.map (·.2)) pi)) :=
  wkE (pe_lc hc hN hi ok hg ht he hs) (lc_reads hvs (fun _ _ _ h => h) (fun _ _ _ _ h => h) (fun _ _ _ h => h) fun _ _ _ h => h)
/-- the same, frozen at once -/
theorem ls_lcF {i : Nat} {y : Str} {py spos : Pos} (hc : X.calm = true) (hN : X.N.Nodup) (hy : X.N[i]? = some y) (hyl : X.env.scope.names.lookup y = some .local)
    (hsw : swapsWith (.ListComp elt [⟨tg, iter, ifs, 0⟩] scope pos) (some (.Name y py)) spos.line X.env = pure true) (hi : LI Ξ H0 O X tg iter pi) (ok : BlkOk X.N X.env.scope scope own) (hvs : ∀ i ∈ own.map (·.2), i ∉ O)
    (hg : ∀ (s : Shared) (H : Hp) (C : Addr) (cl : List (Str × Addr)) (fp : List Addr), LG Ξ H0 O (own.map (·.2)) (X.blk s H scope (compEnvC scope cl C X.env) fp) tg gW)
    (ht : ∀ (s : Shared) (H : Hp) (C : Addr) (cl : List (Str × Addr)) (fp : List Addr), LTs Ξ H0 O (X.blk s H scope (compEnvC scope cl C X.env) fp) ifs tW)
    (he : ∀ (s : Shared) (H : Hp) (C : Addr) (cl : List (Str × Addr)) (fp : List Addr), LE Ξ H0 O (X.blk s H scope (compEnvC scope cl C X.env) fp) elt eW) (hO : O.filter (fun j => decide (j ∈ O')) = O' := by decide) (hi2 : i ∉ O' := by decide) (hs : ∀ x, foldedSetIterable iter X.env x = pure x := by intro _; rfl) :
    LS Ξ H0 O O' Ob X (.Assign [.Name y py] (.ListComp elt [⟨tg, iter, ifs, 0⟩] scope pos) spos) fun env => (lcD gW tW eW (own.map (·.2)) pi env).bind fun d => W.ret (.nx (env.set i (some d))) :=
  wkS (ps_setLc hc hN hy hyl hsw hi ok hg ht he hs) (asg_reads hO hi2 fun σ H Q h => lc_reads hvs (fun _ _ _ h => h) (fun _ _ _ _ h => h) (fun _ _ _ h => h) (fun _ _ _ h => h) σ H Q (by
    obtain ⟨S, A, G, env, E, hA, r, q⟩ := h
    refine ⟨S, A, G, env, E, hA, r, W.mono _ (fun d k l H' g f nl ho => ?_) (fun _ z => z) q⟩
    refine k (.ref l) H' g (r.grow g f) ?_
    have nM := r.muA.out nl
    generalize hq : H' l = o at ho
    cases ho with
    | lst ho => exact .lst (ms_at hq nM) (ho.same (ms_mono fun b hb => List.mem_cons_of_mem _ hb))))
end
/-! ### a new list, owned -/
theorem ln_lst (h : LA Ξ H0 O X es ps) : PE X (.List es pos) (liN Ξ H0 O fun env => (ps env).bind lstW) :=
  wkE (pe_lst h) fun σ H Q ⟨S, A, G, env, E, hA, r, z⟩ => ⟨S, A, G, env, E, hA, r, (ps env).mono (fun ds u vs H1 g1 r1 hv => ⟨by rw [hv.len]; exact u.1, fun p np => by
    have s : Same H1 (upd H1 p (.lst vs)) := same_new (Same.refl H1) np
    have nf := ff_out r1.fi np
    have n0 : H p = none := by
      cases q : H p with
      | none => rfl
      | some o =>
        have := g1 p o nf q
        rw [np] at this
        cases this
    refine u.2 p _ (g1.trans (Gr.of s)) (FI_same r1.fi s) n0 ?_
    rw [upd_same]
    refine .lst (hv.same fun b o e => ?_)
    obtain ⟨h1, h2⟩ := ms_some e
    exact ms_at (s _ _ h1) fun z => (List.mem_cons.mp z).elim (ne_of_none h1 np) h2⟩) (fun _ z => z) z⟩
/-! ### methods of an owned list -/
def putW (env : Env) (i : Nat) (f : List D → W (List D)) : W Fl := (getW env i).bind fun x => match x with
  | .lst l => (f l).bind fun l' => W.ret (.nx (env.set i (some (.lst l'))))
  | _ => W.fail
def appW (d : D) (l : List D) : W (List D) := (W.want (l.length < sizeLine)).bind fun _ => W.ret (l ++ [d])
theorem putW_wp {env : Env} {i : Nat} {f : List D → W (List D)} {Q : Fl → Prop} {E : Ex → Prop} (h : (putW env i f).wp Q E) : ∃ l, env[i]? = some (some (.lst l)) ∧ (f l).wp (fun l' => Q (.nx (env.set i (some (.lst l'))))) E := by
  obtain ⟨d, e, h⟩ := getW_wp h
  cases d <;> try exact h.elim
  exact ⟨_, e, h⟩
/-- what a change of an owned list asks -/
theorem ls_append {i : Nat} {x : Str} {pn pa' pc' : Pos} (hO : i ∈ O)
    (hm : PE X (.Call (.Attribute (.Name x pn) "append" pa') [e] [] pc') (tBM X.K "list" rAppend (tVar i) (tCons (liE Ξ H0 O pa) tNil)))
    (hs : swapsWith (.Call (.Attribute (.Name x pn) "append" pa') [e] [] pc') none pos.line X.env = pure false := by rfl) :
    LS Ξ H0 O O Ob X (.Expr (.Call (.Attribute (.Name x pn) "append" pa') [e] [] pc') pos) fun env => (pa env).bind fun d => putW env i (appW d) := by
  refine wkS (ps_expr hm hs) fun De σ H ⟨S, A, G, env, E, hA, r, q⟩ => ?_
  rw [← hA] at hO
  obtain ⟨⟨j, a⟩, ha, e1⟩ := List.mem_map.mp hO
  have e1 : j = i := e1
  subst e1
  obtain ⟨d0, h1, h2, h3⟩ := r.ow j a ha
  have key : ∃ us ds, H a = some (.lst us) ∧ d0 = .lst ds := by
    generalize hq : H a = o at h3
    cases h3 with
    | lst h => exact ⟨_, _, rfl, rfl⟩
  obtain ⟨us, ds, ea, rfl⟩ := key
  refine ⟨.ref a, h2, .inl ⟨rfl, us, SqL.of ea⟩, S, A, G, env, E, hA, r, (pa env).mono (fun d k v H1 g1 r1 hv1 => ?_) (fun _ z => z) q⟩
  obtain ⟨l, el, k⟩ := putW_wp k
  obtain ⟨d1, i1, i2, i3⟩ := r1.ow j a ha
  rw [el] at i1
  cases i1
  have ea1 : H1 a = some (.lst us) := g1 a _ (r.outA ha) ea
  rw [ea1] at i3
  cases i3 with
  | lst i3 => exact ⟨a, us, v, rfl, rfl, ea1, by rw [i3.len]; exact k.1, k.2 A σ _ hA (r1.put ha (.lst (i3.snoc hv1)))⟩
def extW (d : D) (l : List D) : W (List D) := match d with
  | .lst m => (W.want (l.length + m.length ≤ sizeLine)).bind fun _ => W.ret (l ++ m)
  | .tup m => (W.want (l.length + m.length ≤ sizeLine)).bind fun _ => W.ret (l ++ m)
  | _ => W.fail
theorem MtM.or {id : String} {r r' : V → List V → Hp → VK → Prop} (h : MtM X id r) (h' : MtM X id r') : MtM X id fun x vs H Q => r x vs H Q ∨ r' x vs H Q := by
  intro pins s σ H x vs v us Q I rx rv q
  rcases q with q | q
  · exact h pins s σ H x vs v us Q I rx rv q
  · exact h' pins s σ H x vs v us Q I rx rv q
/-! ### walks over texts, pairs -/
def walkSW : D → W (List D)
  | .str z => W.ret (z.cps.toList.map fun c => D.str ⟨#[c]⟩)
  | _ => W.fail
def zipD (l m : List D) : List D := (l.zip m).map fun p => D.tup [p.1, p.2]
def zipW : List D → W (List D)
  | [.lst l, .lst m] => W.ret (zipD l m)
  | [.tup l, .tup m] => W.ret (zipD l m)
  | _ => W.fail
/-! ### repr -/
end
end LP
namespace LP
open PySem PySem.Spec PyProof.Rows L2 PK RZ
/-! ### how great a thing is -/
/-- data: its numbers, its depth, how long it is when shown -/
structure Sz (m dp n : Nat) (d : D) : Prop where
  pl : d.plain = true
  mx : mx d.toP ≤ m
  dep : d.toP.depth ≤ dp
  wt : wt d.toP ≤ n
structure Szs (m dp n : Nat) (l : List D) : Prop where
  pl : D.plains l = true
  mx : mxs (D.toPs l) ≤ m
  dep : PyData.depthAll (D.toPs l) ≤ dp
  wt : wts (D.toPs l) ≤ n
section
variable {m dp n m' dp' n' : Nat} {d : D} {l k : List D}
theorem Sz.mono (h : Sz m dp n d) (h1 : m ≤ m') (h2 : dp ≤ dp') (h3 : n ≤ n') : Sz m' dp' n' d := ⟨h.pl, Nat.le_trans h.mx h1, Nat.le_trans h.dep h2, Nat.le_trans h.wt h3⟩
theorem Szs.mono (h : Szs m dp n l) (h1 : m ≤ m') (h2 : dp ≤ dp') (h3 : n ≤ n') : Szs m' dp' n' l := ⟨h.pl, Nat.le_trans h.mx h1, Nat.le_trans h.dep h2, Nat.le_trans h.wt h3⟩
theorem Szs.nil : Szs m dp n [] := ⟨rfl, Nat.zero_le _, Nat.zero_le _, Nat.zero_le _⟩
theorem Szs.cons (h1 : Sz m dp n d) (h2 : Szs m dp n' l) : Szs m dp (n + 2 + n') (d :: l) := by
  refine ⟨?_, ?_, ?_, ?_⟩
  · show (d.plain && D.plains l) = true
    rw [h1.pl, h2.pl]
    rfl
  · show max (PK.mx d.toP) (mxs (D.toPs l)) ≤ m
    exact Nat.max_le.mpr ⟨h1.mx, h2.mx⟩
  · show max d.toP.depth (PyData.depthAll (D.toPs l)) ≤ dp
    exact Nat.max_le.mpr ⟨h1.dep, h2.dep⟩
  · show PK.wt d.toP + 2 + wts (D.toPs l) ≤ _
    have := h1.wt
    have := h2.wt
    omega
theorem toPs_app : ∀ l k : List D, D.toPs (l ++ k) = D.toPs l ++ D.toPs k
  | [], _ => rfl
  | d :: l, k => by
    show d.toP :: D.toPs (l ++ k) = _
    rw [toPs_app l k]
    rfl
theorem plains_app : ∀ l k : List D, D.plains (l ++ k) = (D.plains l && D.plains k)
  | [], _ => rfl
  | d :: l, k => by
    show (d.plain && D.plains (l ++ k)) = (d.plain && D.plains l && D.plains k)
    rw [plains_app l k, Bool.and_assoc]
theorem mxs_app : ∀ a b : List PyData, mxs (a ++ b) = max (mxs a) (mxs b)
  | [], b => (Nat.zero_max _).symm
  | d :: a, b => by
    show max (PK.mx d) (mxs (a ++ b)) = max (max (PK.mx d) (mxs a)) (mxs b)
    rw [mxs_app a b, Nat.max_assoc]
theorem depths_app : ∀ a b : List PyData, PyData.depthAll (a ++ b) = max (PyData.depthAll a) (PyData.depthAll b)
  | [], b => (Nat.zero_max _).symm
  | d :: a, b => by
    show max d.depth (PyData.depthAll (a ++ b)) = max (max d.depth (PyData.depthAll a)) (PyData.depthAll b)
    rw [depths_app a b, Nat.max_assoc]
theorem Szs.app (h1 : Szs m dp n l) (h2 : Szs m dp n' k) : Szs m dp (n + n') (l ++ k) := by
  refine ⟨?_, ?_, ?_, ?_⟩
  · rw [plains_app, h1.pl, h2.pl]
    rfl
  · rw [toPs_app, mxs_app]
    exact Nat.max_le.mpr ⟨h1.mx, h2.mx⟩
  · rw [toPs_app, depths_app]
    exact Nat.max_le.mpr ⟨h1.dep, h2.dep⟩
  · rw [toPs_app, wts_app]
    exact Nat.add_le_add h1.wt h2.wt
theorem Szs.parts (h : Szs m dp n (l ++ k)) : Szs m dp n l ∧ Szs m dp n k := by
  have h1 := h.pl
  have h2 := h.mx
  have h3 := h.dep
  have h4 := h.wt
  rw [plains_app, Bool.and_eq_true] at h1
  rw [toPs_app, mxs_app, Nat.max_le] at h2
  rw [toPs_app, depths_app, Nat.max_le] at h3
  rw [toPs_app, wts_app] at h4
  exact ⟨⟨h1.1, h2.1, h3.1, by omega⟩, ⟨h1.2, h2.2, h3.2, by omega⟩⟩
theorem Szs.take (h : Szs m dp n l) (i : Nat) : Szs m dp n (l.take i) := by
  rw [← List.take_append_drop i l] at h
  exact h.parts.1
theorem Szs.drop (h : Szs m dp n l) (i : Nat) : Szs m dp n (l.drop i) := by
  rw [← List.take_append_drop i l] at h
  exact h.parts.2
theorem Szs.cut (h : Szs m dp n l) (lo hi : Option Int) : Szs m dp n (cutD l lo hi) := (h.drop _).take _
theorem Szs.head (h : Szs m dp n (d :: l)) : Sz m dp n d ∧ Szs m dp n l := by
  have h1 : (d.plain && D.plains l) = true := h.pl
  have h2 : max (PK.mx d.toP) (mxs (D.toPs l)) ≤ m := h.mx
  have h3 : max d.toP.depth (PyData.depthAll (D.toPs l)) ≤ dp := h.dep
  have h4 : PK.wt d.toP + 2 + wts (D.toPs l) ≤ n := h.wt
  rw [Bool.and_eq_true] at h1
  rw [Nat.max_le] at h2 h3
  exact ⟨⟨h1.1, h2.1, h3.1, by omega⟩, ⟨h1.2, h2.2, h3.2, by omega⟩⟩
theorem Szs.mem (h : Szs m dp n l) : ∀ d ∈ l, Sz m dp n d := by
  induction l with
  | nil => exact fun _ z => (nomatch z)
  | cons e l ih =>
    intro d hd
    rcases List.mem_cons.mp hd with rfl | hd
    · exact h.head.1
    · exact ih h.head.2 d hd
/-- each of them, so many -/
theorem Szs.each (h : ∀ d ∈ l, Sz m dp n d) : Szs m dp (l.length * (n + 2)) l := by
  induction l with
  | nil => exact Szs.nil
  | cons e l ih =>
    have := Szs.cons (h e List.mem_cons_self) (ih fun d hd => h d (List.mem_cons_of_mem _ hd))
    refine this.mono (Nat.le_refl _) (Nat.le_refl _) ?_
    rw [List.length_cons, Nat.succ_mul]
    omega
theorem Szs.rev (h : Szs m dp n l) : Szs m dp n l.reverse := by
  have key : ∀ l : List D, D.plains l.reverse = D.plains l ∧ mxs (D.toPs l.reverse) = mxs (D.toPs l) ∧ PyData.depthAll (D.toPs l.reverse) = PyData.depthAll (D.toPs l) ∧ wts (D.toPs l.reverse) = wts (D.toPs l) := by
    intro l
    induction l with
    | nil => exact ⟨rfl, rfl, rfl, rfl⟩
    | cons d l ih =>
      obtain ⟨i1, i2, i3, i4⟩ := ih
      rw [List.reverse_cons, plains_app, toPs_app, mxs_app, depths_app, wts_app, i1, i2, i3, i4]
      refine ⟨?_, ?_, ?_, ?_⟩
      · show (D.plains l && (d.plain && true)) = (d.plain && D.plains l)
        rw [Bool.and_true, Bool.and_comm]
      · show max _ (max (PK.mx d.toP) 0) = max (PK.mx d.toP) _
        rw [Nat.max_zero, Nat.max_comm]
      · show max _ (max d.toP.depth 0) = max d.toP.depth _
        rw [Nat.max_zero, Nat.max_comm]
      · show _ + (PK.wt d.toP + 2 + 0) = PK.wt d.toP + 2 + _
        omega
  obtain ⟨i1, i2, i3, i4⟩ := key l
  exact ⟨by rw [i1]; exact h.pl, by rw [i2]; exact h.mx, by rw [i3]; exact h.dep, by rw [i4]; exact h.wt⟩
theorem Sz.tup (h : Szs m dp n l) : Sz m (dp + 1) (n + 3) (.tup l) := by
  refine ⟨h.pl, h.mx, ?_, Nat.add_le_add_right h.wt 3⟩
  show (PyData.tuple (D.toPs l)).depth ≤ _
  rw [depth_tuple]
  exact Nat.succ_le_succ h.dep
theorem Sz.lst (h : Szs m dp n l) : Sz m (dp + 1) (n + 3) (.lst l) := by
  refine ⟨h.pl, h.mx, ?_, Nat.add_le_add_right h.wt 3⟩
  show (PyData.list (D.toPs l)).depth ≤ _
  rw [depth_list]
  exact Nat.succ_le_succ h.dep
theorem Sz.non (h : 4 ≤ n) : Sz m dp n .non := ⟨rfl, Nat.zero_le _, Nat.zero_le _, h⟩
theorem Sz.bl {b : Bool} (h : 5 ≤ n) : Sz m dp n (.bl b) := ⟨rfl, Nat.zero_le _, Nat.zero_le _, h⟩
theorem Sz.int {i : Int} (h : i.natAbs.log2 ≤ m) (h2 : i.natAbs.log2 + 2 ≤ n) : Sz m dp n (.int i) := ⟨rfl, h, Nat.zero_le _, h2⟩
theorem Sz.str {y : Str} (h : 10 * y.length + 2 ≤ n) : Sz m dp n (.str y) := ⟨rfl, Nat.zero_le _, Nat.zero_le _, h⟩
theorem Sz.sh (h : Sz m dp n d) (h2 : dp ≤ 64) : D.sh d := ⟨h.pl, Nat.le_trans h.dep h2⟩
theorem toPs_len : ∀ l : List D, (D.toPs l).length = l.length
  | [] => rfl
  | d :: l => congrArg (· + 1) (toPs_len l)
theorem Szs.len (h : Szs m dp n l) : 2 * l.length ≤ n := by
  have := wts_len (n := (n + 1) / 2) (ds := D.toPs l) (by have := h.wt; omega)
  have h2 : 2 * (D.toPs l).length ≤ wts (D.toPs l) := by
    generalize D.toPs l = ds
    induction ds with
    | nil => exact Nat.le_refl _
    | cons d ds ih =>
      show 2 * (ds.length + 1) ≤ PK.wt d + 2 + wts ds
      omega
  rw [toPs_len] at h2
  have := h.wt
  omega
end
/-! ### repr -/
theorem call_reprV {X : Cx} {k : Nat} (K : PySem.W.Frag) (hgd : X.A.guards = some []) (hr : Room k X.A) (hK : X.K = K) : CallR X (.builtin "repr")
    (fun xs H Q => ∃ v d, xs = [v] ∧ Dp K H v d ∧ Ok d ∧ d.depth ≤ 100 ∧ d.shown.length ≤ sizeLine ∧ Q (.str d.shown) H) := by
  subst hK
  intro pins s σ H xs us Q I r h
  obtain ⟨v, d, rfl, hd, ok, hdp, hz, q⟩ := h
  obtain ⟨u, rfl, rr⟩ := vals1 r
  have big : ∀ a : Addr, v = .ref a → wpAny (model X.prog X.w) X.A (call (.builtin "repr") [u]) (EP X pins σ Q) X.xe s := by
    rintro a rfl
    cases rr
    obtain ⟨as, rd⟩ := Dp.reads I d _ _ hd rfl
    have hu := hr.un
    refine repr_of_reads' rd ok.sh (fun e => by rw [ok.nd] at e; cases e) hgd (by omega) (fun _ _ e => e) (fun h' u tk hk => ?_) hz
    exact ⟨.str _, H, I.kept (t' := tk) hk, ⟨_, rfl⟩, q⟩
  cases hd with
  | non =>
    cases rr
    exact PySem.P.repr_of_none ⟨.str _, H, I.tok _, ⟨_, rfl⟩, q⟩
  | bl b =>
    cases rr
    refine PySem.P.repr_of_bool ⟨.str _, H, I.tok _, ⟨_, rfl⟩, ?_⟩
    cases b <;> exact q
  | int i =>
    obtain ⟨t, rfl⟩ := rr
    exact PySem.P.repr_of_int (of_decide_eq_true ok.sh) ⟨.str _, H, I.tok _, ⟨_, rfl⟩, q⟩
  | str y =>
    obtain ⟨t, rfl⟩ := rr
    exact PySem.P.repr_of_str ⟨.str _, H, I.tok _, ⟨_, rfl⟩, q⟩ hz
  | lst hs ha => exact big _ rfl
  | tup hs ha => exact big _ rfl
/-- what repr shows -/
def rp (d : D) : D := .txt d.toP.shown
def reprD : List D → W D
  | [d] => (W.want (Sz 1900 64 sizeLine d)).bind fun _ => W.ret (rp d)
  | _ => W.fail
section
variable {X : Cx} {Ξ : Ctx} {H0 : Hp} {O O' Ob : List Nat} {a b c e : Expr} {es : List Expr} {pos : Pos} {pa pb pc : Env → W D} {ps : Env → W (List D)}
theorem repr_ok : CallOk Ξ (fun xs H Q => ∃ v d, xs = [v] ∧ Dp Ξ.K H v d ∧ Ok d ∧ d.depth ≤ 100 ∧ d.shown.length ≤ sizeLine ∧ Q (.str d.shown) H) reprD := by
  intro M H xs ds Q E mu hf h q
  match ds, h, q with
  | [d], .cons h .nil, ⟨z, q⟩ =>
    have ok : Ok d.toP := ok_of (h.lay z.pl) z.mx (by decide)
    exact ⟨_, d.toP, rfl, h.dp z.pl, ok, Nat.le_trans z.dep (by decide), Nat.le_trans (shown_wt _ ok) z.wt, q _ H (Same.refl H) (.txt _)⟩
theorem le_repr {k : Nat} {p pos : Pos} (hgd : X.A.guards = some []) (hr : Room k X.A) (hK : X.K = Ξ.K) (hg : Gl X "repr") (hm : X.mg "repr" = none) (ha : LAB Ξ H0 O X [e] ps) (he : starEach [e] X.env = [(false, eval e X.env)] := by rfl) : LE Ξ H0 O X (.Call (.Name "repr" p) [e] [] pos) fun env => (ps env).bind reprD :=
  le_callB (call_reprV Ξ.K hgd hr hK) repr_ok hg hm (by decide +kernel) ha (by decide) (by decide) he rfl
/-! ### sorted, set -/
def sortD (l : List D) : List D := srt false D.toP l
def ssOf : List D → Option (List Str)
  | [] => some []
  | .str b :: l => (ssOf l).map (b :: ·)
  | _ => none
theorem ssOf_eq : ∀ {l : List D} {bs : List Str}, ssOf l = some bs → l = bs.map D.str
  | [], _, h => by cases h; rfl
  | .str b :: l, _, h => by
    obtain ⟨cs, h1, rfl⟩ := Option.map_eq_some_iff.mp h
    rw [ssOf_eq h1]
    rfl
theorem ssOf_map (bs : List Str) : ssOf (bs.map D.str) = some bs := by
  induction bs with
  | nil => rfl
  | cons b bs ih => show (ssOf (bs.map D.str)).map (b :: ·) = _; rw [ih]; rfl
def sortedW : List D → W D
  | [.lst l] => (W.want (D.plains l = true ∧ Cmpb (D.toPs l) ∧ l.length ≤ sizeLine)).bind fun _ => W.ret (.lst (sortD l))
  | [.set l] => (W.want (l.length ≤ 4090)).bind fun _ => W.ret (.lst ((sortS l).map D.str))
  | _ => W.fail
theorem merge_map {α β : Type} (f : α → β) (le : β → β → Bool) (l : List α) : (l.mergeSort fun a b => le (f a) (f b)).map f = (l.map f).mergeSort le := by
  exact List.map_mergeSort (fun _ _ _ _ => rfl)
/-! ### str, min, max -/
theorem strOk_int (i : Int) : PyData.strOk (toString i : String) = true := strOk_of _
def strW : List D → W D
  | [.int i] => (W.want (i.natAbs.log2 < 1920)).bind fun _ => W.ret (.str (toString i : String))
  | [.bl b] => W.ret (.str (if b then "True" else "False" : String))
  | _ => W.fail
theorem str_ok : CallOk Ξ (fun xs H Q => ∃ x i, xs = [x] ∧ asI x = some i ∧ i.natAbs.log2 < 1920 ∧ Q (.str (txI x)) H) strW := by
  intro M H xs ds Q E mu hf h q
  match ds, h, q with
  | [.int i], .cons h .nil, ⟨hl, q⟩ =>
    rw [h.intE]
    exact ⟨_, i, rfl, rfl, hl, q _ H (Same.refl H) (.str _ (strOk_int i))⟩
  | [.bl b], .cons h .nil, q =>
    rw [h.blE]
    refine ⟨_, _, rfl, rfl, by cases b <;> decide, ?_⟩
    cases b <;> exact q _ H (Same.refl H) (.str _ (by decide +kernel))
theorem le_strOf {p pos : Pos} (hg : Gl X "str") (hm : X.mg "str" = none) (ha : LAB Ξ H0 O X [e] ps) (he : starEach [e] X.env = [(false, eval e X.env)] := by rfl) : LE Ξ H0 O X (.Call (.Name "str" p) [e] [] pos) fun env => (ps env).bind strW :=
  le_callTy call_strW str_ok hg hm (by decide +kernel) ha (by decide) (by decide) he rfl
def min2W : List D → W D
  | [.int i, .int j] => W.ret (.int (min i j))
  | _ => W.fail
def max2W : List D → W D
  | [.int i, .int j] => W.ret (.int (max i j))
  | _ => W.fail
/-! ### join, upper -/
theorem strOk_joinL {a : Str} (ha : PyData.strOk a = true) : ∀ {ys : List Str}, (∀ y ∈ ys, PyData.strOk y = true) → PyData.strOk (Str.join a ys) = true
  | [], _ => (by decide +kernel : PyData.strOk Str.empty = true)
  | [y], h => h y List.mem_cons_self
  | y :: z :: ys, h => by
    have ih := strOk_joinL ha (ys := z :: ys) fun u hu => h u (List.mem_cons_of_mem _ hu)
    exact strOk_app (strOk_app (h y List.mem_cons_self) ha) ih
def asS : D → W Str
  | .str a => W.ret a
  | _ => W.fail
theorem asS_wp {d : D} {Q : Str → Prop} {E : Ex → Prop} (h : (asS d).wp Q E) : ∃ a, d = .str a ∧ Q a := by
  cases d with
  | str a => exact ⟨a, rfl, h⟩
  | _ => exact h.elim
def joinW (a : Str) : D → W D
  | .lst l => (optW (ssOf l)).bind fun ys => (W.want ((ys.map (·.length)).sum + ys.length * a.length ≤ 16777216)).bind fun _ => W.ret (.str (Str.join a ys))
  | .tup l => (optW (ssOf l)).bind fun ys => (W.want ((ys.map (·.length)).sum + ys.length * a.length ≤ 16777216)).bind fun _ => W.ret (.str (Str.join a ys))
  | _ => W.fail
theorem le_join {o : Expr} {apos pos : Pos} (hK : X.K = Ξ.K) (ho : LB Ξ H0 O X o pa) (he : LB Ξ H0 O X e pb) (hs : starEach [e] X.env = [(false, eval e X.env)] := by rfl) (hbase : attributeBase o "join" X.env (eval o X.env) = eval o X.env := by rfl) (hline : (apos.endLine == pos.line) = true := by rfl) :
    LE Ξ H0 O X (.Call (.Attribute o "join" apos) [e] [] pos) fun env => (pa env).bind fun x => (asS x).bind fun a => (pb env).bind fun y => joinW a y := by
  refine wkE (pe_join ho he hs hbase hline) fun σ H Q ⟨S, A, G, env, E, hA, r, q⟩ => ?_
  refine ⟨S, A, G, env, E, hA, r, (pa env).mono (fun d1 k x H1 g1 r1 b1 => ?_) (fun _ z => z) q⟩
  obtain ⟨a, rfl, k⟩ := asS_wp k
  obtain ⟨rfl, oa⟩ := b1.strE
  refine ⟨⟨a, rfl⟩, S, A, G, env, E, hA, r1, (pb env).mono (fun d2 k y H2 g2 r2 b2 => ?_) (fun _ z => z) k⟩
  rw [hK]
  cases d2 <;> try exact k.elim
  · obtain ⟨ys, e, hl, k⟩ := optW_wp k
    rw [ssOf_eq e] at b2
    obtain ⟨b, zs, rfl, t, ha⟩ := b2.tupE
    have ok := ha.strs_ok
    rw [ha.of_strs] at t
    exact ⟨a, b, ys, rfl, rfl, .inr t, hl, by rw [TL.join_eq]; exact k _ H2 (g1.trans g2) r2 (.str _ (strOk_joinL oa ok))⟩
  · obtain ⟨ys, e, hl, k⟩ := optW_wp k
    rw [ssOf_eq e] at b2
    obtain ⟨b, zs, rfl, t, ha⟩ := b2.lstE
    have ok := ha.strs_ok
    rw [ha.of_strs] at t
    exact ⟨a, b, ys, rfl, rfl, .inl (SqL.of t), hl, by rw [TL.join_eq]; exact k _ H2 (g1.trans g2) r2 (.str _ (strOk_joinL oa ok))⟩
end
/-! ### drawing -/
def drawW : List D → W D
  | [.tok 0, .int m] => (W.want (0 < m ∧ m ≤ 1000000)).bind fun _ => (W.any fun r : Int => 0 ≤ r ∧ r < m).bind fun r => W.ret (.int r)
  | _ => W.fail
def isFeedSig (P : Program) (w : World) (K : PySem.W.Frag) (cl : Nat → Option Addr) (fl : Nat → List Str) : Sig where
  P := P
  w := w
  K := K
  cl := cl
  fl := fl
  fk := IsFeed
  fks := fun H H' a c h e1 e2 => by
    obtain ⟨cs, i, l, n, f⟩ := h
    exact ⟨cs, i, l, n, e1.trans f.d, e2.trans f.l, f.i0⟩
  fkm := fun H a c h => by
    obtain ⟨cs, i, l, n, f⟩ := h
    exact ⟨⟨_, f.d, trivial⟩, ⟨_, f.l, trivial⟩⟩
theorem draw_by {P : Program} {w : World} {K : PySem.W.Frag} {cl : Nat → Option Addr} {fl : Nat → List Str} {mg : Str → Option Value} {base : Heap} {k : Nat} {f : Addr} {fd : FuncData} {ps : List Str} (F : FnOk P w K mg base CX0 k f fd ps spDraw) :
    FnOk P w K mg base CX0 k f fd ps (liF (isFeedSig P w K cl fl) drawW) := by
  have key : ∀ vs H Q E, liF (isFeedSig P w K cl fl) drawW vs H Q E → spDraw vs H Q E := by
    rintro vs H Q E ⟨fe, S, ds, EE, mu, hf, fi, hv, hE, q⟩
    match ds, hv, q with
    | [.tok 0, .int m], .cons h1 (.cons h2 .nil), ⟨⟨m0, m1⟩, q⟩ =>
      cases h1 with
      | tok h1 =>
        cases h2
        match fe, hf, fi, h1, q with
        | .some (a, c), hf, fi, h1, q =>
          have ev : V.ref a = _ := Option.some.inj h1
          subst ev
          refine ⟨a, c, m, rfl, fi, m0, m1, fun r H' r0 r1 x f' => q r ⟨r0, r1⟩ (.int r) H' (fun b o n e => x b o e fun z => n ?_) f' (.int r)⟩
          rw [z]
          exact List.mem_cons_self
  exact ⟨fun vs H Q E h => F.len vs H Q E (key vs H Q E h), fun A outer s H args us vs Q E hr e0 hb hv h => F.run A outer s H args us vs Q E hr e0 hb hv (key vs H Q E h)⟩
end LP
namespace LP
open PySem PySem.Spec PyProof.Rows L2 PK RZ
/-- a def's body, run: np parameters, nN names -/
def runB (np nN : Nat) (b : Env → W Fl) (ds : List D) : W D := (W.want (ds.length = np)).bind fun _ => endW (b (startE nN ds))
section
variable {Γ : Sig} {mg : Str → Option Value} {base : Heap}
theorem ok_run {x qual : Str} {st : Stmt} {f : Addr} {fd : FuncData} {N ps : List Str} {k np nN : Nat} {pb : Env → W Fl} (F : Fun Γ.K x qual st f fd) (Sc : FnScope N ps (defScope st)) (h1 : ps.length = np) (h2 : N.length = nN)
    (hbody : ∀ (fe : Fd) (cdv : Value) (A : Around) (outer : List PySem.Env) (s : Shared) (H : Hp) (E : XK), Room k (A.deeper (envOfC qual (defScope st) s.heap.objs.size f cdv)) →
      LSs ⟨Γ, fe⟩ H [] [] [] (cxOf CX0 Γ.P Γ.w Γ.K mg base N qual (defScope st) f cdv A outer s H E).nox (defBody st) pb) : FnOk Γ.P Γ.w Γ.K mg base CX0 (k + 1) f fd ps (liF Γ (runB np nN pb)) := by
  subst h1 h2
  exact ok_by F Sc hbody fun ds Q E h => h
theorem ok_runG {x qual : Str} {st : Stmt} {f : Addr} {fd : FuncData} {N ps : List Str} {k np nN : Nat} {pb : Env → W Fl} (F : Fun Γ.K x qual st f fd) (Sc : FnScope N ps (defScope st)) (h1 : ps.length = np) (h2 : N.length = nN)
    (hbody : ∀ (fe : Fd) (cdv : Value) (A : Around) (outer : List PySem.Env) (s : Shared) (H : Hp) (E : XK), A.guards = some [] → Room k (A.deeper (envOfC qual (defScope st) s.heap.objs.size f cdv)) →
      LSs ⟨Γ, fe⟩ H [] [] [] (cxOf CX0 Γ.P Γ.w Γ.K mg base N qual (defScope st) f cdv A outer s H E).nox (defBody st) pb) : FnG Γ.P Γ.w Γ.K mg base CX0 (k + 1) f fd ps (liF Γ (runB np nN pb)) := by
  subst h1 h2
  exact ok_byG F Sc hbody fun ds Q E h => h
end
section
variable {X : Cx} {Ξ : Ctx} {H0 : Hp} {O O1 O' Ob : List Nat} {st : Stmt} {a b : Expr} {pos : Pos} {p : Env → W Fl} {ps : Env → W (List D)}
theorem lss_last (h1 : LS Ξ H0 O O1 Ob X st p) (hs : O1.filter (fun i => decide (i ∈ O')) = O' := by decide) : LSs Ξ H0 O O' Ob X [st] p := by
  refine wkSs (pss_one h1) fun De σ H ⟨S, A, G, env, E, hA, r, k⟩ => ⟨S, A, G, env, E, hA, r, (p env).mono (fun f k => ?_) (fun _ z => z) k⟩
  cases f with
  | nx env' => exact fun A' σ' H' hA' r' => k _ σ' H' (keys_filter hA' hs) (r'.sub fun i => decide (i ∈ O'))
  | rt d => exact k
  | bk env' => exact k
  | ct env' => exact k
def par2 (i j : Nat) (env : Env) : List D → W Fl
  | [d, e] => W.ret (.nx ((env.set i (some d)).set j (some e)))
  | _ => W.fail
theorem ls_par {i j : Nat} {x y : Str} {px py pt : Pos} {kt k2 pt2} (hc : X.calm = true) (hN : X.N.Nodup) (hi : X.N[i]? = some x) (hj : X.N[j]? = some y) (hij : i ≠ j) (hx : X.env.scope.names.lookup x = some .local) (hy : X.env.scope.names.lookup y = some .local)
    (ha : LA Ξ H0 O X [a, b] ps) (hw : swappedStores [.Tuple [.Name x px, .Name y py] kt pt] (.Tuple [a, b] k2 pt2) X.env = pure (some [x, y])) (hiO : i ∉ O) (hjO : j ∉ O)
    (hs : swapsWithSole [.Tuple [.Name x px, .Name y py] kt pt] (.Tuple [a, b] k2 pt2) pos.line X.env = pure false := by rfl) :
    LS Ξ H0 O O Ob X (.Assign [.Tuple [.Name x px, .Name y py] kt pt] (.Tuple [a, b] k2 pt2) pos) fun env => (ps env).bind (par2 i j env) := by
  refine wkS (ps_par hc hN hi hj hij hx hy ha hw hs) fun De σ H ⟨S, A, G, env, E, hA, r, k⟩ => ⟨S, A, G, env, E, hA, r, (ps env).mono (fun ds k vs H1 g1 r1 hv => ?_) (fun _ z => z) k⟩
  match ds, hv, k with
  | [d, e], .cons h1 (.cons h2 .nil), k =>
    have n : ∀ {i : Nat}, i ∉ O → ∀ a, (i, a) ∉ A := fun h a ha => h (by rw [← hA]; exact List.mem_map.mpr ⟨_, ha, rfl⟩)
    exact ⟨_, _, rfl, k A _ H1 hA ((r1.set (n hiO) h1).set (n hjO) h2)⟩
variable {pa pb : Env → W D}
theorem lt_eq {k : Nat} (hr : Room k X.A) (hK : X.K = Ξ.K) (ha : LB Ξ H0 O X a pa) (hb : LB Ξ H0 O X b pb) : LT Ξ H0 O X (.Compare a [.Eq] [b] pos) fun env => ((pa env).bind fun x => (pb env).bind fun y => eqW x y).bind asB := lt_cmp (op_eq.or (ko_eqD Ξ.K hr hK)) eq_ok (nomark _) ha hb
theorem lt_ne {k : Nat} (hr : Room k X.A) (hK : X.K = Ξ.K) (ha : LB Ξ H0 O X a pa) (hb : LB Ξ H0 O X b pb) : LT Ξ H0 O X (.Compare a [.NotEq] [b] pos) fun env => ((pa env).bind fun x => (pb env).bind fun y => neW x y).bind asB := lt_cmp (op_ne.or (ko_neD Ξ.K hr hK)) ne_ok (nomark _) ha hb
theorem lt_lt (ha : LB Ξ H0 O X a pa) (hb : LB Ξ H0 O X b pb) : LT Ξ H0 O X (.Compare a [.Lt] [b] pos) fun env => ((pa env).bind fun x => (pb env).bind fun y => ltW x y).bind asB := lt_cmp (op_lt.or op_lt_str) ord_ok (nomark _) ha hb
theorem lt_gt (ha : LB Ξ H0 O X a pa) (hb : LB Ξ H0 O X b pb) : LT Ξ H0 O X (.Compare a [.Gt] [b] pos) fun env => ((pa env).bind fun x => (pb env).bind fun y => gtW x y).bind asB := lt_cmp (op_gt.or op_gt_str) ord_ok (nomark _) ha hb
end
end LP
namespace PK
open PySem PySem.Spec PyProof.Rows L2

section
variable {P : Program} {w : World} {K : PySem.W.Frag} {mg mb : Str → Option Value} {k : Nat} {fa a : Addr} {fd : FuncData} {x : Str} {sp : Sp}
  {s₁ : Shared} {vs : List Value} {ns : List Int}
abbrev AllTrue (s₁ : Shared) : Result → Shared → Prop :=
  fun r s' => r = .ok (.ret (.bool true)) ∧ OldK s₁.heap s'.heap ∧ s'.os = s₁.os ∧ AllBare s'.gens

/-- what is hidden are the tracked objects: here at most the script -/
theorem core_of {H : Hp} (KX : K.In s₁.heap) (hns : s₁.heap.Ns mainGlobals mg) (hb : s₁.heap.Ns builtinsNs mb)
    (hbb : ∀ y : Str, y ≠ "__name__" → mb y = bootBuiltins y) (hlim : s₁.heap.NoLimit) (hg : s₁.gens = #[])
    (ha : s₁.heap.get? a = some { cls := .type "list", data := .seq vs.toArray }) (hr : Room k callerA)
    (F : ∀ base : Heap, K.In base → base.Ns mainGlobals mg → FnG P w K mg base CX0 k fa fd [x] sp)
    (hbind : ∀ (s : Shared) (u : Value), BindsTo s fd ⟨[u], []⟩ [(x, u)])
    (hO : Only H) (hS : sp [.ref a] H (fun v _ => v = .bl true) fun _ _ _ => False) (hok : HOk P w H s₁.heap)
    (hA : ∀ b u, H b = some u → b = a) (hK : ∀ u, H a = some u → K.lookup a = none) :
    codeAny (model P w) callerA (.call (.ref fa) ⟨[.ref a], []⟩) (AllTrue s₁) s₁ := by
  have free : ∀ {b : Addr} {o : Obj}, s₁.heap.get? b = some o → (∀ es ep, o.data = .dict es ep → True) → (∃ es ep, o.data = .dict es ep) → H b = none := by
    intro b o e _ ⟨es, ep, d⟩
    cases q : H b with
    | none => rfl
    | some u =>
      have e1 := hA b u q
      rw [e1, ha] at e
      rw [← Option.some.inj e] at d
      cases d
  have toNs : ∀ {b : Addr} {m : Str → Option Value}, s₁.heap.Ns b m → (hidT s₁.heap H).Ns b m := by
    rintro b m ⟨o, es, ep, e, d, r⟩
    exact ⟨o, es, ep, hidT_get e (free e (fun _ _ _ => trivial) ⟨es, ep, d⟩), d, r⟩
  have KB : K.In (hidT s₁.heap H) := by
    intro b o e
    refine hidT_get (KX b o e) ?_
    cases q : H b with
    | none => rfl
    | some u =>
      have e1 := hA b u q
      subst e1
      rw [hK u q] at e
      cases e
  obtain ⟨mc, l1, l2⟩ := hlim
  have M : Mod K mg (hidT s₁.heap H) := ⟨KB, toNs hns, ⟨mb, toNs hb, hbb⟩, ⟨mc, toNs l1, l2⟩⟩
  have e0 : Env0 P w K mg (hidT s₁.heap H) callerA [] s₁ H :=
    { frames := rfl, mod := M, bs := fun b o e => of_hidT e, bsz := Nat.le_of_eq (hidT_size _ _), funs := trivial,
      frf := fun b z => absurd z (List.not_mem_nil), hok := hok, bare := .of_eq hg }
  refine codeAny_mono ((F _ KB (toNs hns)).go (us := [.ref a]) (vs := [.ref a]) rfl hr e0 (hbind s₁ (.ref a)) (.cons rfl .nil) hS) ?_
  intro res s' h
  match res, h with
  | .error _, h => exact h.elim
  | .ok .next, h => exact h.elim
  | .ok .brk, h => exact h.elim
  | .ok .cont, h => exact h.elim
  | .ok (.ret u), h =>
    obtain ⟨v, H', os, bare, un, hok', rv, ev⟩ := h
    have ev' : v = .bl true := ev
    subst ev'
    cases rv
    refine ⟨rfl, OldK.of_keep fun b o e => ?_, os, bare⟩
    rcases hO b with z | ⟨ob, xs, z⟩
    · exact un.keep b o e z (by intro z'; cases z') (by intro z'; cases z')
    · have z2 := hok' b _ (un.frzs b ob _ z)
      have z1 := hok b _ z
      have e1 : ob = o := Option.some.inj (z1.1.symm.trans e)
      rw [← e1]
      exact z2.1

theorem law_goG (KX : K.In s₁.heap) (hns : s₁.heap.Ns mainGlobals mg) (hb : s₁.heap.Ns builtinsNs mb)
    (hbb : ∀ y : Str, y ≠ "__name__" → mb y = bootBuiltins y) (hlim : s₁.heap.NoLimit) (hg : s₁.gens = #[])
    (ha : s₁.heap.get? a = some { cls := .type "list", data := .seq vs.toArray }) (hi : IntsAre vs ns) (hl : ns.length ≤ sizeLine) (hr : Room k callerA)
    (F : ∀ base : Heap, K.In base → base.Ns mainGlobals mg → FnG P w K mg base CX0 k fa fd [x] sp)
    (hbind : ∀ (s : Shared) (u : Value), BindsTo s fd ⟨[u], []⟩ [(x, u)])
    (hsp : ∀ H : Hp, Only H → SqL K H a (ns.map V.int) → sp [.ref a] H (fun v _ => v = .bl true) fun _ _ _ => False) :
    codeAny (model P w) callerA (.call (.ref fa) ⟨[.ref a], []⟩) (AllTrue s₁) s₁ := by
  have rv := vals_ints hi
  have lz : (ns.map V.int).length ≤ sizeLine := by rw [List.length_map]; exact hl
  cases hk : K.lookup a with
  | some o =>
    have e : o = _ := Option.some.inj ((KX a o hk).symm.trans ha)
    have hO : Only (fun _ => none) := fun _ => Or.inl rfl
    refine core_of (H := fun _ => none) KX hns hb hbb hlim hg ha hr F hbind hO (hsp _ hO ?_) (fun _ _ z => by cases z) (fun _ _ z => by cases z) (fun _ z => by cases z)
    refine Or.inr ⟨o, vs.toArray, 0, hk, ?_, ?_, ?_, ?_, ?_⟩
    · rw [e]
    · rw [e]
    · rw [e]
    · rw [List.size_toArray, hi.length]; exact hl
    · simpa using rv
  | none =>
    let ob : Obj := { cls := .type "list", data := .seq vs.toArray }
    let Hs : Hp := upd (fun _ => none) a (.frz ob (.lst (ns.map V.int)))
    have hO : Only Hs := fun b => by
      by_cases z : b = a
      · subst z
        exact Or.inr ⟨ob, _, upd_same⟩
      · exact Or.inl (upd_ne z)
    have only : ∀ b u, Hs b = some u → b = a ∧ u = .frz ob (.lst (ns.map V.int)) := fun b u q => by
      by_cases z : b = a
      · subst z
        rw [show Hs b = _ from upd_same] at q
        exact ⟨rfl, (Option.some.inj q).symm⟩
      · rw [show Hs b = _ from upd_ne z] at q
        cases q
    refine core_of (H := Hs) KX hns hb hbb hlim hg ha hr F hbind hO (hsp _ hO (Or.inl (Or.inr ⟨ob, upd_same⟩))) (fun b u q => ?_) (fun b u q => (only b u q).1) (fun _ _ => hk)
    obtain ⟨rfl, rfl⟩ := only b u q
    exact ⟨ha, lz, vs, 0, rv, ha⟩
end

theorem walk_ofG {l : PySem.W.OpenLaw} {n k : Nat} {q : Program} {loose : List Str} {XP : (Str → Option Value) → Heap → Prop} {YP : World → Heap → Prop}
    {d : DefRec} {K : Params → PySem.W.Frag} {sp : World → Sp} {x : Str}
    (hn : l.most = some n) (hn2 : n ≤ sizeLine) (hdf : d.params.defaults = []) (hr : Room k callerA)
    (hY : ∀ (w : World) (h : Heap), YP w h → (K w.params).In h)
    (F : ∀ (w : World) (mg : Str → Option Value) (fa : Addr) (h : Heap), (K w.params).In h → h.Ns mainGlobals mg → mg d.name = some (.ref fa) →
      ∃ fd : FuncData, (∀ (s : Shared) (u : Value), BindsTo s fd ⟨[u], []⟩ [(x, u)]) ∧
        ∀ base : Heap, (K w.params).In base → base.Ns mainGlobals mg → FnG l.prog w (K w.params) mg base CX0 k fa fd [x] (sp w))
    (hsp : ∀ (w : World) (H : Hp) (a : Addr) (ns : List Int), ns.length ≤ n → Only H → SqL (K w.params) H a (ns.map V.int) →
      sp w [.ref a] H (fun v _ => v = .bl true) fun _ _ _ => False) :
    PySem.W.WalkO q loose XP YP l.row.toRowW d [] (fun f vs => PySem.call f vs) := by
  refine Att.attach_call hn hdf ?_
  intro w s₀ s₁ mg mb fa o pm cd doc a vs ns G Y ho hd hcd hmg hobj hints hlen hg
  have KX := hY w _ Y
  obtain ⟨fd, hb, hF⟩ := F w mg fa _ KX G.T.g hmg
  exact law_goG KX G.T.g G.T.b G.T.builtins G.T.nolimit hg hobj hints (Nat.le_trans hlen hn2) hr hF hb fun H hO hS => hsp w H a ns hlen hO hS
end PK
namespace LP
open PySem PySem.Spec PyProof.Rows L2 PK RZ
/-! ### the law's own def -/
/-- what the law draws from is made of the script -/
def spFeedOf (fk : Hp → Addr → Addr → Prop) (K : PySem.W.Frag) : Sp := fun vs H Q _ => ∃ (a : Addr) (ns : List Int), vs = [.ref a] ∧ SqL K H a (ns.map V.int) ∧
  ∀ p c H', H p = none → Same H H' → fk H' p c → Q (.ref p) H'
def spLawK (K : PySem.W.Frag) : Sp := fun vs H Q _ => ∃ (a : Addr) (ns : List Int), vs = [.ref a] ∧ SqL K H a (ns.map V.int) ∧ ∀ H', Q (.bl true) H'
def tRest (Γ : Sig) (pb : Env → W Fl) : TS := fun De σ H => ∃ a c H0, liS ⟨Γ, .some (a, c)⟩ H0 [] [] [] pb De σ H
theorem pss_rest {X : Cx} {Γ : Sig} {sts : List Stmt} {pb : Env → W Fl} (h : ∀ a c H0, LSs ⟨Γ, .some (a, c)⟩ H0 [] [] [] X sts pb) : PSs X sts (tRest Γ pb) :=
  ⟨fun pins s σ H D I ⟨a, c, H0, q⟩ => (h a c H0).run pins s σ H D I q⟩
/-- the names at the law's start -/
def lawE (n : Nat) : Env := (List.replicate n none).set 1 (some (.tok 0))
section
variable {Γ : Sig} {mg : Str → Option Value} {base : Heap}
theorem law_by {st : Stmt} {f : Addr} {fd : FuncData} {N : List Str} {k nN : Nat} {s0 : Str} {pb : Env → W Fl} (F : Fun Γ.K "law" "law" st f fd) (Sc : FnScope N [s0] (defScope st)) (hn : N.length = nN) (h1 : 1 < nN)
    (hb : ∀ (cdv : Value) (A : Around) (outer : List PySem.Env) (s : Shared) (H : Hp) (E : XK), A.guards = some [] → Room k (A.deeper (envOfC "law" (defScope st) s.heap.objs.size f cdv)) →
      PSs (cxOf CX0 Γ.P Γ.w Γ.K mg base N "law" (defScope st) f cdv A outer s H E).nox (defBody st) (tSeq (tAsg (tCall (spFeedOf Γ.fk Γ.K) [] (fun _ _ _ => True) (tCons (tVar 0) tNil)) (gName 1)) (tRest Γ pb)))
    (hp : (pb (lawE nN)).wp (fun f => ∃ b, f = .rt (.bl b) ∧ b = true) fun _ => False) : FnG Γ.P Γ.w Γ.K mg base CX0 (k + 1) f fd [s0] (spLawK Γ.K) := by
  subst hn
  refine funG_ok F Sc (fun vs H Q E h => ?_) (fun cdv A outer s H vs Q E hgd hr h => ?_)
  · obtain ⟨a, ns, rfl, _⟩ := h
    rfl
  · obtain ⟨a, ns, rfl, hS, q⟩ := h
    refine ⟨_, hb cdv A outer s H E hgd hr, ?_⟩
    refine ⟨.ref a, by rfl, a, ns, rfl, hS, fun p c H' np sm fk => ?_⟩
    have e0 : (L2.start N [V.ref a]).length = N.length := by
      unfold L2.start
      simp
      omega
    refine ⟨p, c, H', [p, c], [], [], lawE N.length, fun _ => False, rfl, ?_, ?_⟩
    · refine ⟨?_, fun i d hd _ => ?_, fun i a h => (nomatch h), fun i a h => (nomatch h), List.nodup_nil, List.nodup_nil, fun x hx => (nomatch hx), fun b hb => ?_, fk, fun b hb => hb, Gr.refl H'⟩
      · rw [List.length_set, e0]
        simp [lawE]
      · unfold lawE at hd
        by_cases z : 1 = i
        · subst z
          rw [List.getElem?_set_self (by simpa using h1)] at hd
          cases hd
          exact ⟨.ref p, List.getElem?_set_self (by rw [e0]; exact h1), .tok rfl⟩
        · rw [List.getElem?_set_ne z] at hd
          have := List.mem_of_getElem? hd
          rw [List.mem_replicate] at this
          cases this.2
      · obtain ⟨m1, m2⟩ := Γ.fkm H' p c fk
        rcases List.mem_cons.mp hb with rfl | hb
        · exact m1
        · rw [List.mem_singleton.mp hb]
          exact m2
    · refine W.mono _ (fun fl hf => ?_) (fun _ z => z) hp
      obtain ⟨b, rfl, rfl⟩ := hf
      intro v H2 g f _ hv
      cases hv
      exact q H2
end
section
variable {X : Cx} {Ξ : Ctx} {H0 : Hp} {O : List Nat} {o : Expr} {pa : Env → W D}
def upS (a : Str) : Str := ⟨a.cps.map up1⟩
def upperW (a : Str) : W D := (W.want (a.length ≤ 1000 ∧ ∀ c ∈ a.cps.toList, c < 128)).bind fun _ => W.ret (.str (upS a))
end
end LP
namespace LP
open PySem PySem.Spec PyProof.Rows L2 PK
end LP
namespace LP
open PySem PySem.Spec PyProof.Rows L2 PK
def bLNames_1 (env : Env) : W Fl := ((((getW env 3).bind fun x => ((W.ret (.int 1)).bind negW).bind fun y => ixW x y).bind fun x => ((getW env 2).bind fun x => (((getW env 0).bind fun d => ((W.ret (.int 26)).bind fun d => (W.ret []).bind fun ds => W.ret (d :: ds)).bind fun ds => W.ret (d :: ds)).bind drawW).bind fun y => ixW x y).bind fun y => addW x y).bind fun d => putW env 3 (appW d))
def bLNames_2 (env : Env) : W Fl := (thenW (((getW env 4).bind fun x => (W.ret (.int 1)).bind fun y => addW x y).bind fun d => W.ret (.nx (env.set 4 (some d))))
  fun env => (thenW ((lcD (fun d env => W.ret (env.set 7 (some d))) (fun env => (W.ret true)) (fun env => ((getW env 2).bind fun x => (((getW env 0).bind fun d => ((W.ret (.int 26)).bind fun d => (W.ret []).bind fun ds => W.ret (d :: ds)).bind fun ds => W.ret (d :: ds)).bind drawW).bind fun y => ixW x y)) [7] (fun env => ((((((W.ret (.int 0)).bind fun d => ((W.ret (.int 0)).bind fun d => ((W.ret (.int 1)).bind fun d => ((W.ret (.int 7)).bind fun d => (W.ret []).bind fun ds => W.ret (d :: ds)).bind fun ds => W.ret (d :: ds)).bind fun ds => W.ret (d :: ds)).bind fun ds => W.ret (d :: ds)).bind lstW).bind fun x => (((getW env 0).bind fun d => ((W.ret (.int 4)).bind fun d => (W.ret []).bind fun ds => W.ret (d :: ds)).bind fun ds => W.ret (d :: ds)).bind drawW).bind fun y => ixW x y).bind fun d => (W.ret []).bind fun ds => W.ret (d :: ds)).bind range1W)) env).bind fun d => W.ret (.nx (env.set 6 (some d))))
  fun env => ((((getW env 2).bind fun x => ((getW env 4).bind fun x => (W.ret (.int 26)).bind fun y => modW x y).bind fun y => ixW x y).bind fun x => ((W.ret (.str "")).bind fun x => (asS x).bind fun a => (getW env 6).bind fun y => joinW a y).bind fun y => addW x y).bind fun d => putW env 3 (appW d))))
def bLNames_3 (env : Env) : W Fl := (((((getW env 3).bind fun x => ((W.ret []).bind lstW).bind fun y => neW x y).bind asB).bind fun k => W.ite k (((((((getW env 3).bind fun x => ((W.ret (.int 1)).bind negW).bind fun y => ixW x y).bind fun d => (W.ret []).bind fun ds => W.ret (d :: ds)).bind lenW).bind fun x => (W.ret (.int 8)).bind fun y => ltW x y).bind asB).bind fun k => W.ite k (((((getW env 0).bind fun d => ((W.ret (.int 3)).bind fun d => (W.ret []).bind fun ds => W.ret (d :: ds)).bind fun ds => W.ret (d :: ds)).bind drawW).bind fun x => (W.ret (.int 0)).bind fun y => eqW x y).bind asB) (W.ret false)) (W.ret false)).bind fun k => W.ite k (bLNames_1 env) (bLNames_2 env))
def bLNames (env : Env) : W Fl := (thenW ((W.ret (.str "abcdefghijklmnopqrstuvwxyz")).bind fun d => W.ret (.nx (env.set 2 (some d))))
  fun env => (thenW (((W.ret []).bind lstW).bind fun d => (W.want (3 < env.length)).bind fun _ => W.ret (.nx (env.set 3 (some d))))
  fun env => (thenW ((((getW env 0).bind fun d => ((W.ret (.int 26)).bind fun d => (W.ret []).bind fun ds => W.ret (d :: ds)).bind fun ds => W.ret (d :: ds)).bind drawW).bind fun d => W.ret (.nx (env.set 4 (some d))))
  fun env => (thenW ((((getW env 1).bind fun d => (W.ret []).bind fun ds => W.ret (d :: ds)).bind range1W).bind fun ds => forW (fun d env => W.ret (env.set 5 (some d))) (fun env => (bLNames_3 env)) ds env)
  fun env => ((getW env 3).bind fun d => W.ret (.rt d))))))
def fLNames : List D → W D := runB 2 8 bLNames
def bLMany (env : Env) : W Fl := (((((W.ret (.int 1)).bind fun d => (((W.ret (.int 1)).bind fun x => (((getW env 0).bind fun d => ((W.ret (.int 9)).bind fun d => (W.ret []).bind fun ds => W.ret (d :: ds)).bind fun ds => W.ret (d :: ds)).bind drawW).bind fun y => addW x y).bind fun d => ((((W.ret (.int 10)).bind fun x => (W.ret (.int 9)).bind fun y => powW x y).bind fun x => (((getW env 0).bind fun d => ((W.ret (.int 3)).bind fun d => (W.ret []).bind fun ds => W.ret (d :: ds)).bind fun ds => W.ret (d :: ds)).bind drawW).bind fun y => subW x y).bind fun d => (((W.ret (.int 1)).bind fun x => (((getW env 0).bind fun d => (((W.ret (.int 10)).bind fun x => (W.ret (.int 6)).bind fun y => powW x y).bind fun d => (W.ret []).bind fun ds => W.ret (d :: ds)).bind fun ds => W.ret (d :: ds)).bind drawW).bind fun y => addW x y).bind fun d => (W.ret []).bind fun ds => W.ret (d :: ds)).bind fun ds => W.ret (d :: ds)).bind fun ds => W.ret (d :: ds)).bind fun ds => W.ret (d :: ds)).bind lstW).bind fun x => (((getW env 0).bind fun d => ((W.ret (.int 4)).bind fun d => (W.ret []).bind fun ds => W.ret (d :: ds)).bind fun ds => W.ret (d :: ds)).bind drawW).bind fun y => ixW x y).bind fun d => W.ret (.rt d))
def fLMany : List D → W D := runB 1 1 bLMany
def bLWant (env : Env) : W Fl := (thenW (((getW env 1).bind fun x => (((getW env 0).bind fun d => ((((getW env 1).bind fun d => (W.ret []).bind fun ds => W.ret (d :: ds)).bind lenW).bind fun d => (W.ret []).bind fun ds => W.ret (d :: ds)).bind fun ds => W.ret (d :: ds)).bind drawW).bind fun y => ixW x y).bind fun d => W.ret (.nx (env.set 3 (some d))))
  fun env => (thenW ((((lcD (fun d env => W.ret (env.set 5 (some d))) (fun env => (((((getW env 0).bind fun d => ((W.ret (.int 2)).bind fun d => (W.ret []).bind fun ds => W.ret (d :: ds)).bind fun ds => W.ret (d :: ds)).bind drawW).bind fun x => (W.ret (.int 0)).bind fun y => eqW x y).bind asB)) (fun env => (getW env 5)) [5] (fun env => ((((getW env 2).bind fun d => (W.ret []).bind fun ds => W.ret (d :: ds)).bind sortedW).bind walkLW)) env).bind fun d => (W.ret []).bind fun ds => W.ret (d :: ds)).bind tupleW).bind fun d => W.ret (.nx (env.set 4 (some d))))
  fun env => ((((getW env 3).bind fun d => ((getW env 4).bind fun d => ((((getW env 0).bind fun d => (W.ret []).bind fun ds => W.ret (d :: ds)).bind fLMany).bind fun d => (W.ret []).bind fun ds => W.ret (d :: ds)).bind fun ds => W.ret (d :: ds)).bind fun ds => W.ret (d :: ds)).bind tupW).bind fun d => W.ret (.rt d))))
def fLWant : List D → W D := runB 3 6 bLWant
end LP
namespace LP
open PySem PySem.Spec PyProof.Rows L2 PK RZ
/-! ### by equations -/
namespace W
variable {α β : Type}
theorem want_bind {p : Prop} {f : Unit → W α} (h : p) : bind (want p) f = f () := by
  refine ext ?_
  funext Q E
  exact propext ⟨fun q => q.2, fun q => ⟨h, q⟩⟩
end W
theorem optW_some {α : Type} (x : α) : optW (some x) = W.ret x := rfl
theorem asB_bl (b : Bool) : asB (.bl b) = W.ret b := rfl
theorem asS_str (b : Str) : asS (.str b) = W.ret b := rfl
theorem small {n : Nat} (h : n ≤ 1000000) : n ≤ sizeLine := Nat.le_trans h (by decide)
theorem smallT {n : Nat} (h : n ≤ 1000000) : n < sizeLine := Nat.lt_of_le_of_lt h (by decide)
theorem eqW_sh {a b : D} (h1 : D.sh a) (h2 : D.sh b) : eqW a b = W.ret (.bl (D.eqv a b)) := by
  unfold eqW
  split
  · exact absurd h1.1 Bool.false_ne_true
  · exact W.want_bind ⟨h1, h2⟩
theorem neW_sh {a b : D} (h1 : D.sh a) (h2 : D.sh b) : neW a b = W.ret (.bl (!D.eqv a b)) := by
  unfold neW
  split
  · exact absurd h1.1 Bool.false_ne_true
  · exact W.want_bind ⟨h1, h2⟩
theorem sh_int (i : Int) : D.sh (.int i) := ⟨rfl, Nat.zero_le _⟩
theorem sh_str (i : Str) : D.sh (.str i) := ⟨rfl, Nat.zero_le _⟩
theorem eqW_int (i j : Int) : eqW (.int i) (.int j) = W.ret (.bl (i == j)) := eqW_sh (sh_int i) (sh_int j)
theorem eqW_str (i j : Str) : eqW (.str i) (.str j) = W.ret (.bl (i == j)) := eqW_sh (sh_str i) (sh_str j)
theorem neW_str (i j : Str) : neW (.str i) (.str j) = W.ret (.bl (!(i == j))) := neW_sh (sh_str i) (sh_str j)
theorem rp_ne (d e : D) : neW (rp d) (rp e) = W.ret (.bl (!decide (d.toP.shown = e.toP.shown))) := rfl
theorem rp_same (d : D) : neW (rp d) (rp d) = W.ret (.bl false) := by rw [rp_ne, decide_eq_true rfl]; rfl
theorem reprD_eq {d : D} (h : Sz 1900 64 sizeLine d) : reprD [d] = W.ret (rp d) := W.want_bind h
/-! ### comprehensions, by equations -/
/-! ### what may come out, by what is wanted -/
theorem lcW_wp {g : D → Env → W Env} {t : Env → W Bool} {el : Env → W D} {env : Env} {E : Ex → Prop} (P : Nat → List D → Prop) : ∀ {ds : List D} {k : Nat} {acc : List D} {Q : List D → Prop}, P k acc →
    (∀ i d acc, ds[i]? = some d → P (k + i) acc → (g d env).wp (fun env' => (t env').wp (fun b => match b with
      | true => (el env').wp (fun y => acc.length < sizeLine ∧ P (k + i + 1) (acc ++ [y])) fun _ => False
      | false => P (k + i + 1) acc) fun _ => False) fun _ => False) →
    (∀ acc, P (k + ds.length) acc → Q acc) → (lcW g t el env ds acc).wp Q E
  | [], k, acc, Q, h0, _, hq => hq acc h0
  | d :: ds, k, acc, Q, h0, hs, hq => by
    have h := hs 0 d acc rfl h0
    refine W.mono (g d env) (fun env' h2 => ?_) (fun _ z => z) h
    refine W.mono (t env') (fun b h3 => ?_) (fun _ z => z) h2
    have ih : ∀ acc, P (k + 1) acc → (lcW g t el env ds acc).wp Q E := fun acc h1 => lcW_wp P (k := k + 1) h1 (fun i e acc he hp => by
      have := hs (i + 1) e acc (by simpa using he) (by rw [show k + (i + 1) = k + 1 + i by omega]; exact hp)
      rw [show k + (i + 1) + 1 = k + 1 + i + 1 by omega] at this
      exact this) (fun acc hp => hq acc (by rw [List.length_cons, show k + (ds.length + 1) = k + 1 + ds.length by omega]; exact hp))
    cases b with
    | false => exact ih acc h3
    | true => exact W.mono (el env') (fun y h4 => ⟨h4.1, ih _ h4.2⟩) (fun _ z => z) h3
/-- a for: an invariant by how many were gone through -/
theorem forW_wp {g : D → Env → W Env} {p : Env → W Fl} {E : Ex → Prop} {Q : Fl → Prop} (P : Nat → Env → Prop) : ∀ {ds : List D} {k : Nat} {env : Env}, P k env →
    (∀ i d env, ds[i]? = some d → P (k + i) env → (g d env).wp (fun env1 => (p env1).wp (fun f => match f with
      | .nx e => P (k + i + 1) e
      | .ct e => P (k + i + 1) e
      | .bk e => Q (.nx e)
      | .rt d => Q (.rt d)) E) E) →
    (∀ env, P (k + ds.length) env → Q (.nx env)) → (forW g p ds env).wp Q E
  | [], k, env, h0, _, hq => hq env h0
  | d :: ds, k, env, h0, hs, hq => by
    have h := hs 0 d env rfl h0
    refine W.mono (g d env) (fun env1 h2 => ?_) (fun _ z => z) h
    refine W.mono (p env1) (fun f h3 => ?_) (fun _ z => z) h2
    have ih : ∀ e, P (k + 1) e → (forW g p ds e).wp Q E := fun e h1 => forW_wp P (k := k + 1) h1 (fun i d e' he hp => by
      have := hs (i + 1) d e' (by simpa using he) (by rw [show k + (i + 1) = k + 1 + i by omega]; exact hp)
      rw [show k + (i + 1) + 1 = k + 1 + i + 1 by omega] at this
      exact this) (fun e' hp => hq e' (by rw [List.length_cons, show k + (ds.length + 1) = k + 1 + ds.length by omega]; exact hp))
    cases f with
    | nx e => exact ih e h3
    | ct e => exact ih e h3
    | bk e => exact h3
    | rt d => exact h3
theorem forW_wp0 {g : D → Env → W Env} {p : Env → W Fl} {E : Ex → Prop} {Q : Fl → Prop} {ds : List D} {env : Env} (P : Nat → Env → Prop) (h0 : P 0 env)
    (hs : ∀ i d env, ds[i]? = some d → P i env → (g d env).wp (fun env1 => (p env1).wp (fun f => match f with
      | .nx e => P (i + 1) e
      | .ct e => P (i + 1) e
      | .bk e => Q (.nx e)
      | .rt d => Q (.rt d)) E) E)
    (hq : ∀ env, P ds.length env → Q (.nx env)) : (forW g p ds env).wp Q E := by
  refine forW_wp P (k := 0) h0 (fun i d e hd hp => ?_) (fun e hp => hq e ?_)
  · rw [Nat.zero_add] at hp ⊢
    exact hs i d e hd hp
  · rw [Nat.zero_add] at hp
    exact hp
/-- a draw -/
theorem draw_wp {m : Int} {Q : D → Prop} {E : Ex → Prop} (h0 : 0 < m) (h1 : m ≤ 1000000) (h : ∀ r : Int, 0 ≤ r → r < m → Q (.int r)) : (drawW [.tok 0, .int m]).wp Q E := ⟨⟨h0, h1⟩, fun r hr => h r hr.1 hr.2⟩
/-! ### surely -/
/-- m gives r -/
def Ret {α : Type} (m : W α) (r : α) : Prop := ∀ Q E, Q r → m.wp Q E
theorem Ret.go {α : Type} {m : W α} {r : α} {Q : α → Prop} {E : Ex → Prop} (h : Ret m r) (q : Q r) : m.wp Q E := h Q E q
theorem Ret.ret {α : Type} (r : α) : Ret (W.ret r) r := fun _ _ q => q
theorem Ret.bind {α β : Type} {m : W α} {f : α → W β} {a : α} {b : β} (h1 : Ret m a) (h2 : Ret (f a) b) : Ret (W.bind m f) b := fun Q E q => h1 _ E (h2 Q E q)
theorem lc_ret {g : D → Env → W Env} {t : Env → W Bool} {el : Env → W D} {vs : List Nat} {pi : Env → W (List D)} {env : Env} {ds : List D} (tb : D → Bool) (f : D → D) (hi : Ret (pi env) ds) (hl : ds.length ≤ sizeLine)
    (h : ∀ d ∈ ds, (g d (wipeE env vs)).wp (fun env' => (t env').wp (fun b => b = tb d ∧ (b = true → (el env').wp (fun y => y = f d) fun _ => False)) fun _ => False) fun _ => False) : Ret (lcD g t el vs pi env) (.lst ((ds.filter tb).map f)) := by
  intro Q E q
  refine hi _ E ?_
  refine lcW_wp (k := 0) (fun i acc => acc = ((ds.take i).filter tb).map f) rfl (fun i d acc hd hp => ?_) (fun acc hp => ?_)
  · rw [Nat.zero_add] at hp ⊢
    have hi : i < ds.length := (List.getElem?_eq_some_iff.mp hd).1
    refine W.mono _ (fun env' h2 => ?_) (fun _ z => z) (h d (List.mem_of_getElem? hd))
    refine W.mono _ (fun b h3 => ?_) (fun _ z => z) h2
    obtain ⟨rfl, h3⟩ := h3
    cases e : tb d with
    | false =>
      show acc = _
      rw [hp, take_snoc hd, List.filter_append, List.filter_cons_of_neg (by rw [e]; exact Bool.false_ne_true), List.filter_nil, List.append_nil]
    | true =>
      refine W.mono _ (fun y h4 => ⟨?_, ?_⟩) (fun _ z => z) (h3 e)
      · rw [hp, List.length_map]
        have := List.length_filter_le tb (ds.take i)
        rw [List.length_take] at this
        omega
      · rw [hp, h4, take_snoc hd, List.filter_append, List.filter_cons_of_pos e, List.map_append]
        rfl
  · rw [Nat.zero_add, List.take_length] at hp
    rw [hp]
    exact q
theorem lc_map {g : D → Env → W Env} {el : Env → W D} {vs : List Nat} {pi : Env → W (List D)} {env : Env} {ds : List D} (f : D → D) (hi : Ret (pi env) ds) (hl : ds.length ≤ sizeLine)
    (h : ∀ d ∈ ds, (g d (wipeE env vs)).wp (fun env' => (el env').wp (fun y => y = f d) fun _ => False) fun _ => False) : Ret (lcD g (fun _ => W.ret true) el vs pi env) (.lst (ds.map f)) := by
  have := lc_ret (t := fun _ => W.ret true) (fun _ => true) f hi hl fun d hd => W.mono _ (fun env' h2 => ⟨rfl, fun _ => h2⟩) (fun _ z => z) (h d hd)
  rw [List.filter_eq_self.mpr (fun _ _ => rfl)] at this
  exact this
/-! ### to go through what a body asks -/
section
variable {α β : Type}
theorem s_ite {k : Bool} {x y : W α} {Q : α → Prop} {E : Ex → Prop} : (W.ite k x y).wp Q E ↔ (k = true → x.wp Q E) ∧ (k = false → y.wp Q E) := by
  cases k
  · exact ⟨fun h => ⟨fun z => (nomatch z), fun _ => h⟩, fun h => h.2 rfl⟩
  · exact ⟨fun h => ⟨fun _ => h, fun z => (nomatch z)⟩, fun h => h.1 rfl⟩
theorem s_get0 {d : D} {l : Env} : getW (some d :: l) 0 = W.ret d := rfl
theorem s_get {a : Option D} {l : Env} {i : Nat} : getW (a :: l) (i + 1) = getW l i := rfl
theorem s_then {m : W Fl} {q : Env → W Fl} {Q : Fl → Prop} {E : Ex → Prop} : (thenW m q).wp Q E ↔ m.wp (fun f => (match f with | .nx e => q e | f => W.ret f : W Fl).wp Q E) E := Iff.rfl
theorem s_end {m : W Fl} {Q : D → Prop} {E : Ex → Prop} : (endW m).wp Q E ↔ m.wp (fun f => (match f with | .rt d => W.ret d | .nx _ => W.ret .non | _ => W.fail : W D).wp Q E) E := Iff.rfl
theorem s_run {np nN : Nat} {b : Env → W Fl} {ds : List D} {Q : D → Prop} {E : Ex → Prop} : (runB np nN b ds).wp Q E ↔ ds.length = np ∧ (endW (b (startE nN ds))).wp Q E := Iff.rfl
theorem s_calm {m : W α} {Q : α → Prop} {E : Ex → Prop} : (W.calm m).wp Q E ↔ m.wp Q fun _ => False := Iff.rfl
theorem s_fail {Q : α → Prop} {E : Ex → Prop} : (W.fail : W α).wp Q E ↔ False := Iff.rfl
theorem s_start1 {n : Nat} {a : D} : startE n [a] = some a :: List.replicate (n - 1) none := rfl
theorem s_start2 {n : Nat} {a b : D} : startE n [a, b] = some a :: some b :: List.replicate (n - 2) none := rfl
theorem s_start3 {n : Nat} {a b c : D} : startE n [a, b, c] = some a :: some b :: some c :: List.replicate (n - 3) none := rfl
theorem s_start4 {n : Nat} {a b c d : D} : startE n [a, b, c, d] = some a :: some b :: some c :: some d :: List.replicate (n - 4) none := rfl
theorem s_start5 {n : Nat} {a b c d e : D} : startE n [a, b, c, d, e] = some a :: some b :: some c :: some d :: some e :: List.replicate (n - 5) none := rfl
end
theorem isi_non (T : String) : isiW T .non = W.ret (.bl ("NoneType" == T || ("NoneType" == "bool" && T == "int"))) := rfl
theorem isi_bl (T : String) (b : Bool) : isiW T (.bl b) = W.ret (.bl ("bool" == T || ("bool" == "bool" && T == "int"))) := rfl
theorem isi_int (T : String) (b : Int) : isiW T (.int b) = W.ret (.bl ("int" == T || ("int" == "bool" && T == "int"))) := rfl
theorem isi_str (T : String) (b : Str) : isiW T (.str b) = W.ret (.bl ("str" == T || ("str" == "bool" && T == "int"))) := rfl
theorem isi_tup (T : String) (b : List D) : isiW T (.tup b) = W.ret (.bl ("tuple" == T || ("tuple" == "bool" && T == "int"))) := rfl
theorem isi_lst (T : String) (b : List D) : isiW T (.lst b) = W.ret (.bl ("list" == T || ("list" == "bool" && T == "int"))) := rfl
theorem lcD_go {g : D → Env → W Env} {t : Env → W Bool} {el : Env → W D} {vs : List Nat} {pi : Env → W (List D)} {env : Env} {E : Ex → Prop} {Q : D → Prop} (h : (pi env).wp (fun ds => (lcW g t el (wipeE env vs) ds []).wp (fun l => Q (.lst l)) E) E) : (lcD g t el vs pi env).wp Q E := h
/-- .. of any list: an invariant by how many -/
theorem lcW_go {g : D → Env → W Env} {el : Env → W D} {env : Env} {E : Ex → Prop} {Q : List D → Prop} {ds : List D} (P : Nat → List D → Prop) (h0 : P 0 []) (hs : ∀ i d acc, ds[i]? = some d → P i acc → (g d env).wp (fun env' => (el env').wp (fun y => acc.length < sizeLine ∧ P (i + 1) (acc ++ [y])) fun _ => False) fun _ => False)
    (hq : ∀ acc, P ds.length acc → Q acc) : (lcW g (fun _ => W.ret true) el env ds []).wp Q E := by
  refine lcW_wp (k := 0) P h0 (fun i d acc hd hp => ?_) (fun acc hp => hq acc ?_)
  · rw [Nat.zero_add] at hp ⊢
    exact hs i d acc hd hp
  · rw [Nat.zero_add] at hp
    exact hp
/-- .. with a test -/
theorem lcW_goT {g : D → Env → W Env} {t : Env → W Bool} {el : Env → W D} {env : Env} {E : Ex → Prop} {Q : List D → Prop} {ds : List D} (P : Nat → List D → Prop) (h0 : P 0 []) (hs : ∀ i d acc, ds[i]? = some d → P i acc → (g d env).wp (fun env' => (t env').wp (fun b => (b = true → (el env').wp (fun y => acc.length < sizeLine ∧ P (i + 1) (acc ++ [y])) fun _ => False) ∧ (b = false → P (i + 1) acc)) fun _ => False) fun _ => False)
    (hq : ∀ acc, P ds.length acc → Q acc) : (lcW g t el env ds []).wp Q E := by
  refine lcW_wp (k := 0) P h0 (fun i d acc hd hp => ?_) (fun acc hp => hq acc ?_)
  · rw [Nat.zero_add] at hp ⊢
    refine W.mono _ (fun env' h => W.mono _ (fun b h => ?_) (fun _ z => z) h) (fun _ z => z) (hs i d acc hd hp)
    cases b with
    | true => exact h.1 rfl
    | false => exact h.2 rfl
  · rw [Nat.zero_add] at hp
    exact hp
theorem Sz.i0 {m dp n : Nat} (h : 2 ≤ n) : Sz m dp n (.int 0) := Sz.int (by rw [show (0 : Int).natAbs.log2 = 0 by decide]; exact Nat.zero_le _) (by rw [show (0 : Int).natAbs.log2 = 0 by decide]; exact h)
theorem Sz.i1 {m dp n : Nat} (h : 2 ≤ n) : Sz m dp n (.int 1) := Sz.int (by rw [show (1 : Int).natAbs.log2 = 0 by decide]; exact Nat.zero_le _) (by rw [show (1 : Int).natAbs.log2 = 0 by decide]; exact h)
end LP
namespace LP
open PySem PySem.Spec PyProof.Rows L2 PK RZ
/-! ### a list and a list, owned -/
section
variable {X : Cx} {Ξ : Ctx} {H0 : Hp} {O : List Nat} {a b : Expr} {pos : Pos} {pa pb : Env → W D}
end
end LP
namespace LP
open PySem PySem.Spec PyProof.Rows L2 PK RZ
/-! ### the least of a list -/
def rMinI (K : PySem.W.Frag) : List V → Hp → VK → Prop := fun vs H Q => ∃ (a : Addr) (xs : List V) (d : PyData) (ds : List PyData), vs = [.ref a] ∧ SqL K H a xs ∧ DpAll K H xs (d :: ds) ∧ PySem.W.AlikeAll (d :: ds) ∧ (∀ e ∈ d :: ds, e.depth ≤ 90) ∧
  ∀ (i : Nat) (x : V), xs[i]? = some x → (d :: ds)[i]? = some (PySem.W.minD d ds) → Q x H
theorem call_minI {X : Cx} {k : Nat} (hc : X.calm = true) (hr : Room k X.A) : CallR X (.builtin "min") (rMinI X.K) := by
  intro pins s σ H vs us Q I r h
  obtain ⟨a, xs, d, ds, rfl, hs, hd, ha, hdp, q⟩ := h
  obtain ⟨its, rv, hl, _⟩ := I.list hs
  rw [Vals.ref1 r]
  obtain ⟨as, hR⟩ := Dp.readsAll I _ _ _ hd rv
  have hu := hr.un
  have hdd := depthAll_le hdp
  refine PySem.W.min_list_data (vs := its.toArray) (I.ok.hd hc) hl.isList (by simpa using hR) ha (by omega) fun i v h' tk bs hv rd hk => ?_
  have hv' : its[i]? = some v := by simpa using hv
  obtain ⟨x, hx, rx⟩ : ∃ x, xs[i]? = some x ∧ RelV x v := vals_back rv hv'
  refine ⟨x, H, I.kept hk, rx, q i x hx ?_⟩
  obtain ⟨e, he, de⟩ := DpAll.getV hd hx
  obtain ⟨as2, re⟩ := Dp.reads (I.kept (t' := tk) hk) _ _ _ de rx
  obtain ⟨m1, _⟩ := minD_at ds d
  have mm : PySem.W.minD d ds ∈ d :: ds := by
    rcases m1 with z | z
    · rw [z]; exact List.mem_cons_self
    · exact List.mem_cons_of_mem _ z
  have ee := PySem.W.alike_unique _ _ _ _ _ (ha.1 e (List.mem_of_getElem? he) _ mm) re rd
  rw [he, ee]
/-- one that is the least -/
def minLW : List D → W D
  | [.lst (d :: l)] => (W.want (D.plains (d :: l) = true ∧ PySem.W.AlikeAll (D.toPs (d :: l)) ∧ ∀ e ∈ D.toPs (d :: l), e.depth ≤ 90)).bind fun _ =>
    (W.any fun x : D => x ∈ d :: l ∧ x.toP = PySem.W.minD d.toP (D.toPs l)).bind fun x => W.ret x
  | _ => W.fail
section
variable {X : Cx} {Ξ : Ctx} {H0 : Hp} {O : List Nat} {e : Expr} {ps : Env → W (List D)}
theorem min_ok : CallOk Ξ (rMinI Ξ.K) minLW := by
  intro M H xs ds Q E mu hf h q
  match ds, h, q with
  | [.lst (d :: l)], .cons h .nil, ⟨⟨pl, al, dp⟩, q⟩ =>
    have hd := h.full
    obtain ⟨b, ys, rfl, t, a⟩ := h.lstE
    obtain ⟨_, ys', e, t', a'⟩ := hd.lstE
    cases e
    rw [t] at t'
    cases t'
    refine ⟨b, ys, d.toP, D.toPs l, rfl, SqL.of t, a'.dp pl, al, dp, fun i x hx hm => ?_⟩
    obtain ⟨di, hdi, rx⟩ := a.getV hx
    refine q di ⟨List.mem_of_getElem? hdi, ?_⟩ x H (Same.refl H) rx
    have e1 : (D.toPs (d :: l))[i]? = some (PySem.W.minD d.toP (D.toPs l)) := hm
    rw [toPs_map, List.getElem?_map, hdi] at e1
    exact Option.some.inj e1
theorem le_minL {k : Nat} {p pos : Pos} (hc : X.calm = true) (hr : Room k X.A) (hK : X.K = Ξ.K) (hg : Gl X "min") (hm : X.mg "min" = none) (ha : LAB Ξ H0 O X [e] ps) (he : starEach [e] X.env = [(false, eval e X.env)] := by rfl) : LE Ξ H0 O X (.Call (.Name "min" p) [e] [] pos) fun env => (ps env).bind minLW :=
  le_callB (by rw [← hK]; exact call_minI hc hr : CallR X _ (rMinI Ξ.K)) min_ok hg hm (by decide +kernel) ha (by decide) (by decide) he rfl
end
end LP
namespace LP
open PySem PySem.Spec PyProof.Rows L2 PK RZ
/-! ### put into an owned list at a place; the last one out -/
section
variable {X : Cx} {Ξ : Ctx} {H0 : Hp} {O Ob : List Nat} {e : Expr} {es : List Expr} {ps : Env → W (List D)} {pos : Pos}
end
end LP
namespace LP
open PySem PySem.Spec PyProof.Rows L2 PK RZ
/-! ### a place of an owned list set; the last one taken out -/
section
variable {X : Cx} {Ξ : Ctx} {H0 : Hp} {O Ob : List Nat} {e ix : Expr} {pv' pi' : Env → W D} {pos : Pos}
end
end LP
namespace LP
open PySem PySem.Spec PyProof.Rows L2 PK RZ
/-! ### from a to b -/
section
variable {X : Cx} {Ξ : Ctx} {H0 : Hp} {O : List Nat} {tg : Expr}
end
end LP
namespace LP
open PySem PySem.Spec PyProof.Rows L2 PK RZ
/-! ### a list, with its places -/
section
variable {X : Cx} {Ξ : Ctx} {H0 : Hp} {O : List Nat} {e : Expr} {ps : Env → W (List D)}
end
end LP
namespace LP
open PySem PySem.Spec PyProof.Rows L2 PK RZ
/-! ### two clauses in one comprehension -/
section
variable {X : Cx} {Ξ : Ctx} {H0 : Hp} {O : List Nat}
end
end LP
namespace LP
open PySem PySem.Spec PyProof.Rows L2 PK RZ
end LP
/-! Heaps by value. -/
namespace LP
open PySem PySem.Spec PyProof.Rows L2 PK RZ
/-! ### rows, heaps as things -/
def rowT (r : PRow) : D := .tup [.str r.1, .str r.2.1, .int r.2.2]
def rowsT (L : List PRow) : D := .tup (L.map rowT)
def heapD (L : List PRow) : D := .obj 0 [rowsT L]
def rowOf : D → Option PRow
  | .tup [.str f, .str s, .int n] => some (f, s, n)
  | _ => none
def rowsOf1 : List D → Option (List PRow)
  | [] => some []
  | d :: l => (rowOf d).bind fun r => (rowsOf1 l).map fun L => r :: L
def rowsOf : D → Option (List PRow)
  | .tup l => rowsOf1 l
  | _ => none
def heapOf : D → Option (List PRow)
  | .obj 0 [d] => rowsOf d
  | _ => none
theorem rowOf_eq {d : D} {r : PRow} (h : rowOf d = some r) : d = rowT r := by
  unfold rowOf at h
  split at h
  · cases h
    rfl
  · cases h
theorem rowsOf1_eq : ∀ {l : List D} {L : List PRow}, rowsOf1 l = some L → l = L.map rowT
  | [], L, h => by
    cases h
    rfl
  | d :: l, L, h => by
    unfold rowsOf1 at h
    cases e : rowOf d with
    | none => rw [e] at h; cases h
    | some r =>
      rw [e] at h
      cases e2 : rowsOf1 l with
      | none => rw [e2] at h; cases h
      | some M =>
        rw [e2] at h
        cases h
        rw [rowOf_eq e, rowsOf1_eq e2]
        rfl
theorem rowsOf_eq {d : D} {L : List PRow} (h : rowsOf d = some L) : d = rowsT L := by
  unfold rowsOf at h
  split at h
  · rw [rowsOf1_eq h]
    rfl
  · cases h
theorem heapOf_eq {d : D} {L : List PRow} (h : heapOf d = some L) : d = heapD L := by
  unfold heapOf at h
  split at h
  · rw [rowsOf_eq h]
    rfl
  · cases h
theorem rowsOf1_map : ∀ L : List PRow, rowsOf1 (L.map rowT) = some L
  | [] => rfl
  | r :: L => by
    show (rowOf (rowT r)).bind (fun r => (rowsOf1 (L.map rowT)).map fun L => r :: L) = _
    rw [rowsOf1_map L]
    rfl
theorem rowsOf_T (L : List PRow) : rowsOf (rowsT L) = some L := rowsOf1_map L
theorem heapOf_D (L : List PRow) : heapOf (heapD L) = some L := rowsOf1_map L
theorem rowsT_toP (L : List PRow) : (rowsT L).toP = rowsD L := by
  show PyData.tuple (D.toPs (L.map rowT)) = PyData.tuple (L.map prowD)
  rw [toPs_map, List.map_map]
  rfl
theorem rowsT_plain (L : List PRow) : (rowsT L).plain = true := by
  show D.plains (L.map rowT) = true
  rw [plains_all, List.all_eq_true]
  intro d hd
  obtain ⟨r, _, rfl⟩ := List.mem_map.mp hd
  rfl
/-- texts that may stand -/
def RowS (L : List PRow) : Prop := ∀ r ∈ L, PyData.strOk r.1 = true ∧ PyData.strOk r.2.1 = true
theorem RowS.sub {L M : List PRow} (h : RowS L) (k : ∀ r ∈ M, ∃ q ∈ L, PK.pk r = PK.pk q) : RowS M := fun r hr => by
  obtain ⟨q, hq, e⟩ := k r hr
  have e1 : r.1 = q.1 := congrArg (fun k : PKey => k.1) e
  have e2 : r.2.1 = q.2.1 := congrArg (fun k : PKey => k.2) e
  rw [e1, e2]
  exact h q hq
theorem RowS.app {L M : List PRow} (h : RowS L) (k : RowS M) : RowS (L ++ M) := fun r hr => (List.mem_append.mp hr).elim (h r) (k r)
theorem sumR_keyIn {L : List PRow} {r : PRow} (h : r ∈ sumR L) : ∃ q ∈ L, PK.pk r = PK.pk q := by
  have : PK.pk r ∈ (sumR L).map PK.pk := List.mem_map.mpr ⟨r, h, rfl⟩
  rw [sumR_keys, mem_skeys] at this
  obtain ⟨q, hq, e⟩ := List.mem_map.mp this
  exact ⟨q, hq, e.symm⟩
theorem RowS.sum {L : List PRow} (h : RowS L) : RowS (sumR L) := h.sub fun _ hr => sumR_keyIn hr
theorem RowS.above {L M : List PRow} (h : RowS L) : RowS (aboveR L M) := h.sub fun r hr => by
  obtain ⟨q, hq, e, _⟩ := aboveR_mem hr
  exact ⟨q, hq, e⟩
section
variable {Ξ : Ctx} {H : Hp} {M : List Addr}
theorem Rp.rowE {v : V} {r : PRow} (h : Rp Ξ H v (rowT r)) : PyData.strOk r.1 = true ∧ PyData.strOk r.2.1 = true := by
  obtain ⟨b, xs, _, _, h2⟩ := h.tupE
  match xs, h2 with
  | _, .cons h1 (.cons h2 _) =>
    cases h1
    cases h2
    constructor <;> assumption
theorem RpAll.rowsE : ∀ {L : List PRow} {vs : List V}, RpAll Ξ H vs (L.map rowT) → RowS L
  | [], _, _ => fun _ h => (nomatch h)
  | r :: L, _, .cons h1 h2 => fun q hq => by
    rcases List.mem_cons.mp hq with rfl | hq
    · exact h1.rowE
    · exact RpAll.rowsE h2 q hq
theorem Rp.rowsE {v : V} {L : List PRow} (h : Rp Ξ H v (rowsT L)) : Dp Ξ.K H v (rowsD L) ∧ RowS L := by
  refine ⟨by rw [← rowsT_toP]; exact h.dp (rowsT_plain L), ?_⟩
  obtain ⟨b, xs, _, _, h2⟩ := h.tupE
  exact h2.rowsE
theorem rp_row {v : V} {r : PRow} (mu : Mu M H) (h : Dp Ξ.K H v (prowD r)) (h1 : PyData.strOk r.1 = true) (h2 : PyData.strOk r.2.1 = true) : Rp Ξ (ms M H) v (rowT r) := by
  obtain ⟨b, us, rfl, hb, du⟩ := Dp.tupE h
  refine .tup (sqT_mu hb mu) ?_
  cases du with
  | cons a1 du =>
    cases du with
    | cons a2 du =>
      cases du with
      | cons a3 du =>
        cases du
        cases a1
        cases a2
        cases a3
        exact .cons (.str _ h1) (.cons (.str _ h2) (.cons (.int _) .nil))
theorem rp_rowsL (mu : Mu M H) : ∀ {L : List PRow} {us : List V}, DpAll Ξ.K H us (L.map prowD) → RowS L → RpAll Ξ (ms M H) us (L.map rowT)
  | [], _, .nil, _ => .nil
  | r :: L, _, .cons h1 h2, k => .cons (rp_row mu h1 (k r List.mem_cons_self).1 (k r List.mem_cons_self).2) (rp_rowsL mu h2 fun q hq => k q (List.mem_cons_of_mem _ hq))
theorem rp_rows {v : V} {L : List PRow} (mu : Mu M H) (h : Dp Ξ.K H v (rowsD L)) (k : RowS L) : Rp Ξ (ms M H) v (rowsT L) := by
  obtain ⟨b, us, rfl, hb, du⟩ := Dp.tupE h
  exact .tup (sqT_mu hb mu) (rp_rowsL mu du k)
/-- the class of heaps is the first one -/
structure HSig (Γ : Sig) (C : Addr) : Prop where
  cl : Γ.cl 0 = some C
  fl : Γ.fl 0 = [("held" : Str)]
theorem Rp.heapE {C : Addr} (s : HSig Ξ.Γ C) {v : V} {L : List PRow} (h : Rp Ξ H v (heapD L)) : ∃ p, v = .ref p ∧ HeapAt Ξ.K C H p L ∧ RowS L := by
  cases h with
  | obj h1 h2 ha =>
    rename_i a C' dx xs
    have e : C' = C := by
      have := s.cl.symm.trans h2
      exact (Option.some.inj this).symm
    subst e
    cases ha with
    | cons a1 a2 =>
      cases a2
      obtain ⟨dv, rs⟩ := a1.rowsE
      obtain ⟨t, us, rfl, _, _⟩ := Dp.tupE dv
      refine ⟨a, rfl, ⟨dx, t, ?_, dv⟩, rs⟩
      rw [h1]
      have : Ξ.fl 0 = [("held" : Str)] := s.fl
      rw [this]
      rfl
theorem rp_heap {C : Addr} (s : HSig Ξ.Γ C) {p : Addr} {L : List PRow} (mu : Mu M H) (np : p ∉ M) (h : HeapAt Ξ.K C H p L) (k : RowS L) : Rp Ξ (ms M H) (.ref p) (heapD L) := by
  obtain ⟨dx, t, h1, h2⟩ := h
  refine .obj (C := C) (dx := dx) (xs := [.ref t]) ?_ s.cl (.cons (rp_rows mu h2 k) .nil)
  rw [ms_at h1 np]
  have : Ξ.fl 0 = [("held" : Str)] := s.fl
  rw [this]
  rfl
end
/-! ### what the methods tell -/
def rowsW : List D → W D
  | [h] => (optW (heapOf h)).bind fun L => (W.want (L.length ≤ 900)).bind fun _ => W.ret (rowsT L)
  | _ => W.fail
def plusW : List D → W D
  | [h, g] => (optW (heapOf h)).bind fun L => (optW (heapOf g)).bind fun M => (W.want (L.length + M.length ≤ 900)).bind fun _ => W.ret (heapD (sumR (L ++ M)))
  | _ => W.fail
def manyW : List D → W D
  | [h, .str f, .non] => (optW (heapOf h)).bind fun L => (W.want (L.length ≤ 900)).bind fun _ => W.ret (.int (manyR L f none))
  | [h, .str f, .str t] => (optW (heapOf h)).bind fun L => (W.want (L.length ≤ 900)).bind fun _ => W.ret (.int (manyR L f (some t)))
  | _ => W.fail
/-- the error that tells what lacks is the class 1 -/
def lessW : List D → W D
  | [h, g] => (optW (heapOf h)).bind fun L => (optW (heapOf g)).bind fun M => (W.want (∃ (n : Nat) (b : Int), RowsOk n b L ∧ RowsOk n b M ∧ n ≤ 900)).bind fun _ => (W.want (Rises (L.map fun r => pkD (PK.pk r)) ∧ Rises (M.map fun r => pkD (PK.pk r)))).bind fun _ =>
    W.ite (decide (aboveR M L = [])) (W.ret (heapD (aboveR L M))) (W.raise ⟨1, [heapD (aboveR M L)]⟩)
  | _ => W.fail
theorem fn_wk {P : Program} {w : World} {K : PySem.W.Frag} {mg : Str → Option Value} {base : Heap} {CX : CXT} {k : Nat} {f : Addr} {fd : FuncData} {ps : List Str} {sp sp' : Sp} (F : FnOk P w K mg base CX k f fd ps sp) (key : ∀ vs H Q E, sp' vs H Q E → sp vs H Q E) : FnOk P w K mg base CX k f fd ps sp' :=
  ⟨fun vs H Q E h => F.len vs H Q E (key vs H Q E h), fun A outer s H args us vs Q E hr e0 hb hv h => F.run A outer s H args us vs Q E hr e0 hb hv (key vs H Q E h)⟩
section
variable {Γ : Sig} {C : Addr}
theorem of_rows (s : HSig Γ C) : ∀ vs H Q E, liF Γ rowsW vs H Q E → spRows Γ.K C vs H Q E := by
  rintro vs H Q E ⟨fe, S, ds, EE, mu, hf, fi, hv, hE, q⟩
  match ds, hv, q with
  | [h], .cons h1 .nil, q =>
    obtain ⟨L, e, hL, q⟩ := optW_wp q
    rw [heapOf_eq e] at h1
    obtain ⟨p, rfl, hp, rs⟩ := h1.heapE (Ξ := ⟨Γ, fe⟩) s
    exact ⟨p, L, rfl, hp.same ms_sub, hL, fun v H' s' dv => q v H' (Gr.of s') (FI_same fi s') (rp_rows (mu.same s') dv rs)⟩
theorem of_many (s : HSig Γ C) : ∀ vs H Q E, liF Γ manyW vs H Q E → spManyM Γ.K C vs H Q E := by
  rintro vs H Q E ⟨fe, S, ds, EE, mu, hf, fi, hv, hE, q⟩
  match ds, hv, q with
  | [h, .str f, .non], .cons h1 (.cons h2 (.cons h3 .nil)), q =>
    obtain ⟨L, e, hL, q⟩ := optW_wp q
    rw [heapOf_eq e] at h1
    obtain ⟨p, rfl, hp, rs⟩ := h1.heapE (Ξ := ⟨Γ, fe⟩) s
    cases h2
    cases h3
    exact ⟨p, f, _, none, L, rfl, hp.same ms_sub, hL, .inl ⟨rfl, rfl⟩, fun H' s' => q _ H' (Gr.of s') (FI_same fi s') (.int _)⟩
  | [h, .str f, .str t], .cons h1 (.cons h2 (.cons h3 .nil)), q =>
    obtain ⟨L, e, hL, q⟩ := optW_wp q
    rw [heapOf_eq e] at h1
    obtain ⟨p, rfl, hp, rs⟩ := h1.heapE (Ξ := ⟨Γ, fe⟩) s
    cases h2
    cases h3
    exact ⟨p, f, _, some t, L, rfl, hp.same ms_sub, hL, .inr ⟨t, rfl, rfl⟩, fun H' s' => q _ H' (Gr.of s') (FI_same fi s') (.int _)⟩
/-- .. the error's class, its field -/
structure ESig (Γ : Sig) (CN : Addr) : Prop where
  cl : Γ.cl 1 = some CN
  fl : Γ.fl 1 = [("lacking" : Str)]
end
end LP
/-! Own objects by value: methods called, made, compared, shown. -/
namespace LP
open PySem PySem.Spec PyProof.Rows L2 PK RZ
def objW (c : Nat) : D → W D
  | .obj c' l => (W.want (c' = c)).bind fun _ => W.ret (.obj c' l)
  | _ => W.fail
theorem objW_wp {c : Nat} {d : D} {Q : D → Prop} {E : Ex → Prop} (h : (objW c d).wp Q E) : ∃ l, d = .obj c l ∧ Q d := by
  cases d with
  | obj c' l =>
    obtain ⟨rfl, q⟩ := h
    exact ⟨l, rfl, q⟩
  | _ => exact h.elim
theorem objW_heap (L : List PRow) : objW 0 (heapD L) = W.ret (heapD L) := W.want_bind rfl
theorem lookup_zip {ks : List Str} {xs : List V} {m : Str} (h : m ∉ ks) : (ks.zip xs).lookup m = none := by
  induction ks generalizing xs with
  | nil => rfl
  | cons k ks ih =>
    cases xs with
    | nil => rfl
    | cons x xs =>
      rw [List.zip_cons_cons, List.lookup_cons, show (m == k) = false from beq_eq_false_iff_ne.mpr fun z => h (by rw [z]; exact List.mem_cons_self)]
      exact ih fun z => h (List.mem_cons_of_mem _ z)
/-- a method by value -/
structure MetV (Γ : Sig) (mg : Str → Option Value) (base : Heap) (k : Nat) (c : Nat) (C : Addr) (m : Str) (f : Addr) (fd : FuncData) (ps : List Str) (p : List D → W D) : Prop where
  ok : FnOk Γ.P Γ.w Γ.K mg base CX0 k f fd ps (liF Γ p)
  cls : Cls Γ.K C
  me : Meth Γ.K C m f
  b : Binds Γ.K fd ps []
  cl : Γ.cl c = some C
  nf : m ∉ Γ.fl c
section
variable {X : Cx} {Γ : Sig} {fe : Fd} {H0 : Hp} {O : List Nat} {k c : Nat} {C f : Addr} {fd : FuncData} {ps : List Str} {o e : Expr} {es : List Expr} {m : Str} {apos pos : Pos} {p : List D → W D} {po : Env → W D} {pa : Env → W (List D)} {mg : Str → Option Value} {base : Heap}
theorem meth_reads {ta : TA} {sp : Sp} {gV : List V → List V} {gD : List D → List D} (hsp : ∀ vs H Q, liF Γ p vs H Q (fun _ _ _ => True) → sp vs H Q fun _ _ _ => True) (hcl : Γ.cl c = some C) (hnf : m ∉ Γ.fl c)
    (hg : ∀ M H vs ds, RpAll ⟨Γ, fe⟩ (ms M H) vs ds → RpAll ⟨Γ, fe⟩ (ms M H) (gV vs) (gD ds)) (ha : ∀ σ H Q, liA ⟨Γ, fe⟩ H0 O pa σ H Q → ta σ H Q) :
    ∀ σ H Q, liE ⟨Γ, fe⟩ H0 O (fun env => (po env).bind fun d => (objW c d).bind fun d => (pa env).bind fun ds => p (gD (d :: ds))) σ H Q →
      liE ⟨Γ, fe⟩ H0 O po σ H fun x H1 => ∃ a dx fs, x = .ref a ∧ H1 a = some (.ins C dx fs) ∧ fs.lookup m = none ∧ ta σ H1 fun vs H2 => sp (gV (x :: vs)) H2 Q fun _ _ _ => True := by
  rintro σ H Q ⟨S, A, G, env, E, hA, r, q⟩
  refine ⟨S, A, G, env, E, hA, r, (po env).mono (fun d k x H1 g1 r1 hx => ?_) (fun _ z => z) q⟩
  obtain ⟨l, rfl, k⟩ := objW_wp k
  have hx0 := hx
  cases hx with
  | obj h1 h2 hl =>
    rename_i a C' dx xs
    have eC : C' = C := by
      have := hcl.symm.trans h2
      exact (Option.some.inj this).symm
    subst eC
    refine ⟨a, dx, _, rfl, ms_sub _ _ h1, lookup_zip hnf, ha σ H1 _ ⟨S, A, G, env, E, hA, r1, (pa env).mono (fun ds k2 vs H2 g2 r2 hv => ?_) (fun _ z => z) k⟩⟩
    refine hsp _ _ _ ⟨fe, S ++ A.map (·.2), gD (.obj c l :: ds), E, r2.muA, r2.ffM, r2.fi, hg _ _ _ _ (.cons (hx0.same (g2.ms r1.ffM)) hv), fun _ _ _ _ _ _ _ _ _ => trivial, (p _).mono (fun d k v H3 g3 f3 hv3 => ?_) (fun _ z => z) k2⟩
    exact k v H3 ((g1.trans g2).trans g3) (r2.grow g3 f3) hv3
theorem le_meth0 {pl : Sem Bool} (M : MetV Γ mg base k c C m f fd ps p) (hP : X.prog = Γ.P) (hw : X.w = Γ.w) (hK : X.K = Γ.K) (hmg : X.mg = mg) (hbs : X.base = base) (hr : Room k X.A) (ho : LE ⟨Γ, fe⟩ H0 O X o po)
    (ht : eval (.Call (.Attribute o m apos) [] [] pos) X.env = viaMeth X.env o m pl apos pos [] [] := by rfl) :
    LE ⟨Γ, fe⟩ H0 O X (.Call (.Attribute o m apos) [] [] pos) fun env => (po env).bind fun d => (objW c d).bind fun d => (W.ret []).bind fun ds => p (d :: ds) :=
  wkE (pe_meth0 (pl := pl) (E := fun _ _ _ => True) ho (by rw [hK]; exact M.cls) (by rw [hK]; exact M.me) (by rw [hP, hw, hK, hmg, hbs]; exact M.ok) hr (by rw [hK]; exact M.b) .nil pass0 ht)
    (meth_reads (gV := fun vs => vs ++ []) (gD := fun ds => ds) (pa := fun _ => W.ret []) (fun _ _ _ h => h) M.cl M.nf (fun _ _ vs ds h => by rw [List.append_nil]; exact h) fun σ H Q ⟨S, A, G, env, E, hA, r, z⟩ => z [] H (Gr.refl H) r .nil)
/-- a method with defaults: n are handed in (the object among them), the rest are none -/
structure MetN (Γ : Sig) (mg : Str → Option Value) (base : Heap) (k : Nat) (c : Nat) (C : Addr) (m : Str) (f : Addr) (fd : FuncData) (ps : List Str) (n : Nat) (gV : List V → List V) (p : List D → W D) : Prop where
  ok : FnOk Γ.P Γ.w Γ.K mg base CX0 k f fd ps (liF Γ p)
  cls : Cls Γ.K C
  me : Meth Γ.K C m f
  b : KB Γ.K fd ps n [] (fun vs _ => gV vs)
  cl : Γ.cl c = some C
  nf : m ∉ Γ.fl c
def noneV (j : Nat) (ds : List V) : List V := ds ++ List.replicate j .non
/-! ### made -/
def rowsArg : D → Option (List PRow)
  | .non => some []
  | d => rowsOf d
def heapW (d : D) : W D := (optW (rowsArg d)).bind fun L => (W.want (L.length ≤ 900)).bind fun _ => W.ret (heapD (sumR L))
theorem heapW_rows (L : List PRow) (h : L.length ≤ 900) : heapW (rowsT L) = W.ret (heapD (sumR L)) := by
  show (optW (rowsOf (rowsT L))).bind _ = _
  rw [rowsOf_T, optW_some, W.ret_bind]
  exact W.want_bind h
theorem sumR_nil : sumR [] = [] := sumR_id List.Pairwise.nil
theorem heap_mk (s : HSig Γ C) {M : List Addr} {H : Hp} {x : V} {d : D} {Q : VK} {E : Ex → Prop} (mu : Mu M H) (hx : Rp ⟨Γ, fe⟩ (ms M H) x d) (q : (heapW d).wp (fun d => ∀ v H', Same H H' → Rp ⟨Γ, fe⟩ (ms M H') v d → Q v H') E) : mkHeap Γ.K C x H Q := by
  have key : ∀ L, ((x = .non ∧ L = []) ∨ Rp ⟨Γ, fe⟩ (ms M H) x (rowsT L)) → L.length ≤ 900 → (∀ v H', Same H H' → Rp ⟨Γ, fe⟩ (ms M H') v (heapD (sumR L)) → Q v H') → mkHeap Γ.K C x H Q := fun L h hL q => by
    have rs : RowS L := by
      rcases h with ⟨_, rfl⟩ | h
      · exact fun _ h => (nomatch h)
      · exact h.rowsE.2
    refine ⟨L, h.imp id fun h => Dp.same ms_sub h.rowsE.1, hL, fun p H' np s' hp => q _ H' s' (rp_heap (Ξ := ⟨Γ, fe⟩) s (mu.same s') (mu.out np) hp rs.sum)⟩
  obtain ⟨L, e, hL, q⟩ := optW_wp q
  by_cases z : d = .non
  · subst z
    cases hx
    cases e
    exact key [] (.inl ⟨rfl, rfl⟩) hL q
  · have e : rowsOf d = some L := by
      cases d with
      | non => exact absurd rfl z
      | _ => exact e
    rw [rowsOf_eq e] at hx
    exact key L (.inr hx) hL q
variable {p0 : Pos} {pe : Env → W D} {kI : Nat} {fI : Addr} {fdI : FuncData}
theorem le_heap1 (s : HSig Γ C) (M : HMk Γ.P Γ.w Γ.K mg base kI C fI fdI) (hP : X.prog = Γ.P) (hw : X.w = Γ.w) (hK : X.K = Γ.K) (hmg : X.mg = mg) (hbs : X.base = base) (hr : Room (kI + 1) X.A) (hg : Gl X "Heap") (ha : LE ⟨Γ, fe⟩ H0 O X e pe)
    (he : starEach [e] X.env = (false, eval e X.env) :: starEach [] X.env := by rfl) (hpl : (backTo pos (starEach [] X.env)).any (·.1) = false := by rfl) :
    LE ⟨Γ, fe⟩ H0 O X (.Call (.Name "Heap" p0) [e] [] pos) fun env => (pe env).bind heapW := by
  refine wkE (pe_heap1 (C := C) (by rw [hP, hw, hK, hmg, hbs]; exact M) hr hg ha he hpl) fun σ H Q ⟨S, A, G, env, E, hA, r, q⟩ => ?_
  rw [hK]
  refine ⟨S, A, G, env, E, hA, r, (pe env).mono (fun d k x H1 g1 r1 hx => ?_) (fun _ z => z) q⟩
  exact heap_mk s r1.muA hx ((heapW d).mono (fun d k v H' s' hv => k v H' (g1.trans (Gr.of s')) (r1.same s') hv) (fun _ z => z) k)
/-! ### == of heaps, len -/
def eqHW (x y : D) : W D := (optW (heapOf x)).bind fun L => (optW (heapOf y)).bind fun M => (W.want (∃ (n : Nat) (b : Int), RowsOk n b L ∧ RowsOk n b M)).bind fun _ => W.ret (.bl (decide (L = M)))
theorem bp_heap {Ξ : Ctx} (s : HSig Ξ.Γ C) {M : List Addr} {H : Hp} {v : V} {L : List PRow} (h : Bp Ξ M H v (heapD L)) : ∃ p, v = .ref p ∧ HeapAt Ξ.K C H p L ∧ RowS L := by
  cases h with
  | rp h =>
    obtain ⟨p, e, h1, h2⟩ := h.heapE s
    exact ⟨p, e, h1.same ms_sub, h2⟩
theorem eqH_ok (s : HSig Γ C) : OpOk ⟨Γ, fe⟩ (rEqH Γ.K C) eqHW := by
  intro M H x y d1 d2 Q E mu hf hx hy q
  obtain ⟨L, e1, q⟩ := optW_wp q
  obtain ⟨N, e2, ⟨n, b, ok1, ok2⟩, q⟩ := optW_wp q
  rw [heapOf_eq e1] at hx
  rw [heapOf_eq e2] at hy
  obtain ⟨a, rfl, ha, _⟩ := bp_heap (Ξ := ⟨Γ, fe⟩) s hx
  obtain ⟨c, rfl, hc, _⟩ := bp_heap (Ξ := ⟨Γ, fe⟩) s hy
  exact ⟨a, c, L, N, n, b, rfl, rfl, ha, hc, ok1, ok2, q _ H (Same.refl H) (.bl _)⟩
variable {a b : Expr} {pb : Env → W D} {kq : Nat} {fq : Addr} {fdq : FuncData}
theorem le_eqH (s : HSig Γ C) (Eq : HSp Γ.P Γ.w Γ.K mg base kq C "__eq__" fq fdq ["self", "other"] (spEqH Γ.K C)) (hP : X.prog = Γ.P) (hw : X.w = Γ.w) (hK : X.K = Γ.K) (hmg : X.mg = mg) (hbs : X.base = base) (hr : Room kq X.A) (ha : LB ⟨Γ, fe⟩ H0 O X a po) (hb : LB ⟨Γ, fe⟩ H0 O X b pb) :
    LE ⟨Γ, fe⟩ H0 O X (.Compare a [.Eq] [b] pos) fun env => (po env).bind fun x => (pb env).bind fun y => eqHW x y :=
  le_cmp (op_eqH Γ.K (by rw [hP, hw, hmg, hbs]; exact Eq) hr hK) (eqH_ok s) (nomark _) ha hb
def lenHW : List D → W D
  | [h] => (optW (heapOf h)).bind fun L => (W.want (L.length ≤ 900)).bind fun _ => W.ret (.int L.length)
  | _ => W.fail
theorem lenH_ok (s : HSig Γ C) : CallOk ⟨Γ, fe⟩ (rLenH Γ.K C) lenHW := by
  intro M H xs ds Q E mu hf hx q
  match ds, hx, q with
  | [d], .cons h1 .nil, q =>
    obtain ⟨L, e1, hL, q⟩ := optW_wp q
    rw [heapOf_eq e1] at h1
    obtain ⟨a, rfl, ha, _⟩ := bp_heap (Ξ := ⟨Γ, fe⟩) s h1
    exact ⟨a, L, rfl, ha, hL, q _ H (Same.refl H) (.int _)⟩
theorem le_lenH (s : HSig Γ C) (Ln : HSp Γ.P Γ.w Γ.K mg base kq C "__len__" fq fdq ["self"] (spLenH Γ.K C)) (hP : X.prog = Γ.P) (hw : X.w = Γ.w) (hK : X.K = Γ.K) (hmg : X.mg = mg) (hbs : X.base = base) (hr : Room (kq + 1) X.A) (hg : Gl X "len") (hm : X.mg "len" = none) (ha : LAB ⟨Γ, fe⟩ H0 O X [e] pa)
    (he : starEach [e] X.env = (false, eval e X.env) :: starEach [] X.env := by rfl) (hpl : (backTo pos (starEach [] X.env)).any (·.1) = false := by rfl) :
    LE ⟨Γ, fe⟩ H0 O X (.Call (.Name "len" p0) [e] [] pos) fun env => (pa env).bind lenHW :=
  wkE (pe_callB (call_lenH Γ.K (by rw [hP, hw, hmg, hbs]; exact Ln) hr hK) hg hm PySem.boot_len ha (by decide) (by decide) he hpl) (le_args (lenH_ok s))
/-! ### str of an own object -/
structure StrV (Γ : Sig) (mg : Str → Option Value) (base : Heap) (k : Nat) (c : Nat) (C f : Addr) (fd : FuncData) (p : List D → W D) : Prop where
  ok : FnOk Γ.P Γ.w Γ.K mg base CX0 k f fd ["self"] (liF Γ p)
  fi : PySem.W.findIn Γ.K (.ref C) "__str__" = some (some (.ref f))
  fn : PySem.W.isFn Γ.K (.ref f) = true
  b : Binds Γ.K fd ["self"] []
  cl : Γ.cl c = some C
def rStrO (Γ : Sig) (C : Addr) (p : List D → W D) : List V → Hp → VK → Prop := fun xs H Q => ∃ a dx fs, xs = [.ref a] ∧ H a = some (.ins C dx fs) ∧ liF Γ p [.ref a] H (fun v H' => ∃ y, v = .str y ∧ Q v H') fun _ _ _ => True
theorem call_strO (T : StrV Γ mg base k c C f fd p) (hP : X.prog = Γ.P) (hw : X.w = Γ.w) (hK : X.K = Γ.K) (hmg : X.mg = mg) (hbs : X.base = base) (hr : Room (k + 2) X.A) : CallR X (.type "str") (rStrO Γ C p) := by
  intro pins s σ H xs us Q I r h
  obtain ⟨a, dx, fs, rfl, ha, h⟩ := h
  obtain ⟨u, rfl, ru⟩ := vals1 r
  cases ru
  obtain ⟨mA, J, _⟩ := ins_get I.hok ha
  obtain ⟨od, J, _⟩ := J.look
  have hr1 : Room (k + 1) X.A.in1 := hr.in1
  have hr2 : Room k X.A.in1.in1 := hr1.in1
  refine PySem.W.kso_call hr2.units0 I.kIn J (by rw [hK]; exact T.fi) (by rw [hK]; exact T.fn) ?_
  refine wpAny_mono (run_in (E := fun _ _ _ => True) (by rw [hP, hw, hK, hmg, hbs]; exact T.ok) hr2 rfl (by rw [hK]; exact T.b) I (vs := [.ref a]) (.cons rfl .nil) h) (fun r s' g => ?_) fun _ _ z => z
  obtain ⟨v, H', I', rv, y, rfl, q⟩ := g
  obtain ⟨t, rfl⟩ := rv
  exact ⟨.str y, H', I', ⟨t, rfl⟩, q⟩
theorem le_strO (T : StrV Γ mg base k c C f fd p) (hP : X.prog = Γ.P) (hw : X.w = Γ.w) (hK : X.K = Γ.K) (hmg : X.mg = mg) (hbs : X.base = base) (hr : Room (k + 2) X.A) (hg : Gl X "str") (hm : X.mg "str" = none) (ha : LE ⟨Γ, fe⟩ H0 O X e po)
    (hs : starEach [e] X.env = (false, eval e X.env) :: starEach [] X.env := by rfl) (hpl : (backTo pos (starEach [] X.env)).any (·.1) = false := by rfl) :
    LE ⟨Γ, fe⟩ H0 O X (.Call (.Name "str" p0) [e] [] pos) fun env => (po env).bind fun d => (objW c d).bind fun d => (p [d]).bind fun r => (asS r).bind fun y => W.ret (.str y) := by
  refine wkE (pe_callTy (call_strO T hP hw hK hmg hbs hr) hg hm (by decide +kernel) (pa_cons ha pa_nil hs) (by decide) (by decide) hs hpl) fun σ H Q ⟨S, A, G, env, E, hA, r, q⟩ => ?_
  refine ⟨S, A, G, env, E, hA, r, (po env).mono (fun d k x H1 g1 r1 hx => ?_) (fun _ z => z) q⟩
  obtain ⟨l, rfl, k⟩ := objW_wp k
  have hx0 := hx
  cases hx with
  | obj h1 h2 hl =>
    rename_i a C' dx xs
    have eC : C' = C := by
      have := T.cl.symm.trans h2
      exact (Option.some.inj this).symm
    subst eC
    refine ⟨a, dx, _, rfl, ms_sub _ _ h1, fe, S ++ A.map (·.2), [.obj c l], E, r1.muA, r1.ffM, r1.fi, .cons hx0 .nil, fun _ _ _ _ _ _ _ _ _ => trivial, (p _).mono (fun d k v H3 g3 f3 hv3 => ?_) (fun _ z => z) k⟩
    obtain ⟨y, rfl, k⟩ := asS_wp k
    have hv4 := hv3
    cases hv3
    exact ⟨y, rfl, k _ H3 (g1.trans g3) (r1.grow g3 f3) hv4⟩
/-! ### a field read -/
def fldW (c i : Nat) (d : D) : W D := (objW c d).bind fun d => match d with
  | .obj _ l => optW l[i]?
  | _ => W.fail
theorem lookup_zipI : ∀ {ks : List Str} {xs : List V} {i : Nat} {f : Str} {v : V}, ks.Nodup → ks[i]? = some f → xs[i]? = some v → (ks.zip xs).lookup f = some v
  | [], _, _, _, _, _, h, _ => by simp at h
  | _ :: _, [], _, _, _, _, _, h => by simp at h
  | k :: ks, x :: xs, 0, f, v, _, h1, h2 => by
    simp at h1 h2
    subst h1
    subst h2
    simp [List.lookup_cons]
  | k :: ks, x :: xs, i + 1, f, v, nd, h1, h2 => by
    obtain ⟨n1, n2⟩ := List.nodup_cons.mp nd
    rw [List.zip_cons_cons, List.lookup_cons]
    have h1 : ks[i]? = some f := by simpa using h1
    rw [show (f == k) = false from beq_eq_false_iff_ne.mpr fun z => n1 (by rw [← z]; exact List.mem_of_getElem? h1)]
    exact lookup_zipI n2 h1 (by simpa using h2)
theorem le_fld {i : Nat} {fn : Str} (hK : X.K = Γ.K) (T : Cls Γ.K C) (Nn : NoAttr Γ.K C fn) (hcl : Γ.cl c = some C) (hnd : (Γ.fl c).Nodup) (hi : (Γ.fl c)[i]? = some fn) (ho : LE ⟨Γ, fe⟩ H0 O X o po) (hb : attributeBase o fn X.env (eval o X.env) = eval o X.env) :
    LE ⟨Γ, fe⟩ H0 O X (.Attribute o fn pos) fun env => (po env).bind (fldW c i) := by
  refine wkE (pe_fld ho hb) fun σ H Q ⟨S, A, G, env, E, hA, r, q⟩ => ?_
  refine ⟨S, A, G, env, E, hA, r, (po env).mono (fun d k x H1 g1 r1 hx => ?_) (fun _ z => z) q⟩
  obtain ⟨l, rfl, k⟩ := objW_wp k
  obtain ⟨d, hd, k⟩ := optW_wp k
  cases hx with
  | obj h1 h2 hl =>
    rename_i a C' dx xs
    have eC : C' = C := by
      have := hcl.symm.trans h2
      exact (Option.some.inj this).symm
    subst eC
    obtain ⟨v, hv, rv⟩ := hl.get hd
    exact ⟨a, _, dx, _, v, rfl, ms_sub _ _ h1, by rw [hK]; exact T, by rw [hK]; exact Nn, lookup_zipI hnd hi hv, k v H1 g1 r1 rv⟩
end
end LP
/-! Texts with things in them; a heap taken out of another, or what lacks. -/
namespace LP
open PySem PySem.Spec PyProof.Rows L2 PK RZ
/-! ### f'..' -/
def fmtW : D → W D
  | .str y => (W.want (y.length ≤ sizeLine)).bind fun _ => W.ret (.str y)
  | .int i => (W.want (i.natAbs.log2 < 1920)).bind fun _ => W.ret (.str (toString i))
  | _ => W.fail
def jsW : List (Env → W D) → Env → Str → W D
  | [], _, acc => W.ret (.str acc)
  | p :: ps, env, acc => (p env).bind fun d => (asS d).bind fun y => (W.want ((acc ++ y).length ≤ sizeLine)).bind fun _ => jsW ps env (acc ++ y)
section
variable {X : Cx} {Ξ : Ctx} {H0 : Hp} {O : List Nat} {e : Expr} {es : List Expr} {pos : Pos} {pa : Env → W D} {ps : List (Env → W D)}
theorem le_fmt (h : LE Ξ H0 O X e pa) : LE Ξ H0 O X (.FormattedValue e (-1) none pos) fun env => (pa env).bind fmtW :=
  wkE (pe_fmt h) fun σ H Q ⟨S, A, G, env, E, hA, r, q⟩ => ⟨S, A, G, env, E, hA, r, (pa env).mono (fun d k v H1 g1 r1 hv => by
    cases d with
    | str y =>
      obtain ⟨h1, k⟩ := k
      have hv' := hv
      cases hv
      exact .inl ⟨y, rfl, h1, k _ H1 g1 r1 hv'⟩
    | int i =>
      obtain ⟨h1, k⟩ := k
      cases hv
      exact .inr ⟨i, rfl, h1, k _ H1 g1 r1 (.str _ (strOk_int i))⟩
    | _ => exact k.elim) (fun _ z => z) q⟩
inductive LJ (Ξ : Ctx) (H0 : Hp) (O : List Nat) (X : Cx) : List Expr → List (Env → W D) → Prop
  | nil : LJ Ξ H0 O X [] []
  | cons {e : Expr} {es : List Expr} {p : Env → W D} {ps : List (Env → W D)} : LE Ξ H0 O X e p → LJ Ξ H0 O X es ps → LJ Ξ H0 O X (e :: es) (p :: ps)
theorem LJ.pj : ∀ {es : List Expr} {ps : List (Env → W D)}, LJ Ξ H0 O X es ps → PJ X es (ps.map (liE Ξ H0 O))
  | _, _, .nil => .nil
  | _, _, .cons h r => .cons h r.pj
theorem js_reads : ∀ (ps : List (Env → W D)) (acc : Str) (σ : L2.St) (H : Hp) (Q : VK), PyData.strOk acc = true → liE Ξ H0 O (fun env => jsW ps env acc) σ H Q → tJs (ps.map (liE Ξ H0 O)) acc σ H fun out H1 => Q (.str out) H1
  | [], acc, σ, H, Q, ok, ⟨S, A, G, env, E, hA, r, q⟩ => q (.str acc) H (Gr.refl H) r (.str acc ok)
  | p :: ps, acc, σ, H, Q, ok, ⟨S, A, G, env, E, hA, r, q⟩ => by
    refine ⟨S, A, G, env, E, hA, r, (p env).mono (fun d k v H1 g1 r1 hv => ?_) (fun _ z => z) q⟩
    obtain ⟨y, rfl, hl, k⟩ := asS_wp k
    cases hv with
    | str _ oy => exact ⟨y, rfl, hl, js_reads ps (acc ++ y) σ H1 Q (strOk_app ok oy) ⟨S, A, G, env, E, hA, r1, W.mono _ (fun d k v H2 g2 r2 hv => k v H2 (g1.trans g2) r2 hv) (fun _ z => z) k⟩⟩
theorem le_joined {v1 v2 : Expr} {rest : List Expr} (h : LJ Ξ H0 O X (v1 :: v2 :: rest) ps) : LE Ξ H0 O X (.JoinedStr (v1 :: v2 :: rest) pos) fun env => jsW ps env Str.empty :=
  wkE (pe_joined h.pj) fun σ H Q q => js_reads ps Str.empty σ H Q (by decide +kernel) q
end
/-! ### a name without a thing may be set, and set free -/
/-! ### try: x = o.less(e) / except .. as n: x = n.lacking -/
structure LessV (Γ : Sig) (mg : Str → Option Value) (base : Heap) (k : Nat) (C CN f : Addr) (fd : FuncData) : Prop where
  ok : FnOk Γ.P Γ.w Γ.K mg base (L2.CX Γ.P Γ.w) k f fd ["self", "other"] (liF Γ lessW)
  cls : Cls Γ.K C
  me : Meth Γ.K C "less" f
  b : Binds Γ.K fd ["self", "other"] []
  s : HSig Γ C
  z : ESig Γ CN
/-- an error's class, as it is caught by x -/
structure ErrV (K : PySem.W.Frag) (mg : Str → Option Value) (CN : Addr) (x : Str) (CF : Addr) : Prop where
  g : mg x = some (.ref CF)
  te : PySem.W.exmOne K (.ref CN) (.ref CF) = some true
  xf : XfC K CN
  no : PySem.W.findIn K (.ref CN) "lacking" = some none
section
variable {X : Cx} {Γ : Sig} {fe : Fd} {H0 : Hp} {O Ob : List Nat} {k i j : Nat} {C CN CF f : Addr} {fd : FuncData} {o e : Expr} {po pe : Env → W D} {mg : Str → Option Value} {base : Heap} {x n cn : Str} {p1 p2 p3 p4 p5 apos cpos spos np pos pos' : Pos}
end
end LP
namespace LP
open PySem PySem.Spec PyProof.Rows L2 PK RZ
section
variable {X : Cx} {Ξ : Ctx} {H0 : Hp} {O Ob : List Nat} {b : Expr} {pos : Pos} {pb : Env → W D}
/-- x, y = [], e: x is owned -/
theorem ls_parN {i j : Nat} {x y : Str} {px py pt lp : Pos} {kt k2 pt2} (hc : X.calm = true) (hN : X.N.Nodup) (hi : X.N[i]? = some x) (hj : X.N[j]? = some y) (hij : i ≠ j) (hx : X.env.scope.names.lookup x = some .local) (hy : X.env.scope.names.lookup y = some .local)
    (hb : LE Ξ H0 O X b pb) (hw : swappedStores [.Tuple [.Name x px, .Name y py] kt pt] (.Tuple [.List [] lp, b] k2 pt2) X.env = pure (some [x, y])) (hiO : i ∉ O) (hjO : j ∉ O)
    (hs : swapsWithSole [.Tuple [.Name x px, .Name y py] kt pt] (.Tuple [.List [] lp, b] k2 pt2) pos.line X.env = pure false := by rfl)
    (hst : starEach [.List [] lp, b] X.env = (false, eval (.List [] lp) X.env) :: starEach [b] X.env := by rfl) (hst2 : starEach [b] X.env = (false, eval b X.env) :: starEach [] X.env := by rfl) :
    LS Ξ H0 O (i :: O) Ob X (.Assign [.Tuple [.Name x px, .Name y py] kt pt] (.Tuple [.List [] lp, b] k2 pt2) pos) fun env => (pb env).bind fun d => (W.want (i < env.length)).bind fun _ => W.ret (.nx ((env.set i (some (.lst []))).set j (some d))) := by
  refine wkS (ps_par hc hN hi hj hij hx hy (pa_cons (pe_lst pa_nil) (pa_cons hb pa_nil hst2) hst) hw hs) fun De σ H ⟨S, A, G, env, E, hA, r, k⟩ => ?_
  refine ⟨Nat.zero_le _, fun l nl => ?_⟩
  have r1 := r.mask nl (o := .lst []) trivial
  refine ⟨l :: S, A, G, env, E, hA, r1, (pb env).mono (fun d k u H2 g2 r2 hu => ?_) (fun _ z => z) k⟩
  have n : ∀ {i : Nat}, i ∉ O → ∀ a, (i, a) ∉ A := fun h a ha => h (by rw [← hA]; exact List.mem_map.mpr ⟨_, ha, rfl⟩)
  have nf := ff_out r.fi nl
  have el : H2 l = some (.lst []) := g2 l _ nf upd_same
  have g : Gr Ξ H H2 := Gr.trans (Gr.of (same_new (Same.refl H) nl)) g2
  have R := r.own (d := .lst []) (n hiO) k.1 nl g r2.fi (by rw [el]; exact .lst .nil)
  refine ⟨_, _, rfl, k.2 _ _ H2 (by rw [List.map_cons, hA]) (R.set (fun a ha => ?_) (hu.same (ms_mono fun b hb => ?_)))⟩
  · rcases List.mem_cons.mp ha with e | ha
    · cases e
      exact hij rfl
    · exact n hjO a ha
  · rw [List.map_cons] at hb
    rcases List.mem_append.mp hb with hb | hb
    · exact List.mem_append_left _ (List.mem_cons_of_mem _ hb)
    · rcases List.mem_cons.mp hb with hb | hb
      · rw [hb]
        exact List.mem_append_left _ List.mem_cons_self
      · exact List.mem_append_right _ hb
end
end LP
namespace LP
open PySem PySem.Spec PyProof.Rows L2 PK LP
def bLRows_1 (env : Env) : W Fl := (thenW (((getW env 1).bind fun x => (((getW env 0).bind fun d => ((((getW env 1).bind fun d => (W.ret []).bind fun ds => W.ret (d :: ds)).bind lenW).bind fun d => (W.ret []).bind fun ds => W.ret (d :: ds)).bind fun ds => W.ret (d :: ds)).bind drawW).bind fun y => ixW x y).bind fun d => W.ret (.nx (env.set 6 (some d))))
  fun env => (thenW (((getW env 2).bind fun x => (((getW env 0).bind fun d => ((((getW env 2).bind fun d => (W.ret []).bind fun ds => W.ret (d :: ds)).bind lenW).bind fun d => (W.ret []).bind fun ds => W.ret (d :: ds)).bind fun ds => W.ret (d :: ds)).bind drawW).bind fun y => ixW x y).bind fun d => W.ret (.nx (env.set 7 (some d))))
  fun env => ((((getW env 6).bind fun d => ((getW env 7).bind fun d => ((((getW env 0).bind fun d => (W.ret []).bind fun ds => W.ret (d :: ds)).bind fLMany).bind fun d => (W.ret []).bind fun ds => W.ret (d :: ds)).bind fun ds => W.ret (d :: ds)).bind fun ds => W.ret (d :: ds)).bind tupW).bind fun d => putW env 4 (appW d))))
def bLRows (env : Env) : W Fl := (thenW (((W.ret []).bind lstW).bind fun d => (W.want (4 < env.length)).bind fun _ => W.ret (.nx (env.set 4 (some d))))
  fun env => (thenW ((((((getW env 0).bind fun d => (((getW env 3).bind fun x => (W.ret (.int 1)).bind fun y => addW x y).bind fun d => (W.ret []).bind fun ds => W.ret (d :: ds)).bind fun ds => W.ret (d :: ds)).bind drawW).bind fun d => (W.ret []).bind fun ds => W.ret (d :: ds)).bind range1W).bind fun ds => forW (fun d env => W.ret (env.set 5 (some d))) (fun env => (bLRows_1 env)) ds env)
  fun env => ((((getW env 4).bind fun d => (W.ret []).bind fun ds => W.ret (d :: ds)).bind tupleW).bind fun d => W.ret (.rt d))))
def fLRows : List D → W D := runB 4 8 bLRows
def bSummed_1 (env : Env) : W Fl := (((getW env 4).bind fun x => (((((lcD (fun d env => W.ret (env.set 3 (some d))) (fun env => ((((getW env 3).bind fun d => (W.ret none).bind fun l => ((W.ret (.int 2)).bind partW).bind fun u => slW d l u).bind fun x => (getW env 4).bind fun y => eqW x y).bind asB)) (fun env => ((getW env 3).bind fun x => (W.ret (.int 2)).bind fun y => ixW x y)) [3] (fun env => ((getW env 0).bind walkTW)) env).bind fun d => (W.ret []).bind fun ds => W.ret (d :: ds)).bind sumW).bind fun d => (W.ret []).bind fun ds => W.ret (d :: ds)).bind tupW).bind fun y => addW x y).bind fun d => putW env 1 (appW d))
def bSummed_2 (env : Env) : W Fl := (thenW ((lcD (fun d env => W.ret (env.set 5 (some d))) (fun env => (((getW env 5).bind fun x => (getW env 4).bind fun y => neW x y).bind asB)) (fun env => (getW env 5)) [5] (fun env => ((getW env 2).bind walkLW)) env).bind fun d => W.ret (.nx (env.set 2 (some d))))
  fun env => (bSummed_1 env))
def bSummed_3 (env : Env) : W Fl := (thenW ((((getW env 2).bind fun d => (W.ret []).bind fun ds => W.ret (d :: ds)).bind minLW).bind fun d => W.ret (.nx (env.set 4 (some d))))
  fun env => (bSummed_2 env))
def bSummed_4 (env : Env) : W Fl := (thenW (whileW (fun env => (((getW env 2).bind fun x => ((W.ret []).bind lstW).bind fun y => neW x y).bind asB)) (fun env => (bSummed_3 env)) env)
  fun env => ((((getW env 1).bind fun d => (W.ret []).bind fun ds => W.ret (d :: ds)).bind tupleW).bind fun d => W.ret (.rt d)))
def bSummed (env : Env) : W Fl := (thenW ((lcD (fun d env => W.ret (env.set 3 (some d))) (fun env => (W.ret true)) (fun env => ((getW env 3).bind fun d => (W.ret none).bind fun l => ((W.ret (.int 2)).bind partW).bind fun u => slW d l u)) [3] (fun env => ((getW env 0).bind walkTW)) env).bind fun d => (W.want (1 < env.length)).bind fun _ => W.ret (.nx ((env.set 1 (some (.lst []))).set 2 (some d))))
  fun env => (bSummed_4 env))
def fSummed : List D → W D := runB 1 6 bSummed
def bStr (env : Env) : W Fl := (thenW (((((((getW env 0).bind (fldW 0 0)).bind fun d => (W.ret []).bind fun ds => W.ret (d :: ds)).bind lenW).bind fun x => (W.ret (.int 0)).bind fun y => eqW x y).bind asB).bind fun k => W.ite k ((W.ret (.str "-")).bind fun d => W.ret (.rt d)) (W.ret (.nx env)))
  fun env => (((W.ret (.str " ")).bind fun x => (asS x).bind fun a => (lcD (tupG 3 (gsW (fun d env => W.ret (env.set 1 (some d))) (gsW (fun d env => W.ret (env.set 2 (some d))) (gsW (fun d env => W.ret (env.set 3 (some d))) (fun ds env => match ds with | [] => W.ret env | _ => W.fail))))) (fun env => (W.ret true)) (fun env => (jsW [(fun env => ((getW env 1).bind fmtW)), (fun env => (W.ret (.str "/"))), (fun env => ((getW env 2).bind fmtW)), (fun env => (W.ret (.str ":"))), (fun env => ((getW env 3).bind fmtW))] env Str.empty)) [1, 2, 3] (fun env => (((getW env 0).bind (fldW 0 0)).bind walkTW)) env).bind fun y => joinW a y).bind fun d => W.ret (.rt d)))
def fStr : List D → W D := runB 1 4 bStr
end LP
/-! len of a set of texts. -/
namespace LP
open PySem PySem.Spec PyProof.Rows L2 PK RZ
section
variable {X : Cx} {Ξ : Ctx} {H0 : Hp} {O : List Nat} {e : Expr} {ps : Env → W (List D)}
end
end LP
namespace LP
open PySem PySem.Spec PyProof.Rows L2 PK RZ
/-- the classes: heaps, the error -/
def heapSig (P : Program) (w : World) (K : PySem.W.Frag) (C CN : Addr) : Sig := isFeedSig P w K (fun n => match n with | 0 => some C | 1 => some CN | _ => none) (fun n => match n with | 0 => [("held" : Str)] | 1 => [("lacking" : Str)] | _ => [])
end LP
/-! Dicts of texts, sets made by a comprehension, by value. -/
namespace LP
open PySem PySem.Spec PyProof.Rows L2 PK RZ
/-! ### dicts of texts -/
section
variable {X : Cx} {Ξ : Ctx} {H0 : Hp} {O : List Nat}
variable {elt kx tg iter : Expr} {ifs : List Expr} {scope : Scope} {own : List (Str × Nat)} {pi : Env → W (List D)} {gW : D → Env → W Env} {tW : Env → W Bool} {kW eW : Env → W D} {pos : Pos}
/-! ### d.get(k, x) -/
end
end LP
/-! A set of texts made by a comprehension; calls by names and with defaults; != of heaps. -/
namespace LP
open PySem PySem.Spec PyProof.Rows L2 PK RZ
section
variable {X : Cx} {Ξ : Ctx} {H0 : Hp} {O : List Nat}
variable {elt kx tg iter : Expr} {scope : Scope} {own : List (Str × Nat)} {pi : Env → W (List D)} {gW : D → Env → W Env} {eW : Env → W D} {pos : Pos}
end
/-! ### calls by names, with defaults that are none -/
def fillV (a b : Nat) (vs zs : List V) : List V := vs ++ (List.replicate a .non ++ (zs ++ List.replicate b .non))
structure CalN (Γ : Sig) (mg : Str → Option Value) (base : Heap) (k : Nat) (x : Str) (f : Addr) (fd : FuncData) (ps : List Str) (n : Nat) (ks : List Str) (a b : Nat) (p : List D → W D) : Prop where
  ok : FnOk Γ.P Γ.w Γ.K mg base CX0 k f fd ps (liF Γ p)
  g : mg x = some (.ref f)
  kp : PySem.W.keepIn Γ.K (.ref f) = true
  b : KB Γ.K fd ps n ks (fillV a b)
section
variable {X : Cx} {Γ : Sig} {fe : Fd} {H0 : Hp} {O : List Nat} {k n a b : Nat} {f : Addr} {fd : FuncData} {ps ks : List Str} {e : Expr} {es : List Expr} {kws : List Keyword} {x : Str} {pp pos kpos : Pos} {p : List D → W D} {pa pk : Env → W (List D)} {pe : Env → W D} {mg : Str → Option Value} {base : Heap} {nm : Option Str}
/-! ### != of heaps -/
def neHW (x y : D) : W D := (optW (heapOf x)).bind fun L => (optW (heapOf y)).bind fun M => (W.want (∃ (n : Nat) (b : Int), RowsOk n b L ∧ RowsOk n b M)).bind fun _ => W.ret (.bl (!decide (L = M)))
variable {C : Addr} {l rr : Expr} {po pb : Env → W D} {kq : Nat} {fq : Addr} {fdq : FuncData}
theorem neH_ok (s : HSig Γ C) : OpOk ⟨Γ, fe⟩ (rNeH Γ.K C) neHW := by
  intro M H x y d1 d2 Q E mu hf hx hy q
  obtain ⟨L, e1, q⟩ := optW_wp q
  obtain ⟨N, e2, ⟨n, b, ok1, ok2⟩, q⟩ := optW_wp q
  rw [heapOf_eq e1] at hx
  rw [heapOf_eq e2] at hy
  obtain ⟨a, rfl, ha, _⟩ := bp_heap (Ξ := ⟨Γ, fe⟩) s hx
  obtain ⟨c, rfl, hc, _⟩ := bp_heap (Ξ := ⟨Γ, fe⟩) s hy
  exact ⟨a, c, L, N, n, b, rfl, rfl, ha, hc, ok1, ok2, q _ H (Same.refl H) (.bl _)⟩
theorem le_neH (s : HSig Γ C) (Eq : HSp Γ.P Γ.w Γ.K mg base kq C "__eq__" fq fdq ["self", "other"] (spEqH Γ.K C)) (hne : PySem.W.findIn Γ.K (.ref C) "__ne__" = some (some (.builtin "object.__ne__"))) (hob : PySem.W.subIn Γ.K (.ref C) (.type "object") = some true)
    (hP : X.prog = Γ.P) (hw : X.w = Γ.w) (hK : X.K = Γ.K) (hmg : X.mg = mg) (hbs : X.base = base) (hr : Room (kq + 1) X.A) (ha : LB ⟨Γ, fe⟩ H0 O X l po) (hb : LB ⟨Γ, fe⟩ H0 O X rr pb) :
    LE ⟨Γ, fe⟩ H0 O X (.Compare l [.NotEq] [rr] pos) fun env => (po env).bind fun x => (pb env).bind fun y => neHW x y :=
  le_cmp (op_neH Γ.K (by rw [hP, hw, hmg, hbs]; exact Eq) hne hob hr hK) (neH_ok s) (nomark _) ha hb
end
end LP
namespace LP
open PySem PySem.Spec PyProof.Rows L2 PK RZ
def intW : List D → W D
  | [.bl b] => W.ret (.int (if b then 1 else 0))
  | [.int i] => W.ret (.int i)
  | _ => W.fail
section
variable {X : Cx} {Ξ : Ctx} {H0 : Hp} {O : List Nat} {e : Expr} {ps : Env → W (List D)}
theorem int_ok : CallOk Ξ (fun xs H Q => (∃ i, xs = [.int i] ∧ Q (.int i) H) ∨ ∃ k, xs = [.bl k] ∧ Q (.int (if k then 1 else 0)) H) intW := by
  intro M H xs ds Q E mu hf h q
  match ds, h, q with
  | [.bl b], .cons h .nil, q => exact .inr ⟨b, by rw [h.blE], at_int _ q⟩
  | [.int b], .cons h .nil, q => exact .inl ⟨b, by rw [h.intE], at_int _ q⟩
theorem le_intOf {p pos : Pos} (hg : Gl X "int") (hm : X.mg "int" = none) (ha : LAB Ξ H0 O X [e] ps) (he : starEach [e] X.env = [(false, eval e X.env)] := by rfl) : LE Ξ H0 O X (.Call (.Name "int" p) [e] [] pos) fun env => (ps env).bind intW :=
  le_callTy call_int1 int_ok hg hm (by decide +kernel) ha (by decide) (by decide) he rfl
end
end LP
/-! repr of an own object. -/
namespace LP
open PySem PySem.Spec PyProof.Rows L2 PK RZ
structure ReprV (Γ : Sig) (mg : Str → Option Value) (base : Heap) (k : Nat) (c : Nat) (C f : Addr) (fd : FuncData) (p : List D → W D) : Prop where
  ok : FnOk Γ.P Γ.w Γ.K mg base CX0 k f fd ["self"] (liF Γ p)
  fi : PySem.W.findIn Γ.K (.ref C) "__repr__" = some (some (.ref f))
  fn : PySem.W.isFn Γ.K (.ref f) = true
  b : Binds Γ.K fd ["self"] []
  cl : Γ.cl c = some C
section
variable {X : Cx} {Γ : Sig} {fe : Fd} {H0 : Hp} {O : List Nat} {k c : Nat} {C f : Addr} {fd : FuncData} {e : Expr} {po : Env → W D} {p : List D → W D} {mg : Str → Option Value} {base : Heap} {p0 pos : Pos}
theorem call_reprO (T : ReprV Γ mg base k c C f fd p) (hP : X.prog = Γ.P) (hw : X.w = Γ.w) (hK : X.K = Γ.K) (hmg : X.mg = mg) (hbs : X.base = base) (hr : Room (k + 2) X.A) : CallR X (.builtin "repr") (rStrO Γ C p) := by
  intro pins s σ H xs us Q I r h
  obtain ⟨a, dx, fs, rfl, ha, h⟩ := h
  obtain ⟨u, rfl, ru⟩ := vals1 r
  cases ru
  obtain ⟨mA, J, _⟩ := ins_get I.hok ha
  obtain ⟨od, J, _⟩ := J.look
  have hr1 : Room (k + 1) X.A.in1 := hr.in1
  obtain ⟨m, F⟩ := I.fr
  refine PySem.W.repr_K hr1.units0 F I.mod.kin J (by rw [hK]; exact T.fi) (by rw [hK]; exact T.fn) ?_
  refine wpAny_mono (run_in (E := fun _ _ _ => True) (by rw [hP, hw, hK, hmg, hbs]; exact T.ok) (hr1.mono (by omega)) rfl (by rw [hK]; exact T.b) I (vs := [.ref a]) (.cons rfl .nil) h) (fun r s' g => ?_) fun _ _ z => z
  obtain ⟨v, H', I', rv, y, rfl, q⟩ := g
  obtain ⟨t, rfl⟩ := rv
  exact ⟨.str y, H', I', ⟨t, rfl⟩, q⟩
theorem le_reprO (T : ReprV Γ mg base k c C f fd p) (hP : X.prog = Γ.P) (hw : X.w = Γ.w) (hK : X.K = Γ.K) (hmg : X.mg = mg) (hbs : X.base = base) (hr : Room (k + 2) X.A) (hg : Gl X "repr") (hm : X.mg "repr" = none) (ha : LE ⟨Γ, fe⟩ H0 O X e po)
    (hs : starEach [e] X.env = (false, eval e X.env) :: starEach [] X.env := by rfl) (hpl : (backTo pos (starEach [] X.env)).any (·.1) = false := by rfl) :
    LE ⟨Γ, fe⟩ H0 O X (.Call (.Name "repr" p0) [e] [] pos) fun env => (po env).bind fun d => (objW c d).bind fun d => (p [d]).bind fun r => (asS r).bind fun y => W.ret (.str y) := by
  refine wkE (pe_callB (call_reprO T hP hw hK hmg hbs hr) hg hm (by decide +kernel) (pa_cons ha pa_nil hs) (by decide) (by decide) hs hpl) fun σ H Q ⟨S, A, G, env, E, hA, r, q⟩ => ?_
  refine ⟨S, A, G, env, E, hA, r, (po env).mono (fun d k x H1 g1 r1 hx => ?_) (fun _ z => z) q⟩
  obtain ⟨l, rfl, k⟩ := objW_wp k
  have hx0 := hx
  cases hx with
  | obj h1 h2 hl =>
    rename_i a C' dx xs
    have eC : C' = C := by
      have := T.cl.symm.trans h2
      exact (Option.some.inj this).symm
    subst eC
    refine ⟨a, dx, _, rfl, ms_sub _ _ h1, fe, S ++ A.map (·.2), [.obj c l], E, r1.muA, r1.ffM, r1.fi, .cons hx0 .nil, fun _ _ _ _ _ _ _ _ _ => trivial, (p _).mono (fun d k v H3 g3 f3 hv3 => ?_) (fun _ z => z) k⟩
    obtain ⟨y, rfl, k⟩ := asS_wp k
    have hv4 := hv3
    cases hv3
    exact ⟨y, rfl, k _ H3 (g1.trans g3) (r1.grow g3 f3) hv4⟩
end
end LP
/-! repr of a pair: an own thing that shows itself, and data. -/
namespace PK
open PySem PySem.Spec PyProof.Rows PySem.Calls
section
variable {prog : Program} {w : World} {A : Around} {E : Value → Shared → Prop} {s : Shared} {K : PySem.W.Frag} {a x C f : Addr} {o : Obj} {n : Nat} {u v : Value} {ox : Obj} {od : Option Obj}
/-- which method shows an own thing -/
theorem bound_own {M : Model} {A : Around} {name : Str} {Q : Option (Value × List Value) → Shared → Prop} (X : K.In s.heap) (I : PySem.W.InstAt s.heap x ox C od) (hs : PySem.W.findIn K (.ref C) name = some (some (.ref f))) (hf : PySem.W.isFn K (.ref f) = true)
    (h : Q (some (.ref f, [.ref x])) s) : wpAny M A (bindSpecialIfBound? (.ref x) name) Q E s := by
  unfold bindSpecialIfBound?
  refine wpAny_bind (wpAny_bind (I.type.here ((PySem.W.looks_findIn X hs).here ?_)))
  have b := PySem.W.bind_fn (M := M) X (Value.ref x) (beq_iff_eq.mp hf)
  refine wpAny_bind (wpAny_askSetting (wpAny_ite ?_))
  split
  · exact wpAny_bind (b.here (wpAny_pure h))
  · exact wpAny_tryCatch (wpAny_bind (b.here (wpAny_pure h)))
/-- an own thing, shown within another -/
theorem own_shown {b : Nat} {Q : Str → Shared → Prop} (hb : b ≤ sizeLine) (hu : A.units < cLine) (X : K.In s.heap) (I : PySem.W.InstAt s.heap x ox C od) (hs : PySem.W.findIn K (.ref C) "__repr__" = some (some (.ref f))) (hf : PySem.W.isFn K (.ref f) = true)
    (h : wpAny (model prog w) A (call (.ref f) [.ref x]) (fun r s' => ∃ t k, r = .str t k ∧ Q t s') E s) : wpAny (model prog w) A (pyReprUnder b (.ref x)) Q E s := by
  refine wpAny_pyReprUnder_ref hb ?_
  unfold pyReprObjUnder pyReprObjBy
  refine wpAny_bind (wpAny_cRoomFor hu ?_)
  refine wpAny_bind (wpAny_bind (I.type.here ((PySem.W.looks_findIn X hs).here ?_)))
  show wpAny _ _ (if (some (Value.ref f)).isNone = true then _ else _) _ _ _
  rw [if_neg (by simp)]
  refine wpAny_bind ?_
  unfold callSpecialIfBoundBy?
  refine wpAny_holding (wpAny_bind (bound_own X I hs hf ?_))
  refine wpAny_bind (wpAny_mono h (fun r s' h' => ?_) fun _ _ z => z)
  obtain ⟨t, k, rfl, q⟩ := h'
  refine wpAny_pure ?_
  refine wpAny_bind (wpAny_isInstance (T := "str") (b := true) rfl isSubtype_str_str ?_)
  exact wpAny_pure ⟨_, _, rfl, q⟩
end
end PK
/-! repr of a pair by value: an own object and data. -/
namespace LP
open PySem PySem.Spec PyProof.Rows L2 PK RZ
/-- the pair at a: the own thing at x, data d -/
structure PairAt (K : PySem.W.Frag) (C : Addr) (a x : Addr) (v : V) (d : PyData) (H : Hp) : Prop where
  tup : SqT K H a [.ref x, v]
  ins : ∃ dx fs, H x = some (.ins C dx fs)
  dp : Dp K H v d
section
variable {X : Cx} {Γ : Sig} {fe : Fd} {H0 : Hp} {O : List Nat} {k c : Nat} {C f : Addr} {fd : FuncData} {e : Expr} {po : Env → W D} {p : List D → W D} {mg : Str → Option Value} {base : Heap} {p0 pos : Pos}
end
end LP
/-! An own object in an f-string: its own __str__. -/
namespace LP
open PySem PySem.Spec PyProof.Rows L2 PK RZ
/-- the class says nothing of its own of formats -/
structure FmtC (K : PySem.W.Frag) (C : Addr) : Prop where
  fm : PySem.W.findIn K (.ref C) "__format__" = some (some (.builtin "object.__format__"))
  mr : PySem.W.mroIn K C (.type "object") = some true
section
variable {X : Cx} {Γ : Sig} {fe : Fd} {H0 : Hp} {O : List Nat} {k c : Nat} {C f : Addr} {fd : FuncData} {e : Expr} {po : Env → W D} {p : List D → W D} {mg : Str → Option Value} {base : Heap} {pos : Pos}
def tFmtO (Γ : Sig) (C : Addr) (p : List D → W D) (te : TE) : TE := fun σ H Q => te σ H fun x H1 => rStrO Γ C p [x] H1 Q
theorem pe_fmtO {te : TE} (T : StrV Γ mg base k c C f fd p) (Fm : FmtC Γ.K C) (hP : X.prog = Γ.P) (hw : X.w = Γ.w) (hK : X.K = Γ.K) (hmg : X.mg = mg) (hbs : X.base = base) (hr : Room (k + 2) X.A) (he : PE X e te) : PE X (.FormattedValue e (-1) none pos) (tFmtO Γ C p te) := by
  refine ⟨fun pins s σ H Q I h => ?_⟩
  refine wpAny_FormattedValue_plain (thn (he.run pins s σ H _ I h) fun v s1 ⟨x, H1, I1, r1, q⟩ => ?_)
  obtain ⟨a, dx, fs, ex, ha, h⟩ := q
  cases ex
  obtain rfl : v = Value.ref a := r1
  obtain ⟨mA, J, _⟩ := ins_get I1.hok ha
  obtain ⟨od, J, _⟩ := J.look
  have hr1 : Room (k + 1) X.A.in1 := hr.in1
  refine PySem.W.kfo_fieldS hr1.units0 I1.kIn J (by rw [hK]; exact Fm.fm) (by rw [hK]; exact Fm.mr) (by rw [hK]; exact T.fi) (by rw [hK]; exact T.fn) ?_
  refine wpAny_mono (run_in (E := fun _ _ _ => True) (by rw [hP, hw, hK, hmg, hbs]; exact T.ok) (hr1.mono (by omega)) rfl (by rw [hK]; exact T.b) (I1.tok _) (vs := [.ref a]) (.cons rfl .nil) h) (fun r s' g => ?_) fun _ _ z => z
  obtain ⟨v, H', I', rv, y, rfl, q⟩ := g
  obtain ⟨t, rfl⟩ := rv
  exact ⟨.str y, H', I', ⟨t, rfl⟩, q⟩
end
end LP
/-! repr of a list of one own thing that shows itself. -/
namespace PK
open PySem PySem.Spec PyProof.Rows PySem.Calls
section
variable {prog : Program} {w : World} {A : Around} {E : Value → Shared → Prop} {s : Shared} {K : PySem.W.Frag} {l : Addr} {ol : Obj} {n : Nat} {u : Value}
/-- the text of a list of one text -/
def oneT (t : Str) : Str := listText [t]
theorem oneT_len (t : Str) : (oneT t).length = t.length + 2 := by
  show (("[" : Str) ++ ((if 0 > 0 then ", " else "" : String) : Str) ++ t ++ ("]" : Str)).length = _
  rw [strLen_append, strLen_append, strLen_append]
  show 1 + 0 + t.length + 1 = _
  omega
/-- the frame in which a list's things are shown -/
def inLst (A : Around) (l P : Addr) : Around := A.under (.builtin "list.__repr__.loop" ⟨[.ref l, rawInt 0, .ref P, rawInt 0], []⟩)
abbrev partsO : Obj := { cls := .type "list", dict := none, data := .seq #[] 0, slots := #[] }
theorem lone_shown {Q : Value → Shared → Prop} (hl : s.heap.get? l = some ol) (hc : ol.cls = .type "list") (hd : ol.data = .seq #[u] n) (hg : A.guards = some []) (hu : A.units + 1 < cLine)
    (h : wpAny (model prog w) (inLst A.in1 l s.heap.objs.size) (pyReprUnder 1 u) (fun t0 s0 => s0.heap.get? s.heap.objs.size = some partsO ∧ (∃ ol' n', s0.heap.get? l = some ol' ∧ ol'.data = .seq #[u] n') ∧ (oneT t0).length ≤ sizeLine ∧
      ∀ h' k j, (∀ b o, b ≠ s.heap.objs.size → s0.heap.get? b = some o → h'.get? b = some o) → Q (.str (oneT t0) k) { s0 with heap := h', toks := j }) E { s with heap := s.heap.push partsO }) :
    wpAny (model prog w) A (call (.builtin "repr") [.ref l]) Q E s := by
  have ty : s.TypeIs (.ref l) "list" := ⟨ol, hl, hc⟩
  have hne : s.heap.objs.size ≠ l := fun z => Nat.lt_irrefl _ (by have := Heap.lt_size hl; rw [← z] at this; exact this)
  refine call_repr_slot hu ty F.slot_list_repr.toG (wpAny_call (codeAny_call_builtin F.slot_list_repr.plain F.entry_list_repr (F.slot_list_repr.check _ _ _ _ _ _ _ _ ty (F.args_list_repr_1 _) ?_)))
  show wpAny _ _ (Builtin.listReprAt 0 ⟨[.ref l], []⟩) _ _ s
  refine wpAny_list_repr_head (A := A.in1.in1) (g := []) hg (fun v rest kw hm => nomatch hm) hl (l := []) hd ?_
  refine wpAny_bind (m := newList []) (wpAny_newObj_type ?_)
  refine wpAny_pure ⟨F.quiet_list_repr_loop _, ?_⟩
  refine codeAny_builtin F.entry_list_repr_loop ?_
  show wpAny _ _ (Builtin.«list.__repr__.loop» ⟨[.ref l, .int 0 0, .ref s.heap.objs.size, .int 0 0], []⟩) _ _ _
  rw [repr_loop_tree]
  refine wpAny_bind (wpAny_listItems (Heap.get?_push_of_some _ hl) hd ?_)
  show wpAny _ _ (holding [u] (pyReprUnder 1 u) >>= _) _ _ _
  refine wpAny_bind (wpAny_holding (wpAny_mono h (fun t0 s0 h0 => ?_) fun _ _ z => z))
  obtain ⟨hP, ⟨ol', n', hl', hd'⟩, hz, hq⟩ := h0
  have hz2 := oneT_len t0
  refine wpAny_bind (wpAny_mkStr ?_ (by omega))
  refine wpAny_bind ?_
  show wpAny _ _ (updateSeq s.heap.objs.size _) _ _ _
  refine wpAny_updateSeq hP rfl (wpAny_pure ⟨F.quiet_list_repr_loop _, ?_⟩) (by show 0 ≤ _; omega)
  refine codeAny_builtin F.entry_list_repr_loop ?_
  show wpAny _ _ (Builtin.«list.__repr__.loop» ⟨[.ref l, .int 1 0, .ref s.heap.objs.size, .int _ 0], []⟩) _ _ _
  rw [repr_loop_tree]
  have hP2 : (s0.heap.update s.heap.objs.size (Obj.mapSeq fun x => x.push (Value.str t0 s0.toks))).get? s.heap.objs.size = some (partsO.mapSeq fun x => x.push (Value.str t0 s0.toks)) := Heap.get?_update_self _ hP rfl
  refine wpAny_bind (wpAny_listItems (o := ol') ((Heap.get?_update_other _ _ hne).trans hl') hd' ?_)
  show wpAny _ _ (reprEnd (.ref s.heap.objs.size)) _ _ _
  unfold reprEnd
  refine wpAny_bind (wpAny_listItems hP2 rfl ?_)
  have ef := repr_fold [(t0, s0.toks)] 0 "["
  refine wpAny_bind (wpAny_of_eq (a := textFrom 0 "[" [t0]) ef ?_)
  refine wpAny_bind (wpAny_mkStr (wpAny_pure ?_) hz)
  exact ⟨_, _, rfl, hq _ _ _ fun b o hb e => (Heap.get?_update_other _ _ (Ne.symm hb)).trans e⟩
end
end PK
/-! A heap beside what is none: ==, !=, either way about; its truth. -/
namespace PK
open PySem PySem.Spec PyProof.Rows L2
/-- of a built-in kind -/
inductive KindB (K : PySem.W.Frag) (H : Hp) : V → String → Prop
  | non : KindB K H .non "NoneType"
  | bl (b : Bool) : KindB K H (.bl b) "bool"
  | int (i : Int) : KindB K H (.int i) "int"
  | str (y : Str) : KindB K H (.str y) "str"
  | tup {a : Addr} {xs : List V} : SqT K H a xs → KindB K H (.ref a) "tuple"
  | lst {a : Addr} {xs : List V} : H a = some (.lst xs) → KindB K H (.ref a) "list"
/-- what the class must say: it stands below none of these -/
structure Apart6 (K : PySem.W.Frag) (C : Addr) : Prop where
  non : PySem.W.mroIn K C (.type "NoneType") = some false
  bl : PySem.W.mroIn K C (.type "bool") = some false
  int : PySem.W.mroIn K C (.type "int") = some false
  str : PySem.W.mroIn K C (.type "str") = some false
  tup : PySem.W.mroIn K C (.type "tuple") = some false
  lst : PySem.W.mroIn K C (.type "list") = some false
  hd : PySem.W.hasDictIn K C = true
  ty : PySem.W.typeIn K (.ref C) = some (.type "type")
section
variable {X : Cx} {pins : List (Addr × Obj)} {σ : L2.St} {H : Hp} {s : Shared} {y : V} {v : Value} {T : String} {K : PySem.W.Frag} {C : Addr}
theorem KindB.mro (h : KindB K H y T) (a : Apart6 K C) : PySem.W.mroIn K C (.type T) = some false := by
  cases h
  · exact a.non
  · exact a.bl
  · exact a.int
  · exact a.str
  · exact a.tup
  · exact a.lst
theorem KindB.typeIs (h : KindB X.K H y T) (I : Inv X pins σ H s) (r : RelV y v) : s.TypeIs v T := by
  cases h with
  | non => cases (show v = Value.none from r); rfl
  | bl b => cases (show v = Value.bool b from r); rfl
  | int i => obtain ⟨t, rfl⟩ := (show ∃ t, v = Value.int i t from r); exact typeIs_int s i t
  | str z => obtain ⟨t, rfl⟩ := (show ∃ t, v = Value.str z t from r); exact typeIs_str s z t
  | @tup a xs q =>
    cases (show v = Value.ref a from r)
    obtain ⟨_, _, ⟨o, h1, h2, _⟩, _⟩ := I.tuple q
    exact ⟨o, h1, h2⟩
  | @lst a xs q =>
    cases (show v = Value.ref a from r)
    obtain ⟨_, _, n, _, h1⟩ := (show ObjOk X.prog X.w H s.heap a (.lst xs) from I.hok a _ q)
    exact ⟨_, h1, rfl⟩
theorem KindB.notFirst (h : KindB K H y T) : PySem.W.notFirst K C (.type T) = true := by
  cases h <;> rfl
theorem KindB.sub (h : KindB K H y T) : PySem.W.subIn K (.type T) (.ref C) = some false := by
  cases h <;> rfl
theorem kit_apart (h : KindB K H y T) (a : Apart6 K C) : PySem.W.kitOne K (.type T) (.ref C) = some false := by
  unfold PySem.W.kitOne
  rw [if_neg (by intro z; exact nomatch (show (Value.type T == Value.ref C) = true from z))]
  obtain ⟨cd, hc, _⟩ := PySem.W.any_some a.hd
  unfold PySem.W.kitCls
  dsimp only
  rw [hc, a.ty]
  exact h.sub
theorem KindB.tyX (h : KindB K H y T) : TyX K H y (.type T) := by
  have hk : ∀ a xs, SqT K H a xs → TyX K H (.ref a) (.type "tuple") := fun a xs q => by
    rcases q with (q | ⟨o, q⟩) | ⟨o, its, n, q, c, _⟩
    · exact .base (.tup q)
    · exact .fTuple q
    · exact .kTuple q c
  cases h with
  | non => exact .base .non
  | bl b => exact .base (.bl b)
  | int i => exact .base (.int i)
  | str z => exact .base (.str z)
  | tup q => exact hk _ _ q
  | lst q => exact .base (.lst q)
end
theorem looks_type {M : Model} {s : Shared} {v : Value} {T : String} (h : s.TypeIs v T) : PySem.W.Looks M s.heap (typeOf v) (.type T) := by
  cases v with
  | ref a =>
    obtain ⟨o, h1, h2⟩ := h
    exact fun A Q E s' k q => wpAny_typeOf ⟨o, k _ _ h1, h2⟩ q
  | _ => exact .of_pure h
/-- == of a heap and what is none: no -/
def spEqX (K : PySem.W.Frag) (C : Addr) : Sp := fun vs H Q _ => ∃ (p : Addr) (L : List PRow) (y : V) (T : String), vs = [.ref p, y] ∧ HeapAt K C H p L ∧ KindB K H y T ∧ Q (.bl false) H
def rEqX (K : PySem.W.Frag) (C : Addr) (r : Bool) : R2 := fun x y H Q => ∃ (p : Addr) (L : List PRow) (T : String), x = .ref p ∧ HeapAt K C H p L ∧ KindB K H y T ∧ Q (.bl r) H
def rXEq (K : PySem.W.Frag) (C : Addr) : R2 := fun x y H Q => ∃ (p : Addr) (L : List PRow) (T : String), y = .ref p ∧ HeapAt K C H p L ∧ KindB K H x T ∧ Q (.bl false) H
section
variable {X : Cx} {k : Nat} {C f : Addr} {fd : FuncData}
theorem op_eqX (K : PySem.W.Frag) (E : HSp X.prog X.w K X.mg X.base k C "__eq__" f fd ["self", "other"] (spEqX K C)) (hr : Room k X.A) (hK : X.K = K := by rfl) : OpR X (compareOp .Eq) (rEqX K C false) := by
  subst hK
  intro pins s σ H x y v u Q I rx ry h
  obtain ⟨p, L, T, rfl, hp, hy, z⟩ := h
  cases rx
  obtain ⟨ox, od, J⟩ := hp.inst I
  obtain ⟨m, hF⟩ := I.fr
  have ty := hy.typeIs I ry
  show wpAny (model X.prog X.w) X.A (richCompare .Eq (.ref p) u) (EP X pins σ Q) X.xe s
  refine PySem.W.cmp_K (op := .Eq) (tb := .type T) hr.units0 hF I.ok.mod.kin J (looks_type ty) hy.notFirst E.fi E.fn ?_
  refine wpAny_mono (run_in (Q := fun v H' => v = .bl false ∧ H' = H) (E := fun _ _ _ => False) E.ok hr rfl E.b I (vs := [.ref p, y]) (.cons rfl (.cons ry .nil)) ⟨p, L, y, T, rfl, hp, hy, rfl, rfl⟩) (fun r s' g => ?_) fun _ _ z => z
  obtain ⟨v, H', I', rv, rfl, rfl⟩ := g
  cases rv
  exact ⟨.bl false, _, I', rfl, z⟩
theorem op_neX (K : PySem.W.Frag) (E : HSp X.prog X.w K X.mg X.base k C "__eq__" f fd ["self", "other"] (spEqX K C)) (hne : PySem.W.findIn K (.ref C) "__ne__" = some (some (.builtin "object.__ne__"))) (hob : PySem.W.subIn K (.ref C) (.type "object") = some true)
    (hr : Room (k + 1) X.A) (hK : X.K = K := by rfl) : OpR X (compareOp .NotEq) (rEqX K C true) := by
  subst hK
  intro pins s σ H x y v u Q I rx ry h
  obtain ⟨p, L, T, rfl, hp, hy, z⟩ := h
  cases rx
  obtain ⟨ox, od, J⟩ := hp.inst I
  have ty := hy.typeIs I ry
  show wpAny (model X.prog X.w) X.A (richCompare .NotEq (.ref p) u) (EP X pins σ Q) X.xe s
  refine ne_own (tb := .type T) (by have := hr.un; omega) I.kIn J (looks_type ty) hy.notFirst hne hob E.fi E.fn ?_
  refine wpAny_mono (run_in (Q := fun v H' => v = .bl false ∧ H' = H) (E := fun _ _ _ => False) E.ok hr.in1 rfl E.b I (vs := [.ref p, y]) (.cons rfl (.cons ry .nil)) ⟨p, L, y, T, rfl, hp, hy, rfl, rfl⟩) (fun r s' g => ?_) fun _ _ z => z
  obtain ⟨v, H', I', rv, rfl, rfl⟩ := g
  cases rv
  exact ⟨_, rfl, .bl true, _, I', rfl, z⟩
end
/-! ### a built-in kind's == declines an own thing -/
section
variable {M : Model} {A : Around} {E : Value → Shared → Prop} {s : Shared} {K : PySem.W.Frag} {C p dx : Addr} {T : String} {ox : Obj} {od : Option Obj}
theorem notInst {Q : Bool → Shared → Prop} (X : K.In s.heap) (J : PySem.W.InstAt s.heap p ox C od) (e : PySem.W.mroIn K C (.type T) = some false) (q : Q false s) : wpAny M A (isInstance (.ref p) (.type T)) Q E s := by
  unfold isInstance
  exact wpAny_bind (J.type.here ((PySem.W.looks_mroIn X e).here q))
theorem non_declines (l : Addr) : Meets (Builtin.«NoneType.__eq__» ⟨[.none, .ref l], []⟩) (fun _ R s => R (.ok (.ret .notImplemented)) s) :=
  .of_wp fun prog w A R s h => by obtain ⟨hp, g, d, tk, os⟩ := s; wp_walk; exact ⟨_, rfl, h⟩
theorem int_declines (v : Value) (hv : (∃ i t, v = .int i t) ∨ ∃ b, v = .bool b) (C l dx : Addr) : Meets (Builtin.«int.__eq__» ⟨[v, .ref l], []⟩) (fun _ R s => s.heap.get? l = some (PySem.W.instObj C dx) ∧ R (.ok (.ret .notImplemented)) s) :=
  .of_wp fun prog w A R s h => by
    obtain ⟨hp, g, d, tk, os⟩ := s
    obtain ⟨hl, h⟩ := h
    unfold PySem.W.instObj at hl
    rcases hv with ⟨i, t, rfl⟩ | ⟨b, rfl⟩
    · wp_walk using wpAny_loadPart' hl
      exact ⟨_, rfl, h⟩
    · wp_walk using wpAny_loadPart' hl
      exact ⟨_, rfl, h⟩
theorem str_declines (z : Str) (t : Tok) (C l dx : Addr) : Meets (Builtin.«str.__eq__» ⟨[.str z t, .ref l], []⟩) (fun _ R s => s.heap.get? l = some (PySem.W.instObj C dx) ∧ R (.ok (.ret .notImplemented)) s) :=
  .of_wp fun prog w A R s h => by
    obtain ⟨hp, g, d, tk, os⟩ := s
    obtain ⟨hl, h⟩ := h
    unfold PySem.W.instObj at hl
    wp_walk using wpAny_loadPart' hl
    exact ⟨_, rfl, h⟩
theorem tup_declines (l : Addr) {p C : Addr} {ox : Obj} {od : Option Obj} {K : PySem.W.Frag} (e : PySem.W.mroIn K C (.type "tuple") = some false) : Meets (Builtin.«tuple.__eq__» ⟨[.ref l, .ref p], []⟩) (fun _ R s => K.In s.heap ∧ PySem.W.InstAt s.heap p ox C od ∧ R (.ok (.ret .notImplemented)) s) :=
  .of_wp fun prog w A R s h => by
    obtain ⟨hx, J, h⟩ := h
    refine wpAny_bind (m := slotArgs "__eq__" 1 ⟨[Value.ref l, .ref p], []⟩) (wpAny_of_eq (a := ((Value.ref l : Value), [Value.ref p])) (by first | rfl | (simp only [slotArgs]; rfl)) ?_)
    refine wpAny_bind (m := isInstance (.ref p) (.type "tuple")) (notInst hx J e ?_)
    exact wpAny_pure ⟨_, rfl, h⟩
theorem lst_declines (l : Addr) {p C : Addr} {ox : Obj} {od : Option Obj} {K : PySem.W.Frag} (e : PySem.W.mroIn K C (.type "list") = some false) : Meets (Builtin.«list.__eq__» ⟨[.ref l, .ref p], []⟩) (fun _ R s => K.In s.heap ∧ PySem.W.InstAt s.heap p ox C od ∧ R (.ok (.ret .notImplemented)) s) :=
  .of_wp fun prog w A R s h => by
    obtain ⟨hx, J, h⟩ := h
    refine wpAny_bind (m := slotArgs "__eq__" 1 ⟨[Value.ref l, .ref p], []⟩) (wpAny_of_eq (a := ((Value.ref l : Value), [Value.ref p])) (by first | rfl | (simp only [slotArgs]; rfl)) ?_)
    refine wpAny_bind (m := isInstance (.ref p) (.type "list")) (notInst hx J e ?_)
    exact wpAny_pure ⟨_, rfl, h⟩
end
section
variable {X : Cx} {pins : List (Addr × Obj)} {σ : L2.St} {H : Hp} {s : Shared} {y : V} {v : Value} {T : String} {C p : Addr} {L : List PRow} {E : Value → Shared → Prop}
theorem KindB.declines {Q : Option Value → Shared → Prop} {A : Around} (h : KindB X.K H y T) (I : Inv X pins σ H s) (r : RelV y v) (hp : HeapAt X.K C H p L) (ap : Apart6 X.K C) (q : Q none s) : wpAny (model X.prog X.w) A (tryCompare v "__eq__" (.ref p)) Q E s := by
  have ty := h.typeIs I r
  obtain ⟨ox, od, J⟩ := hp.inst I
  have J0 := J
  have at_ : ∃ dx, s.heap.get? p = some (PySem.W.instObj C dx) := by
    obtain ⟨dx, t, e1, _⟩ := hp
    obtain ⟨_, _, _, e, _⟩ := (show ObjOk X.prog X.w H s.heap p (.ins C dx _) from I.hok p _ e1)
    exact ⟨dx, e⟩
  obtain ⟨dx, at_⟩ := at_
  cases h with
  | non =>
    cases (show v = Value.none from r)
    exact wpAny_tryCompare_declines ty F.slot_NoneType_eq (call_meets F.slot_NoneType_eq ty F.entry_NoneType_eq (F.args_NoneType_eq_2 _ _) (non_declines p) ⟨rfl, q⟩)
  | bl b =>
    cases (show v = Value.bool b from r)
    exact wpAny_tryCompare_declines ty F.slot_bool_eq (call_meets F.slot_bool_eq ty F.entry_int_eq (F.args_int_eq_2 _ _) (int_declines _ (.inr ⟨b, rfl⟩) C p dx) ⟨at_, rfl, q⟩)
  | int i =>
    obtain ⟨t, rfl⟩ := (show ∃ t, v = Value.int i t from r)
    exact wpAny_tryCompare_declines ty F.slot_int_eq (call_meets F.slot_int_eq ty F.entry_int_eq (F.args_int_eq_2 _ _) (int_declines _ (.inl ⟨i, t, rfl⟩) C p dx) ⟨at_, rfl, q⟩)
  | str z =>
    obtain ⟨t, rfl⟩ := (show ∃ t, v = Value.str z t from r)
    exact wpAny_tryCompare_declines ty F.slot_str_eq (call_meets F.slot_str_eq ty F.entry_str_eq (F.args_str_eq_2 _ _) (str_declines _ _ C p dx) ⟨at_, rfl, q⟩)
  | @tup a xs z =>
    cases (show v = Value.ref a from r)
    exact wpAny_tryCompare_declines ty F.slot_tuple_eq (call_meets F.slot_tuple_eq ty F.entry_tuple_eq (F.args_tuple_eq_2 _ _) (tup_declines a ap.tup) ⟨I.kIn, J, rfl, q⟩)
  | @lst a xs z =>
    cases (show v = Value.ref a from r)
    exact wpAny_tryCompare_declines ty F.slot_list_eq (call_meets F.slot_list_eq ty F.entry_list_eq (F.args_list_eq_2 _ _) (lst_declines a ap.lst) ⟨I.kIn, J, rfl, q⟩)
end
section
variable {X : Cx} {k : Nat} {C f : Addr} {fd : FuncData}
theorem op_Xeq (K : PySem.W.Frag) (E : HSp X.prog X.w K X.mg X.base k C "__eq__" f fd ["self", "other"] (spEqX K C)) (ap : Apart6 K C) (hr : Room k X.A) (hK : X.K = K := by rfl) : OpR X (compareOp .Eq) (rXEq K C) := by
  subst hK
  intro pins s σ H x y v u Q I rx ry h
  obtain ⟨p, L, T, rfl, hp, hx, z⟩ := h
  cases ry
  obtain ⟨ox, od, J⟩ := hp.inst I
  have ty := hx.typeIs I rx
  show wpAny (model X.prog X.w) X.A (richCompare .Eq v (.ref p)) (EP X pins σ Q) X.xe s
  simp only [richCompare, cmpInfo, ty.oneThing_none]
  refine wpAny_holding (wpAny_bind (wpAny_cRoomFor (by have := hr.units0; omega) (wpAny_bind (wpAny_typeOf ty (wpAny_bind (J.type.here ?_))))))
  have ne : (Value.type T != Value.ref C) = true := rfl
  simp only [ne, if_true]
  refine wpAny_bind ((PySem.W.looks_mroIn I.kIn (hx.mro ap)).here ?_)
  simp only [Bool.false_eq_true, if_false, Bool.not_false, if_true]
  refine wpAny_bind (hx.declines I rx hp ap ?_)
  have mine : wpAny (model X.prog X.w) X.A (tryCompare (.ref p) "__eq__" v) (fun r s' => r = some (.bool false) ∧ EP X pins σ Q (.bool false) s') X.xe s := by
    unfold tryCompare
    refine wpAny_bind (PySem.W.ifBound_K I.kIn J E.fi E.fn ?_)
    refine wpAny_mono (run_in (Q := fun v H' => v = .bl false ∧ H' = H) (E := fun _ _ _ => False) E.ok hr rfl E.b I (vs := [.ref p, x]) (.cons rfl (.cons rx .nil)) ⟨p, L, x, T, rfl, hp, hx, rfl, rfl⟩) (fun r s' g => ?_) fun _ _ z => z
    obtain ⟨w, H', I', rv, rfl, rfl⟩ := g
    cases rv
    exact wpAny_pure ⟨rfl, .bl false, _, I', rfl, z⟩
  refine wpAny_bind (wpAny_mono mine (fun r s' g => ?_) fun _ _ z => z)
  obtain ⟨rfl, g⟩ := g
  exact wpAny_pure g
end
/-! ### the truth of a heap -/
section
variable {prog : Program} {w : World}
theorem bool_new_in (v : Value) : MeetsIn prog w (Builtin.«bool.__new__» ⟨[.type "bool", v], []⟩) (fun A R s => wpAny (model prog w) A.in1 (truthy v) (fun b s' => R (.ok (.ret (.bool b))) s') (fun e s' => R (.error e) s') s) :=
  .of_wp fun A R s h => by
    have f1 := F.conv_sub_bool
    obtain ⟨hp, g, d, tk, os⟩ := s
    have tr : ∀ {Q : Bool → Shared → Prop}, (∀ b s', R (.ok (.ret (.bool b))) s' → Q b s') → wpAny (model prog w) A.in1 (truthy v) Q (fun e s' => R (.error e) s') ⟨hp, g, d, tk, os⟩ := fun q => wpAny_mono h q fun _ _ z => z
    repeat (any_goals (first | assumption | (with_reducible refine tr fun b s' q => ?_) | wp_step))
    all_goals first | exact ⟨_, rfl, q⟩ | exact q | skip
end
def rBoolH (K : PySem.W.Frag) (C : Addr) : List V → Hp → VK → Prop := fun xs H Q => ∃ (p : Addr) (L : List PRow), xs = [.ref p] ∧ HeapAt K C H p L ∧ L.length ≤ 900 ∧ Q (.bl (decide (0 < L.length))) H
def spBoolH (K : PySem.W.Frag) (C : Addr) : Sp := fun vs H Q _ => ∃ (p : Addr) (L : List PRow), vs = [.ref p] ∧ HeapAt K C H p L ∧ L.length ≤ 900 ∧ Q (.bl (decide (0 < L.length))) H
section
variable {X : Cx} {k : Nat} {C f : Addr} {fd : FuncData}
theorem call_boolH (K : PySem.W.Frag) (E : HSp X.prog X.w K X.mg X.base k C "__bool__" f fd ["self"] (spBoolH K C)) (hr : Room (k + 2) X.A) (hK : X.K = K := by rfl) : CallR X (.type "bool") (rBoolH K C) := by
  subst hK
  intro pins s σ H xs us Q I r h
  obtain ⟨p, L, rfl, hp, hL, z⟩ := h
  obtain ⟨u, rfl, ru⟩ := vals1 r
  cases ru
  obtain ⟨ox, od, J⟩ := hp.inst I
  obtain ⟨m, hF⟩ := I.fr
  refine callType_newIn F.called_bool F.newNe_bool (F.typeCall_bool_1 _) (F.newCall_bool_1 _) (fun obj => F.args_object_init_2 obj _) F.entry_bool_new (bool_new_in (.ref p)) ?_
  refine PySem.W.truthy_K hF I.ok.mod.kin J E.fi E.fn ?_
  refine wpAny_mono (run_in (Q := fun v H' => v = .bl (decide (0 < L.length)) ∧ H' = H) (E := fun _ _ _ => False) E.ok (hr.in1.in1) rfl E.b I (vs := [.ref p]) (.cons rfl .nil) ⟨p, L, rfl, hp, hL, rfl, rfl⟩) (fun r s' g => ?_) fun _ _ z => z
  obtain ⟨v, H', I', rv, rfl, rfl⟩ := g
  cases rv
  exact ⟨rfl, .bl (decide (0 < L.length)), _, I', rfl, z⟩
end
end PK
/-! A heap beside what is none; its truth; shown in a list, in a text. -/
namespace LP
open PySem PySem.Spec PyProof.Rows L2 PK RZ
def isKind : D → Bool
  | .non | .bl _ | .int _ | .str _ | .tup _ | .lst _ => true
  | _ => false
section
variable {X : Cx} {Γ : Sig} {fe : Fd} {H0 : Hp} {O : List Nat} {k kq : Nat} {C fq : Addr} {fdq : FuncData} {a b e : Expr} {po pb pa' : Env → W D} {pa : Env → W (List D)} {mg : Str → Option Value} {base : Heap} {pos p0 : Pos}
theorem kind_of {M : List Addr} {H : Hp} {v : V} {d : D} (h : Bp ⟨Γ, fe⟩ M H v d) (hk : isKind d = true) : ∃ T, KindB Γ.K H v T := by
  cases h with
  | rp h =>
    cases h <;> try (cases hk; done)
    · exact ⟨_, .non⟩
    · exact ⟨_, .bl _⟩
    · exact ⟨_, .int _⟩
    · exact ⟨_, .str _⟩
    · rename_i hs _
      exact ⟨_, .tup (sqT_same ms_sub hs)⟩
    · rename_i hs _
      exact ⟨_, .lst (ms_sub _ _ hs)⟩
  | lst _ h1 _ => exact ⟨_, .lst h1⟩
def eqXW (r : Bool) (x y : D) : W D := (optW (heapOf x)).bind fun _ => (W.want (isKind y = true)).bind fun _ => W.ret (.bl r)
def xEqW (x y : D) : W D := (optW (heapOf y)).bind fun _ => (W.want (isKind x = true)).bind fun _ => W.ret (.bl false)
theorem eqX_ok (s : HSig Γ C) (r : Bool) : OpOk ⟨Γ, fe⟩ (rEqX Γ.K C r) (eqXW r) := by
  intro M H x y d1 d2 Q E mu hf h1 h2 q
  obtain ⟨L, e1, hk, q⟩ := optW_wp q
  rw [heapOf_eq e1] at h1
  obtain ⟨p, rfl, hp, _⟩ := bp_heap (Ξ := ⟨Γ, fe⟩) s h1
  obtain ⟨T, kd⟩ := kind_of h2 hk
  exact ⟨p, L, T, rfl, hp, kd, q _ H (Same.refl H) (.bl _)⟩
theorem xEq_ok (s : HSig Γ C) : OpOk ⟨Γ, fe⟩ (rXEq Γ.K C) xEqW := by
  intro M H x y d1 d2 Q E mu hf h1 h2 q
  obtain ⟨L, e1, hk, q⟩ := optW_wp q
  rw [heapOf_eq e1] at h2
  obtain ⟨p, rfl, hp, _⟩ := bp_heap (Ξ := ⟨Γ, fe⟩) s h2
  obtain ⟨T, kd⟩ := kind_of h1 hk
  exact ⟨p, L, T, rfl, hp, kd, q _ H (Same.refl H) (.bl _)⟩
theorem lt_eqX (s : HSig Γ C) (Eq : HSp Γ.P Γ.w Γ.K mg base kq C "__eq__" fq fdq ["self", "other"] (spEqX Γ.K C)) (hP : X.prog = Γ.P) (hw : X.w = Γ.w) (hK : X.K = Γ.K) (hmg : X.mg = mg) (hbs : X.base = base) (hr : Room kq X.A) (ha : LB ⟨Γ, fe⟩ H0 O X a po) (hb : LB ⟨Γ, fe⟩ H0 O X b pb) :
    LT ⟨Γ, fe⟩ H0 O X (.Compare a [.Eq] [b] pos) fun env => ((po env).bind fun x => (pb env).bind fun y => eqXW false x y).bind asB :=
  lt_cmp (op_eqX Γ.K (by rw [hP, hw, hmg, hbs]; exact Eq) hr hK) (eqX_ok s false) (nomark _) ha hb
theorem lt_neX (s : HSig Γ C) (Eq : HSp Γ.P Γ.w Γ.K mg base kq C "__eq__" fq fdq ["self", "other"] (spEqX Γ.K C)) (hne : PySem.W.findIn Γ.K (.ref C) "__ne__" = some (some (.builtin "object.__ne__"))) (hob : PySem.W.subIn Γ.K (.ref C) (.type "object") = some true)
    (hP : X.prog = Γ.P) (hw : X.w = Γ.w) (hK : X.K = Γ.K) (hmg : X.mg = mg) (hbs : X.base = base) (hr : Room (kq + 1) X.A) (ha : LB ⟨Γ, fe⟩ H0 O X a po) (hb : LB ⟨Γ, fe⟩ H0 O X b pb) :
    LT ⟨Γ, fe⟩ H0 O X (.Compare a [.NotEq] [b] pos) fun env => ((po env).bind fun x => (pb env).bind fun y => eqXW true x y).bind asB :=
  lt_cmp (op_neX Γ.K (by rw [hP, hw, hmg, hbs]; exact Eq) hne hob hr hK) (eqX_ok s true) (nomark _) ha hb
theorem lt_xEq (s : HSig Γ C) (Eq : HSp Γ.P Γ.w Γ.K mg base kq C "__eq__" fq fdq ["self", "other"] (spEqX Γ.K C)) (ap : Apart6 Γ.K C) (hP : X.prog = Γ.P) (hw : X.w = Γ.w) (hK : X.K = Γ.K) (hmg : X.mg = mg) (hbs : X.base = base) (hr : Room kq X.A) (ha : LB ⟨Γ, fe⟩ H0 O X a po) (hb : LB ⟨Γ, fe⟩ H0 O X b pb) :
    LT ⟨Γ, fe⟩ H0 O X (.Compare a [.Eq] [b] pos) fun env => ((po env).bind fun x => (pb env).bind fun y => xEqW x y).bind asB :=
  lt_cmp (op_Xeq Γ.K (by rw [hP, hw, hmg, hbs]; exact Eq) ap hr hK) (xEq_ok s) (nomark _) ha hb
/-! ### bool(heap) -/
def boolHW : List D → W D
  | [h] => (optW (heapOf h)).bind fun L => (W.want (L.length ≤ 900)).bind fun _ => W.ret (.bl (decide (0 < L.length)))
  | _ => W.fail
theorem boolH_ok (s : HSig Γ C) : CallOk ⟨Γ, fe⟩ (rBoolH Γ.K C) boolHW := by
  intro M H xs ds Q E mu hf hx q
  match ds, hx, q with
  | [d], .cons h1 .nil, q =>
    obtain ⟨L, e1, hL, q⟩ := optW_wp q
    rw [heapOf_eq e1] at h1
    obtain ⟨a, rfl, ha, _⟩ := bp_heap (Ξ := ⟨Γ, fe⟩) s h1
    exact ⟨a, L, rfl, ha, hL, q _ H (Same.refl H) (.bl _)⟩
theorem le_boolH (s : HSig Γ C) (Bo : HSp Γ.P Γ.w Γ.K mg base kq C "__bool__" fq fdq ["self"] (spBoolH Γ.K C)) (hP : X.prog = Γ.P) (hw : X.w = Γ.w) (hK : X.K = Γ.K) (hmg : X.mg = mg) (hbs : X.base = base) (hr : Room (kq + 2) X.A) (hg : Gl X "bool") (hm : X.mg "bool" = none) (ha : LAB ⟨Γ, fe⟩ H0 O X [e] pa)
    (he : starEach [e] X.env = (false, eval e X.env) :: starEach [] X.env := by rfl) (hpl : (backTo pos (starEach [] X.env)).any (·.1) = false := by rfl) :
    LE ⟨Γ, fe⟩ H0 O X (.Call (.Name "bool" p0) [e] [] pos) fun env => (pa env).bind boolHW :=
  wkE (pe_callTy (call_boolH Γ.K (by rw [hP, hw, hmg, hbs]; exact Bo) hr hK) hg hm (by decide +kernel) ha (he := he)) (le_args (boolH_ok s))
theorem HandSJ1 {te : TE} {pos2 : Pos} (he : PE X e te) : PE X (.JoinedStr [e] pos2) te := ⟨fun pins s σ H Q I h => JoinedStr_one (he.run pins s σ H Q I h)⟩
/-! ### f'..' of a heap alone -/
def fmtOW (c : Nat) (p : List D → W D) (d : D) : W D := (objW c d).bind fun o => (p [o]).bind fun r => (asS r).bind fun y => W.ret (.str y)
theorem le_fmt1 {c : Nat} {f : Addr} {fd : FuncData} {p : List D → W D} {pos2 : Pos} (T : StrV Γ mg base k c C f fd p) (Fm : FmtC Γ.K C) (hP : X.prog = Γ.P) (hw : X.w = Γ.w) (hK : X.K = Γ.K) (hmg : X.mg = mg) (hbs : X.base = base) (hr : Room (k + 2) X.A) (he : LE ⟨Γ, fe⟩ H0 O X e po) :
    LE ⟨Γ, fe⟩ H0 O X (.JoinedStr [.FormattedValue e (-1) none pos] pos2) fun env => (po env).bind (fmtOW c p) := by
  refine wkE (HandSJ1 (pe_fmtO T Fm hP hw hK hmg hbs hr he)) fun σ H Q ⟨S, A, G, env, E, hA, r, q⟩ => ?_
  refine ⟨S, A, G, env, E, hA, r, (po env).mono (fun d k x H1 g1 r1 hx => ?_) (fun _ z => z) q⟩
  obtain ⟨l, rfl, k⟩ := objW_wp k
  have hx0 := hx
  cases hx with
  | obj h1 h2 hl =>
    rename_i a C' dx xs
    obtain rfl : C' = C := (Option.some.inj (T.cl.symm.trans h2)).symm
    refine ⟨a, dx, _, rfl, ms_sub _ _ h1, fe, S ++ A.map (·.2), [.obj c l], E, r1.muA, r1.ffM, r1.fi, .cons hx0 .nil, fun _ _ _ _ _ _ _ _ _ => trivial, (p _).mono (fun d2 k2 v H3 g3 f3 hv3 => ?_) (fun _ z => z) k⟩
    obtain ⟨y, rfl, k2⟩ := asS_wp k2
    cases hv3 with
    | str _ ok => exact ⟨y, rfl, k2 _ H3 (g1.trans g3) (r1.grow g3 f3) (.str y ok)⟩
/-! ### repr of a list of a heap -/
def rOneO (Γ : Sig) (C : Addr) (p : List D → W D) : List V → Hp → VK → Prop := fun xs H Q => ∃ l x dx fs, xs = [.ref l] ∧ H l = some (.lst [.ref x]) ∧ H x = some (.ins C dx fs) ∧
  liF Γ p [.ref x] H (fun r H' => ∃ y, r = .str y ∧ y.length ≤ 4194304 ∧ H' l = some (.lst [.ref x]) ∧ PyData.strOk (oneT y) = true ∧ Q (.str (oneT y)) H') fun _ _ _ => True
theorem inLst_units (A : Around) (l P : Addr) : (inLst A l P).units = A.units + 1 := units_under_list_loop _ _
theorem inLst_frames (A : Around) (l P : Addr) : (inLst A l P).frames = A.frames := by
  first | rfl | simp [inLst, Around.under, Code.frames, Code.isFrame]
theorem inLst_depth (A : Around) (l P : Addr) : (inLst A.in1 l P).depth ≤ A.depth + 1 := by
  first | exact Nat.le_succ _ | (simp [inLst, Around.under, Around.in1, Code.weight, Code.isCreation, Code.isGuard, Code.isCaller, Code.frames, Code.isFrame, guardIds])
theorem room_inLst {A : Around} (r : Room (k + 1) A) (l P : Addr) : Room k (inLst A.in1 l P) :=
  ⟨r.hd, by have := r.dp; have := inLst_depth A l P; omega, by have := r.un; rw [inLst_units]; show A.units + 1 + 1 + 16 * k + 200 < cLine; omega⟩
theorem call_reprOne {c : Nat} {f : Addr} {fd : FuncData} {p : List D → W D} (T : ReprV Γ mg base k c C f fd p) (hP : X.prog = Γ.P) (hw : X.w = Γ.w) (hK : X.K = Γ.K) (hmg : X.mg = mg) (hbs : X.base = base) (hgd : X.A.guards = some []) (hr : Room (k + 2) X.A) : CallR X (.builtin "repr") (rOneO Γ C p) := by
  intro pins s σ H xs us Q I r h
  obtain ⟨l, x, dx, fs, rfl, hl, hx, h⟩ := h
  obtain ⟨u, rfl, ru⟩ := vals1 r
  cases ru
  obtain ⟨_, its, n, hv, h1⟩ := (show ObjOk X.prog X.w H s.heap l (.lst [.ref x]) from I.hok l _ hl)
  obtain ⟨u0, rfl, r0⟩ := vals1 hv
  cases r0
  have hun := hr.un
  refine lone_shown h1 rfl rfl hgd (by omega) ?_
  have nP : H s.heap.objs.size = none := I.hok.fresh (Nat.le_refl _)
  have I1 : Inv X pins σ H { s with heap := s.heap.push partsO } := I.kept (t' := s.toks) fun b o e => Heap.get?_push_of_some _ e
  have nL : s.heap.objs.size ≠ X.env.locals := fun z => Nat.lt_irrefl _ (by have := I.lt; rw [← z] at this; exact this)
  have old : ∀ q ∈ X.pn ++ pins, q.1 ≠ s.heap.objs.size := fun q hq z => by
    have := Heap.lt_size (I.pin q hq).1
    rw [z] at this
    exact Nat.lt_irrefl _ this
  have cel : ∀ y c, X.env.cells.lookup y = some c → c ≠ s.heap.objs.size := fun y c e z => by
    obtain ⟨v, o, ho, _⟩ := I.cell y c e
    have := Heap.lt_size ho
    rw [z] at this
    exact Nat.lt_irrefl _ this
  have Ip : Inv X ((s.heap.objs.size, partsO) :: (X.pn ++ pins)) σ H { s with heap := s.heap.push partsO } := I1.pins_of fun q hq => by
    rcases List.mem_cons.mp hq with rfl | hq
    · exact ⟨Heap.get?_push_size _ rfl, nP, nL, I.nofs (Nat.le_refl _), fun v z => nomatch z⟩
    · exact I1.pin q hq
  obtain ⟨mA, J, _⟩ := ins_get I1.hok hx
  obtain ⟨od, J, _⟩ := J.look
  refine own_shown (by decide) (by rw [inLst_units]; show X.A.units + 1 + 1 < _; omega) I1.kIn J (by rw [hK]; exact T.fi) (by rw [hK]; exact T.fn) ?_
  refine wpAny_mono (run_in (E := fun _ _ _ => True) (by rw [hP, hw, hK, hmg, hbs]; exact T.ok) (room_inLst (hr.mono (by omega : k + 1 ≤ k + 2)) l _) (inLst_frames _ _ _) (by rw [hK]; exact T.b) Ip (vs := [.ref x]) (.cons rfl .nil) h) (fun r s' g => ?_) fun _ _ z => z
  obtain ⟨w, H', I', rv, y, rfl, yz, hl', ok, q⟩ := g
  obtain ⟨t, rfl⟩ := rv
  refine ⟨y, t, rfl, ?_⟩
  obtain ⟨p1, p2, _⟩ := I'.pin (s.heap.objs.size, partsO) (List.mem_append_right _ List.mem_cons_self)
  obtain ⟨_, its', n', hv', h1'⟩ := (show ObjOk X.prog X.w H' s'.heap l (.lst [.ref x]) from I'.hok l _ hl')
  obtain ⟨u1, rfl, r1⟩ := vals1 hv'
  cases r1
  refine ⟨p1, ⟨_, _, h1', rfl⟩, ?_, fun h' k2 j hk => ?_⟩
  · rw [oneT_len]
    have : (4194304 : Nat) * 2 + 100 ≤ sizeLine := by decide
    omega
  · have I2 : Inv X pins σ H' s' := I'.pins_of fun q hq => I'.pin q (List.mem_append_right _ (List.mem_cons_of_mem _ (List.mem_append_right _ hq)))
    refine ⟨.str _, H', I2.turned (t' := j) hk p2 nL (.inr I.sz) cel old, ⟨_, rfl⟩, q⟩
def reprOneW (c : Nat) (p : List D → W D) : D → W D
  | .lst [o] => (objW c o).bind fun o => (p [o]).bind fun r => (asS r).bind fun y => (W.want (y.length ≤ 4194304)).bind fun _ => W.ret (.str (oneT y))
  | _ => W.fail
end
section
variable {X : Cx} {Γ : Sig} {fe : Fd} {H0 : Hp} {O : List Nat} {k c : Nat} {C f : Addr} {fd : FuncData} {e : Expr} {po : Env → W D} {p : List D → W D} {mg : Str → Option Value} {base : Heap} {p0 p1 pos : Pos}
theorem le_reprOne (T : ReprV Γ mg base k c C f fd p) (hP : X.prog = Γ.P) (hw : X.w = Γ.w) (hK : X.K = Γ.K) (hmg : X.mg = mg) (hbs : X.base = base) (hgd : X.A.guards = some []) (hr : Room (k + 2) X.A) (hg : Gl X "repr") (hm : X.mg "repr" = none) (ha : LE ⟨Γ, fe⟩ H0 O X (.List [e] p1) po)
    (hs : starEach [.List [e] p1] X.env = (false, eval (.List [e] p1) X.env) :: starEach [] X.env := by rfl) (hpl : (backTo pos (starEach [] X.env)).any (·.1) = false := by rfl) :
    LE ⟨Γ, fe⟩ H0 O X (.Call (.Name "repr" p0) [.List [e] p1] [] pos) fun env => (po env).bind (reprOneW c p) := by
  refine wkE (pe_callB (call_reprOne T hP hw hK hmg hbs hgd hr) hg hm (by decide +kernel) (pa_cons ha pa_nil hs) (by decide) (by decide) hs hpl) fun σ H Q ⟨S, A, G, env, E, hA, r, q⟩ => ?_
  refine ⟨S, A, G, env, E, hA, r, (po env).mono (fun d k x H1 g1 r1 hx => ?_) (fun _ z => z) q⟩
  match d, k, hx with
  | .lst [o], k, hx =>
    obtain ⟨l, rfl, k⟩ := objW_wp k
    cases hx with
    | lst ht hal =>
      rename_i a xs
      cases hal with
      | cons hx0 hal =>
        cases hal
        rename_i v0
        cases hx0 with
        | obj h1 h2 hl =>
          rename_i x C' dx xs
          obtain rfl : C' = C := (Option.some.inj (T.cl.symm.trans h2)).symm
          refine ⟨a, x, dx, _, rfl, ms_sub _ _ ht, ms_sub _ _ h1, fe, S ++ A.map (·.2), [.obj c l], E, r1.muA, r1.ffM, r1.fi, .cons (.obj h1 h2 hl) .nil, fun _ _ _ _ _ _ _ _ _ => trivial, (p _).mono (fun d2 k v H3 g3 f3 hv3 => ?_) (fun _ z => z) k⟩
          obtain ⟨y, rfl, yz, k⟩ := asS_wp k
          have gm := g3.ms r1.ffM
          cases hv3 with
          | str _ ok =>
            have ok2 : PyData.strOk (oneT y) = true := by
              have e1 : oneT y = ("[" : Str) ++ ((if 0 > 0 then ", " else "" : String) : Str) ++ y ++ ("]" : Str) := rfl
              rw [e1]
              exact strOk_app (strOk_app (strOk_app (by decide +kernel) (by decide +kernel)) ok) (by decide +kernel)
            exact ⟨y, rfl, yz, ms_sub _ _ (gm _ _ ht), ok2, k _ H3 (g1.trans g3) (r1.grow g3 f3) (.str _ ok2)⟩
end
end LP
namespace LP.K05
open PySem PySem.Spec PyProof.Rows L2 PK LP
def bRepr (env : Env) : W Fl := ((jsW [(fun env => (W.ret (.str "Heap("))), (fun env => (((getW env 0).bind fun d => (objW 0 d).bind fun d => (fStr [d]).bind fun r => (asS r).bind fun y => W.ret (.str y)).bind fmtW)), (fun env => (W.ret (.str ")")))] env Str.empty).bind fun d => W.ret (.rt d))
def fRepr : List D → W D := runB 1 1 bRepr
def bShown_1 (env : Env) : W Fl := ((((((((getW env 1).bind fun x => ((((W.ret (.str " ")).bind fun d => ((W.ret (.str "")).bind fun d => (W.ret []).bind fun ds => W.ret (d :: ds)).bind fun ds => W.ret (d :: ds)).bind lstW).bind fun x => ((((getW env 1).bind fun x => (W.ret (.str "")).bind fun y => eqW x y).bind fun d => (W.ret []).bind fun ds => W.ret (d :: ds)).bind intW).bind fun y => ixW x y).bind fun y => addW x y).bind fun x => (getW env 2).bind fun y => addW x y).bind fun x => (W.ret (.str "/")).bind fun y => addW x y).bind fun x => (getW env 3).bind fun y => addW x y).bind fun x => (W.ret (.str ":")).bind fun y => addW x y).bind fun x => (((getW env 4).bind fun d => (W.ret []).bind fun ds => W.ret (d :: ds)).bind strW).bind fun y => addW x y).bind fun d => W.ret (.nx (env.set 1 (some d))))
def bShown_2 (env : Env) : W Fl := (thenW (((((getW env 0).bind fun d => (W.ret []).bind fun ds => W.ret (d :: ds)).bind fSummed).bind walkTW).bind fun ds => forW (tupG 3 (gsW (fun d env => W.ret (env.set 2 (some d))) (gsW (fun d env => W.ret (env.set 3 (some d))) (gsW (fun d env => W.ret (env.set 4 (some d))) (fun ds env => match ds with | [] => W.ret env | _ => W.fail))))) (fun env => (bShown_1 env)) ds env)
  fun env => (((((getW env 1).bind fun x => (W.ret (.str "")).bind fun y => neW x y).bind asB).bind fun k => W.ite k (getW env 1) (W.ret (.str "-"))).bind fun d => W.ret (.rt d)))
def bShown (env : Env) : W Fl := (thenW ((W.ret (.str "")).bind fun d => W.ret (.nx (env.set 1 (some d))))
  fun env => (bShown_2 env))
def fShown : List D → W D := runB 1 5 bShown
def bLots_1 (env : Env) : W Fl := (((((((((getW env 3).bind fun x => (W.ret (.int 0)).bind fun y => ixW x y).bind fun x => (W.ret (.int 0)).bind fun y => ixW x y).bind fun d => ((((getW env 2).bind fun x => ((W.ret (.int 1)).bind negW).bind fun y => ixW x y).bind fun x => ((W.ret (.str "x")).bind fun d => ((((((getW env 2).bind fun x => ((W.ret (.int 1)).bind negW).bind fun y => ixW x y).bind fun d => (W.ret []).bind fun ds => W.ret (d :: ds)).bind lenW).bind fun x => (W.ret (.int 8)).bind fun y => fdivW x y).bind partW).bind fun l => (W.ret none).bind fun u => slW d l u).bind fun y => addW x y).bind fun d => ((((getW env 3).bind fun x => (W.ret (.int 0)).bind fun y => ixW x y).bind fun x => (W.ret (.int 2)).bind fun y => ixW x y).bind fun d => (W.ret []).bind fun ds => W.ret (d :: ds)).bind fun ds => W.ret (d :: ds)).bind fun ds => W.ret (d :: ds)).bind tupW).bind fun d => (W.ret []).bind fun ds => W.ret (d :: ds)).bind tupW).bind fun x => ((getW env 3).bind fun d => ((W.ret (.int 1)).bind partW).bind fun l => (W.ret none).bind fun u => slW d l u).bind fun y => addW x y).bind fun d => putW env 9 (appW d))
def bLots_2 (env : Env) : W Fl := (thenW ((((getW env 3).bind fun x => ((W.ret []).bind tupW).bind fun y => neW x y).bind asB).bind fun k => W.ite k (bLots_1 env) (W.ret (.nx env)))
  fun env => ((getW env 9).bind fun d => W.ret (.rt d)))
def bLots_3 (env : Env) : W Fl := (thenW ((((getW env 3).bind fun d => ((getW env 4).bind fun d => (((getW env 3).bind revTW).bind fun d => ((((getW env 5).bind fun d => (W.ret []).bind fun ds => W.ret (d :: ds)).bind tupleW).bind fun d => (((W.ret []).bind tupW).bind fun d => (((getW env 3).bind fun x => ((((((getW env 1).bind fun x => (W.ret (.int 0)).bind fun y => ixW x y).bind fun d => (((getW env 2).bind fun x => (W.ret (.int 0)).bind fun y => ixW x y).bind fun d => ((W.ret (.int 1)).bind fun d => (W.ret []).bind fun ds => W.ret (d :: ds)).bind fun ds => W.ret (d :: ds)).bind fun ds => W.ret (d :: ds)).bind tupW).bind fun d => (W.ret []).bind fun ds => W.ret (d :: ds)).bind tupW).bind fun y => addW x y).bind fun d => (((getW env 3).bind fun d => ((W.ret (.int 1)).bind partW).bind fun l => (W.ret none).bind fun u => slW d l u).bind fun d => (W.ret []).bind fun ds => W.ret (d :: ds)).bind fun ds => W.ret (d :: ds)).bind fun ds => W.ret (d :: ds)).bind fun ds => W.ret (d :: ds)).bind fun ds => W.ret (d :: ds)).bind fun ds => W.ret (d :: ds)).bind fun ds => W.ret (d :: ds)).bind lstW).bind fun d => (W.want (9 < env.length)).bind fun _ => W.ret (.nx (env.set 9 (some d))))
  fun env => (bLots_2 env))
def bLots_4 (env : Env) : W Fl := (thenW (((getW env 5).bind fun x => (lcD (tupG 3 (gsW (fun d env => W.ret (env.set 6 (some d))) (gsW (fun d env => W.ret (env.set 7 (some d))) (gsW (fun d env => W.ret (env.set 8 (some d))) (fun ds env => match ds with | [] => W.ret env | _ => W.fail))))) (fun env => (((getW env 8).bind fun x => (W.ret (.int 1)).bind fun y => gtW x y).bind asB)) (fun env => (((getW env 6).bind fun d => ((getW env 7).bind fun d => (((getW env 8).bind fun x => (W.ret (.int 2)).bind fun y => fdivW x y).bind fun d => (W.ret []).bind fun ds => W.ret (d :: ds)).bind fun ds => W.ret (d :: ds)).bind fun ds => W.ret (d :: ds)).bind tupW)) [6, 7, 8] (fun env => ((getW env 3).bind walkTW)) env).bind fun y => addW x y).bind fun d => W.ret (.nx (env.set 5 (some d))))
  fun env => (bLots_3 env))
def bLots_5 (env : Env) : W Fl := (thenW ((lcD (tupG 3 (gsW (fun d env => W.ret (env.set 6 (some d))) (gsW (fun d env => W.ret (env.set 7 (some d))) (gsW (fun d env => W.ret (env.set 8 (some d))) (fun ds env => match ds with | [] => W.ret env | _ => W.fail))))) (fun env => (W.ret true)) (fun env => (((getW env 6).bind fun d => ((getW env 7).bind fun d => (((getW env 8).bind fun x => ((getW env 8).bind fun x => (W.ret (.int 2)).bind fun y => fdivW x y).bind fun y => subW x y).bind fun d => (W.ret []).bind fun ds => W.ret (d :: ds)).bind fun ds => W.ret (d :: ds)).bind fun ds => W.ret (d :: ds)).bind tupW)) [6, 7, 8] (fun env => ((getW env 3).bind walkTW)) env).bind fun d => W.ret (.nx (env.set 5 (some d))))
  fun env => (bLots_4 env))
def bLots (env : Env) : W Fl := (thenW (((((getW env 0).bind fun d => ((getW env 1).bind fun d => ((getW env 2).bind fun d => ((W.ret (.int 8)).bind fun d => (W.ret []).bind fun ds => W.ret (d :: ds)).bind fun ds => W.ret (d :: ds)).bind fun ds => W.ret (d :: ds)).bind fun ds => W.ret (d :: ds)).bind fLRows).bind fun d => ((((getW env 0).bind fun d => ((getW env 1).bind fun d => ((getW env 2).bind fun d => ((W.ret (.int 8)).bind fun d => (W.ret []).bind fun ds => W.ret (d :: ds)).bind fun ds => W.ret (d :: ds)).bind fun ds => W.ret (d :: ds)).bind fun ds => W.ret (d :: ds)).bind fLRows).bind fun d => (W.ret []).bind fun ds => W.ret (d :: ds)).bind fun ds => W.ret (d :: ds)).bind (par2 3 4 env))
  fun env => (bLots_5 env))
def fLots : List D → W D := runB 3 10 bLots
def bRight_1 (env : Env) : W Fl := (thenW ((((getW env 1).bind fun d => (W.ret []).bind fun ds => W.ret (d :: ds)).bind fShown).bind fun d => W.ret (.nx (env.set 3 (some d))))
  fun env => (((getW env 2).bind fun x => (((((((getW env 1).bind fun d => (W.ret []).bind fun ds => W.ret (d :: ds)).bind fSummed).bind fun d => (W.ret []).bind fun ds => W.ret (d :: ds)).bind lenW).bind fun d => (((getW env 1).bind fun x => ((W.ret []).bind tupW).bind fun y => neW x y).bind fun d => ((getW env 3).bind fun d => ((((W.ret (.str "Heap(")).bind fun x => (getW env 3).bind fun y => addW x y).bind fun x => (W.ret (.str ")")).bind fun y => addW x y).bind fun d => ((((W.ret (.str "[Heap(")).bind fun x => (getW env 3).bind fun y => addW x y).bind fun x => (W.ret (.str ")]")).bind fun y => addW x y).bind fun d => ((getW env 3).bind fun d => (W.ret []).bind fun ds => W.ret (d :: ds)).bind fun ds => W.ret (d :: ds)).bind fun ds => W.ret (d :: ds)).bind fun ds => W.ret (d :: ds)).bind fun ds => W.ret (d :: ds)).bind fun ds => W.ret (d :: ds)).bind tupW).bind fun y => eqW x y).bind fun d => W.ret (.rt d)))
def bRight (env : Env) : W Fl := (thenW ((((((getW env 0).bind fun d => (W.ret []).bind fun ds => W.ret (d :: ds)).bind lenHW).bind fun d => ((((getW env 0).bind fun d => (W.ret []).bind fun ds => W.ret (d :: ds)).bind boolHW).bind fun d => (((getW env 0).bind fun d => (objW 0 d).bind fun d => (fStr [d]).bind fun r => (asS r).bind fun y => W.ret (.str y)).bind fun d => (((getW env 0).bind fun d => (objW 0 d).bind fun d => (fRepr [d]).bind fun r => (asS r).bind fun y => W.ret (.str y)).bind fun d => (((((getW env 0).bind fun d => (W.ret []).bind fun ds => W.ret (d :: ds)).bind lstW).bind (reprOneW 0 fRepr)).bind fun d => (((getW env 0).bind (fmtOW 0 fStr)).bind fun d => (W.ret []).bind fun ds => W.ret (d :: ds)).bind fun ds => W.ret (d :: ds)).bind fun ds => W.ret (d :: ds)).bind fun ds => W.ret (d :: ds)).bind fun ds => W.ret (d :: ds)).bind fun ds => W.ret (d :: ds)).bind tupW).bind fun d => W.ret (.nx (env.set 2 (some d))))
  fun env => (bRight_1 env))
def fRight : List D → W D := runB 2 4 bRight
def bLaw_1 (env : Env) : W Fl := ((((((((((getW env 5).bind fun x => (getW env 7).bind fun y => ixW x y).bind fun x => ((getW env 5).bind fun x => (getW env 8).bind fun y => ixW x y).bind fun y => eqHW x y).bind fun d => ((((getW env 5).bind fun x => (getW env 7).bind fun y => ixW x y).bind fun x => ((getW env 5).bind fun x => (getW env 8).bind fun y => ixW x y).bind fun y => neHW x y).bind fun d => (W.ret []).bind fun ds => W.ret (d :: ds)).bind fun ds => W.ret (d :: ds)).bind tupW).bind fun d => (W.ret []).bind fun ds => W.ret (d :: ds)).bind reprD).bind fun x => (((((getW env 9).bind fun d => (((getW env 9).bind fun d => (asB d).bind fun k => W.ret (.bl !k)).bind fun d => (W.ret []).bind fun ds => W.ret (d :: ds)).bind fun ds => W.ret (d :: ds)).bind tupW).bind fun d => (W.ret []).bind fun ds => W.ret (d :: ds)).bind reprD).bind fun y => neW x y).bind asB).bind fun k => W.ite k ((W.ret (.bl false)).bind fun d => W.ret (.rt d)) (W.ret (.nx env)))
def bLaw_2 (env : Env) : W Fl := (thenW ((((((getW env 4).bind fun x => (getW env 7).bind fun y => ixW x y).bind fun d => (W.ret []).bind fun ds => W.ret (d :: ds)).bind fSummed).bind fun x => ((((getW env 4).bind fun x => (getW env 8).bind fun y => ixW x y).bind fun d => (W.ret []).bind fun ds => W.ret (d :: ds)).bind fSummed).bind fun y => eqW x y).bind fun d => W.ret (.nx (env.set 9 (some d))))
  fun env => (bLaw_1 env))
def bLaw_3 (env : Env) : W Fl := ((((((getW env 5).bind fun x => (getW env 7).bind fun y => ixW x y).bind fun x => (getW env 10).bind fun y => eqXW false x y).bind asB).bind fun k => W.ite k (W.ret true) ((((getW env 10).bind fun x => ((getW env 5).bind fun x => (getW env 7).bind fun y => ixW x y).bind fun y => xEqW x y).bind asB).bind fun k => W.ite k (W.ret true) (((((getW env 5).bind fun x => (getW env 7).bind fun y => ixW x y).bind fun x => (getW env 10).bind fun y => eqXW true x y).bind asB).bind fun k => W.ret !k))).bind fun k => W.ite k ((W.ret (.bl false)).bind fun d => W.ret (.rt d)) (W.ret (.nx env)))
def bLaw_4 (env : Env) : W Fl := (((((W.ret .non).bind fun d => ((W.ret (.int 0)).bind fun d => ((W.ret (.bl true)).bind fun d => ((W.ret (.str "")).bind fun d => ((W.ret (.str "-")).bind fun d => (((W.ret []).bind tupW).bind fun d => (((W.ret []).bind lstW).bind fun d => (((getW env 4).bind fun x => (getW env 7).bind fun y => ixW x y).bind fun d => ((((getW env 5).bind fun x => (getW env 7).bind fun y => ixW x y).bind fun d => (objW 0 d).bind fun d => (W.ret []).bind fun ds => rowsW (d :: ds)).bind fun d => ((((getW env 5).bind fun x => (getW env 7).bind fun y => ixW x y).bind fun d => (objW 0 d).bind fun d => (fStr [d]).bind fun r => (asS r).bind fun y => W.ret (.str y)).bind fun d => ((((W.ret (.str "a")).bind fun d => ((W.ret (.str "b")).bind fun d => ((W.ret (.int 1)).bind fun d => (W.ret []).bind fun ds => W.ret (d :: ds)).bind fun ds => W.ret (d :: ds)).bind fun ds => W.ret (d :: ds)).bind tupW).bind fun d => (W.ret []).bind fun ds => W.ret (d :: ds)).bind fun ds => W.ret (d :: ds)).bind fun ds => W.ret (d :: ds)).bind fun ds => W.ret (d :: ds)).bind fun ds => W.ret (d :: ds)).bind fun ds => W.ret (d :: ds)).bind fun ds => W.ret (d :: ds)).bind fun ds => W.ret (d :: ds)).bind fun ds => W.ret (d :: ds)).bind fun ds => W.ret (d :: ds)).bind fun ds => W.ret (d :: ds)).bind tupW).bind walkTW).bind fun ds => forW (fun d env => W.ret (env.set 10 (some d))) (fun env => (bLaw_3 env)) ds env)
def bLaw_5 (env : Env) : W Fl := (thenW ((((((getW env 4).bind fun d => (W.ret []).bind fun ds => W.ret (d :: ds)).bind lenW).bind fun d => (W.ret []).bind fun ds => W.ret (d :: ds)).bind range1W).bind fun ds => forW (fun d env => W.ret (env.set 8 (some d))) (fun env => (bLaw_2 env)) ds env)
  fun env => (bLaw_4 env))
def bLaw_6 (env : Env) : W Fl := (thenW (((((((getW env 5).bind fun x => (getW env 7).bind fun y => ixW x y).bind fun d => (((getW env 4).bind fun x => (getW env 7).bind fun y => ixW x y).bind fun d => (W.ret []).bind fun ds => W.ret (d :: ds)).bind fun ds => W.ret (d :: ds)).bind fRight).bind asB).bind fun k => W.ret !k).bind fun k => W.ite k ((W.ret (.bl false)).bind fun d => W.ret (.rt d)) (W.ret (.nx env)))
  fun env => (bLaw_5 env))
def bLaw_7 (env : Env) : W Fl := (thenW ((((((getW env 4).bind fun d => (W.ret []).bind fun ds => W.ret (d :: ds)).bind lenW).bind fun d => (W.ret []).bind fun ds => W.ret (d :: ds)).bind range1W).bind fun ds => forW (fun d env => W.ret (env.set 7 (some d))) (fun env => (bLaw_6 env)) ds env)
  fun env => (((lcD (fun d env => W.ret (env.set 7 (some d))) (fun env => ((((((getW env 5).bind fun x => (getW env 7).bind fun y => ixW x y).bind fun d => (((getW env 4).bind fun x => (getW env 7).bind fun y => ixW x y).bind fun d => (W.ret []).bind fun ds => W.ret (d :: ds)).bind fun ds => W.ret (d :: ds)).bind fRight).bind asB).bind fun k => W.ret !k)) (fun env => (getW env 7)) [7] (fun env => (((((getW env 4).bind fun d => (W.ret []).bind fun ds => W.ret (d :: ds)).bind lenW).bind fun d => (W.ret []).bind fun ds => W.ret (d :: ds)).bind range1W)) env).bind fun x => ((W.ret []).bind lstW).bind fun y => eqW x y).bind fun d => W.ret (.rt d)))
def bLaw_8 (env : Env) : W Fl := (thenW ((lcD (fun d env => W.ret (env.set 6 (some d))) (fun env => (W.ret true)) (fun env => ((getW env 6).bind heapW)) [6] (fun env => ((getW env 4).bind walkLW)) env).bind fun d => W.ret (.nx (env.set 5 (some d))))
  fun env => (bLaw_7 env))
def bLaw_9 (env : Env) : W Fl := (thenW ((((getW env 1).bind fun d => ((getW env 2).bind fun d => ((getW env 3).bind fun d => (W.ret []).bind fun ds => W.ret (d :: ds)).bind fun ds => W.ret (d :: ds)).bind fun ds => W.ret (d :: ds)).bind fLots).bind fun d => W.ret (.nx (env.set 4 (some d))))
  fun env => (bLaw_8 env))
def bLaw (env : Env) : W Fl := (thenW (((((getW env 1).bind fun d => (((W.ret (.int 1)).bind fun x => (((getW env 1).bind fun d => ((W.ret (.int 4)).bind fun d => (W.ret []).bind fun ds => W.ret (d :: ds)).bind fun ds => W.ret (d :: ds)).bind drawW).bind fun y => addW x y).bind fun d => (W.ret []).bind fun ds => W.ret (d :: ds)).bind fun ds => W.ret (d :: ds)).bind fLNames).bind fun d => ((((getW env 1).bind fun d => (((W.ret (.int 1)).bind fun x => (((getW env 1).bind fun d => ((W.ret (.int 4)).bind fun d => (W.ret []).bind fun ds => W.ret (d :: ds)).bind fun ds => W.ret (d :: ds)).bind drawW).bind fun y => addW x y).bind fun d => (W.ret []).bind fun ds => W.ret (d :: ds)).bind fun ds => W.ret (d :: ds)).bind fLNames).bind fun d => (W.ret []).bind fun ds => W.ret (d :: ds)).bind fun ds => W.ret (d :: ds)).bind (par2 2 3 env))
  fun env => (bLaw_9 env))
end LP.K05
namespace K05
open PySem PySem.Spec PyProof.Rows L2 PK
def topS (i : Nat) : Stmt := PySem.Challenge.pw_partkits_k05_heaps_compared_and_shown.main.body.getD i (.Pass ⟨0, 0, 0, 0⟩)
abbrev NFeed : List Str := ["_law_script"]
theorem scFeed : FnScope NFeed ["_law_script"] (defScope (topS 5)) := ⟨rfl, rfl, rfl, by decide +kernel, rfl, by decide +kernel, by decide +kernel⟩
section
variable {P : Program} {w : World} {K : PySem.W.Frag} {mg : Str → Option Value} {base : Heap}
def spFeed (K : PySem.W.Frag) : Sp := fun vs H Q _ => ∃ (a : Addr) (ns : List Int), vs = [.ref a] ∧ SqL K H a (ns.map V.int) ∧
  ∀ p c H', H p = none → Same H H' → IsFeed H' p c → Q (.ref p) H'
theorem ok_feed {f : Addr} {fd : FuncData} {k : Nat} (F : Fun K "_law_feed" "_law_feed" (topS 5) f fd) (hL : mg "list" = none) :
    FnOk P w K mg base CX0 (k + 1) f fd ["_law_script"] (spFeed K) := by
  refine F.ok scFeed (fun vs H Q E h => ?_) (fun cdv A outer s H vs Q E hr h => ?_)
  · obtain ⟨a, ns, rfl, _⟩ := h
    rfl
  · obtain ⟨a, ns, rfl, hS, q⟩ := h
    refine ⟨_, (pss_one (ps_ret (pe_disp (pps_cons pe_str (pe_callTy (k_list K) (by rfl) hL (by decide +kernel) (pa_cons (pe_slice (ks_list K) (pv 0) po_none (po_some pe_int)) pa_nil)) (pps_cons pe_str pe_int (pps_cons pe_str pe_int (pps_cons pe_str pe_int pps_nil)))) (by rfl) (by rfl) (fun z => by cases z) (by decide)))), ?_⟩
    intro p np
    have sp : Same H (upd H p (.dK [])) := same_new (Same.refl H) np
    refine ⟨.ref a, rfl, 63, rfl, a, ns.map V.int, rfl, sp.seq hS, fun c nc => ?_⟩
    have ncp : c ≠ p := fun e => by
      rw [e, upd_same] at nc
      cases nc
    refine ⟨c, _, rfl, .inl (.inl (.inl upd_same)), fun d nd => ?_⟩
    have ndp : d ≠ p := fun e => by
      rw [e, upd_ne ncp.symm, upd_same] at nd
      cases nd
    refine ⟨?_, feed d 0 0 0, rfl, by show 4 ≤ 15; decide, ?_⟩
    · rw [upd_ne ndp.symm, upd_ne ncp.symm, upd_same]
    · rw [feed_merge]
      have s2 : Same H (upd (upd (upd H p (.dK [])) c (.lst (cutV (ns.map V.int) none (some 63)))) d (.lst (cutV (ns.map V.int) none (some 63)))) := same_new (same_new sp nc) nd
      refine q p d _ np (same_own s2 np) ⟨(ns.drop (HT.sIx ns.length 0 none)).take (HT.sIx ns.length ns.length (some 63) - HT.sIx ns.length 0 none), 0, 0, 0, upd_same, ?_, by decide⟩
      rw [upd_ne ndp, upd_same]
      unfold cutV
      rw [List.map_take, List.map_drop, List.length_map]
end
abbrev NDraw : List Str := ["_law_feed_here", "_law_many_here", "_law_figure", "_law_at", "_law_cell", "_law_mixed"]
theorem scDraw : FnScope NDraw ["_law_feed_here", "_law_many_here"] (defScope (topS 6)) := ⟨rfl, rfl, rfl, by decide +kernel, rfl, by decide +kernel, by decide +kernel⟩
section
variable {P : Program} {w : World} {K : PySem.W.Frag} {mg : Str → Option Value} {base : Heap}
theorem ok_draw {f : Addr} {fd : FuncData} {k : Nat} (F : Fun K "_law_draw" "_law_draw" (topS 6) f fd) (hl : mg "len" = none) :
    FnOk P w K mg base CX0 (k + 1) f fd ["_law_feed_here", "_law_many_here"] spDraw := by
  refine F.ok scDraw (fun vs H Q E h => ?_) (fun cdv A outer s H vs Q E hr h => ?_)
  · obtain ⟨a, c, m, rfl, _⟩ := h
    rfl
  · obtain ⟨a, c, m, rfl, ⟨cs, i, l, n, fd⟩, m0, m1, q⟩ := h
    have e0 : Ext a H H := Ext.refl a H
    refine ⟨_, (pss_cons (ps_dput (hu_of hr) (pv 0) pe_str (pe_op op_add (pe_dget (hu_of hr) (pv 0) pe_str (fun _ _ => rfl)) pe_int) rfl)
  (pss_cons (ps_if (pt_cmpR op_gt (pe_dget (hu_of hr) (pv 0) pe_str (fun _ _ => rfl)) pe_int (nomark _))
  (pss_cons (ps_set (i := 2) scDraw.nd rfl (.inl rfl) (pe_op op_mod (pe_dget (hu_of hr) (pv 0) pe_str (fun _ _ => rfl)) (pv 1)))
  (pss_cons (ps_dput (hu_of hr) (pv 0) pe_str (pe_op op_fdiv (pe_dget (hu_of hr) (pv 0) pe_str (fun _ _ => rfl)) (pv 1)) rfl)
  (pss_one (ps_ret (pv 2))))) pss_nil)
  (pss_cons (ps_set (i := 3) scDraw.nd rfl (.inl rfl) (pe_dget (hu_of hr) (pv 0) pe_str (fun _ _ => rfl)))
  (pss_cons (ps_dput (hu_of hr) (pv 0) pe_str (pe_op op_add (pv 3) pe_int) rfl)
  (Evl.pss_cut (ps_set (i := 4) scDraw.nd rfl (.inl rfl) (pe_ifExp (pt_cmpR (ko_neNil K hr) (pe_dget (hu_of hr) (pv 0) pe_str (fun _ _ => rfl)) (pe_lst pa_nil) (nomark _)) (pe_ix (kx_list K) (pe_dget (hu_of hr) (pv 0) pe_str (fun _ _ => rfl)) (pe_op op_mod (pv 3) (pe_callB (k_len K) (by rfl) hl PySem.boot_len (pa_cons (pe_dget (hu_of hr) (pv 0) pe_str (fun _ _ => rfl)) pa_nil))) (fun _ _ => rfl)) pe_int))
  (Evl.pss_cut (ps_if (PW.pt (pw_and (pt_cmpR op_ge (pv 4) (pe_op op_pow pe_int pe_int) (nomark _)) (pw_and1 (pt_cmpR op_lt (pv 3) (pe_callB (k_len K) (by rfl) hl PySem.boot_len (pa_cons (pe_dget (hu_of hr) (pv 0) pe_str (fun _ _ => rfl)) pa_nil)) (nomark _)))))
  (pss_cons (ps_dput (hu_of hr) (pv 0) pe_str (pe_op op_fdiv (pv 4) (pv 1)) rfl)
  (pss_one (ps_ret (pe_op op_mod (pv 4) (pv 1))))) pss_nil)
  (pss_cons (ps_set (i := 5) scDraw.nd rfl (.inl rfl) (pe_op op_mod (pe_op op_add (pe_op op_add (pe_op op_mod (pv 4) pe_int) (pe_op op_mul pe_int (pe_dget (hu_of hr) (pv 0) pe_str (fun _ _ => rfl)))) pe_int) pe_int))
  (pss_cons (ps_set (i := 5) scDraw.nd rfl (.inl rfl) (pe_op op_mod (pe_op op_add (pe_op op_add (pe_op op_mul (pv 5) (pv 5)) (pe_op op_mul pe_int (pe_dget (hu_of hr) (pv 0) pe_str (fun _ _ => rfl)))) pe_int) pe_int))
  (pss_one (ps_ret (pe_op op_mod (pe_op op_fdiv (pe_op op_mod (pe_op op_add (pe_op op_mul (pv 5) (pv 5)) (pe_op op_mul pe_int (pv 5))) pe_int) pe_int) (pv 1)))))))))))), ?_⟩
    refine ⟨.ref a, rfl, a, .int n, rfl, DGet.k (k := kN) fd.d, n, 1, rfl, rfl, .ref a, rfl, a, _, rfl, DPut.k (k := kN) fd.d (feed_len c i l n), ?_⟩
    rw [feed_putN]
    have f1 := fd.put (l' := l) (n' := n + 1) fd.i0
    have e1 : Ext a H (upd H a (.dK (feed c i l (n + 1)))) := e0.at
    generalize upd H a (.dK (feed c i l (n + 1))) = H1 at f1 e1
    refine ⟨.ref a, rfl, a, .int l, rfl, DGet.k (k := kL) f1.d, l, 0, rfl, rfl, _, rfl, ite2 (fun hl0 => ?_) (fun hl0 => ?_)⟩
    · have hl0 : 0 < l := of_decide_eq_true hl0
      refine ⟨.ref a, rfl, a, .int l, rfl, DGet.k (k := kL) f1.d, .int m, rfl, l, m, rfl, rfl, m0, ?_⟩
      refine ⟨.ref a, rfl, a, .int l, rfl, DGet.k (k := kL) f1.d, .int m, rfl, l, m, rfl, rfl, ⟨m0, by omega⟩, .ref a, rfl, a, _, rfl, DPut.k (k := kL) f1.d (feed_len c i l (n + 1)), ?_⟩
      rw [feed_putL]
      refine ⟨.int (l % m), rfl, q _ _ (Int.emod_nonneg _ (by omega)) (Int.emod_lt_of_pos _ m0) e1.at ?_⟩
      exact ⟨cs, _, _, _, f1.put f1.i0⟩
    · refine ⟨.ref a, rfl, a, .int i, rfl, DGet.k (k := kA) f1.d, .int i, rfl, i, 1, rfl, rfl, .ref a, rfl, a, _, rfl, DPut.k (k := kA) f1.d (feed_len c i l (n + 1)), ?_⟩
      rw [feed_putA]
      have i1 : 0 ≤ i + 1 := by have := f1.i0; omega
      have f2 := f1.put (l' := l) (n' := n + 1) i1
      have e2 : Ext a H (upd H1 a (.dK (feed c (i + 1) l (n + 1)))) := e1.at
      generalize upd H1 a (.dK (feed c (i + 1) l (n + 1))) = H2 at f2 e2
      -- the cell
      refine ⟨fun σ H3 => ∃ z, σ = [some (.ref a), some (.int m), none, some (.int i), some (.int z), none] ∧ Feed H3 a c cs (i + 1) l (n + 1) ∧ Ext a H H3, ?_, ?_⟩
      · refine ⟨.ref a, rfl, a, .ref c, rfl, DGet.k (k := kC) f2.d, Nat.zero_le _, fun p np => ⟨c, p, cs.map V.int, rfl, rfl, .inl (.inl ((f2.new np).l)), .inl (.inl upd_same), ?_⟩⟩
        have f3 := f2.new (o := .lst []) np
        have e3 : Ext a H (upd H2 p (.lst [])) := e2.new np
        generalize upd H2 p (.lst []) = H3 at f3 e3
        cases cs with
        | nil => exact ⟨_, rfl, iteF ⟨8, rfl, f3, e3⟩⟩
        | cons x r =>
          have hlen : (((x :: r).map V.int).length : Int) = ((r.length + 1 : Nat) : Int) := by
            rw [List.length_map, List.length_cons]
          refine ⟨_, rfl, iteT ⟨.ref a, rfl, a, .ref c, rfl, DGet.k (k := kC) f3.d, .int i, rfl, .ref a, rfl, a, .ref c, rfl, DGet.k (k := kC) f3.d, c, _, rfl, .inl (.inl (.inl f3.l)), i, _, rfl, rfl, ?_, ?_⟩⟩
          · rw [hlen]
            omega
          · have hb : (i % ((((x :: r).map V.int).length : Nat) : Int)).toNat < (x :: r).length := by
              rw [hlen, List.length_cons]
              have h1 := Int.emod_nonneg i (show ((r.length + 1 : Nat) : Int) ≠ 0 by omega)
              have h2 := Int.emod_lt_of_pos i (show (0 : Int) < ((r.length + 1 : Nat) : Int) by omega)
              omega
            have h0 : 0 ≤ i % ((((x :: r).map V.int).length : Nat) : Int) := Int.emod_nonneg _ (by rw [hlen]; omega)
            refine ⟨c, _, _, .int ((x :: r)[(i % ((((x :: r).map V.int).length : Nat) : Int)).toNat]), rfl, rfl, .inl (.inl f3.l), at_of (j := (i % ((((x :: r).map V.int).length : Nat) : Int)).toNat) (by omega) ?_, ?_⟩
            · rw [List.getElem?_map, List.getElem?_eq_getElem hb]
              rfl
            · exact ⟨_, rfl, f3, e3⟩
      · rintro σ H3 ⟨z, rfl, f3, e3⟩
        -- a great cell, or a lesser one
        refine ⟨fun σ H4 => σ = [some (.ref a), some (.int m), none, some (.int i), some (.int z), none] ∧ H4 = H3, ?_, ?_⟩
        · refine ⟨.int z, rfl, 10, 18, rfl, rfl, ⟨by decide, by decide, by decide⟩, _, _, rfl, rfl, _, rfl, ite2 (fun hz => ?_) (fun hz => iteF ⟨rfl, rfl⟩)⟩
          refine ⟨.int i, rfl, .ref a, rfl, a, .ref c, rfl, DGet.k (k := kC) f3.d, c, _, rfl, .inl (.inl (.inl f3.l)), _, _, rfl, rfl, _, rfl, ite2 (fun h2 => ?_) (fun h2 => ⟨rfl, rfl⟩)⟩
          refine ⟨.int z, rfl, .int m, rfl, z, m, rfl, rfl, ⟨m0, by omega⟩, .ref a, rfl, a, _, rfl, DPut.k (k := kL) f3.d (feed_len c (i + 1) l (n + 1)), ?_⟩
          rw [feed_putL]
          refine ⟨.int z, rfl, .int m, rfl, z, m, rfl, rfl, m0, q _ _ (Int.emod_nonneg _ (by omega)) (Int.emod_lt_of_pos _ m0) e3.at ?_⟩
          exact ⟨cs, _, _, _, f3.put f3.i0⟩
        · rintro σ H4 ⟨rfl, rfl⟩
          have fin : IsFeed H4 a c := ⟨cs, _, _, _, f3⟩
          refine ⟨.int z, rfl, z, 1000000033, rfl, rfl, (show (0 : Int) < 1000000033 by decide), .ref a, rfl, a, .int (n + 1), rfl, DGet.k (k := kN) f3.d, 70001, n + 1, rfl, rfl, .inl ⟨by decide, by decide⟩, _, _, rfl, rfl, _, 37, rfl, rfl, _, 2147483587, rfl, rfl, (show (0 : Int) < 2147483587 by decide), ?_⟩
          dsimp only
          have hx0 := Int.emod_nonneg (z % 1000000033 + 70001 * (n + 1) + 37) (show (2147483587 : Int) ≠ 0 by decide)
          have hx1 := Int.emod_lt_of_pos (z % 1000000033 + 70001 * (n + 1) + 37) (show (0 : Int) < 2147483587 by decide)
          generalize (z % 1000000033 + 70001 * (n + 1) + 37) % 2147483587 = x at hx0 hx1
          refine ⟨.int x, rfl, .int x, rfl, x, x, rfl, rfl, .inl ⟨by omega, by omega⟩, .ref a, rfl, a, .int (n + 1), rfl, DGet.k (k := kN) f3.d, 6700417, n + 1, rfl, rfl, .inl ⟨by decide, by decide⟩, _, _, rfl, rfl, _, 7, rfl, rfl, _, 2147483563, rfl, rfl, (show (0 : Int) < 2147483563 by decide), ?_⟩
          dsimp only
          have hy0 := Int.emod_nonneg (x * x + 6700417 * (n + 1) + 7) (show (2147483563 : Int) ≠ 0 by decide)
          have hy1 := Int.emod_lt_of_pos (x * x + 6700417 * (n + 1) + 7) (show (0 : Int) < 2147483563 by decide)
          generalize (x * x + 6700417 * (n + 1) + 7) % 2147483563 = y at hy0 hy1
          refine ⟨.int y, rfl, .int y, rfl, y, y, rfl, rfl, .inl ⟨by omega, by omega⟩, .int y, rfl, 17, y, rfl, rfl, .inl ⟨by decide, by decide⟩, _, _, rfl, rfl, _, 2147483549, rfl, rfl, (show (0 : Int) < 2147483549 by decide), _, 8, rfl, rfl, ⟨by decide, by decide⟩, .int m, rfl, _, m, rfl, rfl, m0, ?_⟩
          exact q _ _ (Int.emod_nonneg _ (by omega)) (Int.emod_lt_of_pos _ m0) e3 fin
end
end K05
namespace LP.K05
open PySem PySem.Spec PyProof.Rows L2 PK LP RZ
open _root_.K05 (topS)
section
variable {Γ : Sig} {mg : Str → Option Value} {base : Heap}
abbrev NLNames : List Str := ["_law_feed_here", "_law_many_here", "_law_letters", "_law_found", "_law_at", "_law_k", "_law_tail", "_law_j"]
theorem scLNames : FnScope NLNames ["_law_feed_here", "_law_many_here"] (defScope (topS 7)) := ⟨rfl, rfl, rfl, by decide +kernel, rfl, by decide +kernel, by decide +kernel⟩
theorem ok_LNames {f : Addr} {fd : FuncData} (F : Fun Γ.K "_law_names" "_law_names" (topS 7) f fd) (hB : NoB mg BL)  {gDraw : Addr} {dDraw : FuncData} (CDraw : CalV Γ mg base 1 "_law_draw" gDraw dDraw ["_law_feed_here", "_law_many_here"] drawW) :
    FnOk Γ.P Γ.w Γ.K mg base CX0 2 f fd ["_law_feed_here", "_law_many_here"] (liF Γ fLNames) :=
  ok_run F scLNames rfl rfl (fun fe cdv A outer s H E hr =>
  (lss_cons (O2 := []) (ls_set (O' := []) (i := 2) scLNames.nd rfl (.inr rfl) le_str)
  (lss_cons (O2 := [3]) (ls_own (O' := []) (i := 3) scLNames.nd rfl (.inl rfl) (ln_lst la_nil))
  (lss_cons (O2 := [3]) (ls_set (O' := [3]) (i := 4) scLNames.nd rfl (.inl rfl) (le_call CDraw rfl rfl rfl rfl rfl (hr.mono (by decide)) (by rfl) (la_cons (le_var 0 (by decide) (pv 0)) (la_cons le_int la_nil))))
  (lss_cons (O2 := []) (ls_for (vs := [5]) PassesOwn.never rfl (li_range (by rfl) (hB "range" (by decide +kernel)) (la_cons (le_var 1 (by decide) (pv 1)) la_nil)) (lg_name 5 (by decide) (by decide) (pg_name (i := 5) scLNames.nd rfl (.inl rfl)))
  (lss_last (ls_if (O' := [3]) (PW.pt (lw_and (lt_ne hr rfl (lb_var 3 (pv 3)) (lb (le_lst la_nil))) (lw_and (lt_lt (lb (le_len rfl (by rfl) (hB "len" (by decide +kernel)) (lab_cons (lb (le_item rfl (fun _ _ => rfl) (lb_var 3 (pv 3)) (lb (le_neg le_int)))) lab_nil))) (lb le_int)) (lw_and1 (lt_eq hr rfl (lb (le_call CDraw rfl rfl rfl rfl rfl (hr.mono (by decide)) (by rfl) (la_cons (le_var 0 (by decide) (pv 0)) (la_cons le_int la_nil)))) (lb le_int))))))
  (lss_last (ls_append (i := 3) (by decide) (pe_bm PySem.F.plainAttrs_list PySem.F.slot_list_append PySem.F.type_list_append mt_append (pv 3) (pa_cons (le_add rfl (lb (le_item rfl (fun _ _ => rfl) (lb_var 3 (pv 3)) (lb (le_neg le_int)))) (lb (le_item rfl (fun _ _ => rfl) (lb_var 2 (pv 2)) (lb (le_call CDraw rfl rfl rfl rfl rfl (hr.mono (by decide)) (by rfl) (la_cons (le_var 0 (by decide) (pv 0)) (la_cons le_int la_nil))))))) pa_nil)))) (lss_cons (O2 := [3]) (ls_set (O' := [3]) (i := 4) scLNames.nd rfl (.inl rfl) (le_add rfl (lb_var 4 (pv 4)) (lb le_int)))
  (lss_cons (O2 := [3]) (ls_lcF (O' := [3]) (i := 6) (own := [("_law_j", 7)]) rfl scLNames.nd rfl rfl (sw_true rfl rfl rfl (by decide +kernel)) (li_range (by rfl) (hB "range" (by decide +kernel)) (la_cons (le_item rfl (fun _ _ => rfl) (lb (le_lst (la_cons le_int (la_cons le_int (la_cons le_int (la_cons le_int la_nil)))))) (lb (le_call CDraw rfl rfl rfl rfl rfl (hr.mono (by decide)) (by rfl) (la_cons (le_var 0 (by decide) (pv 0)) (la_cons le_int la_nil))))) la_nil)) (blkOk_by (N := NLNames) (sc := defScope (topS 7)) (own := [("_law_j", 7)]) (by decide +kernel)) (by decide) (fun _ _ _ _ _ => (lg_name 7 (by decide) (by decide) (pg_name (i := 7) scLNames.nd rfl (.inl rfl)))) (fun _ _ _ _ _ => lts_nil) (fun _ _ _ _ _ => (le_item rfl (fun _ _ => rfl) (lb_var 2 (pv 2)) (lb (le_call CDraw rfl rfl rfl rfl rfl (hr.mono (by decide)) (by rfl) (la_cons (le_var 0 (by decide) (pv 0)) (la_cons le_int la_nil)))))))
  (lss_last (ls_append (i := 3) (by decide) (pe_bm PySem.F.plainAttrs_list PySem.F.slot_list_append PySem.F.type_list_append mt_append (pv 3) (pa_cons (le_add rfl (lb (le_item rfl (fun _ _ => rfl) (lb_var 2 (pv 2)) (lb (le_mod (lb_var 4 (pv 4)) (lb le_int))))) (lb (le_join rfl (lb le_str) (lb_var 6 (pv 6))))) pa_nil)))))))))
  (lss_one (ls_ret (le_var 3 (by decide) (pv 3)))))))))
abbrev NLMany : List Str := ["_law_feed_here"]
theorem scLMany : FnScope NLMany ["_law_feed_here"] (defScope (topS 8)) := ⟨rfl, rfl, rfl, by decide +kernel, rfl, by decide +kernel, by decide +kernel⟩
theorem ok_LMany {f : Addr} {fd : FuncData} (F : Fun Γ.K "_law_many" "_law_many" (topS 8) f fd) (hB : NoB mg BL)  {gDraw : Addr} {dDraw : FuncData} (CDraw : CalV Γ mg base 1 "_law_draw" gDraw dDraw ["_law_feed_here", "_law_many_here"] drawW) :
    FnOk Γ.P Γ.w Γ.K mg base CX0 2 f fd ["_law_feed_here"] (liF Γ fLMany) :=
  ok_run F scLMany rfl rfl (fun fe cdv A outer s H E hr =>
  (lss_one (ls_ret (le_item rfl (fun _ _ => rfl) (lb (le_lst (la_cons le_int (la_cons (le_add rfl (lb le_int) (lb (le_call CDraw rfl rfl rfl rfl rfl (hr.mono (by decide)) (by rfl) (la_cons (le_var 0 (by decide) (pv 0)) (la_cons le_int la_nil))))) (la_cons (le_sub (lb (le_pow (lb le_int) (lb le_int))) (lb (le_call CDraw rfl rfl rfl rfl rfl (hr.mono (by decide)) (by rfl) (la_cons (le_var 0 (by decide) (pv 0)) (la_cons le_int la_nil))))) (la_cons (le_add rfl (lb le_int) (lb (le_call CDraw rfl rfl rfl rfl rfl (hr.mono (by decide)) (by rfl) (la_cons (le_var 0 (by decide) (pv 0)) (la_cons (le_pow (lb le_int) (lb le_int)) la_nil))))) la_nil)))))) (lb (le_call CDraw rfl rfl rfl rfl rfl (hr.mono (by decide)) (by rfl) (la_cons (le_var 0 (by decide) (pv 0)) (la_cons le_int la_nil))))))))
abbrev NLRows : List Str := ["_law_feed_here", "_law_forms", "_law_shades", "_law_most_now", "_law_found", "_law_k", "_law_form", "_law_shade"]
theorem scLRows : FnScope NLRows ["_law_feed_here", "_law_forms", "_law_shades", "_law_most_now"] (defScope (topS 9)) := ⟨rfl, rfl, rfl, by decide +kernel, rfl, by decide +kernel, by decide +kernel⟩
theorem ok_LRows {f : Addr} {fd : FuncData} (F : Fun Γ.K "_law_rows" "_law_rows" (topS 9) f fd) (hB : NoB mg BL)  {gDraw : Addr} {dDraw : FuncData} (CDraw : CalV Γ mg base 1 "_law_draw" gDraw dDraw ["_law_feed_here", "_law_many_here"] drawW) {gLMany : Addr} {dLMany : FuncData} (CLMany : CalV Γ mg base 2 "_law_many" gLMany dLMany ["_law_feed_here"] fLMany) :
    FnOk Γ.P Γ.w Γ.K mg base CX0 3 f fd ["_law_feed_here", "_law_forms", "_law_shades", "_law_most_now"] (liF Γ fLRows) :=
  ok_run F scLRows rfl rfl (fun fe cdv A outer s H E hr =>
  (lss_cons (O2 := [4]) (ls_own (O' := []) (i := 4) scLRows.nd rfl (.inl rfl) (ln_lst la_nil))
  (lss_cons (O2 := []) (ls_for (vs := [5]) PassesOwn.never rfl (li_range (by rfl) (hB "range" (by decide +kernel)) (la_cons (le_call CDraw rfl rfl rfl rfl rfl (hr.mono (by decide)) (by rfl) (la_cons (le_var 0 (by decide) (pv 0)) (la_cons (le_add rfl (lb_var 3 (pv 3)) (lb le_int)) la_nil))) la_nil)) (lg_name 5 (by decide) (by decide) (pg_name (i := 5) scLRows.nd rfl (.inl rfl)))
  (lss_cons (O2 := [4]) (ls_set (O' := [4]) (i := 6) scLRows.nd rfl (.inl rfl) (le_item rfl (fun _ _ => rfl) (lb_var 1 (pv 1)) (lb (le_call CDraw rfl rfl rfl rfl rfl (hr.mono (by decide)) (by rfl) (la_cons (le_var 0 (by decide) (pv 0)) (la_cons (le_len rfl (by rfl) (hB "len" (by decide +kernel)) (lab_cons (lb_var 1 (pv 1)) lab_nil)) la_nil))))))
  (lss_cons (O2 := [4]) (ls_set (O' := [4]) (i := 7) scLRows.nd rfl (.inl rfl) (le_item rfl (fun _ _ => rfl) (lb_var 2 (pv 2)) (lb (le_call CDraw rfl rfl rfl rfl rfl (hr.mono (by decide)) (by rfl) (la_cons (le_var 0 (by decide) (pv 0)) (la_cons (le_len rfl (by rfl) (hB "len" (by decide +kernel)) (lab_cons (lb_var 2 (pv 2)) lab_nil)) la_nil))))))
  (lss_last (ls_append (i := 4) (by decide) (pe_bm PySem.F.plainAttrs_list PySem.F.slot_list_append PySem.F.type_list_append mt_append (pv 4) (pa_cons (le_tup (la_cons (le_var 6 (by decide) (pv 6)) (la_cons (le_var 7 (by decide) (pv 7)) (la_cons (le_call CLMany rfl rfl rfl rfl rfl (hr.mono (by decide)) (by rfl) (la_cons (le_var 0 (by decide) (pv 0)) la_nil)) la_nil)))) pa_nil)))))))
  (lss_one (ls_ret (le_tuple rfl (by rfl) (hB "tuple" (by decide +kernel)) (lab_cons (lb_var 4 (pv 4)) lab_nil)))))))
abbrev NSummed : List Str := ["_law_rows_here", "_law_found", "_law_rest", "_law_row", "_law_part", "_law_one"]
theorem scSummed : FnScope NSummed ["_law_rows_here"] (defScope (topS 10)) := ⟨rfl, rfl, rfl, by decide +kernel, rfl, by decide +kernel, by decide +kernel⟩
theorem ok_Summed {f : Addr} {fd : FuncData} (F : Fun Γ.K "_law_summed" "_law_summed" (topS 10) f fd) (hB : NoB mg BL)  :
    FnOk Γ.P Γ.w Γ.K mg base CX0 1 f fd ["_law_rows_here"] (liF Γ fSummed) :=
  ok_run F scSummed rfl rfl (fun fe cdv A outer s H E hr =>
  (lss_cons (O2 := [1]) (ls_parN (i := 1) (j := 2) rfl scSummed.nd rfl rfl (by decide) rfl rfl (le_new (ln_lc (own := [("_law_row", 3)]) rfl scSummed.nd (li_tup (le_var 0 (by decide) (pv 0)) rfl) (blkOk_by (N := NSummed) (sc := defScope (topS 10)) (own := [("_law_row", 3)]) (by decide +kernel)) (by decide) (fun _ _ _ _ _ => (lg_name 3 (by decide) (by decide) (pg_name (i := 3) scSummed.nd rfl (.inl rfl)))) (fun _ _ _ _ _ => lts_nil) (fun _ _ _ _ _ => (le_slice rfl (lb_var 3 (pv 3)) lo_none (lo_some le_int))))) (by rfl) (by decide) (by decide))
  (lss_cons (O2 := []) (ls_while PassesOwn.never (lt_ne hr rfl (lb_var 2 (pv 2)) (lb (le_lst la_nil)))
  (lss_cons (O2 := [1]) (ls_set (O' := [1]) (i := 4) scSummed.nd rfl (.inr rfl) (le_minL rfl hr rfl (by rfl) (hB "min" (by decide +kernel)) (lab_cons (lb_var 2 (pv 2)) lab_nil)))
  (lss_cons (O2 := [1]) (ls_lcF (O' := [1]) (i := 2) (own := [("_law_one", 5)]) rfl scSummed.nd rfl rfl (sw_true rfl rfl rfl (by decide +kernel)) (li_list (le_var 2 (by decide) (pv 2)) rfl) (blkOk_by (N := NSummed) (sc := defScope (topS 10)) (own := [("_law_one", 5)]) (by decide +kernel)) (by decide) (fun _ _ _ _ _ => (lg_name 5 (by decide) (by decide) (pg_name (i := 5) scSummed.nd rfl (.inl rfl)))) (fun _ _ _ _ _ => (lts_one (lt_ne hr rfl (lb_var 5 (pv 5)) (lb_var 4 (pv 4))))) (fun _ _ _ _ _ => (le_var 5 (by decide) (pv 5))))
  (lss_last (ls_append (i := 1) (by decide) (pe_bm PySem.F.plainAttrs_list PySem.F.slot_list_append PySem.F.type_list_append mt_append (pv 1) (pa_cons (le_add rfl (lb_var 4 (pv 4)) (lb (le_tup (la_cons (le_sum rfl rfl (by rfl) (hB "sum" (by decide +kernel)) (lab_cons (lb (le_new (ln_lc (own := [("_law_row", 3)]) rfl scSummed.nd (li_tup (le_var 0 (by decide) (pv 0)) rfl) (blkOk_by (N := NSummed) (sc := defScope (topS 10)) (own := [("_law_row", 3)]) (by decide +kernel)) (by decide) (fun _ _ _ _ _ => (lg_name 3 (by decide) (by decide) (pg_name (i := 3) scSummed.nd rfl (.inl rfl)))) (fun _ _ _ _ _ => (lts_one (lt_eq hr rfl (lb (le_slice rfl (lb_var 3 (pv 3)) lo_none (lo_some le_int))) (lb_var 4 (pv 4))))) (fun _ _ _ _ _ => (le_item rfl (fun _ _ => rfl) (lb_var 3 (pv 3)) (lb le_int)))))) lab_nil)) la_nil)))) pa_nil)))))))
  (lss_one (ls_ret (le_tuple rfl (by rfl) (hB "tuple" (by decide +kernel)) (lab_cons (lb_var 1 (pv 1)) lab_nil)))))))
abbrev NStr : List Str := ["self", "form", "shade", "many"]
theorem scStr : FnScope NStr ["self"] (defScope (inClass (topS 3) 10)) := ⟨rfl, rfl, rfl, by decide +kernel, rfl, by decide +kernel, by decide +kernel⟩
theorem ok_Str {f : Addr} {fd : FuncData} (F : Fun Γ.K "__str__" "Heap.__str__" (inClass (topS 3) 10) f fd) (hB : NoB mg BL) {C : Addr} (Hs : HSig Γ C) (Hc : HCls Γ.K mg C) :
    FnOk Γ.P Γ.w Γ.K mg base CX0 1 f fd ["self"] (liF Γ fStr) :=
  ok_run F scStr rfl rfl (fun fe cdv A outer s H E hr =>
  (lss_cons (O2 := []) (ls_if (O' := []) (lt_eq hr rfl (lb (le_len rfl (by rfl) (hB "len" (by decide +kernel)) (lab_cons (lb (le_fld (i := 0) rfl Hc.cl Hc.nh Hs.cl (by rw [Hs.fl]; decide +kernel) (by rw [Hs.fl]; rfl) (le_var 0 (by decide) (pv 0)) rfl)) lab_nil))) (lb le_int))
  (lss_one (ls_ret le_str)) lss_nil)
  (lss_one (ls_ret (le_join rfl (lb le_str) (lb (le_new (ln_lc (own := [("form", 1), ("shade", 2), ("many", 3)]) rfl scStr.nd (li_tup (le_fld (i := 0) rfl Hc.cl Hc.nh Hs.cl (by rw [Hs.fl]; decide +kernel) (by rw [Hs.fl]; rfl) (le_var 0 (by decide) (pv 0)) rfl) rfl) (blkOk_by (N := NStr) (sc := defScope (inClass (topS 3) 10)) (own := [("form", 1), ("shade", 2), ("many", 3)]) (by decide +kernel)) (by decide) (fun _ _ _ _ _ => (lg_tup (n := 3) rfl rfl (lgs_cons (lg_name 1 (by decide) (by decide) (pg_name (i := 1) scStr.nd rfl (.inl rfl))) (lgs_cons (lg_name 2 (by decide) (by decide) (pg_name (i := 2) scStr.nd rfl (.inl rfl))) (lgs_cons (lg_name 3 (by decide) (by decide) (pg_name (i := 3) scStr.nd rfl (.inl rfl))) lgs_nil))))) (fun _ _ _ _ _ => lts_nil) (fun _ _ _ _ _ => (le_joined (LJ.cons (le_fmt (le_var 1 (by decide) (pv 1))) (LJ.cons le_str (LJ.cons (le_fmt (le_var 2 (by decide) (pv 2))) (LJ.cons le_str (LJ.cons (le_fmt (le_var 3 (by decide) (pv 3))) LJ.nil)))))))))))))))
abbrev NRepr : List Str := ["self"]
theorem scRepr : FnScope NRepr ["self"] (defScope (inClass (topS 3) 11)) := ⟨rfl, rfl, rfl, by decide +kernel, rfl, by decide +kernel, by decide +kernel⟩
theorem ok_Repr {f : Addr} {fd : FuncData} (F : Fun Γ.K "__repr__" "Heap.__repr__" (inClass (topS 3) 11) f fd) (hB : NoB mg BL) {C : Addr} (Hs : HSig Γ C) {fSt : Addr} {dSt : FuncData} (HSt : StrV Γ mg base 1 0 C fSt dSt fStr) :
    FnOk Γ.P Γ.w Γ.K mg base CX0 4 f fd ["self"] (liF Γ fRepr) :=
  ok_run F scRepr rfl rfl (fun fe cdv A outer s H E hr =>
  (lss_one (ls_ret (le_joined (LJ.cons le_str (LJ.cons (le_fmt (le_strO HSt rfl rfl rfl rfl rfl (hr.mono (by decide)) (by rfl) (hB "str" (by decide +kernel)) (le_var 0 (by decide) (pv 0)))) (LJ.cons le_str LJ.nil)))))))
abbrev NShown : List Str := ["_law_rows_here", "_law_found", "_law_form", "_law_shade", "_law_many_here"]
theorem scShown : FnScope NShown ["_law_rows_here"] (defScope (topS 12)) := ⟨rfl, rfl, rfl, by decide +kernel, rfl, by decide +kernel, by decide +kernel⟩
theorem ok_Shown {f : Addr} {fd : FuncData} (F : Fun Γ.K "_law_shown" "_law_shown" (topS 12) f fd) (hB : NoB mg BL)  {gSummed : Addr} {dSummed : FuncData} (CSummed : CalV Γ mg base 1 "_law_summed" gSummed dSummed ["_law_rows_here"] fSummed) :
    FnOk Γ.P Γ.w Γ.K mg base CX0 2 f fd ["_law_rows_here"] (liF Γ fShown) :=
  ok_run F scShown rfl rfl (fun fe cdv A outer s H E hr =>
  (lss_cons (O2 := []) (ls_set (O' := []) (i := 1) scShown.nd rfl (.inl rfl) le_str)
  (lss_cons (O2 := []) (ls_for (vs := [2, 3, 4]) PassesOwn.never rfl (li_tup (le_call CSummed rfl rfl rfl rfl rfl (hr.mono (by decide)) (by rfl) (la_cons (le_var 0 (by decide) (pv 0)) la_nil)) rfl) (lg_tup (n := 3) rfl rfl (lgs_cons (lg_name 2 (by decide) (by decide) (pg_name (i := 2) scShown.nd rfl (.inl rfl))) (lgs_cons (lg_name 3 (by decide) (by decide) (pg_name (i := 3) scShown.nd rfl (.inl rfl))) (lgs_cons (lg_name 4 (by decide) (by decide) (pg_name (i := 4) scShown.nd rfl (.inl rfl))) lgs_nil))))
  (lss_last (ls_set (O' := []) (i := 1) scShown.nd rfl (.inl rfl) (le_add rfl (lb (le_add rfl (lb (le_add rfl (lb (le_add rfl (lb (le_add rfl (lb (le_add rfl (lb_var 1 (pv 1)) (lb (le_item rfl (fun _ _ => rfl) (lb (le_lst (la_cons le_str (la_cons le_str la_nil)))) (lb (le_intOf (by rfl) (hB "int" (by decide +kernel)) (lab_cons (lb (le_eq hr rfl (lb_var 1 (pv 1)) (lb le_str))) lab_nil))))))) (lb_var 2 (pv 2)))) (lb le_str))) (lb_var 3 (pv 3)))) (lb le_str))) (lb (le_strOf (by rfl) (hB "str" (by decide +kernel)) (lab_cons (lb_var 4 (pv 4)) lab_nil)))))))
  (lss_one (ls_ret (le_if (lt_ne hr rfl (lb_var 1 (pv 1)) (lb le_str)) (le_var 1 (by decide) (pv 1)) le_str))))))
abbrev NLots : List Str := ["_law_feed_here", "_law_forms", "_law_shades", "_law_first", "_law_second", "_law_halves_now", "_law_form", "_law_shade", "_law_many_here", "_law_found"]
theorem scLots : FnScope NLots ["_law_feed_here", "_law_forms", "_law_shades"] (defScope (topS 11)) := ⟨rfl, rfl, rfl, by decide +kernel, rfl, by decide +kernel, by decide +kernel⟩
theorem ok_Lots {f : Addr} {fd : FuncData} (F : Fun Γ.K "_law_lots" "_law_lots" (topS 11) f fd) (hB : NoB mg BL)  {gLRows : Addr} {dLRows : FuncData} (CLRows : CalV Γ mg base 3 "_law_rows" gLRows dLRows ["_law_feed_here", "_law_forms", "_law_shades", "_law_most_now"] fLRows) :
    FnOk Γ.P Γ.w Γ.K mg base CX0 4 f fd ["_law_feed_here", "_law_forms", "_law_shades"] (liF Γ fLots) :=
  ok_run F scLots rfl rfl (fun fe cdv A outer s H E hr =>
  (lss_cons (O2 := []) (ls_par (i := 3) (j := 4) rfl scLots.nd rfl rfl (by decide) rfl rfl (la_cons (le_call CLRows rfl rfl rfl rfl rfl (hr.mono (by decide)) (by rfl) (la_cons (le_var 0 (by decide) (pv 0)) (la_cons (le_var 1 (by decide) (pv 1)) (la_cons (le_var 2 (by decide) (pv 2)) (la_cons le_int la_nil))))) (la_cons (le_call CLRows rfl rfl rfl rfl rfl (hr.mono (by decide)) (by rfl) (la_cons (le_var 0 (by decide) (pv 0)) (la_cons (le_var 1 (by decide) (pv 1)) (la_cons (le_var 2 (by decide) (pv 2)) (la_cons le_int la_nil))))) la_nil)) (by rfl) (by decide) (by decide))
  (lss_cons (O2 := []) (ls_lcF (O' := []) (i := 5) (own := [("_law_form", 6), ("_law_shade", 7), ("_law_many_here", 8)]) rfl scLots.nd rfl rfl (sw_true rfl rfl rfl (by decide +kernel)) (li_tup (le_var 3 (by decide) (pv 3)) rfl) (blkOk_by (N := NLots) (sc := defScope (topS 11)) (own := [("_law_form", 6), ("_law_shade", 7), ("_law_many_here", 8)]) (by decide +kernel)) (by decide) (fun _ _ _ _ _ => (lg_tup (n := 3) rfl rfl (lgs_cons (lg_name 6 (by decide) (by decide) (pg_name (i := 6) scLots.nd rfl (.inl rfl))) (lgs_cons (lg_name 7 (by decide) (by decide) (pg_name (i := 7) scLots.nd rfl (.inl rfl))) (lgs_cons (lg_name 8 (by decide) (by decide) (pg_name (i := 8) scLots.nd rfl (.inl rfl))) lgs_nil))))) (fun _ _ _ _ _ => lts_nil) (fun _ _ _ _ _ => (le_tup (la_cons (le_var 6 (by decide) (pv 6)) (la_cons (le_var 7 (by decide) (pv 7)) (la_cons (le_sub (lb_var 8 (pv 8)) (lb (le_fdiv (lb_var 8 (pv 8)) (lb le_int)))) la_nil))))))
  (lss_cons (O2 := []) (ls_set (O' := []) (i := 5) scLots.nd rfl (.inl rfl) (le_add rfl (lb_var 5 (pv 5)) (lb (le_new (ln_lc (own := [("_law_form", 6), ("_law_shade", 7), ("_law_many_here", 8)]) rfl scLots.nd (li_tup (le_var 3 (by decide) (pv 3)) rfl) (blkOk_by (N := NLots) (sc := defScope (topS 11)) (own := [("_law_form", 6), ("_law_shade", 7), ("_law_many_here", 8)]) (by decide +kernel)) (by decide) (fun _ _ _ _ _ => (lg_tup (n := 3) rfl rfl (lgs_cons (lg_name 6 (by decide) (by decide) (pg_name (i := 6) scLots.nd rfl (.inl rfl))) (lgs_cons (lg_name 7 (by decide) (by decide) (pg_name (i := 7) scLots.nd rfl (.inl rfl))) (lgs_cons (lg_name 8 (by decide) (by decide) (pg_name (i := 8) scLots.nd rfl (.inl rfl))) lgs_nil))))) (fun _ _ _ _ _ => (lts_one (lt_gt (lb_var 8 (pv 8)) (lb le_int)))) (fun _ _ _ _ _ => (le_tup (la_cons (le_var 6 (by decide) (pv 6)) (la_cons (le_var 7 (by decide) (pv 7)) (la_cons (le_fdiv (lb_var 8 (pv 8)) (lb le_int)) la_nil))))))))))
  (lss_cons (O2 := [9]) (ls_own (O' := []) (i := 9) scLots.nd rfl (.inl rfl) (ln_lst (la_cons (le_var 3 (by decide) (pv 3)) (la_cons (le_var 4 (by decide) (pv 4)) (la_cons (le_revT rfl (lb_var 3 (pv 3))) (la_cons (le_tuple rfl (by rfl) (hB "tuple" (by decide +kernel)) (lab_cons (lb_var 5 (pv 5)) lab_nil)) (la_cons (le_tup la_nil) (la_cons (le_add rfl (lb_var 3 (pv 3)) (lb (le_tup (la_cons (le_tup (la_cons (le_item rfl (fun _ _ => rfl) (lb_var 1 (pv 1)) (lb le_int)) (la_cons (le_item rfl (fun _ _ => rfl) (lb_var 2 (pv 2)) (lb le_int)) (la_cons le_int la_nil)))) la_nil)))) (la_cons (le_slice rfl (lb_var 3 (pv 3)) (lo_some le_int) lo_none) la_nil)))))))))
  (lss_cons (O2 := []) (ls_if (O' := []) (lt_ne hr rfl (lb_var 3 (pv 3)) (lb (le_tup la_nil)))
  (lss_last (ls_append (i := 9) (by decide) (pe_bm PySem.F.plainAttrs_list PySem.F.slot_list_append PySem.F.type_list_append mt_append (pv 9) (pa_cons (le_add rfl (lb (le_tup (la_cons (le_tup (la_cons (le_item rfl (fun _ _ => rfl) (lb (le_item rfl (fun _ _ => rfl) (lb_var 3 (pv 3)) (lb le_int))) (lb le_int)) (la_cons (le_add rfl (lb (le_item rfl (fun _ _ => rfl) (lb_var 2 (pv 2)) (lb (le_neg le_int)))) (lb (le_slice rfl (lb le_str) (lo_some (le_fdiv (lb (le_len rfl (by rfl) (hB "len" (by decide +kernel)) (lab_cons (lb (le_item rfl (fun _ _ => rfl) (lb_var 2 (pv 2)) (lb (le_neg le_int)))) lab_nil))) (lb le_int))) lo_none))) (la_cons (le_item rfl (fun _ _ => rfl) (lb (le_item rfl (fun _ _ => rfl) (lb_var 3 (pv 3)) (lb le_int))) (lb le_int)) la_nil)))) la_nil))) (lb (le_slice rfl (lb_var 3 (pv 3)) (lo_some le_int) lo_none))) pa_nil)))) (lss_sub (O2 := []) (by decide) lss_nil))
  (lss_one (ls_ret (le_var 9 (by decide) (pv 9))))))))))
abbrev NRight : List Str := ["_law_heap", "_law_rows_here", "_law_told_now", "_law_text"]
theorem scRight : FnScope NRight ["_law_heap", "_law_rows_here"] (defScope (topS 13)) := ⟨rfl, rfl, rfl, by decide +kernel, rfl, by decide +kernel, by decide +kernel⟩
theorem ok_Right {f : Addr} {fd : FuncData} (F : Fun Γ.K "_law_right" "_law_right" (topS 13) f fd) (hB : NoB mg BL)  {gShown : Addr} {dShown : FuncData} (CShown : CalV Γ mg base 2 "_law_shown" gShown dShown ["_law_rows_here"] fShown) {gSummed : Addr} {dSummed : FuncData} (CSummed : CalV Γ mg base 1 "_law_summed" gSummed dSummed ["_law_rows_here"] fSummed) {C : Addr} (Hs : HSig Γ C) {fBo : Addr} {dBo : FuncData} (HBo : HSp Γ.P Γ.w Γ.K mg base 1 C "__bool__" fBo dBo ["self"] (spBoolH Γ.K C)) (FmC : FmtC Γ.K C) {fLn : Addr} {dLn : FuncData} (HLn : HSp Γ.P Γ.w Γ.K mg base 1 C "__len__" fLn dLn ["self"] (spLenH Γ.K C)) {fRp : Addr} {dRp : FuncData} (HRp : ReprV Γ mg base 4 0 C fRp dRp fRepr) {fSt : Addr} {dSt : FuncData} (HSt : StrV Γ mg base 1 0 C fSt dSt fStr) :
    FnG Γ.P Γ.w Γ.K mg base CX0 7 f fd ["_law_heap", "_law_rows_here"] (liF Γ fRight) :=
  ok_runG F scRight rfl rfl (fun fe cdv A outer s H E hgd hr =>
  (lss_cons (O2 := []) (ls_set (O' := []) (i := 2) scRight.nd rfl (.inl rfl) (le_tup (la_cons (le_lenH Hs HLn rfl rfl rfl rfl rfl (hr.mono (by decide)) (by rfl) (hB "len" (by decide +kernel)) (lab_cons (lb_var 0 (pv 0)) lab_nil)) (la_cons (le_boolH Hs HBo rfl rfl rfl rfl rfl (hr.mono (by decide)) (by rfl) (hB "bool" (by decide +kernel)) (lab_cons (lb_var 0 (pv 0)) lab_nil)) (la_cons (le_strO HSt rfl rfl rfl rfl rfl (hr.mono (by decide)) (by rfl) (hB "str" (by decide +kernel)) (le_var 0 (by decide) (pv 0))) (la_cons (le_reprO HRp rfl rfl rfl rfl rfl (hr.mono (by decide)) (by rfl) (hB "repr" (by decide +kernel)) (le_var 0 (by decide) (pv 0))) (la_cons (le_reprOne HRp rfl rfl rfl rfl rfl hgd (hr.mono (by decide)) (by rfl) (hB "repr" (by decide +kernel)) (le_lst (la_cons (le_var 0 (by decide) (pv 0)) la_nil))) (la_cons (le_fmt1 HSt FmC rfl rfl rfl rfl rfl (hr.mono (by decide)) (le_var 0 (by decide) (pv 0))) la_nil))))))))
  (lss_cons (O2 := []) (ls_set (O' := []) (i := 3) scRight.nd rfl (.inl rfl) (le_call CShown rfl rfl rfl rfl rfl (hr.mono (by decide)) (by rfl) (la_cons (le_var 1 (by decide) (pv 1)) la_nil)))
  (lss_one (ls_ret (le_eq hr rfl (lb_var 2 (pv 2)) (lb (le_tup (la_cons (le_len rfl (by rfl) (hB "len" (by decide +kernel)) (lab_cons (lb (le_call CSummed rfl rfl rfl rfl rfl (hr.mono (by decide)) (by rfl) (la_cons (le_var 1 (by decide) (pv 1)) la_nil))) lab_nil)) (la_cons (le_ne hr rfl (lb_var 1 (pv 1)) (lb (le_tup la_nil))) (la_cons (le_var 3 (by decide) (pv 3)) (la_cons (le_add rfl (lb (le_add rfl (lb le_str) (lb_var 3 (pv 3)))) (lb le_str)) (la_cons (le_add rfl (lb (le_add rfl (lb le_str) (lb_var 3 (pv 3)))) (lb le_str)) (la_cons (le_var 3 (by decide) (pv 3)) la_nil))))))))))))))
abbrev NLaw : List Str := ["_law_script", "_law_feed_here", "_law_forms", "_law_shades", "_law_lots_here", "_law_heaps", "_law_rows_here", "_law_k", "_law_j", "_law_alike", "_law_thing"]
theorem scLaw : FnScope NLaw ["_law_script"] (defScope (topS 14)) := ⟨rfl, rfl, rfl, by decide +kernel, rfl, by decide +kernel, by decide +kernel⟩
theorem ok_law {f fF : Addr} {fd fdF : FuncData} (F : Fun Γ.K "law" "law" (topS 14) f fd) (hB : NoB mg BL) (Fe : Cal Γ.P Γ.w Γ.K mg base 1 "_law_feed" fF fdF ["_law_script"] (spFeedOf Γ.fk Γ.K)) {gDraw : Addr} {dDraw : FuncData} (CDraw : CalV Γ mg base 1 "_law_draw" gDraw dDraw ["_law_feed_here", "_law_many_here"] drawW) {gLots : Addr} {dLots : FuncData} (CLots : CalV Γ mg base 4 "_law_lots" gLots dLots ["_law_feed_here", "_law_forms", "_law_shades"] fLots) {gLNames : Addr} {dLNames : FuncData} (CLNames : CalV Γ mg base 2 "_law_names" gLNames dLNames ["_law_feed_here", "_law_many_here"] fLNames) {gRight : Addr} {dRight : FuncData} (CRight : CalW Γ mg base 7 "_law_right" gRight dRight ["_law_heap", "_law_rows_here"] fRight) {gSummed : Addr} {dSummed : FuncData} (CSummed : CalV Γ mg base 1 "_law_summed" gSummed dSummed ["_law_rows_here"] fSummed) {C : Addr} (Hs : HSig Γ C) {fI : Addr} {dI : FuncData} (Hm : HMk Γ.P Γ.w Γ.K mg base 2 C fI dI) (ap : Apart6 Γ.K C) {fEq : Addr} {dEq : FuncData} (HEq : HSp Γ.P Γ.w Γ.K mg base 1 C "__eq__" fEq dEq ["self", "other"] (spEqH Γ.K C)) {fEx : Addr} {dEx : FuncData} (HEx : HSp Γ.P Γ.w Γ.K mg base 1 C "__eq__" fEx dEx ["self", "other"] (spEqX Γ.K C)) (hne : PySem.W.findIn Γ.K (.ref C) "__ne__" = some (some (.builtin "object.__ne__"))) (hob : PySem.W.subIn Γ.K (.ref C) (.type "object") = some true) {fRw : Addr} {dRw : FuncData} (MRw : MetV Γ mg base 1 0 C "rows" fRw dRw ["self"] rowsW) {fSt : Addr} {dSt : FuncData} (HSt : StrV Γ mg base 1 0 C fSt dSt fStr)
    (hp : (bLaw (lawE 11)).wp (fun f => ∃ b, f = .rt (.bl b) ∧ b = true) fun _ => False) :
    FnG Γ.P Γ.w Γ.K mg base CX0 8 f fd ["_law_script"] (spLawK Γ.K) :=
  law_by F scLaw rfl (by decide) (fun cdv A outer s H E hgd hr => pss_cons (ps_set (i := 1) scLaw.nd rfl (.inl rfl) (pe_call (E := fun _ _ _ => True) Fe.ok (hr.mono (by decide)) (by rfl) Fe.g Fe.kp Fe.b .nil pass0 (pa_cons (pv 0) pa_nil))) (pss_rest fun a c H0 =>
  (lss_cons (O2 := []) (ls_par (i := 2) (j := 3) rfl scLaw.nd rfl rfl (by decide) rfl rfl (la_cons (le_call CLNames rfl rfl rfl rfl rfl (hr.mono (by decide)) (by rfl) (la_cons (le_var 1 (by decide) (pv 1)) (la_cons (le_add rfl (lb le_int) (lb (le_call CDraw rfl rfl rfl rfl rfl (hr.mono (by decide)) (by rfl) (la_cons (le_var 1 (by decide) (pv 1)) (la_cons le_int la_nil))))) la_nil))) (la_cons (le_call CLNames rfl rfl rfl rfl rfl (hr.mono (by decide)) (by rfl) (la_cons (le_var 1 (by decide) (pv 1)) (la_cons (le_add rfl (lb le_int) (lb (le_call CDraw rfl rfl rfl rfl rfl (hr.mono (by decide)) (by rfl) (la_cons (le_var 1 (by decide) (pv 1)) (la_cons le_int la_nil))))) la_nil))) la_nil)) (by rfl) (by decide) (by decide))
  (lss_cons (O2 := []) (ls_set (O' := []) (i := 4) scLaw.nd rfl (.inr rfl) (le_call CLots rfl rfl rfl rfl rfl (hr.mono (by decide)) (by rfl) (la_cons (le_var 1 (by decide) (pv 1)) (la_cons (le_var 2 (by decide) (pv 2)) (la_cons (le_var 3 (by decide) (pv 3)) la_nil)))))
  (lss_cons (O2 := []) (ls_set (O' := []) (i := 5) scLaw.nd rfl (.inr rfl) (le_new (ln_lc (own := [("_law_rows_here", 6)]) rfl scLaw.nd (li_list (le_var 4 (by decide) (pv 4)) rfl) (blkOk_by (N := NLaw) (sc := defScope (topS 14)) (own := [("_law_rows_here", 6)]) (by decide +kernel)) (by decide) (fun _ _ _ _ _ => (lg_name 6 (by decide) (by decide) (pg_name (i := 6) scLaw.nd rfl (.inl rfl)))) (fun _ _ _ _ _ => lts_nil) (fun _ _ _ _ _ => (le_heap1 Hs Hm rfl rfl rfl rfl rfl (hr.mono (by decide)) (by rfl) (le_var 6 (by decide) (pv 6)))))))
  (lss_cons (O2 := []) (ls_for (vs := [7]) PassesOwn.never rfl (li_range (by rfl) (hB "range" (by decide +kernel)) (la_cons (le_len rfl (by rfl) (hB "len" (by decide +kernel)) (lab_cons (lb_var 4 (pv 4)) lab_nil)) la_nil)) (lg_name 7 (by decide) (by decide) (pg_name (i := 7) scLaw.nd rfl (.inl rfl)))
  (lss_cons (O2 := []) (ls_if (O' := []) (lt_not (lt_val (le_callG CRight rfl rfl rfl rfl rfl hgd (hr.mono (by decide)) (by rfl) (la_cons (le_item rfl (fun _ _ => rfl) (lb_var 5 (pv 5)) (lb_var 7 (pv 7))) (la_cons (le_item rfl (fun _ _ => rfl) (lb_var 4 (pv 4)) (lb_var 7 (pv 7))) la_nil)))))
  (lss_one (ls_ret le_bl)) lss_nil)
  (lss_cons (O2 := []) (ls_for (vs := [8]) PassesOwn.never rfl (li_range (by rfl) (hB "range" (by decide +kernel)) (la_cons (le_len rfl (by rfl) (hB "len" (by decide +kernel)) (lab_cons (lb_var 4 (pv 4)) lab_nil)) la_nil)) (lg_name 8 (by decide) (by decide) (pg_name (i := 8) scLaw.nd rfl (.inl rfl)))
  (lss_cons (O2 := []) (ls_set (O' := []) (i := 9) scLaw.nd rfl (.inl rfl) (le_eq hr rfl (lb (le_call CSummed rfl rfl rfl rfl rfl (hr.mono (by decide)) (by rfl) (la_cons (le_item rfl (fun _ _ => rfl) (lb_var 4 (pv 4)) (lb_var 7 (pv 7))) la_nil))) (lb (le_call CSummed rfl rfl rfl rfl rfl (hr.mono (by decide)) (by rfl) (la_cons (le_item rfl (fun _ _ => rfl) (lb_var 4 (pv 4)) (lb_var 8 (pv 8))) la_nil)))))
  (lss_last (ls_if (O' := []) (lt_ne hr rfl (lb (le_repr hgd hr rfl (by rfl) (hB "repr" (by decide +kernel)) (lab_cons (lb (le_tup (la_cons (le_eqH Hs HEq rfl rfl rfl rfl rfl (hr.mono (by decide)) (lb (le_item rfl (fun _ _ => rfl) (lb_var 5 (pv 5)) (lb_var 7 (pv 7)))) (lb (le_item rfl (fun _ _ => rfl) (lb_var 5 (pv 5)) (lb_var 8 (pv 8))))) (la_cons (le_neH Hs HEq hne hob rfl rfl rfl rfl rfl (hr.mono (by decide)) (lb (le_item rfl (fun _ _ => rfl) (lb_var 5 (pv 5)) (lb_var 7 (pv 7)))) (lb (le_item rfl (fun _ _ => rfl) (lb_var 5 (pv 5)) (lb_var 8 (pv 8))))) la_nil)))) lab_nil))) (lb (le_repr hgd hr rfl (by rfl) (hB "repr" (by decide +kernel)) (lab_cons (lb (le_tup (la_cons (le_var 9 (by decide) (pv 9)) (la_cons (le_not (le_var 9 (by decide) (pv 9))) la_nil)))) lab_nil))))
  (lss_one (ls_ret le_bl)) lss_nil))))
  (lss_last (ls_for (vs := [10]) PassesOwn.never rfl (li_tup (le_tup (la_cons le_non (la_cons le_int (la_cons le_bl (la_cons le_str (la_cons le_str (la_cons (le_tup la_nil) (la_cons (le_lst la_nil) (la_cons (le_item rfl (fun _ _ => rfl) (lb_var 4 (pv 4)) (lb_var 7 (pv 7))) (la_cons (le_meth0 MRw rfl rfl rfl rfl rfl (hr.mono (by decide)) (le_item rfl (fun _ _ => rfl) (lb_var 5 (pv 5)) (lb_var 7 (pv 7)))) (la_cons (le_strO HSt rfl rfl rfl rfl rfl (hr.mono (by decide)) (by rfl) (hB "str" (by decide +kernel)) (le_item rfl (fun _ _ => rfl) (lb_var 5 (pv 5)) (lb_var 7 (pv 7)))) (la_cons (le_tup (la_cons le_str (la_cons le_str (la_cons le_int la_nil)))) la_nil)))))))))))) rfl) (lg_name 10 (by decide) (by decide) (pg_name (i := 10) scLaw.nd rfl (.inl rfl)))
  (lss_last (ls_if (O' := []) (PW.pt (lw_or (lt_eqX Hs HEx rfl rfl rfl rfl rfl (hr.mono (by decide)) (lb (le_item rfl (fun _ _ => rfl) (lb_var 5 (pv 5)) (lb_var 7 (pv 7)))) (lb_var 10 (pv 10))) (lw_or (lt_xEq Hs HEx ap rfl rfl rfl rfl rfl (hr.mono (by decide)) (lb_var 10 (pv 10)) (lb (le_item rfl (fun _ _ => rfl) (lb_var 5 (pv 5)) (lb_var 7 (pv 7))))) (lw_or1 (lt_not (lt_neX Hs HEx hne hob rfl rfl rfl rfl rfl (hr.mono (by decide)) (lb (le_item rfl (fun _ _ => rfl) (lb_var 5 (pv 5)) (lb_var 7 (pv 7)))) (lb_var 10 (pv 10))))))))
  (lss_one (ls_ret le_bl)) lss_nil)))))))
  (lss_one (ls_ret (le_eq hr rfl (lb (le_new (ln_lc (own := [("_law_k", 7)]) rfl scLaw.nd (li_range (by rfl) (hB "range" (by decide +kernel)) (la_cons (le_len rfl (by rfl) (hB "len" (by decide +kernel)) (lab_cons (lb_var 4 (pv 4)) lab_nil)) la_nil)) (blkOk_by (N := NLaw) (sc := defScope (topS 14)) (own := [("_law_k", 7)]) (by decide +kernel)) (by decide) (fun _ _ _ _ _ => (lg_name 7 (by decide) (by decide) (pg_name (i := 7) scLaw.nd rfl (.inl rfl)))) (fun _ _ _ _ _ => (lts_one (lt_not (lt_val (le_callG CRight rfl rfl rfl rfl rfl hgd (hr.mono (by decide)) (by rfl) (la_cons (le_item rfl (fun _ _ => rfl) (lb_var 5 (pv 5)) (lb_var 7 (pv 7))) (la_cons (le_item rfl (fun _ _ => rfl) (lb_var 4 (pv 4)) (lb_var 7 (pv 7))) la_nil))))))) (fun _ _ _ _ _ => (le_var 7 (by decide) (pv 7)))))) (lb (le_lst la_nil))))))))))) hp
end
end LP.K05
namespace K05
open PySem PySem.Spec PyProof.Rows L2 PK
abbrev NAdded : List Str := ["rows", "counts", "form", "shade", "many"]
theorem scAdded : FnScope NAdded ["rows"] (defScope (topS 2)) := ⟨rfl, rfl, rfl, by decide +kernel, rfl, by decide +kernel, by decide +kernel⟩
section
variable {P : Program} {w : World} {K : PySem.W.Frag} {mg : Str → Option Value} {base : Heap}
-- names: ["rows", "counts", "form", "shade", "many"] cells {'counts'}
theorem ok_added {f : Addr} {fd : FuncData} {k : Nat} (F : Fun K "added_rows" "added_rows" (topS 2) f fd) (hT : mg "tuple" = none) (hS : mg "sorted" = none) :
    FnOk P w K mg base CX0 (k + 1) f fd ["rows"] (spAdded K) := by
  refine F.ok scAdded (fun vs H Q E h => ?_) (fun cdv A outer s H vs Q E hr h => ?_)
  · obtain ⟨v, L, rfl, _⟩ := h
    rfl
  · obtain ⟨v, L, rfl, dv, hL, q⟩ := h
    obtain ⟨b, us, rfl, hb, du⟩ := Dp.tupE dv
    have lus : us.length = L.length := dp_lenM du
    refine ⟨_, (pss_cons (ps_set (i := 1) scAdded.nd rfl (.inr rfl) pe_dnewT)
  (pss_cons (ps_for PassesOwn.never rfl (pk_tup K (pv 0)) (pgk_tup K (n := 3) rfl (pgs_cons (pg_name (i := 2) scAdded.nd rfl (.inl rfl)) (pgs_cons (pg_name (i := 3) scAdded.nd rfl (.inl rfl)) (pgs_cons (pg_name (i := 4) scAdded.nd rfl (.inl rfl)) pgs_nil))))
  (pss_one (ps_dput (hu_of hr) (pv 1) (pe_tup (pa_cons (pv 2) (pa_cons (pv 3) pa_nil))) (pe_op op_add (pe_dget2 (hu_of hr) (pv 1) (pe_tup (pa_cons (pv 2) (pa_cons (pv 3) pa_nil))) pe_int ⟨rfl, rfl, rfl, rfl⟩) (pv 4)) rfl)))
  (pss_one (ps_ret (pe_callTy (k_tup K) (by rfl) hT (by decide +kernel) (pa_cons (pe_lc (own := [("form", 2), ("shade", 3)]) rfl scAdded.nd (pk_list K (pe_callB (call_srtT rfl hr) (by rfl) hS (by decide +kernel) (pa_cons (pv 1) pa_nil))) (blkOk_by (N := NAdded) (sc := defScope (topS 2)) (own := [("form", 2), ("shade", 3)]) (by decide +kernel)) (fun _ _ _ _ _ => (pgk_tup K (n := 2) rfl (pgs_cons (pg_name (i := 2) scAdded.nd rfl (.inl rfl)) (pgs_cons (pg_name (i := 3) scAdded.nd rfl (.inl rfl)) pgs_nil)))) (fun _ _ _ _ _ => pts_nil) (fun _ _ _ _ _ => (pe_tup (pa_cons (pv 2) (pa_cons (pv 3) (pa_cons (pe_dget (hu_of hr) (pv 1) (pe_tup (pa_cons (pv 2) (pa_cons (pv 3) pa_nil))) (fun _ _ => rfl)) pa_nil)))))) pa_nil)))))), ?_⟩
    -- counts = {}
    refine fun o no => ?_
    have s0 : Same H (upd H o (.dT [])) := same_new (Same.refl H) no
    refine ⟨.ref b, rfl, b, rfl, ⟨us, (TKeep.of s0).sq hb⟩, for_tup (K := K) (a := b) (xs := us) (fun i σ H2 => ∃ (ks : List PKey) (y2 y3 y4 : Option V), σ = [some (.ref b), some (.ref o), y2, y3, y4] ∧ Same H H2 ∧
      H2 o = some (.dT (ent ks (cnt (L.take i)))) ∧ ks.Nodup ∧ ks.length ≤ i ∧ ∀ k, k ∈ ks ↔ k ∈ (L.take i).map PK.pk) ?_ ?_ ?_ ?_⟩
    · exact ⟨[], none, none, none, rfl, s0, upd_same, List.nodup_nil, Nat.le_refl _, fun k => Iff.rfl⟩
    · rintro i σ H2 _ ⟨ks, y2, y3, y4, rfl, s2, _⟩
      exact (TKeep.of s2).sq hb
    · rintro i rv σ H2 hv ⟨ks, y2, y3, y4, rfl, s2, eo, nd, lk, mk⟩
      obtain ⟨e1, he, de⟩ := DpAll.getV du hv
      rw [List.getElem?_map] at he
      obtain ⟨r, hLi, rfl⟩ := Option.map_eq_some_iff.mp he
      obtain ⟨b1, rfl, hb1⟩ := Dp.prowE (Dp.same s2 de)
      have hi : i < L.length := (List.getElem?_eq_some_iff.mp hLi).1
      refine ⟨b1, _, rfl, hb1, rfl, _, _, rfl, _, _, rfl, _, _, rfl, rfl, ?_⟩
      refine ⟨.ref o, rfl, o, rfl, .inr ⟨_, .inl eo⟩, .str r.1, rfl, .str r.2.1, rfl, by show 2 ≤ sizeLine; decide, fun t nt => ?_⟩
      have eo1 : (upd H2 t (.tup [.str r.1, .str r.2.1])) o = some (.dT (ent ks (cnt (L.take i)))) := by rw [upd_ne (ne_of_none eo nt)]; exact eo
      have s3 : Same H (upd H2 t (.tup [.str r.1, .str r.2.1])) := same_new s2 nt
      have et : (upd H2 t (.tup [.str r.1, .str r.2.1])) t = some (.tup ((kk (PK.pk r)).map kV)) := upd_same
      generalize upd H2 t (.tup [.str r.1, .str r.2.1]) = H3 at eo1 s3 et
      refine ⟨_, DGet.t eo1 et, ?_⟩
      have hval : (valV (ent ks (cnt (L.take i))) (kk (PK.pk r))).getD (.int 0) = .int (cnt (L.take i) (PK.pk r)) := by
        rw [ent_val]
        by_cases z : PK.pk r ∈ ks
        · rw [if_pos z]
          rfl
        · rw [if_neg z, cnt_none (fun h => z ((mk _).mpr h))]
          rfl
      rw [hval]
      refine ⟨.int r.2.2, rfl, _, _, rfl, rfl, .ref o, rfl, .str r.1, rfl, .str r.2.1, rfl, by show 2 ≤ sizeLine; decide, fun t2 nt2 => ?_⟩
      have eo2 : (upd H3 t2 (.tup [.str r.1, .str r.2.1])) o = some (.dT (ent ks (cnt (L.take i)))) := by rw [upd_ne (ne_of_none eo1 nt2)]; exact eo1
      have s4 : Same H (upd H3 t2 (.tup [.str r.1, .str r.2.1])) := same_new s3 nt2
      have et2 : (upd H3 t2 (.tup [.str r.1, .str r.2.1])) t2 = some (.tup ((kk (PK.pk r)).map kV)) := upd_same
      generalize upd H3 t2 (.tup [.str r.1, .str r.2.1]) = H4 at eo2 s4 et2
      have lent : (ent ks (cnt (L.take i))).length < sizeLine := by
        unfold ent
        rw [List.length_map]
        exact small1000 (by omega)
      refine ⟨o, _, rfl, DPut.t eo2 et2 lent, ?_⟩
      refine ⟨if PK.pk r ∈ ks then ks else ks ++ [PK.pk r], _, _, _, rfl, same_own s4 no, ?_, ?_, ?_, fun k => ?_⟩
      · rw [upd_same, ent_put (c' := cnt (L.take (i + 1))) (by rw [cnt_snoc hLi, if_pos rfl]) (fun q hq => by rw [cnt_snoc hLi, if_neg (fun e => hq e.symm)]; omega)]
      · split
        · exact nd
        · rename_i z
          exact List.nodup_append.mpr ⟨nd, List.nodup_cons.mpr ⟨by simp, List.nodup_nil⟩, fun a ha b hb e => by
            rw [List.mem_singleton.mp hb] at e
            exact z (by rw [← e]; exact ha)⟩
      · split
        · omega
        · rw [List.length_append, List.length_singleton]; omega
      · rw [take_snoc hLi, List.map_append, List.mem_append, ← mk k]
        show _ ↔ k ∈ ks ∨ k ∈ [PK.pk r]
        rw [List.mem_singleton]
        split
        · rename_i z
          constructor
          · exact Or.inl
          · rintro (h | h)
            · exact h
            · rw [h]; exact z
        · rw [List.mem_append, List.mem_singleton]
    · rintro σ H2 ⟨ks, y2, y3, y4, rfl, s2, eo, nd, lk, mk⟩
      rw [lus, List.take_length] at eo mk
      refine ⟨.ref o, rfl, o, _, rfl, .inl eo, by rw [ent_keys]; exact pk_cmpb ks, fun sl Lp nsl ⟨bs, ik, eLp⟩ => ?_⟩
      have hdp : DpAll K H2 (bs.map V.ref) (ks.map pkD) := by
        have := keys_dp (K := K) ik
        rw [ent_keys] at this
        exact this
      rw [ent_keys] at eLp
      obtain ⟨z1, z2, z3⟩ := dp_zip hdp
      have hkeys : Lp.map (·.2) = (skeys L).map pkD := by
        have hr1 : Rises (Lp.map (·.2)) := by
          rw [eLp]
          exact srt_rises (by rw [z3]; exact pk_allAlike ks) (by rw [z3]; exact nodup_mapD nd)
        refine rises_ext hr1 (skeys_rises L) fun d => ?_
        rw [eLp, ((srt_perm false _ _).map _).mem_iff, z3, List.mem_map, List.mem_map]
        constructor
        · rintro ⟨k, hk, rfl⟩
          exact ⟨k, mem_skeys.mpr ((mk k).mp hk), rfl⟩
        · rintro ⟨k, hk, rfl⟩
          exact ⟨k, (mk k).mpr (mem_skeys.mp hk), rfl⟩
      have hdL : DpAll K H2 (Lp.map (·.1)) ((skeys L).map pkD) := by
        rw [← hkeys]
        exact dp_pairs fun p hp => z1 p (by rw [eLp] at hp; exact (srt_perm false _ _).mem_iff.mp hp)
      generalize Lp.map (·.1) = xs at hdL
      have s3 : Same H (upd H2 sl (.lst xs)) := same_new s2 nsl
      have eo3 : (upd H2 sl (.lst xs)) o = some (.dT (ent ks (cnt L))) := by rw [upd_ne (ne_of_none eo nsl)]; exact eo
      have esl : (upd H2 sl (.lst xs)) sl = some (.lst xs) := upd_same
      have hd3 := dp_move (f := pkD) flat_pk hdL (TKeep.new (o := .lst xs) nsl)
      generalize upd H2 sl (.lst xs) = H3 at s3 eo3 esl hd3
      have lks : (skeys L).length ≤ 900 := by
        have := sumR_len L
        unfold sumR at this
        rw [List.length_map] at this
        omega
      refine ⟨sl, rfl, ⟨xs, .inl (.inl esl)⟩, fun d ndd => ?_⟩
      refine lc_list (K := K) (a := sl) (xs := xs) (fun i H4 => ∃ zs : List V, H4 d = some (.lst zs) ∧ DpAll K H4 zs (((sumR L).take i).map prowD) ∧ Same H3 H4) ?_ ?_ ?_ ?_
      · exact ⟨[], upd_same, .nil, same_new (Same.refl H3) ndd⟩
      · rintro i H4 _ ⟨zs, _, _, s4⟩
        exact .inl (.inl (s4 _ _ esl))
      · rintro i v H4 hv ⟨zs, ed, dz, s4⟩
        obtain ⟨e1, he, de⟩ := DpAll.getV hd3 hv
        rw [List.getElem?_map] at he
        obtain ⟨k, hki, rfl⟩ := Option.map_eq_some_iff.mp he
        obtain ⟨b1, rfl, hb1⟩ := Dp.pkE (Dp.same s4 de)
        have hk : k ∈ ks := (mk k).mpr (mem_skeys.mp (List.mem_of_getElem? hki))
        have eo4 := s4 _ _ eo3
        refine ⟨b1, _, rfl, hb1, rfl, _, _, rfl, _, _, rfl, rfl, rfl, .str k.1, rfl, .str k.2, rfl, .ref o, rfl, .str k.1, rfl, .str k.2, rfl, by show 2 ≤ sizeLine; decide, fun t nt => ?_⟩
        have eo5 : (upd H4 t (.tup [.str k.1, .str k.2])) o = some (.dT (ent ks (cnt L))) := by rw [upd_ne (ne_of_none eo4 nt)]; exact eo4
        have ed5 : (upd H4 t (.tup [.str k.1, .str k.2])) d = some (.lst zs) := by rw [upd_ne (ne_of_none ed nt)]; exact ed
        have et : (upd H4 t (.tup [.str k.1, .str k.2])) t = some (.tup ((kk k).map kV)) := upd_same
        have s5 : Same H4 (upd H4 t (.tup [.str k.1, .str k.2])) := same_new (Same.refl H4) nt
        generalize upd H4 t (.tup [.str k.1, .str k.2]) = H5 at eo5 ed5 et s5
        have hg := DGet.t eo5 et
        rw [ent_val, if_pos hk] at hg
        refine ⟨o, _, rfl, hg, by show 3 ≤ sizeLine; decide, fun u nu => ?_⟩
        have ed6 : (upd H5 u (.tup [.str k.1, .str k.2, .int (cnt L k)])) d = some (.lst zs) := by rw [upd_ne (ne_of_none ed5 nu)]; exact ed5
        have eu : (upd H5 u (.tup [.str k.1, .str k.2, .int (cnt L k)])) u = some (.tup [.str k.1, .str k.2, .int (cnt L k)]) := upd_same
        have s6 : Same H4 (upd H5 u (.tup [.str k.1, .str k.2, .int (cnt L k)])) := same_new s5 nu
        generalize upd H5 u (.tup [.str k.1, .str k.2, .int (cnt L k)]) = H6 at ed6 eu s6
        have lz : zs.length < sizeLine := by
          rw [dp_lenM dz, List.length_take]
          have : (sumR L).length = (skeys L).length := by unfold sumR; rw [List.length_map]
          exact small1000 (by omega)
        have hsi : (sumR L)[i]? = some (k.1, k.2, cnt L k) := by
          unfold sumR
          rw [List.getElem?_map, hki]
          rfl
        refine ⟨zs, ed6, lz, zs ++ [.ref u], upd_same, ?_, same_own (s4.trans s6) ndd⟩
        rw [take_snoc hsi]
        have tkd := TKeep.lst (o := .lst (zs ++ [.ref u])) ed6
        exact dp_snoc flat_prow dz ((TKeep.of s6).trans tkd) (Dp.prow (r := (k.1, k.2, cnt L k)) (tkd.sq (SqT.of eu)))
      · rintro H4 ⟨zs, ed, dz, s4⟩
        have lx : xs.length = (sumR L).length := by
          rw [dp_lenM hd3]
          unfold sumR
          rw [List.length_map]
        rw [lx, List.take_length] at dz
        refine ⟨d, zs, rfl, .inl ⟨.inl (.inl ed), fun t nt => ?_⟩⟩
        have s5 := s3.trans s4
        exact q t zs _ (s5.free nt) (same_new s5 nt) upd_same (dp_move flat_prow dz (TKeep.new nt))
end
end K05
namespace K05
open PySem PySem.Spec PyProof.Rows L2 PK
abbrev NInit : List Str := ["self", "rows"]
theorem scInit : FnScope NInit ["self", "rows"] (defScope (inClass (topS 3) 0)) := ⟨rfl, rfl, rfl, by decide +kernel, rfl, by decide +kernel, by decide +kernel⟩
section
variable {P : Program} {w : World} {K : PySem.W.Frag} {mg : Str → Option Value} {base : Heap}
abbrev FunI (K : PySem.W.Frag) (f : Addr) (fd : FuncData) : Prop := FunD K "__init__" "Heap.__init__" (defArgs (inClass (topS 3) 0)) (defBody (inClass (topS 3) 0)) (defScope (inClass (topS 3) 0)) [.non] [] f fd
theorem ok_init {f fA C : Addr} {fd fdA : FuncData} {k : Nat} (F : FunI K f fd) (T : HCls K mg C)
    (Ad : Cal P w K mg base 1 "added_rows" fA fdA ["rows"] (spAdded K)) :
    FnOk P w K mg base CX0 (k + 2) f fd ["self", "rows"] (spInit K C) := by
  refine F.ok (CX := CX0) scInit (fun vs H Q E h => ?_) (fun cdv A outer s H vs Q E hr h => ?_)
  · obtain ⟨p, dx, x, L, rfl, _⟩ := h
    rfl
  · obtain ⟨p, dx, x, L, rfl, hp, hx, hL, q⟩ := h
    refine ⟨_, (pss_one (ps_fld (pv 0) (pe_call Ad.ok (hr.mono (Nat.le_add_left 1 k)) (by rfl) Ad.g Ad.kp Ad.b .nil pass0 (pa_cons (pe_ifExp (pt_cmpR op_isN (pv 1) pe_non (nomark _)) (pe_tup pa_nil) (pv 1)) pa_nil)) rfl)), ?_⟩
    refine ⟨x, rfl, rfl, _, rfl, ite2 (fun hn => ?_) (fun hn => ?_)⟩
    · have hn : x = .non := of_decide_eq_true hn
      refine ⟨Nat.zero_le _, fun e ne => ?_⟩
      have eL : L = [] := by
        rcases hx with ⟨_, h⟩ | h
        · exact h
        · rw [hn] at h
          cases h
      subst eL
      have s1 : Same H (upd H e (.tup [])) := same_new (Same.refl H) ne
      have d1 : Dp K (upd H e (.tup [])) (.ref e) (rowsD []) := .tup (SqT.of upd_same) .nil
      generalize upd H e (.tup []) = H1 at s1 d1
      refine ⟨.ref e, [], rfl, d1, hL, fun t us H2 nt s2 et du => ⟨_, rfl, p, C, dx, [], rfl, s2 _ _ (s1 _ _ hp), T.cl, T.nh, (by show 0 < 1000; decide), ?_⟩⟩
      have hp2 := s2 _ _ (s1 _ _ hp)
      have tp : t ≠ p := ne_of et hp2 (by intro z; cases z)
      have tk : TKeep H2 (upd H2 p (.ins C dx (putF "held" (.ref t) []))) := fun b o z h => by
        rw [upd_ne (ne_of h hp2 (by rintro rfl; exact z))]
        exact h
      refine q _ (fun b o e hb => ?_) ⟨dx, t, upd_same, .tup (SqT.of (by rw [upd_ne tp]; exact et)) (dp_move flat_prow du tk)⟩
      rw [upd_ne hb]
      exact s2 _ _ (s1 _ _ e)
    · have hn : ¬ x = .non := fun z => hn (decide_eq_true z)
      have hd : Dp K H x (rowsD L) := by
        rcases hx with ⟨h, _⟩ | h
        · exact absurd h hn
        · exact h
      refine ⟨x, rfl, x, L, rfl, hd, hL, fun t us H2 nt s2 et du => ⟨_, rfl, p, C, dx, [], rfl, s2 _ _ hp, T.cl, T.nh, (by show 0 < 1000; decide), ?_⟩⟩
      have hp2 := s2 _ _ hp
      have tp : t ≠ p := ne_of et hp2 (by intro z; cases z)
      have tk : TKeep H2 (upd H2 p (.ins C dx (putF "held" (.ref t) []))) := fun b o z h => by
        rw [upd_ne (ne_of h hp2 (by rintro rfl; exact z))]
        exact h
      refine q _ (fun b o e hb => ?_) ⟨dx, t, upd_same, .tup (SqT.of (by rw [upd_ne tp]; exact et)) (dp_move flat_prow du tk)⟩
      rw [upd_ne hb]
      exact s2 _ _ e
theorem kb_init2 {f : Addr} {fd : FuncData} (F : FunI K f fd) : KB K fd ["self", "rows"] 2 [] (fun vs _ => vs) :=
  kb_of F 2 [] (fun vs _ _ => vs) (by simp) (fun r _ _ => r) fun T kV doc pm an cdv ct us its ws h1 h2 h3 => by
    match us, its, ws, h1, h2, h3 with
    | [a, b], [c], [], _, _, _ => exact ⟨_, rfl, rfl⟩
theorem kb_initK {f : Addr} {fd : FuncData} (F : FunI K f fd) : KB K fd ["self", "rows"] 1 ["rows"] (fun vs zs => vs ++ zs) :=
  kb_of F 1 ["rows"] (fun vs _ zs => vs ++ zs) (by simp) (fun r _ q => r.append q) fun T kV doc pm an cdv ct us its ws h1 h2 h3 => by
    match us, its, ws, h1, h2, h3 with
    | [a], [c], [d], _, _, _ => exact ⟨_, rfl, rfl⟩
theorem b_init0 {f : Addr} {fd : FuncData} (F : FunI K f fd) : ∃ ds, Vals [V.non] ds ∧ Binds K fd ["self", "rows"] ds := by
  refine F.binds1 (ps := ["self", "rows"]) 1 0 (by simp) rfl fun T kV doc pm an cdv ct us its h1 h2 => ?_
  match us, its, h1, h2 with
  | [a], [c], _, _ => exact ⟨_, rfl, rfl⟩
end
end K05
namespace K05
open PySem PySem.Spec PyProof.Rows L2 PK
abbrev NRows : List Str := ["self", "form", "shade", "many"]
theorem scRows : FnScope NRows ["self"] (defScope (inClass (topS 3) 1)) := ⟨rfl, rfl, rfl, by decide +kernel, rfl, by decide +kernel, by decide +kernel⟩
section
variable {P : Program} {w : World} {K : PySem.W.Frag} {mg : Str → Option Value} {base : Heap}
-- names: ["self", "form", "shade", "many"] cells set()
theorem ok_rows {f C : Addr} {fd : FuncData} {k : Nat} (F : Fun K "rows" "Heap.rows" (inClass (topS 3) 1) f fd) (T : HCls K mg C) (hT : mg "tuple" = none) :
    FnOk P w K mg base CX0 (k + 1) f fd ["self"] (spRows K C) := by
  refine F.ok scRows (fun vs H Q E h => ?_) (fun cdv A outer s H vs Q E hr h => ?_)
  · obtain ⟨p, L, rfl, _⟩ := h
    rfl
  · obtain ⟨p, L, rfl, ⟨dx, t0, hp, dt⟩, hL, q⟩ := h
    obtain ⟨b, us, eb, hb, du⟩ := Dp.tupE dt
    cases eb
    have lus : us.length = L.length := dp_lenM du
    refine ⟨_, (pss_one (ps_ret (pe_callTy (k_tup K) (by rfl) hT (by decide +kernel) (pa_cons (pe_lc (own := [("form", 1), ("shade", 2), ("many", 3)]) rfl scRows.nd (pk_tup K (pe_fld (pv 0) rfl)) (blkOk_by (N := NRows) (sc := defScope (inClass (topS 3) 1)) (own := [("form", 1), ("shade", 2), ("many", 3)]) (by decide +kernel)) (fun _ _ _ _ _ => (pgk_tup K (n := 3) rfl (pgs_cons (pg_name (i := 1) scRows.nd rfl (.inl rfl)) (pgs_cons (pg_name (i := 2) scRows.nd rfl (.inl rfl)) (pgs_cons (pg_name (i := 3) scRows.nd rfl (.inl rfl)) pgs_nil))))) (fun _ _ _ _ _ => pts_nil) (fun _ _ _ _ _ => (pe_tup (pa_cons (pv 1) (pa_cons (pv 2) (pa_cons (pv 3) pa_nil)))))) pa_nil)))), ?_⟩
    refine ⟨.ref p, rfl, p, C, dx, _, _, rfl, hp, T.cl, T.nh, hf_held _, t0, rfl, ⟨us, hb⟩, fun d nd => ?_⟩
    refine lc_tup (K := K) (a := t0) (xs := us) (fun i H2 => ∃ zs : List V, H2 d = some (.lst zs) ∧ DpAll K H2 zs ((L.take i).map prowD) ∧ Same H H2) ?_ ?_ ?_ ?_
    · exact ⟨[], upd_same, .nil, same_new (Same.refl H) nd⟩
    · rintro i H2 _ ⟨zs, _, _, s2⟩
      exact (TKeep.of s2).sq hb
    · rintro i v H2 hv ⟨zs, ed, dz, s2⟩
      obtain ⟨e, he, de⟩ := DpAll.getV du hv
      rw [List.getElem?_map] at he
      obtain ⟨r, hxi, rfl⟩ := Option.map_eq_some_iff.mp he
      have hi := (List.getElem?_eq_some_iff.mp hxi).1
      obtain ⟨b1, rfl, hb1⟩ := Dp.prowE (Dp.same s2 de)
      refine ⟨b1, _, rfl, hb1, rfl, _, _, rfl, _, _, rfl, _, _, rfl, rfl, rfl, .str r.1, rfl, .str r.2.1, rfl, .int r.2.2, rfl, by show 3 ≤ sizeLine; decide, fun u nu => ?_⟩
      have ed6 : (upd H2 u (.tup [.str r.1, .str r.2.1, .int r.2.2])) d = some (.lst zs) := by rw [upd_ne (ne_of_none ed nu)]; exact ed
      have eu : (upd H2 u (.tup [.str r.1, .str r.2.1, .int r.2.2])) u = some (.tup [.str r.1, .str r.2.1, .int r.2.2]) := upd_same
      have s6 : Same H2 (upd H2 u (.tup [.str r.1, .str r.2.1, .int r.2.2])) := same_new (Same.refl H2) nu
      generalize upd H2 u (.tup [.str r.1, .str r.2.1, .int r.2.2]) = H6 at ed6 eu s6
      have lz : zs.length < sizeLine := by
        rw [dp_lenM dz, List.length_take]
        exact small1000 (by omega)
      refine ⟨zs, ed6, lz, zs ++ [.ref u], upd_same, ?_, same_own (s2.trans s6) nd⟩
      rw [take_snoc hxi]
      have tkd := TKeep.lst (o := .lst (zs ++ [.ref u])) ed6
      exact dp_snoc flat_prow dz ((TKeep.of s6).trans tkd) (Dp.prow (tkd.sq (SqT.of eu)))
    · rintro H2 ⟨zs, ed, dz, s2⟩
      rw [lus, List.take_length] at dz
      refine ⟨d, zs, rfl, .inl ⟨.inl (.inl ed), fun t nt => ?_⟩⟩
      exact q (.ref t) _ (same_new s2 nt) (.tup (SqT.of upd_same) (dp_move flat_prow dz (TKeep.new nt)))
end
end K05
namespace K05
open PySem PySem.Spec PyProof.Rows L2 PK
abbrev NManyM : List Str := ["self", "form", "shade", "own", "tint", "many"]
theorem scManyM : FnScope NManyM ["self", "form", "shade"] (defScope (inClass (topS 3) 2)) := ⟨rfl, rfl, rfl, by decide +kernel, rfl, by decide +kernel, by decide +kernel⟩
abbrev FunM (K : PySem.W.Frag) (f : Addr) (fd : FuncData) : Prop := FunD K "many" "Heap.many" (defArgs (inClass (topS 3) 2)) (defBody (inClass (topS 3) 2)) (defScope (inClass (topS 3) 2)) [.non] [] f fd
section
variable {P : Program} {w : World} {K : PySem.W.Frag} {mg : Str → Option Value} {base : Heap}
-- names: ["self", "form", "shade", "own", "tint", "many"] cells {'form', 'shade'}
theorem ok_manym {f C : Addr} {fd : FuncData} {k : Nat} (F : FunM K f fd) (T : HCls K mg C) (hSu : mg "sum" = none) :
    FnOk P w K mg base CX0 (k + 1) f fd ["self", "form", "shade"] (spManyM K C) := by
  refine F.ok (CX := CX0) scManyM (fun vs H Q E h => ?_) (fun cdv A outer s H vs Q E hr h => ?_)
  · obtain ⟨p, fo, x, o, L, rfl, _⟩ := h
    rfl
  · obtain ⟨p, fo, x, o, L, rfl, ⟨dx, t0, hp, dt⟩, hL, hx, q⟩ := h
    obtain ⟨b, us, eb, hb, du⟩ := Dp.tupE dt
    cases eb
    have lus : us.length = L.length := dp_lenM du
    refine ⟨_, (pss_one (ps_ret (pe_callB (k_sum K rfl) (by rfl) hSu (by decide +kernel) (pa_cons (pe_lc (own := [("own", 3), ("tint", 4), ("many", 5)]) rfl scManyM.nd (pk_tup K (pe_fld (pv 0) rfl)) (blkOk_by (N := NManyM) (sc := defScope (inClass (topS 3) 2)) (own := [("own", 3), ("tint", 4), ("many", 5)]) (by decide +kernel)) (fun _ _ _ _ _ => (pgk_tup K (n := 3) rfl (pgs_cons (pg_name (i := 3) scManyM.nd rfl (.inl rfl)) (pgs_cons (pg_name (i := 4) scManyM.nd rfl (.inl rfl)) (pgs_cons (pg_name (i := 5) scManyM.nd rfl (.inl rfl)) pgs_nil))))) (fun _ _ _ _ _ => pts_one (PW.pt (pw_and (pt_cmpR op_eq (pv 3) (pv 1) (nomark _)) (pw_and1 (PW.pt (pw_or (pt_cmpR op_isN (pv 2) pe_non (nomark _)) (pw_or1 (pt_cmpR op_eq (pv 4) (pv 2) (nomark _))))))))) (fun _ _ _ _ _ => (pv 5))) pa_nil)))), ?_⟩
    refine ⟨.ref p, rfl, p, C, dx, _, _, rfl, hp, T.cl, T.nh, hf_held _, t0, rfl, ⟨us, hb⟩, fun d nd => ?_⟩
    refine lc_tup (K := K) (a := t0) (xs := us) (fun i H2 => H2 d = some (.lst ((selL (L.take i) fo o).map V.int)) ∧ Same H H2) ⟨upd_same, same_new (Same.refl H) nd⟩ ?_ ?_ ?_
    · rintro i H2 _ ⟨_, s2⟩
      exact (TKeep.of s2).sq hb
    · rintro i v H2 hv ⟨ed, s2⟩
      obtain ⟨e, he, de⟩ := DpAll.getV du hv
      rw [List.getElem?_map] at he
      obtain ⟨r, hxi, rfl⟩ := Option.map_eq_some_iff.mp he
      have hi := (List.getElem?_eq_some_iff.mp hxi).1
      obtain ⟨b1, rfl, hb1⟩ := Dp.prowE (Dp.same s2 de)
      have add : sel fo o r = true → ∃ acc, H2 d = some (.lst acc) ∧ acc.length < sizeLine ∧ (upd H2 d (.lst (acc ++ [.int r.2.2]))) d = some (.lst ((selL (L.take (i + 1)) fo o).map V.int)) ∧ Same H (upd H2 d (.lst (acc ++ [.int r.2.2]))) := fun hs => by
        refine ⟨_, ed, ?_, ?_, same_own s2 nd⟩
        · rw [List.length_map]
          have := selL_len (L.take i) fo o
          rw [List.length_take] at this
          exact small1000 (by omega)
        · rw [upd_same, selL_snoc hxi, if_pos hs, List.map_append]
          rfl
      have skip : ¬ sel fo o r = true → H2 d = some (.lst ((selL (L.take (i + 1)) fo o).map V.int)) ∧ Same H H2 := fun hs => by
        refine ⟨?_, s2⟩
        rw [ed, selL_snoc hxi, if_neg hs, List.append_nil]
      refine ⟨b1, _, rfl, hb1, rfl, _, _, rfl, _, _, rfl, _, _, rfl, rfl, rfl, ?_⟩
      have dstr : ∀ a b : Str, decide (V.str a = V.str b) = decide (a = b) := fun a b => by
        by_cases z : a = b
        · rw [z, decide_eq_true rfl, decide_eq_true rfl]
        · rw [decide_eq_false z]
          exact decide_eq_false fun y => z (V.str.inj y)
      refine ⟨.str r.1, rfl, .str fo, rfl, rfl, _, rfl, ?_⟩
      rw [dstr]
      refine ite2 (fun h1 => ?_) (fun h1 => ?_)
      · refine ⟨x, rfl, rfl, _, rfl, ite2 (fun h2 => ?_) (fun h2 => ?_)⟩
        · have hn : x = .non := of_decide_eq_true h2
          refine iteT ⟨.int r.2.2, rfl, add ?_⟩
          rcases hx with ⟨_, rfl⟩ | ⟨t, e, _⟩
          · unfold sel
            rw [h1]
            rfl
          · rw [hn] at e
            cases e
        · have hn : ¬ x = .non := fun z => h2 (decide_eq_true z)
          rcases hx with ⟨e, _⟩ | ⟨t, rfl, rfl⟩
          · exact absurd e hn
          refine ⟨.str r.2.1, rfl, .str t, rfl, rfl, _, rfl, ?_⟩
          rw [dstr]
          refine ite2 (fun h3 => ⟨.int r.2.2, rfl, add ?_⟩) (fun h3 => skip ?_)
          · unfold sel
            rw [h1]
            exact h3
          · intro z
            unfold sel at z
            rw [h1] at z
            exact h3 z
      · refine iteF (skip fun z => h1 ?_)
        unfold sel at z
        exact (Bool.and_eq_true_iff.mp z).1
    · rintro H2 ⟨ed, s2⟩
      rw [lus, List.take_length] at ed
      exact ⟨d, _, rfl, .inl (.inl ed), q H2 s2⟩
end
end K05
namespace K05
open PySem PySem.Spec PyProof.Rows L2 PK
abbrev NEq : List Str := ["self", "other"]
theorem scEq : FnScope NEq ["self", "other"] (defScope (inClass (topS 3) 7)) := ⟨rfl, rfl, rfl, by decide +kernel, rfl, by decide +kernel, by decide +kernel⟩
section
variable {P : Program} {w : World} {K : PySem.W.Frag} {mg : Str → Option Value} {base : Heap}
theorem ok_eq {f C : Addr} {fd : FuncData} {k : Nat} (F : Fun K "__eq__" "Heap.__eq__" (inClass (topS 3) 7) f fd) (T : HCls K mg C) (U : HIs K C) (hI : mg "isinstance" = none) :
    FnOk P w K mg base CX0 (k + 1) f fd ["self", "other"] (spEqH K C) := by
  refine F.ok scEq (fun vs H Q E h => ?_) (fun cdv A outer s H vs Q E hr h => ?_)
  · obtain ⟨p, q, L, M, n, b, rfl, _⟩ := h
    rfl
  · obtain ⟨p, r, L, M, n, b, rfl, hp, hq, okL, okM, q⟩ := h
    refine ⟨_, (pss_one (ps_ret (pe_and (pe_callB (k_isi K) (by rfl) hI (by decide +kernel) (pa_cons (pv 1) (pa_cons (pe_glob (v := .ref C) (by rfl) T.mg rfl) pa_nil))) (pe_one (pe_cmpR (ko_eqD K hr) (pe_fld (pv 0) rfl) (pe_fld (pv 1) rfl) (nomark _)))))), ?_⟩
    have ty := hq.ty T U
    obtain ⟨dx, t0, e1, d1⟩ := hp
    obtain ⟨dy, t1, e2, d2⟩ := hq
    refine ⟨.ref r, rfl, .ref r, .ref C, .ref C, .ref C, true, rfl, .own C, ty, kit_self K C, true, rfl, iteT ?_⟩
    refine ⟨.ref p, rfl, p, C, dx, _, _, rfl, e1, T.cl, T.nh, hf_held _, .ref r, rfl, r, C, dy, _, _, rfl, e2, T.cl, T.nh, hf_held _, rowsD L, rowsD M, d1, d2, rows_shaped okL, rows_shaped okM, ?_⟩
    rw [rows_eqv]
    exact q
end
end K05
namespace K05
open PySem PySem.Spec PyProof.Rows L2 PK
abbrev NLen : List Str := ["self"]
theorem scLen : FnScope NLen ["self"] (defScope (inClass (topS 3) 8)) := ⟨rfl, rfl, rfl, by decide +kernel, rfl, by decide +kernel, by decide +kernel⟩
section
variable {P : Program} {w : World} {K : PySem.W.Frag} {mg : Str → Option Value} {base : Heap}
theorem ok_len {f C : Addr} {fd : FuncData} {k : Nat} (F : Fun K "__len__" "Heap.__len__" (inClass (topS 3) 8) f fd) (T : HCls K mg C) (hl : mg "len" = none) :
    FnOk P w K mg base CX0 (k + 1) f fd ["self"] (spLenH K C) := by
  refine F.ok scLen (fun vs H Q E h => ?_) (fun cdv A outer s H vs Q E hr h => ?_)
  · obtain ⟨p, L, rfl, _⟩ := h
    rfl
  · obtain ⟨p, L, rfl, ⟨dx, t0, e1, d1⟩, hL, q⟩ := h
    refine ⟨_, (pss_one (ps_ret (pe_callB (k_len K) (by rfl) hl PySem.boot_len (pa_cons (pe_fld (pv 0) rfl) pa_nil)))), ?_⟩
    obtain ⟨b, us, eb, hb, du⟩ := Dp.tupE d1
    cases eb
    refine ⟨.ref p, rfl, p, C, dx, _, _, rfl, e1, T.cl, T.nh, hf_held _, t0, us, rfl, .inr hb, ?_⟩
    rw [dp_lenM du]
    exact q
end
end K05
namespace LP
open PySem PySem.Spec PyProof.Rows L2 PK RZ
/-! ### shades -/
/-! ### wants, ways -/
theorem Sz.un {m dp n : Nat} {l : List D} (h : Sz m dp n (.tup l)) : Szs m dp n l ∧ wts (D.toPs l) + 3 ≤ n := by
  have h3 : (PyData.tuple (D.toPs l)).depth ≤ dp := h.dep
  rw [depth_tuple] at h3
  have h4 : wts (D.toPs l) + 3 ≤ n := h.wt
  exact ⟨⟨h.pl, h.mx, by omega, by omega⟩, h4⟩
end LP
namespace LP
open PySem PySem.Spec PyProof.Rows L2 PK RZ
theorem many_wp {Q : D → Prop} {E : Ex → Prop} (q : ∀ r : Int, 1 ≤ r → r ≤ 1000000000 → Q (.int r)) : (fLMany [.tok 0]).wp Q E := by
  refine ⟨rfl, ?_⟩
  show (endW (bLMany (startE 1 [.tok 0]))).wp Q E
  simp only [bLMany, W.bind_wp, W.ret_wp, W.want_wp, W.any_wp, s_ite, s_get0, s_get, s_then, s_end, s_run, s_calm, s_fail, s_start1, s_start2, s_start3, s_start4, s_start5, List.replicate, List.set_cons_zero, List.set_cons_succ, asB_bl, asS_str, Nat.reduceSub, Nat.reduceAdd, addW.eq_1, addW.eq_2, addW.eq_3, addW.eq_4, addW.eq_5, subW.eq_1, subW.eq_2, mulW.eq_1, mulW.eq_2, mulW.eq_3, intOp.eq_1, negW.eq_1, ordW.eq_1, ordW.eq_2, isW.eq_1, isntW.eq_1, ixW.eq_1, ixW.eq_2, ixW.eq_3, slW.eq_1, slW.eq_2, slW.eq_3, revTW.eq_1, revLW.eq_1, lenW.eq_1, lenW.eq_2, lenW.eq_3, tupleW.eq_1, tupleW.eq_2, listW.eq_1, listW.eq_2, min2W.eq_1, max2W.eq_1, strW.eq_1, strW.eq_2, joinW.eq_1, joinW.eq_2, walkLW.eq_1, walkTW.eq_1, walkSW.eq_1, range1W.eq_1, zipW.eq_1, zipW.eq_2, tupG.eq_1, gsW.eq_1, gsW.eq_2, par2.eq_1, extW.eq_1, extW.eq_2, partW.eq_1, optW.eq_1, optW.eq_2, modW, fdivW, powW, ltW, leW, gtW, geW, isNone, isi_non, isi_bl, isi_int, isi_str, isi_tup, isi_lst, upperW, putW, appW, tupW, lstW, asB_bl, String.reduceBEq, beq_self_eq_true, Bool.or_true, Bool.true_or, Bool.or_false, Bool.false_or, Bool.and_true, Bool.true_and, Bool.and_false, Bool.false_and, Bool.not_true, Bool.not_false, forall_const, true_implies, true_and, and_true, false_implies, reduceCtorEq, List.length_cons, List.length_nil, forall_eq, imp_self, implies_true, if_true, if_false, Bool.false_eq_true, Bool.true_eq_false]
  refine draw_wp (by decide) (by decide) fun r1 a1 b1 => ⟨⟨by decide, by decide, by decide⟩, draw_wp (by decide) (by decide) fun r2 a2 b2 => ⟨⟨by decide, by decide, by decide⟩, draw_wp (by decide) (by decide) fun r3 a3 b3 => ⟨small (by decide), draw_wp (by decide) (by decide) fun r4 a4 b4 => ?_⟩⟩⟩
  have b3 : r3 < 1000000 := b3
  have e : r4 = 0 ∨ r4 = 1 ∨ r4 = 2 ∨ r4 = 3 := by omega
  rcases e with rfl | rfl | rfl | rfl
  · exact q 1 (by decide) (by decide)
  · exact q (1 + r1) (by omega) (by omega)
  · exact q (1000000000 - r2) (by omega) (by omega)
  · exact q (1 + r3) (by omega) (by omega)
theorem plains_strs (ws : List Str) : D.plains (ws.map D.str) = true := by
  rw [plains_all, List.all_map]
  exact List.all_eq_true.mpr fun _ _ => rfl
theorem depths_strs (ws : List Str) : PyData.depthAll (D.toPs (ws.map D.str)) = 0 := by
  induction ws with
  | nil => rfl
  | cons y ws ih => show max 0 (PyData.depthAll (D.toPs (ws.map D.str))) = 0; rw [ih]; rfl
theorem sh_strs (ws : List Str) : D.sh (.lst (ws.map D.str)) := by
  refine ⟨plains_strs ws, ?_⟩
  show (PyData.list (D.toPs (ws.map D.str))).depth ≤ 64
  rw [depth_list, depths_strs]
  decide
theorem neW_nil (ws : List Str) : neW (.lst (ws.map D.str)) (.lst []) = W.ret (.bl (!ws.isEmpty)) := by
  refine (neW_sh (sh_strs ws) (sh_strs [])).trans ?_
  cases ws <;> rfl
theorem last_strs {ws : List Str} (h : ws ≠ []) : atI (ws.map D.str) (-1) = some (.str (ws.getLast h)) := by
  have e : ws.map D.str = ws.dropLast.map D.str ++ [.str (ws.getLast h)] := by
    rw [← List.map_singleton (f := D.str), ← List.map_append, List.dropLast_concat_getLast]
  rw [e]
  exact atI_last _ _
theorem Word.ok {y : Str} (h : Word y) : PyData.strOk y = true := strOk_mem.mpr fun c hc => by
  have := (h.low c hc).2
  omega
theorem ssOf_ones (l : List Nat) : ssOf (l.map fun k => D.str ⟨#[k]⟩) = some (l.map fun k => (⟨#[k]⟩ : Str)) := by
  have e : (l.map fun k => D.str ⟨#[k]⟩) = (l.map fun k => (⟨#[k]⟩ : Str)).map D.str := by rw [List.map_map]; rfl
  rw [e, ssOf_map]
theorem joinW_lst {a : Str} {l : List D} {ys : List Str} (h : ssOf l = some ys) (h2 : (ys.map (·.length)).sum + ys.length * a.length ≤ 16777216) : joinW a (.lst l) = W.ret (.str (Str.join a ys)) := by
  show W.bind (optW (ssOf l)) _ = _
  rw [h, optW_some, W.ret_bind, W.want_bind h2]
/-- so many words, unlike -/
theorem names_wp {n : Int} {Q : D → Prop} {E : Ex → Prop} (h0 : 0 ≤ n) (h1 : n ≤ 20) (q : ∀ ws : List Str, (ws.length : Int) = n → (∀ y ∈ ws, Word y) → ws.Nodup → Q (.lst (ws.map D.str))) : (fLNames [.tok 0, .int n]).wp Q E := by
  refine ⟨rfl, ?_⟩
  show (endW (bLNames (startE 8 [.tok 0, .int n]))).wp Q E
  simp only [bLNames, W.bind_wp, W.ret_wp, W.want_wp, W.any_wp, s_ite, s_get0, s_get, s_then, s_end, s_run, s_calm, s_fail, s_start1, s_start2, s_start3, s_start4, s_start5, List.replicate, List.set_cons_zero, List.set_cons_succ, asB_bl, asS_str, Nat.reduceSub, Nat.reduceAdd, addW.eq_1, addW.eq_2, addW.eq_3, addW.eq_4, addW.eq_5, subW.eq_1, subW.eq_2, mulW.eq_1, mulW.eq_2, mulW.eq_3, intOp.eq_1, negW.eq_1, ordW.eq_1, ordW.eq_2, isW.eq_1, isntW.eq_1, ixW.eq_1, ixW.eq_2, ixW.eq_3, slW.eq_1, slW.eq_2, slW.eq_3, revTW.eq_1, revLW.eq_1, lenW.eq_1, lenW.eq_2, lenW.eq_3, tupleW.eq_1, tupleW.eq_2, listW.eq_1, listW.eq_2, min2W.eq_1, max2W.eq_1, strW.eq_1, strW.eq_2, joinW.eq_1, joinW.eq_2, walkLW.eq_1, walkTW.eq_1, walkSW.eq_1, range1W.eq_1, zipW.eq_1, zipW.eq_2, tupG.eq_1, gsW.eq_1, gsW.eq_2, par2.eq_1, extW.eq_1, extW.eq_2, partW.eq_1, optW.eq_1, optW.eq_2, modW, fdivW, powW, ltW, leW, gtW, geW, isNone, isi_non, isi_bl, isi_int, isi_str, isi_tup, isi_lst, upperW, putW, appW, tupW, lstW, asB_bl, String.reduceBEq, beq_self_eq_true, Bool.or_true, Bool.true_or, Bool.or_false, Bool.false_or, Bool.and_true, Bool.true_and, Bool.and_false, Bool.false_and, Bool.not_true, Bool.not_false, forall_const, true_implies, true_and, and_true, false_implies, reduceCtorEq, List.length_cons, List.length_nil, forall_eq, imp_self, implies_true, if_true, if_false, Bool.false_eq_true, Bool.true_eq_false]
  refine ⟨small (by decide), by decide, draw_wp (by decide) (by decide) fun a0 a1 a2 => ⟨⟨by omega, by omega⟩, ?_⟩⟩
  refine forW_wp0 (fun i env => ∃ (ws : List Str) (z : Int) (y5 y6 y7 : Option D), env = [some (.tok 0), some (.int n), some (.str abc), some (.lst (ws.map D.str)), some (.int z), y5, y6, y7] ∧ ws.length = i ∧ (∀ y ∈ ws, Word y) ∧ NmOk a0 z ws)
    ⟨[], a0, none, none, none, rfl, rfl, fun _ h => (nomatch h), NmOk.nil a0⟩ ?_ ?_
  · rintro i d env hd ⟨ws, z, y5, y6, y7, rfl, lw, hw, nm⟩
    have hi : i < n.toNat := by
      have := (List.getElem?_eq_some_iff.mp hd).1
      simpa [rangeD] using this
    have lo := nm.lo
    have few := nm.few
    have put : ∀ (y : Str) (z' : Int) (y5 y6 y7 : Option D), Word y → NmOk a0 z' (ws ++ [y]) → ∃ (ws' : List Str) (z : Int) (x5 x6 x7 : Option D), [some (.tok 0), some (.int n), some (.str abc), some (.lst (ws.map D.str ++ [.str y])), some (.int z'), y5, y6, y7] = [some (.tok 0), some (.int n), some (.str abc), some (.lst (ws'.map D.str)), some (.int z), x5, x6, x7] ∧ ws'.length = i + 1 ∧ (∀ y ∈ ws', Word y) ∧ NmOk a0 z ws' := by
      intro y z' y5 y6 y7 hy nm'
      refine ⟨ws ++ [y], z', y5, y6, y7, by rw [List.map_append]; rfl, by rw [List.length_append, lw]; rfl, fun v hv => ?_, nm'⟩
      rcases List.mem_append.mp hv with h | h
      · exact hw v h
      · rw [List.mem_singleton.mp h]
        exact hy
    show (bLNames_3 [some (.tok 0), some (.int n), some (.str abc), some (.lst (ws.map D.str)), some (.int z), some d, y6, y7]).wp _ E
    have els : ∀ R : Fl → Prop, (∀ e, (∃ (ws : List Str) (z : Int) (y5 y6 y7 : Option D), e = [some (.tok 0), some (.int n), some (.str abc), some (.lst (ws.map D.str)), some (.int z), y5, y6, y7] ∧ ws.length = i + 1 ∧ (∀ y ∈ ws, Word y) ∧ NmOk a0 z ws) → R (.nx e)) →
      (bLNames_2 [some (.tok 0), some (.int n), some (.str abc), some (.lst (ws.map D.str)), some (.int z), some d, y6, y7]).wp R E := by
      intro R hR
      simp only [bLNames_2, W.bind_wp, W.ret_wp, W.want_wp, W.any_wp, s_ite, s_get0, s_get, s_then, s_end, s_run, s_calm, s_fail, s_start1, s_start2, s_start3, s_start4, s_start5, List.replicate, List.set_cons_zero, List.set_cons_succ, asB_bl, asS_str, Nat.reduceSub, Nat.reduceAdd, addW.eq_1, addW.eq_2, addW.eq_3, addW.eq_4, addW.eq_5, subW.eq_1, subW.eq_2, mulW.eq_1, mulW.eq_2, mulW.eq_3, intOp.eq_1, negW.eq_1, ordW.eq_1, ordW.eq_2, isW.eq_1, isntW.eq_1, ixW.eq_1, ixW.eq_2, ixW.eq_3, slW.eq_1, slW.eq_2, slW.eq_3, revTW.eq_1, revLW.eq_1, lenW.eq_1, lenW.eq_2, lenW.eq_3, tupleW.eq_1, tupleW.eq_2, listW.eq_1, listW.eq_2, min2W.eq_1, max2W.eq_1, strW.eq_1, strW.eq_2, joinW.eq_1, joinW.eq_2, walkLW.eq_1, walkTW.eq_1, walkSW.eq_1, range1W.eq_1, zipW.eq_1, zipW.eq_2, tupG.eq_1, gsW.eq_1, gsW.eq_2, par2.eq_1, extW.eq_1, extW.eq_2, partW.eq_1, optW.eq_1, optW.eq_2, modW, fdivW, powW, ltW, leW, gtW, geW, isNone, isi_non, isi_bl, isi_int, isi_str, isi_tup, isi_lst, upperW, putW, appW, tupW, lstW, asB_bl, String.reduceBEq, beq_self_eq_true, Bool.or_true, Bool.true_or, Bool.or_false, Bool.false_or, Bool.and_true, Bool.true_and, Bool.and_false, Bool.false_and, Bool.not_true, Bool.not_false, forall_const, true_implies, true_and, and_true, false_implies, reduceCtorEq, List.length_cons, List.length_nil, forall_eq, imp_self, implies_true, if_true, if_false, Bool.false_eq_true, Bool.true_eq_false]
      refine lcD_go ?_
      simp only [W.bind_wp, W.ret_wp, W.want_wp, W.any_wp, s_ite, s_get0, s_get, s_then, s_end, s_run, s_calm, s_fail, s_start1, s_start2, s_start3, s_start4, s_start5, List.replicate, List.set_cons_zero, List.set_cons_succ, asB_bl, asS_str, Nat.reduceSub, Nat.reduceAdd, addW.eq_1, addW.eq_2, addW.eq_3, addW.eq_4, addW.eq_5, subW.eq_1, subW.eq_2, mulW.eq_1, mulW.eq_2, mulW.eq_3, intOp.eq_1, negW.eq_1, ordW.eq_1, ordW.eq_2, isW.eq_1, isntW.eq_1, ixW.eq_1, ixW.eq_2, ixW.eq_3, slW.eq_1, slW.eq_2, slW.eq_3, revTW.eq_1, revLW.eq_1, lenW.eq_1, lenW.eq_2, lenW.eq_3, tupleW.eq_1, tupleW.eq_2, listW.eq_1, listW.eq_2, min2W.eq_1, max2W.eq_1, strW.eq_1, strW.eq_2, joinW.eq_1, joinW.eq_2, walkLW.eq_1, walkTW.eq_1, walkSW.eq_1, range1W.eq_1, zipW.eq_1, zipW.eq_2, tupG.eq_1, gsW.eq_1, gsW.eq_2, par2.eq_1, extW.eq_1, extW.eq_2, partW.eq_1, optW.eq_1, optW.eq_2, modW, fdivW, powW, ltW, leW, gtW, geW, isNone, isi_non, isi_bl, isi_int, isi_str, isi_tup, isi_lst, upperW, putW, appW, tupW, lstW, asB_bl, String.reduceBEq, beq_self_eq_true, Bool.or_true, Bool.true_or, Bool.or_false, Bool.false_or, Bool.and_true, Bool.true_and, Bool.and_false, Bool.false_and, Bool.not_true, Bool.not_false, forall_const, true_implies, true_and, and_true, false_implies, reduceCtorEq, List.length_cons, List.length_nil, forall_eq, imp_self, implies_true, if_true, if_false, Bool.false_eq_true, Bool.true_eq_false]
      refine ⟨small (by decide), draw_wp (by decide) (by decide) fun r r0 r1 => ?_⟩
      have e4 : r = 0 ∨ r = 1 ∨ r = 2 ∨ r = 3 := by omega
      have key : ∃ k : Nat, k ≤ 7 ∧ atI [D.int 0, .int 0, .int 1, .int 7] r = some (.int k) := by
        rcases e4 with rfl | rfl | rfl | rfl
        · exact ⟨0, by decide, rfl⟩
        · exact ⟨0, by decide, rfl⟩
        · exact ⟨1, by decide, rfl⟩
        · exact ⟨7, by decide, rfl⟩
      obtain ⟨k, hk, ek⟩ := key
      simp only [W.bind_wp, W.ret_wp, W.want_wp, W.any_wp, s_ite, s_get0, s_get, s_then, s_end, s_run, s_calm, s_fail, s_start1, s_start2, s_start3, s_start4, s_start5, List.replicate, List.set_cons_zero, List.set_cons_succ, asB_bl, asS_str, Nat.reduceSub, Nat.reduceAdd, addW.eq_1, addW.eq_2, addW.eq_3, addW.eq_4, addW.eq_5, subW.eq_1, subW.eq_2, mulW.eq_1, mulW.eq_2, mulW.eq_3, intOp.eq_1, negW.eq_1, ordW.eq_1, ordW.eq_2, isW.eq_1, isntW.eq_1, ixW.eq_1, ixW.eq_2, ixW.eq_3, slW.eq_1, slW.eq_2, slW.eq_3, revTW.eq_1, revLW.eq_1, lenW.eq_1, lenW.eq_2, lenW.eq_3, tupleW.eq_1, tupleW.eq_2, listW.eq_1, listW.eq_2, min2W.eq_1, max2W.eq_1, strW.eq_1, strW.eq_2, joinW.eq_1, joinW.eq_2, walkLW.eq_1, walkTW.eq_1, walkSW.eq_1, range1W.eq_1, zipW.eq_1, zipW.eq_2, tupG.eq_1, gsW.eq_1, gsW.eq_2, par2.eq_1, extW.eq_1, extW.eq_2, partW.eq_1, optW.eq_1, optW.eq_2, modW, fdivW, powW, ltW, leW, gtW, geW, isNone, isi_non, isi_bl, isi_int, isi_str, isi_tup, isi_lst, upperW, putW, appW, tupW, lstW, asB_bl, String.reduceBEq, beq_self_eq_true, Bool.or_true, Bool.true_or, Bool.or_false, Bool.false_or, Bool.and_true, Bool.true_and, Bool.and_false, Bool.false_and, Bool.not_true, Bool.not_false, forall_const, true_implies, true_and, and_true, false_implies, reduceCtorEq, List.length_cons, List.length_nil, forall_eq, imp_self, implies_true, if_true, if_false, Bool.false_eq_true, Bool.true_eq_false, ek]
      refine ⟨⟨by omega, by omega⟩, ?_⟩
      refine lcW_go (fun j acc => ∃ l : List Nat, acc = l.map (fun c => D.str ⟨#[c]⟩) ∧ l.length = j ∧ ∀ c ∈ l, Lw c) ⟨[], rfl, rfl, fun _ h => (nomatch h)⟩ ?_ ?_
      · rintro j e acc he ⟨l, rfl, lj, hl⟩
        have hj : j < k := by
          have := (List.getElem?_eq_some_iff.mp he).1
          simpa [rangeD] using this
        simp only [wipeE, W.bind_wp, W.ret_wp, W.want_wp, W.any_wp, s_ite, s_get0, s_get, s_then, s_end, s_run, s_calm, s_fail, s_start1, s_start2, s_start3, s_start4, s_start5, List.replicate, List.set_cons_zero, List.set_cons_succ, asB_bl, asS_str, Nat.reduceSub, Nat.reduceAdd, addW.eq_1, addW.eq_2, addW.eq_3, addW.eq_4, addW.eq_5, subW.eq_1, subW.eq_2, mulW.eq_1, mulW.eq_2, mulW.eq_3, intOp.eq_1, negW.eq_1, ordW.eq_1, ordW.eq_2, isW.eq_1, isntW.eq_1, ixW.eq_1, ixW.eq_2, ixW.eq_3, slW.eq_1, slW.eq_2, slW.eq_3, revTW.eq_1, revLW.eq_1, lenW.eq_1, lenW.eq_2, lenW.eq_3, tupleW.eq_1, tupleW.eq_2, listW.eq_1, listW.eq_2, min2W.eq_1, max2W.eq_1, strW.eq_1, strW.eq_2, joinW.eq_1, joinW.eq_2, walkLW.eq_1, walkTW.eq_1, walkSW.eq_1, range1W.eq_1, zipW.eq_1, zipW.eq_2, tupG.eq_1, gsW.eq_1, gsW.eq_2, par2.eq_1, extW.eq_1, extW.eq_2, partW.eq_1, optW.eq_1, optW.eq_2, modW, fdivW, powW, ltW, leW, gtW, geW, isNone, isi_non, isi_bl, isi_int, isi_str, isi_tup, isi_lst, upperW, putW, appW, tupW, lstW, asB_bl, String.reduceBEq, beq_self_eq_true, Bool.or_true, Bool.true_or, Bool.or_false, Bool.false_or, Bool.and_true, Bool.true_and, Bool.and_false, Bool.false_and, Bool.not_true, Bool.not_false, forall_const, true_implies, true_and, and_true, false_implies, reduceCtorEq, List.length_cons, List.length_nil, forall_eq, imp_self, implies_true, if_true, if_false, Bool.false_eq_true, Bool.true_eq_false]
        refine draw_wp (by decide) (by decide) fun r r0 r1 => ?_
        obtain ⟨c, ec, hc⟩ := abc_at r0 r1
        simp only [W.bind_wp, W.ret_wp, W.want_wp, W.any_wp, s_ite, s_get0, s_get, s_then, s_end, s_run, s_calm, s_fail, s_start1, s_start2, s_start3, s_start4, s_start5, List.replicate, List.set_cons_zero, List.set_cons_succ, asB_bl, asS_str, Nat.reduceSub, Nat.reduceAdd, addW.eq_1, addW.eq_2, addW.eq_3, addW.eq_4, addW.eq_5, subW.eq_1, subW.eq_2, mulW.eq_1, mulW.eq_2, mulW.eq_3, intOp.eq_1, negW.eq_1, ordW.eq_1, ordW.eq_2, isW.eq_1, isntW.eq_1, ixW.eq_1, ixW.eq_2, ixW.eq_3, slW.eq_1, slW.eq_2, slW.eq_3, revTW.eq_1, revLW.eq_1, lenW.eq_1, lenW.eq_2, lenW.eq_3, tupleW.eq_1, tupleW.eq_2, listW.eq_1, listW.eq_2, min2W.eq_1, max2W.eq_1, strW.eq_1, strW.eq_2, joinW.eq_1, joinW.eq_2, walkLW.eq_1, walkTW.eq_1, walkSW.eq_1, range1W.eq_1, zipW.eq_1, zipW.eq_2, tupG.eq_1, gsW.eq_1, gsW.eq_2, par2.eq_1, extW.eq_1, extW.eq_2, partW.eq_1, optW.eq_1, optW.eq_2, modW, fdivW, powW, ltW, leW, gtW, geW, isNone, isi_non, isi_bl, isi_int, isi_str, isi_tup, isi_lst, upperW, putW, appW, tupW, lstW, asB_bl, String.reduceBEq, beq_self_eq_true, Bool.or_true, Bool.true_or, Bool.or_false, Bool.false_or, Bool.and_true, Bool.true_and, Bool.and_false, Bool.false_and, Bool.not_true, Bool.not_false, forall_const, true_implies, true_and, and_true, false_implies, reduceCtorEq, List.length_cons, List.length_nil, forall_eq, imp_self, implies_true, if_true, if_false, Bool.false_eq_true, Bool.true_eq_false, ec]
        refine ⟨abc_len, ?_, l ++ [c], by rw [List.map_append]; rfl, by rw [List.length_append, lj]; rfl, fun x hx => ?_⟩
        · rw [List.length_map]
          exact smallT (by omega)
        · rcases List.mem_append.mp hx with h | h
          · exact hl x h
          · rw [List.mem_singleton.mp h]
            exact hc
      · rintro acc ⟨l, rfl, lj, hl⟩
        have lk : l.length = k := by rw [lj]; simp [rangeD]
        have m0 := Int.emod_nonneg (z + 1) (show (26 : Int) ≠ 0 by decide)
        have m1 := Int.emod_lt_of_pos (z + 1) (show (0 : Int) < 26 by decide)
        obtain ⟨c, ec, hc⟩ := abc_at m0 m1
        have hw2 := word_join hc (show l.length ≤ 7 by omega) hl
        rw [TL.join_eq] at hw2
        have hsum : ((l.map fun k => (⟨#[k]⟩ : Str)).map (·.length)).sum + (l.map fun k => (⟨#[k]⟩ : Str)).length * Str.length ("" : String) ≤ 16777216 := by
          have e1 : ((l.map fun k => (⟨#[k]⟩ : Str)).map (·.length)).sum = l.length := by
            rw [List.map_map]
            clear hw2 hl lk lj
            induction l with
            | nil => rfl
            | cons a l ih => rw [List.map_cons, List.sum_cons, ih, List.length_cons]; show 1 + _ = _; omega
          rw [e1, List.length_map, show Str.length ("" : String) = 0 from rfl]
          omega
        simp only [W.bind_wp, W.ret_wp, W.want_wp, W.any_wp, s_ite, s_get0, s_get, s_then, s_end, s_run, s_calm, s_fail, s_start1, s_start2, s_start3, s_start4, s_start5, List.replicate, List.set_cons_zero, List.set_cons_succ, asB_bl, asS_str, Nat.reduceSub, Nat.reduceAdd, addW.eq_1, addW.eq_2, addW.eq_3, addW.eq_4, addW.eq_5, subW.eq_1, subW.eq_2, mulW.eq_1, mulW.eq_2, mulW.eq_3, intOp.eq_1, negW.eq_1, ordW.eq_1, ordW.eq_2, isW.eq_1, isntW.eq_1, ixW.eq_1, ixW.eq_2, ixW.eq_3, slW.eq_1, slW.eq_2, slW.eq_3, revTW.eq_1, revLW.eq_1, lenW.eq_1, lenW.eq_2, lenW.eq_3, tupleW.eq_1, tupleW.eq_2, listW.eq_1, listW.eq_2, min2W.eq_1, max2W.eq_1, strW.eq_1, strW.eq_2, joinW.eq_1, joinW.eq_2, walkLW.eq_1, walkTW.eq_1, walkSW.eq_1, range1W.eq_1, zipW.eq_1, zipW.eq_2, tupG.eq_1, gsW.eq_1, gsW.eq_2, par2.eq_1, extW.eq_1, extW.eq_2, partW.eq_1, optW.eq_1, optW.eq_2, modW, fdivW, powW, ltW, leW, gtW, geW, isNone, isi_non, isi_bl, isi_int, isi_str, isi_tup, isi_lst, upperW, putW, appW, tupW, lstW, asB_bl, String.reduceBEq, beq_self_eq_true, Bool.or_true, Bool.true_or, Bool.or_false, Bool.false_or, Bool.and_true, Bool.true_and, Bool.and_false, Bool.false_and, Bool.not_true, Bool.not_false, forall_const, true_implies, true_and, and_true, false_implies, reduceCtorEq, List.length_cons, List.length_nil, forall_eq, imp_self, implies_true, if_true, if_false, Bool.false_eq_true, Bool.true_eq_false, ec, ssOf_ones]
        refine ⟨by decide, abc_len, hsum, ?_, ?_, hR _ (put _ (z + 1) (some d) _ y7 hw2 (nm.next (by omega) ?_))⟩
        · have := hw2.eight
          have e9 : (⟨#[c]⟩ ++ Str.join ⟨#[]⟩ (l.map fun k => (⟨#[k]⟩ : Str))).length = (⟨#[c]⟩ : Str).length + (Str.join ⟨#[]⟩ (l.map fun k => (⟨#[k]⟩ : Str))).length := strLen_append _ _
          refine small ?_
          show (⟨#[c]⟩ : Str).length + (Str.join ⟨#[]⟩ (l.map fun k => (⟨#[k]⟩ : Str))).length ≤ 1000000
          omega
        · rw [List.length_map]
          exact smallT (by omega)
        · rw [hd_cons, abc_at2 m0 m1 ec]
          rfl
    simp only [bLNames_3, bLNames_1, W.bind_wp, W.ret_wp, W.want_wp, W.any_wp, s_ite, s_get0, s_get, s_then, s_end, s_run, s_calm, s_fail, s_start1, s_start2, s_start3, s_start4, s_start5, List.replicate, List.set_cons_zero, List.set_cons_succ, asB_bl, asS_str, Nat.reduceSub, Nat.reduceAdd, addW.eq_1, addW.eq_2, addW.eq_3, addW.eq_4, addW.eq_5, subW.eq_1, subW.eq_2, mulW.eq_1, mulW.eq_2, mulW.eq_3, intOp.eq_1, negW.eq_1, ordW.eq_1, ordW.eq_2, isW.eq_1, isntW.eq_1, ixW.eq_1, ixW.eq_2, ixW.eq_3, slW.eq_1, slW.eq_2, slW.eq_3, revTW.eq_1, revLW.eq_1, lenW.eq_1, lenW.eq_2, lenW.eq_3, tupleW.eq_1, tupleW.eq_2, listW.eq_1, listW.eq_2, min2W.eq_1, max2W.eq_1, strW.eq_1, strW.eq_2, joinW.eq_1, joinW.eq_2, walkLW.eq_1, walkTW.eq_1, walkSW.eq_1, range1W.eq_1, zipW.eq_1, zipW.eq_2, tupG.eq_1, gsW.eq_1, gsW.eq_2, par2.eq_1, extW.eq_1, extW.eq_2, partW.eq_1, optW.eq_1, optW.eq_2, modW, fdivW, powW, ltW, leW, gtW, geW, isNone, isi_non, isi_bl, isi_int, isi_str, isi_tup, isi_lst, upperW, putW, appW, tupW, lstW, asB_bl, String.reduceBEq, beq_self_eq_true, Bool.or_true, Bool.true_or, Bool.or_false, Bool.false_or, Bool.and_true, Bool.true_and, Bool.and_false, Bool.false_and, Bool.not_true, Bool.not_false, forall_const, true_implies, true_and, and_true, false_implies, reduceCtorEq, List.length_cons, List.length_nil, forall_eq, imp_self, implies_true, if_true, if_false, Bool.false_eq_true, Bool.true_eq_false, neW_nil]
    by_cases we : ws = []
    · subst we
      exact ⟨Nat.zero_le _, fun h => absurd h (by decide), fun _ => els _ fun e h => h⟩
    · have wy : Word (ws.getLast we) := hw _ (List.getLast_mem we)
      simp only [last_strs we, W.bind_wp, W.ret_wp, W.want_wp, W.any_wp, s_ite, s_get0, s_get, s_then, s_end, s_run, s_calm, s_fail, s_start1, s_start2, s_start3, s_start4, s_start5, List.replicate, List.set_cons_zero, List.set_cons_succ, asB_bl, asS_str, Nat.reduceSub, Nat.reduceAdd, addW.eq_1, addW.eq_2, addW.eq_3, addW.eq_4, addW.eq_5, subW.eq_1, subW.eq_2, mulW.eq_1, mulW.eq_2, mulW.eq_3, intOp.eq_1, negW.eq_1, ordW.eq_1, ordW.eq_2, isW.eq_1, isntW.eq_1, ixW.eq_1, ixW.eq_2, ixW.eq_3, slW.eq_1, slW.eq_2, slW.eq_3, revTW.eq_1, revLW.eq_1, lenW.eq_1, lenW.eq_2, lenW.eq_3, tupleW.eq_1, tupleW.eq_2, listW.eq_1, listW.eq_2, min2W.eq_1, max2W.eq_1, strW.eq_1, strW.eq_2, joinW.eq_1, joinW.eq_2, walkLW.eq_1, walkTW.eq_1, walkSW.eq_1, range1W.eq_1, zipW.eq_1, zipW.eq_2, tupG.eq_1, gsW.eq_1, gsW.eq_2, par2.eq_1, extW.eq_1, extW.eq_2, partW.eq_1, optW.eq_1, optW.eq_2, modW, fdivW, powW, ltW, leW, gtW, geW, isNone, isi_non, isi_bl, isi_int, isi_str, isi_tup, isi_lst, upperW, putW, appW, tupW, lstW, asB_bl, String.reduceBEq, beq_self_eq_true, Bool.or_true, Bool.true_or, Bool.or_false, Bool.false_or, Bool.and_true, Bool.true_and, Bool.and_false, Bool.false_and, Bool.not_true, Bool.not_false, forall_const, true_implies, true_and, and_true, false_implies, reduceCtorEq, List.length_cons, List.length_nil, forall_eq, imp_self, implies_true, if_true, if_false, Bool.false_eq_true, Bool.true_eq_false]
      refine ⟨Nat.zero_le _, fun _ => ⟨small (by have := wy.eight; omega), fun h8 => draw_wp (by decide) (by decide) fun r r0 r1 => ?_, fun _ => els _ fun e h => h⟩, fun _ => els _ fun e h => h⟩
      simp only [eqW_int, W.bind_wp, W.ret_wp, W.want_wp, W.any_wp, s_ite, s_get0, s_get, s_then, s_end, s_run, s_calm, s_fail, s_start1, s_start2, s_start3, s_start4, s_start5, List.replicate, List.set_cons_zero, List.set_cons_succ, asB_bl, asS_str, Nat.reduceSub, Nat.reduceAdd, addW.eq_1, addW.eq_2, addW.eq_3, addW.eq_4, addW.eq_5, subW.eq_1, subW.eq_2, mulW.eq_1, mulW.eq_2, mulW.eq_3, intOp.eq_1, negW.eq_1, ordW.eq_1, ordW.eq_2, isW.eq_1, isntW.eq_1, ixW.eq_1, ixW.eq_2, ixW.eq_3, slW.eq_1, slW.eq_2, slW.eq_3, revTW.eq_1, revLW.eq_1, lenW.eq_1, lenW.eq_2, lenW.eq_3, tupleW.eq_1, tupleW.eq_2, listW.eq_1, listW.eq_2, min2W.eq_1, max2W.eq_1, strW.eq_1, strW.eq_2, joinW.eq_1, joinW.eq_2, walkLW.eq_1, walkTW.eq_1, walkSW.eq_1, range1W.eq_1, zipW.eq_1, zipW.eq_2, tupG.eq_1, gsW.eq_1, gsW.eq_2, par2.eq_1, extW.eq_1, extW.eq_2, partW.eq_1, optW.eq_1, optW.eq_2, modW, fdivW, powW, ltW, leW, gtW, geW, isNone, isi_non, isi_bl, isi_int, isi_str, isi_tup, isi_lst, upperW, putW, appW, tupW, lstW, asB_bl, String.reduceBEq, beq_self_eq_true, Bool.or_true, Bool.true_or, Bool.or_false, Bool.false_or, Bool.and_true, Bool.true_and, Bool.and_false, Bool.false_and, Bool.not_true, Bool.not_false, forall_const, true_implies, true_and, and_true, false_implies, reduceCtorEq, List.length_cons, List.length_nil, forall_eq, imp_self, implies_true, if_true, if_false, Bool.false_eq_true, Bool.true_eq_false]
      refine ⟨fun _ => draw_wp (by decide) (by decide) fun r r0 r1 => ?_, fun _ => els _ fun e h => h⟩
      obtain ⟨c, ec, hc⟩ := abc_at r0 r1
      simp only [W.bind_wp, W.ret_wp, W.want_wp, W.any_wp, s_ite, s_get0, s_get, s_then, s_end, s_run, s_calm, s_fail, s_start1, s_start2, s_start3, s_start4, s_start5, List.replicate, List.set_cons_zero, List.set_cons_succ, asB_bl, asS_str, Nat.reduceSub, Nat.reduceAdd, addW.eq_1, addW.eq_2, addW.eq_3, addW.eq_4, addW.eq_5, subW.eq_1, subW.eq_2, mulW.eq_1, mulW.eq_2, mulW.eq_3, intOp.eq_1, negW.eq_1, ordW.eq_1, ordW.eq_2, isW.eq_1, isntW.eq_1, ixW.eq_1, ixW.eq_2, ixW.eq_3, slW.eq_1, slW.eq_2, slW.eq_3, revTW.eq_1, revLW.eq_1, lenW.eq_1, lenW.eq_2, lenW.eq_3, tupleW.eq_1, tupleW.eq_2, listW.eq_1, listW.eq_2, min2W.eq_1, max2W.eq_1, strW.eq_1, strW.eq_2, joinW.eq_1, joinW.eq_2, walkLW.eq_1, walkTW.eq_1, walkSW.eq_1, range1W.eq_1, zipW.eq_1, zipW.eq_2, tupG.eq_1, gsW.eq_1, gsW.eq_2, par2.eq_1, extW.eq_1, extW.eq_2, partW.eq_1, optW.eq_1, optW.eq_2, modW, fdivW, powW, ltW, leW, gtW, geW, isNone, isi_non, isi_bl, isi_int, isi_str, isi_tup, isi_lst, upperW, putW, appW, tupW, lstW, asB_bl, String.reduceBEq, beq_self_eq_true, Bool.or_true, Bool.true_or, Bool.or_false, Bool.false_or, Bool.and_true, Bool.true_and, Bool.and_false, Bool.false_and, Bool.not_true, Bool.not_false, forall_const, true_implies, true_and, and_true, false_implies, reduceCtorEq, List.length_cons, List.length_nil, forall_eq, imp_self, implies_true, if_true, if_false, Bool.false_eq_true, Bool.true_eq_false, ec]
      have h8 : (ws.getLast we).length < 8 := by simp at h8; omega
      refine ⟨abc_len, ?_, ?_, put _ z (some d) y6 y7 (word_snoc wy h8 hc) (nm.more we wy.one)⟩
      · rw [len_one]
        exact small (by omega)
      · rw [List.length_map]
        exact smallT (by omega)
  · rintro env ⟨ws, z, y5, y6, y7, rfl, lw, hw, nm⟩
    simp only [W.bind_wp, W.ret_wp, W.want_wp, W.any_wp, s_ite, s_get0, s_get, s_then, s_end, s_run, s_calm, s_fail, s_start1, s_start2, s_start3, s_start4, s_start5, List.replicate, List.set_cons_zero, List.set_cons_succ, asB_bl, asS_str, Nat.reduceSub, Nat.reduceAdd, addW.eq_1, addW.eq_2, addW.eq_3, addW.eq_4, addW.eq_5, subW.eq_1, subW.eq_2, mulW.eq_1, mulW.eq_2, mulW.eq_3, intOp.eq_1, negW.eq_1, ordW.eq_1, ordW.eq_2, isW.eq_1, isntW.eq_1, ixW.eq_1, ixW.eq_2, ixW.eq_3, slW.eq_1, slW.eq_2, slW.eq_3, revTW.eq_1, revLW.eq_1, lenW.eq_1, lenW.eq_2, lenW.eq_3, tupleW.eq_1, tupleW.eq_2, listW.eq_1, listW.eq_2, min2W.eq_1, max2W.eq_1, strW.eq_1, strW.eq_2, joinW.eq_1, joinW.eq_2, walkLW.eq_1, walkTW.eq_1, walkSW.eq_1, range1W.eq_1, zipW.eq_1, zipW.eq_2, tupG.eq_1, gsW.eq_1, gsW.eq_2, par2.eq_1, extW.eq_1, extW.eq_2, partW.eq_1, optW.eq_1, optW.eq_2, modW, fdivW, powW, ltW, leW, gtW, geW, isNone, isi_non, isi_bl, isi_int, isi_str, isi_tup, isi_lst, upperW, putW, appW, tupW, lstW, asB_bl, String.reduceBEq, beq_self_eq_true, Bool.or_true, Bool.true_or, Bool.or_false, Bool.false_or, Bool.and_true, Bool.true_and, Bool.and_false, Bool.false_and, Bool.not_true, Bool.not_false, forall_const, true_implies, true_and, and_true, false_implies, reduceCtorEq, List.length_cons, List.length_nil, forall_eq, imp_self, implies_true, if_true, if_false, Bool.false_eq_true, Bool.true_eq_false]
    refine q ws ?_ hw nm.nd
    rw [lw]
    simp [rangeD]
    omega
/-! ### texts sorted -/
theorem toPs_strs (l : List Str) : D.toPs (l.map D.str) = l.map PyData.str := by
  rw [toPs_map, List.map_map]
  rfl
theorem cmpb_strs (l : List Str) : Cmpb (D.toPs (l.map D.str)) := by
  rw [toPs_strs]
  refine ⟨fun d hd e he => ?_, .inr fun d hd => ?_, fun d hd => ?_⟩
  · obtain ⟨a, _, rfl⟩ := List.mem_map.mp hd
    obtain ⟨b, _, rfl⟩ := List.mem_map.mp he
    exact str_alike a b
  · obtain ⟨a, _, rfl⟩ := List.mem_map.mp hd
    exact ⟨fun z => (nomatch z), fun _ z => (nomatch z)⟩
  · obtain ⟨a, _, rfl⟩ := List.mem_map.mp hd
    exact Nat.zero_le _
theorem sortD_strs (l : List Str) : sortD (l.map D.str) = (sortS l).map D.str := by
  unfold sortD sortS srt
  exact (merge_map D.str (PySem.W.dataLe false D.toP) l).symm
theorem sorted_strs {l : List Str} (h : l.length ≤ 1000000) : sortedW [.lst (l.map D.str)] = W.ret (.lst ((sortS l).map D.str)) := by
  show W.bind (W.want _) _ = _
  rw [W.want_bind ⟨plains_strs l, cmpb_strs l, by rw [List.length_map]; exact small h⟩, sortD_strs]
theorem sortS_len (l : List Str) : (sortS l).length = l.length := (srt_perm false _ _).length_eq
def wantD' (f : Str) (zs : List Str) (r : Int) : D := .tup [.str f, .tup (zs.map D.str), .int r]
theorem want_wp {fs ss : List Str} {Q : D → Prop} {E : Ex → Prop} (hf : fs ≠ []) (lf : fs.length ≤ 1000) (ls : ss.length ≤ 1000) (q : ∀ f ∈ fs, ∀ (zs : List Str) (r : Int), zs.Sublist (sortS ss) → 1 ≤ r → r ≤ 1000000000 → Q (wantD' f zs r)) :
    (fLWant [.tok 0, .lst (fs.map D.str), .lst (ss.map D.str)]).wp Q E := by
  refine ⟨rfl, ?_⟩
  show (endW (bLWant (startE 6 [.tok 0, .lst (fs.map D.str), .lst (ss.map D.str)]))).wp Q E
  simp only [bLWant, W.bind_wp, W.ret_wp, W.want_wp, W.any_wp, s_ite, s_get0, s_get, s_then, s_end, s_run, s_calm, s_fail, s_start1, s_start2, s_start3, s_start4, s_start5, List.replicate, List.set_cons_zero, List.set_cons_succ, asB_bl, asS_str, Nat.reduceSub, Nat.reduceAdd, addW.eq_1, addW.eq_2, addW.eq_3, addW.eq_4, addW.eq_5, subW.eq_1, subW.eq_2, mulW.eq_1, mulW.eq_2, mulW.eq_3, intOp.eq_1, negW.eq_1, ordW.eq_1, ordW.eq_2, isW.eq_1, isntW.eq_1, ixW.eq_1, ixW.eq_2, ixW.eq_3, slW.eq_1, slW.eq_2, slW.eq_3, revTW.eq_1, revLW.eq_1, lenW.eq_1, lenW.eq_2, lenW.eq_3, tupleW.eq_1, tupleW.eq_2, listW.eq_1, listW.eq_2, min2W.eq_1, max2W.eq_1, strW.eq_1, strW.eq_2, joinW.eq_1, joinW.eq_2, walkLW.eq_1, walkTW.eq_1, walkSW.eq_1, range1W.eq_1, zipW.eq_1, zipW.eq_2, tupG.eq_1, gsW.eq_1, gsW.eq_2, par2.eq_1, extW.eq_1, extW.eq_2, partW.eq_1, optW.eq_1, optW.eq_2, modW, fdivW, powW, ltW, leW, gtW, geW, isNone, isi_non, isi_bl, isi_int, isi_str, isi_tup, isi_lst, upperW, putW, appW, tupW, lstW, asB_bl, String.reduceBEq, beq_self_eq_true, Bool.or_true, Bool.true_or, Bool.or_false, Bool.false_or, Bool.and_true, Bool.true_and, Bool.and_false, Bool.false_and, Bool.not_true, Bool.not_false, forall_const, true_implies, true_and, and_true, false_implies, reduceCtorEq, List.length_cons, List.length_nil, forall_eq, imp_self, implies_true, if_true, if_false, Bool.false_eq_true, Bool.true_eq_false]
  have l0 : 0 < fs.length := List.length_pos_iff.mpr hf
  refine draw_wp (by rw [List.length_map]; omega) (by rw [List.length_map]; omega) fun r r0 r1 => ?_
  rw [List.length_map] at r1
  obtain ⟨k, rfl⟩ := Int.eq_ofNat_of_zero_le r0
  have hk : k < fs.length := by omega
  have ek : atI (fs.map D.str) (k : Int) = some (.str fs[k]) := atI_nat (by rw [List.getElem?_map, List.getElem?_eq_getElem hk]; rfl)
  simp only [W.bind_wp, W.ret_wp, W.want_wp, W.any_wp, s_ite, s_get0, s_get, s_then, s_end, s_run, s_calm, s_fail, s_start1, s_start2, s_start3, s_start4, s_start5, List.replicate, List.set_cons_zero, List.set_cons_succ, asB_bl, asS_str, Nat.reduceSub, Nat.reduceAdd, addW.eq_1, addW.eq_2, addW.eq_3, addW.eq_4, addW.eq_5, subW.eq_1, subW.eq_2, mulW.eq_1, mulW.eq_2, mulW.eq_3, intOp.eq_1, negW.eq_1, ordW.eq_1, ordW.eq_2, isW.eq_1, isntW.eq_1, ixW.eq_1, ixW.eq_2, ixW.eq_3, slW.eq_1, slW.eq_2, slW.eq_3, revTW.eq_1, revLW.eq_1, lenW.eq_1, lenW.eq_2, lenW.eq_3, tupleW.eq_1, tupleW.eq_2, listW.eq_1, listW.eq_2, min2W.eq_1, max2W.eq_1, strW.eq_1, strW.eq_2, joinW.eq_1, joinW.eq_2, walkLW.eq_1, walkTW.eq_1, walkSW.eq_1, range1W.eq_1, zipW.eq_1, zipW.eq_2, tupG.eq_1, gsW.eq_1, gsW.eq_2, par2.eq_1, extW.eq_1, extW.eq_2, partW.eq_1, optW.eq_1, optW.eq_2, modW, fdivW, powW, ltW, leW, gtW, geW, isNone, isi_non, isi_bl, isi_int, isi_str, isi_tup, isi_lst, upperW, putW, appW, tupW, lstW, asB_bl, String.reduceBEq, beq_self_eq_true, Bool.or_true, Bool.true_or, Bool.or_false, Bool.false_or, Bool.and_true, Bool.true_and, Bool.and_false, Bool.false_and, Bool.not_true, Bool.not_false, forall_const, true_implies, true_and, and_true, false_implies, reduceCtorEq, List.length_cons, List.length_nil, forall_eq, imp_self, implies_true, if_true, if_false, Bool.false_eq_true, Bool.true_eq_false, ek]
  refine lcD_go ?_
  simp only [W.bind_wp, W.ret_wp, W.want_wp, W.any_wp, s_ite, s_get0, s_get, s_then, s_end, s_run, s_calm, s_fail, s_start1, s_start2, s_start3, s_start4, s_start5, List.replicate, List.set_cons_zero, List.set_cons_succ, asB_bl, asS_str, Nat.reduceSub, Nat.reduceAdd, addW.eq_1, addW.eq_2, addW.eq_3, addW.eq_4, addW.eq_5, subW.eq_1, subW.eq_2, mulW.eq_1, mulW.eq_2, mulW.eq_3, intOp.eq_1, negW.eq_1, ordW.eq_1, ordW.eq_2, isW.eq_1, isntW.eq_1, ixW.eq_1, ixW.eq_2, ixW.eq_3, slW.eq_1, slW.eq_2, slW.eq_3, revTW.eq_1, revLW.eq_1, lenW.eq_1, lenW.eq_2, lenW.eq_3, tupleW.eq_1, tupleW.eq_2, listW.eq_1, listW.eq_2, min2W.eq_1, max2W.eq_1, strW.eq_1, strW.eq_2, joinW.eq_1, joinW.eq_2, walkLW.eq_1, walkTW.eq_1, walkSW.eq_1, range1W.eq_1, zipW.eq_1, zipW.eq_2, tupG.eq_1, gsW.eq_1, gsW.eq_2, par2.eq_1, extW.eq_1, extW.eq_2, partW.eq_1, optW.eq_1, optW.eq_2, modW, fdivW, powW, ltW, leW, gtW, geW, isNone, isi_non, isi_bl, isi_int, isi_str, isi_tup, isi_lst, upperW, putW, appW, tupW, lstW, asB_bl, String.reduceBEq, beq_self_eq_true, Bool.or_true, Bool.true_or, Bool.or_false, Bool.false_or, Bool.and_true, Bool.true_and, Bool.and_false, Bool.false_and, Bool.not_true, Bool.not_false, forall_const, true_implies, true_and, and_true, false_implies, reduceCtorEq, List.length_cons, List.length_nil, forall_eq, imp_self, implies_true, if_true, if_false, Bool.false_eq_true, Bool.true_eq_false, sorted_strs (show ss.length ≤ 1000000 by omega)]
  refine lcW_goT (fun i acc => ∃ zs : List Str, acc = zs.map D.str ∧ zs.Sublist ((sortS ss).take i)) ⟨[], rfl, List.nil_sublist _⟩ ?_ ?_
  · rintro i d acc hd ⟨zs, rfl, hz⟩
    rw [List.getElem?_map] at hd
    obtain ⟨y, hy, rfl⟩ := Option.map_eq_some_iff.mp hd
    have lz := hz.length_le
    rw [List.length_take, sortS_len] at lz
    simp only [wipeE, W.bind_wp, W.ret_wp, W.want_wp, W.any_wp, s_ite, s_get0, s_get, s_then, s_end, s_run, s_calm, s_fail, s_start1, s_start2, s_start3, s_start4, s_start5, List.replicate, List.set_cons_zero, List.set_cons_succ, asB_bl, asS_str, Nat.reduceSub, Nat.reduceAdd, addW.eq_1, addW.eq_2, addW.eq_3, addW.eq_4, addW.eq_5, subW.eq_1, subW.eq_2, mulW.eq_1, mulW.eq_2, mulW.eq_3, intOp.eq_1, negW.eq_1, ordW.eq_1, ordW.eq_2, isW.eq_1, isntW.eq_1, ixW.eq_1, ixW.eq_2, ixW.eq_3, slW.eq_1, slW.eq_2, slW.eq_3, revTW.eq_1, revLW.eq_1, lenW.eq_1, lenW.eq_2, lenW.eq_3, tupleW.eq_1, tupleW.eq_2, listW.eq_1, listW.eq_2, min2W.eq_1, max2W.eq_1, strW.eq_1, strW.eq_2, joinW.eq_1, joinW.eq_2, walkLW.eq_1, walkTW.eq_1, walkSW.eq_1, range1W.eq_1, zipW.eq_1, zipW.eq_2, tupG.eq_1, gsW.eq_1, gsW.eq_2, par2.eq_1, extW.eq_1, extW.eq_2, partW.eq_1, optW.eq_1, optW.eq_2, modW, fdivW, powW, ltW, leW, gtW, geW, isNone, isi_non, isi_bl, isi_int, isi_str, isi_tup, isi_lst, upperW, putW, appW, tupW, lstW, asB_bl, String.reduceBEq, beq_self_eq_true, Bool.or_true, Bool.true_or, Bool.or_false, Bool.false_or, Bool.and_true, Bool.true_and, Bool.and_false, Bool.false_and, Bool.not_true, Bool.not_false, forall_const, true_implies, true_and, and_true, false_implies, reduceCtorEq, List.length_cons, List.length_nil, forall_eq, imp_self, implies_true, if_true, if_false, Bool.false_eq_true, Bool.true_eq_false]
    refine draw_wp (by decide) (by decide) fun r r0 r1 => ?_
    simp only [eqW_int, W.bind_wp, W.ret_wp, W.want_wp, W.any_wp, s_ite, s_get0, s_get, s_then, s_end, s_run, s_calm, s_fail, s_start1, s_start2, s_start3, s_start4, s_start5, List.replicate, List.set_cons_zero, List.set_cons_succ, asB_bl, asS_str, Nat.reduceSub, Nat.reduceAdd, addW.eq_1, addW.eq_2, addW.eq_3, addW.eq_4, addW.eq_5, subW.eq_1, subW.eq_2, mulW.eq_1, mulW.eq_2, mulW.eq_3, intOp.eq_1, negW.eq_1, ordW.eq_1, ordW.eq_2, isW.eq_1, isntW.eq_1, ixW.eq_1, ixW.eq_2, ixW.eq_3, slW.eq_1, slW.eq_2, slW.eq_3, revTW.eq_1, revLW.eq_1, lenW.eq_1, lenW.eq_2, lenW.eq_3, tupleW.eq_1, tupleW.eq_2, listW.eq_1, listW.eq_2, min2W.eq_1, max2W.eq_1, strW.eq_1, strW.eq_2, joinW.eq_1, joinW.eq_2, walkLW.eq_1, walkTW.eq_1, walkSW.eq_1, range1W.eq_1, zipW.eq_1, zipW.eq_2, tupG.eq_1, gsW.eq_1, gsW.eq_2, par2.eq_1, extW.eq_1, extW.eq_2, partW.eq_1, optW.eq_1, optW.eq_2, modW, fdivW, powW, ltW, leW, gtW, geW, isNone, isi_non, isi_bl, isi_int, isi_str, isi_tup, isi_lst, upperW, putW, appW, tupW, lstW, asB_bl, String.reduceBEq, beq_self_eq_true, Bool.or_true, Bool.true_or, Bool.or_false, Bool.false_or, Bool.and_true, Bool.true_and, Bool.and_false, Bool.false_and, Bool.not_true, Bool.not_false, forall_const, true_implies, true_and, and_true, false_implies, reduceCtorEq, List.length_cons, List.length_nil, forall_eq, imp_self, implies_true, if_true, if_false, Bool.false_eq_true, Bool.true_eq_false]
    refine ⟨fun _ => ⟨?_, zs ++ [y], by rw [List.map_append]; rfl, ?_⟩, fun _ => ⟨zs, rfl, ?_⟩⟩
    · rw [List.length_map]
      exact smallT (by omega)
    · rw [take_snoc hy]
      exact List.Sublist.append hz (List.Sublist.refl _)
    · rw [take_snoc hy]
      exact hz.trans (List.sublist_append_left _ _)
  · rintro acc ⟨zs, rfl, hz⟩
    rw [List.length_map, List.take_length] at hz
    refine many_wp fun r r0 r1 => ?_
    exact ⟨small (by decide), q _ (List.getElem_mem hk) zs r hz r0 r1⟩
end LP
namespace LP
open PySem PySem.Spec PyProof.Rows L2 PK LP RZ
theorem rangeAt {lo : Int} {n i : Nat} {d : D} (h : (rangeD lo n)[i]? = some d) : i < n ∧ d = .int (lo + (i : Int)) := by
  unfold rangeD at h
  rw [List.getElem?_map] at h
  obtain ⟨j, hj, rfl⟩ := Option.map_eq_some_iff.mp h
  obtain ⟨h1, h2⟩ := List.getElem?_eq_some_iff.mp hj
  rw [List.length_range] at h1
  rw [List.getElem_range] at h2
  subst h2
  exact ⟨h1, rfl⟩
theorem rangeLen (lo : Int) (n : Nat) : (rangeD lo n).length = n := by simp [rangeD]
/-! ### the drawn rows -/
theorem at_draw {fs : List Str} {Q : D → Prop} {E : Ex → Prop} (hf : fs ≠ []) (lf : fs.length ≤ 1000) (q : ∀ (r : Int) (y : Str), y ∈ fs → atI (fs.map D.str) r = some (.str y) → Q (.int r)) : (drawW [.tok 0, .int ((fs.map D.str).length : Int)]).wp Q E := by
  have l0 : 0 < fs.length := List.length_pos_iff.mpr hf
  refine draw_wp (by rw [List.length_map]; omega) (by rw [List.length_map]; omega) fun r r0 r1 => ?_
  rw [List.length_map] at r1
  obtain ⟨k, rfl⟩ := Int.eq_ofNat_of_zero_le r0
  have hk : k < fs.length := by omega
  exact q _ fs[k] (List.getElem_mem hk) (atI_nat (by rw [List.getElem?_map, List.getElem?_eq_getElem hk]; rfl))
structure LR (fs ss : List Str) (n : Nat) (L : List PRow) : Prop where
  len : L.length ≤ n
  each : ∀ r ∈ L, r.1 ∈ fs ∧ r.2.1 ∈ ss ∧ 1 ≤ r.2.2 ∧ r.2.2 ≤ 1000000000
theorem lrows_wp {fs ss : List Str} {m : Nat} {Q : D → Prop} {E : Ex → Prop} (hf : fs ≠ []) (lf : fs.length ≤ 1000) (hs : ss ≠ []) (ls : ss.length ≤ 1000) (hm : m ≤ 1000) (q : ∀ L, LR fs ss m L → Q (rowsT L)) :
    (fLRows [.tok 0, .lst (fs.map D.str), .lst (ss.map D.str), .int (m : Int)]).wp Q E := by
  refine ⟨rfl, ?_⟩
  show (endW (bLRows (startE 8 [.tok 0, .lst (fs.map D.str), .lst (ss.map D.str), .int (m : Int)]))).wp Q E
  simp only [bLRows, W.bind_wp, W.ret_wp, W.want_wp, W.any_wp, s_ite, s_get0, s_get, s_then, s_end, s_run, s_calm, s_fail, s_start1, s_start2, s_start3, s_start4, s_start5, List.replicate, List.set_cons_zero, List.set_cons_succ, asB_bl, asS_str, Nat.reduceSub, Nat.reduceAdd, addW.eq_1, addW.eq_2, addW.eq_3, addW.eq_4, addW.eq_5, subW.eq_1, subW.eq_2, mulW.eq_1, mulW.eq_2, mulW.eq_3, intOp.eq_1, negW.eq_1, ordW.eq_1, ordW.eq_2, isW.eq_1, isntW.eq_1, ixW.eq_1, ixW.eq_2, ixW.eq_3, slW.eq_1, slW.eq_2, slW.eq_3, revTW.eq_1, revLW.eq_1, lenW.eq_1, lenW.eq_2, lenW.eq_3, tupleW.eq_1, tupleW.eq_2, listW.eq_1, listW.eq_2, min2W.eq_1, max2W.eq_1, strW.eq_1, strW.eq_2, joinW.eq_1, joinW.eq_2, walkLW.eq_1, walkTW.eq_1, walkSW.eq_1, range1W.eq_1, zipW.eq_1, zipW.eq_2, tupG.eq_1, gsW.eq_1, gsW.eq_2, par2.eq_1, extW.eq_1, extW.eq_2, partW.eq_1, optW.eq_1, optW.eq_2, modW, fdivW, powW, ltW, leW, gtW, geW, isNone, isi_non, isi_bl, isi_int, isi_str, isi_tup, isi_lst, upperW, putW, appW, tupW, lstW, asB_bl, String.reduceBEq, beq_self_eq_true, Bool.or_true, Bool.true_or, Bool.or_false, Bool.false_or, Bool.and_true, Bool.true_and, Bool.and_false, Bool.false_and, Bool.not_true, Bool.not_false, forall_const, true_implies, true_and, and_true, false_implies, reduceCtorEq, List.length_cons, List.length_nil, forall_eq, imp_self, implies_true, if_true, if_false, Bool.false_eq_true, Bool.true_eq_false]
  refine ⟨small (by decide), by decide, draw_wp (by omega) (by omega) fun a a0 a1 => ⟨⟨by omega, by omega⟩, ?_⟩⟩
  refine forW_wp0 (fun i env => ∃ (L : List PRow) (y5 y6 y7 : Option D), env = [some (.tok 0), some (.lst (fs.map D.str)), some (.lst (ss.map D.str)), some (.int (m : Int)), some (.lst (L.map rowT)), y5, y6, y7] ∧ LR fs ss i L) ⟨[], none, none, none, rfl, Nat.le_refl _, fun _ h => (nomatch h)⟩ ?_ ?_
  · rintro i d env hd ⟨L, y5, y6, y7, rfl, hL⟩
    obtain ⟨hi, rfl⟩ := rangeAt hd
    simp only [bLRows_1, W.bind_wp, W.ret_wp, W.want_wp, W.any_wp, s_ite, s_get0, s_get, s_then, s_end, s_run, s_calm, s_fail, s_start1, s_start2, s_start3, s_start4, s_start5, List.replicate, List.set_cons_zero, List.set_cons_succ, asB_bl, asS_str, Nat.reduceSub, Nat.reduceAdd, addW.eq_1, addW.eq_2, addW.eq_3, addW.eq_4, addW.eq_5, subW.eq_1, subW.eq_2, mulW.eq_1, mulW.eq_2, mulW.eq_3, intOp.eq_1, negW.eq_1, ordW.eq_1, ordW.eq_2, isW.eq_1, isntW.eq_1, ixW.eq_1, ixW.eq_2, ixW.eq_3, slW.eq_1, slW.eq_2, slW.eq_3, revTW.eq_1, revLW.eq_1, lenW.eq_1, lenW.eq_2, lenW.eq_3, tupleW.eq_1, tupleW.eq_2, listW.eq_1, listW.eq_2, min2W.eq_1, max2W.eq_1, strW.eq_1, strW.eq_2, joinW.eq_1, joinW.eq_2, walkLW.eq_1, walkTW.eq_1, walkSW.eq_1, range1W.eq_1, zipW.eq_1, zipW.eq_2, tupG.eq_1, gsW.eq_1, gsW.eq_2, par2.eq_1, extW.eq_1, extW.eq_2, partW.eq_1, optW.eq_1, optW.eq_2, modW, fdivW, powW, ltW, leW, gtW, geW, isNone, isi_non, isi_bl, isi_int, isi_str, isi_tup, isi_lst, upperW, putW, appW, tupW, lstW, asB_bl, String.reduceBEq, beq_self_eq_true, Bool.or_true, Bool.true_or, Bool.or_false, Bool.false_or, Bool.and_true, Bool.true_and, Bool.and_false, Bool.false_and, Bool.not_true, Bool.not_false, forall_const, true_implies, true_and, and_true, false_implies, reduceCtorEq, List.length_cons, List.length_nil, forall_eq, imp_self, implies_true, if_true, if_false, Bool.false_eq_true, Bool.true_eq_false]
    refine at_draw hf lf fun r y hy ey => ?_
    simp only [ey, W.bind_wp, W.ret_wp, W.want_wp, W.any_wp, s_ite, s_get0, s_get, s_then, s_end, s_run, s_calm, s_fail, s_start1, s_start2, s_start3, s_start4, s_start5, List.replicate, List.set_cons_zero, List.set_cons_succ, asB_bl, asS_str, Nat.reduceSub, Nat.reduceAdd, addW.eq_1, addW.eq_2, addW.eq_3, addW.eq_4, addW.eq_5, subW.eq_1, subW.eq_2, mulW.eq_1, mulW.eq_2, mulW.eq_3, intOp.eq_1, negW.eq_1, ordW.eq_1, ordW.eq_2, isW.eq_1, isntW.eq_1, ixW.eq_1, ixW.eq_2, ixW.eq_3, slW.eq_1, slW.eq_2, slW.eq_3, revTW.eq_1, revLW.eq_1, lenW.eq_1, lenW.eq_2, lenW.eq_3, tupleW.eq_1, tupleW.eq_2, listW.eq_1, listW.eq_2, min2W.eq_1, max2W.eq_1, strW.eq_1, strW.eq_2, joinW.eq_1, joinW.eq_2, walkLW.eq_1, walkTW.eq_1, walkSW.eq_1, range1W.eq_1, zipW.eq_1, zipW.eq_2, tupG.eq_1, gsW.eq_1, gsW.eq_2, par2.eq_1, extW.eq_1, extW.eq_2, partW.eq_1, optW.eq_1, optW.eq_2, modW, fdivW, powW, ltW, leW, gtW, geW, isNone, isi_non, isi_bl, isi_int, isi_str, isi_tup, isi_lst, upperW, putW, appW, tupW, lstW, asB_bl, String.reduceBEq, beq_self_eq_true, Bool.or_true, Bool.true_or, Bool.or_false, Bool.false_or, Bool.and_true, Bool.true_and, Bool.and_false, Bool.false_and, Bool.not_true, Bool.not_false, forall_const, true_implies, true_and, and_true, false_implies, reduceCtorEq, List.length_cons, List.length_nil, forall_eq, imp_self, implies_true, if_true, if_false, Bool.false_eq_true, Bool.true_eq_false]
    refine at_draw hs ls fun r2 y2 hy2 ey2 => ?_
    simp only [ey2, W.bind_wp, W.ret_wp, W.want_wp, W.any_wp, s_ite, s_get0, s_get, s_then, s_end, s_run, s_calm, s_fail, s_start1, s_start2, s_start3, s_start4, s_start5, List.replicate, List.set_cons_zero, List.set_cons_succ, asB_bl, asS_str, Nat.reduceSub, Nat.reduceAdd, addW.eq_1, addW.eq_2, addW.eq_3, addW.eq_4, addW.eq_5, subW.eq_1, subW.eq_2, mulW.eq_1, mulW.eq_2, mulW.eq_3, intOp.eq_1, negW.eq_1, ordW.eq_1, ordW.eq_2, isW.eq_1, isntW.eq_1, ixW.eq_1, ixW.eq_2, ixW.eq_3, slW.eq_1, slW.eq_2, slW.eq_3, revTW.eq_1, revLW.eq_1, lenW.eq_1, lenW.eq_2, lenW.eq_3, tupleW.eq_1, tupleW.eq_2, listW.eq_1, listW.eq_2, min2W.eq_1, max2W.eq_1, strW.eq_1, strW.eq_2, joinW.eq_1, joinW.eq_2, walkLW.eq_1, walkTW.eq_1, walkSW.eq_1, range1W.eq_1, zipW.eq_1, zipW.eq_2, tupG.eq_1, gsW.eq_1, gsW.eq_2, par2.eq_1, extW.eq_1, extW.eq_2, partW.eq_1, optW.eq_1, optW.eq_2, modW, fdivW, powW, ltW, leW, gtW, geW, isNone, isi_non, isi_bl, isi_int, isi_str, isi_tup, isi_lst, upperW, putW, appW, tupW, lstW, asB_bl, String.reduceBEq, beq_self_eq_true, Bool.or_true, Bool.true_or, Bool.or_false, Bool.false_or, Bool.and_true, Bool.true_and, Bool.and_false, Bool.false_and, Bool.not_true, Bool.not_false, forall_const, true_implies, true_and, and_true, false_implies, reduceCtorEq, List.length_cons, List.length_nil, forall_eq, imp_self, implies_true, if_true, if_false, Bool.false_eq_true, Bool.true_eq_false]
    refine many_wp fun n n1 n2 => ?_
    refine ⟨small (by decide), ?_, L ++ [(y, y2, n)], _, _, _, by rw [List.map_append]; rfl, ?_, fun r hr => ?_⟩
    · have := hL.len
      rw [List.length_map]
      exact smallT (by omega)
    · have := hL.len
      rw [List.length_append, List.length_singleton]
      omega
    · rcases List.mem_append.mp hr with h | h
      · exact hL.each r h
      · rw [List.mem_singleton.mp h]
        exact ⟨hy, hy2, n1, n2⟩
  · rintro env ⟨L, y5, y6, y7, rfl, hL⟩
    rw [rangeLen] at hL
    simp only [W.bind_wp, W.ret_wp, W.want_wp, W.any_wp, s_ite, s_get0, s_get, s_then, s_end, s_run, s_calm, s_fail, s_start1, s_start2, s_start3, s_start4, s_start5, List.replicate, List.set_cons_zero, List.set_cons_succ, asB_bl, asS_str, Nat.reduceSub, Nat.reduceAdd, addW.eq_1, addW.eq_2, addW.eq_3, addW.eq_4, addW.eq_5, subW.eq_1, subW.eq_2, mulW.eq_1, mulW.eq_2, mulW.eq_3, intOp.eq_1, negW.eq_1, ordW.eq_1, ordW.eq_2, isW.eq_1, isntW.eq_1, ixW.eq_1, ixW.eq_2, ixW.eq_3, slW.eq_1, slW.eq_2, slW.eq_3, revTW.eq_1, revLW.eq_1, lenW.eq_1, lenW.eq_2, lenW.eq_3, tupleW.eq_1, tupleW.eq_2, listW.eq_1, listW.eq_2, min2W.eq_1, max2W.eq_1, strW.eq_1, strW.eq_2, joinW.eq_1, joinW.eq_2, walkLW.eq_1, walkTW.eq_1, walkSW.eq_1, range1W.eq_1, zipW.eq_1, zipW.eq_2, tupG.eq_1, gsW.eq_1, gsW.eq_2, par2.eq_1, extW.eq_1, extW.eq_2, partW.eq_1, optW.eq_1, optW.eq_2, modW, fdivW, powW, ltW, leW, gtW, geW, isNone, isi_non, isi_bl, isi_int, isi_str, isi_tup, isi_lst, upperW, putW, appW, tupW, lstW, asB_bl, String.reduceBEq, beq_self_eq_true, Bool.or_true, Bool.true_or, Bool.or_false, Bool.false_or, Bool.and_true, Bool.true_and, Bool.and_false, Bool.false_and, Bool.not_true, Bool.not_false, forall_const, true_implies, true_and, and_true, false_implies, reduceCtorEq, List.length_cons, List.length_nil, forall_eq, imp_self, implies_true, if_true, if_false, Bool.false_eq_true, Bool.true_eq_false]
    exact q L ⟨by have := hL.len; omega, hL.each⟩
end LP
namespace LP
open PySem PySem.Spec PyProof.Rows L2 PK LP RZ
theorem whileN_wp {t : Env → W Bool} {p : Env → W Fl} {Q : Fl → Prop} {E : Ex → Prop} (P : Nat → Env → Prop)
    (hs : ∀ m env, P m env → (t env).wp (fun b => (b = true → (p env).wp (fun f => match f with | .nx e => ∃ j, j < m ∧ P j e | .ct e => ∃ j, j < m ∧ P j e | .bk e => Q (.nx e) | .rt d => Q (.rt d)) E) ∧ (b = false → Q (.nx env))) E) :
    ∀ k m env, m < k → P m env → (whileN t p k env).wp Q E
  | 0, m, env, h, _ => absurd h (Nat.not_lt_zero _)
  | k + 1, m, env, h, hp => by
    refine (t env).mono (fun b hb => ?_) (fun _ z => z) (hs m env hp)
    cases b with
    | false => exact hb.2 rfl
    | true =>
      refine (p env).mono (fun f hf => ?_) (fun _ z => z) (hb.1 rfl)
      cases f with
      | nx e =>
        obtain ⟨j, hj, hq⟩ := hf
        exact whileN_wp P hs k j e (by omega) hq
      | ct e =>
        obtain ⟨j, hj, hq⟩ := hf
        exact whileN_wp P hs k j e (by omega) hq
      | bk e => exact hf
      | rt d => exact hf
theorem while_wp {t : Env → W Bool} {p : Env → W Fl} {Q : Fl → Prop} {E : Ex → Prop} {env : Env} (P : Nat → Env → Prop) (m : Nat) (h0 : P m env)
    (hs : ∀ m env, P m env → (t env).wp (fun b => (b = true → (p env).wp (fun f => match f with | .nx e => ∃ j, j < m ∧ P j e | .ct e => ∃ j, j < m ∧ P j e | .bk e => Q (.nx e) | .rt d => Q (.rt d)) E) ∧ (b = false → Q (.nx env))) E) : (whileW t p env).wp Q E :=
  ⟨m + 1, whileN_wp P hs (m + 1) m env (Nat.lt_succ_self _) h0⟩
/-! ### keys -/
def keyT (k : PKey) : D := .tup [.str k.1, .str k.2]
theorem cut2 (a b c : D) : cutD [a, b, c] none (some 2) = [a, b] := rfl
theorem key_toP (k : PKey) : (keyT k).toP = pkD k := rfl
theorem keys_toPs (ks : List PKey) : D.toPs (ks.map keyT) = ks.map pkD := by
  rw [toPs_map, List.map_map]
  rfl
theorem keys_plain (ks : List PKey) : D.plains (ks.map keyT) = true := by
  rw [plains_all, List.all_eq_true]
  intro d hd
  obtain ⟨k, _, rfl⟩ := List.mem_map.mp hd
  rfl
theorem key_sh (k : PKey) : D.sh (keyT k) := ⟨rfl, by rw [key_toP]; show 1 ≤ 64; decide⟩
theorem keys_dep (ks : List PKey) : PyData.depthAll (ks.map pkD) ≤ 1 := depthAll_le fun d hd => by
  obtain ⟨k, _, rfl⟩ := List.mem_map.mp hd
  exact Nat.le_refl 1
theorem keys_sh (ks : List PKey) : D.sh (.lst (ks.map keyT)) := ⟨keys_plain ks, by
  show PyData.depthAll (D.toPs (ks.map keyT)) + 1 ≤ 64
  rw [keys_toPs]
  have := keys_dep ks
  omega⟩
theorem nil_shL : D.sh (.lst []) := ⟨rfl, by show 0 + 1 ≤ 64; decide⟩
theorem key_eqv (a b : PKey) : D.eqv (keyT a) (keyT b) = decide (a = b) := pk_eqv a b
theorem eqW_key (a b : PKey) : eqW (keyT a) (keyT b) = W.ret (.bl (decide (a = b))) := by rw [eqW_sh (key_sh a) (key_sh b), key_eqv]
theorem neW_key (a b : PKey) : neW (keyT a) (keyT b) = W.ret (.bl (!decide (a = b))) := by rw [neW_sh (key_sh a) (key_sh b), key_eqv]
theorem eqW_key' (a b c d : Str) : eqW (.tup [.str a, .str b]) (.tup [.str c, .str d]) = W.ret (.bl (decide ((a, b) = (c, d)))) := eqW_key (a, b) (c, d)
theorem neW_keysNil (ks : List PKey) : neW (.lst (ks.map keyT)) (.lst []) = W.ret (.bl (!ks.isEmpty)) := by
  rw [neW_sh (keys_sh ks) nil_shL]
  cases ks with
  | nil => rfl
  | cons k ks => rfl
theorem rowsT_depth (L : List PRow) : (rowsT L).toP.depth ≤ 2 := by
  rw [rowsT_toP]
  show PyData.depthAll (L.map prowD) + 1 ≤ 2
  have : PyData.depthAll (L.map prowD) ≤ 1 := depthAll_le fun d hd => by
    obtain ⟨r, _, rfl⟩ := List.mem_map.mp hd
    exact Nat.le_refl 1
  omega
theorem rowsT_sh (L : List PRow) : D.sh (rowsT L) := ⟨rowsT_plain L, Nat.le_trans (rowsT_depth L) (by decide)⟩
theorem rowsT_eqv (L M : List PRow) : D.eqv (rowsT L) (rowsT M) = decide (L = M) := by
  unfold D.eqv
  rw [rowsT_toP, rowsT_toP, rows_eqv]
theorem eqW_rows (L M : List PRow) : eqW (rowsT L) (rowsT M) = W.ret (.bl (decide (L = M))) := by rw [eqW_sh (rowsT_sh L) (rowsT_sh M), rowsT_eqv]
theorem neW_rows (L M : List PRow) : neW (rowsT L) (rowsT M) = W.ret (.bl (!decide (L = M))) := by rw [neW_sh (rowsT_sh L) (rowsT_sh M), rowsT_eqv]
/-- the many of rows of a key -/
def rowIx : D → D
  | .tup [_, _, d] => d
  | d => d
def keyIs (k : PKey) : D → Bool
  | .tup [.str f, .str s, _] => decide ((f, s) = k)
  | _ => false
theorem sum_ofPart (L : List PRow) (k : PKey) : ((L.map rowT).filter (keyIs k)).map rowIx = (ofPart L k).map D.int := by
  unfold ofPart
  induction L with
  | nil => rfl
  | cons r L ih =>
    rw [List.map_cons]
    by_cases e : pk r = k
    · rw [List.filter_cons_of_pos (show keyIs k (rowT r) = true from decide_eq_true e), List.filter_cons_of_pos (by simpa using e), List.map_cons, ih]
      rfl
    · rw [List.filter_cons_of_neg (show ¬ keyIs k (rowT r) = true from fun z => e (of_decide_eq_true z)), List.filter_cons_of_neg (by simpa using e), ih]
theorem sumW_part (L : List PRow) (k : PKey) : sumW [.lst ((ofPart L k).map D.int)] = W.ret (.int (cnt L k)) := by
  show (optW (isOf ((ofPart L k).map D.int))).bind _ = _
  rw [isOf_map, optW_some, W.ret_bind, ofPart_sum]
theorem summed_ret (L : List PRow) (hn : L.length ≤ 10000) : Ret (fSummed [rowsT L]) (rowsT (sumR L)) := by
  intro Q E q
  refine ⟨rfl, ?_⟩
  show (endW (bSummed (startE 6 [rowsT L]))).wp Q E
  have hl : (L.map rowT).length ≤ sizeLine := by rw [List.length_map]; exact small (by omega)
  have sums : ∀ (k : PKey) (y1 y2 y3 y5 : Option D), Ret (lcD (fun d env => W.ret (env.set 3 (some d))) (fun env => ((((getW env 3).bind fun d => (W.ret none).bind fun l => ((W.ret (.int 2)).bind partW).bind fun u => slW d l u).bind fun x => (getW env 4).bind fun y => eqW x y).bind asB)) (fun env => ((getW env 3).bind fun x => (W.ret (.int 2)).bind fun y => ixW x y)) [3] (fun env => ((getW env 0).bind walkTW)) [some (rowsT L), y1, y2, y3, some (keyT k), y5]) (.lst ((ofPart L k).map D.int)) := fun k y1 y2 y3 y5 => by
    rw [← sum_ofPart]
    refine lc_ret (keyIs k) rowIx (fun Q E q => q) hl fun d hd => ?_
    obtain ⟨r, hr, rfl⟩ := List.mem_map.mp hd
    simp only [wipeE, rowT, cut2, keyT, eqW_key', W.bind_wp, W.ret_wp, W.want_wp, W.any_wp, s_ite, s_get0, s_get, s_then, s_end, s_run, s_calm, s_fail, s_start1, s_start2, s_start3, s_start4, s_start5, List.replicate, List.set_cons_zero, List.set_cons_succ, asB_bl, asS_str, Nat.reduceSub, Nat.reduceAdd, addW.eq_1, addW.eq_2, addW.eq_3, addW.eq_4, addW.eq_5, subW.eq_1, subW.eq_2, mulW.eq_1, mulW.eq_2, mulW.eq_3, intOp.eq_1, negW.eq_1, ordW.eq_1, ordW.eq_2, isW.eq_1, isntW.eq_1, ixW.eq_1, ixW.eq_2, ixW.eq_3, slW.eq_1, slW.eq_2, slW.eq_3, revTW.eq_1, revLW.eq_1, lenW.eq_1, lenW.eq_2, lenW.eq_3, tupleW.eq_1, tupleW.eq_2, listW.eq_1, listW.eq_2, min2W.eq_1, max2W.eq_1, strW.eq_1, strW.eq_2, joinW.eq_1, joinW.eq_2, walkLW.eq_1, walkTW.eq_1, walkSW.eq_1, range1W.eq_1, zipW.eq_1, zipW.eq_2, tupG.eq_1, gsW.eq_1, gsW.eq_2, par2.eq_1, extW.eq_1, extW.eq_2, partW.eq_1, optW.eq_1, optW.eq_2, modW, fdivW, powW, ltW, leW, gtW, geW, isNone, isi_non, isi_bl, isi_int, isi_str, isi_tup, isi_lst, upperW, putW, appW, tupW, lstW, asB_bl, String.reduceBEq, beq_self_eq_true, Bool.or_true, Bool.true_or, Bool.or_false, Bool.false_or, Bool.and_true, Bool.true_and, Bool.and_false, Bool.false_and, Bool.not_true, Bool.not_false, forall_const, true_implies, true_and, and_true, false_implies, reduceCtorEq, List.length_cons, List.length_nil, forall_eq, imp_self, implies_true, if_true, if_false, Bool.false_eq_true, Bool.true_eq_false]
    exact ⟨rfl, fun _ => rfl⟩
  simp only [bSummed, W.bind_wp, W.ret_wp, W.want_wp, W.any_wp, s_ite, s_get0, s_get, s_then, s_end, s_run, s_calm, s_fail, s_start1, s_start2, s_start3, s_start4, s_start5, List.replicate, List.set_cons_zero, List.set_cons_succ, asB_bl, asS_str, Nat.reduceSub, Nat.reduceAdd, addW.eq_1, addW.eq_2, addW.eq_3, addW.eq_4, addW.eq_5, subW.eq_1, subW.eq_2, mulW.eq_1, mulW.eq_2, mulW.eq_3, intOp.eq_1, negW.eq_1, ordW.eq_1, ordW.eq_2, isW.eq_1, isntW.eq_1, ixW.eq_1, ixW.eq_2, ixW.eq_3, slW.eq_1, slW.eq_2, slW.eq_3, revTW.eq_1, revLW.eq_1, lenW.eq_1, lenW.eq_2, lenW.eq_3, tupleW.eq_1, tupleW.eq_2, listW.eq_1, listW.eq_2, min2W.eq_1, max2W.eq_1, strW.eq_1, strW.eq_2, joinW.eq_1, joinW.eq_2, walkLW.eq_1, walkTW.eq_1, walkSW.eq_1, range1W.eq_1, zipW.eq_1, zipW.eq_2, tupG.eq_1, gsW.eq_1, gsW.eq_2, par2.eq_1, extW.eq_1, extW.eq_2, partW.eq_1, optW.eq_1, optW.eq_2, modW, fdivW, powW, ltW, leW, gtW, geW, isNone, isi_non, isi_bl, isi_int, isi_str, isi_tup, isi_lst, upperW, putW, appW, tupW, lstW, asB_bl, String.reduceBEq, beq_self_eq_true, Bool.or_true, Bool.true_or, Bool.or_false, Bool.false_or, Bool.and_true, Bool.true_and, Bool.and_false, Bool.false_and, Bool.not_true, Bool.not_false, forall_const, true_implies, true_and, and_true, false_implies, reduceCtorEq, List.length_cons, List.length_nil, forall_eq, imp_self, implies_true, if_true, if_false, Bool.false_eq_true, Bool.true_eq_false]
  refine Ret.go (lc_map (ds := L.map rowT) (fun d => match d with | .tup [a, b, _] => .tup [a, b] | d => d) (fun Q E q => q) hl fun d hd => ?_) ?_
  · obtain ⟨r, hr, rfl⟩ := List.mem_map.mp hd
    simp only [wipeE, rowT, cut2, W.bind_wp, W.ret_wp, W.want_wp, W.any_wp, s_ite, s_get0, s_get, s_then, s_end, s_run, s_calm, s_fail, s_start1, s_start2, s_start3, s_start4, s_start5, List.replicate, List.set_cons_zero, List.set_cons_succ, asB_bl, asS_str, Nat.reduceSub, Nat.reduceAdd, addW.eq_1, addW.eq_2, addW.eq_3, addW.eq_4, addW.eq_5, subW.eq_1, subW.eq_2, mulW.eq_1, mulW.eq_2, mulW.eq_3, intOp.eq_1, negW.eq_1, ordW.eq_1, ordW.eq_2, isW.eq_1, isntW.eq_1, ixW.eq_1, ixW.eq_2, ixW.eq_3, slW.eq_1, slW.eq_2, slW.eq_3, revTW.eq_1, revLW.eq_1, lenW.eq_1, lenW.eq_2, lenW.eq_3, tupleW.eq_1, tupleW.eq_2, listW.eq_1, listW.eq_2, min2W.eq_1, max2W.eq_1, strW.eq_1, strW.eq_2, joinW.eq_1, joinW.eq_2, walkLW.eq_1, walkTW.eq_1, walkSW.eq_1, range1W.eq_1, zipW.eq_1, zipW.eq_2, tupG.eq_1, gsW.eq_1, gsW.eq_2, par2.eq_1, extW.eq_1, extW.eq_2, partW.eq_1, optW.eq_1, optW.eq_2, modW, fdivW, powW, ltW, leW, gtW, geW, isNone, isi_non, isi_bl, isi_int, isi_str, isi_tup, isi_lst, upperW, putW, appW, tupW, lstW, asB_bl, String.reduceBEq, beq_self_eq_true, Bool.or_true, Bool.true_or, Bool.or_false, Bool.false_or, Bool.and_true, Bool.true_and, Bool.and_false, Bool.false_and, Bool.not_true, Bool.not_false, forall_const, true_implies, true_and, and_true, false_implies, reduceCtorEq, List.length_cons, List.length_nil, forall_eq, imp_self, implies_true, if_true, if_false, Bool.false_eq_true, Bool.true_eq_false]
  have e1 : (L.map rowT).map (fun d => match d with | .tup [a, b, _] => D.tup [a, b] | d => d) = (L.map PK.pk).map keyT := by
    rw [List.map_map, List.map_map]
    rfl
  rw [e1]
  refine ⟨by decide, ?_⟩
  simp only [bSummed_4, W.bind_wp, W.ret_wp, W.want_wp, W.any_wp, s_ite, s_get0, s_get, s_then, s_end, s_run, s_calm, s_fail, s_start1, s_start2, s_start3, s_start4, s_start5, List.replicate, List.set_cons_zero, List.set_cons_succ, asB_bl, asS_str, Nat.reduceSub, Nat.reduceAdd, addW.eq_1, addW.eq_2, addW.eq_3, addW.eq_4, addW.eq_5, subW.eq_1, subW.eq_2, mulW.eq_1, mulW.eq_2, mulW.eq_3, intOp.eq_1, negW.eq_1, ordW.eq_1, ordW.eq_2, isW.eq_1, isntW.eq_1, ixW.eq_1, ixW.eq_2, ixW.eq_3, slW.eq_1, slW.eq_2, slW.eq_3, revTW.eq_1, revLW.eq_1, lenW.eq_1, lenW.eq_2, lenW.eq_3, tupleW.eq_1, tupleW.eq_2, listW.eq_1, listW.eq_2, min2W.eq_1, max2W.eq_1, strW.eq_1, strW.eq_2, joinW.eq_1, joinW.eq_2, walkLW.eq_1, walkTW.eq_1, walkSW.eq_1, range1W.eq_1, zipW.eq_1, zipW.eq_2, tupG.eq_1, gsW.eq_1, gsW.eq_2, par2.eq_1, extW.eq_1, extW.eq_2, partW.eq_1, optW.eq_1, optW.eq_2, modW, fdivW, powW, ltW, leW, gtW, geW, isNone, isi_non, isi_bl, isi_int, isi_str, isi_tup, isi_lst, upperW, putW, appW, tupW, lstW, asB_bl, String.reduceBEq, beq_self_eq_true, Bool.or_true, Bool.true_or, Bool.or_false, Bool.false_or, Bool.and_true, Bool.true_and, Bool.and_false, Bool.false_and, Bool.not_true, Bool.not_false, forall_const, true_implies, true_and, and_true, false_implies, reduceCtorEq, List.length_cons, List.length_nil, forall_eq, imp_self, implies_true, if_true, if_false, Bool.false_eq_true, Bool.true_eq_false]
  refine while_wp (fun m env => ∃ (M : List PRow) (ks : List PKey) (y3 y4 y5 : Option D), env = [some (rowsT L), some (.lst (M.map rowT)), some (.lst (ks.map keyT)), y3, y4, y5] ∧ ks.length = m ∧ Least L M ks ∧ M.length + ks.length ≤ 10000) L.length
    ⟨[], L.map PK.pk, none, none, none, rfl, by rw [List.length_map], Least.start L, by rw [List.length_map]; show 0 + _ ≤ _; omega⟩ ?_
  rintro m env ⟨M, ks, y3, y4, y5, rfl, hm, hL, hz⟩
  simp only [neW_keysNil, W.bind_wp, W.ret_wp, W.want_wp, W.any_wp, s_ite, s_get0, s_get, s_then, s_end, s_run, s_calm, s_fail, s_start1, s_start2, s_start3, s_start4, s_start5, List.replicate, List.set_cons_zero, List.set_cons_succ, asB_bl, asS_str, Nat.reduceSub, Nat.reduceAdd, addW.eq_1, addW.eq_2, addW.eq_3, addW.eq_4, addW.eq_5, subW.eq_1, subW.eq_2, mulW.eq_1, mulW.eq_2, mulW.eq_3, intOp.eq_1, negW.eq_1, ordW.eq_1, ordW.eq_2, isW.eq_1, isntW.eq_1, ixW.eq_1, ixW.eq_2, ixW.eq_3, slW.eq_1, slW.eq_2, slW.eq_3, revTW.eq_1, revLW.eq_1, lenW.eq_1, lenW.eq_2, lenW.eq_3, tupleW.eq_1, tupleW.eq_2, listW.eq_1, listW.eq_2, min2W.eq_1, max2W.eq_1, strW.eq_1, strW.eq_2, joinW.eq_1, joinW.eq_2, walkLW.eq_1, walkTW.eq_1, walkSW.eq_1, range1W.eq_1, zipW.eq_1, zipW.eq_2, tupG.eq_1, gsW.eq_1, gsW.eq_2, par2.eq_1, extW.eq_1, extW.eq_2, partW.eq_1, optW.eq_1, optW.eq_2, modW, fdivW, powW, ltW, leW, gtW, geW, isNone, isi_non, isi_bl, isi_int, isi_str, isi_tup, isi_lst, upperW, putW, appW, tupW, lstW, asB_bl, String.reduceBEq, beq_self_eq_true, Bool.or_true, Bool.true_or, Bool.or_false, Bool.false_or, Bool.and_true, Bool.true_and, Bool.and_false, Bool.false_and, Bool.not_true, Bool.not_false, forall_const, true_implies, true_and, and_true, false_implies, reduceCtorEq, List.length_cons, List.length_nil, forall_eq, imp_self, implies_true, if_true, if_false, Bool.false_eq_true, Bool.true_eq_false]
  refine ⟨small (by decide), fun hb => ?_, fun hb => ?_⟩
  · cases ks with
    | nil => cases hb
    | cons k ks =>
      simp only [bSummed_3, W.bind_wp, W.ret_wp, W.want_wp, W.any_wp, s_ite, s_get0, s_get, s_then, s_end, s_run, s_calm, s_fail, s_start1, s_start2, s_start3, s_start4, s_start5, List.replicate, List.set_cons_zero, List.set_cons_succ, asB_bl, asS_str, Nat.reduceSub, Nat.reduceAdd, addW.eq_1, addW.eq_2, addW.eq_3, addW.eq_4, addW.eq_5, subW.eq_1, subW.eq_2, mulW.eq_1, mulW.eq_2, mulW.eq_3, intOp.eq_1, negW.eq_1, ordW.eq_1, ordW.eq_2, isW.eq_1, isntW.eq_1, ixW.eq_1, ixW.eq_2, ixW.eq_3, slW.eq_1, slW.eq_2, slW.eq_3, revTW.eq_1, revLW.eq_1, lenW.eq_1, lenW.eq_2, lenW.eq_3, tupleW.eq_1, tupleW.eq_2, listW.eq_1, listW.eq_2, min2W.eq_1, max2W.eq_1, strW.eq_1, strW.eq_2, joinW.eq_1, joinW.eq_2, walkLW.eq_1, walkTW.eq_1, walkSW.eq_1, range1W.eq_1, zipW.eq_1, zipW.eq_2, tupG.eq_1, gsW.eq_1, gsW.eq_2, par2.eq_1, extW.eq_1, extW.eq_2, partW.eq_1, optW.eq_1, optW.eq_2, modW, fdivW, powW, ltW, leW, gtW, geW, isNone, isi_non, isi_bl, isi_int, isi_str, isi_tup, isi_lst, upperW, putW, appW, tupW, lstW, asB_bl, String.reduceBEq, beq_self_eq_true, Bool.or_true, Bool.true_or, Bool.or_false, Bool.false_or, Bool.and_true, Bool.true_and, Bool.and_false, Bool.false_and, Bool.not_true, Bool.not_false, forall_const, true_implies, true_and, and_true, false_implies, reduceCtorEq, List.length_cons, List.length_nil, forall_eq, imp_self, implies_true, if_true, if_false, Bool.false_eq_true, Bool.true_eq_false]
      have el := least_key (k := k) (ks := ks)
      refine ⟨⟨keys_plain (k :: ks), by rw [show D.toPs (keyT k :: ks.map keyT) = (k :: ks).map pkD from keys_toPs (k :: ks)]; exact pk_alikeAll _, fun e he => ?_⟩, fun x hx => ?_⟩
      · rw [show D.toPs (keyT k :: ks.map keyT) = (k :: ks).map pkD from keys_toPs (k :: ks)] at he
        obtain ⟨q, _, rfl⟩ := List.mem_map.mp he
        show 1 ≤ 90
        decide
      · obtain ⟨hx1, hx2⟩ := hx
        obtain ⟨m', hm', em, lm⟩ := el
        obtain ⟨z, hz1, rfl⟩ : ∃ z, z ∈ k :: ks ∧ keyT z = x := List.mem_map.mp (show x ∈ (k :: ks).map keyT from hx1)
        rw [keys_toPs, key_toP, key_toP, em] at hx2
        have := pkD_inj hx2
        subst this
        simp only [bSummed_2, W.bind_wp, W.ret_wp, W.want_wp, W.any_wp, s_ite, s_get0, s_get, s_then, s_end, s_run, s_calm, s_fail, s_start1, s_start2, s_start3, s_start4, s_start5, List.replicate, List.set_cons_zero, List.set_cons_succ, asB_bl, asS_str, Nat.reduceSub, Nat.reduceAdd, addW.eq_1, addW.eq_2, addW.eq_3, addW.eq_4, addW.eq_5, subW.eq_1, subW.eq_2, mulW.eq_1, mulW.eq_2, mulW.eq_3, intOp.eq_1, negW.eq_1, ordW.eq_1, ordW.eq_2, isW.eq_1, isntW.eq_1, ixW.eq_1, ixW.eq_2, ixW.eq_3, slW.eq_1, slW.eq_2, slW.eq_3, revTW.eq_1, revLW.eq_1, lenW.eq_1, lenW.eq_2, lenW.eq_3, tupleW.eq_1, tupleW.eq_2, listW.eq_1, listW.eq_2, min2W.eq_1, max2W.eq_1, strW.eq_1, strW.eq_2, joinW.eq_1, joinW.eq_2, walkLW.eq_1, walkTW.eq_1, walkSW.eq_1, range1W.eq_1, zipW.eq_1, zipW.eq_2, tupG.eq_1, gsW.eq_1, gsW.eq_2, par2.eq_1, extW.eq_1, extW.eq_2, partW.eq_1, optW.eq_1, optW.eq_2, modW, fdivW, powW, ltW, leW, gtW, geW, isNone, isi_non, isi_bl, isi_int, isi_str, isi_tup, isi_lst, upperW, putW, appW, tupW, lstW, asB_bl, String.reduceBEq, beq_self_eq_true, Bool.or_true, Bool.true_or, Bool.or_false, Bool.false_or, Bool.and_true, Bool.true_and, Bool.and_false, Bool.false_and, Bool.not_true, Bool.not_false, forall_const, true_implies, true_and, and_true, false_implies, reduceCtorEq, List.length_cons, List.length_nil, forall_eq, imp_self, implies_true, if_true, if_false, Bool.false_eq_true, Bool.true_eq_false]
        refine Ret.go (lc_ret (ds := (k :: ks).map keyT) (fun d => match d with | .tup [.str f, .str s] => !decide ((f, s) = z) | _ => false) (fun d => d) (fun Q E q => q) (by rw [List.length_map]; exact small (by simp at hz ⊢; omega)) fun d hd => ?_) ?_
        · obtain ⟨q, hq, rfl⟩ := List.mem_map.mp hd
          simp only [wipeE, neW_key, W.bind_wp, W.ret_wp, W.want_wp, W.any_wp, s_ite, s_get0, s_get, s_then, s_end, s_run, s_calm, s_fail, s_start1, s_start2, s_start3, s_start4, s_start5, List.replicate, List.set_cons_zero, List.set_cons_succ, asB_bl, asS_str, Nat.reduceSub, Nat.reduceAdd, addW.eq_1, addW.eq_2, addW.eq_3, addW.eq_4, addW.eq_5, subW.eq_1, subW.eq_2, mulW.eq_1, mulW.eq_2, mulW.eq_3, intOp.eq_1, negW.eq_1, ordW.eq_1, ordW.eq_2, isW.eq_1, isntW.eq_1, ixW.eq_1, ixW.eq_2, ixW.eq_3, slW.eq_1, slW.eq_2, slW.eq_3, revTW.eq_1, revLW.eq_1, lenW.eq_1, lenW.eq_2, lenW.eq_3, tupleW.eq_1, tupleW.eq_2, listW.eq_1, listW.eq_2, min2W.eq_1, max2W.eq_1, strW.eq_1, strW.eq_2, joinW.eq_1, joinW.eq_2, walkLW.eq_1, walkTW.eq_1, walkSW.eq_1, range1W.eq_1, zipW.eq_1, zipW.eq_2, tupG.eq_1, gsW.eq_1, gsW.eq_2, par2.eq_1, extW.eq_1, extW.eq_2, partW.eq_1, optW.eq_1, optW.eq_2, modW, fdivW, powW, ltW, leW, gtW, geW, isNone, isi_non, isi_bl, isi_int, isi_str, isi_tup, isi_lst, upperW, putW, appW, tupW, lstW, asB_bl, String.reduceBEq, beq_self_eq_true, Bool.or_true, Bool.true_or, Bool.or_false, Bool.false_or, Bool.and_true, Bool.true_and, Bool.and_false, Bool.false_and, Bool.not_true, Bool.not_false, forall_const, true_implies, true_and, and_true, false_implies, reduceCtorEq, List.length_cons, List.length_nil, forall_eq, imp_self, implies_true, if_true, if_false, Bool.false_eq_true, Bool.true_eq_false]
          rfl
        have e2 : (((k :: ks).map keyT).filter (fun d => match d with | .tup [.str f, .str s] => !decide ((f, s) = z) | _ => false)).map (fun d => d) = ((k :: ks).filter fun q => decide (q ≠ z)).map keyT := by
          rw [List.map_id', List.filter_map]
          congr 1
          refine List.filter_congr fun q _ => ?_
          show (!decide (q = z)) = decide (q ≠ z)
          simp
        rw [e2]
        simp only [bSummed_1, W.bind_wp, W.ret_wp, W.want_wp, W.any_wp, s_ite, s_get0, s_get, s_then, s_end, s_run, s_calm, s_fail, s_start1, s_start2, s_start3, s_start4, s_start5, List.replicate, List.set_cons_zero, List.set_cons_succ, asB_bl, asS_str, Nat.reduceSub, Nat.reduceAdd, addW.eq_1, addW.eq_2, addW.eq_3, addW.eq_4, addW.eq_5, subW.eq_1, subW.eq_2, mulW.eq_1, mulW.eq_2, mulW.eq_3, intOp.eq_1, negW.eq_1, ordW.eq_1, ordW.eq_2, isW.eq_1, isntW.eq_1, ixW.eq_1, ixW.eq_2, ixW.eq_3, slW.eq_1, slW.eq_2, slW.eq_3, revTW.eq_1, revLW.eq_1, lenW.eq_1, lenW.eq_2, lenW.eq_3, tupleW.eq_1, tupleW.eq_2, listW.eq_1, listW.eq_2, min2W.eq_1, max2W.eq_1, strW.eq_1, strW.eq_2, joinW.eq_1, joinW.eq_2, walkLW.eq_1, walkTW.eq_1, walkSW.eq_1, range1W.eq_1, zipW.eq_1, zipW.eq_2, tupG.eq_1, gsW.eq_1, gsW.eq_2, par2.eq_1, extW.eq_1, extW.eq_2, partW.eq_1, optW.eq_1, optW.eq_2, modW, fdivW, powW, ltW, leW, gtW, geW, isNone, isi_non, isi_bl, isi_int, isi_str, isi_tup, isi_lst, upperW, putW, appW, tupW, lstW, asB_bl, String.reduceBEq, beq_self_eq_true, Bool.or_true, Bool.true_or, Bool.or_false, Bool.false_or, Bool.and_true, Bool.true_and, Bool.and_false, Bool.false_and, Bool.not_true, Bool.not_false, forall_const, true_implies, true_and, and_true, false_implies, reduceCtorEq, List.length_cons, List.length_nil, forall_eq, imp_self, implies_true, if_true, if_false, Bool.false_eq_true, Bool.true_eq_false]
        refine (sums z _ _ _ _).go ?_
        rw [sumW_part]
        simp only [keyT, W.bind_wp, W.ret_wp, W.want_wp, W.any_wp, s_ite, s_get0, s_get, s_then, s_end, s_run, s_calm, s_fail, s_start1, s_start2, s_start3, s_start4, s_start5, List.replicate, List.set_cons_zero, List.set_cons_succ, asB_bl, asS_str, Nat.reduceSub, Nat.reduceAdd, addW.eq_1, addW.eq_2, addW.eq_3, addW.eq_4, addW.eq_5, subW.eq_1, subW.eq_2, mulW.eq_1, mulW.eq_2, mulW.eq_3, intOp.eq_1, negW.eq_1, ordW.eq_1, ordW.eq_2, isW.eq_1, isntW.eq_1, ixW.eq_1, ixW.eq_2, ixW.eq_3, slW.eq_1, slW.eq_2, slW.eq_3, revTW.eq_1, revLW.eq_1, lenW.eq_1, lenW.eq_2, lenW.eq_3, tupleW.eq_1, tupleW.eq_2, listW.eq_1, listW.eq_2, min2W.eq_1, max2W.eq_1, strW.eq_1, strW.eq_2, joinW.eq_1, joinW.eq_2, walkLW.eq_1, walkTW.eq_1, walkSW.eq_1, range1W.eq_1, zipW.eq_1, zipW.eq_2, tupG.eq_1, gsW.eq_1, gsW.eq_2, par2.eq_1, extW.eq_1, extW.eq_2, partW.eq_1, optW.eq_1, optW.eq_2, modW, fdivW, powW, ltW, leW, gtW, geW, isNone, isi_non, isi_bl, isi_int, isi_str, isi_tup, isi_lst, upperW, putW, appW, tupW, lstW, asB_bl, String.reduceBEq, beq_self_eq_true, Bool.or_true, Bool.true_or, Bool.or_false, Bool.false_or, Bool.and_true, Bool.true_and, Bool.and_false, Bool.false_and, Bool.not_true, Bool.not_false, forall_const, true_implies, true_and, and_true, false_implies, reduceCtorEq, List.length_cons, List.length_nil, forall_eq, imp_self, implies_true, if_true, if_false, Bool.false_eq_true, Bool.true_eq_false]
        have lf : ((k :: ks).filter fun q => decide (q ≠ z)).length < (k :: ks).length := by
          refine List.length_filter_lt_length_iff_exists.mpr ⟨z, hz1, by simp⟩
        refine ⟨small (by decide), small (by decide), by rw [List.length_map]; exact smallT (by omega), _, by rw [← hm]; exact lf, M ++ [(z.1, z.2, cnt L z)], _, _, _, _, by rw [List.map_append]; rfl, rfl, hL.next hz1 lm, ?_⟩
        rw [List.length_append, List.length_singleton]
        omega
  · cases ks with
    | cons k ks => cases hb
    | nil =>
      rw [hL.done]
      exact q
end LP
namespace LP
open PySem PySem.Spec PyProof.Rows L2 PK LP RZ
def shown1 (r : PRow) : Str := r.1 ++ ("/" : Str) ++ r.2.1 ++ (":" : Str) ++ (toString r.2.2 : String)
def shownR (L : List PRow) : Str := if L = [] then ("-" : Str) else Str.join (" " : Str) (L.map shown1)
theorem empty_app (x : Str) : Str.empty ++ x = x := by
  cases x with
  | mk a =>
    show (⟨#[] ++ a⟩ : Str) = ⟨a⟩
    simp
theorem fld_heap (L : List PRow) : fldW 0 0 (heapD L) = W.ret (rowsT L) := by
  show (objW 0 (heapD L)).bind _ = _
  rw [objW_heap]
  rfl
theorem many_log {b : Int} {r : PRow} (h : PRowOk b r) (hb : b ≤ 10 ^ 30) : r.2.2.natAbs.log2 < 1920 ∧ (Str.ofString (toString r.2.2)).length ≤ 32 := by
  have l := h.lo
  have u := h.hi
  have h1 : r.2.2.natAbs < 10 ^ 31 := by
    have : (10 : Int) ^ 30 < 10 ^ 31 := by decide
    have e : ((r.2.2.natAbs : Nat) : Int) = r.2.2 := Int.natAbs_of_nonneg (by omega)
    have : ((r.2.2.natAbs : Nat) : Int) < ((10 ^ 31 : Nat) : Int) := by
      rw [e]
      have : ((10 ^ 31 : Nat) : Int) = (10 : Int) ^ 31 := by decide
      omega
    exact Int.ofNat_lt.mp this
  refine ⟨?_, ?_⟩
  · have : r.2.2.natAbs.log2 < 200 := by
      rw [Nat.log2_lt (by omega)]
      exact Nat.lt_trans h1 (by decide)
    omega
  · have := int_text_length_le10 (by decide) h1
    rw [PySem.ofString_length]
    exact this
theorem word_small {y : Str} (h : Word y) : y.length ≤ sizeLine := small (by have := h.eight; omega)
theorem shown1_len {b : Int} {r : PRow} (h : PRowOk b r) (hb : b ≤ 10 ^ 30) : (shown1 r).length ≤ 60 := by
  have := (many_log h hb).2
  have h1 := h.f.eight
  have h2 := h.s.eight
  unfold shown1
  rw [strLen_append, strLen_append, strLen_append, strLen_append]
  have e1 : (Str.ofString "/").length = 1 := by decide +kernel
  have e2 : (Str.ofString ":").length = 1 := by decide +kernel
  omega
theorem sum_len {f : PRow → Str} {k : Nat} : ∀ {L : List PRow}, (∀ r ∈ L, (f r).length ≤ k) → ((L.map f).map (·.length)).sum ≤ L.length * k
  | [], _ => Nat.zero_le _
  | r :: L, h => by
    rw [List.map_cons, List.map_cons, List.sum_cons, List.length_cons, Nat.succ_mul]
    have := h r List.mem_cons_self
    have := sum_len (L := L) fun q hq => h q (List.mem_cons_of_mem _ hq)
    omega
theorem ssOf_shown (L : List PRow) : ssOf (L.map fun r => D.str (shown1 r)) = some (L.map shown1) := by
  have : (L.map fun r => D.str (shown1 r)) = (L.map shown1).map D.str := by rw [List.map_map]; rfl
  rw [this]
  exact ssOf_map _
theorem join_len (sep : Str) : ∀ ts : List Str, (Str.join sep ts).length ≤ (ts.map (·.length)).sum + ts.length * sep.length
  | [] => Nat.zero_le _
  | [x] => by
    show x.length ≤ x.length + 0 + 1 * sep.length
    omega
  | x :: y :: r => by
    have ih := join_len sep (y :: r)
    show (x ++ sep ++ Str.join sep (y :: r)).length ≤ _
    rw [strLen_append, strLen_append, List.map_cons, List.sum_cons, List.length_cons (a := x), Nat.succ_mul]
    omega
theorem join_shown {n : Nat} {b : Int} {L : List PRow} (h : RowsOk n b L) (hn : n ≤ 900) (hb : b ≤ 10 ^ 30) : joinW (" " : Str) (.lst (L.map fun r => D.str (shown1 r))) = W.ret (.str (Str.join (" " : Str) (L.map shown1))) := by
  refine joinW_lst (ssOf_shown L) ?_
  have h1 := h.len
  have h2 := sum_len (f := shown1) (k := 60) fun r hr => shown1_len (h.each r hr) hb
  rw [List.length_map]
  have e1 : (Str.ofString " ").length = 1 := by decide +kernel
  rw [e1]
  omega
theorem shownR_cons {L : List PRow} (h : L ≠ []) : shownR L = Str.join (" " : Str) (L.map shown1) := if_neg h
theorem str_ret {n : Nat} {b : Int} {L : List PRow} (h : RowsOk n b L) (hn : n ≤ 900) (hb : b ≤ 10 ^ 30) : Ret (fStr [heapD L]) (.str (shownR L)) := by
  intro Q E q
  have hl := h.len
  refine ⟨rfl, ?_⟩
  show (endW (bStr (startE 4 [heapD L]))).wp Q E
  simp only [bStr, fld_heap, rowsT, eqW_int, List.length_map, W.bind_wp, W.ret_wp, W.want_wp, W.any_wp, s_ite, s_get0, s_get, s_then, s_end, s_run, s_calm, s_fail, s_start1, s_start2, s_start3, s_start4, s_start5, List.replicate, List.set_cons_zero, List.set_cons_succ, asB_bl, asS_str, Nat.reduceSub, Nat.reduceAdd, addW.eq_1, addW.eq_2, addW.eq_3, addW.eq_4, addW.eq_5, subW.eq_1, subW.eq_2, mulW.eq_1, mulW.eq_2, mulW.eq_3, intOp.eq_1, negW.eq_1, ordW.eq_1, ordW.eq_2, isW.eq_1, isntW.eq_1, ixW.eq_1, ixW.eq_2, ixW.eq_3, slW.eq_1, slW.eq_2, slW.eq_3, revTW.eq_1, revLW.eq_1, lenW.eq_1, lenW.eq_2, lenW.eq_3, tupleW.eq_1, tupleW.eq_2, listW.eq_1, listW.eq_2, min2W.eq_1, max2W.eq_1, strW.eq_1, strW.eq_2, joinW.eq_1, joinW.eq_2, walkLW.eq_1, walkTW.eq_1, walkSW.eq_1, range1W.eq_1, zipW.eq_1, zipW.eq_2, tupG.eq_1, gsW.eq_1, gsW.eq_2, par2.eq_1, extW.eq_1, extW.eq_2, partW.eq_1, optW.eq_1, optW.eq_2, modW, fdivW, powW, ltW, leW, gtW, geW, isNone, isi_non, isi_bl, isi_int, isi_str, isi_tup, isi_lst, upperW, putW, appW, tupW, lstW, asB_bl, String.reduceBEq, beq_self_eq_true, Bool.or_true, Bool.true_or, Bool.or_false, Bool.false_or, Bool.and_true, Bool.true_and, Bool.and_false, Bool.false_and, Bool.not_true, Bool.not_false, forall_const, true_implies, true_and, and_true, false_implies, reduceCtorEq, List.length_cons, List.length_nil, forall_eq, imp_self, implies_true, if_true, if_false, Bool.false_eq_true, Bool.true_eq_false]
  refine ⟨fun hz => ?_, fun hz => ?_⟩
  · have : L = [] := by
      have : ((L.length : Int)) = 0 := by simpa using hz
      exact List.length_eq_zero_iff.mp (by omega)
    subst this
    exact q
  · have hne : L ≠ [] := fun z => by
      subst z
      simp at hz
    refine Ret.go (lc_map (ds := L.map rowT) (fun d => match d with | .tup [.str f, .str s, .int n] => .str (shown1 (f, s, n)) | d => d) (fun Q E q => by
      show ((fldW 0 0 (heapD L)).bind walkTW).wp Q E
      rw [fld_heap]
      exact q) (by rw [List.length_map]; exact small (by omega)) fun d hd => ?_) ?_
    · obtain ⟨r, hr, rfl⟩ := List.mem_map.mp hd
      have ok := h.each r hr
      obtain ⟨k1, k2⟩ := many_log ok hb
      have s1 := shown1_len ok hb
      simp only [wipeE, rowT, jsW, fmtW, W.bind_wp, W.ret_wp, W.want_wp, W.any_wp, s_ite, s_get0, s_get, s_then, s_end, s_run, s_calm, s_fail, s_start1, s_start2, s_start3, s_start4, s_start5, List.replicate, List.set_cons_zero, List.set_cons_succ, asB_bl, asS_str, Nat.reduceSub, Nat.reduceAdd, addW.eq_1, addW.eq_2, addW.eq_3, addW.eq_4, addW.eq_5, subW.eq_1, subW.eq_2, mulW.eq_1, mulW.eq_2, mulW.eq_3, intOp.eq_1, negW.eq_1, ordW.eq_1, ordW.eq_2, isW.eq_1, isntW.eq_1, ixW.eq_1, ixW.eq_2, ixW.eq_3, slW.eq_1, slW.eq_2, slW.eq_3, revTW.eq_1, revLW.eq_1, lenW.eq_1, lenW.eq_2, lenW.eq_3, tupleW.eq_1, tupleW.eq_2, listW.eq_1, listW.eq_2, min2W.eq_1, max2W.eq_1, strW.eq_1, strW.eq_2, joinW.eq_1, joinW.eq_2, walkLW.eq_1, walkTW.eq_1, walkSW.eq_1, range1W.eq_1, zipW.eq_1, zipW.eq_2, tupG.eq_1, gsW.eq_1, gsW.eq_2, par2.eq_1, extW.eq_1, extW.eq_2, partW.eq_1, optW.eq_1, optW.eq_2, modW, fdivW, powW, ltW, leW, gtW, geW, isNone, isi_non, isi_bl, isi_int, isi_str, isi_tup, isi_lst, upperW, putW, appW, tupW, lstW, asB_bl, String.reduceBEq, beq_self_eq_true, Bool.or_true, Bool.true_or, Bool.or_false, Bool.false_or, Bool.and_true, Bool.true_and, Bool.and_false, Bool.false_and, Bool.not_true, Bool.not_false, forall_const, true_implies, true_and, and_true, false_implies, reduceCtorEq, List.length_cons, List.length_nil, forall_eq, imp_self, implies_true, if_true, if_false, Bool.false_eq_true, Bool.true_eq_false]
      rw [empty_app]
      unfold shown1 at s1
      rw [strLen_append, strLen_append, strLen_append, strLen_append] at s1
      refine ⟨word_small ok.f, word_small ok.f, ?_, word_small ok.s, ?_, ?_, k1, ?_, rfl⟩
      · rw [strLen_append]
        exact small (by omega)
      · rw [strLen_append, strLen_append]
        exact small (by omega)
      · rw [strLen_append, strLen_append, strLen_append]
        exact small (by omega)
      · rw [strLen_append, strLen_append, strLen_append, strLen_append]
        exact small (by omega)
    · have e1 : (L.map rowT).map (fun d => match d with | .tup [.str f, .str s, .int n] => .str (shown1 (f, s, n)) | d => d) = L.map fun r => D.str (shown1 r) := by
        rw [List.map_map]
        rfl
      rw [e1, join_shown h hn hb]
      show Q _
      rw [← shownR_cons hne]
      exact q
end LP
namespace LP.K17
open PySem PySem.Spec PyProof.Rows L2 PK LP
end LP.K17
namespace LP.K17
open PySem PySem.Spec PyProof.Rows L2 PK LP RZ
/-! ### the wants of the methods -/
structure Good (n : Nat) (b : Int) (L : List PRow) : Prop where
  ok : RowsOk n b L
  up : Rises (L.map fun r => pkD (PK.pk r))
theorem plus_eq {L M : List PRow} (h : L.length + M.length ≤ 900) : plusW [heapD L, heapD M] = W.ret (heapD (sumR (L ++ M))) := by
  show (optW (heapOf (heapD L))).bind _ = _
  rw [heapOf_D, optW_some, W.ret_bind, heapOf_D, optW_some, W.ret_bind]
  exact W.want_bind h
theorem rows_eq {L : List PRow} (h : L.length ≤ 900) : rowsW [heapD L] = W.ret (rowsT L) := by
  show (optW (heapOf (heapD L))).bind _ = _
  rw [heapOf_D, optW_some, W.ret_bind]
  exact W.want_bind h
theorem lenH_eq {L : List PRow} (h : L.length ≤ 900) : lenHW [heapD L] = W.ret (.int L.length) := by
  show (optW (heapOf (heapD L))).bind _ = _
  rw [heapOf_D, optW_some, W.ret_bind]
  exact W.want_bind h
/-! ### what a deed tells -/
def deedR (L M : List PRow) (m : Int) (f : Str) : List PRow :=
  if m = 0 then sumR (L ++ M)
  else if m = 1 then (if aboveR M L = [] then aboveR L M else aboveR M L)
  else if m = 2 then sumR (L ++ M.take 1)
  else if m = 3 then (if aboveR M L = [] then sumR (L ++ L) else sumR (L ++ [(f, ("zz" : Str), 1)]))
  else if m = 4 then (if L = M ∨ (shownR M).length < (shownR L).length then L else M)
  else L.take (formsR L).length
theorem cut_take {α : Type} (l : List α) (n : Nat) : cutD l none (some (n : Int)) = l.take n := by
  unfold cutD
  have e0 : HT.sIx l.length 0 none = 0 := rfl
  rw [e0, List.drop_zero, Nat.sub_zero]
  have e1 : HT.sIx l.length l.length (some (n : Int)) = min n l.length := by
    simp [HT.sIx]
    try omega
  rw [e1]
  rcases Nat.le_total n l.length with z | z
  · rw [Nat.min_eq_left z]
  · rw [Nat.min_eq_right z, List.take_length, List.take_of_length_le z]
end LP.K17
namespace LP.K17
open PySem PySem.Spec PyProof.Rows L2 PK LP RZ
theorem rows_app (L M : List PRow) : addW (rowsT L) (rowsT M) = (W.want (L.length + M.length ≤ sizeLine)).bind fun _ => W.ret (rowsT (L ++ M)) := by
  show (W.want ((L.map rowT).length + (M.map rowT).length ≤ sizeLine)).bind _ = _
  rw [List.length_map, List.length_map]
  unfold rowsT
  rw [List.map_append]
theorem addW_rows {L M : List PRow} (h : L.length + M.length ≤ 1000000) : addW (rowsT L) (rowsT M) = W.ret (rowsT (L ++ M)) := by
  rw [rows_app, W.want_bind (small h)]
theorem sl_rows (L : List PRow) (n : Nat) : slW (rowsT L) none (some (n : Int)) = W.ret (rowsT (L.take n)) := by
  show W.ret (D.tup (cutD (L.map rowT) none (some (n : Int)))) = _
  rw [cut_take, ← List.map_take]
  rfl
theorem up_take {L : List PRow} (h : Rises (L.map fun r => pkD (PK.pk r))) (n : Nat) : Rises ((L.take n).map fun r => pkD (PK.pk r)) := by
  unfold Rises at *
  rw [List.map_take]
  exact h.sublist (List.take_sublist _ _) 
end LP.K17
namespace LP.K17
open PySem PySem.Spec PyProof.Rows L2 PK LP RZ
/-! ### the law's own -/
end LP.K17
namespace LP.K17
open PySem PySem.Spec PyProof.Rows L2 PK LP RZ
theorem len_of_sub {α : Type} [DecidableEq α] : ∀ {l m : List α}, l.Nodup → (∀ x ∈ l, x ∈ m) → l.length ≤ m.length
  | [], _, _, _ => Nat.zero_le _
  | x :: l, m, nd, h => by
    obtain ⟨n1, n2⟩ := List.nodup_cons.mp nd
    have hx := h x List.mem_cons_self
    have ih := len_of_sub (l := l) (m := m.erase x) n2 fun y hy => (List.mem_erase_of_ne fun e => n1 (by rw [← e]; exact hy)).mpr (h y (List.mem_cons_of_mem _ hy))
    rw [List.length_erase_of_mem hx] at ih
    have := List.length_pos_of_mem hx
    rw [List.length_cons]
    omega
theorem rises_nodup {L : List PRow} (h : Rises (L.map fun r => pkD (PK.pk r))) : (L.map PK.pk).Nodup := by
  unfold Rises at h
  rw [List.pairwise_map] at h
  unfold List.Nodup
  rw [List.pairwise_map]
  refine h.imp fun {a b} z e => ?_
  rw [e, dlt_irr] at z
  cases z
theorem sumR_many {L : List PRow} {r : PRow} (h : r ∈ sumR L) : r.2.2 = cnt L (PK.pk r) := by
  unfold sumR at h
  obtain ⟨k, _, rfl⟩ := List.mem_map.mp h
  rfl
/-- rows of these words, rising, to so many -/
structure Kn (fs ss : List Str) (b : Int) (L : List PRow) : Prop where
  up : Rises (L.map fun r => pkD (PK.pk r))
  each : ∀ r ∈ L, r.1 ∈ fs ∧ (r.2.1 ∈ ss ∨ r.2.1 = ("zz" : Str)) ∧ 1 ≤ r.2.2 ∧ r.2.2 ≤ b
section
variable {fs ss : List Str} {b : Int} {L M : List PRow}
theorem Kn.mono {c : Int} (h : Kn fs ss b L) (hc : b ≤ c) : Kn fs ss c L := ⟨h.up, fun r hr => by
  obtain ⟨h1, h2, h3, h4⟩ := h.each r hr
  exact ⟨h1, h2, h3, by omega⟩⟩
theorem Kn.len (h : Kn fs ss b L) : L.length ≤ fs.length * (ss.length + 1) := by
  have : (L.map PK.pk).length ≤ (fs.flatMap fun f => (ss ++ [("zz" : Str)]).map fun s => (f, s)).length := len_of_sub (rises_nodup h.up) fun k hk => by
    obtain ⟨r, hr, rfl⟩ := List.mem_map.mp hk
    obtain ⟨h1, h2, _⟩ := h.each r hr
    refine List.mem_flatMap.mpr ⟨r.1, h1, List.mem_map.mpr ⟨r.2.1, ?_, rfl⟩⟩
    rcases h2 with h2 | h2
    · exact List.mem_append_left _ h2
    · exact List.mem_append_right _ (by rw [h2]; exact List.mem_singleton.mpr rfl)
  rw [List.length_map] at this
  refine Nat.le_trans this ?_
  clear this h
  induction fs with
  | nil => exact Nat.zero_le _
  | cons f fs ih =>
    rw [List.flatMap_cons, List.length_append, List.length_map, List.length_append]
    have e : (f :: fs).length * (ss.length + 1) = fs.length * (ss.length + 1) + (ss.length + 1) := Nat.succ_mul _ _
    rw [e]
    show ss.length + 1 + _ ≤ _
    omega
theorem Kn.cnt (h : Kn fs ss b L) (hb : 0 ≤ b) (k : PKey) : 0 ≤ PK.cnt L k ∧ PK.cnt L k ≤ b := by
  by_cases z : k ∈ L.map PK.pk
  · obtain ⟨r, hr, rfl⟩ := List.mem_map.mp z
    have hr' := hr
    rw [← sumR_id h.up] at hr'
    rw [← sumR_many hr']
    obtain ⟨_, _, h3, h4⟩ := h.each r hr
    exact ⟨by omega, h4⟩
  · rw [cnt_none z]
    exact ⟨Int.le_refl 0, hb⟩
theorem Kn.sum2 (h : Kn fs ss b L) (h2 : Kn fs ss b M) (hb : 0 ≤ b) : Kn fs ss (2 * b) (sumR (L ++ M)) := ⟨sumR_rises _, fun r hr => by
  have hm := sumR_many hr
  rw [cnt_app] at hm
  obtain ⟨q, hq, e⟩ := sumR_keyIn hr
  have e1 : r.1 = q.1 := congrArg (fun k : PKey => k.1) e
  have e2 : r.2.1 = q.2.1 := congrArg (fun k : PKey => k.2) e
  have c1 := h.cnt hb (PK.pk r)
  have c2 := h2.cnt hb (PK.pk r)
  have pos : ∀ {N : List PRow}, Kn fs ss b N → q ∈ N → 1 ≤ PK.cnt N (PK.pk r) := fun {N} hN hq => by
    have hq' := hq
    rw [← sumR_id hN.up] at hq'
    rw [e, ← sumR_many hq']
    exact (hN.each q hq).2.2.1
  rw [e1, e2]
  rcases List.mem_append.mp hq with hq | hq
  · have := pos h hq
    exact ⟨(h.each q hq).1, (h.each q hq).2.1, by omega, by omega⟩
  · have := pos h2 hq
    exact ⟨(h2.each q hq).1, (h2.each q hq).2.1, by omega, by omega⟩⟩
theorem Kn.above (h : Kn fs ss b L) (h2 : Kn fs ss b M) (hb : 0 ≤ b) : Kn fs ss b (aboveR L M) := ⟨rises_above h.up, fun r hr => by
  obtain ⟨q, hq, e, e3, p⟩ := aboveR_mem hr
  have e1 : r.1 = q.1 := congrArg (fun k : PKey => k.1) e
  have e2 : r.2.1 = q.2.1 := congrArg (fun k : PKey => k.2) e
  have c2 := h2.cnt hb (PK.pk q)
  obtain ⟨a1, a2, a3, a4⟩ := h.each q hq
  rw [e1, e2]
  exact ⟨a1, a2, by omega, by omega⟩⟩
theorem Kn.take (h : Kn fs ss b L) (n : Nat) : Kn fs ss b (L.take n) := ⟨up_take h.up n, fun r hr => h.each r (List.mem_of_mem_take hr)⟩
theorem Kn.deed {m : Int} {f : Str} (h : Kn fs ss b L) (h2 : Kn fs ss b M) (hb : 1 ≤ b) (hf : f ∈ fs) : Kn fs ss (2 * b) (deedR L M m f) := by
  unfold deedR
  split
  · exact h.sum2 h2 (by omega)
  split
  · split
    · exact (h.above h2 (by omega)).mono (by omega)
    · exact (h2.above h (by omega)).mono (by omega)
  split
  · exact h.sum2 (h2.take 1) (by omega)
  split
  · split
    · exact h.sum2 h (by omega)
    · exact h.sum2 ⟨List.pairwise_singleton _ _, fun r hr => by
        rw [List.mem_singleton.mp hr]
        exact ⟨hf, .inr rfl, Int.le_refl 1, hb⟩⟩ (by omega)
  split
  · split
    · exact h.mono (by omega)
    · exact h2.mono (by omega)
  · exact (h.take _).mono (by omega)
theorem cnt_of_each {c : Int} {k : PKey} : ∀ {L : List PRow}, (∀ r ∈ L, 1 ≤ r.2.2 ∧ r.2.2 ≤ c) → 0 ≤ c → 0 ≤ PK.cnt L k ∧ PK.cnt L k ≤ L.length * c ∧ (k ∈ L.map PK.pk → 1 ≤ PK.cnt L k)
  | [], _, _ => ⟨Int.le_refl 0, by simp [PK.cnt], fun h => (nomatch h)⟩
  | r :: L, h, hc => by
    obtain ⟨i1, i2, i3⟩ := cnt_of_each (L := L) (k := k) (fun q hq => h q (List.mem_cons_of_mem _ hq)) hc
    obtain ⟨a1, a2⟩ := h r List.mem_cons_self
    rw [PK.cnt_cons, List.length_cons]
    have e : ((L.length + 1 : Nat) : Int) * c = L.length * c + c := by
      rw [Int.natCast_add, Int.add_mul]
      simp
    rw [e]
    split
    · exact ⟨by omega, by omega, fun _ => by omega⟩
    · rename_i ne
      refine ⟨by omega, by omega, fun hk => ?_⟩
      rcases List.mem_cons.mp hk with z | z
      · exact absurd z.symm ne
      · have := i3 z
        omega
theorem Kn.start (h : LR fs ss 8 L) : Kn fs ss 8000000000 (sumR L) := ⟨sumR_rises _, fun r hr => by
  have hm := sumR_many hr
  obtain ⟨q, hq, e⟩ := sumR_keyIn hr
  have e1 : r.1 = q.1 := congrArg (fun k : PKey => k.1) e
  have e2 : r.2.1 = q.2.1 := congrArg (fun k : PKey => k.2) e
  obtain ⟨i1, i2, i3⟩ := cnt_of_each (c := 1000000000) (k := PK.pk r) (fun q hq => (h.each q hq).2.2) (by decide)
  have := i3 (by rw [e]; exact List.mem_map.mpr ⟨q, hq, rfl⟩)
  have hl := h.len
  obtain ⟨a1, a2, _⟩ := h.each q hq
  rw [e1, e2]
  exact ⟨a1, .inl a2, by omega, by omega⟩⟩
end
end LP.K17
namespace LP.K17
open PySem PySem.Spec PyProof.Rows L2 PK LP RZ
theorem row_sz {b : Int} {r : PRow} (h : PRowOk b r) (hb : b ≤ 10 ^ 30) : Sz 200 1 400 (rowT r) := by
  have l := h.lo
  have u := h.hi
  have h1 : r.2.2.natAbs < 2 ^ 200 := by
    have e : ((r.2.2.natAbs : Nat) : Int) = r.2.2 := Int.natAbs_of_nonneg (by omega)
    have k : (10 : Int) ^ 30 < ((2 ^ 200 : Nat) : Int) := by decide
    have : ((r.2.2.natAbs : Nat) : Int) < ((2 ^ 200 : Nat) : Int) := by
      rw [e]
      omega
    exact Int.ofNat_lt.mp this
  have h2 : r.2.2.natAbs.log2 < 200 := (Nat.log2_lt (by omega)).mpr h1
  have f8 := h.f.eight
  have s8 := h.s.eight
  have h3 : Sz 200 0 82 (.str r.1) := Sz.str (by omega)
  have h4 : Sz 200 0 82 (.str r.2.1) := Sz.str (by omega)
  have h5 : Sz 200 0 202 (.int r.2.2) := Sz.int (by omega) (by omega)
  have : Szs 200 0 _ [D.str r.1, .str r.2.1, .int r.2.2] := Szs.cons h3 (Szs.cons h4 (Szs.cons h5 (Szs.nil (n := 0))))
  exact (Sz.tup this).mono (Nat.le_refl _) (Nat.le_refl _) (by omega)
theorem rows_sz {n : Nat} {b : Int} {L : List PRow} (h : RowsOk n b L) (hb : b ≤ 10 ^ 30) (hn : n ≤ 900) : Sz 200 2 400000 (rowsT L) := by
  have : Szs 200 1 ((L.map rowT).length * 402) (L.map rowT) := Szs.each fun d hd => by
    obtain ⟨r, hr, rfl⟩ := List.mem_map.mp hd
    exact row_sz (h.each r hr) hb
  have hl := h.len
  rw [List.length_map] at this
  exact (Sz.tup this).mono (Nat.le_refl _) (Nat.le_refl _) (by omega)
theorem repr_rows {n : Nat} {b : Int} {L : List PRow} (h : RowsOk n b L) (hb : b ≤ 10 ^ 30) (hn : n ≤ 900) : reprD [rowsT L] = W.ret (rp (rowsT L)) :=
  reprD_eq ((rows_sz h hb hn).mono (by decide) (by decide) (small (by decide)))
section
variable {fs ss : List Str} {E : Ex → Prop} {e0 e4 e5 e6 e8 e10 e11 e12 e14 e15 e16 : Option D}
end
end LP.K17
namespace LP.K05
open PySem PySem.Spec PyProof.Rows L2 PK LP RZ
open LP.K17 (rows_sz repr_rows plus_eq addW_rows)
/-! ### the rows, shown -/
theorem app_assoc (x y z : Str) : x ++ y ++ z = x ++ (y ++ z) := by
  unfold HAppend.hAppend instHAppendOfAppend Append.append
  show Str.append (Str.append _ _) _ = Str.append _ (Str.append _ _)
  unfold Str.append
  rw [Array.append_assoc]
theorem join_snoc (sep x : Str) : ∀ {l : List Str}, l ≠ [] → Str.join sep (l ++ [x]) = Str.join sep l ++ sep ++ x
  | [], z => (z rfl).elim
  | [y], _ => rfl
  | y :: w :: r, _ => by
    have ih := join_snoc sep x (l := w :: r) (List.cons_ne_nil _ _)
    show y ++ sep ++ Str.join sep ((w :: r) ++ [x]) = y ++ sep ++ Str.join sep (w :: r) ++ sep ++ x
    rw [ih]
    simp only [app_assoc]
theorem shown1_some (r : PRow) : 2 ≤ (shown1 r).length := by
  unfold shown1
  have c1 : (("/" : Str)).length = 1 := by decide +kernel
  have c2 : ((":" : Str)).length = 1 := by decide +kernel
  rw [strLen_append, strLen_append, strLen_append, strLen_append, c1, c2]
  omega
theorem len_ne {x : Str} (h : 1 ≤ x.length) : x ≠ "" := fun z => by
  rw [z] at h
  have : (("" : Str)).length = 0 := by decide +kernel
  omega
theorem join_ne {l : List PRow} (h : l ≠ []) : Str.join (" " : Str) (l.map shown1) ≠ "" := by
  cases l with
  | nil => exact (h rfl).elim
  | cons r l =>
    refine len_ne ?_
    have s1 := shown1_some r
    cases l with
    | nil => show 1 ≤ (shown1 r).length; omega
    | cons q l =>
      show 1 ≤ (shown1 r ++ (" " : Str) ++ Str.join (" " : Str) ((q :: l).map shown1)).length
      rw [strLen_append, strLen_append]
      omega
theorem join_bound {n : Nat} {b : Int} {L : List PRow} (h : RowsOk n b L) (hb : b ≤ 10 ^ 30) : (Str.join (" " : Str) (L.map shown1)).length ≤ L.length * 61 := by
  have h1 := join_len (" " : Str) (L.map shown1)
  have h2 := sum_len (f := shown1) (k := 60) fun r hr => shown1_len (h.each r hr) hb
  have c : ((" " : Str)).length = 1 := by decide +kernel
  rw [c, List.length_map] at h1
  omega
theorem shown_ret {n : Nat} {b : Int} {L : List PRow} (h : RowsOk n b (sumR L)) (hn : n ≤ 900) (hb : b ≤ 10 ^ 30) (hL : L.length ≤ 900) : Ret (fShown [rowsT L]) (.str (shownR (sumR L))) := by
  intro Q E q
  have hl := h.len
  refine ⟨rfl, ?_⟩
  show (endW (bShown (startE 5 [rowsT L]))).wp Q E
  simp only [bShown, W.bind_wp, W.ret_wp, W.want_wp, W.any_wp, s_ite, s_get0, s_get, s_then, s_end, s_run, s_calm, s_fail, s_start1, s_start2, s_start3, s_start4, s_start5, List.replicate, List.set_cons_zero, List.set_cons_succ, asB_bl, asS_str, Nat.reduceSub, Nat.reduceAdd, addW.eq_1, addW.eq_2, addW.eq_3, addW.eq_4, addW.eq_5, subW.eq_1, subW.eq_2, mulW.eq_1, mulW.eq_2, mulW.eq_3, intOp.eq_1, negW.eq_1, ordW.eq_1, ordW.eq_2, isW.eq_1, isntW.eq_1, ixW.eq_1, ixW.eq_2, ixW.eq_3, slW.eq_1, slW.eq_2, slW.eq_3, revTW.eq_1, revLW.eq_1, lenW.eq_1, lenW.eq_2, lenW.eq_3, tupleW.eq_1, tupleW.eq_2, listW.eq_1, listW.eq_2, min2W.eq_1, max2W.eq_1, strW.eq_1, strW.eq_2, joinW.eq_1, joinW.eq_2, walkLW.eq_1, walkTW.eq_1, walkSW.eq_1, range1W.eq_1, zipW.eq_1, zipW.eq_2, tupG.eq_1, gsW.eq_1, gsW.eq_2, par2.eq_1, extW.eq_1, extW.eq_2, partW.eq_1, optW.eq_1, optW.eq_2, modW, fdivW, powW, ltW, leW, gtW, geW, isNone, isi_non, isi_bl, isi_int, isi_str, isi_tup, isi_lst, upperW, putW, appW, tupW, lstW, asB_bl, String.reduceBEq, beq_self_eq_true, Bool.or_true, Bool.true_or, Bool.or_false, Bool.false_or, Bool.and_true, Bool.true_and, Bool.and_false, Bool.false_and, Bool.not_true, Bool.not_false, forall_const, true_implies, true_and, and_true, false_implies, reduceCtorEq, List.length_cons, List.length_nil, forall_eq, imp_self, implies_true, if_true, if_false, Bool.false_eq_true, Bool.true_eq_false]
  simp only [bShown_2, W.bind_wp, W.ret_wp, W.want_wp, W.any_wp, s_ite, s_get0, s_get, s_then, s_end, s_run, s_calm, s_fail, s_start1, s_start2, s_start3, s_start4, s_start5, List.replicate, List.set_cons_zero, List.set_cons_succ, asB_bl, asS_str, Nat.reduceSub, Nat.reduceAdd, addW.eq_1, addW.eq_2, addW.eq_3, addW.eq_4, addW.eq_5, subW.eq_1, subW.eq_2, mulW.eq_1, mulW.eq_2, mulW.eq_3, intOp.eq_1, negW.eq_1, ordW.eq_1, ordW.eq_2, isW.eq_1, isntW.eq_1, ixW.eq_1, ixW.eq_2, ixW.eq_3, slW.eq_1, slW.eq_2, slW.eq_3, revTW.eq_1, revLW.eq_1, lenW.eq_1, lenW.eq_2, lenW.eq_3, tupleW.eq_1, tupleW.eq_2, listW.eq_1, listW.eq_2, min2W.eq_1, max2W.eq_1, strW.eq_1, strW.eq_2, joinW.eq_1, joinW.eq_2, walkLW.eq_1, walkTW.eq_1, walkSW.eq_1, range1W.eq_1, zipW.eq_1, zipW.eq_2, tupG.eq_1, gsW.eq_1, gsW.eq_2, par2.eq_1, extW.eq_1, extW.eq_2, partW.eq_1, optW.eq_1, optW.eq_2, modW, fdivW, powW, ltW, leW, gtW, geW, isNone, isi_non, isi_bl, isi_int, isi_str, isi_tup, isi_lst, upperW, putW, appW, tupW, lstW, asB_bl, String.reduceBEq, beq_self_eq_true, Bool.or_true, Bool.true_or, Bool.or_false, Bool.false_or, Bool.and_true, Bool.true_and, Bool.and_false, Bool.false_and, Bool.not_true, Bool.not_false, forall_const, true_implies, true_and, and_true, false_implies, reduceCtorEq, List.length_cons, List.length_nil, forall_eq, imp_self, implies_true, if_true, if_false, Bool.false_eq_true, Bool.true_eq_false]
  refine (summed_ret L (by omega)).go ?_
  generalize sumR L = S at h hl q
  simp only [rowsT, W.bind_wp, W.ret_wp, W.want_wp, W.any_wp, s_ite, s_get0, s_get, s_then, s_end, s_run, s_calm, s_fail, s_start1, s_start2, s_start3, s_start4, s_start5, List.replicate, List.set_cons_zero, List.set_cons_succ, asB_bl, asS_str, Nat.reduceSub, Nat.reduceAdd, addW.eq_1, addW.eq_2, addW.eq_3, addW.eq_4, addW.eq_5, subW.eq_1, subW.eq_2, mulW.eq_1, mulW.eq_2, mulW.eq_3, intOp.eq_1, negW.eq_1, ordW.eq_1, ordW.eq_2, isW.eq_1, isntW.eq_1, ixW.eq_1, ixW.eq_2, ixW.eq_3, slW.eq_1, slW.eq_2, slW.eq_3, revTW.eq_1, revLW.eq_1, lenW.eq_1, lenW.eq_2, lenW.eq_3, tupleW.eq_1, tupleW.eq_2, listW.eq_1, listW.eq_2, min2W.eq_1, max2W.eq_1, strW.eq_1, strW.eq_2, joinW.eq_1, joinW.eq_2, walkLW.eq_1, walkTW.eq_1, walkSW.eq_1, range1W.eq_1, zipW.eq_1, zipW.eq_2, tupG.eq_1, gsW.eq_1, gsW.eq_2, par2.eq_1, extW.eq_1, extW.eq_2, partW.eq_1, optW.eq_1, optW.eq_2, modW, fdivW, powW, ltW, leW, gtW, geW, isNone, isi_non, isi_bl, isi_int, isi_str, isi_tup, isi_lst, upperW, putW, appW, tupW, lstW, asB_bl, String.reduceBEq, beq_self_eq_true, Bool.or_true, Bool.true_or, Bool.or_false, Bool.false_or, Bool.and_true, Bool.true_and, Bool.and_false, Bool.false_and, Bool.not_true, Bool.not_false, forall_const, true_implies, true_and, and_true, false_implies, reduceCtorEq, List.length_cons, List.length_nil, forall_eq, imp_self, implies_true, if_true, if_false, Bool.false_eq_true, Bool.true_eq_false]
  refine forW_wp0 (fun i env => ∃ (y2 y3 y4 : Option D), env = [some (rowsT L), some (.str (Str.join (" " : Str) ((S.take i).map shown1))), y2, y3, y4]) ⟨none, none, none, rfl⟩ ?_ ?_
  · rintro i d env hd ⟨y2, y3, y4, rfl⟩
    rw [List.getElem?_map] at hd
    obtain ⟨r, hr, rfl⟩ := Option.map_eq_some_iff.mp hd
    have hi := (List.getElem?_eq_some_iff.mp hr).1
    have ok := h.each r (List.mem_of_getElem? hr)
    obtain ⟨k1, k2⟩ := many_log ok hb
    have s1 := shown1_len ok hb
    have tb := join_bound (L := S.take i) (n := n) (b := b) ⟨Nat.le_trans (List.length_take_le' _ _) hl, fun r hr => h.each r (List.mem_of_mem_take hr)⟩ hb
    have tl : (S.take i).length ≤ 900 := Nat.le_trans (List.length_take_le' _ _) (by omega)
    unfold shown1 at s1
    rw [strLen_append, strLen_append, strLen_append, strLen_append] at s1
    simp only [rowT, W.bind_wp, W.ret_wp, W.want_wp, W.any_wp, s_ite, s_get0, s_get, s_then, s_end, s_run, s_calm, s_fail, s_start1, s_start2, s_start3, s_start4, s_start5, List.replicate, List.set_cons_zero, List.set_cons_succ, asB_bl, asS_str, Nat.reduceSub, Nat.reduceAdd, addW.eq_1, addW.eq_2, addW.eq_3, addW.eq_4, addW.eq_5, subW.eq_1, subW.eq_2, mulW.eq_1, mulW.eq_2, mulW.eq_3, intOp.eq_1, negW.eq_1, ordW.eq_1, ordW.eq_2, isW.eq_1, isntW.eq_1, ixW.eq_1, ixW.eq_2, ixW.eq_3, slW.eq_1, slW.eq_2, slW.eq_3, revTW.eq_1, revLW.eq_1, lenW.eq_1, lenW.eq_2, lenW.eq_3, tupleW.eq_1, tupleW.eq_2, listW.eq_1, listW.eq_2, min2W.eq_1, max2W.eq_1, strW.eq_1, strW.eq_2, joinW.eq_1, joinW.eq_2, walkLW.eq_1, walkTW.eq_1, walkSW.eq_1, range1W.eq_1, zipW.eq_1, zipW.eq_2, tupG.eq_1, gsW.eq_1, gsW.eq_2, par2.eq_1, extW.eq_1, extW.eq_2, partW.eq_1, optW.eq_1, optW.eq_2, modW, fdivW, powW, ltW, leW, gtW, geW, isNone, isi_non, isi_bl, isi_int, isi_str, isi_tup, isi_lst, upperW, putW, appW, tupW, lstW, asB_bl, String.reduceBEq, beq_self_eq_true, Bool.or_true, Bool.true_or, Bool.or_false, Bool.false_or, Bool.and_true, Bool.true_and, Bool.and_false, Bool.false_and, Bool.not_true, Bool.not_false, forall_const, true_implies, true_and, and_true, false_implies, reduceCtorEq, List.length_cons, List.length_nil, forall_eq, imp_self, implies_true, if_true, if_false, Bool.false_eq_true, Bool.true_eq_false]
    simp only [bShown_1, eqW_str, W.bind_wp, W.ret_wp, W.want_wp, W.any_wp, s_ite, s_get0, s_get, s_then, s_end, s_run, s_calm, s_fail, s_start1, s_start2, s_start3, s_start4, s_start5, List.replicate, List.set_cons_zero, List.set_cons_succ, asB_bl, asS_str, Nat.reduceSub, Nat.reduceAdd, addW.eq_1, addW.eq_2, addW.eq_3, addW.eq_4, addW.eq_5, subW.eq_1, subW.eq_2, mulW.eq_1, mulW.eq_2, mulW.eq_3, intOp.eq_1, negW.eq_1, ordW.eq_1, ordW.eq_2, isW.eq_1, isntW.eq_1, ixW.eq_1, ixW.eq_2, ixW.eq_3, slW.eq_1, slW.eq_2, slW.eq_3, revTW.eq_1, revLW.eq_1, lenW.eq_1, lenW.eq_2, lenW.eq_3, tupleW.eq_1, tupleW.eq_2, listW.eq_1, listW.eq_2, min2W.eq_1, max2W.eq_1, strW.eq_1, strW.eq_2, joinW.eq_1, joinW.eq_2, walkLW.eq_1, walkTW.eq_1, walkSW.eq_1, range1W.eq_1, zipW.eq_1, zipW.eq_2, tupG.eq_1, gsW.eq_1, gsW.eq_2, par2.eq_1, extW.eq_1, extW.eq_2, partW.eq_1, optW.eq_1, optW.eq_2, modW, fdivW, powW, ltW, leW, gtW, geW, isNone, isi_non, isi_bl, isi_int, isi_str, isi_tup, isi_lst, upperW, putW, appW, tupW, lstW, asB_bl, String.reduceBEq, beq_self_eq_true, Bool.or_true, Bool.true_or, Bool.or_false, Bool.false_or, Bool.and_true, Bool.true_and, Bool.and_false, Bool.false_and, Bool.not_true, Bool.not_false, forall_const, true_implies, true_and, and_true, false_implies, reduceCtorEq, List.length_cons, List.length_nil, forall_eq, imp_self, implies_true, if_true, if_false, Bool.false_eq_true, Bool.true_eq_false]
    refine ⟨by decide, ?_⟩
    have c0 : (Str.ofString "").length = 0 := by decide +kernel
    have c1 : (Str.ofString " ").length = 1 := by decide +kernel
    have c2 : (Str.ofString "/").length = 1 := by decide +kernel
    have c3 : (Str.ofString ":").length = 1 := by decide +kernel
    have ez : Str.ofString "" = Str.empty := by decide +kernel
    rw [take_snoc hr, List.map_append]
    generalize S.take i = T at tb tl
    by_cases z : T = []
    · subst z
      have e1 : (Str.join (Str.ofString " ") (List.map shown1 [])) = Str.ofString "" := by decide +kernel
      rw [e1]
      have e2 : (Str.ofString "" == Str.ofString "") = true := by decide +kernel
      rw [e2]
      have i1 : intW [.bl true] = W.ret (.int 1) := rfl
      have i2 : ixW (.lst [.str (Str.ofString " "), .str (Str.ofString "")]) (.int 1) = W.ret (.str (Str.ofString "")) := rfl
      rw [i1]
      simp only [i2, W.bind_wp, W.ret_wp, W.want_wp, W.any_wp, s_ite, s_get0, s_get, s_then, s_end, s_run, s_calm, s_fail, s_start1, s_start2, s_start3, s_start4, s_start5, List.replicate, List.set_cons_zero, List.set_cons_succ, asB_bl, asS_str, Nat.reduceSub, Nat.reduceAdd, addW.eq_1, addW.eq_2, addW.eq_3, addW.eq_4, addW.eq_5, subW.eq_1, subW.eq_2, mulW.eq_1, mulW.eq_2, mulW.eq_3, intOp.eq_1, negW.eq_1, ordW.eq_1, ordW.eq_2, isW.eq_1, isntW.eq_1, ixW.eq_1, ixW.eq_2, ixW.eq_3, slW.eq_1, slW.eq_2, slW.eq_3, revTW.eq_1, revLW.eq_1, lenW.eq_1, lenW.eq_2, lenW.eq_3, tupleW.eq_1, tupleW.eq_2, listW.eq_1, listW.eq_2, min2W.eq_1, max2W.eq_1, strW.eq_1, strW.eq_2, joinW.eq_1, joinW.eq_2, walkLW.eq_1, walkTW.eq_1, walkSW.eq_1, range1W.eq_1, zipW.eq_1, zipW.eq_2, tupG.eq_1, gsW.eq_1, gsW.eq_2, par2.eq_1, extW.eq_1, extW.eq_2, partW.eq_1, optW.eq_1, optW.eq_2, modW, fdivW, powW, ltW, leW, gtW, geW, isNone, isi_non, isi_bl, isi_int, isi_str, isi_tup, isi_lst, upperW, putW, appW, tupW, lstW, asB_bl, String.reduceBEq, beq_self_eq_true, Bool.or_true, Bool.true_or, Bool.or_false, Bool.false_or, Bool.and_true, Bool.true_and, Bool.and_false, Bool.false_and, Bool.not_true, Bool.not_false, forall_const, true_implies, true_and, and_true, false_implies, reduceCtorEq, List.length_cons, List.length_nil, forall_eq, imp_self, implies_true, if_true, if_false, Bool.false_eq_true, Bool.true_eq_false]
      simp only [strLen_append]
      refine ⟨small (by omega), small (by omega), small (by omega), small (by omega), small (by omega), k1, small (by omega), some (.str r.1), some (.str r.2.1), some (.int r.2.2), ?_⟩
      have ef : Str.ofString "" ++ Str.ofString "" ++ r.1 ++ Str.ofString "/" ++ r.2.1 ++ Str.ofString ":" ++ Str.ofString (toString r.2.2) = Str.join (Str.ofString " ") (List.map shown1 [] ++ List.map shown1 [r]) := by
        rw [ez, empty_app, empty_app]
        rfl
      rw [ef]
    · have e2 : (Str.join (Str.ofString " ") (List.map shown1 T) == Str.ofString "") = false := beq_eq_false_iff_ne.mpr (join_ne z)
      rw [e2]
      have i1 : intW [.bl false] = W.ret (.int 0) := rfl
      have i2 : ixW (.lst [.str (Str.ofString " "), .str (Str.ofString "")]) (.int 0) = W.ret (.str (Str.ofString " ")) := rfl
      rw [i1]
      simp only [i2, W.bind_wp, W.ret_wp, W.want_wp, W.any_wp, s_ite, s_get0, s_get, s_then, s_end, s_run, s_calm, s_fail, s_start1, s_start2, s_start3, s_start4, s_start5, List.replicate, List.set_cons_zero, List.set_cons_succ, asB_bl, asS_str, Nat.reduceSub, Nat.reduceAdd, addW.eq_1, addW.eq_2, addW.eq_3, addW.eq_4, addW.eq_5, subW.eq_1, subW.eq_2, mulW.eq_1, mulW.eq_2, mulW.eq_3, intOp.eq_1, negW.eq_1, ordW.eq_1, ordW.eq_2, isW.eq_1, isntW.eq_1, ixW.eq_1, ixW.eq_2, ixW.eq_3, slW.eq_1, slW.eq_2, slW.eq_3, revTW.eq_1, revLW.eq_1, lenW.eq_1, lenW.eq_2, lenW.eq_3, tupleW.eq_1, tupleW.eq_2, listW.eq_1, listW.eq_2, min2W.eq_1, max2W.eq_1, strW.eq_1, strW.eq_2, joinW.eq_1, joinW.eq_2, walkLW.eq_1, walkTW.eq_1, walkSW.eq_1, range1W.eq_1, zipW.eq_1, zipW.eq_2, tupG.eq_1, gsW.eq_1, gsW.eq_2, par2.eq_1, extW.eq_1, extW.eq_2, partW.eq_1, optW.eq_1, optW.eq_2, modW, fdivW, powW, ltW, leW, gtW, geW, isNone, isi_non, isi_bl, isi_int, isi_str, isi_tup, isi_lst, upperW, putW, appW, tupW, lstW, asB_bl, String.reduceBEq, beq_self_eq_true, Bool.or_true, Bool.true_or, Bool.or_false, Bool.false_or, Bool.and_true, Bool.true_and, Bool.and_false, Bool.false_and, Bool.not_true, Bool.not_false, forall_const, true_implies, true_and, and_true, false_implies, reduceCtorEq, List.length_cons, List.length_nil, forall_eq, imp_self, implies_true, if_true, if_false, Bool.false_eq_true, Bool.true_eq_false]
      simp only [strLen_append]
      refine ⟨small (by omega), small (by omega), small (by omega), small (by omega), small (by omega), k1, small (by omega), some (.str r.1), some (.str r.2.1), some (.int r.2.2), ?_⟩
      have ef : Str.join (Str.ofString " ") (List.map shown1 T) ++ Str.ofString " " ++ r.1 ++ Str.ofString "/" ++ r.2.1 ++ Str.ofString ":" ++ Str.ofString (toString r.2.2) = Str.join (Str.ofString " ") (List.map shown1 T ++ List.map shown1 [r]) := by
        rw [List.map_singleton, join_snoc _ _ (fun y => z (List.map_eq_nil_iff.mp y))]
        unfold shown1
        simp only [app_assoc]
      rw [ef]
  · rintro env ⟨y2, y3, y4, rfl⟩
    rw [List.length_map, List.take_length]
    simp only [neW_str, W.bind_wp, W.ret_wp, W.want_wp, W.any_wp, s_ite, s_get0, s_get, s_then, s_end, s_run, s_calm, s_fail, s_start1, s_start2, s_start3, s_start4, s_start5, List.replicate, List.set_cons_zero, List.set_cons_succ, asB_bl, asS_str, Nat.reduceSub, Nat.reduceAdd, addW.eq_1, addW.eq_2, addW.eq_3, addW.eq_4, addW.eq_5, subW.eq_1, subW.eq_2, mulW.eq_1, mulW.eq_2, mulW.eq_3, intOp.eq_1, negW.eq_1, ordW.eq_1, ordW.eq_2, isW.eq_1, isntW.eq_1, ixW.eq_1, ixW.eq_2, ixW.eq_3, slW.eq_1, slW.eq_2, slW.eq_3, revTW.eq_1, revLW.eq_1, lenW.eq_1, lenW.eq_2, lenW.eq_3, tupleW.eq_1, tupleW.eq_2, listW.eq_1, listW.eq_2, min2W.eq_1, max2W.eq_1, strW.eq_1, strW.eq_2, joinW.eq_1, joinW.eq_2, walkLW.eq_1, walkTW.eq_1, walkSW.eq_1, range1W.eq_1, zipW.eq_1, zipW.eq_2, tupG.eq_1, gsW.eq_1, gsW.eq_2, par2.eq_1, extW.eq_1, extW.eq_2, partW.eq_1, optW.eq_1, optW.eq_2, modW, fdivW, powW, ltW, leW, gtW, geW, isNone, isi_non, isi_bl, isi_int, isi_str, isi_tup, isi_lst, upperW, putW, appW, tupW, lstW, asB_bl, String.reduceBEq, beq_self_eq_true, Bool.or_true, Bool.true_or, Bool.or_false, Bool.false_or, Bool.and_true, Bool.true_and, Bool.and_false, Bool.false_and, Bool.not_true, Bool.not_false, forall_const, true_implies, true_and, and_true, false_implies, reduceCtorEq, List.length_cons, List.length_nil, forall_eq, imp_self, implies_true, if_true, if_false, Bool.false_eq_true, Bool.true_eq_false]
    unfold shownR at q
    by_cases z : S = []
    · rw [if_pos z] at q
      subst z
      have e1 : (Str.join (Str.ofString " ") (List.map shown1 [])) = Str.ofString "" := by decide +kernel
      rw [e1]
      exact ⟨fun y => absurd y (by decide +kernel), fun _ => q⟩
    · rw [if_neg z] at q
      exact ⟨fun _ => q, fun y => absurd y (by
        have e2 : (Str.join (Str.ofString " ") (List.map shown1 S) == Str.ofString "") = false := beq_eq_false_iff_ne.mpr (join_ne z)
        rw [e2]
        exact Bool.noConfusion)⟩
end LP.K05
namespace LP.K05
open PySem PySem.Spec PyProof.Rows L2 PK LP RZ
open LP.K17 (rows_sz repr_rows plus_eq addW_rows rows_eq lenH_eq)
def reprR (L : List PRow) : Str := Str.empty ++ ("Heap(" : Str) ++ shownR L ++ (")" : Str)
theorem shown_bound {n : Nat} {b : Int} {L : List PRow} (h : RowsOk n b L) (hb : b ≤ 10 ^ 30) : (shownR L).length ≤ 1 + L.length * 61 := by
  unfold shownR
  have c : (("-" : Str)).length = 1 := by decide +kernel
  split
  · omega
  · have := join_bound h hb
    omega
theorem repr_len (L : List PRow) : (reprR L).length = (shownR L).length + 6 := by
  unfold reprR
  have c1 : (("Heap(" : Str)).length = 5 := by decide +kernel
  have c2 : ((")" : Str)).length = 1 := by decide +kernel
  rw [strLen_append, strLen_append, empty_app, c1, c2]
  omega
theorem repr_ret {n : Nat} {b : Int} {L : List PRow} (h : RowsOk n b L) (hn : n ≤ 900) (hb : b ≤ 10 ^ 30) : Ret (fRepr [heapD L]) (.str (reprR L)) := by
  intro Q E q
  have hl := h.len
  have l := shown_bound h hb
  refine ⟨rfl, ?_⟩
  show (endW (bRepr (startE 1 [heapD L]))).wp Q E
  have c1 : (Str.ofString "Heap(").length = 5 := by decide +kernel
  have c2 : (Str.ofString ")").length = 1 := by decide +kernel
  simp only [bRepr, jsW, objW_heap, W.bind_wp, W.ret_wp, W.want_wp, W.any_wp, s_ite, s_get0, s_get, s_then, s_end, s_run, s_calm, s_fail, s_start1, s_start2, s_start3, s_start4, s_start5, List.replicate, List.set_cons_zero, List.set_cons_succ, asB_bl, asS_str, Nat.reduceSub, Nat.reduceAdd, addW.eq_1, addW.eq_2, addW.eq_3, addW.eq_4, addW.eq_5, subW.eq_1, subW.eq_2, mulW.eq_1, mulW.eq_2, mulW.eq_3, intOp.eq_1, negW.eq_1, ordW.eq_1, ordW.eq_2, isW.eq_1, isntW.eq_1, ixW.eq_1, ixW.eq_2, ixW.eq_3, slW.eq_1, slW.eq_2, slW.eq_3, revTW.eq_1, revLW.eq_1, lenW.eq_1, lenW.eq_2, lenW.eq_3, tupleW.eq_1, tupleW.eq_2, listW.eq_1, listW.eq_2, min2W.eq_1, max2W.eq_1, strW.eq_1, strW.eq_2, joinW.eq_1, joinW.eq_2, walkLW.eq_1, walkTW.eq_1, walkSW.eq_1, range1W.eq_1, zipW.eq_1, zipW.eq_2, tupG.eq_1, gsW.eq_1, gsW.eq_2, par2.eq_1, extW.eq_1, extW.eq_2, partW.eq_1, optW.eq_1, optW.eq_2, modW, fdivW, powW, ltW, leW, gtW, geW, isNone, isi_non, isi_bl, isi_int, isi_str, isi_tup, isi_lst, upperW, putW, appW, tupW, lstW, asB_bl, String.reduceBEq, beq_self_eq_true, Bool.or_true, Bool.true_or, Bool.or_false, Bool.false_or, Bool.and_true, Bool.true_and, Bool.and_false, Bool.false_and, Bool.not_true, Bool.not_false, forall_const, true_implies, true_and, and_true, false_implies, reduceCtorEq, List.length_cons, List.length_nil, forall_eq, imp_self, implies_true, if_true, if_false, Bool.false_eq_true, Bool.true_eq_false]
  refine ⟨by rw [empty_app, c1]; exact small (by decide), ?_⟩
  refine (str_ret h hn hb).go ?_
  simp only [fmtW, W.bind_wp, W.ret_wp, W.want_wp, W.any_wp, s_ite, s_get0, s_get, s_then, s_end, s_run, s_calm, s_fail, s_start1, s_start2, s_start3, s_start4, s_start5, List.replicate, List.set_cons_zero, List.set_cons_succ, asB_bl, asS_str, Nat.reduceSub, Nat.reduceAdd, addW.eq_1, addW.eq_2, addW.eq_3, addW.eq_4, addW.eq_5, subW.eq_1, subW.eq_2, mulW.eq_1, mulW.eq_2, mulW.eq_3, intOp.eq_1, negW.eq_1, ordW.eq_1, ordW.eq_2, isW.eq_1, isntW.eq_1, ixW.eq_1, ixW.eq_2, ixW.eq_3, slW.eq_1, slW.eq_2, slW.eq_3, revTW.eq_1, revLW.eq_1, lenW.eq_1, lenW.eq_2, lenW.eq_3, tupleW.eq_1, tupleW.eq_2, listW.eq_1, listW.eq_2, min2W.eq_1, max2W.eq_1, strW.eq_1, strW.eq_2, joinW.eq_1, joinW.eq_2, walkLW.eq_1, walkTW.eq_1, walkSW.eq_1, range1W.eq_1, zipW.eq_1, zipW.eq_2, tupG.eq_1, gsW.eq_1, gsW.eq_2, par2.eq_1, extW.eq_1, extW.eq_2, partW.eq_1, optW.eq_1, optW.eq_2, modW, fdivW, powW, ltW, leW, gtW, geW, isNone, isi_non, isi_bl, isi_int, isi_str, isi_tup, isi_lst, upperW, putW, appW, tupW, lstW, asB_bl, String.reduceBEq, beq_self_eq_true, Bool.or_true, Bool.true_or, Bool.or_false, Bool.false_or, Bool.and_true, Bool.true_and, Bool.and_false, Bool.false_and, Bool.not_true, Bool.not_false, forall_const, true_implies, true_and, and_true, false_implies, reduceCtorEq, List.length_cons, List.length_nil, forall_eq, imp_self, implies_true, if_true, if_false, Bool.false_eq_true, Bool.true_eq_false]
  exact ⟨small (by omega), by rw [strLen_append, empty_app, c1]; exact small (by omega), by rw [strLen_append, strLen_append, empty_app, c1, c2]; exact small (by omega), q⟩
theorem six_sh {i : Int} {b : Bool} {s1 s2 s3 s4 : Str} : D.sh (.tup [.int i, .bl b, .str s1, .str s2, .str s3, .str s4]) := ⟨rfl, by show 1 ≤ 64; decide⟩
theorem six_eq {i : Int} {b : Bool} {s1 s2 s3 s4 : Str} : eqW (.tup [.int i, .bl b, .str s1, .str s2, .str s3, .str s4]) (.tup [.int i, .bl b, .str s1, .str s2, .str s3, .str s4]) = W.ret (.bl true) := by
  rw [eqW_sh six_sh six_sh]
  have : D.eqv (.tup [.int i, .bl b, .str s1, .str s2, .str s3, .str s4]) (.tup [.int i, .bl b, .str s1, .str s2, .str s3, .str s4]) = true := by
    unfold D.eqv
    exact eqv_refl _ (by rfl)
  rw [this]
theorem right_ret {n : Nat} {b : Int} {L : List PRow} (h : RowsOk n b (sumR L)) (hn : n ≤ 900) (hb : b ≤ 10 ^ 30) (hL : L.length ≤ 900) : Ret (fRight [heapD (sumR L), rowsT L]) (.bl true) := by
  intro Q E q
  have hl := h.len
  have sb := shown_bound h hb
  have rl := repr_len (sumR L)
  refine ⟨rfl, ?_⟩
  show (endW (bRight (startE 4 [heapD (sumR L), rowsT L]))).wp Q E
  simp only [bRight, objW_heap, W.bind_wp, W.ret_wp, W.want_wp, W.any_wp, s_ite, s_get0, s_get, s_then, s_end, s_run, s_calm, s_fail, s_start1, s_start2, s_start3, s_start4, s_start5, List.replicate, List.set_cons_zero, List.set_cons_succ, asB_bl, asS_str, Nat.reduceSub, Nat.reduceAdd, addW.eq_1, addW.eq_2, addW.eq_3, addW.eq_4, addW.eq_5, subW.eq_1, subW.eq_2, mulW.eq_1, mulW.eq_2, mulW.eq_3, intOp.eq_1, negW.eq_1, ordW.eq_1, ordW.eq_2, isW.eq_1, isntW.eq_1, ixW.eq_1, ixW.eq_2, ixW.eq_3, slW.eq_1, slW.eq_2, slW.eq_3, revTW.eq_1, revLW.eq_1, lenW.eq_1, lenW.eq_2, lenW.eq_3, tupleW.eq_1, tupleW.eq_2, listW.eq_1, listW.eq_2, min2W.eq_1, max2W.eq_1, strW.eq_1, strW.eq_2, joinW.eq_1, joinW.eq_2, walkLW.eq_1, walkTW.eq_1, walkSW.eq_1, range1W.eq_1, zipW.eq_1, zipW.eq_2, tupG.eq_1, gsW.eq_1, gsW.eq_2, par2.eq_1, extW.eq_1, extW.eq_2, partW.eq_1, optW.eq_1, optW.eq_2, modW, fdivW, powW, ltW, leW, gtW, geW, isNone, isi_non, isi_bl, isi_int, isi_str, isi_tup, isi_lst, upperW, putW, appW, tupW, lstW, asB_bl, String.reduceBEq, beq_self_eq_true, Bool.or_true, Bool.true_or, Bool.or_false, Bool.false_or, Bool.and_true, Bool.true_and, Bool.and_false, Bool.false_and, Bool.not_true, Bool.not_false, forall_const, true_implies, true_and, and_true, false_implies, reduceCtorEq, List.length_cons, List.length_nil, forall_eq, imp_self, implies_true, if_true, if_false, Bool.false_eq_true, Bool.true_eq_false]
  rw [lenH_eq (by omega)]
  have bo : boolHW [heapD (sumR L)] = W.ret (.bl (decide (0 < (sumR L).length))) := by
    show (optW (heapOf (heapD (sumR L)))).bind _ = _
    rw [heapOf_D, optW_some, W.ret_bind]
    exact W.want_bind (by omega)
  rw [W.ret_wp, bo]
  simp only [W.bind_wp, W.ret_wp, W.want_wp, W.any_wp, s_ite, s_get0, s_get, s_then, s_end, s_run, s_calm, s_fail, s_start1, s_start2, s_start3, s_start4, s_start5, List.replicate, List.set_cons_zero, List.set_cons_succ, asB_bl, asS_str, Nat.reduceSub, Nat.reduceAdd, addW.eq_1, addW.eq_2, addW.eq_3, addW.eq_4, addW.eq_5, subW.eq_1, subW.eq_2, mulW.eq_1, mulW.eq_2, mulW.eq_3, intOp.eq_1, negW.eq_1, ordW.eq_1, ordW.eq_2, isW.eq_1, isntW.eq_1, ixW.eq_1, ixW.eq_2, ixW.eq_3, slW.eq_1, slW.eq_2, slW.eq_3, revTW.eq_1, revLW.eq_1, lenW.eq_1, lenW.eq_2, lenW.eq_3, tupleW.eq_1, tupleW.eq_2, listW.eq_1, listW.eq_2, min2W.eq_1, max2W.eq_1, strW.eq_1, strW.eq_2, joinW.eq_1, joinW.eq_2, walkLW.eq_1, walkTW.eq_1, walkSW.eq_1, range1W.eq_1, zipW.eq_1, zipW.eq_2, tupG.eq_1, gsW.eq_1, gsW.eq_2, par2.eq_1, extW.eq_1, extW.eq_2, partW.eq_1, optW.eq_1, optW.eq_2, modW, fdivW, powW, ltW, leW, gtW, geW, isNone, isi_non, isi_bl, isi_int, isi_str, isi_tup, isi_lst, upperW, putW, appW, tupW, lstW, asB_bl, String.reduceBEq, beq_self_eq_true, Bool.or_true, Bool.true_or, Bool.or_false, Bool.false_or, Bool.and_true, Bool.true_and, Bool.and_false, Bool.false_and, Bool.not_true, Bool.not_false, forall_const, true_implies, true_and, and_true, false_implies, reduceCtorEq, List.length_cons, List.length_nil, forall_eq, imp_self, implies_true, if_true, if_false, Bool.false_eq_true, Bool.true_eq_false]
  refine (str_ret h hn hb).go ?_
  simp only [W.bind_wp, W.ret_wp, W.want_wp, W.any_wp, s_ite, s_get0, s_get, s_then, s_end, s_run, s_calm, s_fail, s_start1, s_start2, s_start3, s_start4, s_start5, List.replicate, List.set_cons_zero, List.set_cons_succ, asB_bl, asS_str, Nat.reduceSub, Nat.reduceAdd, addW.eq_1, addW.eq_2, addW.eq_3, addW.eq_4, addW.eq_5, subW.eq_1, subW.eq_2, mulW.eq_1, mulW.eq_2, mulW.eq_3, intOp.eq_1, negW.eq_1, ordW.eq_1, ordW.eq_2, isW.eq_1, isntW.eq_1, ixW.eq_1, ixW.eq_2, ixW.eq_3, slW.eq_1, slW.eq_2, slW.eq_3, revTW.eq_1, revLW.eq_1, lenW.eq_1, lenW.eq_2, lenW.eq_3, tupleW.eq_1, tupleW.eq_2, listW.eq_1, listW.eq_2, min2W.eq_1, max2W.eq_1, strW.eq_1, strW.eq_2, joinW.eq_1, joinW.eq_2, walkLW.eq_1, walkTW.eq_1, walkSW.eq_1, range1W.eq_1, zipW.eq_1, zipW.eq_2, tupG.eq_1, gsW.eq_1, gsW.eq_2, par2.eq_1, extW.eq_1, extW.eq_2, partW.eq_1, optW.eq_1, optW.eq_2, modW, fdivW, powW, ltW, leW, gtW, geW, isNone, isi_non, isi_bl, isi_int, isi_str, isi_tup, isi_lst, upperW, putW, appW, tupW, lstW, asB_bl, String.reduceBEq, beq_self_eq_true, Bool.or_true, Bool.true_or, Bool.or_false, Bool.false_or, Bool.and_true, Bool.true_and, Bool.and_false, Bool.false_and, Bool.not_true, Bool.not_false, forall_const, true_implies, true_and, and_true, false_implies, reduceCtorEq, List.length_cons, List.length_nil, forall_eq, imp_self, implies_true, if_true, if_false, Bool.false_eq_true, Bool.true_eq_false]
  refine (repr_ret h hn hb).go ?_
  simp only [reprOneW, fmtOW, objW_heap, W.bind_wp, W.ret_wp, W.want_wp, W.any_wp, s_ite, s_get0, s_get, s_then, s_end, s_run, s_calm, s_fail, s_start1, s_start2, s_start3, s_start4, s_start5, List.replicate, List.set_cons_zero, List.set_cons_succ, asB_bl, asS_str, Nat.reduceSub, Nat.reduceAdd, addW.eq_1, addW.eq_2, addW.eq_3, addW.eq_4, addW.eq_5, subW.eq_1, subW.eq_2, mulW.eq_1, mulW.eq_2, mulW.eq_3, intOp.eq_1, negW.eq_1, ordW.eq_1, ordW.eq_2, isW.eq_1, isntW.eq_1, ixW.eq_1, ixW.eq_2, ixW.eq_3, slW.eq_1, slW.eq_2, slW.eq_3, revTW.eq_1, revLW.eq_1, lenW.eq_1, lenW.eq_2, lenW.eq_3, tupleW.eq_1, tupleW.eq_2, listW.eq_1, listW.eq_2, min2W.eq_1, max2W.eq_1, strW.eq_1, strW.eq_2, joinW.eq_1, joinW.eq_2, walkLW.eq_1, walkTW.eq_1, walkSW.eq_1, range1W.eq_1, zipW.eq_1, zipW.eq_2, tupG.eq_1, gsW.eq_1, gsW.eq_2, par2.eq_1, extW.eq_1, extW.eq_2, partW.eq_1, optW.eq_1, optW.eq_2, modW, fdivW, powW, ltW, leW, gtW, geW, isNone, isi_non, isi_bl, isi_int, isi_str, isi_tup, isi_lst, upperW, putW, appW, tupW, lstW, asB_bl, String.reduceBEq, beq_self_eq_true, Bool.or_true, Bool.true_or, Bool.or_false, Bool.false_or, Bool.and_true, Bool.true_and, Bool.and_false, Bool.false_and, Bool.not_true, Bool.not_false, forall_const, true_implies, true_and, and_true, false_implies, reduceCtorEq, List.length_cons, List.length_nil, forall_eq, imp_self, implies_true, if_true, if_false, Bool.false_eq_true, Bool.true_eq_false]
  refine ⟨by decide, ?_⟩
  refine (repr_ret h hn hb).go ?_
  simp only [W.bind_wp, W.ret_wp, W.want_wp, W.any_wp, s_ite, s_get0, s_get, s_then, s_end, s_run, s_calm, s_fail, s_start1, s_start2, s_start3, s_start4, s_start5, List.replicate, List.set_cons_zero, List.set_cons_succ, asB_bl, asS_str, Nat.reduceSub, Nat.reduceAdd, addW.eq_1, addW.eq_2, addW.eq_3, addW.eq_4, addW.eq_5, subW.eq_1, subW.eq_2, mulW.eq_1, mulW.eq_2, mulW.eq_3, intOp.eq_1, negW.eq_1, ordW.eq_1, ordW.eq_2, isW.eq_1, isntW.eq_1, ixW.eq_1, ixW.eq_2, ixW.eq_3, slW.eq_1, slW.eq_2, slW.eq_3, revTW.eq_1, revLW.eq_1, lenW.eq_1, lenW.eq_2, lenW.eq_3, tupleW.eq_1, tupleW.eq_2, listW.eq_1, listW.eq_2, min2W.eq_1, max2W.eq_1, strW.eq_1, strW.eq_2, joinW.eq_1, joinW.eq_2, walkLW.eq_1, walkTW.eq_1, walkSW.eq_1, range1W.eq_1, zipW.eq_1, zipW.eq_2, tupG.eq_1, gsW.eq_1, gsW.eq_2, par2.eq_1, extW.eq_1, extW.eq_2, partW.eq_1, optW.eq_1, optW.eq_2, modW, fdivW, powW, ltW, leW, gtW, geW, isNone, isi_non, isi_bl, isi_int, isi_str, isi_tup, isi_lst, upperW, putW, appW, tupW, lstW, asB_bl, String.reduceBEq, beq_self_eq_true, Bool.or_true, Bool.true_or, Bool.or_false, Bool.false_or, Bool.and_true, Bool.true_and, Bool.and_false, Bool.false_and, Bool.not_true, Bool.not_false, forall_const, true_implies, true_and, and_true, false_implies, reduceCtorEq, List.length_cons, List.length_nil, forall_eq, imp_self, implies_true, if_true, if_false, Bool.false_eq_true, Bool.true_eq_false]
  refine ⟨by omega, ?_⟩
  refine (str_ret h hn hb).go ?_
  simp only [W.bind_wp, W.ret_wp, W.want_wp, W.any_wp, s_ite, s_get0, s_get, s_then, s_end, s_run, s_calm, s_fail, s_start1, s_start2, s_start3, s_start4, s_start5, List.replicate, List.set_cons_zero, List.set_cons_succ, asB_bl, asS_str, Nat.reduceSub, Nat.reduceAdd, addW.eq_1, addW.eq_2, addW.eq_3, addW.eq_4, addW.eq_5, subW.eq_1, subW.eq_2, mulW.eq_1, mulW.eq_2, mulW.eq_3, intOp.eq_1, negW.eq_1, ordW.eq_1, ordW.eq_2, isW.eq_1, isntW.eq_1, ixW.eq_1, ixW.eq_2, ixW.eq_3, slW.eq_1, slW.eq_2, slW.eq_3, revTW.eq_1, revLW.eq_1, lenW.eq_1, lenW.eq_2, lenW.eq_3, tupleW.eq_1, tupleW.eq_2, listW.eq_1, listW.eq_2, min2W.eq_1, max2W.eq_1, strW.eq_1, strW.eq_2, joinW.eq_1, joinW.eq_2, walkLW.eq_1, walkTW.eq_1, walkSW.eq_1, range1W.eq_1, zipW.eq_1, zipW.eq_2, tupG.eq_1, gsW.eq_1, gsW.eq_2, par2.eq_1, extW.eq_1, extW.eq_2, partW.eq_1, optW.eq_1, optW.eq_2, modW, fdivW, powW, ltW, leW, gtW, geW, isNone, isi_non, isi_bl, isi_int, isi_str, isi_tup, isi_lst, upperW, putW, appW, tupW, lstW, asB_bl, String.reduceBEq, beq_self_eq_true, Bool.or_true, Bool.true_or, Bool.or_false, Bool.false_or, Bool.and_true, Bool.true_and, Bool.and_false, Bool.false_and, Bool.not_true, Bool.not_false, forall_const, true_implies, true_and, and_true, false_implies, reduceCtorEq, List.length_cons, List.length_nil, forall_eq, imp_self, implies_true, if_true, if_false, Bool.false_eq_true, Bool.true_eq_false]
  refine ⟨by decide, ?_⟩
  simp only [bRight_1, W.bind_wp, W.ret_wp, W.want_wp, W.any_wp, s_ite, s_get0, s_get, s_then, s_end, s_run, s_calm, s_fail, s_start1, s_start2, s_start3, s_start4, s_start5, List.replicate, List.set_cons_zero, List.set_cons_succ, asB_bl, asS_str, Nat.reduceSub, Nat.reduceAdd, addW.eq_1, addW.eq_2, addW.eq_3, addW.eq_4, addW.eq_5, subW.eq_1, subW.eq_2, mulW.eq_1, mulW.eq_2, mulW.eq_3, intOp.eq_1, negW.eq_1, ordW.eq_1, ordW.eq_2, isW.eq_1, isntW.eq_1, ixW.eq_1, ixW.eq_2, ixW.eq_3, slW.eq_1, slW.eq_2, slW.eq_3, revTW.eq_1, revLW.eq_1, lenW.eq_1, lenW.eq_2, lenW.eq_3, tupleW.eq_1, tupleW.eq_2, listW.eq_1, listW.eq_2, min2W.eq_1, max2W.eq_1, strW.eq_1, strW.eq_2, joinW.eq_1, joinW.eq_2, walkLW.eq_1, walkTW.eq_1, walkSW.eq_1, range1W.eq_1, zipW.eq_1, zipW.eq_2, tupG.eq_1, gsW.eq_1, gsW.eq_2, par2.eq_1, extW.eq_1, extW.eq_2, partW.eq_1, optW.eq_1, optW.eq_2, modW, fdivW, powW, ltW, leW, gtW, geW, isNone, isi_non, isi_bl, isi_int, isi_str, isi_tup, isi_lst, upperW, putW, appW, tupW, lstW, asB_bl, String.reduceBEq, beq_self_eq_true, Bool.or_true, Bool.true_or, Bool.or_false, Bool.false_or, Bool.and_true, Bool.true_and, Bool.and_false, Bool.false_and, Bool.not_true, Bool.not_false, forall_const, true_implies, true_and, and_true, false_implies, reduceCtorEq, List.length_cons, List.length_nil, forall_eq, imp_self, implies_true, if_true, if_false, Bool.false_eq_true, Bool.true_eq_false]
  refine (shown_ret h hn hb hL).go ?_
  simp only [W.bind_wp, W.ret_wp, W.want_wp, W.any_wp, s_ite, s_get0, s_get, s_then, s_end, s_run, s_calm, s_fail, s_start1, s_start2, s_start3, s_start4, s_start5, List.replicate, List.set_cons_zero, List.set_cons_succ, asB_bl, asS_str, Nat.reduceSub, Nat.reduceAdd, addW.eq_1, addW.eq_2, addW.eq_3, addW.eq_4, addW.eq_5, subW.eq_1, subW.eq_2, mulW.eq_1, mulW.eq_2, mulW.eq_3, intOp.eq_1, negW.eq_1, ordW.eq_1, ordW.eq_2, isW.eq_1, isntW.eq_1, ixW.eq_1, ixW.eq_2, ixW.eq_3, slW.eq_1, slW.eq_2, slW.eq_3, revTW.eq_1, revLW.eq_1, lenW.eq_1, lenW.eq_2, lenW.eq_3, tupleW.eq_1, tupleW.eq_2, listW.eq_1, listW.eq_2, min2W.eq_1, max2W.eq_1, strW.eq_1, strW.eq_2, joinW.eq_1, joinW.eq_2, walkLW.eq_1, walkTW.eq_1, walkSW.eq_1, range1W.eq_1, zipW.eq_1, zipW.eq_2, tupG.eq_1, gsW.eq_1, gsW.eq_2, par2.eq_1, extW.eq_1, extW.eq_2, partW.eq_1, optW.eq_1, optW.eq_2, modW, fdivW, powW, ltW, leW, gtW, geW, isNone, isi_non, isi_bl, isi_int, isi_str, isi_tup, isi_lst, upperW, putW, appW, tupW, lstW, asB_bl, String.reduceBEq, beq_self_eq_true, Bool.or_true, Bool.true_or, Bool.or_false, Bool.false_or, Bool.and_true, Bool.true_and, Bool.and_false, Bool.false_and, Bool.not_true, Bool.not_false, forall_const, true_implies, true_and, and_true, false_implies, reduceCtorEq, List.length_cons, List.length_nil, forall_eq, imp_self, implies_true, if_true, if_false, Bool.false_eq_true, Bool.true_eq_false]
  refine (summed_ret L (by omega)).go ?_
  have lm : (List.map rowT (sumR L)).length = (sumR L).length := List.length_map _
  simp only [rowsT, lm, W.bind_wp, W.ret_wp, W.want_wp, W.any_wp, s_ite, s_get0, s_get, s_then, s_end, s_run, s_calm, s_fail, s_start1, s_start2, s_start3, s_start4, s_start5, List.replicate, List.set_cons_zero, List.set_cons_succ, asB_bl, asS_str, Nat.reduceSub, Nat.reduceAdd, addW.eq_1, addW.eq_2, addW.eq_3, addW.eq_4, addW.eq_5, subW.eq_1, subW.eq_2, mulW.eq_1, mulW.eq_2, mulW.eq_3, intOp.eq_1, negW.eq_1, ordW.eq_1, ordW.eq_2, isW.eq_1, isntW.eq_1, ixW.eq_1, ixW.eq_2, ixW.eq_3, slW.eq_1, slW.eq_2, slW.eq_3, revTW.eq_1, revLW.eq_1, lenW.eq_1, lenW.eq_2, lenW.eq_3, tupleW.eq_1, tupleW.eq_2, listW.eq_1, listW.eq_2, min2W.eq_1, max2W.eq_1, strW.eq_1, strW.eq_2, joinW.eq_1, joinW.eq_2, walkLW.eq_1, walkTW.eq_1, walkSW.eq_1, range1W.eq_1, zipW.eq_1, zipW.eq_2, tupG.eq_1, gsW.eq_1, gsW.eq_2, par2.eq_1, extW.eq_1, extW.eq_2, partW.eq_1, optW.eq_1, optW.eq_2, modW, fdivW, powW, ltW, leW, gtW, geW, isNone, isi_non, isi_bl, isi_int, isi_str, isi_tup, isi_lst, upperW, putW, appW, tupW, lstW, asB_bl, String.reduceBEq, beq_self_eq_true, Bool.or_true, Bool.true_or, Bool.or_false, Bool.false_or, Bool.and_true, Bool.true_and, Bool.and_false, Bool.false_and, Bool.not_true, Bool.not_false, forall_const, true_implies, true_and, and_true, false_implies, reduceCtorEq, List.length_cons, List.length_nil, forall_eq, imp_self, implies_true, if_true, if_false, Bool.false_eq_true, Bool.true_eq_false]
  have e0 := neW_rows L []
  unfold rowsT at e0
  rw [List.map_nil] at e0
  rw [e0]
  have eb : decide (0 < (sumR L).length) = !decide (L = []) := by
    by_cases z : L = []
    · subst z
      rw [sumR_nil]
      rfl
    · rw [decide_eq_false z]
      refine decide_eq_true (List.length_pos_iff.mpr fun y => ?_)
      cases L with
      | nil => exact z rfl
      | cons r L =>
        have h1 : PK.pk r ∈ skeys (r :: L) := mem_skeys.mpr (List.mem_map.mpr ⟨r, List.mem_cons_self, rfl⟩)
        rw [← sumR_keys, y] at h1
        cases h1
  have c1 : (Str.ofString "Heap(").length = 5 := by decide +kernel
  have c2 : (Str.ofString ")").length = 1 := by decide +kernel
  have c3 : (Str.ofString "[Heap(").length = 6 := by decide +kernel
  have c4 : (Str.ofString ")]").length = 2 := by decide +kernel
  have er : reprR (sumR L) = Str.ofString "Heap(" ++ shownR (sumR L) ++ Str.ofString ")" := by
    unfold reprR
    rw [empty_app]
  have eo : oneT (reprR (sumR L)) = Str.ofString "[Heap(" ++ shownR (sumR L) ++ Str.ofString ")]" := by
    have e1 : oneT (reprR (sumR L)) = ("[" : Str) ++ ((if 0 > 0 then ", " else "" : String) : Str) ++ reprR (sumR L) ++ ("]" : Str) := rfl
    have e2 : ("[" : Str) ++ ((if 0 > 0 then ", " else "" : String) : Str) ++ Str.ofString "Heap(" = Str.ofString "[Heap(" := by decide +kernel
    have e3 : Str.ofString ")" ++ ("]" : Str) = Str.ofString ")]" := by decide +kernel
    rw [e1, er, ← app_assoc, ← app_assoc, e2, app_assoc _ (Str.ofString ")"), e3]
  simp only [strLen_append, W.bind_wp, W.ret_wp, W.want_wp, W.any_wp, s_ite, s_get0, s_get, s_then, s_end, s_run, s_calm, s_fail, s_start1, s_start2, s_start3, s_start4, s_start5, List.replicate, List.set_cons_zero, List.set_cons_succ, asB_bl, asS_str, Nat.reduceSub, Nat.reduceAdd, addW.eq_1, addW.eq_2, addW.eq_3, addW.eq_4, addW.eq_5, subW.eq_1, subW.eq_2, mulW.eq_1, mulW.eq_2, mulW.eq_3, intOp.eq_1, negW.eq_1, ordW.eq_1, ordW.eq_2, isW.eq_1, isntW.eq_1, ixW.eq_1, ixW.eq_2, ixW.eq_3, slW.eq_1, slW.eq_2, slW.eq_3, revTW.eq_1, revLW.eq_1, lenW.eq_1, lenW.eq_2, lenW.eq_3, tupleW.eq_1, tupleW.eq_2, listW.eq_1, listW.eq_2, min2W.eq_1, max2W.eq_1, strW.eq_1, strW.eq_2, joinW.eq_1, joinW.eq_2, walkLW.eq_1, walkTW.eq_1, walkSW.eq_1, range1W.eq_1, zipW.eq_1, zipW.eq_2, tupG.eq_1, gsW.eq_1, gsW.eq_2, par2.eq_1, extW.eq_1, extW.eq_2, partW.eq_1, optW.eq_1, optW.eq_2, modW, fdivW, powW, ltW, leW, gtW, geW, isNone, isi_non, isi_bl, isi_int, isi_str, isi_tup, isi_lst, upperW, putW, appW, tupW, lstW, asB_bl, String.reduceBEq, beq_self_eq_true, Bool.or_true, Bool.true_or, Bool.or_false, Bool.false_or, Bool.and_true, Bool.true_and, Bool.and_false, Bool.false_and, Bool.not_true, Bool.not_false, forall_const, true_implies, true_and, and_true, false_implies, reduceCtorEq, List.length_cons, List.length_nil, forall_eq, imp_self, implies_true, if_true, if_false, Bool.false_eq_true, Bool.true_eq_false]
  refine ⟨by decide, small (by omega), small (by omega), small (by omega), small (by omega), by decide, ?_⟩
  rw [eo, er, ← eb, six_eq]
  exact q
/-! ### the lots -/
theorem cut_tail {α : Type} (l : List α) : cutD l (some 1) none = l.drop 1 := by
  have e : HT.sIx l.length 0 (some 1) = min 1 l.length := HT.sIx_nat l.length 0 1
  unfold cutD
  rw [e, HT.sIx_none]
  cases l with
  | nil => rfl
  | cons x l =>
    have : min 1 (x :: l).length = 1 := by rw [List.length_cons]; omega
    rw [this]
    show l.take (l.length + 1 - 1) = l
    rw [Nat.add_sub_cancel, List.take_length]
theorem cut_x {n : Nat} (h0 : 1 ≤ n) (h8 : n ≤ 8) : cutS (Str.ofString "x") (some ((n : Int) / 8)) none = if n < 8 then Str.ofString "x" else Str.empty := by
  have : ∀ m : Fin 9, 1 ≤ m.val → cutS (Str.ofString "x") (some ((m.val : Int) / 8)) none = if m.val < 8 then Str.ofString "x" else Str.empty := by decide +kernel
  exact this ⟨n, by omega⟩ h0
theorem word_x {y : Str} (h : Word y) : Word (y ++ cutS (Str.ofString "x") (some ((y.length : Int) / 8)) none) := by
  have e1 := h.one
  have e8 := h.eight
  rw [cut_x e1 e8]
  have c1 : (Str.ofString "x").length = 1 := by decide +kernel
  have c0 : (Str.empty).length = 0 := by decide +kernel
  by_cases z : y.length < 8
  · rw [if_pos z]
    refine ⟨by rw [strLen_append]; omega, by rw [strLen_append]; omega, fun c hc => ?_⟩
    rw [cps_app] at hc
    rcases List.mem_append.mp hc with g | g
    · exact h.low c g
    · have : ∀ c ∈ (Str.ofString "x").cps.toList, 97 ≤ c ∧ c ≤ 122 := by decide +kernel
      exact this c g
  · rw [if_neg z]
    refine ⟨by rw [strLen_append]; omega, by rw [strLen_append]; omega, fun c hc => ?_⟩
    rw [cps_app] at hc
    rcases List.mem_append.mp hc with g | g
    · exact h.low c g
    · have : ∀ c ∈ (Str.empty).cps.toList, 97 ≤ c ∧ c ≤ 122 := by decide +kernel
      exact this c g
theorem at_last {α : Type} {l : List α} (h : l ≠ []) (f : α → D) : ∃ y ∈ l, atI (l.map f) (-1) = some (f y) := by
  have l0 : 0 < l.length := List.length_pos_iff.mpr h
  refine ⟨l[l.length - 1], List.getElem_mem _, ?_⟩
  unfold atI ixN
  rw [List.length_map, if_neg (by omega), if_pos (by omega)]
  have : (-1 + (l.length : Int)).toNat = l.length - 1 := by omega
  show (l.map f)[(-1 + (l.length : Int)).toNat]? = _
  rw [this, List.getElem?_map, List.getElem?_eq_getElem (by omega)]
  rfl
def halfA (r : PRow) : PRow := (r.1, r.2.1, r.2.2 - r.2.2 / 2)
def halfB (r : PRow) : PRow := (r.1, r.2.1, r.2.2 / 2)
theorem lots_wp {fs ss : List Str} {Q : D → Prop} {E : Ex → Prop} (f0 : fs ≠ []) (s0 : ss ≠ []) (f4 : fs.length ≤ 4) (s4 : ss.length ≤ 4) (fw : ∀ y ∈ fs, Word y) (sw : ∀ y ∈ ss, Word y)
    (q : ∀ Ls : List (List PRow), Ls.length ≤ 8 → (∀ G ∈ Ls, RowsOk 17 1000000000 G) → Q (.lst (Ls.map rowsT))) : (fLots [.tok 0, .lst (fs.map D.str), .lst (ss.map D.str)]).wp Q E := by
  refine ⟨rfl, ?_⟩
  show (endW (bLots (startE 10 [.tok 0, .lst (fs.map D.str), .lst (ss.map D.str)]))).wp Q E
  simp only [bLots, W.bind_wp, W.ret_wp, W.want_wp, W.any_wp, s_ite, s_get0, s_get, s_then, s_end, s_run, s_calm, s_fail, s_start1, s_start2, s_start3, s_start4, s_start5, List.replicate, List.set_cons_zero, List.set_cons_succ, asB_bl, asS_str, Nat.reduceSub, Nat.reduceAdd, addW.eq_1, addW.eq_2, addW.eq_3, addW.eq_4, addW.eq_5, subW.eq_1, subW.eq_2, mulW.eq_1, mulW.eq_2, mulW.eq_3, intOp.eq_1, negW.eq_1, ordW.eq_1, ordW.eq_2, isW.eq_1, isntW.eq_1, ixW.eq_1, ixW.eq_2, ixW.eq_3, slW.eq_1, slW.eq_2, slW.eq_3, revTW.eq_1, revLW.eq_1, lenW.eq_1, lenW.eq_2, lenW.eq_3, tupleW.eq_1, tupleW.eq_2, listW.eq_1, listW.eq_2, min2W.eq_1, max2W.eq_1, strW.eq_1, strW.eq_2, joinW.eq_1, joinW.eq_2, walkLW.eq_1, walkTW.eq_1, walkSW.eq_1, range1W.eq_1, zipW.eq_1, zipW.eq_2, tupG.eq_1, gsW.eq_1, gsW.eq_2, par2.eq_1, extW.eq_1, extW.eq_2, partW.eq_1, optW.eq_1, optW.eq_2, modW, fdivW, powW, ltW, leW, gtW, geW, isNone, isi_non, isi_bl, isi_int, isi_str, isi_tup, isi_lst, upperW, putW, appW, tupW, lstW, asB_bl, String.reduceBEq, beq_self_eq_true, Bool.or_true, Bool.true_or, Bool.or_false, Bool.false_or, Bool.and_true, Bool.true_and, Bool.and_false, Bool.false_and, Bool.not_true, Bool.not_false, forall_const, true_implies, true_and, and_true, false_implies, reduceCtorEq, List.length_cons, List.length_nil, forall_eq, imp_self, implies_true, if_true, if_false, Bool.false_eq_true, Bool.true_eq_false]
  refine lrows_wp (m := 8) f0 (by omega) s0 (by omega) (by decide) fun L lr => ?_
  refine lrows_wp (m := 8) f0 (by omega) s0 (by omega) (by decide) fun M mr => ?_
  have ok : ∀ {G}, LR fs ss 8 G → RowsOk 8 1000000000 G := fun h => ⟨h.len, fun r hr => by
    obtain ⟨h1, h2, h3, h4⟩ := h.each r hr
    exact ⟨fw _ h1, sw _ h2, h3, h4⟩⟩
  have oL := ok lr
  have oM := ok mr
  have l8 := oL.len
  have hlL : (L.map rowT).length ≤ sizeLine := by rw [List.length_map]; exact small (by omega)
  simp only [bLots_5, W.bind_wp, W.ret_wp, W.want_wp, W.any_wp, s_ite, s_get0, s_get, s_then, s_end, s_run, s_calm, s_fail, s_start1, s_start2, s_start3, s_start4, s_start5, List.replicate, List.set_cons_zero, List.set_cons_succ, asB_bl, asS_str, Nat.reduceSub, Nat.reduceAdd, addW.eq_1, addW.eq_2, addW.eq_3, addW.eq_4, addW.eq_5, subW.eq_1, subW.eq_2, mulW.eq_1, mulW.eq_2, mulW.eq_3, intOp.eq_1, negW.eq_1, ordW.eq_1, ordW.eq_2, isW.eq_1, isntW.eq_1, ixW.eq_1, ixW.eq_2, ixW.eq_3, slW.eq_1, slW.eq_2, slW.eq_3, revTW.eq_1, revLW.eq_1, lenW.eq_1, lenW.eq_2, lenW.eq_3, tupleW.eq_1, tupleW.eq_2, listW.eq_1, listW.eq_2, min2W.eq_1, max2W.eq_1, strW.eq_1, strW.eq_2, joinW.eq_1, joinW.eq_2, walkLW.eq_1, walkTW.eq_1, walkSW.eq_1, range1W.eq_1, zipW.eq_1, zipW.eq_2, tupG.eq_1, gsW.eq_1, gsW.eq_2, par2.eq_1, extW.eq_1, extW.eq_2, partW.eq_1, optW.eq_1, optW.eq_2, modW, fdivW, powW, ltW, leW, gtW, geW, isNone, isi_non, isi_bl, isi_int, isi_str, isi_tup, isi_lst, upperW, putW, appW, tupW, lstW, asB_bl, String.reduceBEq, beq_self_eq_true, Bool.or_true, Bool.true_or, Bool.or_false, Bool.false_or, Bool.and_true, Bool.true_and, Bool.and_false, Bool.false_and, Bool.not_true, Bool.not_false, forall_const, true_implies, true_and, and_true, false_implies, reduceCtorEq, List.length_cons, List.length_nil, forall_eq, imp_self, implies_true, if_true, if_false, Bool.false_eq_true, Bool.true_eq_false]
  refine Ret.go (lc_map (ds := L.map rowT) (fun d => match rowOf d with | some r => rowT (halfA r) | none => d) (fun Q E q => by
    simp only [rowsT, W.bind_wp, W.ret_wp, W.want_wp, W.any_wp, s_ite, s_get0, s_get, s_then, s_end, s_run, s_calm, s_fail, s_start1, s_start2, s_start3, s_start4, s_start5, List.replicate, List.set_cons_zero, List.set_cons_succ, asB_bl, asS_str, Nat.reduceSub, Nat.reduceAdd, addW.eq_1, addW.eq_2, addW.eq_3, addW.eq_4, addW.eq_5, subW.eq_1, subW.eq_2, mulW.eq_1, mulW.eq_2, mulW.eq_3, intOp.eq_1, negW.eq_1, ordW.eq_1, ordW.eq_2, isW.eq_1, isntW.eq_1, ixW.eq_1, ixW.eq_2, ixW.eq_3, slW.eq_1, slW.eq_2, slW.eq_3, revTW.eq_1, revLW.eq_1, lenW.eq_1, lenW.eq_2, lenW.eq_3, tupleW.eq_1, tupleW.eq_2, listW.eq_1, listW.eq_2, min2W.eq_1, max2W.eq_1, strW.eq_1, strW.eq_2, joinW.eq_1, joinW.eq_2, walkLW.eq_1, walkTW.eq_1, walkSW.eq_1, range1W.eq_1, zipW.eq_1, zipW.eq_2, tupG.eq_1, gsW.eq_1, gsW.eq_2, par2.eq_1, extW.eq_1, extW.eq_2, partW.eq_1, optW.eq_1, optW.eq_2, modW, fdivW, powW, ltW, leW, gtW, geW, isNone, isi_non, isi_bl, isi_int, isi_str, isi_tup, isi_lst, upperW, putW, appW, tupW, lstW, asB_bl, String.reduceBEq, beq_self_eq_true, Bool.or_true, Bool.true_or, Bool.or_false, Bool.false_or, Bool.and_true, Bool.true_and, Bool.and_false, Bool.false_and, Bool.not_true, Bool.not_false, forall_const, true_implies, true_and, and_true, false_implies, reduceCtorEq, List.length_cons, List.length_nil, forall_eq, imp_self, implies_true, if_true, if_false, Bool.false_eq_true, Bool.true_eq_false]
    exact q) hlL fun d hd => ?_) ?_
  · obtain ⟨r, hr, rfl⟩ := List.mem_map.mp hd
    simp only [wipeE, rowT, W.bind_wp, W.ret_wp, W.want_wp, W.any_wp, s_ite, s_get0, s_get, s_then, s_end, s_run, s_calm, s_fail, s_start1, s_start2, s_start3, s_start4, s_start5, List.replicate, List.set_cons_zero, List.set_cons_succ, asB_bl, asS_str, Nat.reduceSub, Nat.reduceAdd, addW.eq_1, addW.eq_2, addW.eq_3, addW.eq_4, addW.eq_5, subW.eq_1, subW.eq_2, mulW.eq_1, mulW.eq_2, mulW.eq_3, intOp.eq_1, negW.eq_1, ordW.eq_1, ordW.eq_2, isW.eq_1, isntW.eq_1, ixW.eq_1, ixW.eq_2, ixW.eq_3, slW.eq_1, slW.eq_2, slW.eq_3, revTW.eq_1, revLW.eq_1, lenW.eq_1, lenW.eq_2, lenW.eq_3, tupleW.eq_1, tupleW.eq_2, listW.eq_1, listW.eq_2, min2W.eq_1, max2W.eq_1, strW.eq_1, strW.eq_2, joinW.eq_1, joinW.eq_2, walkLW.eq_1, walkTW.eq_1, walkSW.eq_1, range1W.eq_1, zipW.eq_1, zipW.eq_2, tupG.eq_1, gsW.eq_1, gsW.eq_2, par2.eq_1, extW.eq_1, extW.eq_2, partW.eq_1, optW.eq_1, optW.eq_2, modW, fdivW, powW, ltW, leW, gtW, geW, isNone, isi_non, isi_bl, isi_int, isi_str, isi_tup, isi_lst, upperW, putW, appW, tupW, lstW, asB_bl, String.reduceBEq, beq_self_eq_true, Bool.or_true, Bool.true_or, Bool.or_false, Bool.false_or, Bool.and_true, Bool.true_and, Bool.and_false, Bool.false_and, Bool.not_true, Bool.not_false, forall_const, true_implies, true_and, and_true, false_implies, reduceCtorEq, List.length_cons, List.length_nil, forall_eq, imp_self, implies_true, if_true, if_false, Bool.false_eq_true, Bool.true_eq_false]
    exact ⟨⟨by decide, by decide⟩, by decide, rfl⟩
  have eA : (L.map rowT).map (fun d => match rowOf d with | some r => rowT (halfA r) | none => d) = (L.map halfA).map rowT := by
    rw [List.map_map, List.map_map]
    rfl
  rw [eA]
  simp only [bLots_4, W.bind_wp, W.ret_wp, W.want_wp, W.any_wp, s_ite, s_get0, s_get, s_then, s_end, s_run, s_calm, s_fail, s_start1, s_start2, s_start3, s_start4, s_start5, List.replicate, List.set_cons_zero, List.set_cons_succ, asB_bl, asS_str, Nat.reduceSub, Nat.reduceAdd, addW.eq_1, addW.eq_2, addW.eq_3, addW.eq_4, addW.eq_5, subW.eq_1, subW.eq_2, mulW.eq_1, mulW.eq_2, mulW.eq_3, intOp.eq_1, negW.eq_1, ordW.eq_1, ordW.eq_2, isW.eq_1, isntW.eq_1, ixW.eq_1, ixW.eq_2, ixW.eq_3, slW.eq_1, slW.eq_2, slW.eq_3, revTW.eq_1, revLW.eq_1, lenW.eq_1, lenW.eq_2, lenW.eq_3, tupleW.eq_1, tupleW.eq_2, listW.eq_1, listW.eq_2, min2W.eq_1, max2W.eq_1, strW.eq_1, strW.eq_2, joinW.eq_1, joinW.eq_2, walkLW.eq_1, walkTW.eq_1, walkSW.eq_1, range1W.eq_1, zipW.eq_1, zipW.eq_2, tupG.eq_1, gsW.eq_1, gsW.eq_2, par2.eq_1, extW.eq_1, extW.eq_2, partW.eq_1, optW.eq_1, optW.eq_2, modW, fdivW, powW, ltW, leW, gtW, geW, isNone, isi_non, isi_bl, isi_int, isi_str, isi_tup, isi_lst, upperW, putW, appW, tupW, lstW, asB_bl, String.reduceBEq, beq_self_eq_true, Bool.or_true, Bool.true_or, Bool.or_false, Bool.false_or, Bool.and_true, Bool.true_and, Bool.and_false, Bool.false_and, Bool.not_true, Bool.not_false, forall_const, true_implies, true_and, and_true, false_implies, reduceCtorEq, List.length_cons, List.length_nil, forall_eq, imp_self, implies_true, if_true, if_false, Bool.false_eq_true, Bool.true_eq_false]
  refine Ret.go (lc_ret (ds := L.map rowT) (fun d => match rowOf d with | some r => decide (r.2.2 > 1) | none => false) (fun d => match rowOf d with | some r => rowT (halfB r) | none => d) (fun Q E q => by
    simp only [rowsT, W.bind_wp, W.ret_wp, W.want_wp, W.any_wp, s_ite, s_get0, s_get, s_then, s_end, s_run, s_calm, s_fail, s_start1, s_start2, s_start3, s_start4, s_start5, List.replicate, List.set_cons_zero, List.set_cons_succ, asB_bl, asS_str, Nat.reduceSub, Nat.reduceAdd, addW.eq_1, addW.eq_2, addW.eq_3, addW.eq_4, addW.eq_5, subW.eq_1, subW.eq_2, mulW.eq_1, mulW.eq_2, mulW.eq_3, intOp.eq_1, negW.eq_1, ordW.eq_1, ordW.eq_2, isW.eq_1, isntW.eq_1, ixW.eq_1, ixW.eq_2, ixW.eq_3, slW.eq_1, slW.eq_2, slW.eq_3, revTW.eq_1, revLW.eq_1, lenW.eq_1, lenW.eq_2, lenW.eq_3, tupleW.eq_1, tupleW.eq_2, listW.eq_1, listW.eq_2, min2W.eq_1, max2W.eq_1, strW.eq_1, strW.eq_2, joinW.eq_1, joinW.eq_2, walkLW.eq_1, walkTW.eq_1, walkSW.eq_1, range1W.eq_1, zipW.eq_1, zipW.eq_2, tupG.eq_1, gsW.eq_1, gsW.eq_2, par2.eq_1, extW.eq_1, extW.eq_2, partW.eq_1, optW.eq_1, optW.eq_2, modW, fdivW, powW, ltW, leW, gtW, geW, isNone, isi_non, isi_bl, isi_int, isi_str, isi_tup, isi_lst, upperW, putW, appW, tupW, lstW, asB_bl, String.reduceBEq, beq_self_eq_true, Bool.or_true, Bool.true_or, Bool.or_false, Bool.false_or, Bool.and_true, Bool.true_and, Bool.and_false, Bool.false_and, Bool.not_true, Bool.not_false, forall_const, true_implies, true_and, and_true, false_implies, reduceCtorEq, List.length_cons, List.length_nil, forall_eq, imp_self, implies_true, if_true, if_false, Bool.false_eq_true, Bool.true_eq_false]
    exact q) hlL fun d hd => ?_) ?_
  · obtain ⟨r, hr, rfl⟩ := List.mem_map.mp hd
    simp only [wipeE, rowT, W.bind_wp, W.ret_wp, W.want_wp, W.any_wp, s_ite, s_get0, s_get, s_then, s_end, s_run, s_calm, s_fail, s_start1, s_start2, s_start3, s_start4, s_start5, List.replicate, List.set_cons_zero, List.set_cons_succ, asB_bl, asS_str, Nat.reduceSub, Nat.reduceAdd, addW.eq_1, addW.eq_2, addW.eq_3, addW.eq_4, addW.eq_5, subW.eq_1, subW.eq_2, mulW.eq_1, mulW.eq_2, mulW.eq_3, intOp.eq_1, negW.eq_1, ordW.eq_1, ordW.eq_2, isW.eq_1, isntW.eq_1, ixW.eq_1, ixW.eq_2, ixW.eq_3, slW.eq_1, slW.eq_2, slW.eq_3, revTW.eq_1, revLW.eq_1, lenW.eq_1, lenW.eq_2, lenW.eq_3, tupleW.eq_1, tupleW.eq_2, listW.eq_1, listW.eq_2, min2W.eq_1, max2W.eq_1, strW.eq_1, strW.eq_2, joinW.eq_1, joinW.eq_2, walkLW.eq_1, walkTW.eq_1, walkSW.eq_1, range1W.eq_1, zipW.eq_1, zipW.eq_2, tupG.eq_1, gsW.eq_1, gsW.eq_2, par2.eq_1, extW.eq_1, extW.eq_2, partW.eq_1, optW.eq_1, optW.eq_2, modW, fdivW, powW, ltW, leW, gtW, geW, isNone, isi_non, isi_bl, isi_int, isi_str, isi_tup, isi_lst, upperW, putW, appW, tupW, lstW, asB_bl, String.reduceBEq, beq_self_eq_true, Bool.or_true, Bool.true_or, Bool.or_false, Bool.false_or, Bool.and_true, Bool.true_and, Bool.and_false, Bool.false_and, Bool.not_true, Bool.not_false, forall_const, true_implies, true_and, and_true, false_implies, reduceCtorEq, List.length_cons, List.length_nil, forall_eq, imp_self, implies_true, if_true, if_false, Bool.false_eq_true, Bool.true_eq_false]
    exact ⟨rfl, fun _ => ⟨⟨by decide, by decide⟩, by decide, rfl⟩⟩
  have eB : ((L.map rowT).filter (fun d => match rowOf d with | some r => decide (r.2.2 > 1) | none => false)).map (fun d => match rowOf d with | some r => rowT (halfB r) | none => d) = ((L.filter fun r => decide (r.2.2 > 1)).map halfB).map rowT := by
    rw [List.filter_map, List.map_map, List.map_map]
    rfl
  rw [eB]
  simp only [List.length_map, W.bind_wp, W.ret_wp, W.want_wp, W.any_wp, s_ite, s_get0, s_get, s_then, s_end, s_run, s_calm, s_fail, s_start1, s_start2, s_start3, s_start4, s_start5, List.replicate, List.set_cons_zero, List.set_cons_succ, asB_bl, asS_str, Nat.reduceSub, Nat.reduceAdd, addW.eq_1, addW.eq_2, addW.eq_3, addW.eq_4, addW.eq_5, subW.eq_1, subW.eq_2, mulW.eq_1, mulW.eq_2, mulW.eq_3, intOp.eq_1, negW.eq_1, ordW.eq_1, ordW.eq_2, isW.eq_1, isntW.eq_1, ixW.eq_1, ixW.eq_2, ixW.eq_3, slW.eq_1, slW.eq_2, slW.eq_3, revTW.eq_1, revLW.eq_1, lenW.eq_1, lenW.eq_2, lenW.eq_3, tupleW.eq_1, tupleW.eq_2, listW.eq_1, listW.eq_2, min2W.eq_1, max2W.eq_1, strW.eq_1, strW.eq_2, joinW.eq_1, joinW.eq_2, walkLW.eq_1, walkTW.eq_1, walkSW.eq_1, range1W.eq_1, zipW.eq_1, zipW.eq_2, tupG.eq_1, gsW.eq_1, gsW.eq_2, par2.eq_1, extW.eq_1, extW.eq_2, partW.eq_1, optW.eq_1, optW.eq_2, modW, fdivW, powW, ltW, leW, gtW, geW, isNone, isi_non, isi_bl, isi_int, isi_str, isi_tup, isi_lst, upperW, putW, appW, tupW, lstW, asB_bl, String.reduceBEq, beq_self_eq_true, Bool.or_true, Bool.true_or, Bool.or_false, Bool.false_or, Bool.and_true, Bool.true_and, Bool.and_false, Bool.false_and, Bool.not_true, Bool.not_false, forall_const, true_implies, true_and, and_true, false_implies, reduceCtorEq, List.length_cons, List.length_nil, forall_eq, imp_self, implies_true, if_true, if_false, Bool.false_eq_true, Bool.true_eq_false]
  have hf := List.length_filter_le (fun r : PRow => decide (r.2.2 > 1)) L
  refine ⟨small (by omega), ?_⟩
  rw [← List.map_append]
  have oH : RowsOk 17 1000000000 (L.map halfA ++ (L.filter fun r => decide (r.2.2 > 1)).map halfB) := by
    refine ⟨by rw [List.length_append, List.length_map, List.length_map]; omega, fun r hr => ?_⟩
    rcases List.mem_append.mp hr with h | h
    · obtain ⟨x, hx, rfl⟩ := List.mem_map.mp h
      have o := oL.each x hx
      have a := o.lo
      have b := o.hi
      exact ⟨o.f, o.s, by show 1 ≤ x.2.2 - x.2.2 / 2; omega, by show x.2.2 - x.2.2 / 2 ≤ _; omega⟩
    · obtain ⟨x, hx, rfl⟩ := List.mem_map.mp h
      obtain ⟨hx, h1⟩ := List.mem_filter.mp hx
      have h1 := of_decide_eq_true h1
      have o := oL.each x hx
      have b := o.hi
      exact ⟨o.f, o.s, by show 1 ≤ x.2.2 / 2; omega, by show x.2.2 / 2 ≤ _; omega⟩
  generalize L.map halfA ++ (L.filter fun r => decide (r.2.2 > 1)).map halfB = H at oH
  obtain ⟨f, fr, rfl⟩ := List.exists_cons_of_ne_nil f0
  obtain ⟨s, sr, rfl⟩ := List.exists_cons_of_ne_nil s0
  have w1 := fw f List.mem_cons_self
  have w2 := sw s List.mem_cons_self
  have a1 : atI ((f :: fr).map D.str) 0 = some (.str f) := by
    have : atI ((f :: fr).map D.str) ((0 : Nat) : Int) = some (.str f) := atI_nat rfl
    exact this
  have a2 : atI ((s :: sr).map D.str) 0 = some (.str s) := by
    have : atI ((s :: sr).map D.str) ((0 : Nat) : Int) = some (.str s) := atI_nat rfl
    exact this
  have hH := oH.len
  simp only [bLots_3, a1, a2, rowsT, W.bind_wp, W.ret_wp, W.want_wp, W.any_wp, s_ite, s_get0, s_get, s_then, s_end, s_run, s_calm, s_fail, s_start1, s_start2, s_start3, s_start4, s_start5, List.replicate, List.set_cons_zero, List.set_cons_succ, asB_bl, asS_str, Nat.reduceSub, Nat.reduceAdd, addW.eq_1, addW.eq_2, addW.eq_3, addW.eq_4, addW.eq_5, subW.eq_1, subW.eq_2, mulW.eq_1, mulW.eq_2, mulW.eq_3, intOp.eq_1, negW.eq_1, ordW.eq_1, ordW.eq_2, isW.eq_1, isntW.eq_1, ixW.eq_1, ixW.eq_2, ixW.eq_3, slW.eq_1, slW.eq_2, slW.eq_3, revTW.eq_1, revLW.eq_1, lenW.eq_1, lenW.eq_2, lenW.eq_3, tupleW.eq_1, tupleW.eq_2, listW.eq_1, listW.eq_2, min2W.eq_1, max2W.eq_1, strW.eq_1, strW.eq_2, joinW.eq_1, joinW.eq_2, walkLW.eq_1, walkTW.eq_1, walkSW.eq_1, range1W.eq_1, zipW.eq_1, zipW.eq_2, tupG.eq_1, gsW.eq_1, gsW.eq_2, par2.eq_1, extW.eq_1, extW.eq_2, partW.eq_1, optW.eq_1, optW.eq_2, modW, fdivW, powW, ltW, leW, gtW, geW, isNone, isi_non, isi_bl, isi_int, isi_str, isi_tup, isi_lst, upperW, putW, appW, tupW, lstW, asB_bl, String.reduceBEq, beq_self_eq_true, Bool.or_true, Bool.true_or, Bool.or_false, Bool.false_or, Bool.and_true, Bool.true_and, Bool.and_false, Bool.false_and, Bool.not_true, Bool.not_false, forall_const, true_implies, true_and, and_true, false_implies, reduceCtorEq, List.length_cons, List.length_nil, forall_eq, imp_self, implies_true, if_true, if_false, Bool.false_eq_true, Bool.true_eq_false]
  refine ⟨by decide, by decide, by decide, by rw [List.length_map]; exact small (by omega), by decide, by decide, ?_⟩
  have e7 : [D.tup (L.map rowT), D.tup (M.map rowT), D.tup (L.map rowT).reverse, D.tup (H.map rowT), D.tup [], D.tup (L.map rowT ++ [D.tup [D.str f, D.str s, D.int 1]]), D.tup (cutD (L.map rowT) (some 1) none)] = [L, M, L.reverse, H, [], L ++ [(f, s, 1)], L.drop 1].map rowsT := by
    rw [cut_tail, ← List.map_reverse, ← List.map_drop]
    show _ = [rowsT L, rowsT M, rowsT L.reverse, rowsT H, rowsT [], rowsT (L ++ [(f, s, 1)]), rowsT (L.drop 1)]
    have ea : rowsT (L ++ [(f, s, 1)]) = D.tup (L.map rowT ++ [D.tup [D.str f, D.str s, D.int 1]]) := by
      unfold rowsT
      rw [List.map_append]
      rfl
    rw [ea]
    rfl
  rw [e7]
  have oD : RowsOk 17 1000000000 (L.drop 1) := ⟨by rw [List.length_drop]; omega, fun r hr => oL.each r (List.mem_of_mem_drop hr)⟩
  have all7 : ∀ G ∈ [L, M, L.reverse, H, [], L ++ [(f, s, 1)], L.drop 1], RowsOk 17 1000000000 G := by
    intro G hG
    simp only [List.mem_cons, List.not_mem_nil, or_false] at hG
    rcases hG with rfl | rfl | rfl | rfl | rfl | rfl | rfl
    · exact oL.mono (by decide) (Int.le_refl _)
    · exact oM.mono (by decide) (Int.le_refl _)
    · exact ⟨by rw [List.length_reverse]; omega, fun r hr => oL.each r (List.mem_reverse.mp hr)⟩
    · exact oH
    · exact ⟨Nat.zero_le _, fun r hr => (nomatch hr)⟩
    · refine ⟨by rw [List.length_append, List.length_singleton]; omega, fun r hr => ?_⟩
      rcases List.mem_append.mp hr with h | h
      · exact oL.each r h
      · rw [List.mem_singleton.mp h]
        exact ⟨w1, w2, Int.le_refl _, by show (1 : Int) ≤ _; decide⟩
    · exact oD
  have l7 : [L, M, L.reverse, H, [], L ++ [(f, s, 1)], L.drop 1].length = 7 := rfl
  generalize [L, M, L.reverse, H, [], L ++ [(f, s, 1)], L.drop 1] = Ls at all7 l7
  obtain ⟨y, hy, al⟩ := at_last (l := s :: sr) (List.cons_ne_nil _ _) D.str
  have wy := sw y hy
  have e0 := neW_rows L []
  unfold rowsT at e0
  rw [List.map_nil] at e0
  simp only [bLots_2, e0, W.bind_wp, W.ret_wp, W.want_wp, W.any_wp, s_ite, s_get0, s_get, s_then, s_end, s_run, s_calm, s_fail, s_start1, s_start2, s_start3, s_start4, s_start5, List.replicate, List.set_cons_zero, List.set_cons_succ, asB_bl, asS_str, Nat.reduceSub, Nat.reduceAdd, addW.eq_1, addW.eq_2, addW.eq_3, addW.eq_4, addW.eq_5, subW.eq_1, subW.eq_2, mulW.eq_1, mulW.eq_2, mulW.eq_3, intOp.eq_1, negW.eq_1, ordW.eq_1, ordW.eq_2, isW.eq_1, isntW.eq_1, ixW.eq_1, ixW.eq_2, ixW.eq_3, slW.eq_1, slW.eq_2, slW.eq_3, revTW.eq_1, revLW.eq_1, lenW.eq_1, lenW.eq_2, lenW.eq_3, tupleW.eq_1, tupleW.eq_2, listW.eq_1, listW.eq_2, min2W.eq_1, max2W.eq_1, strW.eq_1, strW.eq_2, joinW.eq_1, joinW.eq_2, walkLW.eq_1, walkTW.eq_1, walkSW.eq_1, range1W.eq_1, zipW.eq_1, zipW.eq_2, tupG.eq_1, gsW.eq_1, gsW.eq_2, par2.eq_1, extW.eq_1, extW.eq_2, partW.eq_1, optW.eq_1, optW.eq_2, modW, fdivW, powW, ltW, leW, gtW, geW, isNone, isi_non, isi_bl, isi_int, isi_str, isi_tup, isi_lst, upperW, putW, appW, tupW, lstW, asB_bl, String.reduceBEq, beq_self_eq_true, Bool.or_true, Bool.true_or, Bool.or_false, Bool.false_or, Bool.and_true, Bool.true_and, Bool.and_false, Bool.false_and, Bool.not_true, Bool.not_false, forall_const, true_implies, true_and, and_true, false_implies, reduceCtorEq, List.length_cons, List.length_nil, forall_eq, imp_self, implies_true, if_true, if_false, Bool.false_eq_true, Bool.true_eq_false]
  refine ⟨by decide, fun z => ?_, fun z => q Ls (by omega) all7⟩
  have z : L ≠ [] := by simpa using z
  obtain ⟨r, rs, rfl⟩ := List.exists_cons_of_ne_nil z
  have a3 : atI ((r :: rs).map rowT) 0 = some (rowT r) := by
    have : atI ((r :: rs).map rowT) ((0 : Nat) : Int) = some (rowT r) := atI_nat rfl
    exact this
  have or := oL.each r List.mem_cons_self
  have r0 : atI [D.str r.1, D.str r.2.1, D.int r.2.2] 0 = some (.str r.1) := rfl
  have r2 : atI [D.str r.1, D.str r.2.1, D.int r.2.2] 2 = some (.int r.2.2) := rfl
  have c1 : (Str.ofString "x").length = 1 := by decide +kernel
  simp only [bLots_1, a3, al, rowT, r0, r2, c1, W.bind_wp, W.ret_wp, W.want_wp, W.any_wp, s_ite, s_get0, s_get, s_then, s_end, s_run, s_calm, s_fail, s_start1, s_start2, s_start3, s_start4, s_start5, List.replicate, List.set_cons_zero, List.set_cons_succ, asB_bl, asS_str, Nat.reduceSub, Nat.reduceAdd, addW.eq_1, addW.eq_2, addW.eq_3, addW.eq_4, addW.eq_5, subW.eq_1, subW.eq_2, mulW.eq_1, mulW.eq_2, mulW.eq_3, intOp.eq_1, negW.eq_1, ordW.eq_1, ordW.eq_2, isW.eq_1, isntW.eq_1, ixW.eq_1, ixW.eq_2, ixW.eq_3, slW.eq_1, slW.eq_2, slW.eq_3, revTW.eq_1, revLW.eq_1, lenW.eq_1, lenW.eq_2, lenW.eq_3, tupleW.eq_1, tupleW.eq_2, listW.eq_1, listW.eq_2, min2W.eq_1, max2W.eq_1, strW.eq_1, strW.eq_2, joinW.eq_1, joinW.eq_2, walkLW.eq_1, walkTW.eq_1, walkSW.eq_1, range1W.eq_1, zipW.eq_1, zipW.eq_2, tupG.eq_1, gsW.eq_1, gsW.eq_2, par2.eq_1, extW.eq_1, extW.eq_2, partW.eq_1, optW.eq_1, optW.eq_2, modW, fdivW, powW, ltW, leW, gtW, geW, isNone, isi_non, isi_bl, isi_int, isi_str, isi_tup, isi_lst, upperW, putW, appW, tupW, lstW, asB_bl, String.reduceBEq, beq_self_eq_true, Bool.or_true, Bool.true_or, Bool.or_false, Bool.false_or, Bool.and_true, Bool.true_and, Bool.and_false, Bool.false_and, Bool.not_true, Bool.not_false, forall_const, true_implies, true_and, and_true, false_implies, reduceCtorEq, List.length_cons, List.length_nil, forall_eq, imp_self, implies_true, if_true, if_false, Bool.false_eq_true, Bool.true_eq_false]
  have w8 := wy.eight
  have wx := word_x wy
  have wl := wx.eight
  rw [strLen_append] at wl
  have lr : (List.map (fun r : PRow => D.tup [D.str r.1, D.str r.2.1, D.int r.2.2]) (r :: rs)).length = rs.length + 1 := by rw [List.length_map, List.length_cons]
  have l8' : rs.length + 1 ≤ 8 := by rw [← List.length_cons (a := r)]; exact l8
  rw [cut_tail]
  refine ⟨small (by omega), ⟨by decide, by decide⟩, by decide, small (by omega), by decide, by decide, ?_, by rw [List.length_map, l7]; decide, ?_⟩
  · rw [List.length_drop, List.length_map, List.length_cons]
    exact small (by omega)
  · have eG : D.tup ([D.tup [.str r.1, .str (y ++ cutS (Str.ofString "x") (some ((y.length : Int) / 8)) none), .int r.2.2]] ++ ((r :: rs).map rowT).drop 1) = rowsT ((r.1, y ++ cutS (Str.ofString "x") (some ((y.length : Int) / 8)) none, r.2.2) :: rs) := rfl
    have ea := congrArg (fun d => D.lst (Ls.map rowsT ++ [d])) eG
    have eb : Ls.map rowsT ++ [rowsT ((r.1, y ++ cutS (Str.ofString "x") (some ((y.length : Int) / 8)) none, r.2.2) :: rs)] = (Ls ++ [(r.1, y ++ cutS (Str.ofString "x") (some ((y.length : Int) / 8)) none, r.2.2) :: rs]).map rowsT := by
      rw [List.map_append]
      rfl
    have ec := ea.trans (congrArg D.lst eb)
    refine Eq.mp (congrArg Q ec.symm) (q _ (by rw [List.length_append, List.length_singleton]; omega) fun G hG => ?_)
    rcases List.mem_append.mp hG with h | h
    · exact all7 G h
    · rw [List.mem_singleton.mp h]
      refine ⟨by rw [List.length_cons]; omega, fun x hx => ?_⟩
      rcases List.mem_cons.mp hx with rfl | hx
      · exact ⟨or.f, wx, or.lo, or.hi⟩
      · exact oL.each x (List.mem_cons_of_mem _ hx)
end LP.K05
namespace LP.K05
open PySem PySem.Spec PyProof.Rows L2 PK LP RZ
open LP.K17 (rows_sz repr_rows plus_eq addW_rows rows_eq lenH_eq)
theorem eqX_heap {r : Bool} {L : List PRow} {d : D} (h : isKind d = true) : eqXW r (heapD L) d = W.ret (.bl r) := by
  show (optW (heapOf (heapD L))).bind _ = _
  rw [heapOf_D, optW_some, W.ret_bind]
  exact W.want_bind h
theorem xEq_heap {L : List PRow} {d : D} (h : isKind d = true) : xEqW d (heapD L) = W.ret (.bl false) := by
  show (optW (heapOf (heapD L))).bind _ = _
  rw [heapOf_D, optW_some, W.ret_bind]
  exact W.want_bind h
theorem eqH_heap {n : Nat} {b : Int} {L M : List PRow} (h : RowsOk n b L) (g : RowsOk n b M) : eqHW (heapD L) (heapD M) = W.ret (.bl (decide (L = M))) := by
  show (optW (heapOf (heapD L))).bind _ = _
  rw [heapOf_D, optW_some, W.ret_bind, heapOf_D, optW_some, W.ret_bind]
  exact W.want_bind ⟨n, b, h, g⟩
theorem neH_heap {n : Nat} {b : Int} {L M : List PRow} (h : RowsOk n b L) (g : RowsOk n b M) : neHW (heapD L) (heapD M) = W.ret (.bl (!decide (L = M))) := by
  show (optW (heapOf (heapD L))).bind _ = _
  rw [heapOf_D, optW_some, W.ret_bind, heapOf_D, optW_some, W.ret_bind]
  exact W.want_bind ⟨n, b, h, g⟩
theorem repr_two (b c : Bool) : reprD [.tup [.bl b, .bl c]] = W.ret (rp (.tup [.bl b, .bl c])) := by
  have h : ∀ b : Bool, Sz 0 0 100 (.bl b) := fun b => (Sz.bl (m := 0) (dp := 0) (n := 100) (by decide))
  have : Szs 0 0 _ [D.bl b, .bl c] := Szs.cons (h b) (Szs.cons (h c) (Szs.nil (n := 0)))
  exact reprD_eq ((Sz.tup this).mono (by decide) (by decide) (small (by decide)))
structure Lots (Ls : List (List PRow)) : Prop where
  len : Ls.length ≤ 8
  each : ∀ L ∈ Ls, RowsOk 17 1000000000 L
theorem Lots.sum {Ls : List (List PRow)} (h : Lots Ls) {L : List PRow} (hl : L ∈ Ls) : RowsOk 17 (10 ^ 30) (sumR L) := (sumR_ok (by decide) (h.each L hl)).mono (Nat.le_refl _) (by decide)
section
variable {E : Ex → Prop} {e0 e1 e2 e3 e6 e9 e10 : Option D} {Ls : List (List PRow)}
theorem two_wp {k j : Nat} {Q : Fl → Prop} (hk : k < Ls.length) (hj : j < Ls.length) (hL : Lots Ls)
    (q : ∀ y9, Q (.nx [e0, e1, e2, e3, some (.lst (Ls.map rowsT)), some (.lst ((Ls.map sumR).map heapD)), e6, some (.int (0 + (k : Int))), some (.int (0 + (j : Int))), y9, e10])) :
    (bLaw_2 [e0, e1, e2, e3, some (.lst (Ls.map rowsT)), some (.lst ((Ls.map sumR).map heapD)), e6, some (.int (0 + (k : Int))), some (.int (0 + (j : Int))), e9, e10]).wp Q E := by
  have a1 : ∀ {i : Nat} (h : i < Ls.length), atI (Ls.map rowsT) (0 + (i : Int)) = some (rowsT Ls[i]) := fun {i} h => by rw [Int.zero_add]; exact atI_nat (by rw [List.getElem?_map, List.getElem?_eq_getElem h]; rfl)
  have a2 : ∀ {i : Nat} (h : i < Ls.length), atI ((Ls.map sumR).map heapD) (0 + (i : Int)) = some (heapD (sumR Ls[i])) := fun {i} h => by rw [Int.zero_add]; exact atI_nat (by rw [List.getElem?_map, List.getElem?_map, List.getElem?_eq_getElem h]; rfl)
  have k1 := a1 hk
  have k2 := a2 hk
  have j1 := a1 hj
  have j2 := a2 hj
  have rk := hL.each _ (List.getElem_mem hk)
  have rj := hL.each _ (List.getElem_mem hj)
  have sk := hL.sum (List.getElem_mem hk)
  have sj := hL.sum (List.getElem_mem hj)
  generalize Ls[k] = A at k1 k2 rk sk
  generalize Ls[j] = B at j1 j2 rj sj
  have lA := rk.len
  have lB := rj.len
  simp only [bLaw_2, k1, j1, W.bind_wp, W.ret_wp, W.want_wp, W.any_wp, s_ite, s_get0, s_get, s_then, s_end, s_run, s_calm, s_fail, s_start1, s_start2, s_start3, s_start4, s_start5, List.replicate, List.set_cons_zero, List.set_cons_succ, asB_bl, asS_str, Nat.reduceSub, Nat.reduceAdd, addW.eq_1, addW.eq_2, addW.eq_3, addW.eq_4, addW.eq_5, subW.eq_1, subW.eq_2, mulW.eq_1, mulW.eq_2, mulW.eq_3, intOp.eq_1, negW.eq_1, ordW.eq_1, ordW.eq_2, isW.eq_1, isntW.eq_1, ixW.eq_1, ixW.eq_2, ixW.eq_3, slW.eq_1, slW.eq_2, slW.eq_3, revTW.eq_1, revLW.eq_1, lenW.eq_1, lenW.eq_2, lenW.eq_3, tupleW.eq_1, tupleW.eq_2, listW.eq_1, listW.eq_2, min2W.eq_1, max2W.eq_1, strW.eq_1, strW.eq_2, joinW.eq_1, joinW.eq_2, walkLW.eq_1, walkTW.eq_1, walkSW.eq_1, range1W.eq_1, zipW.eq_1, zipW.eq_2, tupG.eq_1, gsW.eq_1, gsW.eq_2, par2.eq_1, extW.eq_1, extW.eq_2, partW.eq_1, optW.eq_1, optW.eq_2, modW, fdivW, powW, ltW, leW, gtW, geW, isNone, isi_non, isi_bl, isi_int, isi_str, isi_tup, isi_lst, upperW, putW, appW, tupW, lstW, asB_bl, String.reduceBEq, beq_self_eq_true, Bool.or_true, Bool.true_or, Bool.or_false, Bool.false_or, Bool.and_true, Bool.true_and, Bool.and_false, Bool.false_and, Bool.not_true, Bool.not_false, forall_const, true_implies, true_and, and_true, false_implies, reduceCtorEq, List.length_cons, List.length_nil, forall_eq, imp_self, implies_true, if_true, if_false, Bool.false_eq_true, Bool.true_eq_false]
  refine (summed_ret A (by omega)).go ?_
  refine (summed_ret B (by omega)).go ?_
  rw [eqW_rows]
  simp only [W.bind_wp, W.ret_wp, W.want_wp, W.any_wp, s_ite, s_get0, s_get, s_then, s_end, s_run, s_calm, s_fail, s_start1, s_start2, s_start3, s_start4, s_start5, List.replicate, List.set_cons_zero, List.set_cons_succ, asB_bl, asS_str, Nat.reduceSub, Nat.reduceAdd, addW.eq_1, addW.eq_2, addW.eq_3, addW.eq_4, addW.eq_5, subW.eq_1, subW.eq_2, mulW.eq_1, mulW.eq_2, mulW.eq_3, intOp.eq_1, negW.eq_1, ordW.eq_1, ordW.eq_2, isW.eq_1, isntW.eq_1, ixW.eq_1, ixW.eq_2, ixW.eq_3, slW.eq_1, slW.eq_2, slW.eq_3, revTW.eq_1, revLW.eq_1, lenW.eq_1, lenW.eq_2, lenW.eq_3, tupleW.eq_1, tupleW.eq_2, listW.eq_1, listW.eq_2, min2W.eq_1, max2W.eq_1, strW.eq_1, strW.eq_2, joinW.eq_1, joinW.eq_2, walkLW.eq_1, walkTW.eq_1, walkSW.eq_1, range1W.eq_1, zipW.eq_1, zipW.eq_2, tupG.eq_1, gsW.eq_1, gsW.eq_2, par2.eq_1, extW.eq_1, extW.eq_2, partW.eq_1, optW.eq_1, optW.eq_2, modW, fdivW, powW, ltW, leW, gtW, geW, isNone, isi_non, isi_bl, isi_int, isi_str, isi_tup, isi_lst, upperW, putW, appW, tupW, lstW, asB_bl, String.reduceBEq, beq_self_eq_true, Bool.or_true, Bool.true_or, Bool.or_false, Bool.false_or, Bool.and_true, Bool.true_and, Bool.and_false, Bool.false_and, Bool.not_true, Bool.not_false, forall_const, true_implies, true_and, and_true, false_implies, reduceCtorEq, List.length_cons, List.length_nil, forall_eq, imp_self, implies_true, if_true, if_false, Bool.false_eq_true, Bool.true_eq_false]
  simp only [bLaw_1, k2, j2, W.bind_wp, W.ret_wp, W.want_wp, W.any_wp, s_ite, s_get0, s_get, s_then, s_end, s_run, s_calm, s_fail, s_start1, s_start2, s_start3, s_start4, s_start5, List.replicate, List.set_cons_zero, List.set_cons_succ, asB_bl, asS_str, Nat.reduceSub, Nat.reduceAdd, addW.eq_1, addW.eq_2, addW.eq_3, addW.eq_4, addW.eq_5, subW.eq_1, subW.eq_2, mulW.eq_1, mulW.eq_2, mulW.eq_3, intOp.eq_1, negW.eq_1, ordW.eq_1, ordW.eq_2, isW.eq_1, isntW.eq_1, ixW.eq_1, ixW.eq_2, ixW.eq_3, slW.eq_1, slW.eq_2, slW.eq_3, revTW.eq_1, revLW.eq_1, lenW.eq_1, lenW.eq_2, lenW.eq_3, tupleW.eq_1, tupleW.eq_2, listW.eq_1, listW.eq_2, min2W.eq_1, max2W.eq_1, strW.eq_1, strW.eq_2, joinW.eq_1, joinW.eq_2, walkLW.eq_1, walkTW.eq_1, walkSW.eq_1, range1W.eq_1, zipW.eq_1, zipW.eq_2, tupG.eq_1, gsW.eq_1, gsW.eq_2, par2.eq_1, extW.eq_1, extW.eq_2, partW.eq_1, optW.eq_1, optW.eq_2, modW, fdivW, powW, ltW, leW, gtW, geW, isNone, isi_non, isi_bl, isi_int, isi_str, isi_tup, isi_lst, upperW, putW, appW, tupW, lstW, asB_bl, String.reduceBEq, beq_self_eq_true, Bool.or_true, Bool.true_or, Bool.or_false, Bool.false_or, Bool.and_true, Bool.true_and, Bool.and_false, Bool.false_and, Bool.not_true, Bool.not_false, forall_const, true_implies, true_and, and_true, false_implies, reduceCtorEq, List.length_cons, List.length_nil, forall_eq, imp_self, implies_true, if_true, if_false, Bool.false_eq_true, Bool.true_eq_false]
  rw [eqH_heap sk sj, neH_heap sk sj]
  simp only [W.bind_wp, W.ret_wp, W.want_wp, W.any_wp, s_ite, s_get0, s_get, s_then, s_end, s_run, s_calm, s_fail, s_start1, s_start2, s_start3, s_start4, s_start5, List.replicate, List.set_cons_zero, List.set_cons_succ, asB_bl, asS_str, Nat.reduceSub, Nat.reduceAdd, addW.eq_1, addW.eq_2, addW.eq_3, addW.eq_4, addW.eq_5, subW.eq_1, subW.eq_2, mulW.eq_1, mulW.eq_2, mulW.eq_3, intOp.eq_1, negW.eq_1, ordW.eq_1, ordW.eq_2, isW.eq_1, isntW.eq_1, ixW.eq_1, ixW.eq_2, ixW.eq_3, slW.eq_1, slW.eq_2, slW.eq_3, revTW.eq_1, revLW.eq_1, lenW.eq_1, lenW.eq_2, lenW.eq_3, tupleW.eq_1, tupleW.eq_2, listW.eq_1, listW.eq_2, min2W.eq_1, max2W.eq_1, strW.eq_1, strW.eq_2, joinW.eq_1, joinW.eq_2, walkLW.eq_1, walkTW.eq_1, walkSW.eq_1, range1W.eq_1, zipW.eq_1, zipW.eq_2, tupG.eq_1, gsW.eq_1, gsW.eq_2, par2.eq_1, extW.eq_1, extW.eq_2, partW.eq_1, optW.eq_1, optW.eq_2, modW, fdivW, powW, ltW, leW, gtW, geW, isNone, isi_non, isi_bl, isi_int, isi_str, isi_tup, isi_lst, upperW, putW, appW, tupW, lstW, asB_bl, String.reduceBEq, beq_self_eq_true, Bool.or_true, Bool.true_or, Bool.or_false, Bool.false_or, Bool.and_true, Bool.true_and, Bool.and_false, Bool.false_and, Bool.not_true, Bool.not_false, forall_const, true_implies, true_and, and_true, false_implies, reduceCtorEq, List.length_cons, List.length_nil, forall_eq, imp_self, implies_true, if_true, if_false, Bool.false_eq_true, Bool.true_eq_false]
  rw [repr_two]
  simp only [rp_same, W.bind_wp, W.ret_wp, W.want_wp, W.any_wp, s_ite, s_get0, s_get, s_then, s_end, s_run, s_calm, s_fail, s_start1, s_start2, s_start3, s_start4, s_start5, List.replicate, List.set_cons_zero, List.set_cons_succ, asB_bl, asS_str, Nat.reduceSub, Nat.reduceAdd, addW.eq_1, addW.eq_2, addW.eq_3, addW.eq_4, addW.eq_5, subW.eq_1, subW.eq_2, mulW.eq_1, mulW.eq_2, mulW.eq_3, intOp.eq_1, negW.eq_1, ordW.eq_1, ordW.eq_2, isW.eq_1, isntW.eq_1, ixW.eq_1, ixW.eq_2, ixW.eq_3, slW.eq_1, slW.eq_2, slW.eq_3, revTW.eq_1, revLW.eq_1, lenW.eq_1, lenW.eq_2, lenW.eq_3, tupleW.eq_1, tupleW.eq_2, listW.eq_1, listW.eq_2, min2W.eq_1, max2W.eq_1, strW.eq_1, strW.eq_2, joinW.eq_1, joinW.eq_2, walkLW.eq_1, walkTW.eq_1, walkSW.eq_1, range1W.eq_1, zipW.eq_1, zipW.eq_2, tupG.eq_1, gsW.eq_1, gsW.eq_2, par2.eq_1, extW.eq_1, extW.eq_2, partW.eq_1, optW.eq_1, optW.eq_2, modW, fdivW, powW, ltW, leW, gtW, geW, isNone, isi_non, isi_bl, isi_int, isi_str, isi_tup, isi_lst, upperW, putW, appW, tupW, lstW, asB_bl, String.reduceBEq, beq_self_eq_true, Bool.or_true, Bool.true_or, Bool.or_false, Bool.false_or, Bool.and_true, Bool.true_and, Bool.and_false, Bool.false_and, Bool.not_true, Bool.not_false, forall_const, true_implies, true_and, and_true, false_implies, reduceCtorEq, List.length_cons, List.length_nil, forall_eq, imp_self, implies_true, if_true, if_false, Bool.false_eq_true, Bool.true_eq_false]
  exact ⟨by decide, by decide, q _⟩
theorem one_wp {k : Nat} {e8 : Option D} {Q : Fl → Prop} (hk : k < Ls.length) (hL : Lots Ls)
    (q : ∀ y8 y9 y10, Q (.nx [e0, e1, e2, e3, some (.lst (Ls.map rowsT)), some (.lst ((Ls.map sumR).map heapD)), e6, some (.int (0 + (k : Int))), y8, y9, y10])) :
    (bLaw_6 [e0, e1, e2, e3, some (.lst (Ls.map rowsT)), some (.lst ((Ls.map sumR).map heapD)), e6, some (.int (0 + (k : Int))), e8, e9, e10]).wp Q E := by
  have l8 := hL.len
  have k1 : atI (Ls.map rowsT) (0 + (k : Int)) = some (rowsT Ls[k]) := by rw [Int.zero_add]; exact atI_nat (by rw [List.getElem?_map, List.getElem?_eq_getElem hk]; rfl)
  have k2 : atI ((Ls.map sumR).map heapD) (0 + (k : Int)) = some (heapD (sumR Ls[k])) := by rw [Int.zero_add]; exact atI_nat (by rw [List.getElem?_map, List.getElem?_map, List.getElem?_eq_getElem hk]; rfl)
  have rk := hL.each _ (List.getElem_mem hk)
  have sk := hL.sum (List.getElem_mem hk)
  have lA := rk.len
  have lS := sk.len
  simp only [bLaw_6, k1, k2, W.bind_wp, W.ret_wp, W.want_wp, W.any_wp, s_ite, s_get0, s_get, s_then, s_end, s_run, s_calm, s_fail, s_start1, s_start2, s_start3, s_start4, s_start5, List.replicate, List.set_cons_zero, List.set_cons_succ, asB_bl, asS_str, Nat.reduceSub, Nat.reduceAdd, addW.eq_1, addW.eq_2, addW.eq_3, addW.eq_4, addW.eq_5, subW.eq_1, subW.eq_2, mulW.eq_1, mulW.eq_2, mulW.eq_3, intOp.eq_1, negW.eq_1, ordW.eq_1, ordW.eq_2, isW.eq_1, isntW.eq_1, ixW.eq_1, ixW.eq_2, ixW.eq_3, slW.eq_1, slW.eq_2, slW.eq_3, revTW.eq_1, revLW.eq_1, lenW.eq_1, lenW.eq_2, lenW.eq_3, tupleW.eq_1, tupleW.eq_2, listW.eq_1, listW.eq_2, min2W.eq_1, max2W.eq_1, strW.eq_1, strW.eq_2, joinW.eq_1, joinW.eq_2, walkLW.eq_1, walkTW.eq_1, walkSW.eq_1, range1W.eq_1, zipW.eq_1, zipW.eq_2, tupG.eq_1, gsW.eq_1, gsW.eq_2, par2.eq_1, extW.eq_1, extW.eq_2, partW.eq_1, optW.eq_1, optW.eq_2, modW, fdivW, powW, ltW, leW, gtW, geW, isNone, isi_non, isi_bl, isi_int, isi_str, isi_tup, isi_lst, upperW, putW, appW, tupW, lstW, asB_bl, String.reduceBEq, beq_self_eq_true, Bool.or_true, Bool.true_or, Bool.or_false, Bool.false_or, Bool.and_true, Bool.true_and, Bool.and_false, Bool.false_and, Bool.not_true, Bool.not_false, forall_const, true_implies, true_and, and_true, false_implies, reduceCtorEq, List.length_cons, List.length_nil, forall_eq, imp_self, implies_true, if_true, if_false, Bool.false_eq_true, Bool.true_eq_false]
  refine (right_ret sk (by decide) (by decide) (by omega)).go ?_
  simp only [W.bind_wp, W.ret_wp, W.want_wp, W.any_wp, s_ite, s_get0, s_get, s_then, s_end, s_run, s_calm, s_fail, s_start1, s_start2, s_start3, s_start4, s_start5, List.replicate, List.set_cons_zero, List.set_cons_succ, asB_bl, asS_str, Nat.reduceSub, Nat.reduceAdd, addW.eq_1, addW.eq_2, addW.eq_3, addW.eq_4, addW.eq_5, subW.eq_1, subW.eq_2, mulW.eq_1, mulW.eq_2, mulW.eq_3, intOp.eq_1, negW.eq_1, ordW.eq_1, ordW.eq_2, isW.eq_1, isntW.eq_1, ixW.eq_1, ixW.eq_2, ixW.eq_3, slW.eq_1, slW.eq_2, slW.eq_3, revTW.eq_1, revLW.eq_1, lenW.eq_1, lenW.eq_2, lenW.eq_3, tupleW.eq_1, tupleW.eq_2, listW.eq_1, listW.eq_2, min2W.eq_1, max2W.eq_1, strW.eq_1, strW.eq_2, joinW.eq_1, joinW.eq_2, walkLW.eq_1, walkTW.eq_1, walkSW.eq_1, range1W.eq_1, zipW.eq_1, zipW.eq_2, tupG.eq_1, gsW.eq_1, gsW.eq_2, par2.eq_1, extW.eq_1, extW.eq_2, partW.eq_1, optW.eq_1, optW.eq_2, modW, fdivW, powW, ltW, leW, gtW, geW, isNone, isi_non, isi_bl, isi_int, isi_str, isi_tup, isi_lst, upperW, putW, appW, tupW, lstW, asB_bl, String.reduceBEq, beq_self_eq_true, Bool.or_true, Bool.true_or, Bool.or_false, Bool.false_or, Bool.and_true, Bool.true_and, Bool.and_false, Bool.false_and, Bool.not_true, Bool.not_false, forall_const, true_implies, true_and, and_true, false_implies, reduceCtorEq, List.length_cons, List.length_nil, forall_eq, imp_self, implies_true, if_true, if_false, Bool.false_eq_true, Bool.true_eq_false]
  simp only [bLaw_5, List.length_map, W.bind_wp, W.ret_wp, W.want_wp, W.any_wp, s_ite, s_get0, s_get, s_then, s_end, s_run, s_calm, s_fail, s_start1, s_start2, s_start3, s_start4, s_start5, List.replicate, List.set_cons_zero, List.set_cons_succ, asB_bl, asS_str, Nat.reduceSub, Nat.reduceAdd, addW.eq_1, addW.eq_2, addW.eq_3, addW.eq_4, addW.eq_5, subW.eq_1, subW.eq_2, mulW.eq_1, mulW.eq_2, mulW.eq_3, intOp.eq_1, negW.eq_1, ordW.eq_1, ordW.eq_2, isW.eq_1, isntW.eq_1, ixW.eq_1, ixW.eq_2, ixW.eq_3, slW.eq_1, slW.eq_2, slW.eq_3, revTW.eq_1, revLW.eq_1, lenW.eq_1, lenW.eq_2, lenW.eq_3, tupleW.eq_1, tupleW.eq_2, listW.eq_1, listW.eq_2, min2W.eq_1, max2W.eq_1, strW.eq_1, strW.eq_2, joinW.eq_1, joinW.eq_2, walkLW.eq_1, walkTW.eq_1, walkSW.eq_1, range1W.eq_1, zipW.eq_1, zipW.eq_2, tupG.eq_1, gsW.eq_1, gsW.eq_2, par2.eq_1, extW.eq_1, extW.eq_2, partW.eq_1, optW.eq_1, optW.eq_2, modW, fdivW, powW, ltW, leW, gtW, geW, isNone, isi_non, isi_bl, isi_int, isi_str, isi_tup, isi_lst, upperW, putW, appW, tupW, lstW, asB_bl, String.reduceBEq, beq_self_eq_true, Bool.or_true, Bool.true_or, Bool.or_false, Bool.false_or, Bool.and_true, Bool.true_and, Bool.and_false, Bool.false_and, Bool.not_true, Bool.not_false, forall_const, true_implies, true_and, and_true, false_implies, reduceCtorEq, List.length_cons, List.length_nil, forall_eq, imp_self, implies_true, if_true, if_false, Bool.false_eq_true, Bool.true_eq_false]
  refine ⟨⟨by omega, by omega⟩, ?_⟩
  refine forW_wp0 (fun i env => ∃ (y8 y9 : Option D), env = [e0, e1, e2, e3, some (.lst (Ls.map rowsT)), some (.lst ((Ls.map sumR).map heapD)), e6, some (.int (0 + (k : Int))), y8, y9, e10]) ⟨_, _, rfl⟩ (fun j d env hd hp => ?_) (fun env hp => ?_)
  · obtain ⟨y8, y9, rfl⟩ := hp
    obtain ⟨hj, rfl⟩ := rangeAt hd
    have hj : j < Ls.length := by omega
    simp only [W.bind_wp, W.ret_wp, W.want_wp, W.any_wp, s_ite, s_get0, s_get, s_then, s_end, s_run, s_calm, s_fail, s_start1, s_start2, s_start3, s_start4, s_start5, List.replicate, List.set_cons_zero, List.set_cons_succ, asB_bl, asS_str, Nat.reduceSub, Nat.reduceAdd, addW.eq_1, addW.eq_2, addW.eq_3, addW.eq_4, addW.eq_5, subW.eq_1, subW.eq_2, mulW.eq_1, mulW.eq_2, mulW.eq_3, intOp.eq_1, negW.eq_1, ordW.eq_1, ordW.eq_2, isW.eq_1, isntW.eq_1, ixW.eq_1, ixW.eq_2, ixW.eq_3, slW.eq_1, slW.eq_2, slW.eq_3, revTW.eq_1, revLW.eq_1, lenW.eq_1, lenW.eq_2, lenW.eq_3, tupleW.eq_1, tupleW.eq_2, listW.eq_1, listW.eq_2, min2W.eq_1, max2W.eq_1, strW.eq_1, strW.eq_2, joinW.eq_1, joinW.eq_2, walkLW.eq_1, walkTW.eq_1, walkSW.eq_1, range1W.eq_1, zipW.eq_1, zipW.eq_2, tupG.eq_1, gsW.eq_1, gsW.eq_2, par2.eq_1, extW.eq_1, extW.eq_2, partW.eq_1, optW.eq_1, optW.eq_2, modW, fdivW, powW, ltW, leW, gtW, geW, isNone, isi_non, isi_bl, isi_int, isi_str, isi_tup, isi_lst, upperW, putW, appW, tupW, lstW, asB_bl, String.reduceBEq, beq_self_eq_true, Bool.or_true, Bool.true_or, Bool.or_false, Bool.false_or, Bool.and_true, Bool.true_and, Bool.and_false, Bool.false_and, Bool.not_true, Bool.not_false, forall_const, true_implies, true_and, and_true, false_implies, reduceCtorEq, List.length_cons, List.length_nil, forall_eq, imp_self, implies_true, if_true, if_false, Bool.false_eq_true, Bool.true_eq_false]
    exact two_wp hk hj hL fun z9 => ⟨_, _, rfl⟩
  · obtain ⟨y8, y9, rfl⟩ := hp
    simp only [bLaw_4, k1, k2, objW_heap, W.bind_wp, W.ret_wp, W.want_wp, W.any_wp, s_ite, s_get0, s_get, s_then, s_end, s_run, s_calm, s_fail, s_start1, s_start2, s_start3, s_start4, s_start5, List.replicate, List.set_cons_zero, List.set_cons_succ, asB_bl, asS_str, Nat.reduceSub, Nat.reduceAdd, addW.eq_1, addW.eq_2, addW.eq_3, addW.eq_4, addW.eq_5, subW.eq_1, subW.eq_2, mulW.eq_1, mulW.eq_2, mulW.eq_3, intOp.eq_1, negW.eq_1, ordW.eq_1, ordW.eq_2, isW.eq_1, isntW.eq_1, ixW.eq_1, ixW.eq_2, ixW.eq_3, slW.eq_1, slW.eq_2, slW.eq_3, revTW.eq_1, revLW.eq_1, lenW.eq_1, lenW.eq_2, lenW.eq_3, tupleW.eq_1, tupleW.eq_2, listW.eq_1, listW.eq_2, min2W.eq_1, max2W.eq_1, strW.eq_1, strW.eq_2, joinW.eq_1, joinW.eq_2, walkLW.eq_1, walkTW.eq_1, walkSW.eq_1, range1W.eq_1, zipW.eq_1, zipW.eq_2, tupG.eq_1, gsW.eq_1, gsW.eq_2, par2.eq_1, extW.eq_1, extW.eq_2, partW.eq_1, optW.eq_1, optW.eq_2, modW, fdivW, powW, ltW, leW, gtW, geW, isNone, isi_non, isi_bl, isi_int, isi_str, isi_tup, isi_lst, upperW, putW, appW, tupW, lstW, asB_bl, String.reduceBEq, beq_self_eq_true, Bool.or_true, Bool.true_or, Bool.or_false, Bool.false_or, Bool.and_true, Bool.true_and, Bool.and_false, Bool.false_and, Bool.not_true, Bool.not_false, forall_const, true_implies, true_and, and_true, false_implies, reduceCtorEq, List.length_cons, List.length_nil, forall_eq, imp_self, implies_true, if_true, if_false, Bool.false_eq_true, Bool.true_eq_false]
    rw [rows_eq (by omega)]
    simp only [W.bind_wp, W.ret_wp, W.want_wp, W.any_wp, s_ite, s_get0, s_get, s_then, s_end, s_run, s_calm, s_fail, s_start1, s_start2, s_start3, s_start4, s_start5, List.replicate, List.set_cons_zero, List.set_cons_succ, asB_bl, asS_str, Nat.reduceSub, Nat.reduceAdd, addW.eq_1, addW.eq_2, addW.eq_3, addW.eq_4, addW.eq_5, subW.eq_1, subW.eq_2, mulW.eq_1, mulW.eq_2, mulW.eq_3, intOp.eq_1, negW.eq_1, ordW.eq_1, ordW.eq_2, isW.eq_1, isntW.eq_1, ixW.eq_1, ixW.eq_2, ixW.eq_3, slW.eq_1, slW.eq_2, slW.eq_3, revTW.eq_1, revLW.eq_1, lenW.eq_1, lenW.eq_2, lenW.eq_3, tupleW.eq_1, tupleW.eq_2, listW.eq_1, listW.eq_2, min2W.eq_1, max2W.eq_1, strW.eq_1, strW.eq_2, joinW.eq_1, joinW.eq_2, walkLW.eq_1, walkTW.eq_1, walkSW.eq_1, range1W.eq_1, zipW.eq_1, zipW.eq_2, tupG.eq_1, gsW.eq_1, gsW.eq_2, par2.eq_1, extW.eq_1, extW.eq_2, partW.eq_1, optW.eq_1, optW.eq_2, modW, fdivW, powW, ltW, leW, gtW, geW, isNone, isi_non, isi_bl, isi_int, isi_str, isi_tup, isi_lst, upperW, putW, appW, tupW, lstW, asB_bl, String.reduceBEq, beq_self_eq_true, Bool.or_true, Bool.true_or, Bool.or_false, Bool.false_or, Bool.and_true, Bool.true_and, Bool.and_false, Bool.false_and, Bool.not_true, Bool.not_false, forall_const, true_implies, true_and, and_true, false_implies, reduceCtorEq, List.length_cons, List.length_nil, forall_eq, imp_self, implies_true, if_true, if_false, Bool.false_eq_true, Bool.true_eq_false]
    refine ⟨by decide, by decide, ?_⟩
    refine (str_ret sk (by decide) (by decide)).go ?_
    simp only [W.bind_wp, W.ret_wp, W.want_wp, W.any_wp, s_ite, s_get0, s_get, s_then, s_end, s_run, s_calm, s_fail, s_start1, s_start2, s_start3, s_start4, s_start5, List.replicate, List.set_cons_zero, List.set_cons_succ, asB_bl, asS_str, Nat.reduceSub, Nat.reduceAdd, addW.eq_1, addW.eq_2, addW.eq_3, addW.eq_4, addW.eq_5, subW.eq_1, subW.eq_2, mulW.eq_1, mulW.eq_2, mulW.eq_3, intOp.eq_1, negW.eq_1, ordW.eq_1, ordW.eq_2, isW.eq_1, isntW.eq_1, ixW.eq_1, ixW.eq_2, ixW.eq_3, slW.eq_1, slW.eq_2, slW.eq_3, revTW.eq_1, revLW.eq_1, lenW.eq_1, lenW.eq_2, lenW.eq_3, tupleW.eq_1, tupleW.eq_2, listW.eq_1, listW.eq_2, min2W.eq_1, max2W.eq_1, strW.eq_1, strW.eq_2, joinW.eq_1, joinW.eq_2, walkLW.eq_1, walkTW.eq_1, walkSW.eq_1, range1W.eq_1, zipW.eq_1, zipW.eq_2, tupG.eq_1, gsW.eq_1, gsW.eq_2, par2.eq_1, extW.eq_1, extW.eq_2, partW.eq_1, optW.eq_1, optW.eq_2, modW, fdivW, powW, ltW, leW, gtW, geW, isNone, isi_non, isi_bl, isi_int, isi_str, isi_tup, isi_lst, upperW, putW, appW, tupW, lstW, asB_bl, String.reduceBEq, beq_self_eq_true, Bool.or_true, Bool.true_or, Bool.or_false, Bool.false_or, Bool.and_true, Bool.true_and, Bool.and_false, Bool.false_and, Bool.not_true, Bool.not_false, forall_const, true_implies, true_and, and_true, false_implies, reduceCtorEq, List.length_cons, List.length_nil, forall_eq, imp_self, implies_true, if_true, if_false, Bool.false_eq_true, Bool.true_eq_false]
    refine ⟨by decide, by decide, ?_⟩
    generalize hds : [D.non, D.int 0, D.bl true, D.str (Str.ofString ""), D.str (Str.ofString "-"), D.tup [], D.lst [], rowsT Ls[k], rowsT (sumR Ls[k]), D.str (shownR (sumR Ls[k])), D.tup [D.str (Str.ofString "a"), D.str (Str.ofString "b"), D.int 1]] = ds
    have all : ∀ d ∈ ds, isKind d = true := by
      rw [← hds]
      intro d hd
      simp only [List.mem_cons, List.not_mem_nil, or_false] at hd
      rcases hd with rfl | rfl | rfl | rfl | rfl | rfl | rfl | rfl | rfl | rfl | rfl <;> rfl
    refine forW_wp0 (fun i env => ∃ (y10 : Option D), env = [e0, e1, e2, e3, some (.lst (Ls.map rowsT)), some (.lst ((Ls.map sumR).map heapD)), e6, some (.int (0 + (k : Int))), y8, y9, y10]) ⟨_, rfl⟩ (fun j d env hd hp => ?_) (fun env hp => ?_)
    · obtain ⟨y10, rfl⟩ := hp
      have kd := all d (List.mem_of_getElem? hd)
      simp only [W.bind_wp, W.ret_wp, W.want_wp, W.any_wp, s_ite, s_get0, s_get, s_then, s_end, s_run, s_calm, s_fail, s_start1, s_start2, s_start3, s_start4, s_start5, List.replicate, List.set_cons_zero, List.set_cons_succ, asB_bl, asS_str, Nat.reduceSub, Nat.reduceAdd, addW.eq_1, addW.eq_2, addW.eq_3, addW.eq_4, addW.eq_5, subW.eq_1, subW.eq_2, mulW.eq_1, mulW.eq_2, mulW.eq_3, intOp.eq_1, negW.eq_1, ordW.eq_1, ordW.eq_2, isW.eq_1, isntW.eq_1, ixW.eq_1, ixW.eq_2, ixW.eq_3, slW.eq_1, slW.eq_2, slW.eq_3, revTW.eq_1, revLW.eq_1, lenW.eq_1, lenW.eq_2, lenW.eq_3, tupleW.eq_1, tupleW.eq_2, listW.eq_1, listW.eq_2, min2W.eq_1, max2W.eq_1, strW.eq_1, strW.eq_2, joinW.eq_1, joinW.eq_2, walkLW.eq_1, walkTW.eq_1, walkSW.eq_1, range1W.eq_1, zipW.eq_1, zipW.eq_2, tupG.eq_1, gsW.eq_1, gsW.eq_2, par2.eq_1, extW.eq_1, extW.eq_2, partW.eq_1, optW.eq_1, optW.eq_2, modW, fdivW, powW, ltW, leW, gtW, geW, isNone, isi_non, isi_bl, isi_int, isi_str, isi_tup, isi_lst, upperW, putW, appW, tupW, lstW, asB_bl, String.reduceBEq, beq_self_eq_true, Bool.or_true, Bool.true_or, Bool.or_false, Bool.false_or, Bool.and_true, Bool.true_and, Bool.and_false, Bool.false_and, Bool.not_true, Bool.not_false, forall_const, true_implies, true_and, and_true, false_implies, reduceCtorEq, List.length_cons, List.length_nil, forall_eq, imp_self, implies_true, if_true, if_false, Bool.false_eq_true, Bool.true_eq_false]
      simp only [bLaw_3, k2, W.bind_wp, W.ret_wp, W.want_wp, W.any_wp, s_ite, s_get0, s_get, s_then, s_end, s_run, s_calm, s_fail, s_start1, s_start2, s_start3, s_start4, s_start5, List.replicate, List.set_cons_zero, List.set_cons_succ, asB_bl, asS_str, Nat.reduceSub, Nat.reduceAdd, addW.eq_1, addW.eq_2, addW.eq_3, addW.eq_4, addW.eq_5, subW.eq_1, subW.eq_2, mulW.eq_1, mulW.eq_2, mulW.eq_3, intOp.eq_1, negW.eq_1, ordW.eq_1, ordW.eq_2, isW.eq_1, isntW.eq_1, ixW.eq_1, ixW.eq_2, ixW.eq_3, slW.eq_1, slW.eq_2, slW.eq_3, revTW.eq_1, revLW.eq_1, lenW.eq_1, lenW.eq_2, lenW.eq_3, tupleW.eq_1, tupleW.eq_2, listW.eq_1, listW.eq_2, min2W.eq_1, max2W.eq_1, strW.eq_1, strW.eq_2, joinW.eq_1, joinW.eq_2, walkLW.eq_1, walkTW.eq_1, walkSW.eq_1, range1W.eq_1, zipW.eq_1, zipW.eq_2, tupG.eq_1, gsW.eq_1, gsW.eq_2, par2.eq_1, extW.eq_1, extW.eq_2, partW.eq_1, optW.eq_1, optW.eq_2, modW, fdivW, powW, ltW, leW, gtW, geW, isNone, isi_non, isi_bl, isi_int, isi_str, isi_tup, isi_lst, upperW, putW, appW, tupW, lstW, asB_bl, String.reduceBEq, beq_self_eq_true, Bool.or_true, Bool.true_or, Bool.or_false, Bool.false_or, Bool.and_true, Bool.true_and, Bool.and_false, Bool.false_and, Bool.not_true, Bool.not_false, forall_const, true_implies, true_and, and_true, false_implies, reduceCtorEq, List.length_cons, List.length_nil, forall_eq, imp_self, implies_true, if_true, if_false, Bool.false_eq_true, Bool.true_eq_false]
      rw [eqX_heap kd, xEq_heap kd, eqX_heap kd]
      simp only [W.bind_wp, W.ret_wp, W.want_wp, W.any_wp, s_ite, s_get0, s_get, s_then, s_end, s_run, s_calm, s_fail, s_start1, s_start2, s_start3, s_start4, s_start5, List.replicate, List.set_cons_zero, List.set_cons_succ, asB_bl, asS_str, Nat.reduceSub, Nat.reduceAdd, addW.eq_1, addW.eq_2, addW.eq_3, addW.eq_4, addW.eq_5, subW.eq_1, subW.eq_2, mulW.eq_1, mulW.eq_2, mulW.eq_3, intOp.eq_1, negW.eq_1, ordW.eq_1, ordW.eq_2, isW.eq_1, isntW.eq_1, ixW.eq_1, ixW.eq_2, ixW.eq_3, slW.eq_1, slW.eq_2, slW.eq_3, revTW.eq_1, revLW.eq_1, lenW.eq_1, lenW.eq_2, lenW.eq_3, tupleW.eq_1, tupleW.eq_2, listW.eq_1, listW.eq_2, min2W.eq_1, max2W.eq_1, strW.eq_1, strW.eq_2, joinW.eq_1, joinW.eq_2, walkLW.eq_1, walkTW.eq_1, walkSW.eq_1, range1W.eq_1, zipW.eq_1, zipW.eq_2, tupG.eq_1, gsW.eq_1, gsW.eq_2, par2.eq_1, extW.eq_1, extW.eq_2, partW.eq_1, optW.eq_1, optW.eq_2, modW, fdivW, powW, ltW, leW, gtW, geW, isNone, isi_non, isi_bl, isi_int, isi_str, isi_tup, isi_lst, upperW, putW, appW, tupW, lstW, asB_bl, String.reduceBEq, beq_self_eq_true, Bool.or_true, Bool.true_or, Bool.or_false, Bool.false_or, Bool.and_true, Bool.true_and, Bool.and_false, Bool.false_and, Bool.not_true, Bool.not_false, forall_const, true_implies, true_and, and_true, false_implies, reduceCtorEq, List.length_cons, List.length_nil, forall_eq, imp_self, implies_true, if_true, if_false, Bool.false_eq_true, Bool.true_eq_false]
      exact ⟨_, rfl⟩
    · obtain ⟨y10, rfl⟩ := hp
      exact q _ _ _
end
theorem rowsTs_sh : D.sh (.lst []) := ⟨rfl, by show 1 ≤ 64; decide⟩
theorem env_is : lawE 11 = [none, some (.tok 0), none, none, none, none, none, none, none, none, none] := rfl
theorem l8_wp {e0 e1 e2 e3 e5 e6 e7 e8 e9 e10 : Option D} {E : Ex → Prop} {Ls : List (List PRow)} (hL : Lots Ls) :
    (bLaw_8 [e0, e1, e2, e3, some (.lst (Ls.map rowsT)), e5, e6, e7, e8, e9, e10]).wp (fun f => ∃ b, f = .rt (.bl b) ∧ b = true) E := by
  have l8 := hL.len
  simp only [bLaw_8, W.bind_wp, W.ret_wp, W.want_wp, W.any_wp, s_ite, s_get0, s_get, s_then, s_end, s_run, s_calm, s_fail, s_start1, s_start2, s_start3, s_start4, s_start5, List.replicate, List.set_cons_zero, List.set_cons_succ, asB_bl, asS_str, Nat.reduceSub, Nat.reduceAdd, addW.eq_1, addW.eq_2, addW.eq_3, addW.eq_4, addW.eq_5, subW.eq_1, subW.eq_2, mulW.eq_1, mulW.eq_2, mulW.eq_3, intOp.eq_1, negW.eq_1, ordW.eq_1, ordW.eq_2, isW.eq_1, isntW.eq_1, ixW.eq_1, ixW.eq_2, ixW.eq_3, slW.eq_1, slW.eq_2, slW.eq_3, revTW.eq_1, revLW.eq_1, lenW.eq_1, lenW.eq_2, lenW.eq_3, tupleW.eq_1, tupleW.eq_2, listW.eq_1, listW.eq_2, min2W.eq_1, max2W.eq_1, strW.eq_1, strW.eq_2, joinW.eq_1, joinW.eq_2, walkLW.eq_1, walkTW.eq_1, walkSW.eq_1, range1W.eq_1, zipW.eq_1, zipW.eq_2, tupG.eq_1, gsW.eq_1, gsW.eq_2, par2.eq_1, extW.eq_1, extW.eq_2, partW.eq_1, optW.eq_1, optW.eq_2, modW, fdivW, powW, ltW, leW, gtW, geW, isNone, isi_non, isi_bl, isi_int, isi_str, isi_tup, isi_lst, upperW, putW, appW, tupW, lstW, asB_bl, String.reduceBEq, beq_self_eq_true, Bool.or_true, Bool.true_or, Bool.or_false, Bool.false_or, Bool.and_true, Bool.true_and, Bool.and_false, Bool.false_and, Bool.not_true, Bool.not_false, forall_const, true_implies, true_and, and_true, false_implies, reduceCtorEq, List.length_cons, List.length_nil, forall_eq, imp_self, implies_true, if_true, if_false, Bool.false_eq_true, Bool.true_eq_false]
  refine Ret.go (lc_map (ds := Ls.map rowsT) (fun d => match rowsOf d with | some L => heapD (sumR L) | none => d) (fun Q E q => q) (by rw [List.length_map]; exact small (by omega)) fun d hd => ?_) ?_
  · obtain ⟨L, hl, rfl⟩ := List.mem_map.mp hd
    have := (hL.each L hl).len
    simp only [wipeE, W.bind_wp, W.ret_wp, W.want_wp, W.any_wp, s_ite, s_get0, s_get, s_then, s_end, s_run, s_calm, s_fail, s_start1, s_start2, s_start3, s_start4, s_start5, List.replicate, List.set_cons_zero, List.set_cons_succ, asB_bl, asS_str, Nat.reduceSub, Nat.reduceAdd, addW.eq_1, addW.eq_2, addW.eq_3, addW.eq_4, addW.eq_5, subW.eq_1, subW.eq_2, mulW.eq_1, mulW.eq_2, mulW.eq_3, intOp.eq_1, negW.eq_1, ordW.eq_1, ordW.eq_2, isW.eq_1, isntW.eq_1, ixW.eq_1, ixW.eq_2, ixW.eq_3, slW.eq_1, slW.eq_2, slW.eq_3, revTW.eq_1, revLW.eq_1, lenW.eq_1, lenW.eq_2, lenW.eq_3, tupleW.eq_1, tupleW.eq_2, listW.eq_1, listW.eq_2, min2W.eq_1, max2W.eq_1, strW.eq_1, strW.eq_2, joinW.eq_1, joinW.eq_2, walkLW.eq_1, walkTW.eq_1, walkSW.eq_1, range1W.eq_1, zipW.eq_1, zipW.eq_2, tupG.eq_1, gsW.eq_1, gsW.eq_2, par2.eq_1, extW.eq_1, extW.eq_2, partW.eq_1, optW.eq_1, optW.eq_2, modW, fdivW, powW, ltW, leW, gtW, geW, isNone, isi_non, isi_bl, isi_int, isi_str, isi_tup, isi_lst, upperW, putW, appW, tupW, lstW, asB_bl, String.reduceBEq, beq_self_eq_true, Bool.or_true, Bool.true_or, Bool.or_false, Bool.false_or, Bool.and_true, Bool.true_and, Bool.and_false, Bool.false_and, Bool.not_true, Bool.not_false, forall_const, true_implies, true_and, and_true, false_implies, reduceCtorEq, List.length_cons, List.length_nil, forall_eq, imp_self, implies_true, if_true, if_false, Bool.false_eq_true, Bool.true_eq_false]
    rw [heapW_rows _ (by omega), rowsOf_T]
    exact rfl
  have eH : (Ls.map rowsT).map (fun d => match rowsOf d with | some L => heapD (sumR L) | none => d) = (Ls.map sumR).map heapD := by
    rw [List.map_map, List.map_map]
    refine List.map_congr_left fun L _ => ?_
    show (match rowsOf (rowsT L) with | some L => heapD (sumR L) | none => rowsT L) = _
    rw [rowsOf_T]
    rfl
  rw [eH]
  simp only [bLaw_7, List.length_map, W.bind_wp, W.ret_wp, W.want_wp, W.any_wp, s_ite, s_get0, s_get, s_then, s_end, s_run, s_calm, s_fail, s_start1, s_start2, s_start3, s_start4, s_start5, List.replicate, List.set_cons_zero, List.set_cons_succ, asB_bl, asS_str, Nat.reduceSub, Nat.reduceAdd, addW.eq_1, addW.eq_2, addW.eq_3, addW.eq_4, addW.eq_5, subW.eq_1, subW.eq_2, mulW.eq_1, mulW.eq_2, mulW.eq_3, intOp.eq_1, negW.eq_1, ordW.eq_1, ordW.eq_2, isW.eq_1, isntW.eq_1, ixW.eq_1, ixW.eq_2, ixW.eq_3, slW.eq_1, slW.eq_2, slW.eq_3, revTW.eq_1, revLW.eq_1, lenW.eq_1, lenW.eq_2, lenW.eq_3, tupleW.eq_1, tupleW.eq_2, listW.eq_1, listW.eq_2, min2W.eq_1, max2W.eq_1, strW.eq_1, strW.eq_2, joinW.eq_1, joinW.eq_2, walkLW.eq_1, walkTW.eq_1, walkSW.eq_1, range1W.eq_1, zipW.eq_1, zipW.eq_2, tupG.eq_1, gsW.eq_1, gsW.eq_2, par2.eq_1, extW.eq_1, extW.eq_2, partW.eq_1, optW.eq_1, optW.eq_2, modW, fdivW, powW, ltW, leW, gtW, geW, isNone, isi_non, isi_bl, isi_int, isi_str, isi_tup, isi_lst, upperW, putW, appW, tupW, lstW, asB_bl, String.reduceBEq, beq_self_eq_true, Bool.or_true, Bool.true_or, Bool.or_false, Bool.false_or, Bool.and_true, Bool.true_and, Bool.and_false, Bool.false_and, Bool.not_true, Bool.not_false, forall_const, true_implies, true_and, and_true, false_implies, reduceCtorEq, List.length_cons, List.length_nil, forall_eq, imp_self, implies_true, if_true, if_false, Bool.false_eq_true, Bool.true_eq_false]
  refine ⟨⟨by omega, by omega⟩, ?_⟩
  refine forW_wp0 (fun i env => ∃ (y7 y8 y9 y10 : Option D), env = [e0, e1, e2, e3, some (.lst (Ls.map rowsT)), some (.lst ((Ls.map sumR).map heapD)), e6, y7, y8, y9, y10]) ⟨_, _, _, _, rfl⟩ (fun i d env hd hp => ?_) (fun env hp => ?_)
  · obtain ⟨y7, y8, y9, y10, rfl⟩ := hp
    obtain ⟨hi, rfl⟩ := rangeAt hd
    have hi : i < Ls.length := by omega
    simp only [W.bind_wp, W.ret_wp, W.want_wp, W.any_wp, s_ite, s_get0, s_get, s_then, s_end, s_run, s_calm, s_fail, s_start1, s_start2, s_start3, s_start4, s_start5, List.replicate, List.set_cons_zero, List.set_cons_succ, asB_bl, asS_str, Nat.reduceSub, Nat.reduceAdd, addW.eq_1, addW.eq_2, addW.eq_3, addW.eq_4, addW.eq_5, subW.eq_1, subW.eq_2, mulW.eq_1, mulW.eq_2, mulW.eq_3, intOp.eq_1, negW.eq_1, ordW.eq_1, ordW.eq_2, isW.eq_1, isntW.eq_1, ixW.eq_1, ixW.eq_2, ixW.eq_3, slW.eq_1, slW.eq_2, slW.eq_3, revTW.eq_1, revLW.eq_1, lenW.eq_1, lenW.eq_2, lenW.eq_3, tupleW.eq_1, tupleW.eq_2, listW.eq_1, listW.eq_2, min2W.eq_1, max2W.eq_1, strW.eq_1, strW.eq_2, joinW.eq_1, joinW.eq_2, walkLW.eq_1, walkTW.eq_1, walkSW.eq_1, range1W.eq_1, zipW.eq_1, zipW.eq_2, tupG.eq_1, gsW.eq_1, gsW.eq_2, par2.eq_1, extW.eq_1, extW.eq_2, partW.eq_1, optW.eq_1, optW.eq_2, modW, fdivW, powW, ltW, leW, gtW, geW, isNone, isi_non, isi_bl, isi_int, isi_str, isi_tup, isi_lst, upperW, putW, appW, tupW, lstW, asB_bl, String.reduceBEq, beq_self_eq_true, Bool.or_true, Bool.true_or, Bool.or_false, Bool.false_or, Bool.and_true, Bool.true_and, Bool.and_false, Bool.false_and, Bool.not_true, Bool.not_false, forall_const, true_implies, true_and, and_true, false_implies, reduceCtorEq, List.length_cons, List.length_nil, forall_eq, imp_self, implies_true, if_true, if_false, Bool.false_eq_true, Bool.true_eq_false]
    exact one_wp hi hL fun z8 z9 z10 => ⟨_, _, _, _, rfl⟩
  · obtain ⟨y7, y8, y9, y10, rfl⟩ := hp
    simp only [W.bind_wp, W.ret_wp, W.want_wp, W.any_wp, s_ite, s_get0, s_get, s_then, s_end, s_run, s_calm, s_fail, s_start1, s_start2, s_start3, s_start4, s_start5, List.replicate, List.set_cons_zero, List.set_cons_succ, asB_bl, asS_str, Nat.reduceSub, Nat.reduceAdd, addW.eq_1, addW.eq_2, addW.eq_3, addW.eq_4, addW.eq_5, subW.eq_1, subW.eq_2, mulW.eq_1, mulW.eq_2, mulW.eq_3, intOp.eq_1, negW.eq_1, ordW.eq_1, ordW.eq_2, isW.eq_1, isntW.eq_1, ixW.eq_1, ixW.eq_2, ixW.eq_3, slW.eq_1, slW.eq_2, slW.eq_3, revTW.eq_1, revLW.eq_1, lenW.eq_1, lenW.eq_2, lenW.eq_3, tupleW.eq_1, tupleW.eq_2, listW.eq_1, listW.eq_2, min2W.eq_1, max2W.eq_1, strW.eq_1, strW.eq_2, joinW.eq_1, joinW.eq_2, walkLW.eq_1, walkTW.eq_1, walkSW.eq_1, range1W.eq_1, zipW.eq_1, zipW.eq_2, tupG.eq_1, gsW.eq_1, gsW.eq_2, par2.eq_1, extW.eq_1, extW.eq_2, partW.eq_1, optW.eq_1, optW.eq_2, modW, fdivW, powW, ltW, leW, gtW, geW, isNone, isi_non, isi_bl, isi_int, isi_str, isi_tup, isi_lst, upperW, putW, appW, tupW, lstW, asB_bl, String.reduceBEq, beq_self_eq_true, Bool.or_true, Bool.true_or, Bool.or_false, Bool.false_or, Bool.and_true, Bool.true_and, Bool.and_false, Bool.false_and, Bool.not_true, Bool.not_false, forall_const, true_implies, true_and, and_true, false_implies, reduceCtorEq, List.length_cons, List.length_nil, forall_eq, imp_self, implies_true, if_true, if_false, Bool.false_eq_true, Bool.true_eq_false]
    refine lcD_go ?_
    simp only [wipeE, List.length_map, W.bind_wp, W.ret_wp, W.want_wp, W.any_wp, s_ite, s_get0, s_get, s_then, s_end, s_run, s_calm, s_fail, s_start1, s_start2, s_start3, s_start4, s_start5, List.replicate, List.set_cons_zero, List.set_cons_succ, asB_bl, asS_str, Nat.reduceSub, Nat.reduceAdd, addW.eq_1, addW.eq_2, addW.eq_3, addW.eq_4, addW.eq_5, subW.eq_1, subW.eq_2, mulW.eq_1, mulW.eq_2, mulW.eq_3, intOp.eq_1, negW.eq_1, ordW.eq_1, ordW.eq_2, isW.eq_1, isntW.eq_1, ixW.eq_1, ixW.eq_2, ixW.eq_3, slW.eq_1, slW.eq_2, slW.eq_3, revTW.eq_1, revLW.eq_1, lenW.eq_1, lenW.eq_2, lenW.eq_3, tupleW.eq_1, tupleW.eq_2, listW.eq_1, listW.eq_2, min2W.eq_1, max2W.eq_1, strW.eq_1, strW.eq_2, joinW.eq_1, joinW.eq_2, walkLW.eq_1, walkTW.eq_1, walkSW.eq_1, range1W.eq_1, zipW.eq_1, zipW.eq_2, tupG.eq_1, gsW.eq_1, gsW.eq_2, par2.eq_1, extW.eq_1, extW.eq_2, partW.eq_1, optW.eq_1, optW.eq_2, modW, fdivW, powW, ltW, leW, gtW, geW, isNone, isi_non, isi_bl, isi_int, isi_str, isi_tup, isi_lst, upperW, putW, appW, tupW, lstW, asB_bl, String.reduceBEq, beq_self_eq_true, Bool.or_true, Bool.true_or, Bool.or_false, Bool.false_or, Bool.and_true, Bool.true_and, Bool.and_false, Bool.false_and, Bool.not_true, Bool.not_false, forall_const, true_implies, true_and, and_true, false_implies, reduceCtorEq, List.length_cons, List.length_nil, forall_eq, imp_self, implies_true, if_true, if_false, Bool.false_eq_true, Bool.true_eq_false]
    refine ⟨⟨by omega, by omega⟩, ?_⟩
    refine lcW_goT (fun _ acc => acc = []) rfl (fun i d acc hd hp => ?_) (fun acc hp => ?_)
    · obtain ⟨hi, rfl⟩ := rangeAt hd
      have hk : i < Ls.length := by omega
      have k1 : atI (Ls.map rowsT) (0 + (i : Int)) = some (rowsT Ls[i]) := by rw [Int.zero_add]; exact atI_nat (by rw [List.getElem?_map, List.getElem?_eq_getElem hk]; rfl)
      have k2 : atI ((Ls.map sumR).map heapD) (0 + (i : Int)) = some (heapD (sumR Ls[i])) := by rw [Int.zero_add]; exact atI_nat (by rw [List.getElem?_map, List.getElem?_map, List.getElem?_eq_getElem hk]; rfl)
      have rk := hL.each _ (List.getElem_mem hk)
      have sk := hL.sum (List.getElem_mem hk)
      have lA := rk.len
      simp only [k1, k2, W.bind_wp, W.ret_wp, W.want_wp, W.any_wp, s_ite, s_get0, s_get, s_then, s_end, s_run, s_calm, s_fail, s_start1, s_start2, s_start3, s_start4, s_start5, List.replicate, List.set_cons_zero, List.set_cons_succ, asB_bl, asS_str, Nat.reduceSub, Nat.reduceAdd, addW.eq_1, addW.eq_2, addW.eq_3, addW.eq_4, addW.eq_5, subW.eq_1, subW.eq_2, mulW.eq_1, mulW.eq_2, mulW.eq_3, intOp.eq_1, negW.eq_1, ordW.eq_1, ordW.eq_2, isW.eq_1, isntW.eq_1, ixW.eq_1, ixW.eq_2, ixW.eq_3, slW.eq_1, slW.eq_2, slW.eq_3, revTW.eq_1, revLW.eq_1, lenW.eq_1, lenW.eq_2, lenW.eq_3, tupleW.eq_1, tupleW.eq_2, listW.eq_1, listW.eq_2, min2W.eq_1, max2W.eq_1, strW.eq_1, strW.eq_2, joinW.eq_1, joinW.eq_2, walkLW.eq_1, walkTW.eq_1, walkSW.eq_1, range1W.eq_1, zipW.eq_1, zipW.eq_2, tupG.eq_1, gsW.eq_1, gsW.eq_2, par2.eq_1, extW.eq_1, extW.eq_2, partW.eq_1, optW.eq_1, optW.eq_2, modW, fdivW, powW, ltW, leW, gtW, geW, isNone, isi_non, isi_bl, isi_int, isi_str, isi_tup, isi_lst, upperW, putW, appW, tupW, lstW, asB_bl, String.reduceBEq, beq_self_eq_true, Bool.or_true, Bool.true_or, Bool.or_false, Bool.false_or, Bool.and_true, Bool.true_and, Bool.and_false, Bool.false_and, Bool.not_true, Bool.not_false, forall_const, true_implies, true_and, and_true, false_implies, reduceCtorEq, List.length_cons, List.length_nil, forall_eq, imp_self, implies_true, if_true, if_false, Bool.false_eq_true, Bool.true_eq_false]
      refine (right_ret sk (by decide) (by decide) (by omega)).go ?_
      simp only [W.bind_wp, W.ret_wp, W.want_wp, W.any_wp, s_ite, s_get0, s_get, s_then, s_end, s_run, s_calm, s_fail, s_start1, s_start2, s_start3, s_start4, s_start5, List.replicate, List.set_cons_zero, List.set_cons_succ, asB_bl, asS_str, Nat.reduceSub, Nat.reduceAdd, addW.eq_1, addW.eq_2, addW.eq_3, addW.eq_4, addW.eq_5, subW.eq_1, subW.eq_2, mulW.eq_1, mulW.eq_2, mulW.eq_3, intOp.eq_1, negW.eq_1, ordW.eq_1, ordW.eq_2, isW.eq_1, isntW.eq_1, ixW.eq_1, ixW.eq_2, ixW.eq_3, slW.eq_1, slW.eq_2, slW.eq_3, revTW.eq_1, revLW.eq_1, lenW.eq_1, lenW.eq_2, lenW.eq_3, tupleW.eq_1, tupleW.eq_2, listW.eq_1, listW.eq_2, min2W.eq_1, max2W.eq_1, strW.eq_1, strW.eq_2, joinW.eq_1, joinW.eq_2, walkLW.eq_1, walkTW.eq_1, walkSW.eq_1, range1W.eq_1, zipW.eq_1, zipW.eq_2, tupG.eq_1, gsW.eq_1, gsW.eq_2, par2.eq_1, extW.eq_1, extW.eq_2, partW.eq_1, optW.eq_1, optW.eq_2, modW, fdivW, powW, ltW, leW, gtW, geW, isNone, isi_non, isi_bl, isi_int, isi_str, isi_tup, isi_lst, upperW, putW, appW, tupW, lstW, asB_bl, String.reduceBEq, beq_self_eq_true, Bool.or_true, Bool.true_or, Bool.or_false, Bool.false_or, Bool.and_true, Bool.true_and, Bool.and_false, Bool.false_and, Bool.not_true, Bool.not_false, forall_const, true_implies, true_and, and_true, false_implies, reduceCtorEq, List.length_cons, List.length_nil, forall_eq, imp_self, implies_true, if_true, if_false, Bool.false_eq_true, Bool.true_eq_false]
      exact hp
    · subst hp
      have e : eqW (.lst []) (.lst []) = W.ret (.bl true) := by
        rw [eqW_sh rowsTs_sh rowsTs_sh]
        have : D.eqv (.lst []) (.lst []) = true := by
          unfold D.eqv
          show PyData.eqv (.list []) (.list []) = true
          rw [PyData.eqv]
          unfold PyData.eqvAll
          rfl
        rw [this]
      simp only [e, W.bind_wp, W.ret_wp, W.want_wp, W.any_wp, s_ite, s_get0, s_get, s_then, s_end, s_run, s_calm, s_fail, s_start1, s_start2, s_start3, s_start4, s_start5, List.replicate, List.set_cons_zero, List.set_cons_succ, asB_bl, asS_str, Nat.reduceSub, Nat.reduceAdd, addW.eq_1, addW.eq_2, addW.eq_3, addW.eq_4, addW.eq_5, subW.eq_1, subW.eq_2, mulW.eq_1, mulW.eq_2, mulW.eq_3, intOp.eq_1, negW.eq_1, ordW.eq_1, ordW.eq_2, isW.eq_1, isntW.eq_1, ixW.eq_1, ixW.eq_2, ixW.eq_3, slW.eq_1, slW.eq_2, slW.eq_3, revTW.eq_1, revLW.eq_1, lenW.eq_1, lenW.eq_2, lenW.eq_3, tupleW.eq_1, tupleW.eq_2, listW.eq_1, listW.eq_2, min2W.eq_1, max2W.eq_1, strW.eq_1, strW.eq_2, joinW.eq_1, joinW.eq_2, walkLW.eq_1, walkTW.eq_1, walkSW.eq_1, range1W.eq_1, zipW.eq_1, zipW.eq_2, tupG.eq_1, gsW.eq_1, gsW.eq_2, par2.eq_1, extW.eq_1, extW.eq_2, partW.eq_1, optW.eq_1, optW.eq_2, modW, fdivW, powW, ltW, leW, gtW, geW, isNone, isi_non, isi_bl, isi_int, isi_str, isi_tup, isi_lst, upperW, putW, appW, tupW, lstW, asB_bl, String.reduceBEq, beq_self_eq_true, Bool.or_true, Bool.true_or, Bool.or_false, Bool.false_or, Bool.and_true, Bool.true_and, Bool.and_false, Bool.false_and, Bool.not_true, Bool.not_false, forall_const, true_implies, true_and, and_true, false_implies, reduceCtorEq, List.length_cons, List.length_nil, forall_eq, imp_self, implies_true, if_true, if_false, Bool.false_eq_true, Bool.true_eq_false]
      exact ⟨by decide, true, rfl, rfl⟩
theorem law_wp : (bLaw (lawE 11)).wp (fun f => ∃ b, f = .rt (.bl b) ∧ b = true) fun _ => False := by
  rw [env_is]
  simp only [bLaw, W.bind_wp, W.ret_wp, W.want_wp, W.any_wp, s_ite, s_get0, s_get, s_then, s_end, s_run, s_calm, s_fail, s_start1, s_start2, s_start3, s_start4, s_start5, List.replicate, List.set_cons_zero, List.set_cons_succ, asB_bl, asS_str, Nat.reduceSub, Nat.reduceAdd, addW.eq_1, addW.eq_2, addW.eq_3, addW.eq_4, addW.eq_5, subW.eq_1, subW.eq_2, mulW.eq_1, mulW.eq_2, mulW.eq_3, intOp.eq_1, negW.eq_1, ordW.eq_1, ordW.eq_2, isW.eq_1, isntW.eq_1, ixW.eq_1, ixW.eq_2, ixW.eq_3, slW.eq_1, slW.eq_2, slW.eq_3, revTW.eq_1, revLW.eq_1, lenW.eq_1, lenW.eq_2, lenW.eq_3, tupleW.eq_1, tupleW.eq_2, listW.eq_1, listW.eq_2, min2W.eq_1, max2W.eq_1, strW.eq_1, strW.eq_2, joinW.eq_1, joinW.eq_2, walkLW.eq_1, walkTW.eq_1, walkSW.eq_1, range1W.eq_1, zipW.eq_1, zipW.eq_2, tupG.eq_1, gsW.eq_1, gsW.eq_2, par2.eq_1, extW.eq_1, extW.eq_2, partW.eq_1, optW.eq_1, optW.eq_2, modW, fdivW, powW, ltW, leW, gtW, geW, isNone, isi_non, isi_bl, isi_int, isi_str, isi_tup, isi_lst, upperW, putW, appW, tupW, lstW, asB_bl, String.reduceBEq, beq_self_eq_true, Bool.or_true, Bool.true_or, Bool.or_false, Bool.false_or, Bool.and_true, Bool.true_and, Bool.and_false, Bool.false_and, Bool.not_true, Bool.not_false, forall_const, true_implies, true_and, and_true, false_implies, reduceCtorEq, List.length_cons, List.length_nil, forall_eq, imp_self, implies_true, if_true, if_false, Bool.false_eq_true, Bool.true_eq_false]
  refine draw_wp (by decide) (by decide) fun r r0 r1 => ?_
  simp only [W.bind_wp, W.ret_wp, W.want_wp, W.any_wp, s_ite, s_get0, s_get, s_then, s_end, s_run, s_calm, s_fail, s_start1, s_start2, s_start3, s_start4, s_start5, List.replicate, List.set_cons_zero, List.set_cons_succ, asB_bl, asS_str, Nat.reduceSub, Nat.reduceAdd, addW.eq_1, addW.eq_2, addW.eq_3, addW.eq_4, addW.eq_5, subW.eq_1, subW.eq_2, mulW.eq_1, mulW.eq_2, mulW.eq_3, intOp.eq_1, negW.eq_1, ordW.eq_1, ordW.eq_2, isW.eq_1, isntW.eq_1, ixW.eq_1, ixW.eq_2, ixW.eq_3, slW.eq_1, slW.eq_2, slW.eq_3, revTW.eq_1, revLW.eq_1, lenW.eq_1, lenW.eq_2, lenW.eq_3, tupleW.eq_1, tupleW.eq_2, listW.eq_1, listW.eq_2, min2W.eq_1, max2W.eq_1, strW.eq_1, strW.eq_2, joinW.eq_1, joinW.eq_2, walkLW.eq_1, walkTW.eq_1, walkSW.eq_1, range1W.eq_1, zipW.eq_1, zipW.eq_2, tupG.eq_1, gsW.eq_1, gsW.eq_2, par2.eq_1, extW.eq_1, extW.eq_2, partW.eq_1, optW.eq_1, optW.eq_2, modW, fdivW, powW, ltW, leW, gtW, geW, isNone, isi_non, isi_bl, isi_int, isi_str, isi_tup, isi_lst, upperW, putW, appW, tupW, lstW, asB_bl, String.reduceBEq, beq_self_eq_true, Bool.or_true, Bool.true_or, Bool.or_false, Bool.false_or, Bool.and_true, Bool.true_and, Bool.and_false, Bool.false_and, Bool.not_true, Bool.not_false, forall_const, true_implies, true_and, and_true, false_implies, reduceCtorEq, List.length_cons, List.length_nil, forall_eq, imp_self, implies_true, if_true, if_false, Bool.false_eq_true, Bool.true_eq_false]
  refine names_wp (by omega) (by omega) fun fs lf fw _ => ?_
  refine draw_wp (by decide) (by decide) fun k k0 k1 => ?_
  simp only [W.bind_wp, W.ret_wp, W.want_wp, W.any_wp, s_ite, s_get0, s_get, s_then, s_end, s_run, s_calm, s_fail, s_start1, s_start2, s_start3, s_start4, s_start5, List.replicate, List.set_cons_zero, List.set_cons_succ, asB_bl, asS_str, Nat.reduceSub, Nat.reduceAdd, addW.eq_1, addW.eq_2, addW.eq_3, addW.eq_4, addW.eq_5, subW.eq_1, subW.eq_2, mulW.eq_1, mulW.eq_2, mulW.eq_3, intOp.eq_1, negW.eq_1, ordW.eq_1, ordW.eq_2, isW.eq_1, isntW.eq_1, ixW.eq_1, ixW.eq_2, ixW.eq_3, slW.eq_1, slW.eq_2, slW.eq_3, revTW.eq_1, revLW.eq_1, lenW.eq_1, lenW.eq_2, lenW.eq_3, tupleW.eq_1, tupleW.eq_2, listW.eq_1, listW.eq_2, min2W.eq_1, max2W.eq_1, strW.eq_1, strW.eq_2, joinW.eq_1, joinW.eq_2, walkLW.eq_1, walkTW.eq_1, walkSW.eq_1, range1W.eq_1, zipW.eq_1, zipW.eq_2, tupG.eq_1, gsW.eq_1, gsW.eq_2, par2.eq_1, extW.eq_1, extW.eq_2, partW.eq_1, optW.eq_1, optW.eq_2, modW, fdivW, powW, ltW, leW, gtW, geW, isNone, isi_non, isi_bl, isi_int, isi_str, isi_tup, isi_lst, upperW, putW, appW, tupW, lstW, asB_bl, String.reduceBEq, beq_self_eq_true, Bool.or_true, Bool.true_or, Bool.or_false, Bool.false_or, Bool.and_true, Bool.true_and, Bool.and_false, Bool.false_and, Bool.not_true, Bool.not_false, forall_const, true_implies, true_and, and_true, false_implies, reduceCtorEq, List.length_cons, List.length_nil, forall_eq, imp_self, implies_true, if_true, if_false, Bool.false_eq_true, Bool.true_eq_false]
  refine names_wp (by omega) (by omega) fun ss ls sw _ => ?_
  have f0 : fs ≠ [] := by
    intro z
    rw [z] at lf
    simp at lf
    omega
  have s0 : ss ≠ [] := by
    intro z
    rw [z] at ls
    simp at ls
    omega
  simp only [bLaw_9, W.bind_wp, W.ret_wp, W.want_wp, W.any_wp, s_ite, s_get0, s_get, s_then, s_end, s_run, s_calm, s_fail, s_start1, s_start2, s_start3, s_start4, s_start5, List.replicate, List.set_cons_zero, List.set_cons_succ, asB_bl, asS_str, Nat.reduceSub, Nat.reduceAdd, addW.eq_1, addW.eq_2, addW.eq_3, addW.eq_4, addW.eq_5, subW.eq_1, subW.eq_2, mulW.eq_1, mulW.eq_2, mulW.eq_3, intOp.eq_1, negW.eq_1, ordW.eq_1, ordW.eq_2, isW.eq_1, isntW.eq_1, ixW.eq_1, ixW.eq_2, ixW.eq_3, slW.eq_1, slW.eq_2, slW.eq_3, revTW.eq_1, revLW.eq_1, lenW.eq_1, lenW.eq_2, lenW.eq_3, tupleW.eq_1, tupleW.eq_2, listW.eq_1, listW.eq_2, min2W.eq_1, max2W.eq_1, strW.eq_1, strW.eq_2, joinW.eq_1, joinW.eq_2, walkLW.eq_1, walkTW.eq_1, walkSW.eq_1, range1W.eq_1, zipW.eq_1, zipW.eq_2, tupG.eq_1, gsW.eq_1, gsW.eq_2, par2.eq_1, extW.eq_1, extW.eq_2, partW.eq_1, optW.eq_1, optW.eq_2, modW, fdivW, powW, ltW, leW, gtW, geW, isNone, isi_non, isi_bl, isi_int, isi_str, isi_tup, isi_lst, upperW, putW, appW, tupW, lstW, asB_bl, String.reduceBEq, beq_self_eq_true, Bool.or_true, Bool.true_or, Bool.or_false, Bool.false_or, Bool.and_true, Bool.true_and, Bool.and_false, Bool.false_and, Bool.not_true, Bool.not_false, forall_const, true_implies, true_and, and_true, false_implies, reduceCtorEq, List.length_cons, List.length_nil, forall_eq, imp_self, implies_true, if_true, if_false, Bool.false_eq_true, Bool.true_eq_false]
  refine lots_wp f0 s0 (by omega) (by omega) fw sw fun Ls l8 hL => ?_
  exact l8_wp ⟨l8, hL⟩
end LP.K05
namespace K05
open PySem PySem.Spec PyProof.Rows L2 PK
abbrev NEqX : List Str := ["self", "other"]
theorem scEqX : FnScope NEqX ["self", "other"] (defScope (inClass (topS 3) 7)) := ⟨rfl, rfl, rfl, by decide +kernel, rfl, by decide +kernel, by decide +kernel⟩
section
variable {P : Program} {w : World} {K : PySem.W.Frag} {mg : Str → Option Value} {base : Heap}
theorem ok_eqX {f C : Addr} {fd : FuncData} {k : Nat} (F : Fun K "__eq__" "Heap.__eq__" (inClass (topS 3) 7) f fd) (T : HCls K mg C) (ap : Apart6 K C) (hI : mg "isinstance" = none) :
    FnOk P w K mg base CX0 (k + 1) f fd ["self", "other"] (spEqX K C) := by
  refine F.ok scEqX (fun vs H Q E h => ?_) (fun cdv A outer s H vs Q E hr h => ?_)
  · obtain ⟨p, L, y, t, rfl, _⟩ := h
    rfl
  · obtain ⟨p, L, y, t, rfl, hp, hy, q⟩ := h
    refine ⟨_, (pss_one (ps_ret (pe_and (pe_callB (k_isi K) (by rfl) hI (by decide +kernel) (pa_cons (pv 1) (pa_cons (pe_glob (v := .ref C) (by rfl) T.mg rfl) pa_nil))) (pe_one (pe_cmpR (ko_eqD K hr) (pe_fld (pv 0) rfl) (pe_fld (pv 1) rfl) (nomark _)))))), ?_⟩
    exact ⟨y, rfl, y, .ref C, .type t, .ref C, false, rfl, .own C, hy.tyX, kit_apart hy ap, false, rfl, iteF q⟩
end
end K05
namespace K05
open PySem PySem.Spec PyProof.Rows L2 PK
abbrev NBool : List Str := ["self"]
theorem scBool : FnScope NBool ["self"] (defScope (inClass (topS 3) 9)) := ⟨rfl, rfl, rfl, by decide +kernel, rfl, by decide +kernel, by decide +kernel⟩
section
variable {P : Program} {w : World} {K : PySem.W.Frag} {mg : Str → Option Value} {base : Heap}
theorem ok_bool {f C : Addr} {fd : FuncData} {k : Nat} (F : Fun K "__bool__" "Heap.__bool__" (inClass (topS 3) 9) f fd) (T : HCls K mg C) (hl : mg "len" = none) :
    FnOk P w K mg base CX0 (k + 1) f fd ["self"] (spBoolH K C) := by
  refine F.ok scBool (fun vs H Q E h => ?_) (fun cdv A outer s H vs Q E hr h => ?_)
  · obtain ⟨p, L, rfl, _⟩ := h
    rfl
  · obtain ⟨p, L, rfl, ⟨dx, t0, e1, d1⟩, hL, q⟩ := h
    refine ⟨_, (pss_one (ps_ret (pe_cmpR op_gt (pe_callB (k_len K) (by rfl) hl PySem.boot_len (pa_cons (pe_fld (pv 0) rfl) pa_nil)) pe_int (nomark _)))), ?_⟩
    obtain ⟨b, us, eb, hb, du⟩ := Dp.tupE d1
    cases eb
    have e : us.length = L.length := dp_lenM du
    refine ⟨.ref p, rfl, p, C, dx, _, _, rfl, e1, T.cl, T.nh, hf_held _, t0, us, rfl, .inr hb, ?_⟩
    rw [e]
    have e2 : decide ((0 : Int) < (L.length : Int)) = decide (0 < L.length) := by
      by_cases z : 0 < L.length
      · rw [decide_eq_true z, decide_eq_true (by omega)]
      · rw [decide_eq_false z, decide_eq_false (by omega)]
    refine ⟨_, _, rfl, rfl, ?_⟩
    show Q (.bl (decide ((0 : Int) < (L.length : Int)))) H
    rw [e2]
    exact q
end
end K05
namespace LP.K05
open PySem PySem.Spec PyProof.Rows L2 PK LP RZ
open _root_.K05
section
variable {K : PySem.W.Frag}
theorem kb_m2 {f : Addr} {fd : FuncData} (F : FunM K f fd) : KB K fd ["self", "form", "shade"] 2 [] (fun vs _ => vs ++ [.non]) :=
  kb_of F 2 [] (fun vs ds _ => vs ++ ds) (by simp) (fun r d _ => r.append d) fun T kV doc pm an cdv ct us its ws h1 h2 h3 => by
    match us, its, ws, h1, h2, h3 with
    | [a, b], [c], [], _, _, _ => exact ⟨_, rfl, rfl⟩
end
theorem all_mk {l : PySem.W.OpenLaw} {w : World} {K : PySem.W.Frag} {h : Heap} {mg : Str → Option Value} {fa : Addr} (X : K.In h) (G : h.Ns mainGlobals mg) (hfa : mg "law" = some (.ref fa))
    {f_feed : Addr} {od_feed an_feed : Option Addr} {sl_feed : Array (Option Value)} {oc_feed kV_feed dc_feed pm_feed cd_feed ct_feed : Value}
    (a_feed : PySem.W.nsIn K mainGlobals "_law_feed" = some (some (.ref f_feed))) (l_feed : K.lookup f_feed = some ⟨oc_feed, od_feed, .func (PySem.W.fnOf "_law_feed" "_law_feed" (defArgs (topS 5)) (defBody (topS 5)) (defScope (topS 5)) .none kV_feed dc_feed pm_feed an_feed cd_feed ct_feed), sl_feed⟩) (c_feed : PySem.W.codeIn K cd_feed "_law_feed" = true) (k_feed : PySem.W.keepIn K (.ref f_feed) = true)
    {f_Draw : Addr} {od_Draw an_Draw : Option Addr} {sl_Draw : Array (Option Value)} {oc_Draw kV_Draw dc_Draw pm_Draw cd_Draw ct_Draw : Value}
    (a_Draw : PySem.W.nsIn K mainGlobals "_law_draw" = some (some (.ref f_Draw))) (l_Draw : K.lookup f_Draw = some ⟨oc_Draw, od_Draw, .func (PySem.W.fnOf "_law_draw" "_law_draw" (defArgs (topS 6)) (defBody (topS 6)) (defScope (topS 6)) .none kV_Draw dc_Draw pm_Draw an_Draw cd_Draw ct_Draw), sl_Draw⟩) (c_Draw : PySem.W.codeIn K cd_Draw "_law_draw" = true) (k_Draw : PySem.W.keepIn K (.ref f_Draw) = true)
    {f_added : Addr} {od_added an_added : Option Addr} {sl_added : Array (Option Value)} {oc_added kV_added dc_added pm_added cd_added ct_added : Value}
    (a_added : PySem.W.nsIn K mainGlobals "added_rows" = some (some (.ref f_added))) (l_added : K.lookup f_added = some ⟨oc_added, od_added, .func (PySem.W.fnOf "added_rows" "added_rows" (defArgs (topS 2)) (defBody (topS 2)) (defScope (topS 2)) .none kV_added dc_added pm_added an_added cd_added ct_added), sl_added⟩) (c_added : PySem.W.codeIn K cd_added "added_rows" = true) (k_added : PySem.W.keepIn K (.ref f_added) = true)
    {f_LNames : Addr} {od_LNames an_LNames : Option Addr} {sl_LNames : Array (Option Value)} {oc_LNames kV_LNames dc_LNames pm_LNames cd_LNames ct_LNames : Value}
    (a_LNames : PySem.W.nsIn K mainGlobals "_law_names" = some (some (.ref f_LNames))) (l_LNames : K.lookup f_LNames = some ⟨oc_LNames, od_LNames, .func (PySem.W.fnOf "_law_names" "_law_names" (defArgs (topS 7)) (defBody (topS 7)) (defScope (topS 7)) .none kV_LNames dc_LNames pm_LNames an_LNames cd_LNames ct_LNames), sl_LNames⟩) (c_LNames : PySem.W.codeIn K cd_LNames "_law_names" = true) (k_LNames : PySem.W.keepIn K (.ref f_LNames) = true)
    {f_LMany : Addr} {od_LMany an_LMany : Option Addr} {sl_LMany : Array (Option Value)} {oc_LMany kV_LMany dc_LMany pm_LMany cd_LMany ct_LMany : Value}
    (a_LMany : PySem.W.nsIn K mainGlobals "_law_many" = some (some (.ref f_LMany))) (l_LMany : K.lookup f_LMany = some ⟨oc_LMany, od_LMany, .func (PySem.W.fnOf "_law_many" "_law_many" (defArgs (topS 8)) (defBody (topS 8)) (defScope (topS 8)) .none kV_LMany dc_LMany pm_LMany an_LMany cd_LMany ct_LMany), sl_LMany⟩) (c_LMany : PySem.W.codeIn K cd_LMany "_law_many" = true) (k_LMany : PySem.W.keepIn K (.ref f_LMany) = true)
    {f_LRows : Addr} {od_LRows an_LRows : Option Addr} {sl_LRows : Array (Option Value)} {oc_LRows kV_LRows dc_LRows pm_LRows cd_LRows ct_LRows : Value}
    (a_LRows : PySem.W.nsIn K mainGlobals "_law_rows" = some (some (.ref f_LRows))) (l_LRows : K.lookup f_LRows = some ⟨oc_LRows, od_LRows, .func (PySem.W.fnOf "_law_rows" "_law_rows" (defArgs (topS 9)) (defBody (topS 9)) (defScope (topS 9)) .none kV_LRows dc_LRows pm_LRows an_LRows cd_LRows ct_LRows), sl_LRows⟩) (c_LRows : PySem.W.codeIn K cd_LRows "_law_rows" = true) (k_LRows : PySem.W.keepIn K (.ref f_LRows) = true)
    {f_Summed : Addr} {od_Summed an_Summed : Option Addr} {sl_Summed : Array (Option Value)} {oc_Summed kV_Summed dc_Summed pm_Summed cd_Summed ct_Summed : Value}
    (a_Summed : PySem.W.nsIn K mainGlobals "_law_summed" = some (some (.ref f_Summed))) (l_Summed : K.lookup f_Summed = some ⟨oc_Summed, od_Summed, .func (PySem.W.fnOf "_law_summed" "_law_summed" (defArgs (topS 10)) (defBody (topS 10)) (defScope (topS 10)) .none kV_Summed dc_Summed pm_Summed an_Summed cd_Summed ct_Summed), sl_Summed⟩) (c_Summed : PySem.W.codeIn K cd_Summed "_law_summed" = true) (k_Summed : PySem.W.keepIn K (.ref f_Summed) = true)
    {f_Shown : Addr} {od_Shown an_Shown : Option Addr} {sl_Shown : Array (Option Value)} {oc_Shown kV_Shown dc_Shown pm_Shown cd_Shown ct_Shown : Value}
    (a_Shown : PySem.W.nsIn K mainGlobals "_law_shown" = some (some (.ref f_Shown))) (l_Shown : K.lookup f_Shown = some ⟨oc_Shown, od_Shown, .func (PySem.W.fnOf "_law_shown" "_law_shown" (defArgs (topS 12)) (defBody (topS 12)) (defScope (topS 12)) .none kV_Shown dc_Shown pm_Shown an_Shown cd_Shown ct_Shown), sl_Shown⟩) (c_Shown : PySem.W.codeIn K cd_Shown "_law_shown" = true) (k_Shown : PySem.W.keepIn K (.ref f_Shown) = true)
    {f_Lots : Addr} {od_Lots an_Lots : Option Addr} {sl_Lots : Array (Option Value)} {oc_Lots kV_Lots dc_Lots pm_Lots cd_Lots ct_Lots : Value}
    (a_Lots : PySem.W.nsIn K mainGlobals "_law_lots" = some (some (.ref f_Lots))) (l_Lots : K.lookup f_Lots = some ⟨oc_Lots, od_Lots, .func (PySem.W.fnOf "_law_lots" "_law_lots" (defArgs (topS 11)) (defBody (topS 11)) (defScope (topS 11)) .none kV_Lots dc_Lots pm_Lots an_Lots cd_Lots ct_Lots), sl_Lots⟩) (c_Lots : PySem.W.codeIn K cd_Lots "_law_lots" = true) (k_Lots : PySem.W.keepIn K (.ref f_Lots) = true)
    {f_Right : Addr} {od_Right an_Right : Option Addr} {sl_Right : Array (Option Value)} {oc_Right kV_Right dc_Right pm_Right cd_Right ct_Right : Value}
    (a_Right : PySem.W.nsIn K mainGlobals "_law_right" = some (some (.ref f_Right))) (l_Right : K.lookup f_Right = some ⟨oc_Right, od_Right, .func (PySem.W.fnOf "_law_right" "_law_right" (defArgs (topS 13)) (defBody (topS 13)) (defScope (topS 13)) .none kV_Right dc_Right pm_Right an_Right cd_Right ct_Right), sl_Right⟩) (c_Right : PySem.W.codeIn K cd_Right "_law_right" = true) (k_Right : PySem.W.keepIn K (.ref f_Right) = true)
    {f_law : Addr} {od_law an_law : Option Addr} {sl_law : Array (Option Value)} {oc_law kV_law dc_law pm_law cd_law ct_law : Value}
    (a_law : PySem.W.nsIn K mainGlobals "law" = some (some (.ref f_law))) (l_law : K.lookup f_law = some ⟨oc_law, od_law, .func (PySem.W.fnOf "law" "law" (defArgs (topS 14)) (defBody (topS 14)) (defScope (topS 14)) .none kV_law dc_law pm_law an_law cd_law ct_law), sl_law⟩) (c_law : PySem.W.codeIn K cd_law "law" = true) (k_law : PySem.W.keepIn K (.ref f_law) = true)
    {C_heap : Addr} (a_heap : PySem.W.nsIn K mainGlobals "Heap" = some (some (.ref C_heap)))
    (pg_heap : PySem.W.plainGet K C_heap Str.empty = true) (hd_heap : PySem.W.hasDictIn K C_heap = true) (po_heap : PySem.W.plainOver K C_heap = true) (sa_heap : PySem.W.findIn K (.ref C_heap) "__setattr__" = some (some (.builtin "object.__setattr__"))) (mk_heap : PySem.W.makesIn K C_heap = true) (kc_heap : PySem.W.keepIn K (.ref C_heap) = true)
    (n_heap_held : PySem.W.findIn K (.ref C_heap) "held" = some none)
    {f_init : Addr} {od_init an_init : Option Addr} {sl_init : Array (Option Value)} {oc_init kV_init dc_init pm_init cd_init ct_init : Value}
    {T_init : Addr} {odT_init : Option Addr} {slT_init : Array (Option Value)} {nT_init : Nat} {ocT_init : Value}
    (a_init : PySem.W.findIn K (.ref C_heap) "__init__" = some (some (.ref f_init))) (i_init : PySem.W.isFn K (.ref f_init) = true) (l_init : K.lookup f_init = some ⟨oc_init, od_init, .func (PySem.W.fnOf "__init__" "Heap.__init__" (defArgs (inClass (topS 3) 0)) (defBody (inClass (topS 3) 0)) (defScope (inClass (topS 3) 0)) (.ref T_init) kV_init dc_init pm_init an_init cd_init ct_init), sl_init⟩) (t_init : K.lookup T_init = some ⟨ocT_init, odT_init, .seq #[.none] nT_init, slT_init⟩) (c_init : PySem.W.codeIn K cd_init "Heap.__init__" = true) (k_init : PySem.W.keepIn K (.ref f_init) = true)
    {f_rows : Addr} {od_rows an_rows : Option Addr} {sl_rows : Array (Option Value)} {oc_rows kV_rows dc_rows pm_rows cd_rows ct_rows : Value}
    (a_rows : PySem.W.findIn K (.ref C_heap) "rows" = some (some (.ref f_rows))) (i_rows : PySem.W.isFn K (.ref f_rows) = true) (l_rows : K.lookup f_rows = some ⟨oc_rows, od_rows, .func (PySem.W.fnOf "rows" "Heap.rows" (defArgs (inClass (topS 3) 1)) (defBody (inClass (topS 3) 1)) (defScope (inClass (topS 3) 1)) .none kV_rows dc_rows pm_rows an_rows cd_rows ct_rows), sl_rows⟩) (c_rows : PySem.W.codeIn K cd_rows "Heap.rows" = true) (k_rows : PySem.W.keepIn K (.ref f_rows) = true)
    {f_hmany : Addr} {od_hmany an_hmany : Option Addr} {sl_hmany : Array (Option Value)} {oc_hmany kV_hmany dc_hmany pm_hmany cd_hmany ct_hmany : Value}
    {T_hmany : Addr} {odT_hmany : Option Addr} {slT_hmany : Array (Option Value)} {nT_hmany : Nat} {ocT_hmany : Value}
    (a_hmany : PySem.W.findIn K (.ref C_heap) "many" = some (some (.ref f_hmany))) (i_hmany : PySem.W.isFn K (.ref f_hmany) = true) (l_hmany : K.lookup f_hmany = some ⟨oc_hmany, od_hmany, .func (PySem.W.fnOf "many" "Heap.many" (defArgs (inClass (topS 3) 2)) (defBody (inClass (topS 3) 2)) (defScope (inClass (topS 3) 2)) (.ref T_hmany) kV_hmany dc_hmany pm_hmany an_hmany cd_hmany ct_hmany), sl_hmany⟩) (t_hmany : K.lookup T_hmany = some ⟨ocT_hmany, odT_hmany, .seq #[.none] nT_hmany, slT_hmany⟩) (c_hmany : PySem.W.codeIn K cd_hmany "Heap.many" = true) (k_hmany : PySem.W.keepIn K (.ref f_hmany) = true)
    {f_eq : Addr} {od_eq an_eq : Option Addr} {sl_eq : Array (Option Value)} {oc_eq kV_eq dc_eq pm_eq cd_eq ct_eq : Value}
    (a_eq : PySem.W.findIn K (.ref C_heap) "__eq__" = some (some (.ref f_eq))) (i_eq : PySem.W.isFn K (.ref f_eq) = true) (l_eq : K.lookup f_eq = some ⟨oc_eq, od_eq, .func (PySem.W.fnOf "__eq__" "Heap.__eq__" (defArgs (inClass (topS 3) 7)) (defBody (inClass (topS 3) 7)) (defScope (inClass (topS 3) 7)) .none kV_eq dc_eq pm_eq an_eq cd_eq ct_eq), sl_eq⟩) (c_eq : PySem.W.codeIn K cd_eq "Heap.__eq__" = true) (k_eq : PySem.W.keepIn K (.ref f_eq) = true)
    {f_len : Addr} {od_len an_len : Option Addr} {sl_len : Array (Option Value)} {oc_len kV_len dc_len pm_len cd_len ct_len : Value}
    (a_len : PySem.W.findIn K (.ref C_heap) "__len__" = some (some (.ref f_len))) (i_len : PySem.W.isFn K (.ref f_len) = true) (l_len : K.lookup f_len = some ⟨oc_len, od_len, .func (PySem.W.fnOf "__len__" "Heap.__len__" (defArgs (inClass (topS 3) 8)) (defBody (inClass (topS 3) 8)) (defScope (inClass (topS 3) 8)) .none kV_len dc_len pm_len an_len cd_len ct_len), sl_len⟩) (c_len : PySem.W.codeIn K cd_len "Heap.__len__" = true) (k_len : PySem.W.keepIn K (.ref f_len) = true)
    {f_str : Addr} {od_str an_str : Option Addr} {sl_str : Array (Option Value)} {oc_str kV_str dc_str pm_str cd_str ct_str : Value}
    (a_str : PySem.W.findIn K (.ref C_heap) "__str__" = some (some (.ref f_str))) (i_str : PySem.W.isFn K (.ref f_str) = true) (l_str : K.lookup f_str = some ⟨oc_str, od_str, .func (PySem.W.fnOf "__str__" "Heap.__str__" (defArgs (inClass (topS 3) 10)) (defBody (inClass (topS 3) 10)) (defScope (inClass (topS 3) 10)) .none kV_str dc_str pm_str an_str cd_str ct_str), sl_str⟩) (c_str : PySem.W.codeIn K cd_str "Heap.__str__" = true) (k_str : PySem.W.keepIn K (.ref f_str) = true)
    {f_repr : Addr} {od_repr an_repr : Option Addr} {sl_repr : Array (Option Value)} {oc_repr kV_repr dc_repr pm_repr cd_repr ct_repr : Value}
    (a_repr : PySem.W.findIn K (.ref C_heap) "__repr__" = some (some (.ref f_repr))) (i_repr : PySem.W.isFn K (.ref f_repr) = true) (l_repr : K.lookup f_repr = some ⟨oc_repr, od_repr, .func (PySem.W.fnOf "__repr__" "Heap.__repr__" (defArgs (inClass (topS 3) 11)) (defBody (inClass (topS 3) 11)) (defScope (inClass (topS 3) 11)) .none kV_repr dc_repr pm_repr an_repr cd_repr ct_repr), sl_repr⟩) (c_repr : PySem.W.codeIn K cd_repr "Heap.__repr__" = true) (k_repr : PySem.W.keepIn K (.ref f_repr) = true)
    {f_bool : Addr} {od_bool an_bool : Option Addr} {sl_bool : Array (Option Value)} {oc_bool kV_bool dc_bool pm_bool cd_bool ct_bool : Value}
    (a_bool : PySem.W.findIn K (.ref C_heap) "__bool__" = some (some (.ref f_bool))) (i_bool : PySem.W.isFn K (.ref f_bool) = true) (l_bool : K.lookup f_bool = some ⟨oc_bool, od_bool, .func (PySem.W.fnOf "__bool__" "Heap.__bool__" (defArgs (inClass (topS 3) 9)) (defBody (inClass (topS 3) 9)) (defScope (inClass (topS 3) 9)) .none kV_bool dc_bool pm_bool an_bool cd_bool ct_bool), sl_bool⟩) (c_bool : PySem.W.codeIn K cd_bool "Heap.__bool__" = true) (k_bool : PySem.W.keepIn K (.ref f_bool) = true)
    (z_isinstance : PySem.W.nsIn K mainGlobals "isinstance" = some none)
    (z_int : PySem.W.nsIn K mainGlobals "int" = some none)
    (z_bool : PySem.W.nsIn K mainGlobals "bool" = some none)
    (z_str : PySem.W.nsIn K mainGlobals "str" = some none)
    (z_tuple : PySem.W.nsIn K mainGlobals "tuple" = some none)
    (z_list : PySem.W.nsIn K mainGlobals "list" = some none)
    (z_len : PySem.W.nsIn K mainGlobals "len" = some none)
    (z_range : PySem.W.nsIn K mainGlobals "range" = some none)
    (z_repr : PySem.W.nsIn K mainGlobals "repr" = some none)
    (z_all : PySem.W.nsIn K mainGlobals "all" = some none)
    (z_ord : PySem.W.nsIn K mainGlobals "ord" = some none)
    (z_sorted : PySem.W.nsIn K mainGlobals "sorted" = some none)
    (z_set : PySem.W.nsIn K mainGlobals "set" = some none)
    (z_sum : PySem.W.nsIn K mainGlobals "sum" = some none)
    (z_min : PySem.W.nsIn K mainGlobals "min" = some none)
    (z_zip : PySem.W.nsIn K mainGlobals "zip" = some none)
    (z_max : PySem.W.nsIn K mainGlobals "max" = some none)
    (z_enumerate : PySem.W.nsIn K mainGlobals "enumerate" = some none)
    (z_dict : PySem.W.nsIn K mainGlobals "dict" = some none)
    (ca_heap : PySem.W.findIn K (.ref C_heap) "__class__" = some (some (.builtin "object.__class__"))) (cg_heap : PySem.W.specialIn K (.builtin "object.__class__") "__get__" = some (some (.builtin "getset_descriptor.__get__"))) (ct_heap : PySem.W.takesIn K (.builtin "object.__class__") = some true) (cm_heap : PySem.W.mroIn K C_heap (.type "object") = some true)
    (ne_heap : PySem.W.findIn K (.ref C_heap) "__ne__" = some (some (.builtin "object.__ne__"))) (ob_heap : PySem.W.subIn K (.ref C_heap) (.type "object") = some true)
    (a6_non : PySem.W.mroIn K C_heap (.type "NoneType") = some false) (a6_bl : PySem.W.mroIn K C_heap (.type "bool") = some false) (a6_int : PySem.W.mroIn K C_heap (.type "int") = some false) (a6_str : PySem.W.mroIn K C_heap (.type "str") = some false) (a6_tup : PySem.W.mroIn K C_heap (.type "tuple") = some false) (a6_lst : PySem.W.mroIn K C_heap (.type "list") = some false) (a6_hd : PySem.W.hasDictIn K C_heap = true) (a6_ty : PySem.W.typeIn K (.ref C_heap) = some (.type "type"))
    (fm_heap : PySem.W.findIn K (.ref C_heap) "__format__" = some (some (.builtin "object.__format__"))) (fo_heap : PySem.W.mroIn K C_heap (.type "object") = some true)
    : ∃ fd : FuncData, (∀ (s : Shared) (v : Value), BindsTo s fd ⟨[v], []⟩ [("_law_script", v)]) ∧ ∀ base : Heap, K.In base → base.Ns mainGlobals mg → FnG l.prog w K mg base CX0 8 fa fd ["_law_script"] (spLawK K) := by
  have e := hfa.symm.trans (PySem.W.mg_of X G a_law)
  cases e
  have F_feed := fun_mk (st := topS 5) l_feed c_feed k_feed
  have g_feed := PySem.W.mg_of X G a_feed
  have b_feed := F_feed.binds (ps := ["_law_script"]) fun _ _ _ _ _ _ us hl => match us, hl with | [_], _ => rfl
  have F_Draw := fun_mk (st := topS 6) l_Draw c_Draw k_Draw
  have g_Draw := PySem.W.mg_of X G a_Draw
  have b_Draw := F_Draw.binds (ps := ["_law_feed_here", "_law_many_here"]) fun _ _ _ _ _ _ us hl => match us, hl with | [_, _], _ => rfl
  have F_added := fun_mk (st := topS 2) l_added c_added k_added
  have g_added := PySem.W.mg_of X G a_added
  have b_added := F_added.binds (ps := ["rows"]) fun _ _ _ _ _ _ us hl => match us, hl with | [_], _ => rfl
  have F_LNames := fun_mk (st := topS 7) l_LNames c_LNames k_LNames
  have g_LNames := PySem.W.mg_of X G a_LNames
  have b_LNames := F_LNames.binds (ps := ["_law_feed_here", "_law_many_here"]) fun _ _ _ _ _ _ us hl => match us, hl with | [_, _], _ => rfl
  have F_LMany := fun_mk (st := topS 8) l_LMany c_LMany k_LMany
  have g_LMany := PySem.W.mg_of X G a_LMany
  have b_LMany := F_LMany.binds (ps := ["_law_feed_here"]) fun _ _ _ _ _ _ us hl => match us, hl with | [_], _ => rfl
  have F_LRows := fun_mk (st := topS 9) l_LRows c_LRows k_LRows
  have g_LRows := PySem.W.mg_of X G a_LRows
  have b_LRows := F_LRows.binds (ps := ["_law_feed_here", "_law_forms", "_law_shades", "_law_most_now"]) fun _ _ _ _ _ _ us hl => match us, hl with | [_, _, _, _], _ => rfl
  have F_Summed := fun_mk (st := topS 10) l_Summed c_Summed k_Summed
  have g_Summed := PySem.W.mg_of X G a_Summed
  have b_Summed := F_Summed.binds (ps := ["_law_rows_here"]) fun _ _ _ _ _ _ us hl => match us, hl with | [_], _ => rfl
  have F_Shown := fun_mk (st := topS 12) l_Shown c_Shown k_Shown
  have g_Shown := PySem.W.mg_of X G a_Shown
  have b_Shown := F_Shown.binds (ps := ["_law_rows_here"]) fun _ _ _ _ _ _ us hl => match us, hl with | [_], _ => rfl
  have F_Lots := fun_mk (st := topS 11) l_Lots c_Lots k_Lots
  have g_Lots := PySem.W.mg_of X G a_Lots
  have b_Lots := F_Lots.binds (ps := ["_law_feed_here", "_law_forms", "_law_shades"]) fun _ _ _ _ _ _ us hl => match us, hl with | [_, _, _], _ => rfl
  have F_Right := fun_mk (st := topS 13) l_Right c_Right k_Right
  have g_Right := PySem.W.mg_of X G a_Right
  have b_Right := F_Right.binds (ps := ["_law_heap", "_law_rows_here"]) fun _ _ _ _ _ _ us hl => match us, hl with | [_, _], _ => rfl
  have F_law := fun_mk (st := topS 14) l_law c_law k_law
  have g_law := PySem.W.mg_of X G a_law
  have g_heap := PySem.W.mg_of X G a_heap
  have cl_heap : Cls K C_heap := ⟨pg_heap, hd_heap, po_heap, sa_heap⟩
  have F_init : FunD K "__init__" "Heap.__init__" (defArgs (inClass (topS 3) 0)) (defBody (inClass (topS 3) 0)) (defScope (inClass (topS 3) 0)) [.non] [] f_init _ := fund_mk (its := [.none]) l_init c_init k_init t_init rfl (.cons rfl .nil) (by simp)
  have m_init : Meth K C_heap "__init__" f_init := ⟨a_init, i_init, k_init⟩
  have F_rows := fun_mk (st := inClass (topS 3) 1) l_rows c_rows k_rows
  have b_rows := F_rows.binds (ps := ["self"]) fun _ _ _ _ _ _ us hl => match us, hl with | [_], _ => rfl
  have m_rows : Meth K C_heap "rows" f_rows := ⟨a_rows, i_rows, k_rows⟩
  have F_hmany : FunD K "many" "Heap.many" (defArgs (inClass (topS 3) 2)) (defBody (inClass (topS 3) 2)) (defScope (inClass (topS 3) 2)) [.non] [] f_hmany _ := fund_mk (its := [.none]) l_hmany c_hmany k_hmany t_hmany rfl (.cons rfl .nil) (by simp)
  have m_hmany : Meth K C_heap "many" f_hmany := ⟨a_hmany, i_hmany, k_hmany⟩
  have F_eq := fun_mk (st := inClass (topS 3) 7) l_eq c_eq k_eq
  have b_eq := F_eq.binds (ps := ["self", "other"]) fun _ _ _ _ _ _ us hl => match us, hl with | [_, _], _ => rfl
  have m_eq : Meth K C_heap "__eq__" f_eq := ⟨a_eq, i_eq, k_eq⟩
  have F_len := fun_mk (st := inClass (topS 3) 8) l_len c_len k_len
  have b_len := F_len.binds (ps := ["self"]) fun _ _ _ _ _ _ us hl => match us, hl with | [_], _ => rfl
  have m_len : Meth K C_heap "__len__" f_len := ⟨a_len, i_len, k_len⟩
  have F_str := fun_mk (st := inClass (topS 3) 10) l_str c_str k_str
  have b_str := F_str.binds (ps := ["self"]) fun _ _ _ _ _ _ us hl => match us, hl with | [_], _ => rfl
  have m_str : Meth K C_heap "__str__" f_str := ⟨a_str, i_str, k_str⟩
  have F_repr := fun_mk (st := inClass (topS 3) 11) l_repr c_repr k_repr
  have b_repr := F_repr.binds (ps := ["self"]) fun _ _ _ _ _ _ us hl => match us, hl with | [_], _ => rfl
  have m_repr : Meth K C_heap "__repr__" f_repr := ⟨a_repr, i_repr, k_repr⟩
  have F_bool := fun_mk (st := inClass (topS 3) 9) l_bool c_bool k_bool
  have b_bool := F_bool.binds (ps := ["self"]) fun _ _ _ _ _ _ us hl => match us, hl with | [_], _ => rfl
  have m_bool : Meth K C_heap "__bool__" f_bool := ⟨a_bool, i_bool, k_bool⟩
  have m_isinstance := PySem.W.mg_none_of X G z_isinstance
  have m_int := PySem.W.mg_none_of X G z_int
  have m_bool := PySem.W.mg_none_of X G z_bool
  have m_str := PySem.W.mg_none_of X G z_str
  have m_tuple := PySem.W.mg_none_of X G z_tuple
  have m_list := PySem.W.mg_none_of X G z_list
  have m_len := PySem.W.mg_none_of X G z_len
  have m_range := PySem.W.mg_none_of X G z_range
  have m_repr := PySem.W.mg_none_of X G z_repr
  have m_all := PySem.W.mg_none_of X G z_all
  have m_ord := PySem.W.mg_none_of X G z_ord
  have m_sorted := PySem.W.mg_none_of X G z_sorted
  have m_set := PySem.W.mg_none_of X G z_set
  have m_sum := PySem.W.mg_none_of X G z_sum
  have m_min := PySem.W.mg_none_of X G z_min
  have m_zip := PySem.W.mg_none_of X G z_zip
  have m_max := PySem.W.mg_none_of X G z_max
  have m_enumerate := PySem.W.mg_none_of X G z_enumerate
  have m_dict := PySem.W.mg_none_of X G z_dict
  have Hi : HIs K C_heap := ⟨ca_heap, cg_heap, ct_heap, cm_heap⟩
  have ap_heap : Apart6 K C_heap := ⟨a6_non, a6_bl, a6_int, a6_str, a6_tup, a6_lst, a6_hd, a6_ty⟩
  have FmC : FmtC K C_heap := ⟨fm_heap, fo_heap⟩
  refine ⟨PySem.W.fnOf "law" "law" (defArgs (topS 14)) (defBody (topS 14)) (defScope (topS 14)) .none kV_law dc_law pm_law an_law cd_law ct_law, fun s v => .of_eq rfl, fun base _ _ => ?_⟩
  have hB : NoB mg BL := by
    intro x hx
    simp only [BL, List.mem_cons, List.not_mem_nil, or_false] at hx
    rcases hx with rfl | rfl | rfl | rfl | rfl | rfl | rfl | rfl | rfl | rfl | rfl | rfl | rfl | rfl | rfl | rfl | rfl | rfl | rfl
    · exact m_isinstance
    · exact m_int
    · exact m_bool
    · exact m_str
    · exact m_tuple
    · exact m_list
    · exact m_len
    · exact m_range
    · exact m_repr
    · exact m_all
    · exact m_ord
    · exact m_sorted
    · exact m_set
    · exact m_sum
    · exact m_min
    · exact m_zip
    · exact m_max
    · exact m_enumerate
    · exact m_dict
  have Fe : Cal l.prog w K mg base 1 "_law_feed" f_feed _ ["_law_script"] (spFeedOf IsFeed K) := ⟨ok_feed F_feed m_list, g_feed, k_feed, b_feed⟩
  have CDraw : CalV (LP.heapSig l.prog w K C_heap C_heap) mg base 1 "_law_draw" f_Draw _ ["_law_feed_here", "_law_many_here"] drawW := ⟨draw_by (ok_draw F_Draw m_len), g_Draw, k_Draw, b_Draw⟩
  have Ad : Cal l.prog w K mg base 1 "added_rows" f_added _ ["rows"] (spAdded K) := ⟨ok_added F_added m_tuple m_sorted, g_added, k_added, b_added⟩
  have Hc : HCls K mg C_heap := ⟨cl_heap, n_heap_held, g_heap⟩
  have Hm : HMk l.prog w K mg base 2 C_heap f_init _ := ⟨Hc, ⟨mk_heap, a_init, i_init, kc_heap⟩, ok_init F_init Hc Ad, b_init0 F_init, kb_init2 F_init, kb_initK F_init⟩
  have Hs : HSig (LP.heapSig l.prog w K C_heap C_heap) C_heap := ⟨rfl, rfl⟩
  have Rw : MCal l.prog w K mg base 1 C_heap "rows" f_rows _ ["self"] (spRows K C_heap) := ⟨ok_rows F_rows Hc m_tuple, m_rows, b_rows⟩
  have MRw : MetV (LP.heapSig l.prog w K C_heap C_heap) mg base 1 0 C_heap "rows" f_rows _ ["self"] rowsW := ⟨fn_wk Rw.ok (of_rows Hs), Hc.cl, m_rows, b_rows, rfl, by rw [Hs.fl]; decide +kernel⟩
  have okM := ok_manym (P := l.prog) (w := w) (base := base) (k := 0) F_hmany Hc m_sum
  have MM2 : MetN (LP.heapSig l.prog w K C_heap C_heap) mg base 1 0 C_heap "many" f_hmany _ ["self", "form", "shade"] 2 (noneV 1) manyW := ⟨fn_wk okM (of_many Hs), Hc.cl, m_hmany, kb_m2 F_hmany, rfl, by rw [Hs.fl]; decide +kernel⟩
  have HEq : HSp l.prog w K mg base 1 C_heap "__eq__" f_eq _ ["self", "other"] (spEqH K C_heap) := ⟨ok_eq F_eq Hc Hi m_isinstance, a_eq, i_eq, b_eq⟩
  have HLn : HSp l.prog w K mg base 1 C_heap "__len__" f_len _ ["self"] (spLenH K C_heap) := ⟨ok_len F_len Hc m_len, a_len, i_len, b_len⟩
  have HSt : StrV (LP.heapSig l.prog w K C_heap C_heap) mg base 1 0 C_heap f_str _ fStr := ⟨ok_Str (Γ := (LP.heapSig l.prog w K C_heap C_heap)) F_str hB Hs Hc, a_str, i_str, b_str, rfl⟩
  have HRp : ReprV (LP.heapSig l.prog w K C_heap C_heap) mg base 4 0 C_heap f_repr _ fRepr := ⟨ok_Repr (Γ := (LP.heapSig l.prog w K C_heap C_heap)) F_repr hB Hs HSt, a_repr, i_repr, b_repr, rfl⟩
  have HBo : HSp l.prog w K mg base 1 C_heap "__bool__" f_bool _ ["self"] (spBoolH K C_heap) := ⟨ok_bool F_bool Hc m_len, a_bool, i_bool, b_bool⟩
  have HEx : HSp l.prog w K mg base 1 C_heap "__eq__" f_eq _ ["self", "other"] (spEqX K C_heap) := ⟨ok_eqX F_eq Hc ap_heap m_isinstance, a_eq, i_eq, b_eq⟩
  have CLNames : CalV (LP.heapSig l.prog w K C_heap C_heap) mg base 2 "_law_names" f_LNames _ ["_law_feed_here", "_law_many_here"] fLNames := ⟨ok_LNames (Γ := (LP.heapSig l.prog w K C_heap C_heap)) F_LNames hB CDraw, g_LNames, k_LNames, b_LNames⟩
  have CLMany : CalV (LP.heapSig l.prog w K C_heap C_heap) mg base 2 "_law_many" f_LMany _ ["_law_feed_here"] fLMany := ⟨ok_LMany (Γ := (LP.heapSig l.prog w K C_heap C_heap)) F_LMany hB CDraw, g_LMany, k_LMany, b_LMany⟩
  have CLRows : CalV (LP.heapSig l.prog w K C_heap C_heap) mg base 3 "_law_rows" f_LRows _ ["_law_feed_here", "_law_forms", "_law_shades", "_law_most_now"] fLRows := ⟨ok_LRows (Γ := (LP.heapSig l.prog w K C_heap C_heap)) F_LRows hB CDraw CLMany, g_LRows, k_LRows, b_LRows⟩
  have CSummed : CalV (LP.heapSig l.prog w K C_heap C_heap) mg base 1 "_law_summed" f_Summed _ ["_law_rows_here"] fSummed := ⟨ok_Summed (Γ := (LP.heapSig l.prog w K C_heap C_heap)) F_Summed hB, g_Summed, k_Summed, b_Summed⟩
  have CShown : CalV (LP.heapSig l.prog w K C_heap C_heap) mg base 2 "_law_shown" f_Shown _ ["_law_rows_here"] fShown := ⟨ok_Shown (Γ := (LP.heapSig l.prog w K C_heap C_heap)) F_Shown hB CSummed, g_Shown, k_Shown, b_Shown⟩
  have CLots : CalV (LP.heapSig l.prog w K C_heap C_heap) mg base 4 "_law_lots" f_Lots _ ["_law_feed_here", "_law_forms", "_law_shades"] fLots := ⟨ok_Lots (Γ := (LP.heapSig l.prog w K C_heap C_heap)) F_Lots hB CLRows, g_Lots, k_Lots, b_Lots⟩
  have CRight : CalW (LP.heapSig l.prog w K C_heap C_heap) mg base 7 "_law_right" f_Right _ ["_law_heap", "_law_rows_here"] fRight := ⟨ok_Right (Γ := (LP.heapSig l.prog w K C_heap C_heap)) F_Right hB CShown CSummed Hs HBo FmC HLn HRp HSt, g_Right, k_Right, b_Right⟩
  exact ok_law (Γ := (LP.heapSig l.prog w K C_heap C_heap)) F_law hB Fe CDraw CLots CLNames CRight CSummed Hs Hm ap_heap HEq HEx ne_heap ob_heap MRw HSt law_wp
end LP.K05

open PySem PySem.W PyProof.Rows
set_option maxHeartbeats 0 in
theorem PySem.Challenge.cw_partkits_k05_heaps_compared_and_shown_holds : PySem.Challenge.rw_partkits_k05_heaps_compared_and_shown.Holds := by
  w_on; o_law; k_head; (case hw => w_witness2)
  k_fill
  refine PK.walk_ofG (l := PySem.Challenge.rw_partkits_k05_heaps_compared_and_shown) (n := 63) (k := 8) (x := "_law_script") (sp := fun w => LP.spLawK _) rfl (by decide) rfl ⟨rfl, by decide, by decide⟩ (fun w h Y => PySem.W.kIn_of Y) ?F (fun _ _ a ns hl _ hS => ⟨a, ns, rfl, hS, fun _ => rfl⟩)
  case F =>
    intro w mg fa h KX G hmg
    refine' LP.K05.all_mk KX G hmg ?a_feed ?l_feed ?c_feed ?k_feed ?a_Draw ?l_Draw ?c_Draw ?k_Draw ?a_added ?l_added ?c_added ?k_added ?a_LNames ?l_LNames ?c_LNames ?k_LNames ?a_LMany ?l_LMany ?c_LMany ?k_LMany ?a_LRows ?l_LRows ?c_LRows ?k_LRows ?a_Summed ?l_Summed ?c_Summed ?k_Summed ?a_Shown ?l_Shown ?c_Shown ?k_Shown ?a_Lots ?l_Lots ?c_Lots ?k_Lots ?a_Right ?l_Right ?c_Right ?k_Right ?a_law ?l_law ?c_law ?k_law ?a_heap ?pg_heap ?hd_heap ?po_heap ?sa_heap ?mk_heap ?kc_heap ?n_heap_held ?a_init ?i_init ?l_init ?t_init ?c_init ?k_init ?a_rows ?i_rows ?l_rows ?c_rows ?k_rows ?a_hmany ?i_hmany ?l_hmany ?t_hmany ?c_hmany ?k_hmany ?a_eq ?i_eq ?l_eq ?c_eq ?k_eq ?a_len ?i_len ?l_len ?c_len ?k_len ?a_str ?i_str ?l_str ?c_str ?k_str ?a_repr ?i_repr ?l_repr ?c_repr ?k_repr ?a_bool ?i_bool ?l_bool ?c_bool ?k_bool ?z_isinstance ?z_int ?z_bool ?z_str ?z_tuple ?z_list ?z_len ?z_range ?z_repr ?z_all ?z_ord ?z_sorted ?z_set ?z_sum ?z_min ?z_zip ?z_max ?z_enumerate ?z_dict ?ca_heap ?cg_heap ?ct_heap ?cm_heap ?ne_heap ?ob_heap ?a6_non ?a6_bl ?a6_int ?a6_str ?a6_tup ?a6_lst ?a6_hd ?a6_ty ?fm_heap ?fo_heap
    (case a_feed => k_is)
    (case l_feed => k_is)
    (case c_feed => k_is)
    (case k_feed => k_is)
    (case a_Draw => k_is)
    (case l_Draw => k_is)
    (case c_Draw => k_is)
    (case k_Draw => k_is)
    (case a_added => k_is)
    (case l_added => k_is)
    (case c_added => k_is)
    (case k_added => k_is)
    (case a_LNames => k_is)
    (case l_LNames => k_is)
    (case c_LNames => k_is)
    (case k_LNames => k_is)
    (case a_LMany => k_is)
    (case l_LMany => k_is)
    (case c_LMany => k_is)
    (case k_LMany => k_is)
    (case a_LRows => k_is)
    (case l_LRows => k_is)
    (case c_LRows => k_is)
    (case k_LRows => k_is)
    (case a_Summed => k_is)
    (case l_Summed => k_is)
    (case c_Summed => k_is)
    (case k_Summed => k_is)
    (case a_Shown => k_is)
    (case l_Shown => k_is)
    (case c_Shown => k_is)
    (case k_Shown => k_is)
    (case a_Lots => k_is)
    (case l_Lots => k_is)
    (case c_Lots => k_is)
    (case k_Lots => k_is)
    (case a_Right => k_is)
    (case l_Right => k_is)
    (case c_Right => k_is)
    (case k_Right => k_is)
    (case a_law => k_is)
    (case l_law => k_is)
    (case c_law => k_is)
    (case k_law => k_is)
    (case a_heap => k_is)
    (case pg_heap => k_is)
    (case hd_heap => k_is)
    (case po_heap => k_is)
    (case sa_heap => k_is)
    (case mk_heap => k_is)
    (case kc_heap => k_is)
    (case n_heap_held => k_is)
    (case a_init => k_is)
    (case i_init => k_is)
    (case l_init => k_is)
    (case t_init => k_is)
    (case c_init => k_is)
    (case k_init => k_is)
    (case a_rows => k_is)
    (case i_rows => k_is)
    (case l_rows => k_is)
    (case c_rows => k_is)
    (case k_rows => k_is)
    (case a_hmany => k_is)
    (case i_hmany => k_is)
    (case l_hmany => k_is)
    (case t_hmany => k_is)
    (case c_hmany => k_is)
    (case k_hmany => k_is)
    (case a_eq => k_is)
    (case i_eq => k_is)
    (case l_eq => k_is)
    (case c_eq => k_is)
    (case k_eq => k_is)
    (case a_len => k_is)
    (case i_len => k_is)
    (case l_len => k_is)
    (case c_len => k_is)
    (case k_len => k_is)
    (case a_str => k_is)
    (case i_str => k_is)
    (case l_str => k_is)
    (case c_str => k_is)
    (case k_str => k_is)
    (case a_repr => k_is)
    (case i_repr => k_is)
    (case l_repr => k_is)
    (case c_repr => k_is)
    (case k_repr => k_is)
    (case a_bool => k_is)
    (case i_bool => k_is)
    (case l_bool => k_is)
    (case c_bool => k_is)
    (case k_bool => k_is)
    (case z_isinstance => k_is)
    (case z_int => k_is)
    (case z_bool => k_is)
    (case z_str => k_is)
    (case z_tuple => k_is)
    (case z_list => k_is)
    (case z_len => k_is)
    (case z_range => k_is)
    (case z_repr => k_is)
    (case z_all => k_is)
    (case z_ord => k_is)
    (case z_sorted => k_is)
    (case z_set => k_is)
    (case z_sum => k_is)
    (case z_min => k_is)
    (case z_zip => k_is)
    (case z_max => k_is)
    (case z_enumerate => k_is)
    (case z_dict => k_is)
    (case ca_heap => k_is)
    (case cg_heap => k_is)
    (case ct_heap => k_is)
    (case cm_heap => k_is)
    (case ne_heap => k_is)
    (case ob_heap => k_is)
    (case a6_non => k_is)
    (case a6_bl => k_is)
    (case a6_int => k_is)
    (case a6_str => k_is)
    (case a6_tup => k_is)
    (case a6_lst => k_is)
    (case a6_hd => k_is)
    (case a6_ty => k_is)
    (case fm_heap => k_is)
    (case fo_heap => k_is)
