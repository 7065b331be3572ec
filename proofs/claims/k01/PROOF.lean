import PyProof.Rows.All
import Wide.All
import OpenK.AllK
import Wide.FinOn
import PyProof.EqAt
import PyProof.EqKinds
import PyProof.TupleCall
import PyProof.ReprRoads
import HandS.ForMost
import HandS.Walk
import HandS.TupAny
import HandS.TupMul
import HandS.Zip
import HandS.Defaults
import HandS.Style
import HandS.Evl
import HandS.FStrTup
import HandS.Conv
import HandS.More
import HandS.Set
import KE.DatumOrd
import KE.SortData
import HandS.MakeKwOnly
import HandS.ExcInit
import HandS.ExcSuper
import KE.KExcSuper
import HandS.WordsExc
import HandS.CallSlots
import HandS.ExcField
import HandS.ExcIs
import HandS.SetTxt0
import HandS.SetBool
import HandS.Comp
import HandS.Codes
import HandS.Deep
import HandS.IsInst
import PyProof.InstNe
import OpenK.KOps
import PyProof.Rows.IntBool
import PySem.Challenge.RW_partkits_k01_kinds
set_option Elab.async false
set_option linter.all false
set_option maxRecDepth 100000
set_option maxHeartbeats 4000000
namespace PK
open PySem PySem.Spec PyProof.Rows L2

/-! ### defs that show things: called where nothing is being shown -/
structure FnG (P : Program) (w : World) (K : PySem.W.Frag) (mg : Str → Option Value) (base : Heap) (CX : CXT)
    (k : Nat) (f : Addr) (fd : FuncData) (ps : List Str) (sp : Sp) : Prop where
  len : ∀ vs H Q E, sp vs H Q E → vs.length = ps.length
  go : ∀ {A : Around} {outer : List Env} {s : Shared} {H : Hp} {args : Args} {us : List Value} {vs : List V} {Q : VK} {E : XK},
    A.guards = some [] → Room k A → Env0 P w K mg base A outer s H → BindsTo s fd args (ps.zip us) → Vals vs us →
    sp vs H Q E → codeAny (model P w) A (.call (.ref f) args) (CR CX outer P w H s Q E) s
theorem FnG.of {P : Program} {w : World} {K : PySem.W.Frag} {mg : Str → Option Value} {base : Heap} {CX : CXT}
    {k : Nat} {f : Addr} {fd : FuncData} {ps : List Str} {sp : Sp} (F : FnOk P w K mg base CX k f fd ps sp) :
    FnG P w K mg base CX k f fd ps sp :=
  ⟨F.len, fun _ hr e0 hb hv hs => F.run _ _ _ _ _ _ _ _ _ hr e0 hb hv hs⟩

/-- the def's promise from its body, the body read where nothing is being shown -/
theorem fnG_of {CX : CXT} {P : Program} {w : World} {K : PySem.W.Frag} {mg : Str → Option Value} {base : Heap} {k : Nat} {f : Addr} {fd : FuncData}
    {x qual : Str} {st : Stmt} {N ps : List Str} {sp : Sp} (F : Fun K x qual st f fd) (S : FnScope N ps (defScope st))
    (len : ∀ vs H Q E, sp vs H Q E → vs.length = ps.length)
    (hbody : ∀ (cdv : Value) (A : Around) (outer : List Env) (s : Shared) (H : Hp) (vs : List V) (Q : VK) (E : XK), A.guards = some [] →
      Room k (A.deeper (envOfC qual (defScope st) s.heap.objs.size f cdv)) → sp vs H Q E →
      ∃ t, PSs (cxOf CX P w K mg base N qual (defScope st) f cdv A outer s H E) (defBody st) t ∧
        t { nx := fun _ H' => Q .non H', rt := Q } (start N vs) H) : FnG P w K mg base CX (k + 1) f fd ps sp := by
  obtain ⟨oc, od, kV, doc, pm, an, cdv, ct, osl, rfl, lk, hcd⟩ := F.ex
  refine ⟨len, fun {A outer s H args us vs Q E} hgd hr e0 hb hv hsp => ?_⟩
  have kept : ∀ b o, base.get? b = some o → s.heap.get? b = some o := fun b o e => (e0.bs b o e).1
  have KX := e0.mod.kin.keeps kept
  have noLim := e0.mod.nolimit.keeps kept
  refine codeAny_call_function hr.depth (KX _ _ lk) rfl S.co S.gen rfl (PySem.W.codeRec_of KX hcd) (hb _ _ _ _ ?_)
  refine wpAny_newFunctionEnv_cells S.kind (fun y hy => ?_) fun env he s1 hx => ?_
  · rcases S.par y.1 (List.of_mem_zip (show (y.1, y.2) ∈ ps.zip us from hy)).1 with q | q
    · exact Or.inl q
    · exact Or.inr ⟨q, PySem.W.cellsFrom_some _ _ _ (Or.inl q)⟩
  cases he
  refine ⟨noLim.keeps hx.toInCall.keep, codeAny_func ?_⟩
  obtain ⟨t, ht, hq⟩ := hbody cdv A outer s H vs Q E hgd (hr.deeper _) hsp
  have I := inv_start (CX := CX) (N := N) (E := E) S hr.hd e0 (len _ _ _ _ hsp) hv hx
  refine wpAny_mono (ht.run [] s1 _ H _ I hq) (fun fl s' hs => ?_) (fun _ _ h => h)
  cases fl with
  | ret u =>
    obtain ⟨v, σ', H', J, rv, q⟩ := hs
    exact ⟨v, H', J.os, J.bare, J.base, J.hok, rv, q⟩
  | next =>
    obtain ⟨σ', H', J, q⟩ := hs
    exact ⟨V.non, H', J.os, J.bare, J.base, J.hok, rfl, q⟩
  | brk => exact hs.elim fun _ h => h.elim fun _ h => h.2.elim
  | cont => exact hs.elim fun _ h => h.elim fun _ h => h.2.elim

section
variable {X : Cx} {CX : CXT} {k : Nat} {f : Addr} {fd : FuncData} {ps : List Str} {sp : Sp} {dvs : List V} {ds : List Value} {E : XK}
  {x : Str} {p pos : Pos} {e : Expr} {es : List Expr} {t : TA}
theorem pe_callG (F : FnG X.prog X.w X.K X.mg X.base CX k f fd ps sp) (hgd : X.A.guards = some []) (hr : Room k X.A) (hg : Gl X x)
    (hm : X.mg x = some (.ref f)) (hk : PySem.W.keepIn X.K (.ref f) = true) (hb : Binds X.K fd ps ds) (hd : Vals dvs ds) (hx : Passes CX X E)
    (ha : PA X (e :: es) t) (hdb : (x == ("__debug__" : Str)) = false := by decide)
    (he : starEach (e :: es) X.env = (false, eval e X.env) :: starEach es X.env := by rfl)
    (hpl : (backTo pos (starEach es X.env)).any (·.1) = false := by rfl) :
    PE X (.Call (.Name x p) (e :: es) [] pos) (tCall sp dvs E t) := by
  refine ⟨fun pins s σ H Q I h => wpAny_Call_Name_kw (ld_glob I hg hm ?_ hdb)⟩
  refine PySem.W.callWith_K (h₀ := X.base) I.ok.mod.kin hk (thn (ha.run pos pins s σ H _ I h) ?_) he hpl
  rintro us s1 ⟨vs, H1, J, r, q⟩
  refine ⟨J.kIn, ?_⟩
  have r2 : Vals (vs ++ dvs) (us ++ ds) := r.append hd
  have hl : (us ++ ds).length = ps.length := r2.length.symm.trans (F.len _ _ _ _ q)
  refine wpAny_call (codeAny_mono (F.go hgd hr J.env0 (hb s1 us J.kIn hl) r2 q) ?_)
  intro res s2 hq
  match res, hq with
  | .error er, hq => exact hx pins σ H1 s1 er s2 J hq
  | .ok (.ret u), hq => exact J.after hq
  | .ok .next, hq => exact hq.elim
  | .ok .brk, hq => exact hq.elim
  | .ok .cont, hq => exact hq.elim

/-- f(k = v, ..), no argument by its place -/
theorem pe_callK0 {ks : List Str} {kws : List Keyword} {tk : TA} {g : List Value → List Value → List Value} {gV : List V → List V → List V}
    (F : FnOk X.prog X.w X.K X.mg X.base CX k f fd ps sp) (hr : Room k X.A) (hg : Gl X x) (hm : X.mg x = some (.ref f))
    (hk : PySem.W.keepIn X.K (.ref f) = true) (hb : KBinds X.K fd ps ks g gV) (hx : Passes CX X E) (hkw : PK X kws tk)
    (hall : (backToKw pos (keywordEach kws X.env)).all (·.1.isSome) = true := by rfl)
    (hks : (backToKw pos (keywordEach kws X.env)).filterMap (·.1) = ks := by rfl)
    (hdb : (x == ("__debug__" : Str)) = false := by decide)
    (hpl : ((backTo pos (starEach [] X.env)).any (·.1) || (backToKw pos (keywordEach kws X.env)).any (·.1.isNone)) = false := by rfl) :
    PE X (.Call (.Name x p) [] kws pos) (tCallK sp gV E tNil tk) := by
  refine ⟨fun pins s σ H Q I h => wpAny_Call_Name_kw (ld_glob I hg hm ?_ hdb)⟩
  refine PySem.W.callWith_KW0 (h₀ := X.base) I.ok.mod.kin hk hall (thn (hkw.run pos pins s σ H _ I h) ?_) hpl
  rintro ws s2 ⟨zs, H2, J, rz, q⟩
  refine ⟨J.kIn, ?_⟩
  rw [hks]
  exact run_fnk (us := []) F hr hb hx J .nil rz q
end

/-! ### repr of data -/
theorem call_repr {X : Cx} {k : Nat} (hgd : X.A.guards = some []) (hr : Room k X.A) : CallR X (.builtin "repr")
    (fun xs H Q => ∃ a d, xs = [.ref a] ∧ Dp X.K H (.ref a) d ∧ d.showable = true ∧ d.hasDict = false ∧ d.depth ≤ 100 ∧
      d.shown.length ≤ sizeLine ∧ Q (.str d.shown) H) := by
  intro pins s σ H xs us Q I r h
  obtain ⟨a, d, rfl, hd, hs, hn, hdp, hz, q⟩ := h
  obtain ⟨u, rfl, rr⟩ := vals1 r
  cases rr
  obtain ⟨as, rd⟩ := Dp.reads I d _ _ hd rfl
  have hu := hr.un
  refine repr_of_reads' rd hs (fun e => by rw [hn] at e; cases e) hgd (by omega) (fun _ _ e => e) (fun h' u tk hk => ?_) hz
  exact ⟨.str _, H, I.kept (t' := tk) hk, ⟨_, rfl⟩, q⟩
end PK
namespace PK
open PySem PySem.Spec PyProof.Rows L2
section
open PySem.SeqAt
open PySem.AutoSeq1 (wpAny_loadPart')
open PySem.MeetsSeq PySem.MeetsSeq2 PySem.MeetsSeq3

theorem extend_tup (l b : Addr) (xs ys : Array Value) (n m : Nat) (dd : Option Addr) (sl : Array (Option Value))
    (h0 : ¬(!xs.isEmpty && Builtin.List.listTooLong (xs.size + ys.size)) = true) (h1 : xs.size ≤ sizeLine) (h2 : xs.size + ys.size ≤ sizeLine + 1) :
    Meets (Builtin.«list.extend» ⟨[.ref l, .ref b], []⟩)
      (fun _ R s => s.heap.get? l = some { cls := .type "list", dict := none, data := .seq xs n, slots := #[] } ∧
        s.heap.get? b = some { cls := .type "tuple", dict := dd, data := .seq ys m, slots := sl } ∧
        R (.ok (.ret Value.none)) { s with heap := s.heap.update l (Obj.mapSeq fun x => x ++ ys), toks := s.toks }) :=
  .of_wp fun prog w A R s h => by
    obtain ⟨hp, g, d, tk, os⟩ := s
    obtain ⟨hl, hb, h⟩ := h
    have f1 := AutoSeq1.idx_int
    have f2 := AutoSeq1.sub_tuple_tuple
    have f3 := AutoSeq1.sub_list_list
    have f4 := AutoSeq1.sub_tuple_list
    have f5 := AutoSeq1.sub_list_tuple
    have hz : (xs ++ ys).size ≤ sizeLine + 1 := by
      rw [Array.size_append]
      exact h2
    wp_walk using (wpAny_updateSeq hl rfl (hz := h1) (_hz' := hz)), wpAny_loadPart' hl, wpAny_loadPart' hb
    exact ⟨_, rfl, h⟩
end

section
variable {X : Cx}
/-- xs.extend(t), t a tuple -/
def rExtT (K : PySem.W.Frag) : V → List V → Hp → VK → Prop := fun x vs H Q => ∃ l b xs zs, x = .ref l ∧ vs = [.ref b] ∧ H l = some (.lst xs) ∧
  SqT K H b zs ∧ xs.length + zs.length ≤ sizeLine ∧ Q .non (upd H l (.lst (xs ++ zs)))
theorem mt_extT : MtM X "list.extend" (rExtT X.K) := by
  intro pins s σ H x vs v us Q I rx rv h
  obtain ⟨l, b, xs, zs, rfl, rfl, hH, hB, hz, q⟩ := h
  cases rx
  obtain ⟨u, rfl, ru⟩ := rv.one
  cases ru
  obtain ⟨z, its, n, r, hl, e⟩ := I.lstM hH
  obtain ⟨ys, ry, ⟨⟨cls, dd, data, sl⟩, ho, hc, m, hd⟩, zy⟩ := I.tuple hB
  simp only at hc hd
  subst hc hd
  have l1 := r.length
  have l2 := ry.length
  have hsz : its.toArray.size + ys.toArray.size ≤ sizeLine := by
    rw [List.size_toArray, List.size_toArray]
    omega
  have hlong : ¬ (!its.toArray.isEmpty && Builtin.List.listTooLong (its.toArray.size + ys.toArray.size)) = true := by
    rw [notLongL hsz, Bool.and_false]
    exact Bool.false_ne_true
  refine call_meets PySem.F.slot_list_extend ⟨_, e, rfl⟩ PySem.F.entry_list_extend (PySem.F.args_list_extend_2 _ _)
    (extend_tup l b its.toArray ys.toArray n m dd sl hlong (by rw [List.size_toArray]; omega) (by omega)) ⟨e, ho, ?_⟩
  refine ⟨.non, _, I.lset (its' := its ++ ys) hH e (by simp) (r.append ry) ?_, rfl, q⟩
  rw [List.length_append]
  omega
end

/-! ### t[::-1] -/
section
variable {prog : Program} {w : World} {A : Around} {E : Value → Shared → Prop} {s : Shared}
theorem places_rev (n : Nat) : Builtin.Slice.slicePlaces ((n : Int) - 1) (-1) (-1) = n := by
  unfold Builtin.Slice.slicePlaces
  have h1 : ¬ ((-1 : Int) > 0) := by omega
  simp only [h1, if_false]
  by_cases h : (n : Int) - 1 > -1
  · rw [if_pos h]
    have e : ((n : Int) - 1 - -1 - 1) / (- -1) = (n : Int) - 1 := by
      rw [Int.neg_neg, Int.ediv_one]
      omega
    rw [e]
    omega
  · rw [if_neg h]
    omega
theorem fm_congr {α β : Type} {f g : α → Option β} : ∀ {l : List α}, (∀ k ∈ l, f k = g k) → l.filterMap f = l.filterMap g
  | [], _ => rfl
  | x :: l, h => by
    rw [List.filterMap_cons, List.filterMap_cons, h x List.mem_cons_self, fm_congr fun k hk => h k (List.mem_cons_of_mem _ hk)]
theorem range_pick {α : Type} : ∀ l : List α, (List.range l.length).filterMap (fun k => l[k]?) = l
  | [] => rfl
  | a :: l => by
    rw [List.length_cons, List.range_succ_eq_map, List.filterMap_cons, List.filterMap_map]
    have e : ((fun k => (a :: l)[k]?) ∘ Nat.succ) = fun k => l[k]? := by
      funext k
      rfl
    rw [e, range_pick l]
    rfl
theorem pick_rev (xs : Array Value) : ((List.range xs.size).filterMap fun (k : Nat) => xs[(((xs.size : Int) - 1) + (k : Int) * (-1)).toNat]?).toArray = xs.toList.reverse.toArray := by
  congr 1
  have el : xs.size = xs.toList.reverse.length := by simp
  have e1 : ((List.range xs.size).filterMap fun (k : Nat) => xs[(((xs.size : Int) - 1) + (k : Int) * (-1)).toNat]?) = (List.range xs.size).filterMap fun k => xs.toList.reverse[k]? := by
    refine fm_congr fun k hk => ?_
    have hk' := List.mem_range.mp hk
    rw [List.getElem?_reverse (by simpa using hk')]
    have e2 : (((xs.size : Int) - 1) + (k : Int) * (-1)).toNat = xs.toList.length - 1 - k := by
      rw [Array.length_toList]
      omega
    rw [e2, Array.getElem?_toList]
  rw [e1, el]
  exact range_pick _
theorem applied_rev {sl : Addr} {n : Nat} {vl vu vs : Value} {R : Int × Int × Nat → Shared → Prop} (hs : s.heap.IsSliceOf sl vl vu vs)
    (pl : IsPart vl none) (pu : IsPart vu none) (pv : IsPart vs (some (-1))) (hR : R ((n : Int) - 1, -1, n) s) :
    wpAny (model prog w) A (Builtin.Slice.sliceApplied (.ref sl) (pure (n : Int))) R E s := by
  obtain ⟨os, hos, hcs, hds⟩ := id hs
  unfold Builtin.Slice.sliceApplied Builtin.Slice.sliceFields
  refine wpAny_bind (wpAny_bind (wpAny_field hos hds (x := vl) rfl (wpAny_bind (wpAny_field hos hds (x := vu) rfl (wpAny_bind (wpAny_field hos hds (x := vs) rfl (wpAny_pure ?_)))))))
  refine wpAny_bind (HT.slicePart_ pv ?_)
  show wpAny _ _ (if ((-1 : Int) == 0) = true then _ else _) _ _ s
  rw [if_neg (by decide)]
  refine wpAny_bind (HT.slicePart_ pl (wpAny_bind (HT.slicePart_ pu (wpAny_bind (wpAny_pure ?_)))))
  show wpAny _ _ (pure ((n : Int) - 1, (-1 : Int), Builtin.Slice.slicePlaces ((n : Int) - 1) (-1) (-1))) _ _ s
  rw [places_rev]
  exact wpAny_pure hR
theorem getItem_tup_rev {t sl : Addr} {items : Array Value} {vl vu vs : Value} {Q : Value → Shared → Prop} (ht : IsTup s.heap t items)
    (hs : s.heap.IsSliceOf sl vl vu vs) (pl : IsPart vl none) (pu : IsPart vu none) (pv : IsPart vs (some (-1)))
    (h : Q (.ref s.heap.objs.size) { s with heap := s.heap.push { cls := .type "tuple", data := .seq items.toList.reverse.toArray } })
    (hsz : items.size ≤ sizeLine) : wpAny (model prog w) A (getItem (.ref t) (.ref sl)) Q E s := by
  have htake : sizeOk (.seq items.toList.reverse.toArray) := by
    show items.toList.reverse.toArray.size ≤ sizeLine
    rw [List.size_toArray, List.length_reverse, Array.length_toList]
    exact hsz
  obtain ⟨os, hos, hcs, hds⟩ := id hs
  have hTs : s.TypeIs (.ref sl) "slice" := ⟨os, hos, hcs⟩
  unfold getItem
  try with_reducible refine wpAny_holding ?_
  first | refine wpAny_bind (wpAny_pure ?_) | skip
  refine wpAny_bind (wpAny_sequenceKey ht.typeIs (by decide) ?_)
  refine wpAny_bind (wpAny_callSpecial?_slot (name := Str.ofString "__getitem__") ht.typeIs PyProof.Rows.slot_tuple_getitem
    (wpAny_call_entry PyProof.Rows.slot_tuple_getitem ht.typeIs entry_tuple_getitem ?_ (args_tuple_getitem _ _)))
  show wpAny _ _ (Builtin.Tuple.tupleItemsOf (.ref t) >>= _) _ _ s
  refine wpAny_bind (tupleItemsOf_ ht (wpAny_bind (wpAny_typeOf hTs ?_)))
  rw [if_pos (by decide)]
  refine wpAny_bind (applied_rev hs pl pu pv ?_)
  have hno : ¬ ((((items.size : Int) - 1) == 0 && (-1 : Int) == 1 && items.size == items.size) = true) := by
    intro q
    rw [Bool.and_eq_true, Bool.and_eq_true] at q
    exact absurd q.1.2 (by decide)
  show wpAny _ _ (if (((items.size : Int) - 1) == 0 && (-1 : Int) == 1 && items.size == items.size) = true then _ else _) _ _ s
  rw [if_neg hno, pick_rev]
  first
    | exact wpAny_bind (m := Builtin.Tuple.tupleExact _) (wpAny_newObj_type (wpAny_pure ⟨_, rfl, wpAny_pure h⟩) htake)
    | exact wpAny_bind (wpAny_bind (m := Builtin.Tuple.tupleExact _) (wpAny_newObj_type (wpAny_pure ⟨_, rfl, wpAny_pure h⟩) htake))
end
section
variable {X : Cx}
def tRevT (K : PySem.W.Frag) (te : TE) : TE := fun σ H Q => te σ H fun x H1 => ∃ a xs, x = .ref a ∧ SqT K H1 a xs ∧
  ∀ p, H1 p = none → Q (.ref p) (upd H1 p (.tup xs.reverse))
theorem pe_revT {e : Expr} {te : TE} {k : Nat} {p1 p2 p3 pos : Pos} (he : PE X e te) :
    PE X (.Subscript e (.Slice none none (some (.UnaryOp .USub (.Constant (.int 1) k p1) p2)) p3) pos) (tRevT X.K te) := by
  refine ⟨fun pins s σ H Q I h => Subscript_ (thn (he.run pins s σ H _ I h) ?_)⟩
  rintro v s1 ⟨x, H1, I1, r1, a, xs, rfl, hx, q⟩
  cases r1
  have hst : PO X (some (.UnaryOp .USub (.Constant (.int 1) k p1) p2)) (tPart (tUn (rU fun i => .int (-i)) (tC (.int 1)))) := po_some (pe_un un_neg pe_int)
  refine wpAny_Slice (thn (po_none.run pins s1 σ H1 (fun o H' => o = none ∧ H' = H1) I1 ⟨rfl, rfl⟩) ?_)
  rintro vl s2 ⟨l, H2, I2, pl, rfl, rfl⟩
  refine thn (po_none.run pins s2 σ H2 (fun o H' => o = none ∧ H' = H2) I2 ⟨rfl, rfl⟩) ?_
  rintro vu s3 ⟨u, H3, I3, pu, rfl, rfl⟩
  refine thn (hst.run pins s3 σ H3 (fun o H' => o = some (-1) ∧ H' = H3) I3 ⟨1, rfl, -1, rfl, rfl, rfl⟩) ?_
  rintro vs s4 ⟨o, H4, I4, ps, rfl, rfl⟩
  have I5 : Inv X pins σ H4 { s4 with heap := s4.heap.push { cls := .type "slice", data := .fields #[vl, vu, vs] } } :=
    I4.kept (t' := s4.toks) fun b ob q => Heap.get?_push_of_some _ q
  obtain ⟨its, r, ht, hz⟩ := I5.tuple hx
  have hlen := r.length
  show wpAny (model X.prog X.w) X.A (subscriptTail e _ (.ref a) (.ref s4.heap.objs.size)) _ _ _
  refine tail_any (ops := [.ref a, .ref s4.heap.objs.size]) ht.typeIs (PyProof.Rows.slot_tuple_getitem.lookup) ?_ (by with_unfolding_all rfl)
  refine getItem_tup_rev ht (Heap.IsSliceOf.new _ vl vu vs) pl pu ps ?_ (by rw [List.size_toArray]; omega)
  refine ⟨.ref _, _, I5.laid (t' := s4.toks) (o := .tup xs.reverse) (fun b ob q => Heap.get?_push_of_some _ q) (Nat.le_refl _) ?_, rfl, q _ (I5.hok.fresh (Nat.le_refl _))⟩
  refine ⟨by rw [List.length_reverse]; exact hz, its.reverse, r.reverse, ⟨_, Heap.get?_push_size _ rfl, rfl, 0, rfl⟩⟩
end

/-! ### xs != [], xs == [] -/
section
open PySem.SeqAt
open PySem.AutoSeq1 (wpAny_loadPart')
open PySem.MeetsSeq PySem.MeetsSeq2 PySem.MeetsSeq3
theorem list_ne_sizes (l b : Addr) (xs ys : Array Value) (n m : Nat) (sl sl2 : Array (Option Value)) (hc : (xs.size != ys.size) = true) :
    Meets (Builtin.«list.__ne__» ⟨[.ref l, .ref b], []⟩)
      (fun _ R s => s.heap.get? l = some { cls := .type "list", dict := none, data := .seq xs n, slots := sl } ∧
        s.heap.get? b = some { cls := .type "list", dict := none, data := .seq ys m, slots := sl2 } ∧ R (.ok (.ret (.bool true))) s) :=
  .of_wp fun prog w A R s h => by
    obtain ⟨hp, g, d, tk, os⟩ := s
    obtain ⟨hl, hb, h⟩ := h
    have f3 := AutoSeq1.sub_list_list
    wp_walk using wpAny_loadPart' hl, wpAny_loadPart' hb
    exact ⟨_, rfl, h⟩
theorem list_eq_sizes (l b : Addr) (xs ys : Array Value) (n m : Nat) (sl sl2 : Array (Option Value)) (hc : (xs.size != ys.size) = true) :
    Meets (Builtin.«list.__eq__» ⟨[.ref l, .ref b], []⟩)
      (fun _ R s => s.heap.get? l = some { cls := .type "list", dict := none, data := .seq xs n, slots := sl } ∧
        s.heap.get? b = some { cls := .type "list", dict := none, data := .seq ys m, slots := sl2 } ∧ R (.ok (.ret (.bool false))) s) :=
  .of_wp fun prog w A R s h => by
    obtain ⟨hp, g, d, tk, os⟩ := s
    obtain ⟨hl, hb, h⟩ := h
    have f3 := AutoSeq1.sub_list_list
    wp_walk using wpAny_loadPart' hl, wpAny_loadPart' hb
    exact ⟨_, rfl, h⟩
end
section
variable {X : Cx}
def rNeNil (K : PySem.W.Frag) : R2 := fun x y H Q => ∃ a b xs, x = .ref a ∧ y = .ref b ∧ SqL K H a xs ∧ SqL K H b [] ∧ Q (.bl (!xs.isEmpty)) H
def rEqNil (K : PySem.W.Frag) : R2 := fun x y H Q => ∃ a b xs, x = .ref a ∧ y = .ref b ∧ SqL K H a xs ∧ SqL K H b [] ∧ Q (.bl xs.isEmpty) H
theorem op_neNil {k : Nat} (hr : Room k X.A) : OpR X (compareOp .NotEq) (rNeNil X.K) := by
  intro pins s σ H x y v u Q I rx ry h
  obtain ⟨a, b, xs, rfl, rfl, ha, hb, q⟩ := h
  cases xs with
  | nil => exact op_neD hr.units pins s σ H _ _ v u Q I rx ry ⟨.list [], .list [], .lst ha .nil, .lst hb .nil, rfl, rfl, q⟩
  | cons z zs =>
    cases rx
    cases ry
    obtain ⟨its, r, ⟨⟨cls, dd, data, sl⟩, n, ho, hc, hdd, hd⟩, _⟩ := I.list ha
    obtain ⟨jts, r2, ⟨⟨cls2, dd2, data2, sl2⟩, n2, ho2, hc2, hdd2, hd2⟩, _⟩ := I.list hb
    simp only at hc hd hdd hc2 hd2 hdd2
    subst hc hd hdd hc2 hd2 hdd2
    cases r2
    have hz : (its.toArray.size != ([] : List Value).toArray.size) = true := by
      rw [List.size_toArray, ← r.length]
      rfl
    exact richCompare_meets_room (op := .NotEq) ⟨_, ho, rfl⟩ ⟨_, ho2, rfl⟩ PySem.F.slot_list_ne PySem.F.entry_list_ne (PySem.F.args_list_ne_2 _ _)
      (list_ne_sizes a b its.toArray ([] : List Value).toArray n n2 sl sl2 hz) ⟨ho, ho2, (fun z => nomatch z), ⟨.bl true, H, I, rfl, q⟩⟩ hr.units0
theorem op_eqNil {k : Nat} (hr : Room k X.A) : OpR X (compareOp .Eq) (rEqNil X.K) := by
  intro pins s σ H x y v u Q I rx ry h
  obtain ⟨a, b, xs, rfl, rfl, ha, hb, q⟩ := h
  cases xs with
  | nil => exact op_eqD hr.units pins s σ H _ _ v u Q I rx ry ⟨.list [], .list [], .lst ha .nil, .lst hb .nil, rfl, rfl, q⟩
  | cons z zs =>
    cases rx
    cases ry
    obtain ⟨its, r, ⟨⟨cls, dd, data, sl⟩, n, ho, hc, hdd, hd⟩, _⟩ := I.list ha
    obtain ⟨jts, r2, ⟨⟨cls2, dd2, data2, sl2⟩, n2, ho2, hc2, hdd2, hd2⟩, _⟩ := I.list hb
    simp only at hc hd hdd hc2 hd2 hdd2
    subst hc hd hdd hc2 hd2 hdd2
    cases r2
    have hz : (its.toArray.size != ([] : List Value).toArray.size) = true := by
      rw [List.size_toArray, ← r.length]
      rfl
    exact richCompare_meets_room (op := .Eq) ⟨_, ho, rfl⟩ ⟨_, ho2, rfl⟩ PySem.F.slot_list_eq PySem.F.entry_list_eq (PySem.F.args_list_eq_2 _ _)
      (list_eq_sizes a b its.toArray ([] : List Value).toArray n n2 sl sl2 hz) ⟨ho, ho2, (fun z => nomatch z), ⟨.bl false, H, I, rfl, q⟩⟩ hr.units0
end
end PK
namespace PK
open PySem PySem.Spec PyProof.Rows L2

/-- a def that may be called: its promise, its name, how its arguments come -/
structure Cal (P : Program) (w : World) (K : PySem.W.Frag) (mg : Str → Option Value) (base : Heap) (k : Nat) (x : Str) (f : Addr)
    (fd : FuncData) (ps : List Str) (sp : Sp) : Prop where
  ok : FnOk P w K mg base CX0 k f fd ps sp
  g : mg x = some (.ref f)
  kp : PySem.W.keepIn K (.ref f) = true
  b : Binds K fd ps []
structure CalG (P : Program) (w : World) (K : PySem.W.Frag) (mg : Str → Option Value) (base : Heap) (k : Nat) (x : Str) (f : Addr)
    (fd : FuncData) (ps : List Str) (sp : Sp) : Prop where
  ok : FnG P w K mg base CX0 k f fd ps sp
  g : mg x = some (.ref f)
  kp : PySem.W.keepIn K (.ref f) = true
  b : Binds K fd ps []

/-! ### the heap but for one object -/
/-- all that was tracked, but the object at a, is as it was -/
def Ext (a : Addr) (H H' : Hp) : Prop := ∀ b o, H b = some o → b ≠ a → H' b = some o
theorem Ext.refl (a : Addr) (H : Hp) : Ext a H H := fun _ _ h _ => h
theorem Ext.trans {a : Addr} {H H1 H2 : Hp} (x : Ext a H H1) (y : Ext a H1 H2) : Ext a H H2 := fun b o h n => y b o (x b o h n) n
theorem Ext.of {a : Addr} {H H' : Hp} (x : Same H H') : Ext a H H' := fun b o h _ => x b o h
theorem Ext.new {a p : Addr} {H H1 : Hp} {o : HO} (x : Ext a H H1) (np : H1 p = none) : Ext a H (upd H1 p o) := fun b u h n => by
  have h1 := x b u h n
  rw [upd_ne (ne_of_none h1 np)]
  exact h1
theorem Ext.at {a : Addr} {H H1 : Hp} {o : HO} (x : Ext a H H1) : Ext a H (upd H1 a o) := fun b u h n => by
  rw [upd_ne n]
  exact x b u h n
/-- a new object of ours changes -/
theorem Ext.own {a p : Addr} {H H1 : Hp} {o : HO} (x : Ext a H H1) (np : H p = none) : Ext a H (upd H1 p o) := fun b u h n => by
  rw [upd_ne (ne_of_none h np)]
  exact x b u h n
theorem Ext.free {a p : Addr} {H H1 : Hp} (x : Ext a H H1) (np : H1 p = none) (ne : p ≠ a) : H p = none := by
  cases q : H p with
  | none => rfl
  | some o =>
    rw [x p o q ne] at np
    cases np
theorem same_new {H H1 : Hp} {p : Addr} {o : HO} (x : Same H H1) (np : H1 p = none) : Same H (upd H1 p o) := fun b u h => by
  have h1 := x b u h
  rw [upd_ne (ne_of_none h1 np)]
  exact h1
theorem same_own {H H1 : Hp} {p : Addr} {o : HO} (x : Same H H1) (np : H p = none) : Same H (upd H1 p o) := fun b u h => by
  rw [upd_ne (ne_of_none h np)]
  exact x b u h

/-! ### what the law draws from -/
abbrev kC : Key := Sum.inr "cells"
abbrev kA : Key := Sum.inr "at"
abbrev kL : Key := Sum.inr "left"
abbrev kN : Key := Sum.inr "count"
def feed (c : Addr) (i l n : Int) : List (Key × V) := [(kC, .ref c), (kA, .int i), (kL, .int l), (kN, .int n)]
theorem feed_cells (c : Addr) (i l n : Int) : valV (feed c i l n) kC = some (.ref c) := rfl
theorem feed_at (c : Addr) (i l n : Int) : valV (feed c i l n) kA = some (.int i) := rfl
theorem feed_left (c : Addr) (i l n : Int) : valV (feed c i l n) kL = some (.int l) := rfl
theorem feed_count (c : Addr) (i l n : Int) : valV (feed c i l n) kN = some (.int n) := rfl
theorem feed_putA (c : Addr) (i l n j : Int) : putK (feed c i l n) kA (.int j) = feed c j l n := rfl
theorem feed_putL (c : Addr) (i l n j : Int) : putK (feed c i l n) kL (.int j) = feed c i j n := rfl
theorem feed_putN (c : Addr) (i l n j : Int) : putK (feed c i l n) kN (.int j) = feed c i l j := rfl
theorem feed_len (c : Addr) (i l n : Int) : (feed c i l n).length < sizeLine := by
  show 4 < sizeLine
  decide
theorem feed_merge (c : Addr) (i l n : Int) : mergeK [] (feed c i l n) = feed c i l n := rfl
/-- the feed at a: cells, all of them ints, and three numbers -/
structure Feed (H : Hp) (a : Addr) (c : Addr) (cs : List Int) (i l n : Int) : Prop where
  d : H a = some (.dK (feed c i l n))
  l : H c = some (.lst (cs.map V.int))
  i0 : 0 ≤ i
theorem Feed.ne {H : Hp} {a c : Addr} {cs : List Int} {i l n : Int} (f : Feed H a c cs i l n) : c ≠ a := ne_of f.l f.d (by intro z; cases z)
def IsFeed (H : Hp) (a c : Addr) : Prop := ∃ cs i l n, Feed H a c cs i l n
theorem Feed.new {H : Hp} {a c p : Addr} {cs : List Int} {i l n : Int} {o : HO} (f : Feed H a c cs i l n) (np : H p = none) : Feed (upd H p o) a c cs i l n :=
  ⟨by rw [upd_ne (ne_of_none f.d np)]; exact f.d, by rw [upd_ne (ne_of_none f.l np)]; exact f.l, f.i0⟩
theorem Feed.put {H : Hp} {a c : Addr} {cs : List Int} {i l n i' l' n' : Int} (f : Feed H a c cs i l n) (h : 0 ≤ i') : Feed (upd H a (.dK (feed c i' l' n'))) a c cs i' l' n' :=
  ⟨upd_same, by rw [upd_ne f.ne]; exact f.l, h⟩
theorem IsFeed.new {H : Hp} {a c p : Addr} {o : HO} (f : IsFeed H a c) (np : H p = none) : IsFeed (upd H p o) a c := by
  obtain ⟨cs, i, l, n, f⟩ := f
  exact ⟨cs, i, l, n, f.new np⟩
theorem IsFeed.keep {H H' : Hp} {a c : Addr} (f : IsFeed H a c) (h : Same H H') : IsFeed H' a c := by
  obtain ⟨cs, i, l, n, f⟩ := f
  exact ⟨cs, i, l, n, h _ _ f.d, h _ _ f.l, f.i0⟩
theorem IsFeed.some {H : Hp} {a c : Addr} (f : IsFeed H a c) : ∃ o, H a = some o := by
  obtain ⟨cs, i, l, n, f⟩ := f
  exact ⟨_, f.d⟩
theorem IsFeed.ne {H : Hp} {a c p : Addr} (f : IsFeed H a c) (np : H p = none) : p ≠ a ∧ p ≠ c := by
  obtain ⟨cs, i, l, n, f⟩ := f
  exact ⟨(ne_of_none f.d np).symm, (ne_of_none f.l np).symm⟩
/-- an object of ours that is neither the feed nor its cells changes -/
theorem IsFeed.own {H : Hp} {a c p : Addr} {o : HO} (f : IsFeed H a c) (h : p ≠ a ∧ p ≠ c) : IsFeed (upd H p o) a c := by
  obtain ⟨cs, i, l, n, f⟩ := f
  exact ⟨cs, i, l, n, by rw [upd_ne h.1.symm]; exact f.d, by rw [upd_ne h.2.symm]; exact f.l, f.i0⟩

/-- a draw: any number below the second -/
def spDraw : Sp := fun vs H Q _ => ∃ (a c : Addr) (m : Int), vs = [.ref a, .int m] ∧ IsFeed H a c ∧ 0 < m ∧ m ≤ 1000000 ∧
  ∀ (r : Int) (H' : Hp), 0 ≤ r → r < m → Ext a H H' → IsFeed H' a c → Q (.int r) H'

/-- the else of an if, said once -/
theorem if_else {tc : TT} {u v : TS} {D : Ends} {σ : L2.St} {H : Hp} (R : Hp → Prop) (hv : ∀ H', R H' → v D σ H')
    (h : (∀ H', R H' → v D σ H') → tIfS tc u v D σ H) : tIfS tc u v D σ H := h hv
end PK
namespace PK
open PySem PySem.Spec PyProof.Rows L2
/-- a small letter; a word: one to eight of them -/
def Lw (c : Nat) : Prop := 97 ≤ c ∧ c ≤ 122
structure Word (y : Str) : Prop where
  one : 1 ≤ y.length
  eight : y.length ≤ 8
  low : ∀ c ∈ y.cps.toList, Lw c
abbrev abc : Str := "abcdefghijklmnopqrstuvwxyz"
theorem abc_list : abc.cps.toList = List.range' 97 26 := by decide +kernel
theorem abc_len : abc.length ≤ sizeLine := by decide +kernel
theorem abc_at {i : Int} (h0 : 0 ≤ i) (h1 : i < 26) : ∃ c, atI abc.cps.toList i = some c ∧ Lw c := by
  refine ⟨97 + i.toNat, ?_, by omega, by omega⟩
  rw [abc_list]
  obtain ⟨n, rfl⟩ := Int.eq_ofNat_of_zero_le h0
  refine atI_nat ?_
  rw [Int.toNat_natCast, List.getElem?_range' (by omega)]
  rw [Nat.one_mul]
theorem len_one (c : Nat) : (⟨#[c]⟩ : Str).length = 1 := rfl
theorem word_one {c : Nat} (h : Lw c) : Word ⟨#[c]⟩ := ⟨Nat.le_refl 1, by rw [len_one]; omega, fun d hd => by
  have e : d = c := by simpa using hd
  rw [e]; exact h⟩
/-- a sign behind a word -/
theorem word_snoc {y : Str} {c : Nat} (h : Word y) (h8 : y.length < 8) (hc : Lw c) : Word (y ++ ⟨#[c]⟩) := by
  refine ⟨?_, ?_, fun d hd => ?_⟩
  · rw [strLen_append, len_one]; omega
  · rw [strLen_append, len_one]; omega
  · rw [mem_cps_append] at hd
    rcases hd with z | z
    · exact h.low d z
    · have e : d = c := by simpa using z
      rw [e]; exact hc
/-- a sign, and up to seven behind it -/
theorem word_join {c : Nat} {l : List Nat} (hc : Lw c) (hl : l.length ≤ 7) (h : ∀ d ∈ l, Lw d) : Word (⟨#[c]⟩ ++ Txt.join ⟨#[]⟩ (l.map fun k => (⟨#[k]⟩ : Str))) := by
  rw [TL.join_eq, join_ones]
  have e : (⟨l.toArray⟩ : Str).length = l.length := by simp [Str.length]
  refine ⟨?_, ?_, fun d hd => ?_⟩
  · rw [strLen_append, len_one]; omega
  · rw [strLen_append, len_one, e]; omega
  · rw [mem_cps_append] at hd
    rcases hd with z | z
    · have e : d = c := by simpa using z
      rw [e]; exact hc
    · exact h d (by simpa using z)

/-- so many words, a new list -/
def spNames : Sp := fun vs H Q _ => ∃ (a c : Addr) (m : Int), vs = [.ref a, .int m] ∧ IsFeed H a c ∧ 1 ≤ m ∧ m ≤ 8 ∧
  ∀ (p : Addr) (H' : Hp) (ws : List Str), H p = none → Ext a H H' → IsFeed H' a c → H' p = some (.lst (ws.map V.str)) → (ws.length : Int) = m →
    (∀ y ∈ ws, Word y) → Q (.ref p) H'
theorem strs_at {ws : List Str} {i : Nat} (h : i < ws.length) : (ws.map V.str)[i]? = some (.str ws[i]) := by
  rw [List.getElem?_map, List.getElem?_eq_getElem h]
  rfl
theorem strs_last {ws : List Str} (h : ws ≠ []) : atI (ws.map V.str) (-1) = some (.str (ws.getLast h)) := by
  have e : ws.map V.str = ws.dropLast.map V.str ++ [.str (ws.getLast h)] := by
    rw [← List.map_singleton (f := V.str), ← List.map_append, List.dropLast_concat_getLast]
  rw [e]
  exact atI_last _ _
end PK
namespace PK
open PySem PySem.Spec PyProof.Rows L2
/-- how many: from one to a thousand millions -/
def spMany : Sp := fun vs H Q _ => ∃ (a c : Addr), vs = [.ref a] ∧ IsFeed H a c ∧
  ∀ (r : Int) (H' : Hp), 1 ≤ r → r ≤ 1000000000 → Ext a H H' → IsFeed H' a c → Q (.int r) H'
end PK
namespace PK
open PySem PySem.Spec PyProof.Rows L2

/-! ### what never changes: tuples -/
def Tk : HO → Prop
  | .tup _ => True
  | .frz _ _ => True
  | _ => False
/-- the tuples (and what is locked) stay -/
def TKeep (H H' : Hp) : Prop := ∀ b u, Tk u → H b = some u → H' b = some u
theorem TKeep.refl (H : Hp) : TKeep H H := fun _ _ _ h => h
theorem TKeep.trans {H H1 H2 : Hp} (x : TKeep H H1) (y : TKeep H1 H2) : TKeep H H2 := fun b u t h => y b u t (x b u t h)
theorem TKeep.of {H H' : Hp} (x : Same H H') : TKeep H H' := fun b u _ h => x b u h
theorem TKeep.new {H : Hp} {p : Addr} {o : HO} (np : H p = none) : TKeep H (upd H p o) := fun b u _ h => by
  rw [upd_ne (ne_of_none h np)]
  exact h
theorem TKeep.lst {H : Hp} {p : Addr} {xs : List V} {o : HO} (hp : H p = some (.lst xs)) : TKeep H (upd H p o) := fun b u t h => by
  rw [upd_ne (ne_of h hp (by rintro rfl; exact t))]
  exact h
theorem TKeep.ext {H H' : Hp} {a : Addr} {kv : List (Key × V)} (ha : H a = some (.dK kv)) (x : Ext a H H') : TKeep H H' := fun b u t h =>
  x b u h (ne_of h ha (by rintro rfl; exact t))
theorem TKeep.feed {H H' : Hp} {a c : Addr} (f : IsFeed H a c) (x : Ext a H H') : TKeep H H' := by
  obtain ⟨cs, i, l, n, f⟩ := f
  exact TKeep.ext f.d x
theorem TKeep.sq {K : PySem.W.Frag} {H H' : Hp} {b : Addr} {xs : List V} (x : TKeep H H') (h : SqT K H b xs) : SqT K H' b xs := by
  rcases h with (h | ⟨o, h⟩) | h
  · exact Or.inl (Or.inl (x _ _ trivial h))
  · exact Or.inl (Or.inr ⟨o, x _ _ trivial h⟩)
  · exact Or.inr h
mutual
/-- data without lists and dicts -/
def flatT : PyData → Bool
  | .none | .bool _ | .int _ | .str _ => true
  | .tuple xs => flatTs xs
  | _ => false
def flatTs : List PyData → Bool
  | [] => true
  | x :: xs => flatT x && flatTs xs
end
mutual
theorem Dp.keepT {K : PySem.W.Frag} {H H' : Hp} (x : TKeep H H') : ∀ {d : PyData} {v : V}, flatT d = true → Dp K H v d → Dp K H' v d
  | .none, _, _, .non => .non
  | .bool _, _, _, .bl b => .bl b
  | .int _, _, _, .int i => .int i
  | .str _, _, _, .str y => .str y
  | .list _, _, h, _ => by simp [flatT] at h
  | .dict _, _, h, _ => by simp [flatT] at h
  | .tuple ds, _, h, .tup hs ha => .tup (x.sq hs) (DpAll.keepT x (by simpa [flatT] using h) ha)
theorem DpAll.keepT {K : PySem.W.Frag} {H H' : Hp} (x : TKeep H H') : ∀ {ds : List PyData} {vs : List V}, flatTs ds = true → DpAll K H vs ds → DpAll K H' vs ds
  | [], _, _, .nil => .nil
  | d :: ds, _, h, .cons h1 h2 => by
    have h' : flatT d = true ∧ flatTs ds = true := by simpa [flatTs] using h
    exact .cons (Dp.keepT x h'.1 h1) (DpAll.keepT x h'.2 h2)
end
mutual
theorem Dp.same {K : PySem.W.Frag} {H H' : Hp} (x : Same H H') : ∀ {d : PyData} {v : V}, Dp K H v d → Dp K H' v d
  | .none, _, .non => .non
  | .bool _, _, .bl b => .bl b
  | .int _, _, .int i => .int i
  | .str _, _, .str y => .str y
  | .list ds, _, .lst hs ha => .lst (x.seq hs) (DpAll.same x ha)
  | .tuple ds, _, .tup hs ha => .tup ((TKeep.of x).sq hs) (DpAll.same x ha)
theorem DpAll.same {K : PySem.W.Frag} {H H' : Hp} (x : Same H H') : ∀ {ds : List PyData} {vs : List V}, DpAll K H vs ds → DpAll K H' vs ds
  | [], _, .nil => .nil
  | d :: ds, _, .cons h1 h2 => .cons (Dp.same x h1) (DpAll.same x h2)
end
theorem DpAll.len {K : PySem.W.Frag} {H : Hp} : ∀ {vs : List V} {ds : List PyData}, DpAll K H vs ds → vs.length = ds.length
  | _, _, .nil => rfl
  | _, _, .cons _ h => by rw [List.length_cons, List.length_cons, DpAll.len h]
theorem DpAll.snoc {K : PySem.W.Frag} {H : Hp} {v : V} {d : PyData} (h : Dp K H v d) : ∀ {vs : List V} {ds : List PyData}, DpAll K H vs ds → DpAll K H (vs ++ [v]) (ds ++ [d])
  | _, _, .nil => .cons h .nil
  | _, _, .cons h1 h2 => .cons h1 (DpAll.snoc h h2)
theorem DpAll.app {K : PySem.W.Frag} {H : Hp} : ∀ {vs us : List V} {ds es : List PyData}, DpAll K H vs ds → DpAll K H us es → DpAll K H (vs ++ us) (ds ++ es)
  | _, _, _, _, .nil, h => h
  | _, _, _, _, .cons h1 h2, h => .cons h1 (DpAll.app h2 h)
theorem DpAll.get {K : PySem.W.Frag} {H : Hp} : ∀ {vs : List V} {ds : List PyData} {i : Nat} {d : PyData}, DpAll K H vs ds → ds[i]? = some d → ∃ v, vs[i]? = some v ∧ Dp K H v d
  | _, _, _, _, .nil, h => by simp at h
  | _, _, 0, _, .cons h1 _, h => ⟨_, rfl, by
    have e := Option.some.inj h
    rw [← e]; exact h1⟩
  | _, _, i + 1, _, .cons _ h2, h => by
    obtain ⟨v, e, r⟩ := DpAll.get (i := i) h2 (by simpa using h)
    exact ⟨v, by simpa using e, r⟩
theorem DpAll.getV {K : PySem.W.Frag} {H : Hp} : ∀ {vs : List V} {ds : List PyData} {i : Nat} {v : V}, DpAll K H vs ds → vs[i]? = some v → ∃ d, ds[i]? = some d ∧ Dp K H v d
  | _, _, _, _, .nil, h => by simp at h
  | _, _, 0, _, .cons h1 _, h => ⟨_, rfl, by
    have e := Option.some.inj h
    rw [← e]; exact h1⟩
  | _, _, i + 1, _, .cons _ h2, h => by
    obtain ⟨v, e, r⟩ := DpAll.getV (i := i) h2 (by simpa using h)
    exact ⟨v, by simpa using e, r⟩
theorem DpAll.take {K : PySem.W.Frag} {H : Hp} : ∀ (n : Nat) {vs : List V} {ds : List PyData}, DpAll K H vs ds → DpAll K H (vs.take n) (ds.take n)
  | 0, _, _, _ => .nil
  | _ + 1, _, _, .nil => .nil
  | n + 1, _, _, .cons h1 h2 => .cons h1 (DpAll.take n h2)
theorem DpAll.rev {K : PySem.W.Frag} {H : Hp} : ∀ {vs : List V} {ds : List PyData}, DpAll K H vs ds → DpAll K H vs.reverse ds.reverse
  | _, _, .nil => .nil
  | _, _, .cons h1 h2 => by
    rw [List.reverse_cons, List.reverse_cons]
    exact DpAll.snoc h1 (DpAll.rev h2)
theorem DpAll.ints {K : PySem.W.Frag} {H : Hp} : ∀ ns : List Int, DpAll K H (ns.map V.int) (ns.map PyData.int)
  | [] => .nil
  | n :: ns => .cons (.int n) (DpAll.ints ns)
theorem DpAll.strs {K : PySem.W.Frag} {H : Hp} : ∀ ns : List Str, DpAll K H (ns.map V.str) (ns.map PyData.str)
  | [] => .nil
  | n :: ns => .cons (.str n) (DpAll.strs ns)
theorem DpAll.of_ints {K : PySem.W.Frag} {H : Hp} : ∀ {ns : List Int} {vs : List V}, DpAll K H vs (ns.map PyData.int) → vs = ns.map V.int
  | [], _, .nil => rfl
  | n :: ns, _, .cons (.int _) h => by rw [DpAll.of_ints h]; rfl
theorem DpAll.of_strs {K : PySem.W.Frag} {H : Hp} : ∀ {ns : List Str} {vs : List V}, DpAll K H vs (ns.map PyData.str) → vs = ns.map V.str
  | [], _, .nil => rfl
  | n :: ns, _, .cons (.str _) h => by rw [DpAll.of_strs h]; rfl
theorem Dp.tupE {K : PySem.W.Frag} {H : Hp} {v : V} {ds : List PyData} (h : Dp K H v (.tuple ds)) : ∃ b xs, v = .ref b ∧ SqT K H b xs ∧ DpAll K H xs ds := by
  cases h with
  | tup hs ha => exact ⟨_, _, rfl, hs, ha⟩
theorem Dp.lstE {K : PySem.W.Frag} {H : Hp} {v : V} {ds : List PyData} (h : Dp K H v (.list ds)) : ∃ b xs, v = .ref b ∧ SqL K H b xs ∧ DpAll K H xs ds := by
  cases h with
  | lst hs ha => exact ⟨_, _, rfl, hs, ha⟩

/-! ### what can be shown, how deep and how long it is -/
structure Sh (d : PyData) (dp n : Nat) : Prop where
  ok : d.showable = true
  nd : d.hasDict = false
  dep : d.depth ≤ dp
  len : d.shown.length ≤ n
theorem Sh.mono {d : PyData} {a b n m : Nat} (h : Sh d a n) (h1 : a ≤ b) (h2 : n ≤ m) : Sh d b m := ⟨h.ok, h.nd, Nat.le_trans h.dep h1, Nat.le_trans h.len h2⟩
theorem Sh.all {dp n : Nat} : ∀ {ds : List PyData}, (∀ d ∈ ds, Sh d dp n) → PyData.showableAll ds = true ∧ PyData.hasDictAll ds = false ∧
    PyData.depthAll ds ≤ dp ∧ ((PyData.shownAll ds).map (·.length)).sum ≤ ds.length * n ∧ (PyData.shownAll ds).length = ds.length
  | [], _ => ⟨rfl, rfl, Nat.zero_le _, Nat.zero_le _, rfl⟩
  | d :: ds, h => by
    obtain ⟨h1, h2, h3, h4, h5⟩ := Sh.all (ds := ds) fun e he => h e (List.mem_cons_of_mem _ he)
    have q := h d List.mem_cons_self
    refine ⟨?_, ?_, ?_, ?_, ?_⟩
    · show (d.showable && PyData.showableAll ds) = true
      rw [q.ok, h1]
      rfl
    · show (d.hasDict || PyData.hasDictAll ds) = false
      rw [q.nd, h2]
      rfl
    · show max d.depth (PyData.depthAll ds) ≤ dp
      exact Nat.max_le.mpr ⟨q.dep, h3⟩
    · show (d.shown.length :: ((PyData.shownAll ds).map (·.length))).sum ≤ (d :: ds).length * n
      rw [List.sum_cons, List.length_cons, Nat.succ_mul]
      have := q.len
      omega
    · show (PyData.shownAll ds).length + 1 = ds.length + 1
      rw [h5]
theorem Sh.tuple {dp n m : Nat} {ds : List PyData} (h : ∀ d ∈ ds, Sh d dp n) (hm : ds.length ≤ m) : Sh (.tuple ds) (dp + 1) (m * n + 2 * m + 3) := by
  obtain ⟨h1, h2, h3, h4, h5⟩ := Sh.all h
  refine ⟨by simpa [PyData.showable] using h1, by simpa [PyData.hasDict] using h2, by simpa [PyData.depth] using h3, ?_⟩
  have e : (PyData.shown (.tuple ds)) = tupleText (PyData.shownAll ds) := by simp only [PyData.shown]
  rw [e]
  have l := tupleText_len_le (PyData.shownAll ds)
  rw [h5] at l
  have : ds.length * n ≤ m * n := Nat.mul_le_mul_right n hm
  omega
theorem Sh.list {dp n m : Nat} {ds : List PyData} (h : ∀ d ∈ ds, Sh d dp n) (hm : ds.length ≤ m) : Sh (.list ds) (dp + 1) (m * n + 2 * m + 3) := by
  obtain ⟨h1, h2, h3, h4, h5⟩ := Sh.all h
  refine ⟨by simpa [PyData.showable] using h1, by simpa [PyData.hasDict] using h2, by simpa [PyData.depth] using h3, ?_⟩
  have e : (PyData.shown (.list ds)) = listText (PyData.shownAll ds) := by simp only [PyData.shown]
  rw [e]
  have l := listText_len_le (PyData.shownAll ds)
  rw [h5] at l
  have : ds.length * n ≤ m * n := Nat.mul_le_mul_right n hm
  omega
theorem Sh.non : Sh .none 0 4 := ⟨rfl, rfl, Nat.le_refl _, by decide +kernel⟩
theorem Sh.bl (b : Bool) : Sh (.bool b) 0 5 := ⟨rfl, rfl, Nat.le_refl _, by cases b <;> decide +kernel⟩
theorem Sh.word {y : Str} (h : Word y) : Sh (.str y) 0 82 := by
  refine ⟨rfl, rfl, Nat.le_refl _, ?_⟩
  have e : (PyData.shown (.str y)) = reprText y := by simp only [PyData.shown]
  rw [e]
  have l := StrLaws.reprText_len y fun c hc => Nat.lt_of_le_of_lt (h.low c hc).2 (by decide)
  have := h.eight
  omega
/-- a number of at most 1920 bits -/
theorem Sh.intB {i : Int} {k : Nat} (hk : 0 < k) (h : i.natAbs.log2 < k) (hk2 : k ≤ 1920) : Sh (.int i) 0 (k + 1) := by
  refine ⟨decide_eq_true (Nat.lt_of_lt_of_le h hk2), rfl, Nat.le_refl _, ?_⟩
  have e : (PyData.shown (.int i)) = Str.ofString (toString i) := by simp only [PyData.shown]
  rw [e, PySem.ofString_length]
  exact int_text_length_le hk h
theorem Sh.int {i : Int} (h0 : 0 ≤ i) (h : i < 2 ^ 64) : Sh (.int i) 0 65 := by
  refine Sh.intB (k := 64) (by decide) ?_ (by decide)
  by_cases z : i.natAbs = 0
  · rw [z]; decide
  · exact (Nat.log2_lt z).mpr (by omega)
end PK
namespace PK
open PySem PySem.Spec PyProof.Rows L2

/-! ### wants, ways, rows, sheets as data -/
abbrev Want := Str × List Str × Int
abbrev Way := List Want
abbrev Row := List Way
abbrev Sheet := List Row
def wantD (x : Want) : PyData := .tuple [.str x.1, .tuple (x.2.1.map PyData.str), .int x.2.2]
def wayD (x : Way) : PyData := .tuple (x.map wantD)
def rowD (x : Row) : PyData := .tuple (x.map wayD)
def sheetD (x : Sheet) : PyData := .tuple (x.map rowD)
structure WantOk (x : Want) : Prop where
  form : Word x.1
  shades : ∀ y ∈ x.2.1, Word y
  few : x.2.1.length ≤ 8
  one : 1 ≤ x.2.2
  most : x.2.2 ≤ 1000000000
structure WayOk (n : Nat) (x : Way) : Prop where
  len : x.length ≤ n
  each : ∀ y ∈ x, WantOk y
structure RowOk (n : Nat) (x : Row) : Prop where
  some : 1 ≤ x.length
  len : x.length ≤ 3
  each : ∀ y ∈ x, WayOk n y
structure SheetOk (m n : Nat) (x : Sheet) : Prop where
  len : x.length ≤ m
  each : ∀ y ∈ x, RowOk n y
theorem flatTs_of {ds : List PyData} : (∀ d ∈ ds, flatT d = true) → flatTs ds = true := by
  induction ds with
  | nil => intro _; rfl
  | cons d ds ih =>
    intro h
    show (flatT d && flatTs ds) = true
    rw [h d List.mem_cons_self, ih fun e he => h e (List.mem_cons_of_mem _ he)]
    rfl
theorem flat_map {α : Type} {f : α → PyData} (hf : ∀ x, flatT (f x) = true) (l : List α) : flatTs (l.map f) = true :=
  flatTs_of fun d hd => by
    obtain ⟨x, _, rfl⟩ := List.mem_map.mp hd
    exact hf x
theorem flat_strs (l : List Str) : flatTs (l.map PyData.str) = true := flat_map (fun _ => rfl) l
theorem flat_ints (l : List Int) : flatTs (l.map PyData.int) = true := flat_map (fun _ => rfl) l
theorem flat_want (x : Want) : flatT (wantD x) = true := by
  show (flatT (.str x.1) && (flatT (.tuple (x.2.1.map PyData.str)) && (flatT (.int x.2.2) && true))) = true
  have e : flatT (.tuple (x.2.1.map PyData.str)) = true := by
    show flatTs _ = true
    exact flat_strs _
  rw [e]
  rfl
theorem flat_way (x : Way) : flatT (wayD x) = true := flat_map flat_want x
theorem flat_row (x : Row) : flatT (rowD x) = true := flat_map flat_way x
theorem flat_sheet (x : Sheet) : flatT (sheetD x) = true := flat_map flat_row x
/-- so many choices and wants as one likes, all of them short -/
theorem sh_want {x : Want} (h : WantOk x) : Sh (wantD x) 2 2457 := by
  have e1 : Sh (.tuple (x.2.1.map PyData.str)) 1 (8 * 82 + 2 * 8 + 3) := Sh.tuple (fun d hd => by
    obtain ⟨y, hy, rfl⟩ := List.mem_map.mp hd
    exact Sh.word (h.shades y hy)) (by rw [List.length_map]; exact h.few)
  refine (Sh.tuple (dp := 1) (n := 816) (m := 3) (fun d hd => ?_) (Nat.le_refl _)).mono (Nat.le_refl _) (by decide)
  rcases List.mem_cons.mp hd with rfl | hd
  · exact (Sh.word h.form).mono (by decide) (by decide)
  rcases List.mem_cons.mp hd with rfl | hd
  · exact e1.mono (by decide) (by decide)
  · rw [List.mem_singleton.mp hd]
    have := h.one
    have := h.most
    exact (Sh.int (by omega) (by omega)).mono (by decide) (by decide)
theorem sh_way {n : Nat} {x : Way} (h : WayOk n x) : Sh (wayD x) 3 (n * 2457 + 2 * n + 3) :=
  Sh.tuple (fun d hd => by
    obtain ⟨y, hy, rfl⟩ := List.mem_map.mp hd
    exact sh_want (h.each y hy)) (by rw [List.length_map]; exact h.len)
theorem sh_row {n : Nat} {x : Row} (h : RowOk n x) : Sh (rowD x) 4 (3 * (n * 2457 + 2 * n + 3) + 2 * 3 + 3) :=
  Sh.tuple (fun d hd => by
    obtain ⟨y, hy, rfl⟩ := List.mem_map.mp hd
    exact sh_way (h.each y hy)) (by rw [List.length_map]; exact h.len)
theorem sh_sheet {m n : Nat} {x : Sheet} (h : SheetOk m n x) : Sh (sheetD x) 5 (m * (3 * (n * 2457 + 2 * n + 3) + 2 * 3 + 3) + 2 * m + 3) :=
  Sh.tuple (fun d hd => by
    obtain ⟨y, hy, rfl⟩ := List.mem_map.mp hd
    exact sh_row (h.each y hy)) (by rw [List.length_map]; exact h.len)
def intsD (l : List Int) : PyData := .tuple (l.map PyData.int)
theorem flat_intsD (l : List Int) : flatT (intsD l) = true := flat_ints l

/-! ### all choices: two ways to count them -/
/-- as the program does it -/
def grow (told : List (List Int)) (L : Nat) : List (List Int) := told.flatMap fun c => (List.range L).map fun (p : Nat) => c ++ [((p : Nat) : Int)]
def choicesM (ls : List Nat) : List (List Int) := ls.foldl grow [[]]
/-- the figures of a number, the last row's first -/
def figStep (st : List Int × Nat) (L : Nat) : List Int × Nat := (((st.2 % L : Nat) : Int) :: st.1, st.2 / L)
def figs (ls : List Nat) (n : Nat) : List Int := (ls.reverse.foldl figStep ([], n)).1
theorem fig_acc : ∀ (ls : List Nat) (fs : List Int) (n : Nat), (ls.foldl figStep (fs, n)).1 = (ls.foldl figStep ([], n)).1 ++ fs
  | [], fs, n => by simp
  | L :: r, fs, n => by
    show (r.foldl figStep (((n % L : Nat) : Int) :: fs, n / L)).1 = (r.foldl figStep ([((n % L : Nat) : Int)], n / L)).1 ++ fs
    rw [fig_acc r (((n % L : Nat) : Int) :: fs), fig_acc r [((n % L : Nat) : Int)], List.append_assoc]
    rfl
theorem figs_snoc (ls : List Nat) (L n : Nat) : figs (ls ++ [L]) n = figs ls (n / L) ++ [((n % L : Nat) : Int)] := by
  unfold figs
  rw [List.reverse_append]
  show (ls.reverse.foldl figStep ([((n % L : Nat) : Int)], n / L)).1 = _
  rw [fig_acc]
theorem range_mul (N L : Nat) (hL : 0 < L) : List.range (N * L) = (List.range N).flatMap fun q => (List.range L).map fun p => q * L + p := by
  induction N with
  | zero => simp
  | succ N ih =>
    rw [List.range_succ, List.flatMap_append, ← ih, Nat.succ_mul, List.range_add]
    simp
def total (ls : List Nat) : Nat := ls.foldl (· * ·) 1
theorem total_snoc (ls : List Nat) (L : Nat) : total (ls ++ [L]) = total ls * L := by
  unfold total
  rw [List.foldl_append]
  rfl
theorem snocInd {α : Type} {P : List α → Prop} (h0 : P []) (h1 : ∀ l x, P l → P (l ++ [x])) : ∀ l, P l := by
  intro l
  have : ∀ l : List α, P l.reverse := by
    intro l
    induction l with
    | nil => exact h0
    | cons x l ih =>
      rw [List.reverse_cons]
      exact h1 _ _ ih
  have h := this l.reverse
  rwa [List.reverse_reverse] at h
theorem counted_choices : ∀ ls : List Nat, (∀ L ∈ ls, 0 < L) → (List.range (total ls)).map (figs ls) = choicesM ls := by
  refine snocInd (P := fun ls => (∀ L ∈ ls, 0 < L) → (List.range (total ls)).map (figs ls) = choicesM ls) (fun _ => rfl) ?_
  intro ls L ih h
  have hL := h L (by simp)
  have ih' := ih fun x hx => h x (by simp [hx])
  have e : choicesM (ls ++ [L]) = grow (choicesM ls) L := by
    unfold choicesM
    rw [List.foldl_append]
    rfl
  rw [e, ← ih', total_snoc, range_mul _ _ hL]
  unfold grow
  rw [List.map_flatMap, List.flatMap_map]
  congr 1
  funext q
  rw [List.map_map]
  refine List.map_congr_left fun p hp => ?_
  have hp' := List.mem_range.mp hp
  show figs (ls ++ [L]) (q * L + p) = _
  rw [figs_snoc]
  have e1 : (q * L + p) / L = q := by
    rw [Nat.mul_comm, Nat.mul_add_div hL, Nat.div_eq_of_lt hp']
    rfl
  have e2 : (q * L + p) % L = p := by
    rw [Nat.mul_comm, Nat.mul_add_mod, Nat.mod_eq_of_lt hp']
  rw [e1, e2]
end PK
namespace PK
open PySem PySem.Spec PyProof.Rows L2
/-- a list of words at p, some of them -/
structure Words (H : Hp) (p : Addr) (ws : List Str) : Prop where
  at_ : H p = some (.lst (ws.map V.str))
  some : ws ≠ []
  few : ws.length ≤ 8
  each : ∀ y ∈ ws, Word y
theorem Words.ext {H H' : Hp} {a c p : Addr} {ws : List Str} (w : Words H p ws) (f : IsFeed H a c) (x : Ext a H H') : Words H' p ws := by
  obtain ⟨cs, i, l, n, f⟩ := f
  exact ⟨x p _ w.at_ (ne_of w.at_ f.d (by intro z; cases z)), w.some, w.few, w.each⟩
theorem Words.new {H : Hp} {p q : Addr} {o : HO} {ws : List Str} (w : Words H p ws) (nq : H q = none) : Words (upd H q o) p ws :=
  ⟨by rw [upd_ne (ne_of_none w.at_ nq)]; exact w.at_, w.some, w.few, w.each⟩
theorem Words.same {H H' : Hp} {p : Addr} {ws : List Str} (w : Words H p ws) (x : Same H H') : Words H' p ws := ⟨x _ _ w.at_, w.some, w.few, w.each⟩
theorem Words.own {H : Hp} {p q : Addr} {o : HO} {ws : List Str} (w : Words H p ws) (ne : p ≠ q) : Words (upd H q o) p ws :=
  ⟨by rw [upd_ne ne]; exact w.at_, w.some, w.few, w.each⟩
theorem Words.pos {H : Hp} {p : Addr} {ws : List Str} (w : Words H p ws) : 0 < ws.length := by
  cases h : ws with
  | nil => exact absurd h w.some
  | cons _ _ => simp
def spWant (K : PySem.W.Frag) : Sp := fun vs H Q _ => ∃ (a c pf ps : Addr) (fs ss : List Str), vs = [.ref a, .ref pf, .ref ps] ∧ IsFeed H a c ∧ Words H pf fs ∧ Words H ps ss ∧
  ∀ (v : V) (H' : Hp) (x : Want), WantOk x → Ext a H H' → IsFeed H' a c → Dp K H' v (wantD x) → Q v H'
end PK
namespace PK
open PySem PySem.Spec PyProof.Rows L2
def spSheet (K : PySem.W.Frag) : Sp := fun vs H Q _ => ∃ (a c pf ps : Addr) (fs ss : List Str) (mo : Nat), vs = [.ref a, .ref pf, .ref ps, .int mo] ∧ IsFeed H a c ∧ Words H pf fs ∧ Words H ps ss ∧ mo ≤ 10 ∧
  ∀ (v : V) (H' : Hp) (x : Sheet), SheetOk 3 mo x → Ext a H H' → IsFeed H' a c → Dp K H' v (sheetD x) → Q v H'
/-- one more behind data of a list, the tuples kept -/
theorem dp_snoc {α : Type} {f : α → PyData} {K : PySem.W.Frag} {H H' : Hp} {vs : List V} {xs : List α} {v : V} {x : α} (hf : ∀ x, flatT (f x) = true) (h : DpAll K H vs (xs.map f)) (t : TKeep H H') (hv : Dp K H' v (f x)) :
    DpAll K H' (vs ++ [v]) ((xs ++ [x]).map f) := by
  rw [List.map_append]
  exact DpAll.snoc hv (DpAll.keepT t (flat_map hf xs) h)
theorem dp_move {α : Type} {f : α → PyData} {K : PySem.W.Frag} {H H' : Hp} {vs : List V} {xs : List α} (hf : ∀ x, flatT (f x) = true) (h : DpAll K H vs (xs.map f)) (t : TKeep H H') :
    DpAll K H' vs (xs.map f) := DpAll.keepT t (flat_map hf xs) h
theorem dp_lenM {α : Type} {f : α → PyData} {K : PySem.W.Frag} {H : Hp} {vs : List V} {xs : List α} (h : DpAll K H vs (xs.map f)) : vs.length = xs.length := by
  rw [DpAll.len h, List.length_map]
end PK
namespace PK
open PySem PySem.Spec PyProof.Rows L2
/-! ### places in the text -/
def retE (st : Stmt) : Expr := match (defBody st).getLast? with
  | some (.Return (some e) _) => e
  | _ => .Constant .none 0 ⟨0, 0, 0, 0⟩
def argE (e : Expr) (i : Nat) : Expr := match e with
  | .Call _ args _ _ => args.getD i (.Constant .none 0 ⟨0, 0, 0, 0⟩)
  | _ => .Constant .none 0 ⟨0, 0, 0, 0⟩
def lcScope (e : Expr) : Scope := match e with
  | .ListComp _ _ sc _ => sc
  | _ => { kind := .function, names := [], isGenerator := false, isCoroutine := false }
theorem take_snoc {α : Type} {l : List α} {i : Nat} {x : α} (h : l[i]? = some x) : l.take (i + 1) = l.take i ++ [x] := by
  rw [List.take_add_one, h]
  rfl
theorem Dp.wantE {K : PySem.W.Frag} {H : Hp} {v : V} {x : Want} (h : Dp K H v (wantD x)) :
    ∃ b t, v = .ref b ∧ SqT K H b [.str x.1, .ref t, .int x.2.2] ∧ SqT K H t (x.2.1.map V.str) := by
  obtain ⟨b, xs, rfl, hb, h1⟩ := Dp.tupE h
  cases h1 with
  | cons a1 h2 =>
    cases h2 with
    | cons a2 h3 =>
      cases h3 with
      | cons a3 h4 =>
        cases h4
        cases a1
        cases a3
        obtain ⟨t, ys, rfl, ht, hy⟩ := Dp.tupE a2
        rw [DpAll.of_strs hy] at ht
        exact ⟨b, t, rfl, hb, ht⟩
/-- the same way, made anew -/
def spCopy (K : PySem.W.Frag) : Sp := fun vs H Q _ => ∃ (v : V) (x : Way), vs = [v] ∧ Dp K H v (wayD x) ∧ x.length ≤ 100 ∧ (∀ y ∈ x, y.2.1.length ≤ 100) ∧
  ∀ (p : Addr) (us : List V) (H' : Hp), Same H H' → H' p = some (.tup us) → DpAll K H' us (x.map wantD) → Q (.ref p) H'
end PK
/-! The rules with the written part K said: within a comprehension the block's own context is not named. -/
namespace PK
open PySem PySem.Spec PyProof.Rows L2
def rTupOf (K : PySem.W.Frag) : List V → Hp → VK → Prop := fun xs H Q => ∃ p ys, xs = [.ref p] ∧
  ((SqL K H p ys ∧ ∀ l, H l = none → Q (.ref l) (upd H l (.tup ys))) ∨ (SqT K H p ys ∧ Q (.ref p) H))
def rLenOf (K : PySem.W.Frag) : List V → Hp → VK → Prop := fun xs H Q => ∃ p ys, xs = [.ref p] ∧ (SqL K H p ys ∨ SqT K H p ys) ∧ Q (.int ys.length) H
def rListOf (K : PySem.W.Frag) : List V → Hp → VK → Prop := fun xs H Q => ∃ p ys, xs = [.ref p] ∧ (SqL K H p ys ∨ SqT K H p ys) ∧
  ∀ l, H l = none → Q (.ref l) (upd H l (.lst ys))
def rRepr (K : PySem.W.Frag) : List V → Hp → VK → Prop := fun xs H Q => ∃ a d, xs = [.ref a] ∧ Dp K H (.ref a) d ∧ d.showable = true ∧ d.hasDict = false ∧ d.depth ≤ 100 ∧
  d.shown.length ≤ sizeLine ∧ Q (.str d.shown) H
section
variable {X : Cx} (K : PySem.W.Frag)
theorem k_tup (hK : X.K = K := by rfl) : CallR X (.type "tuple") (rTupOf K) := by subst hK; exact call_tuple_of
theorem k_len (hK : X.K = K := by rfl) : CallR X (.builtin "len") (rLenOf K) := by subst hK; exact call_len_seq
theorem k_list (hK : X.K = K := by rfl) : CallR X (.type "list") (rListOf K) := by subst hK; exact call_list_of
theorem k_repr {k : Nat} (hgd : X.A.guards = some []) (hr : Room k X.A) (hK : X.K = K := by rfl) : CallR X (.builtin "repr") (rRepr K) := by subst hK; exact call_repr hgd hr
theorem k_all (hc : X.calm = true) (hK : X.K = K := by rfl) : CallR X (.builtin "all") (rAll K) := by subst hK; exact cr_all hc
theorem k_sum (hc : X.calm = true) (hK : X.K = K := by rfl) : CallR X (.builtin "sum") (rSum K) := by subst hK; exact cr_sum hc
theorem k_sortedS (hK : X.K = K := by rfl) : CallR X (.builtin "sorted") (rSortedS K) := by subst hK; exact cr_sortedS
theorem kx_list (hK : X.K = K := by rfl) : IxR X (rIxL K) := by subst hK; exact ix_list
theorem kx_tup (hK : X.K = K := by rfl) : IxR X (rIxT K) := by subst hK; exact ix_tup
theorem ks_list (hK : X.K = K := by rfl) : SlR X (rSlL K) := by subst hK; exact sl_list
theorem ks_tup (hK : X.K = K := by rfl) : SlR X (rSlA K) := by subst hK; exact sl_tupA
theorem ko_catA (hK : X.K = K := by rfl) : OpR X (binaryOp .Add) (rCatA K) := by subst hK; exact op_catA
theorem ko_repT (hK : X.K = K := by rfl) : OpR X (binaryOp .Mult) (rRepT K) := by subst hK; exact op_repT
theorem ko_neNil {k : Nat} (hr : Room k X.A) (hK : X.K = K := by rfl) : OpR X (compareOp .NotEq) (rNeNil K) := by subst hK; exact op_neNil hr
theorem ko_eqNil {k : Nat} (hr : Room k X.A) (hK : X.K = K := by rfl) : OpR X (compareOp .Eq) (rEqNil K) := by subst hK; exact op_eqNil hr
theorem ko_eqD {k : Nat} (hr : Room k X.A) (hK : X.K = K := by rfl) : OpR X (compareOp .Eq) (rEqD K) := by subst hK; exact op_eqD hr.units
theorem ko_neD {k : Nat} (hr : Room k X.A) (hK : X.K = K := by rfl) : OpR X (compareOp .NotEq) (rNeD K) := by subst hK; exact op_neD hr.units
theorem km_ext (hK : X.K = K := by rfl) : MtM X "list.extend" (rExtT K) := by subst hK; exact mt_extT
theorem pk_list {tg l : Expr} {tl : TE} (hl : PE X l tl) (hK : X.K = K := by rfl) : PI X tg l (iList K tl) := by subst hK; exact pi_list hl
theorem pk_tup {tg l : Expr} {tl : TE} (hl : PE X l tl) (hK : X.K = K := by rfl) : PI X tg l (iTup K tl) := by subst hK; exact pi_tup hl
theorem pek_revT {e : Expr} {te : TE} {k : Nat} {p1 p2 p3 pos : Pos} (he : PE X e te) (hK : X.K = K := by rfl) :
    PE X (.Subscript e (.Slice none none (some (.UnaryOp .USub (.Constant (.int 1) k p1) p2)) p3) pos) (tRevT K te) := by subst hK; exact pe_revT he
theorem pek_revL {e : Expr} {te : TE} {k : Nat} {p1 p2 p3 pos : Pos} (he : PE X e te) (hK : X.K = K := by rfl) :
    PE X (.Subscript e (.Slice none none (some (.UnaryOp .USub (.Constant (.int 1) k p1) p2)) p3) pos) (tRevL K te) := by subst hK; exact pe_revL he
theorem pgk_tup {es : List Expr} {k n : Nat} {t : TGs} {pos : Pos} (hc : X.calm = true) (h : PGs X es t) (hK : X.K = K := by rfl)
    (hn : (assignEach es X.env).length = n := by rfl) (hst : (assignEach es X.env).findIdx? (·.1) = none := by rfl) : PG X (.Tuple es k pos) (gTup K n t) := by
  subst hK; exact pg_tup hc h hn hst
theorem pek_bm {T id : String} {name : Str} {r : V → List V → Hp → VK → Prop} {o e : Expr} {es : List Expr} {to : TE} {t : TA} {apos cpos : Pos}
    (h : PE X (.Call (.Attribute o name apos) (e :: es) [] cpos) (tBM X.K T r to t)) (hK : X.K = K := by rfl) :
    PE X (.Call (.Attribute o name apos) (e :: es) [] cpos) (tBM K T r to t) := by subst hK; exact h
end
end PK
namespace PK
open PySem PySem.Spec PyProof.Rows L2
section
open PySem.SeqAt
open PySem.AutoSeq1 (wpAny_loadPart')
open PySem.MeetsSeq PySem.MeetsSeq2 PySem.MeetsSeq3
theorem mul_one (l : Addr) (items : Array Value) (n : Nat) (dd : Option Addr) (sl : Array (Option Value)) (u : Tok) :
    Meets (Builtin.«tuple.__mul__» ⟨[.ref l, .int 1 u], []⟩) (fun _ R s => s.heap.get? l = some { cls := .type "tuple", dict := dd, data := .seq items n, slots := sl } ∧
      R (.ok (.ret (Value.ref l))) s) :=
  .of_wp fun prog w A R s h => by
    obtain ⟨hp, g, d, tk, os⟩ := s
    obtain ⟨hl, h⟩ := h
    have f1 := AutoSeq1.idx_int
    have c1 : (items.isEmpty || (1 : Int) == 1) = true := by simp
    wp_walk using wpAny_loadPart' hl
    exact ⟨_, rfl, h⟩
theorem mul_nought (l : Addr) (items : Array Value) (n : Nat) (dd : Option Addr) (sl : Array (Option Value)) (u : Tok) (c1 : (items.isEmpty || (0 : Int) == 1) = false) :
    Meets (Builtin.«tuple.__mul__» ⟨[.ref l, .int 0 u], []⟩) (fun _ R s => s.heap.get? l = some { cls := .type "tuple", dict := dd, data := .seq items n, slots := sl } ∧
      R (.ok (.ret (Value.ref s.heap.objs.size))) { s with heap := s.heap.push { cls := Value.type "tuple", data := Data.seq #[] } }) :=
  .of_wp fun prog w A R s h => by
    obtain ⟨hp, g, d, tk, os⟩ := s
    obtain ⟨hl, h⟩ := h
    have f1 := AutoSeq1.idx_int
    wp_walk using wpAny_loadPart' hl
    repeat (first
      | (refine wpAny_ite_false (decide_eq_false (by rw [c1]; exact Bool.false_ne_true)) ?_; wp_walk using wpAny_loadPart' hl))
    exact ⟨_, rfl, h⟩
end
/-- t * k, k from nought on -/
def rRepA (K : PySem.W.Frag) : R2 := fun x y H Q => ∃ l k xs, x = .ref l ∧ y = .int k ∧ SqT K H l xs ∧ xs ≠ [] ∧ 0 ≤ k ∧ k ≤ 1000 ∧ xs.length ≤ 1000 ∧
  (k = 1 → Q (.ref l) H) ∧ (k ≠ 1 → ∀ p, H p = none → Q (.ref p) (upd H p (.tup (List.replicate k.toNat xs).flatten)))
theorem ko_repA {X : Cx} (K : PySem.W.Frag) (hK : X.K = K := by rfl) : OpR X (binaryOp .Mult) (rRepA K) := by
  subst hK
  intro pins s σ H x y v u Q I rx ry h
  obtain ⟨l, k, xs, rfl, rfl, hT, hne, h0, h1, hz, q1, q2⟩ := h
  by_cases k2 : 2 ≤ k
  · exact op_repT pins s σ H _ _ v u Q I rx ry ⟨l, k, xs, rfl, rfl, hT, hne, k2, h1, hz, q2 (by omega)⟩
  · cases rx
    obtain ⟨t, rfl⟩ := ry
    obtain ⟨its, r, ⟨⟨cls, dd, data, sl⟩, ho, hc, n, hd⟩, hs⟩ := I.tuple hT
    simp only at hc hd
    subst hc hd
    have hle : its.length = xs.length := r.length.symm
    have hi : its.toArray.isEmpty = false := by
      cases its with
      | nil => exact absurd (List.eq_nil_of_length_eq_zero hle.symm) hne
      | cons _ _ => rfl
    have kk : k = 0 ∨ k = 1 := by omega
    rcases kk with rfl | rfl
    · refine wpAny_binaryOp_repeat_ref (T := "tuple") (U := "int") (by decide) ⟨_, ho, rfl⟩ (fun s' => typeIs_int s' 0 t) noFill_tuple_mul F.fills_int_mul F.slot_int_rmul repeat_tuple F.slot_int_index.lookup
        (call_meets F.slot_int_rmul (typeIs_int s 0 t) F.entry_int_rmul (F.args_int_rmul_2 _ _) (int_rmul_tuple 0 t l its.toArray n dd sl)
          ⟨ho, rfl, ⟨_, ho, rfl⟩, call_meets F.slot_tuple_mul ⟨_, ho, rfl⟩ F.entry_tuple_mul (F.args_tuple_mul_2 _ _) (mul_nought l its.toArray n dd sl t (by rw [hi]; rfl)) ⟨ho, ?_⟩⟩)
      refine ⟨.ref _, _, I.laid (t' := s.toks) (o := .tup []) (fun b ob q => Heap.get?_push_of_some _ q) (Nat.le_refl _) ?_, rfl, q2 (by decide) _ (I.hok.fresh (Nat.le_refl _))⟩
      exact ⟨Nat.zero_le _, [], .nil, ⟨_, Heap.get?_push_size _ rfl, rfl, 0, rfl⟩⟩
    · refine wpAny_binaryOp_repeat_ref (T := "tuple") (U := "int") (by decide) ⟨_, ho, rfl⟩ (fun s' => typeIs_int s' 1 t) noFill_tuple_mul F.fills_int_mul F.slot_int_rmul repeat_tuple F.slot_int_index.lookup
        (call_meets F.slot_int_rmul (typeIs_int s 1 t) F.entry_int_rmul (F.args_int_rmul_2 _ _) (int_rmul_tuple 1 t l its.toArray n dd sl)
          ⟨ho, rfl, ⟨_, ho, rfl⟩, call_meets F.slot_tuple_mul ⟨_, ho, rfl⟩ F.entry_tuple_mul (F.args_tuple_mul_2 _ _) (mul_one l its.toArray n dd sl t) ⟨ho, ?_⟩⟩)
      exact ⟨.ref l, H, I, rfl, q1 rfl⟩
end PK
namespace PK
open PySem PySem.Spec PyProof.Rows L2 RZ
/-- the second clause's own loop, to Nx -/
def Inner (J1 : It) (g1 : TG) (tt1 : TT) (te : TE) (vs1 : List Nat) (σ2 : L2.St) (D : Addr) (Nx : Hp → Prop) (H4 : Hp) : Prop :=
  ∃ W1 : Nat → Nat → Hp → Prop, (∃ m, W1 0 m H4) ∧ ∀ j k H, W1 j k H →
      (J1.stop j H ∧ Nx H) ∨ (J1.go j H ∧ ∃ Nx1 : Hp → Prop, (∀ H', Nx1 H' → ∃ k', k' < k ∧ W1 (j + 1) k' H') ∧
        ∀ x H', J1.yld j H x H' → g1 x (wipe σ2 vs1) H' fun σ3 H5 => wipe σ3 vs1 = wipe σ2 vs1 ∧ tt1 σ3 H5 fun b H6 =>
        if b = true then te σ3 H6 fun y H7 => ∃ acc, H7 D = some (.lst acc) ∧ acc.length < sizeLine ∧ Nx1 (upd H7 D (.lst (acc ++ [y]))) else Nx1 H6)
section
variable {J J1 : It} {n n1 : Nat} {G G1 : Hp → Prop} {Y Y1 : Nat → Hp → V → Hp → Prop}
theorem inner_it (w : Walk J1 n1 G1 Y1) {g1 : TG} {tt1 : TT} {te : TE} {vs1 : List Nat} {σ2 : L2.St} {D : Addr} {Nx : Hp → Prop} {H4 : Hp}
    (Pv : Nat → Hp → Prop) (h0 : Pv 0 H4) (hG : ∀ j H, j ≤ n1 → Pv j H → G1 H)
    (hs : ∀ j x H H', j < n1 → Pv j H → Y1 j H x H' → g1 x (wipe σ2 vs1) H' fun σ3 H5 => wipe σ3 vs1 = wipe σ2 vs1 ∧ tt1 σ3 H5 fun b H6 =>
        if b = true then te σ3 H6 fun y H7 => ∃ acc, H7 D = some (.lst acc) ∧ acc.length < sizeLine ∧ Pv (j + 1) (upd H7 D (.lst (acc ++ [y]))) else Pv (j + 1) H6)
    (hd : ∀ H, Pv n1 H → Nx H) : Inner J1 g1 tt1 te vs1 σ2 D Nx H4 := by
  refine ⟨fun j m H => m = n1 - j ∧ j ≤ n1 ∧ Pv j H, ⟨n1, rfl, Nat.zero_le _, h0⟩, ?_⟩
  rintro j m H ⟨rfl, hj, p⟩
  have q := hG j H hj p
  by_cases hlt : j < n1
  · exact Or.inr ⟨w.goes j H hlt q, Pv (j + 1), fun H' p' => ⟨n1 - (j + 1), by omega, rfl, hlt, p'⟩, fun x H' y => hs j x H H' hlt p (w.yields j H x H' hlt q y)⟩
  · have e : j = n1 := by omega
    subst e
    exact Or.inl ⟨w.stops H q, hd H p⟩
theorem outer_it (w : Walk J n G Y) {g g1 : TG} {tt tt1 : TT} {wi1 : TI} {te : TE} {vs vs1 : List Nat} {σ : L2.St} {D : Addr} {H1 : Hp} {Qd : Hp → Prop}
    (Pv : Nat → Hp → Prop) (h0 : Pv 0 (upd H1 D (.lst []))) (hG : ∀ i H, i ≤ n → Pv i H → G H)
    (hs : ∀ i x H H', i < n → Pv i H → Y i H x H' → g x (wipe σ vs) H' fun σ2 H2 => wipe σ2 vs = wipe σ vs ∧ tt σ2 H2 fun b H3 =>
      if b = true then wi1 σ2 H3 fun J1 H4 => Inner J1 g1 tt1 te vs1 σ2 D (Pv (i + 1)) H4 else Pv (i + 1) H3)
    (hd : ∀ H, Pv n H → Qd H) :
    ∃ W : Nat → Nat → Hp → Prop, (∃ m, W 0 m (upd H1 D (.lst []))) ∧ ∀ i m H, W i m H →
      (J.stop i H ∧ Qd H) ∨ (J.go i H ∧ ∃ Nx : Hp → Prop, (∀ H', Nx H' → ∃ m', m' < m ∧ W (i + 1) m' H') ∧
        ∀ x H', J.yld i H x H' → g x (wipe σ vs) H' fun σ2 H2 => wipe σ2 vs = wipe σ vs ∧ tt σ2 H2 fun b H3 =>
        if b = true then wi1 σ2 H3 fun J1 H4 => Inner J1 g1 tt1 te vs1 σ2 D Nx H4 else Nx H3) := by
  refine ⟨fun i m H => m = n - i ∧ i ≤ n ∧ Pv i H, ⟨n, rfl, Nat.zero_le _, h0⟩, ?_⟩
  rintro i m H ⟨rfl, hi, p⟩
  have q := hG i H hi p
  by_cases hlt : i < n
  · exact Or.inr ⟨w.goes i H hlt q, Pv (i + 1), fun H' p' => ⟨n - (i + 1), by omega, rfl, hlt, p'⟩, fun x H' y => hs i x H H' hlt p (w.yields i H x H' hlt q y)⟩
  · have e : i = n := by omega
    subst e
    exact Or.inl ⟨w.stops H q, hd H p⟩
end
/-- zip of two tuples of one length -/
theorem walk_zipT {K : PySem.W.Frag} {a b : Addr} {xs ys : List V} {n : Nat} (hn : n = min xs.length ys.length) :
    Walk (ItzT K a b) n (fun H => SqT K H a xs ∧ SqT K H b ys) (YPair (fun i => xs[i]?) (fun i => ys[i]?)) := by
  subst hn
  refine ⟨fun i _ hi q => ?_, fun _ q => ⟨xs, ys, q.1, q.2, by omega⟩, fun i H v H' _ q y => ?_⟩
  · have h1 : i < xs.length := by omega
    have h2 : i < ys.length := by omega
    exact ⟨xs, ys, xs[i], ys[i], q.1, q.2, by simp [h1], by simp [h2]⟩
  · obtain ⟨T, x, z, h1, h2, h3, h4, h5⟩ := y
    exact ⟨T, x, z, h1, h2, h3, h4 xs q.1, h5 ys q.2⟩
theorem pk_zip {X : Cx} (K : PySem.W.Frag) {e e2 : Expr} {ta : TA} {p pos tpos : Pos} {elts : List Expr} {kk : Nat} (hg : Gl X "zip") (hm : X.mg "zip" = none) (ha : PA X [e, e2] ta) (hK : X.K = K := by rfl)
    (hs : starEach [e, e2] X.env = (false, eval e X.env) :: starEach [e2] X.env := by rfl) (hpl : (backTo pos (starEach [e2] X.env)).any (·.1) = false := by rfl) :
    PI X (.Tuple elts kk tpos) (.Call (.Name "zip" p) [e, e2] [] pos) (iZipA K ta) := by
  subst hK; exact pi_zipA hg hm ha hs hpl
end PK
/-! Defs with defaults, called by places and by names. -/
namespace PK
open PySem PySem.Spec PyProof.Rows L2 RZ
/-- a def of the text with defaults dvs -/
abbrev FunDf (K : PySem.W.Frag) (x : Str) (st : Stmt) (dvs : List V) (f : Addr) (fd : FuncData) : Prop := FunD K x x (defArgs st) (defBody st) (defScope st) dvs [] f fd
theorem fund_mk {K : PySem.W.Frag} {x qual : Str} {st : Stmt} {f T : Addr} {oc : Value} {od an : Option Addr} {osl : Array (Option Value)} {kV doc pm cdv ct : Value} {o : Obj} {its : List Value} {n : Nat} {dvs : List V}
    (l : K.lookup f = some ⟨oc, od, .func (PySem.W.fnOf x qual (defArgs st) (defBody st) (defScope st) (.ref T) kV doc pm an cdv ct), osl⟩)
    (c : PySem.W.codeIn K cdv qual = true) (k : PySem.W.keepIn K (.ref f) = true) (lT : K.lookup T = some o) (oT : o.data = .seq its.toArray n) (r : Vals dvs its) (hd : dvs ≠ []) :
    FunD K x qual (defArgs st) (defBody st) (defScope st) dvs [] f (PySem.W.fnOf x qual (defArgs st) (defBody st) (defScope st) (.ref T) kV doc pm an cdv ct) :=
  ⟨⟨oc, od, .ref T, kV, doc, pm, an, cdv, ct, osl, rfl, l, c, Or.inr ⟨hd, T, o, its, n, rfl, lT, oT, r⟩, Or.inl rfl⟩, k⟩
/-- how such a call binds: n values by their places, ks the names of the others -/
def KB (K : PySem.W.Frag) (fd : FuncData) (ps : List Str) (n : Nat) (ks : List Str) (gV : List V → List V → List V) : Prop :=
  ∃ g : List Value → List Value → List Value, KBn K fd ps n ks g gV
theorem kb_of {K : PySem.W.Frag} {x qual : Str} {params : Arguments} {body : List Stmt} {scope : Scope} {dvs : List V} {f : Addr} {fd : FuncData} {ps : List Str}
    (F : FunD K x qual params body scope dvs [] f fd) (n : Nat) (ks : List Str) (g : {α : Type} → List α → List α → List α → List α) (hd : dvs ≠ [])
    (hrel : ∀ {vs ds zs : List V} {us its ws : List Value}, Vals vs us → Vals ds its → Vals zs ws → Vals (g vs ds zs) (g us its ws))
    (h : ∀ (T : Addr) (kV doc pm : Value) (an : Option Addr) (cdv ct : Value) (us its ws : List Value), us.length = n → its.length = dvs.length → ws.length = ks.length →
      (∃ k, bindArgs (PySem.W.fnOf x qual params body scope (.ref T) kV doc pm an cdv ct) ⟨us, ks.zip ws⟩ = seqItems? (.ref T) >>= k ∧ k (some its.toArray) = pure (ps.zip (g us its ws)))) :
    KB K fd ps n ks (fun vs zs => g vs dvs zs) := by
  obtain ⟨oc, od, dV, kV, doc, pm, an, cdv, ct, osl, rfl, lk, hcd, hD, hK⟩ := F.ex
  rcases hD with ⟨e, _⟩ | ⟨_, T, o, its, m, rfl, lT, oT, rT⟩
  · exact absurd e hd
  · refine ⟨fun us ws => g us its ws, fun s us ws X l1 l2 => ?_, fun r1 r2 => hrel r1 rT r2⟩
    obtain ⟨k, e1, e2⟩ := h T kV doc pm an cdv ct us its ws l1 rT.length.symm l2
    refine BindsTo.of_looks fun M => ?_
    rw [e1]
    exact looks_items X lT oT (PySem.W.Looks.of_pure e2)
/-- all are given: no default is looked at -/
theorem kb_all {K : PySem.W.Frag} {x qual : Str} {params : Arguments} {body : List Stmt} {scope : Scope} {dvs : List V} {f : Addr} {fd : FuncData} {ps : List Str}
    (F : FunD K x qual params body scope dvs [] f fd) (n : Nat) (ks : List Str) (g : {α : Type} → List α → List α → List α)
    (hrel : ∀ {vs zs : List V} {us ws : List Value}, Vals vs us → Vals zs ws → Vals (g vs zs) (g us ws))
    (h : ∀ (T kV doc pm : Value) (an : Option Addr) (cdv ct : Value) (us ws : List Value), us.length = n → ws.length = ks.length →
      bindArgs (PySem.W.fnOf x qual params body scope T kV doc pm an cdv ct) ⟨us, ks.zip ws⟩ = pure (ps.zip (g us ws))) :
    KB K fd ps n ks (fun vs zs => g vs zs) := by
  obtain ⟨oc, od, dV, kV, doc, pm, an, cdv, ct, osl, rfl, lk, hcd, hD, hK⟩ := F.ex
  exact ⟨fun us ws => g us ws, fun s us ws X l1 l2 => .of_eq (h dV kV doc pm an cdv ct us ws l1 l2), fun r1 r2 => hrel r1 r2⟩
section
variable {X : Cx} {CX : CXT} {k n : Nat} {f : Addr} {fd : FuncData} {ps ks : List Str} {sp : Sp} {E : XK} {x : Str} {p pos : Pos} {e : Expr} {es : List Expr} {kws : List Keyword} {t tk : TA} {gV : List V → List V → List V}
theorem pe_kb (F : FnOk X.prog X.w X.K X.mg X.base CX k f fd ps sp) (hr : Room k X.A) (hg : Gl X x) (hm : X.mg x = some (.ref f)) (hk : PySem.W.keepIn X.K (.ref f) = true) (hb : KB X.K fd ps n ks gV) (hx : Passes CX X E)
    (ha : PA X (e :: es) t) (hkw : PK X kws tk) (hall : (backToKw pos (keywordEach kws X.env)).all (·.1.isSome) = true := by rfl) (hks : (backToKw pos (keywordEach kws X.env)).filterMap (·.1) = ks := by rfl)
    (hdb : (x == ("__debug__" : Str)) = false := by decide) (he : starEach (e :: es) X.env = (false, eval e X.env) :: starEach es X.env := by rfl)
    (hpl : ((backTo pos (starEach (e :: es) X.env)).any (·.1) || (backToKw pos (keywordEach kws X.env)).any (·.1.isNone)) = false := by rfl) :
    PE X (.Call (.Name x p) (e :: es) kws pos) (tCallN n ks.length sp gV E t tk) := by
  obtain ⟨g, hb⟩ := hb
  exact pe_callN F hr hg hm hk hb hx ha hkw hall hks hdb he hpl
theorem pe_kb0 (F : FnOk X.prog X.w X.K X.mg X.base CX k f fd ps sp) (hr : Room k X.A) (hg : Gl X x) (hm : X.mg x = some (.ref f)) (hk : PySem.W.keepIn X.K (.ref f) = true) (hb : KB X.K fd ps n ks gV) (hx : Passes CX X E)
    (hkw : PK X kws tk) (hall : (backToKw pos (keywordEach kws X.env)).all (·.1.isSome) = true := by rfl) (hks : (backToKw pos (keywordEach kws X.env)).filterMap (·.1) = ks := by rfl)
    (hdb : (x == ("__debug__" : Str)) = false := by decide)
    (hpl : ((backTo pos (starEach [] X.env)).any (·.1) || (backToKw pos (keywordEach kws X.env)).any (·.1.isNone)) = false := by rfl) :
    PE X (.Call (.Name x p) [] kws pos) (tCallN n ks.length sp gV E tNil tk) := by
  obtain ⟨g, hb⟩ := hb
  refine ⟨fun pins s σ H Q I h => wpAny_Call_Name_kw (ld_glob I hg hm ?_ hdb)⟩
  refine PySem.W.callWith_KW0 (h₀ := X.base) I.ok.mod.kin hk hall (thn (hkw.run pos pins s σ H _ I h) ?_) hpl
  rintro ws s2 ⟨zs, H2, J, rz, l1, l2, q⟩
  refine ⟨J.kIn, ?_⟩
  rw [hks]
  exact run_fnN (us := []) F hr hb hx J .nil rz l1 l2 q
end
structure CalD (P : Program) (w : World) (K : PySem.W.Frag) (mg : Str → Option Value) (base : Heap) (k : Nat) (x : Str) (f : Addr)
    (fd : FuncData) (ps : List Str) (sp : Sp) : Prop where
  ok : FnOk P w K mg base CX0 k f fd ps sp
  g : mg x = some (.ref f)
  kp : PySem.W.keepIn K (.ref f) = true
/-! ### lengths of choices -/
theorem choices_len : ∀ ls : List Nat, ∀ c ∈ choicesM ls, c.length = ls.length := by
  refine snocInd (P := fun ls => ∀ c ∈ choicesM ls, c.length = ls.length) (fun c hc => ?_) ?_
  · have e : c = [] := by simpa [choicesM] using hc
    subst e
    rfl
  · intro ls L ih c hc
    have e : choicesM (ls ++ [L]) = grow (choicesM ls) L := by
      unfold choicesM
      rw [List.foldl_append]
      rfl
    rw [e] at hc
    unfold grow at hc
    obtain ⟨d, hd, hc⟩ := List.mem_flatMap.mp hc
    obtain ⟨p, _, rfl⟩ := List.mem_map.mp hc
    rw [List.length_append, List.length_append, ih d hd]
    rfl
theorem choices_in : ∀ ls : List Nat, ∀ c ∈ choicesM ls, ∀ (i : Nat) (p : Int), c[i]? = some p → ∃ L, ls[i]? = some L ∧ 0 ≤ p ∧ p < (L : Int) := by
  refine snocInd (P := fun ls => ∀ c ∈ choicesM ls, ∀ (i : Nat) (p : Int), c[i]? = some p → ∃ L, ls[i]? = some L ∧ 0 ≤ p ∧ p < (L : Int)) (fun c hc i p h => ?_) ?_
  · have e : c = [] := by simpa [choicesM] using hc
    rw [e] at h
    simp at h
  · intro ls L ih c hc i p h
    have e : choicesM (ls ++ [L]) = grow (choicesM ls) L := by
      unfold choicesM
      rw [List.foldl_append]
      rfl
    rw [e] at hc
    unfold grow at hc
    obtain ⟨d, hd, hc⟩ := List.mem_flatMap.mp hc
    obtain ⟨q, hq, rfl⟩ := List.mem_map.mp hc
    have ld := choices_len ls d hd
    by_cases hi : i < d.length
    · rw [List.getElem?_append_left hi] at h
      obtain ⟨M, hM, h0, h1⟩ := ih d hd i p h
      exact ⟨M, by rw [List.getElem?_append_left (by omega)]; exact hM, h0, h1⟩
    · rw [List.getElem?_append_right (by omega)] at h
      have hi2 : i - d.length = 0 := by
        have := (List.getElem?_eq_some_iff.mp h).1
        simp at this
        omega
      rw [hi2] at h
      have ep : (q : Int) = p := by simpa using h
      have hq' := List.mem_range.mp hq
      refine ⟨L, ?_, by omega, by omega⟩
      rw [List.getElem?_append_right (by omega)]
      have : i - ls.length = 0 := by omega
      rw [this]
      rfl
theorem total_le {ls : List Nat} {k : Nat} (h : ∀ L ∈ ls, L ≤ k) (hk : 1 ≤ k) : total ls ≤ k ^ ls.length := by
  revert h
  refine snocInd (P := fun ls => (∀ L ∈ ls, L ≤ k) → total ls ≤ k ^ ls.length) (fun _ => Nat.le_refl 1) ?_ ls
  intro ls L ih h
  rw [total_snoc, List.length_append]
  show total ls * L ≤ k ^ (ls.length + 1)
  rw [Nat.pow_succ]
  exact Nat.mul_le_mul (ih fun x hx => h x (by simp [hx])) (h L (by simp))
theorem choices_count (ls : List Nat) (h : ∀ L ∈ ls, 0 < L) : (choicesM ls).length = total ls := by
  rw [← counted_choices ls h, List.length_map, List.length_range]
theorem SheetOk.mono {a b c d : Nat} {x : Sheet} (h : SheetOk a b x) (h1 : a ≤ c) (h2 : b ≤ d) : SheetOk c d x :=
  ⟨Nat.le_trans h.len h1, fun r hr => ⟨(h.each r hr).some, (h.each r hr).len, fun w hw => ⟨Nat.le_trans ((h.each r hr).each w hw).len h2, ((h.each r hr).each w hw).each⟩⟩⟩
/-- the rule for a def that shows things and lets no exception out -/
theorem funG_ok {P : Program} {w : World} {K : PySem.W.Frag} {mg : Str → Option Value} {base : Heap} {k : Nat} {f : Addr} {fd : FuncData}
    {x qual : Str} {st : Stmt} {N ps : List Str} {sp : Sp} (F : Fun K x qual st f fd) (S : FnScope N ps (defScope st))
    (len : ∀ vs H Q E, sp vs H Q E → vs.length = ps.length)
    (hbody : ∀ (cdv : Value) (A : Around) (outer : List Env) (s : Shared) (H : Hp) (vs : List V) (Q : VK) (E : XK), A.guards = some [] →
      Room k (A.deeper (envOfC qual (defScope st) s.heap.objs.size f cdv)) → sp vs H Q E →
      ∃ t, PSs (cxOf CX0 P w K mg base N qual (defScope st) f cdv A outer s H E).nox (defBody st) t ∧
        t { nx := fun _ H' => Q .non H', rt := Q } (start N vs) H) : FnG P w K mg base CX0 (k + 1) f fd ps sp :=
  fnG_of F S len fun cdv A outer s H vs Q E hg hr h => by
    obtain ⟨t, ht, hq⟩ := hbody cdv A outer s H vs Q E hg hr h
    exact ⟨t, ht.nox, hq⟩
end PK
/-! The order of data; sorted and min of data; sorted of a dict with tuple keys. -/
namespace PK
open PySem PySem.Spec PyProof.Rows L2
/-! ### the order -/
abbrev dlt : PyData → PyData → Bool := PySem.W.dataLt
mutual
theorem eqv_eq : ∀ (x y : PyData), PySem.W.alike x y = true → PyData.eqv x y = true → x = y
  | .none, y, h, e => by cases y <;> simp [PySem.W.alike] at h <;> rfl
  | .bool _, y, h, e => by cases y <;> simp [PySem.W.alike] at h; simpa [PyData.eqv] using e
  | .int _, y, h, e => by cases y <;> simp [PySem.W.alike] at h; simpa [PyData.eqv] using e
  | .str _, y, h, e => by cases y <;> simp [PySem.W.alike] at h; simpa [PyData.eqv] using e
  | .list xs, y, h, e => by
    cases y with
    | list ys => rw [eqvAll_eq xs ys (by simpa [PySem.W.alike] using h) (by simpa [PyData.eqv] using e)]
    | _ => simp [PySem.W.alike] at h
  | .tuple xs, y, h, e => by
    cases y with
    | tuple ys => rw [eqvAll_eq xs ys (by simpa [PySem.W.alike] using h) (by simpa [PyData.eqv] using e)]
    | _ => simp [PySem.W.alike] at h
  | .dict _, y, h, e => by cases y <;> simp [PySem.W.alike] at h
theorem eqvAll_eq : ∀ (xs ys : List PyData), PySem.W.alikeAll xs ys = true → PyData.eqvAll xs ys = true → xs = ys
  | [], [], _, _ => rfl
  | [], _ :: _, _, e => by simp [PyData.eqvAll] at e
  | _ :: _, [], _, e => by simp [PyData.eqvAll] at e
  | x :: xs, y :: ys, h, e => by
    obtain ⟨h1, h2⟩ := PySem.W.alike_all_cons h
    rw [PySem.W.eqv_all_cons, Bool.and_eq_true] at e
    rw [eqv_eq x y h1 e.1, eqvAll_eq xs ys h2 e.2]
end
mutual
theorem eqv_refl : ∀ (x : PyData), flatT x = true → PyData.eqv x x = true
  | .none, _ => by simp [PyData.eqv]
  | .bool _, _ => by simp [PyData.eqv]
  | .int _, _ => by simp [PyData.eqv]
  | .str _, _ => by simp [PyData.eqv]
  | .list _, h => by simp [flatT] at h
  | .dict _, h => by simp [flatT] at h
  | .tuple xs, h => by
    rw [PyData.eqv]
    exact eqvAll_refl xs (by simpa [flatT] using h)
theorem eqvAll_refl : ∀ (xs : List PyData), flatTs xs = true → PyData.eqvAll xs xs = true
  | [], _ => by simp [PyData.eqvAll]
  | x :: xs, h => by
    have h' : flatT x = true ∧ flatTs xs = true := by simpa [flatTs] using h
    rw [PySem.W.eqv_all_cons, eqv_refl x h'.1, eqvAll_refl xs h'.2]
    rfl
end
theorem eqv_false {x y : PyData} (h : PySem.W.alike x y = true) (e : x ≠ y) : PyData.eqv x y = false := by
  cases q : PyData.eqv x y with
  | false => rfl
  | true => exact absurd (eqv_eq x y h q) e
theorem dlt_irr (x : PyData) : dlt x x = false := PyProof.Rows.lex_irrefl _
theorem dlt_tr {x y z : PyData} (h1 : dlt x y = true) (h2 : dlt y z = true) : dlt x z = true := PyProof.Rows.lex_trans _ _ _ h1 h2
theorem dlt_asym {x y : PyData} (h : dlt x y = true) : dlt y x = false := by
  cases q : dlt y x with
  | false => rfl
  | true =>
    have := dlt_tr h q
    rw [dlt_irr] at this
    cases this
theorem dlt_split {x z : PyData} (y : PyData) (h : dlt x z = true) : dlt x y = true ∨ dlt y z = true := PyProof.Rows.lex_negTrans _ _ _ h
theorem dlt_tot {x y : PyData} (h : PySem.W.alike x y = true) (e : x ≠ y) : dlt x y = true ∨ dlt y x = true := by
  cases q1 : dlt x y with
  | true => exact Or.inl rfl
  | false =>
    cases q2 : dlt y x with
    | true => exact Or.inr rfl
    | false =>
      have et := PyProof.Rows.lex_total _ _ q1 q2
      have f := (PySem.W.toks_eqv x y h).2 (eqv_false h e) [.inl 0] [.inl 1]
      rw [et, PySem.W.lex_pre, PyProof.Rows.lex_irrefl] at f
      exact absurd f (by decide)
/-- rising -/
def Rises (ds : List PyData) : Prop := ds.Pairwise fun x y => dlt x y = true
theorem rises_ext : ∀ {xs ys : List PyData}, Rises xs → Rises ys → (∀ d, d ∈ xs ↔ d ∈ ys) → xs = ys
  | [], [], _, _, _ => rfl
  | [], y :: _, _, _, h => nomatch (h y).mpr List.mem_cons_self
  | x :: _, [], _, _, h => nomatch (h x).mp List.mem_cons_self
  | x :: xs, y :: ys, h1, h2, h => by
    obtain ⟨a1, a2⟩ := List.pairwise_cons.mp h1
    obtain ⟨b1, b2⟩ := List.pairwise_cons.mp h2
    have e : x = y := by
      rcases List.mem_cons.mp ((h x).mp List.mem_cons_self) with q | q
      · exact q
      · rcases List.mem_cons.mp ((h y).mpr List.mem_cons_self) with q2 | q2
        · exact q2.symm
        · have c1 := b1 x q
          have c2 := dlt_asym (a1 y q2)
          rw [c1] at c2
          cases c2
    subst e
    have nx : x ∉ xs := fun q => by
      have := a1 x q
      rw [dlt_irr] at this
      cases this
    have ny : x ∉ ys := fun q => by
      have := b1 x q
      rw [dlt_irr] at this
      cases this
    rw [rises_ext a2 b2 fun d => ⟨fun hd => ?_, fun hd => ?_⟩]
    · rcases List.mem_cons.mp ((h d).mp (List.mem_cons_of_mem _ hd)) with q | q
      · subst q
        exact absurd hd nx
      · exact q
    · rcases List.mem_cons.mp ((h d).mpr (List.mem_cons_of_mem _ hd)) with q | q
      · subst q
        exact absurd hd ny
      · exact q
/-! ### sorted -/
def srt {α : Type} (rev : Bool) (k : α → PyData) (bs : List α) : List α := bs.mergeSort (PySem.W.dataLe rev k)
theorem srt_perm {α : Type} (rev : Bool) (k : α → PyData) (bs : List α) : (srt rev k bs).Perm bs := List.mergeSort_perm _ _
theorem srt_up {α : Type} (k : α → PyData) (bs : List α) : (srt false k bs).Pairwise fun x y => dlt (k y) (k x) = false := by
  have tr : ∀ a b c : α, PySem.W.dataLe false k a b = true → PySem.W.dataLe false k b c = true → PySem.W.dataLe false k a c = true := by
    intro a b c h1 h2
    rw [PySem.W.dataLe_eq] at h1 h2 ⊢
    simp only [cond_false, Bool.not_eq_true'] at h1 h2 ⊢
    cases q : PySem.W.dataLt (k c) (k a) with
    | false => rfl
    | true =>
      rcases dlt_split (k b) q with z | z
      · rw [show PySem.W.dataLt (k c) (k b) = true from z] at h2
        cases h2
      · rw [show PySem.W.dataLt (k b) (k a) = true from z] at h1
        cases h1
  have tot : ∀ a b : α, (PySem.W.dataLe false k a b || PySem.W.dataLe false k b a) = true := by
    intro a b
    rw [PySem.W.dataLe_eq]
    simp only [cond_false]
    cases q : PySem.W.dataLt (k b) (k a) with
    | false => rfl
    | true =>
      have := dlt_asym q
      rw [show PySem.W.dataLt (k a) (k b) = false from this]
      rfl
  refine (List.pairwise_mergeSort tr tot bs).imp fun {a b} h => ?_
  rw [PySem.W.dataLe_eq] at h
  simpa using h
/-- alike, all different: strictly rising -/
theorem srt_rises {α : Type} {k : α → PyData} {bs : List α} (ha : PySem.W.AllAlike (bs.map k)) (hn : (bs.map k).Nodup) : Rises ((srt false k bs).map k) := by
  have p := (srt_perm false k bs).map k
  have hn' : ((srt false k bs).map k).Nodup := p.nodup_iff.mpr hn
  have up : ((srt false k bs).map k).Pairwise fun x y => dlt y x = false := List.pairwise_map.mpr (srt_up k bs)
  have ha' : PySem.W.AllAlike ((srt false k bs).map k) := fun d hd e he => ha d (p.mem_iff.mp hd) e (p.mem_iff.mp he)
  generalize (srt false k bs).map k = ds at hn' up ha'
  have both : ds.Pairwise fun x y => x ≠ y ∧ dlt y x = false := by
    have := hn'
    unfold List.Nodup at this
    exact List.pairwise_and_iff.mpr ⟨this, up⟩
  clear up hn'
  unfold Rises
  induction ds with
  | nil => exact List.Pairwise.nil
  | cons d ds ih =>
    obtain ⟨h1, h2⟩ := List.pairwise_cons.mp both
    refine List.pairwise_cons.mpr ⟨fun e he => ?_, ih (fun a h b h' => ha' a (List.mem_cons_of_mem _ h) b (List.mem_cons_of_mem _ h')) h2⟩
    obtain ⟨q1, q2⟩ := h1 e he
    rcases dlt_tot (ha' d List.mem_cons_self e (List.mem_cons_of_mem _ he)) q1 with z | z
    · exact z
    · rw [z] at q2
      cases q2
/-! ### the rules -/
structure Cmpb (ds : List PyData) : Prop where
  al : PySem.W.AllAlike ds
  so : PySem.W.Sortable ds
  dp : ∀ d ∈ ds, d.depth ≤ 90
theorem dp_pairs {K : PySem.W.Frag} {H : Hp} : ∀ {bs : List (V × PyData)}, (∀ b ∈ bs, Dp K H b.1 b.2) → DpAll K H (bs.map (·.1)) (bs.map (·.2))
  | [], _ => .nil
  | b :: bs, h => .cons (h b List.mem_cons_self) (dp_pairs fun c hc => h c (List.mem_cons_of_mem _ hc))
theorem dp_zip {K : PySem.W.Frag} {H : Hp} : ∀ {xs : List V} {ds : List PyData}, DpAll K H xs ds → (∀ b ∈ xs.zip ds, Dp K H b.1 b.2) ∧ (xs.zip ds).map (·.1) = xs ∧ (xs.zip ds).map (·.2) = ds
  | _, _, .nil => ⟨fun _ h => (nomatch h), rfl, rfl⟩
  | x :: xs, d :: ds, .cons h1 h2 => by
    obtain ⟨a, b, c⟩ := dp_zip h2
    refine ⟨fun p hp => ?_, ?_, ?_⟩
    · rcases List.mem_cons.mp hp with rfl | q
      · exact h1
      · exact a p q
    · show x :: (xs.zip ds).map (·.1) = _
      rw [b]
    · show d :: (xs.zip ds).map (·.2) = _
      rw [c]
theorem each_vals {bs : List (V × PyData)} : ∀ {us : List Value}, Vals (bs.map (·.1)) us → PySem.W.EachIs (fun v b => RelV b.1 v) us bs := by
  induction bs with
  | nil =>
    intro us r
    cases r
    exact .nil
  | cons b bs ih =>
    intro us r
    cases r with
    | cons r1 r2 => exact .cons r1 (ih r2)
theorem vals_each {bs : List (V × PyData)} : ∀ {us : List Value}, PySem.W.EachIs (fun v b => RelV b.1 v) us bs → Vals (bs.map (·.1)) us
  | _, .nil => .nil
  | _, .cons r1 r2 => .cons r1 (vals_each r2)
theorem each_reads {X : Cx} {pins : List (Addr × Obj)} {σ : L2.St} {H : Hp} {s : Shared} (I : Inv X pins σ H s) : ∀ {bs : List (V × PyData)} {us : List Value}, PySem.W.EachIs (fun v b => RelV b.1 v) us bs → (∀ b ∈ bs, Dp X.K H b.1 b.2) →
    PySem.W.EachIs (fun v (b : V × PyData) => ∃ as, Reads s.heap v b.2 as) us bs
  | _, _, .nil, _ => .nil
  | _, _, .cons r1 r2, h => .cons (Dp.reads I _ _ _ (h _ List.mem_cons_self) r1) (each_reads I r2 fun b hb => h b (List.mem_cons_of_mem _ hb))
theorem vals_back : ∀ {xs : List V} {us : List Value} {i : Nat} {u : Value}, Vals xs us → us[i]? = some u → ∃ x, xs[i]? = some x ∧ RelV x u
  | _, _, _, _, .nil, h => by simp at h
  | x :: _, _, 0, u, .cons r _, h => ⟨x, rfl, by
    have e := Option.some.inj h
    rw [← e]; exact r⟩
  | _, _, i + 1, _, .cons _ r, h => by
    obtain ⟨x, e, q⟩ := vals_back (i := i) r (by simpa using h)
    exact ⟨x, by simpa using e, q⟩
section
variable {X : Cx}
/-- sorted(xs) of a list of data -/
def rSrt (K : PySem.W.Frag) : List V → Hp → VK → Prop := fun vs H Q => ∃ (a : Addr) (xs : List V) (ds : List PyData), vs = [.ref a] ∧ SqL K H a xs ∧ DpAll K H xs ds ∧ Cmpb ds ∧ xs.length ≤ sizeLine ∧
  ∀ p, H p = none → Q (.ref p) (upd H p (.lst ((srt false (·.2) (xs.zip ds)).map (·.1))))
theorem call_srt {k : Nat} (hr : Room k X.A) : CallR X (.builtin "sorted") (rSrt X.K) := by
  intro pins s σ H vs us Q I r h
  obtain ⟨a, xs, ds, rfl, hs, hd, hc, hz, q⟩ := h
  obtain ⟨its, rv, hl, _⟩ := I.list hs
  rw [Vals.ref1 r]
  obtain ⟨z1, z2, z3⟩ := dp_zip hd
  have e : PySem.W.EachIs (fun v (b : V × PyData) => RelV b.1 v) its (xs.zip ds) := each_vals (by rw [z2]; exact rv)
  have er := each_reads I e z1
  have hu := hr.un
  have lz : (xs.zip ds).length ≤ sizeLine := by
    have := congrArg List.length z2
    rw [List.length_map] at this
    omega
  refine PySem.W.sorted_data (enc := fun b : V × PyData => b.2) hl.isList e er (by rw [z3]; exact hc.al) (by rw [z3]; exact hc.so) lz (fun b hb => ?_) fun out lo eo => ?_
  · have := hc.dp b.2 (by rw [← z3]; exact List.mem_map.mpr ⟨b, hb, rfl⟩)
    omega
  · obtain ⟨ep, he'⟩ := PyProof.Rows.sortedAll_at s.heap its (List.toArray out)
    refine ⟨.ref _, upd H (s.heap.objs.size + 1) (.lst ((srt false (·.2) (xs.zip ds)).map (·.1))), I.laid (t' := s.toks) (fun _ _ => PyProof.Rows.sortedAll_old) (Nat.le_succ _) ⟨?_, out, ep, vals_each eo, he'⟩, rfl, q _ (I.hok.fresh (Nat.le_succ _))⟩
    rw [List.length_map, (srt_perm _ _ _).length_eq]
    exact lz
/-- min(xs) of a list of data -/
def rMinDt (K : PySem.W.Frag) : List V → Hp → VK → Prop := fun vs H Q => ∃ (a : Addr) (xs : List V) (d : PyData) (ds : List PyData), vs = [.ref a] ∧ SqL K H a xs ∧ DpAll K H xs (d :: ds) ∧ PySem.W.AlikeAll (d :: ds) ∧ (∀ e ∈ d :: ds, e.depth ≤ 90) ∧
  ∀ (i : Nat) (x : V), xs[i]? = some x → Dp K H x (PySem.W.minD d ds) → Q x H
theorem depthAll_le {n : Nat} : ∀ {ds : List PyData}, (∀ d ∈ ds, d.depth ≤ n) → PyData.depthAll ds ≤ n
  | [], _ => Nat.zero_le _
  | d :: ds, h => Nat.max_le.mpr ⟨h d List.mem_cons_self, depthAll_le fun e he => h e (List.mem_cons_of_mem _ he)⟩
theorem minD_at : ∀ (ds : List PyData) (d : PyData), (PySem.W.minD d ds = d ∨ PySem.W.minD d ds ∈ ds) ∧ dlt d (PySem.W.minD d ds) = false ∧ ∀ e ∈ ds, dlt e (PySem.W.minD d ds) = false
  | [], d => ⟨Or.inl rfl, dlt_irr d, fun _ h => (nomatch h)⟩
  | e :: ds, d => by
    show (PySem.W.minD (if dlt e d then e else d) ds = d ∨ _) ∧ _
    have ee : PySem.W.minD d (e :: ds) = PySem.W.minD (if dlt e d then e else d) ds := rfl
    rw [ee]
    cases q : dlt e d with
    | true =>
      obtain ⟨h1, h2, h3⟩ := minD_at ds e
      refine ⟨Or.inr ?_, ?_, fun f hf => ?_⟩
      · rcases h1 with z | z
        · show PySem.W.minD e ds ∈ _
          rw [z]; exact List.mem_cons_self
        · exact List.mem_cons_of_mem _ z
      · show dlt d (PySem.W.minD e ds) = false
        cases z : dlt d (PySem.W.minD e ds) with
        | false => rfl
        | true =>
          have := dlt_tr q z
          rw [h2] at this
          cases this
      · rcases List.mem_cons.mp hf with rfl | hf
        · exact h2
        · exact h3 f hf
    | false =>
      obtain ⟨h1, h2, h3⟩ := minD_at ds d
      refine ⟨?_, h2, fun f hf => ?_⟩
      · rcases h1 with z | z
        · exact Or.inl z
        · exact Or.inr (List.mem_cons_of_mem _ z)
      · rcases List.mem_cons.mp hf with rfl | hf
        · show dlt f (PySem.W.minD d ds) = false
          cases z : dlt f (PySem.W.minD d ds) with
          | false => rfl
          | true =>
            rcases dlt_split d z with y | y
            · rw [q] at y; cases y
            · rw [h2] at y; cases y
        · exact h3 f hf
theorem call_minDt {k : Nat} (hc : X.calm = true) (hr : Room k X.A) : CallR X (.builtin "min") (rMinDt X.K) := by
  intro pins s σ H vs us Q I r h
  obtain ⟨a, xs, d, ds, rfl, hs, hd, ha, hdp, q⟩ := h
  obtain ⟨its, rv, hl, _⟩ := I.list hs
  rw [Vals.ref1 r]
  obtain ⟨as, hR⟩ := Dp.readsAll I _ _ _ hd rv
  have hu := hr.un
  have hdd := depthAll_le hdp
  refine PySem.W.min_list_data (vs := its.toArray) (I.ok.hd hc) hl.isList (by simpa using hR) ha (by omega) fun i v h' tk bs hv rd hk => ?_
  have hv' : its[i]? = some v := by simpa using hv
  obtain ⟨x, hx, rx⟩ : ∃ x, xs[i]? = some x ∧ RelV x v := vals_back rv hv'
  refine ⟨x, H, I.kept hk, rx, q i x hx ?_⟩
  obtain ⟨e, he, de⟩ := DpAll.getV hd hx
  obtain ⟨as2, re⟩ := Dp.reads (I.kept (t' := tk) hk) _ _ _ de rx
  obtain ⟨m1, _⟩ := minD_at ds d
  have mm : PySem.W.minD d ds ∈ d :: ds := by
    rcases m1 with z | z
    · rw [z]; exact List.mem_cons_self
    · exact List.mem_cons_of_mem _ z
  have ee := PySem.W.alike_unique _ _ _ _ _ (ha.1 e (List.mem_of_getElem? he) _ mm) re rd
  rw [← ee]
  exact de
/-! ### a dict with tuple keys -/
def kD : Key → PyData
  | .inl i => .int i
  | .inr x => .str x
theorem dp_key {K : PySem.W.Frag} {H : Hp} : ∀ k : Key, Dp K H (kV k) (kD k)
  | .inl i => .int i
  | .inr x => .str x
theorem dp_keys {K : PySem.W.Frag} {H : Hp} : ∀ ks : List Key, DpAll K H (ks.map kV) (ks.map kD)
  | [] => .nil
  | k :: ks => .cons (dp_key k) (dp_keys ks)
abbrev tkD (k : List Key) : PyData := .tuple (k.map kD)
/-- sorted(d) of a dict whose keys are tuples -/
def rSrtT : List V → Hp → VK → Prop := fun vs H Q => ∃ (a : Addr) (kvs : List (List Key × V)), vs = [.ref a] ∧ Rd H a (.dT kvs) ∧ Cmpb (kvs.map fun p => tkD p.1) ∧
  ∀ (p : Addr) (L : List (V × PyData)), H p = none → (∃ bs : List Addr, IsKeys H kvs bs ∧ L = srt false (·.2) ((bs.map V.ref).zip (kvs.map fun p => tkD p.1))) → Q (.ref p) (upd H p (.lst (L.map (·.1))))
theorem keys_dp {K : PySem.W.Frag} {H : Hp} : ∀ {kvs : List (List Key × V)} {bs : List Addr}, IsKeys H kvs bs → DpAll K H (bs.map V.ref) (kvs.map fun p => tkD p.1)
  | _, _, .nil => .nil
  | p :: _, b :: _, .cons h t => .cons (.tup (SqT.of h) (dp_keys p.1)) (keys_dp t)
theorem call_srtT {k : Nat} (hcalm : X.calm = true) (hr : Room k X.A) : CallR X (.builtin "sorted") rSrtT := by
  intro pins s σ H xs us Q I r h
  obtain ⟨a, kvs, rfl, hd, hc, q⟩ := h
  rw [Vals.ref1 r]
  obtain ⟨z, hs, ks, pr, o, es, ep, ho, hx, hdt, he, hn⟩ := (show ObjOk X.prog X.w H s.heap a (.dT kvs) from hd.ok I.hok)
  have l1 : es.size = ks.length := size_of_entries he
  have l2 : kvs.length = ks.length := Paired.length pr
  have hu := hr.un
  refine Calls.call_function_entry PyProof.Rows.kind_sorted PyProof.Rows.plain_sorted PyProof.Rows.entry_sorted (PyProof.Rows.args_sorted1 _) ?_
  unfold Builtin.«sorted»
  refine wpAny_bind (m := checkCount "sorted" 1 1 _) (wpAny_pure ?_)
  refine wpAny_bind (PySem.W.kdu_collect (A := X.A.in1) (kdl_raw hs hx hdt) (I.ok.hd hcalm) ho (by omega) fun h' tk acc' kp it => ?_)
  have ea : acc'.toList = ks.map fun x => Value.ref x.2.1 := items_out (by rw [List.length_map, ← l1]; exact it) fun j v => by
    rintro ⟨en, hen, rfl⟩
    obtain ⟨b, hb, e2⟩ := Option.map_eq_some_iff.mp ((entry_at he j).symm.trans hen)
    rw [List.getElem?_map, hb, ← e2]
    rfl
  have eb : acc'.toList = (ks.map fun x => x.2.1).map Value.ref := by rw [ea, List.map_map]; all_goals rfl
  have rv : Vals ((ks.map fun x => x.2.1).map V.ref) acc'.toList := by rw [eb]; exact vals_refs _
  have ik := isKeys_of pr
  have hdp : DpAll X.K H ((ks.map fun x => x.2.1).map V.ref) (kvs.map fun p => tkD p.1) := keys_dp ik
  obtain ⟨z1, z2, z3⟩ := dp_zip hdp
  have I1 : Inv X pins σ H { s with heap := h', toks := tk } := I.kept kp
  have hal : acc'.toList.length = ks.length := by rw [Array.length_toList, it.1]; exact l1
  refine wpAny_bind (wpAny_newList ?_ (by omega))
  have hoL : (h'.push (seqObj "list" acc'.toList.toArray 0)).get? h'.objs.size = some (seqObj "list" acc'.toList.toArray 0) := Heap.get?_push_size _ rfl
  show wpAny _ _ _ _ _ { s with heap := h'.push (seqObj "list" acc'.toList.toArray 0), toks := tk }
  have e : PySem.W.EachIs (fun v (b : V × PyData) => RelV b.1 v) acc'.toList (((ks.map fun x => x.2.1).map V.ref).zip (kvs.map fun p => tkD p.1)) := each_vals (by rw [z2]; exact rv)
  have er := each_reads I1 e z1
  generalize hB : ((ks.map fun x => x.2.1).map V.ref).zip (kvs.map fun p => tkD p.1) = B at z1 z2 z3 e er
  have al : PySem.W.AllAlike (B.map fun b : V × PyData => b.2) := by rw [z3]; exact hc.al
  have so : PySem.W.Sortable (B.map fun b : V × PyData => b.2) := by rw [z3]; exact hc.so
  have er' : PySem.W.EachIs (fun v (b : V × PyData) => ∃ as, Reads (PySem.W.sortingHeap (h'.push (seqObj "list" acc'.toList.toArray 0)) h'.objs.size acc'.toList) v b.2 as) acc'.toList B :=
    er.mono fun v b ⟨as, rd⟩ => ⟨as, PyProof.Rows.Reads.keeps (fun b o eo => PySem.W.sortingHeap_old (Nat.ne_of_lt (Heap.lt_size eo)) (Heap.get?_push_of_some _ eo)) rd⟩
  refine wpAny_bind (wpAny_holding (wpAny_call_entry PyProof.Rows.slot_list_sort ⟨_, hoL, rfl⟩ PyProof.Rows.entry_list_sort
    (PySem.W.list_sort_vals (κ := PySem.W.dataKind (PySem.W.sortingHeap (h'.push (seqObj "list" acc'.toList.toArray 0)) h'.objs.size acc'.toList) (B.map fun b : V × PyData => b.2)) (s := { s with heap := h'.push (seqObj "list" acc'.toList.toArray 0), toks := tk }) hoL
      (PySem.W.SortsAt.data (s := { s with heap := PySem.W.sortingHeap (h'.push (seqObj "list" acc'.toList.toArray 0)) h'.objs.size acc'.toList, toks := tk })
        (PySem.W.each_map (R := fun v d => ∃ as, Reads (PySem.W.sortingHeap (h'.push (seqObj "list" acc'.toList.toArray 0)) h'.objs.size acc'.toList) v d as) (fun b : V × PyData => b.2) er') al so
        (PySem.W.bound_map fun b hb => by
          have := hc.dp b.2 (by rw [← z3]; exact List.mem_map.mpr ⟨b, hb, rfl⟩)
          show X.A.units + 2 + _ < _
          omega)) (by omega) ⟨_, rfl, ?_⟩)
    (PyProof.Rows.args_list_sort _)))
  have eo := PySem.W.sortVals_data (enc := fun b : V × PyData => b.2) false e er' al
  have lo : (PySem.W.sortVals (PySem.W.dataKind (PySem.W.sortingHeap (h'.push (seqObj "list" acc'.toList.toArray 0)) h'.objs.size acc'.toList) (B.map fun b : V × PyData => b.2)) false acc'.toList acc'.toList).length = acc'.toList.length := PySem.W.sortVals_length false rfl
  generalize PySem.W.sortVals (PySem.W.dataKind (PySem.W.sortingHeap (h'.push (seqObj "list" acc'.toList.toArray 0)) h'.objs.size acc'.toList) (B.map fun b : V × PyData => b.2)) false acc'.toList acc'.toList = out at eo lo
  obtain ⟨e', he'⟩ := PyProof.Rows.sortedHeap_at (vs := acc'.toList) (out := out.toArray) hoL
  refine wpAny_pure ⟨_, rfl, .ref h'.objs.size, upd H h'.objs.size (.lst ((srt false (·.2) B).map (·.1))), I1.laid (t' := tk) (fun b u e => ?_) (Nat.le_refl _)
    (show ObjOk X.prog X.w _ _ _ (.lst ((srt false (·.2) B).map (·.1))) from ⟨?_, out, e', vals_each eo, he'⟩), rfl, q _ _ (I1.hok.fresh (Nat.le_refl _)) ⟨_, ik, by rw [hB]⟩⟩
  · have hb : b < h'.objs.size := Heap.lt_size e
    rw [PyProof.Rows.sortedHeap_old (Nat.ne_of_lt hb) (by rw [size_push']; exact Nat.lt_succ_of_lt hb)]
    exact Heap.get?_push_of_some _ e
  · have := (vals_each eo).length
    unfold srt
    rw [this]
    omega
end
end PK
/-! Part rows: their sums, rising, each part once. -/
namespace PK
open PySem PySem.Spec PyProof.Rows L2
abbrev PKey := Str × Str
abbrev PRow := Str × Str × Int
def pk (r : PRow) : PKey := (r.1, r.2.1)
def pkD (k : PKey) : PyData := .tuple [.str k.1, .str k.2]
def prowD (r : PRow) : PyData := .tuple [.str r.1, .str r.2.1, .int r.2.2]
def rowsD (L : List PRow) : PyData := .tuple (L.map prowD)
theorem flat_pk (k : PKey) : flatT (pkD k) = true := rfl
theorem flat_prow (r : PRow) : flatT (prowD r) = true := rfl
theorem flatTs_map {α : Type} {f : α → PyData} (h : ∀ a, flatT (f a) = true) : ∀ l : List α, flatTs (l.map f) = true
  | [] => rfl
  | a :: l => by
    show (flatT (f a) && flatTs (l.map f)) = true
    rw [h a, flatTs_map h l]
    rfl
theorem flat_rows (L : List PRow) : flatT (rowsD L) = true := by
  show flatTs (L.map prowD) = true
  exact flatTs_map flat_prow L
theorem pkD_inj {a b : PKey} (h : pkD a = pkD b) : a = b := by
  unfold pkD at h
  injection h with h
  injection h with h1 h2
  injection h1 with h1
  injection h2 with h2 _
  injection h2 with h2
  exact Prod.ext h1 h2
theorem pkD_alike (a b : PKey) : PySem.W.alike (pkD a) (pkD b) = true := by simp [pkD, PySem.W.alike, PySem.W.alikeAll]
theorem pk_allAlike (ks : List PKey) : PySem.W.AllAlike (ks.map pkD) := PySem.W.AllAlike.of pkD_alike
theorem pk_cmpb (ks : List PKey) : Cmpb (ks.map pkD) := ⟨pk_allAlike ks, PySem.W.Sortable.tuples fun b => ⟨_, _, rfl⟩, fun d hd => by
  obtain ⟨k, _, rfl⟩ := List.mem_map.mp hd
  show 1 ≤ 90
  decide⟩
theorem nodup_mapD {ks : List PKey} (h : ks.Nodup) : (ks.map pkD).Nodup := by
  unfold List.Nodup at h ⊢
  refine List.pairwise_map.mpr (h.imp fun {a b} q e => q (pkD_inj e))
/-! ### how many -/
def cnt : List PRow → PKey → Int
  | [], _ => 0
  | r :: L, k => (if pk r = k then r.2.2 else 0) + cnt L k
theorem cnt_nil (k : PKey) : cnt [] k = 0 := rfl
theorem cnt_cons (r : PRow) (L : List PRow) (k : PKey) : cnt (r :: L) k = (if pk r = k then r.2.2 else 0) + cnt L k := rfl
theorem cnt_app : ∀ (L M : List PRow) (k : PKey), cnt (L ++ M) k = cnt L k + cnt M k
  | [], M, k => by rw [List.nil_append, cnt_nil]; omega
  | r :: L, M, k => by
    rw [List.cons_append, cnt_cons, cnt_cons, cnt_app L M k]
    omega
theorem cnt_perm {L M : List PRow} (h : L.Perm M) (k : PKey) : cnt L k = cnt M k := by
  induction h with
  | nil => rfl
  | cons r _ ih => rw [cnt_cons, cnt_cons, ih]
  | swap r q L => rw [cnt_cons, cnt_cons, cnt_cons, cnt_cons]; omega
  | trans _ _ i j => rw [i, j]
theorem cnt_none {L : List PRow} {k : PKey} (h : k ∉ L.map pk) : cnt L k = 0 := by
  induction L with
  | nil => rfl
  | cons r L ih =>
    rw [List.map_cons, List.mem_cons, not_or] at h
    rw [cnt_cons, if_neg (fun e => h.1 e.symm), ih h.2]
    rfl
/-- a drawn row: words, from 1 on -/
structure PRowOk (b : Int) (r : PRow) : Prop where
  f : Word r.1
  s : Word r.2.1
  lo : 1 ≤ r.2.2
  hi : r.2.2 ≤ b
structure RowsOk (n : Nat) (b : Int) (L : List PRow) : Prop where
  len : L.length ≤ n
  each : ∀ r ∈ L, PRowOk b r
theorem PRowOk.mono {b c : Int} {r : PRow} (h : PRowOk b r) (hb : b ≤ c) : PRowOk c r := ⟨h.f, h.s, h.lo, Int.le_trans h.hi hb⟩
theorem RowsOk.mono {n m : Nat} {b c : Int} {L : List PRow} (h : RowsOk n b L) (hn : n ≤ m) (hb : b ≤ c) : RowsOk m c L := ⟨Nat.le_trans h.len hn, fun r hr => (h.each r hr).mono hb⟩
theorem RowsOk.tail {n : Nat} {b : Int} {r : PRow} {L : List PRow} (h : RowsOk n b (r :: L)) : RowsOk n b L := ⟨by have := h.len; rw [List.length_cons] at this; omega, fun q hq => h.each q (List.mem_cons_of_mem _ hq)⟩
theorem cnt_nn {n : Nat} {b : Int} {L : List PRow} (h : RowsOk n b L) (k : PKey) : 0 ≤ cnt L k := by
  induction L with
  | nil => exact Int.le_refl 0
  | cons r L ih =>
    rw [cnt_cons]
    have h1 := (h.each r List.mem_cons_self).lo
    have h2 := ih h.tail
    split <;> omega
theorem cnt_pos {n : Nat} {b : Int} {L : List PRow} (h : RowsOk n b L) {k : PKey} (hk : k ∈ L.map pk) : 0 < cnt L k := by
  induction L with
  | nil => cases hk
  | cons r L ih =>
    rw [cnt_cons]
    have h1 := (h.each r List.mem_cons_self).lo
    have h2 := cnt_nn h.tail k
    rcases List.mem_cons.mp hk with e | e
    · rw [if_pos e.symm]; omega
    · have := ih h.tail e
      split <;> omega
theorem cnt_le {n : Nat} {b : Int} (hb : 0 ≤ b) {L : List PRow} (h : RowsOk n b L) (k : PKey) : cnt L k ≤ (L.length : Int) * b := by
  induction L with
  | nil => simp [cnt_nil]
  | cons r L ih =>
    rw [cnt_cons, List.length_cons]
    have h1 := (h.each r List.mem_cons_self).hi
    have h2 := ih h.tail
    have e : ((L.length + 1 : Nat) : Int) * b = (L.length : Int) * b + b := by
      rw [Int.natCast_add, Int.add_mul]
      simp
    rw [e]
    split <;> omega
theorem cnt_key {n : Nat} {b : Int} {L : List PRow} (h : RowsOk n b L) (k : PKey) : k ∈ L.map pk ↔ 0 < cnt L k := by
  refine ⟨cnt_pos h, fun q => ?_⟩
  by_cases z : k ∈ L.map pk
  · exact z
  · rw [cnt_none z] at q
    omega
/-! ### the sums, rising -/
def nub : List PKey → List PKey
  | [] => []
  | k :: ks => k :: (nub ks).filter fun q => decide (q ≠ k)
theorem mem_nub {k : PKey} : ∀ {ks : List PKey}, k ∈ nub ks ↔ k ∈ ks
  | [] => Iff.rfl
  | q :: ks => by
    show k ∈ q :: _ ↔ _
    rw [List.mem_cons, List.mem_cons, List.mem_filter, mem_nub (ks := ks)]
    by_cases e : k = q
    · simp [e]
    · simp [e]
theorem nodup_nub : ∀ ks : List PKey, (nub ks).Nodup
  | [] => List.nodup_nil
  | q :: ks => List.nodup_cons.mpr ⟨fun h => by
      have := (List.mem_filter.mp h).2
      simp at this, (nodup_nub ks).filter _⟩
def skeys (L : List PRow) : List PKey := srt false pkD (nub (L.map pk))
def sumR (L : List PRow) : List PRow := (skeys L).map fun k => (k.1, k.2, cnt L k)
theorem mem_skeys {L : List PRow} {k : PKey} : k ∈ skeys L ↔ k ∈ L.map pk := ((srt_perm false pkD _).mem_iff).trans mem_nub
theorem skeys_rises (L : List PRow) : Rises ((skeys L).map pkD) := srt_rises (pk_allAlike _) (nodup_mapD (nodup_nub _))
theorem sumR_keys (L : List PRow) : (sumR L).map pk = skeys L := by
  unfold sumR
  rw [List.map_map]
  exact List.map_id'' (fun k => rfl) _
theorem map_inj {ks ls : List PKey} : ks.map pkD = ls.map pkD → ks = ls := by
  induction ks generalizing ls with
  | nil => intro h; cases ls with
    | nil => rfl
    | cons => cases h
  | cons k ks ih =>
    intro h
    cases ls with
    | nil => cases h
    | cons l ls =>
      rw [List.map_cons, List.map_cons] at h
      injection h with h1 h2
      rw [pkD_inj h1, ih h2]
/-- rising keys that are just these -/
theorem skeys_of {L : List PRow} {ks : List PKey} (h : Rises (ks.map pkD)) (hm : ∀ k, k ∈ ks ↔ k ∈ L.map pk) : ks = skeys L := by
  refine map_inj (rises_ext h (skeys_rises L) fun d => ⟨fun hd => ?_, fun hd => ?_⟩)
  · obtain ⟨k, hk, rfl⟩ := List.mem_map.mp hd
    exact List.mem_map.mpr ⟨k, mem_skeys.mpr ((hm k).mp hk), rfl⟩
  · obtain ⟨k, hk, rfl⟩ := List.mem_map.mp hd
    exact List.mem_map.mpr ⟨k, (hm k).mpr (mem_skeys.mp hk), rfl⟩
theorem sumR_of {L M : List PRow} (h : Rises (M.map fun r => pkD (pk r))) (hm : ∀ k, k ∈ M.map pk ↔ k ∈ L.map pk) (hc : ∀ r ∈ M, r.2.2 = cnt L (pk r)) : M = sumR L := by
  have e : M.map pk = skeys L := skeys_of (by rw [List.map_map]; exact h) hm
  unfold sumR
  rw [← e, List.map_map]
  symm
  refine (List.map_congr_left (g := id) fun r hr => ?_).trans (List.map_id _)
  show (r.1, r.2.1, cnt L (pk r)) = r
  rw [← hc r hr]
theorem sumR_congr {L M : List PRow} (hm : ∀ k, k ∈ L.map pk ↔ k ∈ M.map pk) (hc : ∀ k, cnt L k = cnt M k) : sumR L = sumR M := by
  have e : skeys L = skeys M := skeys_of (skeys_rises L) fun k => mem_skeys.trans (hm k)
  unfold sumR
  rw [e]
  exact List.map_congr_left fun k _ => by rw [hc k]
/-- the same how many of each: the same sums -/
theorem sumR_eq {n m : Nat} {b c : Int} {L M : List PRow} (hL : RowsOk n b L) (hM : RowsOk m c M) (h : ∀ k, cnt L k = cnt M k) : sumR L = sumR M :=
  sumR_congr (fun k => by rw [cnt_key hL, cnt_key hM, h k]) h
theorem sumR_perm {L M : List PRow} (h : L.Perm M) : sumR L = sumR M := sumR_congr (fun k => (h.map pk).mem_iff) (cnt_perm h)
theorem cnt_once {f : PKey → Int} : ∀ {ks : List PKey}, ks.Nodup → ∀ k, cnt (ks.map fun k => (k.1, k.2, f k)) k = if k ∈ ks then f k else 0
  | [], _, k => by simp [cnt_nil]
  | q :: ks, h, k => by
    obtain ⟨h1, h2⟩ := List.nodup_cons.mp h
    rw [List.map_cons, cnt_cons, cnt_once h2 k]
    show (if (q.1, q.2) = k then f q else 0) + _ = _
    by_cases e : q = k
    · subst e
      rw [if_pos rfl, if_neg h1, if_pos List.mem_cons_self]
      omega
    · have e' : ¬ ((q.1, q.2) : PKey) = k := e
      rw [if_neg e']
      by_cases z : k ∈ ks
      · rw [if_pos z, if_pos (List.mem_cons_of_mem _ z)]; omega
      · rw [if_neg z, if_neg (fun y => by
          rcases List.mem_cons.mp y with y | y
          · exact e y.symm
          · exact z y)]
        rfl
theorem skeys_nodup (L : List PRow) : (skeys L).Nodup := (srt_perm false pkD _).nodup_iff.mpr (nodup_nub _)
theorem cnt_sumR (L : List PRow) (k : PKey) : cnt (sumR L) k = cnt L k := by
  unfold sumR
  rw [cnt_once (f := cnt L) (skeys_nodup L) k]
  by_cases z : k ∈ skeys L
  · rw [if_pos z]
  · rw [if_neg z, cnt_none (fun h => z (mem_skeys.mpr h))]
theorem sumR_len (L : List PRow) : (sumR L).length ≤ L.length := by
  unfold sumR
  rw [List.length_map]
  have h : ∀ ks : List PKey, (nub ks).length ≤ ks.length := by
    intro ks
    induction ks with
    | nil => exact Nat.le_refl _
    | cons k ks ih =>
      show ((nub ks).filter _).length + 1 ≤ ks.length + 1
      have := List.length_filter_le (fun q => decide (q ≠ k)) (nub ks)
      omega
  have e := (srt_perm false pkD (nub (L.map pk))).length_eq
  have := h (L.map pk)
  rw [List.length_map] at this
  unfold skeys
  omega
theorem sumR_ok {n : Nat} {b : Int} (hb : 0 ≤ b) {L : List PRow} (h : RowsOk n b L) : RowsOk n (n * b) (sumR L) := by
  refine ⟨Nat.le_trans (sumR_len L) h.len, fun r hr => ?_⟩
  unfold sumR at hr
  obtain ⟨k, hk, rfl⟩ := List.mem_map.mp hr
  have hk' := mem_skeys.mp hk
  obtain ⟨q, hq, rfl⟩ := List.mem_map.mp hk'
  have okq := h.each q hq
  refine ⟨okq.f, okq.s, ?_, ?_⟩
  · have := cnt_pos h hk'
    show 1 ≤ cnt L (pk q)
    omega
  · have h1 := cnt_le hb h (pk q)
    have h2 : (L.length : Int) * b ≤ (n : Int) * b := Int.mul_le_mul_of_nonneg_right (by have := h.len; omega) hb
    exact Int.le_trans h1 h2
theorem sumR_nil : sumR [] = [] := by
  have := sumR_len []
  exact List.eq_nil_of_length_eq_zero (Nat.le_zero.mp this)
theorem sumR_sumR (L : List PRow) : sumR (sumR L) = sumR L := by
  refine sumR_congr (fun k => ?_) (cnt_sumR L)
  rw [sumR_keys]
  exact mem_skeys
/-! ### shown -/
theorem sh_prow {b : Int} (hb : b < 2 ^ 64) {r : PRow} (h : PRowOk b r) : Sh (prowD r) 1 261 := by
  refine (Sh.tuple (dp := 0) (n := 82) (m := 3) (fun d hd => ?_) (by show 3 ≤ 3; decide)).mono (by decide) (by decide)
  rcases List.mem_cons.mp hd with rfl | hd
  · exact Sh.word h.f
  · rcases List.mem_cons.mp hd with rfl | hd
    · exact Sh.word h.s
    · rcases List.mem_cons.mp hd with rfl | hd
      · have := h.lo
        have := h.hi
        exact (Sh.int (by omega) (by omega)).mono (Nat.le_refl _) (by decide)
      · cases hd
theorem sh_rows {n : Nat} {b : Int} (hb : b < 2 ^ 64) {L : List PRow} (h : RowsOk n b L) : Sh (rowsD L) 2 (n * 261 + 2 * n + 3) :=
  Sh.tuple (fun d hd => by
    obtain ⟨r, hr, rfl⟩ := List.mem_map.mp hd
    exact sh_prow hb (h.each r hr)) (by rw [List.length_map]; exact h.len)
end PK
/-! A dict of how many, by part; what the heaps' defs promise. -/
namespace PK
open PySem PySem.Spec PyProof.Rows L2
abbrev kk (k : PKey) : List Key := [Sum.inr k.1, Sum.inr k.2]
theorem kk_inj {a b : PKey} (h : kk a = kk b) : a = b := by
  injection h with h1 h2
  injection h2 with h2 _
  injection h1 with h1
  injection h2 with h2
  exact Prod.ext h1 h2
def ent (ks : List PKey) (c : PKey → Int) : List (List Key × V) := ks.map fun k => (kk k, V.int (c k))
theorem ent_val (c : PKey → Int) (k : PKey) : ∀ ks : List PKey, valV (ent ks c) (kk k) = if k ∈ ks then some (.int (c k)) else none
  | [] => by simp [ent, valV_nil]
  | q :: ks => by
    show valV ((kk q, V.int (c q)) :: ent ks c) (kk k) = _
    by_cases e : q = k
    · subst e
      rw [valV_pos rfl, if_pos List.mem_cons_self]
    · rw [valV_neg (fun h => e (kk_inj h)), ent_val c k ks]
      by_cases z : k ∈ ks
      · rw [if_pos z, if_pos (List.mem_cons_of_mem _ z)]
      · rw [if_neg z, if_neg (fun y => by
          rcases List.mem_cons.mp y with y | y
          · exact e y.symm
          · exact z y)]
theorem ent_any (c : PKey → Int) (k : PKey) (ks : List PKey) : ((ent ks c).any fun kv => decide (kv.1 = kk k)) = decide (k ∈ ks) := by
  rw [Bool.eq_iff_iff, List.any_eq_true, decide_eq_true_eq]
  constructor
  · rintro ⟨kv, h1, h2⟩
    obtain ⟨q, hq, rfl⟩ := List.mem_map.mp h1
    have := kk_inj (of_decide_eq_true h2)
    subst this
    exact hq
  · intro h
    exact ⟨_, List.mem_map.mpr ⟨k, h, rfl⟩, decide_eq_true rfl⟩
/-- one more row of this part -/
theorem ent_put {ks : List PKey} {c c' : PKey → Int} {k : PKey} {n : Int} (h1 : c' k = n) (h2 : ∀ q, q ≠ k → c' q = c q) :
    putK (ent ks c) (kk k) (.int n) = ent (if k ∈ ks then ks else ks ++ [k]) c' := by
  unfold putK
  rw [ent_any]
  by_cases z : k ∈ ks
  · rw [if_pos (decide_eq_true z), if_pos z]
    unfold ent
    rw [List.map_map]
    refine List.map_congr_left fun q hq => ?_
    show (if kk q = kk k then (kk q, V.int n) else (kk q, V.int (c q))) = (kk q, V.int (c' q))
    by_cases e : q = k
    · subst e
      rw [if_pos rfl, h1]
    · rw [if_neg (fun h => e (kk_inj h)), h2 q e]
  · rw [if_neg (by simpa using z), if_neg z]
    unfold ent
    rw [List.map_append]
    congr 1
    · refine List.map_congr_left fun q hq => ?_
      have e : q ≠ k := fun e => z (by rw [← e]; exact hq)
      rw [h2 q e]
    · show _ = [(kk k, V.int (c' k))]
      rw [h1]
theorem ent_keys (ks : List PKey) (c : PKey → Int) : ((ent ks c).map fun p => tkD p.1) = ks.map pkD := by
  unfold ent
  rw [List.map_map]
  rfl
theorem Dp.prowE {K : PySem.W.Frag} {H : Hp} {v : V} {r : PRow} (h : Dp K H v (prowD r)) : ∃ b, v = .ref b ∧ SqT K H b [.str r.1, .str r.2.1, .int r.2.2] := by
  obtain ⟨b, xs, rfl, hb, ha⟩ := Dp.tupE h
  cases ha with
  | cons h1 h2 =>
    cases h2 with
    | cons h3 h4 =>
      cases h4 with
      | cons h5 h6 =>
        cases h6
        cases h1
        cases h3
        cases h5
        exact ⟨b, rfl, hb⟩
theorem Dp.pkE {K : PySem.W.Frag} {H : Hp} {v : V} {k : PKey} (h : Dp K H v (pkD k)) : ∃ b, v = .ref b ∧ SqT K H b [.str k.1, .str k.2] := by
  obtain ⟨b, xs, rfl, hb, ha⟩ := Dp.tupE h
  cases ha with
  | cons h1 h2 =>
    cases h2 with
    | cons h3 h4 =>
      cases h4
      cases h1
      cases h3
      exact ⟨b, rfl, hb⟩
theorem Dp.prow {K : PySem.W.Frag} {H : Hp} {b : Addr} {r : PRow} (h : SqT K H b [.str r.1, .str r.2.1, .int r.2.2]) : Dp K H (.ref b) (prowD r) := .tup h (.cons (.str _) (.cons (.str _) (.cons (.int _) .nil)))
theorem Dp.pk {K : PySem.W.Frag} {H : Hp} {b : Addr} {k : PKey} (h : SqT K H b [.str k.1, .str k.2]) : Dp K H (.ref b) (pkD k) := .tup h (.cons (.str _) (.cons (.str _) .nil))
theorem cnt_snoc {L : List PRow} {i : Nat} {r : PRow} (h : L[i]? = some r) (k : PKey) : cnt (L.take (i + 1)) k = cnt (L.take i) k + if PK.pk r = k then r.2.2 else 0 := by
  rw [take_snoc h, cnt_app, cnt_cons, cnt_nil]
  omega
/-! ### the promises -/
/-- added_rows: the sums, rising -/
def spAdded (K : PySem.W.Frag) : Sp := fun vs H Q _ => ∃ (v : V) (L : List PRow), vs = [v] ∧ Dp K H v (rowsD L) ∧ L.length ≤ 900 ∧
  ∀ (p : Addr) (us : List V) (H' : Hp), H p = none → Same H H' → H' p = some (.tup us) → DpAll K H' us ((sumR L).map prowD) → Q (.ref p) H'
/-- a heap's attributes -/
def hf (t : Addr) : List (Str × V) := putF "held" (.ref t) []
theorem hf_held (t : Addr) : (hf t).lookup ("held" : Str) = some (.ref t) := by
  unfold hf
  rw [lookup_putF, if_pos rfl]
theorem hf_no (t : Addr) {m : Str} (h : ¬ m = "held") : (hf t).lookup m = none := by
  unfold hf
  rw [lookup_putF, if_neg h]
  all_goals rfl
/-- a heap of these rows stands at p -/
def HeapAt (K : PySem.W.Frag) (C : Addr) (H : Hp) (p : Addr) (L : List PRow) : Prop := ∃ dx t, H p = some (.ins C dx (hf t)) ∧ Dp K H (.ref t) (rowsD L)
theorem HeapAt.same {K : PySem.W.Frag} {C : Addr} {H H' : Hp} {p : Addr} {L : List PRow} (h : HeapAt K C H p L) (s : Same H H') : HeapAt K C H' p L := by
  obtain ⟨dx, t, h1, h2⟩ := h
  exact ⟨dx, t, s _ _ h1, Dp.same s h2⟩
theorem HeapAt.ext {K : PySem.W.Frag} {C : Addr} {H H' : Hp} {p a c : Addr} {L : List PRow} (h : HeapAt K C H p L) (fe : IsFeed H a c) (x : Ext a H H') : HeapAt K C H' p L := by
  obtain ⟨dx, t, h1, h2⟩ := h
  obtain ⟨cs, i, l, n, fe'⟩ := id fe
  exact ⟨dx, t, x _ _ h1 (ne_of h1 fe'.d (by intro z; cases z)), Dp.keepT (TKeep.feed fe x) (flat_rows L) h2⟩
/-- __init__ -/
def spInit (K : PySem.W.Frag) (C : Addr) : Sp := fun vs H Q _ => ∃ (p dx : Addr) (x : V) (L : List PRow), vs = [.ref p, x] ∧ H p = some (.ins C dx []) ∧ ((x = .non ∧ L = []) ∨ Dp K H x (rowsD L)) ∧ L.length ≤ 900 ∧
  ∀ H' : Hp, (∀ b o, H b = some o → b ≠ p → H' b = some o) → HeapAt K C H' p (sumR L) → Q .non H'
/-- rows() -/
def spRows (K : PySem.W.Frag) (C : Addr) : Sp := fun vs H Q _ => ∃ (p : Addr) (L : List PRow), vs = [.ref p] ∧ HeapAt K C H p L ∧ L.length ≤ 900 ∧
  ∀ (v : V) (H' : Hp), Same H H' → Dp K H' v (rowsD L) → Q v H'
/-- what is known of the class -/
structure HCls (K : PySem.W.Frag) (mg : Str → Option Value) (C : Addr) : Prop where
  cl : Cls K C
  nh : NoAttr K C "held"
  mg : mg "Heap" = some (.ref C)
end PK
/-! A heap made: Heap(), Heap(x), Heap(rows=x). -/
namespace PK
open PySem PySem.Spec PyProof.Rows L2
/-- all that is known of the class and its __init__ -/
structure HMk (P : Program) (w : World) (K : PySem.W.Frag) (mg : Str → Option Value) (base : Heap) (k : Nat) (C f : Addr) (fd : FuncData) : Prop where
  c : HCls K mg C
  m : Mk K C f
  ok : FnOk P w K mg base CX0 k f fd ["self", "rows"] (spInit K C)
  b0 : ∃ ds, Vals [V.non] ds ∧ Binds K fd ["self", "rows"] ds
  b1 : KB K fd ["self", "rows"] 2 [] (fun vs _ => vs)
  bk : KB K fd ["self", "rows"] 1 ["rows"] (fun vs zs => vs ++ zs)
/-- of x: none, or rows -/
def mkHeap (K : PySem.W.Frag) (C : Addr) (x : V) (H : Hp) (Q : VK) : Prop := ∃ L : List PRow, ((x = .non ∧ L = []) ∨ Dp K H x (rowsD L)) ∧ L.length ≤ 900 ∧
  ∀ (p : Addr) (H' : Hp), H p = none → Same H H' → HeapAt K C H' p (sumR L) → Q (.ref p) H'
def tHeap0 (K : PySem.W.Frag) (C : Addr) : TE := fun _ H Q => mkHeap K C .non H Q
def tHeap (K : PySem.W.Frag) (C : Addr) (te : TE) : TE := fun σ H Q => te σ H fun x H1 => mkHeap K C x H1 Q
theorem mk_init {K : PySem.W.Frag} {C : Addr} {x : V} {H : Hp} {Q : VK} {E : XK} (h : mkHeap K C x H Q) (p dx : Addr) (np : H p = none) (nd : H dx = none) (ne : dx ≠ p) :
    spInit K C [.ref p, x] (upd (upd H dx (.own p)) p (.ins C dx [])) (fun v H2 => v = .non ∧ Q (.ref p) H2) E := by
  obtain ⟨L, hx, hL, q⟩ := h
  have s1 : Same H (upd (upd H dx (.own p)) p (.ins C dx [])) := fun b o e => by
    rw [upd_ne (ne_of_none e np), upd_ne (ne_of_none e nd)]
    exact e
  refine ⟨p, dx, x, L, rfl, upd_same, ?_, hL, fun H' kp hh => ⟨rfl, q p H' np (Same.made np nd kp) hh⟩⟩
  rcases hx with hx | hx
  · exact Or.inl hx
  · exact Or.inr (Dp.same s1 hx)
section
variable {X : Cx} {k : Nat} {C f : Addr} {fd : FuncData} {p pos : Pos} {e : Expr} {kw : Keyword} {te : TE}
theorem pe_heap0 (M : HMk X.prog X.w X.K X.mg X.base k C f fd) (hr : Room (k + 1) X.A) (hg : Gl X "Heap") : PE X (.Call (.Name "Heap" p) [] [] pos) (tHeap0 X.K C) := by
  refine ⟨fun pins s σ H Q I h => ?_⟩
  obtain ⟨ds, hd, hb⟩ := M.b0
  refine (pe_make0 M.m M.ok hr hg M.c.mg hb hd (E := fun _ _ _ => False) pass0).run pins s σ H Q I ?_
  exact fun x dx nx nd ne => mk_init h x dx nx nd ne
/-- the one argument -/
def one (R : V → Hp → Prop) : List V → Hp → Prop := fun vs H => match vs with
  | [x] => R x H
  | _ => False
theorem one_at {R : V → Hp → Prop} {vs : List V} {H : Hp} (h : one R vs H) : ∃ x, vs = [x] ∧ R x H := by
  match vs, h with
  | [x], h => exact ⟨x, rfl, h⟩
theorem pe_heap1 (M : HMk X.prog X.w X.K X.mg X.base k C f fd) (hr : Room (k + 1) X.A) (hg : Gl X "Heap") (ha : PE X e te)
    (he : starEach [e] X.env = (false, eval e X.env) :: starEach [] X.env := by rfl) (hpl : (backTo pos (starEach [] X.env)).any (·.1) = false := by rfl) :
    PE X (.Call (.Name "Heap" p) [e] [] pos) (tHeap X.K C te) := by
  refine ⟨fun pins s σ H Q I h => ?_⟩
  obtain ⟨g, hb⟩ := M.b1
  refine wpAny_Call_Name_kw (ld_glob I hg M.c.mg ?_ (by decide))
  refine PySem.W.callWith_K (h₀ := X.base) I.ok.mod.kin M.m.kp (thn ((pa_cons ha pa_nil he).run pos pins s σ H (one fun x H1 => mkHeap X.K C x H1 Q) I h) ?_) he hpl
  rintro us s1 ⟨vs, H1, I1, r, q⟩
  refine ⟨I1.kIn, ?_⟩
  obtain ⟨x, rfl, q⟩ := one_at q
  exact run_makeK (n := 1) (ks := []) (ws := []) (zs := []) M.m M.ok hr hb (E := fun _ _ _ => False) pass0 I1 r .nil rfl rfl fun p dx np nd ne => mk_init q p dx np nd ne
theorem pe_heapK (M : HMk X.prog X.w X.K X.mg X.base k C f fd) (hr : Room (k + 1) X.A) (hg : Gl X "Heap") {kpos : Pos} {nm : Option Str} (ha : PE X e te)
    (hall : (backToKw pos (keywordEach [⟨nm, e, kpos⟩] X.env)).all (·.1.isSome) = true := by rfl) (hks : (backToKw pos (keywordEach [⟨nm, e, kpos⟩] X.env)).filterMap (·.1) = [("rows" : Str)] := by rfl)
    (hpl : ((backTo pos (starEach [] X.env)).any (·.1) || (backToKw pos (keywordEach [⟨nm, e, kpos⟩] X.env)).any (·.1.isNone)) = false := by rfl) :
    PE X (.Call (.Name "Heap" p) [] [⟨nm, e, kpos⟩] pos) (tHeap X.K C te) := by
  refine ⟨fun pins s σ H Q I h => ?_⟩
  obtain ⟨g, hb⟩ := M.bk
  refine wpAny_Call_Name_kw (ld_glob I hg M.c.mg ?_ (by decide))
  refine PySem.W.callWith_KW0 (h₀ := X.base) I.ok.mod.kin M.m.kp hall (thn ((pk_cons ha pk_nil).run pos pins s σ H (one fun x H1 => mkHeap X.K C x H1 Q) I h) ?_) hpl
  rintro ws s1 ⟨zs, H1, I1, r, q⟩
  refine ⟨I1.kIn, ?_⟩
  obtain ⟨x, rfl, q⟩ := one_at q
  rw [hks]
  exact run_makeK (n := 0) (us := []) (vs := []) M.m M.ok hr hb (E := fun _ _ _ => False) pass0 I1 .nil r rfl rfl fun p dx np nd ne => mk_init q p dx np nd ne
theorem kheap0 (K : PySem.W.Frag) (M : HMk X.prog X.w K X.mg X.base k C f fd) (hr : Room (k + 1) X.A) (hg : Gl X "Heap") (hK : X.K = K := by rfl) : PE X (.Call (.Name "Heap" p) [] [] pos) (tHeap0 K C) := by
  subst hK
  exact pe_heap0 M hr hg
theorem kheap1 (K : PySem.W.Frag) (M : HMk X.prog X.w K X.mg X.base k C f fd) (hr : Room (k + 1) X.A) (hg : Gl X "Heap") (ha : PE X e te) (hK : X.K = K := by rfl)
    (he : starEach [e] X.env = (false, eval e X.env) :: starEach [] X.env := by rfl) (hpl : (backTo pos (starEach [] X.env)).any (·.1) = false := by rfl) :
    PE X (.Call (.Name "Heap" p) [e] [] pos) (tHeap K C te) := by
  subst hK
  exact pe_heap1 M hr hg ha he hpl
theorem kheapK (K : PySem.W.Frag) (M : HMk X.prog X.w K X.mg X.base k C f fd) (hr : Room (k + 1) X.A) (hg : Gl X "Heap") {kpos : Pos} {nm : Option Str} (ha : PE X e te) (hK : X.K = K := by rfl)
    (hall : (backToKw pos (keywordEach [⟨nm, e, kpos⟩] X.env)).all (·.1.isSome) = true := by rfl) (hks : (backToKw pos (keywordEach [⟨nm, e, kpos⟩] X.env)).filterMap (·.1) = [("rows" : Str)] := by rfl)
    (hpl : ((backTo pos (starEach [] X.env)).any (·.1) || (backToKw pos (keywordEach [⟨nm, e, kpos⟩] X.env)).any (·.1.isNone)) = false := by rfl) :
    PE X (.Call (.Name "Heap" p) [] [⟨nm, e, kpos⟩] pos) (tHeap K C te) := by
  subst hK
  exact pe_heapK M hr hg ha hall hks hpl
end
/-- a method that may be called, all its arguments given -/
structure MCal (P : Program) (w : World) (K : PySem.W.Frag) (mg : Str → Option Value) (base : Heap) (k : Nat) (C : Addr) (x : Str) (f : Addr) (fd : FuncData) (ps : List Str) (sp : Sp) : Prop where
  ok : FnOk P w K mg base CX0 k f fd ps sp
  m : Meth K C x f
  b : Binds K fd ps []
theorem HeapAt.no {K : PySem.W.Frag} {C : Addr} {H : Hp} {p : Addr} {L : List PRow} (h : HeapAt K C H p L) {m : Str} (hm : ¬ m = "held") : ∃ dx fs, H p = some (.ins C dx fs) ∧ fs.lookup m = none := by
  obtain ⟨dx, t, h1, _⟩ := h
  exact ⟨dx, _, h1, hf_no t hm⟩
end PK
/-! Drawn rows; sums by taking the least one by one; rows parted in two. -/
namespace PK
open PySem PySem.Spec PyProof.Rows L2
def spLRows (K : PySem.W.Frag) : Sp := fun vs H Q _ => ∃ (a c pf ps : Addr) (fs ss : List Str) (mo : Nat), vs = [.ref a, .ref pf, .ref ps, .int mo] ∧ IsFeed H a c ∧ Words H pf fs ∧ Words H ps ss ∧ mo ≤ 100 ∧
  ∀ (v : V) (H' : Hp) (L : List PRow), RowsOk mo 1000000000 L → (∀ r ∈ L, r.1 ∈ fs ∧ r.2.1 ∈ ss) → Ext a H H' → IsFeed H' a c → Dp K H' v (rowsD L) → Q v H'
theorem word_ok {y : Str} (h : Word y) : PyData.strOk y = true := by
  unfold PyData.strOk
  rw [Array.all_eq_true_iff_forall_mem]
  intro c hc
  have := (h.low c (by simpa using hc)).2
  exact decide_eq_true (by omega)
theorem pk_shaped {k : PKey} (h1 : Word k.1) (h2 : Word k.2) : SeqAt.shaped (pkD k) = true := by
  unfold SeqAt.shaped pkD
  simp only [PyData.canLay0, PyData.canLayAll0, word_ok h1, word_ok h2, Bool.and_self, Bool.true_and]
  rfl
theorem pk_eqv (a b : PKey) : PyData.eqv (pkD a) (pkD b) = decide (a = b) := by
  by_cases e : a = b
  · subst e
    rw [decide_eq_true rfl]
    exact eqv_refl _ (flat_pk a)
  · rw [decide_eq_false e]
    exact eqv_false (pkD_alike a b) fun z => e (pkD_inj z)
/-- the rows of one part -/
def ofPart (L : List PRow) (k : PKey) : List Int := (L.filter fun r => decide (pk r = k)).map fun r => r.2.2
theorem ofPart_sum (k : PKey) : ∀ L : List PRow, (ofPart L k).sum = cnt L k
  | [] => rfl
  | r :: L => by
    have ih := ofPart_sum k L
    unfold ofPart at ih ⊢
    rw [cnt_cons]
    by_cases e : pk r = k
    · rw [List.filter_cons_of_pos (by simpa using e), List.map_cons, List.sum_cons, ih, if_pos e]
    · rw [List.filter_cons_of_neg (by simpa using e), ih, if_neg e]
      omega
theorem ofPart_snoc {L : List PRow} {i : Nat} {r : PRow} (h : L[i]? = some r) (k : PKey) : ofPart (L.take (i + 1)) k = ofPart (L.take i) k ++ if pk r = k then [r.2.2] else [] := by
  unfold ofPart
  rw [take_snoc h, List.filter_append, List.map_append]
  congr 1
  by_cases e : pk r = k
  · rw [if_pos e, List.filter_cons_of_pos (by simpa using e)]
    rfl
  · rw [if_neg e, List.filter_cons_of_neg (by simpa using e)]
    rfl
theorem pk_alikeAll (ks : List PKey) : PySem.W.AlikeAll (ks.map pkD) := ⟨pk_allAlike ks, fun x hx => by
  obtain ⟨k, _, rfl⟩ := List.mem_map.mp hx
  intro z
  cases z⟩
/-- the least of keys -/
theorem least_key {k : PKey} {ks : List PKey} : ∃ m, m ∈ k :: ks ∧ PySem.W.minD (pkD k) (ks.map pkD) = pkD m ∧ ∀ q ∈ k :: ks, q ≠ m → dlt (pkD m) (pkD q) = true := by
  obtain ⟨h1, h2, h3⟩ := minD_at (ks.map pkD) (pkD k)
  have hm : ∃ m, m ∈ k :: ks ∧ PySem.W.minD (pkD k) (ks.map pkD) = pkD m := by
    rcases h1 with h1 | h1
    · exact ⟨k, List.mem_cons_self, h1⟩
    · obtain ⟨m, hm, e⟩ := List.mem_map.mp h1
      exact ⟨m, List.mem_cons_of_mem _ hm, e.symm⟩
  obtain ⟨m, hm, e⟩ := hm
  refine ⟨m, hm, e, fun q hq hne => ?_⟩
  rw [e] at h2 h3
  have hf : dlt (pkD q) (pkD m) = false := by
    rcases List.mem_cons.mp hq with rfl | hq
    · exact h2
    · exact h3 _ (List.mem_map.mpr ⟨q, hq, rfl⟩)
  rcases dlt_tot (pkD_alike m q) (fun z => hne (pkD_inj z).symm) with z | z
  · exact z
  · rw [z] at hf
    cases hf
/-- what has been found, what is left -/
structure Least (L M : List PRow) (ks : List PKey) : Prop where
  up : Rises (M.map fun r => pkD (pk r))
  ahead : ∀ r ∈ M, ∀ q ∈ ks, dlt (pkD (pk r)) (pkD q) = true
  all : ∀ k, k ∈ L.map pk ↔ k ∈ M.map pk ∨ k ∈ ks
  many : ∀ r ∈ M, r.2.2 = cnt L (pk r)
theorem Least.start (L : List PRow) : Least L [] (L.map pk) := ⟨List.Pairwise.nil, fun _ h => (nomatch h), fun k => ⟨Or.inr, fun h => h.resolve_left (fun z => nomatch z)⟩, fun _ h => (nomatch h)⟩
theorem Least.done {L M : List PRow} (h : Least L M []) : M = sumR L := sumR_of h.up (fun k => ⟨fun z => (h.all k).mpr (Or.inl z), fun z => ((h.all k).mp z).resolve_right (fun z => nomatch z)⟩) h.many
theorem Least.next {L M : List PRow} {ks : List PKey} {m : PKey} (h : Least L M ks) (hm : m ∈ ks) (hl : ∀ q ∈ ks, q ≠ m → dlt (pkD m) (pkD q) = true) :
    Least L (M ++ [(m.1, m.2, cnt L m)]) (ks.filter fun q => decide (q ≠ m)) := by
  refine ⟨?_, fun r hr q hq => ?_, fun k => ?_, fun r hr => ?_⟩
  · unfold Rises
    rw [List.map_append]
    refine List.pairwise_append.mpr ⟨h.up, List.pairwise_singleton _ _, fun d hd e he => ?_⟩
    obtain ⟨r, hr, rfl⟩ := List.mem_map.mp hd
    have : e = pkD m := List.mem_singleton.mp he
    rw [this]
    exact h.ahead r hr m hm
  · obtain ⟨q1, q2⟩ := List.mem_filter.mp hq
    rcases List.mem_append.mp hr with hr | hr
    · exact h.ahead r hr q q1
    · rw [List.mem_singleton.mp hr]
      exact hl q q1 (of_decide_eq_true q2)
  · rw [h.all k, List.map_append, List.mem_append, List.mem_filter]
    show _ ↔ (k ∈ M.map pk ∨ k ∈ [m]) ∨ _
    rw [List.mem_singleton, decide_eq_true_eq]
    by_cases e : k = m
    · subst e
      simp [hm]
    · simp [e]
  · rcases List.mem_append.mp hr with hr | hr
    · exact h.many r hr
    · rw [List.mem_singleton.mp hr]
      rfl
/-- the law's own sums -/
def spSummed (K : PySem.W.Frag) : Sp := fun vs H Q _ => ∃ (v : V) (L : List PRow) (n : Nat) (b : Int), vs = [v] ∧ Dp K H v (rowsD L) ∧ RowsOk n b L ∧ n ≤ 900 ∧
  ∀ (v : V) (H' : Hp), Same H H' → Dp K H' v (rowsD (sumR L)) → Q v H'
/-! ### rows parted in two -/
def parted1 (r : PRow) : List PRow := (if 1 < r.2.2 then [(r.1, r.2.1, r.2.2 / 2)] else []) ++ [(r.1, r.2.1, r.2.2 - r.2.2 / 2)]
def parted (L : List PRow) : List PRow := L.flatMap parted1
theorem parted_snoc {L : List PRow} {i : Nat} {r : PRow} (h : L[i]? = some r) : parted (L.take (i + 1)) = parted (L.take i) ++ parted1 r := by
  unfold parted
  rw [take_snoc h, List.flatMap_append]
  simp
theorem parted1_cnt {b : Int} {r : PRow} (h : PRowOk b r) (k : PKey) : cnt (parted1 r) k = if pk r = k then r.2.2 else 0 := by
  have := h.lo
  unfold parted1
  split
  · rw [List.singleton_append, cnt_cons, cnt_cons, cnt_nil]
    show (if pk r = k then r.2.2 / 2 else 0) + ((if pk r = k then r.2.2 - r.2.2 / 2 else 0) + 0) = _
    split <;> omega
  · rw [List.nil_append, cnt_cons, cnt_nil]
    show (if pk r = k then r.2.2 - r.2.2 / 2 else 0) + 0 = _
    split <;> omega
theorem parted1_ok {b : Int} {r : PRow} (h : PRowOk b r) : RowsOk 2 b (parted1 r) := by
  have := h.lo
  have := h.hi
  unfold parted1
  split
  · refine ⟨Nat.le_refl _, fun q hq => ?_⟩
    rcases List.mem_cons.mp hq with rfl | hq
    · exact ⟨h.f, h.s, by show 1 ≤ r.2.2 / 2; omega, by show r.2.2 / 2 ≤ b; omega⟩
    · rw [List.mem_singleton.mp hq]
      exact ⟨h.f, h.s, by show 1 ≤ r.2.2 - r.2.2 / 2; omega, by show r.2.2 - r.2.2 / 2 ≤ b; omega⟩
  · refine ⟨by show 1 ≤ 2; decide, fun q hq => ?_⟩
    rw [List.mem_singleton.mp hq]
    exact ⟨h.f, h.s, by show 1 ≤ r.2.2 - r.2.2 / 2; omega, by show r.2.2 - r.2.2 / 2 ≤ b; omega⟩
theorem parted_both {n : Nat} {b : Int} : ∀ {L : List PRow}, RowsOk n b L → RowsOk (2 * L.length) b (parted L) ∧ ∀ k, cnt (parted L) k = cnt L k
  | [], _ => ⟨⟨Nat.le_refl _, fun _ h => (nomatch h)⟩, fun _ => rfl⟩
  | r :: L, h => by
    obtain ⟨h1, h2⟩ := parted_both h.tail
    have okr := h.each r List.mem_cons_self
    have ok1 := parted1_ok okr
    have e : parted (r :: L) = parted1 r ++ parted L := by unfold parted; rw [List.flatMap_cons]
    rw [e]
    refine ⟨⟨?_, fun q hq => ?_⟩, fun k => ?_⟩
    · rw [List.length_append, List.length_cons]
      have := h1.len
      have := ok1.len
      omega
    · rcases List.mem_append.mp hq with hq | hq
      · exact ok1.each q hq
      · exact h1.each q hq
    · rw [cnt_app, h2 k, cnt_cons, parted1_cnt okr]
theorem sumR_parted {n : Nat} {b : Int} {L : List PRow} (h : RowsOk n b L) : sumR (parted L) = sumR L := sumR_eq (parted_both h).1 h (parted_both h).2
def spParted (K : PySem.W.Frag) : Sp := fun vs H Q _ => ∃ (v : V) (L : List PRow) (n : Nat) (b : Int), vs = [v] ∧ Dp K H v (rowsD L) ∧ RowsOk n b L ∧ n ≤ 400 ∧ b < 2 ^ 60 ∧
  ∀ (v : V) (H' : Hp), Same H H' → Dp K H' v (rowsD (parted L)) → Q v H'
end PK
/-! An own error whose __init__ says super().__init__(text), its families over ValueError. -/
namespace PK
open PySem PySem.Spec PyProof.Rows L2
/-! ### the bound built-in __init__, called -/
section
variable {prog : Program} {w : World} {A : Around} {E : Value → Shared → Prop} {h : Heap} {g : Array GenState} {d : Drawn} {t : Nat} {os : OsState}
variable {nm q : Str} {C N : Addr} {bs bm : List Value} {hdct : Bool} {sn : List Str} {sub : List Value} {ab : Bool} {col : Option Bool} {dd : Option Addr} {k0 k1 k2 k3 k5 : Option Value}
theorem call_mw {u e t0 : Addr} {rest : List Value} {Q : Value → Shared → Prop}
    (hC : h.get? C = some (excClassObj nm q C N bs bm hdct sn sub ab col dd k0 k1 k2 k3 k5 "ValueError.__new__")) (he : h.get? e = some (HandSPX.excO C t0)) (hu : h.get? u = some (PySem.W.kxs_mw "ValueError.__init__" e)) (hrest : rest.length ≤ sizeLine)
    (hq : ∀ h' t1, (∀ b o, b ≠ e → h.get? b = some o → h'.get? b = some o) → h'.get? e = some (HandSPX.excO C t1) → Q .none ⟨h', g, d, t, os⟩) :
    wpAny (model prog w) A (call (.ref u) rest) Q E ⟨h, g, d, t, os⟩ := by
  have kind : (Value.type "method-wrapper" == Value.type "method" || Value.type "method-wrapper" == Value.type "builtin_function_or_method" || Value.type "method-wrapper" == Value.type "method-wrapper") = true := by decide
  refine wpAny_call (codeAny_of_tree ?_)
  show wpAny _ A.in1 (callAny (.ref u) ⟨rest, []⟩) _ _ _
  simp only [callAny]
  refine wpAny_bind (wpAny_load hu ?_)
  simp only [PySem.W.kxs_mw, kind, if_true]
  refine W.KFB.if_so (by decide) (wpAny_bind (PySem.ESX.check_bound F.excBase_ValueError hC he rfl (wpAny_bind (wpAny_pure (wpAny_pure ⟨Code.quiet_builtin _ (by decide +kernel), codeAny_builtin F.excBase_ValueError.initEntry ?_⟩)))))
  rw [Around.under_plainId F.excBase_ValueError.init.plain]
  wp_walk
  have hp : (h.push { cls := .type "tuple", data := .seq rest.toArray }).get? e = some (HandSPX.excO C t0) := Heap.get?_push_of_some _ he
  refine hq _ h.objs.size (fun b o hb ho => ?_) ?_
  · exact (Heap.get?_update_other _ _ hb.symm).trans (Heap.get?_push_of_some _ ho)
  · rw [Heap.get?_update_self _ hp rfl]
    rfl
end
/-! ### a def that says super() -/
/-- the def of the text, within the class at D -/
structure FunS (P : Program) (K : PySem.W.Frag) (x qual : Str) (st : Stmt) (D f : Addr) (fd : FuncData) : Prop where
  ex : ∃ (oc : Value) (od : Option Addr) (osl : Array (Option Value)) (kV doc pm : Value) (an : Option Addr) (cda : Addr) (ct : Value) (cc : Addr) (ccl : Value) (cdd : Option Addr) (vs : Array Value) (ccs : Array (Option Value)) (file : Str) (tf : Tok) (cl : Value) (cld : Option Addr) (csl : Array (Option Value)),
    fd = PySem.W.fnX x qual (defArgs st) (defBody st) (defScope st) [("__class__", cc)] .none kV doc pm an (.ref cda) ct ∧ K.lookup f = some ⟨oc, od, .func fd, osl⟩ ∧ PySem.W.codeIn K (.ref cda) qual = true ∧
    K.lookup cda = some ⟨ccl, cdd, .fields vs, ccs⟩ ∧ vs[2]? = some (.str file tf) ∧ ((P.main.file : Str) == file) = true ∧ K.lookup cc = some ⟨cl, cld, .cell (some (.ref D)), csl⟩
  top : (P.main.scope.names.lookup ("super" : Str)).isSome = false
/-- the class of the error, with its line of classes over ValueError -/
structure SupC (K : PySem.W.Frag) (mg : Str → Option Value) (C : Addr) : Prop where
  ex : OexC K C
  cls : ∃ cd, PySem.W.clsIn K C = some cd
  self : PySem.W.mroIn K C (.ref C) = some true
  ve : PySem.W.mroIn K C (.type "ValueError") = some true
  up : PySem.W.ks_superIn K C C "__init__" = some (some (.builtin "ValueError.__init__"))
  third : PySem.W.nsIn K cStatics "thirdparty.any" = some none
  sup : mg "super" = none
structure SScope (N ps : List Str) (sc : Scope) : Prop where
  kind : sc.kind = .function
  co : sc.isCoroutine = false
  gen : sc.isGenerator = false
  nd : N.Nodup
  pre : N.take ps.length = ps
  par : ∀ x ∈ ps, sc.names.lookup x = some .local
  nocell : ∀ y ∈ sc.names, y.2 ≠ .cell
  fr : ∀ y ∈ sc.names, y.2 = .free → y.1 = "__class__"
  ksup : sc.names.lookup ("super" : Str) = some .globalImplicit
  kcls : sc.names.lookup ("__class__" : Str) = some .free
def cxS (P : Program) (w : World) (K : PySem.W.Frag) (mg : Str → Option Value) (base : Heap) (N : List Str) (qual : Str) (scope : Scope) (f : Addr) (cd : Value) (cc : Addr) (A : Around) (outer : List Env) (s : Shared) (H : Hp) : Cx where
  prog := P
  w := w
  K := K
  mg := mg
  base := base
  A := A.deeper (PySem.W.envX qual scope s.heap.objs.size f cd [("__class__", cc)])
  N := N
  s_0 := s
  H_0 := H
  env := PySem.W.envX qual scope s.heap.objs.size f cd [("__class__", cc)]
  outer := outer
  stack := PySem.W.envX qual scope s.heap.objs.size f cd [("__class__", cc)] :: outer
  ex := []
  calm := true
  fn := fun _ => false
  pn := []
  xe := fun _ _ => False
theorem lookup_rev_zip : ∀ {ps : List Str} {us : List Value} {i : Nat} {y : Str} {u : Value}, ps.Nodup → ps.length = us.length → ps[i]? = some y → us[i]? = some u → (ps.zip us).reverse.lookup y = some u := by
  intro ps us i y u nd hl hp hu
  have hm : (y, u) ∈ ps.zip us := by
    have e : (ps.zip us)[i]? = some (y, u) := by rw [List.getElem?_zip_eq_some]; exact ⟨hp, hu⟩
    exact List.mem_of_getElem? e
  have nd2 : ((ps.zip us).reverse.map (·.1)).Nodup := by
    rw [List.map_reverse, List.map_fst_zip (by omega)]
    exact (List.reverse_perm ps).nodup_iff.mpr nd
  have hm2 : (y, u) ∈ (ps.zip us).reverse := List.mem_reverse.mpr hm
  generalize (ps.zip us).reverse = l at nd2 hm2
  induction l with
  | nil => cases hm2
  | cons p l ih =>
    rw [List.map_cons] at nd2
    obtain ⟨n1, n2⟩ := List.nodup_cons.mp nd2
    rcases List.mem_cons.mp hm2 with e | e
    · subst e
      simp [List.lookup_cons]
    · have hne : (y == p.1) = false := by
        refine beq_eq_false_iff_ne.mpr fun z => n1 ?_
        rw [← z]
        exact List.mem_map.mpr ⟨_, e, rfl⟩
      obtain ⟨p1, p2⟩ := p
      rw [List.lookup_cons, hne]
      exact ih n2 e
/-- a slot that holds something at the start holds an argument -/
theorem slot0 {N : List Str} {vs : List V} {i : Nat} {v : V} (h : (L2.start N vs)[i]? = some (some v)) : vs[i]? = some v := by
  unfold L2.start at h
  rcases Nat.lt_or_ge i (vs.map some).length with z | z
  · rw [List.getElem?_append_left z, List.getElem?_map] at h
    obtain ⟨y, hy, e⟩ := Option.map_eq_some_iff.mp h
    cases e
    exact hy
  · rw [List.getElem?_append_right z] at h
    have := List.mem_of_getElem? h
    rw [List.mem_replicate] at this
    cases this.2
theorem one_cell {cc c : Addr} {x : Str} (h : ([("__class__", cc)] : List (Str × Addr)).lookup x = some c) : x = "__class__" ∧ c = cc := by
  rw [List.lookup_cons] at h
  split at h
  · rename_i z
    exact ⟨beq_iff_eq.mp z, (Option.some.inj h).symm⟩
  · cases h
theorem inv_startS {P : Program} {w : World} {K : PySem.W.Frag} {mg : Str → Option Value} {base : Heap} {N ps : List Str} {qual : Str} {scope : Scope} {f cc : Addr} {cd : Value} {A : Around} {outer : List Env} {s : Shared} {h₁ : Heap} {tk : Nat} {H : Hp} {us : List Value} {vs : List V}
    {oc : Obj} {vc : Option Value} (S : SScope N ps scope) (hd : A.handled = none) (e0 : Env0 P w K mg base A outer s H) (hl : vs.length = ps.length) (r : Vals vs us) (hcc : K.lookup cc = some oc) (hcd : oc.data = .cell vc)
    (hns : h₁.Ns s.heap.objs.size (fun x => (ps.zip us).reverse.lookup x)) (hk : ∀ b o, s.heap.get? b = some o → h₁.get? b = some o) :
    Inv (cxS P w K mg base N qual scope f cd cc A outer s H) [] (L2.start N vs) H { s with heap := h₁, toks := tk } := by
  have cb := e0.bs _ _ (e0.mod.kin _ _ hcc)
  have lps : ps.length ≤ N.length := by
    have e := congrArg List.length S.pre
    rw [List.length_take] at e
    omega
  have okX : (cxS P w K mg base N qual scope f cd cc A outer s H).Ok :=
    { mod := e0.mod, kind := S.kind, glob := rfl, blt := rfl, above := Nat.le_refl _
      inj := fun y z c h1 h2 => by rw [(one_cell h1).1, (one_cell h2).1]
      has := fun y hy => by
        rcases (show scope.names.lookup y = some .cell ∨ scope.names.lookup y = some .free from hy) with q | q
        · exact absurd rfl (S.nocell _ (PySem.mem_of_lookup q))
        · refine ⟨cc, ?_⟩
          show ([("__class__", cc)] : List (Str × Addr)).lookup y = some cc
          rw [show y = "__class__" from S.fr _ (PySem.mem_of_lookup q) rfl]
          simp [List.lookup_cons]
      cab := fun y c hf => nomatch (show false = true from hf)
      hd := fun _ => hd, frames := Around.frames_deeper e0.frames, stk := Or.inr ⟨rfl, rfl⟩
      exf := fun b hb => nomatch hb
      bs := e0.bs, bsz := e0.bsz
      noex := fun b o _ hb => nomatch hb
      exfs := fun b hb => nomatch hb
      funs := e0.funs, frf := e0.frf }
  exact
    { ok := okX, os := rfl, bare := e0.bare, base := Un.kept hk
      loc := ⟨_, hns, fun i y v h1 h2 _ => by
        have hv := slot0 h2
        obtain ⟨u, hu, rv⟩ := r.get hv
        have hi := (List.getElem?_eq_some_iff.mp hv).1
        have hp : ps[i]? = some y := by
          rw [← S.pre, List.getElem?_take, if_pos (by omega)]
          exact h1
        have ndp : ps.Nodup := S.pre ▸ S.nd.sublist (List.take_sublist _ _)
        exact ⟨u, rv, Or.inl ⟨S.par y (List.mem_of_getElem? hp), lookup_rev_zip ndp (hl.symm.trans r.length) hp hu⟩⟩⟩
      cell := fun y c h => by
        obtain ⟨_, rfl⟩ := one_cell h
        exact ⟨vc, oc, hk _ _ cb.1, hcd⟩
      free := e0.hok.fresh (Nat.le_refl _)
      freeC := fun y c h => by
        obtain ⟨_, rfl⟩ := one_cell h
        exact cb.2
      pin := fun p hp => nomatch hp
      hok := e0.hok.kept hk
      len := by
        unfold L2.start
        show _ = N.length
        simp
        omega }
theorem fn_super {P : Program} {w : World} {K : PySem.W.Frag} {mg : Str → Option Value} {base : Heap} {k : Nat} {f C : Addr} {fd : FuncData} {x qual : Str} {st : Stmt} {N ps : List Str} {sp : Sp}
    {e : Expr} {p0 p1 p2 p3 p4 : Pos} {rest : List Stmt} {ar : Arg}
    (F : FunS P K x qual st C f fd) (U : SupC K mg C) (S : SScope N ps (defScope st)) (hb0 : defBody st = .Expr (.Call (.Attribute (.Call (.Name "super" p0) [] [] p1) "__init__" p2) [e] [] p3) p4 :: rest)
    (har : ((defArgs st).posonlyargs ++ (defArgs st).args).head? = some ar) (hps : ps[0]? = some ar.arg)
    (hse : ∀ env : Env, starEach [e] env = (false, eval e env) :: starEach [] env)
    (hev : ∀ env : Env, ∃ pl : Sem Bool, eval (.Call (.Attribute (.Call (.Name "super" p0) [] [] p1) "__init__" p2) [e] [] p3) env = (do
      let ov ← attributeBase (.Call (.Name "super" p0) [] [] p1) "__init__" env (eval (.Call (.Name "super" p0) [] [] p1) env)
      standAt p2.atName
      let (f, first) ← holding [ov] (getMethod ov "__init__" pl)
      callWith p3 f first (backTo p3 (starEach [e] env)) []))
    (hsw : ∀ env : Env, swapsWith (.Call (.Attribute (.Call (.Name "super" p0) [] [] p1) "__init__" p2) [e] [] p3) none p4.line env = pure false)
    (len : ∀ vs H Q E, sp vs H Q E → vs.length = ps.length)
    (hbody : ∀ (cdv : Value) (cc : Addr) (A : Around) (outer : List Env) (s : Shared) (H : Hp) (vs : List V) (Q : VK) (E : XK), Room k (A.deeper (PySem.W.envX qual (defScope st) s.heap.objs.size f cdv [("__class__", cc)])) → sp vs H Q E →
      ∃ (a : Addr) (ta : TA) (t : TS), vs[0]? = some (.ref a) ∧ H a = some (exo a C none) ∧ PA (cxS P w K mg base N qual (defScope st) f cdv cc A outer s H) [e] ta ∧ PSs (cxS P w K mg base N qual (defScope st) f cdv cc A outer s H) rest t ∧
        ta (L2.start N vs) H fun ws H1 => ws.length ≤ 1000 ∧ H1 a = some (exo a C none) ∧ t { nx := fun _ H' => Q .non H', rt := Q } (L2.start N vs) H1) :
    FnOk P w K mg base CX0 (k + 1) f fd ps sp := by
  obtain ⟨oc, od, osl, kV, doc, pm, an, cda, ct, cc, ccl, cdd, fvs, ccs, file, tf, cl, cld, csl, rfl, lk, hcd, lcd, hvs, hfile, lcc⟩ := F.ex
  refine ⟨len, fun A outer s H args us vs Q E hr e0 hb r hsp => ?_⟩
  have hl := len _ _ _ _ hsp
  have kept : ∀ b o, base.get? b = some o → s.heap.get? b = some o := fun b o e => (e0.bs b o e).1
  have KX : K.In s.heap := e0.mod.kin.keeps kept
  have lim : s.heap.NoLimit := e0.mod.nolimit.keeps kept
  refine ks_codeAny_call_defAt (fd := PySem.W.fnX x qual (defArgs st) (defBody st) (defScope st) [("__class__", cc)] .none kV doc pm an (.ref cda) ct) (body := defBody st) (binds := ps.zip us) hr.depth (KX _ _ lk) rfl lim (PySem.W.codeRec_of KX hcd) rfl hb S.nocell
    (fun y hy => S.par y.1 (List.of_mem_zip (show (y.1, y.2) ∈ ps.zip us from hy)).1) (fun h₁ hns hk => ?_) S.co S.gen S.kind
  obtain ⟨a, ta, t, hv0, ha, pa, pr, hq⟩ := hbody (.ref cda) cc A outer s H vs Q E (hr.deeper _) hsp
  have I : Inv (cxS P w K mg base N qual (defScope st) f (.ref cda) cc A outer s H) [] (L2.start N vs) H { s with heap := h₁, toks := s.toks + (ps.zip us).length } := inv_startS S hr.hd e0 hl r lcc rfl hns hk
  show _root_.PySem.wpAt (model P w) (A.deeper (PySem.W.envX qual (defScope st) s.heap.objs.size f (.ref cda) [("__class__", cc)])) (.func (defBody st) (PySem.W.envX qual (defScope st) s.heap.objs.size f (.ref cda) [("__class__", cc)]))
    (execs (defBody st) (PySem.W.envX qual (defScope st) s.heap.objs.size f (.ref cda) [("__class__", cc)])) _ _ _
  rw [hb0]
  obtain ⟨pl, hev⟩ := hev (PySem.W.envX qual (defScope st) s.heap.objs.size f (.ref cda) [("__class__", cc)])
  refine ks_wpAt_execs_cons (ks_wpAt_Expr_any (ks_wpAt_MethodCall (pl := pl) ?_ hev) (by unfold interactive; simp [S.kind]) (hsw _))
  have X1 : K.In h₁ := KX.keeps hk
  have hmem : ar.arg ∈ ps := List.mem_of_getElem? hps
  refine ks_wpAt_super_base (env := PySem.W.envX qual (defScope st) s.heap.objs.size f (.ref cda) [("__class__", cc)]) (cc := cda) S.ksup S.kcls (by decide) rfl (X1 _ _ lk) rfl har rfl (X1 _ _ lcd) rfl hvs hfile F.top ?_
  obtain ⟨mb, b1, b2⟩ := I.ok.mod.blt
  refine PySem.W.ks_loadName_global S.kind S.ksup (PySem.Calls.loadGlobal_builtin (env := PySem.W.envX qual (defScope st) s.heap.objs.size f (.ref cda) [("__class__", cc)]) (I.ok.mod.glob.keeps I.bk) U.sup (b1.keeps I.bk) ((b2 _ (by decide +kernel)).trans (show bootBuiltins "super" = some (.type "super") by decide +kernel)) ⟨rfl, ?_⟩)
  refine wpAny_loadName_free S.kind S.kcls rfl ⟨_, X1 _ _ lcc, rfl⟩ ?_
  obtain ⟨u0, hu0, ru0⟩ := r.get hv0
  cases ru0
  have ndP : ps.Nodup := by rw [← S.pre]; exact S.nd.sublist (List.take_sublist _ _)
  refine wpAny_loadName_local S.kind (S.par _ hmem) hns (lookup_rev_zip ndP (hl.symm.trans r.length) hps hu0) ?_
  obtain ⟨cd, hcd'⟩ := U.cls
  obtain ⟨oD, hD1, hD2⟩ : ∃ oD, h₁.get? C = some oD ∧ oD.data = .cls cd := by
    have hD := hcd'
    unfold PySem.W.clsIn at hD
    split at hD
    · rename_i c d cd' sl ho
      cases hD
      exact ⟨_, X1 _ _ ho, rfl⟩
    · cases hD
  obtain ⟨t1, hx⟩ := exo_at I.hok ha
  have hx : h₁.get? a = some (HandSPX.excO C t1) := hx
  refine ks_wpAny_isType_cls hD1 hD2 ⟨rfl, ?_⟩
  refine ks_wpAny_call_super hD1 hD2 hx rfl (fun c z => by cases z) (PySem.W.looks_mroIn X1 U.self) (fun h2 e2 k2 => ?_)
  have X2 : K.In h2 := X1.keeps k2
  have IA : PySem.W.InstAt h2 a (HandSPX.excO C t1) C none := ⟨k2 _ _ hx, rfl, rfl, trivial⟩
  have hup := U.up
  unfold PySem.W.ks_superIn at hup
  rw [hcd', Option.bind_some] at hup
  refine PySem.W.kxs_getMethod PySem.W.kxs_ValueError e2 (PySem.W.looks_opaque X2 U.third) (l₀ := cd.mro) ?_ rfl X2 hup (IA.type.andThen (PySem.W.looks_mroIn X2 U.ve)) (PySem.W.ks_ne X2 IA hcd') (by decide) ?_
  · exact (PySem.W.looks_clsIn X2 hcd').andThen .now
  -- the call
  have k3 : ∀ b o, h2.get? b = some o → (h2.push (PySem.W.kxs_mw "ValueError.__init__" a)).get? b = some o := fun b o z => Heap.get?_push_of_some _ z
  have I2 : Inv (cxS P w K mg base N qual (defScope st) f (.ref cda) cc A outer s H) [] (L2.start N vs) H { s with heap := h2, toks := s.toks + (ps.zip us).length } := I.kept k2
  have I3 : Inv (cxS P w K mg base N qual (defScope st) f (.ref cda) cc A outer s H) [] (L2.start N vs) H { s with heap := h2.push (PySem.W.kxs_mw "ValueError.__init__" a), toks := s.toks + (ps.zip us).length + 1 } := I2.kept k3
  have I3 : Inv (cxS P w K mg base N qual (defScope st) f (.ref cda) cc A outer s H) [(h2.objs.size, PySem.W.kxs_mw "ValueError.__init__" a)] (L2.start N vs) H { s with heap := h2.push (PySem.W.kxs_mw "ValueError.__init__" a), toks := s.toks + (ps.zip us).length + 1 } :=
    I3.pins_of fun p hp => by
      rw [List.mem_singleton.mp hp]
      exact ⟨Heap.get?_push_size _ rfl, I2.hok.fresh (Nat.le_refl _), fun z => Nat.lt_irrefl _ (z ▸ I2.lt), I2.nofs (Nat.le_refl _), fun v z => by cases z⟩
  show wpAny _ _ (callWith p3 (.ref h2.objs.size) [] (backTo p3 (starEach [e] (PySem.W.envX qual (defScope st) s.heap.objs.size f (.ref cda) [("__class__", cc)]))) []) _ _ _
  have prun := pa.run p3 _ _ _ _ _ I3 hq
  rw [show (cxS P w K mg base N qual (defScope st) f (.ref cda) cc A outer s H).env = PySem.W.envX qual (defScope st) s.heap.objs.size f (.ref cda) [("__class__", cc)] from rfl] at prun
  rw [hse] at prun ⊢
  refine PySem.W.kxs_callWith (i := "ValueError.__init__") (x := a) rfl (PySem.Calls.evalArgs_plain (wpAny_mono prun (fun ws s4 hws => ?_) fun _ _ z => z.elim))
  obtain ⟨zs, H1, I4, r4, hz, ha1, ht⟩ := hws
  have pin := I4.pin (h2.objs.size, PySem.W.kxs_mw "ValueError.__init__" a) (by simp)
  refine ⟨pin.1, ?_⟩
  obtain ⟨nm, q, N', bs, bm, sn, sub, ab, col, dd, k0, k1, k2', k3', k5, hC, hbm⟩ := U.ex.cls
  obtain ⟨t4, hx4⟩ := exo_at I4.hok ha1
  obtain ⟨hp4, g4, d4, tk4, os4⟩ := s4
  refine call_mw (I4.kIn _ _ hC) hx4 pin.1 (by show ws.length ≤ sizeLine; rw [← r4.length, sizeLine_eq]; omega) fun h5 t5 k5' hx5 => ?_
  have J := I4.write (t' := tk4) (x := a) (e := a) (o := exo a C none) (by rw [ha1]; exact True.intro) (.inl rfl) k5' ⟨_, hx5⟩ (exo_ok hx5)
  have eu : upd H1 a (exo a C none) = H1 := by
    funext b
    by_cases hb : b = a
    · rw [hb, upd_same, ha1]
    · rw [upd_ne hb]
  rw [eu] at J
  have J0 := J.pins_of (pins' := []) fun p hp => (nomatch hp)
  refine wpAt_of_wpAny (wpAny_mono (pr.run [] _ _ _ _ J0 ht) (fun fl s' hs => ?_) fun _ _ z => z.elim)
  cases fl with
  | ret u =>
    obtain ⟨v, σ', H', J', rv, q'⟩ := hs
    exact ⟨v, H', J'.os, J'.bare, J'.base, J'.hok, rv, q'⟩
  | next =>
    obtain ⟨σ', H', J', q'⟩ := hs
    exact ⟨V.non, H', J'.os, J'.bare, J'.base, J'.hok, rfl, q'⟩
  | brk => exact hs.elim fun _ h => h.elim fun _ h => h.2.elim
  | cont => exact hs.elim fun _ h => h.elim fun _ h => h.2.elim
end PK
/-! Heaps together, what is above, what lacks. -/
namespace PK
open PySem PySem.Spec PyProof.Rows L2
/-- of this form, and of this shade where one is told -/
def sel (f : Str) (o : Option Str) (r : PRow) : Bool := decide (r.1 = f) && match o with
  | none => true
  | some t => decide (r.2.1 = t)
def selL (L : List PRow) (f : Str) (o : Option Str) : List Int := (L.filter (sel f o)).map fun r => r.2.2
def manyR (L : List PRow) (f : Str) (o : Option Str) : Int := (selL L f o).sum
theorem selL_snoc {L : List PRow} {i : Nat} {r : PRow} (h : L[i]? = some r) (f : Str) (o : Option Str) : selL (L.take (i + 1)) f o = selL (L.take i) f o ++ if sel f o r = true then [r.2.2] else [] := by
  unfold selL
  rw [take_snoc h, List.filter_append, List.map_append]
  congr 1
  by_cases e : sel f o r = true
  · rw [if_pos e, List.filter_cons_of_pos e]
    rfl
  · rw [if_neg e, List.filter_cons_of_neg e]
    rfl
theorem selL_len (L : List PRow) (f : Str) (o : Option Str) : (selL L f o).length ≤ L.length := by
  unfold selL
  rw [List.length_map]
  exact List.length_filter_le _ _
theorem manyR_cnt (L : List PRow) (k : PKey) : manyR L k.1 (some k.2) = cnt L k := by
  rw [← ofPart_sum k L]
  unfold manyR selL ofPart
  congr 2
  refine List.filter_congr fun r _ => ?_
  show (decide (r.1 = k.1) && decide (r.2.1 = k.2)) = decide (pk r = k)
  by_cases e1 : r.1 = k.1
  · by_cases e2 : r.2.1 = k.2
    · have : pk r = k := Prod.ext e1 e2
      simp [e1, e2, this]
    · have : ¬ pk r = k := fun z => e2 (congrArg Prod.snd z)
      simp [e2, this]
  · have : ¬ pk r = k := fun z => e1 (congrArg Prod.fst z)
    simp [e1, this]
/-- what the one has more than the other -/
def above1 (M : List PRow) (r : PRow) : Option PRow := if 0 < r.2.2 - cnt M (pk r) then some (r.1, r.2.1, r.2.2 - cnt M (pk r)) else none
def aboveR (L M : List PRow) : List PRow := L.filterMap (above1 M)
theorem aboveR_snoc {L M : List PRow} {i : Nat} {r : PRow} (h : L[i]? = some r) : aboveR (L.take (i + 1)) M = aboveR (L.take i) M ++ if 0 < r.2.2 - cnt M (pk r) then [(r.1, r.2.1, r.2.2 - cnt M (pk r))] else [] := by
  unfold aboveR
  rw [take_snoc h, List.filterMap_append]
  congr 1
  rw [List.filterMap_cons]
  unfold above1
  by_cases e : 0 < r.2.2 - cnt M (pk r)
  · rw [if_pos e, if_pos e]
    rfl
  · rw [if_neg e, if_neg e]
    rfl
theorem aboveR_len (L M : List PRow) : (aboveR L M).length ≤ L.length := List.length_filterMap_le _ _
theorem aboveR_mem {L M : List PRow} {q : PRow} (h : q ∈ aboveR L M) : ∃ r ∈ L, pk q = pk r ∧ q.2.2 = r.2.2 - cnt M (pk r) ∧ 0 < q.2.2 := by
  obtain ⟨r, hr, e⟩ := List.mem_filterMap.mp h
  unfold above1 at e
  split at e
  · rename_i z
    cases e
    exact ⟨r, hr, rfl, rfl, z⟩
  · cases e
theorem aboveR_ok {n m : Nat} {b c : Int} {L M : List PRow} (hL : RowsOk n b L) (hM : RowsOk m c M) : RowsOk n b (aboveR L M) := by
  refine ⟨Nat.le_trans (aboveR_len L M) hL.len, fun q hq => ?_⟩
  obtain ⟨r, hr, e1, e2, h0⟩ := aboveR_mem hq
  have okr := hL.each r hr
  have hn := cnt_nn hM (pk r)
  have hi := okr.hi
  have f1 : q.1 = r.1 := congrArg (fun k : PKey => k.1) e1
  have f2 : q.2.1 = r.2.1 := congrArg (fun k : PKey => k.2) e1
  exact ⟨by rw [f1]; exact okr.f, by rw [f2]; exact okr.s, by omega, by omega⟩
theorem aboveR_cnt {L M N : List PRow} (h : ∀ k, cnt M k = cnt N k) : aboveR L M = aboveR L N := by
  unfold aboveR
  refine congrArg (fun f => L.filterMap f) (funext fun r => ?_)
  unfold above1
  rw [h]
theorem rises_above {L M : List PRow} (h : Rises (L.map fun r => pkD (pk r))) : Rises ((aboveR L M).map fun r => pkD (pk r)) := by
  unfold Rises at h ⊢
  rw [List.pairwise_map] at h ⊢
  unfold aboveR
  refine List.pairwise_filterMap.mpr (h.imp fun {a b} z a' ha b' hb => ?_)
  unfold above1 at ha hb
  split at ha
  · split at hb
    · cases ha
      cases hb
      exact z
    · cases hb
  · cases ha
/-- rising rows are their own sums -/
theorem sumR_id {M : List PRow} (h : Rises (M.map fun r => pkD (pk r))) : sumR M = M := by
  symm
  refine sumR_of h (fun k => Iff.rfl) fun r hr => ?_
  have nd : (M.map pk).Nodup := by
    unfold Rises at h
    rw [List.pairwise_map] at h
    unfold List.Nodup
    rw [List.pairwise_map]
    refine h.imp fun {a b} z e => ?_
    rw [e, dlt_irr] at z
    cases z
  clear h
  induction M with
  | nil => cases hr
  | cons q M ih =>
    rw [List.map_cons] at nd
    obtain ⟨n1, n2⟩ := List.nodup_cons.mp nd
    rw [cnt_cons]
    rcases List.mem_cons.mp hr with e | e
    · subst e
      rw [if_pos rfl, cnt_none n1]
      omega
    · have hne : ¬ pk q = pk r := fun z => n1 (by rw [z]; exact List.mem_map.mpr ⟨r, e, rfl⟩)
      rw [if_neg hne, ← ih e n2]
      omega
theorem sumR_rises (L : List PRow) : Rises ((sumR L).map fun r => pkD (pk r)) := by
  have e : ((sumR L).map fun r => pkD (pk r)) = ((sumR L).map pk).map pkD := by rw [List.map_map]; rfl
  rw [e, sumR_keys]
  exact skeys_rises L
theorem sumR_plus (L M : List PRow) : sumR (sumR L ++ sumR M) = sumR (L ++ M) := by
  refine sumR_congr (fun k => ?_) fun k => ?_
  · rw [List.map_append, List.map_append, List.mem_append, List.mem_append, sumR_keys, sumR_keys, mem_skeys, mem_skeys]
  · rw [cnt_app, cnt_app, cnt_sumR, cnt_sumR]
/-! ### what the methods promise -/
def spManyM (K : PySem.W.Frag) (C : Addr) : Sp := fun vs H Q _ => ∃ (p : Addr) (f : Str) (x : V) (o : Option Str) (L : List PRow), vs = [.ref p, .str f, x] ∧ HeapAt K C H p L ∧ L.length ≤ 900 ∧
  ((x = .non ∧ o = none) ∨ ∃ t, x = .str t ∧ o = some t) ∧ ∀ H' : Hp, Same H H' → Q (.int (manyR L f o)) H'
def spAbove (K : PySem.W.Frag) (C : Addr) : Sp := fun vs H Q _ => ∃ (p q : Addr) (L M : List PRow), vs = [.ref p, .ref q] ∧ HeapAt K C H p L ∧ HeapAt K C H q M ∧ L.length ≤ 900 ∧ M.length ≤ 900 ∧
  ∀ (v : V) (H' : Hp), Same H H' → Dp K H' v (rowsD (aboveR L M)) → Q v H'
def spPlus (K : PySem.W.Frag) (C : Addr) : Sp := fun vs H Q _ => ∃ (p q : Addr) (L M : List PRow), vs = [.ref p, .ref q] ∧ HeapAt K C H p L ∧ HeapAt K C H q M ∧ L.length + M.length ≤ 900 ∧
  ∀ (r : Addr) (H' : Hp), H r = none → Same H H' → HeapAt K C H' r (sumR (L ++ M)) → Q (.ref r) H'
def spHolds (K : PySem.W.Frag) (C : Addr) : Sp := fun vs H Q _ => ∃ (p q : Addr) (L M : List PRow) (n : Nat) (b : Int), vs = [.ref p, .ref q] ∧ HeapAt K C H p L ∧ HeapAt K C H q M ∧ RowsOk n b L ∧ RowsOk n b M ∧ n ≤ 900 ∧
  ∀ H' : Hp, Same H H' → Q (.bl (decide (aboveR M L = []))) H'
/-- an error with the one field -/
def spErr1 (C : Addr) (f : Str) : Sp := fun vs H Q _ => ∃ (a : Addr) (v : V), vs = [.ref a, v] ∧ H a = some (exo a C none) ∧
  ∀ (dx : Addr), H dx = none → dx ≠ a → Q .non (upd (upd H dx (exd dx [(f, v)])) a (exo a C (some dx)))
def spLess (K : PySem.W.Frag) (C CN : Addr) : Sp := fun vs H Q E => ∃ (p q : Addr) (L M : List PRow) (n : Nat) (b : Int), vs = [.ref p, .ref q] ∧ HeapAt K C H p L ∧ HeapAt K C H q M ∧ RowsOk n b L ∧ RowsOk n b M ∧ n ≤ 900 ∧
  Rises (L.map fun r => pkD (pk r)) ∧ Rises (M.map fun r => pkD (pk r)) ∧
  (aboveR M L = [] → ∀ (r : Addr) (H' : Hp), H r = none → Same H H' → HeapAt K C H' r (aboveR L M) → Q (.ref r) H') ∧
  (aboveR M L ≠ [] → ∀ (r d : Addr) (H' : Hp), H d = none → Same H H' → HeapAt K C H' r (aboveR M L) → H' d = some (.xd [("lacking", .ref r)]) → E (.ref CN) (some d) H')
/-- rows == (), rows != () -/
theorem rows_shaped {n : Nat} {b : Int} {L : List PRow} (h : RowsOk n b L) : SeqAt.shaped (rowsD L) = true := by
  have hc : PyData.canLayAll0 (L.map prowD) = true := by
    have all := h.each
    clear h
    induction L with
    | nil => rfl
    | cons r L ih =>
      rw [List.map_cons]
      show (PyData.canLay0 (prowD r) && PyData.canLayAll0 (L.map prowD)) = true
      rw [ih fun q hq => all q (List.mem_cons_of_mem _ hq)]
      have okr := all r List.mem_cons_self
      simp [prowD, PyData.canLay0, PyData.canLayAll0, word_ok okr.f, word_ok okr.s]
  have hd : (rowsD L).depth ≤ 64 := by
    have : PyData.depthAll (L.map prowD) ≤ 63 := depthAll_le fun d hd => by
      obtain ⟨r, _, rfl⟩ := List.mem_map.mp hd
      show 1 ≤ 63
      decide
    show PyData.depthAll (L.map prowD) + 1 ≤ 64
    omega
  unfold SeqAt.shaped
  rw [show (rowsD L).canLay0 = true from by simpa [rowsD, PyData.canLay0] using hc, decide_eq_true hd]
  rfl
theorem rows_alike (L M : List PRow) : PySem.W.alike (rowsD L) (rowsD M) = true := by
  show PySem.W.alikeAll (L.map prowD) (M.map prowD) = true
  induction L generalizing M with
  | nil => simp [PySem.W.alikeAll]
  | cons r L ih =>
    cases M with
    | nil => simp [PySem.W.alikeAll]
    | cons q M =>
      rw [List.map_cons, List.map_cons, PySem.W.alikeAll, ih]
      simp [prowD, PySem.W.alike, PySem.W.alikeAll]
theorem prowD_inj {a b : PRow} (h : prowD a = prowD b) : a = b := by
  unfold prowD at h
  injection h with h
  injection h with h1 h
  injection h with h2 h
  injection h with h3 _
  injection h1 with h1
  injection h2 with h2
  injection h3 with h3
  exact Prod.ext h1 (Prod.ext h2 h3)
theorem rowsD_inj {L M : List PRow} (h : rowsD L = rowsD M) : L = M := by
  unfold rowsD at h
  injection h with h
  exact (List.map_inj_right fun a b => prowD_inj).mp h
theorem rows_eqv (L M : List PRow) : PyData.eqv (rowsD L) (rowsD M) = decide (L = M) := by
  by_cases e : L = M
  · subst e
    rw [decide_eq_true rfl]
    exact eqv_refl _ (flat_rows L)
  · rw [decide_eq_false e]
    exact eqv_false (rows_alike L M) fun z => e (rowsD_inj z)
end PK
/-! Sets of texts: made by a comprehension, sorted. -/
namespace PK
open PySem PySem.Spec PyProof.Rows L2
/-- the set at a holds just the texts l, each once -/
def SetTx (P : Program) (w : World) (h : Heap) (a : Addr) (l : List Str) : Prop := ∃ D : Froz.SD, h.get? a = some (Froz.sObj "set" D) ∧ Froz.TxOk P w D l ∧ Ris D.2.2.place.toList ∧ (w.params.followText "set-order" = true ∨ D.2.2.led = true)
def SetTO (P : Program) (w : World) (a : Addr) (l : List Str) : HO := .ext fun h => SetTx P w h a l
/-- one more -/
def ins (k : Str) (l : List Str) : List Str := if k ∈ l then l else k :: l
theorem setTO_ok {P : Program} {w : World} {H : Hp} {h : Heap} {a : Addr} {l : List Str} (R : SetTx P w h a l) : ObjOk P w H h a (SetTO P w a l) := by
  obtain ⟨D, hD, r⟩ := id R
  exact ⟨R, ⟨_, hD⟩, fun h1 h2 z st => by
    obtain ⟨D', e, q⟩ := z
    exact ⟨D', st _ e, q⟩⟩
section
variable {P : Program} {w : World} {A : Around} {E : Value → Shared → Prop} {s : Shared}
theorem tail_both {ep : Nat} {es1 : Array (Int × Value)} {t2 : SetTable} {b : Bool} (r : Ris t2.place.toList) : Ris (Froz.tailTx ep es1 t2 b).2.2.place.toList ∧ (Froz.tailTx ep es1 t2 b).2.2.led = t2.led := by
  unfold Froz.tailTx
  by_cases c : (!b && t2.tooFull) = true
  · rw [if_pos c]
    exact ⟨relayAll_ris _ _ _, relayAll_led _ _ _⟩
  · rw [if_neg c]
    exact ⟨r, rfl⟩
theorem addTx_both {h : Int} {v : Value} {D : Froz.SD} (r : Ris D.2.2.place.toList) : Ris (Froz.addTx h v D).2.2.place.toList ∧ (Froz.addTx h v D).2.2.led = D.2.2.led := by
  have r1 := layNew_ris D.2.2 D.1 h v r
  have r2 := layNew_led D.2.2 D.1 h v
  unfold Froz.addTx
  by_cases c : (layNew D.2.2 D.1 h v).2.1.plain = true
  · rw [if_pos c, ← r2]
    exact tail_both r1
  · rw [if_neg c, ← r2]
    exact tail_both r1
/-- a text that is in it already -/
theorem add_old {a : Addr} {T : String} {D : Froz.SD} {l : List Str} {k : Str} {u : Tok} {Q : Bool → Shared → Prop} (ho : s.heap.get? a = some (Froz.sObj T D)) (F : Froz.TxOk P w D l) (hk : k ∈ l) (hb : l.length < scanBound)
    (h : Q false s) : wpAny (model P w) A (setAddHashed a (.str k u) (hashStr w k)) Q E s := by
  obtain ⟨es, ep, t⟩ := D
  have key : (strKind P w).is k (.str k u) = true := Froz.is_str k u
  obtain ⟨e, he, hp⟩ := (F.mem k).mp hk
  have found : ∃ j, List.findIdx? (fun e => (strKind P w).is k e.2) es.toList = some j := by
    cases z : List.findIdx? (fun e => (strKind P w).is k e.2) es.toList with
    | some j => exact ⟨j, rfl⟩
    | none =>
      have := List.findIdx?_eq_none_iff.mp z e he
      rw [hp] at this
      cases this
  obtain ⟨j, hj⟩ := found
  have small : es.size < scanBound := Nat.lt_of_le_of_lt (Nat.le_of_eq F.sz) hb
  have fit : t.fits es.size = true := F.fit
  have el : ElemsOf (strKind P w) es.toList := F.el
  unfold setAddHashed setAddHashedIn
  refine wpAny_holding (wpAny_bind (wpAny_setState_of (es := es) (ep := ep) (t := t) ho rfl fit ?_))
  dsimp only
  rw [byScan_of rfl small el]
  simp only [↓reduceIte]
  unfold setAddByScan
  refine wpAny_bind (wpAny_bind (wpAny_rule (wpAny_bind (wpAny_setScan_of (es := es) (ep := ep) (t := t) (knd := strKind P w) (k := k) key ho rfl fit el ?_))))
  rw [hj]
  exact wpAny_pure (wpAny_pure h)
/-- found.add(k) -/
theorem setTx_add {a : Addr} {l : List Str} {k : Str} {u : Tok} {Q : Value → Shared → Prop} (R : SetTx P w s.heap a l) (hb : l.length + 1 < scanBound)
    (h : ∀ h', Heap.SameBut a s.heap h' → SetTx P w h' a (ins k l) → Q .none { s with heap := h', toks := s.toks + 1 }) :
    wpAny (model P w) A (call (.builtin "set.add") [.ref a, .str k u]) Q E s := by
  obtain ⟨D, hD, F', r, led⟩ := R
  have ty : s.TypeIs (.ref a) "set" := ⟨_, hD, rfl⟩
  refine wpAny_call_entry F.slot_set_add ty F.entry_set_add ?_ (F.args_set_add_2 _ _)
  unfold Builtin.«set.add» Builtin.Frozenset.oneOther
  simp only [List.isEmpty_nil, bind_assoc]
  unfold Builtin.Frozenset.addrOf setAdd
  refine wpAny_bind (wpAny_pure (wpAny_bind (wpAny_pure (wpAny_bind (wpAny_holding (wpAny_bind ((strKind P w).pyHash (Froz.is_str k u) ?_)))))))
  by_cases hk : k ∈ l
  · refine add_old (s := { s with toks := s.toks + 1 }) hD F' hk (by omega) (wpAny_pure ⟨_, rfl, h s.heap (Heap.SameBut.refl a _) ?_⟩)
    unfold ins
    rw [if_pos hk]
    exact ⟨D, hD, F', r, led⟩
  · refine Froz.add_x (s := { s with toks := s.toks + 1 }) hD F' hk hb (wpAny_pure ⟨_, rfl, h _ (Heap.SameBut.update ..) ?_⟩)
    unfold ins
    rw [if_neg hk]
    exact ⟨_, Heap.get?_update_self _ hD rfl, Froz.add_ok u F', (addTx_both r).1, led.imp id fun z => by rw [(addTx_both r).2]; exact z⟩
theorem setTx_new {h : Heap} : SetTx P w (h.push { cls := .type "set", dict := none, data := .set #[] 0 (.fresh 0 0 (!w.params.followText "set-order")) }) h.objs.size [] := by
  refine ⟨(#[], 0, .fresh 0 0 (!w.params.followText "set-order")), Heap.get?_push_size _ rfl, Froz.TxOk.nil (by cases w.params.followText "set-order" <;> rfl), ?_, ?_⟩
  · exact ris_range 0
  · cases w.params.followText "set-order"
    · exact Or.inr rfl
    · exact Or.inl rfl
end
/-! ### members -/
theorem ins_nodup {k : Str} {l : List Str} (h : l.Nodup) : (ins k l).Nodup := by
  unfold ins
  split
  · exact h
  · rename_i z
    exact List.nodup_cons.mpr ⟨z, h⟩
theorem mem_ins {k y : Str} {l : List Str} : y ∈ ins k l ↔ y = k ∨ y ∈ l := by
  unfold ins
  split
  · rename_i z
    constructor
    · exact Or.inr
    · rintro (rfl | h)
      · exact z
      · exact h
  · exact List.mem_cons
theorem ins_len {k : Str} {l : List Str} : (ins k l).length ≤ l.length + 1 := by
  unfold ins
  split
  · exact Nat.le_succ _
  · exact Nat.le_refl _
theorem perm_of_sub : ∀ {l m : List Str}, l.Nodup → (∀ y ∈ l, y ∈ m) → m.length = l.length → l.Perm m
  | [], m, _, _, hl => by
    have : m = [] := List.eq_nil_of_length_eq_zero hl
    rw [this]
  | k :: t, m, nd, sub, hl => by
    obtain ⟨n1, n2⟩ := List.nodup_cons.mp nd
    have hk := sub k List.mem_cons_self
    have p := List.perm_cons_erase hk
    refine (List.Perm.cons k (perm_of_sub n2 (fun y hy => ?_) ?_)).trans p.symm
    · exact (List.mem_erase_of_ne (fun e => n1 (by rw [← e]; exact hy))).mpr (sub y (List.mem_cons_of_mem _ hy))
    · have := p.length_eq
      rw [List.length_cons] at this hl
      omega
/-- the texts of the entries -/
theorem texts_of {P : Program} {w : World} : ∀ {es : List (Int × Value)}, ElemsOf (strKind P w) es → ∃ ks : List Str, ks.length = es.length ∧ Vals (ks.map V.str) (es.map (·.2)) ∧ ∀ k, k ∈ ks ↔ ∃ e ∈ es, (strKind P w).is k e.2 = true
  | [], _ => ⟨[], rfl, .nil, fun k => ⟨fun h => (nomatch h), fun ⟨e, h, _⟩ => (nomatch h)⟩⟩
  | e :: es, h => by
    obtain ⟨ks, h1, h2, h3⟩ := texts_of h.tail
    obtain ⟨⟨k, hk, _⟩, _⟩ := h.head
    obtain ⟨t, et⟩ := Value.isStrOf_shape (x := k) (v := e.2) hk
    refine ⟨k :: ks, by rw [List.length_cons, List.length_cons, h1], ?_, fun y => ?_⟩
    · exact .cons ⟨t, et⟩ h2
    · rw [List.mem_cons, h3 y]
      constructor
      · rintro (rfl | ⟨e', he, q⟩)
        · exact ⟨e, List.mem_cons_self, hk⟩
        · exact ⟨e', List.mem_cons_of_mem _ he, q⟩
      · rintro ⟨e', he, q⟩
        rcases List.mem_cons.mp he with rfl | he
        · exact Or.inl ((strKind P w).inj _ _ _ q hk)
        · exact Or.inr ⟨e', he, q⟩
/-- texts in order -/
def sortS (l : List Str) : List Str := srt false PyData.str l
theorem str_alike (a b : Str) : PySem.W.alike (PyData.str a) (PyData.str b) = true := by simp [PySem.W.alike]
theorem str_rises {l : List Str} (h : l.Nodup) : Rises ((sortS l).map PyData.str) := by
  refine srt_rises (PySem.W.AllAlike.of str_alike) ?_
  unfold List.Nodup at h ⊢
  exact List.pairwise_map.mpr (h.imp fun {a b} q e => q (by injection e))
theorem sortS_of {l ys : List Str} (hl : l.Nodup) (h : Rises (ys.map PyData.str)) (hm : ∀ y, y ∈ ys ↔ y ∈ l) : ys = sortS l := by
  have e := rises_ext h (str_rises hl) fun d => by
    rw [List.mem_map, List.mem_map]
    constructor
    · rintro ⟨y, hy, rfl⟩
      exact ⟨y, (srt_perm false _ l).mem_iff.mpr ((hm y).mp hy), rfl⟩
    · rintro ⟨y, hy, rfl⟩
      exact ⟨y, (hm y).mpr ((srt_perm false _ l).mem_iff.mp hy), rfl⟩
  exact (List.map_inj_right fun a b q => by injection q).mp e
/-! ### sorted -/
section
variable {X : Cx}
def rSrtSet (P : Program) (w : World) : List V → Hp → VK → Prop := fun vs H Q => ∃ (a : Addr) (l : List Str), vs = [.ref a] ∧ H a = some (SetTO P w a l) ∧ l.Nodup ∧ l.length < scanBound ∧ l.length ≤ 1000 ∧
  ∀ p, H p = none → Q (.ref p) (upd H p (.lst ((sortS l).map V.str)))
theorem call_srtSet {k : Nat} (hc : X.calm = true) (hr : Room k X.A) : CallR X (.builtin "sorted") (rSrtSet X.prog X.w) := by
  intro pins s σ H vs us Q I r h
  obtain ⟨a, l, rfl, ha, nd, hb, hz, q⟩ := h
  rw [Vals.ref1 r]
  obtain ⟨D, hD, F', hris, hled⟩ := (I.hok a _ ha).1
  have hu := hr.un
  refine Calls.call_function_entry PyProof.Rows.kind_sorted PyProof.Rows.plain_sorted PyProof.Rows.entry_sorted (PyProof.Rows.args_sorted1 _) ?_
  unfold Builtin.«sorted»
  refine wpAny_bind (m := checkCount "sorted" 1 1 _) (wpAny_pure ?_)
  have fit : D.2.2.fits D.1.size = true := F'.fit
  refine wpAny_bind (collect_set (A := X.A.in1) (I.ok.hd hc) ⟨_, hD, rfl, rfl⟩ fit (Nat.lt_of_le_of_lt (Nat.le_of_eq F'.sz) hb) hris hled fun s1 out kp big hg ho perm => ?_)
  have I1 : Inv X pins σ H s1 := I.call' (ch := []) ho (Un.kept kp) (I.hok.kept kp) (by rw [hg]; exact I.bare) (fun _ z => (nomatch z))
  obtain ⟨ks0, hk1, hk2, hk3⟩ := texts_of F'.el
  -- in the order in which they came
  obtain ⟨ks, kperm, kvals⟩ : ∃ ks : List Str, ks.Perm ks0 ∧ Vals (ks.map V.str) out := by
    have gen : ∀ {us vs : List Value}, us.Perm vs → ∀ {ys : List Str}, Vals (ys.map V.str) vs → ∃ zs : List Str, zs.Perm ys ∧ Vals (zs.map V.str) us := by
      intro us vs p
      induction p with
      | nil => intro ys h; exact ⟨ys, List.Perm.refl _, h⟩
      | @cons x l1 l2 _ ih =>
        intro ys h
        cases ys with
        | nil => cases h
        | cons y ys =>
          cases h with
          | cons h1 h2 =>
            obtain ⟨zs, p1, p2⟩ := ih h2
            exact ⟨y :: zs, p1.cons y, .cons h1 p2⟩
      | @swap x y l1 =>
        intro ys h
        match ys, h with
        | y1 :: y2 :: ys, .cons h1 (.cons h2 h3) => exact ⟨y2 :: y1 :: ys, List.Perm.swap _ _ _, .cons h2 (.cons h1 h3)⟩
      | trans _ _ i1 i2 =>
        intro ys h
        obtain ⟨zs, p1, p2⟩ := i2 h
        obtain ⟨ws, p3, p4⟩ := i1 p2
        exact ⟨ws, p3.trans p1, p4⟩
    exact gen perm hk2
  have lperm : l.Perm ks := (perm_of_sub nd (fun y hy => (hk3 y).mpr ((F'.mem y).mp hy)) (by rw [hk1, Array.length_toList]; exact F'.sz)).trans kperm.symm
  have lks : ks.length = l.length := lperm.length_eq.symm
  have lout : out.length = ks.length := by rw [← kvals.length, List.length_map]
  let B : List (V × PyData) := ks.map fun y => (V.str y, PyData.str y)
  have b1 : B.map (·.1) = ks.map V.str := by rw [List.map_map]; rfl
  have b2 : B.map (fun b : V × PyData => b.2) = ks.map PyData.str := by rw [List.map_map]; rfl
  have e : PySem.W.EachIs (fun v (b : V × PyData) => RelV b.1 v) out B := each_vals (by rw [b1]; exact kvals)
  have hdp : ∀ b ∈ B, Dp X.K H b.1 b.2 := fun b hb => by
    obtain ⟨y, _, rfl⟩ := List.mem_map.mp hb
    exact .str y
  obtain ⟨h1, g1, d1, t1, os1⟩ := s1
  have er := each_reads I1 e hdp
  have al : PySem.W.AllAlike (B.map fun b : V × PyData => b.2) := by rw [b2]; exact PySem.W.AllAlike.of str_alike
  have so : PySem.W.Sortable (B.map fun b : V × PyData => b.2) := by
    rw [b2]
    exact PySem.W.Sortable.others fun y => ⟨fun z => (nomatch z), fun xs z => (nomatch z)⟩
  refine wpAny_bind (wpAny_newList ?_ (by rw [lout, lks, sizeLine_eq]; omega))
  have hoL : (h1.push (seqObj "list" out.toArray 0)).get? h1.objs.size = some (seqObj "list" out.toArray 0) := Heap.get?_push_size _ rfl
  show wpAny _ _ _ _ _ ⟨h1.push (seqObj "list" out.toArray 0), g1, d1, t1, os1⟩
  have er' : PySem.W.EachIs (fun v (b : V × PyData) => ∃ as, Reads (PySem.W.sortingHeap (h1.push (seqObj "list" out.toArray 0)) h1.objs.size out) v b.2 as) out B :=
    er.mono fun v b ⟨as, rd⟩ => ⟨as, PyProof.Rows.Reads.keeps (fun b o eo => PySem.W.sortingHeap_old (Nat.ne_of_lt (Heap.lt_size eo)) (Heap.get?_push_of_some _ eo)) rd⟩
  refine wpAny_bind (wpAny_holding (wpAny_call_entry PyProof.Rows.slot_list_sort ⟨_, hoL, rfl⟩ PyProof.Rows.entry_list_sort
    (PySem.W.list_sort_vals (κ := PySem.W.dataKind (PySem.W.sortingHeap (h1.push (seqObj "list" out.toArray 0)) h1.objs.size out) (B.map fun b : V × PyData => b.2)) (s := ⟨h1.push (seqObj "list" out.toArray 0), g1, d1, t1, os1⟩) hoL
      (PySem.W.SortsAt.data (s := ⟨PySem.W.sortingHeap (h1.push (seqObj "list" out.toArray 0)) h1.objs.size out, g1, d1, t1, os1⟩)
        (PySem.W.each_map (R := fun v d => ∃ as, Reads (PySem.W.sortingHeap (h1.push (seqObj "list" out.toArray 0)) h1.objs.size out) v d as) (fun b : V × PyData => b.2) er') al so
        (PySem.W.bound_map fun b hb => by
          obtain ⟨y, _, rfl⟩ := List.mem_map.mp hb
          show X.A.units + 2 + 0 < _
          omega)) (by rw [lout, lks, sizeLine_eq]; omega) ⟨_, rfl, ?_⟩)
    (PyProof.Rows.args_list_sort _)))
  have eo := PySem.W.sortVals_data (enc := fun b : V × PyData => b.2) false e er' al
  generalize PySem.W.sortVals (PySem.W.dataKind (PySem.W.sortingHeap (h1.push (seqObj "list" out.toArray 0)) h1.objs.size out) (B.map fun b : V × PyData => b.2)) false out out = res at eo
  obtain ⟨e', he'⟩ := PyProof.Rows.sortedHeap_at (vs := out) (out := res.toArray) hoL
  have vres := vals_each eo
  -- what has come out
  have hys : (B.mergeSort (PySem.W.dataLe false fun b : V × PyData => b.2)).map (·.1) = (sortS l).map V.str := by
    have bp : (srt false (fun b : V × PyData => b.2) B).Perm B := srt_perm _ _ _
    have hd2 : (srt false (fun b : V × PyData => b.2) B).map (·.2) = (sortS l).map PyData.str := by
      have nk : ks.Nodup := lperm.nodup_iff.mp nd
      have r1 : Rises ((srt false (fun b : V × PyData => b.2) B).map (·.2)) := srt_rises al (by
        rw [b2]
        unfold List.Nodup at nk ⊢
        exact List.pairwise_map.mpr (nk.imp fun {a b} q e => q (by injection e)))
      refine rises_ext r1 (str_rises nd) fun d => ?_
      rw [(bp.map _).mem_iff, b2, List.mem_map, List.mem_map]
      constructor
      · rintro ⟨y, hy, rfl⟩
        exact ⟨y, (srt_perm false _ l).mem_iff.mpr (lperm.mem_iff.mpr hy), rfl⟩
      · rintro ⟨y, hy, rfl⟩
        exact ⟨y, lperm.mem_iff.mp ((srt_perm false _ l).mem_iff.mp hy), rfl⟩
    have shape : ∀ b ∈ srt false (fun b : V × PyData => b.2) B, ∃ y, b = (V.str y, PyData.str y) := fun b hb => by
      obtain ⟨y, _, rfl⟩ := List.mem_map.mp (bp.mem_iff.mp hb)
      exact ⟨y, rfl⟩
    show (srt false (fun b : V × PyData => b.2) B).map (·.1) = _
    generalize srt false (fun b : V × PyData => b.2) B = Z at hd2 shape
    generalize sortS l = ys at hd2
    clear vres eo he' er' so al er hdp e b2 b1 bp
    induction Z generalizing ys with
    | nil =>
      cases ys with
      | nil => rfl
      | cons => cases hd2
    | cons z Z ih =>
      cases ys with
      | nil => cases hd2
      | cons y ys =>
        rw [List.map_cons, List.map_cons] at hd2
        injection hd2 with d1' d2'
        obtain ⟨y', rfl⟩ := shape z List.mem_cons_self
        injection d1' with d1'
        subst d1'
        rw [List.map_cons, List.map_cons, ih (fun b hb => shape b (List.mem_cons_of_mem _ hb)) ys d2']
  rw [hys] at vres
  refine wpAny_pure ⟨_, rfl, .ref h1.objs.size, upd H h1.objs.size (.lst ((sortS l).map V.str)), I1.laid (t' := t1) (fun b u e => ?_) (Nat.le_refl _)
    (show ObjOk X.prog X.w _ _ _ (.lst ((sortS l).map V.str)) from ⟨?_, res, e', vres, he'⟩), rfl, q _ (I1.hok.fresh (Nat.le_refl _))⟩
  · have hb : b < h1.objs.size := Heap.lt_size e
    rw [PyProof.Rows.sortedHeap_old (Nat.ne_of_lt hb) (by rw [size_push']; exact Nat.lt_succ_of_lt hb)]
    exact Heap.get?_push_of_some _ e
  · rw [List.length_map]
    unfold sortS
    rw [(srt_perm false _ l).length_eq, sizeLine_eq]
    omega
end
end PK
/-! {text for target in iter}. -/
namespace PK
open PySem PySem.Spec PyProof.Rows L2
section
variable {X : Cx} {pins : List (Addr × Obj)} {σ : L2.St} {H : Hp} {s : Shared}
theorem addT_ok {E : Value → Shared → Prop} {D : Addr} {l : List Str} {k : Str} {v : Value} {Q : Value → Shared → Prop} (I : Inv X pins σ H s) (hD : H D = some (SetTO X.prog X.w D l)) (hb : l.length + 1 < scanBound) (r : RelV (.str k) v)
    (h : ∀ s', Inv X pins σ (upd H D (SetTO X.prog X.w D (ins k l))) s' → Q .none s') : wpAny (model X.prog X.w) X.A (call (.builtin "set.add") [.ref D, v]) Q E s := by
  obtain ⟨u, rfl⟩ := r
  refine setTx_add (I.hok D _ hD).1 hb fun h' sb new => ?_
  obtain ⟨D', e, _⟩ := id new
  exact h _ (I.write (e := D) (t' := s.toks + 1) (by rw [hD]; trivial) (.inl rfl) (fun b o hb ho => (sb.2 b hb).trans ho) ⟨_, e⟩ (setTO_ok new))
/-- what the turns are to keep: W, by the turn and a number that falls -/
def tScT (P : Program) (w : World) (wi : TI) (g : TG) (te : TE) (vs : List Nat) : TE := fun σ H Q => wi σ H fun J H1 => ∀ D, H1 D = none → ∃ W : Nat → Nat → Hp → Prop, (∃ m, W 0 m (upd H1 D (SetTO P w D []))) ∧
  ∀ i m H', W i m H' → (J.stop i H' ∧ Q (.ref D) H') ∨ (J.go i H' ∧ ∃ Nx : Hp → Prop, (∀ H'', Nx H'' → ∃ m', m' < m ∧ W (i + 1) m' H'') ∧ ∀ x H2, J.yld i H' x H2 → g x (wipe σ vs) H2 fun σ2 H3 => wipe σ2 vs = wipe σ vs ∧
    te σ2 H3 fun y H4 => ∃ k l, y = .str k ∧ H4 D = some (SetTO P w D l) ∧ l.length + 1 < scanBound ∧ Nx (upd H4 D (SetTO P w D (ins k l))))
theorem pe_scT {elt tg iter : Expr} {scope : Scope} {own : List (Str × Nat)} {pos : Pos} {wi : TI} {g : TG} {te : TE} (calm : X.calm = true) (nd : X.N.Nodup) (pi : PI X tg iter wi) (blk : BlkOk X.N X.env.scope scope own)
    (pgs : ∀ (s : Shared) (H : Hp) (C : Addr) (cl : List (Str × Addr)) (fp : List Addr), PG (X.blk s H scope (compEnvC scope cl C X.env) fp) tg g)
    (pes : ∀ (s : Shared) (H : Hp) (C : Addr) (cl : List (Str × Addr)) (fp : List Addr), PE (X.blk s H scope (compEnvC scope cl C X.env) fp) elt te) (fold : ∀ x, foldedSetIterable iter X.env x = pure x := by intro _; rfl) :
    PE X (.SetComp elt [⟨tg, iter, [], 0⟩] scope pos) (tScT X.prog X.w wi g te (own.map (·.2))) := by
  refine ⟨fun pins s σ H Q I h => ?_⟩
  rw [PpSet.eval_SetComp]
  have clo : ∀ y ∈ scope.names, y.2 = .free → ∃ c, X.env.cells.lookup y.1 = some c := fun y hy e => (blk.free y hy e).elim (fun k => I.ok.has _ (Or.inl k)) fun k => I.ok.has _ (Or.inr k)
  refine wpAny_comprehension_free (use := none) rfl fold (closure_ok clo) blk.kind (fun y hy e => (blk.uniq y hy).trans (by rw [e])) (thn (pi.run pins s σ H _ I h) fun _ _ hx => thn hx fun _ sB hB => ?_)
  obtain ⟨it, fp, tn, J, HB, rfl, IB, T, stB, fB, q⟩ := hB
  refine PpSet.newSet_ok (newEnv_comp ?_)
  have freshD : HB sB.heap.objs.size = none := IB.hok.fresh (Nat.le_refl _)
  obtain ⟨W, ⟨m0, w0⟩, turn⟩ := q sB.heap.objs.size freshD
  -- the new set stands
  have IC : Inv X pins σ (upd HB sB.heap.objs.size (SetTO X.prog X.w sB.heap.objs.size [])) { sB with heap := sB.heap.push { cls := .type "set", dict := none, data := .set #[] 0 (.fresh 0 0 (!X.w.params.followText "set-order")) } } :=
    IB.laid (t' := sB.toks) (fun _ _ e => Heap.get?_push_of_some _ e) (Nat.le_refl _) (setTO_ok setTx_new)
  have old : ∀ b ∈ fp, b < sB.heap.objs.size := fun b hb => let ⟨_, e, _⟩ := T.obj _ _ stB b hb; Heap.lt_size e
  have fC : ∀ b ∈ fp, FpOk X pins (upd HB sB.heap.objs.size (SetTO X.prog X.w sB.heap.objs.size [])) b ∧ b < (sB.heap.push { cls := .type "set", dict := none, data := .set #[] 0 (.fresh 0 0 (!X.w.params.followText "set-order")) }).objs.size := fun b hb =>
    ⟨⟨by rw [upd_ne (Nat.ne_of_lt (old b hb))]; exact (fB b hb).1, (fB b hb).2⟩, by rw [Heap.size_push]; exact Nat.lt_succ_of_lt (old b hb)⟩
  have stC : tn 0 (sB.heap.push { cls := .type "set", dict := none, data := .set #[] 0 (.fresh 0 0 (!X.w.params.followText "set-order")) }) := T.keep _ _ _ stB fun b _ o e => Heap.get?_push_of_some _ e
  generalize hsC : ({ sB with heap := sB.heap.push { cls := .type "set", dict := none, data := .set #[] 0 (.fresh 0 0 (!X.w.params.followText "set-order")) } } : Shared) = sC at IC ⊢
  have eC : sC.heap = sB.heap.push { cls := .type "set", dict := none, data := .set #[] 0 (.fresh 0 0 (!X.w.params.followText "set-order")) } := by rw [← hsC]
  rw [← eC] at fC stC
  generalize sB.heap.objs.size = D at *
  generalize upd HB D (SetTO X.prog X.w D []) = HC at IC fC w0
  have IE := block_start IC blk nd fC
  have pg := pgs sC HC sC.heap.objs.size (cellsFrom (sC.heap.objs.size + 1) scope.names (cloFrom X.env.cells scope.names [])) fp
  have pe := pes sC HC sC.heap.objs.size (cellsFrom (sC.heap.objs.size + 1) scope.names (cloFrom X.env.cells scope.names [])) fp
  show codeAny _ _ (.compStart (.SetComp elt [⟨tg, iter, [], 0⟩] scope pos) 0 (.ref it) (.ref D) (compEnvC scope (cellsFrom (sC.heap.objs.size + 1) scope.names (cloFrom X.env.cells scope.names [])) sC.heap.objs.size X.env)) (compPost (model X.prog X.w) X.A X.xe none (EP X pins σ Q) (.ref D) sC.heap.objs.size) { sC with heap := pushCells (sC.heap.push { cls := .type "dict", data := .dict #[] }) scope.names }
  generalize hce : compEnvC scope (cellsFrom (sC.heap.objs.size + 1) scope.names (cloFrom X.env.cells scope.names [])) sC.heap.objs.size X.env = ce at IE pg pe ⊢
  have loc : ce.locals = sC.heap.objs.size := by subst hce; rfl
  generalize hsE : ({ sC with heap := pushCells (sC.heap.push { cls := .type "dict", data := .dict #[] }) scope.names } : Shared) = sE at IE ⊢
  have stE : tn 0 sE.heap := T.keep _ _ _ stC fun b _ o e => by rw [← hsE]; exact pushCells_keeps _ _ _ _ (Heap.get?_push_of_some _ e)
  have inBlk : ∀ {σ' : L2.St} {H' : Hp} {s' : Shared}, Inv (X.blk sC HC scope ce fp) [] σ' H' s' → (∀ b ∈ fp, H' b = none) → ∀ b ∈ fp, FpOk (X.blk sC HC scope ce fp) [] H' b := fun {_ _ _} J' hn b hb =>
    ⟨hn b hb, (J'.ok.exf b hb).1, J'.ok.exfs b hb, Or.inl hb, fun x c e => (J'.ok.exf b hb).2 x c e, fun p hp => (nomatch (show p ∈ ([] : List (Addr × Obj)) from hp))⟩
  have loop : codeAny (model X.prog X.w) X.A (.compLoop (.SetComp elt [⟨tg, iter, [], 0⟩] scope pos) 0 (.ref it) (.ref D) ce) (compPost (model X.prog X.w) X.A X.xe none (EP X pins σ Q) (.ref D) sC.heap.objs.size) sE := by
    refine PpSet.compLoopS_any (fun n s' => ∃ i H', Inv (X.blk sC HC scope ce fp) [] (wipe σ (own.map (·.2))) H' s' ∧ tn i s'.heap ∧ (∀ b ∈ fp, H' b = none) ∧ W i n H') ?_ m0 ⟨0, HC, IE, stE, fun b hb => (fC b hb).1.1, w0⟩
    rintro n s1 ⟨i, H1, I1, st1, n1, w1⟩
    rcases turn i n H1 w1 with ⟨stop, qq⟩ | ⟨go, Nx, falls, step⟩
    · refine thnF (T.done (X.blk sC HC scope ce fp) rfl rfl rfl calm i [] s1 _ H1 (fun _ _ => False) I1 (inBlk I1 n1) st1 stop) fun _ s2 ⟨hr, I2⟩ => ?_
      subst hr
      have back : Inv X pins σ H1 s2 := IC.call' (ch := fp) I2.os I2.base I2.hok I2.bare fun b hb => by
        obtain ⟨_, f1, _, f3, f4, f5⟩ := (fC b hb).1
        exact ⟨f3, f1, f4, f5⟩
      have noC : H1 sC.heap.objs.size = none := loc ▸ (show H1 ce.locals = none from I2.free)
      obtain ⟨m, ns, _⟩ := I2.loc
      have ns : s2.heap.Ns sC.heap.objs.size m := loc ▸ (show s2.heap.Ns ce.locals m from ns)
      refine ⟨m, ns, fun h3 sb => ?_⟩
      obtain ⟨f0, f1, _, f3, f4, f5⟩ := IC.fpOk (H' := H1) (Nat.le_refl _) noC
      exact ⟨.ref D, H1, back.turned (t' := s2.toks) (fun b o hb e => (sb.2 b hb).trans e) f0 f1 f3 f4 f5, rfl, qq⟩
    · refine thnF (T.item (X.blk sC HC scope ce fp) rfl rfl rfl calm i [] s1 _ H1 (fun _ _ => False) I1 (inBlk I1 n1) st1 go) fun _ s2 ⟨u, hr, h2⟩ => ?_
      subst hr
      refine thnF h2 fun _ s3 ⟨x, H3, I3, r3, y3, st3, n3⟩ => ?_
      have P3 := I3.pinned (inBlk I3 n3) (T.obj _ _ st3)
      refine thnF (pg.run _ s3 _ H3 x u _ P3 r3 (step x H3 y3)) fun _ s4 ⟨σ4, H4, I4, wp4, q4⟩ => ?_
      refine wpAny_pure ?_
      simp only [if_true]
      refine thnF (pe.run _ s4 σ4 H4 _ I4 q4) fun z s5 ⟨yv, H5, I5, r5, k, l, ey, hD5, hb5, nx⟩ => ?_
      subst ey
      refine addT_ok (X := X.blk sC HC scope ce fp) I5 hD5 hb5 r5 fun s6 I6 => ?_
      obtain ⟨m', lt, w'⟩ := falls _ nx
      have pin : ∀ b ∈ fp, ∀ o, s3.heap.get? b = some o → s6.heap.get? b = some o ∧ (upd H5 D (SetTO X.prog X.w D (ins k l))) b = none := fun b hb o e =>
        let ⟨z1, z2, _⟩ := I6.pin (b, o) (List.mem_append_right _ (List.mem_append_right _ (mem_pinsAt hb e)))
        ⟨z1, z2⟩
      refine ⟨m', lt, i + 1, _, (I6.unpinned (pins := [])).weak (by rw [← wp4, wipe_length]) (fun j v e => ?_), T.keep _ _ _ st3 fun b hb o e => (pin b hb o e).1, fun b hb => ?_, w'⟩
      · rw [← wp4] at e
        exact (wipe_some e).1
      · obtain ⟨o, e, _⟩ := T.obj _ _ st3 b hb
        exact (pin b hb o e).2
  exact PpSet.codeAny_compStart_set loop (T.self X.A 0 _ _ _ stE loop)
/-- over a tuple -/
theorem scT_tup {P : Program} {w : World} {K : PySem.W.Frag} {a : Addr} {xs : List V} {g : TG} {te : TE} {vs : List Nat} {D : Addr} {H1 : Hp} {Qd : Hp → Prop} (Pv : Nat → Hp → Prop) (h0 : Pv 0 (upd H1 D (SetTO P w D [])))
    (hl : ∀ i H, i ≤ xs.length → Pv i H → SqT K H a xs)
    (hs : ∀ i x H, xs[i]? = some x → Pv i H → g x (wipe σ vs) H fun σ2 H2 => wipe σ2 vs = wipe σ vs ∧ te σ2 H2 fun y H4 => ∃ k l, y = .str k ∧ H4 D = some (SetTO P w D l) ∧ l.length + 1 < scanBound ∧ Pv (i + 1) (upd H4 D (SetTO P w D (ins k l))))
    (hd : ∀ H, Pv xs.length H → Qd H) :
    ∃ W : Nat → Nat → Hp → Prop, (∃ m, W 0 m (upd H1 D (SetTO P w D []))) ∧ ∀ i m H', W i m H' → ((Itt K a).stop i H' ∧ Qd H') ∨ ((Itt K a).go i H' ∧ ∃ Nx : Hp → Prop, (∀ H'', Nx H'' → ∃ m', m' < m ∧ W (i + 1) m' H'') ∧
      ∀ x H2, (Itt K a).yld i H' x H2 → g x (wipe σ vs) H2 fun σ2 H3 => wipe σ2 vs = wipe σ vs ∧ te σ2 H3 fun y H4 => ∃ k l, y = .str k ∧ H4 D = some (SetTO P w D l) ∧ l.length + 1 < scanBound ∧ Nx (upd H4 D (SetTO P w D (ins k l)))) := by
  refine ⟨fun i m H' => m + i = xs.length ∧ Pv i H', ⟨xs.length, rfl, h0⟩, ?_⟩
  rintro i m H' ⟨hm, pv⟩
  have hq := hl i H' (by omega) pv
  rcases Nat.lt_or_ge i xs.length with z | z
  · refine Or.inr ⟨⟨xs, xs[i], hq, List.getElem?_eq_getElem z⟩, Pv (i + 1), fun H'' p => ⟨m - 1, by omega, by omega, p⟩, ?_⟩
    rintro x H2 ⟨rfl, hx⟩
    exact hs i x H2 (hx xs hq) pv
  · have e : i = xs.length := by omega
    subst e
    exact Or.inl ⟨⟨xs, hq, Nat.le_refl _⟩, hd H' pv⟩
end
end PK
/-! The forms of a heap. -/
namespace PK
open PySem PySem.Spec PyProof.Rows L2
def formL (L : List PRow) : List Str := L.foldl (fun l r => ins r.1 l) []
theorem formL_snoc {L : List PRow} {i : Nat} {r : PRow} (h : L[i]? = some r) : formL (L.take (i + 1)) = ins r.1 (formL (L.take i)) := by
  unfold formL
  rw [take_snoc h, List.foldl_append]
  rfl
theorem foldl_ins : ∀ (L : List PRow) (l : List Str), l.Nodup → (L.foldl (fun l r => ins r.1 l) l).Nodup ∧ (L.foldl (fun l r => ins r.1 l) l).length ≤ l.length + L.length ∧ ∀ y, y ∈ L.foldl (fun l r => ins r.1 l) l ↔ y ∈ l ∨ ∃ r ∈ L, y = r.1
  | [], l, h => ⟨h, Nat.le_refl _, fun y => ⟨Or.inl, fun q => q.resolve_right fun ⟨_, z, _⟩ => (nomatch z)⟩⟩
  | r :: L, l, h => by
    obtain ⟨h1, h2, h3⟩ := foldl_ins L (ins r.1 l) (ins_nodup h)
    have hl := ins_len (k := r.1) (l := l)
    refine ⟨h1, ?_, fun y => ?_⟩
    · rw [List.length_cons]
      show (L.foldl (fun l r => ins r.1 l) (ins r.1 l)).length ≤ _
      omega
    · show y ∈ L.foldl (fun l r => ins r.1 l) (ins r.1 l) ↔ _
      rw [h3 y, mem_ins]
      constructor
      · rintro ((rfl | q) | ⟨r', hr, e⟩)
        · exact Or.inr ⟨r, List.mem_cons_self, rfl⟩
        · exact Or.inl q
        · exact Or.inr ⟨r', List.mem_cons_of_mem _ hr, e⟩
      · rintro (q | ⟨r', hr, e⟩)
        · exact Or.inl (Or.inr q)
        · rcases List.mem_cons.mp hr with rfl | hr
          · exact Or.inl (Or.inl e)
          · exact Or.inr ⟨r', hr, e⟩
theorem formL_nodup (L : List PRow) : (formL L).Nodup := (foldl_ins L [] List.nodup_nil).1
theorem formL_len (L : List PRow) : (formL L).length ≤ L.length := by
  have := (foldl_ins L [] List.nodup_nil).2.1
  rw [List.length_nil] at this
  unfold formL
  omega
theorem mem_formL {L : List PRow} {y : Str} : y ∈ formL L ↔ ∃ r ∈ L, y = r.1 := ((foldl_ins L [] List.nodup_nil).2.2 y).trans ⟨fun q => q.resolve_left fun z => (nomatch z), Or.inr⟩
def formsR (L : List PRow) : List Str := sortS (formL L)
def strsD (l : List Str) : PyData := .tuple (l.map PyData.str)
def spForms (K : PySem.W.Frag) (C : Addr) : Sp := fun vs H Q _ => ∃ (p : Addr) (L : List PRow), vs = [.ref p] ∧ HeapAt K C H p L ∧ L.length ≤ 900 ∧
  ∀ (v : V) (H' : Hp), Same H H' → Dp K H' v (strsD (formsR L)) → Q v H'
end PK
/-! Drawn names are unlike. -/
namespace PK
open PySem PySem.Spec PyProof.Rows L2
theorem cps_app (x y : Str) : (x ++ y).cps.toList = x.cps.toList ++ y.cps.toList := by
  show (x.cps ++ y.cps).toList = _
  exact Array.toList_append ..
def hd1 (y : Str) : Option Nat := y.cps.toList.head?
def letterOf (j : Int) : Nat := 97 + (j % 26).toNat
theorem abc_at2 {i : Int} (h0 : 0 ≤ i) (h1 : i < 26) {x : Nat} (h : atI abc.cps.toList i = some x) : x = 97 + i.toNat := by
  rw [abc_list] at h
  obtain ⟨n, rfl⟩ := Int.eq_ofNat_of_zero_le h0
  have e : atI (List.range' 97 26) (n : Int) = some (97 + n) := by
    refine atI_nat ?_
    rw [List.getElem?_range' (by omega), Nat.one_mul]
  rw [e] at h
  rw [Int.toNat_natCast]
  exact (Option.some.inj h).symm
structure NmOk (a0 z : Int) (ws : List Str) : Prop where
  nd : ws.Nodup
  lo : a0 ≤ z
  few : z - a0 ≤ ws.length
  hd : ∀ y ∈ ws, ∃ j, a0 < j ∧ j ≤ z ∧ hd1 y = some (letterOf j)
  last : ∀ h : ws ≠ [], hd1 (ws.getLast h) = some (letterOf z) ∧ ∀ y ∈ ws, hd1 y = some (letterOf z) → y.length ≤ (ws.getLast h).length
theorem NmOk.nil (a0 : Int) : NmOk a0 a0 [] := ⟨List.nodup_nil, Int.le_refl _, by simp, fun _ h => (nomatch h), fun h => absurd rfl h⟩
theorem last_snoc {ws : List Str} {y : Str} (h : ws ++ [y] ≠ []) : (ws ++ [y]).getLast h = y := by simp
/-- one with another letter behind the last one -/
theorem NmOk.more {a0 z : Int} {ws : List Str} {c : Nat} (n : NmOk a0 z ws) (h : ws ≠ []) (h1 : 1 ≤ (ws.getLast h).length) : NmOk a0 z (ws ++ [ws.getLast h ++ ⟨#[c]⟩]) := by
  obtain ⟨e1, e2⟩ := n.last h
  have lm := List.getLast_mem h
  have hz := n.hd _ lm
  have hh : hd1 (ws.getLast h ++ ⟨#[c]⟩) = some (letterOf z) := by
    rw [← e1]
    unfold hd1
    generalize ws.getLast h = y at h1
    have e : (y ++ (⟨#[c]⟩ : Str)).cps.toList = y.cps.toList ++ [c] := cps_app _ _
    rw [e]
    have : y.cps.toList ≠ [] := fun q => by
      have : y.length = 0 := by
        show y.cps.size = 0
        rw [← Array.length_toList, q]
        rfl
      omega
    cases q : y.cps.toList with
    | nil => exact absurd q this
    | cons a l => rfl
  have ll : (ws.getLast h ++ (⟨#[c]⟩ : Str)).length = (ws.getLast h).length + 1 := by rw [strLen_append, len_one]
  refine ⟨?_, n.lo, ?_, fun y hy => ?_, fun h' => ?_⟩
  · refine List.nodup_append.mpr ⟨n.nd, List.nodup_cons.mpr ⟨by simp, List.nodup_nil⟩, fun a ha b hb e => ?_⟩
    rw [List.mem_singleton.mp hb] at e
    have := e2 a ha (by rw [e]; exact hh)
    rw [e, ll] at this
    omega
  · rw [List.length_append, List.length_singleton]
    have := n.few
    omega
  · rcases List.mem_append.mp hy with q | q
    · exact n.hd y q
    · rw [List.mem_singleton.mp q, hh]
      obtain ⟨j, j1, j2, _⟩ := hz
      exact ⟨z, by omega, Int.le_refl _, rfl⟩
  · rw [last_snoc]
    refine ⟨hh, fun y hy q => ?_⟩
    rcases List.mem_append.mp hy with z1 | z1
    · have := e2 y z1 q
      omega
    · rw [List.mem_singleton.mp z1]
      exact Nat.le_refl _
/-- one with the next letter ahead -/
theorem NmOk.next {a0 z : Int} {ws : List Str} {y : Str} (n : NmOk a0 z ws) (h8 : ws.length ≤ 20) (hy : hd1 y = some (letterOf (z + 1))) : NmOk a0 (z + 1) (ws ++ [y]) := by
  have few := n.few
  have lo := n.lo
  have ne : ∀ v ∈ ws, hd1 v ≠ some (letterOf (z + 1)) := fun v hv q => by
    obtain ⟨j, j1, j2, e⟩ := n.hd v hv
    rw [e] at q
    have q := Option.some.inj q
    unfold letterOf at q
    have a1 := Int.emod_nonneg j (show (26 : Int) ≠ 0 by decide)
    have a2 := Int.emod_nonneg (z + 1) (show (26 : Int) ≠ 0 by decide)
    omega
  refine ⟨?_, by omega, ?_, fun v hv => ?_, fun h' => ?_⟩
  · refine List.nodup_append.mpr ⟨n.nd, List.nodup_cons.mpr ⟨by simp, List.nodup_nil⟩, fun a ha b hb e => ?_⟩
    rw [List.mem_singleton.mp hb] at e
    exact ne a ha (by rw [e]; exact hy)
  · rw [List.length_append, List.length_singleton]
    omega
  · rcases List.mem_append.mp hv with q | q
    · obtain ⟨j, j1, j2, e⟩ := n.hd v q
      exact ⟨j, j1, by omega, e⟩
    · rw [List.mem_singleton.mp q]
      exact ⟨z + 1, by omega, Int.le_refl _, hy⟩
  · rw [last_snoc]
    refine ⟨hy, fun v hv q => ?_⟩
    rcases List.mem_append.mp hv with z1 | z1
    · exact absurd q (ne v z1)
    · rw [List.mem_singleton.mp z1]
      exact Nat.le_refl _
theorem hd_cons {x : Nat} {y : Str} : hd1 (⟨#[x]⟩ ++ y) = some x := by
  unfold hd1
  have e : ((⟨#[x]⟩ : Str) ++ y).cps.toList = x :: y.cps.toList := cps_app _ _
  rw [e]
  rfl
def spNames2 : Sp := fun vs H Q _ => ∃ (a c : Addr) (m : Int), vs = [.ref a, .int m] ∧ IsFeed H a c ∧ 1 ≤ m ∧ m ≤ 8 ∧
  ∀ (p : Addr) (H' : Hp) (ws : List Str), H p = none → Ext a H H' → IsFeed H' a c → H' p = some (.lst (ws.map V.str)) → (ws.length : Int) = m →
    (∀ y ∈ ws, Word y) → ws.Nodup → Q (.ref p) H'
end PK
/-! Words near a word; how many of a form; methods called with keywords. -/
namespace PK
open PySem PySem.Spec PyProof.Rows L2
/-! ### o.m(.., k = v, ..) -/
abbrev viaMeth (env : Env) (o : Expr) (m : Str) (pl : Sem Bool) (apos pos : Pos) (args : List Expr) (kws : List Keyword) : Sem Value := do
  let x ← eval o env; standAt apos.atName; let (g, fst) ← holding [x] (getMethod x m pl); callWith pos g fst (backTo pos (starEach args env)) (backToKw pos (keywordEach kws env))
def tMethN (C : Addr) (m : Str) (n j : Nat) (sp : Sp) (gV : List V → List V → List V) (E : XK) (ta : TE) (t tk : TA) : TE := fun σ H Q => ta σ H fun x H1 => ∃ a dx fs, x = .ref a ∧ H1 a = some (.ins C dx fs) ∧ fs.lookup m = none ∧
  t σ H1 fun vs H2 => tk σ H2 fun zs H3 => vs.length + 1 = n ∧ zs.length = j ∧ sp (gV (x :: vs) zs) H3 Q E
section
variable {X : Cx} {CX : CXT} {k n : Nat} {C f : Addr} {fd : FuncData} {ps ks : List Str} {sp : Sp} {E : XK} {m : Str} {apos pos : Pos} {o e : Expr} {es : List Expr} {kws : List Keyword} {ta : TE} {t tk : TA} {gV : List V → List V → List V}
theorem pe_mkb {pl : Sem Bool} (he : PE X o ta) (c : Cls X.K C) (hm : Meth X.K C m f) (F : FnOk X.prog X.w X.K X.mg X.base CX k f fd ps sp) (hr : Room k X.A) (hb : KB X.K fd ps n ks gV) (hx : Passes CX X E)
    (ha : PA X (e :: es) t) (hkw : PK X kws tk) (hall : (backToKw pos (keywordEach kws X.env)).all (·.1.isSome) = true := by rfl) (hks : (backToKw pos (keywordEach kws X.env)).filterMap (·.1) = ks := by rfl)
    (hst : starEach (e :: es) X.env = (false, eval e X.env) :: starEach es X.env := by rfl)
    (hpl : ((backTo pos (starEach (e :: es) X.env)).any (·.1) || (backToKw pos (keywordEach kws X.env)).any (·.1.isNone)) = false := by rfl)
    (ht : eval (.Call (.Attribute o m apos) (e :: es) kws pos) X.env = viaMeth X.env o m pl apos pos (e :: es) kws := by rfl) :
    PE X (.Call (.Attribute o m apos) (e :: es) kws pos) (tMethN C m n ks.length sp gV E ta t tk) := by
  obtain ⟨g, hb⟩ := hb
  refine ⟨fun pins s σ H Q I h => PySem.W.methodCall_KW (pl := pl) (thn (he.run pins s σ H _ I h) ?_) ht⟩
  rintro u s1 ⟨x, H1, I1, rx, a, dx, fs, rfl, ea, l, q⟩
  obtain rfl : u = Value.ref a := rx
  refine getmeth_ok I1 ea c hm l (PySem.W.callWith_KW (first := [.ref a]) (h₀ := X.base) I1.ok.mod.kin hm.kp hall (thn (ha.run pos pins s1 σ H1 _ I1 q) ?_) hpl hst)
  rintro us s2 ⟨vs, H2, I2, r, q⟩
  refine thn (hkw.run pos pins s2 σ H2 _ I2 q) ?_
  rintro ws s3 ⟨zs, H3, I3, rz, l1, l2, q⟩
  refine ⟨I3.kIn, ?_⟩
  rw [hks]
  exact run_fnN (us := .ref a :: us) (vs := .ref a :: vs) F hr hb hx I3 (.cons rfl r) rz (by rw [List.length_cons]; exact l1) l2 q
theorem pe_mkb0 {pl : Sem Bool} (he : PE X o ta) (c : Cls X.K C) (hm : Meth X.K C m f) (F : FnOk X.prog X.w X.K X.mg X.base CX k f fd ps sp) (hr : Room k X.A) (hb : KB X.K fd ps n ks gV) (hx : Passes CX X E)
    (hkw : PK X kws tk) (hall : (backToKw pos (keywordEach kws X.env)).all (·.1.isSome) = true := by rfl) (hks : (backToKw pos (keywordEach kws X.env)).filterMap (·.1) = ks := by rfl)
    (hpl : ((backTo pos (starEach [] X.env)).any (·.1) || (backToKw pos (keywordEach kws X.env)).any (·.1.isNone)) = false := by rfl)
    (ht : eval (.Call (.Attribute o m apos) [] kws pos) X.env = viaMeth X.env o m pl apos pos [] kws := by rfl) :
    PE X (.Call (.Attribute o m apos) [] kws pos) (tMethN C m n ks.length sp gV E ta tNil tk) := by
  obtain ⟨g, hb⟩ := hb
  refine ⟨fun pins s σ H Q I h => PySem.W.methodCall_KW (pl := pl) (thn (he.run pins s σ H _ I h) ?_) ht⟩
  rintro u s1 ⟨x, H1, I1, rx, a, dx, fs, rfl, ea, l, q⟩
  obtain rfl : u = Value.ref a := rx
  refine getmeth_ok I1 ea c hm l (PySem.W.callWith_KW0 (first := [.ref a]) (h₀ := X.base) I1.ok.mod.kin hm.kp hall (thn (hkw.run pos pins s1 σ H1 _ I1 q) ?_) hpl)
  rintro ws s3 ⟨zs, H3, I3, rz, l1, l2, q⟩
  refine ⟨I3.kIn, ?_⟩
  rw [hks]
  exact run_fnN (us := [.ref a]) (vs := [.ref a]) F hr hb hx I3 (.cons rfl .nil) rz l1 l2 q
end
theorem ko_notIn {X : Cx} (K : PySem.W.Frag) {k : Nat} (hr : Room (k + 1) X.A) (hK : X.K = K := by rfl) : OpR X (compareOp .NotIn) (rNotInD K) := by
  subst hK
  have := hr.un
  exact op_notInD (by omega)
/-! ### texts in a list of texts -/
theorem str_shaped {y : Str} (h : Word y) : SeqAt.shaped (.str y) = true := by
  unfold SeqAt.shaped
  simp only [PyData.canLay0, word_ok h, Bool.true_and]
  rfl
theorem strs_shaped {l : List Str} (h : ∀ y ∈ l, Word y) : SeqAt.shaped (.list (l.map PyData.str)) = true := by
  have hc : PyData.canLayAll0 (l.map PyData.str) = true := by
    induction l with
    | nil => rfl
    | cons r L ih =>
      rw [List.map_cons]
      show (PyData.canLay0 (.str r) && PyData.canLayAll0 (L.map PyData.str)) = true
      rw [ih fun q hq => h q (List.mem_cons_of_mem _ hq)]
      simp [PyData.canLay0, word_ok (h r List.mem_cons_self)]
  have hd : (PyData.list (l.map PyData.str)).depth ≤ 64 := by
    have : PyData.depthAll (l.map PyData.str) ≤ 63 := depthAll_le fun d hd => by
      obtain ⟨r, _, rfl⟩ := List.mem_map.mp hd
      exact Nat.zero_le _
    show PyData.depthAll (l.map PyData.str) + 1 ≤ 64
    omega
  unfold SeqAt.shaped
  rw [show (PyData.list (l.map PyData.str)).canLay0 = true from by simpa [PyData.canLay0] using hc, decide_eq_true hd]
  rfl
theorem str_eqv (a b : Str) : PyData.eqv (.str a) (.str b) = decide (a = b) := by
  by_cases e : a = b
  · subst e
    rw [decide_eq_true rfl]
    exact eqv_refl _ rfl
  · rw [decide_eq_false e]
    exact eqv_false rfl fun z => e (PyData.str.inj z)
theorem strs_any (l : List Str) (y : Str) : ((l.map PyData.str).any fun z => PyData.eqv z (.str y)) = decide (y ∈ l) := by
  induction l with
  | nil => rfl
  | cons a l ih =>
    rw [List.map_cons, List.any_cons, ih, str_eqv]
    by_cases e : a = y
    · subst e
      simp
    · have : ¬ y = a := fun z => e z.symm
      simp [e, this]
/-! ### words near a word -/
def w7 (y : Str) : Str := Txt.slice y none (some 7) ++ "a"
def w1 (y : Str) : Str := Txt.slice y none (some 1)
def wz (y : Str) : Str := Txt.slice y none (some (-1)) ++ "z"
def near (y : Str) : List Str := [w7 y, w1 y, wz y]
theorem of_list (y : Str) : y = SX.S y.cps.toList := rfl
theorem w7_l (y : Str) : (w7 y).cps.toList = y.cps.toList.take 7 ++ [97] := by
  unfold w7
  rw [cps_app]
  conv => lhs; lhs; rw [of_list y, SX.slice_to (by decide)]
  rfl
theorem w1_l (y : Str) : (w1 y).cps.toList = y.cps.toList.take 1 := by
  unfold w1
  conv => lhs; rw [of_list y, SX.slice_to (by decide)]
  rfl
theorem wz_l {y : Str} (h : Word y) : (wz y).cps.toList = y.cps.toList.take (y.cps.toList.length - 1) ++ [122] := by
  unfold wz
  rw [cps_app]
  have hn : y.cps.toList ≠ [] := fun q => by
    have h1 := h.one
    have : y.length = 0 := by
      show y.cps.size = 0
      rw [← Array.length_toList, q]
      rfl
    omega
  conv => lhs; lhs; rw [of_list y, SX.slice_butlast hn]
  rfl
theorem len_l (y : Str) : y.length = y.cps.toList.length := by
  show y.cps.size = _
  rw [Array.length_toList]
theorem near_word {y : Str} (h : Word y) : ∀ x ∈ near y, Word x := by
  have h1 := h.one
  have h8 := h.eight
  rw [len_l] at h1 h8
  intro x hx
  have mk : ∀ {x : Str} {l : List Nat}, x.cps.toList = l → 1 ≤ l.length → l.length ≤ 8 → (∀ c ∈ l, Lw c) → Word x := fun e a b c => ⟨by rw [len_l, e]; exact a, by rw [len_l, e]; exact b, by rw [e]; exact c⟩
  unfold near at hx
  simp only [List.mem_cons, List.not_mem_nil, or_false] at hx
  rcases hx with rfl | rfl | rfl
  · refine mk (w7_l y) ?_ ?_ fun c hc => ?_
    · rw [List.length_append, List.length_singleton]; omega
    · rw [List.length_append, List.length_singleton, List.length_take]; omega
    · rcases List.mem_append.mp hc with z | z
      · exact h.low c (List.mem_of_mem_take z)
      · rw [List.mem_singleton.mp z]; exact ⟨by decide, by decide⟩
  · refine mk (w1_l y) ?_ ?_ fun c hc => h.low c (List.mem_of_mem_take hc)
    · rw [List.length_take]; omega
    · rw [List.length_take]; omega
  · refine mk (wz_l h) ?_ ?_ fun c hc => ?_
    · rw [List.length_append, List.length_singleton]; omega
    · rw [List.length_append, List.length_singleton, List.length_take]; omega
    · rcases List.mem_append.mp hc with z | z
      · exact h.low c (List.mem_of_mem_take z)
      · rw [List.mem_singleton.mp z]; exact ⟨by decide, by decide⟩
theorem near_unlike {y : Str} (h : Word y) : w7 y ≠ w1 y ∧ w7 y ≠ wz y ∧ (w1 y = wz y → w1 y = y) := by
  have h1 := h.one
  rw [len_l] at h1
  have L : ∀ {a b : Str}, a = b → a.cps.toList = b.cps.toList := fun e => by rw [e]
  refine ⟨fun e => ?_, fun e => ?_, fun e => ?_⟩
  · have := congrArg List.length (L e)
    rw [w7_l, w1_l, List.length_append, List.length_take, List.length_take, List.length_singleton] at this
    omega
  · have := congrArg List.getLast? (L e)
    rw [w7_l, wz_l h, List.getLast?_append, List.getLast?_append] at this
    simp at this
  · have := congrArg List.length (L e)
    rw [w1_l, wz_l h, List.length_append, List.length_take, List.length_take, List.length_singleton] at this
    have e1 : y.cps.toList.length = 1 := by omega
    have e2 : (w1 y).cps.toList = y.cps.toList := by
      rw [w1_l]
      exact List.take_of_length_le (by omega)
    have e3 : (w1 y).cps = y.cps := Array.toList_inj.mp e2
    cases q : w1 y
    cases y
    rw [q] at e3
    simp only at e3
    rw [e3]
def newOf (ys : List Str) (y : Str) : List Str := (near y).filter fun x => decide (x ∉ ys)
theorem filter3 {α : Type} {p : α → Bool} {x y z : α} (h1 : x ≠ y) (h2 : x ≠ z) (h3 : y = z → p y = false) : ([x, y, z].filter p).Nodup := by
  by_cases a : p x = true <;> by_cases b : p y = true <;> by_cases c : p z = true <;> simp [List.filter, a, b, c, h1, h2]
  · intro e
    rw [h3 e] at b
    cases b
  · intro e
    rw [h3 e] at b
    cases b
theorem newOf_nodup {ys : List Str} {y : Str} (h : Word y) (hy : y ∈ ys) : (newOf ys y).Nodup := by
  obtain ⟨a, b, c⟩ := near_unlike h
  refine filter3 a b fun e => decide_eq_false fun z => z ?_
  rw [c e]
  exact hy
theorem near_nodup {ys : List Str} {y : Str} (h : Word y) (hy : y ∈ ys) (hn : ys.Nodup) : (ys ++ newOf ys y).Nodup := by
  refine List.nodup_append.mpr ⟨hn, newOf_nodup h hy, fun a ha b hb e => ?_⟩
  subst e
  exact of_decide_eq_true (List.mem_filter.mp hb).2 ha
theorem newOf_len (ys : List Str) (y : Str) : (newOf ys y).length ≤ 3 := List.length_filter_le _ _
/-- words, and others near them -/
def spWords (K : PySem.W.Frag) : Sp := fun vs H Q _ => ∃ (a : Addr) (ws : List Str), vs = [.ref a] ∧ Words H a ws ∧ ws.Nodup ∧
  ∀ (p : Addr) (H' : Hp) (ys : List Str), H p = none → Same H H' → H' p = some (.lst (ys.map V.str)) → (∀ y ∈ ys, Word y) → ys.Nodup → (∀ y ∈ ws, y ∈ ys) → ys.length ≤ 32 → Q (.ref p) H'
/-! ### sorted(l), l of unlike texts -/
theorem srt_strs {l : List Str} (nd : l.Nodup) : (srt false (fun b : V × PyData => b.2) ((l.map V.str).zip (l.map PyData.str))).map (·.1) = (sortS l).map V.str := by
  have eB : (l.map V.str).zip (l.map PyData.str) = l.map fun y => (V.str y, PyData.str y) := by
    rw [List.zip_map']
  rw [eB]
  have b2 : (l.map fun y => (V.str y, PyData.str y)).map (fun b : V × PyData => b.2) = l.map PyData.str := by
    rw [List.map_map]
    rfl
  have bp := srt_perm false (fun b : V × PyData => b.2) (l.map fun y => (V.str y, PyData.str y))
  have nd2 : (l.map PyData.str).Nodup := by
    unfold List.Nodup at nd ⊢
    exact List.pairwise_map.mpr (nd.imp fun {a b} q e => q (by injection e))
  have r1 := srt_rises (k := fun b : V × PyData => b.2) (bs := l.map fun y => (V.str y, PyData.str y)) (by rw [b2]; exact PySem.W.AllAlike.of str_alike) (by rw [b2]; exact nd2)
  have hd2 := rises_ext r1 (str_rises nd) fun d => by
    rw [(bp.map _).mem_iff, b2]
    exact (((srt_perm false PyData.str l).map PyData.str).mem_iff (a := d)).symm
  have shape : ∀ b ∈ srt false (fun b : V × PyData => b.2) (l.map fun y => (V.str y, PyData.str y)), ∃ y, b = (V.str y, PyData.str y) := fun b hb => by
    obtain ⟨y, _, rfl⟩ := List.mem_map.mp (bp.mem_iff.mp hb)
    exact ⟨y, rfl⟩
  revert hd2 shape
  generalize srt false (fun b : V × PyData => b.2) (l.map fun y => (V.str y, PyData.str y)) = Z
  generalize sortS l = ys
  intro hd2 shape
  clear r1 bp b2 eB
  induction Z generalizing ys with
  | nil =>
    cases ys with
    | nil => rfl
    | cons => cases hd2
  | cons z Z ih =>
    cases ys with
    | nil => cases hd2
    | cons y ys =>
      obtain ⟨y', rfl⟩ := shape z List.mem_cons_self
      rw [List.map_cons, List.map_cons] at hd2
      injection hd2 with h1 h2
      injection h1 with h1
      rw [List.map_cons, List.map_cons, ih ys h2 fun b hb => shape b (List.mem_cons_of_mem _ hb), h1]
def rSrtL (K : PySem.W.Frag) : List V → Hp → VK → Prop := fun vs H Q => ∃ (a : Addr) (l : List Str), vs = [.ref a] ∧ SqL K H a (l.map V.str) ∧ l.Nodup ∧ l.length ≤ sizeLine ∧
  ∀ p, H p = none → Q (.ref p) (upd H p (.lst ((sortS l).map V.str)))
theorem k_srtL {X : Cx} (K : PySem.W.Frag) {k : Nat} (hr : Room k X.A) (hK : X.K = K := by rfl) : CallR X (.builtin "sorted") (rSrtL K) := by
  subst hK
  intro pins s σ H vs us Q I r h
  obtain ⟨a, l, e, hs, nd, hz, q⟩ := h
  refine call_srt hr pins s σ H vs us Q I r ⟨a, l.map V.str, l.map PyData.str, e, hs, DpAll.strs l, ⟨PySem.W.AllAlike.of str_alike, PySem.W.Sortable.others fun b => ⟨by simp, by simp⟩, fun d hd => ?_⟩, by rw [List.length_map]; exact hz, fun p np => ?_⟩
  · obtain ⟨y, _, rfl⟩ := List.mem_map.mp hd
    exact Nat.zero_le _
  · rw [srt_strs nd]
    exact q p np
/-! ### places in the text -/
def asgE (st : Stmt) (i : Nat) : Expr := match (defBody st)[i]? with
  | some (.Assign _ e _) => e
  | _ => .Constant .none 0 ⟨0, 0, 0, 0⟩
/-! ### how many of a form -/
theorem manyR_nil (f : Str) (o : Option Str) : manyR [] f o = 0 := rfl
theorem manyR_cons (r : PRow) (L : List PRow) (f : Str) (o : Option Str) : manyR (r :: L) f o = (if sel f o r = true then r.2.2 else 0) + manyR L f o := by
  unfold manyR selL
  by_cases e : sel f o r = true
  · rw [List.filter_cons_of_pos e, if_pos e, List.map_cons, List.sum_cons]
  · rw [List.filter_cons_of_neg e, if_neg e, Int.zero_add]
def sumK (g : PKey → Int) (ks : List PKey) : Int := (ks.map g).sum
theorem sumK_add (g h : PKey → Int) : ∀ ks : List PKey, sumK (fun k => g k + h k) ks = sumK g ks + sumK h ks
  | [] => rfl
  | k :: ks => by
    have := sumK_add g h ks
    unfold sumK at this ⊢
    rw [List.map_cons, List.map_cons, List.map_cons, List.sum_cons, List.sum_cons, List.sum_cons, this]
    omega
theorem sumK_one {p : PKey} {v : Int} : ∀ {ks : List PKey}, ks.Nodup → sumK (fun k => if p = k then v else 0) ks = if p ∈ ks then v else 0
  | [], _ => rfl
  | k :: ks, h => by
    obtain ⟨h1, h2⟩ := List.nodup_cons.mp h
    have ih := sumK_one (p := p) (v := v) h2
    unfold sumK at ih ⊢
    rw [List.map_cons, List.sum_cons, ih]
    by_cases e : p = k
    · subst e
      rw [if_pos rfl, if_neg h1, if_pos List.mem_cons_self]
      omega
    · rw [if_neg e, Int.zero_add]
      by_cases z : p ∈ ks
      · rw [if_pos z, if_pos (List.mem_cons_of_mem _ z)]
      · rw [if_neg z, if_neg]
        intro q
        rcases List.mem_cons.mp q with q | q
        · exact e q
        · exact z q
theorem sumK_zero : ∀ ks : List PKey, sumK (fun _ => 0) ks = 0
  | [] => rfl
  | k :: ks => by
    have := sumK_zero ks
    unfold sumK at this ⊢
    rw [List.map_cons, List.sum_cons, this]
    rfl
theorem manyR_keys {f : Str} {ks : List PKey} (hn : ks.Nodup) : ∀ {L : List PRow}, (∀ r ∈ L, pk r ∈ ks) → manyR L f none = sumK (cnt L) (ks.filter fun k => decide (k.1 = f))
  | [], _ => by
    rw [manyR_nil]
    exact (sumK_zero _).symm
  | r :: L, h => by
    rw [manyR_cons, manyR_keys hn fun q hq => h q (List.mem_cons_of_mem _ hq)]
    have e : cnt (r :: L) = fun k => (if pk r = k then r.2.2 else 0) + cnt L k := funext fun k => cnt_cons r L k
    rw [e, sumK_add, sumK_one (hn.filter _)]
    congr 1
    have hk := h r List.mem_cons_self
    have e2 : sel f none r = decide (r.1 = f) := by
      unfold sel
      exact Bool.and_true _
    rw [e2]
    by_cases z : r.1 = f
    · rw [if_pos (decide_eq_true z), if_pos (List.mem_filter.mpr ⟨hk, decide_eq_true z⟩)]
    · rw [if_neg (by rw [decide_eq_false z]; exact Bool.false_ne_true), if_neg (show ¬ pk r ∈ ks.filter (fun k => decide (k.1 = f)) from fun q => z (of_decide_eq_true (p := (pk r).1 = f) (List.mem_filter.mp q).2))]
theorem manyR_sumR (L : List PRow) (f : Str) : ∀ o : Option Str, manyR (sumR L) f o = manyR L f o
  | some t => by rw [manyR_cnt _ (f, t), manyR_cnt _ (f, t), cnt_sumR]
  | none => by
    have e : cnt (sumR L) = cnt L := funext fun k => cnt_sumR L k
    rw [manyR_keys (ks := skeys L) (skeys_nodup L) (L := sumR L) fun r hr => by rw [← sumR_keys]; exact List.mem_map_of_mem hr,
      manyR_keys (ks := skeys L) (skeys_nodup L) (L := L) fun r hr => mem_skeys.mpr (List.mem_map_of_mem hr), e]
theorem manyR_nn {n : Nat} {b : Int} {f : Str} {o : Option Str} : ∀ {L : List PRow}, RowsOk n b L → 0 ≤ manyR L f o ∧ manyR L f o ≤ L.length * b
  | [], _ => ⟨Int.le_refl _, by rw [manyR_nil]; simp⟩
  | r :: L, h => by
    obtain ⟨h1, h2⟩ := manyR_nn (f := f) (o := o) h.tail
    have okr := h.each r List.mem_cons_self
    have lo := okr.lo
    have hi := okr.hi
    rw [manyR_cons, List.length_cons]
    have e : (((L.length + 1 : Nat) : Int)) * b = (L.length : Int) * b + b := by rw [Int.natCast_add, Int.add_mul]; simp
    rw [e]
    split <;> constructor <;> omega
theorem mem_formL_sum {L : List PRow} {y : Str} : y ∈ formL (sumR L) ↔ ∃ r ∈ L, r.1 = y := by
  rw [mem_formL]
  constructor
  · rintro ⟨r, hr, rfl⟩
    have : pk r ∈ (sumR L).map pk := List.mem_map_of_mem hr
    rw [sumR_keys, mem_skeys] at this
    obtain ⟨q, hq, e⟩ := List.mem_map.mp this
    exact ⟨q, hq, congrArg (fun k : PKey => k.1) e⟩
  · rintro ⟨r, hr, rfl⟩
    have : pk r ∈ skeys L := mem_skeys.mpr (List.mem_map_of_mem hr)
    rw [← sumR_keys] at this
    obtain ⟨q, hq, e⟩ := List.mem_map.mp this
    exact ⟨q, hq, (congrArg (fun k : PKey => k.1) e).symm⟩
/-! ### what the law holds a heap against -/
def hasF (L : List PRow) (f : Str) : Bool := L.any fun r => decide (r.1 = f)
theorem hasF_snoc {L : List PRow} {i : Nat} {r : PRow} (h : L[i]? = some r) (f : Str) : hasF (L.take (i + 1)) f = (hasF (L.take i) f || decide (r.1 = f)) := by
  unfold hasF
  rw [take_snoc h, List.any_append]
  simp
theorem hasF_iff {L : List PRow} {f : Str} : hasF L f = true ↔ ∃ r ∈ L, r.1 = f := by
  unfold hasF
  simp
theorem forms_right {L : List PRow} {fs : List Str} (hn : fs.Nodup) (h : ∀ r ∈ L, r.1 ∈ fs) : formsR (sumR L) = sortS (fs.filter (hasF L)) := by
  refine sortS_of (hn.filter _) (str_rises (formL_nodup _)) fun y => ?_
  unfold formsR sortS
  rw [(srt_perm false PyData.str _).mem_iff, mem_formL_sum, List.mem_filter, hasF_iff]
  constructor
  · rintro ⟨r, hr, rfl⟩
    exact ⟨h r hr, r, hr, rfl⟩
  · exact fun q => q.2
theorem formsR_sh {n : Nat} {b : Int} {L : List PRow} (h : RowsOk n b L) : Sh (strsD (formsR (sumR L))) 1 (n * 82 + 2 * n + 3) := by
  refine Sh.tuple (m := n) (fun d hd => ?_) ?_
  · obtain ⟨y, hy, rfl⟩ := List.mem_map.mp hd
    unfold formsR sortS at hy
    rw [(srt_perm false PyData.str _).mem_iff, mem_formL_sum] at hy
    obtain ⟨r, hr, rfl⟩ := hy
    exact Sh.word (h.each r hr).f
  · rw [List.length_map]
    unfold formsR sortS
    rw [(srt_perm false PyData.str _).length_eq]
    have h1 := formL_len (sumR L)
    have h2 := sumR_len L
    have h3 := h.len
    omega
theorem HeapAt.lst {K : PySem.W.Frag} {C : Addr} {H : Hp} {p d : Addr} {L : List PRow} {xs : List V} {o : HO} (h : HeapAt K C H p L) (hd : H d = some (.lst xs)) : HeapAt K C (upd H d o) p L := by
  obtain ⟨dx, t, h1, h2⟩ := h
  refine ⟨dx, t, ?_, Dp.keepT (TKeep.lst hd) (flat_rows L) h2⟩
  rw [upd_ne (ne_of h1 hd (by intro z; cases z))]
  exact h1
structure MMn (P : Program) (w : World) (K : PySem.W.Frag) (mg : Str → Option Value) (base : Heap) (k : Nat) (C f : Addr) (fd : FuncData) : Prop where
  ok : FnOk P w K mg base CX0 k f fd ["self", "form", "shade"] (spManyM K C)
  m : Meth K C "many" f
  k2 : KB K fd ["self", "form", "shade"] 2 [] (fun vs _ => vs ++ [.non])
  k3 : KB K fd ["self", "form", "shade"] 3 [] (fun vs _ => vs)
  kf : KB K fd ["self", "form", "shade"] 1 ["form"] (fun vs zs => vs ++ (zs ++ [.non]))
  ks : KB K fd ["self", "form", "shade"] 2 ["shade"] (fun vs zs => vs ++ zs)
  ksf : KB K fd ["self", "form", "shade"] 1 ["shade", "form"] (fun vs zs => vs ++ zs.reverse)
def spRight (K : PySem.W.Frag) (C : Addr) : Sp := fun vs H Q _ => ∃ (p a b : Addr) (v : V) (L : List PRow) (fs ss : List Str), vs = [.ref p, v, .ref a, .ref b] ∧ HeapAt K C H p (sumR L) ∧ Dp K H v (rowsD L) ∧ RowsOk 8 1000000000 L ∧
  H a = some (.lst (fs.map V.str)) ∧ H b = some (.lst (ss.map V.str)) ∧ (∀ y ∈ fs, Word y) ∧ fs.Nodup ∧ (∀ r ∈ L, r.1 ∈ fs) ∧ fs.length ≤ 32 ∧ ss.length ≤ 32 ∧ ∀ H' : Hp, Same H H' → Q (.bl true) H'
end PK
/-! Heaps by ==, != and len: own methods that built-in ones call; methods that raise, within a try. -/
namespace PK
open PySem PySem.Spec PyProof.Rows L2
section
variable {prog : Program} {w : World} {A : Around} {E : Value → Shared → Prop} {s : Shared} {K : PySem.W.Frag} {x C f : Addr} {ox : Obj} {od : Option Obj}
/-- x != b where the class says == alone -/
theorem ne_own {b tb : Value} {Q : Value → Shared → Prop} (hu : A.units + 1 < cLine) (X : K.In s.heap) (I : PySem.W.InstAt s.heap x ox C od) (hb : PySem.W.Looks (model prog w) s.heap (typeOf b) tb) (hn : PySem.W.notFirst K C tb = true)
    (hs : PySem.W.findIn K (.ref C) "__ne__" = some (some (.builtin "object.__ne__"))) (ho : PySem.W.subIn K (.ref C) (.type "object") = some true)
    (he : PySem.W.findIn K (.ref C) "__eq__" = some (some (.ref f))) (hf : PySem.W.isFn K (.ref f) = true)
    (h : wpAny (model prog w) A.in1 (call (.ref f) [.ref x, b]) (fun v s' => ∃ r, v = .bool r ∧ Q (.bool (!r)) s') E s) :
    wpAny (model prog w) A (richCompare .NotEq (.ref x) b) Q E s := by
  have one : wpAny (model prog w) A (tryCompare (.ref x) "__ne__" b) (fun r s' => ∃ v, r = some v ∧ Q v s') E s := by
    unfold tryCompare callSpecialIfBound? bindSpecialIfBound?
    refine wpAny_bind (wpAny_holding (wpAny_bind (wpAny_bind (wpAny_bind (I.type.here ((PySem.W.looks_findIn X hs).here (wpAny_bind (wpAny_askSetting (wpAny_ite ?_)))))))))
    have fin : wpAny (model prog w) A (call (.builtin "object.__ne__") ([.ref x] ++ [b]) >>= fun v => pure (some v)) (fun r s' => wpAny (model prog w) A (match r with | some .notImplemented | none => pure none | some v => pure (some v) : Sem (Option Value)) (fun r s' => ∃ v, r = some v ∧ Q v s') E s') E s := by
      refine wpAny_bind (wpAny_call (codeAny_call_builtin F.cmp_object.ne.plain F.cmpEntry_ne (PySem.W.check_slot F.cmpKind_ne F.cmpSplit_ne (I.type.andThen (PySem.W.looks_subIn X ho)) (F.cmpArgs_ne _ _) ?_)))
      unfold Builtin.«object.__ne__»
      refine wpAny_bind (wpAny_of_eq (a := ((Value.ref x : Value), [b])) (by first | rfl | (simp only [slotArgs]; rfl)) (wpAny_bind (wpAny_cRoomFor hu (wpAny_bind (PySem.W.ifBound_K X I he hf (wpAny_mono h (fun v s' q => ?_) fun _ _ z => z))))))
      obtain ⟨r, rfl, q⟩ := q
      refine wpAny_bind (wpAny_truthy_bool ?_)
      refine wpAny_pure ?_
      show wpAny (model prog w) A (pure (some (Value.bool !r))) _ E s'
      refine wpAny_pure (wpAny_pure ?_)
      exact ⟨_, rfl, q⟩
    rw [F.cmp_object.ne.bind (.ref x)]
    split
    · exact wpAny_bind (wpAny_pure (wpAny_pure fin))
    · exact wpAny_tryCatch (wpAny_bind (wpAny_pure (wpAny_pure fin)))
  unfold richCompare
  simp only [oneThing_ref]
  have last : ∀ {s1 : Shared} {g : Option Value → Sem Value}, s1 = s → (∀ v, g (some v) = pure v) → wpAny (model prog w) A (tryCompare (.ref x) (cmpInfo CmpOp.NotEq).2.fst b >>= g) Q E s1 := by
    rintro s1 g rfl hg
    refine wpAny_bind (wpAny_mono one (fun r s' z => ?_) fun _ _ z => z)
    obtain ⟨v, rfl, q⟩ := z
    rw [hg]
    exact wpAny_pure q
  refine wpAny_holding (wpAny_bind (wpAny_cRoomFor (by omega) (wpAny_bind (I.type.here (wpAny_bind (hb.here ?_))))))
  split
  · rename_i q
    have e : PySem.W.subIn K tb (.ref C) = some false := (Bool.or_eq_true_iff.mp hn).elim (fun z => by rw [beq_iff_eq.mp z] at q; simp at q) fun z => beq_iff_eq.mp z
    refine wpAny_bind ((PySem.W.looks_subIn X e).here ?_)
    rw [if_neg Bool.false_ne_true]
    exact last rfl fun _ => rfl
  · refine wpAny_bind (wpAny_pure ?_)
    rw [if_neg Bool.false_ne_true]
    exact last rfl fun _ => rfl
end
section
variable {X : Cx} {pins : List (Addr × Obj)} {σ : L2.St} {H : Hp} {s : Shared} {k : Nat} {f C : Addr} {fd : FuncData} {ps : List Str} {sp : Sp}
/-- an own def, called by a built-in one -/
theorem run_in {A : Around} {us : List Value} {vs : List V} {Q : VK} {E : XK} (F : FnOk X.prog X.w X.K X.mg X.base CX0 k f fd ps sp) (hr : Room k A) (hf : A.frames = X.A.frames) (hb : Binds X.K fd ps []) (I : Inv X pins σ H s)
    (r : Vals vs us) (h : sp vs H Q E) : wpAny (model X.prog X.w) A (call (.ref f) us) (EP X pins σ Q) X.xe s := by
  have e := I.env0
  have e0 : Env0 X.prog X.w X.K X.mg X.base A X.stack s H := ⟨by rw [hf]; exact e.frames, e.mod, e.bs, e.bsz, e.funs, e.frf, e.hok, e.bare⟩
  have b := hb s us I.kIn (by rw [List.append_nil, ← r.length]; exact F.len _ _ _ _ h)
  rw [List.append_nil] at b
  refine wpAny_call (codeAny_mono (F.run A X.stack s H ⟨us, []⟩ us vs Q E hr e0 b r h) fun res s' hq => ?_)
  match res, hq with
  | .ok (.ret u), hq => exact I.after hq
  | .ok .next, hq => exact hq.elim
  | .ok .brk, hq => exact hq.elim
  | .ok .cont, hq => exact hq.elim
  | .error _, hq => exact hq.elim
end
theorem k_isi {X : Cx} (K : PySem.W.Frag) (hK : X.K = K := by rfl) : CallR X (.builtin "isinstance") (rIsi K) := by subst hK; exact call_isi
/-! ### two heaps -/
/-- what is told of the class beside -/
structure HIs (K : PySem.W.Frag) (C : Addr) : Prop where
  ca : PySem.W.findIn K (.ref C) "__class__" = some (some (.builtin "object.__class__"))
  cg : PySem.W.specialIn K (.builtin "object.__class__") "__get__" = some (some (.builtin "getset_descriptor.__get__"))
  ct : PySem.W.takesIn K (.builtin "object.__class__") = some true
  cm : PySem.W.mroIn K C (.type "object") = some true
theorem kit_self (K : PySem.W.Frag) (C : Addr) : PySem.W.kitOne K (.ref C) (.ref C) = some true := by
  unfold PySem.W.kitOne
  rw [if_pos (beq_self_eq_true _)]
theorem HeapAt.ty {K : PySem.W.Frag} {mg : Str → Option Value} {C p : Addr} {H : Hp} {L : List PRow} (h : HeapAt K C H p L) (T : HCls K mg C) (U : HIs K C) : TyX K H (.ref p) (.ref C) := by
  obtain ⟨dx, t, h1, _⟩ := h
  exact .base (.ins h1 T.cl U.ca U.cg U.ct U.cm)
/-- == of two heaps -/
def spEqH (K : PySem.W.Frag) (C : Addr) : Sp := fun vs H Q _ => ∃ (p q : Addr) (L M : List PRow) (n : Nat) (b : Int), vs = [.ref p, .ref q] ∧ HeapAt K C H p L ∧ HeapAt K C H q M ∧ RowsOk n b L ∧ RowsOk n b M ∧
  Q (.bl (decide (L = M))) H
def spLenH (K : PySem.W.Frag) (C : Addr) : Sp := fun vs H Q _ => ∃ (p : Addr) (L : List PRow), vs = [.ref p] ∧ HeapAt K C H p L ∧ L.length ≤ 900 ∧ Q (.int L.length) H
def rEqH (K : PySem.W.Frag) (C : Addr) : R2 := fun x y H Q => ∃ (p q : Addr) (L M : List PRow) (n : Nat) (b : Int), x = .ref p ∧ y = .ref q ∧ HeapAt K C H p L ∧ HeapAt K C H q M ∧ RowsOk n b L ∧ RowsOk n b M ∧
  Q (.bl (decide (L = M))) H
def rNeH (K : PySem.W.Frag) (C : Addr) : R2 := fun x y H Q => ∃ (p q : Addr) (L M : List PRow) (n : Nat) (b : Int), x = .ref p ∧ y = .ref q ∧ HeapAt K C H p L ∧ HeapAt K C H q M ∧ RowsOk n b L ∧ RowsOk n b M ∧
  Q (.bl (!decide (L = M))) H
def rLenH (K : PySem.W.Frag) (C : Addr) : List V → Hp → VK → Prop := fun xs H Q => ∃ (p : Addr) (L : List PRow), xs = [.ref p] ∧ HeapAt K C H p L ∧ L.length ≤ 900 ∧ Q (.int L.length) H
/-- an own method with its class's name for it -/
structure HSp (P : Program) (w : World) (K : PySem.W.Frag) (mg : Str → Option Value) (base : Heap) (k : Nat) (C : Addr) (x : Str) (f : Addr) (fd : FuncData) (ps : List Str) (sp : Sp) : Prop where
  ok : FnOk P w K mg base CX0 k f fd ps sp
  fi : PySem.W.findIn K (.ref C) x = some (some (.ref f))
  fn : PySem.W.isFn K (.ref f) = true
  b : Binds K fd ps []
section
variable {X : Cx} {k : Nat} {C f : Addr} {fd : FuncData}
theorem HeapAt.inst {pins : List (Addr × Obj)} {σ : L2.St} {H : Hp} {s : Shared} {p : Addr} {L : List PRow} (h : HeapAt X.K C H p L) (I : Inv X pins σ H s) : ∃ ox od, PySem.W.InstAt s.heap p ox C (some od) := by
  obtain ⟨dx, t, h1, _⟩ := h
  obtain ⟨mA, J, _⟩ := ins_get I.hok h1
  obtain ⟨od, J, _⟩ := J.look
  exact ⟨_, od, J⟩
theorem op_eqH (K : PySem.W.Frag) (E : HSp X.prog X.w K X.mg X.base k C "__eq__" f fd ["self", "other"] (spEqH K C)) (hr : Room k X.A) (hK : X.K = K := by rfl) : OpR X (compareOp .Eq) (rEqH K C) := by
  subst hK
  intro pins s σ H x y v u Q I rx ry h
  obtain ⟨p, q, L, M, n, b, rfl, rfl, hp, hq, okL, okM, z⟩ := h
  cases rx
  cases ry
  obtain ⟨ox, od, J⟩ := hp.inst I
  obtain ⟨oy, oe, J'⟩ := hq.inst I
  obtain ⟨m, hF⟩ := I.fr
  show wpAny (model X.prog X.w) X.A (richCompare .Eq (.ref p) (.ref q)) (EP X pins σ Q) X.xe s
  refine PySem.W.cmp_K (op := .Eq) (tb := .ref C) hr.units0 hF I.ok.mod.kin J J'.type (by simp [PySem.W.notFirst]) E.fi E.fn ?_
  refine wpAny_mono (run_in (Q := fun v H' => v = .bl (decide (L = M)) ∧ H' = H) (E := fun _ _ _ => False) E.ok hr rfl E.b I (vs := [.ref p, .ref q]) (.cons rfl (.cons rfl .nil)) ⟨p, q, L, M, n, b, rfl, hp, hq, okL, okM, rfl, rfl⟩) (fun r s' g => ?_) fun _ _ z => z
  obtain ⟨v, H', I', rv, rfl, rfl⟩ := g
  cases rv
  exact ⟨.bl (decide (L = M)), _, I', rfl, z⟩
theorem op_neH (K : PySem.W.Frag) (E : HSp X.prog X.w K X.mg X.base k C "__eq__" f fd ["self", "other"] (spEqH K C)) (hne : PySem.W.findIn K (.ref C) "__ne__" = some (some (.builtin "object.__ne__"))) (hob : PySem.W.subIn K (.ref C) (.type "object") = some true)
    (hr : Room (k + 1) X.A) (hK : X.K = K := by rfl) : OpR X (compareOp .NotEq) (rNeH K C) := by
  subst hK
  intro pins s σ H x y v u Q I rx ry h
  obtain ⟨p, q, L, M, n, b, rfl, rfl, hp, hq, okL, okM, z⟩ := h
  cases rx
  cases ry
  obtain ⟨ox, od, J⟩ := hp.inst I
  obtain ⟨oy, oe, J'⟩ := hq.inst I
  show wpAny (model X.prog X.w) X.A (richCompare .NotEq (.ref p) (.ref q)) (EP X pins σ Q) X.xe s
  refine ne_own (tb := .ref C) (by have := hr.un; omega) I.kIn J J'.type (by simp [PySem.W.notFirst]) hne hob E.fi E.fn ?_
  refine wpAny_mono (run_in (Q := fun v H' => v = .bl (decide (L = M)) ∧ H' = H) (E := fun _ _ _ => False) E.ok hr.in1 rfl E.b I (vs := [.ref p, .ref q]) (.cons rfl (.cons rfl .nil)) ⟨p, q, L, M, n, b, rfl, hp, hq, okL, okM, rfl, rfl⟩) (fun r s' g => ?_) fun _ _ z => z
  obtain ⟨v, H', I', rv, rfl, rfl⟩ := g
  cases rv
  exact ⟨_, rfl, .bl (!decide (L = M)), _, I', rfl, z⟩
theorem call_lenH (K : PySem.W.Frag) (E : HSp X.prog X.w K X.mg X.base k C "__len__" f fd ["self"] (spLenH K C)) (hr : Room (k + 1) X.A) (hK : X.K = K := by rfl) : CallR X (.builtin "len") (rLenH K C) := by
  subst hK
  intro pins s σ H xs us Q I r h
  obtain ⟨p, L, rfl, hp, hL, z⟩ := h
  obtain ⟨u, rfl, ru⟩ := vals1 r
  cases ru
  obtain ⟨ox, od, J⟩ := hp.inst I
  obtain ⟨m, hF⟩ := I.fr
  refine PySem.W.len_K hF I.ok.mod.kin J E.fi E.fn ?_
  refine wpAny_mono (run_in (Q := fun v H' => v = .int L.length ∧ H' = H) (E := fun _ _ _ => False) E.ok hr.in1 rfl E.b I (vs := [.ref p]) (.cons rfl .nil) ⟨p, L, rfl, hp, hL, rfl, rfl⟩) (fun r s' g => ?_) fun _ _ z => z
  obtain ⟨v, H', I', rv, rfl, rfl⟩ := g
  obtain ⟨t, rfl⟩ := rv
  exact ⟨⟨by omega, by omega⟩, .int L.length, _, I'.tok _, ⟨_, rfl⟩, z⟩
end
/-! ### a method that may raise, within a try -/
section
variable {X : Cx} {CX : CXT} {k : Nat} {f C : Addr} {fd : FuncData} {ps : List Str} {sp : Sp} {E : L2.St → XK} {m : Str} {pos apos : Pos} {e o : Expr} {es : List Expr} {ta : TE} {t : TA}
def tMethX (C : Addr) (m : Str) (sp : Sp) (E : L2.St → XK) (ta : TE) (t : TA) : TE := fun σ H Q => ta σ H fun x H1 => ∃ a dx fs, x = .ref a ∧ H1 a = some (.ins C dx fs) ∧ fs.lookup m = none ∧ t σ H1 fun vs H2 => sp (x :: vs) H2 Q (E σ)
theorem pe_methX {pl : Sem Bool} (he : PE X o ta) (c : Cls X.K C) (hm : Meth X.K C m f) (F : FnOk X.prog X.w X.K X.mg X.base CX k f fd ps sp) (hr : Room k X.A) (hb : Binds X.K fd ps []) (hx : ∀ σ, PassesAt CX X σ (E σ)) (ha : PA X (e :: es) t)
    (hst : starEach (e :: es) X.env = (false, eval e X.env) :: starEach es X.env := by rfl) (hpl : (backTo pos (starEach es X.env)).any (·.1) = false := by rfl)
    (ht : eval (.Call (.Attribute o m apos) (e :: es) [] pos) X.env = viaMeth X.env o m pl apos pos (e :: es) [] := by rfl) :
    PE X (.Call (.Attribute o m apos) (e :: es) [] pos) (tMethX C m sp E ta t) := by
  refine ⟨fun pins s σ H Q I h => PySem.W.methodCall_KW (pl := pl) (thn (he.run pins s σ H _ I h) ?_) ht⟩
  rintro u s1 ⟨x, H1, I1, rx, a, dx, fs, rfl, ea, l, q⟩
  obtain rfl : u = Value.ref a := rx
  refine getmeth_ok I1 ea c hm l (PySem.W.callWith_K (first := [.ref a]) (h₀ := X.base) I.ok.mod.kin hm.kp (thn (ha.run pos pins s1 σ H1 _ I1 q) ?_) hst hpl)
  rintro us s2 ⟨vs, H2, I2, r, q2⟩
  exact ⟨I2.kIn, run_fnSD (us := .ref a :: us) (vs := .ref a :: vs) (dvs := []) (ds := []) F hr hb .nil (hx σ) I2 (.cons rfl r) (by rw [List.append_nil]; exact q2)⟩
end
end PK
/-! Things of any kind: what stays, how long they are shown, what they are. -/
namespace PK
open PySem PySem.Spec PyProof.Rows L2
/-! ### what stays: tuples and lists -/
def Lk : HO → Prop
  | .tup _ => True
  | .frz _ _ => True
  | .lst _ => True
  | _ => False
def LKeep (H H' : Hp) : Prop := ∀ b u, Lk u → H b = some u → H' b = some u
theorem LKeep.refl (H : Hp) : LKeep H H := fun _ _ _ h => h
theorem LKeep.trans {H H1 H2 : Hp} (x : LKeep H H1) (y : LKeep H1 H2) : LKeep H H2 := fun b u t h => y b u t (x b u t h)
theorem LKeep.of {H H' : Hp} (x : Same H H') : LKeep H H' := fun b u _ h => x b u h
theorem LKeep.feed {H H' : Hp} {a c : Addr} (f : IsFeed H a c) (x : Ext a H H') : LKeep H H' := fun b u t h => by
  obtain ⟨cs, i, l, n, f⟩ := f
  exact x b u h (ne_of h f.d (by rintro rfl; exact t))
theorem LKeep.sqT {K : PySem.W.Frag} {H H' : Hp} {b : Addr} {xs : List V} (x : LKeep H H') (h : SqT K H b xs) : SqT K H' b xs := by
  rcases h with (h | ⟨o, h⟩) | h
  · exact Or.inl (Or.inl (x _ _ trivial h))
  · exact Or.inl (Or.inr ⟨o, x _ _ trivial h⟩)
  · exact Or.inr h
theorem LKeep.sqL {K : PySem.W.Frag} {H H' : Hp} {b : Addr} {xs : List V} (x : LKeep H H') (h : SqL K H b xs) : SqL K H' b xs := by
  rcases h with (h | ⟨o, h⟩) | h
  · exact Or.inl (Or.inl (x _ _ trivial h))
  · exact Or.inl (Or.inr ⟨o, x _ _ trivial h⟩)
  · exact Or.inr h
mutual
theorem Dp.keepL {K : PySem.W.Frag} {H H' : Hp} (x : LKeep H H') : ∀ {d : PyData} {v : V}, Dp K H v d → Dp K H' v d
  | .none, _, .non => .non
  | .bool _, _, .bl b => .bl b
  | .int _, _, .int i => .int i
  | .str _, _, .str y => .str y
  | .list _, _, .lst hs ha => .lst (x.sqL hs) (DpAll.keepL x ha)
  | .tuple _, _, .tup hs ha => .tup (x.sqT hs) (DpAll.keepL x ha)
theorem DpAll.keepL {K : PySem.W.Frag} {H H' : Hp} (x : LKeep H H') : ∀ {ds : List PyData} {vs : List V}, DpAll K H vs ds → DpAll K H' vs ds
  | [], _, .nil => .nil
  | _ :: _, _, .cons h1 h2 => .cons (Dp.keepL x h1) (DpAll.keepL x h2)
end
/-- all but the object at d -/
def mask (H : Hp) (d : Addr) : Hp := fun b => if b = d then none else H b
theorem mask_ne {H : Hp} {d b : Addr} (h : b ≠ d) : mask H d b = H b := if_neg h
theorem mask_some {H : Hp} {d b : Addr} {o : HO} (h : mask H d b = some o) : H b = some o ∧ b ≠ d := by
  unfold mask at h
  split at h
  · cases h
  · rename_i z
    exact ⟨h, z⟩
theorem mask_upd {H : Hp} {d : Addr} {o : HO} : mask (upd H d o) d = mask H d := by
  funext b
  unfold mask
  split
  · rfl
  · rename_i z
    exact upd_ne z
theorem mask_sub (H : Hp) (d : Addr) : Same (mask H d) H := fun b o h => (mask_some h).1
theorem mask_keep {H H' : Hp} {d : Addr} (x : LKeep H H') : LKeep (mask H d) (mask H' d) := fun b u t h => by
  obtain ⟨h1, h2⟩ := mask_some h
  rw [mask_ne h2]
  exact x b u t h1
theorem mask_of {H H' : Hp} {d : Addr} (x : LKeep H H') (nd : H d = none) : LKeep H (mask H' d) := fun b u t h => by
  rw [mask_ne (ne_of_none h nd)]
  exact x b u t h
/-! ### what can be laid, shown -/
structure Ok (d : PyData) : Prop where
  lay : d.canLay0 = true
  sh : d.showable = true
  nd : d.hasDict = false
theorem okAll {ds : List PyData} : (∀ d ∈ ds, Ok d) ↔ (PyData.canLayAll0 ds = true ∧ PyData.showableAll ds = true ∧ PyData.hasDictAll ds = false) := by
  induction ds with
  | nil => exact ⟨fun _ => ⟨rfl, rfl, rfl⟩, fun _ d h => (nomatch h)⟩
  | cons d ds ih =>
    constructor
    · intro h
      obtain ⟨h1, h2, h3⟩ := ih.mp fun e he => h e (List.mem_cons_of_mem _ he)
      have q := h d List.mem_cons_self
      refine ⟨?_, ?_, ?_⟩
      · show (d.canLay0 && PyData.canLayAll0 ds) = true
        rw [q.lay, h1]
        rfl
      · show (d.showable && PyData.showableAll ds) = true
        rw [q.sh, h2]
        rfl
      · show (d.hasDict || PyData.hasDictAll ds) = false
        rw [q.nd, h3]
        rfl
    · rintro ⟨h1, h2, h3⟩
      have h1 : (d.canLay0 && PyData.canLayAll0 ds) = true := h1
      have h2 : (d.showable && PyData.showableAll ds) = true := h2
      have h3 : (d.hasDict || PyData.hasDictAll ds) = false := h3
      rw [Bool.and_eq_true] at h1 h2
      rw [Bool.or_eq_false_iff] at h3
      intro e he
      rcases List.mem_cons.mp he with rfl | he
      · exact ⟨h1.1, h2.1, h3.1⟩
      · exact ih.mpr ⟨h1.2, h2.2, h3.2⟩ e he
theorem Ok.tuple {ds : List PyData} (h : ∀ d ∈ ds, Ok d) : Ok (.tuple ds) := by
  obtain ⟨h1, h2, h3⟩ := okAll.mp h
  exact ⟨by simpa [PyData.canLay0] using h1, by simpa [PyData.showable] using h2, by simpa [PyData.hasDict] using h3⟩
theorem Ok.list {ds : List PyData} (h : ∀ d ∈ ds, Ok d) : Ok (.list ds) := by
  obtain ⟨h1, h2, h3⟩ := okAll.mp h
  exact ⟨by simpa [PyData.canLay0] using h1, by simpa [PyData.showable] using h2, by simpa [PyData.hasDict] using h3⟩
theorem Ok.mem {ds : List PyData} (h : Ok (.tuple ds)) : ∀ d ∈ ds, Ok d := okAll.mpr ⟨by simpa [PyData.canLay0] using h.lay, by simpa [PyData.showable] using h.sh, by simpa [PyData.hasDict] using h.nd⟩
theorem Ok.memL {ds : List PyData} (h : Ok (.list ds)) : ∀ d ∈ ds, Ok d := okAll.mpr ⟨by simpa [PyData.canLay0] using h.lay, by simpa [PyData.showable] using h.sh, by simpa [PyData.hasDict] using h.nd⟩
/-! ### a bound of the length when shown -/
mutual
def wt : PyData → Nat
  | .none => 4
  | .bool _ => 5
  | .int i => i.natAbs.log2 + 2
  | .str y => 10 * y.length + 2
  | .tuple ds => wts ds + 3
  | .list ds => wts ds + 3
  | .dict _ => 0
def wts : List PyData → Nat
  | [] => 0
  | d :: ds => wt d + 2 + wts ds
end
theorem wts_app : ∀ a b : List PyData, wts (a ++ b) = wts a + wts b
  | [], b => by rw [List.nil_append]; show _ = 0 + _; omega
  | d :: a, b => by
    show wt d + 2 + wts (a ++ b) = wt d + 2 + wts a + wts b
    rw [wts_app a b]
    omega
theorem wts_one (d : PyData) : wts [d] = wt d + 2 := rfl
theorem wts_take (n : Nat) : ∀ ds : List PyData, wts (ds.take n) ≤ wts ds := by
  intro ds
  have := wts_app (ds.take n) (ds.drop n)
  rw [List.take_append_drop] at this
  omega
theorem wts_drop (n : Nat) (ds : List PyData) : wts (ds.drop n) ≤ wts ds := by
  have := wts_app (ds.take n) (ds.drop n)
  rw [List.take_append_drop] at this
  omega
theorem wts_rev : ∀ ds : List PyData, wts ds.reverse = wts ds
  | [] => rfl
  | d :: ds => by
    rw [List.reverse_cons, wts_app, wts_rev ds, wts_one]
    show _ = wt d + 2 + wts ds
    omega
theorem wts_mem {d : PyData} : ∀ {ds : List PyData}, d ∈ ds → wt d + 2 ≤ wts ds
  | e :: ds, h => by
    show _ ≤ wt e + 2 + wts ds
    rcases List.mem_cons.mp h with rfl | h
    · omega
    · have := wts_mem h
      omega
theorem wts_len {n : Nat} : ∀ {ds : List PyData}, wts ds ≤ 2 * n → ds.length ≤ n
  | [], _ => Nat.zero_le _
  | d :: ds, h => by
    have h : wt d + 2 + wts ds ≤ 2 * n := h
    have := wts_len (n := n - 1) (ds := ds) (by omega)
    rw [List.length_cons]
    omega
theorem wts_le {n : Nat} : ∀ {ds : List PyData}, (∀ d ∈ ds, wt d + 2 ≤ n) → wts ds ≤ ds.length * n
  | [], _ => Nat.zero_le _
  | d :: ds, h => by
    have h1 := h d List.mem_cons_self
    have h2 := wts_le (ds := ds) fun e he => h e (List.mem_cons_of_mem _ he)
    show wt d + 2 + wts ds ≤ (ds.length + 1) * n
    rw [Nat.succ_mul]
    omega
theorem cps_small {y : Str} (h : PyData.strOk y = true) : ∀ c ∈ y.cps.toList, c < 16 ^ 8 := fun c hc => by
  unfold PyData.strOk at h
  rw [Array.all_eq_true_iff_forall_mem] at h
  have := of_decide_eq_true (h c (by simpa using hc))
  omega
mutual
theorem shown_wt : ∀ d : PyData, Ok d → d.shown.length ≤ wt d
  | .none, _ => by decide +kernel
  | .bool b, _ => by cases b <;> decide +kernel
  | .int i, _ => by
    have e : (PyData.shown (.int i)) = Str.ofString (toString i) := by simp only [PyData.shown]
    rw [e, PySem.ofString_length]
    exact int_text_length_le (k := i.natAbs.log2 + 1) (by omega) (by omega)
  | .str y, h => by
    have e : (PyData.shown (.str y)) = reprText y := by simp only [PyData.shown]
    rw [e]
    exact StrLaws.reprText_len y (cps_small (by simpa [PyData.canLay0] using h.lay))
  | .tuple ds, h => by
    have e : (PyData.shown (.tuple ds)) = tupleText (PyData.shownAll ds) := by simp only [PyData.shown]
    rw [e]
    have l := tupleText_len_le (PyData.shownAll ds)
    have q := shownAll_wt ds h.mem
    show _ ≤ wts ds + 3
    omega
  | .list ds, h => by
    have e : (PyData.shown (.list ds)) = listText (PyData.shownAll ds) := by simp only [PyData.shown]
    rw [e]
    have l := listText_len_le (PyData.shownAll ds)
    have q := shownAll_wt ds h.memL
    show _ ≤ wts ds + 3
    omega
  | .dict _, h => by
    have := h.lay
    simp [PyData.canLay0] at this
theorem shownAll_wt : ∀ ds : List PyData, (∀ d ∈ ds, Ok d) → ((PyData.shownAll ds).map (·.length)).sum + 2 * (PyData.shownAll ds).length ≤ wts ds
  | [], _ => Nat.le_refl _
  | d :: ds, h => by
    have h1 := shown_wt d (h d List.mem_cons_self)
    have h2 := shownAll_wt ds fun e he => h e (List.mem_cons_of_mem _ he)
    show (d.shown.length :: ((PyData.shownAll ds).map (·.length))).sum + 2 * ((PyData.shownAll ds).length + 1) ≤ wt d + 2 + wts ds
    rw [List.sum_cons]
    omega
end
/-- a thing: how deep, how long -/
structure Tg (dp n : Nat) (d : PyData) : Prop where
  ok : Ok d
  dep : d.depth ≤ dp
  wt : wt d ≤ n
theorem Tg.sh {dp n : Nat} {d : PyData} (h : Tg dp n d) : Sh d dp n := ⟨h.ok.sh, h.ok.nd, h.dep, Nat.le_trans (shown_wt d h.ok) h.wt⟩
theorem Tg.mono {dp n dp' n' : Nat} {d : PyData} (h : Tg dp n d) (h1 : dp ≤ dp') (h2 : n ≤ n') : Tg dp' n' d := ⟨h.ok, Nat.le_trans h.dep h1, Nat.le_trans h.wt h2⟩
theorem Tg.shaped {dp n : Nat} {d : PyData} (h : Tg dp n d) (hd : dp ≤ 64) : SeqAt.shaped d = true := by
  unfold SeqAt.shaped
  rw [h.ok.lay, decide_eq_true (Nat.le_trans h.dep hd)]
  rfl
theorem depthAll_mem {d : PyData} : ∀ {ds : List PyData}, d ∈ ds → d.depth ≤ PyData.depthAll ds
  | e :: ds, h => by
    show _ ≤ max e.depth (PyData.depthAll ds)
    rcases List.mem_cons.mp h with rfl | h
    · exact Nat.le_max_left _ _
    · exact Nat.le_trans (depthAll_mem h) (Nat.le_max_right _ _)
theorem depth_tuple (ds : List PyData) : (PyData.tuple ds).depth = PyData.depthAll ds + 1 := by simp only [PyData.depth]
theorem depth_list (ds : List PyData) : (PyData.list ds).depth = PyData.depthAll ds + 1 := by simp only [PyData.depth]
theorem Tg.tuple {dp n : Nat} {ds : List PyData} (h : ∀ d ∈ ds, Ok d ∧ d.depth ≤ dp) (hn : wts ds + 3 ≤ n) : Tg (dp + 1) n (.tuple ds) := by
  refine ⟨Ok.tuple fun d hd => (h d hd).1, ?_, hn⟩
  rw [depth_tuple]
  exact Nat.succ_le_succ (depthAll_le fun d hd => (h d hd).2)
theorem Tg.list {dp n : Nat} {ds : List PyData} (h : ∀ d ∈ ds, Ok d ∧ d.depth ≤ dp) (hn : wts ds + 3 ≤ n) : Tg (dp + 1) n (.list ds) := by
  refine ⟨Ok.list fun d hd => (h d hd).1, ?_, hn⟩
  rw [depth_list]
  exact Nat.succ_le_succ (depthAll_le fun d hd => (h d hd).2)
theorem Tg.each {dp n : Nat} {ds : List PyData} (h : Tg (dp + 1) n (.tuple ds)) : ∀ d ∈ ds, Ok d ∧ d.depth ≤ dp := fun d hd => by
  refine ⟨h.ok.mem d hd, ?_⟩
  have h1 := h.dep
  rw [depth_tuple] at h1
  have := depthAll_mem hd
  omega
theorem Ok.non : Ok .none := ⟨rfl, rfl, rfl⟩
theorem Ok.bl (b : Bool) : Ok (.bool b) := ⟨rfl, rfl, rfl⟩
theorem Ok.int {i : Int} (h : i.natAbs.log2 < 1920) : Ok (.int i) := ⟨rfl, decide_eq_true h, rfl⟩
theorem Ok.str {y : Str} (h : PyData.strOk y = true) : Ok (.str y) := ⟨h, rfl, rfl⟩
/-! ### the kinds -/
def tyD : PyData → String
  | .none => "NoneType"
  | .bool _ => "bool"
  | .int _ => "int"
  | .str _ => "str"
  | .tuple _ => "tuple"
  | .list _ => "list"
  | .dict _ => "dict"
theorem Dp.ty {K : PySem.W.Frag} {H : Hp} {v : V} {d : PyData} (h : Dp K H v d) : TyX K H v (.type (tyD d)) := by
  cases h with
  | non => exact .base .non
  | bl b => exact .base (.bl b)
  | int i => exact .base (.int i)
  | str y => exact .base (.str y)
  | lst hs _ =>
    rcases hs with (h | ⟨o, h⟩) | ⟨o, its, n, hk, hc, _⟩
    · exact .base (.lst h)
    · exact .base (.frz h)
    · exact .kList hk hc
  | tup hs _ =>
    rcases hs with (h | ⟨o, h⟩) | ⟨o, its, n, hk, hc, _⟩
    · exact .base (.tup h)
    · exact .fTuple h
    · exact .kTuple hk hc
def isD (T : String) (d : PyData) : Bool := tyD d == T || (tyD d == "bool" && T == "int")
theorem kitB_tab : ∀ a ∈ ["NoneType", "bool", "int", "str", "tuple", "list"], ∀ b ∈ ["int", "bool", "str", "tuple", "list"], kitB a b = some (a == b || (a == "bool" && b == "int")) := by decide +kernel
theorem kit_isD {K : PySem.W.Frag} {T : String} (hT : T ∈ ["int", "bool", "str", "tuple", "list"]) (d : PyData) (hd : d.canLay0 = true) : PySem.W.kitOne K (.type (tyD d)) (.type T) = some (isD T d) := by
  refine kit_ty (kitB_tab (tyD d) ?_ T hT)
  cases d <;> first
    | (simp [PyData.canLay0] at hd; done)
    | simp [tyD]
/-- isinstance(thing, T) -/
theorem rd_isi {K : PySem.W.Frag} {H : Hp} {v : V} {d : PyData} {T : String} {Q : VK} (h : Dp K H v d) (hd : d.canLay0 = true) (hT : T ∈ ["int", "bool", "str", "tuple", "list"]) (k : Q (.bl (isD T d)) H) : rIsi K [v, .ty T] H Q :=
  ⟨v, .ty T, .type (tyD d), .type T, isD T d, rfl, .ty T, Dp.ty h, kit_isD hT d hd, k⟩
theorem DpAll.three {K : PySem.W.Frag} {H : Hp} {xs : List V} {ds : List PyData} (h : DpAll K H xs ds) (hl : xs.length = 3) : ∃ d0 d1 d2 x0 x1 x2, ds = [d0, d1, d2] ∧ xs = [x0, x1, x2] ∧ Dp K H x0 d0 ∧ Dp K H x1 d1 ∧ Dp K H x2 d2 := by
  cases h with
  | nil => cases hl
  | cons h0 h =>
    cases h with
    | nil => cases hl
    | cons h1 h =>
      cases h with
      | nil => cases hl
      | cons h2 h =>
        cases h with
        | nil => exact ⟨_, _, _, _, _, _, rfl, rfl, h0, h1, h2⟩
        | cons _ _ => simp at hl
/-! ### names that are the built-in ones -/
def NoB (mg : Str → Option Value) (l : List Str) : Prop := ∀ x ∈ l, mg x = none
abbrev BL : List Str := ["isinstance", "int", "bool", "str", "tuple", "list", "len", "range", "repr", "all", "ord", "sorted", "set", "sum", "min", "zip"]
/-- the program's own letters -/
structure Abc (mg : Str → Option Value) : Prop where
  le : ∃ u, mg "LETTERS" = some u ∧ RelV (.str abc) u
  lo : ∃ u, mg "LONGEST_WORD" = some u ∧ RelV (.int 8) u
theorem pe_gl {X : Cx} {x : Str} {v : V} {pos : Pos} (hg : Gl X x) (h : ∃ u, X.mg x = some u ∧ RelV v u) (hd : (x == ("__debug__" : Str)) = false := by decide) : PE X (.Name x pos) (tC v) := by
  obtain ⟨u, h1, h2⟩ := h
  exact pe_glob hg h1 h2 hd
theorem take_mapS {α β : Type} {f : α → β} {l : List α} {i : Nat} {x : α} (h : l[i]? = some x) : (l.take (i + 1)).map f = (l.take i).map f ++ [f x] := by
  rw [take_snoc h, List.map_append]
  rfl
theorem bls_all {α : Type} (f : α → Bool) (l : List α) : (l.map f).all id = l.all f := by
  rw [List.all_map]
  rfl
theorem abc_mem (c : Nat) : decide (c ∈ abc.cps.toList) = decide (97 ≤ c ∧ c ≤ 122) := by
  rw [abc_list, decide_eq_decide, List.mem_range']
  constructor
  · rintro ⟨i, h1, h2⟩
    omega
  · rintro ⟨h1, h2⟩
    exact ⟨c - 97, by omega, by omega⟩
theorem empty_filter {α β : Type} (f : α → Bool) (g : α → β) : ∀ l : List α, ((l.filter fun c => !f c).map g).isEmpty = l.all f
  | [] => rfl
  | a :: l => by
    cases h : f a with
    | false =>
      rw [List.filter_cons_of_pos (by rw [h]; rfl), List.all_cons, h]
      rfl
    | true =>
      rw [List.filter_cons_of_neg (by rw [h]; exact Bool.false_ne_true), List.all_cons, h, Bool.true_and]
      exact empty_filter f g l
/-! ### looks -/
def numD : PyData → Bool
  | .int _ => true
  | _ => false
def manyD : PyData → Bool
  | .int i => decide (1 ≤ i)
  | _ => false
def wordB (y : Str) : Bool := decide (1 ≤ y.length) && decide (y.length ≤ 8) && y.cps.toList.all fun c => decide (c ∈ abc.cps.toList)
def wordD : PyData → Bool
  | .str y => wordB y
  | _ => false
def rowB : PyData → Bool
  | .tuple [a, b, c] => wordD a && wordD b && manyD c
  | _ => false
def rowsB : PyData → Bool
  | .tuple ds => ds.all rowB
  | _ => false
theorem isD_tuple {d : PyData} (h : isD "tuple" d = true) : ∃ ds, d = .tuple ds := by
  cases d with
  | tuple ds => exact ⟨ds, rfl⟩
  | _ => simp [isD, tyD] at h
theorem isD_str {d : PyData} (h : isD "str" d = true) : ∃ y, d = .str y := by
  cases d with
  | str y => exact ⟨y, rfl⟩
  | _ => simp [isD, tyD] at h
theorem isD_int {d : PyData} (h : isD "int" d = true) (h2 : isD "bool" d = false) : ∃ i, d = .int i := by
  cases d with
  | int i => exact ⟨i, rfl⟩
  | bool b => simp [isD, tyD] at h2
  | _ => simp [isD, tyD] at h
theorem num_is (d : PyData) : (isD "int" d && !isD "bool" d) = numD d := by
  cases d <;> simp [isD, tyD, numD]
theorem num_int {d : PyData} (h : numD d = true) : ∃ i, d = .int i := by
  cases d with
  | int i => exact ⟨i, rfl⟩
  | _ => simp [numD] at h
/-- the three truths -/
def dueD (d : PyData) : PyData := .tuple [.bool (numD d), .bool (wordD d), .bool (rowsB d)]
def spDue (K : PySem.W.Frag) : Sp := fun vs H Q _ => ∃ (v : V) (d : PyData), vs = [v] ∧ Dp K H v d ∧ Ok d ∧ wt d ≤ 1000000 ∧ ∀ u H', Same H H' → Dp K H' u (dueD d) → Q u H'
def spLook (K : PySem.W.Frag) (f : PyData → Bool) : Sp := fun vs H Q _ => ∃ (v : V) (d : PyData), vs = [v] ∧ Dp K H v d ∧ Ok d ∧ wt d ≤ 1000000 ∧ ∀ H', Same H H' → Q (.bl (f d)) H'
end PK
/-! All but some lists that grow. -/
namespace PK
open PySem PySem.Spec PyProof.Rows L2
def ms (S : List Addr) (H : Hp) : Hp := fun b => if b ∈ S then none else H b
section
variable {K : PySem.W.Frag} {S : List Addr} {H H' : Hp} {a c o p D : Addr} {x u : HO}
theorem ms_at (h : H p = some u) (n : p ∉ S) : ms S H p = some u := by
  unfold ms
  rw [if_neg n]
  exact h
theorem ms_some (h : ms S H p = some u) : H p = some u ∧ p ∉ S := by
  unfold ms at h
  split at h
  · cases h
  · rename_i z
    exact ⟨h, z⟩
theorem ms_sub : Same (ms S H) H := fun b o h => (ms_some h).1
theorem ms_keep (k : LKeep H H') : LKeep (ms S H) (ms S H') := fun b u t h => by
  obtain ⟨h1, h2⟩ := ms_some h
  exact ms_at (k b u t h1) h2
theorem ms_same (s : Same H H') : LKeep (ms S H) (ms S H') := ms_keep (LKeep.of s)
theorem ms_feed (f : IsFeed H a c) (e : Ext a H H') : LKeep (ms S H) (ms S H') := ms_keep (LKeep.feed f e)
theorem ms_upd (h : o ∈ S) : ms S (upd H o x) = ms S H := by
  funext b
  unfold ms
  split
  · rfl
  · rename_i z
    exact upd_ne (fun e => z (by rw [e]; exact h))
/-- a new list, to be kept out -/
theorem ms_in (nD : H D = none) : LKeep (ms S H) (ms (D :: S) (upd H D x)) := fun b u t h => by
  obtain ⟨h1, h2⟩ := ms_some h
  have n := ne_of_none h1 nD
  exact ms_at (by rw [upd_ne n]; exact h1) (fun z => (List.mem_cons.mp z).elim n h2)
theorem ms_in0 (nD : H D = none) : LKeep H (ms [D] (upd H D x)) := fun b u t h => by
  have n := ne_of_none h nD
  exact ms_at (by rw [upd_ne n]; exact h) (fun z => n (List.mem_singleton.mp z))
theorem ms_out : LKeep (ms (D :: S) H) (ms S H) := fun b u t h => by
  obtain ⟨h1, h2⟩ := ms_some h
  exact ms_at h1 fun z => h2 (List.mem_cons_of_mem _ z)
theorem ms_new (np : H p = none) : LKeep (ms S H) (ms S (upd H p x)) := ms_same (same_new (Same.refl H) np)
theorem ms_get (h : H p = some u) (k : ∀ q ∈ S, ∃ w, H q = some w ∧ w ≠ u) : ms S H p = some u := ms_at h fun z => by
  obtain ⟨w, h1, h2⟩ := k p z
  rw [h] at h1
  exact h2 (Option.some.inj h1).symm
end
theorem Dp.full {K : PySem.W.Frag} {S : List Addr} {H : Hp} {v : V} {d : PyData} (h : Dp K (ms S H) v d) : Dp K H v d := Dp.same ms_sub h
/-- these are lists -/
def Ls (S : List Addr) (H : Hp) : Prop := ∀ q ∈ S, ∃ l, H q = some (.lst l)
theorem Ls.keep {S : List Addr} {H H' : Hp} (h : Ls S H) (k : LKeep H H') : Ls S H' := fun q hq => by
  obtain ⟨l, e⟩ := h q hq
  exact ⟨l, k _ _ trivial e⟩
theorem Ls.same {S : List Addr} {H H' : Hp} (h : Ls S H) (k : Same H H') : Ls S H' := h.keep (LKeep.of k)
theorem Ls.out {S : List Addr} {H : Hp} {p : Addr} (h : Ls S H) (n : H p = none) : p ∉ S := fun z => by
  obtain ⟨l, e⟩ := h p z
  rw [n] at e
  cases e
theorem Ls.cons {S : List Addr} {H : Hp} {p : Addr} {l : List V} (e : H p = some (.lst l)) (h : Ls S H) : Ls (p :: S) H := fun q hq => by
  rcases List.mem_cons.mp hq with rfl | z
  · exact ⟨l, e⟩
  · exact h q z
theorem Ls.set {S : List Addr} {H : Hp} {t : Addr} {l : List V} (h : Ls S H) : Ls S (upd H t (.lst l)) := fun q hq => by
  by_cases z : q = t
  · rw [z]
    exact ⟨l, upd_same⟩
  · rw [upd_ne z]
    exact h q hq
theorem Ls.nil (H : Hp) : Ls [] H := fun _ h => (nomatch h)
theorem sqT_ms {K : PySem.W.Frag} {S : List Addr} {H : Hp} {c : Addr} {xs : List V} (h : SqT K H c xs) (k : Ls S H) : SqT K (ms S H) c xs := by
  rcases h with (h | ⟨o, h⟩) | h
  · exact Or.inl (Or.inl (ms_at h fun z => by
      obtain ⟨l, h1⟩ := k c z
      rw [h] at h1
      cases h1))
  · refine Or.inl (Or.inr ⟨o, ms_at h fun z => ?_⟩)
    obtain ⟨l, h1⟩ := k c z
    rw [h] at h1
    cases h1
  · exact Or.inr h
/-- what is of tuples alone stands apart from all lists -/
theorem tk_ms {S : List Addr} {H : Hp} (k : Ls S H) : TKeep H (ms S H) := fun b u t h => ms_at h fun z => by
  obtain ⟨l, e⟩ := k b z
  rw [h] at e
  cases e
  exact t
end PK
/-! Things bent at some place. -/
namespace PK
open PySem PySem.Spec PyProof.Rows L2
/-! ### how great the numbers are -/
mutual
def mx : PyData → Nat
  | .int i => i.natAbs.log2
  | .tuple ds => mxs ds
  | .list ds => mxs ds
  | _ => 0
def mxs : List PyData → Nat
  | [] => 0
  | d :: ds => max (mx d) (mxs ds)
end
theorem mxs_le {m : Nat} : ∀ {ds : List PyData}, mxs ds ≤ m ↔ ∀ d ∈ ds, mx d ≤ m
  | [] => ⟨fun _ _ h => (nomatch h), fun _ => Nat.zero_le _⟩
  | d :: ds => by
    show max (mx d) (mxs ds) ≤ m ↔ _
    rw [Nat.max_le, mxs_le (ds := ds)]
    constructor
    · rintro ⟨h1, h2⟩ e he
      rcases List.mem_cons.mp he with rfl | he
      · exact h1
      · exact h2 e he
    · exact fun h => ⟨h d List.mem_cons_self, fun e he => h e (List.mem_cons_of_mem _ he)⟩
/-- what is known of a thing: texts, numbers, depth -/
structure Bd (m dp : Nat) (d : PyData) : Prop where
  lay : d.canLay0 = true
  mx : mx d ≤ m
  dep : d.depth ≤ dp
theorem canLay_all {ds : List PyData} : PyData.canLayAll0 ds = true ↔ ∀ d ∈ ds, d.canLay0 = true := by
  induction ds with
  | nil => exact ⟨fun _ _ h => (nomatch h), fun _ => rfl⟩
  | cons d ds ih =>
    show (d.canLay0 && PyData.canLayAll0 ds) = true ↔ _
    rw [Bool.and_eq_true, ih]
    constructor
    · rintro ⟨h1, h2⟩ e he
      rcases List.mem_cons.mp he with rfl | he
      · exact h1
      · exact h2 e he
    · exact fun h => ⟨h d List.mem_cons_self, fun e he => h e (List.mem_cons_of_mem _ he)⟩
mutual
theorem ok_of : ∀ {d : PyData} {m : Nat}, d.canLay0 = true → mx d ≤ m → m < 1920 → Ok d
  | .none, _, _, _, _ => Ok.non
  | .bool b, _, _, _, _ => Ok.bl b
  | .int i, _, _, h, hm => Ok.int (Nat.lt_of_le_of_lt h hm)
  | .str y, _, h, _, _ => Ok.str h
  | .tuple ds, _, h, h2, hm => Ok.tuple (oks_of (by simpa [PyData.canLay0] using h) h2 hm)
  | .list ds, _, h, h2, hm => Ok.list (oks_of (by simpa [PyData.canLay0] using h) h2 hm)
  | .dict _, _, h, _, _ => by simp [PyData.canLay0] at h
theorem oks_of : ∀ {ds : List PyData} {m : Nat}, PyData.canLayAll0 ds = true → mxs ds ≤ m → m < 1920 → ∀ d ∈ ds, Ok d
  | [], _, _, _, _, _, h => (nomatch h)
  | e :: ds, m, h, h2, hm, d, hd => by
    have h : (e.canLay0 && PyData.canLayAll0 ds) = true := h
    have h2 : max (mx e) (mxs ds) ≤ m := h2
    rw [Bool.and_eq_true] at h
    rw [Nat.max_le] at h2
    rcases List.mem_cons.mp hd with z | z
    · rw [z]
      exact ok_of h.1 h2.1 hm
    · exact oks_of h.2 h2.2 hm d z
end
theorem Bd.ok {m dp : Nat} {d : PyData} (h : Bd m dp d) (hm : m < 1920) : Ok d := ok_of h.lay h.mx hm
theorem Bd.mono {m dp m' dp' : Nat} {d : PyData} (h : Bd m dp d) (h1 : m ≤ m') (h2 : dp ≤ dp') : Bd m' dp' d := ⟨h.lay, Nat.le_trans h.mx h1, Nat.le_trans h.dep h2⟩
theorem Bd.tuple {m dp : Nat} {ds : List PyData} (h : ∀ d ∈ ds, Bd m dp d) : Bd m (dp + 1) (.tuple ds) := by
  refine ⟨?_, mxs_le.mpr fun d hd => (h d hd).mx, ?_⟩
  · have := canLay_all.mpr fun d hd => (h d hd).lay
    simpa [PyData.canLay0] using this
  · rw [depth_tuple]
    exact Nat.succ_le_succ (depthAll_le fun d hd => (h d hd).dep)
theorem Bd.list {m dp : Nat} {ds : List PyData} (h : ∀ d ∈ ds, Bd m dp d) : Bd m (dp + 1) (.list ds) := by
  refine ⟨?_, mxs_le.mpr fun d hd => (h d hd).mx, ?_⟩
  · have := canLay_all.mpr fun d hd => (h d hd).lay
    simpa [PyData.canLay0] using this
  · rw [depth_list]
    exact Nat.succ_le_succ (depthAll_le fun d hd => (h d hd).dep)
theorem Bd.mem {m dp : Nat} {ds : List PyData} (h : Bd m (dp + 1) (.tuple ds)) : ∀ d ∈ ds, Bd m dp d := fun d hd => by
  refine ⟨canLay_all.mp (by simpa [PyData.canLay0] using h.lay) d hd, mxs_le.mp h.mx d hd, ?_⟩
  have h1 := h.dep
  rw [depth_tuple] at h1
  have := depthAll_mem hd
  omega
theorem Bd.non {m dp : Nat} : Bd m dp .none := ⟨rfl, Nat.zero_le _, Nat.zero_le _⟩
theorem Bd.bl {m dp : Nat} (b : Bool) : Bd m dp (.bool b) := ⟨rfl, Nat.zero_le _, Nat.zero_le _⟩
theorem Bd.int {m dp : Nat} {i : Int} (h : i.natAbs.log2 ≤ m) : Bd m dp (.int i) := ⟨rfl, h, Nat.zero_le _⟩
theorem Bd.str {m dp : Nat} {y : Str} (h : PyData.strOk y = true) : Bd m dp (.str y) := ⟨h, Nat.zero_le _, Nat.zero_le _⟩
/-! ### slices of data -/
theorem DpAll.drop {K : PySem.W.Frag} {H : Hp} : ∀ (n : Nat) {vs : List V} {ds : List PyData}, DpAll K H vs ds → DpAll K H (vs.drop n) (ds.drop n)
  | 0, _, _, h => h
  | _ + 1, _, _, .nil => .nil
  | n + 1, _, _, .cons _ h2 => DpAll.drop n h2
/-- what is cut out of them -/
theorem DpAll.cut {K : PySem.W.Frag} {H : Hp} {vs : List V} {ds : List PyData} (h : DpAll K H vs ds) (lo hi : Option Int) : ∃ es, DpAll K H (cutV vs lo hi) es ∧ (∀ e ∈ es, e ∈ ds) ∧ wts es ≤ wts ds := by
  unfold cutV
  refine ⟨_, DpAll.take _ (DpAll.drop _ h), fun e he => List.mem_of_mem_drop (List.mem_of_mem_take he), ?_⟩
  exact Nat.le_trans (wts_take _ _) (wts_drop _ _)
/-- a slice of a tuple -/
theorem rd_sl {K : PySem.W.Frag} {H : Hp} {b : Addr} {xs : List V} {lo hi : Option Int} {Q : VK} (hb : SqT K H b xs) (q : ∀ c H', Same H H' → SqT K H' c (cutV xs lo hi) → Q (.ref c) H') :
    (HT.sIx xs.length 0 lo = 0 ∧ HT.sIx xs.length xs.length hi = xs.length → Q (.ref b) H) ∧ (¬ (HT.sIx xs.length 0 lo = 0 ∧ HT.sIx xs.length xs.length hi = xs.length) → ∀ p, H p = none → Q (.ref p) (upd H p (.tup (cutV xs lo hi)))) := by
  refine ⟨fun hw => ?_, fun _ p np => q p _ (same_new (Same.refl H) np) (SqT.of upd_same)⟩
  have e : cutV xs lo hi = xs := by
    unfold cutV
    rw [hw.1, hw.2]
    simp
  have := q b H (Same.refl H)
  rw [e] at this
  exact this hb
/-! ### sums with a truth -/
def asI : V → Option Int
  | .int i => some i
  | .bl b => some (b2i b)
  | _ => none
section
variable {X : Cx}
theorem op_addW : OpR X (binaryOp .Add) (fun x y H Q => ∃ i j, asI x = some i ∧ y = .int j ∧ Q (.int (i + j)) H) := by
  intro pins s σ H x y v u Q I rx ry h
  obtain ⟨i, j, hx, rfl, q⟩ := h
  obtain ⟨t, rfl⟩ := ry
  cases x with
  | int n =>
    cases hx
    exact op_add pins s σ H (.int i) (.int j) v _ Q I rx ⟨t, rfl⟩ ⟨_, _, rfl, rfl, q⟩
  | bl b =>
    cases hx
    cases rx
    exact PySem.IntBool.add_bool_int ⟨.int _, H, I.tok _, ⟨_, rfl⟩, q⟩
  | _ => cases hx
theorem op_subW : OpR X (binaryOp .Sub) (fun x y H Q => ∃ i j, asI x = some i ∧ y = .int j ∧ Q (.int (i - j)) H) := by
  intro pins s σ H x y v u Q I rx ry h
  obtain ⟨i, j, hx, rfl, q⟩ := h
  obtain ⟨t, rfl⟩ := ry
  cases x with
  | int n =>
    cases hx
    exact op_sub pins s σ H (.int i) (.int j) v _ Q I rx ⟨t, rfl⟩ ⟨_, _, rfl, rfl, q⟩
  | bl b =>
    cases hx
    cases rx
    exact PySem.IntBool.sub_bool_int ⟨.int _, H, I.tok _, ⟨_, rfl⟩, q⟩
  | _ => cases hx
/-- str(n), n a number or a truth -/
def txI : V → Str
  | .int i => toString i
  | .bl b => if b then "True" else "False"
  | _ => ""
theorem call_strW : CallR X (.type "str") (fun xs H Q => ∃ x i, xs = [x] ∧ asI x = some i ∧ i.natAbs.log2 < 1920 ∧ Q (.str (txI x)) H) := by
  intro pins s σ H xs us Q I r h
  obtain ⟨x, i, rfl, hx, hl, q⟩ := h
  obtain ⟨u, rfl, ru⟩ := vals1 r
  cases x with
  | int n =>
    cases hx
    obtain ⟨t, rfl⟩ := ru
    exact PySem.P.str_of_int hl ⟨.str _, H, I.tok _, ⟨_, rfl⟩, q⟩
  | bl b =>
    cases hx
    cases ru
    exact PySem.P.str_of_bool ⟨.str _, H, I.tok _, ⟨_, rfl⟩, q⟩
  | _ => cases hx
end
end PK
namespace PK
open PySem PySem.Spec PyProof.Rows L2
/-- a thing bent: some thing -/
def spBent (K : PySem.W.Frag) (n : Nat) : Sp := fun vs H Q _ => ∃ (a c : Addr) (S : List Addr) (v : V) (d : PyData) (m : Nat), vs = [.ref a, v] ∧ IsFeed H a c ∧ Ls S H ∧ Dp K (ms S H) v d ∧ Bd m d.depth d ∧ d.depth < n ∧ 200 ≤ m ∧ m ≤ 1900 ∧ wt d ≤ 100000 ∧
  ∀ (v' : V) (H' : Hp) (d' : PyData), Ext a H H' → IsFeed H' a c → Dp K (ms S H') v' d' → Bd (m + 1) (d.depth + 1) d' → wt d' ≤ 10 * wt d + 250 → Q v' H'
end PK
namespace PK
open PySem PySem.Spec PyProof.Rows L2
theorem cut_to {xs : List V} {k : Nat} (h : k ≤ xs.length) : cutV xs none (some (k : Int)) = xs.take k := by
  unfold cutV
  rw [HT.sIx_none, HT.sIx_nat, Nat.min_eq_left h]
  simp
theorem cut_from {xs : List V} {k : Nat} (h : k ≤ xs.length) : cutV xs (some (k : Int)) none = xs.drop k := by
  unfold cutV
  rw [HT.sIx_none, HT.sIx_nat, Nat.min_eq_left h, List.take_of_length_le (by rw [List.length_drop]; exact Nat.le_refl _)]
theorem log2_succ (n : Nat) : (n + 1).log2 ≤ n.log2 + 1 := by
  have h : n < 2 ^ (n.log2 + 1) := Nat.lt_log2_self
  by_cases z : n + 1 = 2 ^ (n.log2 + 1)
  · rw [z, Nat.log2_two_pow]
    exact Nat.le_refl _
  · have : n + 1 < 2 ^ (n.log2 + 1) := by omega
    have := (Nat.log2_lt (by omega)).mpr this
    omega
theorem log2_mono {a b : Nat} (h : a ≤ b) : a.log2 ≤ b.log2 := by
  by_cases z : a = 0
  · subst z
    simp
  · have h1 : 2 ^ a.log2 ≤ a := Nat.log2_self_le z
    exact (Nat.le_log2 (by omega)).mpr (Nat.le_trans h1 h)
theorem log2_near {i j : Int} (h : i.natAbs ≤ j.natAbs + 1) : i.natAbs.log2 ≤ j.natAbs.log2 + 1 := Nat.le_trans (log2_mono h) (log2_succ _)
theorem strOk_of (s : String) : PyData.strOk (Str.ofString s) = true := by
  unfold PyData.strOk
  rw [Array.all_eq_true_iff_forall_mem]
  intro c hc
  rw [Str.ofString_eq_toList] at hc
  have hc : c ∈ (s.toList.map Char.toNat) := by simpa using hc
  obtain ⟨x, _, rfl⟩ := List.mem_map.mp hc
  have := x.valid
  refine decide_eq_true ?_
  rcases this with h | ⟨_, h⟩
  · have : x.val.toNat < 55296 := h
    show x.val.toNat < 1114112
    omega
  · have : x.val.toNat < 1114112 := h
    exact this
theorem txI_ok {v : V} {i : Int} (h : asI v = some i) : PyData.strOk (txI v) = true ∧ (txI v).length ≤ max 5 (i.natAbs.log2 + 2) := by
  cases v with
  | int n =>
    cases h
    refine ⟨strOk_of _, ?_⟩
    show (Str.ofString (toString i)).length ≤ _
    rw [PySem.ofString_length]
    have := int_text_length_le (a := i) (k := i.natAbs.log2 + 1) (by omega) (by omega)
    omega
  | bl b =>
    cases b <;> exact ⟨by decide +kernel, Nat.le_trans (show _ ≤ 5 by decide +kernel) (Nat.le_max_left _ _)⟩
  | _ => cases h
theorem eqv_unit {ds : List PyData} : PyData.eqv (.tuple ds) (.tuple []) = ds.isEmpty := by
  cases ds with
  | nil => simp [PyData.eqv, PyData.eqvAll]
  | cons d ds => simp [PyData.eqv, PyData.eqvAll]
theorem int_is {K : PySem.W.Frag} {H : Hp} {v : V} {d : PyData} (h : Dp K H v d) (hi : isD "int" d = true) : ∃ i, asI v = some i ∧ (d = .int i ∨ ∃ b, d = .bool b ∧ i.natAbs ≤ 1) := by
  cases h with
  | int i => exact ⟨i, rfl, Or.inl rfl⟩
  | bl b => exact ⟨b2i b, rfl, Or.inr ⟨b, rfl, by cases b <;> decide⟩⟩
  | _ => simp [isD, tyD] at hi
end PK
namespace PK
open PySem PySem.Spec PyProof.Rows L2
/-! ### slices and sums of tuples, wherever the answer lies -/
def rSlB (K : PySem.W.Frag) : V → Option Int → Option Int → Hp → VK → Prop := fun x lo hi H Q => ∃ a xs, x = .ref a ∧ SqT K H a xs ∧ ∀ c H', Same H H' → SqT K H' c (cutV xs lo hi) → Q (.ref c) H'
def rCatB (K : PySem.W.Frag) : R2 := fun x y H Q => ∃ a b xs ys, x = .ref a ∧ y = .ref b ∧ SqT K H a xs ∧ SqT K H b ys ∧ xs.length + ys.length ≤ sizeLine ∧ ∀ c H', Same H H' → SqT K H' c (xs ++ ys) → Q (.ref c) H'
theorem ks_tupB {X : Cx} (K : PySem.W.Frag) (hK : X.K = K := by rfl) : SlR X (rSlB K) := by
  intro pins s σ H x v vl vu lo hi sl Q I rx hs pl pu h
  obtain ⟨a, xs, e, hx, q⟩ := h
  exact ks_tup K hK pins s σ H x v vl vu lo hi sl Q I rx hs pl pu ⟨a, xs, e, hx, rd_sl hx q⟩
theorem ko_catB {X : Cx} (K : PySem.W.Frag) (hK : X.K = K := by rfl) : OpR X (binaryOp .Add) (rCatB K) := by
  intro pins s σ H x y v u Q I rx ry h
  obtain ⟨a, b, xs, ys, e1, e2, ha, hb, hz, q⟩ := h
  refine ko_catA K hK pins s σ H x y v u Q I rx ry ⟨a, b, xs, ys, e1, e2, ha, hb, hz, fun z => ?_, fun _ z => ?_, fun _ _ c nc => q c _ (same_new (Same.refl H) nc) (SqT.of upd_same)⟩
  · subst z
    exact q b H (Same.refl H) hb
  · subst z
    rw [List.append_nil] at q
    exact q a H (Same.refl H) ha
end PK
namespace PK
open PySem PySem.Spec PyProof.Rows L2
theorem wt_two {d : PyData} (h : Ok d) : 2 ≤ wt d := by
  cases d with
  | none => show 2 ≤ 4; decide
  | bool _ => show 2 ≤ 5; decide
  | int i => show 2 ≤ i.natAbs.log2 + 2; omega
  | str y => show 2 ≤ 10 * y.length + 2; omega
  | tuple ds => show 2 ≤ wts ds + 3; omega
  | list ds => show 2 ≤ wts ds + 3; omega
  | dict _ =>
    have := h.lay
    simp [PyData.canLay0] at this
end PK
/-! Texts of drawn signs. -/
namespace PK
open PySem PySem.Spec PyProof.Rows L2
abbrev sgn : Str := " !\"#$&'()*+,-./0123456789:;<=>?@ABCDEFGHIJKLMNOPQRSTUVWXYZ[\\]^_`abcdefghijklmnopqrstuvwxyz{|}~"
/-- signs of seven bits -/
def Low (y : Str) : Prop := ∀ c ∈ y.cps.toList, c < 128
theorem low_ok {y : Str} (h : Low y) : PyData.strOk y = true := by
  unfold PyData.strOk
  rw [Array.all_eq_true_iff_forall_mem]
  intro c hc
  have := h c (by simpa using hc)
  exact decide_eq_true (by omega)
theorem sgn_low : Low sgn := by
  have : (sgn.cps.toList.all fun c => decide (c < 128)) = true := by decide +kernel
  exact fun c hc => of_decide_eq_true (List.all_eq_true.mp this c hc)
theorem sgn_len : sgn.length = 94 := by decide +kernel
theorem abc_low : Low abc := by
  have : (abc.cps.toList.all fun c => decide (c < 128)) = true := by decide +kernel
  exact fun c hc => of_decide_eq_true (List.all_eq_true.mp this c hc)
theorem abc_len26 : abc.length = 26 := by decide +kernel
theorem cps_len (y : Str) : y.cps.toList.length = y.length := by simp [Str.length]
theorem low_at {y : Str} {i : Int} (h : Low y) (h0 : 0 ≤ i) (h1 : i < (y.length : Nat)) : ∃ c, atI y.cps.toList i = some c ∧ c < 128 := by
  obtain ⟨k, rfl⟩ := Int.eq_ofNat_of_zero_le h0
  have hk : k < y.cps.toList.length := by rw [cps_len]; omega
  exact ⟨_, atI_nat (List.getElem?_eq_getElem hk), h _ (List.getElem_mem hk)⟩
theorem low_one {c : Nat} (h : c < 128) : Low ⟨#[c]⟩ := fun d hd => by
  have e : d = c := by simpa using hd
  rw [e]; exact h
theorem low_app {x y : Str} (hx : Low x) (hy : Low y) : Low (x ++ y) := fun d hd => by
  rw [mem_cps_append] at hd
  rcases hd with z | z
  · exact hx d z
  · exact hy d z
theorem low_cut {y : Str} (h : Low y) (lo hi : Option Int) : Low (cutS y lo hi) ∧ (cutS y lo hi).length ≤ y.length := by
  unfold cutS
  constructor
  · intro c hc
    have hc : c ∈ (y.cps.toList.drop (HT.sIx y.length 0 lo)).take (HT.sIx y.length y.length hi - HT.sIx y.length 0 lo) := by simpa using hc
    exact h c (List.mem_of_mem_drop (List.mem_of_mem_take hc))
  · show (List.toArray _).size ≤ _
    rw [List.size_toArray, List.length_take, List.length_drop, cps_len]
    omega
theorem low_join {l : List Nat} (h : ∀ d ∈ l, d < 128) : Low (Txt.join ⟨#[]⟩ (l.map fun k => (⟨#[k]⟩ : Str))) ∧ (Txt.join ⟨#[]⟩ (l.map fun k => (⟨#[k]⟩ : Str))).length = l.length := by
  rw [TL.join_eq, join_ones]
  exact ⟨fun c hc => h c (by simpa using hc), by simp [Str.length]⟩
theorem ones_sum (l : List Nat) : ((l.map fun x => (⟨#[x]⟩ : Str)).map (·.length)).sum = l.length := by
  rw [List.map_map]
  induction l with
  | nil => rfl
  | cons y r ih =>
    rw [List.map_cons, List.sum_cons, ih]
    show 1 + r.length = r.length + 1
    omega
/-- a drawn text -/
def spText : Sp := fun vs H Q _ => ∃ (a c : Addr), vs = [.ref a] ∧ IsFeed H a c ∧ ∀ (y : Str) (H' : Hp), Ext a H H' → IsFeed H' a c → Low y → y.length ≤ 24 → Q (.str y) H'
end PK
namespace PK
open PySem PySem.Spec PyProof.Rows L2
/-- what is known of a value, said once -/
def tCut (te : TE) : TE := fun σ H Q => ∃ R : VK, te σ H R ∧ ∀ v H', R v H' → Q v H'
theorem pe_cut {X : Cx} {e : Expr} {te : TE} (h : PE X e te) : PE X e (tCut te) := by
  refine ⟨fun pins s σ H Q I g => ?_⟩
  obtain ⟨R, g1, g2⟩ := g
  refine wpAny_mono (h.run pins s σ H R I g1) (fun u s' z => ?_) fun _ _ z => z
  obtain ⟨v, H', I', r, z⟩ := z
  exact ⟨v, H', I', r, g2 v H' z⟩
/-- a drawn thing -/
def spThing (K : PySem.W.Frag) : Sp := fun vs H Q _ => ∃ (a c : Addr) (S : List Addr), vs = [.ref a] ∧ IsFeed H a c ∧ Ls S H ∧ ∀ (v : V) (H' : Hp) (d : PyData), Ext a H H' → IsFeed H' a c → Dp K (ms S H') v d → Bd 700 3 d → wt d ≤ 1000 → Q v H'
theorem num_log {n : Int} {k : Nat} (h0 : 0 ≤ n) (h : n < 100 * 1000000 ^ k) (hk : k ≤ 33) : n.natAbs.log2 ≤ 700 := by
  have h1 : n.natAbs < 2 ^ 700 := by
    have e := Int.ofNat_le.mpr (Nat.pow_le_pow_right (n := 1000000) (by decide) hk)
    rw [Int.natCast_pow, Int.natCast_pow] at e
    have e2 : (100 * ((1000000 : Nat) : Int) ^ 33) ≤ ((2 ^ 700 : Nat) : Int) := by decide +kernel
    have h : n < 100 * ((1000000 : Nat) : Int) ^ k := h
    generalize ((1000000 : Nat) : Int) ^ k = w at e h
    generalize ((1000000 : Nat) : Int) ^ 33 = u at e e2
    generalize (2 ^ 700 : Nat) = v at e2
    omega
  by_cases z : n.natAbs = 0
  · rw [z]
    decide
  · exact Nat.le_of_lt ((Nat.log2_lt z).mpr h1)
end PK
/-! Things that are kept in lists that grow: all but these lists. -/
namespace PK
open PySem PySem.Spec PyProof.Rows L2
/-- things near rows: a new list -/
def spNear (K : PySem.W.Frag) : Sp := fun vs H Q _ => ∃ (a c : Addr) (S : List Addr) (v : V) (L : List PRow), vs = [.ref a, v] ∧ IsFeed H a c ∧ Ls S H ∧ Dp K H v (rowsD L) ∧ RowsOk 6 1000000000 L ∧
  ∀ (p : Addr) (us : List V) (ds : List PyData) (H' : Hp), H p = none → Ext a H H' → IsFeed H' a c → H' p = some (.lst us) → DpAll K (ms (p :: S) H') us ds → (∀ d ∈ ds, Bd 703 5 d) → wts ds ≤ 300000 → ds.length ≤ 100 → Q (.ref p) H'
theorem word_wt {y : Str} (h : Word y) : wt (.str y) ≤ 82 := by
  have := h.eight
  show 10 * y.length + 2 ≤ 82
  omega
theorem int_wt {i : Int} (h0 : 1 ≤ i) (h1 : i ≤ 1000000000) : i.natAbs.log2 ≤ 29 := by
  have : i.natAbs ≤ 2 ^ 30 - 1 := by omega
  have h := log2_mono this
  have e : (2 ^ 30 - 1).log2 = 29 := by decide +kernel
  omega
theorem prow_bd {r : PRow} (h : PRowOk 1000000000 r) : Bd 29 1 (prowD r) ∧ wt (prowD r) ≤ 204 := by
  have l := int_wt h.lo h.hi
  constructor
  · refine Bd.tuple fun z hz => ?_
    simp only [List.mem_cons, List.not_mem_nil, or_false] at hz
    rcases hz with rfl | rfl | rfl
    · exact Bd.str (word_ok h.f)
    · exact Bd.str (word_ok h.s)
    · exact Bd.int l
  · have := word_wt h.f
    have := word_wt h.s
    show wt (.str r.1) + 2 + (wt (.str r.2.1) + 2 + (r.2.2.natAbs.log2 + 2 + 2 + 0)) + 3 ≤ 204
    omega
theorem rows_bd {n : Nat} {L : List PRow} (h : RowsOk n 1000000000 L) : Bd 29 2 (rowsD L) ∧ wts (L.map prowD) ≤ L.length * 206 := by
  constructor
  · refine Bd.tuple fun z hz => ?_
    obtain ⟨r, hr, rfl⟩ := List.mem_map.mp hz
    exact (prow_bd (h.each r hr)).1
  · have := wts_le (n := 206) (ds := L.map prowD) fun d hd => by
      obtain ⟨r, hr, rfl⟩ := List.mem_map.mp hd
      have := (prow_bd (h.each r hr)).2
      omega
    rw [List.length_map] at this
    exact this
end PK
namespace PK
open PySem PySem.Spec PyProof.Rows L2

section
variable {P : Program} {w : World} {K : PySem.W.Frag} {mg mb : Str → Option Value} {k : Nat} {fa a : Addr} {fd : FuncData} {x : Str} {sp : Sp}
  {s₁ : Shared} {vs : List Value} {ns : List Int}
abbrev AllTrue (s₁ : Shared) : Result → Shared → Prop :=
  fun r s' => r = .ok (.ret (.bool true)) ∧ OldK s₁.heap s'.heap ∧ s'.os = s₁.os ∧ AllBare s'.gens

/-- what is hidden are the tracked objects: here at most the script -/
theorem core_of {H : Hp} (KX : K.In s₁.heap) (hns : s₁.heap.Ns mainGlobals mg) (hb : s₁.heap.Ns builtinsNs mb)
    (hbb : ∀ y : Str, y ≠ "__name__" → mb y = bootBuiltins y) (hlim : s₁.heap.NoLimit) (hg : s₁.gens = #[])
    (ha : s₁.heap.get? a = some { cls := .type "list", data := .seq vs.toArray }) (hr : Room k callerA)
    (F : ∀ base : Heap, K.In base → base.Ns mainGlobals mg → FnG P w K mg base CX0 k fa fd [x] sp)
    (hbind : ∀ (s : Shared) (u : Value), BindsTo s fd ⟨[u], []⟩ [(x, u)])
    (hO : Only H) (hS : sp [.ref a] H (fun v _ => v = .bl true) fun _ _ _ => False) (hok : HOk P w H s₁.heap)
    (hA : ∀ b u, H b = some u → b = a) (hK : ∀ u, H a = some u → K.lookup a = none) :
    codeAny (model P w) callerA (.call (.ref fa) ⟨[.ref a], []⟩) (AllTrue s₁) s₁ := by
  have free : ∀ {b : Addr} {o : Obj}, s₁.heap.get? b = some o → (∀ es ep, o.data = .dict es ep → True) → (∃ es ep, o.data = .dict es ep) → H b = none := by
    intro b o e _ ⟨es, ep, d⟩
    cases q : H b with
    | none => rfl
    | some u =>
      have e1 := hA b u q
      rw [e1, ha] at e
      rw [← Option.some.inj e] at d
      cases d
  have toNs : ∀ {b : Addr} {m : Str → Option Value}, s₁.heap.Ns b m → (hidT s₁.heap H).Ns b m := by
    rintro b m ⟨o, es, ep, e, d, r⟩
    exact ⟨o, es, ep, hidT_get e (free e (fun _ _ _ => trivial) ⟨es, ep, d⟩), d, r⟩
  have KB : K.In (hidT s₁.heap H) := by
    intro b o e
    refine hidT_get (KX b o e) ?_
    cases q : H b with
    | none => rfl
    | some u =>
      have e1 := hA b u q
      subst e1
      rw [hK u q] at e
      cases e
  obtain ⟨mc, l1, l2⟩ := hlim
  have M : Mod K mg (hidT s₁.heap H) := ⟨KB, toNs hns, ⟨mb, toNs hb, hbb⟩, ⟨mc, toNs l1, l2⟩⟩
  have e0 : Env0 P w K mg (hidT s₁.heap H) callerA [] s₁ H :=
    { frames := rfl, mod := M, bs := fun b o e => of_hidT e, bsz := Nat.le_of_eq (hidT_size _ _), funs := trivial,
      frf := fun b z => absurd z (List.not_mem_nil), hok := hok, bare := .of_eq hg }
  refine codeAny_mono ((F _ KB (toNs hns)).go (us := [.ref a]) (vs := [.ref a]) rfl hr e0 (hbind s₁ (.ref a)) (.cons rfl .nil) hS) ?_
  intro res s' h
  match res, h with
  | .error _, h => exact h.elim
  | .ok .next, h => exact h.elim
  | .ok .brk, h => exact h.elim
  | .ok .cont, h => exact h.elim
  | .ok (.ret u), h =>
    obtain ⟨v, H', os, bare, un, hok', rv, ev⟩ := h
    have ev' : v = .bl true := ev
    subst ev'
    cases rv
    refine ⟨rfl, OldK.of_keep fun b o e => ?_, os, bare⟩
    rcases hO b with z | ⟨ob, xs, z⟩
    · exact un.keep b o e z (by intro z'; cases z') (by intro z'; cases z')
    · have z2 := hok' b _ (un.frzs b ob _ z)
      have z1 := hok b _ z
      have e1 : ob = o := Option.some.inj (z1.1.symm.trans e)
      rw [← e1]
      exact z2.1

theorem law_goG (KX : K.In s₁.heap) (hns : s₁.heap.Ns mainGlobals mg) (hb : s₁.heap.Ns builtinsNs mb)
    (hbb : ∀ y : Str, y ≠ "__name__" → mb y = bootBuiltins y) (hlim : s₁.heap.NoLimit) (hg : s₁.gens = #[])
    (ha : s₁.heap.get? a = some { cls := .type "list", data := .seq vs.toArray }) (hi : IntsAre vs ns) (hl : ns.length ≤ sizeLine) (hr : Room k callerA)
    (F : ∀ base : Heap, K.In base → base.Ns mainGlobals mg → FnG P w K mg base CX0 k fa fd [x] sp)
    (hbind : ∀ (s : Shared) (u : Value), BindsTo s fd ⟨[u], []⟩ [(x, u)])
    (hsp : ∀ H : Hp, Only H → SqL K H a (ns.map V.int) → sp [.ref a] H (fun v _ => v = .bl true) fun _ _ _ => False) :
    codeAny (model P w) callerA (.call (.ref fa) ⟨[.ref a], []⟩) (AllTrue s₁) s₁ := by
  have rv := vals_ints hi
  have lz : (ns.map V.int).length ≤ sizeLine := by rw [List.length_map]; exact hl
  cases hk : K.lookup a with
  | some o =>
    have e : o = _ := Option.some.inj ((KX a o hk).symm.trans ha)
    have hO : Only (fun _ => none) := fun _ => Or.inl rfl
    refine core_of (H := fun _ => none) KX hns hb hbb hlim hg ha hr F hbind hO (hsp _ hO ?_) (fun _ _ z => by cases z) (fun _ _ z => by cases z) (fun _ z => by cases z)
    refine Or.inr ⟨o, vs.toArray, 0, hk, ?_, ?_, ?_, ?_, ?_⟩
    · rw [e]
    · rw [e]
    · rw [e]
    · rw [List.size_toArray, hi.length]; exact hl
    · simpa using rv
  | none =>
    let ob : Obj := { cls := .type "list", data := .seq vs.toArray }
    let Hs : Hp := upd (fun _ => none) a (.frz ob (.lst (ns.map V.int)))
    have hO : Only Hs := fun b => by
      by_cases z : b = a
      · subst z
        exact Or.inr ⟨ob, _, upd_same⟩
      · exact Or.inl (upd_ne z)
    have only : ∀ b u, Hs b = some u → b = a ∧ u = .frz ob (.lst (ns.map V.int)) := fun b u q => by
      by_cases z : b = a
      · subst z
        rw [show Hs b = _ from upd_same] at q
        exact ⟨rfl, (Option.some.inj q).symm⟩
      · rw [show Hs b = _ from upd_ne z] at q
        cases q
    refine core_of (H := Hs) KX hns hb hbb hlim hg ha hr F hbind hO (hsp _ hO (Or.inl (Or.inr ⟨ob, upd_same⟩))) (fun b u q => ?_) (fun b u q => (only b u q).1) (fun _ _ => hk)
    obtain ⟨rfl, rfl⟩ := only b u q
    exact ⟨ha, lz, vs, 0, rv, ha⟩
end

theorem walk_ofG {l : PySem.W.OpenLaw} {n k : Nat} {q : Program} {loose : List Str} {XP : (Str → Option Value) → Heap → Prop} {YP : World → Heap → Prop}
    {d : DefRec} {K : Params → PySem.W.Frag} {sp : World → Sp} {x : Str}
    (hn : l.most = some n) (hn2 : n ≤ sizeLine) (hdf : d.params.defaults = []) (hr : Room k callerA)
    (hY : ∀ (w : World) (h : Heap), YP w h → (K w.params).In h)
    (F : ∀ (w : World) (mg : Str → Option Value) (fa : Addr) (h : Heap), (K w.params).In h → h.Ns mainGlobals mg → mg d.name = some (.ref fa) →
      ∃ fd : FuncData, (∀ (s : Shared) (u : Value), BindsTo s fd ⟨[u], []⟩ [(x, u)]) ∧
        ∀ base : Heap, (K w.params).In base → base.Ns mainGlobals mg → FnG l.prog w (K w.params) mg base CX0 k fa fd [x] (sp w))
    (hsp : ∀ (w : World) (H : Hp) (a : Addr) (ns : List Int), ns.length ≤ n → Only H → SqL (K w.params) H a (ns.map V.int) →
      sp w [.ref a] H (fun v _ => v = .bl true) fun _ _ _ => False) :
    PySem.W.WalkO q loose XP YP l.row.toRowW d [] (fun f vs => PySem.call f vs) := by
  refine Att.attach_call hn hdf ?_
  intro w s₀ s₁ mg mb fa o pm cd doc a vs ns G Y ho hd hcd hmg hobj hints hlen hg
  have KX := hY w _ Y
  obtain ⟨fd, hb, hF⟩ := F w mg fa _ KX G.T.g hmg
  exact law_goG KX G.T.g G.T.b G.T.builtins G.T.nolimit hg hobj hints (Nat.le_trans hlen hn2) hr hF hb fun H hO hS => hsp w H a ns hlen hO hS
end PK
namespace K01
open PySem PySem.Spec PyProof.Rows L2 PK
def topS (i : Nat) : Stmt := PySem.Challenge.pw_partkits_k01_kinds.main.body.getD i (.Pass ⟨0, 0, 0, 0⟩)
abbrev NFeed : List Str := ["_law_script"]
theorem scFeed : FnScope NFeed ["_law_script"] (defScope (topS 9)) := ⟨rfl, rfl, rfl, by decide +kernel, rfl, by decide +kernel, by decide +kernel⟩
section
variable {P : Program} {w : World} {K : PySem.W.Frag} {mg : Str → Option Value} {base : Heap}
def spFeed (K : PySem.W.Frag) : Sp := fun vs H Q _ => ∃ (a : Addr) (ns : List Int), vs = [.ref a] ∧ SqL K H a (ns.map V.int) ∧
  ∀ p c H', H p = none → Same H H' → IsFeed H' p c → Q (.ref p) H'
theorem ok_feed {f : Addr} {fd : FuncData} {k : Nat} (F : Fun K "_law_feed" "_law_feed" (topS 9) f fd) (hL : mg "list" = none) :
    FnOk P w K mg base CX0 (k + 1) f fd ["_law_script"] (spFeed K) := by
  refine F.ok scFeed (fun vs H Q E h => ?_) (fun cdv A outer s H vs Q E hr h => ?_)
  · obtain ⟨a, ns, rfl, _⟩ := h
    rfl
  · obtain ⟨a, ns, rfl, hS, q⟩ := h
    refine ⟨_, (pss_one (ps_ret (pe_disp (pps_cons pe_str (pe_callTy (k_list K) (by rfl) hL (by decide +kernel) (pa_cons (pe_slice (ks_list K) (pv 0) po_none (po_some pe_int)) pa_nil)) (pps_cons pe_str pe_int (pps_cons pe_str pe_int (pps_cons pe_str pe_int pps_nil)))) (by rfl) (by rfl) (fun z => by cases z) (by decide)))), ?_⟩
    intro p np
    have sp : Same H (upd H p (.dK [])) := same_new (Same.refl H) np
    refine ⟨.ref a, rfl, 63, rfl, a, ns.map V.int, rfl, sp.seq hS, fun c nc => ?_⟩
    have ncp : c ≠ p := fun e => by
      rw [e, upd_same] at nc
      cases nc
    refine ⟨c, _, rfl, .inl (.inl (.inl upd_same)), fun d nd => ?_⟩
    have ndp : d ≠ p := fun e => by
      rw [e, upd_ne ncp.symm, upd_same] at nd
      cases nd
    refine ⟨?_, feed d 0 0 0, rfl, by show 4 ≤ 15; decide, ?_⟩
    · rw [upd_ne ndp.symm, upd_ne ncp.symm, upd_same]
    · rw [feed_merge]
      have s2 : Same H (upd (upd (upd H p (.dK [])) c (.lst (cutV (ns.map V.int) none (some 63)))) d (.lst (cutV (ns.map V.int) none (some 63)))) := same_new (same_new sp nc) nd
      refine q p d _ np (same_own s2 np) ⟨(ns.drop (HT.sIx ns.length 0 none)).take (HT.sIx ns.length ns.length (some 63) - HT.sIx ns.length 0 none), 0, 0, 0, upd_same, ?_, by decide⟩
      rw [upd_ne ndp, upd_same]
      unfold cutV
      rw [List.map_take, List.map_drop, List.length_map]
end
abbrev NDraw : List Str := ["_law_feed_here", "_law_many_here", "_law_figure", "_law_at", "_law_cell", "_law_mixed"]
theorem scDraw : FnScope NDraw ["_law_feed_here", "_law_many_here"] (defScope (topS 10)) := ⟨rfl, rfl, rfl, by decide +kernel, rfl, by decide +kernel, by decide +kernel⟩
section
variable {P : Program} {w : World} {K : PySem.W.Frag} {mg : Str → Option Value} {base : Heap}
theorem ok_draw {f : Addr} {fd : FuncData} {k : Nat} (F : Fun K "_law_draw" "_law_draw" (topS 10) f fd) (hl : mg "len" = none) :
    FnOk P w K mg base CX0 (k + 1) f fd ["_law_feed_here", "_law_many_here"] spDraw := by
  refine F.ok scDraw (fun vs H Q E h => ?_) (fun cdv A outer s H vs Q E hr h => ?_)
  · obtain ⟨a, c, m, rfl, _⟩ := h
    rfl
  · obtain ⟨a, c, m, rfl, ⟨cs, i, l, n, fd⟩, m0, m1, q⟩ := h
    have e0 : Ext a H H := Ext.refl a H
    refine ⟨_, (pss_cons (ps_dput (hu_of hr) (pv 0) pe_str (pe_op op_add (pe_dget (hu_of hr) (pv 0) pe_str (fun _ _ => rfl)) pe_int) rfl)
  (pss_cons (ps_if (pt_cmpR op_gt (pe_dget (hu_of hr) (pv 0) pe_str (fun _ _ => rfl)) pe_int (nomark _))
  (pss_cons (ps_set (i := 2) scDraw.nd rfl (.inl rfl) (pe_op op_mod (pe_dget (hu_of hr) (pv 0) pe_str (fun _ _ => rfl)) (pv 1)))
  (pss_cons (ps_dput (hu_of hr) (pv 0) pe_str (pe_op op_fdiv (pe_dget (hu_of hr) (pv 0) pe_str (fun _ _ => rfl)) (pv 1)) rfl)
  (pss_one (ps_ret (pv 2))))) pss_nil)
  (pss_cons (ps_set (i := 3) scDraw.nd rfl (.inl rfl) (pe_dget (hu_of hr) (pv 0) pe_str (fun _ _ => rfl)))
  (pss_cons (ps_dput (hu_of hr) (pv 0) pe_str (pe_op op_add (pv 3) pe_int) rfl)
  (Evl.pss_cut (ps_set (i := 4) scDraw.nd rfl (.inl rfl) (pe_ifExp (pt_cmpR (ko_neNil K hr) (pe_dget (hu_of hr) (pv 0) pe_str (fun _ _ => rfl)) (pe_lst pa_nil) (nomark _)) (pe_ix (kx_list K) (pe_dget (hu_of hr) (pv 0) pe_str (fun _ _ => rfl)) (pe_op op_mod (pv 3) (pe_callB (k_len K) (by rfl) hl PySem.boot_len (pa_cons (pe_dget (hu_of hr) (pv 0) pe_str (fun _ _ => rfl)) pa_nil))) (fun _ _ => rfl)) pe_int))
  (Evl.pss_cut (ps_if (PW.pt (pw_and (pt_cmpR op_ge (pv 4) (pe_op op_pow pe_int pe_int) (nomark _)) (pw_and1 (pt_cmpR op_lt (pv 3) (pe_callB (k_len K) (by rfl) hl PySem.boot_len (pa_cons (pe_dget (hu_of hr) (pv 0) pe_str (fun _ _ => rfl)) pa_nil)) (nomark _)))))
  (pss_cons (ps_dput (hu_of hr) (pv 0) pe_str (pe_op op_fdiv (pv 4) (pv 1)) rfl)
  (pss_one (ps_ret (pe_op op_mod (pv 4) (pv 1))))) pss_nil)
  (pss_cons (ps_set (i := 5) scDraw.nd rfl (.inl rfl) (pe_op op_mod (pe_op op_add (pe_op op_add (pe_op op_mod (pv 4) pe_int) (pe_op op_mul pe_int (pe_dget (hu_of hr) (pv 0) pe_str (fun _ _ => rfl)))) pe_int) pe_int))
  (pss_cons (ps_set (i := 5) scDraw.nd rfl (.inl rfl) (pe_op op_mod (pe_op op_add (pe_op op_add (pe_op op_mul (pv 5) (pv 5)) (pe_op op_mul pe_int (pe_dget (hu_of hr) (pv 0) pe_str (fun _ _ => rfl)))) pe_int) pe_int))
  (pss_one (ps_ret (pe_op op_mod (pe_op op_fdiv (pe_op op_mod (pe_op op_add (pe_op op_mul (pv 5) (pv 5)) (pe_op op_mul pe_int (pv 5))) pe_int) pe_int) (pv 1)))))))))))), ?_⟩
    refine ⟨.ref a, rfl, a, .int n, rfl, DGet.k (k := kN) fd.d, n, 1, rfl, rfl, .ref a, rfl, a, _, rfl, DPut.k (k := kN) fd.d (feed_len c i l n), ?_⟩
    rw [feed_putN]
    have f1 := fd.put (l' := l) (n' := n + 1) fd.i0
    have e1 : Ext a H (upd H a (.dK (feed c i l (n + 1)))) := e0.at
    generalize upd H a (.dK (feed c i l (n + 1))) = H1 at f1 e1
    refine ⟨.ref a, rfl, a, .int l, rfl, DGet.k (k := kL) f1.d, l, 0, rfl, rfl, _, rfl, ite2 (fun hl0 => ?_) (fun hl0 => ?_)⟩
    · have hl0 : 0 < l := of_decide_eq_true hl0
      refine ⟨.ref a, rfl, a, .int l, rfl, DGet.k (k := kL) f1.d, .int m, rfl, l, m, rfl, rfl, m0, ?_⟩
      refine ⟨.ref a, rfl, a, .int l, rfl, DGet.k (k := kL) f1.d, .int m, rfl, l, m, rfl, rfl, ⟨m0, by omega⟩, .ref a, rfl, a, _, rfl, DPut.k (k := kL) f1.d (feed_len c i l (n + 1)), ?_⟩
      rw [feed_putL]
      refine ⟨.int (l % m), rfl, q _ _ (Int.emod_nonneg _ (by omega)) (Int.emod_lt_of_pos _ m0) e1.at ?_⟩
      exact ⟨cs, _, _, _, f1.put f1.i0⟩
    · refine ⟨.ref a, rfl, a, .int i, rfl, DGet.k (k := kA) f1.d, .int i, rfl, i, 1, rfl, rfl, .ref a, rfl, a, _, rfl, DPut.k (k := kA) f1.d (feed_len c i l (n + 1)), ?_⟩
      rw [feed_putA]
      have i1 : 0 ≤ i + 1 := by have := f1.i0; omega
      have f2 := f1.put (l' := l) (n' := n + 1) i1
      have e2 : Ext a H (upd H1 a (.dK (feed c (i + 1) l (n + 1)))) := e1.at
      generalize upd H1 a (.dK (feed c (i + 1) l (n + 1))) = H2 at f2 e2
      -- the cell
      refine ⟨fun σ H3 => ∃ z, σ = [some (.ref a), some (.int m), none, some (.int i), some (.int z), none] ∧ Feed H3 a c cs (i + 1) l (n + 1) ∧ Ext a H H3, ?_, ?_⟩
      · refine ⟨.ref a, rfl, a, .ref c, rfl, DGet.k (k := kC) f2.d, Nat.zero_le _, fun p np => ⟨c, p, cs.map V.int, rfl, rfl, .inl (.inl ((f2.new np).l)), .inl (.inl upd_same), ?_⟩⟩
        have f3 := f2.new (o := .lst []) np
        have e3 : Ext a H (upd H2 p (.lst [])) := e2.new np
        generalize upd H2 p (.lst []) = H3 at f3 e3
        cases cs with
        | nil => exact ⟨_, rfl, iteF ⟨8, rfl, f3, e3⟩⟩
        | cons x r =>
          have hlen : (((x :: r).map V.int).length : Int) = ((r.length + 1 : Nat) : Int) := by
            rw [List.length_map, List.length_cons]
          refine ⟨_, rfl, iteT ⟨.ref a, rfl, a, .ref c, rfl, DGet.k (k := kC) f3.d, .int i, rfl, .ref a, rfl, a, .ref c, rfl, DGet.k (k := kC) f3.d, c, _, rfl, .inl (.inl (.inl f3.l)), i, _, rfl, rfl, ?_, ?_⟩⟩
          · rw [hlen]
            omega
          · have hb : (i % ((((x :: r).map V.int).length : Nat) : Int)).toNat < (x :: r).length := by
              rw [hlen, List.length_cons]
              have h1 := Int.emod_nonneg i (show ((r.length + 1 : Nat) : Int) ≠ 0 by omega)
              have h2 := Int.emod_lt_of_pos i (show (0 : Int) < ((r.length + 1 : Nat) : Int) by omega)
              omega
            have h0 : 0 ≤ i % ((((x :: r).map V.int).length : Nat) : Int) := Int.emod_nonneg _ (by rw [hlen]; omega)
            refine ⟨c, _, _, .int ((x :: r)[(i % ((((x :: r).map V.int).length : Nat) : Int)).toNat]), rfl, rfl, .inl (.inl f3.l), at_of (j := (i % ((((x :: r).map V.int).length : Nat) : Int)).toNat) (by omega) ?_, ?_⟩
            · rw [List.getElem?_map, List.getElem?_eq_getElem hb]
              rfl
            · exact ⟨_, rfl, f3, e3⟩
      · rintro σ H3 ⟨z, rfl, f3, e3⟩
        -- a great cell, or a lesser one
        refine ⟨fun σ H4 => σ = [some (.ref a), some (.int m), none, some (.int i), some (.int z), none] ∧ H4 = H3, ?_, ?_⟩
        · refine ⟨.int z, rfl, 10, 18, rfl, rfl, ⟨by decide, by decide, by decide⟩, _, _, rfl, rfl, _, rfl, ite2 (fun hz => ?_) (fun hz => iteF ⟨rfl, rfl⟩)⟩
          refine ⟨.int i, rfl, .ref a, rfl, a, .ref c, rfl, DGet.k (k := kC) f3.d, c, _, rfl, .inl (.inl (.inl f3.l)), _, _, rfl, rfl, _, rfl, ite2 (fun h2 => ?_) (fun h2 => ⟨rfl, rfl⟩)⟩
          refine ⟨.int z, rfl, .int m, rfl, z, m, rfl, rfl, ⟨m0, by omega⟩, .ref a, rfl, a, _, rfl, DPut.k (k := kL) f3.d (feed_len c (i + 1) l (n + 1)), ?_⟩
          rw [feed_putL]
          refine ⟨.int z, rfl, .int m, rfl, z, m, rfl, rfl, m0, q _ _ (Int.emod_nonneg _ (by omega)) (Int.emod_lt_of_pos _ m0) e3.at ?_⟩
          exact ⟨cs, _, _, _, f3.put f3.i0⟩
        · rintro σ H4 ⟨rfl, rfl⟩
          have fin : IsFeed H4 a c := ⟨cs, _, _, _, f3⟩
          refine ⟨.int z, rfl, z, 1000000033, rfl, rfl, (show (0 : Int) < 1000000033 by decide), .ref a, rfl, a, .int (n + 1), rfl, DGet.k (k := kN) f3.d, 70001, n + 1, rfl, rfl, .inl ⟨by decide, by decide⟩, _, _, rfl, rfl, _, 37, rfl, rfl, _, 2147483587, rfl, rfl, (show (0 : Int) < 2147483587 by decide), ?_⟩
          dsimp only
          have hx0 := Int.emod_nonneg (z % 1000000033 + 70001 * (n + 1) + 37) (show (2147483587 : Int) ≠ 0 by decide)
          have hx1 := Int.emod_lt_of_pos (z % 1000000033 + 70001 * (n + 1) + 37) (show (0 : Int) < 2147483587 by decide)
          generalize (z % 1000000033 + 70001 * (n + 1) + 37) % 2147483587 = x at hx0 hx1
          refine ⟨.int x, rfl, .int x, rfl, x, x, rfl, rfl, .inl ⟨by omega, by omega⟩, .ref a, rfl, a, .int (n + 1), rfl, DGet.k (k := kN) f3.d, 6700417, n + 1, rfl, rfl, .inl ⟨by decide, by decide⟩, _, _, rfl, rfl, _, 7, rfl, rfl, _, 2147483563, rfl, rfl, (show (0 : Int) < 2147483563 by decide), ?_⟩
          dsimp only
          have hy0 := Int.emod_nonneg (x * x + 6700417 * (n + 1) + 7) (show (2147483563 : Int) ≠ 0 by decide)
          have hy1 := Int.emod_lt_of_pos (x * x + 6700417 * (n + 1) + 7) (show (0 : Int) < 2147483563 by decide)
          generalize (x * x + 6700417 * (n + 1) + 7) % 2147483563 = y at hy0 hy1
          refine ⟨.int y, rfl, .int y, rfl, y, y, rfl, rfl, .inl ⟨by omega, by omega⟩, .int y, rfl, 17, y, rfl, rfl, .inl ⟨by decide, by decide⟩, _, _, rfl, rfl, _, 2147483549, rfl, rfl, (show (0 : Int) < 2147483549 by decide), _, 8, rfl, rfl, ⟨by decide, by decide⟩, .int m, rfl, _, m, rfl, rfl, m0, ?_⟩
          exact q _ _ (Int.emod_nonneg _ (by omega)) (Int.emod_lt_of_pos _ m0) e3 fin
end
end K01
namespace K01
open PySem PySem.Spec PyProof.Rows L2 PK
abbrev NNames : List Str := ["_law_feed_here", "_law_many_here", "_law_letters", "_law_found", "_law_at", "_law_k", "_law_tail", "_law_j"]
theorem scNames : FnScope NNames ["_law_feed_here", "_law_many_here"] (defScope (topS 11)) := ⟨rfl, rfl, rfl, by decide +kernel, rfl, by decide +kernel, by decide +kernel⟩
section
variable {P : Program} {w : World} {K : PySem.W.Frag} {mg : Str → Option Value} {base : Heap}
set_option maxHeartbeats 8000000 in
theorem ok_names {f fD : Addr} {fd fdD : FuncData} {k : Nat} (F : Fun K "_law_names" "_law_names" (topS 11) f fd)
    (D : Cal P w K mg base 1 "_law_draw" fD fdD ["_law_feed_here", "_law_many_here"] spDraw) (hl : mg "len" = none) (hR : mg "range" = none) :
    FnOk P w K mg base CX0 (k + 2) f fd ["_law_feed_here", "_law_many_here"] spNames := by
  refine F.ok scNames (fun vs H Q E h => ?_) (fun cdv A outer s H vs Q E hr h => ?_)
  · obtain ⟨a, c, m, rfl, _⟩ := h
    rfl
  · obtain ⟨a, c, m, rfl, fe, m0, m1, q⟩ := h
    refine ⟨_, (pss_cons (ps_set (i := 2) scNames.nd rfl (.inr rfl) pe_str)
  (pss_cons (ps_set (i := 3) scNames.nd rfl (.inl rfl) (pe_lst pa_nil))
  (pss_cons (ps_set (i := 4) scNames.nd rfl (.inl rfl) (pe_call D.ok (hr.mono (Nat.le_add_left 1 k)) (by rfl) D.g D.kp D.b .nil pass0 (pa_cons (pv 0) (pa_cons pe_int pa_nil))))
  (pss_cons (ps_for PassesOwn.never rfl (pi_range1 (by rfl) hR (pa_cons (pv 1) pa_nil)) (pg_name (i := 5) scNames.nd rfl (.inl rfl))
  (pss_one (ps_if (PW.pt (pw_and (pt_cmpR (ko_neNil K hr) (pv 3) (pe_lst pa_nil) (nomark _)) (pw_and (pt_cmpR op_lt (pe_callB call_len_str (by rfl) hl PySem.boot_len (pa_cons (pe_ix (kx_list K) (pv 3) (pe_un un_neg pe_int) (fun _ _ => rfl)) pa_nil)) pe_int (nomark _)) (pw_and1 (pt_cmpR op_eq (pe_call D.ok (hr.mono (Nat.le_add_left 1 k)) (by rfl) D.g D.kp D.b .nil pass0 (pa_cons (pv 0) (pa_cons pe_int pa_nil))) pe_int (nomark _))))))
  (pss_one (ps_expr (pe_bm PySem.F.plainAttrs_list PySem.F.slot_list_append PySem.F.type_list_append mt_append (pv 3) (pa_cons (pe_op op_add_str (pe_ix (kx_list K) (pv 3) (pe_un un_neg pe_int) (fun _ _ => rfl)) (pe_ix ix_str (pv 2) (pe_call D.ok (hr.mono (Nat.le_add_left 1 k)) (by rfl) D.g D.kp D.b .nil pass0 (pa_cons (pv 0) (pa_cons pe_int pa_nil))) (fun _ _ => rfl))) pa_nil)))) (pss_cons (ps_set (i := 4) scNames.nd rfl (.inl rfl) (pe_op op_add (pv 4) pe_int))
  (pss_cons (ps_setLc (i := 6) (own := [("_law_j", 7)]) rfl scNames.nd rfl rfl (sw_true rfl rfl rfl (by decide +kernel)) (pi_range1 (by rfl) hR (pa_cons (pe_ix (kx_list K) (pe_lst (pa_cons pe_int (pa_cons pe_int (pa_cons pe_int (pa_cons pe_int pa_nil))))) (pe_call D.ok (hr.mono (Nat.le_add_left 1 k)) (by rfl) D.g D.kp D.b .nil pass0 (pa_cons (pv 0) (pa_cons pe_int pa_nil))) (fun _ _ => rfl)) pa_nil)) (blkOk_by (N := NNames) (sc := defScope (topS 11)) (own := [("_law_j", 7)]) (by decide +kernel)) (fun _ _ _ _ _ => (pg_name (i := 7) scNames.nd rfl (.inl rfl))) (fun _ _ _ _ _ => pts_nil) (fun _ _ _ _ _ => (pe_ix ix_str (pv 2) (pe_call D.ok (hr.mono (Nat.le_add_left 1 k)) (by rfl) D.g D.kp D.b .nil pass0 (pa_cons (pv 0) (pa_cons pe_int pa_nil))) (fun _ _ => rfl))))
  (pss_one (ps_expr (pe_bm PySem.F.plainAttrs_list PySem.F.slot_list_append PySem.F.type_list_append mt_append (pv 3) (pa_cons (pe_op op_add_str (pe_ix ix_str (pv 2) (pe_op op_mod (pv 4) pe_int) (fun _ _ => rfl)) (pe_join pe_str (pv 6))) pa_nil)))))))))
  (pss_one (ps_ret (pv 3))))))), ?_⟩
    refine ⟨Nat.zero_le _, fun o no => ?_⟩
    have noc := fe.ne no
    have noa := noc.1
    have s1 : Ext a H (upd H o (.lst [])) := (Ext.refl a H).new no
    refine ⟨.ref a, rfl, a, c, 26, rfl, fe.new no, by decide, by decide, fun at0 H1 _ _ e1 f1 => ?_⟩
    have eo1 : H1 o = some (.lst []) := e1 o _ upd_same noa
    have x1 : Ext a H H1 := s1.trans e1
    refine ⟨.int m, rfl, m, rfl, by omega, by omega, for_range (lo := 0) (n := m.toNat) (fun k σ H2 => ∃ (ws : List Str) (z : Int) (y5 y6 : Option V),
      σ = [some (.ref a), some (.int m), some (.str abc), some (.ref o), some (.int z), y5, y6, none] ∧ ws.length = k ∧ (∀ y ∈ ws, Word y) ∧
      H2 o = some (.lst (ws.map V.str)) ∧ Ext a H H2 ∧ IsFeed H2 a c) ?_ ?_ ?_⟩
    · exact ⟨[], at0, none, none, rfl, rfl, fun _ h => (nomatch h), eo1, x1, f1⟩
    · rintro k σ H2 hk ⟨ws, z, y5, y6, rfl, hlen, hw, eo, x2, f2⟩
      have small : (ws.map V.str).length < sizeLine := by
        rw [List.length_map]
        exact small1000 (by omega)
      -- the new word stands at the end
      have put : ∀ (y : Str) (H3 : Hp), Word y → Ext a H2 H3 → IsFeed H3 a c → ∀ (z' : Int) (y6' : Option V), ∃ (ws' : List Str) (z2 : Int) (y5' y6'' : Option V),
          [some (.ref a), some (.int m), some (.str abc), some (.ref o), some (.int z'), some (V.int (0 + k)), y6', none] =
            [some (.ref a), some (.int m), some (.str abc), some (.ref o), some (.int z2), y5', y6'', none] ∧ ws'.length = k + 1 ∧ (∀ y ∈ ws', Word y) ∧
          upd H3 o (.lst (ws.map V.str ++ [.str y])) o = some (.lst (ws'.map V.str)) ∧ Ext a H (upd H3 o (.lst (ws.map V.str ++ [.str y]))) ∧ IsFeed (upd H3 o (.lst (ws.map V.str ++ [.str y]))) a c := by
        intro y H3 hy e3 f3 z' y6'
        refine ⟨ws ++ [y], z', _, y6', rfl, by rw [List.length_append, hlen]; rfl, fun v hv => ?_, ?_, (x2.trans e3).own no, ?_⟩
        · rcases List.mem_append.mp hv with h | h
          · exact hw v h
          · rw [List.mem_singleton.mp h]; exact hy
        · rw [upd_same, List.map_append]
          rfl
        · exact f3.own noc
      show tIfS _ _ _ _ _ _
      refine if_else (fun H3 => Ext a H2 H3 ∧ IsFeed H3 a c) (fun H3 ⟨e3, f3⟩ => ?_) (fun other => ?_)
      · -- another word: one to eight signs
        have eo3 := e3 o _ eo noa
        refine ⟨.int z, rfl, z, 1, rfl, rfl, Nat.le_trans (by decide : (4 : Nat) ≤ 4) (by decide : (4 : Nat) ≤ sizeLine), fun p np => ?_⟩
        have npc := f3.ne np
        refine ⟨.ref a, rfl, a, c, 4, rfl, f3.new np, by decide, by decide, fun r H4 r0 r1 e4 f4 => ?_⟩
        have ep4 : H4 p = some (.lst [.int 0, .int 0, .int 1, .int 7]) := e4 p _ upd_same npc.1
        have hr' : ∃ n : Nat, n ≤ 7 ∧ atI [V.int 0, .int 0, .int 1, .int 7] r = some (.int n) := by
          have : r = 0 ∨ r = 1 ∨ r = 2 ∨ r = 3 := by omega
          rcases this with rfl | rfl | rfl | rfl
          · exact ⟨0, by decide, rfl⟩
          · exact ⟨0, by decide, rfl⟩
          · exact ⟨1, by decide, rfl⟩
          · exact ⟨7, by decide, rfl⟩
        obtain ⟨n, n7, en⟩ := hr'
        refine ⟨p, _, r, .int n, rfl, rfl, .inl (.inl ep4), en, n, rfl, by omega, by omega, fun d nd => ?_⟩
        have x4 : Ext a H2 H4 := (e3.new np).trans e4
        have ndc := f4.ne nd
        have eo4 : H4 o = some (.lst (ws.map V.str)) := x4 o _ eo noa
        refine lc_range (lo := 0) (n := (n : Int).toNat) (fun j H5 => ∃ l : List Nat, l.length = j ∧ (∀ x ∈ l, Lw x) ∧ H5 d = some (.lst ((l.map fun x => (⟨#[x]⟩ : Str)).map V.str)) ∧ Ext a H4 H5 ∧ IsFeed H5 a c) ?_ ?_ ?_
        · exact ⟨[], rfl, fun _ h => (nomatch h), upd_same, (Ext.refl a H4).new nd, f4.new nd⟩
        · rintro j H5 hj ⟨l, ll, lw, ed, e5, f5⟩
          refine ⟨rfl, .str abc, rfl, .ref a, rfl, a, c, 26, rfl, f5, by decide, by decide, fun r H6 r0 r1 e6 f6 => ?_⟩
          obtain ⟨x, ex, hx⟩ := abc_at r0 r1
          refine ⟨abc, r, x, rfl, rfl, abc_len, ex, _, e6 d _ ed ndc.1, ?_, l ++ [x], by rw [List.length_append, ll]; rfl, fun v hv => ?_, ?_, (e5.trans e6).own nd, f6.own ndc⟩
          · rw [List.length_map, List.length_map]
            exact small1000 (by omega)
          · rcases List.mem_append.mp hv with h | h
            · exact lw v h
            · rw [List.mem_singleton.mp h]; exact hx
          · rw [upd_same, List.map_append, List.map_append]
            rfl
        · rintro H5 ⟨l, ll, lw, ed, e5, f5⟩
          have z0 := Int.emod_nonneg (z + 1) (show (26 : Int) ≠ 0 by decide)
          have z1 := Int.emod_lt_of_pos (z + 1) (show (0 : Int) < 26 by decide)
          obtain ⟨x, ex, hx⟩ := abc_at z0 z1
          have l7 : l.length ≤ 7 := by omega
          have x5 : Ext a H2 H5 := x4.trans e5
          have eo5 := x5 o _ eo noa
          have wd := word_join hx l7 lw
          refine ⟨.ref o, rfl, .inl ⟨rfl, _, .inl (.inl eo5)⟩, .str abc, rfl, .int (z + 1), rfl, z + 1, 26, rfl, rfl, (show (0 : Int) < 26 by decide), abc, _, x, rfl, rfl, abc_len, ex, ⟨_, rfl⟩, .ref d, rfl, _, d, _, rfl, rfl, .inl (.inl (.inl ed)), ?_, _, _, rfl, rfl, ?_, o, _, _, rfl, rfl, eo5, small, put _ H5 wd x5 f5 _ _⟩
          · have e0 : ((l.map fun x => (⟨#[x]⟩ : Str)).map (·.length)).sum = l.length := by
              rw [List.map_map]
              clear ed lw ll l7 wd
              induction l with
              | nil => rfl
              | cons y r ih =>
                rw [List.map_cons, List.sum_cons, ih]
                show 1 + r.length = r.length + 1
                omega
            rw [e0]
            have e1 : ((Str.ofString "").length : Nat) = 0 := rfl
            rw [List.length_map, e1]
            omega
          · have := wd.eight
            rw [strLen_append] at this
            exact Nat.le_trans this (by decide)
      · -- is there one, and short?
        refine ⟨.ref o, rfl, Nat.zero_le _, fun p np => ⟨o, p, ws.map V.str, rfl, rfl, .inl (.inl (by rw [upd_ne (ne_of_none eo np)]; exact eo)), .inl (.inl upd_same), ?_⟩⟩
        have x3 : Ext a H2 (upd H2 p (.lst [])) := (Ext.refl a H2).new np
        have f3 := f2.new (o := .lst []) np
        have eo3 := x3 o _ eo noa
        generalize upd H2 p (.lst []) = H3 at x3 f3 eo3
        by_cases hn : ws = []
        · subst hn
          exact ⟨_, rfl, iteF (iteF (other H3 ⟨x3, f3⟩))⟩
        · have he : (!(ws.map V.str).isEmpty) = true := by
            cases ws with
            | nil => exact absurd rfl hn
            | cons _ _ => rfl
          rw [he]
          have wl : Word (ws.getLast hn) := hw _ (List.getLast_mem hn)
          refine ⟨_, rfl, iteT ⟨.ref o, rfl, 1, rfl, o, _, -1, _, rfl, rfl, .inl (.inl eo3), strs_last hn, _, rfl, Nat.le_trans wl.eight (by decide), _, 8, rfl, rfl, _, rfl, ite2 (fun h8 => ?_) (fun h8 => iteF (other H3 ⟨x3, f3⟩))⟩⟩
          have h8 : ((ws.getLast hn).length : Int) < 8 := of_decide_eq_true h8
          refine ⟨.ref a, rfl, a, c, 3, rfl, f3, by decide, by decide, fun r H4 r0 r1 e4 f4 => ⟨rfl, _, rfl, ?_⟩⟩
          have x4 : Ext a H2 H4 := x3.trans e4
          refine ite2 (fun hr0 => ?_) (fun hr0 => other H4 ⟨x4, f4⟩)
          have eo4 := x4 o _ eo noa
          refine ⟨.ref o, rfl, .inl ⟨rfl, _, .inl (.inl eo4)⟩, .ref o, rfl, 1, rfl, o, _, -1, _, rfl, rfl, .inl (.inl eo4), strs_last hn, .str abc, rfl, .ref a, rfl, a, c, 26, rfl, f4, by decide, by decide, fun r2 H5 s0 s1 e5 f5 => ?_⟩
          obtain ⟨x, ex, hx⟩ := abc_at s0 s1
          have x5 : Ext a H2 H5 := x4.trans e5
          refine ⟨abc, r2, x, rfl, rfl, abc_len, ex, _, _, rfl, rfl, ?_, o, _, _, rfl, rfl, x5 o _ eo noa, small, put _ H5 (word_snoc wl (by omega) hx) x5 f5 _ _⟩
          rw [len_one]
          exact Nat.le_trans (show _ ≤ 9 by omega) (by decide)
    · rintro σ H2 ⟨ws, z, y5, y6, rfl, hlen, hw, eo, x2, f2⟩
      exact ⟨.ref o, rfl, q o H2 ws no x2 f2 eo (by omega) hw⟩
end
end K01
namespace K01
open PySem PySem.Spec PyProof.Rows L2 PK
theorem dp_rep {K : PySem.W.Frag} {H : Hp} {v : V} {e : PyData} (h : Dp K H v e) : ∀ n : Nat, DpAll K H (List.replicate n [v]).flatten (List.replicate n e)
  | 0 => .nil
  | n + 1 => .cons h (dp_rep h n)
theorem due_sh (e : PyData) : Sh (dueD e) 1 30 := by
  refine (Tg.tuple (dp := 0) (n := 30) (ds := [.bool (numD e), .bool (wordD e), .bool (rowsB e)]) (fun z hz => ?_) (by show 5 + 2 + (5 + 2 + (5 + 2 + 0)) + 3 ≤ 30; decide)).sh
  simp only [List.mem_cons, List.not_mem_nil, or_false] at hz
  rcases hz with rfl | rfl | rfl <;> exact ⟨Ok.bl _, Nat.le_refl _⟩
/-- one of thirty rows changed -/
theorem wide_bd {W : List PyData} {k : Nat} {e : PyData} (l : W.length = 30) (hW : ∀ z ∈ W, Bd 703 4 z ∧ wt z + 2 ≤ 50) (he : Bd 703 4 e) (we : wt e + 2 ≤ 50) :
    Bd 703 5 (.tuple (W.take k ++ [e] ++ W.drop (k + 1))) ∧ wt (.tuple (W.take k ++ [e] ++ W.drop (k + 1))) ≤ 3100 := by
  have w0 : wts W ≤ 30 * 50 := by
    have := wts_le fun z hz => (hW z hz).2
    rw [l] at this
    exact this
  constructor
  · refine Bd.tuple fun z hz => ?_
    rcases List.mem_append.mp hz with hz | hz
    · rcases List.mem_append.mp hz with hz | hz
      · exact (hW z (List.mem_of_mem_take hz)).1
      · rw [List.mem_singleton.mp hz]
        exact he
    · exact (hW z (List.mem_of_mem_drop hz)).1
  · have e1 := wts_take k W
    have e2 := wts_drop (k + 1) W
    show wts _ + 3 ≤ 3100
    rw [wts_app, wts_app, wts_one]
    omega
def spLaw (K : PySem.W.Frag) : Sp := fun vs H Q _ => ∃ (a : Addr) (ns : List Int), vs = [.ref a] ∧ SqL K H a (ns.map V.int) ∧ ∀ H', Q (.bl true) H'
abbrev NLaw : List Str := ["_law_script", "_law_feed_here", "_law_things", "_law_k", "_law_forms", "_law_shades", "_law_wide", "_law_at", "_law_before", "_law_thing_here"]
theorem scLaw : FnScope NLaw ["_law_script"] (defScope (topS 21)) := ⟨rfl, rfl, rfl, by decide +kernel, rfl, by decide +kernel, by decide +kernel⟩
section
variable {P : Program} {w : World} {K : PySem.W.Frag} {mg : Str → Option Value} {base : Heap}
-- names: ["_law_script", "_law_feed_here", "_law_things", "_law_k", "_law_forms", "_law_shades", "_law_wide", "_law_at", "_law_before", "_law_thing_here"] cells {'_law_feed_here'}
theorem ok_law {f fF fD fN fL fT fE f1 f2 f3 f4 : Addr} {fd fdF fdD fdN fdL fdT fdE fd1 fd2 fd3 fd4 : FuncData} (F : Fun K "law" "law" (topS 21) f fd) (hB : NoB mg BL) (Fe : Cal P w K mg base 1 "_law_feed" fF fdF ["_law_script"] (spFeed K)) (Dr : Cal P w K mg base 1 "_law_draw" fD fdD ["_law_feed_here", "_law_many_here"] spDraw)
    (Nm : Cal P w K mg base 2 "_law_names" fN fdN ["_law_feed_here", "_law_many_here"] spNames) (Lr : Cal P w K mg base 3 "_law_rows" fL fdL ["_law_feed_here", "_law_forms", "_law_shades", "_law_most_now"] (spLRows K))
    (Th : Cal P w K mg base 3 "_law_thing" fT fdT ["_law_feed_here"] (spThing K)) (Ne : Cal P w K mg base 8 "_law_near" fE fdE ["_law_feed_here", "_law_rows_here"] (spNear K))
    (Nu : Cal P w K mg base 1 "is_number" f1 fd1 ["thing"] (spLook K numD)) (Wo : Cal P w K mg base 1 "is_word" f2 fd2 ["thing"] (spLook K wordD)) (Rs : Cal P w K mg base 4 "is_part_rows" f3 fd3 ["thing"] (spLook K rowsB))
    (Du : Cal P w K mg base 2 "_law_due" f4 fd4 ["_law_thing_here"] (spDue K)) :
    FnG P w K mg base CX0 9 f fd ["_law_script"] (spLaw K) := by
  refine funG_ok F scLaw (fun vs H Q E h => ?_) (fun cdv A outer s H vs Q E hgd hr h => ?_)
  · obtain ⟨a, ns, rfl, _⟩ := h
    rfl
  · obtain ⟨a, ns, rfl, hS, q⟩ := h
    refine ⟨_, (pss_cons (ps_set (i := 1) scLaw.nd rfl (.inr rfl) (pe_call Fe.ok (hr.mono (by decide)) (by rfl) Fe.g Fe.kp Fe.b .nil pass0 (pa_cons (pv 0) pa_nil)))
  (pss_cons (ps_setLc (i := 2) (own := [("_law_k", 3)]) rfl scLaw.nd rfl rfl (sw_true rfl rfl rfl (by decide +kernel)) (pi_range1 (by rfl) (hB "range" (by decide +kernel)) (pa_cons pe_int pa_nil)) (blkOk_by (N := NLaw) (sc := defScope (topS 21)) (own := [("_law_k", 3)]) (by decide +kernel)) (fun _ _ _ _ _ => (pg_name (i := 3) scLaw.nd rfl (.inl rfl))) (fun _ _ _ _ _ => pts_nil) (fun _ _ _ _ _ => (pe_call Th.ok (hr.mono (by decide)) (by rfl) Th.g Th.kp Th.b .nil pass0 (pa_cons (pv 1) pa_nil))))
  (Evl.pss_cut (ps_for PassesOwn.never rfl (pi_range1 (by rfl) (hB "range" (by decide +kernel)) (pa_cons pe_int pa_nil)) (pg_name (i := 3) scLaw.nd rfl (.inl rfl))
  (pss_cons (ps_par (i := 4) (j := 5) (by rfl) scLaw.nd rfl rfl (by decide) rfl rfl (pa_cons (pe_call Nm.ok (hr.mono (by decide)) (by rfl) Nm.g Nm.kp Nm.b .nil pass0 (pa_cons (pv 1) (pa_cons (pe_op op_add pe_int (pe_call Dr.ok (hr.mono (by decide)) (by rfl) Dr.g Dr.kp Dr.b .nil pass0 (pa_cons (pv 1) (pa_cons pe_int pa_nil)))) pa_nil))) (pa_cons (pe_call Nm.ok (hr.mono (by decide)) (by rfl) Nm.g Nm.kp Nm.b .nil pass0 (pa_cons (pv 1) (pa_cons (pe_op op_add pe_int (pe_call Dr.ok (hr.mono (by decide)) (by rfl) Dr.g Dr.kp Dr.b .nil pass0 (pa_cons (pv 1) (pa_cons pe_int pa_nil)))) pa_nil))) pa_nil)) (by rfl))
  (pss_one (ps_expr (pe_bm PySem.F.plainAttrs_list PySem.F.slot_list_extend PySem.F.type_list_extend mt_extend (pv 2) (pa_cons (pe_call Ne.ok (hr.mono (by decide)) (by rfl) Ne.g Ne.kp Ne.b .nil pass0 (pa_cons (pv 1) (pa_cons (pe_call Lr.ok (hr.mono (by decide)) (by rfl) Lr.g Lr.kp Lr.b .nil pass0 (pa_cons (pv 1) (pa_cons (pv 4) (pa_cons (pv 5) (pa_cons pe_int pa_nil))))) pa_nil))) pa_nil))))))
  (pss_cons (ps_par (i := 6) (j := 7) (by rfl) scLaw.nd rfl rfl (by decide) rfl rfl (pa_cons (pe_op (ko_repA K) (pe_tup (pa_cons (pe_tup (pa_cons pe_str (pa_cons pe_str (pa_cons pe_int pa_nil)))) pa_nil)) pe_int) (pa_cons (pe_call Dr.ok (hr.mono (by decide)) (by rfl) Dr.g Dr.kp Dr.b .nil pass0 (pa_cons (pv 1) (pa_cons pe_int pa_nil))) pa_nil)) (by rfl))
  (Evl.pss_cut (ps_expr (pe_bm PySem.F.plainAttrs_list PySem.F.slot_list_extend PySem.F.type_list_extend mt_extend (pv 2) (pa_cons (pe_lst (pa_cons (pv 6) (pa_cons (pe_op (ko_catB K) (pe_op (ko_catB K) (pe_slice (ks_tupB K) (pv 6) po_none (po_some (pv 7))) (pe_tup (pa_cons (pe_tup (pa_cons pe_str (pa_cons pe_str (pa_cons pe_int pa_nil)))) pa_nil))) (pe_slice (ks_tupB K) (pv 6) (po_some (pe_op op_add (pv 7) pe_int)) po_none)) (pa_cons (pe_op (ko_catB K) (pe_op (ko_catB K) (pe_slice (ks_tupB K) (pv 6) po_none (po_some (pv 7))) (pe_tup (pa_cons pe_non pa_nil))) (pe_slice (ks_tupB K) (pv 6) (po_some (pe_op op_add (pv 7) pe_int)) po_none)) pa_nil)))) pa_nil)))
  (pss_cons (ps_set (i := 8) scLaw.nd rfl (.inl rfl) (pe_callB (k_repr K hgd hr) (by rfl) (hB "repr" (by decide +kernel)) (by decide +kernel) (pa_cons (pv 2) pa_nil)))
  (pss_cons (ps_for PassesOwn.never rfl (pk_list K (pv 2)) (pg_name (i := 9) scLaw.nd rfl (.inl rfl))
  (pss_one (ps_if (pt_cmpR op_ne (pe_callB (k_repr K hgd hr) (by rfl) (hB "repr" (by decide +kernel)) (by decide +kernel) (pa_cons (pe_tup (pa_cons (pe_call Nu.ok (hr.mono (by decide)) (by rfl) Nu.g Nu.kp Nu.b .nil pass0 (pa_cons (pv 9) pa_nil)) (pa_cons (pe_call Wo.ok (hr.mono (by decide)) (by rfl) Wo.g Wo.kp Wo.b .nil pass0 (pa_cons (pv 9) pa_nil)) (pa_cons (pe_call Rs.ok (hr.mono (by decide)) (by rfl) Rs.g Rs.kp Rs.b .nil pass0 (pa_cons (pv 9) pa_nil)) pa_nil)))) pa_nil)) (pe_callB (k_repr K hgd hr) (by rfl) (hB "repr" (by decide +kernel)) (by decide +kernel) (pa_cons (pe_call Du.ok (hr.mono (by decide)) (by rfl) Du.g Du.kp Du.b .nil pass0 (pa_cons (pv 9) pa_nil)) pa_nil)) (nomark _))
  (pss_one (ps_ret pe_bl)) pss_nil)))
  (pss_one (ps_ret (pe_cmpR op_eq (pe_callB (k_repr K hgd hr) (by rfl) (hB "repr" (by decide +kernel)) (by decide +kernel) (pa_cons (pv 2) pa_nil)) (pv 8) (nomark _))))))))))), ?_⟩
    refine ⟨.ref a, rfl, a, ns, rfl, hS, fun fe c H1 nfe s1 f1 => ?_⟩
    refine ⟨10, rfl, by decide, by decide, fun d nd => ?_⟩
    have ndc := f1.ne nd
    refine lc_range (lo := 0) (n := (10 : Int).toNat) (fun i G => ∃ (us : List V) (ds : List PyData), G d = some (.lst us) ∧ DpAll K (ms [d] G) us ds ∧ (∀ e ∈ ds, Bd 703 5 e) ∧ wts ds ≤ i * 1002 ∧ ds.length = i ∧ Ext fe H1 G ∧ IsFeed G fe c) ⟨[], [], upd_same, .nil, fun _ h => (nomatch h), Nat.zero_le _, rfl, (Ext.refl fe H1).new nd, f1.new nd⟩ ?_ ?_
    · rintro i G hi ⟨us, ds, ed, du, bd, wd, ld, xG, fG⟩
      have hi : i < 10 := hi
      refine ⟨rfl, .ref fe, rfl, fe, c, [d], rfl, fG, Ls.cons ed (Ls.nil _), fun v G1 e x1 f1' dv be we => ?_⟩
      have mu : ms [d] (upd G1 d (.lst (us ++ [v]))) = ms [d] G1 := ms_upd (by simp)
      refine ⟨us, x1 d _ ed ndc.1, ?_, us ++ [v], ds ++ [e], upd_same, by rw [mu]; exact DpAll.snoc dv (DpAll.keepL (ms_feed fG x1) du), fun z hz => ?_, ?_, by rw [List.length_append, ld]; rfl, (xG.trans x1).own nd, f1'.own ndc⟩
      · rw [DpAll.len du, ld]
        exact small1000 (by omega)
      · rcases List.mem_append.mp hz with hz | hz
        · exact bd z hz
        · rw [List.mem_singleton.mp hz]
          exact be.mono (by decide) (by decide)
      · rw [wts_app, wts_one, Nat.succ_mul]
        omega
    · rintro G ⟨us, ds, ed, du, bd, wd, ld, xG, fG⟩
      have ld : ds.length = 10 := ld
      have wd : wts ds ≤ 10 * 1002 := wd
      refine ⟨fun σ G => ∃ (us : List V) (ds : List PyData) (y3 y4 y5 : Option V), σ = [some (.ref a), some (.ref fe), some (.ref d), y3, y4, y5, none, none, none, none] ∧ G d = some (.lst us) ∧ DpAll K (ms [d] G) us ds ∧ (∀ e ∈ ds, Bd 703 5 e) ∧ wts ds ≤ 910020 ∧ ds.length ≤ 310 ∧ Ext fe H1 G ∧ IsFeed G fe c, ?_, ?_⟩
      · refine ⟨3, rfl, by decide, by decide, for_range (lo := 0) (n := (3 : Int).toNat) (fun i σ G => ∃ (us : List V) (ds : List PyData) (y3 y4 y5 : Option V), σ = [some (.ref a), some (.ref fe), some (.ref d), y3, y4, y5, none, none, none, none] ∧ G d = some (.lst us) ∧ DpAll K (ms [d] G) us ds ∧ (∀ e ∈ ds, Bd 703 5 e) ∧ wts ds ≤ 10020 + i * 300000 ∧ ds.length ≤ 10 + 100 * i ∧ Ext fe H1 G ∧ IsFeed G fe c)
          ⟨us, ds, none, none, none, rfl, ed, du, bd, by omega, by omega, xG, fG⟩ ?_ ?_⟩
        · clear ed du bd wd ld xG fG
          rintro i σ G hi ⟨us, ds, y3, y4, y5, rfl, ed, du, bd, wd, ld, xG, fG⟩
          have hi : i < 3 := hi
          refine ⟨.ref fe, rfl, .ref fe, rfl, fe, c, 4, rfl, fG, by decide, by decide, fun r1 H2 a0 a1 e2 f2 => ⟨1, r1, rfl, rfl, fe, c, _, rfl, f2, by omega, by omega, fun pf H3 fs npf e3 f3 epf lpf wpf => ?_⟩⟩
          refine ⟨.ref fe, rfl, .ref fe, rfl, fe, c, 4, rfl, f3, by decide, by decide, fun r2 H4 b0 b1 e4 f4 => ⟨1, r2, rfl, rfl, fe, c, _, rfl, f4, by omega, by omega, fun ps H5 ss nps e5 f5 eps lps wps => ?_⟩⟩
          have x35 : Ext fe H3 H5 := e4.trans e5
          have wf5 : Words H5 pf fs := (Words.mk epf (by intro z; subst z; simp at lpf; omega) (by omega) wpf : Words H3 pf fs).ext f3 x35
          have ws5 : Words H5 ps ss := ⟨eps, by intro z; subst z; simp at lps; omega, by omega, wps⟩
          have xG5 : Ext fe G H5 := ((e2.trans e3).trans e4).trans e5
          have ed5 := xG5 d _ ed ndc.1
          refine ⟨_, _, rfl, .ref d, rfl, .inl ⟨rfl, _, .inl (.inl ed5)⟩, .ref fe, rfl, .ref fe, rfl, .ref pf, rfl, .ref ps, rfl, fe, c, pf, ps, fs, ss, 6, rfl, f5, wf5, ws5, by decide, fun v H8 x okx inx e8 f8 dv => ?_⟩
          have ed8 := e8 d _ ed5 ndc.1
          refine ⟨fe, c, [d], v, x, rfl, f8, Ls.cons ed8 (Ls.nil _), dv, okx, fun p us' ds' H9 np e9 f9 ep D9 B9 W9 L9 => ?_⟩
          have xG9 : Ext fe G H9 := (xG5.trans e8).trans e9
          have mu : ms [d] (upd H9 d (.lst (us ++ us'))) = ms [d] H9 := ms_upd (by simp)
          refine ⟨d, p, us, us', rfl, rfl, xG9 d _ ed ndc.1, ep, ?_, us ++ us', ds ++ ds', _, _, _, rfl, upd_same, by rw [mu]; exact DpAll.app (DpAll.keepL (ms_feed fG xG9) du) (DpAll.keepL ms_out D9), fun z hz => ?_, ?_, ?_, (xG.trans xG9).own nd, f9.own ndc⟩
          · have h1 := DpAll.len du
            have h2 := DpAll.len D9
            exact Nat.le_trans (show _ ≤ 500 by omega) (by decide)
          · rcases List.mem_append.mp hz with hz | hz
            · exact bd z hz
            · exact B9 z hz
          · rw [wts_app, Nat.succ_mul]
            omega
          · rw [List.length_append]
            omega
        · rintro σ G ⟨us, ds, y3, y4, y5, rfl, ed, du, bd, wd, ld, xG, fG⟩
          exact ⟨us, ds, y3, y4, y5, rfl, ed, du, bd, wd, ld, xG, fG⟩
      · clear ed du bd wd ld xG fG
        rintro σ G ⟨us, ds, y3, y4, y5, rfl, ed, du, bd, wd, ld, xG, fG⟩
        -- the wide one
        refine ⟨by show 3 ≤ sizeLine; decide, fun t1 n1 => ⟨by show 1 ≤ sizeLine; decide, fun t2 n2 => ?_⟩⟩
        have l1 : Same G (upd G t1 (.tup [.str "a", .str "b", .int 1])) := same_new (Same.refl G) n1
        have g1 : (upd G t1 (.tup [.str "a", .str "b", .int 1])) t1 = some (.tup [.str "a", .str "b", .int 1]) := upd_same
        generalize upd G t1 (.tup [.str "a", .str "b", .int 1]) = G1 at l1 g1 n2
        have l2 : Same G1 (upd G1 t2 (.tup [.ref t1])) := same_new (Same.refl G1) n2
        have g2 : (upd G1 t2 (.tup [.ref t1])) t2 = some (.tup [.ref t1]) := upd_same
        generalize upd G1 t2 (.tup [.ref t1]) = G2 at l2 g2
        refine ⟨t2, 30, [.ref t1], rfl, rfl, SqT.of g2, by simp, by decide, by decide, (by show 1 ≤ 1000; decide), fun z => absurd z (by decide), fun _ w nw => ?_⟩
        have l3 : Same G2 (upd G2 w (.tup (List.replicate (30 : Int).toNat [V.ref t1]).flatten)) := same_new (Same.refl G2) nw
        have g3 : SqT K (upd G2 w (.tup (List.replicate (30 : Int).toNat [V.ref t1]).flatten)) w (List.replicate (30 : Int).toNat [V.ref t1]).flatten := SqT.of upd_same
        generalize upd G2 w (.tup (List.replicate (30 : Int).toNat [V.ref t1]).flatten) = G3 at l3 g3
        have l03 : Same G G3 := (l1.trans l2).trans l3
        have f3 := fG.keep l03
        refine ⟨.ref fe, rfl, fe, c, 30, rfl, f3, by decide, by decide, fun r H2 r0 r1 e2 f2 => ?_⟩
        obtain ⟨k, rfl⟩ := Int.eq_ofNat_of_zero_le r0
        have hk : k < 30 := by omega
        have k32 : LKeep G3 H2 := LKeep.feed f3 e2
        have k02 : LKeep G H2 := (LKeep.of l03).trans k32
        have ed2 : H2 d = some (.lst us) := k02 _ _ trivial ed
        have LS2 : Ls [d] H2 := Ls.cons ed2 (Ls.nil _)
        have ab : ∀ (M : Hp) (i : Int), DpAll K M [.str "a", .str "b", .int i] [.str "a", .str "b", .int i] := fun M i => .cons (.str _) (.cons (.str _) (.cons (.int _) .nil))
        have aw : ∀ i : Int, i.natAbs.log2 = 0 → Bd 703 4 (.tuple [.str "a", .str "b", .int i]) ∧ wt (.tuple [.str "a", .str "b", .int i]) + 2 ≤ 50 := fun i hi => by
          constructor
          · refine (Bd.tuple (dp := 0) fun z hz => ?_).mono (Nat.le_refl _) (by decide)
            simp only [List.mem_cons, List.not_mem_nil, or_false] at hz
            rcases hz with rfl | rfl | rfl
            · exact Bd.str (by decide +kernel)
            · exact Bd.str (by decide +kernel)
            · exact Bd.int (by rw [hi]; exact Nat.zero_le _)
          · show 10 * (Str.ofString "a").length + 2 + 2 + (10 * (Str.ofString "b").length + 2 + 2 + (i.natAbs.log2 + 2 + 2 + 0)) + 3 + 2 ≤ 50
            rw [hi, show (Str.ofString "a").length = 1 from by decide +kernel, show (Str.ofString "b").length = 1 from by decide +kernel]
            decide
        have g1' : SqT K H2 t1 [.str "a", .str "b", .int 1] := k32.sqT (SqT.of ((l2.trans l3) _ _ g1))
        have hw2 : SqT K H2 w (List.replicate (30 : Int).toNat [V.ref t1]).flatten := k32.sqT g3
        have DW : DpAll K (ms [d] H2) (List.replicate (30 : Int).toNat [V.ref t1]).flatten (List.replicate (30 : Int).toNat (.tuple [.str "a", .str "b", .int 1])) := dp_rep (.tup (sqT_ms g1' LS2) (ab _ 1)) _
        have lx : (List.replicate (30 : Int).toNat [V.ref t1]).flatten.length = 30 := rfl
        have lW : (List.replicate (30 : Int).toNat (PyData.tuple [.str "a", .str "b", .int 1])).length = 30 := rfl
        have hW : ∀ z ∈ List.replicate (30 : Int).toNat (PyData.tuple [.str "a", .str "b", .int 1]), Bd 703 4 z ∧ wt z + 2 ≤ 50 := fun z hz => by
          rw [List.eq_of_mem_replicate hz]
          exact aw 1 (by decide)
        generalize (List.replicate (30 : Int).toNat [V.ref t1]).flatten = xs at hw2 DW lx
        generalize List.replicate (30 : Int).toNat (PyData.tuple [.str "a", .str "b", .int 1]) = W at DW lW hW
        have du2 := DpAll.keepL (ms_keep k02) du
        have x02 : Ext fe H1 H2 := (xG.trans (Ext.of l03)).trans e2
        clear g1 g1' g2 g3 l1 l2 l3 l03 f3 k32 k02 e2 du ed fG xG
        refine ⟨_, _, rfl, fun σ M => ∃ (vs : List V) (es : List PyData), σ = [some (.ref a), some (.ref fe), some (.ref d), y3, y4, y5, some (.ref w), some (.int k), none, none] ∧ M d = some (.lst vs) ∧ DpAll K M vs es ∧ (∀ e ∈ es, Bd 703 5 e) ∧ wts es ≤ 930000 ∧ es.length ≤ 320, ?_, ?_⟩
        · refine ⟨.ref d, rfl, .inl ⟨rfl, _, .inl (.inl ed2)⟩, .ref w, rfl, ?_⟩
          -- the first
          refine ⟨.ref w, rfl, .int k, rfl, k, rfl, w, xs, rfl, hw2, fun c1 M1 m1 h1 => ?_⟩
          rw [cut_to (by omega)] at h1
          refine ⟨by show 3 ≤ sizeLine; decide, fun p np => ⟨by show 1 ≤ sizeLine; decide, fun p' np' => ?_⟩⟩
          have m2 : Same M1 (upd M1 p (.tup [.str "a", .str "b", .int 0])) := same_new (Same.refl M1) np
          have g2 : SqT K (upd M1 p (.tup [.str "a", .str "b", .int 0])) p [.str "a", .str "b", .int 0] := SqT.of upd_same
          generalize upd M1 p (.tup [.str "a", .str "b", .int 0]) = M2 at m2 g2 np'
          have m3 : Same M2 (upd M2 p' (.tup [.ref p])) := same_new (Same.refl M2) np'
          have g3 : SqT K (upd M2 p' (.tup [.ref p])) p' [.ref p] := SqT.of upd_same
          generalize upd M2 p' (.tup [.ref p]) = M3 at m3 g3
          refine ⟨c1, p', _, _, rfl, rfl, (LKeep.of (m2.trans m3)).sqT h1, g3, ?_, fun c2 M4 m4 h4 => ?_⟩
          · rw [List.length_take, List.length_singleton]
            exact Nat.le_trans (show _ ≤ 40 by omega) (by decide)
          have m14 : Same M1 M4 := (m2.trans m3).trans m4
          have m04 : Same H2 M4 := m1.trans m14
          refine ⟨.ref w, rfl, .int k, rfl, _, _, rfl, rfl, _, rfl, w, xs, rfl, (LKeep.of m04).sqT hw2, fun c3 M5 m5 h5 => ?_⟩
          rw [show ((k : Nat) : Int) + 1 = ((k + 1 : Nat) : Int) from by omega, cut_from (by omega)] at h5
          refine ⟨c2, c3, _, _, rfl, rfl, (LKeep.of m5).sqT h4, h5, ?_, fun c4 M6 m6 h6 => ?_⟩
          · rw [List.length_append, List.length_take, List.length_drop, List.length_singleton]
            exact Nat.le_trans (show _ ≤ 100 by omega) (by decide)
          have m06 : Same H2 M6 := (m04.trans m5).trans m6
          have D6 : Dp K (ms [d] M6) (.ref c4) (.tuple (W.take k ++ [.tuple [.str "a", .str "b", .int 0]] ++ W.drop (k + 1))) := by
            have d6 := DpAll.keepL (ms_same m06) DW
            exact .tup (sqT_ms h6 (LS2.same m06)) (DpAll.app (DpAll.app (DpAll.take k d6) (.cons (.tup (sqT_ms ((LKeep.of (((m3.trans m4).trans m5).trans m6)).sqT g2) (LS2.same m06)) (ab _ 0)) .nil)) (DpAll.drop (k + 1) d6))
          clear h1 g2 g3 h4 h5 h6
          -- the second
          refine ⟨.ref w, rfl, .int k, rfl, k, rfl, w, xs, rfl, (LKeep.of m06).sqT hw2, fun e1 N1 u1 j1 => ?_⟩
          rw [cut_to (by omega)] at j1
          refine ⟨by show 1 ≤ sizeLine; decide, fun q' nq' => ?_⟩
          have u2 : Same N1 (upd N1 q' (.tup [.non])) := same_new (Same.refl N1) nq'
          have g3 : SqT K (upd N1 q' (.tup [.non])) q' [.non] := SqT.of upd_same
          generalize upd N1 q' (.tup [.non]) = N2 at u2 g3
          refine ⟨e1, q', _, _, rfl, rfl, (LKeep.of u2).sqT j1, g3, ?_, fun e2 N3 u3 j3 => ?_⟩
          · rw [List.length_take, List.length_singleton]
            exact Nat.le_trans (show _ ≤ 40 by omega) (by decide)
          have u03 : Same M6 N3 := (u1.trans u2).trans u3
          refine ⟨.ref w, rfl, .int k, rfl, _, _, rfl, rfl, _, rfl, w, xs, rfl, (LKeep.of (m06.trans u03)).sqT hw2, fun e3 N4 u4 j4 => ?_⟩
          rw [show ((k : Nat) : Int) + 1 = ((k + 1 : Nat) : Int) from by omega, cut_from (by omega)] at j4
          refine ⟨e2, e3, _, _, rfl, rfl, (LKeep.of u4).sqT j3, j4, ?_, fun e4 N5 u5 j5 => ?_⟩
          · rw [List.length_append, List.length_take, List.length_drop, List.length_singleton]
            exact Nat.le_trans (show _ ≤ 100 by omega) (by decide)
          have u05 : Same M6 N5 := (u03.trans u4).trans u5
          have m05 : Same H2 N5 := m06.trans u05
          have d5 := DpAll.keepL (ms_same m05) DW
          have LS5 := LS2.same m05
          have E5 : Dp K (ms [d] N5) (.ref e4) (.tuple (W.take k ++ [.none] ++ W.drop (k + 1))) :=
            .tup (sqT_ms j5 LS5) (DpAll.app (DpAll.app (DpAll.take k d5) (.cons .non .nil)) (DpAll.drop (k + 1) d5))
          refine ⟨by show 3 ≤ sizeLine; decide, fun z nz => ?_⟩
          have uz : Same N5 (upd N5 z (.lst [.ref w, .ref c4, .ref e4])) := same_new (Same.refl N5) nz
          have gz : (upd N5 z (.lst [.ref w, .ref c4, .ref e4])) z = some (.lst [.ref w, .ref c4, .ref e4]) := upd_same
          generalize upd N5 z (.lst [.ref w, .ref c4, .ref e4]) = N6 at uz gz
          have lu := DpAll.len du2
          have mu : ms [d] (upd N6 d (.lst (us ++ [.ref w, .ref c4, .ref e4]))) = ms [d] N6 := ms_upd (by simp)
          have b1 := wide_bd (k := k) lW hW (aw 0 (by decide)).1 (aw 0 (by decide)).2
          have b2 := wide_bd (k := k) lW hW (e := .none) Bd.non (by show 4 + 2 ≤ 50; decide)
          have b0 : Bd 703 5 (.tuple W) ∧ wt (.tuple W) ≤ 3100 := ⟨Bd.tuple fun z hz => (hW z hz).1, by
            have := wts_le fun z hz => (hW z hz).2
            rw [lW] at this
            show wts W + 3 ≤ 3100
            omega⟩
          refine ⟨d, z, us, _, rfl, rfl, (m05.trans uz) _ _ ed2, gz, ?_, us ++ [.ref w, .ref c4, .ref e4], ds ++ [.tuple W, .tuple (W.take k ++ [.tuple [.str "a", .str "b", .int 0]] ++ W.drop (k + 1)), .tuple (W.take k ++ [.none] ++ W.drop (k + 1))], rfl, upd_same, DpAll.same ms_sub (by
            rw [mu]
            exact DpAll.app (DpAll.keepL (ms_same (m05.trans uz)) du2) (.cons (.tup (sqT_ms ((LKeep.of (m05.trans uz)).sqT hw2) (LS5.same uz)) (DpAll.keepL (ms_same uz) d5)) (.cons (Dp.keepL (ms_same (u05.trans uz)) D6) (.cons (Dp.keepL (ms_same uz) E5) .nil)))), fun y hy => ?_, ?_, ?_⟩
          · exact Nat.le_trans (show _ ≤ 400 by rw [lu]; show ds.length + 3 ≤ 400; omega) (by decide)
          · rcases List.mem_append.mp hy with hy | hy
            · exact bd y hy
            · simp only [List.mem_cons, List.not_mem_nil, or_false] at hy
              rcases hy with rfl | rfl | rfl
              · exact b0.1
              · exact b1.1
              · exact b2.1
          · rw [wts_app]
            show wts ds + (wt (.tuple W) + 2 + (wt _ + 2 + (wt _ + 2 + 0))) ≤ 930000
            have := b0.2
            have := b1.2
            have := b2.2
            omega
          · rw [List.length_append]
            show ds.length + 3 ≤ 320
            omega
        · rintro σ M ⟨vs, es, rfl, eM, DM, BM, WM, LM⟩
          have tg : Tg 6 1000000 (.list es) := Tg.list (dp := 5) (fun z hz => ⟨(BM z hz).ok (by decide), (BM z hz).dep⟩) (by omega)
          have shl := tg.sh
          have dl : ∀ {H' : Hp}, Same M H' → Dp K H' (.ref d) (.list es) := fun s => .lst (SqL.of (s _ _ eM)) (DpAll.same s DM)
          refine ⟨.ref d, rfl, d, _, rfl, dl (Same.refl _), shl.ok, shl.nd, Nat.le_trans shl.dep (by decide), Nat.le_trans shl.len (by decide), ?_⟩
          refine ⟨.ref d, rfl, d, rfl, ⟨_, .inl (.inl eM)⟩, for_list (K := K) (a := d) (xs := vs) (fun i σ N => ∃ y9 : Option V, σ = [some (.ref a), some (.ref fe), some (.ref d), y3, y4, y5, some (.ref w), some (.int k), some (.str (PyData.list es).shown), y9] ∧ Same M N) ⟨none, rfl, Same.refl _⟩ ?_ ?_ ?_⟩
          · rintro i σ N _ ⟨y9, rfl, sN⟩
            exact .inl (.inl (sN _ _ eM))
          · rintro i v σ N hv ⟨y9, rfl, sN⟩
            obtain ⟨e, he, de⟩ := DpAll.getV DM hv
            have me := List.mem_of_getElem? he
            have oke := (BM e me).ok (by decide)
            have we : wt e ≤ 1000000 := by
              have := wts_mem me
              omega
            have sh := due_sh e
            refine ⟨v, rfl, v, e, rfl, Dp.same sN de, oke, we, fun N1 s1 => ⟨v, rfl, v, e, rfl, Dp.same (sN.trans s1) de, oke, we, fun N2 s2 => ⟨v, rfl, v, e, rfl, Dp.same ((sN.trans s1).trans s2) de, oke, we, fun N3 s3 => ⟨by show 3 ≤ sizeLine; decide, fun t nt => ?_⟩⟩⟩⟩
            have s03 : Same N N3 := (s1.trans s2).trans s3
            have s4 : Same N3 (upd N3 t (.tup [.bl (numD e), .bl (wordD e), .bl (rowsB e)])) := same_new (Same.refl N3) nt
            have g4 : SqT K (upd N3 t (.tup [.bl (numD e), .bl (wordD e), .bl (rowsB e)])) t [.bl (numD e), .bl (wordD e), .bl (rowsB e)] := SqT.of upd_same
            generalize upd N3 t (.tup [.bl (numD e), .bl (wordD e), .bl (rowsB e)]) = N4 at s4 g4
            refine ⟨t, dueD e, rfl, .tup g4 (.cons (.bl _) (.cons (.bl _) (.cons (.bl _) .nil))), sh.ok, sh.nd, Nat.le_trans sh.dep (by decide), Nat.le_trans sh.len (by decide), ?_⟩
            have s04 := sN.trans (s03.trans s4)
            refine ⟨v, rfl, v, e, rfl, Dp.same s04 de, oke, we, fun u N5 s5 du => ?_⟩
            obtain ⟨b', us', rfl, _⟩ := Dp.tupE du
            refine ⟨b', dueD e, rfl, du, sh.ok, sh.nd, Nat.le_trans sh.dep (by decide), Nat.le_trans sh.len (by decide), rfl, _, rfl, ?_⟩
            rw [decide_eq_true rfl]
            exact iteF ⟨_, rfl, s04.trans s5⟩
          · rintro σ N ⟨y9, rfl, sN⟩
            refine ⟨.ref d, rfl, d, _, rfl, dl sN, shl.ok, shl.nd, Nat.le_trans shl.dep (by decide), Nat.le_trans shl.len (by decide), _, rfl, rfl, ?_⟩
            rw [decide_eq_true rfl]
            exact q _
end
end K01
namespace K01
open PySem PySem.Spec PyProof.Rows L2 PK
abbrev NMany : List Str := ["_law_feed_here"]
theorem scMany : FnScope NMany ["_law_feed_here"] (defScope (topS 12)) := ⟨rfl, rfl, rfl, by decide +kernel, rfl, by decide +kernel, by decide +kernel⟩
section
variable {P : Program} {w : World} {K : PySem.W.Frag} {mg : Str → Option Value} {base : Heap}
theorem ok_many {f fD : Addr} {fd fdD : FuncData} {k : Nat} (F : Fun K "_law_many" "_law_many" (topS 12) f fd)
    (D : Cal P w K mg base 1 "_law_draw" fD fdD ["_law_feed_here", "_law_many_here"] spDraw) :
    FnOk P w K mg base CX0 (k + 2) f fd ["_law_feed_here"] spMany := by
  refine F.ok scMany (fun vs H Q E h => ?_) (fun cdv A outer s H vs Q E hr h => ?_)
  · obtain ⟨a, c, rfl, _⟩ := h
    rfl
  · obtain ⟨a, c, rfl, fe, q⟩ := h
    refine ⟨_, (pss_one (ps_ret (pe_ix (kx_list K) (pe_lst (pa_cons pe_int (pa_cons (pe_op op_add pe_int (pe_call D.ok (hr.mono (Nat.le_add_left 1 k)) (by rfl) D.g D.kp D.b .nil pass0 (pa_cons (pv 0) (pa_cons pe_int pa_nil)))) (pa_cons (pe_op op_sub (pe_op op_pow pe_int pe_int) (pe_call D.ok (hr.mono (Nat.le_add_left 1 k)) (by rfl) D.g D.kp D.b .nil pass0 (pa_cons (pv 0) (pa_cons pe_int pa_nil)))) (pa_cons (pe_op op_add pe_int (pe_call D.ok (hr.mono (Nat.le_add_left 1 k)) (by rfl) D.g D.kp D.b .nil pass0 (pa_cons (pv 0) (pa_cons (pe_op op_pow pe_int pe_int) pa_nil)))) pa_nil))))) (pe_call D.ok (hr.mono (Nat.le_add_left 1 k)) (by rfl) D.g D.kp D.b .nil pass0 (pa_cons (pv 0) (pa_cons pe_int pa_nil))) (fun _ _ => rfl)))), ?_⟩
    refine ⟨.ref a, rfl, a, c, 9, rfl, fe, by decide, by decide, fun r1 H1 a0 a1 e1 f1 => ⟨_, _, rfl, rfl, 10, 9, rfl, rfl, ⟨by decide, by decide, by decide⟩, .ref a, rfl, a, c, 3, rfl, f1, by decide, by decide, fun r2 H2 b0 b1 e2 f2 => ⟨_, _, rfl, rfl, .ref a, rfl, 10, 6, rfl, rfl, ⟨by decide, by decide, by decide⟩, a, c, _, rfl, f2, by decide, by decide, fun r3 H3 c0 c1 e3 f3 => ⟨_, _, rfl, rfl, by show 4 ≤ sizeLine; decide, fun p np => ?_⟩⟩⟩⟩
    have npc := f3.ne np
    refine ⟨.ref a, rfl, a, c, 4, rfl, f3.new np, by decide, by decide, fun r H4 r0 r4 e4 f4 => ?_⟩
    have x4 : Ext a H H4 := (((e1.trans e2).trans e3).new np).trans e4
    have ep := e4 p _ upd_same npc.1
    have hz : ∃ z : Int, 1 ≤ z ∧ z ≤ 1000000000 ∧ atI [V.int 1, .int (1 + r1), .int (10 ^ 9 - r2), .int (1 + r3)] r = some (.int z) := by
      have : r = 0 ∨ r = 1 ∨ r = 2 ∨ r = 3 := by omega
      have c1' : r3 < 1000000 := c1
      rcases this with rfl | rfl | rfl | rfl
      · exact ⟨1, by decide, by decide, rfl⟩
      · exact ⟨1 + r1, by omega, by omega, rfl⟩
      · exact ⟨10 ^ 9 - r2, by omega, by omega, rfl⟩
      · exact ⟨1 + r3, by omega, by omega, rfl⟩
    obtain ⟨z, z0, z1, ez⟩ := hz
    exact ⟨p, _, r, .int z, rfl, rfl, .inl (.inl ep), ez, q z H4 z0 z1 x4 f4⟩
end
end K01
namespace K01
open PySem PySem.Spec PyProof.Rows L2 PK
abbrev NLRows : List Str := ["_law_feed_here", "_law_forms", "_law_shades", "_law_most_now", "_law_found", "_law_k", "_law_form", "_law_shade"]
theorem scLRows : FnScope NLRows ["_law_feed_here", "_law_forms", "_law_shades", "_law_most_now"] (defScope (topS 13)) := ⟨rfl, rfl, rfl, by decide +kernel, rfl, by decide +kernel, by decide +kernel⟩
section
variable {P : Program} {w : World} {K : PySem.W.Frag} {mg : Str → Option Value} {base : Heap}
-- names: ["_law_feed_here", "_law_forms", "_law_shades", "_law_most_now", "_law_found", "_law_k", "_law_form", "_law_shade"] cells set()
theorem ok_lrows {f fD fM : Addr} {fd fdD fdM : FuncData} {k : Nat} (F : Fun K "_law_rows" "_law_rows" (topS 13) f fd)
    (D : Cal P w K mg base 1 "_law_draw" fD fdD ["_law_feed_here", "_law_many_here"] spDraw) (Mn : Cal P w K mg base 2 "_law_many" fM fdM ["_law_feed_here"] spMany)
    (hR : mg "range" = none) (hT : mg "tuple" = none) (hl : mg "len" = none) :
    FnOk P w K mg base CX0 (k + 3) f fd ["_law_feed_here", "_law_forms", "_law_shades", "_law_most_now"] (spLRows K) := by
  refine F.ok scLRows (fun vs H Q E h => ?_) (fun cdv A outer s H vs Q E hr h => ?_)
  · obtain ⟨a, c, pf, ps, fs, ss, mo, rfl, _⟩ := h
    rfl
  · obtain ⟨a, c, pf, ps, fs, ss, mo, rfl, fe, wf, ws, hmo, q⟩ := h
    have hp := wf.pos
    have hf := wf.few
    have hp' := ws.pos
    have hf' := ws.few
    have lf : ((fs.map V.str).length : Int) = (fs.length : Int) := by rw [List.length_map]
    have ls : ((ss.map V.str).length : Int) = (ss.length : Int) := by rw [List.length_map]
    refine ⟨_, (pss_cons (ps_set (i := 4) scLRows.nd rfl (.inl rfl) (pe_lst pa_nil))
  (pss_cons (ps_for PassesOwn.never rfl (pi_range1 (by rfl) hR (pa_cons (pe_call D.ok (hr.mono (Nat.le_add_left 1 (k + 1))) (by rfl) D.g D.kp D.b .nil pass0 (pa_cons (pv 0) (pa_cons (pe_op op_add (pv 3) pe_int) pa_nil))) pa_nil)) (pg_name (i := 5) scLRows.nd rfl (.inl rfl))
  (pss_cons (ps_set (i := 6) scLRows.nd rfl (.inl rfl) (pe_ix (kx_list K) (pv 1) (pe_call D.ok (hr.mono (Nat.le_add_left 1 (k + 1))) (by rfl) D.g D.kp D.b .nil pass0 (pa_cons (pv 0) (pa_cons (pe_callB (k_len K) (by rfl) hl PySem.boot_len (pa_cons (pv 1) pa_nil)) pa_nil))) (fun _ _ => rfl)))
  (pss_cons (ps_set (i := 7) scLRows.nd rfl (.inl rfl) (pe_ix (kx_list K) (pv 2) (pe_call D.ok (hr.mono (Nat.le_add_left 1 (k + 1))) (by rfl) D.g D.kp D.b .nil pass0 (pa_cons (pv 0) (pa_cons (pe_callB (k_len K) (by rfl) hl PySem.boot_len (pa_cons (pv 2) pa_nil)) pa_nil))) (fun _ _ => rfl)))
  (pss_one (ps_expr (pe_bm PySem.F.plainAttrs_list PySem.F.slot_list_append PySem.F.type_list_append mt_append (pv 4) (pa_cons (pe_tup (pa_cons (pv 6) (pa_cons (pv 7) (pa_cons (pe_call Mn.ok (hr.mono (Nat.le_add_left 2 k)) (by rfl) Mn.g Mn.kp Mn.b .nil pass0 (pa_cons (pv 0) pa_nil)) pa_nil)))) pa_nil)))))))
  (pss_one (ps_ret (pe_callTy (k_tup K) (by rfl) hT (by decide +kernel) (pa_cons (pv 4) pa_nil)))))), ?_⟩
    refine ⟨Nat.zero_le _, fun o no => ?_⟩
    have noc := fe.ne no
    have xo : Ext a H (upd H o (.lst [])) := (Ext.refl a H).new no
    refine ⟨.ref a, rfl, .int mo, rfl, mo, 1, rfl, rfl, a, c, _, rfl, fe.new no, by omega, by omega, fun n H1 n0 n4 e1 f1 => ⟨n, rfl, by omega, by omega, ?_⟩⟩
    have x1 : Ext a H H1 := xo.trans e1
    have o1 : H1 o = some (.lst []) := e1 o _ upd_same noc.1
    refine for_range (lo := 0) (n := n.toNat) (fun k σ H2 => ∃ (L : List PRow) (us : List V) (y5 y6 y7 : Option V),
      σ = [some (.ref a), some (.ref pf), some (.ref ps), some (.int mo), some (.ref o), y5, y6, y7] ∧ L.length = k ∧ (∀ r ∈ L, PRowOk 1000000000 r) ∧ (∀ r ∈ L, r.1 ∈ fs ∧ r.2.1 ∈ ss) ∧
      H2 o = some (.lst us) ∧ DpAll K H2 us (L.map prowD) ∧ Ext a H H2 ∧ IsFeed H2 a c) ⟨[], [], none, none, none, rfl, rfl, fun _ h => (nomatch h), fun _ h => (nomatch h), o1, .nil, x1, f1⟩ ?_ ?_
    · rintro k σ H2 hk ⟨L, us, y5, y6, y7, rfl, Ll, Lok, Lin, eo, du, x2, f2⟩
      have wf2 := wf.ext fe x2
      have ws2 := ws.ext fe x2
      refine ⟨.ref pf, rfl, .ref a, rfl, .ref pf, rfl, pf, _, rfl, .inl (.inl (.inl wf2.at_)), a, c, _, rfl, f2, by rw [lf]; omega, by rw [lf]; omega, fun r H3 r0 r1 e3 f3 => ?_⟩
      rw [lf] at r1
      have hr1 : r.toNat < fs.length := by omega
      have wf3 := wf2.ext f2 e3
      have ws3 := ws2.ext f2 e3
      refine ⟨pf, _, r, .str fs[r.toNat], rfl, rfl, .inl (.inl wf3.at_), at_of (j := r.toNat) (by omega) (strs_at hr1), ?_⟩
      refine ⟨.ref ps, rfl, .ref a, rfl, .ref ps, rfl, ps, _, rfl, .inl (.inl (.inl ws3.at_)), a, c, _, rfl, f3, by rw [ls]; omega, by rw [ls]; omega, fun r' H4 r0' r1' e4 f4 => ?_⟩
      rw [ls] at r1'
      have hr2 : r'.toNat < ss.length := by omega
      have ws4 := ws3.ext f3 e4
      refine ⟨ps, _, r', .str ss[r'.toNat], rfl, rfl, .inl (.inl ws4.at_), at_of (j := r'.toNat) (by omega) (strs_at hr2), ?_⟩
      have x4 : Ext a H2 H4 := e3.trans e4
      have eo4 := x4 o _ eo noc.1
      refine ⟨.ref o, rfl, .inl ⟨rfl, _, .inl (.inl eo4)⟩, .str fs[r.toNat], rfl, .str ss[r'.toNat], rfl, .ref a, rfl, a, c, rfl, f4, fun z H5 z0 z1 e5 f5 => ⟨by show 3 ≤ sizeLine; decide, fun u nu => ?_⟩⟩
      have x5 : Ext a H2 (upd H5 u (.tup [.str fs[r.toNat], .str ss[r'.toNat], .int z])) := (x4.trans e5).new nu
      have f6 := f5.new (o := .tup [.str fs[r.toNat], .str ss[r'.toNat], .int z]) nu
      have eu : (upd H5 u (.tup [.str fs[r.toNat], .str ss[r'.toNat], .int z])) u = some (.tup [.str fs[r.toNat], .str ss[r'.toNat], .int z]) := upd_same
      generalize upd H5 u (.tup [.str fs[r.toNat], .str ss[r'.toNat], .int z]) = H6 at x5 f6 eu
      have eo6 := x5 o _ eo noc.1
      have tk : TKeep H2 (upd H6 o (.lst (us ++ [.ref u]))) := (TKeep.feed f2 x5).trans (TKeep.lst eo6)
      have sz : us.length < sizeLine := by
        rw [dp_lenM du]
        exact small1000 (by omega)
      refine ⟨o, us, .ref u, rfl, rfl, eo6, sz, L ++ [(fs[r.toNat], ss[r'.toNat], z)], us ++ [.ref u], _, _, _, rfl, by rw [List.length_append, Ll]; rfl, fun y hy => ?_, fun y hy => ?_, upd_same, ?_, (x2.trans x5).own no, f6.own noc⟩
      · rcases List.mem_append.mp hy with h | h
        · exact Lok y h
        · rw [List.mem_singleton.mp h]; exact ⟨wf.each _ (List.getElem_mem hr1), ws.each _ (List.getElem_mem hr2), z0, z1⟩
      · rcases List.mem_append.mp hy with h | h
        · exact Lin y h
        · rw [List.mem_singleton.mp h]; exact ⟨List.getElem_mem hr1, List.getElem_mem hr2⟩
      · exact dp_snoc flat_prow du tk (Dp.prow (r := (fs[r.toNat], ss[r'.toNat], z)) (SqT.of (by rw [upd_ne (ne_of eu eo6 (by intro z; cases z))]; exact eu)))
    · rintro σ H2 ⟨L, us, y5, y6, y7, rfl, Ll, Lok, Lin, eo, du, x2, f2⟩
      refine ⟨.ref o, rfl, o, us, rfl, .inl ⟨.inl (.inl eo), fun t nt => ?_⟩⟩
      exact q (.ref t) _ L ⟨by omega, Lok⟩ Lin (x2.new nt) (f2.new nt) (.tup (SqT.of upd_same) (dp_move flat_prow du (TKeep.new nt)))
end
end K01
namespace K01
open PySem PySem.Spec PyProof.Rows L2 PK
abbrev NIsNum : List Str := ["thing"]
theorem scIsNum : FnScope NIsNum ["thing"] (defScope (topS 3)) := ⟨rfl, rfl, rfl, by decide +kernel, rfl, by decide +kernel, by decide +kernel⟩
section
variable {P : Program} {w : World} {K : PySem.W.Frag} {mg : Str → Option Value} {base : Heap}
-- names: ["thing"] cells set()
theorem ok_isnum {f : Addr} {fd : FuncData} {k : Nat} (F : Fun K "is_number" "is_number" (topS 3) f fd) (hB : NoB mg BL) :
    FnOk P w K mg base CX0 (k + 1) f fd ["thing"] (spLook K numD) := by
  refine F.ok scIsNum (fun vs H Q E h => ?_) (fun cdv A outer s H vs Q E hr h => ?_)
  · obtain ⟨v, d, rfl, _⟩ := h
    rfl
  · obtain ⟨v, d, rfl, dv, ok, hw, q⟩ := h
    refine ⟨_, (pss_one (ps_ret (pe_and (pe_callB (k_isi K) (by rfl) (hB "isinstance" (by decide +kernel)) (by decide +kernel) (pa_cons (pv 0) (pa_cons (pe_bltn (v := .ty "int") (by rfl) (hB "int" (by decide +kernel)) (by decide +kernel) rfl) pa_nil))) (pe_one (pe_not (pe_callB (k_isi K) (by rfl) (hB "isinstance" (by decide +kernel)) (by decide +kernel) (pa_cons (pv 0) (pa_cons (pe_bltn (v := .ty "bool") (by rfl) (hB "bool" (by decide +kernel)) (by decide +kernel) rfl) pa_nil)))))))), ?_⟩
    refine ⟨v, rfl, v, .ty "int", .type (tyD d), .type "int", isD "int" d, rfl, .ty _, Dp.ty dv, kit_isD (by decide +kernel) d ok.lay, _, rfl, ?_⟩
    have e := num_is d
    cases h1 : isD "int" d with
    | false =>
      rw [h1, Bool.false_and] at e
      refine iteF ?_
      rw [e]
      exact q H (Same.refl H)
    | true =>
      refine iteT ⟨v, rfl, v, .ty "bool", .type (tyD d), .type "bool", isD "bool" d, rfl, .ty _, Dp.ty dv, kit_isD (by decide +kernel) d ok.lay, _, rfl, ?_⟩
      rw [h1, Bool.true_and] at e
      rw [e]
      exact q H (Same.refl H)
end
end K01
namespace K01
open PySem PySem.Spec PyProof.Rows L2 PK
abbrev NIsMany : List Str := ["thing"]
theorem scIsMany : FnScope NIsMany ["thing"] (defScope (topS 4)) := ⟨rfl, rfl, rfl, by decide +kernel, rfl, by decide +kernel, by decide +kernel⟩
section
variable {P : Program} {w : World} {K : PySem.W.Frag} {mg : Str → Option Value} {base : Heap}
-- names: ["thing"] cells set()
theorem ok_ismany {f fN : Addr} {fd fdN : FuncData} (F : Fun K "is_many" "is_many" (topS 4) f fd) (Nu : Cal P w K mg base 1 "is_number" fN fdN ["thing"] (spLook K numD)) :
    FnOk P w K mg base CX0 2 f fd ["thing"] (spLook K manyD) := by
  refine F.ok scIsMany (fun vs H Q E h => ?_) (fun cdv A outer s H vs Q E hr h => ?_)
  · obtain ⟨v, d, rfl, _⟩ := h
    rfl
  · obtain ⟨v, d, rfl, dv, ok, hw, q⟩ := h
    refine ⟨_, (pss_one (ps_ret (pe_and (pe_call Nu.ok (hr.mono (by decide)) (by rfl) Nu.g Nu.kp Nu.b .nil pass0 (pa_cons (pv 0) pa_nil)) (pe_one (pe_cmpR op_ge (pv 0) pe_int (nomark _)))))), ?_⟩
    refine ⟨v, rfl, v, d, rfl, dv, ok, hw, fun H1 s1 => ⟨_, rfl, ?_⟩⟩
    cases h1 : numD d with
    | false =>
      refine iteF ?_
      have e : manyD d = false := by cases d <;> first | rfl | (simp [numD] at h1)
      rw [← e]
      exact q H1 s1
    | true =>
      obtain ⟨i, rfl⟩ := num_int h1
      cases dv
      refine iteT ⟨.int i, rfl, _, _, rfl, rfl, ?_⟩
      exact q H1 s1
end
end K01
namespace K01
open PySem PySem.Spec PyProof.Rows L2 PK
abbrev NIsWord : List Str := ["thing", "letter"]
theorem scIsWord : FnScope NIsWord ["thing"] (defScope (topS 5)) := ⟨rfl, rfl, rfl, by decide +kernel, rfl, by decide +kernel, by decide +kernel⟩
section
variable {P : Program} {w : World} {K : PySem.W.Frag} {mg : Str → Option Value} {base : Heap}
-- names: ["thing", "letter"] cells set()
theorem ok_isword {f : Addr} {fd : FuncData} {k : Nat} (F : Fun K "is_word" "is_word" (topS 5) f fd) (hB : NoB mg BL) (Ab : Abc mg) :
    FnOk P w K mg base CX0 (k + 1) f fd ["thing"] (spLook K wordD) := by
  refine F.ok scIsWord (fun vs H Q E h => ?_) (fun cdv A outer s H vs Q E hr h => ?_)
  · obtain ⟨v, d, rfl, _⟩ := h
    rfl
  · obtain ⟨v, d, rfl, dv, ok, hw, q⟩ := h
    refine ⟨_, (pss_cons (ps_if (PW.pt (pw_or (pt_not (pt_val (pe_callB (k_isi K) (by rfl) (hB "isinstance" (by decide +kernel)) (by decide +kernel) (pa_cons (pv 0) (pa_cons (pe_bltn (v := .ty "str") (by rfl) (hB "str" (by decide +kernel)) (by decide +kernel) rfl) pa_nil))))) (pw_or1 (pt_not (pt_chain op_le op_le pe_int (pe_callB call_len_str (by rfl) (hB "len" (by decide +kernel)) PySem.boot_len (pa_cons (pv 0) pa_nil)) (pe_gl (v := .int 8) (by rfl) Ab.lo))))))
  (pss_one (ps_ret pe_bl)) pss_nil)
  (pss_one (ps_ret (pe_callB (k_all K rfl) (by rfl) (hB "all" (by decide +kernel)) (by decide +kernel) (pa_cons (pe_lc (own := [("letter", 1)]) rfl scIsWord.nd (pi_str (pv 0)) (blkOk_by (N := NIsWord) (sc := defScope (topS 5)) (own := [("letter", 1)]) (by decide +kernel)) (fun _ _ _ _ _ => (pg_name (i := 1) scIsWord.nd rfl (.inl rfl))) (fun _ _ _ _ _ => pts_nil) (fun _ _ _ _ _ => (pe_cmpR op_in_sign (pv 1) (pe_gl (v := .str abc) (by rfl) Ab.le) (by rfl)))) pa_nil))))), ?_⟩
    refine ⟨v, rfl, v, .ty "str", .type (tyD d), .type "str", isD "str" d, rfl, .ty _, Dp.ty dv, kit_isD (by decide +kernel) d ok.lay, _, rfl, ?_⟩
    cases h1 : isD "str" d with
    | false =>
      refine iteT ?_
      have e : wordD d = false := by cases d <;> first | rfl | (simp [isD, tyD] at h1)
      show Q (.bl false) H
      rw [← e]
      exact q H (Same.refl H)
    | true =>
      obtain ⟨y, rfl⟩ := isD_str h1
      cases dv
      have ly : y.length ≤ sizeLine := by
        have : 10 * y.length + 2 ≤ 1000000 := hw
        exact Nat.le_trans (show y.length ≤ 100000 by omega) (by decide)
      refine iteF ⟨.str y, rfl, y, rfl, ly, _, _, rfl, rfl, _, rfl, ?_⟩
      have none : (decide (1 ≤ y.length) && decide (y.length ≤ 8)) = false → Q (.bl false) H := fun z => by
        have e : wordD (.str y) = false := by
          show wordB y = false
          unfold wordB
          rw [z, Bool.false_and]
        rw [← e]
        exact q H (Same.refl H)
      by_cases c1 : (1 : Int) ≤ (y.length : Nat)
      · rw [decide_eq_true c1]
        refine iteT ⟨_, _, rfl, rfl, _, rfl, ?_⟩
        by_cases c2 : ((y.length : Nat) : Int) ≤ 8
        · rw [decide_eq_true c2]
          refine iteF ⟨.str y, rfl, y, rfl, fun D nD => ?_⟩
          have l8 : y.length ≤ 8 := by omega
          refine lc_it walk_str (fun i H2 => H2 D = some (.lst (((y.cps.toList.take i).map fun c => decide (c ∈ abc.cps.toList)).map V.bl)) ∧ Same H H2) ⟨upd_same, same_new (Same.refl H) nD⟩ (fun _ _ _ _ => trivial) ?_ ?_
          · rintro i x H2 H3 hi ⟨eD, s2⟩ ⟨rfl, c, hc, rfl⟩
            have hc : y.cps.toList[i]? = some c := by rw [Array.getElem?_toList]; exact hc
            refine ⟨rfl, _, rfl, c, abc, rfl, rfl, _, eD, ?_, ?_, same_own s2 nD⟩
            · rw [List.length_map, List.length_map, List.length_take]
              exact small1000 (by have : y.cps.toList.length = y.length := by simp [Str.length]
                                  omega)
            · rw [upd_same, take_mapS hc, List.map_append]
              rfl
          · rintro H2 ⟨eD, s2⟩
            rw [List.take_of_length_le (by simp)] at eD
            refine ⟨D, _, rfl, .inl (.inl eD), ?_⟩
            rw [bls_all]
            have e : (y.cps.toList.all fun c => decide (c ∈ abc.cps.toList)) = wordD (.str y) := by
              show _ = wordB y
              unfold wordB
              rw [decide_eq_true (show 1 ≤ y.length by omega), decide_eq_true l8]
              rfl
            rw [e]
            exact q H2 s2
        · rw [decide_eq_false c2]
          refine iteT (none ?_)
          rw [decide_eq_false (show ¬ y.length ≤ 8 by omega), Bool.and_false]
      · rw [decide_eq_false c1]
        refine iteF ⟨_, rfl, iteT (none ?_)⟩
        rw [decide_eq_false (show ¬ 1 ≤ y.length by omega), Bool.false_and]
end
end K01
namespace K01
open PySem PySem.Spec PyProof.Rows L2 PK
abbrev NIsRow : List Str := ["thing"]
theorem scIsRow : FnScope NIsRow ["thing"] (defScope (topS 6)) := ⟨rfl, rfl, rfl, by decide +kernel, rfl, by decide +kernel, by decide +kernel⟩
section
variable {P : Program} {w : World} {K : PySem.W.Frag} {mg : Str → Option Value} {base : Heap}
-- names: ["thing"] cells set()
theorem ok_isrow {f fW fM : Addr} {fd fdW fdM : FuncData} (F : Fun K "is_part_row" "is_part_row" (topS 6) f fd) (hB : NoB mg BL) (Wo : Cal P w K mg base 1 "is_word" fW fdW ["thing"] (spLook K wordD)) (Ma : Cal P w K mg base 2 "is_many" fM fdM ["thing"] (spLook K manyD)) :
    FnOk P w K mg base CX0 3 f fd ["thing"] (spLook K rowB) := by
  refine F.ok scIsRow (fun vs H Q E h => ?_) (fun cdv A outer s H vs Q E hr h => ?_)
  · obtain ⟨v, d, rfl, _⟩ := h
    rfl
  · obtain ⟨v, d, rfl, dv, ok, hw, q⟩ := h
    refine ⟨_, (pss_cons (ps_if (PW.pt (pw_or (pt_not (pt_val (pe_callB (k_isi K) (by rfl) (hB "isinstance" (by decide +kernel)) (by decide +kernel) (pa_cons (pv 0) (pa_cons (pe_bltn (v := .ty "tuple") (by rfl) (hB "tuple" (by decide +kernel)) (by decide +kernel) rfl) pa_nil))))) (pw_or1 (pt_cmpR op_ne (pe_callB (k_len K) (by rfl) (hB "len" (by decide +kernel)) PySem.boot_len (pa_cons (pv 0) pa_nil)) pe_int (nomark _)))))
  (pss_one (ps_ret pe_bl)) pss_nil)
  (pss_one (ps_ret (pe_and (pe_call Wo.ok (hr.mono (by decide)) (by rfl) Wo.g Wo.kp Wo.b .nil pass0 (pa_cons (pe_ix (kx_tup K) (pv 0) pe_int (fun _ _ => rfl)) pa_nil)) (pe_and (pe_call Wo.ok (hr.mono (by decide)) (by rfl) Wo.g Wo.kp Wo.b .nil pass0 (pa_cons (pe_ix (kx_tup K) (pv 0) pe_int (fun _ _ => rfl)) pa_nil)) (pe_one (pe_call Ma.ok (hr.mono (by decide)) (by rfl) Ma.g Ma.kp Ma.b .nil pass0 (pa_cons (pe_ix (kx_tup K) (pv 0) pe_int (fun _ _ => rfl)) pa_nil)))))))), ?_⟩
    refine ⟨v, rfl, v, .ty "tuple", .type (tyD d), .type "tuple", isD "tuple" d, rfl, .ty _, Dp.ty dv, kit_isD (by decide +kernel) d ok.lay, _, rfl, ?_⟩
    cases h1 : isD "tuple" d with
    | false =>
      refine iteT ?_
      have e : rowB d = false := by cases d <;> first | rfl | (simp [isD, tyD] at h1)
      show Q (.bl false) H
      rw [← e]
      exact q H (Same.refl H)
    | true =>
      obtain ⟨ds, rfl⟩ := isD_tuple h1
      obtain ⟨b, xs, rfl, hb, ha⟩ := Dp.tupE dv
      have lx := DpAll.len ha
      refine iteF ⟨.ref b, rfl, b, xs, rfl, .inr hb, rfl, _, rfl, ?_⟩
      by_cases h3 : xs.length = 3
      · rw [h3]
        refine iteF ?_
        obtain ⟨d0, d1, d2, x0, x1, x2, rfl, rfl, a0, a1, a2⟩ := DpAll.three ha h3
        have o0 := ok.mem d0 (by simp)
        have o1 := ok.mem d1 (by simp)
        have o2 := ok.mem d2 (by simp)
        have w3 : wt d0 + 2 + (wt d1 + 2 + (wt d2 + 2 + 0)) + 3 ≤ 1000000 := hw
        refine ⟨.ref b, rfl, b, _, 0, x0, rfl, rfl, hb, at_of (j := 0) rfl rfl, x0, d0, rfl, a0, o0, by omega, fun H1 s1 => ⟨_, rfl, ?_⟩⟩
        have e : rowB (.tuple [d0, d1, d2]) = (wordD d0 && wordD d1 && manyD d2) := rfl
        rw [e] at q
        cases z0 : wordD d0 with
        | false =>
          rw [z0, Bool.false_and, Bool.false_and] at q
          exact iteF (q H1 s1)
        | true =>
        rw [z0, Bool.true_and] at q
        refine iteT ⟨.ref b, rfl, b, _, 1, x1, rfl, rfl, (LKeep.of s1).sqT hb, at_of (j := 1) rfl rfl, x1, d1, rfl, Dp.same s1 a1, o1, by omega, fun H2 s2 => ⟨_, rfl, ?_⟩⟩
        cases z1 : wordD d1 with
        | false =>
          rw [z1, Bool.false_and] at q
          exact iteF (q H2 (s1.trans s2))
        | true =>
        rw [z1, Bool.true_and] at q
        exact iteT ⟨.ref b, rfl, b, _, 2, x2, rfl, rfl, (LKeep.of (s1.trans s2)).sqT hb, at_of (j := 2) rfl rfl, x2, d2, rfl, Dp.same (s1.trans s2) a2, o2, by omega, fun H3 s3 => q H3 ((s1.trans s2).trans s3)⟩
      · have n3 : ¬ V.int xs.length = V.int 3 := fun z => h3 (by have := V.int.inj z; omega)
        rw [decide_eq_false n3]
        refine iteT ?_
        have e : rowB (.tuple ds) = false := by
          match ds, lx with
          | [], _ => rfl
          | [_], _ => rfl
          | [_, _], _ => rfl
          | [_, _, _], lx => exact absurd lx h3
          | _ :: _ :: _ :: _ :: _, _ => rfl
        show Q (.bl false) H
        rw [← e]
        exact q H (Same.refl H)
end
end K01
namespace K01
open PySem PySem.Spec PyProof.Rows L2 PK
abbrev NIsRows : List Str := ["thing", "row"]
theorem scIsRows : FnScope NIsRows ["thing"] (defScope (topS 7)) := ⟨rfl, rfl, rfl, by decide +kernel, rfl, by decide +kernel, by decide +kernel⟩
section
variable {P : Program} {w : World} {K : PySem.W.Frag} {mg : Str → Option Value} {base : Heap}
-- names: ["thing", "row"] cells set()
theorem ok_isrows {f fC : Addr} {fd fdC : FuncData} (F : Fun K "is_part_rows" "is_part_rows" (topS 7) f fd) (hB : NoB mg BL) (Ce : Cal P w K mg base 3 "is_part_row" fC fdC ["thing"] (spLook K rowB)) :
    FnOk P w K mg base CX0 4 f fd ["thing"] (spLook K rowsB) := by
  refine F.ok scIsRows (fun vs H Q E h => ?_) (fun cdv A outer s H vs Q E hr h => ?_)
  · obtain ⟨v, d, rfl, _⟩ := h
    rfl
  · obtain ⟨v, d, rfl, dv, ok, hw, q⟩ := h
    refine ⟨_, (pss_one (ps_ret (pe_and (pe_callB (k_isi K) (by rfl) (hB "isinstance" (by decide +kernel)) (by decide +kernel) (pa_cons (pv 0) (pa_cons (pe_bltn (v := .ty "tuple") (by rfl) (hB "tuple" (by decide +kernel)) (by decide +kernel) rfl) pa_nil))) (pe_one (pe_callB (k_all K rfl) (by rfl) (hB "all" (by decide +kernel)) (by decide +kernel) (pa_cons (pe_lc (own := [("row", 1)]) rfl scIsRows.nd (pk_tup K (pv 0)) (blkOk_by (N := NIsRows) (sc := defScope (topS 7)) (own := [("row", 1)]) (by decide +kernel)) (fun _ _ _ _ _ => (pg_name (i := 1) scIsRows.nd rfl (.inl rfl))) (fun _ _ _ _ _ => pts_nil) (fun _ _ _ _ _ => (pe_call Ce.ok (hr.mono (by decide)) (by rfl) Ce.g Ce.kp Ce.b .nil pass0 (pa_cons (pv 1) pa_nil)))) pa_nil)))))), ?_⟩
    refine ⟨v, rfl, v, .ty "tuple", .type (tyD d), .type "tuple", isD "tuple" d, rfl, .ty _, Dp.ty dv, kit_isD (by decide +kernel) d ok.lay, _, rfl, ?_⟩
    cases h1 : isD "tuple" d with
    | false =>
      refine iteF ?_
      have e : rowsB d = false := by cases d <;> first | rfl | (simp [isD, tyD] at h1)
      rw [← e]
      exact q H (Same.refl H)
    | true =>
      obtain ⟨ds, rfl⟩ := isD_tuple h1
      obtain ⟨b, xs, rfl, hb, ha⟩ := Dp.tupE dv
      have lx := DpAll.len ha
      refine iteT ⟨.ref b, rfl, b, rfl, ⟨xs, hb⟩, fun D nD => ?_⟩
      have lw : ds.length ≤ 500000 := wts_len (by have : wts ds + 3 ≤ 1000000 := hw; omega)
      refine lc_tup (K := K) (a := b) (xs := xs) (fun i H2 => H2 D = some (.lst (((ds.take i).map rowB).map V.bl)) ∧ Same H H2) ⟨upd_same, same_new (Same.refl H) nD⟩ ?_ ?_ ?_
      · rintro i H2 _ ⟨_, s2⟩
        exact (LKeep.of s2).sqT hb
      · rintro i x H2 hx ⟨eD, s2⟩
        obtain ⟨e, he, de⟩ := DpAll.getV ha hx
        have me := List.mem_of_getElem? he
        have w1 := wts_mem me
        have hw' : wts ds + 3 ≤ 1000000 := hw
        refine ⟨rfl, x, rfl, x, e, rfl, Dp.same s2 de, ok.mem e me, by omega, fun H3 s3 => ⟨_, s3 _ _ eD, ?_, ?_, same_own (s2.trans s3) nD⟩⟩
        · rw [List.length_map, List.length_map, List.length_take]
          exact Nat.lt_of_le_of_lt (show _ ≤ 500000 by omega) (by decide)
        · rw [upd_same, take_mapS he, List.map_append]
          rfl
      · rintro H2 ⟨eD, s2⟩
        rw [lx, List.take_length] at eD
        refine ⟨D, _, rfl, .inl (.inl eD), ?_⟩
        rw [bls_all]
        exact q H2 s2
end
end K01
namespace K01
open PySem PySem.Spec PyProof.Rows L2 PK
abbrev NWhole : List Str := ["_law_thing_here"]
theorem scWhole : FnScope NWhole ["_law_thing_here"] (defScope (topS 18)) := ⟨rfl, rfl, rfl, by decide +kernel, rfl, by decide +kernel, by decide +kernel⟩
section
variable {P : Program} {w : World} {K : PySem.W.Frag} {mg : Str → Option Value} {base : Heap}
-- names: ["_law_thing_here"] cells set()
theorem ok_whole {f : Addr} {fd : FuncData} {k : Nat} (F : Fun K "_law_whole" "_law_whole" (topS 18) f fd) (hB : NoB mg BL) :
    FnOk P w K mg base CX0 (k + 1) f fd ["_law_thing_here"] (spLook K numD) := by
  refine F.ok scWhole (fun vs H Q E h => ?_) (fun cdv A outer s H vs Q E hr h => ?_)
  · obtain ⟨v, d, rfl, _⟩ := h
    rfl
  · obtain ⟨v, d, rfl, dv, ok, hw, q⟩ := h
    refine ⟨_, (pss_one (ps_ret (pe_and (pe_callB (k_isi K) (by rfl) (hB "isinstance" (by decide +kernel)) (by decide +kernel) (pa_cons (pv 0) (pa_cons (pe_bltn (v := .ty "int") (by rfl) (hB "int" (by decide +kernel)) (by decide +kernel) rfl) pa_nil))) (pe_one (pe_not (pe_callB (k_isi K) (by rfl) (hB "isinstance" (by decide +kernel)) (by decide +kernel) (pa_cons (pv 0) (pa_cons (pe_bltn (v := .ty "bool") (by rfl) (hB "bool" (by decide +kernel)) (by decide +kernel) rfl) pa_nil)))))))), ?_⟩
    refine ⟨v, rfl, v, .ty "int", .type (tyD d), .type "int", isD "int" d, rfl, .ty _, Dp.ty dv, kit_isD (by decide +kernel) d ok.lay, _, rfl, ?_⟩
    have e := num_is d
    cases h1 : isD "int" d with
    | false =>
      rw [h1, Bool.false_and] at e
      refine iteF ?_
      rw [e]
      exact q H (Same.refl H)
    | true =>
      refine iteT ⟨v, rfl, v, .ty "bool", .type (tyD d), .type "bool", isD "bool" d, rfl, .ty _, Dp.ty dv, kit_isD (by decide +kernel) d ok.lay, _, rfl, ?_⟩
      rw [h1, Bool.true_and] at e
      rw [e]
      exact q H (Same.refl H)
end
end K01
namespace K01
open PySem PySem.Spec PyProof.Rows L2 PK
abbrev NWorded : List Str := ["_law_thing_here", "_law_sign"]
theorem scWorded : FnScope NWorded ["_law_thing_here"] (defScope (topS 19)) := ⟨rfl, rfl, rfl, by decide +kernel, rfl, by decide +kernel, by decide +kernel⟩
section
variable {P : Program} {w : World} {K : PySem.W.Frag} {mg : Str → Option Value} {base : Heap}
-- names: ["_law_thing_here", "_law_sign"] cells set()
theorem ok_worded {f : Addr} {fd : FuncData} {k : Nat} (F : Fun K "_law_worded" "_law_worded" (topS 19) f fd) (hB : NoB mg BL) :
    FnOk P w K mg base CX0 (k + 1) f fd ["_law_thing_here"] (spLook K wordD) := by
  refine F.ok scWorded (fun vs H Q E h => ?_) (fun cdv A outer s H vs Q E hr h => ?_)
  · obtain ⟨v, d, rfl, _⟩ := h
    rfl
  · obtain ⟨v, d, rfl, dv, ok, hw, q⟩ := h
    refine ⟨_, (pss_cons (ps_if (PW.pt (pw_or (pt_not (pt_val (pe_callB (k_isi K) (by rfl) (hB "isinstance" (by decide +kernel)) (by decide +kernel) (pa_cons (pv 0) (pa_cons (pe_bltn (v := .ty "str") (by rfl) (hB "str" (by decide +kernel)) (by decide +kernel) rfl) pa_nil))))) (pw_or (pt_cmpR op_eq (pv 0) pe_str (nomark _)) (pw_or1 (pt_cmpR op_gt (pe_callB call_len_str (by rfl) (hB "len" (by decide +kernel)) PySem.boot_len (pa_cons (pv 0) pa_nil)) pe_int (nomark _))))))
  (pss_one (ps_ret pe_bl)) pss_nil)
  (pss_one (ps_ret (pe_cmpR (ko_eqNil K hr) (pe_lc (own := [("_law_sign", 1)]) rfl scWorded.nd (pi_str (pv 0)) (blkOk_by (N := NWorded) (sc := defScope (topS 19)) (own := [("_law_sign", 1)]) (by decide +kernel)) (fun _ _ _ _ _ => (pg_name (i := 1) scWorded.nd rfl (.inl rfl))) (fun _ _ _ _ _ => pts_one (PW.pt (pw_or (pt_cmpR op_lt (pe_callB call_ord (by rfl) (hB "ord" (by decide +kernel)) (by decide +kernel) (pa_cons (pv 1) pa_nil)) pe_int (nomark _)) (pw_or1 (pt_cmpR op_gt (pe_callB call_ord (by rfl) (hB "ord" (by decide +kernel)) (by decide +kernel) (pa_cons (pv 1) pa_nil)) pe_int (nomark _)))))) (fun _ _ _ _ _ => (pv 1))) (pe_lst pa_nil) (nomark _))))), ?_⟩
    refine ⟨v, rfl, v, .ty "str", .type (tyD d), .type "str", isD "str" d, rfl, .ty _, Dp.ty dv, kit_isD (by decide +kernel) d ok.lay, _, rfl, ?_⟩
    cases h1 : isD "str" d with
    | false =>
      refine iteT ?_
      have e : wordD d = false := by cases d <;> first | rfl | (simp [isD, tyD] at h1)
      show Q (.bl false) H
      rw [← e]
      exact q H (Same.refl H)
    | true =>
      obtain ⟨y, rfl⟩ := isD_str h1
      cases dv
      have ly : y.length ≤ sizeLine := by
        have : 10 * y.length + 2 ≤ 1000000 := hw
        exact Nat.le_trans (show y.length ≤ 100000 by omega) (by decide)
      have none : (decide (1 ≤ y.length) && decide (y.length ≤ 8)) = false → Q (.bl false) H := fun z => by
        have e : wordD (.str y) = false := by
          show wordB y = false
          unfold wordB
          rw [z, Bool.false_and]
        rw [← e]
        exact q H (Same.refl H)
      refine iteF ⟨.str y, rfl, rfl, _, rfl, ?_⟩
      by_cases c1 : 1 ≤ y.length
      · have n1 : ¬ V.str y = V.str "" := fun z => by
          have := V.str.inj z
          rw [this] at c1
          exact absurd c1 (by decide)
        rw [decide_eq_false n1]
        refine iteF ⟨.str y, rfl, y, rfl, ly, _, _, rfl, rfl, _, rfl, ?_⟩
        by_cases c2 : y.length ≤ 8
        · rw [decide_eq_false (show ¬ ((y.length : Nat) : Int) > 8 by omega)]
          refine iteF ⟨.str y, rfl, y, rfl, fun D nD => ?_⟩
          refine lc_it walk_str (fun i H2 => H2 D = some (.lst (((y.cps.toList.take i).filter fun c => !decide (c ∈ abc.cps.toList)).map fun c => V.str ⟨#[c]⟩)) ∧ Same H H2) ⟨upd_same, same_new (Same.refl H) nD⟩ (fun _ _ _ _ => trivial) ?_ ?_
          · rintro i x H2 H3 hi ⟨eD, s2⟩ ⟨rfl, c, hc, rfl⟩
            have hc : y.cps.toList[i]? = some c := by rw [Array.getElem?_toList]; exact hc
            have ly8 : y.cps.toList.length = y.length := by simp [Str.length]
            have put : ¬ (97 ≤ c ∧ c ≤ 122) → ∃ acc, H3 D = some (.lst acc) ∧ acc.length < sizeLine ∧ (upd H3 D (.lst (acc ++ [V.str ⟨#[c]⟩]))) D = some (.lst (((y.cps.toList.take (i + 1)).filter fun c => !decide (c ∈ abc.cps.toList)).map fun c => V.str ⟨#[c]⟩)) ∧ Same H (upd H3 D (.lst (acc ++ [V.str ⟨#[c]⟩]))) := fun nl => by
              refine ⟨_, eD, ?_, ?_, same_own s2 nD⟩
              · rw [List.length_map]
                have := List.length_filter_le (fun c => !decide (c ∈ abc.cps.toList)) (y.cps.toList.take i)
                rw [List.length_take] at this
                exact small1000 (by omega)
              · rw [upd_same, take_snoc hc, List.filter_append, List.map_append, List.filter_cons_of_pos (by rw [abc_mem, decide_eq_false nl]; rfl)]
                rfl
            have skip : (97 ≤ c ∧ c ≤ 122) → H3 D = some (.lst (((y.cps.toList.take (i + 1)).filter fun c => !decide (c ∈ abc.cps.toList)).map fun c => V.str ⟨#[c]⟩)) ∧ Same H H3 := fun yl => by
              refine ⟨?_, s2⟩
              rw [eD, take_snoc hc, List.filter_append, List.filter_cons_of_neg (by rw [abc_mem, decide_eq_true yl]; exact Bool.false_ne_true), List.filter_nil, List.append_nil]
            have e0 : ((#[c] : Array Nat).getD 0 0) = c := rfl
            refine ⟨rfl, _, rfl, _, rfl, rfl, _, _, rfl, rfl, _, rfl, ?_⟩
            rw [e0]
            by_cases z1 : ((c : Nat) : Int) < 97
            · rw [decide_eq_true z1]
              exact iteT (iteT ⟨_, rfl, put fun z => by omega⟩)
            · rw [decide_eq_false z1]
              refine iteF ⟨_, rfl, _, rfl, rfl, _, _, rfl, rfl, _, rfl, ?_⟩
              rw [e0]
              by_cases z2 : ((c : Nat) : Int) > 122
              · rw [decide_eq_true z2]
                exact iteT ⟨_, rfl, put fun z => by omega⟩
              · rw [decide_eq_false z2]
                exact iteF (skip ⟨by omega, by omega⟩)
          · rintro H2 ⟨eD, s2⟩
            rw [List.take_of_length_le (by simp)] at eD
            refine ⟨Nat.zero_le _, fun z nz => ⟨D, z, _, rfl, rfl, .inl (.inl (by rw [upd_ne (ne_of_none eD nz)]; exact eD)), .inl (.inl upd_same), ?_⟩⟩
            have e : ((y.cps.toList.filter fun c => !decide (c ∈ abc.cps.toList)).map fun c => V.str ⟨#[c]⟩).isEmpty = wordD (.str y) := by
              show _ = wordB y
              unfold wordB
              rw [decide_eq_true c1, decide_eq_true c2, Bool.true_and, Bool.true_and, empty_filter]
            rw [e]
            exact q _ (same_new s2 nz)
        · rw [decide_eq_true (show ((y.length : Nat) : Int) > 8 by omega)]
          refine iteT (none ?_)
          rw [decide_eq_false c2, Bool.and_false]
      · have y0 : y = "" := by
          have : y.length = 0 := by omega
          obtain ⟨⟨l⟩⟩ := y
          have : l.length = 0 := this
          rw [List.eq_nil_of_length_eq_zero this]
          rfl
        rw [y0, decide_eq_true rfl]
        refine iteT (none ?_)
        rw [decide_eq_false c1, Bool.false_and]
end
end K01
namespace K01
open PySem PySem.Spec PyProof.Rows L2 PK
abbrev NDue : List Str := ["_law_thing_here", "_law_rows_here", "_law_row"]
theorem scDue : FnScope NDue ["_law_thing_here"] (defScope (topS 20)) := ⟨rfl, rfl, rfl, by decide +kernel, rfl, by decide +kernel, by decide +kernel⟩
section
variable {P : Program} {w : World} {K : PySem.W.Frag} {mg : Str → Option Value} {base : Heap}
-- names: ["_law_thing_here", "_law_rows_here", "_law_row"] cells set()
theorem ok_due {f fW fM : Addr} {fd fdW fdM : FuncData} (F : Fun K "_law_due" "_law_due" (topS 20) f fd) (hB : NoB mg BL) (Wd : Cal P w K mg base 1 "_law_worded" fW fdW ["_law_thing_here"] (spLook K wordD)) (Wh : Cal P w K mg base 1 "_law_whole" fM fdM ["_law_thing_here"] (spLook K numD)) :
    FnOk P w K mg base CX0 2 f fd ["_law_thing_here"] (spDue K) := by
  refine F.ok scDue (fun vs H Q E h => ?_) (fun cdv A outer s H vs Q E hr h => ?_)
  · obtain ⟨v, d, rfl, _⟩ := h
    rfl
  · obtain ⟨v, d, rfl, dv, ok, hw, q⟩ := h
    refine ⟨_, (pss_cons (ps_set (i := 1) scDue.nd rfl (.inl rfl) (pe_callB (k_isi K) (by rfl) (hB "isinstance" (by decide +kernel)) (by decide +kernel) (pa_cons (pv 0) (pa_cons (pe_bltn (v := .ty "tuple") (by rfl) (hB "tuple" (by decide +kernel)) (by decide +kernel) rfl) pa_nil))))
  (pss_cons (ps_if (pt_val (pv 1))
  (pss_one (ps_for PassesOwn.never rfl (pk_tup K (pv 0)) (pg_name (i := 2) scDue.nd rfl (.inl rfl))
  (pss_one (ps_if (PW.pt (pw_or (pt_not (pt_val (pe_callB (k_isi K) (by rfl) (hB "isinstance" (by decide +kernel)) (by decide +kernel) (pa_cons (pv 2) (pa_cons (pe_bltn (v := .ty "tuple") (by rfl) (hB "tuple" (by decide +kernel)) (by decide +kernel) rfl) pa_nil))))) (pw_or (pt_cmpR op_ne (pe_callB (k_len K) (by rfl) (hB "len" (by decide +kernel)) PySem.boot_len (pa_cons (pv 2) pa_nil)) pe_int (nomark _)) (pw_or (pt_not (pt_val (pe_call Wd.ok (hr.mono (by decide)) (by rfl) Wd.g Wd.kp Wd.b .nil pass0 (pa_cons (pe_ix (kx_tup K) (pv 2) pe_int (fun _ _ => rfl)) pa_nil)))) (pw_or1 (pt_not (pt_val (pe_call Wd.ok (hr.mono (by decide)) (by rfl) Wd.g Wd.kp Wd.b .nil pass0 (pa_cons (pe_ix (kx_tup K) (pv 2) pe_int (fun _ _ => rfl)) pa_nil)))))))))
  (pss_one (ps_set (i := 1) scDue.nd rfl (.inl rfl) pe_bl)) (pss_one (ps_if (PW.pt (pw_or (pt_not (pt_val (pe_call Wh.ok (hr.mono (by decide)) (by rfl) Wh.g Wh.kp Wh.b .nil pass0 (pa_cons (pe_ix (kx_tup K) (pv 2) pe_int (fun _ _ => rfl)) pa_nil)))) (pw_or1 (pt_cmpR op_lt (pe_ix (kx_tup K) (pv 2) pe_int (fun _ _ => rfl)) pe_int (nomark _)))))
  (pss_one (ps_set (i := 1) scDue.nd rfl (.inl rfl) pe_bl)) pss_nil)))))) pss_nil)
  (pss_one (ps_ret (pe_tup (pa_cons (pe_call Wh.ok (hr.mono (by decide)) (by rfl) Wh.g Wh.kp Wh.b .nil pass0 (pa_cons (pv 0) pa_nil)) (pa_cons (pe_call Wd.ok (hr.mono (by decide)) (by rfl) Wd.g Wd.kp Wd.b .nil pass0 (pa_cons (pv 0) pa_nil)) (pa_cons (pv 1) pa_nil)))))))), ?_⟩
    refine ⟨v, rfl, v, .ty "tuple", .type (tyD d), .type "tuple", isD "tuple" d, rfl, .ty _, Dp.ty dv, kit_isD (by decide +kernel) d ok.lay, ?_⟩
    have fin : ∀ (b : Bool) {H1 H2 H3 : Hp} {p : Addr}, Same H H1 → Same H1 H2 → Same H2 H3 → H3 p = none → rowsB d = b → Q (.ref p) (upd H3 p (.tup [.bl (numD d), .bl (wordD d), .bl b])) := by
      rintro b H1 H2 H3 p s1 s2 s3 np rfl
      exact q _ _ (same_new ((s1.trans s2).trans s3) np) (.tup (SqT.of upd_same) (.cons (.bl _) (.cons (.bl _) (.cons (.bl _) .nil))))
    cases h1 : isD "tuple" d with
    | false =>
      have e : rowsB d = false := by cases d <;> first | rfl | (simp [isD, tyD] at h1)
      exact ⟨.bl false, rfl, false, rfl, iteF ⟨v, rfl, v, d, rfl, Dp.same (Same.refl H) dv, ok, hw, fun H2 s2 => ⟨v, rfl, v, d, rfl, Dp.same ((Same.refl H).trans s2) dv, ok, hw, fun H3 s3 => ⟨.bl false, rfl, by show 3 ≤ sizeLine; decide, fun p np => fin false (Same.refl H) s2 s3 np e⟩⟩⟩⟩
    | true =>
      obtain ⟨ds, rfl⟩ := isD_tuple h1
      obtain ⟨b, xs, rfl, hb, ha⟩ := Dp.tupE dv
      have lx := DpAll.len ha
      have hw' : wts ds + 3 ≤ 1000000 := hw
      refine ⟨.bl true, rfl, true, rfl, iteT ⟨.ref b, rfl, b, rfl, ⟨xs, hb⟩, for_tup (K := K) (a := b) (xs := xs) (fun i σ H2 => ∃ y2 : Option V, σ = [some (.ref b), some (.bl ((ds.take i).all rowB)), y2] ∧ Same H H2) ⟨none, rfl, Same.refl H⟩ ?_ ?_ ?_⟩⟩
      · rintro i σ H2 _ ⟨y2, rfl, s2⟩
        exact (LKeep.of s2).sqT hb
      · rintro i x σ H2 hx ⟨y2, rfl, s2⟩
        obtain ⟨e, he, de⟩ := DpAll.getV ha hx
        have me := List.mem_of_getElem? he
        have oe := ok.mem e me
        have we := wts_mem me
        have de2 := Dp.same s2 de
        have no : ∀ {H' : Hp}, rowB e = false → Same H2 H' → ∃ y2 : Option V, [some (V.ref b), some (V.bl false), some x] = [some (.ref b), some (.bl ((ds.take (i + 1)).all rowB)), y2] ∧ Same H H' := fun {H'} z s => by
          refine ⟨some x, ?_, s2.trans s⟩
          rw [take_snoc he, List.all_append, List.all_cons, z, Bool.false_and, Bool.and_false]
        have yes : ∀ {H' : Hp}, rowB e = true → Same H2 H' → ∃ y2 : Option V, [some (V.ref b), some (V.bl ((ds.take i).all rowB)), some x] = [some (.ref b), some (.bl ((ds.take (i + 1)).all rowB)), y2] ∧ Same H H' := fun {H'} z s => by
          refine ⟨some x, ?_, s2.trans s⟩
          rw [take_snoc he, List.all_append, List.all_cons, z, Bool.true_and, List.all_nil, Bool.and_true]
        refine ⟨x, rfl, x, .ty "tuple", .type (tyD e), .type "tuple", isD "tuple" e, rfl, .ty _, Dp.ty de2, kit_isD (by decide +kernel) e oe.lay, _, rfl, ?_⟩
        cases g1 : isD "tuple" e with
        | false =>
          have z : rowB e = false := by cases e <;> first | rfl | (simp [isD, tyD] at g1)
          exact iteT (no z (Same.refl _))
        | true =>
        obtain ⟨es, rfl⟩ := isD_tuple g1
        obtain ⟨c, zs, rfl, hc, hz⟩ := Dp.tupE de2
        have lz := DpAll.len hz
        refine iteF ⟨.ref c, rfl, c, zs, rfl, .inr hc, rfl, _, rfl, ?_⟩
        by_cases h3 : zs.length = 3
        · rw [h3]
          refine iteF ?_
          obtain ⟨d0, d1, d2, x0, x1, x2, rfl, rfl, a0, a1, a2⟩ := DpAll.three hz h3
          have o0 := oe.mem d0 (by simp)
          have o1 := oe.mem d1 (by simp)
          have o2 := oe.mem d2 (by simp)
          have w3 : wt d0 + 2 + (wt d1 + 2 + (wt d2 + 2 + 0)) + 3 + 2 ≤ 1000000 := Nat.le_trans we (by omega)
          have er : rowB (.tuple [d0, d1, d2]) = (wordD d0 && wordD d1 && manyD d2) := rfl
          rw [er] at no yes
          refine ⟨.ref c, rfl, c, _, 0, x0, rfl, rfl, hc, at_of (j := 0) rfl rfl, x0, d0, rfl, a0, o0, by omega, fun H3 s3 => ⟨_, rfl, ?_⟩⟩
          cases z0 : wordD d0 with
          | false =>
            rw [z0, Bool.false_and, Bool.false_and] at no
            exact iteT (no rfl s3)
          | true =>
          rw [z0, Bool.true_and] at no yes
          refine iteF ⟨.ref c, rfl, c, _, 1, x1, rfl, rfl, (LKeep.of s3).sqT hc, at_of (j := 1) rfl rfl, x1, d1, rfl, Dp.same s3 a1, o1, by omega, fun H4 s4 => ⟨_, rfl, ?_⟩⟩
          have s34 := s3.trans s4
          cases z1 : wordD d1 with
          | false =>
            rw [z1, Bool.false_and] at no
            exact iteT (no rfl s34)
          | true =>
          rw [z1, Bool.true_and] at no yes
          refine iteF ⟨.ref c, rfl, c, _, 2, x2, rfl, rfl, (LKeep.of s34).sqT hc, at_of (j := 2) rfl rfl, x2, d2, rfl, Dp.same s34 a2, o2, by omega, fun H5 s5 => ⟨_, rfl, ?_⟩⟩
          have s35 := s34.trans s5
          cases z2 : numD d2 with
          | false =>
            have z : manyD d2 = false := by cases d2 <;> first | rfl | (simp [numD] at z2)
            exact iteT (iteT (no z s35))
          | true =>
          obtain ⟨n, rfl⟩ := num_int z2
          cases a2
          refine iteF ⟨.ref c, rfl, c, _, 2, .int n, rfl, rfl, (LKeep.of s35).sqT hc, at_of (j := 2) rfl rfl, _, _, rfl, rfl, _, rfl, ?_⟩
          by_cases hn : n < 1
          · rw [decide_eq_true hn]
            exact iteT (no (decide_eq_false (by omega)) s35)
          · rw [decide_eq_false hn]
            exact iteF (yes (decide_eq_true (by omega)) s35)
        · have n3 : ¬ V.int zs.length = V.int 3 := fun z => h3 (by have := V.int.inj z; omega)
          rw [decide_eq_false n3]
          refine iteT (iteT (no ?_ (Same.refl _)))
          match es, lz with
          | [], _ => rfl
          | [_], _ => rfl
          | [_, _], _ => rfl
          | [_, _, _], lz => exact absurd lz h3
          | _ :: _ :: _ :: _ :: _, _ => rfl
      · rintro σ H2 ⟨y2, rfl, s2⟩
        rw [lx, List.take_length]
        have e : rowsB (.tuple ds) = ds.all rowB := rfl
        generalize PyData.tuple ds = d at dv ok hw fin e
        generalize V.ref b = v at dv fin
        exact ⟨v, rfl, v, d, rfl, Dp.same s2 dv, ok, hw, fun H5 s5 => ⟨v, rfl, v, d, rfl, Dp.same (s2.trans s5) dv, ok, hw, fun H6 s6 => ⟨.bl (ds.all rowB), rfl, by show 3 ≤ sizeLine; decide, fun p np => fin (ds.all rowB) s2 s5 s6 np e⟩⟩⟩
end
end K01
namespace K01
open PySem PySem.Spec PyProof.Rows L2 PK
abbrev NBent : List Str := ["_law_feed_here", "_law_thing_here", "_law_at", "_law_mode", "_law_odd"]
theorem scBent : FnScope NBent ["_law_feed_here", "_law_thing_here"] (defScope (topS 14)) := ⟨rfl, rfl, rfl, by decide +kernel, rfl, by decide +kernel, by decide +kernel⟩
section
variable {P : Program} {w : World} {K : PySem.W.Frag} {mg : Str → Option Value} {base : Heap}
-- names: ["_law_feed_here", "_law_thing_here", "_law_at", "_law_mode", "_law_odd"] cells set()
theorem ok_bent {f fD : Addr} {fd fdD : FuncData} {n : Nat} (F : Fun K "_law_bent" "_law_bent" (topS 14) f fd) (hB : NoB mg BL) (Dr : Cal P w K mg base 1 "_law_draw" fD fdD ["_law_feed_here", "_law_many_here"] spDraw) (Re : Cal P w K mg base (n + 2) "_law_bent" f fd ["_law_feed_here", "_law_thing_here"] (spBent K n)) (hn : n ≤ 60) :
    FnOk P w K mg base CX0 (n + 3) f fd ["_law_feed_here", "_law_thing_here"] (spBent K (n + 1)) := by
  refine F.ok scBent (fun vs H Q E h => ?_) (fun cdv A outer s H vs Q E hr h => ?_)
  · obtain ⟨a, c, S, v, d, m, rfl, _⟩ := h
    rfl
  · obtain ⟨a, c, S, v, d, m, rfl, fe, kS, dM, bd, hdp, m0, m1, hw, q⟩ := h
    have dv := Dp.full dM
    refine ⟨_, (Evl.pss_cut (ps_if (PW.pt (pw_and (pt_val (pe_callB (k_isi K) (by rfl) (hB "isinstance" (by decide +kernel)) (by decide +kernel) (pa_cons (pv 1) (pa_cons (pe_bltn (v := .ty "tuple") (by rfl) (hB "tuple" (by decide +kernel)) (by decide +kernel) rfl) pa_nil)))) (pw_and (pt_cmpR (ko_neD K hr) (pv 1) (pe_tup pa_nil) (nomark _)) (pw_and1 (pt_cmpR op_gt (pe_call Dr.ok (hr.mono (by omega)) (by rfl) Dr.g Dr.kp Dr.b .nil pass0 (pa_cons (pv 0) (pa_cons pe_int pa_nil))) pe_int (nomark _))))))
  (pss_cons (ps_set (i := 2) scBent.nd rfl (.inl rfl) (pe_call Dr.ok (hr.mono (by omega)) (by rfl) Dr.g Dr.kp Dr.b .nil pass0 (pa_cons (pv 0) (pa_cons (pe_callB (k_len K) (by rfl) (hB "len" (by decide +kernel)) PySem.boot_len (pa_cons (pv 1) pa_nil)) pa_nil))))
  (pss_one (ps_ret (pe_op (ko_catB K) (pe_op (ko_catB K) (pe_slice (ks_tupB K) (pv 1) po_none (po_some (pv 2))) (pe_tup (pa_cons (pe_call Re.ok (hr.mono (by omega)) (by rfl) Re.g Re.kp Re.b .nil pass0 (pa_cons (pv 0) (pa_cons (pe_ix (kx_tup K) (pv 1) (pv 2) (fun _ _ => rfl)) pa_nil))) pa_nil))) (pe_slice (ks_tupB K) (pv 1) (po_some (pe_op op_add (pv 2) pe_int)) po_none))))) pss_nil)
  (pss_cons (ps_set (i := 3) scBent.nd rfl (.inl rfl) (pe_call Dr.ok (hr.mono (by omega)) (by rfl) Dr.g Dr.kp Dr.b .nil pass0 (pa_cons (pv 0) (pa_cons pe_int pa_nil))))
  (pss_cons (ps_if (pt_val (pe_callB (k_isi K) (by rfl) (hB "isinstance" (by decide +kernel)) (by decide +kernel) (pa_cons (pv 1) (pa_cons (pe_bltn (v := .ty "tuple") (by rfl) (hB "tuple" (by decide +kernel)) (by decide +kernel) rfl) pa_nil))))
  (pss_cons (ps_set (i := 4) scBent.nd rfl (.inl rfl) (pe_lst (pa_cons (pe_callTy (k_list K) (by rfl) (hB "list" (by decide +kernel)) (by decide +kernel) (pa_cons (pv 1) pa_nil)) (pa_cons (pek_revT K (pv 1)) (pa_cons (pe_tup (pa_cons (pv 1) pa_nil)) (pa_cons (pe_op (ko_catB K) (pv 1) (pv 1)) (pa_cons (pe_tup pa_nil) (pa_cons pe_non (pa_cons (pe_slice (ks_tupB K) (pv 1) (po_some pe_int) po_none) (pa_cons (pe_slice (ks_tupB K) (pv 1) po_none (po_some (pe_un un_neg pe_int))) pa_nil))))))))))
  (pss_one (ps_ret (pe_ix (kx_list K) (pe_op op_cat (pv 4) (pe_lst (pa_cons (pe_op (ko_catB K) (pv 1) (pe_tup (pa_cons pe_non pa_nil))) pa_nil))) (pv 3) (fun _ _ => rfl))))) pss_nil)
  (pss_cons (ps_if (pt_val (pe_callB (k_isi K) (by rfl) (hB "isinstance" (by decide +kernel)) (by decide +kernel) (pa_cons (pv 1) (pa_cons (pe_bltn (v := .ty "int") (by rfl) (hB "int" (by decide +kernel)) (by decide +kernel) rfl) pa_nil))))
  (pss_one (ps_ret (pe_ix (kx_list K) (pe_lst (pa_cons (pe_op op_addW (pv 1) pe_int) (pa_cons (pe_op op_subW (pv 1) pe_int) (pa_cons (pe_cmpR (ko_eqD K hr) (pv 1) pe_int (nomark _)) (pa_cons (pe_callTy call_strW (by rfl) (hB "str" (by decide +kernel)) (by decide +kernel) (pa_cons (pv 1) pa_nil)) (pa_cons pe_non (pa_cons (pe_tup (pa_cons (pv 1) pa_nil)) (pa_cons pe_int (pa_cons (pe_un un_neg pe_int) (pa_cons (pe_op op_pow pe_int pe_int) pa_nil)))))))))) (pv 3) (fun _ _ => rfl)))) pss_nil)
  (pss_one (ps_ret (pe_ix (kx_list K) (pe_lst (pa_cons pe_non (pa_cons pe_bl (pa_cons pe_int (pa_cons pe_int (pa_cons pe_str (pa_cons (pe_tup pa_nil) (pa_cons (pe_lst pa_nil) (pa_cons (pe_un un_neg pe_int) (pa_cons pe_str pa_nil)))))))))) (pv 3) (fun _ _ => rfl)))))))), ?_⟩
    have okd := bd.ok (by omega)
    have shp : SeqAt.shaped d = true ∨ 64 < d.depth := by
      by_cases z : d.depth ≤ 64
      · exact .inl (Tg.shaped (n := wt d) ⟨okd, Nat.le_refl _, Nat.le_refl _⟩ z)
      · exact .inr (by omega)
    refine ⟨fun σ H1 => σ = [some (.ref a), some v, none, none, none] ∧ Ext a H H1 ∧ IsFeed H1 a c, ?_, ?_⟩
    · refine ⟨v, rfl, v, .ty "tuple", .type (tyD d), .type "tuple", isD "tuple" d, rfl, .ty _, Dp.ty dv, kit_isD (by decide +kernel) d bd.lay, _, rfl, ?_⟩
      cases h1 : isD "tuple" d with
      | false => exact iteF (iteF ⟨rfl, Ext.refl _ _, fe⟩)
      | true =>
      obtain ⟨ds, rfl⟩ := isD_tuple h1
      obtain ⟨b, xs, rfl, hbM, haM⟩ := Dp.tupE dM
      have hb := (LKeep.of ms_sub).sqT hbM
      have ha := DpAll.same ms_sub haM
      have lx := DpAll.len ha
      refine iteT ⟨.ref b, rfl, Nat.zero_le _, fun e ne => ?_⟩
      have s1 : Same H (upd H e (.tup [])) := same_new (Same.refl H) ne
      have de : Dp K (upd H e (.tup [])) (.ref e) (.tuple []) := .tup (SqT.of upd_same) .nil
      generalize upd H e (.tup []) = H1 at s1 de
      have f1 := fe.keep s1
      refine ⟨_, .tuple [], Dp.same s1 dv, de, shp.resolve_right (by omega), by decide +kernel, _, rfl, ?_⟩
      rw [eqv_unit]
      cases h2 : ds.isEmpty with
      | true => exact iteF (iteF ⟨rfl, Ext.of s1, f1⟩)
      | false =>
      have hne : ds ≠ [] := by intro z; rw [z] at h2; cases h2
      have hpos : 0 < ds.length := List.length_pos_iff.mpr hne
      refine iteT ⟨.ref a, rfl, a, c, 5, rfl, f1, by decide, by decide, fun r H2 r0 r1 e2 f2 => ⟨_, _, rfl, rfl, _, rfl, ?_⟩⟩
      have x2 : Ext a H H2 := (Ext.of s1).trans e2
      by_cases hr0 : r > 0
      · rw [decide_eq_true hr0]
        have k2 : LKeep H H2 := (LKeep.of s1).trans (LKeep.feed f1 e2)
        have hb2 := k2.sqT hb
        have hlen : ds.length ≤ 50000 := wts_len (by have : wts ds + 3 ≤ 100000 := hw; omega)
        refine iteT ⟨.ref a, rfl, .ref b, rfl, b, xs, rfl, .inr hb2, a, c, _, rfl, f2, by omega, by omega, fun t H3 t0 t1 e3 f3 => ?_⟩
        obtain ⟨k, rfl⟩ := Int.eq_ofNat_of_zero_le t0
        have hk : k < xs.length := by omega
        have k3 : LKeep H H3 := k2.trans (LKeep.feed f2 e3)
        have hb3 := k3.sqT hb
        have ha3 := DpAll.keepL k3 ha
        refine ⟨.ref b, rfl, .int k, rfl, k, rfl, b, xs, rfl, hb3, fun c1 H4 s4 h4 => ?_⟩
        rw [cut_to (by omega)] at h4
        obtain ⟨x, hx⟩ : ∃ x, xs[k]? = some x := ⟨_, List.getElem?_eq_getElem hk⟩
        have k4 : LKeep H H4 := k3.trans (LKeep.of s4)
        have ha4 := DpAll.keepL (ms_keep k4) haM
        obtain ⟨e', he, dx⟩ := DpAll.getV ha4 hx
        have me := List.mem_of_getElem? he
        have hdd := bd.dep
        rw [depth_tuple] at bd hdd hdp q
        have bde := bd.mem e' me
        have dde : e'.depth ≤ PyData.depthAll ds := bde.dep
        have f4 := f3.keep s4
        have we := wts_mem me
        have hw' : wts ds + 3 ≤ 100000 := hw
        refine ⟨.ref a, rfl, .ref b, rfl, .int k, rfl, b, xs, k, x, rfl, rfl, (LKeep.of s4).sqT hb3, at_of rfl hx, a, c, S, x, e', m, rfl, f4, kS.keep k4, dx, ⟨bde.lay, bde.mx, Nat.le_refl _⟩, by omega, m0, m1, by omega, fun v' H5 d' e5 f5 dv' bd' w' => ⟨by show 1 ≤ sizeLine; decide, fun p np => ?_⟩⟩
        have k5 : LKeep H4 H5 := LKeep.feed f4 e5
        have s6 : Same H5 (upd H5 p (.tup [v'])) := same_new (Same.refl H5) np
        have hp6 : SqT K (upd H5 p (.tup [v'])) p [v'] := SqT.of upd_same
        generalize upd H5 p (.tup [v']) = H6 at s6 hp6
        have k46 := k5.trans (LKeep.of s6)
        refine ⟨c1, p, _, _, rfl, rfl, k46.sqT h4, hp6, ?_, fun c2 H7 s7 h7 => ?_⟩
        · rw [List.length_take, List.length_singleton]
          exact Nat.le_trans (show _ ≤ 50001 by omega) (by decide)
        have k37 : LKeep H3 H7 := ((LKeep.of s4).trans k46).trans (LKeep.of s7)
        refine ⟨.ref b, rfl, .int k, rfl, _, _, rfl, rfl, _, rfl, b, xs, rfl, k37.sqT hb3, fun c3 H8 s8 h8 => ?_⟩
        rw [show ((k : Nat) : Int) + 1 = ((k + 1 : Nat) : Int) from by omega, cut_from (by omega)] at h8
        refine ⟨c2, c3, _, _, rfl, rfl, (LKeep.of s8).sqT h7, h8, ?_, fun c4 H9 s9 h9 => ?_⟩
        · rw [List.length_append, List.length_take, List.length_drop, List.length_singleton]
          exact Nat.le_trans (show _ ≤ 100001 by omega) (by decide)
        have k79 : LKeep H6 H9 := ((LKeep.of s7).trans (LKeep.of s8)).trans (LKeep.of s9)
        have k49 : LKeep H4 H9 := k46.trans k79
        have x9 : Ext a H H9 := (((((x2.trans e3).trans (Ext.of s4)).trans e5).trans (Ext.of s6)).trans (Ext.of s7)).trans ((Ext.of s8).trans (Ext.of s9))
        have f9 : IsFeed H9 a c := (((f5.keep s6).keep s7).keep s8).keep s9
        refine q (.ref c4) H9 (.tuple (ds.take k ++ [d'] ++ ds.drop (k + 1))) x9 f9 (.tup (sqT_ms h9 (kS.keep (k4.trans k49))) ?_) ?_ ?_
        · exact DpAll.app (DpAll.app (DpAll.keepL (ms_keep k49) (DpAll.take k ha4)) (.cons (Dp.keepL (ms_keep ((LKeep.of s6).trans k79)) dv') .nil)) (DpAll.keepL (ms_keep k49) (DpAll.drop (k + 1) ha4))
        · refine Bd.tuple fun z hz => ?_
          rcases List.mem_append.mp hz with hz | hz
          · rcases List.mem_append.mp hz with hz | hz
            · exact (bd.mem z (List.mem_of_mem_take hz)).mono (by omega) (by omega)
            · rw [List.mem_singleton.mp hz]
              exact bd'.mono (Nat.le_refl _) (by omega)
          · exact (bd.mem z (List.mem_of_mem_drop hz)).mono (by omega) (by omega)
        · have e1 := wts_app (ds.take k) (ds.drop k)
          rw [List.take_append_drop] at e1
          have e2 : ds.drop k = e' :: ds.drop (k + 1) := by
            rw [List.drop_eq_getElem_cons (by omega)]
            congr 1
            have := (List.getElem?_eq_some_iff.mp he).2
            exact this
          rw [e2] at e1
          have e1 : wts ds = wts (ds.take k) + (wt e' + 2 + wts (ds.drop (k + 1))) := e1
          show wts (ds.take k ++ [d'] ++ ds.drop (k + 1)) + 3 ≤ 10 * (wts ds + 3) + 250
          rw [wts_app, wts_app, wts_one]
          omega
      · rw [decide_eq_false hr0]
        exact iteF ⟨rfl, x2, f2⟩
    · rintro σ H1 ⟨rfl, x1, f1⟩
      have k1 : LKeep H H1 := LKeep.feed fe x1
      have dv1 := Dp.keepL k1 dv
      refine ⟨.ref a, rfl, a, c, 9, rfl, f1, by decide, by decide, fun mo H2 o0 o1 e2 f2 => ?_⟩
      have k2 : LKeep H H2 := k1.trans (LKeep.feed f1 e2)
      have x2 := x1.trans e2
      have dv2 := Dp.keepL k2 dv
      have dM2 := Dp.keepL (ms_keep k2) dM
      have kS2 := kS.keep k2
      -- one of the nine
      have pick : ∀ {zs : List V} {H' : Hp}, zs.length = 9 → Same H2 H' → (∀ z ∈ zs, ∃ d', Dp K (ms S H') z d' ∧ Bd (m + 1) (d.depth + 1) d' ∧ wt d' ≤ 10 * wt d + 250) → ∃ x, atI zs mo = some x ∧ Q x H' := by
        intro zs H' l9 s' all
        obtain ⟨k, rfl⟩ := Int.eq_ofNat_of_zero_le o0
        have hk : k < zs.length := by omega
        obtain ⟨d', g1, g2, g3⟩ := all zs[k] (List.getElem_mem hk)
        exact ⟨zs[k], at_of rfl (List.getElem?_eq_getElem hk), q _ H' d' (x2.trans (Ext.of s')) (f2.keep s') g1 g2 g3⟩
      have w0 : 2 ≤ wt d := wt_two okd
      refine ⟨v, rfl, v, .ty "tuple", .type (tyD d), .type "tuple", isD "tuple" d, rfl, .ty _, Dp.ty dv2, kit_isD (by decide +kernel) d bd.lay, _, rfl, ?_⟩
      cases h1 : isD "tuple" d with
      | true =>
        obtain ⟨ds, rfl⟩ := isD_tuple h1
        obtain ⟨b, xs, rfl, hbM, haM⟩ := Dp.tupE dM2
        have hb := (LKeep.of ms_sub).sqT hbM
        have ha := DpAll.same ms_sub haM
        have lx := DpAll.len ha
        have hlen : ds.length ≤ 50000 := wts_len (by have : wts ds + 3 ≤ 100000 := hw; omega)
        rw [depth_tuple] at bd pick
        have each := bd.mem
        refine iteT ⟨.ref b, rfl, b, xs, rfl, .inr hb, fun p1 n1 => ?_⟩
        have s1 : Same H2 (upd H2 p1 (.lst xs)) := same_new (Same.refl H2) n1
        have g1 : (upd H2 p1 (.lst xs)) p1 = some (.lst xs) := upd_same
        generalize upd H2 p1 (.lst xs) = H3 at s1 g1
        have hb3 := (LKeep.of s1).sqT hb
        refine ⟨.ref b, rfl, b, xs, rfl, hb3, fun p2 n2 => ?_⟩
        have s2 : Same H3 (upd H3 p2 (.tup xs.reverse)) := same_new (Same.refl H3) n2
        have g2 : SqT K (upd H3 p2 (.tup xs.reverse)) p2 xs.reverse := SqT.of upd_same
        generalize upd H3 p2 (.tup xs.reverse) = H4 at s2 g2
        refine ⟨.ref b, rfl, by show 1 ≤ sizeLine; decide, fun p3 n3 => ?_⟩
        have s3 : Same H4 (upd H4 p3 (.tup [.ref b])) := same_new (Same.refl H4) n3
        have g3 : SqT K (upd H4 p3 (.tup [.ref b])) p3 [.ref b] := SqT.of upd_same
        generalize upd H4 p3 (.tup [.ref b]) = H5 at s3 g3
        have s25 : Same H2 H5 := (s1.trans s2).trans s3
        have hb5 := (LKeep.of s25).sqT hb
        refine ⟨.ref b, rfl, .ref b, rfl, b, b, xs, xs, rfl, rfl, hb5, hb5, Nat.le_trans (show _ ≤ 100000 by omega) (by decide), fun p4 H6 s4 g4 => ⟨Nat.zero_le _, fun p5 n5 => ?_⟩⟩
        have s5 : Same H6 (upd H6 p5 (.tup [])) := same_new (Same.refl H6) n5
        have g5 : SqT K (upd H6 p5 (.tup [])) p5 [] := SqT.of upd_same
        generalize upd H6 p5 (.tup []) = H7 at s5 g5
        have s27 : Same H2 H7 := (s25.trans s4).trans s5
        refine ⟨.ref b, rfl, 1, rfl, b, xs, rfl, (LKeep.of s27).sqT hb, fun p7 H8 s7 g7 => ?_⟩
        have s28 := s27.trans s7
        refine ⟨.ref b, rfl, _, rfl, _, rfl, b, xs, rfl, (LKeep.of s28).sqT hb, fun p8 H9 s8 g8 => ⟨by show 8 ≤ sizeLine; decide, fun p9 n9 => ?_⟩⟩
        have s29 := s28.trans s8
        have s9 : Same H9 (upd H9 p9 (.lst [.ref p1, .ref p2, .ref p3, .ref p4, .ref p5, .non, .ref p7, .ref p8])) := same_new (Same.refl H9) n9
        have g9 : (upd H9 p9 (.lst [.ref p1, .ref p2, .ref p3, .ref p4, .ref p5, .non, .ref p7, .ref p8])) p9 = some (.lst [.ref p1, .ref p2, .ref p3, .ref p4, .ref p5, .non, .ref p7, .ref p8]) := upd_same
        generalize upd H9 p9 (.lst [.ref p1, .ref p2, .ref p3, .ref p4, .ref p5, .non, .ref p7, .ref p8]) = Ha at s9 g9
        have s2a := s29.trans s9
        refine ⟨.ref p9, rfl, .ref b, rfl, by show 1 ≤ sizeLine; decide, fun pb nb => ?_⟩
        have sb : Same Ha (upd Ha pb (.tup [.non])) := same_new (Same.refl Ha) nb
        have gb : SqT K (upd Ha pb (.tup [.non])) pb [.non] := SqT.of upd_same
        generalize upd Ha pb (.tup [.non]) = Hb at sb gb
        have s2b := s2a.trans sb
        refine ⟨b, pb, xs, _, rfl, rfl, (LKeep.of s2b).sqT hb, gb, Nat.le_trans (show _ ≤ 50001 by rw [List.length_singleton]; omega) (by decide), fun pc Hc sc gc => ⟨by show 1 ≤ sizeLine; decide, fun pd nd => ?_⟩⟩
        have sd : Same Hc (upd Hc pd (.lst [.ref pc])) := same_new (Same.refl Hc) nd
        have gd : (upd Hc pd (.lst [.ref pc])) pd = some (.lst [.ref pc]) := upd_same
        generalize upd Hc pd (.lst [.ref pc]) = Hd at sd gd
        refine ⟨p9, pd, _, _, rfl, rfl, sd _ _ (sc _ _ (sb _ _ g9)), gd, by show 9 ≤ sizeLine; decide, fun pe ne => ?_⟩
        have se : Same Hd (upd Hd pe (.lst ([.ref p1, .ref p2, .ref p3, .ref p4, .ref p5, .non, .ref p7, .ref p8] ++ [.ref pc]))) := same_new (Same.refl Hd) ne
        have ge : (upd Hd pe (.lst ([.ref p1, .ref p2, .ref p3, .ref p4, .ref p5, .non, .ref p7, .ref p8] ++ [.ref pc]))) pe = some (.lst ([.ref p1, .ref p2, .ref p3, .ref p4, .ref p5, .non, .ref p7, .ref p8] ++ [.ref pc])) := upd_same
        generalize upd Hd pe (.lst ([.ref p1, .ref p2, .ref p3, .ref p4, .ref p5, .non, .ref p7, .ref p8] ++ [.ref pc])) = He at se ge
        have sce : Same Hc He := sd.trans se
        have sae : Same Ha He := (sb.trans sc).trans sce
        have s9e : Same H9 He := s9.trans sae
        have s2e : Same H2 He := s29.trans s9e
        have kSe := kS2.same s2e
        have hae := DpAll.keepL (ms_same s2e) haM
        have W : wt (.tuple ds) = wts ds + 3 := rfl
        obtain ⟨es7, c7, m7, w7⟩ := DpAll.cut (DpAll.keepL (ms_same s28) haM) (some 1) none
        obtain ⟨es8, c8, m8, w8⟩ := DpAll.cut (DpAll.keepL (ms_same s29) haM) none (some (-1))
        have c7 := DpAll.keepL (ms_same (s8.trans s9e)) c7
        have c8 := DpAll.keepL (ms_same s9e) c8
        have big : ∀ {es : List PyData}, (∀ z ∈ es, z ∈ ds) → Bd (m + 1) (PyData.depthAll ds + 1 + 1) (.tuple es) := fun {es} hz => (Bd.tuple (dp := PyData.depthAll ds) fun z h => (each z (hz z h))).mono (by omega) (by omega)
        obtain ⟨x, ex, qx⟩ := pick (zs := [.ref p1, .ref p2, .ref p3, .ref p4, .ref p5, .non, .ref p7, .ref p8] ++ [.ref pc]) (H' := He) rfl s2e (by
          intro z hz
          simp only [List.cons_append, List.nil_append, List.mem_cons, List.not_mem_nil, or_false] at hz
          rcases hz with rfl | rfl | rfl | rfl | rfl | rfl | rfl | rfl | rfl
          · exact ⟨.list ds, .lst (SqL.of (ms_at ((((s2.trans s3).trans s4).trans ((s5.trans s7).trans (s8.trans s9e))) _ _ g1) (kS2.out n1))) hae, (Bd.list each).mono (by omega) (by omega), by show wts ds + 3 ≤ _; omega⟩
          · exact ⟨.tuple ds.reverse, .tup (sqT_ms ((LKeep.of ((s3.trans s4).trans ((s5.trans s7).trans (s8.trans s9e)))).sqT g2) kSe) (DpAll.rev hae), big fun z h => List.mem_reverse.mp h, by show wts ds.reverse + 3 ≤ _; rw [wts_rev]; omega⟩
          · refine ⟨.tuple [.tuple ds], .tup (sqT_ms ((LKeep.of (s4.trans ((s5.trans s7).trans (s8.trans s9e)))).sqT g3) kSe) (.cons (.tup (sqT_ms ((LKeep.of s2e).sqT hb) kSe) hae) .nil), ?_, ?_⟩
            · exact (Bd.tuple fun z h => by rw [List.mem_singleton.mp h]; exact bd).mono (by omega) (Nat.le_refl _)
            · show wt (.tuple ds) + 2 + 0 + 3 ≤ _
              omega
          · refine ⟨.tuple (ds ++ ds), .tup (sqT_ms ((LKeep.of ((s5.trans s7).trans (s8.trans s9e))).sqT g4) kSe) (DpAll.app hae hae), big fun z h => ?_, ?_⟩
            · rcases List.mem_append.mp h with h | h <;> exact h
            · show wts (ds ++ ds) + 3 ≤ _
              rw [wts_app]
              omega
          · exact ⟨.tuple [], .tup (sqT_ms ((LKeep.of (s7.trans (s8.trans s9e))).sqT g5) kSe) .nil, big fun z h => (nomatch h), by show 0 + 3 ≤ _; omega⟩
          · exact ⟨.none, .non, Bd.non, by show 4 ≤ _; omega⟩
          · exact ⟨.tuple es7, .tup (sqT_ms ((LKeep.of (s8.trans s9e)).sqT g7) kSe) c7, big m7, by show wts es7 + 3 ≤ _; omega⟩
          · exact ⟨.tuple es8, .tup (sqT_ms ((LKeep.of s9e).sqT g8) kSe) c8, big m8, by show wts es8 + 3 ≤ _; omega⟩
          · refine ⟨.tuple (ds ++ [.none]), .tup (sqT_ms ((LKeep.of sce).sqT gc) kSe) (DpAll.app hae (.cons .non .nil)), ?_, ?_⟩
            · refine (Bd.tuple (dp := PyData.depthAll ds) fun z h => ?_).mono (m := m) (by omega) (by omega)
              rcases List.mem_append.mp h with h | h
              · exact each z h
              · rw [List.mem_singleton.mp h]
                exact Bd.non
            · show wts (ds ++ [.none]) + 3 ≤ _
              rw [wts_app, wts_one]
              show wts ds + (4 + 2) + 3 ≤ _
              omega)
        exact ⟨.int mo, rfl, pe, _, mo, x, rfl, rfl, .inl (.inl ge), ex, qx⟩
      | false =>
        refine iteF ⟨v, rfl, v, .ty "int", .type (tyD d), .type "int", isD "int" d, rfl, .ty _, Dp.ty dv2, kit_isD (by decide +kernel) d bd.lay, _, rfl, ?_⟩
        cases h2 : isD "int" d with
        | true =>
          obtain ⟨i, ai, hi⟩ := int_is dv2 h2
          have L : i.natAbs.log2 ≤ m ∧ i.natAbs.log2 + 2 ≤ wt d := by
            rcases hi with rfl | ⟨b, rfl, hb⟩
            · exact ⟨bd.mx, Nat.le_refl _⟩
            · have : i.natAbs.log2 ≤ 0 := by
                have := log2_mono hb
                exact this
              exact ⟨by omega, by show _ ≤ 5; omega⟩
          have shd : SeqAt.shaped d = true := shp.resolve_right (by omega)
          refine iteT ⟨v, rfl, i, 1, ai, rfl, v, rfl, i, 1, ai, rfl, v, rfl, d, .int 1, dv2, .int 1, shd, by decide +kernel, v, rfl, v, i, rfl, ai, by omega, v, rfl, by show 1 ≤ sizeLine; decide, fun p np => ?_⟩
          have s3 : Same H2 (upd H2 p (.tup [v])) := same_new (Same.refl H2) np
          have gp : SqT K (upd H2 p (.tup [v])) p [v] := SqT.of upd_same
          generalize upd H2 p (.tup [v]) = H3 at s3 gp
          refine ⟨_, rfl, 10, 60, rfl, rfl, ⟨by decide, by decide, by decide⟩, by show 9 ≤ sizeLine; decide, fun o no => ?_⟩
          have s4 := same_new (o := .lst [.int (i + 1), .int (i - 1), .bl (PyData.eqv d (.int 1)), .str (txI v), .non, .ref p, .int 0, .int (-1), .int (10 ^ (60 : Int).toNat)]) (Same.refl H3) no
          have go : (upd H3 o (.lst [.int (i + 1), .int (i - 1), .bl (PyData.eqv d (.int 1)), .str (txI v), .non, .ref p, .int 0, .int (-1), .int (10 ^ (60 : Int).toNat)])) o = some (.lst [.int (i + 1), .int (i - 1), .bl (PyData.eqv d (.int 1)), .str (txI v), .non, .ref p, .int 0, .int (-1), .int (10 ^ (60 : Int).toNat)]) := upd_same
          generalize upd H3 o (.lst [.int (i + 1), .int (i - 1), .bl (PyData.eqv d (.int 1)), .str (txI v), .non, .ref p, .int 0, .int (-1), .int (10 ^ (60 : Int).toNat)]) = H4 at s4 go
          have l1 := log2_near (i := i + 1) (j := i) (by omega)
          have l2 := log2_near (i := i - 1) (j := i) (by omega)
          obtain ⟨t1, t2⟩ := txI_ok ai
          have l60 : ((10 : Int) ^ (60 : Int).toNat).natAbs.log2 = 199 := by decide +kernel
          obtain ⟨x, ex, qx⟩ := pick (zs := [.int (i + 1), .int (i - 1), .bl (PyData.eqv d (.int 1)), .str (txI v), .non, .ref p, .int 0, .int (-1), .int (10 ^ (60 : Int).toNat)]) (H' := H4) rfl (s3.trans s4) (by
            intro z hz
            simp only [List.mem_cons, List.not_mem_nil, or_false] at hz
            rcases hz with rfl | rfl | rfl | rfl | rfl | rfl | rfl | rfl | rfl
            · exact ⟨_, .int _, Bd.int (by omega), by show (i + 1).natAbs.log2 + 2 ≤ _; omega⟩
            · exact ⟨_, .int _, Bd.int (by omega), by show (i - 1).natAbs.log2 + 2 ≤ _; omega⟩
            · exact ⟨_, .bl _, Bd.bl _, by show 5 ≤ _; omega⟩
            · exact ⟨_, .str _, Bd.str t1, by show 10 * (txI v).length + 2 ≤ _; omega⟩
            · exact ⟨_, .non, Bd.non, by show 4 ≤ _; omega⟩
            · refine ⟨.tuple [d], .tup (sqT_ms ((LKeep.of s4).sqT gp) (kS2.same (s3.trans s4))) (.cons (Dp.keepL (ms_same (s3.trans s4)) dM2) .nil), ?_, by show wt d + 2 + 0 + 3 ≤ _; omega⟩
              exact (Bd.tuple fun z h => by rw [List.mem_singleton.mp h]; exact bd).mono (by omega) (Nat.le_refl _)
            · exact ⟨_, .int _, Bd.int (Nat.zero_le _), by show 0 + 2 ≤ _; omega⟩
            · exact ⟨_, .int _, Bd.int (Nat.le_trans (show _ ≤ 0 by decide) (Nat.zero_le _)), by show 0 + 2 ≤ _; omega⟩
            · exact ⟨_, .int _, Bd.int (by rw [l60]; omega), by show ((10 : Int) ^ (60 : Int).toNat).natAbs.log2 + 2 ≤ _; rw [l60]; omega⟩)
          exact ⟨.int mo, rfl, o, _, mo, x, rfl, rfl, .inl (.inl go), ex, qx⟩
        | false =>
          refine iteF ⟨Nat.zero_le _, fun p1 n1 => ⟨Nat.zero_le _, fun p2 n2 => ?_⟩⟩
          have q2 : p2 ∉ S := (kS2.same (same_new (Same.refl H2) n1)).out n2
          have s3 : Same H2 (upd (upd H2 p1 (.tup [])) p2 (.lst [])) := same_new (same_new (Same.refl H2) n1) n2
          have g1 : SqT K (upd (upd H2 p1 (.tup [])) p2 (.lst [])) p1 [] := SqT.of (by rw [upd_ne (ne_of_none upd_same n2), upd_same])
          have g2 : (upd (upd H2 p1 (.tup [])) p2 (.lst [])) p2 = some (.lst []) := upd_same
          generalize upd (upd H2 p1 (.tup [])) p2 (.lst []) = H3 at s3 g1 g2
          refine ⟨_, rfl, by show 9 ≤ sizeLine; decide, fun o no => ?_⟩
          have s4 := same_new (o := .lst [.non, .bl true, .int 0, .int 1, .str "", .ref p1, .ref p2, .int (-1), .str "a"]) (Same.refl H3) no
          have go : (upd H3 o (.lst [.non, .bl true, .int 0, .int 1, .str "", .ref p1, .ref p2, .int (-1), .str "a"])) o = some (.lst [.non, .bl true, .int 0, .int 1, .str "", .ref p1, .ref p2, .int (-1), .str "a"]) := upd_same
          generalize upd H3 o (.lst [.non, .bl true, .int 0, .int 1, .str "", .ref p1, .ref p2, .int (-1), .str "a"]) = H4 at s4 go
          obtain ⟨x, ex, qx⟩ := pick (zs := [.non, .bl true, .int 0, .int 1, .str "", .ref p1, .ref p2, .int (-1), .str "a"]) (H' := H4) rfl (s3.trans s4) (by
            intro z hz
            simp only [List.mem_cons, List.not_mem_nil, or_false] at hz
            rcases hz with rfl | rfl | rfl | rfl | rfl | rfl | rfl | rfl | rfl
            · exact ⟨_, .non, Bd.non, by show 4 ≤ _; omega⟩
            · exact ⟨_, .bl _, Bd.bl _, by show 5 ≤ _; omega⟩
            · exact ⟨_, .int _, Bd.int (Nat.zero_le _), by show 0 + 2 ≤ _; omega⟩
            · exact ⟨_, .int _, Bd.int (Nat.le_trans (show _ ≤ 0 by decide) (Nat.zero_le _)), by show 0 + 2 ≤ _; omega⟩
            · exact ⟨_, .str _, Bd.str (by decide +kernel), by show 2 ≤ _; omega⟩
            · exact ⟨.tuple [], .tup (sqT_ms ((LKeep.of s4).sqT g1) (kS2.same (s3.trans s4))) .nil, (Bd.tuple (ds := []) (dp := 0) fun z h => (nomatch h)).mono (Nat.le_refl _) (by omega), by show 0 + 3 ≤ _; omega⟩
            · exact ⟨.list [], .lst (SqL.of (ms_at (s4 _ _ g2) q2)) .nil, (Bd.list (ds := []) (dp := 0) fun z h => (nomatch h)).mono (Nat.le_refl _) (by omega), by show 0 + 3 ≤ _; omega⟩
            · exact ⟨_, .int _, Bd.int (Nat.le_trans (show _ ≤ 0 by decide) (Nat.zero_le _)), by show 0 + 2 ≤ _; omega⟩
            · exact ⟨_, .str _, Bd.str (by decide +kernel), by show 12 ≤ _; omega⟩)
          exact ⟨.int mo, rfl, o, _, mo, x, rfl, rfl, .inl (.inl go), ex, qx⟩
end
end K01
namespace K01
open PySem PySem.Spec PyProof.Rows L2 PK
abbrev NText : List Str := ["_law_feed_here", "_law_signs", "_law_some", "_law_text_here", "_law_k", "_law_at"]
theorem scText : FnScope NText ["_law_feed_here"] (defScope (topS 15)) := ⟨rfl, rfl, rfl, by decide +kernel, rfl, by decide +kernel, by decide +kernel⟩
section
variable {P : Program} {w : World} {K : PySem.W.Frag} {mg : Str → Option Value} {base : Heap}
-- names: ["_law_feed_here", "_law_signs", "_law_some", "_law_text_here", "_law_k", "_law_at"] cells {'_law_feed_here', '_law_some'}
theorem ok_text {f fD : Addr} {fd fdD : FuncData} (F : Fun K "_law_text" "_law_text" (topS 15) f fd) (hB : NoB mg BL) (Dr : Cal P w K mg base 1 "_law_draw" fD fdD ["_law_feed_here", "_law_many_here"] spDraw) :
    FnOk P w K mg base CX0 2 f fd ["_law_feed_here"] spText := by
  refine F.ok scText (fun vs H Q E h => ?_) (fun cdv A outer s H vs Q E hr h => ?_)
  · obtain ⟨a, c, rfl, _⟩ := h
    rfl
  · obtain ⟨a, c, rfl, fe, q⟩ := h
    refine ⟨_, (pss_cons (ps_set (i := 1) scText.nd rfl (.inl rfl) pe_str)
  (pss_cons (ps_set (i := 2) scText.nd rfl (.inr rfl) (pe_ix (kx_list K) (pe_lst (pa_cons pe_str (pa_cons (pv 1) pa_nil))) (pe_call Dr.ok (hr.mono (by decide)) (by rfl) Dr.g Dr.kp Dr.b .nil pass0 (pa_cons (pv 0) (pa_cons pe_int pa_nil))) (fun _ _ => rfl)))
  (pss_cons (ps_set (i := 3) scText.nd rfl (.inl rfl) (pe_join pe_str (pe_lc (own := [("_law_k", 4)]) rfl scText.nd (pi_range1 (by rfl) (hB "range" (by decide +kernel)) (pa_cons (pe_call Dr.ok (hr.mono (by decide)) (by rfl) Dr.g Dr.kp Dr.b .nil pass0 (pa_cons (pv 0) (pa_cons pe_int pa_nil))) pa_nil)) (blkOk_by (N := NText) (sc := defScope (topS 15)) (own := [("_law_k", 4)]) (by decide +kernel)) (fun _ _ _ _ _ => (pg_name (i := 4) scText.nd rfl (.inl rfl))) (fun _ _ _ _ _ => pts_nil) (fun _ _ _ _ _ => (pe_ix ix_str (pv 2) (pe_call Dr.ok (hr.mono (by decide)) (by rfl) Dr.g Dr.kp Dr.b .nil pass0 (pa_cons (pv 0) (pa_cons (pe_callB call_len_str (by rfl) (hB "len" (by decide +kernel)) PySem.boot_len (pa_cons (pv 2) pa_nil)) pa_nil))) (fun _ _ => rfl))))))
  (pss_cons (ps_if (pt_cmpR op_eq (pe_call Dr.ok (hr.mono (by decide)) (by rfl) Dr.g Dr.kp Dr.b .nil pass0 (pa_cons (pv 0) (pa_cons pe_int pa_nil))) pe_int (nomark _))
  (pss_cons (ps_set (i := 5) scText.nd rfl (.inl rfl) (pe_call Dr.ok (hr.mono (by decide)) (by rfl) Dr.g Dr.kp Dr.b .nil pass0 (pa_cons (pv 0) (pa_cons (pe_op op_add (pe_callB call_len_str (by rfl) (hB "len" (by decide +kernel)) PySem.boot_len (pa_cons (pv 3) pa_nil)) pe_int) pa_nil))))
  (pss_one (ps_set (i := 3) scText.nd rfl (.inl rfl) (pe_op op_add_str (pe_op op_add_str (pe_slice sl_str (pv 3) po_none (po_some (pv 5))) (pe_ix ix_str (pv 1) (pe_call Dr.ok (hr.mono (by decide)) (by rfl) Dr.g Dr.kp Dr.b .nil pass0 (pa_cons (pv 0) (pa_cons pe_int pa_nil))) (fun _ _ => rfl))) (pe_slice sl_str (pv 3) (po_some (pe_op op_add (pv 5) (pe_call Dr.ok (hr.mono (by decide)) (by rfl) Dr.g Dr.kp Dr.b .nil pass0 (pa_cons (pv 0) (pa_cons pe_int pa_nil))))) po_none))))) pss_nil)
  (pss_one (ps_ret (pv 3))))))), ?_⟩
    refine ⟨.str sgn, rfl, by show 2 ≤ sizeLine; decide, fun p np => ?_⟩
    have npc := fe.ne np
    have x1 : Ext a H (upd H p (.lst [.str abc, .str sgn])) := (Ext.refl a H).new np
    have g1 : (upd H p (.lst [.str abc, .str sgn])) p = some (.lst [.str abc, .str sgn]) := upd_same
    have f1 := fe.new (o := .lst [.str abc, .str sgn]) np
    generalize upd H p (.lst [.str abc, .str sgn]) = H1 at x1 g1 f1
    refine ⟨.ref a, rfl, a, c, 2, rfl, f1, by decide, by decide, fun r H2 r0 r1 e2 f2 => ?_⟩
    have hz : ∃ z : Str, atI [V.str abc, .str sgn] r = some (.str z) ∧ Low z ∧ 1 ≤ z.length ∧ z.length ≤ 94 := by
      have : r = 0 ∨ r = 1 := by omega
      rcases this with rfl | rfl
      · exact ⟨abc, rfl, abc_low, by rw [abc_len26]; decide, by rw [abc_len26]; decide⟩
      · exact ⟨sgn, rfl, sgn_low, by rw [sgn_len]; decide, by rw [sgn_len]; decide⟩
    obtain ⟨z, ez, lz, z1, z94⟩ := hz
    have lzs : z.length ≤ sizeLine := Nat.le_trans z94 (by decide)
    have x2 := x1.trans e2
    refine ⟨p, _, r, .str z, rfl, rfl, .inl (.inl (e2 _ _ g1 npc.1)), ez, ?_⟩
    refine ⟨⟨_, rfl⟩, .ref a, rfl, a, c, 11, rfl, f2, by decide, by decide, fun n H3 n0 n1 e3 f3 => ⟨n, rfl, by omega, by omega, fun D nD => ?_⟩⟩
    have nDc := f3.ne nD
    have x3 := x2.trans e3
    obtain ⟨k, rfl⟩ := Int.eq_ofNat_of_zero_le n0
    refine lc_range (lo := 0) (n := ((k : Nat) : Int).toNat) (fun j H5 => ∃ l : List Nat, l.length = j ∧ (∀ x ∈ l, x < 128) ∧ H5 D = some (.lst ((l.map fun x => (⟨#[x]⟩ : Str)).map V.str)) ∧ Ext a H3 H5 ∧ IsFeed H5 a c) ⟨[], rfl, fun _ h => (nomatch h), upd_same, (Ext.refl a H3).new nD, f3.new nD⟩ ?_ ?_
    · rintro j H5 hj ⟨l, ll, lw, ed, e5, f5⟩
      refine ⟨rfl, .str z, rfl, .ref a, rfl, .str z, rfl, z, rfl, lzs, a, c, _, rfl, f5, by omega, by omega, fun r H6 r0 r1 e6 f6 => ?_⟩
      obtain ⟨x, ex, hx⟩ := low_at lz r0 r1
      refine ⟨z, r, x, rfl, rfl, lzs, ex, _, e6 D _ ed nDc.1, ?_, l ++ [x], by rw [List.length_append, ll]; rfl, fun v hv => ?_, ?_, (e5.trans e6).own nD, f6.own nDc⟩
      · rw [List.length_map, List.length_map]
        exact small1000 (by omega)
      · rcases List.mem_append.mp hv with h | h
        · exact lw v h
        · rw [List.mem_singleton.mp h]; exact hx
      · rw [upd_same, List.map_append, List.map_append]
        rfl
    · rintro H5 ⟨l, ll, lw, ed, e5, f5⟩
      have ll : l.length = k := by rw [ll]; exact Int.toNat_natCast k
      obtain ⟨j1, j2⟩ := low_join lw
      have x5 := x3.trans e5
      refine ⟨_, D, _, rfl, rfl, .inl (.inl (.inl ed)), ?_, ?_⟩
      · rw [ones_sum, List.length_map]
        have e1 : ((Str.ofString "").length : Nat) = 0 := rfl
        rw [e1]
        omega
      have fin : ∀ (y : Str) (H6 : Hp), Ext a H H6 → IsFeed H6 a c → Low y → y.length ≤ 24 → Q (.str y) H6 := fun y H6 e f l1 l2 => q y H6 e f l1 l2
      have j3 : (Txt.join (Str.ofString "") (l.map fun x => (⟨#[x]⟩ : Str))).length = l.length := j2
      have j4 : Low (Txt.join (Str.ofString "") (l.map fun x => (⟨#[x]⟩ : Str))) := j1
      generalize Txt.join (Str.ofString "") (l.map fun x => (⟨#[x]⟩ : Str)) = y at j3 j4
      have ly : y.length ≤ sizeLine := Nat.le_trans (show _ ≤ 11 by omega) (by decide)
      refine ⟨.ref a, rfl, a, c, 2, rfl, f5, by decide, by decide, fun r H6 r0 r1 e6 f6 => ⟨rfl, _, rfl, ?_⟩⟩
      have x6 := x5.trans e6
      by_cases hr0 : V.int r = V.int 0
      · rw [decide_eq_true hr0]
        refine iteT ⟨.ref a, rfl, .str y, rfl, y, rfl, ly, _, _, rfl, rfl, a, c, _, rfl, f6, by omega, by omega, fun t H7 t0 t1 e7 f7 => ?_⟩
        refine ⟨.str y, rfl, .int t, rfl, t, rfl, y, rfl, ly, .str sgn, rfl, .ref a, rfl, a, c, 94, rfl, f7, by decide, by decide, fun g H8 g0 g1 e8 f8 => ?_⟩
        obtain ⟨x, ex, hx⟩ := low_at sgn_low g0 (by rw [sgn_len]; exact g1)
        obtain ⟨c1, c2⟩ := low_cut j4 none (some t)
        have l1 : ((cutS y none (some t)) ++ (⟨#[x]⟩ : Str)).length = (cutS y none (some t)).length + 1 := by rw [strLen_append]; rfl
        refine ⟨sgn, g, x, rfl, rfl, by rw [sgn_len]; decide, ex, _, _, rfl, rfl, Nat.le_trans (show _ ≤ 12 by have : (⟨#[x]⟩ : Str).length = 1 := rfl; omega) (by decide), ?_⟩
        refine ⟨.str y, rfl, .int t, rfl, .ref a, rfl, a, c, 2, rfl, f8, by decide, by decide, fun h H9 h0 h1 e9 f9 => ?_⟩
        obtain ⟨d1, d2⟩ := low_cut j4 (some (t + h)) none
        refine ⟨_, _, rfl, rfl, _, rfl, y, rfl, ly, _, _, rfl, rfl, Nat.le_trans (show _ ≤ 30 by omega) (by decide), ?_⟩
        refine ⟨_, rfl, fin _ H9 (((x6.trans e7).trans e8).trans e9) f9 (low_app (low_app c1 (low_one hx)) d1) ?_⟩
        rw [strLen_append, l1]
        omega
      · rw [decide_eq_false hr0]
        exact iteF ⟨_, rfl, fin y H6 x6 f6 j4 (by omega)⟩
end
end K01
namespace K01
open PySem PySem.Spec PyProof.Rows L2 PK
abbrev NThing : List Str := ["_law_feed_here", "_law_mode", "_law_number", "_law_k", "_law_odd"]
theorem scThing : FnScope NThing ["_law_feed_here"] (defScope (topS 16)) := ⟨rfl, rfl, rfl, by decide +kernel, rfl, by decide +kernel, by decide +kernel⟩
section
variable {P : Program} {w : World} {K : PySem.W.Frag} {mg : Str → Option Value} {base : Heap}
-- names: ["_law_feed_here", "_law_mode", "_law_number", "_law_k", "_law_odd"] cells set()
theorem ok_thing {f fD fT : Addr} {fd fdD fdT : FuncData} (F : Fun K "_law_thing" "_law_thing" (topS 16) f fd) (hB : NoB mg BL) (Dr : Cal P w K mg base 1 "_law_draw" fD fdD ["_law_feed_here", "_law_many_here"] spDraw) (Tx : Cal P w K mg base 2 "_law_text" fT fdT ["_law_feed_here"] spText) :
    FnOk P w K mg base CX0 3 f fd ["_law_feed_here"] (spThing K) := by
  refine F.ok scThing (fun vs H Q E h => ?_) (fun cdv A outer s H vs Q E hr h => ?_)
  · obtain ⟨a, c, S, rfl, _⟩ := h
    rfl
  · obtain ⟨a, c, S, rfl, fe, kS, q⟩ := h
    refine ⟨_, (pss_cons (ps_set (i := 1) scThing.nd rfl (.inl rfl) (pe_call Dr.ok (hr.mono (by decide)) (by rfl) Dr.g Dr.kp Dr.b .nil pass0 (pa_cons (pv 0) (pa_cons pe_int pa_nil))))
  (pss_cons (ps_if (pt_cmpR op_lt (pv 1) pe_int (nomark _))
  (pss_one (ps_ret (pe_call Tx.ok (hr.mono (by decide)) (by rfl) Tx.g Tx.kp Tx.b .nil pass0 (pa_cons (pv 0) pa_nil)))) pss_nil)
  (pss_cons (ps_if (pt_cmpR op_eq (pv 1) pe_int (nomark _))
  (pss_cons (ps_set (i := 2) scThing.nd rfl (.inl rfl) (pe_call Dr.ok (hr.mono (by decide)) (by rfl) Dr.g Dr.kp Dr.b .nil pass0 (pa_cons (pv 0) (pa_cons pe_int pa_nil))))
  (pss_cons (ps_for PassesOwn.never rfl (pi_range1 (by rfl) (hB "range" (by decide +kernel)) (pa_cons (pe_cut (pe_ifExp (pt_cmpR op_eq (pe_call Dr.ok (hr.mono (by decide)) (by rfl) Dr.g Dr.kp Dr.b .nil pass0 (pa_cons (pv 0) (pa_cons pe_int pa_nil))) pe_int (nomark _)) (pe_call Dr.ok (hr.mono (by decide)) (by rfl) Dr.g Dr.kp Dr.b .nil pass0 (pa_cons (pv 0) (pa_cons pe_int pa_nil))) pe_int)) pa_nil)) (pg_name (i := 3) scThing.nd rfl (.inl rfl))
  (pss_one (ps_set (i := 2) scThing.nd rfl (.inl rfl) (pe_op op_add (pe_op op_mul (pv 2) (pe_op op_pow pe_int pe_int)) (pe_call Dr.ok (hr.mono (by decide)) (by rfl) Dr.g Dr.kp Dr.b .nil pass0 (pa_cons (pv 0) (pa_cons (pe_op op_pow pe_int pe_int) pa_nil)))))))
  (pss_one (ps_ret (pe_op op_mul (pv 2) (pe_ix (kx_list K) (pe_lst (pa_cons pe_int (pa_cons (pe_un un_neg pe_int) pa_nil))) (pe_call Dr.ok (hr.mono (by decide)) (by rfl) Dr.g Dr.kp Dr.b .nil pass0 (pa_cons (pv 0) (pa_cons pe_int pa_nil))) (fun _ _ => rfl))))))) pss_nil)
  (pss_cons (ps_set (i := 4) scThing.nd rfl (.inl rfl) (pe_lst (pa_cons pe_bl (pa_cons pe_bl (pa_cons pe_non (pa_cons pe_str (pa_cons pe_str (pa_cons pe_str (pa_cons pe_str (pa_cons (pe_tup pa_nil) (pa_cons (pe_lst pa_nil) (pa_cons (pe_tup (pa_cons (pe_tup (pa_cons pe_str (pa_cons pe_str (pa_cons pe_int pa_nil)))) pa_nil)) (pa_cons (pe_tup (pa_cons pe_str (pa_cons pe_str (pa_cons pe_int pa_nil)))) (pa_cons pe_str (pa_cons pe_str pa_nil)))))))))))))))
  (pss_cons (ps_expr (pe_bm PySem.F.plainAttrs_list PySem.F.slot_list_append PySem.F.type_list_append mt_append (pv 4) (pa_cons (pe_lst (pa_cons (pe_tup (pa_cons pe_str (pa_cons pe_str (pa_cons pe_int pa_nil)))) pa_nil)) pa_nil)))
  (pss_one (ps_ret (pe_ix (kx_list K) (pe_op op_cat (pv 4) (pe_lst (pa_cons (pe_tup (pa_cons (pe_tup pa_nil) pa_nil)) pa_nil))) (pe_call Dr.ok (hr.mono (by decide)) (by rfl) Dr.g Dr.kp Dr.b .nil pass0 (pa_cons (pv 0) (pa_cons pe_int pa_nil))) (fun _ _ => rfl))))))))), ?_⟩
    refine ⟨.ref a, rfl, a, c, 4, rfl, fe, by decide, by decide, fun mo H1 o0 o1 x1 f1 => ?_⟩
    refine ⟨.int mo, rfl, _, _, rfl, rfl, _, rfl, ite2 (fun h2 => ?_) (fun h2 => ?_)⟩
    · refine ⟨.ref a, rfl, a, c, rfl, f1, fun y H2 e2 f2 ly l24 => q _ H2 (.str y) (x1.trans e2) f2 (.str y) (Bd.str (low_ok ly)) ?_⟩
      show 10 * y.length + 2 ≤ 1000
      omega
    refine ⟨.int mo, rfl, rfl, _, rfl, ite2 (fun h3 => ?_) (fun h3 => ?_)⟩
    · refine ⟨.ref a, rfl, a, c, 60, rfl, f1, by decide, by decide, fun n0 H2 n1 n2 e2 f2 => ?_⟩
      have x2 := x1.trans e2
      refine ⟨fun v H' => ∃ n : Int, v = .int n ∧ 0 ≤ n ∧ n ≤ 33 ∧ Ext a H H' ∧ IsFeed H' a c, ?_, ?_⟩
      · refine ⟨.ref a, rfl, a, c, 6, rfl, f2, by decide, by decide, fun r H3 r0 r1 e3 f3 => ⟨rfl, _, rfl, ite2 (fun _ => ?_) (fun _ => ?_)⟩⟩
        · exact ⟨.ref a, rfl, a, c, 33, rfl, f3, by decide, by decide, fun t H4 t0 t1 e4 f4 => ⟨t, rfl, t0, by omega, (x2.trans e3).trans e4, f4⟩⟩
        · exact ⟨0, rfl, by decide, by decide, x2.trans e3, f3⟩
      · rintro _ H3 ⟨n, rfl, g0, g1, x3, f3⟩
        obtain ⟨k, rfl⟩ := Int.eq_ofNat_of_zero_le g0
        refine ⟨k, rfl, by omega, by omega, for_range (lo := 0) (n := ((k : Nat) : Int).toNat) (fun i σ H4 => ∃ (z : Int) (y4 : Option V), σ = [some (.ref a), some (.int mo), some (.int z), y4, none] ∧ 0 ≤ z ∧ z < 100 * 1000000 ^ i ∧ Ext a H H4 ∧ IsFeed H4 a c) ⟨n0, none, rfl, n1, by omega, x3, f3⟩ ?_ ?_⟩
        · rintro i σ H4 hi ⟨z, y4, rfl, z0, z1, x4, f4⟩
          refine ⟨.int z, rfl, 10, 6, rfl, rfl, ⟨by decide, by decide, by decide⟩, z, _, rfl, rfl, .inr ⟨by decide, by decide⟩, .ref a, rfl, 10, 6, rfl, rfl, ⟨by decide, by decide, by decide⟩, a, c, _, rfl, f4, by decide, by decide, fun r H5 r0 r1 e5 f5 => ?_⟩
          refine ⟨_, _, rfl, rfl, _, _, rfl, ?_, ?_, x4.trans e5, f5⟩
          · have : (0 : Int) ≤ z * 10 ^ (6 : Int).toNat := Int.mul_nonneg z0 (by decide)
            omega
          · have e1 : (10 : Int) ^ (6 : Int).toNat = 1000000 := by decide
            have r1 : r < 1000000 := r1
            rw [e1, Int.pow_succ]
            generalize (1000000 : Int) ^ i = w at z1
            omega
        · rintro σ H4 ⟨z, y4, rfl, z0, z1, x4, f4⟩
          refine ⟨.int z, rfl, _, rfl, by show 2 ≤ sizeLine; decide, fun p np => ?_⟩
          have npc := f4.ne np
          have x5 : Ext a H (upd H4 p (.lst [.int 1, .int (-1)])) := x4.new np
          have f5 := f4.new (o := .lst [.int 1, .int (-1)]) np
          have gp : (upd H4 p (.lst [.int 1, .int (-1)])) p = some (.lst [.int 1, .int (-1)]) := upd_same
          generalize upd H4 p (.lst [.int 1, .int (-1)]) = H5 at x5 f5 gp
          refine ⟨.ref a, rfl, a, c, 2, rfl, f5, by decide, by decide, fun r H6 r0 r1 e6 f6 => ?_⟩
          have hs : ∃ s : Int, atI [V.int 1, .int (-1)] r = some (.int s) ∧ (s = 1 ∨ s = -1) := by
            have : r = 0 ∨ r = 1 := by omega
            rcases this with rfl | rfl
            · exact ⟨1, rfl, Or.inl rfl⟩
            · exact ⟨-1, rfl, Or.inr rfl⟩
          obtain ⟨s, es, hs⟩ := hs
          have ab : (z * s).natAbs = z.natAbs := by
            rcases hs with rfl | rfl <;> omega
          have lg : (z * s).natAbs.log2 ≤ 700 := by
            rw [ab]
            exact num_log z0 z1 (by omega)
          refine ⟨p, _, r, .int s, rfl, rfl, .inl (.inl (e6 _ _ gp npc.1)), es, z, s, rfl, rfl, .inr ?_, q _ H6 (.int (z * s)) (x5.trans e6) f6 (.int _) (Bd.int lg) ?_⟩
          · rcases hs with rfl | rfl <;> exact ⟨by decide, by decide⟩
          · show (z * s).natAbs.log2 + 2 ≤ 1000
            omega
    · refine ⟨Nat.zero_le _, fun p1 n1 => ⟨Nat.zero_le _, fun p2 n2 => ⟨by show 3 ≤ sizeLine; decide, fun p3 n3 => ⟨by show 1 ≤ sizeLine; decide, fun p4 n4 => ⟨by show 3 ≤ sizeLine; decide, fun p5 n5 => ⟨by show 13 ≤ sizeLine; decide, fun o no => ?_⟩⟩⟩⟩⟩⟩
      generalize hZ : ([V.bl true, .bl false, .non, .str "", .str "a", .str "abcdefgh", .str "abcdefghi", .ref p1, .ref p2, .ref p4, .ref p5, .str "A", .str "a b"] : List V) = Z
      have l1 : Same H1 (upd H1 p1 (.tup [])) := same_new (Same.refl H1) n1
      have g1 : (upd H1 p1 (.tup [])) p1 = some (.tup []) := upd_same
      generalize upd H1 p1 (.tup []) = G1 at l1 g1 n2 n3 n4 n5 no
      have l2 : Same G1 (upd G1 p2 (.lst [])) := same_new (Same.refl G1) n2
      have g2 : (upd G1 p2 (.lst [])) p2 = some (.lst []) := upd_same
      have q2 : p2 ∉ S := ((kS.keep (LKeep.feed fe x1)).same l1).out n2
      generalize upd G1 p2 (.lst []) = G2 at l2 g2 n3 n4 n5 no
      have l3 : Same G2 (upd G2 p3 (.tup [.str "a", .str "b", .int 1])) := same_new (Same.refl G2) n3
      have g3 : (upd G2 p3 (.tup [.str "a", .str "b", .int 1])) p3 = some (.tup [.str "a", .str "b", .int 1]) := upd_same
      generalize upd G2 p3 (.tup [.str "a", .str "b", .int 1]) = G3 at l3 g3 n4 n5 no
      have l4 : Same G3 (upd G3 p4 (.tup [.ref p3])) := same_new (Same.refl G3) n4
      have g4 : (upd G3 p4 (.tup [.ref p3])) p4 = some (.tup [.ref p3]) := upd_same
      generalize upd G3 p4 (.tup [.ref p3]) = G4 at l4 g4 n5 no
      have l5 : Same G4 (upd G4 p5 (.tup [.str "a", .str "b", .int 1])) := same_new (Same.refl G4) n5
      have g5 : (upd G4 p5 (.tup [.str "a", .str "b", .int 1])) p5 = some (.tup [.str "a", .str "b", .int 1]) := upd_same
      generalize upd G4 p5 (.tup [.str "a", .str "b", .int 1]) = G5 at l5 g5 no
      have g4 := l5 _ _ g4
      have g3 := l5 _ _ (l4 _ _ g3)
      have g2 := l5 _ _ (l4 _ _ (l3 _ _ g2))
      have g1 := l5 _ _ (l4 _ _ (l3 _ _ (l2 _ _ g1)))
      have x5 : Ext a H G5 := x1.trans (Ext.of ((((l1.trans l2).trans l3).trans l4).trans l5))
      have f5 := f1.keep ((((l1.trans l2).trans l3).trans l4).trans l5)
      clear l1 l2 l3 l4 l5
      have e1 : p1 ≠ o := ne_of_none g1 no
      have e2 : p2 ≠ o := ne_of_none g2 no
      have e3 : p3 ≠ o := ne_of_none g3 no
      have e4 : p4 ≠ o := ne_of_none g4 no
      have e5 : p5 ≠ o := ne_of_none g5 no
      have noc := f5.ne no
      have l6 : Same G5 (upd G5 o (.lst Z)) := same_new (Same.refl G5) no
      have go : (upd G5 o (.lst Z)) o = some (.lst Z) := upd_same
      have no5 : G5 o = none := no
      generalize upd G5 o (.lst Z) = G6 at l6 go
      refine ⟨.ref o, rfl, .inl ⟨rfl, _, .inl (.inl go)⟩, by show 3 ≤ sizeLine; decide, fun p6 n6 => ⟨by show 1 ≤ sizeLine; decide, fun p7 n7 => ?_⟩⟩
      have l7 : Same G6 (upd G6 p6 (.tup [.str "a", .str "b", .int 1])) := same_new (Same.refl G6) n6
      have g6 : (upd G6 p6 (.tup [.str "a", .str "b", .int 1])) p6 = some (.tup [.str "a", .str "b", .int 1]) := upd_same
      have e6 : p6 ≠ o := (ne_of_none go n6).symm
      generalize upd G6 p6 (.tup [.str "a", .str "b", .int 1]) = G7 at l7 g6 n7
      have go := l7 _ _ go
      have l8 : Same G7 (upd G7 p7 (.lst [.ref p6])) := same_new (Same.refl G7) n7
      have g7 : (upd G7 p7 (.lst [.ref p6])) p7 = some (.lst [.ref p6]) := upd_same
      have q7 : p7 ∉ S := ((kS.keep (LKeep.feed fe x5)).same (l6.trans l7)).out n7
      have e7 : p7 ≠ o := (ne_of_none go n7).symm
      generalize upd G7 p7 (.lst [.ref p6]) = G8 at l8 g7
      have go := l8 _ _ go
      have g6 := l8 _ _ g6
      have l58 : Same G5 G8 := (l6.trans l7).trans l8
      refine ⟨o, _, .ref p7, rfl, rfl, go, by rw [← hZ]; show 13 < sizeLine; decide, ?_⟩
      have mv : ∀ {b : Addr} {u : HO}, G8 b = some u → b ≠ o → (upd G8 o (.lst (Z ++ [.ref p7]))) b = some u := fun h n => by rw [upd_ne n]; exact h
      have h1 := mv (l58 _ _ g1) e1
      have h2 := mv (l58 _ _ g2) e2
      have h3 := mv (l58 _ _ g3) e3
      have h4 := mv (l58 _ _ g4) e4
      have h5 := mv (l58 _ _ g5) e5
      have h6 := mv g6 e6
      have h7 := mv g7 e7
      have x9 : Ext a H (upd G8 o (.lst (Z ++ [.ref p7]))) := (x5.trans (Ext.of l58)).own (x5.free no5 noc.1)
      have f9 : IsFeed (upd G8 o (.lst (Z ++ [.ref p7]))) a c := (f5.keep l58).own noc
      have go : (upd G8 o (.lst (Z ++ [.ref p7]))) o = some (.lst (Z ++ [.ref p7])) := upd_same
      clear mv
      generalize upd G8 o (.lst (Z ++ [.ref p7])) = G9 at h1 h2 h3 h4 h5 h6 h7 x9 f9 go
      refine ⟨.ref o, rfl, Nat.zero_le _, fun p8 n8 => ⟨by show 1 ≤ sizeLine; decide, fun p9 n9 => ⟨by show 1 ≤ sizeLine; decide, fun pa na => ?_⟩⟩⟩
      have la : Same G9 (upd G9 p8 (.tup [])) := same_new (Same.refl G9) n8
      have ga : (upd G9 p8 (.tup [])) p8 = some (.tup []) := upd_same
      generalize upd G9 p8 (.tup []) = Ga at la ga n9 na
      have lb : Same Ga (upd Ga p9 (.tup [.ref p8])) := same_new (Same.refl Ga) n9
      have gb : (upd Ga p9 (.tup [.ref p8])) p9 = some (.tup [.ref p8]) := upd_same
      generalize upd Ga p9 (.tup [.ref p8]) = Gb at lb gb na
      have lc : Same Gb (upd Gb pa (.lst [.ref p9])) := same_new (Same.refl Gb) na
      have gc : (upd Gb pa (.lst [.ref p9])) pa = some (.lst [.ref p9]) := upd_same
      generalize upd Gb pa (.lst [.ref p9]) = Gc at lc gc
      have l9c : Same G9 Gc := (la.trans lb).trans lc
      refine ⟨o, pa, _, _, rfl, rfl, l9c _ _ go, gc, by rw [← hZ]; show 15 ≤ sizeLine; decide, fun pd nd => ?_⟩
      have ld : Same Gc (upd Gc pd (.lst (Z ++ [.ref p7] ++ [.ref p9]))) := same_new (Same.refl Gc) nd
      have gd : (upd Gc pd (.lst (Z ++ [.ref p7] ++ [.ref p9]))) pd = some (.lst (Z ++ [.ref p7] ++ [.ref p9])) := upd_same
      generalize upd Gc pd (.lst (Z ++ [.ref p7] ++ [.ref p9])) = Gd at ld gd
      have l9d := l9c.trans ld
      have fd9 := f9.keep l9d
      refine ⟨.ref a, rfl, a, c, 15, rfl, fd9, by decide, by decide, fun r H' r0 r1 e' f' => ?_⟩
      have kk : LKeep Gd H' := LKeep.feed fd9 e'
      have kg : ∀ {b : Addr} {u : HO}, G9 b = some u → Lk u → H' b = some u := fun h t => kk _ _ t (l9d _ _ h)
      have k1 := kg h1 trivial
      have k2 := kg h2 trivial
      have k3 := kg h3 trivial
      have k4 := kg h4 trivial
      have k5 := kg h5 trivial
      have k6 := kg h6 trivial
      have k7 := kg h7 trivial
      have kc : ∀ {b : Addr} {u : HO}, Gc b = some u → Lk u → H' b = some u := fun h t => kk _ _ t (ld _ _ h)
      have k8 := kc (lc _ _ (lb _ _ ga)) trivial
      have k9 := kc (lc _ _ gb) trivial
      have kd : H' pd = some (.lst (Z ++ [.ref p7] ++ [.ref p9])) := kk _ (.lst (Z ++ [.ref p7] ++ [.ref p9])) trivial gd
      have kz : Ls S H' := kS.keep (LKeep.feed fe ((x9.trans (Ext.of l9d)).trans e'))
      have ab : DpAll K (ms S H') [.str "a", .str "b", .int 1] [.str "a", .str "b", .int 1] := .cons (.str _) (.cons (.str _) (.cons (.int _) .nil))
      have bab : Bd 700 1 (.tuple [.str "a", .str "b", .int 1]) := by
        refine Bd.tuple fun z hz => ?_
        simp only [List.mem_cons, List.not_mem_nil, or_false] at hz
        rcases hz with rfl | rfl | rfl
        · exact Bd.str (by decide +kernel)
        · exact Bd.str (by decide +kernel)
        · exact Bd.int (Nat.le_trans (show _ ≤ 0 by decide) (Nat.zero_le _))
      have one : ∀ {d : PyData}, Bd 700 1 d → Bd 700 3 (.tuple [d]) ∧ Bd 700 3 (.list [d]) := fun {d} hd => ⟨(Bd.tuple fun z hz => by rw [List.mem_singleton.mp hz]; exact hd).mono (Nat.le_refl _) (by decide), (Bd.list fun z hz => by rw [List.mem_singleton.mp hz]; exact hd).mono (Nat.le_refl _) (by decide)⟩
      have no0 : Bd 700 1 (.tuple []) := Bd.tuple (dp := 0) fun z hz => (nomatch hz)
      have all : ∀ z ∈ (Z ++ [V.ref p7] ++ [V.ref p9]), ∃ d, Dp K (ms S H') z d ∧ Bd 700 3 d ∧ wt d ≤ 1000 := by
        intro z hz
        rw [← hZ] at hz
        simp only [List.cons_append, List.nil_append, List.mem_cons, List.not_mem_nil, or_false] at hz
        rcases hz with rfl | rfl | rfl | rfl | rfl | rfl | rfl | rfl | rfl | rfl | rfl | rfl | rfl | rfl | rfl
        · exact ⟨_, .bl _, Bd.bl _, by decide⟩
        · exact ⟨_, .bl _, Bd.bl _, by decide⟩
        · exact ⟨_, .non, Bd.non, by decide⟩
        · exact ⟨_, .str _, Bd.str (by decide +kernel), by decide +kernel⟩
        · exact ⟨_, .str _, Bd.str (by decide +kernel), by decide +kernel⟩
        · exact ⟨_, .str _, Bd.str (by decide +kernel), by decide +kernel⟩
        · exact ⟨_, .str _, Bd.str (by decide +kernel), by decide +kernel⟩
        · exact ⟨.tuple [], .tup (sqT_ms (SqT.of k1) kz) .nil, no0.mono (Nat.le_refl _) (by decide), by decide +kernel⟩
        · exact ⟨.list [], .lst (SqL.of (ms_at k2 q2)) .nil, (Bd.list (ds := []) (dp := 0) fun z hz => (nomatch hz)).mono (Nat.le_refl _) (by decide), by decide +kernel⟩
        · exact ⟨_, .tup (sqT_ms (SqT.of k4) kz) (.cons (.tup (sqT_ms (SqT.of k3) kz) ab) .nil), (one bab).1, by decide +kernel⟩
        · exact ⟨_, .tup (sqT_ms (SqT.of k5) kz) ab, bab.mono (Nat.le_refl _) (by decide), by decide +kernel⟩
        · exact ⟨_, .str _, Bd.str (by decide +kernel), by decide +kernel⟩
        · exact ⟨_, .str _, Bd.str (by decide +kernel), by decide +kernel⟩
        · exact ⟨_, .lst (SqL.of (ms_at k7 q7)) (.cons (.tup (sqT_ms (SqT.of k6) kz) ab) .nil), (one bab).2, by decide +kernel⟩
        · exact ⟨_, .tup (sqT_ms (SqT.of k9) kz) (.cons (.tup (sqT_ms (SqT.of k8) kz) .nil) .nil), (one no0).1, by decide +kernel⟩
      obtain ⟨k, rfl⟩ := Int.eq_ofNat_of_zero_le r0
      have hk : k < (Z ++ [V.ref p7] ++ [V.ref p9]).length := by rw [← hZ]; show k < 15; omega
      obtain ⟨d, dd, bd, wd⟩ := all _ (List.getElem_mem hk)
      exact ⟨pd, _, k, _, rfl, rfl, .inl (.inl kd), at_of rfl (List.getElem?_eq_getElem hk), q _ H' d ((x9.trans (Ext.of l9d)).trans e') f' dd bd wd⟩
end
end K01
namespace K01
open PySem PySem.Spec PyProof.Rows L2 PK
theorem td_all {r : PRow} (okr : PRowOk 1000000000 r) : ∀ e ∈ [(.tuple [.str "", .str r.2.1, .int r.2.2]), (.tuple [.str (r.1 ++ "abcdefgh"), .str r.2.1, .int r.2.2]), (.tuple [.str r.1, .str "A", .int r.2.2]), (.tuple [.str r.1, .none, .int r.2.2]), (.tuple [.str r.1, .str r.2.1, .int 0]), (.tuple [.str r.1, .str r.2.1, .int (-1)]), (.tuple [.str r.1, .str r.2.1, .bool true]), (.tuple [.str r.1, .str r.2.1, .str "1"]), (.tuple [.str r.2.1, .int r.2.2]), (.tuple [.str r.1, .str r.2.1, .int r.2.2, .int 1]), (.list [.str r.1, .str r.2.1, .int r.2.2]), (.tuple [.str r.1, .str r.2.1, .none]), (.tuple [.int r.2.2, .str r.1, .str r.2.1]), (.str r.1)], Bd 29 2 e ∧ wt e ≤ 300 := by
  have w8 := okr.f.eight
  have w9 := okr.s.eight
  have e8 : (Str.ofString "abcdefgh").length = 8 := by decide +kernel
  have lg := int_wt okr.lo okr.hi
  have s1 := word_ok okr.f
  have s2 := word_ok okr.s
  have la : ((Str.ofString "abcdefgh").cps.toList.all fun c => decide (c < 128)) = true := by decide +kernel
  have s3 : PyData.strOk (r.1 ++ Str.ofString "abcdefgh") = true := low_ok (low_app (fun c hc => by have := (okr.f.low c hc).2; omega) (fun c hc => of_decide_eq_true (List.all_eq_true.mp la c hc)))
  have sA : PyData.strOk (Str.ofString "A") = true := by decide +kernel
  have s11 : PyData.strOk (Str.ofString "1") = true := by decide +kernel
  have s00 : PyData.strOk (Str.ofString "") = true := by decide +kernel
  have lA : (Str.ofString "A").length = 1 := by decide +kernel
  have l11 : (Str.ofString "1").length = 1 := by decide +kernel
  have l00 : (Str.ofString "").length = 0 := by decide +kernel
  have l3 : (r.1 ++ Str.ofString "abcdefgh").length = r.1.length + 8 := by rw [strLen_append, e8]
  have i0 : (0 : Int).natAbs.log2 = 0 := by decide
  have i1 : (1 : Int).natAbs.log2 = 0 := by decide
  have im : (-1 : Int).natAbs.log2 = 0 := by decide
  have leaf : ∀ {z : PyData}, z ∈ [PyData.str r.1, .str r.2.1, .int r.2.2, .str (r.1 ++ Str.ofString "abcdefgh"), .str (Str.ofString "A"), .str (Str.ofString "1"), .str (Str.ofString ""), .int 0, .int 1, .int (-1), .none, .bool true] → Bd 29 0 z := by
    intro z hz
    simp only [List.mem_cons, List.not_mem_nil, or_false] at hz
    rcases hz with rfl | rfl | rfl | rfl | rfl | rfl | rfl | rfl | rfl | rfl | rfl | rfl
    · exact Bd.str s1
    · exact Bd.str s2
    · exact Bd.int lg
    · exact Bd.str s3
    · exact Bd.str sA
    · exact Bd.str s11
    · exact Bd.str s00
    · exact Bd.int (by rw [i0]; exact Nat.zero_le _)
    · exact Bd.int (by rw [i1]; exact Nat.zero_le _)
    · exact Bd.int (by rw [im]; exact Nat.zero_le _)
    · exact Bd.non
    · exact Bd.bl _
  have tup : ∀ {l : List PyData}, (∀ z ∈ l, z ∈ [PyData.str r.1, .str r.2.1, .int r.2.2, .str (r.1 ++ Str.ofString "abcdefgh"), .str (Str.ofString "A"), .str (Str.ofString "1"), .str (Str.ofString ""), .int 0, .int 1, .int (-1), .none, .bool true]) → Bd 29 2 (.tuple l) ∧ Bd 29 2 (.list l) := fun {l} h =>
    ⟨(Bd.tuple fun z hz => leaf (h z hz)).mono (Nat.le_refl _) (by decide), (Bd.list fun z hz => leaf (h z hz)).mono (Nat.le_refl _) (by decide)⟩
  intro e he
  simp only [List.mem_cons, List.not_mem_nil, or_false] at he
  rcases he with rfl | rfl | rfl | rfl | rfl | rfl | rfl | rfl | rfl | rfl | rfl | rfl | rfl | rfl <;> refine ⟨?_, by simp only [wt, wts, lA, l11, l00, l3, i0, i1, im]; omega⟩ <;> first
    | exact Bd.str s1
    | (refine (tup ?_).1; simp)
    | (refine (tup ?_).2; simp)
abbrev NNear : List Str := ["_law_feed_here", "_law_rows_here", "_law_found", "_law_k", "_law_form", "_law_shade", "_law_many_here", "_law_things", "_law_thing_here"]
theorem scNear : FnScope NNear ["_law_feed_here", "_law_rows_here"] (defScope (topS 17)) := ⟨rfl, rfl, rfl, by decide +kernel, rfl, by decide +kernel, by decide +kernel⟩
section
variable {P : Program} {w : World} {K : PySem.W.Frag} {mg : Str → Option Value} {base : Heap}
-- names: ["_law_feed_here", "_law_rows_here", "_law_found", "_law_k", "_law_form", "_law_shade", "_law_many_here", "_law_things", "_law_thing_here"] cells {'_law_k', '_law_rows_here'}
theorem ok_near {f fB : Addr} {fd fdB : FuncData} (F : Fun K "_law_near" "_law_near" (topS 17) f fd) (hB : NoB mg BL) (Be : Cal P w K mg base 7 "_law_bent" fB fdB ["_law_feed_here", "_law_thing_here"] (spBent K 5)) :
    FnOk P w K mg base CX0 8 f fd ["_law_feed_here", "_law_rows_here"] (spNear K) := by
  refine F.ok scNear (fun vs H Q E h => ?_) (fun cdv A outer s H vs Q E hr h => ?_)
  · obtain ⟨a, c, S, v, L, rfl, _⟩ := h
    rfl
  · obtain ⟨a, c, S, v, L, rfl, fe, kS, dv, okL, q⟩ := h
    refine ⟨_, (pss_cons (ps_set (i := 2) scNear.nd rfl (.inl rfl) (pe_lst (pa_cons (pv 1) (pa_cons (pe_callTy (k_list K) (by rfl) (hB "list" (by decide +kernel)) (by decide +kernel) (pa_cons (pv 1) pa_nil)) (pa_cons (pe_op (ko_catB K) (pv 1) (pe_slice (ks_tupB K) (pv 1) po_none (po_some pe_int))) (pa_cons (pe_call Be.ok (hr.mono (by decide)) (by rfl) Be.g Be.kp Be.b .nil pass0 (pa_cons (pv 0) (pa_cons (pv 1) pa_nil))) (pa_cons (pe_call Be.ok (hr.mono (by decide)) (by rfl) Be.g Be.kp Be.b .nil pass0 (pa_cons (pv 0) (pa_cons (pe_call Be.ok (hr.mono (by decide)) (by rfl) Be.g Be.kp Be.b .nil pass0 (pa_cons (pv 0) (pa_cons (pv 1) pa_nil))) pa_nil))) pa_nil)))))))
  (pss_cons (ps_for PassesOwn.never rfl (pi_range1 (by rfl) (hB "range" (by decide +kernel)) (pa_cons (pe_callB (k_len K) (by rfl) (hB "len" (by decide +kernel)) PySem.boot_len (pa_cons (pv 1) pa_nil)) pa_nil)) (pg_name (i := 3) scNear.nd rfl (.inr rfl))
  (pss_cons (ps_asg (pe_ix (kx_tup K) (pv 1) (pv 3) (fun _ _ => rfl)) (pgk_tup K (n := 3) rfl (pgs_cons (pg_name (i := 4) scNear.nd rfl (.inl rfl)) (pgs_cons (pg_name (i := 5) scNear.nd rfl (.inl rfl)) (pgs_cons (pg_name (i := 6) scNear.nd rfl (.inl rfl)) pgs_nil)))))
  (pss_cons (ps_set (i := 7) scNear.nd rfl (.inl rfl) (pe_lst (pa_cons (pe_tup (pa_cons pe_str (pa_cons (pv 5) (pa_cons (pv 6) pa_nil)))) (pa_cons (pe_tup (pa_cons (pe_op op_add_str (pv 4) pe_str) (pa_cons (pv 5) (pa_cons (pv 6) pa_nil)))) (pa_cons (pe_tup (pa_cons (pv 4) (pa_cons pe_str (pa_cons (pv 6) pa_nil)))) (pa_cons (pe_tup (pa_cons (pv 4) (pa_cons pe_non (pa_cons (pv 6) pa_nil)))) pa_nil))))))
  (pss_cons (ps_expr (pe_bm PySem.F.plainAttrs_list PySem.F.slot_list_extend PySem.F.type_list_extend mt_extend (pv 7) (pa_cons (pe_lst (pa_cons (pe_tup (pa_cons (pv 4) (pa_cons (pv 5) (pa_cons pe_int pa_nil)))) (pa_cons (pe_tup (pa_cons (pv 4) (pa_cons (pv 5) (pa_cons (pe_un un_neg pe_int) pa_nil)))) (pa_cons (pe_tup (pa_cons (pv 4) (pa_cons (pv 5) (pa_cons pe_bl pa_nil)))) (pa_cons (pe_tup (pa_cons (pv 4) (pa_cons (pv 5) (pa_cons pe_str pa_nil)))) (pa_cons (pe_tup (pa_cons (pv 5) (pa_cons (pv 6) pa_nil))) pa_nil)))))) pa_nil)))
  (Evl.pss_cut (ps_expr (pe_bm PySem.F.plainAttrs_list PySem.F.slot_list_extend PySem.F.type_list_extend mt_extend (pv 7) (pa_cons (pe_lst (pa_cons (pe_tup (pa_cons (pv 4) (pa_cons (pv 5) (pa_cons (pv 6) (pa_cons pe_int pa_nil))))) (pa_cons (pe_callTy (k_list K) (by rfl) (hB "list" (by decide +kernel)) (by decide +kernel) (pa_cons (pe_ix (kx_tup K) (pv 1) (pv 3) (fun _ _ => rfl)) pa_nil)) (pa_cons (pe_tup (pa_cons (pv 4) (pa_cons (pv 5) (pa_cons pe_non pa_nil)))) (pa_cons (pe_tup (pa_cons (pv 6) (pa_cons (pv 4) (pa_cons (pv 5) pa_nil)))) (pa_cons (pv 4) pa_nil)))))) pa_nil)))
  (pss_one (ps_expr (pe_bm PySem.F.plainAttrs_list PySem.F.slot_list_extend PySem.F.type_list_extend mt_extend (pv 2) (pa_cons (pe_lc (own := [("_law_thing_here", 8)]) rfl scNear.nd (pk_list K (pv 7)) (blkOk_by (N := NNear) (sc := defScope (topS 17)) (own := [("_law_thing_here", 8)]) (by decide +kernel)) (fun _ _ _ _ _ => (pg_name (i := 8) scNear.nd rfl (.inl rfl))) (fun _ _ _ _ _ => pts_nil) (fun _ _ _ _ _ => (pe_op (ko_catB K) (pe_op (ko_catB K) (pe_slice (ks_tupB K) (pv 1) po_none (po_some (pv 3))) (pe_tup (pa_cons (pv 8) pa_nil))) (pe_slice (ks_tupB K) (pv 1) (po_some (pe_op op_add (pv 3) pe_int)) po_none)))) pa_nil)))))))))
  (pss_one (ps_ret (pv 2))))), ?_⟩
    have dM : Dp K (ms S H) v (rowsD L) := Dp.keepT (tk_ms kS) (flat_rows L) dv
    obtain ⟨b, xs, rfl, hbM, haM⟩ := Dp.tupE dM
    have hb := (LKeep.of ms_sub).sqT hbM
    have ha := DpAll.same ms_sub haM
    have lx : xs.length = L.length := dp_lenM ha
    have l6 := okL.len
    obtain ⟨bdR, wR⟩ := rows_bd okL
    have wR6 : wts (L.map prowD) ≤ 1236 := by
      have := Nat.mul_le_mul_right 206 l6
      omega
    have dR : (rowsD L).depth ≤ 2 := bdR.dep
    have wRt : wt (rowsD L) = wts (L.map prowD) + 3 := rfl
    refine ⟨.ref b, rfl, .ref b, rfl, b, xs, rfl, .inr hb, fun p1 n1 => ?_⟩
    have l1 : Same H (upd H p1 (.lst xs)) := same_new (Same.refl H) n1
    have g1 : (upd H p1 (.lst xs)) p1 = some (.lst xs) := upd_same
    generalize upd H p1 (.lst xs) = G1 at l1 g1
    have hb1 := (LKeep.of l1).sqT hb
    refine ⟨.ref b, rfl, .ref b, rfl, 1, rfl, b, xs, rfl, hb1, fun c1 G2 l2 h2 => ⟨b, c1, xs, _, rfl, rfl, (LKeep.of l2).sqT hb1, h2, ?_, fun c2 G3 l3 h3 => ?_⟩⟩
    · have := cutV_length xs none (some 1)
      exact Nat.le_trans (show _ ≤ 12 by omega) (by decide)
    have l03 : Same H G3 := (l1.trans l2).trans l3
    have f3 := fe.keep l03
    have bd0 : Bd 200 (rowsD L).depth (rowsD L) := ⟨bdR.lay, Nat.le_trans bdR.mx (by decide), Nat.le_refl _⟩
    refine ⟨.ref a, rfl, .ref b, rfl, a, c, S, .ref b, rowsD L, 200, rfl, f3, kS.same l03, Dp.keepL (ms_same l03) dM, bd0, by omega, by decide, by decide, by omega, fun v4 G4 d4 e4 f4 dv4 bd4 w4 => ?_⟩
    have k04 : LKeep H G4 := (LKeep.of l03).trans (LKeep.feed f3 e4)
    refine ⟨.ref a, rfl, .ref a, rfl, .ref b, rfl, a, c, S, .ref b, rowsD L, 200, rfl, f4, kS.keep k04, Dp.keepL (ms_keep k04) dM, bd0, by omega, by decide, by decide, by omega, fun v5 G5 d5 e5 f5 dv5 bd5 w5 => ?_⟩
    have dd5 := bd5.dep
    have k05 : LKeep H G5 := k04.trans (LKeep.feed f4 e5)
    refine ⟨a, c, S, v5, d5, 201, rfl, f5, kS.keep k05, dv5, ⟨bd5.lay, bd5.mx, Nat.le_refl _⟩, by omega, by decide, by decide, by omega, fun v6 G6 d6 e6 f6 dv6 bd6 w6 => ⟨by show 5 ≤ sizeLine; decide, fun o no => ?_⟩⟩
    have k45 := LKeep.feed f4 e5
    have k56 := LKeep.feed f5 e6
    have k46 := k45.trans k56
    have k36 : LKeep G3 G6 := (LKeep.feed f3 e4).trans k46
    have k06 : LKeep H G6 := k04.trans k46
    obtain ⟨es1, cu1, cm1, cw1⟩ := DpAll.cut (DpAll.keepL (ms_same l1) haM) none (some 1)
    have D0 : DpAll K (ms S G6) [.ref b, .ref p1, .ref c2, v4, v6] [rowsD L, .list (L.map prowD), .tuple (L.map prowD ++ es1), d4, d6] :=
      .cons (Dp.keepL (ms_keep k06) dM) (.cons (.lst ((ms_keep ((LKeep.of (l2.trans l3)).trans k36)).sqL (SqL.of (ms_at g1 (kS.out n1)))) (DpAll.keepL (ms_keep k06) haM)) (.cons (.tup (sqT_ms (k36.sqT h3) (kS.keep k06)) (DpAll.app (DpAll.keepL (ms_keep k06) haM) (DpAll.keepL (ms_keep ((LKeep.of (l2.trans l3)).trans k36)) cu1))) (.cons (Dp.keepL (ms_keep k46) dv4) (.cons dv6 .nil))))
    have eachR : ∀ e ∈ L.map prowD, Bd 29 1 e := bdR.mem
    have B0 : ∀ e ∈ [rowsD L, .list (L.map prowD), .tuple (L.map prowD ++ es1), d4, d6], Bd 703 5 e := by
      intro e he
      simp only [List.mem_cons, List.not_mem_nil, or_false] at he
      rcases he with rfl | rfl | rfl | rfl | rfl
      · exact bdR.mono (by decide) (by decide)
      · exact (Bd.list eachR).mono (by decide) (by decide)
      · refine (Bd.tuple (dp := 1) (m := 29) fun z hz => ?_).mono (by decide) (by decide)
        rcases List.mem_append.mp hz with h | h
        · exact eachR z h
        · exact eachR z (cm1 z h)
      · exact bd4.mono (by decide) (by omega)
      · exact bd6.mono (by decide) (by omega)
    have W0 : wts [rowsD L, .list (L.map prowD), .tuple (L.map prowD ++ es1), d4, d6] ≤ 150000 := by
      have e1 := wts_app (L.map prowD) es1
      show wt (rowsD L) + 2 + (wts (L.map prowD) + 3 + 2 + (wts (L.map prowD ++ es1) + 3 + 2 + (wt d4 + 2 + (wt d6 + 2 + 0)))) ≤ 150000
      omega
    have x6 : Ext a H G6 := ((Ext.of l03).trans e4).trans (e5.trans e6)
    have D1 : DpAll K (ms (o :: S) (upd G6 o (.lst [.ref b, .ref p1, .ref c2, v4, v6]))) _ _ := DpAll.keepL (ms_in no) D0
    have noc := f6.ne no
    have noH : H o = none := x6.free no noc.1
    have R0 : DpAll K (ms (o :: S) (upd G6 o (.lst [.ref b, .ref p1, .ref c2, v4, v6]))) xs (L.map prowD) := DpAll.keepL (ms_in no) (DpAll.keepL (ms_keep k06) haM)
    have hbo : SqT K (ms (o :: S) (upd G6 o (.lst [.ref b, .ref p1, .ref c2, v4, v6]))) b xs := (ms_in no).sqT ((ms_keep k06).sqT hbM)
    refine ⟨.ref b, rfl, b, xs, rfl, .inr ((LKeep.of ms_sub).sqT hbo), _, rfl, by omega, by omega, for_range (lo := 0) (n := ((xs.length : Nat) : Int).toNat) (fun i σ H2 => ∃ (zs : List V) (ds : List PyData) (y3 y4 y5 y6 y7 : Option V), σ = [some (.ref a), some (.ref b), some (.ref o), y3, y4, y5, y6, y7, none] ∧ Ext a H H2 ∧ IsFeed H2 a c ∧ H2 o = some (.lst zs) ∧ DpAll K (ms (o :: S) H2) zs ds ∧ (∀ e ∈ ds, Bd 703 5 e) ∧ wts ds ≤ 150000 + i * 25000 ∧ ds.length ≤ 5 + 14 * i ∧ DpAll K (ms (o :: S) H2) xs (L.map prowD) ∧ SqT K (ms (o :: S) H2) b xs)
      ⟨_, _, none, none, none, none, none, rfl, x6.new no, f6.new no, upd_same, D1, B0, by omega, by show 5 ≤ 5 + 14 * 0; decide, R0, hbo⟩ ?_ ?_⟩
    · rintro i σ H2 hi ⟨zs, ds, y3, y4, y5, y6, y7, rfl, x2, f2, eo, Dz, Bz, Wz, Lz, R2, hb2⟩
      have hi : i < xs.length := by rw [Int.toNat_natCast] at hi; exact hi
      obtain ⟨x, hx⟩ : ∃ x, xs[i]? = some x := ⟨_, List.getElem?_eq_getElem hi⟩
      obtain ⟨e', he, de⟩ := DpAll.getV R2 hx
      rw [List.getElem?_map] at he
      obtain ⟨r, hr, rfl⟩ := Option.map_eq_some_iff.mp he
      have okr := okL.each r (List.mem_of_getElem? hr)
      obtain ⟨b1, rfl, hb1'⟩ := Dp.prowE de
      have e0 : (0 : Int) + (i : Nat) = ((i : Nat) : Int) := Int.zero_add _
      have w8 := okr.f.eight
      have w9 := okr.s.eight
      have e8 : (Str.ofString "abcdefgh").length = 8 := by decide +kernel
      have ladd : r.1.length + (Str.ofString "abcdefgh").length ≤ sizeLine := Nat.le_trans (show _ ≤ 16 by omega) (by decide)
      refine ⟨.ref b, rfl, .int (0 + i), rfl, b, xs, _, .ref b1, rfl, rfl, (LKeep.of ms_sub).sqT hb2, at_of e0 hx, b1, _, rfl, (LKeep.of ms_sub).sqT hb1', rfl, _, _, rfl, _, _, rfl, _, _, rfl, rfl, ?_⟩
      -- the things
      obtain ⟨C0, hC0⟩ : ∃ C, C = H2 := ⟨_, rfl⟩
      have xe0 : Ext a H2 C0 := by rw [hC0]; exact Ext.refl _ _
      rw [← hC0] at f2 eo Dz R2 hb2 hb1'
      have eo0 := eo
      have ff0 := f2
      have A0 : DpAll K (ms (o :: S) C0) [] [] := .nil
      have R0 := R2
      have Z0 := Dz
      have hb0 := hb2
      have hr0 := hb1'
      have LL0 : Ls (o :: S) C0 := Ls.cons eo (kS.keep (by rw [hC0]; exact LKeep.feed fe x2))
      rw [show H2 = C0 from hC0.symm]
      refine ⟨.str r.2.1, rfl, .int r.2.2, rfl, by show 3 ≤ sizeLine; decide, fun p1 nn1 => ?_⟩
      have np1 : p1 ≠ o := (ne_of_none eo0 nn1).symm
      have xe1 : Ext a H2 (upd C0 p1 (.tup [.str "", .str r.2.1, .int r.2.2])) := xe0.new nn1
      have ff1 := ff0.new (o := .tup [.str "", .str r.2.1, .int r.2.2]) nn1
      have gg1 : (upd C0 p1 (.tup [.str "", .str r.2.1, .int r.2.2])) p1 = some (.tup [.str "", .str r.2.1, .int r.2.2]) := upd_same
      have ss1 : Same C0 (upd C0 p1 (.tup [.str "", .str r.2.1, .int r.2.2])) := same_new (Same.refl C0) nn1
      generalize upd C0 p1 (.tup [.str "", .str r.2.1, .int r.2.2]) = C1 at xe1 ff1 gg1 ss1
      have eo1 := ss1 _ _ eo0
      have LL1 := LL0.same ss1
      have kk1 : LKeep (ms (o :: S) C0) (ms (o :: S) C1) := ms_same ss1
      have A1 := DpAll.cons (.tup (SqT.of (ms_at gg1 (LL0.out nn1))) (.cons (.str _) (.cons (.str _) (.cons (.int _) .nil))) : Dp K (ms (o :: S) C1) (.ref p1) (.tuple [.str "", .str r.2.1, .int r.2.2])) (DpAll.keepL kk1 A0)
      have R1 := DpAll.keepL kk1 R0
      have Z1 := DpAll.keepL kk1 Z0
      have hb1 := kk1.sqT hb0
      have hr1 := kk1.sqT hr0
      refine ⟨.str r.1, rfl, _, _, rfl, rfl, ladd, .str r.2.1, rfl, .int r.2.2, rfl, by show 3 ≤ sizeLine; decide, fun p2 nn2 => ?_⟩
      have np2 : p2 ≠ o := (ne_of_none eo1 nn2).symm
      have xe2 : Ext a H2 (upd C1 p2 (.tup [.str (r.1 ++ "abcdefgh"), .str r.2.1, .int r.2.2])) := xe1.new nn2
      have ff2 := ff1.new (o := .tup [.str (r.1 ++ "abcdefgh"), .str r.2.1, .int r.2.2]) nn2
      have gg2 : (upd C1 p2 (.tup [.str (r.1 ++ "abcdefgh"), .str r.2.1, .int r.2.2])) p2 = some (.tup [.str (r.1 ++ "abcdefgh"), .str r.2.1, .int r.2.2]) := upd_same
      have ss2 : Same C1 (upd C1 p2 (.tup [.str (r.1 ++ "abcdefgh"), .str r.2.1, .int r.2.2])) := same_new (Same.refl C1) nn2
      generalize upd C1 p2 (.tup [.str (r.1 ++ "abcdefgh"), .str r.2.1, .int r.2.2]) = C2 at xe2 ff2 gg2 ss2
      have eo2 := ss2 _ _ eo1
      have LL2 := LL1.same ss2
      have kk2 : LKeep (ms (o :: S) C1) (ms (o :: S) C2) := ms_same ss2
      have A2 := DpAll.cons (.tup (SqT.of (ms_at gg2 (LL1.out nn2))) (.cons (.str _) (.cons (.str _) (.cons (.int _) .nil))) : Dp K (ms (o :: S) C2) (.ref p2) (.tuple [.str (r.1 ++ "abcdefgh"), .str r.2.1, .int r.2.2])) (DpAll.keepL kk2 A1)
      have R2 := DpAll.keepL kk2 R1
      have Z2 := DpAll.keepL kk2 Z1
      have hb2 := kk2.sqT hb1
      have hr2 := kk2.sqT hr1
      refine ⟨.str r.1, rfl, .int r.2.2, rfl, by show 3 ≤ sizeLine; decide, fun p3 nn3 => ?_⟩
      have np3 : p3 ≠ o := (ne_of_none eo2 nn3).symm
      have xe3 : Ext a H2 (upd C2 p3 (.tup [.str r.1, .str "A", .int r.2.2])) := xe2.new nn3
      have ff3 := ff2.new (o := .tup [.str r.1, .str "A", .int r.2.2]) nn3
      have gg3 : (upd C2 p3 (.tup [.str r.1, .str "A", .int r.2.2])) p3 = some (.tup [.str r.1, .str "A", .int r.2.2]) := upd_same
      have ss3 : Same C2 (upd C2 p3 (.tup [.str r.1, .str "A", .int r.2.2])) := same_new (Same.refl C2) nn3
      generalize upd C2 p3 (.tup [.str r.1, .str "A", .int r.2.2]) = C3 at xe3 ff3 gg3 ss3
      have eo3 := ss3 _ _ eo2
      have LL3 := LL2.same ss3
      have kk3 : LKeep (ms (o :: S) C2) (ms (o :: S) C3) := ms_same ss3
      have A3 := DpAll.cons (.tup (SqT.of (ms_at gg3 (LL2.out nn3))) (.cons (.str _) (.cons (.str _) (.cons (.int _) .nil))) : Dp K (ms (o :: S) C3) (.ref p3) (.tuple [.str r.1, .str "A", .int r.2.2])) (DpAll.keepL kk3 A2)
      have R3 := DpAll.keepL kk3 R2
      have Z3 := DpAll.keepL kk3 Z2
      have hb3 := kk3.sqT hb2
      have hr3 := kk3.sqT hr2
      refine ⟨.str r.1, rfl, .int r.2.2, rfl, by show 3 ≤ sizeLine; decide, fun p4 nn4 => ?_⟩
      have np4 : p4 ≠ o := (ne_of_none eo3 nn4).symm
      have xe4 : Ext a H2 (upd C3 p4 (.tup [.str r.1, .non, .int r.2.2])) := xe3.new nn4
      have ff4 := ff3.new (o := .tup [.str r.1, .non, .int r.2.2]) nn4
      have gg4 : (upd C3 p4 (.tup [.str r.1, .non, .int r.2.2])) p4 = some (.tup [.str r.1, .non, .int r.2.2]) := upd_same
      have ss4 : Same C3 (upd C3 p4 (.tup [.str r.1, .non, .int r.2.2])) := same_new (Same.refl C3) nn4
      generalize upd C3 p4 (.tup [.str r.1, .non, .int r.2.2]) = C4 at xe4 ff4 gg4 ss4
      have eo4 := ss4 _ _ eo3
      have LL4 := LL3.same ss4
      have kk4 : LKeep (ms (o :: S) C3) (ms (o :: S) C4) := ms_same ss4
      have A4 := DpAll.cons (.tup (SqT.of (ms_at gg4 (LL3.out nn4))) (.cons (.str _) (.cons .non (.cons (.int _) .nil))) : Dp K (ms (o :: S) C4) (.ref p4) (.tuple [.str r.1, .none, .int r.2.2])) (DpAll.keepL kk4 A3)
      have R4 := DpAll.keepL kk4 R3
      have Z4 := DpAll.keepL kk4 Z3
      have hb4 := kk4.sqT hb3
      have hr4 := kk4.sqT hr3
      refine ⟨by show 4 ≤ sizeLine; decide, fun t nt => ?_⟩
      have nto : t ≠ o := (ne_of_none eo4 nt).symm
      have ntH : H2 t = none := xe4.free nt (ff4.ne nt).1
      have ntc := ff4.ne nt
      have xe5 : Ext a H2 (upd C4 t (.lst [.ref p1, .ref p2, .ref p3, .ref p4])) := xe4.new nt
      have ff5 := ff4.new (o := .lst [.ref p1, .ref p2, .ref p3, .ref p4]) nt
      have et5 : (upd C4 t (.lst [.ref p1, .ref p2, .ref p3, .ref p4])) t = some (.lst [.ref p1, .ref p2, .ref p3, .ref p4]) := upd_same
      have ss5 : Same C4 (upd C4 t (.lst [.ref p1, .ref p2, .ref p3, .ref p4])) := same_new (Same.refl C4) nt
      have kk5 : LKeep (ms (o :: S) C4) (ms (t :: o :: S) (upd C4 t (.lst [.ref p1, .ref p2, .ref p3, .ref p4]))) := ms_in nt
      generalize upd C4 t (.lst [.ref p1, .ref p2, .ref p3, .ref p4]) = C5 at xe5 ff5 et5 ss5 kk5
      have eo5 := ss5 _ _ eo4
      have LL5 := Ls.cons et5 (LL4.same ss5)
      have A5 := DpAll.keepL kk5 A4
      have R5 := DpAll.keepL kk5 R4
      have Z5 := DpAll.keepL kk5 Z4
      have hb5 := kk5.sqT hb4
      have hr5 := kk5.sqT hr4
      refine ⟨.ref t, rfl, .inl ⟨rfl, _, .inl (.inl et5)⟩, ?_⟩
      refine ⟨.str r.1, rfl, .str r.2.1, rfl, by show 3 ≤ sizeLine; decide, fun p6 nn6 => ?_⟩
      have np6 : p6 ≠ o := (ne_of_none eo5 nn6).symm
      have nt6 : p6 ≠ t := (ne_of_none et5 nn6).symm
      have xe6 : Ext a H2 (upd C5 p6 (.tup [.str r.1, .str r.2.1, .int 0])) := xe5.new nn6
      have ff6 := ff5.new (o := .tup [.str r.1, .str r.2.1, .int 0]) nn6
      have gg6 : (upd C5 p6 (.tup [.str r.1, .str r.2.1, .int 0])) p6 = some (.tup [.str r.1, .str r.2.1, .int 0]) := upd_same
      have ss6 : Same C5 (upd C5 p6 (.tup [.str r.1, .str r.2.1, .int 0])) := same_new (Same.refl C5) nn6
      generalize upd C5 p6 (.tup [.str r.1, .str r.2.1, .int 0]) = C6 at xe6 ff6 gg6 ss6
      have eo6 := ss6 _ _ eo5
      have et6 := ss6 _ _ et5
      have LL6 := LL5.same ss6
      have kk6 : LKeep (ms (t :: o :: S) C5) (ms (t :: o :: S) C6) := ms_same ss6
      have A6 := DpAll.cons (.tup (SqT.of (ms_at gg6 (LL5.out nn6))) (.cons (.str _) (.cons (.str _) (.cons (.int _) .nil))) : Dp K (ms (t :: o :: S) C6) (.ref p6) (.tuple [.str r.1, .str r.2.1, .int 0])) (DpAll.keepL kk6 A5)
      have R6 := DpAll.keepL kk6 R5
      have Z6 := DpAll.keepL kk6 Z5
      have hb6 := kk6.sqT hb5
      have hr6 := kk6.sqT hr5
      refine ⟨.str r.1, rfl, .str r.2.1, rfl, _, rfl, by show 3 ≤ sizeLine; decide, fun p7 nn7 => ?_⟩
      have np7 : p7 ≠ o := (ne_of_none eo6 nn7).symm
      have nt7 : p7 ≠ t := (ne_of_none et6 nn7).symm
      have xe7 : Ext a H2 (upd C6 p7 (.tup [.str r.1, .str r.2.1, .int (-1)])) := xe6.new nn7
      have ff7 := ff6.new (o := .tup [.str r.1, .str r.2.1, .int (-1)]) nn7
      have gg7 : (upd C6 p7 (.tup [.str r.1, .str r.2.1, .int (-1)])) p7 = some (.tup [.str r.1, .str r.2.1, .int (-1)]) := upd_same
      have ss7 : Same C6 (upd C6 p7 (.tup [.str r.1, .str r.2.1, .int (-1)])) := same_new (Same.refl C6) nn7
      generalize upd C6 p7 (.tup [.str r.1, .str r.2.1, .int (-1)]) = C7 at xe7 ff7 gg7 ss7
      have eo7 := ss7 _ _ eo6
      have et7 := ss7 _ _ et6
      have LL7 := LL6.same ss7
      have kk7 : LKeep (ms (t :: o :: S) C6) (ms (t :: o :: S) C7) := ms_same ss7
      have A7 := DpAll.cons (.tup (SqT.of (ms_at gg7 (LL6.out nn7))) (.cons (.str _) (.cons (.str _) (.cons (.int _) .nil))) : Dp K (ms (t :: o :: S) C7) (.ref p7) (.tuple [.str r.1, .str r.2.1, .int (-1)])) (DpAll.keepL kk7 A6)
      have R7 := DpAll.keepL kk7 R6
      have Z7 := DpAll.keepL kk7 Z6
      have hb7 := kk7.sqT hb6
      have hr7 := kk7.sqT hr6
      refine ⟨.str r.1, rfl, .str r.2.1, rfl, by show 3 ≤ sizeLine; decide, fun p8 nn8 => ?_⟩
      have np8 : p8 ≠ o := (ne_of_none eo7 nn8).symm
      have nt8 : p8 ≠ t := (ne_of_none et7 nn8).symm
      have xe8 : Ext a H2 (upd C7 p8 (.tup [.str r.1, .str r.2.1, .bl true])) := xe7.new nn8
      have ff8 := ff7.new (o := .tup [.str r.1, .str r.2.1, .bl true]) nn8
      have gg8 : (upd C7 p8 (.tup [.str r.1, .str r.2.1, .bl true])) p8 = some (.tup [.str r.1, .str r.2.1, .bl true]) := upd_same
      have ss8 : Same C7 (upd C7 p8 (.tup [.str r.1, .str r.2.1, .bl true])) := same_new (Same.refl C7) nn8
      generalize upd C7 p8 (.tup [.str r.1, .str r.2.1, .bl true]) = C8 at xe8 ff8 gg8 ss8
      have eo8 := ss8 _ _ eo7
      have et8 := ss8 _ _ et7
      have LL8 := LL7.same ss8
      have kk8 : LKeep (ms (t :: o :: S) C7) (ms (t :: o :: S) C8) := ms_same ss8
      have A8 := DpAll.cons (.tup (SqT.of (ms_at gg8 (LL7.out nn8))) (.cons (.str _) (.cons (.str _) (.cons (.bl _) .nil))) : Dp K (ms (t :: o :: S) C8) (.ref p8) (.tuple [.str r.1, .str r.2.1, .bool true])) (DpAll.keepL kk8 A7)
      have R8 := DpAll.keepL kk8 R7
      have Z8 := DpAll.keepL kk8 Z7
      have hb8 := kk8.sqT hb7
      have hr8 := kk8.sqT hr7
      refine ⟨.str r.1, rfl, .str r.2.1, rfl, by show 3 ≤ sizeLine; decide, fun p9 nn9 => ?_⟩
      have np9 : p9 ≠ o := (ne_of_none eo8 nn9).symm
      have nt9 : p9 ≠ t := (ne_of_none et8 nn9).symm
      have xe9 : Ext a H2 (upd C8 p9 (.tup [.str r.1, .str r.2.1, .str "1"])) := xe8.new nn9
      have ff9 := ff8.new (o := .tup [.str r.1, .str r.2.1, .str "1"]) nn9
      have gg9 : (upd C8 p9 (.tup [.str r.1, .str r.2.1, .str "1"])) p9 = some (.tup [.str r.1, .str r.2.1, .str "1"]) := upd_same
      have ss9 : Same C8 (upd C8 p9 (.tup [.str r.1, .str r.2.1, .str "1"])) := same_new (Same.refl C8) nn9
      generalize upd C8 p9 (.tup [.str r.1, .str r.2.1, .str "1"]) = C9 at xe9 ff9 gg9 ss9
      have eo9 := ss9 _ _ eo8
      have et9 := ss9 _ _ et8
      have LL9 := LL8.same ss9
      have kk9 : LKeep (ms (t :: o :: S) C8) (ms (t :: o :: S) C9) := ms_same ss9
      have A9 := DpAll.cons (.tup (SqT.of (ms_at gg9 (LL8.out nn9))) (.cons (.str _) (.cons (.str _) (.cons (.str _) .nil))) : Dp K (ms (t :: o :: S) C9) (.ref p9) (.tuple [.str r.1, .str r.2.1, .str "1"])) (DpAll.keepL kk9 A8)
      have R9 := DpAll.keepL kk9 R8
      have Z9 := DpAll.keepL kk9 Z8
      have hb9 := kk9.sqT hb8
      have hr9 := kk9.sqT hr8
      refine ⟨.str r.2.1, rfl, .int r.2.2, rfl, by show 2 ≤ sizeLine; decide, fun p10 nn10 => ?_⟩
      have np10 : p10 ≠ o := (ne_of_none eo9 nn10).symm
      have nt10 : p10 ≠ t := (ne_of_none et9 nn10).symm
      have xe10 : Ext a H2 (upd C9 p10 (.tup [.str r.2.1, .int r.2.2])) := xe9.new nn10
      have ff10 := ff9.new (o := .tup [.str r.2.1, .int r.2.2]) nn10
      have gg10 : (upd C9 p10 (.tup [.str r.2.1, .int r.2.2])) p10 = some (.tup [.str r.2.1, .int r.2.2]) := upd_same
      have ss10 : Same C9 (upd C9 p10 (.tup [.str r.2.1, .int r.2.2])) := same_new (Same.refl C9) nn10
      generalize upd C9 p10 (.tup [.str r.2.1, .int r.2.2]) = C10 at xe10 ff10 gg10 ss10
      have eo10 := ss10 _ _ eo9
      have et10 := ss10 _ _ et9
      have LL10 := LL9.same ss10
      have kk10 : LKeep (ms (t :: o :: S) C9) (ms (t :: o :: S) C10) := ms_same ss10
      have A10 := DpAll.cons (.tup (SqT.of (ms_at gg10 (LL9.out nn10))) (.cons (.str _) (.cons (.int _) .nil)) : Dp K (ms (t :: o :: S) C10) (.ref p10) (.tuple [.str r.2.1, .int r.2.2])) (DpAll.keepL kk10 A9)
      have R10 := DpAll.keepL kk10 R9
      have Z10 := DpAll.keepL kk10 Z9
      have hb10 := kk10.sqT hb9
      have hr10 := kk10.sqT hr9
      refine ⟨by show 5 ≤ sizeLine; decide, fun p11 nn11 => ?_⟩
      have np11 : p11 ≠ o := (ne_of_none eo10 nn11).symm
      have nt11 : p11 ≠ t := (ne_of_none et10 nn11).symm
      have xe11 : Ext a H2 (upd C10 p11 (.lst [.ref p6, .ref p7, .ref p8, .ref p9, .ref p10])) := xe10.new nn11
      have ff11 := ff10.new (o := .lst [.ref p6, .ref p7, .ref p8, .ref p9, .ref p10]) nn11
      have gg11 : (upd C10 p11 (.lst [.ref p6, .ref p7, .ref p8, .ref p9, .ref p10])) p11 = some (.lst [.ref p6, .ref p7, .ref p8, .ref p9, .ref p10]) := upd_same
      have ss11 : Same C10 (upd C10 p11 (.lst [.ref p6, .ref p7, .ref p8, .ref p9, .ref p10])) := same_new (Same.refl C10) nn11
      generalize upd C10 p11 (.lst [.ref p6, .ref p7, .ref p8, .ref p9, .ref p10]) = C11 at xe11 ff11 gg11 ss11
      have eo11 := ss11 _ _ eo10
      have et11 := ss11 _ _ et10
      have LL11 := LL10.same ss11
      have kk11 : LKeep (ms (t :: o :: S) C10) (ms (t :: o :: S) C11) := ms_same ss11
      have A11 := DpAll.keepL kk11 A10
      have R11 := DpAll.keepL kk11 R10
      have Z11 := DpAll.keepL kk11 Z10
      have hb11 := kk11.sqT hb10
      have hr11 := kk11.sqT hr10
      refine ⟨t, p11, _, _, rfl, rfl, et11, gg11, by show 9 ≤ sizeLine; decide, ?_⟩
      have xe12 : Ext a H2 (upd C11 t (.lst ([.ref p1, .ref p2, .ref p3, .ref p4] ++ [.ref p6, .ref p7, .ref p8, .ref p9, .ref p10]))) := xe11.own ntH
      have ff12 : IsFeed (upd C11 t (.lst ([.ref p1, .ref p2, .ref p3, .ref p4] ++ [.ref p6, .ref p7, .ref p8, .ref p9, .ref p10]))) a c := ff11.own ntc
      have et12 : (upd C11 t (.lst ([.ref p1, .ref p2, .ref p3, .ref p4] ++ [.ref p6, .ref p7, .ref p8, .ref p9, .ref p10]))) t = some (.lst ([.ref p1, .ref p2, .ref p3, .ref p4] ++ [.ref p6, .ref p7, .ref p8, .ref p9, .ref p10])) := upd_same
      have eo12 : (upd C11 t (.lst ([.ref p1, .ref p2, .ref p3, .ref p4] ++ [.ref p6, .ref p7, .ref p8, .ref p9, .ref p10]))) o = some (.lst zs) := by rw [upd_ne nto.symm]; exact eo11
      have mu : ms (t :: o :: S) (upd C11 t (.lst ([.ref p1, .ref p2, .ref p3, .ref p4] ++ [.ref p6, .ref p7, .ref p8, .ref p9, .ref p10]))) = ms (t :: o :: S) C11 := ms_upd (by simp)
      have LL12 : Ls (t :: o :: S) (upd C11 t (.lst ([.ref p1, .ref p2, .ref p3, .ref p4] ++ [.ref p6, .ref p7, .ref p8, .ref p9, .ref p10]))) := LL11.set
      have A12 := A11
      have R12 := R11
      have Z12 := Z11
      have hb12 := hb11
      have hr12 := hr11
      rw [← mu] at A12 R12 Z12 hb12 hr12
      clear mu
      generalize upd C11 t (.lst ([.ref p1, .ref p2, .ref p3, .ref p4] ++ [.ref p6, .ref p7, .ref p8, .ref p9, .ref p10])) = C12 at xe12 ff12 et12 eo12 LL12 A12 R12 Z12 hb12 hr12
      refine ⟨fun σ C => ∃ (t : Addr) (ts : List V) (tds : List PyData), σ = [some (.ref a), some (.ref b), some (.ref o), some (.int (0 + i)), some (.str r.1), some (.str r.2.1), some (.int r.2.2), some (.ref t), none] ∧ t ≠ o ∧ H2 t = none ∧ (t ≠ a ∧ t ≠ c) ∧ Ext a H2 C ∧ IsFeed C a c ∧ C t = some (.lst ts) ∧ C o = some (.lst zs) ∧ DpAll K (ms (t :: o :: S) C) ts tds ∧ (∀ e ∈ tds, Bd 29 2 e ∧ wt e ≤ 300) ∧ tds.length = 14 ∧ DpAll K (ms (t :: o :: S) C) xs (L.map prowD) ∧ DpAll K (ms (t :: o :: S) C) zs ds ∧ SqT K (ms (t :: o :: S) C) b xs, ?_, ?_⟩
      · refine ⟨.ref t, rfl, .inl ⟨rfl, _, .inl (.inl et12)⟩, ?_⟩
        refine ⟨.str r.1, rfl, .str r.2.1, rfl, .int r.2.2, rfl, by show 4 ≤ sizeLine; decide, fun p13 nn13 => ?_⟩
        have np13 : p13 ≠ o := (ne_of_none eo12 nn13).symm
        have nt13 : p13 ≠ t := (ne_of_none et12 nn13).symm
        have xe13 : Ext a H2 (upd C12 p13 (.tup [.str r.1, .str r.2.1, .int r.2.2, .int 1])) := xe12.new nn13
        have ff13 := ff12.new (o := .tup [.str r.1, .str r.2.1, .int r.2.2, .int 1]) nn13
        have gg13 : (upd C12 p13 (.tup [.str r.1, .str r.2.1, .int r.2.2, .int 1])) p13 = some (.tup [.str r.1, .str r.2.1, .int r.2.2, .int 1]) := upd_same
        have ss13 : Same C12 (upd C12 p13 (.tup [.str r.1, .str r.2.1, .int r.2.2, .int 1])) := same_new (Same.refl C12) nn13
        generalize upd C12 p13 (.tup [.str r.1, .str r.2.1, .int r.2.2, .int 1]) = C13 at xe13 ff13 gg13 ss13
        have eo13 := ss13 _ _ eo12
        have et13 := ss13 _ _ et12
        have LL13 := LL12.same ss13
        have kk13 : LKeep (ms (t :: o :: S) C12) (ms (t :: o :: S) C13) := ms_same ss13
        have A13 := DpAll.cons (.tup (SqT.of (ms_at gg13 (LL12.out nn13))) (.cons (.str _) (.cons (.str _) (.cons (.int _) (.cons (.int _) .nil)))) : Dp K (ms (t :: o :: S) C13) (.ref p13) (.tuple [.str r.1, .str r.2.1, .int r.2.2, .int 1])) (DpAll.keepL kk13 A12)
        have R13 := DpAll.keepL kk13 R12
        have Z13 := DpAll.keepL kk13 Z12
        have hb13 := kk13.sqT hb12
        have hr13 := kk13.sqT hr12
        refine ⟨.ref b, rfl, .int (0 + i), rfl, b, xs, _, .ref b1, rfl, rfl, ((LKeep.of ms_sub).sqT hb13), at_of e0 hx, b1, _, rfl, .inr ((LKeep.of ms_sub).sqT hr13), fun p14 nn14 => ?_⟩
        have np14 : p14 ≠ o := (ne_of_none eo13 nn14).symm
        have nt14 : p14 ≠ t := (ne_of_none et13 nn14).symm
        have xe14 : Ext a H2 (upd C13 p14 (.lst [.str r.1, .str r.2.1, .int r.2.2])) := xe13.new nn14
        have ff14 := ff13.new (o := .lst [.str r.1, .str r.2.1, .int r.2.2]) nn14
        have gg14 : (upd C13 p14 (.lst [.str r.1, .str r.2.1, .int r.2.2])) p14 = some (.lst [.str r.1, .str r.2.1, .int r.2.2]) := upd_same
        have ss14 : Same C13 (upd C13 p14 (.lst [.str r.1, .str r.2.1, .int r.2.2])) := same_new (Same.refl C13) nn14
        generalize upd C13 p14 (.lst [.str r.1, .str r.2.1, .int r.2.2]) = C14 at xe14 ff14 gg14 ss14
        have eo14 := ss14 _ _ eo13
        have et14 := ss14 _ _ et13
        have LL14 := LL13.same ss14
        have kk14 : LKeep (ms (t :: o :: S) C13) (ms (t :: o :: S) C14) := ms_same ss14
        have A14 := DpAll.cons (.lst (SqL.of (ms_at gg14 (LL13.out nn14))) (.cons (.str _) (.cons (.str _) (.cons (.int _) .nil))) : Dp K (ms (t :: o :: S) C14) (.ref p14) (.list [.str r.1, .str r.2.1, .int r.2.2])) (DpAll.keepL kk14 A13)
        have R14 := DpAll.keepL kk14 R13
        have Z14 := DpAll.keepL kk14 Z13
        have hb14 := kk14.sqT hb13
        have hr14 := kk14.sqT hr13
        refine ⟨.str r.1, rfl, .str r.2.1, rfl, by show 3 ≤ sizeLine; decide, fun p15 nn15 => ?_⟩
        have np15 : p15 ≠ o := (ne_of_none eo14 nn15).symm
        have nt15 : p15 ≠ t := (ne_of_none et14 nn15).symm
        have xe15 : Ext a H2 (upd C14 p15 (.tup [.str r.1, .str r.2.1, .non])) := xe14.new nn15
        have ff15 := ff14.new (o := .tup [.str r.1, .str r.2.1, .non]) nn15
        have gg15 : (upd C14 p15 (.tup [.str r.1, .str r.2.1, .non])) p15 = some (.tup [.str r.1, .str r.2.1, .non]) := upd_same
        have ss15 : Same C14 (upd C14 p15 (.tup [.str r.1, .str r.2.1, .non])) := same_new (Same.refl C14) nn15
        generalize upd C14 p15 (.tup [.str r.1, .str r.2.1, .non]) = C15 at xe15 ff15 gg15 ss15
        have eo15 := ss15 _ _ eo14
        have et15 := ss15 _ _ et14
        have LL15 := LL14.same ss15
        have kk15 : LKeep (ms (t :: o :: S) C14) (ms (t :: o :: S) C15) := ms_same ss15
        have A15 := DpAll.cons (.tup (SqT.of (ms_at gg15 (LL14.out nn15))) (.cons (.str _) (.cons (.str _) (.cons .non .nil))) : Dp K (ms (t :: o :: S) C15) (.ref p15) (.tuple [.str r.1, .str r.2.1, .none])) (DpAll.keepL kk15 A14)
        have R15 := DpAll.keepL kk15 R14
        have Z15 := DpAll.keepL kk15 Z14
        have hb15 := kk15.sqT hb14
        have hr15 := kk15.sqT hr14
        refine ⟨.int r.2.2, rfl, .str r.1, rfl, .str r.2.1, rfl, by show 3 ≤ sizeLine; decide, fun p16 nn16 => ?_⟩
        have np16 : p16 ≠ o := (ne_of_none eo15 nn16).symm
        have nt16 : p16 ≠ t := (ne_of_none et15 nn16).symm
        have xe16 : Ext a H2 (upd C15 p16 (.tup [.int r.2.2, .str r.1, .str r.2.1])) := xe15.new nn16
        have ff16 := ff15.new (o := .tup [.int r.2.2, .str r.1, .str r.2.1]) nn16
        have gg16 : (upd C15 p16 (.tup [.int r.2.2, .str r.1, .str r.2.1])) p16 = some (.tup [.int r.2.2, .str r.1, .str r.2.1]) := upd_same
        have ss16 : Same C15 (upd C15 p16 (.tup [.int r.2.2, .str r.1, .str r.2.1])) := same_new (Same.refl C15) nn16
        generalize upd C15 p16 (.tup [.int r.2.2, .str r.1, .str r.2.1]) = C16 at xe16 ff16 gg16 ss16
        have eo16 := ss16 _ _ eo15
        have et16 := ss16 _ _ et15
        have LL16 := LL15.same ss16
        have kk16 : LKeep (ms (t :: o :: S) C15) (ms (t :: o :: S) C16) := ms_same ss16
        have A16 := DpAll.cons (.tup (SqT.of (ms_at gg16 (LL15.out nn16))) (.cons (.int _) (.cons (.str _) (.cons (.str _) .nil))) : Dp K (ms (t :: o :: S) C16) (.ref p16) (.tuple [.int r.2.2, .str r.1, .str r.2.1])) (DpAll.keepL kk16 A15)
        have R16 := DpAll.keepL kk16 R15
        have Z16 := DpAll.keepL kk16 Z15
        have hb16 := kk16.sqT hb15
        have hr16 := kk16.sqT hr15
        have A16 := DpAll.cons (Dp.str r.1) A16
        refine ⟨.str r.1, rfl, by show 5 ≤ sizeLine; decide, fun p17 nn17 => ?_⟩
        have np17 : p17 ≠ o := (ne_of_none eo16 nn17).symm
        have nt17 : p17 ≠ t := (ne_of_none et16 nn17).symm
        have xe17 : Ext a H2 (upd C16 p17 (.lst [.ref p13, .ref p14, .ref p15, .ref p16, .str r.1])) := xe16.new nn17
        have ff17 := ff16.new (o := .lst [.ref p13, .ref p14, .ref p15, .ref p16, .str r.1]) nn17
        have gg17 : (upd C16 p17 (.lst [.ref p13, .ref p14, .ref p15, .ref p16, .str r.1])) p17 = some (.lst [.ref p13, .ref p14, .ref p15, .ref p16, .str r.1]) := upd_same
        have ss17 : Same C16 (upd C16 p17 (.lst [.ref p13, .ref p14, .ref p15, .ref p16, .str r.1])) := same_new (Same.refl C16) nn17
        generalize upd C16 p17 (.lst [.ref p13, .ref p14, .ref p15, .ref p16, .str r.1]) = C17 at xe17 ff17 gg17 ss17
        have eo17 := ss17 _ _ eo16
        have et17 := ss17 _ _ et16
        have LL17 := LL16.same ss17
        have kk17 : LKeep (ms (t :: o :: S) C16) (ms (t :: o :: S) C17) := ms_same ss17
        have A17 := DpAll.keepL kk17 A16
        have R17 := DpAll.keepL kk17 R16
        have Z17 := DpAll.keepL kk17 Z16
        have hb17 := kk17.sqT hb16
        have hr17 := kk17.sqT hr16
        refine ⟨t, p17, _, _, rfl, rfl, et17, gg17, by show 14 ≤ sizeLine; decide, ?_⟩
        have xe18 : Ext a H2 (upd C17 t (.lst (([.ref p1, .ref p2, .ref p3, .ref p4] ++ [.ref p6, .ref p7, .ref p8, .ref p9, .ref p10]) ++ [.ref p13, .ref p14, .ref p15, .ref p16, .str r.1]))) := xe17.own ntH
        have ff18 : IsFeed (upd C17 t (.lst (([.ref p1, .ref p2, .ref p3, .ref p4] ++ [.ref p6, .ref p7, .ref p8, .ref p9, .ref p10]) ++ [.ref p13, .ref p14, .ref p15, .ref p16, .str r.1]))) a c := ff17.own ntc
        have et18 : (upd C17 t (.lst (([.ref p1, .ref p2, .ref p3, .ref p4] ++ [.ref p6, .ref p7, .ref p8, .ref p9, .ref p10]) ++ [.ref p13, .ref p14, .ref p15, .ref p16, .str r.1]))) t = some (.lst (([.ref p1, .ref p2, .ref p3, .ref p4] ++ [.ref p6, .ref p7, .ref p8, .ref p9, .ref p10]) ++ [.ref p13, .ref p14, .ref p15, .ref p16, .str r.1])) := upd_same
        have eo18 : (upd C17 t (.lst (([.ref p1, .ref p2, .ref p3, .ref p4] ++ [.ref p6, .ref p7, .ref p8, .ref p9, .ref p10]) ++ [.ref p13, .ref p14, .ref p15, .ref p16, .str r.1]))) o = some (.lst zs) := by rw [upd_ne nto.symm]; exact eo17
        have mu : ms (t :: o :: S) (upd C17 t (.lst (([.ref p1, .ref p2, .ref p3, .ref p4] ++ [.ref p6, .ref p7, .ref p8, .ref p9, .ref p10]) ++ [.ref p13, .ref p14, .ref p15, .ref p16, .str r.1]))) = ms (t :: o :: S) C17 := ms_upd (by simp)
        have LL18 : Ls (t :: o :: S) (upd C17 t (.lst (([.ref p1, .ref p2, .ref p3, .ref p4] ++ [.ref p6, .ref p7, .ref p8, .ref p9, .ref p10]) ++ [.ref p13, .ref p14, .ref p15, .ref p16, .str r.1]))) := LL17.set
        have A18 := A17
        have R18 := R17
        have Z18 := Z17
        have hb18 := hb17
        have hr18 := hr17
        rw [← mu] at A18 R18 Z18 hb18 hr18
        clear mu
        generalize upd C17 t (.lst (([.ref p1, .ref p2, .ref p3, .ref p4] ++ [.ref p6, .ref p7, .ref p8, .ref p9, .ref p10]) ++ [.ref p13, .ref p14, .ref p15, .ref p16, .str r.1])) = C18 at xe18 ff18 et18 eo18 LL18 A18 R18 Z18 hb18 hr18
        exact ⟨t, _, [(.tuple [.str "", .str r.2.1, .int r.2.2]), (.tuple [.str (r.1 ++ "abcdefgh"), .str r.2.1, .int r.2.2]), (.tuple [.str r.1, .str "A", .int r.2.2]), (.tuple [.str r.1, .none, .int r.2.2]), (.tuple [.str r.1, .str r.2.1, .int 0]), (.tuple [.str r.1, .str r.2.1, .int (-1)]), (.tuple [.str r.1, .str r.2.1, .bool true]), (.tuple [.str r.1, .str r.2.1, .str "1"]), (.tuple [.str r.2.1, .int r.2.2]), (.tuple [.str r.1, .str r.2.1, .int r.2.2, .int 1]), (.list [.str r.1, .str r.2.1, .int r.2.2]), (.tuple [.str r.1, .str r.2.1, .none]), (.tuple [.int r.2.2, .str r.1, .str r.2.1]), (.str r.1)], rfl, nto, ntH, ntc, xe18, ff18, et18, eo18, DpAll.rev A18, td_all okr, rfl, R18, Z18, hb18⟩
      · rintro σ C ⟨t', ts, tds, rfl, nto', ntH', ntc', xC, fC, etC, eoC, AC, tdB, l14, RC, ZC, hbC⟩
        have lts : ts.length = 14 := by rw [DpAll.len AC, l14]
        have lzs : zs.length = ds.length := DpAll.len Dz
        refine ⟨.ref o, rfl, .inl ⟨rfl, _, .inl (.inl eoC)⟩, .ref t', rfl, t', rfl, ⟨_, .inl (.inl etC)⟩, fun D nD => ?_⟩
        have nDo : D ≠ o := (ne_of_none eoC nD).symm
        have nDt : D ≠ t' := (ne_of_none etC nD).symm
        have nDc := fC.ne nD
        have nDH : H2 D = none := xC.free nD nDc.1
        have kD : LKeep (ms (t' :: o :: S) C) (ms (D :: t' :: o :: S) (upd C D (.lst []))) := ms_in nD
        refine lc_list (K := K) (a := t') (xs := ts) (fun j M => ∃ (ws : List V) (es : List PyData), M D = some (.lst ws) ∧ DpAll K (ms (D :: t' :: o :: S) M) ws es ∧ (∀ e ∈ es, Bd 703 5 e) ∧ wts es ≤ j * 1700 ∧ es.length = j ∧ Ext a H2 M ∧ IsFeed M a c ∧ M o = some (.lst zs) ∧ M t' = some (.lst ts) ∧
            DpAll K (ms (D :: t' :: o :: S) M) ts tds ∧ DpAll K (ms (D :: t' :: o :: S) M) xs (L.map prowD) ∧ DpAll K (ms (D :: t' :: o :: S) M) zs ds ∧ SqT K (ms (D :: t' :: o :: S) M) b xs)
          ⟨[], [], upd_same, .nil, fun _ h => (nomatch h), by show 0 ≤ 0 * 1700; decide, rfl, xC.new nD, fC.new nD, by rw [upd_ne nDo.symm]; exact eoC, by rw [upd_ne nDt.symm]; exact etC, DpAll.keepL kD AC, DpAll.keepL kD RC, DpAll.keepL kD ZC, kD.sqT hbC⟩ ?_ ?_ ?_
        · rintro j M _ ⟨_, _, _, _, _, _, _, _, _, _, etM, _⟩
          exact .inl (.inl etM)
        · rintro j x M hx ⟨ws, es, eD, We, Be', Wt, le, xM, fM, eoM, etM, AM, RM, ZM, hbM⟩
          obtain ⟨e, he, dx⟩ := DpAll.getV AM hx
          obtain ⟨be, we⟩ := tdB e (List.mem_of_getElem? he)
          have hj : j < 14 := by rw [← lts]; exact (List.getElem?_eq_some_iff.mp hx).1
          have hbf := (LKeep.of ms_sub).sqT hbM
          refine ⟨rfl, .ref b, rfl, .int (0 + i), rfl, (0 + i), rfl, b, xs, rfl, hbf, fun c1 M1 m1 h1 => ?_⟩
          rw [e0, cut_to (by omega)] at h1
          refine ⟨x, rfl, by show 1 ≤ sizeLine; decide, fun p np => ?_⟩
          have m2 : Same M1 (upd M1 p (.tup [x])) := same_new (Same.refl M1) np
          have g2 : SqT K (upd M1 p (.tup [x])) p [x] := SqT.of upd_same
          generalize upd M1 p (.tup [x]) = M2 at m2 g2
          refine ⟨c1, p, _, _, rfl, rfl, (LKeep.of m2).sqT h1, g2, ?_, fun c2 M3 m3 h3 => ?_⟩
          · rw [List.length_take, List.length_singleton]
            exact Nat.le_trans (show _ ≤ 10 by omega) (by decide)
          have m03 : Same M M3 := (m1.trans m2).trans m3
          refine ⟨.ref b, rfl, .int (0 + i), rfl, _, _, rfl, rfl, _, rfl, b, xs, rfl, (LKeep.of m03).sqT hbf, fun c3 M4 m4 h4 => ?_⟩
          rw [show (0 : Int) + ((i : Nat) : Int) + 1 = ((i + 1 : Nat) : Int) from by omega, cut_from (by omega)] at h4
          refine ⟨c2, c3, _, _, rfl, rfl, (LKeep.of m4).sqT h3, h4, ?_, fun c4 M5 m5 h5 => ?_⟩
          · rw [List.length_append, List.length_take, List.length_drop, List.length_singleton]
            exact Nat.le_trans (show _ ≤ 20 by omega) (by decide)
          have m05 : Same M M5 := (m03.trans m4).trans m5
          have eD5 := m05 _ _ eD
          have kM : LKeep (ms (D :: t' :: o :: S) M) (ms (D :: t' :: o :: S) M5) := ms_same m05
          have lists : Ls (D :: t' :: o :: S) M5 := Ls.cons eD5 (Ls.cons (m05 _ _ etM) (Ls.cons (m05 _ _ eoM) (kS.keep (LKeep.feed fe (x2.trans (xM.trans (Ext.of m05)))))))
          have R5 := DpAll.keepL kM RM
          have D5 : Dp K (ms (D :: t' :: o :: S) M5) (.ref c4) (.tuple ((L.map prowD).take i ++ [e] ++ (L.map prowD).drop (i + 1))) :=
            .tup (sqT_ms h5 lists) (DpAll.app (DpAll.app (DpAll.take i R5) (.cons (Dp.keepL kM dx) .nil)) (DpAll.drop (i + 1) R5))
          have mu : ms (D :: t' :: o :: S) (upd M5 D (.lst (ws ++ [.ref c4]))) = ms (D :: t' :: o :: S) M5 := ms_upd (by simp)
          refine ⟨ws, eD5, ?_, ws ++ [.ref c4], es ++ [_], upd_same, by rw [mu]; exact DpAll.snoc D5 (DpAll.keepL kM We), fun z hz => ?_, ?_, by rw [List.length_append, le]; rfl, (xM.trans (Ext.of m05)).own nDH, (fM.keep m05).own nDc, by rw [upd_ne nDo.symm]; exact m05 _ _ eoM, by rw [upd_ne nDt.symm]; exact m05 _ _ etM,
            by rw [mu]; exact DpAll.keepL kM AM, by rw [mu]; exact R5, by rw [mu]; exact DpAll.keepL kM ZM, by rw [mu]; exact kM.sqT hbM⟩
          · rw [DpAll.len We, le]
            exact small1000 (by omega)
          · rcases List.mem_append.mp hz with hz | hz
            · exact Be' z hz
            · rw [List.mem_singleton.mp hz]
              refine (Bd.tuple (dp := 2) (m := 29) fun y hy => ?_).mono (by decide) (by decide)
              rcases List.mem_append.mp hy with hy | hy
              · rcases List.mem_append.mp hy with hy | hy
                · exact (eachR y (List.mem_of_mem_take hy)).mono (Nat.le_refl _) (by decide)
                · rw [List.mem_singleton.mp hy]
                  exact be
              · exact (eachR y (List.mem_of_mem_drop hy)).mono (Nat.le_refl _) (by decide)
          · have e1 := wts_take i (L.map prowD)
            have e2 := wts_drop (i + 1) (L.map prowD)
            have e3 : wt (.tuple ((L.map prowD).take i ++ [e] ++ (L.map prowD).drop (i + 1))) = wts ((L.map prowD).take i) + (wt e + 2) + wts ((L.map prowD).drop (i + 1)) + 3 := by
              show wts _ + 3 = _
              rw [wts_app, wts_app, wts_one]
            have e4 : wts ((L.map prowD).take i) + wts ((L.map prowD).drop (i + 1)) ≤ wts (L.map prowD) := by
              have h1 := wts_app ((L.map prowD).take i) ((L.map prowD).drop i)
              rw [List.take_append_drop] at h1
              have h2 : wts ((L.map prowD).drop (i + 1)) ≤ wts ((L.map prowD).drop i) := by
                rw [show (L.map prowD).drop (i + 1) = ((L.map prowD).drop i).drop 1 from by rw [List.drop_drop]]
                exact wts_drop 1 _
              omega
            rw [wts_app, wts_one, e3, Nat.succ_mul]
            omega
        · rintro M ⟨ws, es, eD, We, Be', Wt, le, xM, fM, eoM, etM, AM, RM, ZM, hbM⟩
          rw [lts] at Wt le
          have lws : ws.length = 14 := by rw [DpAll.len We, le]
          have k1 : LKeep (ms (D :: t' :: o :: S) M) (ms (o :: S) M) := ms_out.trans ms_out
          have mu : ms (o :: S) (upd M o (.lst (zs ++ ws))) = ms (o :: S) M := ms_upd (by simp)
          refine ⟨o, D, zs, ws, rfl, rfl, eoM, eD, ?_, zs ++ ws, ds ++ es, _, _, _, _, _, rfl, (x2.trans xM).own noH, fM.own noc, upd_same, by rw [mu]; exact DpAll.keepL k1 (DpAll.app ZM We), fun z hz => ?_, ?_, ?_, by rw [mu]; exact DpAll.keepL k1 RM, by rw [mu]; exact k1.sqT hbM⟩
          · exact Nat.le_trans (show _ ≤ 200 by omega) (by decide)
          · rcases List.mem_append.mp hz with hz | hz
            · exact Bz z hz
            · exact Be' z hz
          · rw [wts_app, Nat.succ_mul]
            omega
          · rw [List.length_append, le]
            omega
    · rintro σ H2 ⟨zs, ds, y3, y4, y5, y6, y7, rfl, x2, f2, eo, Dz, Bz, Wz, Lz, R2, hb2⟩
      exact ⟨.ref o, rfl, q o zs ds H2 noH x2 f2 eo Dz Bz (by rw [Int.toNat_natCast] at Wz; omega) (by rw [Int.toNat_natCast] at Lz; omega)⟩
end
end K01
namespace K01
open PySem PySem.Spec PyProof.Rows L2 PK
section
variable {P : Program} {w : World} {K : PySem.W.Frag} {mg : Str → Option Value} {base : Heap}
theorem ok_bent0 {f : Addr} {fd : FuncData} (F : Fun K "_law_bent" "_law_bent" (topS 14) f fd) :
    FnOk P w K mg base CX0 2 f fd ["_law_feed_here", "_law_thing_here"] (spBent K 0) := by
  refine F.ok scBent (fun vs H Q E h => ?_) (fun cdv A outer s H vs Q E hr h => ?_)
  · obtain ⟨a, c, S, v, d, m, rfl, _⟩ := h
    rfl
  · obtain ⟨a, c, S, v, d, m, rfl, _, _, _, _, hdp, _⟩ := h
    exact absurd hdp (Nat.not_lt_zero _)
end
theorem all_mk {l : PySem.W.OpenLaw} {w : World} {K : PySem.W.Frag} {h : Heap} {mg : Str → Option Value} {fa : Addr} (X : K.In h) (G : h.Ns mainGlobals mg) (hfa : mg "law" = some (.ref fa))
    {f_feed : Addr} {od_feed an_feed : Option Addr} {sl_feed : Array (Option Value)} {oc_feed kV_feed dc_feed pm_feed cd_feed ct_feed : Value}
    (a_feed : PySem.W.nsIn K mainGlobals "_law_feed" = some (some (.ref f_feed))) (l_feed : K.lookup f_feed = some ⟨oc_feed, od_feed, .func (PySem.W.fnOf "_law_feed" "_law_feed" (defArgs (topS 9)) (defBody (topS 9)) (defScope (topS 9)) .none kV_feed dc_feed pm_feed an_feed cd_feed ct_feed), sl_feed⟩) (c_feed : PySem.W.codeIn K cd_feed "_law_feed" = true) (k_feed : PySem.W.keepIn K (.ref f_feed) = true)
    {f_draw : Addr} {od_draw an_draw : Option Addr} {sl_draw : Array (Option Value)} {oc_draw kV_draw dc_draw pm_draw cd_draw ct_draw : Value}
    (a_draw : PySem.W.nsIn K mainGlobals "_law_draw" = some (some (.ref f_draw))) (l_draw : K.lookup f_draw = some ⟨oc_draw, od_draw, .func (PySem.W.fnOf "_law_draw" "_law_draw" (defArgs (topS 10)) (defBody (topS 10)) (defScope (topS 10)) .none kV_draw dc_draw pm_draw an_draw cd_draw ct_draw), sl_draw⟩) (c_draw : PySem.W.codeIn K cd_draw "_law_draw" = true) (k_draw : PySem.W.keepIn K (.ref f_draw) = true)
    {f_names : Addr} {od_names an_names : Option Addr} {sl_names : Array (Option Value)} {oc_names kV_names dc_names pm_names cd_names ct_names : Value}
    (a_names : PySem.W.nsIn K mainGlobals "_law_names" = some (some (.ref f_names))) (l_names : K.lookup f_names = some ⟨oc_names, od_names, .func (PySem.W.fnOf "_law_names" "_law_names" (defArgs (topS 11)) (defBody (topS 11)) (defScope (topS 11)) .none kV_names dc_names pm_names an_names cd_names ct_names), sl_names⟩) (c_names : PySem.W.codeIn K cd_names "_law_names" = true) (k_names : PySem.W.keepIn K (.ref f_names) = true)
    {f_many : Addr} {od_many an_many : Option Addr} {sl_many : Array (Option Value)} {oc_many kV_many dc_many pm_many cd_many ct_many : Value}
    (a_many : PySem.W.nsIn K mainGlobals "_law_many" = some (some (.ref f_many))) (l_many : K.lookup f_many = some ⟨oc_many, od_many, .func (PySem.W.fnOf "_law_many" "_law_many" (defArgs (topS 12)) (defBody (topS 12)) (defScope (topS 12)) .none kV_many dc_many pm_many an_many cd_many ct_many), sl_many⟩) (c_many : PySem.W.codeIn K cd_many "_law_many" = true) (k_many : PySem.W.keepIn K (.ref f_many) = true)
    {f_lrows : Addr} {od_lrows an_lrows : Option Addr} {sl_lrows : Array (Option Value)} {oc_lrows kV_lrows dc_lrows pm_lrows cd_lrows ct_lrows : Value}
    (a_lrows : PySem.W.nsIn K mainGlobals "_law_rows" = some (some (.ref f_lrows))) (l_lrows : K.lookup f_lrows = some ⟨oc_lrows, od_lrows, .func (PySem.W.fnOf "_law_rows" "_law_rows" (defArgs (topS 13)) (defBody (topS 13)) (defScope (topS 13)) .none kV_lrows dc_lrows pm_lrows an_lrows cd_lrows ct_lrows), sl_lrows⟩) (c_lrows : PySem.W.codeIn K cd_lrows "_law_rows" = true) (k_lrows : PySem.W.keepIn K (.ref f_lrows) = true)
    {f_num : Addr} {od_num an_num : Option Addr} {sl_num : Array (Option Value)} {oc_num kV_num dc_num pm_num cd_num ct_num : Value}
    (a_num : PySem.W.nsIn K mainGlobals "is_number" = some (some (.ref f_num))) (l_num : K.lookup f_num = some ⟨oc_num, od_num, .func (PySem.W.fnOf "is_number" "is_number" (defArgs (topS 3)) (defBody (topS 3)) (defScope (topS 3)) .none kV_num dc_num pm_num an_num cd_num ct_num), sl_num⟩) (c_num : PySem.W.codeIn K cd_num "is_number" = true) (k_num : PySem.W.keepIn K (.ref f_num) = true)
    {f_ismany : Addr} {od_ismany an_ismany : Option Addr} {sl_ismany : Array (Option Value)} {oc_ismany kV_ismany dc_ismany pm_ismany cd_ismany ct_ismany : Value}
    (a_ismany : PySem.W.nsIn K mainGlobals "is_many" = some (some (.ref f_ismany))) (l_ismany : K.lookup f_ismany = some ⟨oc_ismany, od_ismany, .func (PySem.W.fnOf "is_many" "is_many" (defArgs (topS 4)) (defBody (topS 4)) (defScope (topS 4)) .none kV_ismany dc_ismany pm_ismany an_ismany cd_ismany ct_ismany), sl_ismany⟩) (c_ismany : PySem.W.codeIn K cd_ismany "is_many" = true) (k_ismany : PySem.W.keepIn K (.ref f_ismany) = true)
    {f_word : Addr} {od_word an_word : Option Addr} {sl_word : Array (Option Value)} {oc_word kV_word dc_word pm_word cd_word ct_word : Value}
    (a_word : PySem.W.nsIn K mainGlobals "is_word" = some (some (.ref f_word))) (l_word : K.lookup f_word = some ⟨oc_word, od_word, .func (PySem.W.fnOf "is_word" "is_word" (defArgs (topS 5)) (defBody (topS 5)) (defScope (topS 5)) .none kV_word dc_word pm_word an_word cd_word ct_word), sl_word⟩) (c_word : PySem.W.codeIn K cd_word "is_word" = true) (k_word : PySem.W.keepIn K (.ref f_word) = true)
    {f_row : Addr} {od_row an_row : Option Addr} {sl_row : Array (Option Value)} {oc_row kV_row dc_row pm_row cd_row ct_row : Value}
    (a_row : PySem.W.nsIn K mainGlobals "is_part_row" = some (some (.ref f_row))) (l_row : K.lookup f_row = some ⟨oc_row, od_row, .func (PySem.W.fnOf "is_part_row" "is_part_row" (defArgs (topS 6)) (defBody (topS 6)) (defScope (topS 6)) .none kV_row dc_row pm_row an_row cd_row ct_row), sl_row⟩) (c_row : PySem.W.codeIn K cd_row "is_part_row" = true) (k_row : PySem.W.keepIn K (.ref f_row) = true)
    {f_rows : Addr} {od_rows an_rows : Option Addr} {sl_rows : Array (Option Value)} {oc_rows kV_rows dc_rows pm_rows cd_rows ct_rows : Value}
    (a_rows : PySem.W.nsIn K mainGlobals "is_part_rows" = some (some (.ref f_rows))) (l_rows : K.lookup f_rows = some ⟨oc_rows, od_rows, .func (PySem.W.fnOf "is_part_rows" "is_part_rows" (defArgs (topS 7)) (defBody (topS 7)) (defScope (topS 7)) .none kV_rows dc_rows pm_rows an_rows cd_rows ct_rows), sl_rows⟩) (c_rows : PySem.W.codeIn K cd_rows "is_part_rows" = true) (k_rows : PySem.W.keepIn K (.ref f_rows) = true)
    {f_bent : Addr} {od_bent an_bent : Option Addr} {sl_bent : Array (Option Value)} {oc_bent kV_bent dc_bent pm_bent cd_bent ct_bent : Value}
    (a_bent : PySem.W.nsIn K mainGlobals "_law_bent" = some (some (.ref f_bent))) (l_bent : K.lookup f_bent = some ⟨oc_bent, od_bent, .func (PySem.W.fnOf "_law_bent" "_law_bent" (defArgs (topS 14)) (defBody (topS 14)) (defScope (topS 14)) .none kV_bent dc_bent pm_bent an_bent cd_bent ct_bent), sl_bent⟩) (c_bent : PySem.W.codeIn K cd_bent "_law_bent" = true) (k_bent : PySem.W.keepIn K (.ref f_bent) = true)
    {f_text : Addr} {od_text an_text : Option Addr} {sl_text : Array (Option Value)} {oc_text kV_text dc_text pm_text cd_text ct_text : Value}
    (a_text : PySem.W.nsIn K mainGlobals "_law_text" = some (some (.ref f_text))) (l_text : K.lookup f_text = some ⟨oc_text, od_text, .func (PySem.W.fnOf "_law_text" "_law_text" (defArgs (topS 15)) (defBody (topS 15)) (defScope (topS 15)) .none kV_text dc_text pm_text an_text cd_text ct_text), sl_text⟩) (c_text : PySem.W.codeIn K cd_text "_law_text" = true) (k_text : PySem.W.keepIn K (.ref f_text) = true)
    {f_thing : Addr} {od_thing an_thing : Option Addr} {sl_thing : Array (Option Value)} {oc_thing kV_thing dc_thing pm_thing cd_thing ct_thing : Value}
    (a_thing : PySem.W.nsIn K mainGlobals "_law_thing" = some (some (.ref f_thing))) (l_thing : K.lookup f_thing = some ⟨oc_thing, od_thing, .func (PySem.W.fnOf "_law_thing" "_law_thing" (defArgs (topS 16)) (defBody (topS 16)) (defScope (topS 16)) .none kV_thing dc_thing pm_thing an_thing cd_thing ct_thing), sl_thing⟩) (c_thing : PySem.W.codeIn K cd_thing "_law_thing" = true) (k_thing : PySem.W.keepIn K (.ref f_thing) = true)
    {f_near : Addr} {od_near an_near : Option Addr} {sl_near : Array (Option Value)} {oc_near kV_near dc_near pm_near cd_near ct_near : Value}
    (a_near : PySem.W.nsIn K mainGlobals "_law_near" = some (some (.ref f_near))) (l_near : K.lookup f_near = some ⟨oc_near, od_near, .func (PySem.W.fnOf "_law_near" "_law_near" (defArgs (topS 17)) (defBody (topS 17)) (defScope (topS 17)) .none kV_near dc_near pm_near an_near cd_near ct_near), sl_near⟩) (c_near : PySem.W.codeIn K cd_near "_law_near" = true) (k_near : PySem.W.keepIn K (.ref f_near) = true)
    {f_whole : Addr} {od_whole an_whole : Option Addr} {sl_whole : Array (Option Value)} {oc_whole kV_whole dc_whole pm_whole cd_whole ct_whole : Value}
    (a_whole : PySem.W.nsIn K mainGlobals "_law_whole" = some (some (.ref f_whole))) (l_whole : K.lookup f_whole = some ⟨oc_whole, od_whole, .func (PySem.W.fnOf "_law_whole" "_law_whole" (defArgs (topS 18)) (defBody (topS 18)) (defScope (topS 18)) .none kV_whole dc_whole pm_whole an_whole cd_whole ct_whole), sl_whole⟩) (c_whole : PySem.W.codeIn K cd_whole "_law_whole" = true) (k_whole : PySem.W.keepIn K (.ref f_whole) = true)
    {f_worded : Addr} {od_worded an_worded : Option Addr} {sl_worded : Array (Option Value)} {oc_worded kV_worded dc_worded pm_worded cd_worded ct_worded : Value}
    (a_worded : PySem.W.nsIn K mainGlobals "_law_worded" = some (some (.ref f_worded))) (l_worded : K.lookup f_worded = some ⟨oc_worded, od_worded, .func (PySem.W.fnOf "_law_worded" "_law_worded" (defArgs (topS 19)) (defBody (topS 19)) (defScope (topS 19)) .none kV_worded dc_worded pm_worded an_worded cd_worded ct_worded), sl_worded⟩) (c_worded : PySem.W.codeIn K cd_worded "_law_worded" = true) (k_worded : PySem.W.keepIn K (.ref f_worded) = true)
    {f_due : Addr} {od_due an_due : Option Addr} {sl_due : Array (Option Value)} {oc_due kV_due dc_due pm_due cd_due ct_due : Value}
    (a_due : PySem.W.nsIn K mainGlobals "_law_due" = some (some (.ref f_due))) (l_due : K.lookup f_due = some ⟨oc_due, od_due, .func (PySem.W.fnOf "_law_due" "_law_due" (defArgs (topS 20)) (defBody (topS 20)) (defScope (topS 20)) .none kV_due dc_due pm_due an_due cd_due ct_due), sl_due⟩) (c_due : PySem.W.codeIn K cd_due "_law_due" = true) (k_due : PySem.W.keepIn K (.ref f_due) = true)
    {f_law : Addr} {od_law an_law : Option Addr} {sl_law : Array (Option Value)} {oc_law kV_law dc_law pm_law cd_law ct_law : Value}
    (a_law : PySem.W.nsIn K mainGlobals "law" = some (some (.ref f_law))) (l_law : K.lookup f_law = some ⟨oc_law, od_law, .func (PySem.W.fnOf "law" "law" (defArgs (topS 21)) (defBody (topS 21)) (defScope (topS 21)) .none kV_law dc_law pm_law an_law cd_law ct_law), sl_law⟩) (c_law : PySem.W.codeIn K cd_law "law" = true) (k_law : PySem.W.keepIn K (.ref f_law) = true)
    (z_isinstance : PySem.W.nsIn K mainGlobals "isinstance" = some none)
    (z_int : PySem.W.nsIn K mainGlobals "int" = some none)
    (z_bool : PySem.W.nsIn K mainGlobals "bool" = some none)
    (z_str : PySem.W.nsIn K mainGlobals "str" = some none)
    (z_tuple : PySem.W.nsIn K mainGlobals "tuple" = some none)
    (z_list : PySem.W.nsIn K mainGlobals "list" = some none)
    (z_len : PySem.W.nsIn K mainGlobals "len" = some none)
    (z_range : PySem.W.nsIn K mainGlobals "range" = some none)
    (z_repr : PySem.W.nsIn K mainGlobals "repr" = some none)
    (z_all : PySem.W.nsIn K mainGlobals "all" = some none)
    (z_ord : PySem.W.nsIn K mainGlobals "ord" = some none)
    (z_sorted : PySem.W.nsIn K mainGlobals "sorted" = some none)
    (z_set : PySem.W.nsIn K mainGlobals "set" = some none)
    (z_sum : PySem.W.nsIn K mainGlobals "sum" = some none)
    (z_min : PySem.W.nsIn K mainGlobals "min" = some none)
    (z_zip : PySem.W.nsIn K mainGlobals "zip" = some none)
    {tk_let : Tok} (a_let : PySem.W.nsIn K mainGlobals "LETTERS" = some (some (.str "abcdefghijklmnopqrstuvwxyz" tk_let)))
    {tk_lon : Tok} (a_lon : PySem.W.nsIn K mainGlobals "LONGEST_WORD" = some (some (.int 8 tk_lon)))
    : ∃ fd : FuncData, (∀ (s : Shared) (v : Value), BindsTo s fd ⟨[v], []⟩ [("_law_script", v)]) ∧ ∀ base : Heap, K.In base → base.Ns mainGlobals mg → FnG l.prog w K mg base CX0 9 fa fd ["_law_script"] (spLaw K) := by
  have e := hfa.symm.trans (PySem.W.mg_of X G a_law)
  cases e
  have F_feed := fun_mk (st := topS 9) l_feed c_feed k_feed
  have g_feed := PySem.W.mg_of X G a_feed
  have b_feed := F_feed.binds (ps := ["_law_script"]) fun _ _ _ _ _ _ us hl => match us, hl with | [_], _ => rfl
  have F_draw := fun_mk (st := topS 10) l_draw c_draw k_draw
  have g_draw := PySem.W.mg_of X G a_draw
  have b_draw := F_draw.binds (ps := ["_law_feed_here", "_law_many_here"]) fun _ _ _ _ _ _ us hl => match us, hl with | [_, _], _ => rfl
  have F_names := fun_mk (st := topS 11) l_names c_names k_names
  have g_names := PySem.W.mg_of X G a_names
  have b_names := F_names.binds (ps := ["_law_feed_here", "_law_many_here"]) fun _ _ _ _ _ _ us hl => match us, hl with | [_, _], _ => rfl
  have F_many := fun_mk (st := topS 12) l_many c_many k_many
  have g_many := PySem.W.mg_of X G a_many
  have b_many := F_many.binds (ps := ["_law_feed_here"]) fun _ _ _ _ _ _ us hl => match us, hl with | [_], _ => rfl
  have F_lrows := fun_mk (st := topS 13) l_lrows c_lrows k_lrows
  have g_lrows := PySem.W.mg_of X G a_lrows
  have b_lrows := F_lrows.binds (ps := ["_law_feed_here", "_law_forms", "_law_shades", "_law_most_now"]) fun _ _ _ _ _ _ us hl => match us, hl with | [_, _, _, _], _ => rfl
  have F_num := fun_mk (st := topS 3) l_num c_num k_num
  have g_num := PySem.W.mg_of X G a_num
  have b_num := F_num.binds (ps := ["thing"]) fun _ _ _ _ _ _ us hl => match us, hl with | [_], _ => rfl
  have F_ismany := fun_mk (st := topS 4) l_ismany c_ismany k_ismany
  have g_ismany := PySem.W.mg_of X G a_ismany
  have b_ismany := F_ismany.binds (ps := ["thing"]) fun _ _ _ _ _ _ us hl => match us, hl with | [_], _ => rfl
  have F_word := fun_mk (st := topS 5) l_word c_word k_word
  have g_word := PySem.W.mg_of X G a_word
  have b_word := F_word.binds (ps := ["thing"]) fun _ _ _ _ _ _ us hl => match us, hl with | [_], _ => rfl
  have F_row := fun_mk (st := topS 6) l_row c_row k_row
  have g_row := PySem.W.mg_of X G a_row
  have b_row := F_row.binds (ps := ["thing"]) fun _ _ _ _ _ _ us hl => match us, hl with | [_], _ => rfl
  have F_rows := fun_mk (st := topS 7) l_rows c_rows k_rows
  have g_rows := PySem.W.mg_of X G a_rows
  have b_rows := F_rows.binds (ps := ["thing"]) fun _ _ _ _ _ _ us hl => match us, hl with | [_], _ => rfl
  have F_bent := fun_mk (st := topS 14) l_bent c_bent k_bent
  have g_bent := PySem.W.mg_of X G a_bent
  have b_bent := F_bent.binds (ps := ["_law_feed_here", "_law_thing_here"]) fun _ _ _ _ _ _ us hl => match us, hl with | [_, _], _ => rfl
  have F_text := fun_mk (st := topS 15) l_text c_text k_text
  have g_text := PySem.W.mg_of X G a_text
  have b_text := F_text.binds (ps := ["_law_feed_here"]) fun _ _ _ _ _ _ us hl => match us, hl with | [_], _ => rfl
  have F_thing := fun_mk (st := topS 16) l_thing c_thing k_thing
  have g_thing := PySem.W.mg_of X G a_thing
  have b_thing := F_thing.binds (ps := ["_law_feed_here"]) fun _ _ _ _ _ _ us hl => match us, hl with | [_], _ => rfl
  have F_near := fun_mk (st := topS 17) l_near c_near k_near
  have g_near := PySem.W.mg_of X G a_near
  have b_near := F_near.binds (ps := ["_law_feed_here", "_law_rows_here"]) fun _ _ _ _ _ _ us hl => match us, hl with | [_, _], _ => rfl
  have F_whole := fun_mk (st := topS 18) l_whole c_whole k_whole
  have g_whole := PySem.W.mg_of X G a_whole
  have b_whole := F_whole.binds (ps := ["_law_thing_here"]) fun _ _ _ _ _ _ us hl => match us, hl with | [_], _ => rfl
  have F_worded := fun_mk (st := topS 19) l_worded c_worded k_worded
  have g_worded := PySem.W.mg_of X G a_worded
  have b_worded := F_worded.binds (ps := ["_law_thing_here"]) fun _ _ _ _ _ _ us hl => match us, hl with | [_], _ => rfl
  have F_due := fun_mk (st := topS 20) l_due c_due k_due
  have g_due := PySem.W.mg_of X G a_due
  have b_due := F_due.binds (ps := ["_law_thing_here"]) fun _ _ _ _ _ _ us hl => match us, hl with | [_], _ => rfl
  have F_law := fun_mk (st := topS 21) l_law c_law k_law
  have g_law := PySem.W.mg_of X G a_law
  have m_isinstance := PySem.W.mg_none_of X G z_isinstance
  have m_int := PySem.W.mg_none_of X G z_int
  have m_bool := PySem.W.mg_none_of X G z_bool
  have m_str := PySem.W.mg_none_of X G z_str
  have m_tuple := PySem.W.mg_none_of X G z_tuple
  have m_list := PySem.W.mg_none_of X G z_list
  have m_len := PySem.W.mg_none_of X G z_len
  have m_range := PySem.W.mg_none_of X G z_range
  have m_repr := PySem.W.mg_none_of X G z_repr
  have m_all := PySem.W.mg_none_of X G z_all
  have m_ord := PySem.W.mg_none_of X G z_ord
  have m_sorted := PySem.W.mg_none_of X G z_sorted
  have m_set := PySem.W.mg_none_of X G z_set
  have m_sum := PySem.W.mg_none_of X G z_sum
  have m_min := PySem.W.mg_none_of X G z_min
  have m_zip := PySem.W.mg_none_of X G z_zip
  have g_let := PySem.W.mg_of X G a_let
  have g_lon := PySem.W.mg_of X G a_lon
  refine ⟨PySem.W.fnOf "law" "law" (defArgs (topS 21)) (defBody (topS 21)) (defScope (topS 21)) .none kV_law dc_law pm_law an_law cd_law ct_law, fun s v => .of_eq rfl, fun base _ _ => ?_⟩
  have hB : NoB mg BL := by
    intro x hx
    simp only [BL, List.mem_cons, List.not_mem_nil, or_false] at hx
    rcases hx with rfl | rfl | rfl | rfl | rfl | rfl | rfl | rfl | rfl | rfl | rfl | rfl | rfl | rfl | rfl | rfl
    · exact m_isinstance
    · exact m_int
    · exact m_bool
    · exact m_str
    · exact m_tuple
    · exact m_list
    · exact m_len
    · exact m_range
    · exact m_repr
    · exact m_all
    · exact m_ord
    · exact m_sorted
    · exact m_set
    · exact m_sum
    · exact m_min
    · exact m_zip
  have Ab : Abc mg := ⟨⟨_, g_let, ⟨_, rfl⟩⟩, ⟨_, g_lon, ⟨_, rfl⟩⟩⟩
  have Fe : Cal l.prog w K mg base 1 "_law_feed" f_feed _ ["_law_script"] (spFeed K) := ⟨ok_feed F_feed m_list, g_feed, k_feed, b_feed⟩
  have D : Cal l.prog w K mg base 1 "_law_draw" f_draw _ ["_law_feed_here", "_law_many_here"] spDraw := ⟨ok_draw F_draw m_len, g_draw, k_draw, b_draw⟩
  have Nm : Cal l.prog w K mg base 2 "_law_names" f_names _ ["_law_feed_here", "_law_many_here"] spNames := ⟨ok_names F_names D m_len m_range, g_names, k_names, b_names⟩
  have Mn : Cal l.prog w K mg base 2 "_law_many" f_many _ ["_law_feed_here"] spMany := ⟨ok_many F_many D, g_many, k_many, b_many⟩
  have Lr : Cal l.prog w K mg base 3 "_law_rows" f_lrows _ ["_law_feed_here", "_law_forms", "_law_shades", "_law_most_now"] (spLRows K) := ⟨ok_lrows F_lrows D Mn m_range m_tuple m_len, g_lrows, k_lrows, b_lrows⟩
  have Nu : Cal l.prog w K mg base 1 "is_number" f_num _ ["thing"] (spLook K numD) := ⟨ok_isnum F_num hB, g_num, k_num, b_num⟩
  have Ma : Cal l.prog w K mg base 2 "is_many" f_ismany _ ["thing"] (spLook K manyD) := ⟨ok_ismany F_ismany Nu, g_ismany, k_ismany, b_ismany⟩
  have Wo : Cal l.prog w K mg base 1 "is_word" f_word _ ["thing"] (spLook K wordD) := ⟨ok_isword F_word hB Ab, g_word, k_word, b_word⟩
  have Ro : Cal l.prog w K mg base 3 "is_part_row" f_row _ ["thing"] (spLook K rowB) := ⟨ok_isrow F_row hB Wo Ma, g_row, k_row, b_row⟩
  have Rs : Cal l.prog w K mg base 4 "is_part_rows" f_rows _ ["thing"] (spLook K rowsB) := ⟨ok_isrows F_rows hB Ro, g_rows, k_rows, b_rows⟩
  have B0 : Cal l.prog w K mg base 2 "_law_bent" f_bent _ ["_law_feed_here", "_law_thing_here"] (spBent K 0) := ⟨ok_bent0 F_bent, g_bent, k_bent, b_bent⟩
  have B1 : Cal l.prog w K mg base 3 "_law_bent" f_bent _ ["_law_feed_here", "_law_thing_here"] (spBent K 1) := ⟨ok_bent (n := 0) F_bent hB D B0 (by decide), g_bent, k_bent, b_bent⟩
  have B2 : Cal l.prog w K mg base 4 "_law_bent" f_bent _ ["_law_feed_here", "_law_thing_here"] (spBent K 2) := ⟨ok_bent (n := 1) F_bent hB D B1 (by decide), g_bent, k_bent, b_bent⟩
  have B3 : Cal l.prog w K mg base 5 "_law_bent" f_bent _ ["_law_feed_here", "_law_thing_here"] (spBent K 3) := ⟨ok_bent (n := 2) F_bent hB D B2 (by decide), g_bent, k_bent, b_bent⟩
  have B4 : Cal l.prog w K mg base 6 "_law_bent" f_bent _ ["_law_feed_here", "_law_thing_here"] (spBent K 4) := ⟨ok_bent (n := 3) F_bent hB D B3 (by decide), g_bent, k_bent, b_bent⟩
  have B5 : Cal l.prog w K mg base 7 "_law_bent" f_bent _ ["_law_feed_here", "_law_thing_here"] (spBent K 5) := ⟨ok_bent (n := 4) F_bent hB D B4 (by decide), g_bent, k_bent, b_bent⟩
  have Wh : Cal l.prog w K mg base 1 "_law_whole" f_whole _ ["_law_thing_here"] (spLook K numD) := ⟨ok_whole F_whole hB, g_whole, k_whole, b_whole⟩
  have Wd : Cal l.prog w K mg base 1 "_law_worded" f_worded _ ["_law_thing_here"] (spLook K wordD) := ⟨ok_worded F_worded hB, g_worded, k_worded, b_worded⟩
  have Du : Cal l.prog w K mg base 2 "_law_due" f_due _ ["_law_thing_here"] (spDue K) := ⟨ok_due F_due hB Wd Wh, g_due, k_due, b_due⟩
  have Tx : Cal l.prog w K mg base 2 "_law_text" f_text _ ["_law_feed_here"] spText := ⟨ok_text F_text hB D, g_text, k_text, b_text⟩
  have Th : Cal l.prog w K mg base 3 "_law_thing" f_thing _ ["_law_feed_here"] (spThing K) := ⟨ok_thing F_thing hB D Tx, g_thing, k_thing, b_thing⟩
  have Ne : Cal l.prog w K mg base 8 "_law_near" f_near _ ["_law_feed_here", "_law_rows_here"] (spNear K) := ⟨ok_near F_near hB B5, g_near, k_near, b_near⟩
  exact ok_law F_law hB Fe D Nm Lr Th Ne Nu Wo Rs Du
end K01

open PySem PySem.W PyProof.Rows
set_option maxHeartbeats 0 in
theorem PySem.Challenge.cw_partkits_k01_kinds_holds : PySem.Challenge.rw_partkits_k01_kinds.Holds := by
  w_on; o_law; k_head; (case hw => w_witness2)
  k_fill
  refine PK.walk_ofG (l := PySem.Challenge.rw_partkits_k01_kinds) (n := 63) (k := 9) (x := "_law_script") (sp := fun w => K01.spLaw _) rfl (by decide) rfl ⟨rfl, by decide, by decide⟩ (fun w h Y => PySem.W.kIn_of Y) ?F (fun _ _ a ns hl _ hS => ⟨a, ns, rfl, hS, fun _ => rfl⟩)
  case F =>
    intro w mg fa h KX G hmg
    refine' K01.all_mk KX G hmg ?a_feed ?l_feed ?c_feed ?k_feed ?a_draw ?l_draw ?c_draw ?k_draw ?a_names ?l_names ?c_names ?k_names ?a_many ?l_many ?c_many ?k_many ?a_lrows ?l_lrows ?c_lrows ?k_lrows ?a_num ?l_num ?c_num ?k_num ?a_ismany ?l_ismany ?c_ismany ?k_ismany ?a_word ?l_word ?c_word ?k_word ?a_row ?l_row ?c_row ?k_row ?a_rows ?l_rows ?c_rows ?k_rows ?a_bent ?l_bent ?c_bent ?k_bent ?a_text ?l_text ?c_text ?k_text ?a_thing ?l_thing ?c_thing ?k_thing ?a_near ?l_near ?c_near ?k_near ?a_whole ?l_whole ?c_whole ?k_whole ?a_worded ?l_worded ?c_worded ?k_worded ?a_due ?l_due ?c_due ?k_due ?a_law ?l_law ?c_law ?k_law ?z_isinstance ?z_int ?z_bool ?z_str ?z_tuple ?z_list ?z_len ?z_range ?z_repr ?z_all ?z_ord ?z_sorted ?z_set ?z_sum ?z_min ?z_zip ?a_let ?a_lon
    (case a_feed => k_is)
    (case l_feed => k_is)
    (case c_feed => k_is)
    (case k_feed => k_is)
    (case a_draw => k_is)
    (case l_draw => k_is)
    (case c_draw => k_is)
    (case k_draw => k_is)
    (case a_names => k_is)
    (case l_names => k_is)
    (case c_names => k_is)
    (case k_names => k_is)
    (case a_many => k_is)
    (case l_many => k_is)
    (case c_many => k_is)
    (case k_many => k_is)
    (case a_lrows => k_is)
    (case l_lrows => k_is)
    (case c_lrows => k_is)
    (case k_lrows => k_is)
    (case a_num => k_is)
    (case l_num => k_is)
    (case c_num => k_is)
    (case k_num => k_is)
    (case a_ismany => k_is)
    (case l_ismany => k_is)
    (case c_ismany => k_is)
    (case k_ismany => k_is)
    (case a_word => k_is)
    (case l_word => k_is)
    (case c_word => k_is)
    (case k_word => k_is)
    (case a_row => k_is)
    (case l_row => k_is)
    (case c_row => k_is)
    (case k_row => k_is)
    (case a_rows => k_is)
    (case l_rows => k_is)
    (case c_rows => k_is)
    (case k_rows => k_is)
    (case a_bent => k_is)
    (case l_bent => k_is)
    (case c_bent => k_is)
    (case k_bent => k_is)
    (case a_text => k_is)
    (case l_text => k_is)
    (case c_text => k_is)
    (case k_text => k_is)
    (case a_thing => k_is)
    (case l_thing => k_is)
    (case c_thing => k_is)
    (case k_thing => k_is)
    (case a_near => k_is)
    (case l_near => k_is)
    (case c_near => k_is)
    (case k_near => k_is)
    (case a_whole => k_is)
    (case l_whole => k_is)
    (case c_whole => k_is)
    (case k_whole => k_is)
    (case a_worded => k_is)
    (case l_worded => k_is)
    (case c_worded => k_is)
    (case k_worded => k_is)
    (case a_due => k_is)
    (case l_due => k_is)
    (case c_due => k_is)
    (case k_due => k_is)
    (case a_law => k_is)
    (case l_law => k_is)
    (case c_law => k_is)
    (case k_law => k_is)
    (case z_isinstance => k_is)
    (case z_int => k_is)
    (case z_bool => k_is)
    (case z_str => k_is)
    (case z_tuple => k_is)
    (case z_list => k_is)
    (case z_len => k_is)
    (case z_range => k_is)
    (case z_repr => k_is)
    (case z_all => k_is)
    (case z_ord => k_is)
    (case z_sorted => k_is)
    (case z_set => k_is)
    (case z_sum => k_is)
    (case z_min => k_is)
    (case z_zip => k_is)
    (case a_let => k_is)
    (case a_lon => k_is)
