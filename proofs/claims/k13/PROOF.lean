import PyProof.Rows.All
import Wide.All
import OpenK.AllK
import Wide.FinOn
import PyProof.EqAt
import PyProof.EqKinds
import PyProof.TupleCall
import PyProof.ReprRoads
import HandS.ForMost
import HandS.Walk
import HandS.TupAny
import HandS.TupMul
import HandS.Zip
import HandS.Defaults
import HandS.Style
import HandS.Evl
import HandS.FStrTup
import HandS.Conv
import HandS.More
import HandS.Set
import KE.DatumOrd
import KE.SortData
import HandS.MakeKwOnly
import HandS.ExcInit
import HandS.ExcSuper
import KE.KExcSuper
import HandS.WordsExc
import HandS.CallSlots
import HandS.ExcField
import HandS.ExcIs
import HandS.SetTxt0
import HandS.SetBool
import HandS.Comp
import HandS.Codes
import HandS.Deep
import HandS.IsInst
import PyProof.InstNe
import OpenK.KOps
import HandS.SetFor
import HandS.TryOnly
import KE.RegKSuper
import PySem.Challenge.RW_partkits_k13_whole_less_and_back
set_option Elab.async false
set_option linter.all false
set_option maxRecDepth 100000
set_option maxHeartbeats 4000000
namespace PK
open PySem PySem.Spec PyProof.Rows L2

/-! ### defs that show things: called where nothing is being shown -/
structure FnG (P : Program) (w : World) (K : PySem.W.Frag) (mg : Str → Option Value) (base : Heap) (CX : CXT)
    (k : Nat) (f : Addr) (fd : FuncData) (ps : List Str) (sp : Sp) : Prop where
  len : ∀ vs H Q E, sp vs H Q E → vs.length = ps.length
  go : ∀ {A : Around} {outer : List Env} {s : Shared} {H : Hp} {args : Args} {us : List Value} {vs : List V} {Q : VK} {E : XK},
    A.guards = some [] → Room k A → Env0 P w K mg base A outer s H → BindsTo s fd args (ps.zip us) → Vals vs us →
    sp vs H Q E → codeAny (model P w) A (.call (.ref f) args) (CR CX outer P w H s Q E) s
theorem FnG.of {P : Program} {w : World} {K : PySem.W.Frag} {mg : Str → Option Value} {base : Heap} {CX : CXT}
    {k : Nat} {f : Addr} {fd : FuncData} {ps : List Str} {sp : Sp} (F : FnOk P w K mg base CX k f fd ps sp) :
    FnG P w K mg base CX k f fd ps sp :=
  ⟨F.len, fun _ hr e0 hb hv hs => F.run _ _ _ _ _ _ _ _ _ hr e0 hb hv hs⟩

/-- the def's promise from its body, the body read where nothing is being shown -/
theorem fnG_of {CX : CXT} {P : Program} {w : World} {K : PySem.W.Frag} {mg : Str → Option Value} {base : Heap} {k : Nat} {f : Addr} {fd : FuncData}
    {x qual : Str} {st : Stmt} {N ps : List Str} {sp : Sp} (F : Fun K x qual st f fd) (S : FnScope N ps (defScope st))
    (len : ∀ vs H Q E, sp vs H Q E → vs.length = ps.length)
    (hbody : ∀ (cdv : Value) (A : Around) (outer : List Env) (s : Shared) (H : Hp) (vs : List V) (Q : VK) (E : XK), A.guards = some [] →
      Room k (A.deeper (envOfC qual (defScope st) s.heap.objs.size f cdv)) → sp vs H Q E →
      ∃ t, PSs (cxOf CX P w K mg base N qual (defScope st) f cdv A outer s H E) (defBody st) t ∧
        t { nx := fun _ H' => Q .non H', rt := Q } (start N vs) H) : FnG P w K mg base CX (k + 1) f fd ps sp := by
  obtain ⟨oc, od, kV, doc, pm, an, cdv, ct, osl, rfl, lk, hcd⟩ := F.ex
  refine ⟨len, fun {A outer s H args us vs Q E} hgd hr e0 hb hv hsp => ?_⟩
  have kept : ∀ b o, base.get? b = some o → s.heap.get? b = some o := fun b o e => (e0.bs b o e).1
  have KX := e0.mod.kin.keeps kept
  have noLim := e0.mod.nolimit.keeps kept
  refine codeAny_call_function hr.depth (KX _ _ lk) rfl S.co S.gen rfl (PySem.W.codeRec_of KX hcd) (hb _ _ _ _ ?_)
  refine wpAny_newFunctionEnv_cells S.kind (fun y hy => ?_) fun env he s1 hx => ?_
  · rcases S.par y.1 (List.of_mem_zip (show (y.1, y.2) ∈ ps.zip us from hy)).1 with q | q
    · exact Or.inl q
    · exact Or.inr ⟨q, PySem.W.cellsFrom_some _ _ _ (Or.inl q)⟩
  cases he
  refine ⟨noLim.keeps hx.toInCall.keep, codeAny_func ?_⟩
  obtain ⟨t, ht, hq⟩ := hbody cdv A outer s H vs Q E hgd (hr.deeper _) hsp
  have I := inv_start (CX := CX) (N := N) (E := E) S hr.hd e0 (len _ _ _ _ hsp) hv hx
  refine wpAny_mono (ht.run [] s1 _ H _ I hq) (fun fl s' hs => ?_) (fun _ _ h => h)
  cases fl with
  | ret u =>
    obtain ⟨v, σ', H', J, rv, q⟩ := hs
    exact ⟨v, H', J.os, J.bare, J.base, J.hok, rv, q⟩
  | next =>
    obtain ⟨σ', H', J, q⟩ := hs
    exact ⟨V.non, H', J.os, J.bare, J.base, J.hok, rfl, q⟩
  | brk => exact hs.elim fun _ h => h.elim fun _ h => h.2.elim
  | cont => exact hs.elim fun _ h => h.elim fun _ h => h.2.elim

section
variable {X : Cx} {CX : CXT} {k : Nat} {f : Addr} {fd : FuncData} {ps : List Str} {sp : Sp} {dvs : List V} {ds : List Value} {E : XK}
  {x : Str} {p pos : Pos} {e : Expr} {es : List Expr} {t : TA}
theorem pe_callG (F : FnG X.prog X.w X.K X.mg X.base CX k f fd ps sp) (hgd : X.A.guards = some []) (hr : Room k X.A) (hg : Gl X x)
    (hm : X.mg x = some (.ref f)) (hk : PySem.W.keepIn X.K (.ref f) = true) (hb : Binds X.K fd ps ds) (hd : Vals dvs ds) (hx : Passes CX X E)
    (ha : PA X (e :: es) t) (hdb : (x == ("__debug__" : Str)) = false := by decide)
    (he : starEach (e :: es) X.env = (false, eval e X.env) :: starEach es X.env := by rfl)
    (hpl : (backTo pos (starEach es X.env)).any (·.1) = false := by rfl) :
    PE X (.Call (.Name x p) (e :: es) [] pos) (tCall sp dvs E t) := by
  refine ⟨fun pins s σ H Q I h => wpAny_Call_Name_kw (ld_glob I hg hm ?_ hdb)⟩
  refine PySem.W.callWith_K (h₀ := X.base) I.ok.mod.kin hk (thn (ha.run pos pins s σ H _ I h) ?_) he hpl
  rintro us s1 ⟨vs, H1, J, r, q⟩
  refine ⟨J.kIn, ?_⟩
  have r2 : Vals (vs ++ dvs) (us ++ ds) := r.append hd
  have hl : (us ++ ds).length = ps.length := r2.length.symm.trans (F.len _ _ _ _ q)
  refine wpAny_call (codeAny_mono (F.go hgd hr J.env0 (hb s1 us J.kIn hl) r2 q) ?_)
  intro res s2 hq
  match res, hq with
  | .error er, hq => exact hx pins σ H1 s1 er s2 J hq
  | .ok (.ret u), hq => exact J.after hq
  | .ok .next, hq => exact hq.elim
  | .ok .brk, hq => exact hq.elim
  | .ok .cont, hq => exact hq.elim

/-- f(k = v, ..), no argument by its place -/
theorem pe_callK0 {ks : List Str} {kws : List Keyword} {tk : TA} {g : List Value → List Value → List Value} {gV : List V → List V → List V}
    (F : FnOk X.prog X.w X.K X.mg X.base CX k f fd ps sp) (hr : Room k X.A) (hg : Gl X x) (hm : X.mg x = some (.ref f))
    (hk : PySem.W.keepIn X.K (.ref f) = true) (hb : KBinds X.K fd ps ks g gV) (hx : Passes CX X E) (hkw : PK X kws tk)
    (hall : (backToKw pos (keywordEach kws X.env)).all (·.1.isSome) = true := by rfl)
    (hks : (backToKw pos (keywordEach kws X.env)).filterMap (·.1) = ks := by rfl)
    (hdb : (x == ("__debug__" : Str)) = false := by decide)
    (hpl : ((backTo pos (starEach [] X.env)).any (·.1) || (backToKw pos (keywordEach kws X.env)).any (·.1.isNone)) = false := by rfl) :
    PE X (.Call (.Name x p) [] kws pos) (tCallK sp gV E tNil tk) := by
  refine ⟨fun pins s σ H Q I h => wpAny_Call_Name_kw (ld_glob I hg hm ?_ hdb)⟩
  refine PySem.W.callWith_KW0 (h₀ := X.base) I.ok.mod.kin hk hall (thn (hkw.run pos pins s σ H _ I h) ?_) hpl
  rintro ws s2 ⟨zs, H2, J, rz, q⟩
  refine ⟨J.kIn, ?_⟩
  rw [hks]
  exact run_fnk (us := []) F hr hb hx J .nil rz q
end

/-! ### repr of data -/
theorem call_repr {X : Cx} {k : Nat} (hgd : X.A.guards = some []) (hr : Room k X.A) : CallR X (.builtin "repr")
    (fun xs H Q => ∃ a d, xs = [.ref a] ∧ Dp X.K H (.ref a) d ∧ d.showable = true ∧ d.hasDict = false ∧ d.depth ≤ 100 ∧
      d.shown.length ≤ sizeLine ∧ Q (.str d.shown) H) := by
  intro pins s σ H xs us Q I r h
  obtain ⟨a, d, rfl, hd, hs, hn, hdp, hz, q⟩ := h
  obtain ⟨u, rfl, rr⟩ := vals1 r
  cases rr
  obtain ⟨as, rd⟩ := Dp.reads I d _ _ hd rfl
  have hu := hr.un
  refine repr_of_reads' rd hs (fun e => by rw [hn] at e; cases e) hgd (by omega) (fun _ _ e => e) (fun h' u tk hk => ?_) hz
  exact ⟨.str _, H, I.kept (t' := tk) hk, ⟨_, rfl⟩, q⟩
end PK
namespace PK
open PySem PySem.Spec PyProof.Rows L2
section
open PySem.SeqAt
open PySem.AutoSeq1 (wpAny_loadPart')
open PySem.MeetsSeq PySem.MeetsSeq2 PySem.MeetsSeq3

theorem extend_tup (l b : Addr) (xs ys : Array Value) (n m : Nat) (dd : Option Addr) (sl : Array (Option Value))
    (h0 : ¬(!xs.isEmpty && Builtin.List.listTooLong (xs.size + ys.size)) = true) (h1 : xs.size ≤ sizeLine) (h2 : xs.size + ys.size ≤ sizeLine + 1) :
    Meets (Builtin.«list.extend» ⟨[.ref l, .ref b], []⟩)
      (fun _ R s => s.heap.get? l = some { cls := .type "list", dict := none, data := .seq xs n, slots := #[] } ∧
        s.heap.get? b = some { cls := .type "tuple", dict := dd, data := .seq ys m, slots := sl } ∧
        R (.ok (.ret Value.none)) { s with heap := s.heap.update l (Obj.mapSeq fun x => x ++ ys), toks := s.toks }) :=
  .of_wp fun prog w A R s h => by
    obtain ⟨hp, g, d, tk, os⟩ := s
    obtain ⟨hl, hb, h⟩ := h
    have f1 := AutoSeq1.idx_int
    have f2 := AutoSeq1.sub_tuple_tuple
    have f3 := AutoSeq1.sub_list_list
    have f4 := AutoSeq1.sub_tuple_list
    have f5 := AutoSeq1.sub_list_tuple
    have hz : (xs ++ ys).size ≤ sizeLine + 1 := by
      rw [Array.size_append]
      exact h2
    wp_walk using (wpAny_updateSeq hl rfl (hz := h1) (_hz' := hz)), wpAny_loadPart' hl, wpAny_loadPart' hb
    exact ⟨_, rfl, h⟩
end

section
variable {X : Cx}
/-- xs.extend(t), t a tuple -/
def rExtT (K : PySem.W.Frag) : V → List V → Hp → VK → Prop := fun x vs H Q => ∃ l b xs zs, x = .ref l ∧ vs = [.ref b] ∧ H l = some (.lst xs) ∧
  SqT K H b zs ∧ xs.length + zs.length ≤ sizeLine ∧ Q .non (upd H l (.lst (xs ++ zs)))
theorem mt_extT : MtM X "list.extend" (rExtT X.K) := by
  intro pins s σ H x vs v us Q I rx rv h
  obtain ⟨l, b, xs, zs, rfl, rfl, hH, hB, hz, q⟩ := h
  cases rx
  obtain ⟨u, rfl, ru⟩ := rv.one
  cases ru
  obtain ⟨z, its, n, r, hl, e⟩ := I.lstM hH
  obtain ⟨ys, ry, ⟨⟨cls, dd, data, sl⟩, ho, hc, m, hd⟩, zy⟩ := I.tuple hB
  simp only at hc hd
  subst hc hd
  have l1 := r.length
  have l2 := ry.length
  have hsz : its.toArray.size + ys.toArray.size ≤ sizeLine := by
    rw [List.size_toArray, List.size_toArray]
    omega
  have hlong : ¬ (!its.toArray.isEmpty && Builtin.List.listTooLong (its.toArray.size + ys.toArray.size)) = true := by
    rw [notLongL hsz, Bool.and_false]
    exact Bool.false_ne_true
  refine call_meets PySem.F.slot_list_extend ⟨_, e, rfl⟩ PySem.F.entry_list_extend (PySem.F.args_list_extend_2 _ _)
    (extend_tup l b its.toArray ys.toArray n m dd sl hlong (by rw [List.size_toArray]; omega) (by omega)) ⟨e, ho, ?_⟩
  refine ⟨.non, _, I.lset (its' := its ++ ys) hH e (by simp) (r.append ry) ?_, rfl, q⟩
  rw [List.length_append]
  omega
end

/-! ### t[::-1] -/
section
variable {prog : Program} {w : World} {A : Around} {E : Value → Shared → Prop} {s : Shared}
theorem places_rev (n : Nat) : Builtin.Slice.slicePlaces ((n : Int) - 1) (-1) (-1) = n := by
  unfold Builtin.Slice.slicePlaces
  have h1 : ¬ ((-1 : Int) > 0) := by omega
  simp only [h1, if_false]
  by_cases h : (n : Int) - 1 > -1
  · rw [if_pos h]
    have e : ((n : Int) - 1 - -1 - 1) / (- -1) = (n : Int) - 1 := by
      rw [Int.neg_neg, Int.ediv_one]
      omega
    rw [e]
    omega
  · rw [if_neg h]
    omega
theorem fm_congr {α β : Type} {f g : α → Option β} : ∀ {l : List α}, (∀ k ∈ l, f k = g k) → l.filterMap f = l.filterMap g
  | [], _ => rfl
  | x :: l, h => by
    rw [List.filterMap_cons, List.filterMap_cons, h x List.mem_cons_self, fm_congr fun k hk => h k (List.mem_cons_of_mem _ hk)]
theorem range_pick {α : Type} : ∀ l : List α, (List.range l.length).filterMap (fun k => l[k]?) = l
  | [] => rfl
  | a :: l => by
    rw [List.length_cons, List.range_succ_eq_map, List.filterMap_cons, List.filterMap_map]
    have e : ((fun k => (a :: l)[k]?) ∘ Nat.succ) = fun k => l[k]? := by
      funext k
      rfl
    rw [e, range_pick l]
    rfl
theorem pick_rev (xs : Array Value) : ((List.range xs.size).filterMap fun (k : Nat) => xs[(((xs.size : Int) - 1) + (k : Int) * (-1)).toNat]?).toArray = xs.toList.reverse.toArray := by
  congr 1
  have el : xs.size = xs.toList.reverse.length := by simp
  have e1 : ((List.range xs.size).filterMap fun (k : Nat) => xs[(((xs.size : Int) - 1) + (k : Int) * (-1)).toNat]?) = (List.range xs.size).filterMap fun k => xs.toList.reverse[k]? := by
    refine fm_congr fun k hk => ?_
    have hk' := List.mem_range.mp hk
    rw [List.getElem?_reverse (by simpa using hk')]
    have e2 : (((xs.size : Int) - 1) + (k : Int) * (-1)).toNat = xs.toList.length - 1 - k := by
      rw [Array.length_toList]
      omega
    rw [e2, Array.getElem?_toList]
  rw [e1, el]
  exact range_pick _
theorem applied_rev {sl : Addr} {n : Nat} {vl vu vs : Value} {R : Int × Int × Nat → Shared → Prop} (hs : s.heap.IsSliceOf sl vl vu vs)
    (pl : IsPart vl none) (pu : IsPart vu none) (pv : IsPart vs (some (-1))) (hR : R ((n : Int) - 1, -1, n) s) :
    wpAny (model prog w) A (Builtin.Slice.sliceApplied (.ref sl) (pure (n : Int))) R E s := by
  obtain ⟨os, hos, hcs, hds⟩ := id hs
  unfold Builtin.Slice.sliceApplied Builtin.Slice.sliceFields
  refine wpAny_bind (wpAny_bind (wpAny_field hos hds (x := vl) rfl (wpAny_bind (wpAny_field hos hds (x := vu) rfl (wpAny_bind (wpAny_field hos hds (x := vs) rfl (wpAny_pure ?_)))))))
  refine wpAny_bind (HT.slicePart_ pv ?_)
  show wpAny _ _ (if ((-1 : Int) == 0) = true then _ else _) _ _ s
  rw [if_neg (by decide)]
  refine wpAny_bind (HT.slicePart_ pl (wpAny_bind (HT.slicePart_ pu (wpAny_bind (wpAny_pure ?_)))))
  show wpAny _ _ (pure ((n : Int) - 1, (-1 : Int), Builtin.Slice.slicePlaces ((n : Int) - 1) (-1) (-1))) _ _ s
  rw [places_rev]
  exact wpAny_pure hR
theorem getItem_tup_rev {t sl : Addr} {items : Array Value} {vl vu vs : Value} {Q : Value → Shared → Prop} (ht : IsTup s.heap t items)
    (hs : s.heap.IsSliceOf sl vl vu vs) (pl : IsPart vl none) (pu : IsPart vu none) (pv : IsPart vs (some (-1)))
    (h : Q (.ref s.heap.objs.size) { s with heap := s.heap.push { cls := .type "tuple", data := .seq items.toList.reverse.toArray } })
    (hsz : items.size ≤ sizeLine) : wpAny (model prog w) A (getItem (.ref t) (.ref sl)) Q E s := by
  have htake : sizeOk (.seq items.toList.reverse.toArray) := by
    show items.toList.reverse.toArray.size ≤ sizeLine
    rw [List.size_toArray, List.length_reverse, Array.length_toList]
    exact hsz
  obtain ⟨os, hos, hcs, hds⟩ := id hs
  have hTs : s.TypeIs (.ref sl) "slice" := ⟨os, hos, hcs⟩
  unfold getItem
  try with_reducible refine wpAny_holding ?_
  first | refine wpAny_bind (wpAny_pure ?_) | skip
  refine wpAny_bind (wpAny_sequenceKey ht.typeIs (by decide) ?_)
  refine wpAny_bind (wpAny_callSpecial?_slot (name := Str.ofString "__getitem__") ht.typeIs PyProof.Rows.slot_tuple_getitem
    (wpAny_call_entry PyProof.Rows.slot_tuple_getitem ht.typeIs entry_tuple_getitem ?_ (args_tuple_getitem _ _)))
  show wpAny _ _ (Builtin.Tuple.tupleItemsOf (.ref t) >>= _) _ _ s
  refine wpAny_bind (tupleItemsOf_ ht (wpAny_bind (wpAny_typeOf hTs ?_)))
  rw [if_pos (by decide)]
  refine wpAny_bind (applied_rev hs pl pu pv ?_)
  have hno : ¬ ((((items.size : Int) - 1) == 0 && (-1 : Int) == 1 && items.size == items.size) = true) := by
    intro q
    rw [Bool.and_eq_true, Bool.and_eq_true] at q
    exact absurd q.1.2 (by decide)
  show wpAny _ _ (if (((items.size : Int) - 1) == 0 && (-1 : Int) == 1 && items.size == items.size) = true then _ else _) _ _ s
  rw [if_neg hno, pick_rev]
  first
    | exact wpAny_bind (m := Builtin.Tuple.tupleExact _) (wpAny_newObj_type (wpAny_pure ⟨_, rfl, wpAny_pure h⟩) htake)
    | exact wpAny_bind (wpAny_bind (m := Builtin.Tuple.tupleExact _) (wpAny_newObj_type (wpAny_pure ⟨_, rfl, wpAny_pure h⟩) htake))
end
section
variable {X : Cx}
def tRevT (K : PySem.W.Frag) (te : TE) : TE := fun σ H Q => te σ H fun x H1 => ∃ a xs, x = .ref a ∧ SqT K H1 a xs ∧
  ∀ p, H1 p = none → Q (.ref p) (upd H1 p (.tup xs.reverse))
theorem pe_revT {e : Expr} {te : TE} {k : Nat} {p1 p2 p3 pos : Pos} (he : PE X e te) :
    PE X (.Subscript e (.Slice none none (some (.UnaryOp .USub (.Constant (.int 1) k p1) p2)) p3) pos) (tRevT X.K te) := by
  refine ⟨fun pins s σ H Q I h => Subscript_ (thn (he.run pins s σ H _ I h) ?_)⟩
  rintro v s1 ⟨x, H1, I1, r1, a, xs, rfl, hx, q⟩
  cases r1
  have hst : PO X (some (.UnaryOp .USub (.Constant (.int 1) k p1) p2)) (tPart (tUn (rU fun i => .int (-i)) (tC (.int 1)))) := po_some (pe_un un_neg pe_int)
  refine wpAny_Slice (thn (po_none.run pins s1 σ H1 (fun o H' => o = none ∧ H' = H1) I1 ⟨rfl, rfl⟩) ?_)
  rintro vl s2 ⟨l, H2, I2, pl, rfl, rfl⟩
  refine thn (po_none.run pins s2 σ H2 (fun o H' => o = none ∧ H' = H2) I2 ⟨rfl, rfl⟩) ?_
  rintro vu s3 ⟨u, H3, I3, pu, rfl, rfl⟩
  refine thn (hst.run pins s3 σ H3 (fun o H' => o = some (-1) ∧ H' = H3) I3 ⟨1, rfl, -1, rfl, rfl, rfl⟩) ?_
  rintro vs s4 ⟨o, H4, I4, ps, rfl, rfl⟩
  have I5 : Inv X pins σ H4 { s4 with heap := s4.heap.push { cls := .type "slice", data := .fields #[vl, vu, vs] } } :=
    I4.kept (t' := s4.toks) fun b ob q => Heap.get?_push_of_some _ q
  obtain ⟨its, r, ht, hz⟩ := I5.tuple hx
  have hlen := r.length
  show wpAny (model X.prog X.w) X.A (subscriptTail e _ (.ref a) (.ref s4.heap.objs.size)) _ _ _
  refine tail_any (ops := [.ref a, .ref s4.heap.objs.size]) ht.typeIs (PyProof.Rows.slot_tuple_getitem.lookup) ?_ (by with_unfolding_all rfl)
  refine getItem_tup_rev ht (Heap.IsSliceOf.new _ vl vu vs) pl pu ps ?_ (by rw [List.size_toArray]; omega)
  refine ⟨.ref _, _, I5.laid (t' := s4.toks) (o := .tup xs.reverse) (fun b ob q => Heap.get?_push_of_some _ q) (Nat.le_refl _) ?_, rfl, q _ (I5.hok.fresh (Nat.le_refl _))⟩
  refine ⟨by rw [List.length_reverse]; exact hz, its.reverse, r.reverse, ⟨_, Heap.get?_push_size _ rfl, rfl, 0, rfl⟩⟩
end

/-! ### xs != [], xs == [] -/
section
open PySem.SeqAt
open PySem.AutoSeq1 (wpAny_loadPart')
open PySem.MeetsSeq PySem.MeetsSeq2 PySem.MeetsSeq3
theorem list_ne_sizes (l b : Addr) (xs ys : Array Value) (n m : Nat) (sl sl2 : Array (Option Value)) (hc : (xs.size != ys.size) = true) :
    Meets (Builtin.«list.__ne__» ⟨[.ref l, .ref b], []⟩)
      (fun _ R s => s.heap.get? l = some { cls := .type "list", dict := none, data := .seq xs n, slots := sl } ∧
        s.heap.get? b = some { cls := .type "list", dict := none, data := .seq ys m, slots := sl2 } ∧ R (.ok (.ret (.bool true))) s) :=
  .of_wp fun prog w A R s h => by
    obtain ⟨hp, g, d, tk, os⟩ := s
    obtain ⟨hl, hb, h⟩ := h
    have f3 := AutoSeq1.sub_list_list
    wp_walk using wpAny_loadPart' hl, wpAny_loadPart' hb
    exact ⟨_, rfl, h⟩
theorem list_eq_sizes (l b : Addr) (xs ys : Array Value) (n m : Nat) (sl sl2 : Array (Option Value)) (hc : (xs.size != ys.size) = true) :
    Meets (Builtin.«list.__eq__» ⟨[.ref l, .ref b], []⟩)
      (fun _ R s => s.heap.get? l = some { cls := .type "list", dict := none, data := .seq xs n, slots := sl } ∧
        s.heap.get? b = some { cls := .type "list", dict := none, data := .seq ys m, slots := sl2 } ∧ R (.ok (.ret (.bool false))) s) :=
  .of_wp fun prog w A R s h => by
    obtain ⟨hp, g, d, tk, os⟩ := s
    obtain ⟨hl, hb, h⟩ := h
    have f3 := AutoSeq1.sub_list_list
    wp_walk using wpAny_loadPart' hl, wpAny_loadPart' hb
    exact ⟨_, rfl, h⟩
end
section
variable {X : Cx}
def rNeNil (K : PySem.W.Frag) : R2 := fun x y H Q => ∃ a b xs, x = .ref a ∧ y = .ref b ∧ SqL K H a xs ∧ SqL K H b [] ∧ Q (.bl (!xs.isEmpty)) H
def rEqNil (K : PySem.W.Frag) : R2 := fun x y H Q => ∃ a b xs, x = .ref a ∧ y = .ref b ∧ SqL K H a xs ∧ SqL K H b [] ∧ Q (.bl xs.isEmpty) H
theorem op_neNil {k : Nat} (hr : Room k X.A) : OpR X (compareOp .NotEq) (rNeNil X.K) := by
  intro pins s σ H x y v u Q I rx ry h
  obtain ⟨a, b, xs, rfl, rfl, ha, hb, q⟩ := h
  cases xs with
  | nil => exact op_neD hr.units pins s σ H _ _ v u Q I rx ry ⟨.list [], .list [], .lst ha .nil, .lst hb .nil, rfl, rfl, q⟩
  | cons z zs =>
    cases rx
    cases ry
    obtain ⟨its, r, ⟨⟨cls, dd, data, sl⟩, n, ho, hc, hdd, hd⟩, _⟩ := I.list ha
    obtain ⟨jts, r2, ⟨⟨cls2, dd2, data2, sl2⟩, n2, ho2, hc2, hdd2, hd2⟩, _⟩ := I.list hb
    simp only at hc hd hdd hc2 hd2 hdd2
    subst hc hd hdd hc2 hd2 hdd2
    cases r2
    have hz : (its.toArray.size != ([] : List Value).toArray.size) = true := by
      rw [List.size_toArray, ← r.length]
      rfl
    exact richCompare_meets_room (op := .NotEq) ⟨_, ho, rfl⟩ ⟨_, ho2, rfl⟩ PySem.F.slot_list_ne PySem.F.entry_list_ne (PySem.F.args_list_ne_2 _ _)
      (list_ne_sizes a b its.toArray ([] : List Value).toArray n n2 sl sl2 hz) ⟨ho, ho2, (fun z => nomatch z), ⟨.bl true, H, I, rfl, q⟩⟩ hr.units0
theorem op_eqNil {k : Nat} (hr : Room k X.A) : OpR X (compareOp .Eq) (rEqNil X.K) := by
  intro pins s σ H x y v u Q I rx ry h
  obtain ⟨a, b, xs, rfl, rfl, ha, hb, q⟩ := h
  cases xs with
  | nil => exact op_eqD hr.units pins s σ H _ _ v u Q I rx ry ⟨.list [], .list [], .lst ha .nil, .lst hb .nil, rfl, rfl, q⟩
  | cons z zs =>
    cases rx
    cases ry
    obtain ⟨its, r, ⟨⟨cls, dd, data, sl⟩, n, ho, hc, hdd, hd⟩, _⟩ := I.list ha
    obtain ⟨jts, r2, ⟨⟨cls2, dd2, data2, sl2⟩, n2, ho2, hc2, hdd2, hd2⟩, _⟩ := I.list hb
    simp only at hc hd hdd hc2 hd2 hdd2
    subst hc hd hdd hc2 hd2 hdd2
    cases r2
    have hz : (its.toArray.size != ([] : List Value).toArray.size) = true := by
      rw [List.size_toArray, ← r.length]
      rfl
    exact richCompare_meets_room (op := .Eq) ⟨_, ho, rfl⟩ ⟨_, ho2, rfl⟩ PySem.F.slot_list_eq PySem.F.entry_list_eq (PySem.F.args_list_eq_2 _ _)
      (list_eq_sizes a b its.toArray ([] : List Value).toArray n n2 sl sl2 hz) ⟨ho, ho2, (fun z => nomatch z), ⟨.bl false, H, I, rfl, q⟩⟩ hr.units0
end
end PK
namespace PK
open PySem PySem.Spec PyProof.Rows L2

/-- a def that may be called: its promise, its name, how its arguments come -/
structure Cal (P : Program) (w : World) (K : PySem.W.Frag) (mg : Str → Option Value) (base : Heap) (k : Nat) (x : Str) (f : Addr)
    (fd : FuncData) (ps : List Str) (sp : Sp) : Prop where
  ok : FnOk P w K mg base CX0 k f fd ps sp
  g : mg x = some (.ref f)
  kp : PySem.W.keepIn K (.ref f) = true
  b : Binds K fd ps []
structure CalG (P : Program) (w : World) (K : PySem.W.Frag) (mg : Str → Option Value) (base : Heap) (k : Nat) (x : Str) (f : Addr)
    (fd : FuncData) (ps : List Str) (sp : Sp) : Prop where
  ok : FnG P w K mg base CX0 k f fd ps sp
  g : mg x = some (.ref f)
  kp : PySem.W.keepIn K (.ref f) = true
  b : Binds K fd ps []

/-! ### the heap but for one object -/
/-- all that was tracked, but the object at a, is as it was -/
def Ext (a : Addr) (H H' : Hp) : Prop := ∀ b o, H b = some o → b ≠ a → H' b = some o
theorem Ext.refl (a : Addr) (H : Hp) : Ext a H H := fun _ _ h _ => h
theorem Ext.trans {a : Addr} {H H1 H2 : Hp} (x : Ext a H H1) (y : Ext a H1 H2) : Ext a H H2 := fun b o h n => y b o (x b o h n) n
theorem Ext.of {a : Addr} {H H' : Hp} (x : Same H H') : Ext a H H' := fun b o h _ => x b o h
theorem Ext.new {a p : Addr} {H H1 : Hp} {o : HO} (x : Ext a H H1) (np : H1 p = none) : Ext a H (upd H1 p o) := fun b u h n => by
  have h1 := x b u h n
  rw [upd_ne (ne_of_none h1 np)]
  exact h1
theorem Ext.at {a : Addr} {H H1 : Hp} {o : HO} (x : Ext a H H1) : Ext a H (upd H1 a o) := fun b u h n => by
  rw [upd_ne n]
  exact x b u h n
/-- a new object of ours changes -/
theorem Ext.own {a p : Addr} {H H1 : Hp} {o : HO} (x : Ext a H H1) (np : H p = none) : Ext a H (upd H1 p o) := fun b u h n => by
  rw [upd_ne (ne_of_none h np)]
  exact x b u h n
theorem Ext.free {a p : Addr} {H H1 : Hp} (x : Ext a H H1) (np : H1 p = none) (ne : p ≠ a) : H p = none := by
  cases q : H p with
  | none => rfl
  | some o =>
    rw [x p o q ne] at np
    cases np
theorem same_new {H H1 : Hp} {p : Addr} {o : HO} (x : Same H H1) (np : H1 p = none) : Same H (upd H1 p o) := fun b u h => by
  have h1 := x b u h
  rw [upd_ne (ne_of_none h1 np)]
  exact h1
theorem same_own {H H1 : Hp} {p : Addr} {o : HO} (x : Same H H1) (np : H p = none) : Same H (upd H1 p o) := fun b u h => by
  rw [upd_ne (ne_of_none h np)]
  exact x b u h

/-! ### what the law draws from -/
abbrev kC : Key := Sum.inr "cells"
abbrev kA : Key := Sum.inr "at"
abbrev kL : Key := Sum.inr "left"
abbrev kN : Key := Sum.inr "count"
def feed (c : Addr) (i l n : Int) : List (Key × V) := [(kC, .ref c), (kA, .int i), (kL, .int l), (kN, .int n)]
theorem feed_cells (c : Addr) (i l n : Int) : valV (feed c i l n) kC = some (.ref c) := rfl
theorem feed_at (c : Addr) (i l n : Int) : valV (feed c i l n) kA = some (.int i) := rfl
theorem feed_left (c : Addr) (i l n : Int) : valV (feed c i l n) kL = some (.int l) := rfl
theorem feed_count (c : Addr) (i l n : Int) : valV (feed c i l n) kN = some (.int n) := rfl
theorem feed_putA (c : Addr) (i l n j : Int) : putK (feed c i l n) kA (.int j) = feed c j l n := rfl
theorem feed_putL (c : Addr) (i l n j : Int) : putK (feed c i l n) kL (.int j) = feed c i j n := rfl
theorem feed_putN (c : Addr) (i l n j : Int) : putK (feed c i l n) kN (.int j) = feed c i l j := rfl
theorem feed_len (c : Addr) (i l n : Int) : (feed c i l n).length < sizeLine := by
  show 4 < sizeLine
  decide
theorem feed_merge (c : Addr) (i l n : Int) : mergeK [] (feed c i l n) = feed c i l n := rfl
/-- the feed at a: cells, all of them ints, and three numbers -/
structure Feed (H : Hp) (a : Addr) (c : Addr) (cs : List Int) (i l n : Int) : Prop where
  d : H a = some (.dK (feed c i l n))
  l : H c = some (.lst (cs.map V.int))
  i0 : 0 ≤ i
theorem Feed.ne {H : Hp} {a c : Addr} {cs : List Int} {i l n : Int} (f : Feed H a c cs i l n) : c ≠ a := ne_of f.l f.d (by intro z; cases z)
def IsFeed (H : Hp) (a c : Addr) : Prop := ∃ cs i l n, Feed H a c cs i l n
theorem Feed.new {H : Hp} {a c p : Addr} {cs : List Int} {i l n : Int} {o : HO} (f : Feed H a c cs i l n) (np : H p = none) : Feed (upd H p o) a c cs i l n :=
  ⟨by rw [upd_ne (ne_of_none f.d np)]; exact f.d, by rw [upd_ne (ne_of_none f.l np)]; exact f.l, f.i0⟩
theorem Feed.put {H : Hp} {a c : Addr} {cs : List Int} {i l n i' l' n' : Int} (f : Feed H a c cs i l n) (h : 0 ≤ i') : Feed (upd H a (.dK (feed c i' l' n'))) a c cs i' l' n' :=
  ⟨upd_same, by rw [upd_ne f.ne]; exact f.l, h⟩
theorem IsFeed.new {H : Hp} {a c p : Addr} {o : HO} (f : IsFeed H a c) (np : H p = none) : IsFeed (upd H p o) a c := by
  obtain ⟨cs, i, l, n, f⟩ := f
  exact ⟨cs, i, l, n, f.new np⟩
theorem IsFeed.keep {H H' : Hp} {a c : Addr} (f : IsFeed H a c) (h : Same H H') : IsFeed H' a c := by
  obtain ⟨cs, i, l, n, f⟩ := f
  exact ⟨cs, i, l, n, h _ _ f.d, h _ _ f.l, f.i0⟩
theorem IsFeed.some {H : Hp} {a c : Addr} (f : IsFeed H a c) : ∃ o, H a = some o := by
  obtain ⟨cs, i, l, n, f⟩ := f
  exact ⟨_, f.d⟩
theorem IsFeed.ne {H : Hp} {a c p : Addr} (f : IsFeed H a c) (np : H p = none) : p ≠ a ∧ p ≠ c := by
  obtain ⟨cs, i, l, n, f⟩ := f
  exact ⟨(ne_of_none f.d np).symm, (ne_of_none f.l np).symm⟩
/-- an object of ours that is neither the feed nor its cells changes -/
theorem IsFeed.own {H : Hp} {a c p : Addr} {o : HO} (f : IsFeed H a c) (h : p ≠ a ∧ p ≠ c) : IsFeed (upd H p o) a c := by
  obtain ⟨cs, i, l, n, f⟩ := f
  exact ⟨cs, i, l, n, by rw [upd_ne h.1.symm]; exact f.d, by rw [upd_ne h.2.symm]; exact f.l, f.i0⟩

/-- a draw: any number below the second -/
def spDraw : Sp := fun vs H Q _ => ∃ (a c : Addr) (m : Int), vs = [.ref a, .int m] ∧ IsFeed H a c ∧ 0 < m ∧ m ≤ 1000000 ∧
  ∀ (r : Int) (H' : Hp), 0 ≤ r → r < m → Ext a H H' → IsFeed H' a c → Q (.int r) H'

/-- the else of an if, said once -/
theorem if_else {tc : TT} {u v : TS} {D : Ends} {σ : L2.St} {H : Hp} (R : Hp → Prop) (hv : ∀ H', R H' → v D σ H')
    (h : (∀ H', R H' → v D σ H') → tIfS tc u v D σ H) : tIfS tc u v D σ H := h hv
end PK
namespace PK
open PySem PySem.Spec PyProof.Rows L2
/-- a small letter; a word: one to eight of them -/
def Lw (c : Nat) : Prop := 97 ≤ c ∧ c ≤ 122
structure Word (y : Str) : Prop where
  one : 1 ≤ y.length
  eight : y.length ≤ 8
  low : ∀ c ∈ y.cps.toList, Lw c
abbrev abc : Str := "abcdefghijklmnopqrstuvwxyz"
theorem abc_list : abc.cps.toList = List.range' 97 26 := by decide +kernel
theorem abc_len : abc.length ≤ sizeLine := by decide +kernel
theorem abc_at {i : Int} (h0 : 0 ≤ i) (h1 : i < 26) : ∃ c, atI abc.cps.toList i = some c ∧ Lw c := by
  refine ⟨97 + i.toNat, ?_, by omega, by omega⟩
  rw [abc_list]
  obtain ⟨n, rfl⟩ := Int.eq_ofNat_of_zero_le h0
  refine atI_nat ?_
  rw [Int.toNat_natCast, List.getElem?_range' (by omega)]
  rw [Nat.one_mul]
theorem len_one (c : Nat) : (⟨#[c]⟩ : Str).length = 1 := rfl
theorem word_one {c : Nat} (h : Lw c) : Word ⟨#[c]⟩ := ⟨Nat.le_refl 1, by rw [len_one]; omega, fun d hd => by
  have e : d = c := by simpa using hd
  rw [e]; exact h⟩
/-- a sign behind a word -/
theorem word_snoc {y : Str} {c : Nat} (h : Word y) (h8 : y.length < 8) (hc : Lw c) : Word (y ++ ⟨#[c]⟩) := by
  refine ⟨?_, ?_, fun d hd => ?_⟩
  · rw [strLen_append, len_one]; omega
  · rw [strLen_append, len_one]; omega
  · rw [mem_cps_append] at hd
    rcases hd with z | z
    · exact h.low d z
    · have e : d = c := by simpa using z
      rw [e]; exact hc
/-- a sign, and up to seven behind it -/
theorem word_join {c : Nat} {l : List Nat} (hc : Lw c) (hl : l.length ≤ 7) (h : ∀ d ∈ l, Lw d) : Word (⟨#[c]⟩ ++ Txt.join ⟨#[]⟩ (l.map fun k => (⟨#[k]⟩ : Str))) := by
  rw [TL.join_eq, join_ones]
  have e : (⟨l.toArray⟩ : Str).length = l.length := by simp [Str.length]
  refine ⟨?_, ?_, fun d hd => ?_⟩
  · rw [strLen_append, len_one]; omega
  · rw [strLen_append, len_one, e]; omega
  · rw [mem_cps_append] at hd
    rcases hd with z | z
    · have e : d = c := by simpa using z
      rw [e]; exact hc
    · exact h d (by simpa using z)

/-- so many words, a new list -/
def spNames : Sp := fun vs H Q _ => ∃ (a c : Addr) (m : Int), vs = [.ref a, .int m] ∧ IsFeed H a c ∧ 1 ≤ m ∧ m ≤ 8 ∧
  ∀ (p : Addr) (H' : Hp) (ws : List Str), H p = none → Ext a H H' → IsFeed H' a c → H' p = some (.lst (ws.map V.str)) → (ws.length : Int) = m →
    (∀ y ∈ ws, Word y) → Q (.ref p) H'
theorem strs_at {ws : List Str} {i : Nat} (h : i < ws.length) : (ws.map V.str)[i]? = some (.str ws[i]) := by
  rw [List.getElem?_map, List.getElem?_eq_getElem h]
  rfl
theorem strs_last {ws : List Str} (h : ws ≠ []) : atI (ws.map V.str) (-1) = some (.str (ws.getLast h)) := by
  have e : ws.map V.str = ws.dropLast.map V.str ++ [.str (ws.getLast h)] := by
    rw [← List.map_singleton (f := V.str), ← List.map_append, List.dropLast_concat_getLast]
  rw [e]
  exact atI_last _ _
end PK
namespace PK
open PySem PySem.Spec PyProof.Rows L2
/-- how many: from one to a thousand millions -/
def spMany : Sp := fun vs H Q _ => ∃ (a c : Addr), vs = [.ref a] ∧ IsFeed H a c ∧
  ∀ (r : Int) (H' : Hp), 1 ≤ r → r ≤ 1000000000 → Ext a H H' → IsFeed H' a c → Q (.int r) H'
end PK
namespace PK
open PySem PySem.Spec PyProof.Rows L2

/-! ### what never changes: tuples -/
def Tk : HO → Prop
  | .tup _ => True
  | .frz _ _ => True
  | _ => False
/-- the tuples (and what is locked) stay -/
def TKeep (H H' : Hp) : Prop := ∀ b u, Tk u → H b = some u → H' b = some u
theorem TKeep.refl (H : Hp) : TKeep H H := fun _ _ _ h => h
theorem TKeep.trans {H H1 H2 : Hp} (x : TKeep H H1) (y : TKeep H1 H2) : TKeep H H2 := fun b u t h => y b u t (x b u t h)
theorem TKeep.of {H H' : Hp} (x : Same H H') : TKeep H H' := fun b u _ h => x b u h
theorem TKeep.new {H : Hp} {p : Addr} {o : HO} (np : H p = none) : TKeep H (upd H p o) := fun b u _ h => by
  rw [upd_ne (ne_of_none h np)]
  exact h
theorem TKeep.lst {H : Hp} {p : Addr} {xs : List V} {o : HO} (hp : H p = some (.lst xs)) : TKeep H (upd H p o) := fun b u t h => by
  rw [upd_ne (ne_of h hp (by rintro rfl; exact t))]
  exact h
theorem TKeep.ext {H H' : Hp} {a : Addr} {kv : List (Key × V)} (ha : H a = some (.dK kv)) (x : Ext a H H') : TKeep H H' := fun b u t h =>
  x b u h (ne_of h ha (by rintro rfl; exact t))
theorem TKeep.feed {H H' : Hp} {a c : Addr} (f : IsFeed H a c) (x : Ext a H H') : TKeep H H' := by
  obtain ⟨cs, i, l, n, f⟩ := f
  exact TKeep.ext f.d x
theorem TKeep.sq {K : PySem.W.Frag} {H H' : Hp} {b : Addr} {xs : List V} (x : TKeep H H') (h : SqT K H b xs) : SqT K H' b xs := by
  rcases h with (h | ⟨o, h⟩) | h
  · exact Or.inl (Or.inl (x _ _ trivial h))
  · exact Or.inl (Or.inr ⟨o, x _ _ trivial h⟩)
  · exact Or.inr h
mutual
/-- data without lists and dicts -/
def flatT : PyData → Bool
  | .none | .bool _ | .int _ | .str _ => true
  | .tuple xs => flatTs xs
  | _ => false
def flatTs : List PyData → Bool
  | [] => true
  | x :: xs => flatT x && flatTs xs
end
mutual
theorem Dp.keepT {K : PySem.W.Frag} {H H' : Hp} (x : TKeep H H') : ∀ {d : PyData} {v : V}, flatT d = true → Dp K H v d → Dp K H' v d
  | .none, _, _, .non => .non
  | .bool _, _, _, .bl b => .bl b
  | .int _, _, _, .int i => .int i
  | .str _, _, _, .str y => .str y
  | .list _, _, h, _ => by simp [flatT] at h
  | .dict _, _, h, _ => by simp [flatT] at h
  | .tuple ds, _, h, .tup hs ha => .tup (x.sq hs) (DpAll.keepT x (by simpa [flatT] using h) ha)
theorem DpAll.keepT {K : PySem.W.Frag} {H H' : Hp} (x : TKeep H H') : ∀ {ds : List PyData} {vs : List V}, flatTs ds = true → DpAll K H vs ds → DpAll K H' vs ds
  | [], _, _, .nil => .nil
  | d :: ds, _, h, .cons h1 h2 => by
    have h' : flatT d = true ∧ flatTs ds = true := by simpa [flatTs] using h
    exact .cons (Dp.keepT x h'.1 h1) (DpAll.keepT x h'.2 h2)
end
mutual
theorem Dp.same {K : PySem.W.Frag} {H H' : Hp} (x : Same H H') : ∀ {d : PyData} {v : V}, Dp K H v d → Dp K H' v d
  | .none, _, .non => .non
  | .bool _, _, .bl b => .bl b
  | .int _, _, .int i => .int i
  | .str _, _, .str y => .str y
  | .list ds, _, .lst hs ha => .lst (x.seq hs) (DpAll.same x ha)
  | .tuple ds, _, .tup hs ha => .tup ((TKeep.of x).sq hs) (DpAll.same x ha)
theorem DpAll.same {K : PySem.W.Frag} {H H' : Hp} (x : Same H H') : ∀ {ds : List PyData} {vs : List V}, DpAll K H vs ds → DpAll K H' vs ds
  | [], _, .nil => .nil
  | d :: ds, _, .cons h1 h2 => .cons (Dp.same x h1) (DpAll.same x h2)
end
theorem DpAll.len {K : PySem.W.Frag} {H : Hp} : ∀ {vs : List V} {ds : List PyData}, DpAll K H vs ds → vs.length = ds.length
  | _, _, .nil => rfl
  | _, _, .cons _ h => by rw [List.length_cons, List.length_cons, DpAll.len h]
theorem DpAll.snoc {K : PySem.W.Frag} {H : Hp} {v : V} {d : PyData} (h : Dp K H v d) : ∀ {vs : List V} {ds : List PyData}, DpAll K H vs ds → DpAll K H (vs ++ [v]) (ds ++ [d])
  | _, _, .nil => .cons h .nil
  | _, _, .cons h1 h2 => .cons h1 (DpAll.snoc h h2)
theorem DpAll.app {K : PySem.W.Frag} {H : Hp} : ∀ {vs us : List V} {ds es : List PyData}, DpAll K H vs ds → DpAll K H us es → DpAll K H (vs ++ us) (ds ++ es)
  | _, _, _, _, .nil, h => h
  | _, _, _, _, .cons h1 h2, h => .cons h1 (DpAll.app h2 h)
theorem DpAll.get {K : PySem.W.Frag} {H : Hp} : ∀ {vs : List V} {ds : List PyData} {i : Nat} {d : PyData}, DpAll K H vs ds → ds[i]? = some d → ∃ v, vs[i]? = some v ∧ Dp K H v d
  | _, _, _, _, .nil, h => by simp at h
  | _, _, 0, _, .cons h1 _, h => ⟨_, rfl, by
    have e := Option.some.inj h
    rw [← e]; exact h1⟩
  | _, _, i + 1, _, .cons _ h2, h => by
    obtain ⟨v, e, r⟩ := DpAll.get (i := i) h2 (by simpa using h)
    exact ⟨v, by simpa using e, r⟩
theorem DpAll.getV {K : PySem.W.Frag} {H : Hp} : ∀ {vs : List V} {ds : List PyData} {i : Nat} {v : V}, DpAll K H vs ds → vs[i]? = some v → ∃ d, ds[i]? = some d ∧ Dp K H v d
  | _, _, _, _, .nil, h => by simp at h
  | _, _, 0, _, .cons h1 _, h => ⟨_, rfl, by
    have e := Option.some.inj h
    rw [← e]; exact h1⟩
  | _, _, i + 1, _, .cons _ h2, h => by
    obtain ⟨v, e, r⟩ := DpAll.getV (i := i) h2 (by simpa using h)
    exact ⟨v, by simpa using e, r⟩
theorem DpAll.take {K : PySem.W.Frag} {H : Hp} : ∀ (n : Nat) {vs : List V} {ds : List PyData}, DpAll K H vs ds → DpAll K H (vs.take n) (ds.take n)
  | 0, _, _, _ => .nil
  | _ + 1, _, _, .nil => .nil
  | n + 1, _, _, .cons h1 h2 => .cons h1 (DpAll.take n h2)
theorem DpAll.rev {K : PySem.W.Frag} {H : Hp} : ∀ {vs : List V} {ds : List PyData}, DpAll K H vs ds → DpAll K H vs.reverse ds.reverse
  | _, _, .nil => .nil
  | _, _, .cons h1 h2 => by
    rw [List.reverse_cons, List.reverse_cons]
    exact DpAll.snoc h1 (DpAll.rev h2)
theorem DpAll.ints {K : PySem.W.Frag} {H : Hp} : ∀ ns : List Int, DpAll K H (ns.map V.int) (ns.map PyData.int)
  | [] => .nil
  | n :: ns => .cons (.int n) (DpAll.ints ns)
theorem DpAll.strs {K : PySem.W.Frag} {H : Hp} : ∀ ns : List Str, DpAll K H (ns.map V.str) (ns.map PyData.str)
  | [] => .nil
  | n :: ns => .cons (.str n) (DpAll.strs ns)
theorem DpAll.of_ints {K : PySem.W.Frag} {H : Hp} : ∀ {ns : List Int} {vs : List V}, DpAll K H vs (ns.map PyData.int) → vs = ns.map V.int
  | [], _, .nil => rfl
  | n :: ns, _, .cons (.int _) h => by rw [DpAll.of_ints h]; rfl
theorem DpAll.of_strs {K : PySem.W.Frag} {H : Hp} : ∀ {ns : List Str} {vs : List V}, DpAll K H vs (ns.map PyData.str) → vs = ns.map V.str
  | [], _, .nil => rfl
  | n :: ns, _, .cons (.str _) h => by rw [DpAll.of_strs h]; rfl
theorem Dp.tupE {K : PySem.W.Frag} {H : Hp} {v : V} {ds : List PyData} (h : Dp K H v (.tuple ds)) : ∃ b xs, v = .ref b ∧ SqT K H b xs ∧ DpAll K H xs ds := by
  cases h with
  | tup hs ha => exact ⟨_, _, rfl, hs, ha⟩
theorem Dp.lstE {K : PySem.W.Frag} {H : Hp} {v : V} {ds : List PyData} (h : Dp K H v (.list ds)) : ∃ b xs, v = .ref b ∧ SqL K H b xs ∧ DpAll K H xs ds := by
  cases h with
  | lst hs ha => exact ⟨_, _, rfl, hs, ha⟩

/-! ### what can be shown, how deep and how long it is -/
structure Sh (d : PyData) (dp n : Nat) : Prop where
  ok : d.showable = true
  nd : d.hasDict = false
  dep : d.depth ≤ dp
  len : d.shown.length ≤ n
theorem Sh.mono {d : PyData} {a b n m : Nat} (h : Sh d a n) (h1 : a ≤ b) (h2 : n ≤ m) : Sh d b m := ⟨h.ok, h.nd, Nat.le_trans h.dep h1, Nat.le_trans h.len h2⟩
theorem Sh.all {dp n : Nat} : ∀ {ds : List PyData}, (∀ d ∈ ds, Sh d dp n) → PyData.showableAll ds = true ∧ PyData.hasDictAll ds = false ∧
    PyData.depthAll ds ≤ dp ∧ ((PyData.shownAll ds).map (·.length)).sum ≤ ds.length * n ∧ (PyData.shownAll ds).length = ds.length
  | [], _ => ⟨rfl, rfl, Nat.zero_le _, Nat.zero_le _, rfl⟩
  | d :: ds, h => by
    obtain ⟨h1, h2, h3, h4, h5⟩ := Sh.all (ds := ds) fun e he => h e (List.mem_cons_of_mem _ he)
    have q := h d List.mem_cons_self
    refine ⟨?_, ?_, ?_, ?_, ?_⟩
    · show (d.showable && PyData.showableAll ds) = true
      rw [q.ok, h1]
      rfl
    · show (d.hasDict || PyData.hasDictAll ds) = false
      rw [q.nd, h2]
      rfl
    · show max d.depth (PyData.depthAll ds) ≤ dp
      exact Nat.max_le.mpr ⟨q.dep, h3⟩
    · show (d.shown.length :: ((PyData.shownAll ds).map (·.length))).sum ≤ (d :: ds).length * n
      rw [List.sum_cons, List.length_cons, Nat.succ_mul]
      have := q.len
      omega
    · show (PyData.shownAll ds).length + 1 = ds.length + 1
      rw [h5]
theorem Sh.tuple {dp n m : Nat} {ds : List PyData} (h : ∀ d ∈ ds, Sh d dp n) (hm : ds.length ≤ m) : Sh (.tuple ds) (dp + 1) (m * n + 2 * m + 3) := by
  obtain ⟨h1, h2, h3, h4, h5⟩ := Sh.all h
  refine ⟨by simpa [PyData.showable] using h1, by simpa [PyData.hasDict] using h2, by simpa [PyData.depth] using h3, ?_⟩
  have e : (PyData.shown (.tuple ds)) = tupleText (PyData.shownAll ds) := by simp only [PyData.shown]
  rw [e]
  have l := tupleText_len_le (PyData.shownAll ds)
  rw [h5] at l
  have : ds.length * n ≤ m * n := Nat.mul_le_mul_right n hm
  omega
theorem Sh.list {dp n m : Nat} {ds : List PyData} (h : ∀ d ∈ ds, Sh d dp n) (hm : ds.length ≤ m) : Sh (.list ds) (dp + 1) (m * n + 2 * m + 3) := by
  obtain ⟨h1, h2, h3, h4, h5⟩ := Sh.all h
  refine ⟨by simpa [PyData.showable] using h1, by simpa [PyData.hasDict] using h2, by simpa [PyData.depth] using h3, ?_⟩
  have e : (PyData.shown (.list ds)) = listText (PyData.shownAll ds) := by simp only [PyData.shown]
  rw [e]
  have l := listText_len_le (PyData.shownAll ds)
  rw [h5] at l
  have : ds.length * n ≤ m * n := Nat.mul_le_mul_right n hm
  omega
theorem Sh.non : Sh .none 0 4 := ⟨rfl, rfl, Nat.le_refl _, by decide +kernel⟩
theorem Sh.bl (b : Bool) : Sh (.bool b) 0 5 := ⟨rfl, rfl, Nat.le_refl _, by cases b <;> decide +kernel⟩
theorem Sh.word {y : Str} (h : Word y) : Sh (.str y) 0 82 := by
  refine ⟨rfl, rfl, Nat.le_refl _, ?_⟩
  have e : (PyData.shown (.str y)) = reprText y := by simp only [PyData.shown]
  rw [e]
  have l := StrLaws.reprText_len y fun c hc => Nat.lt_of_le_of_lt (h.low c hc).2 (by decide)
  have := h.eight
  omega
/-- a number of at most 1920 bits -/
theorem Sh.intB {i : Int} {k : Nat} (hk : 0 < k) (h : i.natAbs.log2 < k) (hk2 : k ≤ 1920) : Sh (.int i) 0 (k + 1) := by
  refine ⟨decide_eq_true (Nat.lt_of_lt_of_le h hk2), rfl, Nat.le_refl _, ?_⟩
  have e : (PyData.shown (.int i)) = Str.ofString (toString i) := by simp only [PyData.shown]
  rw [e, PySem.ofString_length]
  exact int_text_length_le hk h
theorem Sh.int {i : Int} (h0 : 0 ≤ i) (h : i < 2 ^ 64) : Sh (.int i) 0 65 := by
  refine Sh.intB (k := 64) (by decide) ?_ (by decide)
  by_cases z : i.natAbs = 0
  · rw [z]; decide
  · exact (Nat.log2_lt z).mpr (by omega)
end PK
namespace PK
open PySem PySem.Spec PyProof.Rows L2

/-! ### wants, ways, rows, sheets as data -/
abbrev Want := Str × List Str × Int
abbrev Way := List Want
abbrev Row := List Way
abbrev Sheet := List Row
def wantD (x : Want) : PyData := .tuple [.str x.1, .tuple (x.2.1.map PyData.str), .int x.2.2]
def wayD (x : Way) : PyData := .tuple (x.map wantD)
def rowD (x : Row) : PyData := .tuple (x.map wayD)
def sheetD (x : Sheet) : PyData := .tuple (x.map rowD)
structure WantOk (x : Want) : Prop where
  form : Word x.1
  shades : ∀ y ∈ x.2.1, Word y
  few : x.2.1.length ≤ 8
  one : 1 ≤ x.2.2
  most : x.2.2 ≤ 1000000000
structure WayOk (n : Nat) (x : Way) : Prop where
  len : x.length ≤ n
  each : ∀ y ∈ x, WantOk y
structure RowOk (n : Nat) (x : Row) : Prop where
  some : 1 ≤ x.length
  len : x.length ≤ 3
  each : ∀ y ∈ x, WayOk n y
structure SheetOk (m n : Nat) (x : Sheet) : Prop where
  len : x.length ≤ m
  each : ∀ y ∈ x, RowOk n y
theorem flatTs_of {ds : List PyData} : (∀ d ∈ ds, flatT d = true) → flatTs ds = true := by
  induction ds with
  | nil => intro _; rfl
  | cons d ds ih =>
    intro h
    show (flatT d && flatTs ds) = true
    rw [h d List.mem_cons_self, ih fun e he => h e (List.mem_cons_of_mem _ he)]
    rfl
theorem flat_map {α : Type} {f : α → PyData} (hf : ∀ x, flatT (f x) = true) (l : List α) : flatTs (l.map f) = true :=
  flatTs_of fun d hd => by
    obtain ⟨x, _, rfl⟩ := List.mem_map.mp hd
    exact hf x
theorem flat_strs (l : List Str) : flatTs (l.map PyData.str) = true := flat_map (fun _ => rfl) l
theorem flat_ints (l : List Int) : flatTs (l.map PyData.int) = true := flat_map (fun _ => rfl) l
theorem flat_want (x : Want) : flatT (wantD x) = true := by
  show (flatT (.str x.1) && (flatT (.tuple (x.2.1.map PyData.str)) && (flatT (.int x.2.2) && true))) = true
  have e : flatT (.tuple (x.2.1.map PyData.str)) = true := by
    show flatTs _ = true
    exact flat_strs _
  rw [e]
  rfl
theorem flat_way (x : Way) : flatT (wayD x) = true := flat_map flat_want x
theorem flat_row (x : Row) : flatT (rowD x) = true := flat_map flat_way x
theorem flat_sheet (x : Sheet) : flatT (sheetD x) = true := flat_map flat_row x
/-- so many choices and wants as one likes, all of them short -/
theorem sh_want {x : Want} (h : WantOk x) : Sh (wantD x) 2 2457 := by
  have e1 : Sh (.tuple (x.2.1.map PyData.str)) 1 (8 * 82 + 2 * 8 + 3) := Sh.tuple (fun d hd => by
    obtain ⟨y, hy, rfl⟩ := List.mem_map.mp hd
    exact Sh.word (h.shades y hy)) (by rw [List.length_map]; exact h.few)
  refine (Sh.tuple (dp := 1) (n := 816) (m := 3) (fun d hd => ?_) (Nat.le_refl _)).mono (Nat.le_refl _) (by decide)
  rcases List.mem_cons.mp hd with rfl | hd
  · exact (Sh.word h.form).mono (by decide) (by decide)
  rcases List.mem_cons.mp hd with rfl | hd
  · exact e1.mono (by decide) (by decide)
  · rw [List.mem_singleton.mp hd]
    have := h.one
    have := h.most
    exact (Sh.int (by omega) (by omega)).mono (by decide) (by decide)
theorem sh_way {n : Nat} {x : Way} (h : WayOk n x) : Sh (wayD x) 3 (n * 2457 + 2 * n + 3) :=
  Sh.tuple (fun d hd => by
    obtain ⟨y, hy, rfl⟩ := List.mem_map.mp hd
    exact sh_want (h.each y hy)) (by rw [List.length_map]; exact h.len)
theorem sh_row {n : Nat} {x : Row} (h : RowOk n x) : Sh (rowD x) 4 (3 * (n * 2457 + 2 * n + 3) + 2 * 3 + 3) :=
  Sh.tuple (fun d hd => by
    obtain ⟨y, hy, rfl⟩ := List.mem_map.mp hd
    exact sh_way (h.each y hy)) (by rw [List.length_map]; exact h.len)
theorem sh_sheet {m n : Nat} {x : Sheet} (h : SheetOk m n x) : Sh (sheetD x) 5 (m * (3 * (n * 2457 + 2 * n + 3) + 2 * 3 + 3) + 2 * m + 3) :=
  Sh.tuple (fun d hd => by
    obtain ⟨y, hy, rfl⟩ := List.mem_map.mp hd
    exact sh_row (h.each y hy)) (by rw [List.length_map]; exact h.len)
def intsD (l : List Int) : PyData := .tuple (l.map PyData.int)
theorem flat_intsD (l : List Int) : flatT (intsD l) = true := flat_ints l

/-! ### all choices: two ways to count them -/
/-- as the program does it -/
def grow (told : List (List Int)) (L : Nat) : List (List Int) := told.flatMap fun c => (List.range L).map fun (p : Nat) => c ++ [((p : Nat) : Int)]
def choicesM (ls : List Nat) : List (List Int) := ls.foldl grow [[]]
/-- the figures of a number, the last row's first -/
def figStep (st : List Int × Nat) (L : Nat) : List Int × Nat := (((st.2 % L : Nat) : Int) :: st.1, st.2 / L)
def figs (ls : List Nat) (n : Nat) : List Int := (ls.reverse.foldl figStep ([], n)).1
theorem fig_acc : ∀ (ls : List Nat) (fs : List Int) (n : Nat), (ls.foldl figStep (fs, n)).1 = (ls.foldl figStep ([], n)).1 ++ fs
  | [], fs, n => by simp
  | L :: r, fs, n => by
    show (r.foldl figStep (((n % L : Nat) : Int) :: fs, n / L)).1 = (r.foldl figStep ([((n % L : Nat) : Int)], n / L)).1 ++ fs
    rw [fig_acc r (((n % L : Nat) : Int) :: fs), fig_acc r [((n % L : Nat) : Int)], List.append_assoc]
    rfl
theorem figs_snoc (ls : List Nat) (L n : Nat) : figs (ls ++ [L]) n = figs ls (n / L) ++ [((n % L : Nat) : Int)] := by
  unfold figs
  rw [List.reverse_append]
  show (ls.reverse.foldl figStep ([((n % L : Nat) : Int)], n / L)).1 = _
  rw [fig_acc]
theorem range_mul (N L : Nat) (hL : 0 < L) : List.range (N * L) = (List.range N).flatMap fun q => (List.range L).map fun p => q * L + p := by
  induction N with
  | zero => simp
  | succ N ih =>
    rw [List.range_succ, List.flatMap_append, ← ih, Nat.succ_mul, List.range_add]
    simp
def total (ls : List Nat) : Nat := ls.foldl (· * ·) 1
theorem total_snoc (ls : List Nat) (L : Nat) : total (ls ++ [L]) = total ls * L := by
  unfold total
  rw [List.foldl_append]
  rfl
theorem snocInd {α : Type} {P : List α → Prop} (h0 : P []) (h1 : ∀ l x, P l → P (l ++ [x])) : ∀ l, P l := by
  intro l
  have : ∀ l : List α, P l.reverse := by
    intro l
    induction l with
    | nil => exact h0
    | cons x l ih =>
      rw [List.reverse_cons]
      exact h1 _ _ ih
  have h := this l.reverse
  rwa [List.reverse_reverse] at h
theorem counted_choices : ∀ ls : List Nat, (∀ L ∈ ls, 0 < L) → (List.range (total ls)).map (figs ls) = choicesM ls := by
  refine snocInd (P := fun ls => (∀ L ∈ ls, 0 < L) → (List.range (total ls)).map (figs ls) = choicesM ls) (fun _ => rfl) ?_
  intro ls L ih h
  have hL := h L (by simp)
  have ih' := ih fun x hx => h x (by simp [hx])
  have e : choicesM (ls ++ [L]) = grow (choicesM ls) L := by
    unfold choicesM
    rw [List.foldl_append]
    rfl
  rw [e, ← ih', total_snoc, range_mul _ _ hL]
  unfold grow
  rw [List.map_flatMap, List.flatMap_map]
  congr 1
  funext q
  rw [List.map_map]
  refine List.map_congr_left fun p hp => ?_
  have hp' := List.mem_range.mp hp
  show figs (ls ++ [L]) (q * L + p) = _
  rw [figs_snoc]
  have e1 : (q * L + p) / L = q := by
    rw [Nat.mul_comm, Nat.mul_add_div hL, Nat.div_eq_of_lt hp']
    rfl
  have e2 : (q * L + p) % L = p := by
    rw [Nat.mul_comm, Nat.mul_add_mod, Nat.mod_eq_of_lt hp']
  rw [e1, e2]
end PK
namespace PK
open PySem PySem.Spec PyProof.Rows L2
/-- a list of words at p, some of them -/
structure Words (H : Hp) (p : Addr) (ws : List Str) : Prop where
  at_ : H p = some (.lst (ws.map V.str))
  some : ws ≠ []
  few : ws.length ≤ 8
  each : ∀ y ∈ ws, Word y
theorem Words.ext {H H' : Hp} {a c p : Addr} {ws : List Str} (w : Words H p ws) (f : IsFeed H a c) (x : Ext a H H') : Words H' p ws := by
  obtain ⟨cs, i, l, n, f⟩ := f
  exact ⟨x p _ w.at_ (ne_of w.at_ f.d (by intro z; cases z)), w.some, w.few, w.each⟩
theorem Words.new {H : Hp} {p q : Addr} {o : HO} {ws : List Str} (w : Words H p ws) (nq : H q = none) : Words (upd H q o) p ws :=
  ⟨by rw [upd_ne (ne_of_none w.at_ nq)]; exact w.at_, w.some, w.few, w.each⟩
theorem Words.same {H H' : Hp} {p : Addr} {ws : List Str} (w : Words H p ws) (x : Same H H') : Words H' p ws := ⟨x _ _ w.at_, w.some, w.few, w.each⟩
theorem Words.own {H : Hp} {p q : Addr} {o : HO} {ws : List Str} (w : Words H p ws) (ne : p ≠ q) : Words (upd H q o) p ws :=
  ⟨by rw [upd_ne ne]; exact w.at_, w.some, w.few, w.each⟩
theorem Words.pos {H : Hp} {p : Addr} {ws : List Str} (w : Words H p ws) : 0 < ws.length := by
  cases h : ws with
  | nil => exact absurd h w.some
  | cons _ _ => simp
def spWant (K : PySem.W.Frag) : Sp := fun vs H Q _ => ∃ (a c pf ps : Addr) (fs ss : List Str), vs = [.ref a, .ref pf, .ref ps] ∧ IsFeed H a c ∧ Words H pf fs ∧ Words H ps ss ∧
  ∀ (v : V) (H' : Hp) (x : Want), WantOk x → Ext a H H' → IsFeed H' a c → Dp K H' v (wantD x) → Q v H'
end PK
namespace PK
open PySem PySem.Spec PyProof.Rows L2
def spSheet (K : PySem.W.Frag) : Sp := fun vs H Q _ => ∃ (a c pf ps : Addr) (fs ss : List Str) (mo : Nat), vs = [.ref a, .ref pf, .ref ps, .int mo] ∧ IsFeed H a c ∧ Words H pf fs ∧ Words H ps ss ∧ mo ≤ 10 ∧
  ∀ (v : V) (H' : Hp) (x : Sheet), SheetOk 3 mo x → Ext a H H' → IsFeed H' a c → Dp K H' v (sheetD x) → Q v H'
/-- one more behind data of a list, the tuples kept -/
theorem dp_snoc {α : Type} {f : α → PyData} {K : PySem.W.Frag} {H H' : Hp} {vs : List V} {xs : List α} {v : V} {x : α} (hf : ∀ x, flatT (f x) = true) (h : DpAll K H vs (xs.map f)) (t : TKeep H H') (hv : Dp K H' v (f x)) :
    DpAll K H' (vs ++ [v]) ((xs ++ [x]).map f) := by
  rw [List.map_append]
  exact DpAll.snoc hv (DpAll.keepT t (flat_map hf xs) h)
theorem dp_move {α : Type} {f : α → PyData} {K : PySem.W.Frag} {H H' : Hp} {vs : List V} {xs : List α} (hf : ∀ x, flatT (f x) = true) (h : DpAll K H vs (xs.map f)) (t : TKeep H H') :
    DpAll K H' vs (xs.map f) := DpAll.keepT t (flat_map hf xs) h
theorem dp_lenM {α : Type} {f : α → PyData} {K : PySem.W.Frag} {H : Hp} {vs : List V} {xs : List α} (h : DpAll K H vs (xs.map f)) : vs.length = xs.length := by
  rw [DpAll.len h, List.length_map]
end PK
namespace PK
open PySem PySem.Spec PyProof.Rows L2
/-! ### places in the text -/
def retE (st : Stmt) : Expr := match (defBody st).getLast? with
  | some (.Return (some e) _) => e
  | _ => .Constant .none 0 ⟨0, 0, 0, 0⟩
def argE (e : Expr) (i : Nat) : Expr := match e with
  | .Call _ args _ _ => args.getD i (.Constant .none 0 ⟨0, 0, 0, 0⟩)
  | _ => .Constant .none 0 ⟨0, 0, 0, 0⟩
def lcScope (e : Expr) : Scope := match e with
  | .ListComp _ _ sc _ => sc
  | _ => { kind := .function, names := [], isGenerator := false, isCoroutine := false }
theorem take_snoc {α : Type} {l : List α} {i : Nat} {x : α} (h : l[i]? = some x) : l.take (i + 1) = l.take i ++ [x] := by
  rw [List.take_add_one, h]
  rfl
theorem Dp.wantE {K : PySem.W.Frag} {H : Hp} {v : V} {x : Want} (h : Dp K H v (wantD x)) :
    ∃ b t, v = .ref b ∧ SqT K H b [.str x.1, .ref t, .int x.2.2] ∧ SqT K H t (x.2.1.map V.str) := by
  obtain ⟨b, xs, rfl, hb, h1⟩ := Dp.tupE h
  cases h1 with
  | cons a1 h2 =>
    cases h2 with
    | cons a2 h3 =>
      cases h3 with
      | cons a3 h4 =>
        cases h4
        cases a1
        cases a3
        obtain ⟨t, ys, rfl, ht, hy⟩ := Dp.tupE a2
        rw [DpAll.of_strs hy] at ht
        exact ⟨b, t, rfl, hb, ht⟩
/-- the same way, made anew -/
def spCopy (K : PySem.W.Frag) : Sp := fun vs H Q _ => ∃ (v : V) (x : Way), vs = [v] ∧ Dp K H v (wayD x) ∧ x.length ≤ 100 ∧ (∀ y ∈ x, y.2.1.length ≤ 100) ∧
  ∀ (p : Addr) (us : List V) (H' : Hp), Same H H' → H' p = some (.tup us) → DpAll K H' us (x.map wantD) → Q (.ref p) H'
end PK
/-! The rules with the written part K said: within a comprehension the block's own context is not named. -/
namespace PK
open PySem PySem.Spec PyProof.Rows L2
def rTupOf (K : PySem.W.Frag) : List V → Hp → VK → Prop := fun xs H Q => ∃ p ys, xs = [.ref p] ∧
  ((SqL K H p ys ∧ ∀ l, H l = none → Q (.ref l) (upd H l (.tup ys))) ∨ (SqT K H p ys ∧ Q (.ref p) H))
def rLenOf (K : PySem.W.Frag) : List V → Hp → VK → Prop := fun xs H Q => ∃ p ys, xs = [.ref p] ∧ (SqL K H p ys ∨ SqT K H p ys) ∧ Q (.int ys.length) H
def rListOf (K : PySem.W.Frag) : List V → Hp → VK → Prop := fun xs H Q => ∃ p ys, xs = [.ref p] ∧ (SqL K H p ys ∨ SqT K H p ys) ∧
  ∀ l, H l = none → Q (.ref l) (upd H l (.lst ys))
def rRepr (K : PySem.W.Frag) : List V → Hp → VK → Prop := fun xs H Q => ∃ a d, xs = [.ref a] ∧ Dp K H (.ref a) d ∧ d.showable = true ∧ d.hasDict = false ∧ d.depth ≤ 100 ∧
  d.shown.length ≤ sizeLine ∧ Q (.str d.shown) H
section
variable {X : Cx} (K : PySem.W.Frag)
theorem k_tup (hK : X.K = K := by rfl) : CallR X (.type "tuple") (rTupOf K) := by subst hK; exact call_tuple_of
theorem k_len (hK : X.K = K := by rfl) : CallR X (.builtin "len") (rLenOf K) := by subst hK; exact call_len_seq
theorem k_list (hK : X.K = K := by rfl) : CallR X (.type "list") (rListOf K) := by subst hK; exact call_list_of
theorem k_repr {k : Nat} (hgd : X.A.guards = some []) (hr : Room k X.A) (hK : X.K = K := by rfl) : CallR X (.builtin "repr") (rRepr K) := by subst hK; exact call_repr hgd hr
theorem k_all (hc : X.calm = true) (hK : X.K = K := by rfl) : CallR X (.builtin "all") (rAll K) := by subst hK; exact cr_all hc
theorem k_sum (hc : X.calm = true) (hK : X.K = K := by rfl) : CallR X (.builtin "sum") (rSum K) := by subst hK; exact cr_sum hc
theorem k_sortedS (hK : X.K = K := by rfl) : CallR X (.builtin "sorted") (rSortedS K) := by subst hK; exact cr_sortedS
theorem kx_list (hK : X.K = K := by rfl) : IxR X (rIxL K) := by subst hK; exact ix_list
theorem kx_tup (hK : X.K = K := by rfl) : IxR X (rIxT K) := by subst hK; exact ix_tup
theorem ks_list (hK : X.K = K := by rfl) : SlR X (rSlL K) := by subst hK; exact sl_list
theorem ks_tup (hK : X.K = K := by rfl) : SlR X (rSlA K) := by subst hK; exact sl_tupA
theorem ko_catA (hK : X.K = K := by rfl) : OpR X (binaryOp .Add) (rCatA K) := by subst hK; exact op_catA
theorem ko_repT (hK : X.K = K := by rfl) : OpR X (binaryOp .Mult) (rRepT K) := by subst hK; exact op_repT
theorem ko_neNil {k : Nat} (hr : Room k X.A) (hK : X.K = K := by rfl) : OpR X (compareOp .NotEq) (rNeNil K) := by subst hK; exact op_neNil hr
theorem ko_eqNil {k : Nat} (hr : Room k X.A) (hK : X.K = K := by rfl) : OpR X (compareOp .Eq) (rEqNil K) := by subst hK; exact op_eqNil hr
theorem ko_eqD {k : Nat} (hr : Room k X.A) (hK : X.K = K := by rfl) : OpR X (compareOp .Eq) (rEqD K) := by subst hK; exact op_eqD hr.units
theorem ko_neD {k : Nat} (hr : Room k X.A) (hK : X.K = K := by rfl) : OpR X (compareOp .NotEq) (rNeD K) := by subst hK; exact op_neD hr.units
theorem km_ext (hK : X.K = K := by rfl) : MtM X "list.extend" (rExtT K) := by subst hK; exact mt_extT
theorem pk_list {tg l : Expr} {tl : TE} (hl : PE X l tl) (hK : X.K = K := by rfl) : PI X tg l (iList K tl) := by subst hK; exact pi_list hl
theorem pk_tup {tg l : Expr} {tl : TE} (hl : PE X l tl) (hK : X.K = K := by rfl) : PI X tg l (iTup K tl) := by subst hK; exact pi_tup hl
theorem pek_revT {e : Expr} {te : TE} {k : Nat} {p1 p2 p3 pos : Pos} (he : PE X e te) (hK : X.K = K := by rfl) :
    PE X (.Subscript e (.Slice none none (some (.UnaryOp .USub (.Constant (.int 1) k p1) p2)) p3) pos) (tRevT K te) := by subst hK; exact pe_revT he
theorem pek_revL {e : Expr} {te : TE} {k : Nat} {p1 p2 p3 pos : Pos} (he : PE X e te) (hK : X.K = K := by rfl) :
    PE X (.Subscript e (.Slice none none (some (.UnaryOp .USub (.Constant (.int 1) k p1) p2)) p3) pos) (tRevL K te) := by subst hK; exact pe_revL he
theorem pgk_tup {es : List Expr} {k n : Nat} {t : TGs} {pos : Pos} (hc : X.calm = true) (h : PGs X es t) (hK : X.K = K := by rfl)
    (hn : (assignEach es X.env).length = n := by rfl) (hst : (assignEach es X.env).findIdx? (·.1) = none := by rfl) : PG X (.Tuple es k pos) (gTup K n t) := by
  subst hK; exact pg_tup hc h hn hst
theorem pek_bm {T id : String} {name : Str} {r : V → List V → Hp → VK → Prop} {o e : Expr} {es : List Expr} {to : TE} {t : TA} {apos cpos : Pos}
    (h : PE X (.Call (.Attribute o name apos) (e :: es) [] cpos) (tBM X.K T r to t)) (hK : X.K = K := by rfl) :
    PE X (.Call (.Attribute o name apos) (e :: es) [] cpos) (tBM K T r to t) := by subst hK; exact h
end
end PK
namespace PK
open PySem PySem.Spec PyProof.Rows L2
section
open PySem.SeqAt
open PySem.AutoSeq1 (wpAny_loadPart')
open PySem.MeetsSeq PySem.MeetsSeq2 PySem.MeetsSeq3
theorem mul_one (l : Addr) (items : Array Value) (n : Nat) (dd : Option Addr) (sl : Array (Option Value)) (u : Tok) :
    Meets (Builtin.«tuple.__mul__» ⟨[.ref l, .int 1 u], []⟩) (fun _ R s => s.heap.get? l = some { cls := .type "tuple", dict := dd, data := .seq items n, slots := sl } ∧
      R (.ok (.ret (Value.ref l))) s) :=
  .of_wp fun prog w A R s h => by
    obtain ⟨hp, g, d, tk, os⟩ := s
    obtain ⟨hl, h⟩ := h
    have f1 := AutoSeq1.idx_int
    have c1 : (items.isEmpty || (1 : Int) == 1) = true := by simp
    wp_walk using wpAny_loadPart' hl
    exact ⟨_, rfl, h⟩
theorem mul_nought (l : Addr) (items : Array Value) (n : Nat) (dd : Option Addr) (sl : Array (Option Value)) (u : Tok) (c1 : (items.isEmpty || (0 : Int) == 1) = false) :
    Meets (Builtin.«tuple.__mul__» ⟨[.ref l, .int 0 u], []⟩) (fun _ R s => s.heap.get? l = some { cls := .type "tuple", dict := dd, data := .seq items n, slots := sl } ∧
      R (.ok (.ret (Value.ref s.heap.objs.size))) { s with heap := s.heap.push { cls := Value.type "tuple", data := Data.seq #[] } }) :=
  .of_wp fun prog w A R s h => by
    obtain ⟨hp, g, d, tk, os⟩ := s
    obtain ⟨hl, h⟩ := h
    have f1 := AutoSeq1.idx_int
    wp_walk using wpAny_loadPart' hl
    repeat (first
      | (refine wpAny_ite_false (decide_eq_false (by rw [c1]; exact Bool.false_ne_true)) ?_; wp_walk using wpAny_loadPart' hl))
    exact ⟨_, rfl, h⟩
end
/-- t * k, k from nought on -/
def rRepA (K : PySem.W.Frag) : R2 := fun x y H Q => ∃ l k xs, x = .ref l ∧ y = .int k ∧ SqT K H l xs ∧ xs ≠ [] ∧ 0 ≤ k ∧ k ≤ 1000 ∧ xs.length ≤ 1000 ∧
  (k = 1 → Q (.ref l) H) ∧ (k ≠ 1 → ∀ p, H p = none → Q (.ref p) (upd H p (.tup (List.replicate k.toNat xs).flatten)))
theorem ko_repA {X : Cx} (K : PySem.W.Frag) (hK : X.K = K := by rfl) : OpR X (binaryOp .Mult) (rRepA K) := by
  subst hK
  intro pins s σ H x y v u Q I rx ry h
  obtain ⟨l, k, xs, rfl, rfl, hT, hne, h0, h1, hz, q1, q2⟩ := h
  by_cases k2 : 2 ≤ k
  · exact op_repT pins s σ H _ _ v u Q I rx ry ⟨l, k, xs, rfl, rfl, hT, hne, k2, h1, hz, q2 (by omega)⟩
  · cases rx
    obtain ⟨t, rfl⟩ := ry
    obtain ⟨its, r, ⟨⟨cls, dd, data, sl⟩, ho, hc, n, hd⟩, hs⟩ := I.tuple hT
    simp only at hc hd
    subst hc hd
    have hle : its.length = xs.length := r.length.symm
    have hi : its.toArray.isEmpty = false := by
      cases its with
      | nil => exact absurd (List.eq_nil_of_length_eq_zero hle.symm) hne
      | cons _ _ => rfl
    have kk : k = 0 ∨ k = 1 := by omega
    rcases kk with rfl | rfl
    · refine wpAny_binaryOp_repeat_ref (T := "tuple") (U := "int") (by decide) ⟨_, ho, rfl⟩ (fun s' => typeIs_int s' 0 t) noFill_tuple_mul F.fills_int_mul F.slot_int_rmul repeat_tuple F.slot_int_index.lookup
        (call_meets F.slot_int_rmul (typeIs_int s 0 t) F.entry_int_rmul (F.args_int_rmul_2 _ _) (int_rmul_tuple 0 t l its.toArray n dd sl)
          ⟨ho, rfl, ⟨_, ho, rfl⟩, call_meets F.slot_tuple_mul ⟨_, ho, rfl⟩ F.entry_tuple_mul (F.args_tuple_mul_2 _ _) (mul_nought l its.toArray n dd sl t (by rw [hi]; rfl)) ⟨ho, ?_⟩⟩)
      refine ⟨.ref _, _, I.laid (t' := s.toks) (o := .tup []) (fun b ob q => Heap.get?_push_of_some _ q) (Nat.le_refl _) ?_, rfl, q2 (by decide) _ (I.hok.fresh (Nat.le_refl _))⟩
      exact ⟨Nat.zero_le _, [], .nil, ⟨_, Heap.get?_push_size _ rfl, rfl, 0, rfl⟩⟩
    · refine wpAny_binaryOp_repeat_ref (T := "tuple") (U := "int") (by decide) ⟨_, ho, rfl⟩ (fun s' => typeIs_int s' 1 t) noFill_tuple_mul F.fills_int_mul F.slot_int_rmul repeat_tuple F.slot_int_index.lookup
        (call_meets F.slot_int_rmul (typeIs_int s 1 t) F.entry_int_rmul (F.args_int_rmul_2 _ _) (int_rmul_tuple 1 t l its.toArray n dd sl)
          ⟨ho, rfl, ⟨_, ho, rfl⟩, call_meets F.slot_tuple_mul ⟨_, ho, rfl⟩ F.entry_tuple_mul (F.args_tuple_mul_2 _ _) (mul_one l its.toArray n dd sl t) ⟨ho, ?_⟩⟩)
      exact ⟨.ref l, H, I, rfl, q1 rfl⟩
end PK
namespace PK
open PySem PySem.Spec PyProof.Rows L2 RZ
/-- the second clause's own loop, to Nx -/
def Inner (J1 : It) (g1 : TG) (tt1 : TT) (te : TE) (vs1 : List Nat) (σ2 : L2.St) (D : Addr) (Nx : Hp → Prop) (H4 : Hp) : Prop :=
  ∃ W1 : Nat → Nat → Hp → Prop, (∃ m, W1 0 m H4) ∧ ∀ j k H, W1 j k H →
      (J1.stop j H ∧ Nx H) ∨ (J1.go j H ∧ ∃ Nx1 : Hp → Prop, (∀ H', Nx1 H' → ∃ k', k' < k ∧ W1 (j + 1) k' H') ∧
        ∀ x H', J1.yld j H x H' → g1 x (wipe σ2 vs1) H' fun σ3 H5 => wipe σ3 vs1 = wipe σ2 vs1 ∧ tt1 σ3 H5 fun b H6 =>
        if b = true then te σ3 H6 fun y H7 => ∃ acc, H7 D = some (.lst acc) ∧ acc.length < sizeLine ∧ Nx1 (upd H7 D (.lst (acc ++ [y]))) else Nx1 H6)
section
variable {J J1 : It} {n n1 : Nat} {G G1 : Hp → Prop} {Y Y1 : Nat → Hp → V → Hp → Prop}
theorem inner_it (w : Walk J1 n1 G1 Y1) {g1 : TG} {tt1 : TT} {te : TE} {vs1 : List Nat} {σ2 : L2.St} {D : Addr} {Nx : Hp → Prop} {H4 : Hp}
    (Pv : Nat → Hp → Prop) (h0 : Pv 0 H4) (hG : ∀ j H, j ≤ n1 → Pv j H → G1 H)
    (hs : ∀ j x H H', j < n1 → Pv j H → Y1 j H x H' → g1 x (wipe σ2 vs1) H' fun σ3 H5 => wipe σ3 vs1 = wipe σ2 vs1 ∧ tt1 σ3 H5 fun b H6 =>
        if b = true then te σ3 H6 fun y H7 => ∃ acc, H7 D = some (.lst acc) ∧ acc.length < sizeLine ∧ Pv (j + 1) (upd H7 D (.lst (acc ++ [y]))) else Pv (j + 1) H6)
    (hd : ∀ H, Pv n1 H → Nx H) : Inner J1 g1 tt1 te vs1 σ2 D Nx H4 := by
  refine ⟨fun j m H => m = n1 - j ∧ j ≤ n1 ∧ Pv j H, ⟨n1, rfl, Nat.zero_le _, h0⟩, ?_⟩
  rintro j m H ⟨rfl, hj, p⟩
  have q := hG j H hj p
  by_cases hlt : j < n1
  · exact Or.inr ⟨w.goes j H hlt q, Pv (j + 1), fun H' p' => ⟨n1 - (j + 1), by omega, rfl, hlt, p'⟩, fun x H' y => hs j x H H' hlt p (w.yields j H x H' hlt q y)⟩
  · have e : j = n1 := by omega
    subst e
    exact Or.inl ⟨w.stops H q, hd H p⟩
theorem outer_it (w : Walk J n G Y) {g g1 : TG} {tt tt1 : TT} {wi1 : TI} {te : TE} {vs vs1 : List Nat} {σ : L2.St} {D : Addr} {H1 : Hp} {Qd : Hp → Prop}
    (Pv : Nat → Hp → Prop) (h0 : Pv 0 (upd H1 D (.lst []))) (hG : ∀ i H, i ≤ n → Pv i H → G H)
    (hs : ∀ i x H H', i < n → Pv i H → Y i H x H' → g x (wipe σ vs) H' fun σ2 H2 => wipe σ2 vs = wipe σ vs ∧ tt σ2 H2 fun b H3 =>
      if b = true then wi1 σ2 H3 fun J1 H4 => Inner J1 g1 tt1 te vs1 σ2 D (Pv (i + 1)) H4 else Pv (i + 1) H3)
    (hd : ∀ H, Pv n H → Qd H) :
    ∃ W : Nat → Nat → Hp → Prop, (∃ m, W 0 m (upd H1 D (.lst []))) ∧ ∀ i m H, W i m H →
      (J.stop i H ∧ Qd H) ∨ (J.go i H ∧ ∃ Nx : Hp → Prop, (∀ H', Nx H' → ∃ m', m' < m ∧ W (i + 1) m' H') ∧
        ∀ x H', J.yld i H x H' → g x (wipe σ vs) H' fun σ2 H2 => wipe σ2 vs = wipe σ vs ∧ tt σ2 H2 fun b H3 =>
        if b = true then wi1 σ2 H3 fun J1 H4 => Inner J1 g1 tt1 te vs1 σ2 D Nx H4 else Nx H3) := by
  refine ⟨fun i m H => m = n - i ∧ i ≤ n ∧ Pv i H, ⟨n, rfl, Nat.zero_le _, h0⟩, ?_⟩
  rintro i m H ⟨rfl, hi, p⟩
  have q := hG i H hi p
  by_cases hlt : i < n
  · exact Or.inr ⟨w.goes i H hlt q, Pv (i + 1), fun H' p' => ⟨n - (i + 1), by omega, rfl, hlt, p'⟩, fun x H' y => hs i x H H' hlt p (w.yields i H x H' hlt q y)⟩
  · have e : i = n := by omega
    subst e
    exact Or.inl ⟨w.stops H q, hd H p⟩
end
/-- zip of two tuples of one length -/
theorem walk_zipT {K : PySem.W.Frag} {a b : Addr} {xs ys : List V} {n : Nat} (hn : n = min xs.length ys.length) :
    Walk (ItzT K a b) n (fun H => SqT K H a xs ∧ SqT K H b ys) (YPair (fun i => xs[i]?) (fun i => ys[i]?)) := by
  subst hn
  refine ⟨fun i _ hi q => ?_, fun _ q => ⟨xs, ys, q.1, q.2, by omega⟩, fun i H v H' _ q y => ?_⟩
  · have h1 : i < xs.length := by omega
    have h2 : i < ys.length := by omega
    exact ⟨xs, ys, xs[i], ys[i], q.1, q.2, by simp [h1], by simp [h2]⟩
  · obtain ⟨T, x, z, h1, h2, h3, h4, h5⟩ := y
    exact ⟨T, x, z, h1, h2, h3, h4 xs q.1, h5 ys q.2⟩
theorem pk_zip {X : Cx} (K : PySem.W.Frag) {e e2 : Expr} {ta : TA} {p pos tpos : Pos} {elts : List Expr} {kk : Nat} (hg : Gl X "zip") (hm : X.mg "zip" = none) (ha : PA X [e, e2] ta) (hK : X.K = K := by rfl)
    (hs : starEach [e, e2] X.env = (false, eval e X.env) :: starEach [e2] X.env := by rfl) (hpl : (backTo pos (starEach [e2] X.env)).any (·.1) = false := by rfl) :
    PI X (.Tuple elts kk tpos) (.Call (.Name "zip" p) [e, e2] [] pos) (iZipA K ta) := by
  subst hK; exact pi_zipA hg hm ha hs hpl
end PK
/-! Defs with defaults, called by places and by names. -/
namespace PK
open PySem PySem.Spec PyProof.Rows L2 RZ
/-- a def of the text with defaults dvs -/
abbrev FunDf (K : PySem.W.Frag) (x : Str) (st : Stmt) (dvs : List V) (f : Addr) (fd : FuncData) : Prop := FunD K x x (defArgs st) (defBody st) (defScope st) dvs [] f fd
theorem fund_mk {K : PySem.W.Frag} {x qual : Str} {st : Stmt} {f T : Addr} {oc : Value} {od an : Option Addr} {osl : Array (Option Value)} {kV doc pm cdv ct : Value} {o : Obj} {its : List Value} {n : Nat} {dvs : List V}
    (l : K.lookup f = some ⟨oc, od, .func (PySem.W.fnOf x qual (defArgs st) (defBody st) (defScope st) (.ref T) kV doc pm an cdv ct), osl⟩)
    (c : PySem.W.codeIn K cdv qual = true) (k : PySem.W.keepIn K (.ref f) = true) (lT : K.lookup T = some o) (oT : o.data = .seq its.toArray n) (r : Vals dvs its) (hd : dvs ≠ []) :
    FunD K x qual (defArgs st) (defBody st) (defScope st) dvs [] f (PySem.W.fnOf x qual (defArgs st) (defBody st) (defScope st) (.ref T) kV doc pm an cdv ct) :=
  ⟨⟨oc, od, .ref T, kV, doc, pm, an, cdv, ct, osl, rfl, l, c, Or.inr ⟨hd, T, o, its, n, rfl, lT, oT, r⟩, Or.inl rfl⟩, k⟩
/-- how such a call binds: n values by their places, ks the names of the others -/
def KB (K : PySem.W.Frag) (fd : FuncData) (ps : List Str) (n : Nat) (ks : List Str) (gV : List V → List V → List V) : Prop :=
  ∃ g : List Value → List Value → List Value, KBn K fd ps n ks g gV
theorem kb_of {K : PySem.W.Frag} {x qual : Str} {params : Arguments} {body : List Stmt} {scope : Scope} {dvs : List V} {f : Addr} {fd : FuncData} {ps : List Str}
    (F : FunD K x qual params body scope dvs [] f fd) (n : Nat) (ks : List Str) (g : {α : Type} → List α → List α → List α → List α) (hd : dvs ≠ [])
    (hrel : ∀ {vs ds zs : List V} {us its ws : List Value}, Vals vs us → Vals ds its → Vals zs ws → Vals (g vs ds zs) (g us its ws))
    (h : ∀ (T : Addr) (kV doc pm : Value) (an : Option Addr) (cdv ct : Value) (us its ws : List Value), us.length = n → its.length = dvs.length → ws.length = ks.length →
      (∃ k, bindArgs (PySem.W.fnOf x qual params body scope (.ref T) kV doc pm an cdv ct) ⟨us, ks.zip ws⟩ = seqItems? (.ref T) >>= k ∧ k (some its.toArray) = pure (ps.zip (g us its ws)))) :
    KB K fd ps n ks (fun vs zs => g vs dvs zs) := by
  obtain ⟨oc, od, dV, kV, doc, pm, an, cdv, ct, osl, rfl, lk, hcd, hD, hK⟩ := F.ex
  rcases hD with ⟨e, _⟩ | ⟨_, T, o, its, m, rfl, lT, oT, rT⟩
  · exact absurd e hd
  · refine ⟨fun us ws => g us its ws, fun s us ws X l1 l2 => ?_, fun r1 r2 => hrel r1 rT r2⟩
    obtain ⟨k, e1, e2⟩ := h T kV doc pm an cdv ct us its ws l1 rT.length.symm l2
    refine BindsTo.of_looks fun M => ?_
    rw [e1]
    exact looks_items X lT oT (PySem.W.Looks.of_pure e2)
/-- all are given: no default is looked at -/
theorem kb_all {K : PySem.W.Frag} {x qual : Str} {params : Arguments} {body : List Stmt} {scope : Scope} {dvs : List V} {f : Addr} {fd : FuncData} {ps : List Str}
    (F : FunD K x qual params body scope dvs [] f fd) (n : Nat) (ks : List Str) (g : {α : Type} → List α → List α → List α)
    (hrel : ∀ {vs zs : List V} {us ws : List Value}, Vals vs us → Vals zs ws → Vals (g vs zs) (g us ws))
    (h : ∀ (T kV doc pm : Value) (an : Option Addr) (cdv ct : Value) (us ws : List Value), us.length = n → ws.length = ks.length →
      bindArgs (PySem.W.fnOf x qual params body scope T kV doc pm an cdv ct) ⟨us, ks.zip ws⟩ = pure (ps.zip (g us ws))) :
    KB K fd ps n ks (fun vs zs => g vs zs) := by
  obtain ⟨oc, od, dV, kV, doc, pm, an, cdv, ct, osl, rfl, lk, hcd, hD, hK⟩ := F.ex
  exact ⟨fun us ws => g us ws, fun s us ws X l1 l2 => .of_eq (h dV kV doc pm an cdv ct us ws l1 l2), fun r1 r2 => hrel r1 r2⟩
section
variable {X : Cx} {CX : CXT} {k n : Nat} {f : Addr} {fd : FuncData} {ps ks : List Str} {sp : Sp} {E : XK} {x : Str} {p pos : Pos} {e : Expr} {es : List Expr} {kws : List Keyword} {t tk : TA} {gV : List V → List V → List V}
theorem pe_kb (F : FnOk X.prog X.w X.K X.mg X.base CX k f fd ps sp) (hr : Room k X.A) (hg : Gl X x) (hm : X.mg x = some (.ref f)) (hk : PySem.W.keepIn X.K (.ref f) = true) (hb : KB X.K fd ps n ks gV) (hx : Passes CX X E)
    (ha : PA X (e :: es) t) (hkw : PK X kws tk) (hall : (backToKw pos (keywordEach kws X.env)).all (·.1.isSome) = true := by rfl) (hks : (backToKw pos (keywordEach kws X.env)).filterMap (·.1) = ks := by rfl)
    (hdb : (x == ("__debug__" : Str)) = false := by decide) (he : starEach (e :: es) X.env = (false, eval e X.env) :: starEach es X.env := by rfl)
    (hpl : ((backTo pos (starEach (e :: es) X.env)).any (·.1) || (backToKw pos (keywordEach kws X.env)).any (·.1.isNone)) = false := by rfl) :
    PE X (.Call (.Name x p) (e :: es) kws pos) (tCallN n ks.length sp gV E t tk) := by
  obtain ⟨g, hb⟩ := hb
  exact pe_callN F hr hg hm hk hb hx ha hkw hall hks hdb he hpl
theorem pe_kb0 (F : FnOk X.prog X.w X.K X.mg X.base CX k f fd ps sp) (hr : Room k X.A) (hg : Gl X x) (hm : X.mg x = some (.ref f)) (hk : PySem.W.keepIn X.K (.ref f) = true) (hb : KB X.K fd ps n ks gV) (hx : Passes CX X E)
    (hkw : PK X kws tk) (hall : (backToKw pos (keywordEach kws X.env)).all (·.1.isSome) = true := by rfl) (hks : (backToKw pos (keywordEach kws X.env)).filterMap (·.1) = ks := by rfl)
    (hdb : (x == ("__debug__" : Str)) = false := by decide)
    (hpl : ((backTo pos (starEach [] X.env)).any (·.1) || (backToKw pos (keywordEach kws X.env)).any (·.1.isNone)) = false := by rfl) :
    PE X (.Call (.Name x p) [] kws pos) (tCallN n ks.length sp gV E tNil tk) := by
  obtain ⟨g, hb⟩ := hb
  refine ⟨fun pins s σ H Q I h => wpAny_Call_Name_kw (ld_glob I hg hm ?_ hdb)⟩
  refine PySem.W.callWith_KW0 (h₀ := X.base) I.ok.mod.kin hk hall (thn (hkw.run pos pins s σ H _ I h) ?_) hpl
  rintro ws s2 ⟨zs, H2, J, rz, l1, l2, q⟩
  refine ⟨J.kIn, ?_⟩
  rw [hks]
  exact run_fnN (us := []) F hr hb hx J .nil rz l1 l2 q
end
structure CalD (P : Program) (w : World) (K : PySem.W.Frag) (mg : Str → Option Value) (base : Heap) (k : Nat) (x : Str) (f : Addr)
    (fd : FuncData) (ps : List Str) (sp : Sp) : Prop where
  ok : FnOk P w K mg base CX0 k f fd ps sp
  g : mg x = some (.ref f)
  kp : PySem.W.keepIn K (.ref f) = true
/-! ### lengths of choices -/
theorem choices_len : ∀ ls : List Nat, ∀ c ∈ choicesM ls, c.length = ls.length := by
  refine snocInd (P := fun ls => ∀ c ∈ choicesM ls, c.length = ls.length) (fun c hc => ?_) ?_
  · have e : c = [] := by simpa [choicesM] using hc
    subst e
    rfl
  · intro ls L ih c hc
    have e : choicesM (ls ++ [L]) = grow (choicesM ls) L := by
      unfold choicesM
      rw [List.foldl_append]
      rfl
    rw [e] at hc
    unfold grow at hc
    obtain ⟨d, hd, hc⟩ := List.mem_flatMap.mp hc
    obtain ⟨p, _, rfl⟩ := List.mem_map.mp hc
    rw [List.length_append, List.length_append, ih d hd]
    rfl
theorem choices_in : ∀ ls : List Nat, ∀ c ∈ choicesM ls, ∀ (i : Nat) (p : Int), c[i]? = some p → ∃ L, ls[i]? = some L ∧ 0 ≤ p ∧ p < (L : Int) := by
  refine snocInd (P := fun ls => ∀ c ∈ choicesM ls, ∀ (i : Nat) (p : Int), c[i]? = some p → ∃ L, ls[i]? = some L ∧ 0 ≤ p ∧ p < (L : Int)) (fun c hc i p h => ?_) ?_
  · have e : c = [] := by simpa [choicesM] using hc
    rw [e] at h
    simp at h
  · intro ls L ih c hc i p h
    have e : choicesM (ls ++ [L]) = grow (choicesM ls) L := by
      unfold choicesM
      rw [List.foldl_append]
      rfl
    rw [e] at hc
    unfold grow at hc
    obtain ⟨d, hd, hc⟩ := List.mem_flatMap.mp hc
    obtain ⟨q, hq, rfl⟩ := List.mem_map.mp hc
    have ld := choices_len ls d hd
    by_cases hi : i < d.length
    · rw [List.getElem?_append_left hi] at h
      obtain ⟨M, hM, h0, h1⟩ := ih d hd i p h
      exact ⟨M, by rw [List.getElem?_append_left (by omega)]; exact hM, h0, h1⟩
    · rw [List.getElem?_append_right (by omega)] at h
      have hi2 : i - d.length = 0 := by
        have := (List.getElem?_eq_some_iff.mp h).1
        simp at this
        omega
      rw [hi2] at h
      have ep : (q : Int) = p := by simpa using h
      have hq' := List.mem_range.mp hq
      refine ⟨L, ?_, by omega, by omega⟩
      rw [List.getElem?_append_right (by omega)]
      have : i - ls.length = 0 := by omega
      rw [this]
      rfl
theorem total_le {ls : List Nat} {k : Nat} (h : ∀ L ∈ ls, L ≤ k) (hk : 1 ≤ k) : total ls ≤ k ^ ls.length := by
  revert h
  refine snocInd (P := fun ls => (∀ L ∈ ls, L ≤ k) → total ls ≤ k ^ ls.length) (fun _ => Nat.le_refl 1) ?_ ls
  intro ls L ih h
  rw [total_snoc, List.length_append]
  show total ls * L ≤ k ^ (ls.length + 1)
  rw [Nat.pow_succ]
  exact Nat.mul_le_mul (ih fun x hx => h x (by simp [hx])) (h L (by simp))
theorem choices_count (ls : List Nat) (h : ∀ L ∈ ls, 0 < L) : (choicesM ls).length = total ls := by
  rw [← counted_choices ls h, List.length_map, List.length_range]
theorem SheetOk.mono {a b c d : Nat} {x : Sheet} (h : SheetOk a b x) (h1 : a ≤ c) (h2 : b ≤ d) : SheetOk c d x :=
  ⟨Nat.le_trans h.len h1, fun r hr => ⟨(h.each r hr).some, (h.each r hr).len, fun w hw => ⟨Nat.le_trans ((h.each r hr).each w hw).len h2, ((h.each r hr).each w hw).each⟩⟩⟩
/-- the rule for a def that shows things and lets no exception out -/
theorem funG_ok {P : Program} {w : World} {K : PySem.W.Frag} {mg : Str → Option Value} {base : Heap} {k : Nat} {f : Addr} {fd : FuncData}
    {x qual : Str} {st : Stmt} {N ps : List Str} {sp : Sp} (F : Fun K x qual st f fd) (S : FnScope N ps (defScope st))
    (len : ∀ vs H Q E, sp vs H Q E → vs.length = ps.length)
    (hbody : ∀ (cdv : Value) (A : Around) (outer : List Env) (s : Shared) (H : Hp) (vs : List V) (Q : VK) (E : XK), A.guards = some [] →
      Room k (A.deeper (envOfC qual (defScope st) s.heap.objs.size f cdv)) → sp vs H Q E →
      ∃ t, PSs (cxOf CX0 P w K mg base N qual (defScope st) f cdv A outer s H E).nox (defBody st) t ∧
        t { nx := fun _ H' => Q .non H', rt := Q } (start N vs) H) : FnG P w K mg base CX0 (k + 1) f fd ps sp :=
  fnG_of F S len fun cdv A outer s H vs Q E hg hr h => by
    obtain ⟨t, ht, hq⟩ := hbody cdv A outer s H vs Q E hg hr h
    exact ⟨t, ht.nox, hq⟩
end PK
/-! The order of data; sorted and min of data; sorted of a dict with tuple keys. -/
namespace PK
open PySem PySem.Spec PyProof.Rows L2
/-! ### the order -/
abbrev dlt : PyData → PyData → Bool := PySem.W.dataLt
mutual
theorem eqv_eq : ∀ (x y : PyData), PySem.W.alike x y = true → PyData.eqv x y = true → x = y
  | .none, y, h, e => by cases y <;> simp [PySem.W.alike] at h <;> rfl
  | .bool _, y, h, e => by cases y <;> simp [PySem.W.alike] at h; simpa [PyData.eqv] using e
  | .int _, y, h, e => by cases y <;> simp [PySem.W.alike] at h; simpa [PyData.eqv] using e
  | .str _, y, h, e => by cases y <;> simp [PySem.W.alike] at h; simpa [PyData.eqv] using e
  | .list xs, y, h, e => by
    cases y with
    | list ys => rw [eqvAll_eq xs ys (by simpa [PySem.W.alike] using h) (by simpa [PyData.eqv] using e)]
    | _ => simp [PySem.W.alike] at h
  | .tuple xs, y, h, e => by
    cases y with
    | tuple ys => rw [eqvAll_eq xs ys (by simpa [PySem.W.alike] using h) (by simpa [PyData.eqv] using e)]
    | _ => simp [PySem.W.alike] at h
  | .dict _, y, h, e => by cases y <;> simp [PySem.W.alike] at h
theorem eqvAll_eq : ∀ (xs ys : List PyData), PySem.W.alikeAll xs ys = true → PyData.eqvAll xs ys = true → xs = ys
  | [], [], _, _ => rfl
  | [], _ :: _, _, e => by simp [PyData.eqvAll] at e
  | _ :: _, [], _, e => by simp [PyData.eqvAll] at e
  | x :: xs, y :: ys, h, e => by
    obtain ⟨h1, h2⟩ := PySem.W.alike_all_cons h
    rw [PySem.W.eqv_all_cons, Bool.and_eq_true] at e
    rw [eqv_eq x y h1 e.1, eqvAll_eq xs ys h2 e.2]
end
mutual
theorem eqv_refl : ∀ (x : PyData), flatT x = true → PyData.eqv x x = true
  | .none, _ => by simp [PyData.eqv]
  | .bool _, _ => by simp [PyData.eqv]
  | .int _, _ => by simp [PyData.eqv]
  | .str _, _ => by simp [PyData.eqv]
  | .list _, h => by simp [flatT] at h
  | .dict _, h => by simp [flatT] at h
  | .tuple xs, h => by
    rw [PyData.eqv]
    exact eqvAll_refl xs (by simpa [flatT] using h)
theorem eqvAll_refl : ∀ (xs : List PyData), flatTs xs = true → PyData.eqvAll xs xs = true
  | [], _ => by simp [PyData.eqvAll]
  | x :: xs, h => by
    have h' : flatT x = true ∧ flatTs xs = true := by simpa [flatTs] using h
    rw [PySem.W.eqv_all_cons, eqv_refl x h'.1, eqvAll_refl xs h'.2]
    rfl
end
theorem eqv_false {x y : PyData} (h : PySem.W.alike x y = true) (e : x ≠ y) : PyData.eqv x y = false := by
  cases q : PyData.eqv x y with
  | false => rfl
  | true => exact absurd (eqv_eq x y h q) e
theorem dlt_irr (x : PyData) : dlt x x = false := PyProof.Rows.lex_irrefl _
theorem dlt_tr {x y z : PyData} (h1 : dlt x y = true) (h2 : dlt y z = true) : dlt x z = true := PyProof.Rows.lex_trans _ _ _ h1 h2
theorem dlt_asym {x y : PyData} (h : dlt x y = true) : dlt y x = false := by
  cases q : dlt y x with
  | false => rfl
  | true =>
    have := dlt_tr h q
    rw [dlt_irr] at this
    cases this
theorem dlt_split {x z : PyData} (y : PyData) (h : dlt x z = true) : dlt x y = true ∨ dlt y z = true := PyProof.Rows.lex_negTrans _ _ _ h
theorem dlt_tot {x y : PyData} (h : PySem.W.alike x y = true) (e : x ≠ y) : dlt x y = true ∨ dlt y x = true := by
  cases q1 : dlt x y with
  | true => exact Or.inl rfl
  | false =>
    cases q2 : dlt y x with
    | true => exact Or.inr rfl
    | false =>
      have et := PyProof.Rows.lex_total _ _ q1 q2
      have f := (PySem.W.toks_eqv x y h).2 (eqv_false h e) [.inl 0] [.inl 1]
      rw [et, PySem.W.lex_pre, PyProof.Rows.lex_irrefl] at f
      exact absurd f (by decide)
/-- rising -/
def Rises (ds : List PyData) : Prop := ds.Pairwise fun x y => dlt x y = true
theorem rises_ext : ∀ {xs ys : List PyData}, Rises xs → Rises ys → (∀ d, d ∈ xs ↔ d ∈ ys) → xs = ys
  | [], [], _, _, _ => rfl
  | [], y :: _, _, _, h => nomatch (h y).mpr List.mem_cons_self
  | x :: _, [], _, _, h => nomatch (h x).mp List.mem_cons_self
  | x :: xs, y :: ys, h1, h2, h => by
    obtain ⟨a1, a2⟩ := List.pairwise_cons.mp h1
    obtain ⟨b1, b2⟩ := List.pairwise_cons.mp h2
    have e : x = y := by
      rcases List.mem_cons.mp ((h x).mp List.mem_cons_self) with q | q
      · exact q
      · rcases List.mem_cons.mp ((h y).mpr List.mem_cons_self) with q2 | q2
        · exact q2.symm
        · have c1 := b1 x q
          have c2 := dlt_asym (a1 y q2)
          rw [c1] at c2
          cases c2
    subst e
    have nx : x ∉ xs := fun q => by
      have := a1 x q
      rw [dlt_irr] at this
      cases this
    have ny : x ∉ ys := fun q => by
      have := b1 x q
      rw [dlt_irr] at this
      cases this
    rw [rises_ext a2 b2 fun d => ⟨fun hd => ?_, fun hd => ?_⟩]
    · rcases List.mem_cons.mp ((h d).mp (List.mem_cons_of_mem _ hd)) with q | q
      · subst q
        exact absurd hd nx
      · exact q
    · rcases List.mem_cons.mp ((h d).mpr (List.mem_cons_of_mem _ hd)) with q | q
      · subst q
        exact absurd hd ny
      · exact q
/-! ### sorted -/
def srt {α : Type} (rev : Bool) (k : α → PyData) (bs : List α) : List α := bs.mergeSort (PySem.W.dataLe rev k)
theorem srt_perm {α : Type} (rev : Bool) (k : α → PyData) (bs : List α) : (srt rev k bs).Perm bs := List.mergeSort_perm _ _
theorem srt_up {α : Type} (k : α → PyData) (bs : List α) : (srt false k bs).Pairwise fun x y => dlt (k y) (k x) = false := by
  have tr : ∀ a b c : α, PySem.W.dataLe false k a b = true → PySem.W.dataLe false k b c = true → PySem.W.dataLe false k a c = true := by
    intro a b c h1 h2
    rw [PySem.W.dataLe_eq] at h1 h2 ⊢
    simp only [cond_false, Bool.not_eq_true'] at h1 h2 ⊢
    cases q : PySem.W.dataLt (k c) (k a) with
    | false => rfl
    | true =>
      rcases dlt_split (k b) q with z | z
      · rw [show PySem.W.dataLt (k c) (k b) = true from z] at h2
        cases h2
      · rw [show PySem.W.dataLt (k b) (k a) = true from z] at h1
        cases h1
  have tot : ∀ a b : α, (PySem.W.dataLe false k a b || PySem.W.dataLe false k b a) = true := by
    intro a b
    rw [PySem.W.dataLe_eq]
    simp only [cond_false]
    cases q : PySem.W.dataLt (k b) (k a) with
    | false => rfl
    | true =>
      have := dlt_asym q
      rw [show PySem.W.dataLt (k a) (k b) = false from this]
      rfl
  refine (List.pairwise_mergeSort tr tot bs).imp fun {a b} h => ?_
  rw [PySem.W.dataLe_eq] at h
  simpa using h
/-- alike, all different: strictly rising -/
theorem srt_rises {α : Type} {k : α → PyData} {bs : List α} (ha : PySem.W.AllAlike (bs.map k)) (hn : (bs.map k).Nodup) : Rises ((srt false k bs).map k) := by
  have p := (srt_perm false k bs).map k
  have hn' : ((srt false k bs).map k).Nodup := p.nodup_iff.mpr hn
  have up : ((srt false k bs).map k).Pairwise fun x y => dlt y x = false := List.pairwise_map.mpr (srt_up k bs)
  have ha' : PySem.W.AllAlike ((srt false k bs).map k) := fun d hd e he => ha d (p.mem_iff.mp hd) e (p.mem_iff.mp he)
  generalize (srt false k bs).map k = ds at hn' up ha'
  have both : ds.Pairwise fun x y => x ≠ y ∧ dlt y x = false := by
    have := hn'
    unfold List.Nodup at this
    exact List.pairwise_and_iff.mpr ⟨this, up⟩
  clear up hn'
  unfold Rises
  induction ds with
  | nil => exact List.Pairwise.nil
  | cons d ds ih =>
    obtain ⟨h1, h2⟩ := List.pairwise_cons.mp both
    refine List.pairwise_cons.mpr ⟨fun e he => ?_, ih (fun a h b h' => ha' a (List.mem_cons_of_mem _ h) b (List.mem_cons_of_mem _ h')) h2⟩
    obtain ⟨q1, q2⟩ := h1 e he
    rcases dlt_tot (ha' d List.mem_cons_self e (List.mem_cons_of_mem _ he)) q1 with z | z
    · exact z
    · rw [z] at q2
      cases q2
/-! ### the rules -/
structure Cmpb (ds : List PyData) : Prop where
  al : PySem.W.AllAlike ds
  so : PySem.W.Sortable ds
  dp : ∀ d ∈ ds, d.depth ≤ 90
theorem dp_pairs {K : PySem.W.Frag} {H : Hp} : ∀ {bs : List (V × PyData)}, (∀ b ∈ bs, Dp K H b.1 b.2) → DpAll K H (bs.map (·.1)) (bs.map (·.2))
  | [], _ => .nil
  | b :: bs, h => .cons (h b List.mem_cons_self) (dp_pairs fun c hc => h c (List.mem_cons_of_mem _ hc))
theorem dp_zip {K : PySem.W.Frag} {H : Hp} : ∀ {xs : List V} {ds : List PyData}, DpAll K H xs ds → (∀ b ∈ xs.zip ds, Dp K H b.1 b.2) ∧ (xs.zip ds).map (·.1) = xs ∧ (xs.zip ds).map (·.2) = ds
  | _, _, .nil => ⟨fun _ h => (nomatch h), rfl, rfl⟩
  | x :: xs, d :: ds, .cons h1 h2 => by
    obtain ⟨a, b, c⟩ := dp_zip h2
    refine ⟨fun p hp => ?_, ?_, ?_⟩
    · rcases List.mem_cons.mp hp with rfl | q
      · exact h1
      · exact a p q
    · show x :: (xs.zip ds).map (·.1) = _
      rw [b]
    · show d :: (xs.zip ds).map (·.2) = _
      rw [c]
theorem each_vals {bs : List (V × PyData)} : ∀ {us : List Value}, Vals (bs.map (·.1)) us → PySem.W.EachIs (fun v b => RelV b.1 v) us bs := by
  induction bs with
  | nil =>
    intro us r
    cases r
    exact .nil
  | cons b bs ih =>
    intro us r
    cases r with
    | cons r1 r2 => exact .cons r1 (ih r2)
theorem vals_each {bs : List (V × PyData)} : ∀ {us : List Value}, PySem.W.EachIs (fun v b => RelV b.1 v) us bs → Vals (bs.map (·.1)) us
  | _, .nil => .nil
  | _, .cons r1 r2 => .cons r1 (vals_each r2)
theorem each_reads {X : Cx} {pins : List (Addr × Obj)} {σ : L2.St} {H : Hp} {s : Shared} (I : Inv X pins σ H s) : ∀ {bs : List (V × PyData)} {us : List Value}, PySem.W.EachIs (fun v b => RelV b.1 v) us bs → (∀ b ∈ bs, Dp X.K H b.1 b.2) →
    PySem.W.EachIs (fun v (b : V × PyData) => ∃ as, Reads s.heap v b.2 as) us bs
  | _, _, .nil, _ => .nil
  | _, _, .cons r1 r2, h => .cons (Dp.reads I _ _ _ (h _ List.mem_cons_self) r1) (each_reads I r2 fun b hb => h b (List.mem_cons_of_mem _ hb))
theorem vals_back : ∀ {xs : List V} {us : List Value} {i : Nat} {u : Value}, Vals xs us → us[i]? = some u → ∃ x, xs[i]? = some x ∧ RelV x u
  | _, _, _, _, .nil, h => by simp at h
  | x :: _, _, 0, u, .cons r _, h => ⟨x, rfl, by
    have e := Option.some.inj h
    rw [← e]; exact r⟩
  | _, _, i + 1, _, .cons _ r, h => by
    obtain ⟨x, e, q⟩ := vals_back (i := i) r (by simpa using h)
    exact ⟨x, by simpa using e, q⟩
section
variable {X : Cx}
/-- sorted(xs) of a list of data -/
def rSrt (K : PySem.W.Frag) : List V → Hp → VK → Prop := fun vs H Q => ∃ (a : Addr) (xs : List V) (ds : List PyData), vs = [.ref a] ∧ SqL K H a xs ∧ DpAll K H xs ds ∧ Cmpb ds ∧ xs.length ≤ sizeLine ∧
  ∀ p, H p = none → Q (.ref p) (upd H p (.lst ((srt false (·.2) (xs.zip ds)).map (·.1))))
theorem call_srt {k : Nat} (hr : Room k X.A) : CallR X (.builtin "sorted") (rSrt X.K) := by
  intro pins s σ H vs us Q I r h
  obtain ⟨a, xs, ds, rfl, hs, hd, hc, hz, q⟩ := h
  obtain ⟨its, rv, hl, _⟩ := I.list hs
  rw [Vals.ref1 r]
  obtain ⟨z1, z2, z3⟩ := dp_zip hd
  have e : PySem.W.EachIs (fun v (b : V × PyData) => RelV b.1 v) its (xs.zip ds) := each_vals (by rw [z2]; exact rv)
  have er := each_reads I e z1
  have hu := hr.un
  have lz : (xs.zip ds).length ≤ sizeLine := by
    have := congrArg List.length z2
    rw [List.length_map] at this
    omega
  refine PySem.W.sorted_data (enc := fun b : V × PyData => b.2) hl.isList e er (by rw [z3]; exact hc.al) (by rw [z3]; exact hc.so) lz (fun b hb => ?_) fun out lo eo => ?_
  · have := hc.dp b.2 (by rw [← z3]; exact List.mem_map.mpr ⟨b, hb, rfl⟩)
    omega
  · obtain ⟨ep, he'⟩ := PyProof.Rows.sortedAll_at s.heap its (List.toArray out)
    refine ⟨.ref _, upd H (s.heap.objs.size + 1) (.lst ((srt false (·.2) (xs.zip ds)).map (·.1))), I.laid (t' := s.toks) (fun _ _ => PyProof.Rows.sortedAll_old) (Nat.le_succ _) ⟨?_, out, ep, vals_each eo, he'⟩, rfl, q _ (I.hok.fresh (Nat.le_succ _))⟩
    rw [List.length_map, (srt_perm _ _ _).length_eq]
    exact lz
/-- min(xs) of a list of data -/
def rMinDt (K : PySem.W.Frag) : List V → Hp → VK → Prop := fun vs H Q => ∃ (a : Addr) (xs : List V) (d : PyData) (ds : List PyData), vs = [.ref a] ∧ SqL K H a xs ∧ DpAll K H xs (d :: ds) ∧ PySem.W.AlikeAll (d :: ds) ∧ (∀ e ∈ d :: ds, e.depth ≤ 90) ∧
  ∀ (i : Nat) (x : V), xs[i]? = some x → Dp K H x (PySem.W.minD d ds) → Q x H
theorem depthAll_le {n : Nat} : ∀ {ds : List PyData}, (∀ d ∈ ds, d.depth ≤ n) → PyData.depthAll ds ≤ n
  | [], _ => Nat.zero_le _
  | d :: ds, h => Nat.max_le.mpr ⟨h d List.mem_cons_self, depthAll_le fun e he => h e (List.mem_cons_of_mem _ he)⟩
theorem minD_at : ∀ (ds : List PyData) (d : PyData), (PySem.W.minD d ds = d ∨ PySem.W.minD d ds ∈ ds) ∧ dlt d (PySem.W.minD d ds) = false ∧ ∀ e ∈ ds, dlt e (PySem.W.minD d ds) = false
  | [], d => ⟨Or.inl rfl, dlt_irr d, fun _ h => (nomatch h)⟩
  | e :: ds, d => by
    show (PySem.W.minD (if dlt e d then e else d) ds = d ∨ _) ∧ _
    have ee : PySem.W.minD d (e :: ds) = PySem.W.minD (if dlt e d then e else d) ds := rfl
    rw [ee]
    cases q : dlt e d with
    | true =>
      obtain ⟨h1, h2, h3⟩ := minD_at ds e
      refine ⟨Or.inr ?_, ?_, fun f hf => ?_⟩
      · rcases h1 with z | z
        · show PySem.W.minD e ds ∈ _
          rw [z]; exact List.mem_cons_self
        · exact List.mem_cons_of_mem _ z
      · show dlt d (PySem.W.minD e ds) = false
        cases z : dlt d (PySem.W.minD e ds) with
        | false => rfl
        | true =>
          have := dlt_tr q z
          rw [h2] at this
          cases this
      · rcases List.mem_cons.mp hf with rfl | hf
        · exact h2
        · exact h3 f hf
    | false =>
      obtain ⟨h1, h2, h3⟩ := minD_at ds d
      refine ⟨?_, h2, fun f hf => ?_⟩
      · rcases h1 with z | z
        · exact Or.inl z
        · exact Or.inr (List.mem_cons_of_mem _ z)
      · rcases List.mem_cons.mp hf with rfl | hf
        · show dlt f (PySem.W.minD d ds) = false
          cases z : dlt f (PySem.W.minD d ds) with
          | false => rfl
          | true =>
            rcases dlt_split d z with y | y
            · rw [q] at y; cases y
            · rw [h2] at y; cases y
        · exact h3 f hf
theorem call_minDt {k : Nat} (hc : X.calm = true) (hr : Room k X.A) : CallR X (.builtin "min") (rMinDt X.K) := by
  intro pins s σ H vs us Q I r h
  obtain ⟨a, xs, d, ds, rfl, hs, hd, ha, hdp, q⟩ := h
  obtain ⟨its, rv, hl, _⟩ := I.list hs
  rw [Vals.ref1 r]
  obtain ⟨as, hR⟩ := Dp.readsAll I _ _ _ hd rv
  have hu := hr.un
  have hdd := depthAll_le hdp
  refine PySem.W.min_list_data (vs := its.toArray) (I.ok.hd hc) hl.isList (by simpa using hR) ha (by omega) fun i v h' tk bs hv rd hk => ?_
  have hv' : its[i]? = some v := by simpa using hv
  obtain ⟨x, hx, rx⟩ : ∃ x, xs[i]? = some x ∧ RelV x v := vals_back rv hv'
  refine ⟨x, H, I.kept hk, rx, q i x hx ?_⟩
  obtain ⟨e, he, de⟩ := DpAll.getV hd hx
  obtain ⟨as2, re⟩ := Dp.reads (I.kept (t' := tk) hk) _ _ _ de rx
  obtain ⟨m1, _⟩ := minD_at ds d
  have mm : PySem.W.minD d ds ∈ d :: ds := by
    rcases m1 with z | z
    · rw [z]; exact List.mem_cons_self
    · exact List.mem_cons_of_mem _ z
  have ee := PySem.W.alike_unique _ _ _ _ _ (ha.1 e (List.mem_of_getElem? he) _ mm) re rd
  rw [← ee]
  exact de
/-! ### a dict with tuple keys -/
def kD : Key → PyData
  | .inl i => .int i
  | .inr x => .str x
theorem dp_key {K : PySem.W.Frag} {H : Hp} : ∀ k : Key, Dp K H (kV k) (kD k)
  | .inl i => .int i
  | .inr x => .str x
theorem dp_keys {K : PySem.W.Frag} {H : Hp} : ∀ ks : List Key, DpAll K H (ks.map kV) (ks.map kD)
  | [] => .nil
  | k :: ks => .cons (dp_key k) (dp_keys ks)
abbrev tkD (k : List Key) : PyData := .tuple (k.map kD)
/-- sorted(d) of a dict whose keys are tuples -/
def rSrtT : List V → Hp → VK → Prop := fun vs H Q => ∃ (a : Addr) (kvs : List (List Key × V)), vs = [.ref a] ∧ Rd H a (.dT kvs) ∧ Cmpb (kvs.map fun p => tkD p.1) ∧
  ∀ (p : Addr) (L : List (V × PyData)), H p = none → (∃ bs : List Addr, IsKeys H kvs bs ∧ L = srt false (·.2) ((bs.map V.ref).zip (kvs.map fun p => tkD p.1))) → Q (.ref p) (upd H p (.lst (L.map (·.1))))
theorem keys_dp {K : PySem.W.Frag} {H : Hp} : ∀ {kvs : List (List Key × V)} {bs : List Addr}, IsKeys H kvs bs → DpAll K H (bs.map V.ref) (kvs.map fun p => tkD p.1)
  | _, _, .nil => .nil
  | p :: _, b :: _, .cons h t => .cons (.tup (SqT.of h) (dp_keys p.1)) (keys_dp t)
theorem call_srtT {k : Nat} (hcalm : X.calm = true) (hr : Room k X.A) : CallR X (.builtin "sorted") rSrtT := by
  intro pins s σ H xs us Q I r h
  obtain ⟨a, kvs, rfl, hd, hc, q⟩ := h
  rw [Vals.ref1 r]
  obtain ⟨z, hs, ks, pr, o, es, ep, ho, hx, hdt, he, hn⟩ := (show ObjOk X.prog X.w H s.heap a (.dT kvs) from hd.ok I.hok)
  have l1 : es.size = ks.length := size_of_entries he
  have l2 : kvs.length = ks.length := Paired.length pr
  have hu := hr.un
  refine Calls.call_function_entry PyProof.Rows.kind_sorted PyProof.Rows.plain_sorted PyProof.Rows.entry_sorted (PyProof.Rows.args_sorted1 _) ?_
  unfold Builtin.«sorted»
  refine wpAny_bind (m := checkCount "sorted" 1 1 _) (wpAny_pure ?_)
  refine wpAny_bind (PySem.W.kdu_collect (A := X.A.in1) (kdl_raw hs hx hdt) (I.ok.hd hcalm) ho (by omega) fun h' tk acc' kp it => ?_)
  have ea : acc'.toList = ks.map fun x => Value.ref x.2.1 := items_out (by rw [List.length_map, ← l1]; exact it) fun j v => by
    rintro ⟨en, hen, rfl⟩
    obtain ⟨b, hb, e2⟩ := Option.map_eq_some_iff.mp ((entry_at he j).symm.trans hen)
    rw [List.getElem?_map, hb, ← e2]
    rfl
  have eb : acc'.toList = (ks.map fun x => x.2.1).map Value.ref := by rw [ea, List.map_map]; all_goals rfl
  have rv : Vals ((ks.map fun x => x.2.1).map V.ref) acc'.toList := by rw [eb]; exact vals_refs _
  have ik := isKeys_of pr
  have hdp : DpAll X.K H ((ks.map fun x => x.2.1).map V.ref) (kvs.map fun p => tkD p.1) := keys_dp ik
  obtain ⟨z1, z2, z3⟩ := dp_zip hdp
  have I1 : Inv X pins σ H { s with heap := h', toks := tk } := I.kept kp
  have hal : acc'.toList.length = ks.length := by rw [Array.length_toList, it.1]; exact l1
  refine wpAny_bind (wpAny_newList ?_ (by omega))
  have hoL : (h'.push (seqObj "list" acc'.toList.toArray 0)).get? h'.objs.size = some (seqObj "list" acc'.toList.toArray 0) := Heap.get?_push_size _ rfl
  show wpAny _ _ _ _ _ { s with heap := h'.push (seqObj "list" acc'.toList.toArray 0), toks := tk }
  have e : PySem.W.EachIs (fun v (b : V × PyData) => RelV b.1 v) acc'.toList (((ks.map fun x => x.2.1).map V.ref).zip (kvs.map fun p => tkD p.1)) := each_vals (by rw [z2]; exact rv)
  have er := each_reads I1 e z1
  generalize hB : ((ks.map fun x => x.2.1).map V.ref).zip (kvs.map fun p => tkD p.1) = B at z1 z2 z3 e er
  have al : PySem.W.AllAlike (B.map fun b : V × PyData => b.2) := by rw [z3]; exact hc.al
  have so : PySem.W.Sortable (B.map fun b : V × PyData => b.2) := by rw [z3]; exact hc.so
  have er' : PySem.W.EachIs (fun v (b : V × PyData) => ∃ as, Reads (PySem.W.sortingHeap (h'.push (seqObj "list" acc'.toList.toArray 0)) h'.objs.size acc'.toList) v b.2 as) acc'.toList B :=
    er.mono fun v b ⟨as, rd⟩ => ⟨as, PyProof.Rows.Reads.keeps (fun b o eo => PySem.W.sortingHeap_old (Nat.ne_of_lt (Heap.lt_size eo)) (Heap.get?_push_of_some _ eo)) rd⟩
  refine wpAny_bind (wpAny_holding (wpAny_call_entry PyProof.Rows.slot_list_sort ⟨_, hoL, rfl⟩ PyProof.Rows.entry_list_sort
    (PySem.W.list_sort_vals (κ := PySem.W.dataKind (PySem.W.sortingHeap (h'.push (seqObj "list" acc'.toList.toArray 0)) h'.objs.size acc'.toList) (B.map fun b : V × PyData => b.2)) (s := { s with heap := h'.push (seqObj "list" acc'.toList.toArray 0), toks := tk }) hoL
      (PySem.W.SortsAt.data (s := { s with heap := PySem.W.sortingHeap (h'.push (seqObj "list" acc'.toList.toArray 0)) h'.objs.size acc'.toList, toks := tk })
        (PySem.W.each_map (R := fun v d => ∃ as, Reads (PySem.W.sortingHeap (h'.push (seqObj "list" acc'.toList.toArray 0)) h'.objs.size acc'.toList) v d as) (fun b : V × PyData => b.2) er') al so
        (PySem.W.bound_map fun b hb => by
          have := hc.dp b.2 (by rw [← z3]; exact List.mem_map.mpr ⟨b, hb, rfl⟩)
          show X.A.units + 2 + _ < _
          omega)) (by omega) ⟨_, rfl, ?_⟩)
    (PyProof.Rows.args_list_sort _)))
  have eo := PySem.W.sortVals_data (enc := fun b : V × PyData => b.2) false e er' al
  have lo : (PySem.W.sortVals (PySem.W.dataKind (PySem.W.sortingHeap (h'.push (seqObj "list" acc'.toList.toArray 0)) h'.objs.size acc'.toList) (B.map fun b : V × PyData => b.2)) false acc'.toList acc'.toList).length = acc'.toList.length := PySem.W.sortVals_length false rfl
  generalize PySem.W.sortVals (PySem.W.dataKind (PySem.W.sortingHeap (h'.push (seqObj "list" acc'.toList.toArray 0)) h'.objs.size acc'.toList) (B.map fun b : V × PyData => b.2)) false acc'.toList acc'.toList = out at eo lo
  obtain ⟨e', he'⟩ := PyProof.Rows.sortedHeap_at (vs := acc'.toList) (out := out.toArray) hoL
  refine wpAny_pure ⟨_, rfl, .ref h'.objs.size, upd H h'.objs.size (.lst ((srt false (·.2) B).map (·.1))), I1.laid (t' := tk) (fun b u e => ?_) (Nat.le_refl _)
    (show ObjOk X.prog X.w _ _ _ (.lst ((srt false (·.2) B).map (·.1))) from ⟨?_, out, e', vals_each eo, he'⟩), rfl, q _ _ (I1.hok.fresh (Nat.le_refl _)) ⟨_, ik, by rw [hB]⟩⟩
  · have hb : b < h'.objs.size := Heap.lt_size e
    rw [PyProof.Rows.sortedHeap_old (Nat.ne_of_lt hb) (by rw [size_push']; exact Nat.lt_succ_of_lt hb)]
    exact Heap.get?_push_of_some _ e
  · have := (vals_each eo).length
    unfold srt
    rw [this]
    omega
end
end PK
/-! Part rows: their sums, rising, each part once. -/
namespace PK
open PySem PySem.Spec PyProof.Rows L2
abbrev PKey := Str × Str
abbrev PRow := Str × Str × Int
def pk (r : PRow) : PKey := (r.1, r.2.1)
def pkD (k : PKey) : PyData := .tuple [.str k.1, .str k.2]
def prowD (r : PRow) : PyData := .tuple [.str r.1, .str r.2.1, .int r.2.2]
def rowsD (L : List PRow) : PyData := .tuple (L.map prowD)
theorem flat_pk (k : PKey) : flatT (pkD k) = true := rfl
theorem flat_prow (r : PRow) : flatT (prowD r) = true := rfl
theorem flatTs_map {α : Type} {f : α → PyData} (h : ∀ a, flatT (f a) = true) : ∀ l : List α, flatTs (l.map f) = true
  | [] => rfl
  | a :: l => by
    show (flatT (f a) && flatTs (l.map f)) = true
    rw [h a, flatTs_map h l]
    rfl
theorem flat_rows (L : List PRow) : flatT (rowsD L) = true := by
  show flatTs (L.map prowD) = true
  exact flatTs_map flat_prow L
theorem pkD_inj {a b : PKey} (h : pkD a = pkD b) : a = b := by
  unfold pkD at h
  injection h with h
  injection h with h1 h2
  injection h1 with h1
  injection h2 with h2 _
  injection h2 with h2
  exact Prod.ext h1 h2
theorem pkD_alike (a b : PKey) : PySem.W.alike (pkD a) (pkD b) = true := by simp [pkD, PySem.W.alike, PySem.W.alikeAll]
theorem pk_allAlike (ks : List PKey) : PySem.W.AllAlike (ks.map pkD) := PySem.W.AllAlike.of pkD_alike
theorem pk_cmpb (ks : List PKey) : Cmpb (ks.map pkD) := ⟨pk_allAlike ks, PySem.W.Sortable.tuples fun b => ⟨_, _, rfl⟩, fun d hd => by
  obtain ⟨k, _, rfl⟩ := List.mem_map.mp hd
  show 1 ≤ 90
  decide⟩
theorem nodup_mapD {ks : List PKey} (h : ks.Nodup) : (ks.map pkD).Nodup := by
  unfold List.Nodup at h ⊢
  refine List.pairwise_map.mpr (h.imp fun {a b} q e => q (pkD_inj e))
/-! ### how many -/
def cnt : List PRow → PKey → Int
  | [], _ => 0
  | r :: L, k => (if pk r = k then r.2.2 else 0) + cnt L k
theorem cnt_nil (k : PKey) : cnt [] k = 0 := rfl
theorem cnt_cons (r : PRow) (L : List PRow) (k : PKey) : cnt (r :: L) k = (if pk r = k then r.2.2 else 0) + cnt L k := rfl
theorem cnt_app : ∀ (L M : List PRow) (k : PKey), cnt (L ++ M) k = cnt L k + cnt M k
  | [], M, k => by rw [List.nil_append, cnt_nil]; omega
  | r :: L, M, k => by
    rw [List.cons_append, cnt_cons, cnt_cons, cnt_app L M k]
    omega
theorem cnt_perm {L M : List PRow} (h : L.Perm M) (k : PKey) : cnt L k = cnt M k := by
  induction h with
  | nil => rfl
  | cons r _ ih => rw [cnt_cons, cnt_cons, ih]
  | swap r q L => rw [cnt_cons, cnt_cons, cnt_cons, cnt_cons]; omega
  | trans _ _ i j => rw [i, j]
theorem cnt_none {L : List PRow} {k : PKey} (h : k ∉ L.map pk) : cnt L k = 0 := by
  induction L with
  | nil => rfl
  | cons r L ih =>
    rw [List.map_cons, List.mem_cons, not_or] at h
    rw [cnt_cons, if_neg (fun e => h.1 e.symm), ih h.2]
    rfl
/-- a drawn row: words, from 1 on -/
structure PRowOk (b : Int) (r : PRow) : Prop where
  f : Word r.1
  s : Word r.2.1
  lo : 1 ≤ r.2.2
  hi : r.2.2 ≤ b
structure RowsOk (n : Nat) (b : Int) (L : List PRow) : Prop where
  len : L.length ≤ n
  each : ∀ r ∈ L, PRowOk b r
theorem PRowOk.mono {b c : Int} {r : PRow} (h : PRowOk b r) (hb : b ≤ c) : PRowOk c r := ⟨h.f, h.s, h.lo, Int.le_trans h.hi hb⟩
theorem RowsOk.mono {n m : Nat} {b c : Int} {L : List PRow} (h : RowsOk n b L) (hn : n ≤ m) (hb : b ≤ c) : RowsOk m c L := ⟨Nat.le_trans h.len hn, fun r hr => (h.each r hr).mono hb⟩
theorem RowsOk.tail {n : Nat} {b : Int} {r : PRow} {L : List PRow} (h : RowsOk n b (r :: L)) : RowsOk n b L := ⟨by have := h.len; rw [List.length_cons] at this; omega, fun q hq => h.each q (List.mem_cons_of_mem _ hq)⟩
theorem cnt_nn {n : Nat} {b : Int} {L : List PRow} (h : RowsOk n b L) (k : PKey) : 0 ≤ cnt L k := by
  induction L with
  | nil => exact Int.le_refl 0
  | cons r L ih =>
    rw [cnt_cons]
    have h1 := (h.each r List.mem_cons_self).lo
    have h2 := ih h.tail
    split <;> omega
theorem cnt_pos {n : Nat} {b : Int} {L : List PRow} (h : RowsOk n b L) {k : PKey} (hk : k ∈ L.map pk) : 0 < cnt L k := by
  induction L with
  | nil => cases hk
  | cons r L ih =>
    rw [cnt_cons]
    have h1 := (h.each r List.mem_cons_self).lo
    have h2 := cnt_nn h.tail k
    rcases List.mem_cons.mp hk with e | e
    · rw [if_pos e.symm]; omega
    · have := ih h.tail e
      split <;> omega
theorem cnt_le {n : Nat} {b : Int} (hb : 0 ≤ b) {L : List PRow} (h : RowsOk n b L) (k : PKey) : cnt L k ≤ (L.length : Int) * b := by
  induction L with
  | nil => simp [cnt_nil]
  | cons r L ih =>
    rw [cnt_cons, List.length_cons]
    have h1 := (h.each r List.mem_cons_self).hi
    have h2 := ih h.tail
    have e : ((L.length + 1 : Nat) : Int) * b = (L.length : Int) * b + b := by
      rw [Int.natCast_add, Int.add_mul]
      simp
    rw [e]
    split <;> omega
theorem cnt_key {n : Nat} {b : Int} {L : List PRow} (h : RowsOk n b L) (k : PKey) : k ∈ L.map pk ↔ 0 < cnt L k := by
  refine ⟨cnt_pos h, fun q => ?_⟩
  by_cases z : k ∈ L.map pk
  · exact z
  · rw [cnt_none z] at q
    omega
/-! ### the sums, rising -/
def nub : List PKey → List PKey
  | [] => []
  | k :: ks => k :: (nub ks).filter fun q => decide (q ≠ k)
theorem mem_nub {k : PKey} : ∀ {ks : List PKey}, k ∈ nub ks ↔ k ∈ ks
  | [] => Iff.rfl
  | q :: ks => by
    show k ∈ q :: _ ↔ _
    rw [List.mem_cons, List.mem_cons, List.mem_filter, mem_nub (ks := ks)]
    by_cases e : k = q
    · simp [e]
    · simp [e]
theorem nodup_nub : ∀ ks : List PKey, (nub ks).Nodup
  | [] => List.nodup_nil
  | q :: ks => List.nodup_cons.mpr ⟨fun h => by
      have := (List.mem_filter.mp h).2
      simp at this, (nodup_nub ks).filter _⟩
def skeys (L : List PRow) : List PKey := srt false pkD (nub (L.map pk))
def sumR (L : List PRow) : List PRow := (skeys L).map fun k => (k.1, k.2, cnt L k)
theorem mem_skeys {L : List PRow} {k : PKey} : k ∈ skeys L ↔ k ∈ L.map pk := ((srt_perm false pkD _).mem_iff).trans mem_nub
theorem skeys_rises (L : List PRow) : Rises ((skeys L).map pkD) := srt_rises (pk_allAlike _) (nodup_mapD (nodup_nub _))
theorem sumR_keys (L : List PRow) : (sumR L).map pk = skeys L := by
  unfold sumR
  rw [List.map_map]
  exact List.map_id'' (fun k => rfl) _
theorem map_inj {ks ls : List PKey} : ks.map pkD = ls.map pkD → ks = ls := by
  induction ks generalizing ls with
  | nil => intro h; cases ls with
    | nil => rfl
    | cons => cases h
  | cons k ks ih =>
    intro h
    cases ls with
    | nil => cases h
    | cons l ls =>
      rw [List.map_cons, List.map_cons] at h
      injection h with h1 h2
      rw [pkD_inj h1, ih h2]
/-- rising keys that are just these -/
theorem skeys_of {L : List PRow} {ks : List PKey} (h : Rises (ks.map pkD)) (hm : ∀ k, k ∈ ks ↔ k ∈ L.map pk) : ks = skeys L := by
  refine map_inj (rises_ext h (skeys_rises L) fun d => ⟨fun hd => ?_, fun hd => ?_⟩)
  · obtain ⟨k, hk, rfl⟩ := List.mem_map.mp hd
    exact List.mem_map.mpr ⟨k, mem_skeys.mpr ((hm k).mp hk), rfl⟩
  · obtain ⟨k, hk, rfl⟩ := List.mem_map.mp hd
    exact List.mem_map.mpr ⟨k, (hm k).mpr (mem_skeys.mp hk), rfl⟩
theorem sumR_of {L M : List PRow} (h : Rises (M.map fun r => pkD (pk r))) (hm : ∀ k, k ∈ M.map pk ↔ k ∈ L.map pk) (hc : ∀ r ∈ M, r.2.2 = cnt L (pk r)) : M = sumR L := by
  have e : M.map pk = skeys L := skeys_of (by rw [List.map_map]; exact h) hm
  unfold sumR
  rw [← e, List.map_map]
  symm
  refine (List.map_congr_left (g := id) fun r hr => ?_).trans (List.map_id _)
  show (r.1, r.2.1, cnt L (pk r)) = r
  rw [← hc r hr]
theorem sumR_congr {L M : List PRow} (hm : ∀ k, k ∈ L.map pk ↔ k ∈ M.map pk) (hc : ∀ k, cnt L k = cnt M k) : sumR L = sumR M := by
  have e : skeys L = skeys M := skeys_of (skeys_rises L) fun k => mem_skeys.trans (hm k)
  unfold sumR
  rw [e]
  exact List.map_congr_left fun k _ => by rw [hc k]
/-- the same how many of each: the same sums -/
theorem sumR_eq {n m : Nat} {b c : Int} {L M : List PRow} (hL : RowsOk n b L) (hM : RowsOk m c M) (h : ∀ k, cnt L k = cnt M k) : sumR L = sumR M :=
  sumR_congr (fun k => by rw [cnt_key hL, cnt_key hM, h k]) h
theorem sumR_perm {L M : List PRow} (h : L.Perm M) : sumR L = sumR M := sumR_congr (fun k => (h.map pk).mem_iff) (cnt_perm h)
theorem cnt_once {f : PKey → Int} : ∀ {ks : List PKey}, ks.Nodup → ∀ k, cnt (ks.map fun k => (k.1, k.2, f k)) k = if k ∈ ks then f k else 0
  | [], _, k => by simp [cnt_nil]
  | q :: ks, h, k => by
    obtain ⟨h1, h2⟩ := List.nodup_cons.mp h
    rw [List.map_cons, cnt_cons, cnt_once h2 k]
    show (if (q.1, q.2) = k then f q else 0) + _ = _
    by_cases e : q = k
    · subst e
      rw [if_pos rfl, if_neg h1, if_pos List.mem_cons_self]
      omega
    · have e' : ¬ ((q.1, q.2) : PKey) = k := e
      rw [if_neg e']
      by_cases z : k ∈ ks
      · rw [if_pos z, if_pos (List.mem_cons_of_mem _ z)]; omega
      · rw [if_neg z, if_neg (fun y => by
          rcases List.mem_cons.mp y with y | y
          · exact e y.symm
          · exact z y)]
        rfl
theorem skeys_nodup (L : List PRow) : (skeys L).Nodup := (srt_perm false pkD _).nodup_iff.mpr (nodup_nub _)
theorem cnt_sumR (L : List PRow) (k : PKey) : cnt (sumR L) k = cnt L k := by
  unfold sumR
  rw [cnt_once (f := cnt L) (skeys_nodup L) k]
  by_cases z : k ∈ skeys L
  · rw [if_pos z]
  · rw [if_neg z, cnt_none (fun h => z (mem_skeys.mpr h))]
theorem sumR_len (L : List PRow) : (sumR L).length ≤ L.length := by
  unfold sumR
  rw [List.length_map]
  have h : ∀ ks : List PKey, (nub ks).length ≤ ks.length := by
    intro ks
    induction ks with
    | nil => exact Nat.le_refl _
    | cons k ks ih =>
      show ((nub ks).filter _).length + 1 ≤ ks.length + 1
      have := List.length_filter_le (fun q => decide (q ≠ k)) (nub ks)
      omega
  have e := (srt_perm false pkD (nub (L.map pk))).length_eq
  have := h (L.map pk)
  rw [List.length_map] at this
  unfold skeys
  omega
theorem sumR_ok {n : Nat} {b : Int} (hb : 0 ≤ b) {L : List PRow} (h : RowsOk n b L) : RowsOk n (n * b) (sumR L) := by
  refine ⟨Nat.le_trans (sumR_len L) h.len, fun r hr => ?_⟩
  unfold sumR at hr
  obtain ⟨k, hk, rfl⟩ := List.mem_map.mp hr
  have hk' := mem_skeys.mp hk
  obtain ⟨q, hq, rfl⟩ := List.mem_map.mp hk'
  have okq := h.each q hq
  refine ⟨okq.f, okq.s, ?_, ?_⟩
  · have := cnt_pos h hk'
    show 1 ≤ cnt L (pk q)
    omega
  · have h1 := cnt_le hb h (pk q)
    have h2 : (L.length : Int) * b ≤ (n : Int) * b := Int.mul_le_mul_of_nonneg_right (by have := h.len; omega) hb
    exact Int.le_trans h1 h2
theorem sumR_nil : sumR [] = [] := by
  have := sumR_len []
  exact List.eq_nil_of_length_eq_zero (Nat.le_zero.mp this)
theorem sumR_sumR (L : List PRow) : sumR (sumR L) = sumR L := by
  refine sumR_congr (fun k => ?_) (cnt_sumR L)
  rw [sumR_keys]
  exact mem_skeys
/-! ### shown -/
theorem sh_prow {b : Int} (hb : b < 2 ^ 64) {r : PRow} (h : PRowOk b r) : Sh (prowD r) 1 261 := by
  refine (Sh.tuple (dp := 0) (n := 82) (m := 3) (fun d hd => ?_) (by show 3 ≤ 3; decide)).mono (by decide) (by decide)
  rcases List.mem_cons.mp hd with rfl | hd
  · exact Sh.word h.f
  · rcases List.mem_cons.mp hd with rfl | hd
    · exact Sh.word h.s
    · rcases List.mem_cons.mp hd with rfl | hd
      · have := h.lo
        have := h.hi
        exact (Sh.int (by omega) (by omega)).mono (Nat.le_refl _) (by decide)
      · cases hd
theorem sh_rows {n : Nat} {b : Int} (hb : b < 2 ^ 64) {L : List PRow} (h : RowsOk n b L) : Sh (rowsD L) 2 (n * 261 + 2 * n + 3) :=
  Sh.tuple (fun d hd => by
    obtain ⟨r, hr, rfl⟩ := List.mem_map.mp hd
    exact sh_prow hb (h.each r hr)) (by rw [List.length_map]; exact h.len)
end PK
/-! A dict of how many, by part; what the heaps' defs promise. -/
namespace PK
open PySem PySem.Spec PyProof.Rows L2
abbrev kk (k : PKey) : List Key := [Sum.inr k.1, Sum.inr k.2]
theorem kk_inj {a b : PKey} (h : kk a = kk b) : a = b := by
  injection h with h1 h2
  injection h2 with h2 _
  injection h1 with h1
  injection h2 with h2
  exact Prod.ext h1 h2
def ent (ks : List PKey) (c : PKey → Int) : List (List Key × V) := ks.map fun k => (kk k, V.int (c k))
theorem ent_val (c : PKey → Int) (k : PKey) : ∀ ks : List PKey, valV (ent ks c) (kk k) = if k ∈ ks then some (.int (c k)) else none
  | [] => by simp [ent, valV_nil]
  | q :: ks => by
    show valV ((kk q, V.int (c q)) :: ent ks c) (kk k) = _
    by_cases e : q = k
    · subst e
      rw [valV_pos rfl, if_pos List.mem_cons_self]
    · rw [valV_neg (fun h => e (kk_inj h)), ent_val c k ks]
      by_cases z : k ∈ ks
      · rw [if_pos z, if_pos (List.mem_cons_of_mem _ z)]
      · rw [if_neg z, if_neg (fun y => by
          rcases List.mem_cons.mp y with y | y
          · exact e y.symm
          · exact z y)]
theorem ent_any (c : PKey → Int) (k : PKey) (ks : List PKey) : ((ent ks c).any fun kv => decide (kv.1 = kk k)) = decide (k ∈ ks) := by
  rw [Bool.eq_iff_iff, List.any_eq_true, decide_eq_true_eq]
  constructor
  · rintro ⟨kv, h1, h2⟩
    obtain ⟨q, hq, rfl⟩ := List.mem_map.mp h1
    have := kk_inj (of_decide_eq_true h2)
    subst this
    exact hq
  · intro h
    exact ⟨_, List.mem_map.mpr ⟨k, h, rfl⟩, decide_eq_true rfl⟩
/-- one more row of this part -/
theorem ent_put {ks : List PKey} {c c' : PKey → Int} {k : PKey} {n : Int} (h1 : c' k = n) (h2 : ∀ q, q ≠ k → c' q = c q) :
    putK (ent ks c) (kk k) (.int n) = ent (if k ∈ ks then ks else ks ++ [k]) c' := by
  unfold putK
  rw [ent_any]
  by_cases z : k ∈ ks
  · rw [if_pos (decide_eq_true z), if_pos z]
    unfold ent
    rw [List.map_map]
    refine List.map_congr_left fun q hq => ?_
    show (if kk q = kk k then (kk q, V.int n) else (kk q, V.int (c q))) = (kk q, V.int (c' q))
    by_cases e : q = k
    · subst e
      rw [if_pos rfl, h1]
    · rw [if_neg (fun h => e (kk_inj h)), h2 q e]
  · rw [if_neg (by simpa using z), if_neg z]
    unfold ent
    rw [List.map_append]
    congr 1
    · refine List.map_congr_left fun q hq => ?_
      have e : q ≠ k := fun e => z (by rw [← e]; exact hq)
      rw [h2 q e]
    · show _ = [(kk k, V.int (c' k))]
      rw [h1]
theorem ent_keys (ks : List PKey) (c : PKey → Int) : ((ent ks c).map fun p => tkD p.1) = ks.map pkD := by
  unfold ent
  rw [List.map_map]
  rfl
theorem Dp.prowE {K : PySem.W.Frag} {H : Hp} {v : V} {r : PRow} (h : Dp K H v (prowD r)) : ∃ b, v = .ref b ∧ SqT K H b [.str r.1, .str r.2.1, .int r.2.2] := by
  obtain ⟨b, xs, rfl, hb, ha⟩ := Dp.tupE h
  cases ha with
  | cons h1 h2 =>
    cases h2 with
    | cons h3 h4 =>
      cases h4 with
      | cons h5 h6 =>
        cases h6
        cases h1
        cases h3
        cases h5
        exact ⟨b, rfl, hb⟩
theorem Dp.pkE {K : PySem.W.Frag} {H : Hp} {v : V} {k : PKey} (h : Dp K H v (pkD k)) : ∃ b, v = .ref b ∧ SqT K H b [.str k.1, .str k.2] := by
  obtain ⟨b, xs, rfl, hb, ha⟩ := Dp.tupE h
  cases ha with
  | cons h1 h2 =>
    cases h2 with
    | cons h3 h4 =>
      cases h4
      cases h1
      cases h3
      exact ⟨b, rfl, hb⟩
theorem Dp.prow {K : PySem.W.Frag} {H : Hp} {b : Addr} {r : PRow} (h : SqT K H b [.str r.1, .str r.2.1, .int r.2.2]) : Dp K H (.ref b) (prowD r) := .tup h (.cons (.str _) (.cons (.str _) (.cons (.int _) .nil)))
theorem Dp.pk {K : PySem.W.Frag} {H : Hp} {b : Addr} {k : PKey} (h : SqT K H b [.str k.1, .str k.2]) : Dp K H (.ref b) (pkD k) := .tup h (.cons (.str _) (.cons (.str _) .nil))
theorem cnt_snoc {L : List PRow} {i : Nat} {r : PRow} (h : L[i]? = some r) (k : PKey) : cnt (L.take (i + 1)) k = cnt (L.take i) k + if PK.pk r = k then r.2.2 else 0 := by
  rw [take_snoc h, cnt_app, cnt_cons, cnt_nil]
  omega
/-! ### the promises -/
/-- added_rows: the sums, rising -/
def spAdded (K : PySem.W.Frag) : Sp := fun vs H Q _ => ∃ (v : V) (L : List PRow), vs = [v] ∧ Dp K H v (rowsD L) ∧ L.length ≤ 900 ∧
  ∀ (p : Addr) (us : List V) (H' : Hp), H p = none → Same H H' → H' p = some (.tup us) → DpAll K H' us ((sumR L).map prowD) → Q (.ref p) H'
/-- a heap's attributes -/
def hf (t : Addr) : List (Str × V) := putF "held" (.ref t) []
theorem hf_held (t : Addr) : (hf t).lookup ("held" : Str) = some (.ref t) := by
  unfold hf
  rw [lookup_putF, if_pos rfl]
theorem hf_no (t : Addr) {m : Str} (h : ¬ m = "held") : (hf t).lookup m = none := by
  unfold hf
  rw [lookup_putF, if_neg h]
  all_goals rfl
/-- a heap of these rows stands at p -/
def HeapAt (K : PySem.W.Frag) (C : Addr) (H : Hp) (p : Addr) (L : List PRow) : Prop := ∃ dx t, H p = some (.ins C dx (hf t)) ∧ Dp K H (.ref t) (rowsD L)
theorem HeapAt.same {K : PySem.W.Frag} {C : Addr} {H H' : Hp} {p : Addr} {L : List PRow} (h : HeapAt K C H p L) (s : Same H H') : HeapAt K C H' p L := by
  obtain ⟨dx, t, h1, h2⟩ := h
  exact ⟨dx, t, s _ _ h1, Dp.same s h2⟩
theorem HeapAt.ext {K : PySem.W.Frag} {C : Addr} {H H' : Hp} {p a c : Addr} {L : List PRow} (h : HeapAt K C H p L) (fe : IsFeed H a c) (x : Ext a H H') : HeapAt K C H' p L := by
  obtain ⟨dx, t, h1, h2⟩ := h
  obtain ⟨cs, i, l, n, fe'⟩ := id fe
  exact ⟨dx, t, x _ _ h1 (ne_of h1 fe'.d (by intro z; cases z)), Dp.keepT (TKeep.feed fe x) (flat_rows L) h2⟩
/-- __init__ -/
def spInit (K : PySem.W.Frag) (C : Addr) : Sp := fun vs H Q _ => ∃ (p dx : Addr) (x : V) (L : List PRow), vs = [.ref p, x] ∧ H p = some (.ins C dx []) ∧ ((x = .non ∧ L = []) ∨ Dp K H x (rowsD L)) ∧ L.length ≤ 900 ∧
  ∀ H' : Hp, (∀ b o, H b = some o → b ≠ p → H' b = some o) → HeapAt K C H' p (sumR L) → Q .non H'
/-- rows() -/
def spRows (K : PySem.W.Frag) (C : Addr) : Sp := fun vs H Q _ => ∃ (p : Addr) (L : List PRow), vs = [.ref p] ∧ HeapAt K C H p L ∧ L.length ≤ 900 ∧
  ∀ (v : V) (H' : Hp), Same H H' → Dp K H' v (rowsD L) → Q v H'
/-- what is known of the class -/
structure HCls (K : PySem.W.Frag) (mg : Str → Option Value) (C : Addr) : Prop where
  cl : Cls K C
  nh : NoAttr K C "held"
  mg : mg "Heap" = some (.ref C)
end PK
/-! A heap made: Heap(), Heap(x), Heap(rows=x). -/
namespace PK
open PySem PySem.Spec PyProof.Rows L2
/-- all that is known of the class and its __init__ -/
structure HMk (P : Program) (w : World) (K : PySem.W.Frag) (mg : Str → Option Value) (base : Heap) (k : Nat) (C f : Addr) (fd : FuncData) : Prop where
  c : HCls K mg C
  m : Mk K C f
  ok : FnOk P w K mg base CX0 k f fd ["self", "rows"] (spInit K C)
  b0 : ∃ ds, Vals [V.non] ds ∧ Binds K fd ["self", "rows"] ds
  b1 : KB K fd ["self", "rows"] 2 [] (fun vs _ => vs)
  bk : KB K fd ["self", "rows"] 1 ["rows"] (fun vs zs => vs ++ zs)
/-- of x: none, or rows -/
def mkHeap (K : PySem.W.Frag) (C : Addr) (x : V) (H : Hp) (Q : VK) : Prop := ∃ L : List PRow, ((x = .non ∧ L = []) ∨ Dp K H x (rowsD L)) ∧ L.length ≤ 900 ∧
  ∀ (p : Addr) (H' : Hp), H p = none → Same H H' → HeapAt K C H' p (sumR L) → Q (.ref p) H'
def tHeap0 (K : PySem.W.Frag) (C : Addr) : TE := fun _ H Q => mkHeap K C .non H Q
def tHeap (K : PySem.W.Frag) (C : Addr) (te : TE) : TE := fun σ H Q => te σ H fun x H1 => mkHeap K C x H1 Q
theorem mk_init {K : PySem.W.Frag} {C : Addr} {x : V} {H : Hp} {Q : VK} {E : XK} (h : mkHeap K C x H Q) (p dx : Addr) (np : H p = none) (nd : H dx = none) (ne : dx ≠ p) :
    spInit K C [.ref p, x] (upd (upd H dx (.own p)) p (.ins C dx [])) (fun v H2 => v = .non ∧ Q (.ref p) H2) E := by
  obtain ⟨L, hx, hL, q⟩ := h
  have s1 : Same H (upd (upd H dx (.own p)) p (.ins C dx [])) := fun b o e => by
    rw [upd_ne (ne_of_none e np), upd_ne (ne_of_none e nd)]
    exact e
  refine ⟨p, dx, x, L, rfl, upd_same, ?_, hL, fun H' kp hh => ⟨rfl, q p H' np (Same.made np nd kp) hh⟩⟩
  rcases hx with hx | hx
  · exact Or.inl hx
  · exact Or.inr (Dp.same s1 hx)
section
variable {X : Cx} {k : Nat} {C f : Addr} {fd : FuncData} {p pos : Pos} {e : Expr} {kw : Keyword} {te : TE}
theorem pe_heap0 (M : HMk X.prog X.w X.K X.mg X.base k C f fd) (hr : Room (k + 1) X.A) (hg : Gl X "Heap") : PE X (.Call (.Name "Heap" p) [] [] pos) (tHeap0 X.K C) := by
  refine ⟨fun pins s σ H Q I h => ?_⟩
  obtain ⟨ds, hd, hb⟩ := M.b0
  refine (pe_make0 M.m M.ok hr hg M.c.mg hb hd (E := fun _ _ _ => False) pass0).run pins s σ H Q I ?_
  exact fun x dx nx nd ne => mk_init h x dx nx nd ne
/-- the one argument -/
def one (R : V → Hp → Prop) : List V → Hp → Prop := fun vs H => match vs with
  | [x] => R x H
  | _ => False
theorem one_at {R : V → Hp → Prop} {vs : List V} {H : Hp} (h : one R vs H) : ∃ x, vs = [x] ∧ R x H := by
  match vs, h with
  | [x], h => exact ⟨x, rfl, h⟩
theorem pe_heap1 (M : HMk X.prog X.w X.K X.mg X.base k C f fd) (hr : Room (k + 1) X.A) (hg : Gl X "Heap") (ha : PE X e te)
    (he : starEach [e] X.env = (false, eval e X.env) :: starEach [] X.env := by rfl) (hpl : (backTo pos (starEach [] X.env)).any (·.1) = false := by rfl) :
    PE X (.Call (.Name "Heap" p) [e] [] pos) (tHeap X.K C te) := by
  refine ⟨fun pins s σ H Q I h => ?_⟩
  obtain ⟨g, hb⟩ := M.b1
  refine wpAny_Call_Name_kw (ld_glob I hg M.c.mg ?_ (by decide))
  refine PySem.W.callWith_K (h₀ := X.base) I.ok.mod.kin M.m.kp (thn ((pa_cons ha pa_nil he).run pos pins s σ H (one fun x H1 => mkHeap X.K C x H1 Q) I h) ?_) he hpl
  rintro us s1 ⟨vs, H1, I1, r, q⟩
  refine ⟨I1.kIn, ?_⟩
  obtain ⟨x, rfl, q⟩ := one_at q
  exact run_makeK (n := 1) (ks := []) (ws := []) (zs := []) M.m M.ok hr hb (E := fun _ _ _ => False) pass0 I1 r .nil rfl rfl fun p dx np nd ne => mk_init q p dx np nd ne
theorem pe_heapK (M : HMk X.prog X.w X.K X.mg X.base k C f fd) (hr : Room (k + 1) X.A) (hg : Gl X "Heap") {kpos : Pos} {nm : Option Str} (ha : PE X e te)
    (hall : (backToKw pos (keywordEach [⟨nm, e, kpos⟩] X.env)).all (·.1.isSome) = true := by rfl) (hks : (backToKw pos (keywordEach [⟨nm, e, kpos⟩] X.env)).filterMap (·.1) = [("rows" : Str)] := by rfl)
    (hpl : ((backTo pos (starEach [] X.env)).any (·.1) || (backToKw pos (keywordEach [⟨nm, e, kpos⟩] X.env)).any (·.1.isNone)) = false := by rfl) :
    PE X (.Call (.Name "Heap" p) [] [⟨nm, e, kpos⟩] pos) (tHeap X.K C te) := by
  refine ⟨fun pins s σ H Q I h => ?_⟩
  obtain ⟨g, hb⟩ := M.bk
  refine wpAny_Call_Name_kw (ld_glob I hg M.c.mg ?_ (by decide))
  refine PySem.W.callWith_KW0 (h₀ := X.base) I.ok.mod.kin M.m.kp hall (thn ((pk_cons ha pk_nil).run pos pins s σ H (one fun x H1 => mkHeap X.K C x H1 Q) I h) ?_) hpl
  rintro ws s1 ⟨zs, H1, I1, r, q⟩
  refine ⟨I1.kIn, ?_⟩
  obtain ⟨x, rfl, q⟩ := one_at q
  rw [hks]
  exact run_makeK (n := 0) (us := []) (vs := []) M.m M.ok hr hb (E := fun _ _ _ => False) pass0 I1 .nil r rfl rfl fun p dx np nd ne => mk_init q p dx np nd ne
theorem kheap0 (K : PySem.W.Frag) (M : HMk X.prog X.w K X.mg X.base k C f fd) (hr : Room (k + 1) X.A) (hg : Gl X "Heap") (hK : X.K = K := by rfl) : PE X (.Call (.Name "Heap" p) [] [] pos) (tHeap0 K C) := by
  subst hK
  exact pe_heap0 M hr hg
theorem kheap1 (K : PySem.W.Frag) (M : HMk X.prog X.w K X.mg X.base k C f fd) (hr : Room (k + 1) X.A) (hg : Gl X "Heap") (ha : PE X e te) (hK : X.K = K := by rfl)
    (he : starEach [e] X.env = (false, eval e X.env) :: starEach [] X.env := by rfl) (hpl : (backTo pos (starEach [] X.env)).any (·.1) = false := by rfl) :
    PE X (.Call (.Name "Heap" p) [e] [] pos) (tHeap K C te) := by
  subst hK
  exact pe_heap1 M hr hg ha he hpl
theorem kheapK (K : PySem.W.Frag) (M : HMk X.prog X.w K X.mg X.base k C f fd) (hr : Room (k + 1) X.A) (hg : Gl X "Heap") {kpos : Pos} {nm : Option Str} (ha : PE X e te) (hK : X.K = K := by rfl)
    (hall : (backToKw pos (keywordEach [⟨nm, e, kpos⟩] X.env)).all (·.1.isSome) = true := by rfl) (hks : (backToKw pos (keywordEach [⟨nm, e, kpos⟩] X.env)).filterMap (·.1) = [("rows" : Str)] := by rfl)
    (hpl : ((backTo pos (starEach [] X.env)).any (·.1) || (backToKw pos (keywordEach [⟨nm, e, kpos⟩] X.env)).any (·.1.isNone)) = false := by rfl) :
    PE X (.Call (.Name "Heap" p) [] [⟨nm, e, kpos⟩] pos) (tHeap K C te) := by
  subst hK
  exact pe_heapK M hr hg ha hall hks hpl
end
/-- a method that may be called, all its arguments given -/
structure MCal (P : Program) (w : World) (K : PySem.W.Frag) (mg : Str → Option Value) (base : Heap) (k : Nat) (C : Addr) (x : Str) (f : Addr) (fd : FuncData) (ps : List Str) (sp : Sp) : Prop where
  ok : FnOk P w K mg base CX0 k f fd ps sp
  m : Meth K C x f
  b : Binds K fd ps []
theorem HeapAt.no {K : PySem.W.Frag} {C : Addr} {H : Hp} {p : Addr} {L : List PRow} (h : HeapAt K C H p L) {m : Str} (hm : ¬ m = "held") : ∃ dx fs, H p = some (.ins C dx fs) ∧ fs.lookup m = none := by
  obtain ⟨dx, t, h1, _⟩ := h
  exact ⟨dx, _, h1, hf_no t hm⟩
end PK
/-! Drawn rows; sums by taking the least one by one; rows parted in two. -/
namespace PK
open PySem PySem.Spec PyProof.Rows L2
def spLRows (K : PySem.W.Frag) : Sp := fun vs H Q _ => ∃ (a c pf ps : Addr) (fs ss : List Str) (mo : Nat), vs = [.ref a, .ref pf, .ref ps, .int mo] ∧ IsFeed H a c ∧ Words H pf fs ∧ Words H ps ss ∧ mo ≤ 100 ∧
  ∀ (v : V) (H' : Hp) (L : List PRow), RowsOk mo 1000000000 L → (∀ r ∈ L, r.1 ∈ fs ∧ r.2.1 ∈ ss) → Ext a H H' → IsFeed H' a c → Dp K H' v (rowsD L) → Q v H'
theorem word_ok {y : Str} (h : Word y) : PyData.strOk y = true := by
  unfold PyData.strOk
  rw [Array.all_eq_true_iff_forall_mem]
  intro c hc
  have := (h.low c (by simpa using hc)).2
  exact decide_eq_true (by omega)
theorem pk_shaped {k : PKey} (h1 : Word k.1) (h2 : Word k.2) : SeqAt.shaped (pkD k) = true := by
  unfold SeqAt.shaped pkD
  simp only [PyData.canLay0, PyData.canLayAll0, word_ok h1, word_ok h2, Bool.and_self, Bool.true_and]
  rfl
theorem pk_eqv (a b : PKey) : PyData.eqv (pkD a) (pkD b) = decide (a = b) := by
  by_cases e : a = b
  · subst e
    rw [decide_eq_true rfl]
    exact eqv_refl _ (flat_pk a)
  · rw [decide_eq_false e]
    exact eqv_false (pkD_alike a b) fun z => e (pkD_inj z)
/-- the rows of one part -/
def ofPart (L : List PRow) (k : PKey) : List Int := (L.filter fun r => decide (pk r = k)).map fun r => r.2.2
theorem ofPart_sum (k : PKey) : ∀ L : List PRow, (ofPart L k).sum = cnt L k
  | [] => rfl
  | r :: L => by
    have ih := ofPart_sum k L
    unfold ofPart at ih ⊢
    rw [cnt_cons]
    by_cases e : pk r = k
    · rw [List.filter_cons_of_pos (by simpa using e), List.map_cons, List.sum_cons, ih, if_pos e]
    · rw [List.filter_cons_of_neg (by simpa using e), ih, if_neg e]
      omega
theorem ofPart_snoc {L : List PRow} {i : Nat} {r : PRow} (h : L[i]? = some r) (k : PKey) : ofPart (L.take (i + 1)) k = ofPart (L.take i) k ++ if pk r = k then [r.2.2] else [] := by
  unfold ofPart
  rw [take_snoc h, List.filter_append, List.map_append]
  congr 1
  by_cases e : pk r = k
  · rw [if_pos e, List.filter_cons_of_pos (by simpa using e)]
    rfl
  · rw [if_neg e, List.filter_cons_of_neg (by simpa using e)]
    rfl
theorem pk_alikeAll (ks : List PKey) : PySem.W.AlikeAll (ks.map pkD) := ⟨pk_allAlike ks, fun x hx => by
  obtain ⟨k, _, rfl⟩ := List.mem_map.mp hx
  intro z
  cases z⟩
/-- the least of keys -/
theorem least_key {k : PKey} {ks : List PKey} : ∃ m, m ∈ k :: ks ∧ PySem.W.minD (pkD k) (ks.map pkD) = pkD m ∧ ∀ q ∈ k :: ks, q ≠ m → dlt (pkD m) (pkD q) = true := by
  obtain ⟨h1, h2, h3⟩ := minD_at (ks.map pkD) (pkD k)
  have hm : ∃ m, m ∈ k :: ks ∧ PySem.W.minD (pkD k) (ks.map pkD) = pkD m := by
    rcases h1 with h1 | h1
    · exact ⟨k, List.mem_cons_self, h1⟩
    · obtain ⟨m, hm, e⟩ := List.mem_map.mp h1
      exact ⟨m, List.mem_cons_of_mem _ hm, e.symm⟩
  obtain ⟨m, hm, e⟩ := hm
  refine ⟨m, hm, e, fun q hq hne => ?_⟩
  rw [e] at h2 h3
  have hf : dlt (pkD q) (pkD m) = false := by
    rcases List.mem_cons.mp hq with rfl | hq
    · exact h2
    · exact h3 _ (List.mem_map.mpr ⟨q, hq, rfl⟩)
  rcases dlt_tot (pkD_alike m q) (fun z => hne (pkD_inj z).symm) with z | z
  · exact z
  · rw [z] at hf
    cases hf
/-- what has been found, what is left -/
structure Least (L M : List PRow) (ks : List PKey) : Prop where
  up : Rises (M.map fun r => pkD (pk r))
  ahead : ∀ r ∈ M, ∀ q ∈ ks, dlt (pkD (pk r)) (pkD q) = true
  all : ∀ k, k ∈ L.map pk ↔ k ∈ M.map pk ∨ k ∈ ks
  many : ∀ r ∈ M, r.2.2 = cnt L (pk r)
theorem Least.start (L : List PRow) : Least L [] (L.map pk) := ⟨List.Pairwise.nil, fun _ h => (nomatch h), fun k => ⟨Or.inr, fun h => h.resolve_left (fun z => nomatch z)⟩, fun _ h => (nomatch h)⟩
theorem Least.done {L M : List PRow} (h : Least L M []) : M = sumR L := sumR_of h.up (fun k => ⟨fun z => (h.all k).mpr (Or.inl z), fun z => ((h.all k).mp z).resolve_right (fun z => nomatch z)⟩) h.many
theorem Least.next {L M : List PRow} {ks : List PKey} {m : PKey} (h : Least L M ks) (hm : m ∈ ks) (hl : ∀ q ∈ ks, q ≠ m → dlt (pkD m) (pkD q) = true) :
    Least L (M ++ [(m.1, m.2, cnt L m)]) (ks.filter fun q => decide (q ≠ m)) := by
  refine ⟨?_, fun r hr q hq => ?_, fun k => ?_, fun r hr => ?_⟩
  · unfold Rises
    rw [List.map_append]
    refine List.pairwise_append.mpr ⟨h.up, List.pairwise_singleton _ _, fun d hd e he => ?_⟩
    obtain ⟨r, hr, rfl⟩ := List.mem_map.mp hd
    have : e = pkD m := List.mem_singleton.mp he
    rw [this]
    exact h.ahead r hr m hm
  · obtain ⟨q1, q2⟩ := List.mem_filter.mp hq
    rcases List.mem_append.mp hr with hr | hr
    · exact h.ahead r hr q q1
    · rw [List.mem_singleton.mp hr]
      exact hl q q1 (of_decide_eq_true q2)
  · rw [h.all k, List.map_append, List.mem_append, List.mem_filter]
    show _ ↔ (k ∈ M.map pk ∨ k ∈ [m]) ∨ _
    rw [List.mem_singleton, decide_eq_true_eq]
    by_cases e : k = m
    · subst e
      simp [hm]
    · simp [e]
  · rcases List.mem_append.mp hr with hr | hr
    · exact h.many r hr
    · rw [List.mem_singleton.mp hr]
      rfl
/-- the law's own sums -/
def spSummed (K : PySem.W.Frag) : Sp := fun vs H Q _ => ∃ (v : V) (L : List PRow) (n : Nat) (b : Int), vs = [v] ∧ Dp K H v (rowsD L) ∧ RowsOk n b L ∧ n ≤ 900 ∧
  ∀ (v : V) (H' : Hp), Same H H' → Dp K H' v (rowsD (sumR L)) → Q v H'
/-! ### rows parted in two -/
def parted1 (r : PRow) : List PRow := (if 1 < r.2.2 then [(r.1, r.2.1, r.2.2 / 2)] else []) ++ [(r.1, r.2.1, r.2.2 - r.2.2 / 2)]
def parted (L : List PRow) : List PRow := L.flatMap parted1
theorem parted_snoc {L : List PRow} {i : Nat} {r : PRow} (h : L[i]? = some r) : parted (L.take (i + 1)) = parted (L.take i) ++ parted1 r := by
  unfold parted
  rw [take_snoc h, List.flatMap_append]
  simp
theorem parted1_cnt {b : Int} {r : PRow} (h : PRowOk b r) (k : PKey) : cnt (parted1 r) k = if pk r = k then r.2.2 else 0 := by
  have := h.lo
  unfold parted1
  split
  · rw [List.singleton_append, cnt_cons, cnt_cons, cnt_nil]
    show (if pk r = k then r.2.2 / 2 else 0) + ((if pk r = k then r.2.2 - r.2.2 / 2 else 0) + 0) = _
    split <;> omega
  · rw [List.nil_append, cnt_cons, cnt_nil]
    show (if pk r = k then r.2.2 - r.2.2 / 2 else 0) + 0 = _
    split <;> omega
theorem parted1_ok {b : Int} {r : PRow} (h : PRowOk b r) : RowsOk 2 b (parted1 r) := by
  have := h.lo
  have := h.hi
  unfold parted1
  split
  · refine ⟨Nat.le_refl _, fun q hq => ?_⟩
    rcases List.mem_cons.mp hq with rfl | hq
    · exact ⟨h.f, h.s, by show 1 ≤ r.2.2 / 2; omega, by show r.2.2 / 2 ≤ b; omega⟩
    · rw [List.mem_singleton.mp hq]
      exact ⟨h.f, h.s, by show 1 ≤ r.2.2 - r.2.2 / 2; omega, by show r.2.2 - r.2.2 / 2 ≤ b; omega⟩
  · refine ⟨by show 1 ≤ 2; decide, fun q hq => ?_⟩
    rw [List.mem_singleton.mp hq]
    exact ⟨h.f, h.s, by show 1 ≤ r.2.2 - r.2.2 / 2; omega, by show r.2.2 - r.2.2 / 2 ≤ b; omega⟩
theorem parted_both {n : Nat} {b : Int} : ∀ {L : List PRow}, RowsOk n b L → RowsOk (2 * L.length) b (parted L) ∧ ∀ k, cnt (parted L) k = cnt L k
  | [], _ => ⟨⟨Nat.le_refl _, fun _ h => (nomatch h)⟩, fun _ => rfl⟩
  | r :: L, h => by
    obtain ⟨h1, h2⟩ := parted_both h.tail
    have okr := h.each r List.mem_cons_self
    have ok1 := parted1_ok okr
    have e : parted (r :: L) = parted1 r ++ parted L := by unfold parted; rw [List.flatMap_cons]
    rw [e]
    refine ⟨⟨?_, fun q hq => ?_⟩, fun k => ?_⟩
    · rw [List.length_append, List.length_cons]
      have := h1.len
      have := ok1.len
      omega
    · rcases List.mem_append.mp hq with hq | hq
      · exact ok1.each q hq
      · exact h1.each q hq
    · rw [cnt_app, h2 k, cnt_cons, parted1_cnt okr]
theorem sumR_parted {n : Nat} {b : Int} {L : List PRow} (h : RowsOk n b L) : sumR (parted L) = sumR L := sumR_eq (parted_both h).1 h (parted_both h).2
def spParted (K : PySem.W.Frag) : Sp := fun vs H Q _ => ∃ (v : V) (L : List PRow) (n : Nat) (b : Int), vs = [v] ∧ Dp K H v (rowsD L) ∧ RowsOk n b L ∧ n ≤ 400 ∧ b < 2 ^ 60 ∧
  ∀ (v : V) (H' : Hp), Same H H' → Dp K H' v (rowsD (parted L)) → Q v H'
end PK
/-! An own error whose __init__ says super().__init__(text), its families over ValueError. -/
namespace PK
open PySem PySem.Spec PyProof.Rows L2
/-! ### the bound built-in __init__, called -/
section
variable {prog : Program} {w : World} {A : Around} {E : Value → Shared → Prop} {h : Heap} {g : Array GenState} {d : Drawn} {t : Nat} {os : OsState}
variable {nm q : Str} {C N : Addr} {bs bm : List Value} {hdct : Bool} {sn : List Str} {sub : List Value} {ab : Bool} {col : Option Bool} {dd : Option Addr} {k0 k1 k2 k3 k5 : Option Value}
theorem call_mw {u e t0 : Addr} {rest : List Value} {Q : Value → Shared → Prop}
    (hC : h.get? C = some (excClassObj nm q C N bs bm hdct sn sub ab col dd k0 k1 k2 k3 k5 "ValueError.__new__")) (he : h.get? e = some (HandSPX.excO C t0)) (hu : h.get? u = some (PySem.W.kxs_mw "ValueError.__init__" e)) (hrest : rest.length ≤ sizeLine)
    (hq : ∀ h' t1, (∀ b o, b ≠ e → h.get? b = some o → h'.get? b = some o) → h'.get? e = some (HandSPX.excO C t1) → Q .none ⟨h', g, d, t, os⟩) :
    wpAny (model prog w) A (call (.ref u) rest) Q E ⟨h, g, d, t, os⟩ := by
  have kind : (Value.type "method-wrapper" == Value.type "method" || Value.type "method-wrapper" == Value.type "builtin_function_or_method" || Value.type "method-wrapper" == Value.type "method-wrapper") = true := by decide
  refine wpAny_call (codeAny_of_tree ?_)
  show wpAny _ A.in1 (callAny (.ref u) ⟨rest, []⟩) _ _ _
  simp only [callAny]
  refine wpAny_bind (wpAny_load hu ?_)
  simp only [PySem.W.kxs_mw, kind, if_true]
  refine W.KFB.if_so (by decide) (wpAny_bind (PySem.ESX.check_bound F.excBase_ValueError hC he rfl (wpAny_bind (wpAny_pure (wpAny_pure ⟨Code.quiet_builtin _ (by decide +kernel), codeAny_builtin F.excBase_ValueError.initEntry ?_⟩)))))
  rw [Around.under_plainId F.excBase_ValueError.init.plain]
  wp_walk
  have hp : (h.push { cls := .type "tuple", data := .seq rest.toArray }).get? e = some (HandSPX.excO C t0) := Heap.get?_push_of_some _ he
  refine hq _ h.objs.size (fun b o hb ho => ?_) ?_
  · exact (Heap.get?_update_other _ _ hb.symm).trans (Heap.get?_push_of_some _ ho)
  · rw [Heap.get?_update_self _ hp rfl]
    rfl
end
/-! ### a def that says super() -/
/-- the def of the text, within the class at D -/
structure FunS (P : Program) (K : PySem.W.Frag) (x qual : Str) (st : Stmt) (D f : Addr) (fd : FuncData) : Prop where
  ex : ∃ (oc : Value) (od : Option Addr) (osl : Array (Option Value)) (kV doc pm : Value) (an : Option Addr) (cda : Addr) (ct : Value) (cc : Addr) (ccl : Value) (cdd : Option Addr) (vs : Array Value) (ccs : Array (Option Value)) (file : Str) (tf : Tok) (cl : Value) (cld : Option Addr) (csl : Array (Option Value)),
    fd = PySem.W.fnX x qual (defArgs st) (defBody st) (defScope st) [("__class__", cc)] .none kV doc pm an (.ref cda) ct ∧ K.lookup f = some ⟨oc, od, .func fd, osl⟩ ∧ PySem.W.codeIn K (.ref cda) qual = true ∧
    K.lookup cda = some ⟨ccl, cdd, .fields vs, ccs⟩ ∧ vs[2]? = some (.str file tf) ∧ ((P.main.file : Str) == file) = true ∧ K.lookup cc = some ⟨cl, cld, .cell (some (.ref D)), csl⟩
  top : (P.main.scope.names.lookup ("super" : Str)).isSome = false
/-- the class of the error, with its line of classes over ValueError -/
structure SupC (K : PySem.W.Frag) (mg : Str → Option Value) (C : Addr) : Prop where
  ex : OexC K C
  cls : ∃ cd, PySem.W.clsIn K C = some cd
  self : PySem.W.mroIn K C (.ref C) = some true
  ve : PySem.W.mroIn K C (.type "ValueError") = some true
  up : PySem.W.ks_superIn K C C "__init__" = some (some (.builtin "ValueError.__init__"))
  third : PySem.W.nsIn K cStatics "thirdparty.any" = some none
  sup : mg "super" = none
structure SScope (N ps : List Str) (sc : Scope) : Prop where
  kind : sc.kind = .function
  co : sc.isCoroutine = false
  gen : sc.isGenerator = false
  nd : N.Nodup
  pre : N.take ps.length = ps
  par : ∀ x ∈ ps, sc.names.lookup x = some .local
  nocell : ∀ y ∈ sc.names, y.2 ≠ .cell
  fr : ∀ y ∈ sc.names, y.2 = .free → y.1 = "__class__"
  ksup : sc.names.lookup ("super" : Str) = some .globalImplicit
  kcls : sc.names.lookup ("__class__" : Str) = some .free
def cxS (P : Program) (w : World) (K : PySem.W.Frag) (mg : Str → Option Value) (base : Heap) (N : List Str) (qual : Str) (scope : Scope) (f : Addr) (cd : Value) (cc : Addr) (A : Around) (outer : List Env) (s : Shared) (H : Hp) : Cx where
  prog := P
  w := w
  K := K
  mg := mg
  base := base
  A := A.deeper (PySem.W.envX qual scope s.heap.objs.size f cd [("__class__", cc)])
  N := N
  s_0 := s
  H_0 := H
  env := PySem.W.envX qual scope s.heap.objs.size f cd [("__class__", cc)]
  outer := outer
  stack := PySem.W.envX qual scope s.heap.objs.size f cd [("__class__", cc)] :: outer
  ex := []
  calm := true
  fn := fun _ => false
  pn := []
  xe := fun _ _ => False
theorem lookup_rev_zip : ∀ {ps : List Str} {us : List Value} {i : Nat} {y : Str} {u : Value}, ps.Nodup → ps.length = us.length → ps[i]? = some y → us[i]? = some u → (ps.zip us).reverse.lookup y = some u := by
  intro ps us i y u nd hl hp hu
  have hm : (y, u) ∈ ps.zip us := by
    have e : (ps.zip us)[i]? = some (y, u) := by rw [List.getElem?_zip_eq_some]; exact ⟨hp, hu⟩
    exact List.mem_of_getElem? e
  have nd2 : ((ps.zip us).reverse.map (·.1)).Nodup := by
    rw [List.map_reverse, List.map_fst_zip (by omega)]
    exact (List.reverse_perm ps).nodup_iff.mpr nd
  have hm2 : (y, u) ∈ (ps.zip us).reverse := List.mem_reverse.mpr hm
  generalize (ps.zip us).reverse = l at nd2 hm2
  induction l with
  | nil => cases hm2
  | cons p l ih =>
    rw [List.map_cons] at nd2
    obtain ⟨n1, n2⟩ := List.nodup_cons.mp nd2
    rcases List.mem_cons.mp hm2 with e | e
    · subst e
      simp [List.lookup_cons]
    · have hne : (y == p.1) = false := by
        refine beq_eq_false_iff_ne.mpr fun z => n1 ?_
        rw [← z]
        exact List.mem_map.mpr ⟨_, e, rfl⟩
      obtain ⟨p1, p2⟩ := p
      rw [List.lookup_cons, hne]
      exact ih n2 e
/-- a slot that holds something at the start holds an argument -/
theorem slot0 {N : List Str} {vs : List V} {i : Nat} {v : V} (h : (L2.start N vs)[i]? = some (some v)) : vs[i]? = some v := by
  unfold L2.start at h
  rcases Nat.lt_or_ge i (vs.map some).length with z | z
  · rw [List.getElem?_append_left z, List.getElem?_map] at h
    obtain ⟨y, hy, e⟩ := Option.map_eq_some_iff.mp h
    cases e
    exact hy
  · rw [List.getElem?_append_right z] at h
    have := List.mem_of_getElem? h
    rw [List.mem_replicate] at this
    cases this.2
theorem one_cell {cc c : Addr} {x : Str} (h : ([("__class__", cc)] : List (Str × Addr)).lookup x = some c) : x = "__class__" ∧ c = cc := by
  rw [List.lookup_cons] at h
  split at h
  · rename_i z
    exact ⟨beq_iff_eq.mp z, (Option.some.inj h).symm⟩
  · cases h
theorem inv_startS {P : Program} {w : World} {K : PySem.W.Frag} {mg : Str → Option Value} {base : Heap} {N ps : List Str} {qual : Str} {scope : Scope} {f cc : Addr} {cd : Value} {A : Around} {outer : List Env} {s : Shared} {h₁ : Heap} {tk : Nat} {H : Hp} {us : List Value} {vs : List V}
    {oc : Obj} {vc : Option Value} (S : SScope N ps scope) (hd : A.handled = none) (e0 : Env0 P w K mg base A outer s H) (hl : vs.length = ps.length) (r : Vals vs us) (hcc : K.lookup cc = some oc) (hcd : oc.data = .cell vc)
    (hns : h₁.Ns s.heap.objs.size (fun x => (ps.zip us).reverse.lookup x)) (hk : ∀ b o, s.heap.get? b = some o → h₁.get? b = some o) :
    Inv (cxS P w K mg base N qual scope f cd cc A outer s H) [] (L2.start N vs) H { s with heap := h₁, toks := tk } := by
  have cb := e0.bs _ _ (e0.mod.kin _ _ hcc)
  have lps : ps.length ≤ N.length := by
    have e := congrArg List.length S.pre
    rw [List.length_take] at e
    omega
  have okX : (cxS P w K mg base N qual scope f cd cc A outer s H).Ok :=
    { mod := e0.mod, kind := S.kind, glob := rfl, blt := rfl, above := Nat.le_refl _
      inj := fun y z c h1 h2 => by rw [(one_cell h1).1, (one_cell h2).1]
      has := fun y hy => by
        rcases (show scope.names.lookup y = some .cell ∨ scope.names.lookup y = some .free from hy) with q | q
        · exact absurd rfl (S.nocell _ (PySem.mem_of_lookup q))
        · refine ⟨cc, ?_⟩
          show ([("__class__", cc)] : List (Str × Addr)).lookup y = some cc
          rw [show y = "__class__" from S.fr _ (PySem.mem_of_lookup q) rfl]
          simp [List.lookup_cons]
      cab := fun y c hf => nomatch (show false = true from hf)
      hd := fun _ => hd, frames := Around.frames_deeper e0.frames, stk := Or.inr ⟨rfl, rfl⟩
      exf := fun b hb => nomatch hb
      bs := e0.bs, bsz := e0.bsz
      noex := fun b o _ hb => nomatch hb
      exfs := fun b hb => nomatch hb
      funs := e0.funs, frf := e0.frf }
  exact
    { ok := okX, os := rfl, bare := e0.bare, base := Un.kept hk
      loc := ⟨_, hns, fun i y v h1 h2 _ => by
        have hv := slot0 h2
        obtain ⟨u, hu, rv⟩ := r.get hv
        have hi := (List.getElem?_eq_some_iff.mp hv).1
        have hp : ps[i]? = some y := by
          rw [← S.pre, List.getElem?_take, if_pos (by omega)]
          exact h1
        have ndp : ps.Nodup := S.pre ▸ S.nd.sublist (List.take_sublist _ _)
        exact ⟨u, rv, Or.inl ⟨S.par y (List.mem_of_getElem? hp), lookup_rev_zip ndp (hl.symm.trans r.length) hp hu⟩⟩⟩
      cell := fun y c h => by
        obtain ⟨_, rfl⟩ := one_cell h
        exact ⟨vc, oc, hk _ _ cb.1, hcd⟩
      free := e0.hok.fresh (Nat.le_refl _)
      freeC := fun y c h => by
        obtain ⟨_, rfl⟩ := one_cell h
        exact cb.2
      pin := fun p hp => nomatch hp
      hok := e0.hok.kept hk
      len := by
        unfold L2.start
        show _ = N.length
        simp
        omega }
theorem fn_super {P : Program} {w : World} {K : PySem.W.Frag} {mg : Str → Option Value} {base : Heap} {k : Nat} {f C : Addr} {fd : FuncData} {x qual : Str} {st : Stmt} {N ps : List Str} {sp : Sp}
    {e : Expr} {p0 p1 p2 p3 p4 : Pos} {rest : List Stmt} {ar : Arg}
    (F : FunS P K x qual st C f fd) (U : SupC K mg C) (S : SScope N ps (defScope st)) (hb0 : defBody st = .Expr (.Call (.Attribute (.Call (.Name "super" p0) [] [] p1) "__init__" p2) [e] [] p3) p4 :: rest)
    (har : ((defArgs st).posonlyargs ++ (defArgs st).args).head? = some ar) (hps : ps[0]? = some ar.arg)
    (hse : ∀ env : Env, starEach [e] env = (false, eval e env) :: starEach [] env)
    (hev : ∀ env : Env, ∃ pl : Sem Bool, eval (.Call (.Attribute (.Call (.Name "super" p0) [] [] p1) "__init__" p2) [e] [] p3) env = (do
      let ov ← attributeBase (.Call (.Name "super" p0) [] [] p1) "__init__" env (eval (.Call (.Name "super" p0) [] [] p1) env)
      standAt p2.atName
      let (f, first) ← holding [ov] (getMethod ov "__init__" pl)
      callWith p3 f first (backTo p3 (starEach [e] env)) []))
    (hsw : ∀ env : Env, swapsWith (.Call (.Attribute (.Call (.Name "super" p0) [] [] p1) "__init__" p2) [e] [] p3) none p4.line env = pure false)
    (len : ∀ vs H Q E, sp vs H Q E → vs.length = ps.length)
    (hbody : ∀ (cdv : Value) (cc : Addr) (A : Around) (outer : List Env) (s : Shared) (H : Hp) (vs : List V) (Q : VK) (E : XK), Room k (A.deeper (PySem.W.envX qual (defScope st) s.heap.objs.size f cdv [("__class__", cc)])) → sp vs H Q E →
      ∃ (a : Addr) (ta : TA) (t : TS), vs[0]? = some (.ref a) ∧ H a = some (exo a C none) ∧ PA (cxS P w K mg base N qual (defScope st) f cdv cc A outer s H) [e] ta ∧ PSs (cxS P w K mg base N qual (defScope st) f cdv cc A outer s H) rest t ∧
        ta (L2.start N vs) H fun ws H1 => ws.length ≤ 1000 ∧ H1 a = some (exo a C none) ∧ t { nx := fun _ H' => Q .non H', rt := Q } (L2.start N vs) H1) :
    FnOk P w K mg base CX0 (k + 1) f fd ps sp := by
  obtain ⟨oc, od, osl, kV, doc, pm, an, cda, ct, cc, ccl, cdd, fvs, ccs, file, tf, cl, cld, csl, rfl, lk, hcd, lcd, hvs, hfile, lcc⟩ := F.ex
  refine ⟨len, fun A outer s H args us vs Q E hr e0 hb r hsp => ?_⟩
  have hl := len _ _ _ _ hsp
  have kept : ∀ b o, base.get? b = some o → s.heap.get? b = some o := fun b o e => (e0.bs b o e).1
  have KX : K.In s.heap := e0.mod.kin.keeps kept
  have lim : s.heap.NoLimit := e0.mod.nolimit.keeps kept
  refine ks_codeAny_call_defAt (fd := PySem.W.fnX x qual (defArgs st) (defBody st) (defScope st) [("__class__", cc)] .none kV doc pm an (.ref cda) ct) (body := defBody st) (binds := ps.zip us) hr.depth (KX _ _ lk) rfl lim (PySem.W.codeRec_of KX hcd) rfl hb S.nocell
    (fun y hy => S.par y.1 (List.of_mem_zip (show (y.1, y.2) ∈ ps.zip us from hy)).1) (fun h₁ hns hk => ?_) S.co S.gen S.kind
  obtain ⟨a, ta, t, hv0, ha, pa, pr, hq⟩ := hbody (.ref cda) cc A outer s H vs Q E (hr.deeper _) hsp
  have I : Inv (cxS P w K mg base N qual (defScope st) f (.ref cda) cc A outer s H) [] (L2.start N vs) H { s with heap := h₁, toks := s.toks + (ps.zip us).length } := inv_startS S hr.hd e0 hl r lcc rfl hns hk
  show _root_.PySem.wpAt (model P w) (A.deeper (PySem.W.envX qual (defScope st) s.heap.objs.size f (.ref cda) [("__class__", cc)])) (.func (defBody st) (PySem.W.envX qual (defScope st) s.heap.objs.size f (.ref cda) [("__class__", cc)]))
    (execs (defBody st) (PySem.W.envX qual (defScope st) s.heap.objs.size f (.ref cda) [("__class__", cc)])) _ _ _
  rw [hb0]
  obtain ⟨pl, hev⟩ := hev (PySem.W.envX qual (defScope st) s.heap.objs.size f (.ref cda) [("__class__", cc)])
  refine ks_wpAt_execs_cons (ks_wpAt_Expr_any (ks_wpAt_MethodCall (pl := pl) ?_ hev) (by unfold interactive; simp [S.kind]) (hsw _))
  have X1 : K.In h₁ := KX.keeps hk
  have hmem : ar.arg ∈ ps := List.mem_of_getElem? hps
  refine ks_wpAt_super_base (env := PySem.W.envX qual (defScope st) s.heap.objs.size f (.ref cda) [("__class__", cc)]) (cc := cda) S.ksup S.kcls (by decide) rfl (X1 _ _ lk) rfl har rfl (X1 _ _ lcd) rfl hvs hfile F.top ?_
  obtain ⟨mb, b1, b2⟩ := I.ok.mod.blt
  refine PySem.W.ks_loadName_global S.kind S.ksup (PySem.Calls.loadGlobal_builtin (env := PySem.W.envX qual (defScope st) s.heap.objs.size f (.ref cda) [("__class__", cc)]) (I.ok.mod.glob.keeps I.bk) U.sup (b1.keeps I.bk) ((b2 _ (by decide +kernel)).trans (show bootBuiltins "super" = some (.type "super") by decide +kernel)) ⟨rfl, ?_⟩)
  refine wpAny_loadName_free S.kind S.kcls rfl ⟨_, X1 _ _ lcc, rfl⟩ ?_
  obtain ⟨u0, hu0, ru0⟩ := r.get hv0
  cases ru0
  have ndP : ps.Nodup := by rw [← S.pre]; exact S.nd.sublist (List.take_sublist _ _)
  refine wpAny_loadName_local S.kind (S.par _ hmem) hns (lookup_rev_zip ndP (hl.symm.trans r.length) hps hu0) ?_
  obtain ⟨cd, hcd'⟩ := U.cls
  obtain ⟨oD, hD1, hD2⟩ : ∃ oD, h₁.get? C = some oD ∧ oD.data = .cls cd := by
    have hD := hcd'
    unfold PySem.W.clsIn at hD
    split at hD
    · rename_i c d cd' sl ho
      cases hD
      exact ⟨_, X1 _ _ ho, rfl⟩
    · cases hD
  obtain ⟨t1, hx⟩ := exo_at I.hok ha
  have hx : h₁.get? a = some (HandSPX.excO C t1) := hx
  refine ks_wpAny_isType_cls hD1 hD2 ⟨rfl, ?_⟩
  refine ks_wpAny_call_super hD1 hD2 hx rfl (fun c z => by cases z) (PySem.W.looks_mroIn X1 U.self) (fun h2 e2 k2 => ?_)
  have X2 : K.In h2 := X1.keeps k2
  have IA : PySem.W.InstAt h2 a (HandSPX.excO C t1) C none := ⟨k2 _ _ hx, rfl, rfl, trivial⟩
  have hup := U.up
  unfold PySem.W.ks_superIn at hup
  rw [hcd', Option.bind_some] at hup
  refine PySem.W.kxs_getMethod PySem.W.kxs_ValueError e2 (PySem.W.looks_opaque X2 U.third) (l₀ := cd.mro) ?_ rfl X2 hup (IA.type.andThen (PySem.W.looks_mroIn X2 U.ve)) (PySem.W.ks_ne X2 IA hcd') (by decide) ?_
  · exact (PySem.W.looks_clsIn X2 hcd').andThen .now
  -- the call
  have k3 : ∀ b o, h2.get? b = some o → (h2.push (PySem.W.kxs_mw "ValueError.__init__" a)).get? b = some o := fun b o z => Heap.get?_push_of_some _ z
  have I2 : Inv (cxS P w K mg base N qual (defScope st) f (.ref cda) cc A outer s H) [] (L2.start N vs) H { s with heap := h2, toks := s.toks + (ps.zip us).length } := I.kept k2
  have I3 : Inv (cxS P w K mg base N qual (defScope st) f (.ref cda) cc A outer s H) [] (L2.start N vs) H { s with heap := h2.push (PySem.W.kxs_mw "ValueError.__init__" a), toks := s.toks + (ps.zip us).length + 1 } := I2.kept k3
  have I3 : Inv (cxS P w K mg base N qual (defScope st) f (.ref cda) cc A outer s H) [(h2.objs.size, PySem.W.kxs_mw "ValueError.__init__" a)] (L2.start N vs) H { s with heap := h2.push (PySem.W.kxs_mw "ValueError.__init__" a), toks := s.toks + (ps.zip us).length + 1 } :=
    I3.pins_of fun p hp => by
      rw [List.mem_singleton.mp hp]
      exact ⟨Heap.get?_push_size _ rfl, I2.hok.fresh (Nat.le_refl _), fun z => Nat.lt_irrefl _ (z ▸ I2.lt), I2.nofs (Nat.le_refl _), fun v z => by cases z⟩
  show wpAny _ _ (callWith p3 (.ref h2.objs.size) [] (backTo p3 (starEach [e] (PySem.W.envX qual (defScope st) s.heap.objs.size f (.ref cda) [("__class__", cc)]))) []) _ _ _
  have prun := pa.run p3 _ _ _ _ _ I3 hq
  rw [show (cxS P w K mg base N qual (defScope st) f (.ref cda) cc A outer s H).env = PySem.W.envX qual (defScope st) s.heap.objs.size f (.ref cda) [("__class__", cc)] from rfl] at prun
  rw [hse] at prun ⊢
  refine PySem.W.kxs_callWith (i := "ValueError.__init__") (x := a) rfl (PySem.Calls.evalArgs_plain (wpAny_mono prun (fun ws s4 hws => ?_) fun _ _ z => z.elim))
  obtain ⟨zs, H1, I4, r4, hz, ha1, ht⟩ := hws
  have pin := I4.pin (h2.objs.size, PySem.W.kxs_mw "ValueError.__init__" a) (by simp)
  refine ⟨pin.1, ?_⟩
  obtain ⟨nm, q, N', bs, bm, sn, sub, ab, col, dd, k0, k1, k2', k3', k5, hC, hbm⟩ := U.ex.cls
  obtain ⟨t4, hx4⟩ := exo_at I4.hok ha1
  obtain ⟨hp4, g4, d4, tk4, os4⟩ := s4
  refine call_mw (I4.kIn _ _ hC) hx4 pin.1 (by show ws.length ≤ sizeLine; rw [← r4.length, sizeLine_eq]; omega) fun h5 t5 k5' hx5 => ?_
  have J := I4.write (t' := tk4) (x := a) (e := a) (o := exo a C none) (by rw [ha1]; exact True.intro) (.inl rfl) k5' ⟨_, hx5⟩ (exo_ok hx5)
  have eu : upd H1 a (exo a C none) = H1 := by
    funext b
    by_cases hb : b = a
    · rw [hb, upd_same, ha1]
    · rw [upd_ne hb]
  rw [eu] at J
  have J0 := J.pins_of (pins' := []) fun p hp => (nomatch hp)
  refine wpAt_of_wpAny (wpAny_mono (pr.run [] _ _ _ _ J0 ht) (fun fl s' hs => ?_) fun _ _ z => z.elim)
  cases fl with
  | ret u =>
    obtain ⟨v, σ', H', J', rv, q'⟩ := hs
    exact ⟨v, H', J'.os, J'.bare, J'.base, J'.hok, rv, q'⟩
  | next =>
    obtain ⟨σ', H', J', q'⟩ := hs
    exact ⟨V.non, H', J'.os, J'.bare, J'.base, J'.hok, rfl, q'⟩
  | brk => exact hs.elim fun _ h => h.elim fun _ h => h.2.elim
  | cont => exact hs.elim fun _ h => h.elim fun _ h => h.2.elim
end PK
/-! Heaps together, what is above, what lacks. -/
namespace PK
open PySem PySem.Spec PyProof.Rows L2
/-- of this form, and of this shade where one is told -/
def sel (f : Str) (o : Option Str) (r : PRow) : Bool := decide (r.1 = f) && match o with
  | none => true
  | some t => decide (r.2.1 = t)
def selL (L : List PRow) (f : Str) (o : Option Str) : List Int := (L.filter (sel f o)).map fun r => r.2.2
def manyR (L : List PRow) (f : Str) (o : Option Str) : Int := (selL L f o).sum
theorem selL_snoc {L : List PRow} {i : Nat} {r : PRow} (h : L[i]? = some r) (f : Str) (o : Option Str) : selL (L.take (i + 1)) f o = selL (L.take i) f o ++ if sel f o r = true then [r.2.2] else [] := by
  unfold selL
  rw [take_snoc h, List.filter_append, List.map_append]
  congr 1
  by_cases e : sel f o r = true
  · rw [if_pos e, List.filter_cons_of_pos e]
    rfl
  · rw [if_neg e, List.filter_cons_of_neg e]
    rfl
theorem selL_len (L : List PRow) (f : Str) (o : Option Str) : (selL L f o).length ≤ L.length := by
  unfold selL
  rw [List.length_map]
  exact List.length_filter_le _ _
theorem manyR_cnt (L : List PRow) (k : PKey) : manyR L k.1 (some k.2) = cnt L k := by
  rw [← ofPart_sum k L]
  unfold manyR selL ofPart
  congr 2
  refine List.filter_congr fun r _ => ?_
  show (decide (r.1 = k.1) && decide (r.2.1 = k.2)) = decide (pk r = k)
  by_cases e1 : r.1 = k.1
  · by_cases e2 : r.2.1 = k.2
    · have : pk r = k := Prod.ext e1 e2
      simp [e1, e2, this]
    · have : ¬ pk r = k := fun z => e2 (congrArg Prod.snd z)
      simp [e2, this]
  · have : ¬ pk r = k := fun z => e1 (congrArg Prod.fst z)
    simp [e1, this]
/-- what the one has more than the other -/
def above1 (M : List PRow) (r : PRow) : Option PRow := if 0 < r.2.2 - cnt M (pk r) then some (r.1, r.2.1, r.2.2 - cnt M (pk r)) else none
def aboveR (L M : List PRow) : List PRow := L.filterMap (above1 M)
theorem aboveR_snoc {L M : List PRow} {i : Nat} {r : PRow} (h : L[i]? = some r) : aboveR (L.take (i + 1)) M = aboveR (L.take i) M ++ if 0 < r.2.2 - cnt M (pk r) then [(r.1, r.2.1, r.2.2 - cnt M (pk r))] else [] := by
  unfold aboveR
  rw [take_snoc h, List.filterMap_append]
  congr 1
  rw [List.filterMap_cons]
  unfold above1
  by_cases e : 0 < r.2.2 - cnt M (pk r)
  · rw [if_pos e, if_pos e]
    rfl
  · rw [if_neg e, if_neg e]
    rfl
theorem aboveR_len (L M : List PRow) : (aboveR L M).length ≤ L.length := List.length_filterMap_le _ _
theorem aboveR_mem {L M : List PRow} {q : PRow} (h : q ∈ aboveR L M) : ∃ r ∈ L, pk q = pk r ∧ q.2.2 = r.2.2 - cnt M (pk r) ∧ 0 < q.2.2 := by
  obtain ⟨r, hr, e⟩ := List.mem_filterMap.mp h
  unfold above1 at e
  split at e
  · rename_i z
    cases e
    exact ⟨r, hr, rfl, rfl, z⟩
  · cases e
theorem aboveR_ok {n m : Nat} {b c : Int} {L M : List PRow} (hL : RowsOk n b L) (hM : RowsOk m c M) : RowsOk n b (aboveR L M) := by
  refine ⟨Nat.le_trans (aboveR_len L M) hL.len, fun q hq => ?_⟩
  obtain ⟨r, hr, e1, e2, h0⟩ := aboveR_mem hq
  have okr := hL.each r hr
  have hn := cnt_nn hM (pk r)
  have hi := okr.hi
  have f1 : q.1 = r.1 := congrArg (fun k : PKey => k.1) e1
  have f2 : q.2.1 = r.2.1 := congrArg (fun k : PKey => k.2) e1
  exact ⟨by rw [f1]; exact okr.f, by rw [f2]; exact okr.s, by omega, by omega⟩
theorem aboveR_cnt {L M N : List PRow} (h : ∀ k, cnt M k = cnt N k) : aboveR L M = aboveR L N := by
  unfold aboveR
  refine congrArg (fun f => L.filterMap f) (funext fun r => ?_)
  unfold above1
  rw [h]
theorem rises_above {L M : List PRow} (h : Rises (L.map fun r => pkD (pk r))) : Rises ((aboveR L M).map fun r => pkD (pk r)) := by
  unfold Rises at h ⊢
  rw [List.pairwise_map] at h ⊢
  unfold aboveR
  refine List.pairwise_filterMap.mpr (h.imp fun {a b} z a' ha b' hb => ?_)
  unfold above1 at ha hb
  split at ha
  · split at hb
    · cases ha
      cases hb
      exact z
    · cases hb
  · cases ha
/-- rising rows are their own sums -/
theorem sumR_id {M : List PRow} (h : Rises (M.map fun r => pkD (pk r))) : sumR M = M := by
  symm
  refine sumR_of h (fun k => Iff.rfl) fun r hr => ?_
  have nd : (M.map pk).Nodup := by
    unfold Rises at h
    rw [List.pairwise_map] at h
    unfold List.Nodup
    rw [List.pairwise_map]
    refine h.imp fun {a b} z e => ?_
    rw [e, dlt_irr] at z
    cases z
  clear h
  induction M with
  | nil => cases hr
  | cons q M ih =>
    rw [List.map_cons] at nd
    obtain ⟨n1, n2⟩ := List.nodup_cons.mp nd
    rw [cnt_cons]
    rcases List.mem_cons.mp hr with e | e
    · subst e
      rw [if_pos rfl, cnt_none n1]
      omega
    · have hne : ¬ pk q = pk r := fun z => n1 (by rw [z]; exact List.mem_map.mpr ⟨r, e, rfl⟩)
      rw [if_neg hne, ← ih e n2]
      omega
theorem sumR_rises (L : List PRow) : Rises ((sumR L).map fun r => pkD (pk r)) := by
  have e : ((sumR L).map fun r => pkD (pk r)) = ((sumR L).map pk).map pkD := by rw [List.map_map]; rfl
  rw [e, sumR_keys]
  exact skeys_rises L
theorem sumR_plus (L M : List PRow) : sumR (sumR L ++ sumR M) = sumR (L ++ M) := by
  refine sumR_congr (fun k => ?_) fun k => ?_
  · rw [List.map_append, List.map_append, List.mem_append, List.mem_append, sumR_keys, sumR_keys, mem_skeys, mem_skeys]
  · rw [cnt_app, cnt_app, cnt_sumR, cnt_sumR]
/-! ### what the methods promise -/
def spManyM (K : PySem.W.Frag) (C : Addr) : Sp := fun vs H Q _ => ∃ (p : Addr) (f : Str) (x : V) (o : Option Str) (L : List PRow), vs = [.ref p, .str f, x] ∧ HeapAt K C H p L ∧ L.length ≤ 900 ∧
  ((x = .non ∧ o = none) ∨ ∃ t, x = .str t ∧ o = some t) ∧ ∀ H' : Hp, Same H H' → Q (.int (manyR L f o)) H'
def spAbove (K : PySem.W.Frag) (C : Addr) : Sp := fun vs H Q _ => ∃ (p q : Addr) (L M : List PRow), vs = [.ref p, .ref q] ∧ HeapAt K C H p L ∧ HeapAt K C H q M ∧ L.length ≤ 900 ∧ M.length ≤ 900 ∧
  ∀ (v : V) (H' : Hp), Same H H' → Dp K H' v (rowsD (aboveR L M)) → Q v H'
def spPlus (K : PySem.W.Frag) (C : Addr) : Sp := fun vs H Q _ => ∃ (p q : Addr) (L M : List PRow), vs = [.ref p, .ref q] ∧ HeapAt K C H p L ∧ HeapAt K C H q M ∧ L.length + M.length ≤ 900 ∧
  ∀ (r : Addr) (H' : Hp), H r = none → Same H H' → HeapAt K C H' r (sumR (L ++ M)) → Q (.ref r) H'
def spHolds (K : PySem.W.Frag) (C : Addr) : Sp := fun vs H Q _ => ∃ (p q : Addr) (L M : List PRow) (n : Nat) (b : Int), vs = [.ref p, .ref q] ∧ HeapAt K C H p L ∧ HeapAt K C H q M ∧ RowsOk n b L ∧ RowsOk n b M ∧ n ≤ 900 ∧
  ∀ H' : Hp, Same H H' → Q (.bl (decide (aboveR M L = []))) H'
/-- an error with the one field -/
def spErr1 (C : Addr) (f : Str) : Sp := fun vs H Q _ => ∃ (a : Addr) (v : V), vs = [.ref a, v] ∧ H a = some (exo a C none) ∧
  ∀ (dx : Addr), H dx = none → dx ≠ a → Q .non (upd (upd H dx (exd dx [(f, v)])) a (exo a C (some dx)))
def spLess (K : PySem.W.Frag) (C CN : Addr) : Sp := fun vs H Q E => ∃ (p q : Addr) (L M : List PRow) (n : Nat) (b : Int), vs = [.ref p, .ref q] ∧ HeapAt K C H p L ∧ HeapAt K C H q M ∧ RowsOk n b L ∧ RowsOk n b M ∧ n ≤ 900 ∧
  Rises (L.map fun r => pkD (pk r)) ∧ Rises (M.map fun r => pkD (pk r)) ∧
  (aboveR M L = [] → ∀ (r : Addr) (H' : Hp), H r = none → Same H H' → HeapAt K C H' r (aboveR L M) → Q (.ref r) H') ∧
  (aboveR M L ≠ [] → ∀ (r d : Addr) (H' : Hp), H d = none → Same H H' → HeapAt K C H' r (aboveR M L) → H' d = some (.xd [("lacking", .ref r)]) → E (.ref CN) (some d) H')
/-- rows == (), rows != () -/
theorem rows_shaped {n : Nat} {b : Int} {L : List PRow} (h : RowsOk n b L) : SeqAt.shaped (rowsD L) = true := by
  have hc : PyData.canLayAll0 (L.map prowD) = true := by
    have all := h.each
    clear h
    induction L with
    | nil => rfl
    | cons r L ih =>
      rw [List.map_cons]
      show (PyData.canLay0 (prowD r) && PyData.canLayAll0 (L.map prowD)) = true
      rw [ih fun q hq => all q (List.mem_cons_of_mem _ hq)]
      have okr := all r List.mem_cons_self
      simp [prowD, PyData.canLay0, PyData.canLayAll0, word_ok okr.f, word_ok okr.s]
  have hd : (rowsD L).depth ≤ 64 := by
    have : PyData.depthAll (L.map prowD) ≤ 63 := depthAll_le fun d hd => by
      obtain ⟨r, _, rfl⟩ := List.mem_map.mp hd
      show 1 ≤ 63
      decide
    show PyData.depthAll (L.map prowD) + 1 ≤ 64
    omega
  unfold SeqAt.shaped
  rw [show (rowsD L).canLay0 = true from by simpa [rowsD, PyData.canLay0] using hc, decide_eq_true hd]
  rfl
theorem rows_alike (L M : List PRow) : PySem.W.alike (rowsD L) (rowsD M) = true := by
  show PySem.W.alikeAll (L.map prowD) (M.map prowD) = true
  induction L generalizing M with
  | nil => simp [PySem.W.alikeAll]
  | cons r L ih =>
    cases M with
    | nil => simp [PySem.W.alikeAll]
    | cons q M =>
      rw [List.map_cons, List.map_cons, PySem.W.alikeAll, ih]
      simp [prowD, PySem.W.alike, PySem.W.alikeAll]
theorem prowD_inj {a b : PRow} (h : prowD a = prowD b) : a = b := by
  unfold prowD at h
  injection h with h
  injection h with h1 h
  injection h with h2 h
  injection h with h3 _
  injection h1 with h1
  injection h2 with h2
  injection h3 with h3
  exact Prod.ext h1 (Prod.ext h2 h3)
theorem rowsD_inj {L M : List PRow} (h : rowsD L = rowsD M) : L = M := by
  unfold rowsD at h
  injection h with h
  exact (List.map_inj_right fun a b => prowD_inj).mp h
theorem rows_eqv (L M : List PRow) : PyData.eqv (rowsD L) (rowsD M) = decide (L = M) := by
  by_cases e : L = M
  · subst e
    rw [decide_eq_true rfl]
    exact eqv_refl _ (flat_rows L)
  · rw [decide_eq_false e]
    exact eqv_false (rows_alike L M) fun z => e (rowsD_inj z)
end PK
/-! Sets of texts: made by a comprehension, sorted. -/
namespace PK
open PySem PySem.Spec PyProof.Rows L2
/-- the set at a holds just the texts l, each once -/
def SetTx (P : Program) (w : World) (h : Heap) (a : Addr) (l : List Str) : Prop := ∃ D : Froz.SD, h.get? a = some (Froz.sObj "set" D) ∧ Froz.TxOk P w D l ∧ Ris D.2.2.place.toList ∧ (w.params.followText "set-order" = true ∨ D.2.2.led = true)
def SetTO (P : Program) (w : World) (a : Addr) (l : List Str) : HO := .ext fun h => SetTx P w h a l
/-- one more -/
def ins (k : Str) (l : List Str) : List Str := if k ∈ l then l else k :: l
theorem setTO_ok {P : Program} {w : World} {H : Hp} {h : Heap} {a : Addr} {l : List Str} (R : SetTx P w h a l) : ObjOk P w H h a (SetTO P w a l) := by
  obtain ⟨D, hD, r⟩ := id R
  exact ⟨R, ⟨_, hD⟩, fun h1 h2 z st => by
    obtain ⟨D', e, q⟩ := z
    exact ⟨D', st _ e, q⟩⟩
section
variable {P : Program} {w : World} {A : Around} {E : Value → Shared → Prop} {s : Shared}
theorem tail_both {ep : Nat} {es1 : Array (Int × Value)} {t2 : SetTable} {b : Bool} (r : Ris t2.place.toList) : Ris (Froz.tailTx ep es1 t2 b).2.2.place.toList ∧ (Froz.tailTx ep es1 t2 b).2.2.led = t2.led := by
  unfold Froz.tailTx
  by_cases c : (!b && t2.tooFull) = true
  · rw [if_pos c]
    exact ⟨relayAll_ris _ _ _, relayAll_led _ _ _⟩
  · rw [if_neg c]
    exact ⟨r, rfl⟩
theorem addTx_both {h : Int} {v : Value} {D : Froz.SD} (r : Ris D.2.2.place.toList) : Ris (Froz.addTx h v D).2.2.place.toList ∧ (Froz.addTx h v D).2.2.led = D.2.2.led := by
  have r1 := layNew_ris D.2.2 D.1 h v r
  have r2 := layNew_led D.2.2 D.1 h v
  unfold Froz.addTx
  by_cases c : (layNew D.2.2 D.1 h v).2.1.plain = true
  · rw [if_pos c, ← r2]
    exact tail_both r1
  · rw [if_neg c, ← r2]
    exact tail_both r1
/-- a text that is in it already -/
theorem add_old {a : Addr} {T : String} {D : Froz.SD} {l : List Str} {k : Str} {u : Tok} {Q : Bool → Shared → Prop} (ho : s.heap.get? a = some (Froz.sObj T D)) (F : Froz.TxOk P w D l) (hk : k ∈ l) (hb : l.length < scanBound)
    (h : Q false s) : wpAny (model P w) A (setAddHashed a (.str k u) (hashStr w k)) Q E s := by
  obtain ⟨es, ep, t⟩ := D
  have key : (strKind P w).is k (.str k u) = true := Froz.is_str k u
  obtain ⟨e, he, hp⟩ := (F.mem k).mp hk
  have found : ∃ j, List.findIdx? (fun e => (strKind P w).is k e.2) es.toList = some j := by
    cases z : List.findIdx? (fun e => (strKind P w).is k e.2) es.toList with
    | some j => exact ⟨j, rfl⟩
    | none =>
      have := List.findIdx?_eq_none_iff.mp z e he
      rw [hp] at this
      cases this
  obtain ⟨j, hj⟩ := found
  have small : es.size < scanBound := Nat.lt_of_le_of_lt (Nat.le_of_eq F.sz) hb
  have fit : t.fits es.size = true := F.fit
  have el : ElemsOf (strKind P w) es.toList := F.el
  unfold setAddHashed setAddHashedIn
  refine wpAny_holding (wpAny_bind (wpAny_setState_of (es := es) (ep := ep) (t := t) ho rfl fit ?_))
  dsimp only
  rw [byScan_of rfl small el]
  simp only [↓reduceIte]
  unfold setAddByScan
  refine wpAny_bind (wpAny_bind (wpAny_rule (wpAny_bind (wpAny_setScan_of (es := es) (ep := ep) (t := t) (knd := strKind P w) (k := k) key ho rfl fit el ?_))))
  rw [hj]
  exact wpAny_pure (wpAny_pure h)
/-- found.add(k) -/
theorem setTx_add {a : Addr} {l : List Str} {k : Str} {u : Tok} {Q : Value → Shared → Prop} (R : SetTx P w s.heap a l) (hb : l.length + 1 < scanBound)
    (h : ∀ h', Heap.SameBut a s.heap h' → SetTx P w h' a (ins k l) → Q .none { s with heap := h', toks := s.toks + 1 }) :
    wpAny (model P w) A (call (.builtin "set.add") [.ref a, .str k u]) Q E s := by
  obtain ⟨D, hD, F', r, led⟩ := R
  have ty : s.TypeIs (.ref a) "set" := ⟨_, hD, rfl⟩
  refine wpAny_call_entry F.slot_set_add ty F.entry_set_add ?_ (F.args_set_add_2 _ _)
  unfold Builtin.«set.add» Builtin.Frozenset.oneOther
  simp only [List.isEmpty_nil, bind_assoc]
  unfold Builtin.Frozenset.addrOf setAdd
  refine wpAny_bind (wpAny_pure (wpAny_bind (wpAny_pure (wpAny_bind (wpAny_holding (wpAny_bind ((strKind P w).pyHash (Froz.is_str k u) ?_)))))))
  by_cases hk : k ∈ l
  · refine add_old (s := { s with toks := s.toks + 1 }) hD F' hk (by omega) (wpAny_pure ⟨_, rfl, h s.heap (Heap.SameBut.refl a _) ?_⟩)
    unfold ins
    rw [if_pos hk]
    exact ⟨D, hD, F', r, led⟩
  · refine Froz.add_x (s := { s with toks := s.toks + 1 }) hD F' hk hb (wpAny_pure ⟨_, rfl, h _ (Heap.SameBut.update ..) ?_⟩)
    unfold ins
    rw [if_neg hk]
    exact ⟨_, Heap.get?_update_self _ hD rfl, Froz.add_ok u F', (addTx_both r).1, led.imp id fun z => by rw [(addTx_both r).2]; exact z⟩
theorem setTx_new {h : Heap} : SetTx P w (h.push { cls := .type "set", dict := none, data := .set #[] 0 (.fresh 0 0 (!w.params.followText "set-order")) }) h.objs.size [] := by
  refine ⟨(#[], 0, .fresh 0 0 (!w.params.followText "set-order")), Heap.get?_push_size _ rfl, Froz.TxOk.nil (by cases w.params.followText "set-order" <;> rfl), ?_, ?_⟩
  · exact ris_range 0
  · cases w.params.followText "set-order"
    · exact Or.inr rfl
    · exact Or.inl rfl
end
/-! ### members -/
theorem ins_nodup {k : Str} {l : List Str} (h : l.Nodup) : (ins k l).Nodup := by
  unfold ins
  split
  · exact h
  · rename_i z
    exact List.nodup_cons.mpr ⟨z, h⟩
theorem mem_ins {k y : Str} {l : List Str} : y ∈ ins k l ↔ y = k ∨ y ∈ l := by
  unfold ins
  split
  · rename_i z
    constructor
    · exact Or.inr
    · rintro (rfl | h)
      · exact z
      · exact h
  · exact List.mem_cons
theorem ins_len {k : Str} {l : List Str} : (ins k l).length ≤ l.length + 1 := by
  unfold ins
  split
  · exact Nat.le_succ _
  · exact Nat.le_refl _
theorem perm_of_sub : ∀ {l m : List Str}, l.Nodup → (∀ y ∈ l, y ∈ m) → m.length = l.length → l.Perm m
  | [], m, _, _, hl => by
    have : m = [] := List.eq_nil_of_length_eq_zero hl
    rw [this]
  | k :: t, m, nd, sub, hl => by
    obtain ⟨n1, n2⟩ := List.nodup_cons.mp nd
    have hk := sub k List.mem_cons_self
    have p := List.perm_cons_erase hk
    refine (List.Perm.cons k (perm_of_sub n2 (fun y hy => ?_) ?_)).trans p.symm
    · exact (List.mem_erase_of_ne (fun e => n1 (by rw [← e]; exact hy))).mpr (sub y (List.mem_cons_of_mem _ hy))
    · have := p.length_eq
      rw [List.length_cons] at this hl
      omega
/-- the texts of the entries -/
theorem texts_of {P : Program} {w : World} : ∀ {es : List (Int × Value)}, ElemsOf (strKind P w) es → ∃ ks : List Str, ks.length = es.length ∧ Vals (ks.map V.str) (es.map (·.2)) ∧ ∀ k, k ∈ ks ↔ ∃ e ∈ es, (strKind P w).is k e.2 = true
  | [], _ => ⟨[], rfl, .nil, fun k => ⟨fun h => (nomatch h), fun ⟨e, h, _⟩ => (nomatch h)⟩⟩
  | e :: es, h => by
    obtain ⟨ks, h1, h2, h3⟩ := texts_of h.tail
    obtain ⟨⟨k, hk, _⟩, _⟩ := h.head
    obtain ⟨t, et⟩ := Value.isStrOf_shape (x := k) (v := e.2) hk
    refine ⟨k :: ks, by rw [List.length_cons, List.length_cons, h1], ?_, fun y => ?_⟩
    · exact .cons ⟨t, et⟩ h2
    · rw [List.mem_cons, h3 y]
      constructor
      · rintro (rfl | ⟨e', he, q⟩)
        · exact ⟨e, List.mem_cons_self, hk⟩
        · exact ⟨e', List.mem_cons_of_mem _ he, q⟩
      · rintro ⟨e', he, q⟩
        rcases List.mem_cons.mp he with rfl | he
        · exact Or.inl ((strKind P w).inj _ _ _ q hk)
        · exact Or.inr ⟨e', he, q⟩
/-- texts in order -/
def sortS (l : List Str) : List Str := srt false PyData.str l
theorem str_alike (a b : Str) : PySem.W.alike (PyData.str a) (PyData.str b) = true := by simp [PySem.W.alike]
theorem str_rises {l : List Str} (h : l.Nodup) : Rises ((sortS l).map PyData.str) := by
  refine srt_rises (PySem.W.AllAlike.of str_alike) ?_
  unfold List.Nodup at h ⊢
  exact List.pairwise_map.mpr (h.imp fun {a b} q e => q (by injection e))
theorem sortS_of {l ys : List Str} (hl : l.Nodup) (h : Rises (ys.map PyData.str)) (hm : ∀ y, y ∈ ys ↔ y ∈ l) : ys = sortS l := by
  have e := rises_ext h (str_rises hl) fun d => by
    rw [List.mem_map, List.mem_map]
    constructor
    · rintro ⟨y, hy, rfl⟩
      exact ⟨y, (srt_perm false _ l).mem_iff.mpr ((hm y).mp hy), rfl⟩
    · rintro ⟨y, hy, rfl⟩
      exact ⟨y, (hm y).mpr ((srt_perm false _ l).mem_iff.mp hy), rfl⟩
  exact (List.map_inj_right fun a b q => by injection q).mp e
/-! ### sorted -/
section
variable {X : Cx}
def rSrtSet (P : Program) (w : World) : List V → Hp → VK → Prop := fun vs H Q => ∃ (a : Addr) (l : List Str), vs = [.ref a] ∧ H a = some (SetTO P w a l) ∧ l.Nodup ∧ l.length < scanBound ∧ l.length ≤ 1000 ∧
  ∀ p, H p = none → Q (.ref p) (upd H p (.lst ((sortS l).map V.str)))
theorem call_srtSet {k : Nat} (hc : X.calm = true) (hr : Room k X.A) : CallR X (.builtin "sorted") (rSrtSet X.prog X.w) := by
  intro pins s σ H vs us Q I r h
  obtain ⟨a, l, rfl, ha, nd, hb, hz, q⟩ := h
  rw [Vals.ref1 r]
  obtain ⟨D, hD, F', hris, hled⟩ := (I.hok a _ ha).1
  have hu := hr.un
  refine Calls.call_function_entry PyProof.Rows.kind_sorted PyProof.Rows.plain_sorted PyProof.Rows.entry_sorted (PyProof.Rows.args_sorted1 _) ?_
  unfold Builtin.«sorted»
  refine wpAny_bind (m := checkCount "sorted" 1 1 _) (wpAny_pure ?_)
  have fit : D.2.2.fits D.1.size = true := F'.fit
  refine wpAny_bind (collect_set (A := X.A.in1) (I.ok.hd hc) ⟨_, hD, rfl, rfl⟩ fit (Nat.lt_of_le_of_lt (Nat.le_of_eq F'.sz) hb) hris hled fun s1 out kp big hg ho perm => ?_)
  have I1 : Inv X pins σ H s1 := I.call' (ch := []) ho (Un.kept kp) (I.hok.kept kp) (by rw [hg]; exact I.bare) (fun _ z => (nomatch z))
  obtain ⟨ks0, hk1, hk2, hk3⟩ := texts_of F'.el
  -- in the order in which they came
  obtain ⟨ks, kperm, kvals⟩ : ∃ ks : List Str, ks.Perm ks0 ∧ Vals (ks.map V.str) out := by
    have gen : ∀ {us vs : List Value}, us.Perm vs → ∀ {ys : List Str}, Vals (ys.map V.str) vs → ∃ zs : List Str, zs.Perm ys ∧ Vals (zs.map V.str) us := by
      intro us vs p
      induction p with
      | nil => intro ys h; exact ⟨ys, List.Perm.refl _, h⟩
      | @cons x l1 l2 _ ih =>
        intro ys h
        cases ys with
        | nil => cases h
        | cons y ys =>
          cases h with
          | cons h1 h2 =>
            obtain ⟨zs, p1, p2⟩ := ih h2
            exact ⟨y :: zs, p1.cons y, .cons h1 p2⟩
      | @swap x y l1 =>
        intro ys h
        match ys, h with
        | y1 :: y2 :: ys, .cons h1 (.cons h2 h3) => exact ⟨y2 :: y1 :: ys, List.Perm.swap _ _ _, .cons h2 (.cons h1 h3)⟩
      | trans _ _ i1 i2 =>
        intro ys h
        obtain ⟨zs, p1, p2⟩ := i2 h
        obtain ⟨ws, p3, p4⟩ := i1 p2
        exact ⟨ws, p3.trans p1, p4⟩
    exact gen perm hk2
  have lperm : l.Perm ks := (perm_of_sub nd (fun y hy => (hk3 y).mpr ((F'.mem y).mp hy)) (by rw [hk1, Array.length_toList]; exact F'.sz)).trans kperm.symm
  have lks : ks.length = l.length := lperm.length_eq.symm
  have lout : out.length = ks.length := by rw [← kvals.length, List.length_map]
  let B : List (V × PyData) := ks.map fun y => (V.str y, PyData.str y)
  have b1 : B.map (·.1) = ks.map V.str := by rw [List.map_map]; rfl
  have b2 : B.map (fun b : V × PyData => b.2) = ks.map PyData.str := by rw [List.map_map]; rfl
  have e : PySem.W.EachIs (fun v (b : V × PyData) => RelV b.1 v) out B := each_vals (by rw [b1]; exact kvals)
  have hdp : ∀ b ∈ B, Dp X.K H b.1 b.2 := fun b hb => by
    obtain ⟨y, _, rfl⟩ := List.mem_map.mp hb
    exact .str y
  obtain ⟨h1, g1, d1, t1, os1⟩ := s1
  have er := each_reads I1 e hdp
  have al : PySem.W.AllAlike (B.map fun b : V × PyData => b.2) := by rw [b2]; exact PySem.W.AllAlike.of str_alike
  have so : PySem.W.Sortable (B.map fun b : V × PyData => b.2) := by
    rw [b2]
    exact PySem.W.Sortable.others fun y => ⟨fun z => (nomatch z), fun xs z => (nomatch z)⟩
  refine wpAny_bind (wpAny_newList ?_ (by rw [lout, lks, sizeLine_eq]; omega))
  have hoL : (h1.push (seqObj "list" out.toArray 0)).get? h1.objs.size = some (seqObj "list" out.toArray 0) := Heap.get?_push_size _ rfl
  show wpAny _ _ _ _ _ ⟨h1.push (seqObj "list" out.toArray 0), g1, d1, t1, os1⟩
  have er' : PySem.W.EachIs (fun v (b : V × PyData) => ∃ as, Reads (PySem.W.sortingHeap (h1.push (seqObj "list" out.toArray 0)) h1.objs.size out) v b.2 as) out B :=
    er.mono fun v b ⟨as, rd⟩ => ⟨as, PyProof.Rows.Reads.keeps (fun b o eo => PySem.W.sortingHeap_old (Nat.ne_of_lt (Heap.lt_size eo)) (Heap.get?_push_of_some _ eo)) rd⟩
  refine wpAny_bind (wpAny_holding (wpAny_call_entry PyProof.Rows.slot_list_sort ⟨_, hoL, rfl⟩ PyProof.Rows.entry_list_sort
    (PySem.W.list_sort_vals (κ := PySem.W.dataKind (PySem.W.sortingHeap (h1.push (seqObj "list" out.toArray 0)) h1.objs.size out) (B.map fun b : V × PyData => b.2)) (s := ⟨h1.push (seqObj "list" out.toArray 0), g1, d1, t1, os1⟩) hoL
      (PySem.W.SortsAt.data (s := ⟨PySem.W.sortingHeap (h1.push (seqObj "list" out.toArray 0)) h1.objs.size out, g1, d1, t1, os1⟩)
        (PySem.W.each_map (R := fun v d => ∃ as, Reads (PySem.W.sortingHeap (h1.push (seqObj "list" out.toArray 0)) h1.objs.size out) v d as) (fun b : V × PyData => b.2) er') al so
        (PySem.W.bound_map fun b hb => by
          obtain ⟨y, _, rfl⟩ := List.mem_map.mp hb
          show X.A.units + 2 + 0 < _
          omega)) (by rw [lout, lks, sizeLine_eq]; omega) ⟨_, rfl, ?_⟩)
    (PyProof.Rows.args_list_sort _)))
  have eo := PySem.W.sortVals_data (enc := fun b : V × PyData => b.2) false e er' al
  generalize PySem.W.sortVals (PySem.W.dataKind (PySem.W.sortingHeap (h1.push (seqObj "list" out.toArray 0)) h1.objs.size out) (B.map fun b : V × PyData => b.2)) false out out = res at eo
  obtain ⟨e', he'⟩ := PyProof.Rows.sortedHeap_at (vs := out) (out := res.toArray) hoL
  have vres := vals_each eo
  -- what has come out
  have hys : (B.mergeSort (PySem.W.dataLe false fun b : V × PyData => b.2)).map (·.1) = (sortS l).map V.str := by
    have bp : (srt false (fun b : V × PyData => b.2) B).Perm B := srt_perm _ _ _
    have hd2 : (srt false (fun b : V × PyData => b.2) B).map (·.2) = (sortS l).map PyData.str := by
      have nk : ks.Nodup := lperm.nodup_iff.mp nd
      have r1 : Rises ((srt false (fun b : V × PyData => b.2) B).map (·.2)) := srt_rises al (by
        rw [b2]
        unfold List.Nodup at nk ⊢
        exact List.pairwise_map.mpr (nk.imp fun {a b} q e => q (by injection e)))
      refine rises_ext r1 (str_rises nd) fun d => ?_
      rw [(bp.map _).mem_iff, b2, List.mem_map, List.mem_map]
      constructor
      · rintro ⟨y, hy, rfl⟩
        exact ⟨y, (srt_perm false _ l).mem_iff.mpr (lperm.mem_iff.mpr hy), rfl⟩
      · rintro ⟨y, hy, rfl⟩
        exact ⟨y, lperm.mem_iff.mp ((srt_perm false _ l).mem_iff.mp hy), rfl⟩
    have shape : ∀ b ∈ srt false (fun b : V × PyData => b.2) B, ∃ y, b = (V.str y, PyData.str y) := fun b hb => by
      obtain ⟨y, _, rfl⟩ := List.mem_map.mp (bp.mem_iff.mp hb)
      exact ⟨y, rfl⟩
    show (srt false (fun b : V × PyData => b.2) B).map (·.1) = _
    generalize srt false (fun b : V × PyData => b.2) B = Z at hd2 shape
    generalize sortS l = ys at hd2
    clear vres eo he' er' so al er hdp e b2 b1 bp
    induction Z generalizing ys with
    | nil =>
      cases ys with
      | nil => rfl
      | cons => cases hd2
    | cons z Z ih =>
      cases ys with
      | nil => cases hd2
      | cons y ys =>
        rw [List.map_cons, List.map_cons] at hd2
        injection hd2 with d1' d2'
        obtain ⟨y', rfl⟩ := shape z List.mem_cons_self
        injection d1' with d1'
        subst d1'
        rw [List.map_cons, List.map_cons, ih (fun b hb => shape b (List.mem_cons_of_mem _ hb)) ys d2']
  rw [hys] at vres
  refine wpAny_pure ⟨_, rfl, .ref h1.objs.size, upd H h1.objs.size (.lst ((sortS l).map V.str)), I1.laid (t' := t1) (fun b u e => ?_) (Nat.le_refl _)
    (show ObjOk X.prog X.w _ _ _ (.lst ((sortS l).map V.str)) from ⟨?_, res, e', vres, he'⟩), rfl, q _ (I1.hok.fresh (Nat.le_refl _))⟩
  · have hb : b < h1.objs.size := Heap.lt_size e
    rw [PyProof.Rows.sortedHeap_old (Nat.ne_of_lt hb) (by rw [size_push']; exact Nat.lt_succ_of_lt hb)]
    exact Heap.get?_push_of_some _ e
  · rw [List.length_map]
    unfold sortS
    rw [(srt_perm false _ l).length_eq, sizeLine_eq]
    omega
end
end PK
/-! {text for target in iter}. -/
namespace PK
open PySem PySem.Spec PyProof.Rows L2
section
variable {X : Cx} {pins : List (Addr × Obj)} {σ : L2.St} {H : Hp} {s : Shared}
theorem addT_ok {E : Value → Shared → Prop} {D : Addr} {l : List Str} {k : Str} {v : Value} {Q : Value → Shared → Prop} (I : Inv X pins σ H s) (hD : H D = some (SetTO X.prog X.w D l)) (hb : l.length + 1 < scanBound) (r : RelV (.str k) v)
    (h : ∀ s', Inv X pins σ (upd H D (SetTO X.prog X.w D (ins k l))) s' → Q .none s') : wpAny (model X.prog X.w) X.A (call (.builtin "set.add") [.ref D, v]) Q E s := by
  obtain ⟨u, rfl⟩ := r
  refine setTx_add (I.hok D _ hD).1 hb fun h' sb new => ?_
  obtain ⟨D', e, _⟩ := id new
  exact h _ (I.write (e := D) (t' := s.toks + 1) (by rw [hD]; trivial) (.inl rfl) (fun b o hb ho => (sb.2 b hb).trans ho) ⟨_, e⟩ (setTO_ok new))
/-- what the turns are to keep: W, by the turn and a number that falls -/
def tScT (P : Program) (w : World) (wi : TI) (g : TG) (te : TE) (vs : List Nat) : TE := fun σ H Q => wi σ H fun J H1 => ∀ D, H1 D = none → ∃ W : Nat → Nat → Hp → Prop, (∃ m, W 0 m (upd H1 D (SetTO P w D []))) ∧
  ∀ i m H', W i m H' → (J.stop i H' ∧ Q (.ref D) H') ∨ (J.go i H' ∧ ∃ Nx : Hp → Prop, (∀ H'', Nx H'' → ∃ m', m' < m ∧ W (i + 1) m' H'') ∧ ∀ x H2, J.yld i H' x H2 → g x (wipe σ vs) H2 fun σ2 H3 => wipe σ2 vs = wipe σ vs ∧
    te σ2 H3 fun y H4 => ∃ k l, y = .str k ∧ H4 D = some (SetTO P w D l) ∧ l.length + 1 < scanBound ∧ Nx (upd H4 D (SetTO P w D (ins k l))))
theorem pe_scT {elt tg iter : Expr} {scope : Scope} {own : List (Str × Nat)} {pos : Pos} {wi : TI} {g : TG} {te : TE} (calm : X.calm = true) (nd : X.N.Nodup) (pi : PI X tg iter wi) (blk : BlkOk X.N X.env.scope scope own)
    (pgs : ∀ (s : Shared) (H : Hp) (C : Addr) (cl : List (Str × Addr)) (fp : List Addr), PG (X.blk s H scope (compEnvC scope cl C X.env) fp) tg g)
    (pes : ∀ (s : Shared) (H : Hp) (C : Addr) (cl : List (Str × Addr)) (fp : List Addr), PE (X.blk s H scope (compEnvC scope cl C X.env) fp) elt te) (fold : ∀ x, foldedSetIterable iter X.env x = pure x := by intro _; rfl) :
    PE X (.SetComp elt [⟨tg, iter, [], 0⟩] scope pos) (tScT X.prog X.w wi g te (own.map (·.2))) := by
  refine ⟨fun pins s σ H Q I h => ?_⟩
  rw [PpSet.eval_SetComp]
  have clo : ∀ y ∈ scope.names, y.2 = .free → ∃ c, X.env.cells.lookup y.1 = some c := fun y hy e => (blk.free y hy e).elim (fun k => I.ok.has _ (Or.inl k)) fun k => I.ok.has _ (Or.inr k)
  refine wpAny_comprehension_free (use := none) rfl fold (closure_ok clo) blk.kind (fun y hy e => (blk.uniq y hy).trans (by rw [e])) (thn (pi.run pins s σ H _ I h) fun _ _ hx => thn hx fun _ sB hB => ?_)
  obtain ⟨it, fp, tn, J, HB, rfl, IB, T, stB, fB, q⟩ := hB
  refine PpSet.newSet_ok (newEnv_comp ?_)
  have freshD : HB sB.heap.objs.size = none := IB.hok.fresh (Nat.le_refl _)
  obtain ⟨W, ⟨m0, w0⟩, turn⟩ := q sB.heap.objs.size freshD
  -- the new set stands
  have IC : Inv X pins σ (upd HB sB.heap.objs.size (SetTO X.prog X.w sB.heap.objs.size [])) { sB with heap := sB.heap.push { cls := .type "set", dict := none, data := .set #[] 0 (.fresh 0 0 (!X.w.params.followText "set-order")) } } :=
    IB.laid (t' := sB.toks) (fun _ _ e => Heap.get?_push_of_some _ e) (Nat.le_refl _) (setTO_ok setTx_new)
  have old : ∀ b ∈ fp, b < sB.heap.objs.size := fun b hb => let ⟨_, e, _⟩ := T.obj _ _ stB b hb; Heap.lt_size e
  have fC : ∀ b ∈ fp, FpOk X pins (upd HB sB.heap.objs.size (SetTO X.prog X.w sB.heap.objs.size [])) b ∧ b < (sB.heap.push { cls := .type "set", dict := none, data := .set #[] 0 (.fresh 0 0 (!X.w.params.followText "set-order")) }).objs.size := fun b hb =>
    ⟨⟨by rw [upd_ne (Nat.ne_of_lt (old b hb))]; exact (fB b hb).1, (fB b hb).2⟩, by rw [Heap.size_push]; exact Nat.lt_succ_of_lt (old b hb)⟩
  have stC : tn 0 (sB.heap.push { cls := .type "set", dict := none, data := .set #[] 0 (.fresh 0 0 (!X.w.params.followText "set-order")) }) := T.keep _ _ _ stB fun b _ o e => Heap.get?_push_of_some _ e
  generalize hsC : ({ sB with heap := sB.heap.push { cls := .type "set", dict := none, data := .set #[] 0 (.fresh 0 0 (!X.w.params.followText "set-order")) } } : Shared) = sC at IC ⊢
  have eC : sC.heap = sB.heap.push { cls := .type "set", dict := none, data := .set #[] 0 (.fresh 0 0 (!X.w.params.followText "set-order")) } := by rw [← hsC]
  rw [← eC] at fC stC
  generalize sB.heap.objs.size = D at *
  generalize upd HB D (SetTO X.prog X.w D []) = HC at IC fC w0
  have IE := block_start IC blk nd fC
  have pg := pgs sC HC sC.heap.objs.size (cellsFrom (sC.heap.objs.size + 1) scope.names (cloFrom X.env.cells scope.names [])) fp
  have pe := pes sC HC sC.heap.objs.size (cellsFrom (sC.heap.objs.size + 1) scope.names (cloFrom X.env.cells scope.names [])) fp
  show codeAny _ _ (.compStart (.SetComp elt [⟨tg, iter, [], 0⟩] scope pos) 0 (.ref it) (.ref D) (compEnvC scope (cellsFrom (sC.heap.objs.size + 1) scope.names (cloFrom X.env.cells scope.names [])) sC.heap.objs.size X.env)) (compPost (model X.prog X.w) X.A X.xe none (EP X pins σ Q) (.ref D) sC.heap.objs.size) { sC with heap := pushCells (sC.heap.push { cls := .type "dict", data := .dict #[] }) scope.names }
  generalize hce : compEnvC scope (cellsFrom (sC.heap.objs.size + 1) scope.names (cloFrom X.env.cells scope.names [])) sC.heap.objs.size X.env = ce at IE pg pe ⊢
  have loc : ce.locals = sC.heap.objs.size := by subst hce; rfl
  generalize hsE : ({ sC with heap := pushCells (sC.heap.push { cls := .type "dict", data := .dict #[] }) scope.names } : Shared) = sE at IE ⊢
  have stE : tn 0 sE.heap := T.keep _ _ _ stC fun b _ o e => by rw [← hsE]; exact pushCells_keeps _ _ _ _ (Heap.get?_push_of_some _ e)
  have inBlk : ∀ {σ' : L2.St} {H' : Hp} {s' : Shared}, Inv (X.blk sC HC scope ce fp) [] σ' H' s' → (∀ b ∈ fp, H' b = none) → ∀ b ∈ fp, FpOk (X.blk sC HC scope ce fp) [] H' b := fun {_ _ _} J' hn b hb =>
    ⟨hn b hb, (J'.ok.exf b hb).1, J'.ok.exfs b hb, Or.inl hb, fun x c e => (J'.ok.exf b hb).2 x c e, fun p hp => (nomatch (show p ∈ ([] : List (Addr × Obj)) from hp))⟩
  have loop : codeAny (model X.prog X.w) X.A (.compLoop (.SetComp elt [⟨tg, iter, [], 0⟩] scope pos) 0 (.ref it) (.ref D) ce) (compPost (model X.prog X.w) X.A X.xe none (EP X pins σ Q) (.ref D) sC.heap.objs.size) sE := by
    refine PpSet.compLoopS_any (fun n s' => ∃ i H', Inv (X.blk sC HC scope ce fp) [] (wipe σ (own.map (·.2))) H' s' ∧ tn i s'.heap ∧ (∀ b ∈ fp, H' b = none) ∧ W i n H') ?_ m0 ⟨0, HC, IE, stE, fun b hb => (fC b hb).1.1, w0⟩
    rintro n s1 ⟨i, H1, I1, st1, n1, w1⟩
    rcases turn i n H1 w1 with ⟨stop, qq⟩ | ⟨go, Nx, falls, step⟩
    · refine thnF (T.done (X.blk sC HC scope ce fp) rfl rfl rfl calm i [] s1 _ H1 (fun _ _ => False) I1 (inBlk I1 n1) st1 stop) fun _ s2 ⟨hr, I2⟩ => ?_
      subst hr
      have back : Inv X pins σ H1 s2 := IC.call' (ch := fp) I2.os I2.base I2.hok I2.bare fun b hb => by
        obtain ⟨_, f1, _, f3, f4, f5⟩ := (fC b hb).1
        exact ⟨f3, f1, f4, f5⟩
      have noC : H1 sC.heap.objs.size = none := loc ▸ (show H1 ce.locals = none from I2.free)
      obtain ⟨m, ns, _⟩ := I2.loc
      have ns : s2.heap.Ns sC.heap.objs.size m := loc ▸ (show s2.heap.Ns ce.locals m from ns)
      refine ⟨m, ns, fun h3 sb => ?_⟩
      obtain ⟨f0, f1, _, f3, f4, f5⟩ := IC.fpOk (H' := H1) (Nat.le_refl _) noC
      exact ⟨.ref D, H1, back.turned (t' := s2.toks) (fun b o hb e => (sb.2 b hb).trans e) f0 f1 f3 f4 f5, rfl, qq⟩
    · refine thnF (T.item (X.blk sC HC scope ce fp) rfl rfl rfl calm i [] s1 _ H1 (fun _ _ => False) I1 (inBlk I1 n1) st1 go) fun _ s2 ⟨u, hr, h2⟩ => ?_
      subst hr
      refine thnF h2 fun _ s3 ⟨x, H3, I3, r3, y3, st3, n3⟩ => ?_
      have P3 := I3.pinned (inBlk I3 n3) (T.obj _ _ st3)
      refine thnF (pg.run _ s3 _ H3 x u _ P3 r3 (step x H3 y3)) fun _ s4 ⟨σ4, H4, I4, wp4, q4⟩ => ?_
      refine wpAny_pure ?_
      simp only [if_true]
      refine thnF (pe.run _ s4 σ4 H4 _ I4 q4) fun z s5 ⟨yv, H5, I5, r5, k, l, ey, hD5, hb5, nx⟩ => ?_
      subst ey
      refine addT_ok (X := X.blk sC HC scope ce fp) I5 hD5 hb5 r5 fun s6 I6 => ?_
      obtain ⟨m', lt, w'⟩ := falls _ nx
      have pin : ∀ b ∈ fp, ∀ o, s3.heap.get? b = some o → s6.heap.get? b = some o ∧ (upd H5 D (SetTO X.prog X.w D (ins k l))) b = none := fun b hb o e =>
        let ⟨z1, z2, _⟩ := I6.pin (b, o) (List.mem_append_right _ (List.mem_append_right _ (mem_pinsAt hb e)))
        ⟨z1, z2⟩
      refine ⟨m', lt, i + 1, _, (I6.unpinned (pins := [])).weak (by rw [← wp4, wipe_length]) (fun j v e => ?_), T.keep _ _ _ st3 fun b hb o e => (pin b hb o e).1, fun b hb => ?_, w'⟩
      · rw [← wp4] at e
        exact (wipe_some e).1
      · obtain ⟨o, e, _⟩ := T.obj _ _ st3 b hb
        exact (pin b hb o e).2
  exact PpSet.codeAny_compStart_set loop (T.self X.A 0 _ _ _ stE loop)
/-- over a tuple -/
theorem scT_tup {P : Program} {w : World} {K : PySem.W.Frag} {a : Addr} {xs : List V} {g : TG} {te : TE} {vs : List Nat} {D : Addr} {H1 : Hp} {Qd : Hp → Prop} (Pv : Nat → Hp → Prop) (h0 : Pv 0 (upd H1 D (SetTO P w D [])))
    (hl : ∀ i H, i ≤ xs.length → Pv i H → SqT K H a xs)
    (hs : ∀ i x H, xs[i]? = some x → Pv i H → g x (wipe σ vs) H fun σ2 H2 => wipe σ2 vs = wipe σ vs ∧ te σ2 H2 fun y H4 => ∃ k l, y = .str k ∧ H4 D = some (SetTO P w D l) ∧ l.length + 1 < scanBound ∧ Pv (i + 1) (upd H4 D (SetTO P w D (ins k l))))
    (hd : ∀ H, Pv xs.length H → Qd H) :
    ∃ W : Nat → Nat → Hp → Prop, (∃ m, W 0 m (upd H1 D (SetTO P w D []))) ∧ ∀ i m H', W i m H' → ((Itt K a).stop i H' ∧ Qd H') ∨ ((Itt K a).go i H' ∧ ∃ Nx : Hp → Prop, (∀ H'', Nx H'' → ∃ m', m' < m ∧ W (i + 1) m' H'') ∧
      ∀ x H2, (Itt K a).yld i H' x H2 → g x (wipe σ vs) H2 fun σ2 H3 => wipe σ2 vs = wipe σ vs ∧ te σ2 H3 fun y H4 => ∃ k l, y = .str k ∧ H4 D = some (SetTO P w D l) ∧ l.length + 1 < scanBound ∧ Nx (upd H4 D (SetTO P w D (ins k l)))) := by
  refine ⟨fun i m H' => m + i = xs.length ∧ Pv i H', ⟨xs.length, rfl, h0⟩, ?_⟩
  rintro i m H' ⟨hm, pv⟩
  have hq := hl i H' (by omega) pv
  rcases Nat.lt_or_ge i xs.length with z | z
  · refine Or.inr ⟨⟨xs, xs[i], hq, List.getElem?_eq_getElem z⟩, Pv (i + 1), fun H'' p => ⟨m - 1, by omega, by omega, p⟩, ?_⟩
    rintro x H2 ⟨rfl, hx⟩
    exact hs i x H2 (hx xs hq) pv
  · have e : i = xs.length := by omega
    subst e
    exact Or.inl ⟨⟨xs, hq, Nat.le_refl _⟩, hd H' pv⟩
end
end PK
/-! The forms of a heap. -/
namespace PK
open PySem PySem.Spec PyProof.Rows L2
def formL (L : List PRow) : List Str := L.foldl (fun l r => ins r.1 l) []
theorem formL_snoc {L : List PRow} {i : Nat} {r : PRow} (h : L[i]? = some r) : formL (L.take (i + 1)) = ins r.1 (formL (L.take i)) := by
  unfold formL
  rw [take_snoc h, List.foldl_append]
  rfl
theorem foldl_ins : ∀ (L : List PRow) (l : List Str), l.Nodup → (L.foldl (fun l r => ins r.1 l) l).Nodup ∧ (L.foldl (fun l r => ins r.1 l) l).length ≤ l.length + L.length ∧ ∀ y, y ∈ L.foldl (fun l r => ins r.1 l) l ↔ y ∈ l ∨ ∃ r ∈ L, y = r.1
  | [], l, h => ⟨h, Nat.le_refl _, fun y => ⟨Or.inl, fun q => q.resolve_right fun ⟨_, z, _⟩ => (nomatch z)⟩⟩
  | r :: L, l, h => by
    obtain ⟨h1, h2, h3⟩ := foldl_ins L (ins r.1 l) (ins_nodup h)
    have hl := ins_len (k := r.1) (l := l)
    refine ⟨h1, ?_, fun y => ?_⟩
    · rw [List.length_cons]
      show (L.foldl (fun l r => ins r.1 l) (ins r.1 l)).length ≤ _
      omega
    · show y ∈ L.foldl (fun l r => ins r.1 l) (ins r.1 l) ↔ _
      rw [h3 y, mem_ins]
      constructor
      · rintro ((rfl | q) | ⟨r', hr, e⟩)
        · exact Or.inr ⟨r, List.mem_cons_self, rfl⟩
        · exact Or.inl q
        · exact Or.inr ⟨r', List.mem_cons_of_mem _ hr, e⟩
      · rintro (q | ⟨r', hr, e⟩)
        · exact Or.inl (Or.inr q)
        · rcases List.mem_cons.mp hr with rfl | hr
          · exact Or.inl (Or.inl e)
          · exact Or.inr ⟨r', hr, e⟩
theorem formL_nodup (L : List PRow) : (formL L).Nodup := (foldl_ins L [] List.nodup_nil).1
theorem formL_len (L : List PRow) : (formL L).length ≤ L.length := by
  have := (foldl_ins L [] List.nodup_nil).2.1
  rw [List.length_nil] at this
  unfold formL
  omega
theorem mem_formL {L : List PRow} {y : Str} : y ∈ formL L ↔ ∃ r ∈ L, y = r.1 := ((foldl_ins L [] List.nodup_nil).2.2 y).trans ⟨fun q => q.resolve_left fun z => (nomatch z), Or.inr⟩
def formsR (L : List PRow) : List Str := sortS (formL L)
def strsD (l : List Str) : PyData := .tuple (l.map PyData.str)
def spForms (K : PySem.W.Frag) (C : Addr) : Sp := fun vs H Q _ => ∃ (p : Addr) (L : List PRow), vs = [.ref p] ∧ HeapAt K C H p L ∧ L.length ≤ 900 ∧
  ∀ (v : V) (H' : Hp), Same H H' → Dp K H' v (strsD (formsR L)) → Q v H'
end PK
/-! Drawn names are unlike. -/
namespace PK
open PySem PySem.Spec PyProof.Rows L2
theorem cps_app (x y : Str) : (x ++ y).cps.toList = x.cps.toList ++ y.cps.toList := by
  show (x.cps ++ y.cps).toList = _
  exact Array.toList_append ..
def hd1 (y : Str) : Option Nat := y.cps.toList.head?
def letterOf (j : Int) : Nat := 97 + (j % 26).toNat
theorem abc_at2 {i : Int} (h0 : 0 ≤ i) (h1 : i < 26) {x : Nat} (h : atI abc.cps.toList i = some x) : x = 97 + i.toNat := by
  rw [abc_list] at h
  obtain ⟨n, rfl⟩ := Int.eq_ofNat_of_zero_le h0
  have e : atI (List.range' 97 26) (n : Int) = some (97 + n) := by
    refine atI_nat ?_
    rw [List.getElem?_range' (by omega), Nat.one_mul]
  rw [e] at h
  rw [Int.toNat_natCast]
  exact (Option.some.inj h).symm
structure NmOk (a0 z : Int) (ws : List Str) : Prop where
  nd : ws.Nodup
  lo : a0 ≤ z
  few : z - a0 ≤ ws.length
  hd : ∀ y ∈ ws, ∃ j, a0 < j ∧ j ≤ z ∧ hd1 y = some (letterOf j)
  last : ∀ h : ws ≠ [], hd1 (ws.getLast h) = some (letterOf z) ∧ ∀ y ∈ ws, hd1 y = some (letterOf z) → y.length ≤ (ws.getLast h).length
theorem NmOk.nil (a0 : Int) : NmOk a0 a0 [] := ⟨List.nodup_nil, Int.le_refl _, by simp, fun _ h => (nomatch h), fun h => absurd rfl h⟩
theorem last_snoc {ws : List Str} {y : Str} (h : ws ++ [y] ≠ []) : (ws ++ [y]).getLast h = y := by simp
/-- one with another letter behind the last one -/
theorem NmOk.more {a0 z : Int} {ws : List Str} {c : Nat} (n : NmOk a0 z ws) (h : ws ≠ []) (h1 : 1 ≤ (ws.getLast h).length) : NmOk a0 z (ws ++ [ws.getLast h ++ ⟨#[c]⟩]) := by
  obtain ⟨e1, e2⟩ := n.last h
  have lm := List.getLast_mem h
  have hz := n.hd _ lm
  have hh : hd1 (ws.getLast h ++ ⟨#[c]⟩) = some (letterOf z) := by
    rw [← e1]
    unfold hd1
    generalize ws.getLast h = y at h1
    have e : (y ++ (⟨#[c]⟩ : Str)).cps.toList = y.cps.toList ++ [c] := cps_app _ _
    rw [e]
    have : y.cps.toList ≠ [] := fun q => by
      have : y.length = 0 := by
        show y.cps.size = 0
        rw [← Array.length_toList, q]
        rfl
      omega
    cases q : y.cps.toList with
    | nil => exact absurd q this
    | cons a l => rfl
  have ll : (ws.getLast h ++ (⟨#[c]⟩ : Str)).length = (ws.getLast h).length + 1 := by rw [strLen_append, len_one]
  refine ⟨?_, n.lo, ?_, fun y hy => ?_, fun h' => ?_⟩
  · refine List.nodup_append.mpr ⟨n.nd, List.nodup_cons.mpr ⟨by simp, List.nodup_nil⟩, fun a ha b hb e => ?_⟩
    rw [List.mem_singleton.mp hb] at e
    have := e2 a ha (by rw [e]; exact hh)
    rw [e, ll] at this
    omega
  · rw [List.length_append, List.length_singleton]
    have := n.few
    omega
  · rcases List.mem_append.mp hy with q | q
    · exact n.hd y q
    · rw [List.mem_singleton.mp q, hh]
      obtain ⟨j, j1, j2, _⟩ := hz
      exact ⟨z, by omega, Int.le_refl _, rfl⟩
  · rw [last_snoc]
    refine ⟨hh, fun y hy q => ?_⟩
    rcases List.mem_append.mp hy with z1 | z1
    · have := e2 y z1 q
      omega
    · rw [List.mem_singleton.mp z1]
      exact Nat.le_refl _
/-- one with the next letter ahead -/
theorem NmOk.next {a0 z : Int} {ws : List Str} {y : Str} (n : NmOk a0 z ws) (h8 : ws.length ≤ 20) (hy : hd1 y = some (letterOf (z + 1))) : NmOk a0 (z + 1) (ws ++ [y]) := by
  have few := n.few
  have lo := n.lo
  have ne : ∀ v ∈ ws, hd1 v ≠ some (letterOf (z + 1)) := fun v hv q => by
    obtain ⟨j, j1, j2, e⟩ := n.hd v hv
    rw [e] at q
    have q := Option.some.inj q
    unfold letterOf at q
    have a1 := Int.emod_nonneg j (show (26 : Int) ≠ 0 by decide)
    have a2 := Int.emod_nonneg (z + 1) (show (26 : Int) ≠ 0 by decide)
    omega
  refine ⟨?_, by omega, ?_, fun v hv => ?_, fun h' => ?_⟩
  · refine List.nodup_append.mpr ⟨n.nd, List.nodup_cons.mpr ⟨by simp, List.nodup_nil⟩, fun a ha b hb e => ?_⟩
    rw [List.mem_singleton.mp hb] at e
    exact ne a ha (by rw [e]; exact hy)
  · rw [List.length_append, List.length_singleton]
    omega
  · rcases List.mem_append.mp hv with q | q
    · obtain ⟨j, j1, j2, e⟩ := n.hd v q
      exact ⟨j, j1, by omega, e⟩
    · rw [List.mem_singleton.mp q]
      exact ⟨z + 1, by omega, Int.le_refl _, hy⟩
  · rw [last_snoc]
    refine ⟨hy, fun v hv q => ?_⟩
    rcases List.mem_append.mp hv with z1 | z1
    · exact absurd q (ne v z1)
    · rw [List.mem_singleton.mp z1]
      exact Nat.le_refl _
theorem hd_cons {x : Nat} {y : Str} : hd1 (⟨#[x]⟩ ++ y) = some x := by
  unfold hd1
  have e : ((⟨#[x]⟩ : Str) ++ y).cps.toList = x :: y.cps.toList := cps_app _ _
  rw [e]
  rfl
def spNames2 : Sp := fun vs H Q _ => ∃ (a c : Addr) (m : Int), vs = [.ref a, .int m] ∧ IsFeed H a c ∧ 1 ≤ m ∧ m ≤ 8 ∧
  ∀ (p : Addr) (H' : Hp) (ws : List Str), H p = none → Ext a H H' → IsFeed H' a c → H' p = some (.lst (ws.map V.str)) → (ws.length : Int) = m →
    (∀ y ∈ ws, Word y) → ws.Nodup → Q (.ref p) H'
end PK
/-! Words near a word; how many of a form; methods called with keywords. -/
namespace PK
open PySem PySem.Spec PyProof.Rows L2
/-! ### o.m(.., k = v, ..) -/
abbrev viaMeth (env : Env) (o : Expr) (m : Str) (pl : Sem Bool) (apos pos : Pos) (args : List Expr) (kws : List Keyword) : Sem Value := do
  let x ← eval o env; standAt apos.atName; let (g, fst) ← holding [x] (getMethod x m pl); callWith pos g fst (backTo pos (starEach args env)) (backToKw pos (keywordEach kws env))
def tMethN (C : Addr) (m : Str) (n j : Nat) (sp : Sp) (gV : List V → List V → List V) (E : XK) (ta : TE) (t tk : TA) : TE := fun σ H Q => ta σ H fun x H1 => ∃ a dx fs, x = .ref a ∧ H1 a = some (.ins C dx fs) ∧ fs.lookup m = none ∧
  t σ H1 fun vs H2 => tk σ H2 fun zs H3 => vs.length + 1 = n ∧ zs.length = j ∧ sp (gV (x :: vs) zs) H3 Q E
section
variable {X : Cx} {CX : CXT} {k n : Nat} {C f : Addr} {fd : FuncData} {ps ks : List Str} {sp : Sp} {E : XK} {m : Str} {apos pos : Pos} {o e : Expr} {es : List Expr} {kws : List Keyword} {ta : TE} {t tk : TA} {gV : List V → List V → List V}
theorem pe_mkb {pl : Sem Bool} (he : PE X o ta) (c : Cls X.K C) (hm : Meth X.K C m f) (F : FnOk X.prog X.w X.K X.mg X.base CX k f fd ps sp) (hr : Room k X.A) (hb : KB X.K fd ps n ks gV) (hx : Passes CX X E)
    (ha : PA X (e :: es) t) (hkw : PK X kws tk) (hall : (backToKw pos (keywordEach kws X.env)).all (·.1.isSome) = true := by rfl) (hks : (backToKw pos (keywordEach kws X.env)).filterMap (·.1) = ks := by rfl)
    (hst : starEach (e :: es) X.env = (false, eval e X.env) :: starEach es X.env := by rfl)
    (hpl : ((backTo pos (starEach (e :: es) X.env)).any (·.1) || (backToKw pos (keywordEach kws X.env)).any (·.1.isNone)) = false := by rfl)
    (ht : eval (.Call (.Attribute o m apos) (e :: es) kws pos) X.env = viaMeth X.env o m pl apos pos (e :: es) kws := by rfl) :
    PE X (.Call (.Attribute o m apos) (e :: es) kws pos) (tMethN C m n ks.length sp gV E ta t tk) := by
  obtain ⟨g, hb⟩ := hb
  refine ⟨fun pins s σ H Q I h => PySem.W.methodCall_KW (pl := pl) (thn (he.run pins s σ H _ I h) ?_) ht⟩
  rintro u s1 ⟨x, H1, I1, rx, a, dx, fs, rfl, ea, l, q⟩
  obtain rfl : u = Value.ref a := rx
  refine getmeth_ok I1 ea c hm l (PySem.W.callWith_KW (first := [.ref a]) (h₀ := X.base) I1.ok.mod.kin hm.kp hall (thn (ha.run pos pins s1 σ H1 _ I1 q) ?_) hpl hst)
  rintro us s2 ⟨vs, H2, I2, r, q⟩
  refine thn (hkw.run pos pins s2 σ H2 _ I2 q) ?_
  rintro ws s3 ⟨zs, H3, I3, rz, l1, l2, q⟩
  refine ⟨I3.kIn, ?_⟩
  rw [hks]
  exact run_fnN (us := .ref a :: us) (vs := .ref a :: vs) F hr hb hx I3 (.cons rfl r) rz (by rw [List.length_cons]; exact l1) l2 q
theorem pe_mkb0 {pl : Sem Bool} (he : PE X o ta) (c : Cls X.K C) (hm : Meth X.K C m f) (F : FnOk X.prog X.w X.K X.mg X.base CX k f fd ps sp) (hr : Room k X.A) (hb : KB X.K fd ps n ks gV) (hx : Passes CX X E)
    (hkw : PK X kws tk) (hall : (backToKw pos (keywordEach kws X.env)).all (·.1.isSome) = true := by rfl) (hks : (backToKw pos (keywordEach kws X.env)).filterMap (·.1) = ks := by rfl)
    (hpl : ((backTo pos (starEach [] X.env)).any (·.1) || (backToKw pos (keywordEach kws X.env)).any (·.1.isNone)) = false := by rfl)
    (ht : eval (.Call (.Attribute o m apos) [] kws pos) X.env = viaMeth X.env o m pl apos pos [] kws := by rfl) :
    PE X (.Call (.Attribute o m apos) [] kws pos) (tMethN C m n ks.length sp gV E ta tNil tk) := by
  obtain ⟨g, hb⟩ := hb
  refine ⟨fun pins s σ H Q I h => PySem.W.methodCall_KW (pl := pl) (thn (he.run pins s σ H _ I h) ?_) ht⟩
  rintro u s1 ⟨x, H1, I1, rx, a, dx, fs, rfl, ea, l, q⟩
  obtain rfl : u = Value.ref a := rx
  refine getmeth_ok I1 ea c hm l (PySem.W.callWith_KW0 (first := [.ref a]) (h₀ := X.base) I1.ok.mod.kin hm.kp hall (thn (hkw.run pos pins s1 σ H1 _ I1 q) ?_) hpl)
  rintro ws s3 ⟨zs, H3, I3, rz, l1, l2, q⟩
  refine ⟨I3.kIn, ?_⟩
  rw [hks]
  exact run_fnN (us := [.ref a]) (vs := [.ref a]) F hr hb hx I3 (.cons rfl .nil) rz l1 l2 q
end
theorem ko_notIn {X : Cx} (K : PySem.W.Frag) {k : Nat} (hr : Room (k + 1) X.A) (hK : X.K = K := by rfl) : OpR X (compareOp .NotIn) (rNotInD K) := by
  subst hK
  have := hr.un
  exact op_notInD (by omega)
/-! ### texts in a list of texts -/
theorem str_shaped {y : Str} (h : Word y) : SeqAt.shaped (.str y) = true := by
  unfold SeqAt.shaped
  simp only [PyData.canLay0, word_ok h, Bool.true_and]
  rfl
theorem strs_shaped {l : List Str} (h : ∀ y ∈ l, Word y) : SeqAt.shaped (.list (l.map PyData.str)) = true := by
  have hc : PyData.canLayAll0 (l.map PyData.str) = true := by
    induction l with
    | nil => rfl
    | cons r L ih =>
      rw [List.map_cons]
      show (PyData.canLay0 (.str r) && PyData.canLayAll0 (L.map PyData.str)) = true
      rw [ih fun q hq => h q (List.mem_cons_of_mem _ hq)]
      simp [PyData.canLay0, word_ok (h r List.mem_cons_self)]
  have hd : (PyData.list (l.map PyData.str)).depth ≤ 64 := by
    have : PyData.depthAll (l.map PyData.str) ≤ 63 := depthAll_le fun d hd => by
      obtain ⟨r, _, rfl⟩ := List.mem_map.mp hd
      exact Nat.zero_le _
    show PyData.depthAll (l.map PyData.str) + 1 ≤ 64
    omega
  unfold SeqAt.shaped
  rw [show (PyData.list (l.map PyData.str)).canLay0 = true from by simpa [PyData.canLay0] using hc, decide_eq_true hd]
  rfl
theorem str_eqv (a b : Str) : PyData.eqv (.str a) (.str b) = decide (a = b) := by
  by_cases e : a = b
  · subst e
    rw [decide_eq_true rfl]
    exact eqv_refl _ rfl
  · rw [decide_eq_false e]
    exact eqv_false rfl fun z => e (PyData.str.inj z)
theorem strs_any (l : List Str) (y : Str) : ((l.map PyData.str).any fun z => PyData.eqv z (.str y)) = decide (y ∈ l) := by
  induction l with
  | nil => rfl
  | cons a l ih =>
    rw [List.map_cons, List.any_cons, ih, str_eqv]
    by_cases e : a = y
    · subst e
      simp
    · have : ¬ y = a := fun z => e z.symm
      simp [e, this]
/-! ### words near a word -/
def w7 (y : Str) : Str := Txt.slice y none (some 7) ++ "a"
def w1 (y : Str) : Str := Txt.slice y none (some 1)
def wz (y : Str) : Str := Txt.slice y none (some (-1)) ++ "z"
def near (y : Str) : List Str := [w7 y, w1 y, wz y]
theorem of_list (y : Str) : y = SX.S y.cps.toList := rfl
theorem w7_l (y : Str) : (w7 y).cps.toList = y.cps.toList.take 7 ++ [97] := by
  unfold w7
  rw [cps_app]
  conv => lhs; lhs; rw [of_list y, SX.slice_to (by decide)]
  rfl
theorem w1_l (y : Str) : (w1 y).cps.toList = y.cps.toList.take 1 := by
  unfold w1
  conv => lhs; rw [of_list y, SX.slice_to (by decide)]
  rfl
theorem wz_l {y : Str} (h : Word y) : (wz y).cps.toList = y.cps.toList.take (y.cps.toList.length - 1) ++ [122] := by
  unfold wz
  rw [cps_app]
  have hn : y.cps.toList ≠ [] := fun q => by
    have h1 := h.one
    have : y.length = 0 := by
      show y.cps.size = 0
      rw [← Array.length_toList, q]
      rfl
    omega
  conv => lhs; lhs; rw [of_list y, SX.slice_butlast hn]
  rfl
theorem len_l (y : Str) : y.length = y.cps.toList.length := by
  show y.cps.size = _
  rw [Array.length_toList]
theorem near_word {y : Str} (h : Word y) : ∀ x ∈ near y, Word x := by
  have h1 := h.one
  have h8 := h.eight
  rw [len_l] at h1 h8
  intro x hx
  have mk : ∀ {x : Str} {l : List Nat}, x.cps.toList = l → 1 ≤ l.length → l.length ≤ 8 → (∀ c ∈ l, Lw c) → Word x := fun e a b c => ⟨by rw [len_l, e]; exact a, by rw [len_l, e]; exact b, by rw [e]; exact c⟩
  unfold near at hx
  simp only [List.mem_cons, List.not_mem_nil, or_false] at hx
  rcases hx with rfl | rfl | rfl
  · refine mk (w7_l y) ?_ ?_ fun c hc => ?_
    · rw [List.length_append, List.length_singleton]; omega
    · rw [List.length_append, List.length_singleton, List.length_take]; omega
    · rcases List.mem_append.mp hc with z | z
      · exact h.low c (List.mem_of_mem_take z)
      · rw [List.mem_singleton.mp z]; exact ⟨by decide, by decide⟩
  · refine mk (w1_l y) ?_ ?_ fun c hc => h.low c (List.mem_of_mem_take hc)
    · rw [List.length_take]; omega
    · rw [List.length_take]; omega
  · refine mk (wz_l h) ?_ ?_ fun c hc => ?_
    · rw [List.length_append, List.length_singleton]; omega
    · rw [List.length_append, List.length_singleton, List.length_take]; omega
    · rcases List.mem_append.mp hc with z | z
      · exact h.low c (List.mem_of_mem_take z)
      · rw [List.mem_singleton.mp z]; exact ⟨by decide, by decide⟩
theorem near_unlike {y : Str} (h : Word y) : w7 y ≠ w1 y ∧ w7 y ≠ wz y ∧ (w1 y = wz y → w1 y = y) := by
  have h1 := h.one
  rw [len_l] at h1
  have L : ∀ {a b : Str}, a = b → a.cps.toList = b.cps.toList := fun e => by rw [e]
  refine ⟨fun e => ?_, fun e => ?_, fun e => ?_⟩
  · have := congrArg List.length (L e)
    rw [w7_l, w1_l, List.length_append, List.length_take, List.length_take, List.length_singleton] at this
    omega
  · have := congrArg List.getLast? (L e)
    rw [w7_l, wz_l h, List.getLast?_append, List.getLast?_append] at this
    simp at this
  · have := congrArg List.length (L e)
    rw [w1_l, wz_l h, List.length_append, List.length_take, List.length_take, List.length_singleton] at this
    have e1 : y.cps.toList.length = 1 := by omega
    have e2 : (w1 y).cps.toList = y.cps.toList := by
      rw [w1_l]
      exact List.take_of_length_le (by omega)
    have e3 : (w1 y).cps = y.cps := Array.toList_inj.mp e2
    cases q : w1 y
    cases y
    rw [q] at e3
    simp only at e3
    rw [e3]
def newOf (ys : List Str) (y : Str) : List Str := (near y).filter fun x => decide (x ∉ ys)
theorem filter3 {α : Type} {p : α → Bool} {x y z : α} (h1 : x ≠ y) (h2 : x ≠ z) (h3 : y = z → p y = false) : ([x, y, z].filter p).Nodup := by
  by_cases a : p x = true <;> by_cases b : p y = true <;> by_cases c : p z = true <;> simp [List.filter, a, b, c, h1, h2]
  · intro e
    rw [h3 e] at b
    cases b
  · intro e
    rw [h3 e] at b
    cases b
theorem newOf_nodup {ys : List Str} {y : Str} (h : Word y) (hy : y ∈ ys) : (newOf ys y).Nodup := by
  obtain ⟨a, b, c⟩ := near_unlike h
  refine filter3 a b fun e => decide_eq_false fun z => z ?_
  rw [c e]
  exact hy
theorem near_nodup {ys : List Str} {y : Str} (h : Word y) (hy : y ∈ ys) (hn : ys.Nodup) : (ys ++ newOf ys y).Nodup := by
  refine List.nodup_append.mpr ⟨hn, newOf_nodup h hy, fun a ha b hb e => ?_⟩
  subst e
  exact of_decide_eq_true (List.mem_filter.mp hb).2 ha
theorem newOf_len (ys : List Str) (y : Str) : (newOf ys y).length ≤ 3 := List.length_filter_le _ _
/-- words, and others near them -/
def spWords (K : PySem.W.Frag) : Sp := fun vs H Q _ => ∃ (a : Addr) (ws : List Str), vs = [.ref a] ∧ Words H a ws ∧ ws.Nodup ∧
  ∀ (p : Addr) (H' : Hp) (ys : List Str), H p = none → Same H H' → H' p = some (.lst (ys.map V.str)) → (∀ y ∈ ys, Word y) → ys.Nodup → (∀ y ∈ ws, y ∈ ys) → ys.length ≤ 32 → Q (.ref p) H'
/-! ### sorted(l), l of unlike texts -/
theorem srt_strs {l : List Str} (nd : l.Nodup) : (srt false (fun b : V × PyData => b.2) ((l.map V.str).zip (l.map PyData.str))).map (·.1) = (sortS l).map V.str := by
  have eB : (l.map V.str).zip (l.map PyData.str) = l.map fun y => (V.str y, PyData.str y) := by
    rw [List.zip_map']
  rw [eB]
  have b2 : (l.map fun y => (V.str y, PyData.str y)).map (fun b : V × PyData => b.2) = l.map PyData.str := by
    rw [List.map_map]
    rfl
  have bp := srt_perm false (fun b : V × PyData => b.2) (l.map fun y => (V.str y, PyData.str y))
  have nd2 : (l.map PyData.str).Nodup := by
    unfold List.Nodup at nd ⊢
    exact List.pairwise_map.mpr (nd.imp fun {a b} q e => q (by injection e))
  have r1 := srt_rises (k := fun b : V × PyData => b.2) (bs := l.map fun y => (V.str y, PyData.str y)) (by rw [b2]; exact PySem.W.AllAlike.of str_alike) (by rw [b2]; exact nd2)
  have hd2 := rises_ext r1 (str_rises nd) fun d => by
    rw [(bp.map _).mem_iff, b2]
    exact (((srt_perm false PyData.str l).map PyData.str).mem_iff (a := d)).symm
  have shape : ∀ b ∈ srt false (fun b : V × PyData => b.2) (l.map fun y => (V.str y, PyData.str y)), ∃ y, b = (V.str y, PyData.str y) := fun b hb => by
    obtain ⟨y, _, rfl⟩ := List.mem_map.mp (bp.mem_iff.mp hb)
    exact ⟨y, rfl⟩
  revert hd2 shape
  generalize srt false (fun b : V × PyData => b.2) (l.map fun y => (V.str y, PyData.str y)) = Z
  generalize sortS l = ys
  intro hd2 shape
  clear r1 bp b2 eB
  induction Z generalizing ys with
  | nil =>
    cases ys with
    | nil => rfl
    | cons => cases hd2
  | cons z Z ih =>
    cases ys with
    | nil => cases hd2
    | cons y ys =>
      obtain ⟨y', rfl⟩ := shape z List.mem_cons_self
      rw [List.map_cons, List.map_cons] at hd2
      injection hd2 with h1 h2
      injection h1 with h1
      rw [List.map_cons, List.map_cons, ih ys h2 fun b hb => shape b (List.mem_cons_of_mem _ hb), h1]
def rSrtL (K : PySem.W.Frag) : List V → Hp → VK → Prop := fun vs H Q => ∃ (a : Addr) (l : List Str), vs = [.ref a] ∧ SqL K H a (l.map V.str) ∧ l.Nodup ∧ l.length ≤ sizeLine ∧
  ∀ p, H p = none → Q (.ref p) (upd H p (.lst ((sortS l).map V.str)))
theorem k_srtL {X : Cx} (K : PySem.W.Frag) {k : Nat} (hr : Room k X.A) (hK : X.K = K := by rfl) : CallR X (.builtin "sorted") (rSrtL K) := by
  subst hK
  intro pins s σ H vs us Q I r h
  obtain ⟨a, l, e, hs, nd, hz, q⟩ := h
  refine call_srt hr pins s σ H vs us Q I r ⟨a, l.map V.str, l.map PyData.str, e, hs, DpAll.strs l, ⟨PySem.W.AllAlike.of str_alike, PySem.W.Sortable.others fun b => ⟨by simp, by simp⟩, fun d hd => ?_⟩, by rw [List.length_map]; exact hz, fun p np => ?_⟩
  · obtain ⟨y, _, rfl⟩ := List.mem_map.mp hd
    exact Nat.zero_le _
  · rw [srt_strs nd]
    exact q p np
/-! ### places in the text -/
def asgE (st : Stmt) (i : Nat) : Expr := match (defBody st)[i]? with
  | some (.Assign _ e _) => e
  | _ => .Constant .none 0 ⟨0, 0, 0, 0⟩
/-! ### how many of a form -/
theorem manyR_nil (f : Str) (o : Option Str) : manyR [] f o = 0 := rfl
theorem manyR_cons (r : PRow) (L : List PRow) (f : Str) (o : Option Str) : manyR (r :: L) f o = (if sel f o r = true then r.2.2 else 0) + manyR L f o := by
  unfold manyR selL
  by_cases e : sel f o r = true
  · rw [List.filter_cons_of_pos e, if_pos e, List.map_cons, List.sum_cons]
  · rw [List.filter_cons_of_neg e, if_neg e, Int.zero_add]
def sumK (g : PKey → Int) (ks : List PKey) : Int := (ks.map g).sum
theorem sumK_add (g h : PKey → Int) : ∀ ks : List PKey, sumK (fun k => g k + h k) ks = sumK g ks + sumK h ks
  | [] => rfl
  | k :: ks => by
    have := sumK_add g h ks
    unfold sumK at this ⊢
    rw [List.map_cons, List.map_cons, List.map_cons, List.sum_cons, List.sum_cons, List.sum_cons, this]
    omega
theorem sumK_one {p : PKey} {v : Int} : ∀ {ks : List PKey}, ks.Nodup → sumK (fun k => if p = k then v else 0) ks = if p ∈ ks then v else 0
  | [], _ => rfl
  | k :: ks, h => by
    obtain ⟨h1, h2⟩ := List.nodup_cons.mp h
    have ih := sumK_one (p := p) (v := v) h2
    unfold sumK at ih ⊢
    rw [List.map_cons, List.sum_cons, ih]
    by_cases e : p = k
    · subst e
      rw [if_pos rfl, if_neg h1, if_pos List.mem_cons_self]
      omega
    · rw [if_neg e, Int.zero_add]
      by_cases z : p ∈ ks
      · rw [if_pos z, if_pos (List.mem_cons_of_mem _ z)]
      · rw [if_neg z, if_neg]
        intro q
        rcases List.mem_cons.mp q with q | q
        · exact e q
        · exact z q
theorem sumK_zero : ∀ ks : List PKey, sumK (fun _ => 0) ks = 0
  | [] => rfl
  | k :: ks => by
    have := sumK_zero ks
    unfold sumK at this ⊢
    rw [List.map_cons, List.sum_cons, this]
    rfl
theorem manyR_keys {f : Str} {ks : List PKey} (hn : ks.Nodup) : ∀ {L : List PRow}, (∀ r ∈ L, pk r ∈ ks) → manyR L f none = sumK (cnt L) (ks.filter fun k => decide (k.1 = f))
  | [], _ => by
    rw [manyR_nil]
    exact (sumK_zero _).symm
  | r :: L, h => by
    rw [manyR_cons, manyR_keys hn fun q hq => h q (List.mem_cons_of_mem _ hq)]
    have e : cnt (r :: L) = fun k => (if pk r = k then r.2.2 else 0) + cnt L k := funext fun k => cnt_cons r L k
    rw [e, sumK_add, sumK_one (hn.filter _)]
    congr 1
    have hk := h r List.mem_cons_self
    have e2 : sel f none r = decide (r.1 = f) := by
      unfold sel
      exact Bool.and_true _
    rw [e2]
    by_cases z : r.1 = f
    · rw [if_pos (decide_eq_true z), if_pos (List.mem_filter.mpr ⟨hk, decide_eq_true z⟩)]
    · rw [if_neg (by rw [decide_eq_false z]; exact Bool.false_ne_true), if_neg (show ¬ pk r ∈ ks.filter (fun k => decide (k.1 = f)) from fun q => z (of_decide_eq_true (p := (pk r).1 = f) (List.mem_filter.mp q).2))]
theorem manyR_sumR (L : List PRow) (f : Str) : ∀ o : Option Str, manyR (sumR L) f o = manyR L f o
  | some t => by rw [manyR_cnt _ (f, t), manyR_cnt _ (f, t), cnt_sumR]
  | none => by
    have e : cnt (sumR L) = cnt L := funext fun k => cnt_sumR L k
    rw [manyR_keys (ks := skeys L) (skeys_nodup L) (L := sumR L) fun r hr => by rw [← sumR_keys]; exact List.mem_map_of_mem hr,
      manyR_keys (ks := skeys L) (skeys_nodup L) (L := L) fun r hr => mem_skeys.mpr (List.mem_map_of_mem hr), e]
theorem manyR_nn {n : Nat} {b : Int} {f : Str} {o : Option Str} : ∀ {L : List PRow}, RowsOk n b L → 0 ≤ manyR L f o ∧ manyR L f o ≤ L.length * b
  | [], _ => ⟨Int.le_refl _, by rw [manyR_nil]; simp⟩
  | r :: L, h => by
    obtain ⟨h1, h2⟩ := manyR_nn (f := f) (o := o) h.tail
    have okr := h.each r List.mem_cons_self
    have lo := okr.lo
    have hi := okr.hi
    rw [manyR_cons, List.length_cons]
    have e : (((L.length + 1 : Nat) : Int)) * b = (L.length : Int) * b + b := by rw [Int.natCast_add, Int.add_mul]; simp
    rw [e]
    split <;> constructor <;> omega
theorem mem_formL_sum {L : List PRow} {y : Str} : y ∈ formL (sumR L) ↔ ∃ r ∈ L, r.1 = y := by
  rw [mem_formL]
  constructor
  · rintro ⟨r, hr, rfl⟩
    have : pk r ∈ (sumR L).map pk := List.mem_map_of_mem hr
    rw [sumR_keys, mem_skeys] at this
    obtain ⟨q, hq, e⟩ := List.mem_map.mp this
    exact ⟨q, hq, congrArg (fun k : PKey => k.1) e⟩
  · rintro ⟨r, hr, rfl⟩
    have : pk r ∈ skeys L := mem_skeys.mpr (List.mem_map_of_mem hr)
    rw [← sumR_keys] at this
    obtain ⟨q, hq, e⟩ := List.mem_map.mp this
    exact ⟨q, hq, (congrArg (fun k : PKey => k.1) e).symm⟩
/-! ### what the law holds a heap against -/
def hasF (L : List PRow) (f : Str) : Bool := L.any fun r => decide (r.1 = f)
theorem hasF_snoc {L : List PRow} {i : Nat} {r : PRow} (h : L[i]? = some r) (f : Str) : hasF (L.take (i + 1)) f = (hasF (L.take i) f || decide (r.1 = f)) := by
  unfold hasF
  rw [take_snoc h, List.any_append]
  simp
theorem hasF_iff {L : List PRow} {f : Str} : hasF L f = true ↔ ∃ r ∈ L, r.1 = f := by
  unfold hasF
  simp
theorem forms_right {L : List PRow} {fs : List Str} (hn : fs.Nodup) (h : ∀ r ∈ L, r.1 ∈ fs) : formsR (sumR L) = sortS (fs.filter (hasF L)) := by
  refine sortS_of (hn.filter _) (str_rises (formL_nodup _)) fun y => ?_
  unfold formsR sortS
  rw [(srt_perm false PyData.str _).mem_iff, mem_formL_sum, List.mem_filter, hasF_iff]
  constructor
  · rintro ⟨r, hr, rfl⟩
    exact ⟨h r hr, r, hr, rfl⟩
  · exact fun q => q.2
theorem formsR_sh {n : Nat} {b : Int} {L : List PRow} (h : RowsOk n b L) : Sh (strsD (formsR (sumR L))) 1 (n * 82 + 2 * n + 3) := by
  refine Sh.tuple (m := n) (fun d hd => ?_) ?_
  · obtain ⟨y, hy, rfl⟩ := List.mem_map.mp hd
    unfold formsR sortS at hy
    rw [(srt_perm false PyData.str _).mem_iff, mem_formL_sum] at hy
    obtain ⟨r, hr, rfl⟩ := hy
    exact Sh.word (h.each r hr).f
  · rw [List.length_map]
    unfold formsR sortS
    rw [(srt_perm false PyData.str _).length_eq]
    have h1 := formL_len (sumR L)
    have h2 := sumR_len L
    have h3 := h.len
    omega
theorem HeapAt.lst {K : PySem.W.Frag} {C : Addr} {H : Hp} {p d : Addr} {L : List PRow} {xs : List V} {o : HO} (h : HeapAt K C H p L) (hd : H d = some (.lst xs)) : HeapAt K C (upd H d o) p L := by
  obtain ⟨dx, t, h1, h2⟩ := h
  refine ⟨dx, t, ?_, Dp.keepT (TKeep.lst hd) (flat_rows L) h2⟩
  rw [upd_ne (ne_of h1 hd (by intro z; cases z))]
  exact h1
structure MMn (P : Program) (w : World) (K : PySem.W.Frag) (mg : Str → Option Value) (base : Heap) (k : Nat) (C f : Addr) (fd : FuncData) : Prop where
  ok : FnOk P w K mg base CX0 k f fd ["self", "form", "shade"] (spManyM K C)
  m : Meth K C "many" f
  k2 : KB K fd ["self", "form", "shade"] 2 [] (fun vs _ => vs ++ [.non])
  k3 : KB K fd ["self", "form", "shade"] 3 [] (fun vs _ => vs)
  kf : KB K fd ["self", "form", "shade"] 1 ["form"] (fun vs zs => vs ++ (zs ++ [.non]))
  ks : KB K fd ["self", "form", "shade"] 2 ["shade"] (fun vs zs => vs ++ zs)
  ksf : KB K fd ["self", "form", "shade"] 1 ["shade", "form"] (fun vs zs => vs ++ zs.reverse)
def spRight (K : PySem.W.Frag) (C : Addr) : Sp := fun vs H Q _ => ∃ (p a b : Addr) (v : V) (L : List PRow) (fs ss : List Str), vs = [.ref p, v, .ref a, .ref b] ∧ HeapAt K C H p (sumR L) ∧ Dp K H v (rowsD L) ∧ RowsOk 8 1000000000 L ∧
  H a = some (.lst (fs.map V.str)) ∧ H b = some (.lst (ss.map V.str)) ∧ (∀ y ∈ fs, Word y) ∧ fs.Nodup ∧ (∀ r ∈ L, r.1 ∈ fs) ∧ fs.length ≤ 32 ∧ ss.length ≤ 32 ∧ ∀ H' : Hp, Same H H' → Q (.bl true) H'
end PK
/-! Heaps by their counts: together, less, what lacks. -/
namespace PK
open PySem PySem.Spec PyProof.Rows L2
/-- rows of a heap: rising, each part once -/
structure Up (n : Nat) (L : List PRow) : Prop where
  ok : ∃ b : Int, RowsOk n b L
  up : Rises (L.map fun r => pkD (pk r))
theorem Up.mono {n m : Nat} {L : List PRow} (h : Up n L) (hm : n ≤ m) : Up m L := by
  obtain ⟨b, ok⟩ := h.ok
  exact ⟨⟨b, ok.mono hm (Int.le_refl _)⟩, h.up⟩
theorem Up.len {n : Nat} {L : List PRow} (h : Up n L) : L.length ≤ n := by
  obtain ⟨b, ok⟩ := h.ok
  exact ok.len
theorem Up.two {n : Nat} {L M : List PRow} (h : Up n L) (g : Up n M) : ∃ b : Int, RowsOk n b L ∧ RowsOk n b M := by
  obtain ⟨b, ok⟩ := h.ok
  obtain ⟨c, oc⟩ := g.ok
  refine ⟨max b c, ok.mono (Nat.le_refl _) (Int.le_max_left _ _), oc.mono (Nat.le_refl _) (Int.le_max_right _ _)⟩
theorem Up.nn {n : Nat} {L : List PRow} (h : Up n L) (k : PKey) : 0 ≤ cnt L k := by
  obtain ⟨b, ok⟩ := h.ok
  exact cnt_nn ok k
theorem Up.nodup {n : Nat} {L : List PRow} (h : Up n L) : (L.map pk).Nodup := by
  have z := h.up
  unfold Rises at z
  rw [List.pairwise_map] at z
  unfold List.Nodup
  rw [List.pairwise_map]
  refine z.imp fun {a b} y e => ?_
  rw [e, dlt_irr] at y
  cases y
theorem cnt_mem {L : List PRow} {r : PRow} (nd : (L.map pk).Nodup) (h : r ∈ L) : cnt L (pk r) = r.2.2 := by
  induction L with
  | nil => cases h
  | cons q L ih =>
    rw [List.map_cons] at nd
    obtain ⟨n1, n2⟩ := List.nodup_cons.mp nd
    rw [cnt_cons]
    rcases List.mem_cons.mp h with e | e
    · subst e
      rw [if_pos rfl, cnt_none n1]
      omega
    · have hne : ¬ pk q = pk r := fun z => n1 (by rw [z]; exact List.mem_map.mpr ⟨r, e, rfl⟩)
      rw [if_neg hne, ih n2 e]
      omega
/-- a part that is there -/
theorem cnt_some {L : List PRow} {k : PKey} (h : 0 < cnt L k) : k ∈ L.map pk := by
  by_cases z : k ∈ L.map pk
  · exact z
  · rw [cnt_none z] at h
    omega
/-- counts make the heap -/
theorem Up.ext {n m : Nat} {L M : List PRow} (h : Up n L) (g : Up m M) (e : ∀ k, cnt L k = cnt M k) : L = M := by
  obtain ⟨b, ok⟩ := h.ok
  obtain ⟨c, oc⟩ := g.ok
  rw [← sumR_id h.up, ← sumR_id g.up]
  exact sumR_eq ok oc e
theorem Up.sum {n : Nat} {b : Int} {L : List PRow} (h : RowsOk n b L) (hb : 0 ≤ b) : Up n (sumR L) := ⟨⟨_, sumR_ok hb h⟩, sumR_rises L⟩
theorem Up.nil : Up 0 [] := ⟨⟨0, Nat.le_refl _, fun _ h => (nomatch h)⟩, List.Pairwise.nil⟩
theorem Up.one {f s : Str} (hf : Word f) (hs : Word s) : Up 1 [(f, s, 1)] := by
  refine ⟨⟨1, Nat.le_refl _, fun r hr => ?_⟩, List.pairwise_singleton _ _⟩
  rw [List.mem_singleton.mp hr]
  exact ⟨hf, hs, Int.le_refl _, Int.le_refl _⟩
theorem Up.app {n m : Nat} {L M : List PRow} (h : Up n L) (g : Up m M) : ∃ b : Int, 0 ≤ b ∧ RowsOk (n + m) b (L ++ M) := by
  obtain ⟨b, ok⟩ := h.ok
  obtain ⟨c, oc⟩ := g.ok
  refine ⟨max 0 (max b c), Int.le_max_left _ _, ?_, fun r hr => ?_⟩
  · rw [List.length_append]
    have := ok.len
    have := oc.len
    omega
  · rcases List.mem_append.mp hr with z | z
    · exact (ok.each r z).mono (by omega)
    · exact (oc.each r z).mono (by omega)
theorem Up.plus {n m : Nat} {L M : List PRow} (h : Up n L) (g : Up m M) : Up (n + m) (sumR (L ++ M)) := by
  obtain ⟨b, hb, ok⟩ := h.app g
  exact Up.sum ok hb
theorem cnt_plus (L M : List PRow) (k : PKey) : cnt (sumR (L ++ M)) k = cnt L k + cnt M k := by rw [cnt_sumR, cnt_app]
theorem Up.above {n m : Nat} {L M : List PRow} (h : Up n L) (g : Up m M) : Up n (aboveR L M) := by
  obtain ⟨b, ok⟩ := h.ok
  obtain ⟨c, oc⟩ := g.ok
  exact ⟨⟨b, aboveR_ok ok oc⟩, rises_above h.up⟩
theorem mem_above {L M : List PRow} {r : PRow} (h : r ∈ L) (hp : 0 < r.2.2 - cnt M (pk r)) : (r.1, r.2.1, r.2.2 - cnt M (pk r)) ∈ aboveR L M := by
  refine List.mem_filterMap.mpr ⟨r, h, ?_⟩
  unfold above1
  rw [if_pos hp]
theorem cnt_above {n m : Nat} {L M : List PRow} (h : Up n L) (g : Up m M) (k : PKey) : cnt (aboveR L M) k = if 0 < cnt L k - cnt M k then cnt L k - cnt M k else 0 := by
  have ua := h.above g
  by_cases z : 0 < cnt L k - cnt M k
  · rw [if_pos z]
    have hk := cnt_some (L := L) (k := k) (by have := g.nn k; omega)
    obtain ⟨r, hr, rfl⟩ := List.mem_map.mp hk
    rw [cnt_mem h.nodup hr] at z ⊢
    exact cnt_mem ua.nodup (mem_above hr z)
  · rw [if_neg z]
    refine cnt_none fun hk => ?_
    obtain ⟨q, hq, rfl⟩ := List.mem_map.mp hk
    obtain ⟨r, hr, e1, e2, h0⟩ := aboveR_mem hq
    rw [e1, cnt_mem h.nodup hr] at z
    omega
theorem above_nil {n m : Nat} {L M : List PRow} (h : Up n L) (g : Up m M) : aboveR L M = [] ↔ ∀ k, cnt L k ≤ cnt M k := by
  constructor
  · intro e k
    have := cnt_above h g k
    rw [e, cnt_nil] at this
    split at this <;> omega
  · intro e
    refine (h.above g).ext Up.nil fun k => ?_
    rw [cnt_above h g k, cnt_nil, if_neg (by have := e k; omega)]
/-- what was put to it is taken out -/
theorem above_plus {n m : Nat} {L M : List PRow} (h : Up n L) (g : Up m M) : aboveR (sumR (L ++ M)) M = L ∧ aboveR M (sumR (L ++ M)) = [] := by
  have u := h.plus g
  constructor
  · refine (u.above g).ext h fun k => ?_
    have := h.nn k
    rw [cnt_above u g k, cnt_plus]
    split <;> omega
  · refine (above_nil g u).mpr fun k => ?_
    have := h.nn k
    rw [cnt_plus]
    omega
theorem plus_comm {L M : List PRow} : sumR (L ++ M) = sumR (M ++ L) := sumR_perm List.perm_append_comm
theorem plus_assoc (L M N : List PRow) : sumR (sumR (L ++ M) ++ N) = sumR (L ++ M ++ N) := by
  refine sumR_congr (fun k => ?_) fun k => ?_
  · simp only [List.map_append, List.mem_append, sumR_keys, mem_skeys]
  · rw [cnt_app, cnt_app, cnt_sumR]
theorem Up.plus_nil {n : Nat} {L : List PRow} (h : Up n L) : sumR (L ++ []) = L := by
  rw [List.append_nil]
  exact sumR_id h.up
theorem Up.less_nil {n : Nat} {L : List PRow} (h : Up n L) : aboveR L [] = L ∧ aboveR [] L = [] := by
  constructor
  · refine (h.above Up.nil).ext h fun k => ?_
    have := h.nn k
    rw [cnt_above h Up.nil k, cnt_nil]
    split <;> omega
  · rfl
/-! ### what lacks -/
theorem lack_held {n m : Nat} {L M : List PRow} (h : Up n L) (g : Up m M) : aboveR (aboveR M L) M = [] := by
  refine (above_nil (g.above h) g).mpr fun k => ?_
  have := h.nn k
  have := g.nn k
  rw [cnt_above g h k]
  split <;> omega
theorem lack_entire {n m : Nat} {L M : List PRow} (h : Up n L) (g : Up m M) (k : PKey) : cnt (sumR (L ++ aboveR M L)) k = max (cnt L k) (cnt M k) := by
  rw [cnt_plus, cnt_above g h k]
  split <;> omega
theorem less_plus {n m : Nat} {L M : List PRow} (h : Up n L) (g : Up m M) (e : aboveR M L = []) : sumR (aboveR L M ++ M) = L := by
  have e := (above_nil g h).mp e
  refine ((h.above g).plus g).ext h fun k => ?_
  have := e k
  have := g.nn k
  rw [cnt_plus, cnt_above h g k]
  split <;> omega
theorem cnt_one (f s : Str) (k : PKey) : cnt [(f, s, 1)] k = if (f, s) = k then 1 else 0 := by
  rw [cnt_cons, cnt_nil]
  show (if (f, s) = k then (1 : Int) else 0) + 0 = _
  omega
end PK
namespace PK
open PySem PySem.Spec PyProof.Rows L2
/-- all of it less one of a part that lacked: this one lacks again -/
theorem lack_one {n m : Nat} {L M : List PRow} (h : Up n L) (g : Up m M) {r : PRow} (hr : r ∈ aboveR M L) :
    aboveR [(r.1, r.2.1, 1)] (sumR (L ++ aboveR M L)) = [] ∧ aboveR M (aboveR (sumR (L ++ aboveR M L)) [(r.1, r.2.1, 1)]) = [(r.1, r.2.1, 1)] := by
  have ua := g.above h
  obtain ⟨b, ok⟩ := ua.ok
  have o1 := Up.one (ok.each r hr).f (ok.each r hr).s
  have uW := h.plus ua
  have hc := cnt_mem ua.nodup hr
  have hp := (ok.each r hr).lo
  have hw : ∀ k, cnt (sumR (L ++ aboveR M L)) k = max (cnt L k) (cnt M k) := lack_entire h g
  have hu : ∀ k, cnt (aboveR M L) k = if 0 < cnt M k - cnt L k then cnt M k - cnt L k else 0 := cnt_above g h
  have hk : cnt L (pk r) < cnt M (pk r) := by
    have := hu (pk r)
    rw [hc] at this
    split at this <;> omega
  have hn := h.nn (pk r)
  have c1 : ∀ k, cnt [(r.1, r.2.1, 1)] k = if pk r = k then 1 else 0 := cnt_one r.1 r.2.1
  constructor
  · refine (above_nil o1 uW).mpr fun k => ?_
    rw [c1, hw]
    split
    · rename_i z
      rw [← z]
      omega
    · have := h.nn k
      omega
  · refine (g.above (uW.above o1)).ext o1 fun k => ?_
    rw [cnt_above g (uW.above o1) k, cnt_above uW o1 k, c1, hw]
    by_cases z : pk r = k
    · rw [if_pos z, ← z]
      split <;> split <;> omega
    · rw [if_neg z]
      have := h.nn k
      have := g.nn k
      split <;> split <;> omega
theorem lack_full {n m : Nat} {L M : List PRow} (h : Up n L) (g : Up m M) : aboveR M (sumR (L ++ aboveR M L)) = [] := by
  refine (above_nil g (h.plus (g.above h))).mpr fun k => ?_
  rw [lack_entire h g k]
  omega
end PK
/-! Heaps by ==, != and len: own methods that built-in ones call; methods that raise, within a try. -/
namespace PK
open PySem PySem.Spec PyProof.Rows L2
section
variable {prog : Program} {w : World} {A : Around} {E : Value → Shared → Prop} {s : Shared} {K : PySem.W.Frag} {x C f : Addr} {ox : Obj} {od : Option Obj}
/-- x != b where the class says == alone -/
theorem ne_own {b tb : Value} {Q : Value → Shared → Prop} (hu : A.units + 1 < cLine) (X : K.In s.heap) (I : PySem.W.InstAt s.heap x ox C od) (hb : PySem.W.Looks (model prog w) s.heap (typeOf b) tb) (hn : PySem.W.notFirst K C tb = true)
    (hs : PySem.W.findIn K (.ref C) "__ne__" = some (some (.builtin "object.__ne__"))) (ho : PySem.W.subIn K (.ref C) (.type "object") = some true)
    (he : PySem.W.findIn K (.ref C) "__eq__" = some (some (.ref f))) (hf : PySem.W.isFn K (.ref f) = true)
    (h : wpAny (model prog w) A.in1 (call (.ref f) [.ref x, b]) (fun v s' => ∃ r, v = .bool r ∧ Q (.bool (!r)) s') E s) :
    wpAny (model prog w) A (richCompare .NotEq (.ref x) b) Q E s := by
  have one : wpAny (model prog w) A (tryCompare (.ref x) "__ne__" b) (fun r s' => ∃ v, r = some v ∧ Q v s') E s := by
    unfold tryCompare callSpecialIfBound? bindSpecialIfBound?
    refine wpAny_bind (wpAny_holding (wpAny_bind (wpAny_bind (wpAny_bind (I.type.here ((PySem.W.looks_findIn X hs).here (wpAny_bind (wpAny_askSetting (wpAny_ite ?_)))))))))
    have fin : wpAny (model prog w) A (call (.builtin "object.__ne__") ([.ref x] ++ [b]) >>= fun v => pure (some v)) (fun r s' => wpAny (model prog w) A (match r with | some .notImplemented | none => pure none | some v => pure (some v) : Sem (Option Value)) (fun r s' => ∃ v, r = some v ∧ Q v s') E s') E s := by
      refine wpAny_bind (wpAny_call (codeAny_call_builtin F.cmp_object.ne.plain F.cmpEntry_ne (PySem.W.check_slot F.cmpKind_ne F.cmpSplit_ne (I.type.andThen (PySem.W.looks_subIn X ho)) (F.cmpArgs_ne _ _) ?_)))
      unfold Builtin.«object.__ne__»
      refine wpAny_bind (wpAny_of_eq (a := ((Value.ref x : Value), [b])) (by first | rfl | (simp only [slotArgs]; rfl)) (wpAny_bind (wpAny_cRoomFor hu (wpAny_bind (PySem.W.ifBound_K X I he hf (wpAny_mono h (fun v s' q => ?_) fun _ _ z => z))))))
      obtain ⟨r, rfl, q⟩ := q
      refine wpAny_bind (wpAny_truthy_bool ?_)
      refine wpAny_pure ?_
      show wpAny (model prog w) A (pure (some (Value.bool !r))) _ E s'
      refine wpAny_pure (wpAny_pure ?_)
      exact ⟨_, rfl, q⟩
    rw [F.cmp_object.ne.bind (.ref x)]
    split
    · exact wpAny_bind (wpAny_pure (wpAny_pure fin))
    · exact wpAny_tryCatch (wpAny_bind (wpAny_pure (wpAny_pure fin)))
  unfold richCompare
  simp only [oneThing_ref]
  have last : ∀ {s1 : Shared} {g : Option Value → Sem Value}, s1 = s → (∀ v, g (some v) = pure v) → wpAny (model prog w) A (tryCompare (.ref x) (cmpInfo CmpOp.NotEq).2.fst b >>= g) Q E s1 := by
    rintro s1 g rfl hg
    refine wpAny_bind (wpAny_mono one (fun r s' z => ?_) fun _ _ z => z)
    obtain ⟨v, rfl, q⟩ := z
    rw [hg]
    exact wpAny_pure q
  refine wpAny_holding (wpAny_bind (wpAny_cRoomFor (by omega) (wpAny_bind (I.type.here (wpAny_bind (hb.here ?_))))))
  split
  · rename_i q
    have e : PySem.W.subIn K tb (.ref C) = some false := (Bool.or_eq_true_iff.mp hn).elim (fun z => by rw [beq_iff_eq.mp z] at q; simp at q) fun z => beq_iff_eq.mp z
    refine wpAny_bind ((PySem.W.looks_subIn X e).here ?_)
    rw [if_neg Bool.false_ne_true]
    exact last rfl fun _ => rfl
  · refine wpAny_bind (wpAny_pure ?_)
    rw [if_neg Bool.false_ne_true]
    exact last rfl fun _ => rfl
end
section
variable {X : Cx} {pins : List (Addr × Obj)} {σ : L2.St} {H : Hp} {s : Shared} {k : Nat} {f C : Addr} {fd : FuncData} {ps : List Str} {sp : Sp}
/-- an own def, called by a built-in one -/
theorem run_in {A : Around} {us : List Value} {vs : List V} {Q : VK} {E : XK} (F : FnOk X.prog X.w X.K X.mg X.base CX0 k f fd ps sp) (hr : Room k A) (hf : A.frames = X.A.frames) (hb : Binds X.K fd ps []) (I : Inv X pins σ H s)
    (r : Vals vs us) (h : sp vs H Q E) : wpAny (model X.prog X.w) A (call (.ref f) us) (EP X pins σ Q) X.xe s := by
  have e := I.env0
  have e0 : Env0 X.prog X.w X.K X.mg X.base A X.stack s H := ⟨by rw [hf]; exact e.frames, e.mod, e.bs, e.bsz, e.funs, e.frf, e.hok, e.bare⟩
  have b := hb s us I.kIn (by rw [List.append_nil, ← r.length]; exact F.len _ _ _ _ h)
  rw [List.append_nil] at b
  refine wpAny_call (codeAny_mono (F.run A X.stack s H ⟨us, []⟩ us vs Q E hr e0 b r h) fun res s' hq => ?_)
  match res, hq with
  | .ok (.ret u), hq => exact I.after hq
  | .ok .next, hq => exact hq.elim
  | .ok .brk, hq => exact hq.elim
  | .ok .cont, hq => exact hq.elim
  | .error _, hq => exact hq.elim
end
theorem k_isi {X : Cx} (K : PySem.W.Frag) (hK : X.K = K := by rfl) : CallR X (.builtin "isinstance") (rIsi K) := by subst hK; exact call_isi
/-! ### two heaps -/
/-- what is told of the class beside -/
structure HIs (K : PySem.W.Frag) (C : Addr) : Prop where
  ca : PySem.W.findIn K (.ref C) "__class__" = some (some (.builtin "object.__class__"))
  cg : PySem.W.specialIn K (.builtin "object.__class__") "__get__" = some (some (.builtin "getset_descriptor.__get__"))
  ct : PySem.W.takesIn K (.builtin "object.__class__") = some true
  cm : PySem.W.mroIn K C (.type "object") = some true
theorem kit_self (K : PySem.W.Frag) (C : Addr) : PySem.W.kitOne K (.ref C) (.ref C) = some true := by
  unfold PySem.W.kitOne
  rw [if_pos (beq_self_eq_true _)]
theorem HeapAt.ty {K : PySem.W.Frag} {mg : Str → Option Value} {C p : Addr} {H : Hp} {L : List PRow} (h : HeapAt K C H p L) (T : HCls K mg C) (U : HIs K C) : TyX K H (.ref p) (.ref C) := by
  obtain ⟨dx, t, h1, _⟩ := h
  exact .base (.ins h1 T.cl U.ca U.cg U.ct U.cm)
/-- == of two heaps -/
def spEqH (K : PySem.W.Frag) (C : Addr) : Sp := fun vs H Q _ => ∃ (p q : Addr) (L M : List PRow) (n : Nat) (b : Int), vs = [.ref p, .ref q] ∧ HeapAt K C H p L ∧ HeapAt K C H q M ∧ RowsOk n b L ∧ RowsOk n b M ∧
  Q (.bl (decide (L = M))) H
def spLenH (K : PySem.W.Frag) (C : Addr) : Sp := fun vs H Q _ => ∃ (p : Addr) (L : List PRow), vs = [.ref p] ∧ HeapAt K C H p L ∧ L.length ≤ 900 ∧ Q (.int L.length) H
def rEqH (K : PySem.W.Frag) (C : Addr) : R2 := fun x y H Q => ∃ (p q : Addr) (L M : List PRow) (n : Nat) (b : Int), x = .ref p ∧ y = .ref q ∧ HeapAt K C H p L ∧ HeapAt K C H q M ∧ RowsOk n b L ∧ RowsOk n b M ∧
  Q (.bl (decide (L = M))) H
def rNeH (K : PySem.W.Frag) (C : Addr) : R2 := fun x y H Q => ∃ (p q : Addr) (L M : List PRow) (n : Nat) (b : Int), x = .ref p ∧ y = .ref q ∧ HeapAt K C H p L ∧ HeapAt K C H q M ∧ RowsOk n b L ∧ RowsOk n b M ∧
  Q (.bl (!decide (L = M))) H
def rLenH (K : PySem.W.Frag) (C : Addr) : List V → Hp → VK → Prop := fun xs H Q => ∃ (p : Addr) (L : List PRow), xs = [.ref p] ∧ HeapAt K C H p L ∧ L.length ≤ 900 ∧ Q (.int L.length) H
/-- an own method with its class's name for it -/
structure HSp (P : Program) (w : World) (K : PySem.W.Frag) (mg : Str → Option Value) (base : Heap) (k : Nat) (C : Addr) (x : Str) (f : Addr) (fd : FuncData) (ps : List Str) (sp : Sp) : Prop where
  ok : FnOk P w K mg base CX0 k f fd ps sp
  fi : PySem.W.findIn K (.ref C) x = some (some (.ref f))
  fn : PySem.W.isFn K (.ref f) = true
  b : Binds K fd ps []
section
variable {X : Cx} {k : Nat} {C f : Addr} {fd : FuncData}
theorem HeapAt.inst {pins : List (Addr × Obj)} {σ : L2.St} {H : Hp} {s : Shared} {p : Addr} {L : List PRow} (h : HeapAt X.K C H p L) (I : Inv X pins σ H s) : ∃ ox od, PySem.W.InstAt s.heap p ox C (some od) := by
  obtain ⟨dx, t, h1, _⟩ := h
  obtain ⟨mA, J, _⟩ := ins_get I.hok h1
  obtain ⟨od, J, _⟩ := J.look
  exact ⟨_, od, J⟩
theorem op_eqH (K : PySem.W.Frag) (E : HSp X.prog X.w K X.mg X.base k C "__eq__" f fd ["self", "other"] (spEqH K C)) (hr : Room k X.A) (hK : X.K = K := by rfl) : OpR X (compareOp .Eq) (rEqH K C) := by
  subst hK
  intro pins s σ H x y v u Q I rx ry h
  obtain ⟨p, q, L, M, n, b, rfl, rfl, hp, hq, okL, okM, z⟩ := h
  cases rx
  cases ry
  obtain ⟨ox, od, J⟩ := hp.inst I
  obtain ⟨oy, oe, J'⟩ := hq.inst I
  obtain ⟨m, hF⟩ := I.fr
  show wpAny (model X.prog X.w) X.A (richCompare .Eq (.ref p) (.ref q)) (EP X pins σ Q) X.xe s
  refine PySem.W.cmp_K (op := .Eq) (tb := .ref C) hr.units0 hF I.ok.mod.kin J J'.type (by simp [PySem.W.notFirst]) E.fi E.fn ?_
  refine wpAny_mono (run_in (Q := fun v H' => v = .bl (decide (L = M)) ∧ H' = H) (E := fun _ _ _ => False) E.ok hr rfl E.b I (vs := [.ref p, .ref q]) (.cons rfl (.cons rfl .nil)) ⟨p, q, L, M, n, b, rfl, hp, hq, okL, okM, rfl, rfl⟩) (fun r s' g => ?_) fun _ _ z => z
  obtain ⟨v, H', I', rv, rfl, rfl⟩ := g
  cases rv
  exact ⟨.bl (decide (L = M)), _, I', rfl, z⟩
theorem op_neH (K : PySem.W.Frag) (E : HSp X.prog X.w K X.mg X.base k C "__eq__" f fd ["self", "other"] (spEqH K C)) (hne : PySem.W.findIn K (.ref C) "__ne__" = some (some (.builtin "object.__ne__"))) (hob : PySem.W.subIn K (.ref C) (.type "object") = some true)
    (hr : Room (k + 1) X.A) (hK : X.K = K := by rfl) : OpR X (compareOp .NotEq) (rNeH K C) := by
  subst hK
  intro pins s σ H x y v u Q I rx ry h
  obtain ⟨p, q, L, M, n, b, rfl, rfl, hp, hq, okL, okM, z⟩ := h
  cases rx
  cases ry
  obtain ⟨ox, od, J⟩ := hp.inst I
  obtain ⟨oy, oe, J'⟩ := hq.inst I
  show wpAny (model X.prog X.w) X.A (richCompare .NotEq (.ref p) (.ref q)) (EP X pins σ Q) X.xe s
  refine ne_own (tb := .ref C) (by have := hr.un; omega) I.kIn J J'.type (by simp [PySem.W.notFirst]) hne hob E.fi E.fn ?_
  refine wpAny_mono (run_in (Q := fun v H' => v = .bl (decide (L = M)) ∧ H' = H) (E := fun _ _ _ => False) E.ok hr.in1 rfl E.b I (vs := [.ref p, .ref q]) (.cons rfl (.cons rfl .nil)) ⟨p, q, L, M, n, b, rfl, hp, hq, okL, okM, rfl, rfl⟩) (fun r s' g => ?_) fun _ _ z => z
  obtain ⟨v, H', I', rv, rfl, rfl⟩ := g
  cases rv
  exact ⟨_, rfl, .bl (!decide (L = M)), _, I', rfl, z⟩
theorem call_lenH (K : PySem.W.Frag) (E : HSp X.prog X.w K X.mg X.base k C "__len__" f fd ["self"] (spLenH K C)) (hr : Room (k + 1) X.A) (hK : X.K = K := by rfl) : CallR X (.builtin "len") (rLenH K C) := by
  subst hK
  intro pins s σ H xs us Q I r h
  obtain ⟨p, L, rfl, hp, hL, z⟩ := h
  obtain ⟨u, rfl, ru⟩ := vals1 r
  cases ru
  obtain ⟨ox, od, J⟩ := hp.inst I
  obtain ⟨m, hF⟩ := I.fr
  refine PySem.W.len_K hF I.ok.mod.kin J E.fi E.fn ?_
  refine wpAny_mono (run_in (Q := fun v H' => v = .int L.length ∧ H' = H) (E := fun _ _ _ => False) E.ok hr.in1 rfl E.b I (vs := [.ref p]) (.cons rfl .nil) ⟨p, L, rfl, hp, hL, rfl, rfl⟩) (fun r s' g => ?_) fun _ _ z => z
  obtain ⟨v, H', I', rv, rfl, rfl⟩ := g
  obtain ⟨t, rfl⟩ := rv
  exact ⟨⟨by omega, by omega⟩, .int L.length, _, I'.tok _, ⟨_, rfl⟩, z⟩
end
/-! ### a method that may raise, within a try -/
section
variable {X : Cx} {CX : CXT} {k : Nat} {f C : Addr} {fd : FuncData} {ps : List Str} {sp : Sp} {E : L2.St → XK} {m : Str} {pos apos : Pos} {e o : Expr} {es : List Expr} {ta : TE} {t : TA}
def tMethX (C : Addr) (m : Str) (sp : Sp) (E : L2.St → XK) (ta : TE) (t : TA) : TE := fun σ H Q => ta σ H fun x H1 => ∃ a dx fs, x = .ref a ∧ H1 a = some (.ins C dx fs) ∧ fs.lookup m = none ∧ t σ H1 fun vs H2 => sp (x :: vs) H2 Q (E σ)
theorem pe_methX {pl : Sem Bool} (he : PE X o ta) (c : Cls X.K C) (hm : Meth X.K C m f) (F : FnOk X.prog X.w X.K X.mg X.base CX k f fd ps sp) (hr : Room k X.A) (hb : Binds X.K fd ps []) (hx : ∀ σ, PassesAt CX X σ (E σ)) (ha : PA X (e :: es) t)
    (hst : starEach (e :: es) X.env = (false, eval e X.env) :: starEach es X.env := by rfl) (hpl : (backTo pos (starEach es X.env)).any (·.1) = false := by rfl)
    (ht : eval (.Call (.Attribute o m apos) (e :: es) [] pos) X.env = viaMeth X.env o m pl apos pos (e :: es) [] := by rfl) :
    PE X (.Call (.Attribute o m apos) (e :: es) [] pos) (tMethX C m sp E ta t) := by
  refine ⟨fun pins s σ H Q I h => PySem.W.methodCall_KW (pl := pl) (thn (he.run pins s σ H _ I h) ?_) ht⟩
  rintro u s1 ⟨x, H1, I1, rx, a, dx, fs, rfl, ea, l, q⟩
  obtain rfl : u = Value.ref a := rx
  refine getmeth_ok I1 ea c hm l (PySem.W.callWith_K (first := [.ref a]) (h₀ := X.base) I.ok.mod.kin hm.kp (thn (ha.run pos pins s1 σ H1 _ I1 q) ?_) hst hpl)
  rintro us s2 ⟨vs, H2, I2, r, q2⟩
  exact ⟨I2.kIn, run_fnSD (us := .ref a :: us) (vs := .ref a :: vs) (dvs := []) (ds := []) F hr hb .nil (hx σ) I2 (.cons rfl r) (by rw [List.append_nil]; exact q2)⟩
end
end PK
/-! set(t) of texts. -/
namespace PK
open PySem PySem.Spec PyProof.Rows L2
def insAll (ks : List Str) : List Str := ks.foldl (fun l k => ins k l) []
theorem insAll_snoc {ks : List Str} {i : Nat} {k : Str} (h : ks[i]? = some k) : insAll (ks.take (i + 1)) = ins k (insAll (ks.take i)) := by
  unfold insAll
  rw [List.take_add_one, h, List.foldl_append]
  rfl
theorem foldl_insS : ∀ (ks l : List Str), l.Nodup → (ks.foldl (fun l k => ins k l) l).Nodup ∧ (ks.foldl (fun l k => ins k l) l).length ≤ l.length + ks.length ∧ ∀ y, y ∈ ks.foldl (fun l k => ins k l) l ↔ y ∈ l ∨ y ∈ ks
  | [], l, h => ⟨h, Nat.le_refl _, fun y => ⟨Or.inl, fun q => q.resolve_right fun z => (nomatch z)⟩⟩
  | k :: ks, l, h => by
    obtain ⟨h1, h2, h3⟩ := foldl_insS ks (ins k l) (ins_nodup h)
    have hl := ins_len (k := k) (l := l)
    refine ⟨h1, ?_, fun y => ?_⟩
    · show (ks.foldl (fun l k => ins k l) (ins k l)).length ≤ _
      rw [List.length_cons]
      omega
    · show y ∈ ks.foldl (fun l k => ins k l) (ins k l) ↔ _
      rw [h3 y, mem_ins, List.mem_cons, or_assoc, or_left_comm]
theorem insAll_nodup (ks : List Str) : (insAll ks).Nodup := (foldl_insS ks [] List.nodup_nil).1
theorem insAll_len (ks : List Str) : (insAll ks).length ≤ ks.length := by
  have := (foldl_insS ks [] List.nodup_nil).2.1
  rw [List.length_nil] at this
  unfold insAll
  omega
theorem mem_insAll {ks : List Str} {y : Str} : y ∈ insAll ks ↔ y ∈ ks := ((foldl_insS ks [] List.nodup_nil).2.2 y).trans ⟨fun q => q.resolve_left fun z => (nomatch z), Or.inr⟩
section
variable {P : Program} {w : World} {A : Around} {E : Value → Shared → Prop} {s : Shared}
theorem setTx_put {a : Addr} {l : List Str} {k : Str} {u : Tok} {Q : Bool → Shared → Prop} (R : SetTx P w s.heap a l) (hb : l.length + 1 < scanBound)
    (h : ∀ r h', Heap.SameBut a s.heap h' → SetTx P w h' a (ins k l) → Q r { s with heap := h', toks := s.toks + 1 }) :
    wpAny (model P w) A (setAdd a (.str k u)) Q E s := by
  obtain ⟨D, hD, F', r, led⟩ := R
  unfold setAdd
  refine wpAny_holding (wpAny_bind ((strKind P w).pyHash (Froz.is_str k u) ?_))
  by_cases hk : k ∈ l
  · refine add_old (s := { s with toks := s.toks + 1 }) hD F' hk (by omega) (h _ s.heap (Heap.SameBut.refl a _) ?_)
    unfold ins
    rw [if_pos hk]
    exact ⟨D, hD, F', r, led⟩
  · refine Froz.add_x (s := { s with toks := s.toks + 1 }) hD F' hk hb (h _ _ (Heap.SameBut.update ..) ?_)
    unfold ins
    rw [if_neg hk]
    exact ⟨_, Heap.get?_update_self _ hD rfl, Froz.add_ok u F', (addTx_both r).1, led.imp id fun z => by rw [(addTx_both r).2]; exact z⟩
abbrev newSet (w : World) : Obj := { cls := .type "set", dict := none, data := .set #[] 0 (.fresh 0 0 (!w.params.followText "set-order")) }
theorem SetTx.at {h h' : Heap} {a : Addr} {l : List Str} (R : SetTx P w h a l) (k : ∀ o, h.get? a = some o → h'.get? a = some o) : SetTx P w h' a l := by
  obtain ⟨D, hD, r⟩ := R
  exact ⟨D, k _ hD, r⟩
theorem upd_texts {I : Addr} {fp wr : List Addr} {G : Array GenState → Array GenState → Prop} {n : Nat} {Pv : Nat → Value → Prop} {St : Nat → Shared → Prop} {R : Result → Shared → Prop}
    (W : WalksS P w A.in1 I fp wr G n Pv St) (S : Addr) (hS : S ∉ fp) (ks : List Str) (hn : n = ks.length) (hb : ks.length + 1 < scanBound) (hv : ∀ i v, Pv i v → ∃ k t, ks[i]? = some k ∧ v = .str k t) :
    ∀ (m i : Nat) (s : Shared), n - i = m → i ≤ n → St i s → SetTx P w s.heap S (insAll (ks.take i)) → (∀ s', Moved (S :: wr) G s s' → SetTx P w s'.heap S (insAll ks) → R (.ok (.ret .none)) s') →
      codeAny (model P w) A (.builtin "set.update.loop" ⟨[.ref S, .ref I], []⟩) R s := by
  have nw : S ∉ wr := fun z => hS (W.sub _ z)
  have sb : ∀ b ∈ wr, b ∈ S :: wr := fun b z => List.mem_cons_of_mem _ z
  intro m
  induction m with
  | zero =>
    intro i s hm hi st hT hR
    obtain rfl : i = n := by omega
    refine codeAny_builtin F.entry_set_update_loop ?_
    rw [Around.under_plainId F.plain_set_update_loop _]
    refine wpAny_bind (m := pyNext (.ref I)) (W.done s _ _ st fun s' mv => wpAny_pure (hR s' (mv.mono sb) ?_))
    rw [List.take_of_length_le (by omega)] at hT
    exact hT.at fun o e => mv.heap S o nw e
  | succ m ih =>
    intro i s hm hi st hT hR
    have lt : i < n := by omega
    refine codeAny_builtin F.entry_set_update_loop ?_
    rw [Around.under_plainId F.plain_set_update_loop _]
    refine wpAny_bind (m := pyNext (.ref I)) (W.item i s _ _ lt st fun v s1 pv st1 mv => ?_)
    obtain ⟨k, t, hk, rfl⟩ := hv i v pv
    have hl := insAll_len (ks.take i)
    rw [List.length_take] at hl
    refine wpAny_bind (wpAny_holding (setTx_put (hT.at fun o e => mv.heap S o nw e) (by omega) fun r h' bt hT1 => ?_))
    rw [← insAll_snoc hk] at hT1
    refine wpAny_pure ⟨plainId_quiet F.plain_set_update_loop _, ih (i + 1) _ (by omega) lt (W.frame _ s1 _ _ st1 (Nat.le_succ _) fun b z o e => ?_) hT1 fun s2 mv2 hT2 => hR s2 (Moved.trans W.gtrans ((mv.mono sb).then_heap (Nat.le_succ _) fun b o z e => ?_) mv2) hT2⟩
    · exact (bt.2 b fun q => hS (by rw [← q]; exact z)).trans e
    · exact (bt.2 b fun q => z (by rw [q]; exact List.mem_cons_self)).trans e
/-- what stands at l: a tuple or a list of these values -/
def SeqOf (T : String) (h : Heap) (l : Addr) (its : Array Value) : Prop := ∃ dd n sl, h.get? l = some { cls := .type T, dict := dd, data := .seq its n, slots := sl }
set_option maxHeartbeats 8000000 in
theorem call_set_texts {T : String} {l : Addr} {items : Array Value} (ks : List Str) {Q : Value → Shared → Prop} (hh : A.handled = none) (hT : T = "tuple" ∨ T = "list") (hl : SeqOf T s.heap l items)
    (hsz : items.size = ks.length) (hval : ∀ (i : Nat) (v : Value), items[i]? = some v → ∃ k t, ks[i]? = some k ∧ v = .str k t) (hb : ks.length + 1 < scanBound)
    (h : ∀ (h' : Heap) (tk : Nat), SetTx P w h' s.heap.objs.size (insAll ks) → (∀ b o, s.heap.get? b = some o → h'.get? b = some o) → Q (.ref s.heap.objs.size) { s with heap := h', toks := tk }) :
    wpAny (model P w) A (call (.type "set") [.ref l]) Q E s := by
  obtain ⟨cc, tt, mro⟩ := F.called_set.mro
  have made := F.called_set.made
  have sub := F.called_set.sub
  have ntp := F.called_set.notType
  have can := F.called_set.canCreate
  have tcl := F.typeCall_set_1 (.ref l)
  refine wpAny_call (codeAny_of_tree (wpAny_pure ⟨Code.quiet_builtin _ (by decide +kernel), codeAny_builtin F.entry_type_call ?_⟩))
  rw [Around.under_plain (weight_type_call_type "set" [.ref l] []) rfl]
  repeat (any_goals (first | assumption | wp_step))
  refine codeAny_mono (code_set_led1 (.ref l) (E := E) (Q₁ := fun o s1 => o = .ref s.heap.objs.size ∧ s1 = { s with heap := s.heap.push (newSet w) }) ⟨rfl, rfl⟩) fun r s1 hr => ?_
  match r, hr with
  | .error e, hr => exact hr
  | .ok .next, hr => exact hr.elim
  | .ok .brk, hr => exact hr.elim
  | .ok .cont, hr => exact hr.elim
  | .ok (.ret o), hr =>
    obtain ⟨rfl, rfl⟩ := hr
    have ty : Shared.TypeIs { s with heap := s.heap.push (newSet w) } (.ref s.heap.objs.size) "set" := ⟨_, Heap.get?_push_size _ rfl, rfl⟩
    have look := F.called_set.init.lookup
    have bnd := F.called_set.init.bind (.ref s.heap.objs.size)
    repeat (any_goals (first | assumption | wp_step))
    refine codeAny_mono (codeAny_call_builtin (R := wants (fun r s2 => r = .none ∧ ∃ h' tk, s2 = { s with heap := h', toks := tk } ∧ SetTx P w h' s.heap.objs.size (insAll ks) ∧ ∀ b o, s.heap.get? b = some o → h'.get? b = some o) E)
      F.called_set.init.plain F.entry_set_init (check_set_init_1 ty ?_)) fun r2 s2 hr2 => ?_
    · obtain ⟨dd, n, sl, hol⟩ := hl
      have hol1 : (s.heap.push (newSet w)).get? l = _ := Heap.get?_push_of_some _ hol
      have lt : l < s.heap.objs.size := Heap.lt_size hol
      have sz : (s.heap.push (newSet w)).objs.size = s.heap.objs.size + 1 := Heap.size_push ..
      have hh3 : A.in1.in1.in1.handled = none := by simp [hh]
      have ne1 : l ≠ (s.heap.push (newSet w)).objs.size := by rw [sz]; exact Nat.ne_of_lt (Nat.lt_succ_of_lt lt)
      have nin : s.heap.objs.size ∉ [(s.heap.push (newSet w)).objs.size, l] := by
        rw [sz]
        intro z
        rcases List.mem_cons.mp z with z | z
        · exact absurd z (Nat.ne_of_lt (Nat.lt_succ_self _))
        · exact absurd (List.mem_singleton.mp z) (Nat.ne_of_gt lt)
      have fin : ∀ (it : Obj) (s3 : Shared), Moved (s.heap.objs.size :: [(s.heap.push (newSet w)).objs.size]) (fun a b => b = a) { s with heap := (s.heap.push (newSet w)).push it } s3 → SetTx P w s3.heap s.heap.objs.size (insAll ks) →
          ∃ h' tk, s3 = { s with heap := h', toks := tk } ∧ SetTx P w h' s.heap.objs.size (insAll ks) ∧ ∀ b o, s.heap.get? b = some o → h'.get? b = some o := by
        intro it s3 mv hT3
        obtain ⟨h3, g3, d3, t3, o3⟩ := s3
        obtain rfl : g3 = s.gens := mv.gens
        obtain rfl : d3 = s.drawn := mv.drawn
        obtain rfl : o3 = s.os := mv.os
        refine ⟨h3, t3, rfl, hT3, fun b o e => mv.heap b o (fun z => ?_) (Heap.get?_push_of_some _ (Heap.get?_push_of_some _ e))⟩
        have lb : b < s.heap.objs.size := Heap.lt_size e
        rcases List.mem_cons.mp z with z | z
        · exact absurd z (Nat.ne_of_lt lb)
        · rw [sz] at z
          exact absurd (List.mem_singleton.mp z) (Nat.ne_of_lt (Nat.lt_succ_of_lt lb))
      rcases hT with rfl | rfl
      · have f1 := F.sub_tuple_set
        have f2 := F.sub_tuple_frozenset
        have f3 : (Value.type "tuple" == Value.type "dict") = false := by decide
        unfold Builtin.«set.__init__» noKeywords Builtin.Frozenset.updateFrom
        generalize hPI : pyIter = PI
        wp_walk
        subst hPI
        have it1 : (s.heap.push (newSet w)).IsTuple l items := ⟨_, hol1, rfl, n, rfl⟩
        refine wpAny_pyIter_tuple it1 (wpAny_bind (wpAny_runValue ?_))
        refine upd_texts ((Walks.tuple hh3 _ l ne1 items).toS) s.heap.objs.size nin ks hsz hb hval (items.size - 0) 0 _ (by omega) (Nat.zero_le _) ⟨⟨_, Heap.get?_push_size _ rfl, rfl, rfl⟩, it1.push _⟩ (setTx_new.at fun o e => Heap.get?_push_of_some _ e) fun s3 mv hT3 => ?_
        refine wpAny_pure ?_
        show wpAny _ _ (ret Value.none) _ _ _
        exact wpAny_pure ⟨rfl, fin _ s3 mv hT3⟩
      · have f1 := F.sub_list_set
        have f2 := F.sub_list_frozenset
        have f3 : (Value.type "list" == Value.type "dict") = false := by decide
        unfold Builtin.«set.__init__» noKeywords Builtin.Frozenset.updateFrom
        generalize hPI : pyIter = PI
        wp_walk
        subst hPI
        have it1 : (s.heap.push (newSet w)).IsList l items := ⟨_, hol1, rfl, n, rfl⟩
        refine wpAny_pyIter_list it1 (wpAny_bind (wpAny_runValue ?_))
        refine upd_texts ((Walks.list hh3 _ l ne1 items).toS) s.heap.objs.size nin ks hsz hb hval (items.size - 0) 0 _ (by omega) (Nat.zero_le _) ⟨⟨_, Heap.get?_push_size _ rfl, rfl, rfl⟩, it1.push _⟩ (setTx_new.at fun o e => Heap.get?_push_of_some _ e) fun s3 mv hT3 => ?_
        refine wpAny_pure ?_
        show wpAny _ _ (ret Value.none) _ _ _
        exact wpAny_pure ⟨rfl, fin _ s3 mv hT3⟩
    · match r2, hr2 with
      | .error e, hr2 => exact hr2
      | .ok .next, hr2 => exact hr2.elim
      | .ok .brk, hr2 => exact hr2.elim
      | .ok .cont, hr2 => exact hr2.elim
      | .ok (.ret o), hr2 =>
        obtain ⟨rfl, h', tk, rfl, hT', kp⟩ := hr2
        repeat (any_goals (first | assumption | wp_step))
        exact h _ _ hT' kp
end
section
variable {X : Cx}
def rSetOf (K : PySem.W.Frag) (P : Program) (w : World) : List V → Hp → VK → Prop := fun xs H Q => ∃ (l : Addr) (ks : List Str), xs = [.ref l] ∧ (SqT K H l (ks.map V.str) ∨ SqL K H l (ks.map V.str)) ∧ ks.length ≤ 1000 ∧
  ∀ p, H p = none → Q (.ref p) (upd H p (SetTO P w p (insAll ks)))
theorem call_setOf {k : Nat} (K : PySem.W.Frag) (hr : Room k X.A) (hK : X.K = K := by rfl) : CallR X (.type "set") (rSetOf K X.prog X.w) := by
  subst hK
  intro pins s σ H xs us Q I r h
  obtain ⟨l, ks, rfl, hs, hk, q⟩ := h
  obtain ⟨u, rfl, ru⟩ := vals1 r
  cases ru
  have sb : ks.length + 1 < scanBound := by unfold scanBound; omega
  have go : ∀ {T : String} {its : List Value}, T = "tuple" ∨ T = "list" → SeqOf T s.heap l its.toArray → Vals (ks.map V.str) its → wpAny (model X.prog X.w) X.A (call (.type "set") [.ref l]) (EP X pins σ Q) X.xe s := by
    intro T its hT hl rv
    have len : its.length = ks.length := by rw [← rv.length, List.length_map]
    refine call_set_texts ks hr.hd hT hl (by rw [List.size_toArray]; exact len) (fun i v e => ?_) sb fun h' tk hS kp => ?_
    · rw [List.getElem?_toArray] at e
      have hi : i < ks.length := by rw [← len]; exact (List.getElem?_eq_some_iff.mp e).1
      obtain ⟨u, hu, ru⟩ := rv.get (i := i) (x := .str ks[i]) (by rw [List.getElem?_map, List.getElem?_eq_getElem hi]; rfl)
      obtain ⟨t, rfl⟩ := ru
      rw [e] at hu
      cases hu
      exact ⟨ks[i], t, List.getElem?_eq_getElem hi, rfl⟩
    · refine ⟨.ref _, _, I.laid (t' := tk) (o := SetTO X.prog X.w s.heap.objs.size (insAll ks)) kp (Nat.le_refl _) (setTO_ok hS), rfl, q _ (I.hok.fresh (Nat.le_refl _))⟩
  rcases hs with hs | hs
  · obtain ⟨its, rv, ⟨⟨c, dd, dt, sl⟩, ho, hc, m, hd⟩, _⟩ := I.tuple hs
    simp only at hc hd
    subst hc hd
    exact go (.inl rfl) ⟨_, _, _, ho⟩ rv
  · obtain ⟨its, rv, ⟨⟨c, dd, dt, sl⟩, m, ho, hc, hdd, hd⟩, _⟩ := I.list hs
    simp only at hc hd hdd
    subst hc hd hdd
    exact go (.inr rfl) ⟨_, _, _, ho⟩ rv
end
end PK
/-! Short readings of heaps' methods. -/
namespace PK
open PySem PySem.Spec PyProof.Rows L2
theorem manyR_app (L M : List PRow) (f : Str) (o : Option Str) : manyR (L ++ M) f o = manyR L f o + manyR M f o := by
  unfold manyR selL
  rw [List.filter_append, List.map_append, List.sum_append]
theorem mem_formsR {L : List PRow} {y : Str} : y ∈ formsR L ↔ ∃ r ∈ L, y = r.1 := by
  unfold formsR sortS
  rw [(srt_perm false PyData.str _).mem_iff, mem_formL]
theorem formsR_len (L : List PRow) : (formsR L).length ≤ L.length := by
  unfold formsR sortS
  rw [(srt_perm false PyData.str _).length_eq]
  exact formL_len L
theorem flat_strsD (l : List Str) : flatT (strsD l) = true := flat_strs l
theorem strsD_shaped {l : List Str} (h : ∀ y ∈ l, Word y) : SeqAt.shaped (strsD l) = true := by
  have hc : PyData.canLayAll0 (l.map PyData.str) = true := by
    induction l with
    | nil => rfl
    | cons y l ih =>
      show (PyData.canLay0 (.str y) && PyData.canLayAll0 (l.map PyData.str)) = true
      rw [ih fun z hz => h z (List.mem_cons_of_mem _ hz)]
      simp [PyData.canLay0, word_ok (h y List.mem_cons_self)]
  have hd : (strsD l).depth ≤ 64 := by
    have : PyData.depthAll (l.map PyData.str) ≤ 63 := depthAll_le fun d hd => by
      obtain ⟨y, _, rfl⟩ := List.mem_map.mp hd
      exact Nat.zero_le _
    show PyData.depthAll (l.map PyData.str) + 1 ≤ 64
    omega
  unfold SeqAt.shaped
  rw [show (strsD l).canLay0 = true from by simpa [strsD, PyData.canLay0] using hc, decide_eq_true hd]
  rfl
theorem forms_plus (L M : List PRow) : formsR (sumR (L ++ M)) = sortS (insAll (formsR L ++ formsR M)) := by
  refine sortS_of (insAll_nodup _) (str_rises (formL_nodup _)) fun y => ?_
  show y ∈ formsR (sumR (L ++ M)) ↔ _
  rw [mem_insAll, List.mem_append, mem_formsR, mem_formsR, mem_formsR]
  have key : (∃ r ∈ sumR (L ++ M), y = r.1) ↔ ∃ r ∈ L ++ M, y = r.1 := by
    have e : ∀ N : List PRow, (∃ r ∈ N, y = r.1) ↔ ∃ k ∈ N.map pk, y = k.1 := fun N => by
      constructor
      · rintro ⟨r, hr, rfl⟩
        exact ⟨pk r, List.mem_map.mpr ⟨r, hr, rfl⟩, rfl⟩
      · rintro ⟨k, hk, rfl⟩
        obtain ⟨r, hr, rfl⟩ := List.mem_map.mp hk
        exact ⟨r, hr, rfl⟩
    rw [e, e, sumR_keys]
    constructor
    · rintro ⟨k, hk, z⟩
      exact ⟨k, mem_skeys.mp hk, z⟩
    · rintro ⟨k, hk, z⟩
      exact ⟨k, mem_skeys.mpr hk, z⟩
  rw [key]
  constructor
  · rintro ⟨r, hr, z⟩
    rcases List.mem_append.mp hr with h | h
    · exact Or.inl ⟨r, h, z⟩
    · exact Or.inr ⟨r, h, z⟩
  · rintro (⟨r, hr, z⟩ | ⟨r, hr, z⟩)
    · exact ⟨r, List.mem_append.mpr (Or.inl hr), z⟩
    · exact ⟨r, List.mem_append.mpr (Or.inr hr), z⟩
theorem k_setOf {X : Cx} {k : Nat} (K : PySem.W.Frag) (P : Program) (w : World) (hr : Room k X.A) (hK : X.K = K := by rfl) (hP : X.prog = P := by rfl) (hw : X.w = w := by rfl) : CallR X (.type "set") (rSetOf K P w) := by
  subst hP hw
  exact call_setOf K hr hK
theorem k_srtSet {X : Cx} {k : Nat} (P : Program) (w : World) (hc : X.calm = true) (hr : Room k X.A) (hP : X.prog = P := by rfl) (hw : X.w = w := by rfl) : CallR X (.builtin "sorted") (rSrtSet P w) := by
  subst hP hw
  exact call_srtSet hc hr
section
variable {K : PySem.W.Frag} {C p q : Addr} {H : Hp} {L M : List PRow}
theorem rd_m {m : Str} {R : Prop} (h : HeapAt K C H p L) (hm : ¬ m = "held") (k : R) : ∃ a dx fs, V.ref p = .ref a ∧ H a = some (.ins C dx fs) ∧ fs.lookup m = none ∧ R := by
  obtain ⟨dx, fz, e1, e2⟩ := h.no hm
  exact ⟨p, dx, fz, rfl, e1, e2, k⟩
theorem rd_cat {a b : Addr} {us vs : List V} {Q : VK} (ha : SqT K H a us) (hb : SqT K H b vs) (hz : us.length + vs.length ≤ 1000) (k : ∀ c H', Same H H' → SqT K H' c (us ++ vs) → Q (.ref c) H') : rCatA K (.ref a) (.ref b) H Q := by
  refine ⟨a, b, us, vs, rfl, rfl, ha, hb, Nat.le_trans hz (by decide), fun e => ?_, fun _ e => ?_, fun _ _ c nc => k c _ (same_new (Same.refl H) nc) (SqT.of upd_same)⟩
  · subst e
    exact k b H (Same.refl H) hb
  · subst e
    rw [List.append_nil] at k
    exact k a H (Same.refl H) ha
theorem rd_eq {n : Nat} {Q : VK} (hp : HeapAt K C H p L) (hq : HeapAt K C H q M) (u : Up n L) (v : Up n M) (k : Q (.bl (decide (L = M))) H) : rEqH K C (.ref p) (.ref q) H Q := by
  obtain ⟨b, o1, o2⟩ := u.two v
  exact ⟨p, q, L, M, n, b, rfl, rfl, hp, hq, o1, o2, k⟩
theorem rd_ne {n : Nat} {Q : VK} (hp : HeapAt K C H p L) (hq : HeapAt K C H q M) (u : Up n L) (v : Up n M) (k : Q (.bl (!decide (L = M))) H) : rNeH K C (.ref p) (.ref q) H Q := by
  obtain ⟨b, o1, o2⟩ := u.two v
  exact ⟨p, q, L, M, n, b, rfl, rfl, hp, hq, o1, o2, k⟩
theorem rd_plus {Q : VK} {E : XK} (hp : HeapAt K C H p L) (hq : HeapAt K C H q M) (hl : L.length + M.length ≤ 900) (k : ∀ r H', Same H H' → HeapAt K C H' r (sumR (L ++ M)) → Q (.ref r) H') : spPlus K C [.ref p, .ref q] H Q E :=
  ⟨p, q, L, M, rfl, hp, hq, hl, fun r H' _ s h => k r H' s h⟩
theorem rd_less {CN : Addr} {n : Nat} {Q : VK} {E : XK} (hp : HeapAt K C H p L) (hq : HeapAt K C H q M) (u : Up n L) (v : Up n M) (hn : n ≤ 900) (e : aboveR M L = []) (k : ∀ r H', Same H H' → HeapAt K C H' r (aboveR L M) → Q (.ref r) H') : spLess K C CN [.ref p, .ref q] H Q E := by
  obtain ⟨b, o1, o2⟩ := u.two v
  exact ⟨p, q, L, M, n, b, rfl, hp, hq, o1, o2, hn, u.up, v.up, fun _ r H' _ s h => k r H' s h, fun z => absurd e z⟩
theorem rd_holds {n : Nat} {Q : VK} {E : XK} (hp : HeapAt K C H p L) (hq : HeapAt K C H q M) (u : Up n L) (v : Up n M) (hn : n ≤ 900) (k : ∀ H', Same H H' → Q (.bl (decide (aboveR M L = []))) H') : spHolds K C [.ref p, .ref q] H Q E := by
  obtain ⟨b, o1, o2⟩ := u.two v
  exact ⟨p, q, L, M, n, b, rfl, hp, hq, o1, o2, hn, k⟩
end
end PK
/-! Lists of heaps. -/
namespace PK
open PySem PySem.Spec PyProof.Rows L2
/-- the values are heaps of these rows -/
inductive AllH (K : PySem.W.Frag) (C : Addr) (H : Hp) : List V → List (List PRow) → Prop
  | nil : AllH K C H [] []
  | cons {p : Addr} {L : List PRow} {zs : List V} {Ls : List (List PRow)} (h : HeapAt K C H p L) (t : AllH K C H zs Ls) : AllH K C H (.ref p :: zs) (L :: Ls)
section
variable {K : PySem.W.Frag} {C : Addr} {H H' : Hp} {zs : List V} {Ls : List (List PRow)}
theorem AllH.same (h : AllH K C H zs Ls) (s : Same H H') : AllH K C H' zs Ls := by
  induction h with
  | nil => exact .nil
  | cons h _ ih => exact .cons (h.same s) ih
theorem AllH.lst {d : Addr} {xs : List V} {o : HO} (h : AllH K C H zs Ls) (hd : H d = some (.lst xs)) : AllH K C (upd H d o) zs Ls := by
  induction h with
  | nil => exact .nil
  | cons h _ ih => exact .cons (h.lst hd) ih
theorem AllH.ext {a c : Addr} (h : AllH K C H zs Ls) (fe : IsFeed H a c) (x : Ext a H H') : AllH K C H' zs Ls := by
  induction h with
  | nil => exact .nil
  | cons h _ ih => exact .cons (h.ext fe x) ih
theorem AllH.snoc {p : Addr} {L : List PRow} (h : AllH K C H zs Ls) (g : HeapAt K C H p L) : AllH K C H (zs ++ [.ref p]) (Ls ++ [L]) := by
  induction h with
  | nil => exact .cons g .nil
  | cons h _ ih => exact .cons h ih
theorem AllH.len (h : AllH K C H zs Ls) : zs.length = Ls.length := by
  induction h with
  | nil => rfl
  | cons h _ ih => rw [List.length_cons, List.length_cons, ih]
theorem AllH.getV {i : Nat} {v : V} (h : AllH K C H zs Ls) (e : zs[i]? = some v) : ∃ p L, v = .ref p ∧ Ls[i]? = some L ∧ HeapAt K C H p L := by
  induction h generalizing i with
  | nil => simp at e
  | @cons p L zs Ls h _ ih =>
    cases i with
    | zero =>
      cases e
      exact ⟨p, L, rfl, rfl, h⟩
    | succ i => exact ih e
theorem AllH.get {i : Nat} {L : List PRow} (h : AllH K C H zs Ls) (e : Ls[i]? = some L) : ∃ p, zs[i]? = some (.ref p) ∧ HeapAt K C H p L := by
  induction h generalizing i with
  | nil => simp at e
  | @cons p L zs Ls h _ ih =>
    cases i with
    | zero =>
      cases e
      exact ⟨p, rfl, h⟩
    | succ i => exact ih e
end
theorem take_map_snoc {α β : Type} {f : α → β} {l : List α} {i : Nat} {x : α} (h : l[i]? = some x) : (l.take (i + 1)).map f = (l.take i).map f ++ [f x] := by
  rw [take_snoc h, List.map_append]
  rfl
end PK
namespace PK
open PySem PySem.Spec PyProof.Rows L2

section
variable {P : Program} {w : World} {K : PySem.W.Frag} {mg mb : Str → Option Value} {k : Nat} {fa a : Addr} {fd : FuncData} {x : Str} {sp : Sp}
  {s₁ : Shared} {vs : List Value} {ns : List Int}
abbrev AllTrue (s₁ : Shared) : Result → Shared → Prop :=
  fun r s' => r = .ok (.ret (.bool true)) ∧ OldK s₁.heap s'.heap ∧ s'.os = s₁.os ∧ AllBare s'.gens

/-- what is hidden are the tracked objects: here at most the script -/
theorem core_of {H : Hp} (KX : K.In s₁.heap) (hns : s₁.heap.Ns mainGlobals mg) (hb : s₁.heap.Ns builtinsNs mb)
    (hbb : ∀ y : Str, y ≠ "__name__" → mb y = bootBuiltins y) (hlim : s₁.heap.NoLimit) (hg : s₁.gens = #[])
    (ha : s₁.heap.get? a = some { cls := .type "list", data := .seq vs.toArray }) (hr : Room k callerA)
    (F : ∀ base : Heap, K.In base → base.Ns mainGlobals mg → FnG P w K mg base CX0 k fa fd [x] sp)
    (hbind : ∀ (s : Shared) (u : Value), BindsTo s fd ⟨[u], []⟩ [(x, u)])
    (hO : Only H) (hS : sp [.ref a] H (fun v _ => v = .bl true) fun _ _ _ => False) (hok : HOk P w H s₁.heap)
    (hA : ∀ b u, H b = some u → b = a) (hK : ∀ u, H a = some u → K.lookup a = none) :
    codeAny (model P w) callerA (.call (.ref fa) ⟨[.ref a], []⟩) (AllTrue s₁) s₁ := by
  have free : ∀ {b : Addr} {o : Obj}, s₁.heap.get? b = some o → (∀ es ep, o.data = .dict es ep → True) → (∃ es ep, o.data = .dict es ep) → H b = none := by
    intro b o e _ ⟨es, ep, d⟩
    cases q : H b with
    | none => rfl
    | some u =>
      have e1 := hA b u q
      rw [e1, ha] at e
      rw [← Option.some.inj e] at d
      cases d
  have toNs : ∀ {b : Addr} {m : Str → Option Value}, s₁.heap.Ns b m → (hidT s₁.heap H).Ns b m := by
    rintro b m ⟨o, es, ep, e, d, r⟩
    exact ⟨o, es, ep, hidT_get e (free e (fun _ _ _ => trivial) ⟨es, ep, d⟩), d, r⟩
  have KB : K.In (hidT s₁.heap H) := by
    intro b o e
    refine hidT_get (KX b o e) ?_
    cases q : H b with
    | none => rfl
    | some u =>
      have e1 := hA b u q
      subst e1
      rw [hK u q] at e
      cases e
  obtain ⟨mc, l1, l2⟩ := hlim
  have M : Mod K mg (hidT s₁.heap H) := ⟨KB, toNs hns, ⟨mb, toNs hb, hbb⟩, ⟨mc, toNs l1, l2⟩⟩
  have e0 : Env0 P w K mg (hidT s₁.heap H) callerA [] s₁ H :=
    { frames := rfl, mod := M, bs := fun b o e => of_hidT e, bsz := Nat.le_of_eq (hidT_size _ _), funs := trivial,
      frf := fun b z => absurd z (List.not_mem_nil), hok := hok, bare := .of_eq hg }
  refine codeAny_mono ((F _ KB (toNs hns)).go (us := [.ref a]) (vs := [.ref a]) rfl hr e0 (hbind s₁ (.ref a)) (.cons rfl .nil) hS) ?_
  intro res s' h
  match res, h with
  | .error _, h => exact h.elim
  | .ok .next, h => exact h.elim
  | .ok .brk, h => exact h.elim
  | .ok .cont, h => exact h.elim
  | .ok (.ret u), h =>
    obtain ⟨v, H', os, bare, un, hok', rv, ev⟩ := h
    have ev' : v = .bl true := ev
    subst ev'
    cases rv
    refine ⟨rfl, OldK.of_keep fun b o e => ?_, os, bare⟩
    rcases hO b with z | ⟨ob, xs, z⟩
    · exact un.keep b o e z (by intro z'; cases z') (by intro z'; cases z')
    · have z2 := hok' b _ (un.frzs b ob _ z)
      have z1 := hok b _ z
      have e1 : ob = o := Option.some.inj (z1.1.symm.trans e)
      rw [← e1]
      exact z2.1

theorem law_goG (KX : K.In s₁.heap) (hns : s₁.heap.Ns mainGlobals mg) (hb : s₁.heap.Ns builtinsNs mb)
    (hbb : ∀ y : Str, y ≠ "__name__" → mb y = bootBuiltins y) (hlim : s₁.heap.NoLimit) (hg : s₁.gens = #[])
    (ha : s₁.heap.get? a = some { cls := .type "list", data := .seq vs.toArray }) (hi : IntsAre vs ns) (hl : ns.length ≤ sizeLine) (hr : Room k callerA)
    (F : ∀ base : Heap, K.In base → base.Ns mainGlobals mg → FnG P w K mg base CX0 k fa fd [x] sp)
    (hbind : ∀ (s : Shared) (u : Value), BindsTo s fd ⟨[u], []⟩ [(x, u)])
    (hsp : ∀ H : Hp, Only H → SqL K H a (ns.map V.int) → sp [.ref a] H (fun v _ => v = .bl true) fun _ _ _ => False) :
    codeAny (model P w) callerA (.call (.ref fa) ⟨[.ref a], []⟩) (AllTrue s₁) s₁ := by
  have rv := vals_ints hi
  have lz : (ns.map V.int).length ≤ sizeLine := by rw [List.length_map]; exact hl
  cases hk : K.lookup a with
  | some o =>
    have e : o = _ := Option.some.inj ((KX a o hk).symm.trans ha)
    have hO : Only (fun _ => none) := fun _ => Or.inl rfl
    refine core_of (H := fun _ => none) KX hns hb hbb hlim hg ha hr F hbind hO (hsp _ hO ?_) (fun _ _ z => by cases z) (fun _ _ z => by cases z) (fun _ z => by cases z)
    refine Or.inr ⟨o, vs.toArray, 0, hk, ?_, ?_, ?_, ?_, ?_⟩
    · rw [e]
    · rw [e]
    · rw [e]
    · rw [List.size_toArray, hi.length]; exact hl
    · simpa using rv
  | none =>
    let ob : Obj := { cls := .type "list", data := .seq vs.toArray }
    let Hs : Hp := upd (fun _ => none) a (.frz ob (.lst (ns.map V.int)))
    have hO : Only Hs := fun b => by
      by_cases z : b = a
      · subst z
        exact Or.inr ⟨ob, _, upd_same⟩
      · exact Or.inl (upd_ne z)
    have only : ∀ b u, Hs b = some u → b = a ∧ u = .frz ob (.lst (ns.map V.int)) := fun b u q => by
      by_cases z : b = a
      · subst z
        rw [show Hs b = _ from upd_same] at q
        exact ⟨rfl, (Option.some.inj q).symm⟩
      · rw [show Hs b = _ from upd_ne z] at q
        cases q
    refine core_of (H := Hs) KX hns hb hbb hlim hg ha hr F hbind hO (hsp _ hO (Or.inl (Or.inr ⟨ob, upd_same⟩))) (fun b u q => ?_) (fun b u q => (only b u q).1) (fun _ _ => hk)
    obtain ⟨rfl, rfl⟩ := only b u q
    exact ⟨ha, lz, vs, 0, rv, ha⟩
end

theorem walk_ofG {l : PySem.W.OpenLaw} {n k : Nat} {q : Program} {loose : List Str} {XP : (Str → Option Value) → Heap → Prop} {YP : World → Heap → Prop}
    {d : DefRec} {K : Params → PySem.W.Frag} {sp : World → Sp} {x : Str}
    (hn : l.most = some n) (hn2 : n ≤ sizeLine) (hdf : d.params.defaults = []) (hr : Room k callerA)
    (hY : ∀ (w : World) (h : Heap), YP w h → (K w.params).In h)
    (F : ∀ (w : World) (mg : Str → Option Value) (fa : Addr) (h : Heap), (K w.params).In h → h.Ns mainGlobals mg → mg d.name = some (.ref fa) →
      ∃ fd : FuncData, (∀ (s : Shared) (u : Value), BindsTo s fd ⟨[u], []⟩ [(x, u)]) ∧
        ∀ base : Heap, (K w.params).In base → base.Ns mainGlobals mg → FnG l.prog w (K w.params) mg base CX0 k fa fd [x] (sp w))
    (hsp : ∀ (w : World) (H : Hp) (a : Addr) (ns : List Int), ns.length ≤ n → Only H → SqL (K w.params) H a (ns.map V.int) →
      sp w [.ref a] H (fun v _ => v = .bl true) fun _ _ _ => False) :
    PySem.W.WalkO q loose XP YP l.row.toRowW d [] (fun f vs => PySem.call f vs) := by
  refine Att.attach_call hn hdf ?_
  intro w s₀ s₁ mg mb fa o pm cd doc a vs ns G Y ho hd hcd hmg hobj hints hlen hg
  have KX := hY w _ Y
  obtain ⟨fd, hb, hF⟩ := F w mg fa _ KX G.T.g hmg
  exact law_goG KX G.T.g G.T.b G.T.builtins G.T.nolimit hg hobj hints (Nat.le_trans hlen hn2) hr hF hb fun H hO hS => hsp w H a ns hlen hO hS
end PK
namespace K13
open PySem PySem.Spec PyProof.Rows L2 PK
def topS (i : Nat) : Stmt := PySem.Challenge.pw_partkits_k13_whole_less_and_back.main.body.getD i (.Pass ⟨0, 0, 0, 0⟩)
abbrev NFeed : List Str := ["_law_script"]
theorem scFeed : FnScope NFeed ["_law_script"] (defScope (topS 9)) := ⟨rfl, rfl, rfl, by decide +kernel, rfl, by decide +kernel, by decide +kernel⟩
section
variable {P : Program} {w : World} {K : PySem.W.Frag} {mg : Str → Option Value} {base : Heap}
def spFeed (K : PySem.W.Frag) : Sp := fun vs H Q _ => ∃ (a : Addr) (ns : List Int), vs = [.ref a] ∧ SqL K H a (ns.map V.int) ∧
  ∀ p c H', H p = none → Same H H' → IsFeed H' p c → Q (.ref p) H'
theorem ok_feed {f : Addr} {fd : FuncData} {k : Nat} (F : Fun K "_law_feed" "_law_feed" (topS 9) f fd) (hL : mg "list" = none) :
    FnOk P w K mg base CX0 (k + 1) f fd ["_law_script"] (spFeed K) := by
  refine F.ok scFeed (fun vs H Q E h => ?_) (fun cdv A outer s H vs Q E hr h => ?_)
  · obtain ⟨a, ns, rfl, _⟩ := h
    rfl
  · obtain ⟨a, ns, rfl, hS, q⟩ := h
    refine ⟨_, (pss_one (ps_ret (pe_disp (pps_cons pe_str (pe_callTy (k_list K) (by rfl) hL (by decide +kernel) (pa_cons (pe_slice (ks_list K) (pv 0) po_none (po_some pe_int)) pa_nil)) (pps_cons pe_str pe_int (pps_cons pe_str pe_int (pps_cons pe_str pe_int pps_nil)))) (by rfl) (by rfl) (fun z => by cases z) (by decide)))), ?_⟩
    intro p np
    have sp : Same H (upd H p (.dK [])) := same_new (Same.refl H) np
    refine ⟨.ref a, rfl, 63, rfl, a, ns.map V.int, rfl, sp.seq hS, fun c nc => ?_⟩
    have ncp : c ≠ p := fun e => by
      rw [e, upd_same] at nc
      cases nc
    refine ⟨c, _, rfl, .inl (.inl (.inl upd_same)), fun d nd => ?_⟩
    have ndp : d ≠ p := fun e => by
      rw [e, upd_ne ncp.symm, upd_same] at nd
      cases nd
    refine ⟨?_, feed d 0 0 0, rfl, by show 4 ≤ 15; decide, ?_⟩
    · rw [upd_ne ndp.symm, upd_ne ncp.symm, upd_same]
    · rw [feed_merge]
      have s2 : Same H (upd (upd (upd H p (.dK [])) c (.lst (cutV (ns.map V.int) none (some 63)))) d (.lst (cutV (ns.map V.int) none (some 63)))) := same_new (same_new sp nc) nd
      refine q p d _ np (same_own s2 np) ⟨(ns.drop (HT.sIx ns.length 0 none)).take (HT.sIx ns.length ns.length (some 63) - HT.sIx ns.length 0 none), 0, 0, 0, upd_same, ?_, by decide⟩
      rw [upd_ne ndp, upd_same]
      unfold cutV
      rw [List.map_take, List.map_drop, List.length_map]
end
abbrev NDraw : List Str := ["_law_feed_here", "_law_many_here", "_law_figure", "_law_at", "_law_cell", "_law_mixed"]
theorem scDraw : FnScope NDraw ["_law_feed_here", "_law_many_here"] (defScope (topS 10)) := ⟨rfl, rfl, rfl, by decide +kernel, rfl, by decide +kernel, by decide +kernel⟩
section
variable {P : Program} {w : World} {K : PySem.W.Frag} {mg : Str → Option Value} {base : Heap}
theorem ok_draw {f : Addr} {fd : FuncData} {k : Nat} (F : Fun K "_law_draw" "_law_draw" (topS 10) f fd) (hl : mg "len" = none) :
    FnOk P w K mg base CX0 (k + 1) f fd ["_law_feed_here", "_law_many_here"] spDraw := by
  refine F.ok scDraw (fun vs H Q E h => ?_) (fun cdv A outer s H vs Q E hr h => ?_)
  · obtain ⟨a, c, m, rfl, _⟩ := h
    rfl
  · obtain ⟨a, c, m, rfl, ⟨cs, i, l, n, fd⟩, m0, m1, q⟩ := h
    have e0 : Ext a H H := Ext.refl a H
    refine ⟨_, (pss_cons (ps_dput (hu_of hr) (pv 0) pe_str (pe_op op_add (pe_dget (hu_of hr) (pv 0) pe_str (fun _ _ => rfl)) pe_int) rfl)
  (pss_cons (ps_if (pt_cmpR op_gt (pe_dget (hu_of hr) (pv 0) pe_str (fun _ _ => rfl)) pe_int (nomark _))
  (pss_cons (ps_set (i := 2) scDraw.nd rfl (.inl rfl) (pe_op op_mod (pe_dget (hu_of hr) (pv 0) pe_str (fun _ _ => rfl)) (pv 1)))
  (pss_cons (ps_dput (hu_of hr) (pv 0) pe_str (pe_op op_fdiv (pe_dget (hu_of hr) (pv 0) pe_str (fun _ _ => rfl)) (pv 1)) rfl)
  (pss_one (ps_ret (pv 2))))) pss_nil)
  (pss_cons (ps_set (i := 3) scDraw.nd rfl (.inl rfl) (pe_dget (hu_of hr) (pv 0) pe_str (fun _ _ => rfl)))
  (pss_cons (ps_dput (hu_of hr) (pv 0) pe_str (pe_op op_add (pv 3) pe_int) rfl)
  (Evl.pss_cut (ps_set (i := 4) scDraw.nd rfl (.inl rfl) (pe_ifExp (pt_cmpR (ko_neNil K hr) (pe_dget (hu_of hr) (pv 0) pe_str (fun _ _ => rfl)) (pe_lst pa_nil) (nomark _)) (pe_ix (kx_list K) (pe_dget (hu_of hr) (pv 0) pe_str (fun _ _ => rfl)) (pe_op op_mod (pv 3) (pe_callB (k_len K) (by rfl) hl PySem.boot_len (pa_cons (pe_dget (hu_of hr) (pv 0) pe_str (fun _ _ => rfl)) pa_nil))) (fun _ _ => rfl)) pe_int))
  (Evl.pss_cut (ps_if (PW.pt (pw_and (pt_cmpR op_ge (pv 4) (pe_op op_pow pe_int pe_int) (nomark _)) (pw_and1 (pt_cmpR op_lt (pv 3) (pe_callB (k_len K) (by rfl) hl PySem.boot_len (pa_cons (pe_dget (hu_of hr) (pv 0) pe_str (fun _ _ => rfl)) pa_nil)) (nomark _)))))
  (pss_cons (ps_dput (hu_of hr) (pv 0) pe_str (pe_op op_fdiv (pv 4) (pv 1)) rfl)
  (pss_one (ps_ret (pe_op op_mod (pv 4) (pv 1))))) pss_nil)
  (pss_cons (ps_set (i := 5) scDraw.nd rfl (.inl rfl) (pe_op op_mod (pe_op op_add (pe_op op_add (pe_op op_mod (pv 4) pe_int) (pe_op op_mul pe_int (pe_dget (hu_of hr) (pv 0) pe_str (fun _ _ => rfl)))) pe_int) pe_int))
  (pss_cons (ps_set (i := 5) scDraw.nd rfl (.inl rfl) (pe_op op_mod (pe_op op_add (pe_op op_add (pe_op op_mul (pv 5) (pv 5)) (pe_op op_mul pe_int (pe_dget (hu_of hr) (pv 0) pe_str (fun _ _ => rfl)))) pe_int) pe_int))
  (pss_one (ps_ret (pe_op op_mod (pe_op op_fdiv (pe_op op_mod (pe_op op_add (pe_op op_mul (pv 5) (pv 5)) (pe_op op_mul pe_int (pv 5))) pe_int) pe_int) (pv 1)))))))))))), ?_⟩
    refine ⟨.ref a, rfl, a, .int n, rfl, DGet.k (k := kN) fd.d, n, 1, rfl, rfl, .ref a, rfl, a, _, rfl, DPut.k (k := kN) fd.d (feed_len c i l n), ?_⟩
    rw [feed_putN]
    have f1 := fd.put (l' := l) (n' := n + 1) fd.i0
    have e1 : Ext a H (upd H a (.dK (feed c i l (n + 1)))) := e0.at
    generalize upd H a (.dK (feed c i l (n + 1))) = H1 at f1 e1
    refine ⟨.ref a, rfl, a, .int l, rfl, DGet.k (k := kL) f1.d, l, 0, rfl, rfl, _, rfl, ite2 (fun hl0 => ?_) (fun hl0 => ?_)⟩
    · have hl0 : 0 < l := of_decide_eq_true hl0
      refine ⟨.ref a, rfl, a, .int l, rfl, DGet.k (k := kL) f1.d, .int m, rfl, l, m, rfl, rfl, m0, ?_⟩
      refine ⟨.ref a, rfl, a, .int l, rfl, DGet.k (k := kL) f1.d, .int m, rfl, l, m, rfl, rfl, ⟨m0, by omega⟩, .ref a, rfl, a, _, rfl, DPut.k (k := kL) f1.d (feed_len c i l (n + 1)), ?_⟩
      rw [feed_putL]
      refine ⟨.int (l % m), rfl, q _ _ (Int.emod_nonneg _ (by omega)) (Int.emod_lt_of_pos _ m0) e1.at ?_⟩
      exact ⟨cs, _, _, _, f1.put f1.i0⟩
    · refine ⟨.ref a, rfl, a, .int i, rfl, DGet.k (k := kA) f1.d, .int i, rfl, i, 1, rfl, rfl, .ref a, rfl, a, _, rfl, DPut.k (k := kA) f1.d (feed_len c i l (n + 1)), ?_⟩
      rw [feed_putA]
      have i1 : 0 ≤ i + 1 := by have := f1.i0; omega
      have f2 := f1.put (l' := l) (n' := n + 1) i1
      have e2 : Ext a H (upd H1 a (.dK (feed c (i + 1) l (n + 1)))) := e1.at
      generalize upd H1 a (.dK (feed c (i + 1) l (n + 1))) = H2 at f2 e2
      -- the cell
      refine ⟨fun σ H3 => ∃ z, σ = [some (.ref a), some (.int m), none, some (.int i), some (.int z), none] ∧ Feed H3 a c cs (i + 1) l (n + 1) ∧ Ext a H H3, ?_, ?_⟩
      · refine ⟨.ref a, rfl, a, .ref c, rfl, DGet.k (k := kC) f2.d, Nat.zero_le _, fun p np => ⟨c, p, cs.map V.int, rfl, rfl, .inl (.inl ((f2.new np).l)), .inl (.inl upd_same), ?_⟩⟩
        have f3 := f2.new (o := .lst []) np
        have e3 : Ext a H (upd H2 p (.lst [])) := e2.new np
        generalize upd H2 p (.lst []) = H3 at f3 e3
        cases cs with
        | nil => exact ⟨_, rfl, iteF ⟨8, rfl, f3, e3⟩⟩
        | cons x r =>
          have hlen : (((x :: r).map V.int).length : Int) = ((r.length + 1 : Nat) : Int) := by
            rw [List.length_map, List.length_cons]
          refine ⟨_, rfl, iteT ⟨.ref a, rfl, a, .ref c, rfl, DGet.k (k := kC) f3.d, .int i, rfl, .ref a, rfl, a, .ref c, rfl, DGet.k (k := kC) f3.d, c, _, rfl, .inl (.inl (.inl f3.l)), i, _, rfl, rfl, ?_, ?_⟩⟩
          · rw [hlen]
            omega
          · have hb : (i % ((((x :: r).map V.int).length : Nat) : Int)).toNat < (x :: r).length := by
              rw [hlen, List.length_cons]
              have h1 := Int.emod_nonneg i (show ((r.length + 1 : Nat) : Int) ≠ 0 by omega)
              have h2 := Int.emod_lt_of_pos i (show (0 : Int) < ((r.length + 1 : Nat) : Int) by omega)
              omega
            have h0 : 0 ≤ i % ((((x :: r).map V.int).length : Nat) : Int) := Int.emod_nonneg _ (by rw [hlen]; omega)
            refine ⟨c, _, _, .int ((x :: r)[(i % ((((x :: r).map V.int).length : Nat) : Int)).toNat]), rfl, rfl, .inl (.inl f3.l), at_of (j := (i % ((((x :: r).map V.int).length : Nat) : Int)).toNat) (by omega) ?_, ?_⟩
            · rw [List.getElem?_map, List.getElem?_eq_getElem hb]
              rfl
            · exact ⟨_, rfl, f3, e3⟩
      · rintro σ H3 ⟨z, rfl, f3, e3⟩
        -- a great cell, or a lesser one
        refine ⟨fun σ H4 => σ = [some (.ref a), some (.int m), none, some (.int i), some (.int z), none] ∧ H4 = H3, ?_, ?_⟩
        · refine ⟨.int z, rfl, 10, 18, rfl, rfl, ⟨by decide, by decide, by decide⟩, _, _, rfl, rfl, _, rfl, ite2 (fun hz => ?_) (fun hz => iteF ⟨rfl, rfl⟩)⟩
          refine ⟨.int i, rfl, .ref a, rfl, a, .ref c, rfl, DGet.k (k := kC) f3.d, c, _, rfl, .inl (.inl (.inl f3.l)), _, _, rfl, rfl, _, rfl, ite2 (fun h2 => ?_) (fun h2 => ⟨rfl, rfl⟩)⟩
          refine ⟨.int z, rfl, .int m, rfl, z, m, rfl, rfl, ⟨m0, by omega⟩, .ref a, rfl, a, _, rfl, DPut.k (k := kL) f3.d (feed_len c (i + 1) l (n + 1)), ?_⟩
          rw [feed_putL]
          refine ⟨.int z, rfl, .int m, rfl, z, m, rfl, rfl, m0, q _ _ (Int.emod_nonneg _ (by omega)) (Int.emod_lt_of_pos _ m0) e3.at ?_⟩
          exact ⟨cs, _, _, _, f3.put f3.i0⟩
        · rintro σ H4 ⟨rfl, rfl⟩
          have fin : IsFeed H4 a c := ⟨cs, _, _, _, f3⟩
          refine ⟨.int z, rfl, z, 1000000033, rfl, rfl, (show (0 : Int) < 1000000033 by decide), .ref a, rfl, a, .int (n + 1), rfl, DGet.k (k := kN) f3.d, 70001, n + 1, rfl, rfl, .inl ⟨by decide, by decide⟩, _, _, rfl, rfl, _, 37, rfl, rfl, _, 2147483587, rfl, rfl, (show (0 : Int) < 2147483587 by decide), ?_⟩
          dsimp only
          have hx0 := Int.emod_nonneg (z % 1000000033 + 70001 * (n + 1) + 37) (show (2147483587 : Int) ≠ 0 by decide)
          have hx1 := Int.emod_lt_of_pos (z % 1000000033 + 70001 * (n + 1) + 37) (show (0 : Int) < 2147483587 by decide)
          generalize (z % 1000000033 + 70001 * (n + 1) + 37) % 2147483587 = x at hx0 hx1
          refine ⟨.int x, rfl, .int x, rfl, x, x, rfl, rfl, .inl ⟨by omega, by omega⟩, .ref a, rfl, a, .int (n + 1), rfl, DGet.k (k := kN) f3.d, 6700417, n + 1, rfl, rfl, .inl ⟨by decide, by decide⟩, _, _, rfl, rfl, _, 7, rfl, rfl, _, 2147483563, rfl, rfl, (show (0 : Int) < 2147483563 by decide), ?_⟩
          dsimp only
          have hy0 := Int.emod_nonneg (x * x + 6700417 * (n + 1) + 7) (show (2147483563 : Int) ≠ 0 by decide)
          have hy1 := Int.emod_lt_of_pos (x * x + 6700417 * (n + 1) + 7) (show (0 : Int) < 2147483563 by decide)
          generalize (x * x + 6700417 * (n + 1) + 7) % 2147483563 = y at hy0 hy1
          refine ⟨.int y, rfl, .int y, rfl, y, y, rfl, rfl, .inl ⟨by omega, by omega⟩, .int y, rfl, 17, y, rfl, rfl, .inl ⟨by decide, by decide⟩, _, _, rfl, rfl, _, 2147483549, rfl, rfl, (show (0 : Int) < 2147483549 by decide), _, 8, rfl, rfl, ⟨by decide, by decide⟩, .int m, rfl, _, m, rfl, rfl, m0, ?_⟩
          exact q _ _ (Int.emod_nonneg _ (by omega)) (Int.emod_lt_of_pos _ m0) e3 fin
end
end K13
namespace K13
open PySem PySem.Spec PyProof.Rows L2 PK
abbrev NNames : List Str := ["_law_feed_here", "_law_many_here", "_law_letters", "_law_found", "_law_at", "_law_k", "_law_tail", "_law_j"]
theorem scNames : FnScope NNames ["_law_feed_here", "_law_many_here"] (defScope (topS 11)) := ⟨rfl, rfl, rfl, by decide +kernel, rfl, by decide +kernel, by decide +kernel⟩
section
variable {P : Program} {w : World} {K : PySem.W.Frag} {mg : Str → Option Value} {base : Heap}
set_option maxHeartbeats 8000000 in
theorem ok_names {f fD : Addr} {fd fdD : FuncData} {k : Nat} (F : Fun K "_law_names" "_law_names" (topS 11) f fd)
    (D : Cal P w K mg base 1 "_law_draw" fD fdD ["_law_feed_here", "_law_many_here"] spDraw) (hl : mg "len" = none) (hR : mg "range" = none) :
    FnOk P w K mg base CX0 (k + 2) f fd ["_law_feed_here", "_law_many_here"] spNames := by
  refine F.ok scNames (fun vs H Q E h => ?_) (fun cdv A outer s H vs Q E hr h => ?_)
  · obtain ⟨a, c, m, rfl, _⟩ := h
    rfl
  · obtain ⟨a, c, m, rfl, fe, m0, m1, q⟩ := h
    refine ⟨_, (pss_cons (ps_set (i := 2) scNames.nd rfl (.inr rfl) pe_str)
  (pss_cons (ps_set (i := 3) scNames.nd rfl (.inl rfl) (pe_lst pa_nil))
  (pss_cons (ps_set (i := 4) scNames.nd rfl (.inl rfl) (pe_call D.ok (hr.mono (Nat.le_add_left 1 k)) (by rfl) D.g D.kp D.b .nil pass0 (pa_cons (pv 0) (pa_cons pe_int pa_nil))))
  (pss_cons (ps_for PassesOwn.never rfl (pi_range1 (by rfl) hR (pa_cons (pv 1) pa_nil)) (pg_name (i := 5) scNames.nd rfl (.inl rfl))
  (pss_one (ps_if (PW.pt (pw_and (pt_cmpR (ko_neNil K hr) (pv 3) (pe_lst pa_nil) (nomark _)) (pw_and (pt_cmpR op_lt (pe_callB call_len_str (by rfl) hl PySem.boot_len (pa_cons (pe_ix (kx_list K) (pv 3) (pe_un un_neg pe_int) (fun _ _ => rfl)) pa_nil)) pe_int (nomark _)) (pw_and1 (pt_cmpR op_eq (pe_call D.ok (hr.mono (Nat.le_add_left 1 k)) (by rfl) D.g D.kp D.b .nil pass0 (pa_cons (pv 0) (pa_cons pe_int pa_nil))) pe_int (nomark _))))))
  (pss_one (ps_expr (pe_bm PySem.F.plainAttrs_list PySem.F.slot_list_append PySem.F.type_list_append mt_append (pv 3) (pa_cons (pe_op op_add_str (pe_ix (kx_list K) (pv 3) (pe_un un_neg pe_int) (fun _ _ => rfl)) (pe_ix ix_str (pv 2) (pe_call D.ok (hr.mono (Nat.le_add_left 1 k)) (by rfl) D.g D.kp D.b .nil pass0 (pa_cons (pv 0) (pa_cons pe_int pa_nil))) (fun _ _ => rfl))) pa_nil)))) (pss_cons (ps_set (i := 4) scNames.nd rfl (.inl rfl) (pe_op op_add (pv 4) pe_int))
  (pss_cons (ps_setLc (i := 6) (own := [("_law_j", 7)]) rfl scNames.nd rfl rfl (sw_true rfl rfl rfl (by decide +kernel)) (pi_range1 (by rfl) hR (pa_cons (pe_ix (kx_list K) (pe_lst (pa_cons pe_int (pa_cons pe_int (pa_cons pe_int (pa_cons pe_int pa_nil))))) (pe_call D.ok (hr.mono (Nat.le_add_left 1 k)) (by rfl) D.g D.kp D.b .nil pass0 (pa_cons (pv 0) (pa_cons pe_int pa_nil))) (fun _ _ => rfl)) pa_nil)) (blkOk_by (N := NNames) (sc := defScope (topS 11)) (own := [("_law_j", 7)]) (by decide +kernel)) (fun _ _ _ _ _ => (pg_name (i := 7) scNames.nd rfl (.inl rfl))) (fun _ _ _ _ _ => pts_nil) (fun _ _ _ _ _ => (pe_ix ix_str (pv 2) (pe_call D.ok (hr.mono (Nat.le_add_left 1 k)) (by rfl) D.g D.kp D.b .nil pass0 (pa_cons (pv 0) (pa_cons pe_int pa_nil))) (fun _ _ => rfl))))
  (pss_one (ps_expr (pe_bm PySem.F.plainAttrs_list PySem.F.slot_list_append PySem.F.type_list_append mt_append (pv 3) (pa_cons (pe_op op_add_str (pe_ix ix_str (pv 2) (pe_op op_mod (pv 4) pe_int) (fun _ _ => rfl)) (pe_join pe_str (pv 6))) pa_nil)))))))))
  (pss_one (ps_ret (pv 3))))))), ?_⟩
    refine ⟨Nat.zero_le _, fun o no => ?_⟩
    have noc := fe.ne no
    have noa := noc.1
    have s1 : Ext a H (upd H o (.lst [])) := (Ext.refl a H).new no
    refine ⟨.ref a, rfl, a, c, 26, rfl, fe.new no, by decide, by decide, fun at0 H1 _ _ e1 f1 => ?_⟩
    have eo1 : H1 o = some (.lst []) := e1 o _ upd_same noa
    have x1 : Ext a H H1 := s1.trans e1
    refine ⟨.int m, rfl, m, rfl, by omega, by omega, for_range (lo := 0) (n := m.toNat) (fun k σ H2 => ∃ (ws : List Str) (z : Int) (y5 y6 : Option V),
      σ = [some (.ref a), some (.int m), some (.str abc), some (.ref o), some (.int z), y5, y6, none] ∧ ws.length = k ∧ (∀ y ∈ ws, Word y) ∧
      H2 o = some (.lst (ws.map V.str)) ∧ Ext a H H2 ∧ IsFeed H2 a c) ?_ ?_ ?_⟩
    · exact ⟨[], at0, none, none, rfl, rfl, fun _ h => (nomatch h), eo1, x1, f1⟩
    · rintro k σ H2 hk ⟨ws, z, y5, y6, rfl, hlen, hw, eo, x2, f2⟩
      have small : (ws.map V.str).length < sizeLine := by
        rw [List.length_map]
        exact small1000 (by omega)
      -- the new word stands at the end
      have put : ∀ (y : Str) (H3 : Hp), Word y → Ext a H2 H3 → IsFeed H3 a c → ∀ (z' : Int) (y6' : Option V), ∃ (ws' : List Str) (z2 : Int) (y5' y6'' : Option V),
          [some (.ref a), some (.int m), some (.str abc), some (.ref o), some (.int z'), some (V.int (0 + k)), y6', none] =
            [some (.ref a), some (.int m), some (.str abc), some (.ref o), some (.int z2), y5', y6'', none] ∧ ws'.length = k + 1 ∧ (∀ y ∈ ws', Word y) ∧
          upd H3 o (.lst (ws.map V.str ++ [.str y])) o = some (.lst (ws'.map V.str)) ∧ Ext a H (upd H3 o (.lst (ws.map V.str ++ [.str y]))) ∧ IsFeed (upd H3 o (.lst (ws.map V.str ++ [.str y]))) a c := by
        intro y H3 hy e3 f3 z' y6'
        refine ⟨ws ++ [y], z', _, y6', rfl, by rw [List.length_append, hlen]; rfl, fun v hv => ?_, ?_, (x2.trans e3).own no, ?_⟩
        · rcases List.mem_append.mp hv with h | h
          · exact hw v h
          · rw [List.mem_singleton.mp h]; exact hy
        · rw [upd_same, List.map_append]
          rfl
        · exact f3.own noc
      show tIfS _ _ _ _ _ _
      refine if_else (fun H3 => Ext a H2 H3 ∧ IsFeed H3 a c) (fun H3 ⟨e3, f3⟩ => ?_) (fun other => ?_)
      · -- another word: one to eight signs
        have eo3 := e3 o _ eo noa
        refine ⟨.int z, rfl, z, 1, rfl, rfl, Nat.le_trans (by decide : (4 : Nat) ≤ 4) (by decide : (4 : Nat) ≤ sizeLine), fun p np => ?_⟩
        have npc := f3.ne np
        refine ⟨.ref a, rfl, a, c, 4, rfl, f3.new np, by decide, by decide, fun r H4 r0 r1 e4 f4 => ?_⟩
        have ep4 : H4 p = some (.lst [.int 0, .int 0, .int 1, .int 7]) := e4 p _ upd_same npc.1
        have hr' : ∃ n : Nat, n ≤ 7 ∧ atI [V.int 0, .int 0, .int 1, .int 7] r = some (.int n) := by
          have : r = 0 ∨ r = 1 ∨ r = 2 ∨ r = 3 := by omega
          rcases this with rfl | rfl | rfl | rfl
          · exact ⟨0, by decide, rfl⟩
          · exact ⟨0, by decide, rfl⟩
          · exact ⟨1, by decide, rfl⟩
          · exact ⟨7, by decide, rfl⟩
        obtain ⟨n, n7, en⟩ := hr'
        refine ⟨p, _, r, .int n, rfl, rfl, .inl (.inl ep4), en, n, rfl, by omega, by omega, fun d nd => ?_⟩
        have x4 : Ext a H2 H4 := (e3.new np).trans e4
        have ndc := f4.ne nd
        have eo4 : H4 o = some (.lst (ws.map V.str)) := x4 o _ eo noa
        refine lc_range (lo := 0) (n := (n : Int).toNat) (fun j H5 => ∃ l : List Nat, l.length = j ∧ (∀ x ∈ l, Lw x) ∧ H5 d = some (.lst ((l.map fun x => (⟨#[x]⟩ : Str)).map V.str)) ∧ Ext a H4 H5 ∧ IsFeed H5 a c) ?_ ?_ ?_
        · exact ⟨[], rfl, fun _ h => (nomatch h), upd_same, (Ext.refl a H4).new nd, f4.new nd⟩
        · rintro j H5 hj ⟨l, ll, lw, ed, e5, f5⟩
          refine ⟨rfl, .str abc, rfl, .ref a, rfl, a, c, 26, rfl, f5, by decide, by decide, fun r H6 r0 r1 e6 f6 => ?_⟩
          obtain ⟨x, ex, hx⟩ := abc_at r0 r1
          refine ⟨abc, r, x, rfl, rfl, abc_len, ex, _, e6 d _ ed ndc.1, ?_, l ++ [x], by rw [List.length_append, ll]; rfl, fun v hv => ?_, ?_, (e5.trans e6).own nd, f6.own ndc⟩
          · rw [List.length_map, List.length_map]
            exact small1000 (by omega)
          · rcases List.mem_append.mp hv with h | h
            · exact lw v h
            · rw [List.mem_singleton.mp h]; exact hx
          · rw [upd_same, List.map_append, List.map_append]
            rfl
        · rintro H5 ⟨l, ll, lw, ed, e5, f5⟩
          have z0 := Int.emod_nonneg (z + 1) (show (26 : Int) ≠ 0 by decide)
          have z1 := Int.emod_lt_of_pos (z + 1) (show (0 : Int) < 26 by decide)
          obtain ⟨x, ex, hx⟩ := abc_at z0 z1
          have l7 : l.length ≤ 7 := by omega
          have x5 : Ext a H2 H5 := x4.trans e5
          have eo5 := x5 o _ eo noa
          have wd := word_join hx l7 lw
          refine ⟨.ref o, rfl, .inl ⟨rfl, _, .inl (.inl eo5)⟩, .str abc, rfl, .int (z + 1), rfl, z + 1, 26, rfl, rfl, (show (0 : Int) < 26 by decide), abc, _, x, rfl, rfl, abc_len, ex, ⟨_, rfl⟩, .ref d, rfl, _, d, _, rfl, rfl, .inl (.inl (.inl ed)), ?_, _, _, rfl, rfl, ?_, o, _, _, rfl, rfl, eo5, small, put _ H5 wd x5 f5 _ _⟩
          · have e0 : ((l.map fun x => (⟨#[x]⟩ : Str)).map (·.length)).sum = l.length := by
              rw [List.map_map]
              clear ed lw ll l7 wd
              induction l with
              | nil => rfl
              | cons y r ih =>
                rw [List.map_cons, List.sum_cons, ih]
                show 1 + r.length = r.length + 1
                omega
            rw [e0]
            have e1 : ((Str.ofString "").length : Nat) = 0 := rfl
            rw [List.length_map, e1]
            omega
          · have := wd.eight
            rw [strLen_append] at this
            exact Nat.le_trans this (by decide)
      · -- is there one, and short?
        refine ⟨.ref o, rfl, Nat.zero_le _, fun p np => ⟨o, p, ws.map V.str, rfl, rfl, .inl (.inl (by rw [upd_ne (ne_of_none eo np)]; exact eo)), .inl (.inl upd_same), ?_⟩⟩
        have x3 : Ext a H2 (upd H2 p (.lst [])) := (Ext.refl a H2).new np
        have f3 := f2.new (o := .lst []) np
        have eo3 := x3 o _ eo noa
        generalize upd H2 p (.lst []) = H3 at x3 f3 eo3
        by_cases hn : ws = []
        · subst hn
          exact ⟨_, rfl, iteF (iteF (other H3 ⟨x3, f3⟩))⟩
        · have he : (!(ws.map V.str).isEmpty) = true := by
            cases ws with
            | nil => exact absurd rfl hn
            | cons _ _ => rfl
          rw [he]
          have wl : Word (ws.getLast hn) := hw _ (List.getLast_mem hn)
          refine ⟨_, rfl, iteT ⟨.ref o, rfl, 1, rfl, o, _, -1, _, rfl, rfl, .inl (.inl eo3), strs_last hn, _, rfl, Nat.le_trans wl.eight (by decide), _, 8, rfl, rfl, _, rfl, ite2 (fun h8 => ?_) (fun h8 => iteF (other H3 ⟨x3, f3⟩))⟩⟩
          have h8 : ((ws.getLast hn).length : Int) < 8 := of_decide_eq_true h8
          refine ⟨.ref a, rfl, a, c, 3, rfl, f3, by decide, by decide, fun r H4 r0 r1 e4 f4 => ⟨rfl, _, rfl, ?_⟩⟩
          have x4 : Ext a H2 H4 := x3.trans e4
          refine ite2 (fun hr0 => ?_) (fun hr0 => other H4 ⟨x4, f4⟩)
          have eo4 := x4 o _ eo noa
          refine ⟨.ref o, rfl, .inl ⟨rfl, _, .inl (.inl eo4)⟩, .ref o, rfl, 1, rfl, o, _, -1, _, rfl, rfl, .inl (.inl eo4), strs_last hn, .str abc, rfl, .ref a, rfl, a, c, 26, rfl, f4, by decide, by decide, fun r2 H5 s0 s1 e5 f5 => ?_⟩
          obtain ⟨x, ex, hx⟩ := abc_at s0 s1
          have x5 : Ext a H2 H5 := x4.trans e5
          refine ⟨abc, r2, x, rfl, rfl, abc_len, ex, _, _, rfl, rfl, ?_, o, _, _, rfl, rfl, x5 o _ eo noa, small, put _ H5 (word_snoc wl (by omega) hx) x5 f5 _ _⟩
          rw [len_one]
          exact Nat.le_trans (show _ ≤ 9 by omega) (by decide)
    · rintro σ H2 ⟨ws, z, y5, y6, rfl, hlen, hw, eo, x2, f2⟩
      exact ⟨.ref o, rfl, q o H2 ws no x2 f2 eo (by omega) hw⟩
end
end K13
namespace K13
open PySem PySem.Spec PyProof.Rows L2 PK
/-- what lacks, or none -/
def spLacking (K : PySem.W.Frag) (C : Addr) : Sp := fun vs H Q _ => ∃ (p q : Addr) (L M : List PRow) (n : Nat) (b : Int), vs = [.ref p, .ref q] ∧ HeapAt K C H p L ∧ HeapAt K C H q M ∧ RowsOk n b L ∧ RowsOk n b M ∧ n ≤ 900 ∧
  Rises (L.map fun r => pkD (PK.pk r)) ∧ Rises (M.map fun r => pkD (PK.pk r)) ∧
  (aboveR M L = [] → ∀ H', Same H H' → Q .non H') ∧ (aboveR M L ≠ [] → ∀ (r : Addr) (H' : Hp), Same H H' → HeapAt K C H' r (aboveR M L) → Q (.ref r) H')
/-- less, which may raise -/
structure MLess (P : Program) (w : World) (K : PySem.W.Frag) (mg : Str → Option Value) (base : Heap) (C CN f : Addr) (fd : FuncData) : Prop where
  ok : FnOk P w K mg base (L2.CX P w) 4 f fd ["self", "other"] (spLess K C CN)
  m : Meth K C "less" f
  b : Binds K fd ["self", "other"] []
/-- the class of the error, caught and read -/
structure ErrC (K : PySem.W.Frag) (mg : Str → Option Value) (CN : Addr) (x : Str) (CF : Addr) : Prop where
  g : mg x = some (.ref CF)
  te : PySem.W.exmOne K (.ref CN) (.ref CF) = some true
  xf : XfC K CN
  no : PySem.W.findIn K (.ref CN) "lacking" = some none
abbrev NLacking : List Str := ["_law_one", "_law_other", "e", "_law_found"]
theorem scLacking : FnScope NLacking ["_law_one", "_law_other"] (defScope (topS 14)) := ⟨rfl, rfl, rfl, by decide +kernel, rfl, by decide +kernel, by decide +kernel⟩
section
variable {P : Program} {w : World} {K : PySem.W.Frag} {mg : Str → Option Value} {base : Heap}
-- names: ["_law_one", "_law_other", "e", "_law_found"] cells set()
theorem ok_lacking {f fL C CN CF : Addr} {fd fdL : FuncData} (F : Fun K "_law_lacking" "_law_lacking" (topS 14) f fd) (T : HCls K mg C) (Ls : MLess P w K mg base C CN fL fdL) (Ec : ErrC K mg CN "NoParts" CF) :
    FnOk P w K mg base CX0 5 f fd ["_law_one", "_law_other"] (spLacking K C) := by
  refine F.ok scLacking (fun vs H Q E h => ?_) (fun cdv A outer s H vs Q E hr h => ?_)
  · obtain ⟨p, q, L, M, n, b, rfl, _⟩ := h
    rfl
  · obtain ⟨p, r, L, M, n, b, rfl, hp, hq, okL, okM, hn, rL, rM, q0, q1⟩ := h
    refine ⟨_, (pss_cons (ps_set (i := 3) scLacking.nd rfl (.inl rfl) pe_non)
  (pss_cons (ps_try_as (i := 2) rfl rfl scLacking.nd rfl rfl ⟨rfl, by decide, .inl Ec.g⟩ takes0 (fun W pn xe tk _ => pss_one (ps_expr (pe_methX (pv 0) T.cl Ls.m Ls.ok (hr.mono (by decide)) Ls.b (fun σ => passAt tk σ) (pa_cons (pv 1) pa_nil))))
    (fun a oe cls d pn hz hf => pss_one (ps_set (i := 3) scLacking.nd rfl (.inl rfl) (pe_xf (C := CN) Ec.xf Ec.no hz hf (pv 2)))))
  (pss_one (ps_ret (pv 3))))), ?_⟩
    obtain ⟨dx, fz, e1, e2⟩ := hp.no (m := "less") (by decide +kernel)
    refine ⟨.ref p, rfl, p, dx, fz, rfl, e1, e2, .ref r, rfl, p, r, L, M, n, b, rfl, hp, hq, okL, okM, hn, rL, rM, fun z p' H' n' s' h' => ⟨_, rfl, q0 z H' s'⟩, fun z p' d' H' n' s' h' ed => ⟨true, Ec.te, fun _ a na => ?_, fun y => Bool.noConfusion y⟩⟩
    exact ⟨.ref a, rfl, rfl, rfl, d', _, .ref p', rfl, ed, rfl, _, rfl, q1 z p' H' s' h'⟩
end
end K13
namespace K13
open PySem PySem.Spec PyProof.Rows L2 PK
abbrev NPair : List Str := ["_law_one", "_law_other", "_law_both", "_law_form"]
theorem scPair : FnScope NPair ["_law_one", "_law_other"] (defScope (topS 15)) := ⟨rfl, rfl, rfl, by decide +kernel, rfl, by decide +kernel, by decide +kernel⟩
section
variable {P : Program} {w : World} {K : PySem.W.Frag} {mg : Str → Option Value} {base : Heap}
def spPair (K : PySem.W.Frag) (C : Addr) : Sp := fun vs H Q _ => ∃ (p q : Addr) (L M : List PRow), vs = [.ref p, .ref q] ∧ HeapAt K C H p L ∧ HeapAt K C H q M ∧ Up 8 L ∧ Up 8 M ∧ ∀ H', Same H H' → Q (.bl true) H'
-- names: ["_law_one", "_law_other", "_law_both", "_law_form"] cells set()
theorem ok_pair {f fLk fPl fLs fHo fFo fRw fMm fI fEq C CN : Addr} {fdPl fdLs fdHo fdFo fdRw fdMm fdI fdEq : FuncData } {fd fdLk : FuncData} (F : Fun K "_law_pair_right" "_law_pair_right" (topS 15) f fd)
    (T : HCls K mg C) (Pl : MCal P w K mg base 4 C "plus" fPl fdPl ["self", "other"] (spPlus K C)) (Ls : MLess P w K mg base C CN fLs fdLs) (Ho : MCal P w K mg base 3 C "holds" fHo fdHo ["self", "other"] (spHolds K C))
    (Fo : MCal P w K mg base 1 C "forms" fFo fdFo ["self"] (spForms K C)) (Rw : MCal P w K mg base 1 C "rows" fRw fdRw ["self"] (spRows K C)) (Mm : MMn P w K mg base 1 C fMm fdMm) (Hm : HMk P w K mg base 2 C fI fdI)
    (Eq : HSp P w K mg base 1 C "__eq__" fEq fdEq ["self", "other"] (spEqH K C)) (hne : PySem.W.findIn K (.ref C) "__ne__" = some (some (.builtin "object.__ne__"))) (hob : PySem.W.subIn K (.ref C) (.type "object") = some true)
    (Lk : Cal P w K mg base 5 "_law_lacking" fLk fdLk ["_law_one", "_law_other"] (spLacking K C)) (hT : mg "tuple" = none) (hS : mg "sorted" = none) (hSt : mg "set" = none) :
    FnOk P w K mg base CX0 6 f fd ["_law_one", "_law_other"] (spPair K C) := by
  refine F.ok scPair (fun vs H Q E h => ?_) (fun cdv A outer s H vs Q E hr h => ?_)
  · obtain ⟨p, q, L, M, rfl, _⟩ := h
    rfl
  · obtain ⟨p, r, L, M, rfl, hp, hq, uL, uM, q⟩ := h
    refine ⟨_, (pss_cons (ps_set (i := 2) scPair.nd rfl (.inl rfl) (pe_meth (pv 0) T.cl Pl.m Pl.ok (hr.mono (by decide)) Pl.b .nil pass0 (pa_cons (pv 1) pa_nil)))
  (pss_cons (ps_if (PW.pt (pw_or (pt_cmpR (op_neH K Eq hne hob (hr.mono (by decide))) (pv 2) (pe_meth (pv 1) T.cl Pl.m Pl.ok (hr.mono (by decide)) Pl.b .nil pass0 (pa_cons (pv 0) pa_nil)) (nomark _)) (pw_or (pt_cmpR (op_neH K Eq hne hob (hr.mono (by decide))) (pe_meth (pv 2) T.cl Ls.m Ls.ok (hr.mono (by decide)) Ls.b .nil passL (pa_cons (pv 1) pa_nil)) (pv 0) (nomark _)) (pw_or1 (pt_cmpR (op_neH K Eq hne hob (hr.mono (by decide))) (pe_meth (pv 2) T.cl Ls.m Ls.ok (hr.mono (by decide)) Ls.b .nil passL (pa_cons (pv 0) pa_nil)) (pv 1) (nomark _))))))
  (pss_one (ps_ret pe_bl)) pss_nil)
  (pss_cons (ps_if (PW.pt (pw_or (pt_not (pt_val (pe_meth (pv 2) T.cl Ho.m Ho.ok (hr.mono (by decide)) Ho.b .nil pass0 (pa_cons (pv 0) pa_nil)))) (pw_or (pt_not (pt_val (pe_meth (pv 2) T.cl Ho.m Ho.ok (hr.mono (by decide)) Ho.b .nil pass0 (pa_cons (pv 1) pa_nil)))) (pw_or1 (pt_cmpR op_notN (pe_call Lk.ok (hr.mono (by decide)) (by rfl) Lk.g Lk.kp Lk.b .nil pass0 (pa_cons (pv 2) (pa_cons (pv 0) pa_nil))) pe_non (nomark _))))))
  (pss_one (ps_ret pe_bl)) pss_nil)
  (pss_cons (ps_for PassesOwn.never rfl (pk_tup K (pe_meth0 (pv 2) T.cl Fo.m Fo.ok (hr.mono (by decide)) Fo.b .nil pass0)) (pg_name (i := 3) scPair.nd rfl (.inl rfl))
  (pss_one (ps_if (pt_cmpR op_ne (pe_mkb (pv 2) T.cl Mm.m Mm.ok (hr.mono (by decide)) Mm.k2 pass0 (pa_cons (pv 3) pa_nil) pk_nil) (pe_op op_add (pe_mkb (pv 0) T.cl Mm.m Mm.ok (hr.mono (by decide)) Mm.k2 pass0 (pa_cons (pv 3) pa_nil) pk_nil) (pe_mkb (pv 1) T.cl Mm.m Mm.ok (hr.mono (by decide)) Mm.k2 pass0 (pa_cons (pv 3) pa_nil) pk_nil)) (nomark _))
  (pss_one (ps_ret pe_bl)) pss_nil)))
  (pss_cons (ps_if (pt_cmpR (ko_neD K hr) (pe_meth0 (pv 2) T.cl Fo.m Fo.ok (hr.mono (by decide)) Fo.b .nil pass0) (pe_callTy (k_tup K) (by rfl) hT (by decide +kernel) (pa_cons (pe_callB (k_srtSet P w rfl hr) (by rfl) hS (by decide +kernel) (pa_cons (pe_callTy (k_setOf K P w hr) (by rfl) hSt (by decide +kernel) (pa_cons (pe_op (ko_catA K) (pe_meth0 (pv 0) T.cl Fo.m Fo.ok (hr.mono (by decide)) Fo.b .nil pass0) (pe_meth0 (pv 1) T.cl Fo.m Fo.ok (hr.mono (by decide)) Fo.b .nil pass0)) pa_nil)) pa_nil)) pa_nil)) (nomark _))
  (pss_one (ps_ret pe_bl)) pss_nil)
  (pss_one (ps_ret (pe_and (pe_cmpR (op_eqH K Eq (hr.mono (by decide))) (kheap1 K Hm (hr.mono (by decide)) (by rfl) (pe_meth0 (pv 2) T.cl Rw.m Rw.ok (hr.mono (by decide)) Rw.b .nil pass0)) (pv 2) (nomark _)) (pe_and (pe_cmpR (op_eqH K Eq (hr.mono (by decide))) (pe_meth (pv 2) T.cl Pl.m Pl.ok (hr.mono (by decide)) Pl.b .nil pass0 (pa_cons (kheap0 K Hm (hr.mono (by decide)) (by rfl)) pa_nil)) (pv 2) (nomark _)) (pe_one (pe_cmpR (op_eqH K Eq (hr.mono (by decide))) (pe_meth (pv 2) T.cl Ls.m Ls.ok (hr.mono (by decide)) Ls.b .nil passL (pa_cons (kheap0 K Hm (hr.mono (by decide)) (by rfl)) pa_nil)) (pv 2) (nomark _)))))))))))), ?_⟩
    have lL := uL.len
    have lM := uM.len
    refine ⟨.ref p, rfl, rd_m hp (by decide +kernel) ⟨.ref r, rfl, p, r, L, M, rfl, hp, hq, by omega, fun b H1 _ s1 hb => ?_⟩⟩
    have uB := uL.plus uM
    have uL' := uL.mono (show 8 ≤ 16 by decide)
    have uM' := uM.mono (show 8 ≤ 16 by decide)
    have lB := uB.len
    obtain ⟨x1, x2⟩ := above_plus uL uM
    have eC : sumR (M ++ L) = sumR (L ++ M) := plus_comm
    obtain ⟨x3, x4⟩ := above_plus uM uL
    rw [eC] at x3 x4
    have mB : ∀ f, manyR (sumR (L ++ M)) f none = manyR L f none + manyR M f none := fun f => by rw [manyR_sumR, manyR_app]
    have fB : formsR (sumR (L ++ M)) = sortS (insAll (formsR L ++ formsR M)) := forms_plus L M
    obtain ⟨z1, oBM, oMB⟩ := uB.two uM'
    obtain ⟨z2, oBL, oLB⟩ := uB.two uL'
    generalize sumR (L ++ M) = B at hb uB lB x1 x2 x3 x4 eC mB fB oBM oBL
    have nq : ∀ {L : List PRow}, (!decide (L = L)) = false := fun {L} => by rw [decide_eq_true rfl]; rfl
    have hp1 := hp.same s1
    have hq1 := hq.same s1
    refine ⟨.ref b, rfl, .ref r, rfl, rd_m hq1 (by decide +kernel) ⟨.ref p, rfl, r, p, M, L, rfl, hq1, hp1, by omega, fun c H2 _ s2 hc => ?_⟩⟩
    rw [eC] at hc
    refine ⟨b, c, B, B, _, _, rfl, rfl, hb.same s2, hc, oBM, oBM, _, rfl, ?_⟩
    rw [nq]
    refine iteF ?_
    have hb2 := hb.same s2
    have hp2 := hp1.same s2
    have hq2 := hq1.same s2
    refine ⟨.ref b, rfl, rd_m hb2 (by decide +kernel) ⟨.ref r, rfl, b, r, B, M, 16, z1, rfl, hb2, hq2, oBM, oMB, by decide, uB.up, uM.up, fun _ c H3 _ s3 hc => ?_, fun z => absurd x2 z⟩⟩
    rw [x1] at hc
    refine ⟨.ref p, rfl, c, p, L, L, _, _, rfl, rfl, hc, hp2.same s3, oLB, oLB, _, rfl, ?_⟩
    rw [nq]
    refine iteF ?_
    have hb3 := hb2.same s3
    have hp3 := hp2.same s3
    have hq3 := hq2.same s3
    refine ⟨.ref b, rfl, rd_m hb3 (by decide +kernel) ⟨.ref p, rfl, b, p, B, L, 16, z2, rfl, hb3, hp3, oBL, oLB, by decide, uB.up, uL.up, fun _ c H4 _ s4 hc => ?_, fun z => absurd x4 z⟩⟩
    rw [x3] at hc
    refine ⟨.ref r, rfl, c, r, M, M, _, _, rfl, rfl, hc, hq3.same s4, oMB, oMB, _, rfl, ?_⟩
    rw [nq]
    refine iteF ?_
    have hb4 := hb3.same s4
    have hp4 := hp3.same s4
    have hq4 := hq3.same s4
    -- holds, lacking
    refine ⟨.ref b, rfl, rd_m hb4 (by decide +kernel) ⟨.ref p, rfl, b, p, B, L, 16, z2, rfl, hb4, hp4, oBL, oLB, by decide, fun H5 s5 => ⟨_, rfl, ?_⟩⟩⟩
    rw [x4]
    refine iteF ?_
    have hb5 := hb4.same s5
    have hp5 := hp4.same s5
    have hq5 := hq4.same s5
    refine ⟨.ref b, rfl, rd_m hb5 (by decide +kernel) ⟨.ref r, rfl, b, r, B, M, 16, z1, rfl, hb5, hq5, oBM, oMB, by decide, fun H6 s6 => ⟨_, rfl, ?_⟩⟩⟩
    rw [x2]
    refine iteF ?_
    have hb6 := hb5.same s6
    have hp6 := hp5.same s6
    have hq6 := hq5.same s6
    refine ⟨.ref b, rfl, .ref p, rfl, b, p, B, L, 16, z2, rfl, hb6, hp6, oBL, oLB, by decide, uB.up, uL.up, fun _ H7 s7 => ⟨rfl, _, rfl, iteF ?_⟩, fun z => absurd x4 z⟩
    have hb7 := hb6.same s7
    have hp7 := hp6.same s7
    have hq7 := hq6.same s7
    have s17 : Same H H7 := (((((s1.trans s2).trans s3).trans s4).trans s5).trans s6).trans s7
    clear hb hp hq hp1 hq1 hb2 hp2 hq2 hb3 hp3 hq3 hb4 hp4 hq4 hb5 hp5 hq5 hb6 hp6 hq6
    -- each form
    refine ⟨.ref b, rfl, rd_m hb7 (by decide +kernel) ⟨b, B, rfl, hb7, by omega, fun v H8 s8 dv => ?_⟩⟩
    obtain ⟨t, us, rfl, ht, du⟩ := Dp.tupE dv
    have eu := DpAll.of_strs du
    subst eu
    have fl : (formsR B).length ≤ 900 ∧ (formsR L).length ≤ 400 ∧ (formsR M).length ≤ 400 := by
      have h1 := formsR_len B
      have h2 := formsR_len L
      have h3 := formsR_len M
      omega
    refine ⟨t, rfl, ⟨_, ht⟩, for_tup (K := K) (a := t) (xs := (formsR B).map V.str) (fun i σ H9 => ∃ y3 : Option V, σ = [some (.ref p), some (.ref r), some (.ref b), y3] ∧ Same H8 H9) ⟨none, rfl, Same.refl _⟩ ?_ ?_ ?_⟩
    · rintro i σ H9 _ ⟨y3, rfl, s9⟩
      exact (TKeep.of s9).sq ht
    · rintro i x σ H9 hx ⟨y3, rfl, s9⟩
      obtain ⟨fo, rfl⟩ : ∃ fo, x = V.str fo := by
        rw [List.getElem?_map] at hx
        obtain ⟨fo, _, e⟩ := Option.map_eq_some_iff.mp hx
        exact ⟨fo, e.symm⟩
      have hb9 := hb7.same (s8.trans s9)
      have hp9 := hp7.same (s8.trans s9)
      have hq9 := hq7.same (s8.trans s9)
      refine ⟨.ref b, rfl, rd_m hb9 (by decide +kernel) ⟨.str fo, rfl, rfl, rfl, b, fo, .non, none, B, rfl, hb9, by omega, .inl ⟨rfl, rfl⟩, fun H10 s10 => ?_⟩⟩
      have hp10 := hp9.same s10
      refine ⟨.ref p, rfl, rd_m hp10 (by decide +kernel) ⟨.str fo, rfl, rfl, rfl, p, fo, .non, none, L, rfl, hp10, by omega, .inl ⟨rfl, rfl⟩, fun H11 s11 => ?_⟩⟩
      have hq11 := hq9.same (s10.trans s11)
      refine ⟨.ref r, rfl, rd_m hq11 (by decide +kernel) ⟨.str fo, rfl, rfl, rfl, r, fo, .non, none, M, rfl, hq11, by omega, .inl ⟨rfl, rfl⟩, fun H12 s12 => ?_⟩⟩
      refine ⟨_, _, rfl, rfl, rfl, _, rfl, ?_⟩
      rw [mB fo, decide_eq_true rfl]
      exact iteF ⟨_, rfl, ((s9.trans s10).trans s11).trans s12⟩
    · rintro σ H9 ⟨y3, rfl, s9⟩
      have hb9 := hb7.same (s8.trans s9)
      have hp9 := hp7.same (s8.trans s9)
      have hq9 := hq7.same (s8.trans s9)
      have s19 := (s17.trans s8).trans s9
      refine ⟨.ref b, rfl, rd_m hb9 (by decide +kernel) ⟨b, B, rfl, hb9, by omega, fun v1 H10 s10 d1 => ?_⟩⟩
      have hp10 := hp9.same s10
      refine ⟨.ref p, rfl, rd_m hp10 (by decide +kernel) ⟨p, L, rfl, hp10, by omega, fun v2 H11 s11 d2 => ?_⟩⟩
      have hq11 := hq9.same (s10.trans s11)
      refine ⟨.ref r, rfl, rd_m hq11 (by decide +kernel) ⟨r, M, rfl, hq11, by omega, fun v3 H12 s12 d3 => ?_⟩⟩
      obtain ⟨t2, us2, rfl, ht2, du2⟩ := Dp.tupE d2
      have eu2 := DpAll.of_strs du2
      subst eu2
      obtain ⟨t3, us3, rfl, ht3, du3⟩ := Dp.tupE d3
      have eu3 := DpAll.of_strs du3
      subst eu3
      refine rd_cat ((TKeep.of s12).sq ht2) ht3 (by rw [List.length_map, List.length_map]; omega) fun c H13 s13 hc => ?_
      rw [← List.map_append] at hc
      have li := insAll_len (formsR L ++ formsR M)
      rw [List.length_append] at li
      refine ⟨c, formsR L ++ formsR M, rfl, .inl hc, by rw [List.length_append]; omega, fun d nd => ?_⟩
      refine ⟨d, _, rfl, upd_same, insAll_nodup _, by unfold scanBound; omega, by omega, fun e ne => ?_⟩
      refine ⟨e, _, rfl, .inl ⟨.inl (.inl upd_same), fun l nl => ?_⟩⟩
      rw [← fB] at nl ⊢
      have s14 : Same H13 (upd (upd (upd H13 d (SetTO P w d (insAll (formsR L ++ formsR M)))) e (.lst ((formsR B).map V.str))) l (.tup ((formsR B).map V.str))) := same_new (same_new (same_new (Same.refl H13) nd) ne) nl
      have dl : Dp K (upd (upd (upd H13 d (SetTO P w d (insAll (formsR L ++ formsR M)))) e (.lst ((formsR B).map V.str))) l (.tup ((formsR B).map V.str))) (.ref l) (strsD (formsR B)) := .tup (SqT.of upd_same) (DpAll.strs _)
      revert s14 dl
      generalize upd (upd (upd H13 d (SetTO P w d (insAll (formsR L ++ formsR M)))) e (.lst ((formsR B).map V.str))) l (.tup ((formsR B).map V.str)) = H14
      intro s14 dl
      have s9e : Same H9 H14 := (((s10.trans s11).trans s12).trans s13).trans s14
      have shf : SeqAt.shaped (strsD (formsR B)) = true := strsD_shaped fun y hy => by
        obtain ⟨r0, hr0, rfl⟩ := mem_formsR.mp hy
        exact (oBM.each r0 hr0).f
      refine ⟨_, _, Dp.same (((s11.trans s12).trans s13).trans s14) d1, dl, shf, shf, _, rfl, ?_⟩
      rw [eqv_refl _ (flat_strsD (formsR B))]
      refine iteF ?_
      have hbe := hb9.same s9e
      -- made anew, with none, less none
      refine ⟨.ref b, rfl, rd_m hbe (by decide +kernel) ⟨b, B, rfl, hbe, by omega, fun v H15 s15 dv => ⟨B, .inr dv, by omega, fun c H16 _ s16 hc => ?_⟩⟩⟩
      rw [sumR_id uB.up] at hc
      have hb16 := hbe.same (s15.trans s16)
      refine ⟨.ref b, rfl, c, b, B, B, _, _, rfl, rfl, hc, hb16, oBM, oBM, ?_⟩
      rw [decide_eq_true rfl]
      refine ⟨true, rfl, iteT ?_⟩
      refine ⟨.ref b, rfl, rd_m hb16 (by decide +kernel) ⟨[], .inl ⟨rfl, rfl⟩, Nat.zero_le _, fun e1 H17 _ s17' he => ?_⟩⟩
      rw [sumR_nil] at he
      have hb17 := hb16.same s17'
      refine ⟨b, e1, B, [], rfl, hb17, he, by rw [List.length_nil]; omega, fun c2 H18 _ s18 hc2 => ?_⟩
      rw [uB.plus_nil] at hc2
      have hb18 := hb17.same s18
      refine ⟨.ref b, rfl, c2, b, B, B, _, _, rfl, rfl, hc2, hb18, oBM, oBM, ?_⟩
      rw [decide_eq_true rfl]
      refine ⟨true, rfl, iteT ?_⟩
      refine ⟨.ref b, rfl, rd_m hb18 (by decide +kernel) ⟨[], .inl ⟨rfl, rfl⟩, Nat.zero_le _, fun e2 H19 _ s19' he2 => ?_⟩⟩
      rw [sumR_nil] at he2
      have hb19 := hb18.same s19'
      obtain ⟨z3, oB3, oN3⟩ := uB.two (Up.nil.mono (Nat.zero_le 16))
      refine ⟨b, e2, B, [], 16, z3, rfl, hb19, he2, oB3, oN3, by decide, uB.up, List.Pairwise.nil, fun _ c3 H20 _ s20 hc3 => ?_, fun z => absurd rfl z⟩
      rw [uB.less_nil.1] at hc3
      refine ⟨.ref b, rfl, c3, b, B, B, _, _, rfl, rfl, hc3, hb19.same s20, oBM, oBM, ?_⟩
      rw [decide_eq_true rfl]
      exact q _ (((((((s19.trans s9e).trans s15).trans s16).trans s17').trans s18).trans s19').trans s20)
end
end K13
namespace K13
open PySem PySem.Spec PyProof.Rows L2 PK
abbrev NLackR : List Str := ["_law_one", "_law_other", "_law_lacks", "_law_entire", "_law_form", "_law_shade", "_law_many_here", "_law_fewer"]
theorem scLackR : FnScope NLackR ["_law_one", "_law_other"] (defScope (topS 16)) := ⟨rfl, rfl, rfl, by decide +kernel, rfl, by decide +kernel, by decide +kernel⟩
section
variable {P : Program} {w : World} {K : PySem.W.Frag} {mg : Str → Option Value} {base : Heap}
-- names: ["_law_one", "_law_other", "_law_lacks", "_law_entire", "_law_form", "_law_shade", "_law_many_here", "_law_fewer"] cells set()
theorem ok_lackr {f fLk fLn fPl fLs fHo fFo fRw fMm fI fEq C CN : Addr} {fdPl fdLs fdHo fdFo fdRw fdMm fdI fdEq : FuncData } {fd fdLk fdLn : FuncData} (F : Fun K "_law_lack_right" "_law_lack_right" (topS 16) f fd)
    (T : HCls K mg C) (Pl : MCal P w K mg base 4 C "plus" fPl fdPl ["self", "other"] (spPlus K C)) (Ls : MLess P w K mg base C CN fLs fdLs) (Ho : MCal P w K mg base 3 C "holds" fHo fdHo ["self", "other"] (spHolds K C))
    (Fo : MCal P w K mg base 1 C "forms" fFo fdFo ["self"] (spForms K C)) (Rw : MCal P w K mg base 1 C "rows" fRw fdRw ["self"] (spRows K C)) (Mm : MMn P w K mg base 1 C fMm fdMm) (Hm : HMk P w K mg base 2 C fI fdI)
    (Eq : HSp P w K mg base 1 C "__eq__" fEq fdEq ["self", "other"] (spEqH K C)) (hne : PySem.W.findIn K (.ref C) "__ne__" = some (some (.builtin "object.__ne__"))) (hob : PySem.W.subIn K (.ref C) (.type "object") = some true)
    (Lk : Cal P w K mg base 5 "_law_lacking" fLk fdLk ["_law_one", "_law_other"] (spLacking K C)) (Ln : HSp P w K mg base 1 C "__len__" fLn fdLn ["self"] (spLenH K C)) (hl : mg "len" = none) :
    FnOk P w K mg base CX0 6 f fd ["_law_one", "_law_other"] (spPair K C) := by
  refine F.ok scLackR (fun vs H Q E h => ?_) (fun cdv A outer s H vs Q E hr h => ?_)
  · obtain ⟨p, q, L, M, rfl, _⟩ := h
    rfl
  · obtain ⟨p, r, L, M, rfl, hp, hq, uL, uM, q⟩ := h
    refine ⟨_, (pss_cons (ps_set (i := 2) scLackR.nd rfl (.inl rfl) (pe_call Lk.ok (hr.mono (by decide)) (by rfl) Lk.g Lk.kp Lk.b .nil pass0 (pa_cons (pv 0) (pa_cons (pv 1) pa_nil))))
  (pss_cons (ps_if (pt_cmpR op_isN (pv 2) pe_non (nomark _))
  (pss_one (ps_ret (pe_and (pe_cmpR op_isBl (pe_meth (pv 0) T.cl Ho.m Ho.ok (hr.mono (by decide)) Ho.b .nil pass0 (pa_cons (pv 1) pa_nil)) pe_bl (nomark _)) (pe_one (pe_cmpR (op_eqH K Eq (hr.mono (by decide))) (pe_meth (pe_meth (pv 0) T.cl Ls.m Ls.ok (hr.mono (by decide)) Ls.b .nil passL (pa_cons (pv 1) pa_nil)) T.cl Pl.m Pl.ok (hr.mono (by decide)) Pl.b .nil pass0 (pa_cons (pv 1) pa_nil)) (pv 0) (nomark _)))))) pss_nil)
  (pss_cons (ps_if (PW.pt (pw_or (pt_cmpR op_notBl (pe_meth (pv 0) T.cl Ho.m Ho.ok (hr.mono (by decide)) Ho.b .nil pass0 (pa_cons (pv 1) pa_nil)) pe_bl (nomark _)) (pw_or (pt_cmpR op_eq (pe_callB (call_lenH K Ln (hr.mono (by decide))) (by rfl) hl PySem.boot_len (pa_cons (pv 2) pa_nil)) pe_int (nomark _)) (pw_or1 (pt_not (pt_val (pe_meth (pv 1) T.cl Ho.m Ho.ok (hr.mono (by decide)) Ho.b .nil pass0 (pa_cons (pv 2) pa_nil))))))))
  (pss_one (ps_ret pe_bl)) pss_nil)
  (pss_cons (ps_set (i := 3) scLackR.nd rfl (.inl rfl) (pe_meth (pv 0) T.cl Pl.m Pl.ok (hr.mono (by decide)) Pl.b .nil pass0 (pa_cons (pv 2) pa_nil)))
  (pss_cons (ps_if (PW.pt (pw_or (pt_not (pt_val (pe_meth (pv 3) T.cl Ho.m Ho.ok (hr.mono (by decide)) Ho.b .nil pass0 (pa_cons (pv 1) pa_nil)))) (pw_or1 (pt_cmpR (op_neH K Eq hne hob (hr.mono (by decide))) (pe_meth (pe_meth (pv 3) T.cl Ls.m Ls.ok (hr.mono (by decide)) Ls.b .nil passL (pa_cons (pv 1) pa_nil)) T.cl Pl.m Pl.ok (hr.mono (by decide)) Pl.b .nil pass0 (pa_cons (pv 1) pa_nil)) (pv 3) (nomark _)))))
  (pss_one (ps_ret pe_bl)) pss_nil)
  (pss_cons (ps_for PassesOwn.never rfl (pk_tup K (pe_meth0 (pv 2) T.cl Rw.m Rw.ok (hr.mono (by decide)) Rw.b .nil pass0)) (pgk_tup K (n := 3) rfl (pgs_cons (pg_name (i := 4) scLackR.nd rfl (.inl rfl)) (pgs_cons (pg_name (i := 5) scLackR.nd rfl (.inl rfl)) (pgs_cons (pg_name (i := 6) scLackR.nd rfl (.inl rfl)) pgs_nil))))
  (pss_cons (ps_set (i := 7) scLackR.nd rfl (.inl rfl) (pe_meth (pv 3) T.cl Ls.m Ls.ok (hr.mono (by decide)) Ls.b .nil passL (pa_cons (kheap1 K Hm (hr.mono (by decide)) (by rfl) (pe_tup (pa_cons (pe_tup (pa_cons (pv 4) (pa_cons (pv 5) (pa_cons pe_int pa_nil)))) pa_nil))) pa_nil)))
  (pss_one (ps_if (PW.pt (pw_or (pt_val (pe_meth (pv 7) T.cl Ho.m Ho.ok (hr.mono (by decide)) Ho.b .nil pass0 (pa_cons (pv 1) pa_nil))) (pw_or1 (pt_cmpR (op_neH K Eq hne hob (hr.mono (by decide))) (pe_call Lk.ok (hr.mono (by decide)) (by rfl) Lk.g Lk.kp Lk.b .nil pass0 (pa_cons (pv 7) (pa_cons (pv 1) pa_nil))) (kheap1 K Hm (hr.mono (by decide)) (by rfl) (pe_tup (pa_cons (pe_tup (pa_cons (pv 4) (pa_cons (pv 5) (pa_cons pe_int pa_nil)))) pa_nil))) (nomark _)))))
  (pss_one (ps_ret pe_bl)) pss_nil))))
  (pss_one (ps_ret pe_bl)))))))), ?_⟩
    have lL := uL.len
    have lM := uM.len
    obtain ⟨z0, oL, oM⟩ := uL.two uM
    refine ⟨.ref p, rfl, .ref r, rfl, p, r, L, M, 8, z0, rfl, hp, hq, oL, oM, by decide, uL.up, uM.up, fun e H1 s1 => ?_, fun e u H1 s1 hu => ?_⟩
    · -- none lacks
      have hp1 := hp.same s1
      have hq1 := hq.same s1
      refine ⟨_, rfl, rfl, _, rfl, iteT ?_⟩
      refine ⟨.ref p, rfl, rd_m hp1 (by decide +kernel) ⟨.ref r, rfl, p, r, L, M, 8, z0, rfl, hp1, hq1, oL, oM, by decide, fun H2 s2 => ?_⟩⟩
      refine ⟨_, _, rfl, rfl, true, ?_, iteT ?_⟩
      · rw [e]
        rfl
      have hp2 := hp1.same s2
      have hq2 := hq1.same s2
      refine ⟨.ref p, rfl, rd_m hp2 (by decide +kernel) ⟨.ref r, rfl, p, r, L, M, 8, z0, rfl, hp2, hq2, oL, oM, by decide, uL.up, uM.up, fun _ c H3 _ s3 hc => ?_, fun z => absurd e z⟩⟩
      have hq3 := hq2.same s3
      have la := aboveR_len L M
      refine rd_m hc (by decide +kernel) ⟨.ref r, rfl, c, r, aboveR L M, M, rfl, hc, hq3, by omega, fun d H4 _ s4 hd => ?_⟩
      rw [less_plus uL uM e] at hd
      refine ⟨.ref p, rfl, d, p, L, L, _, _, rfl, rfl, hd, (hp2.same s3).same s4, oL, oL, ?_⟩
      rw [decide_eq_true rfl]
      exact q _ (((s1.trans s2).trans s3).trans s4)
    · have hp1 := hp.same s1
      have hq1 := hq.same s1
      have uU := uM.above uL
      have uW := uL.plus uU
      have e1 : aboveR (aboveR M L) M = [] := lack_held uL uM
      have e2 : aboveR M (sumR (L ++ aboveR M L)) = [] := lack_full uL uM
      have e3 : ∀ r ∈ aboveR M L, aboveR [(r.1, r.2.1, 1)] (sumR (L ++ aboveR M L)) = [] ∧ aboveR M (aboveR (sumR (L ++ aboveR M L)) [(r.1, r.2.1, 1)]) = [(r.1, r.2.1, 1)] := fun r hr => lack_one uL uM hr
      have wU : ∀ r ∈ aboveR M L, Word r.1 ∧ Word r.2.1 := fun r hr => by
        obtain ⟨b, ok⟩ := uU.ok
        exact ⟨(ok.each r hr).f, (ok.each r hr).s⟩
      generalize eW : sumR (L ++ aboveR M L) = W at uW e2 e3
      have eN : aboveR M L ≠ [] := e
      refine ⟨_, rfl, rfl, _, rfl, iteF ?_⟩
      refine ⟨.ref p, rfl, rd_m hp1 (by decide +kernel) ⟨.ref r, rfl, p, r, L, M, 8, z0, rfl, hp1, hq1, oL, oM, by decide, fun H2 s2 => ?_⟩⟩
      refine ⟨_, _, rfl, rfl, _, rfl, ?_⟩
      rw [decide_eq_false eN]
      refine iteF ?_
      have hu2 := hu.same s2
      have hq2 := hq1.same s2
      have hp2 := hp1.same s2
      have lU := uU.len
      refine ⟨.ref u, rfl, u, aboveR M L, rfl, hu2, by omega, rfl, _, rfl, ?_⟩
      have n0 : ¬ V.int (aboveR M L).length = V.int 0 := fun z => eN (List.eq_nil_of_length_eq_zero (by have := V.int.inj z; omega))
      rw [decide_eq_false n0]
      refine iteF ?_
      obtain ⟨z1, oM1, oU1⟩ := uM.two uU
      refine ⟨.ref r, rfl, rd_m hq2 (by decide +kernel) ⟨.ref u, rfl, r, u, M, aboveR M L, 8, z1, rfl, hq2, hu2, oM1, oU1, by decide, fun H3 s3 => ⟨_, rfl, ?_⟩⟩⟩
      rw [e1]
      refine iteF ?_
      have hp3 := hp2.same s3
      have hu3 := hu2.same s3
      have hq3 := hq2.same s3
      refine ⟨.ref p, rfl, rd_m hp3 (by decide +kernel) ⟨.ref u, rfl, p, u, L, aboveR M L, rfl, hp3, hu3, by omega, fun en H4 _ s4 hw => ?_⟩⟩
      rw [eW] at hw
      have hu4 := hu3.same s4
      have hq4 := hq3.same s4
      have uM' := uM.mono (show 8 ≤ 16 by decide)
      obtain ⟨z2, oW, oM2⟩ := uW.two uM'
      refine ⟨.ref en, rfl, rd_m hw (by decide +kernel) ⟨.ref r, rfl, en, r, W, M, 16, z2, rfl, hw, hq4, oW, oM2, by decide, fun H5 s5 => ⟨_, rfl, ?_⟩⟩⟩
      rw [e2]
      refine iteF ?_
      have hw5 := hw.same s5
      have hq5 := hq4.same s5
      refine ⟨.ref en, rfl, rd_m hw5 (by decide +kernel) ⟨.ref r, rfl, en, r, W, M, 16, z2, rfl, hw5, hq5, oW, oM2, by decide, uW.up, uM.up, fun _ c H6 _ s6 hc => ?_, fun z => absurd e2 z⟩⟩
      have la := aboveR_len W M
      have lW := uW.len
      refine rd_m hc (by decide +kernel) ⟨.ref r, rfl, c, r, aboveR W M, M, rfl, hc, hq5.same s6, by omega, fun d H7 _ s7 hd => ?_⟩
      rw [less_plus uW uM e2] at hd
      have hw7 := (hw5.same s6).same s7
      refine ⟨.ref en, rfl, d, en, W, W, _, _, rfl, rfl, hd, hw7, oW, oW, _, rfl, ?_⟩
      rw [decide_eq_true rfl]
      refine iteF ?_
      have hu7 := ((hu4.same s5).same s6).same s7
      have hq7 := (hq5.same s6).same s7
      have s17 : Same H H7 := (((((s1.trans s2).trans s3).trans s4).trans s5).trans s6).trans s7
      -- one fewer of each
      refine ⟨.ref u, rfl, rd_m hu7 (by decide +kernel) ⟨u, aboveR M L, rfl, hu7, by omega, fun v H8 s8 dv => ?_⟩⟩
      obtain ⟨t, us, rfl, ht, du⟩ := Dp.tupE dv
      have lus : us.length = (aboveR M L).length := dp_lenM du
      refine ⟨t, rfl, ⟨_, ht⟩, for_tup (K := K) (a := t) (xs := us) (fun i σ H9 => ∃ y4 y5 y6 y7 : Option V, σ = [some (.ref p), some (.ref r), some (.ref u), some (.ref en), y4, y5, y6, y7] ∧ Same H8 H9) ⟨none, none, none, none, rfl, Same.refl _⟩ ?_ ?_ ?_⟩
      · rintro i σ H9 _ ⟨y4, y5, y6, y7, rfl, s9⟩
        exact (TKeep.of s9).sq ht
      · rintro i x σ H9 hx ⟨y4, y5, y6, y7, rfl, s9⟩
        obtain ⟨e, he, de⟩ := DpAll.getV du hx
        rw [List.getElem?_map] at he
        obtain ⟨ro, hLi, rfl⟩ := Option.map_eq_some_iff.mp he
        obtain ⟨b1, rfl, hb1⟩ := Dp.prowE (Dp.same s9 de)
        have hro := List.mem_of_getElem? hLi
        obtain ⟨f1, f2⟩ := e3 ro hro
        obtain ⟨w1, w2⟩ := wU ro hro
        have o1 := Up.one w1 w2
        have hw9 := hw7.same (s8.trans s9)
        have hq9 := hq7.same (s8.trans s9)
        refine ⟨b1, _, rfl, hb1, rfl, _, _, rfl, _, _, rfl, _, _, rfl, rfl, ?_⟩
        have made : ∀ {H' : Hp} {a b : Addr}, H' a = none → (upd H' a (.tup [.str ro.1, .str ro.2.1, .int 1])) b = none → Same H' (upd (upd H' a (.tup [.str ro.1, .str ro.2.1, .int 1])) b (.tup [.ref a])) ∧
            Dp K (upd (upd H' a (.tup [.str ro.1, .str ro.2.1, .int 1])) b (.tup [.ref a])) (.ref b) (rowsD [(ro.1, ro.2.1, 1)]) := fun {H' a b} na nb => by
          refine ⟨same_new (same_new (Same.refl H') na) nb, .tup (SqT.of upd_same) (.cons (Dp.prow (r := (ro.1, ro.2.1, 1)) (SqT.of ?_)) .nil)⟩
          rw [upd_ne (ne_of_none upd_same nb), upd_same]
        refine ⟨.ref en, rfl, rd_m hw9 (by decide +kernel) ⟨.str ro.1, rfl, .str ro.2.1, rfl, by show 3 ≤ sizeLine; decide, fun a na => ⟨by show 1 ≤ sizeLine; decide, fun b nb => ?_⟩⟩⟩
        obtain ⟨s10, d10⟩ := made na nb
        generalize upd (upd H9 a (.tup [.str ro.1, .str ro.2.1, .int 1])) b (.tup [.ref a]) = H10 at s10 d10
        refine ⟨_, .inr d10, by show 1 ≤ 900; decide, fun k H11 _ s11 hk => ?_⟩
        rw [sumR_id o1.up] at hk
        have hw11 := hw9.same (s10.trans s11)
        have hq11 := hq9.same (s10.trans s11)
        obtain ⟨z3, oW3, o13⟩ := uW.two (o1.mono (show 1 ≤ 8 + 8 by decide))
        refine ⟨en, k, W, _, 16, z3, rfl, hw11, hk, oW3, o13, by decide, uW.up, o1.up, fun _ fe H12 _ s12 hf => ?_, fun z => absurd f1 z⟩
        have uV := uW.above o1
        generalize aboveR W [(ro.1, ro.2.1, 1)] = V1 at hf uV f2
        have hq12 := hq11.same s12
        obtain ⟨z4, oV, oM4⟩ := uV.two uM'
        refine ⟨.ref fe, rfl, rd_m hf (by decide +kernel) ⟨.ref r, rfl, fe, r, V1, M, 16, z4, rfl, hf, hq12, oV, oM4, by decide, fun H13 s13 => ⟨_, rfl, ?_⟩⟩⟩
        rw [f2, decide_eq_false (by intro z; cases z)]
        refine iteF ?_
        have hf13 := hf.same s13
        have hq13 := hq12.same s13
        refine ⟨.ref fe, rfl, .ref r, rfl, fe, r, V1, M, 16, z4, rfl, hf13, hq13, oV, oM4, by decide, uV.up, uM.up, fun z => absurd (f2.symm.trans z) (by intro y; cases y), fun _ g H14 s14 hg => ?_⟩
        rw [f2] at hg
        refine ⟨.str ro.1, rfl, .str ro.2.1, rfl, by show 3 ≤ sizeLine; decide, fun a2 na2 => ⟨by show 1 ≤ sizeLine; decide, fun b2 nb2 => ?_⟩⟩
        obtain ⟨s15, d15⟩ := made na2 nb2
        generalize upd (upd H14 a2 (.tup [.str ro.1, .str ro.2.1, .int 1])) b2 (.tup [.ref a2]) = H15 at s15 d15
        refine ⟨_, .inr d15, by show 1 ≤ 900; decide, fun k2 H16 _ s16 hk2 => ?_⟩
        rw [sumR_id o1.up] at hk2
        obtain ⟨z5, o15⟩ := o1.ok
        refine ⟨g, k2, _, _, _, _, rfl, rfl, hg.same (s15.trans s16), hk2, o15, o15, _, rfl, ?_⟩
        rw [decide_eq_true rfl]
        exact iteF ⟨_, _, _, _, rfl, ((((((s9.trans s10).trans s11).trans s12).trans s13).trans s14).trans s15).trans s16⟩
      · rintro σ H9 ⟨y4, y5, y6, y7, rfl, s9⟩
        exact q _ ((s17.trans s8).trans s9)
end
end K13
namespace K13
open PySem PySem.Spec PyProof.Rows L2 PK
abbrev NLaw : List Str := ["_law_script", "_law_feed_here", "_law_forms", "_law_shades", "_law_lots", "_law_k", "_law_heaps", "_law_rows_here", "_law_before", "_law_heap", "_law_one", "_law_other", "_law_a", "_law_b", "_law_c"]
theorem scLaw : FnScope NLaw ["_law_script"] (defScope (topS 17)) := ⟨rfl, rfl, rfl, by decide +kernel, rfl, by decide +kernel, by decide +kernel⟩
section
variable {P : Program} {w : World} {K : PySem.W.Frag} {mg : Str → Option Value} {base : Heap}
def spLaw (K : PySem.W.Frag) : Sp := fun vs H Q _ => ∃ (a : Addr) (ns : List Int), vs = [.ref a] ∧ SqL K H a (ns.map V.int) ∧ ∀ H', Q (.bl true) H'
-- names: ["_law_script", "_law_feed_here", "_law_forms", "_law_shades", "_law_lots", "_law_k", "_law_heaps", "_law_rows_here", "_law_before", "_law_heap", "_law_one", "_law_other", "_law_a", "_law_b", "_law_c"] cells {'_law_feed_here', '_law_forms', '_law_shades'}
theorem ok_law {f fF fN fD fL fPr fLr fPl fLs fHo fFo fRw fMm fI fEq C CN : Addr} {fdPl fdLs fdHo fdFo fdRw fdMm fdI fdEq : FuncData} {fd fdF fdN fdD fdL fdPr fdLr : FuncData} (F : Fun K "law" "law" (topS 17) f fd)
    (Fe : Cal P w K mg base 1 "_law_feed" fF fdF ["_law_script"] (spFeed K)) (D : Cal P w K mg base 1 "_law_draw" fD fdD ["_law_feed_here", "_law_many_here"] spDraw)
    (Nm : Cal P w K mg base 2 "_law_names" fN fdN ["_law_feed_here", "_law_many_here"] spNames) (Lr : Cal P w K mg base 3 "_law_rows" fL fdL ["_law_feed_here", "_law_forms", "_law_shades", "_law_most_now"] (spLRows K))
    (T : HCls K mg C) (Pl : MCal P w K mg base 4 C "plus" fPl fdPl ["self", "other"] (spPlus K C)) (Ls : MLess P w K mg base C CN fLs fdLs) (Ho : MCal P w K mg base 3 C "holds" fHo fdHo ["self", "other"] (spHolds K C))
    (Fo : MCal P w K mg base 1 C "forms" fFo fdFo ["self"] (spForms K C)) (Rw : MCal P w K mg base 1 C "rows" fRw fdRw ["self"] (spRows K C)) (Mm : MMn P w K mg base 1 C fMm fdMm) (Hm : HMk P w K mg base 2 C fI fdI)
    (Eq : HSp P w K mg base 1 C "__eq__" fEq fdEq ["self", "other"] (spEqH K C)) (hne : PySem.W.findIn K (.ref C) "__ne__" = some (some (.builtin "object.__ne__"))) (hob : PySem.W.subIn K (.ref C) (.type "object") = some true)
    (Pr : Cal P w K mg base 6 "_law_pair_right" fPr fdPr ["_law_one", "_law_other"] (spPair K C)) (Lr2 : Cal P w K mg base 6 "_law_lack_right" fLr fdLr ["_law_one", "_law_other"] (spPair K C)) (hR : mg "range" = none) (hRp : mg "repr" = none) :
    FnG P w K mg base CX0 7 f fd ["_law_script"] (spLaw K) := by
  refine funG_ok F scLaw (fun vs H Q E h => ?_) (fun cdv A outer s H vs Q E hgd hr h => ?_)
  · obtain ⟨a, ns, rfl, _⟩ := h
    rfl
  · obtain ⟨a, ns, rfl, hS, q⟩ := h
    refine ⟨_, (pss_cons (ps_set (i := 1) scLaw.nd rfl (.inr rfl) (pe_call Fe.ok (hr.mono (by decide)) (by rfl) Fe.g Fe.kp Fe.b .nil pass0 (pa_cons (pv 0) pa_nil)))
  (pss_cons (ps_asg (pe_tup (pa_cons (pe_call Nm.ok (hr.mono (by decide)) (by rfl) Nm.g Nm.kp Nm.b .nil pass0 (pa_cons (pv 1) (pa_cons (pe_op op_add pe_int (pe_call D.ok (hr.mono (by decide)) (by rfl) D.g D.kp D.b .nil pass0 (pa_cons (pv 1) (pa_cons pe_int pa_nil)))) pa_nil))) (pa_cons (pe_call Nm.ok (hr.mono (by decide)) (by rfl) Nm.g Nm.kp Nm.b .nil pass0 (pa_cons (pv 1) (pa_cons (pe_op op_add pe_int (pe_call D.ok (hr.mono (by decide)) (by rfl) D.g D.kp D.b .nil pass0 (pa_cons (pv 1) (pa_cons pe_int pa_nil)))) pa_nil))) pa_nil))) (pgk_tup K (n := 2) rfl (pgs_cons (pg_name (i := 2) scLaw.nd rfl (.inr rfl)) (pgs_cons (pg_name (i := 3) scLaw.nd rfl (.inr rfl)) pgs_nil))))
  (pss_cons (ps_setLc (i := 4) (own := [("_law_k", 5)]) rfl scLaw.nd rfl rfl (sw_true rfl rfl rfl (by decide +kernel)) (pi_range1 (by rfl) hR (pa_cons pe_int pa_nil)) (blkOk_by (N := NLaw) (sc := defScope (topS 17)) (own := [("_law_k", 5)]) (by decide +kernel)) (fun _ _ _ _ _ => (pg_name (i := 5) scLaw.nd rfl (.inl rfl))) (fun _ _ _ _ _ => pts_nil) (fun _ _ _ _ _ => (pe_call Lr.ok (hr.mono (by decide)) (by rfl) Lr.g Lr.kp Lr.b .nil pass0 (pa_cons (pv 1) (pa_cons (pv 2) (pa_cons (pv 3) (pa_cons pe_int pa_nil)))))))
  (pss_cons (ps_setLc (i := 6) (own := [("_law_rows_here", 7)]) rfl scLaw.nd rfl rfl (sw_true rfl rfl rfl (by decide +kernel)) (pk_list K (pv 4)) (blkOk_by (N := NLaw) (sc := defScope (topS 17)) (own := [("_law_rows_here", 7)]) (by decide +kernel)) (fun _ _ _ _ _ => (pg_name (i := 7) scLaw.nd rfl (.inl rfl))) (fun _ _ _ _ _ => pts_nil) (fun _ _ _ _ _ => (kheap1 K Hm (hr.mono (by decide)) (by rfl) (pv 7))))
  (pss_cons (ps_set (i := 8) scLaw.nd rfl (.inl rfl) (pe_callB (k_repr K hgd hr) (by rfl) hRp (by decide +kernel) (pa_cons (pe_lc (own := [("_law_heap", 9)]) rfl scLaw.nd (pk_list K (pv 6)) (blkOk_by (N := NLaw) (sc := defScope (topS 17)) (own := [("_law_heap", 9)]) (by decide +kernel)) (fun _ _ _ _ _ => (pg_name (i := 9) scLaw.nd rfl (.inl rfl))) (fun _ _ _ _ _ => pts_nil) (fun _ _ _ _ _ => (pe_meth0 (pv 9) T.cl Rw.m Rw.ok (hr.mono (by decide)) Rw.b .nil pass0))) pa_nil)))
  (pss_cons (ps_for PassesOwn.never rfl (pk_list K (pv 6)) (pg_name (i := 10) scLaw.nd rfl (.inl rfl))
  (pss_one (ps_for PassesOwn.never rfl (pk_list K (pv 6)) (pg_name (i := 11) scLaw.nd rfl (.inl rfl))
  (pss_one (ps_if (PW.pt (pw_or (pt_not (pt_val (pe_call Pr.ok (hr.mono (by decide)) (by rfl) Pr.g Pr.kp Pr.b .nil pass0 (pa_cons (pv 10) (pa_cons (pv 11) pa_nil))))) (pw_or1 (pt_not (pt_val (pe_call Lr2.ok (hr.mono (by decide)) (by rfl) Lr2.g Lr2.kp Lr2.b .nil pass0 (pa_cons (pv 10) (pa_cons (pv 11) pa_nil))))))))
  (pss_one (ps_ret pe_bl)) pss_nil)))))
  (pss_cons (ps_asg (pv 6) (pg_lst rfl (pgs_cons (pg_name (i := 12) scLaw.nd rfl (.inl rfl)) (pgs_cons (pg_name (i := 13) scLaw.nd rfl (.inl rfl)) (pgs_cons (pg_name (i := 14) scLaw.nd rfl (.inl rfl)) pgs_nil)))))
  (pss_cons (ps_if (PW.pt (pw_or (pt_cmpR (op_neH K Eq hne hob (hr.mono (by decide))) (pe_meth (pe_meth (pv 12) T.cl Pl.m Pl.ok (hr.mono (by decide)) Pl.b .nil pass0 (pa_cons (pv 13) pa_nil)) T.cl Pl.m Pl.ok (hr.mono (by decide)) Pl.b .nil pass0 (pa_cons (pv 14) pa_nil)) (pe_meth (pe_meth (pv 14) T.cl Pl.m Pl.ok (hr.mono (by decide)) Pl.b .nil pass0 (pa_cons (pv 12) pa_nil)) T.cl Pl.m Pl.ok (hr.mono (by decide)) Pl.b .nil pass0 (pa_cons (pv 13) pa_nil)) (nomark _)) (pw_or1 (pt_cmpR (op_neH K Eq hne hob (hr.mono (by decide))) (pe_meth (pv 12) T.cl Pl.m Pl.ok (hr.mono (by decide)) Pl.b .nil pass0 (pa_cons (pe_meth (pv 13) T.cl Pl.m Pl.ok (hr.mono (by decide)) Pl.b .nil pass0 (pa_cons (pv 14) pa_nil)) pa_nil)) (kheap1 K Hm (hr.mono (by decide)) (by rfl) (pe_op (ko_catA K) (pe_op (ko_catA K) (pe_ix (kx_list K) (pv 4) pe_int (fun _ _ => rfl)) (pe_ix (kx_list K) (pv 4) pe_int (fun _ _ => rfl))) (pe_ix (kx_list K) (pv 4) pe_int (fun _ _ => rfl)))) (nomark _)))))
  (pss_one (ps_ret pe_bl)) pss_nil)
  (pss_one (ps_ret (pe_cmpR op_eq (pe_callB (k_repr K hgd hr) (by rfl) hRp (by decide +kernel) (pa_cons (pe_lc (own := [("_law_heap", 9)]) rfl scLaw.nd (pk_list K (pv 6)) (blkOk_by (N := NLaw) (sc := defScope (topS 17)) (own := [("_law_heap", 9)]) (by decide +kernel)) (fun _ _ _ _ _ => (pg_name (i := 9) scLaw.nd rfl (.inl rfl))) (fun _ _ _ _ _ => pts_nil) (fun _ _ _ _ _ => (pe_meth0 (pv 9) T.cl Rw.m Rw.ok (hr.mono (by decide)) Rw.b .nil pass0))) pa_nil)) (pv 8) (nomark _)))))))))))), ?_⟩
    refine ⟨.ref a, rfl, a, ns, rfl, hS, fun fe c H1 nfe s1 f1 => ?_⟩
    refine ⟨.ref fe, rfl, .ref fe, rfl, fe, c, 4, rfl, f1, by decide, by decide, fun r1 H2 a0 a1 e2 f2 => ⟨1, r1, rfl, rfl, fe, c, _, rfl, f2, by omega, by omega, fun pf H3 fs npf e3 f3 epf lpf wpf => ?_⟩⟩
    refine ⟨.ref fe, rfl, .ref fe, rfl, fe, c, 4, rfl, f3, by decide, by decide, fun r2 H4 b0 b1 e4 f4 => ⟨1, r2, rfl, rfl, fe, c, _, rfl, f4, by omega, by omega, fun ps H5 ss nps e5 f5 eps lps wps => ?_⟩⟩
    refine ⟨by show 2 ≤ sizeLine; decide, fun tp ntp => ?_⟩
    have npc := f5.ne ntp
    have f6 := f5.new (o := .tup [.ref pf, .ref ps]) ntp
    have x35 : Ext fe H3 H5 := e4.trans e5
    have wf5 : Words H5 pf fs := (Words.mk epf (by intro z; subst z; simp at lpf; omega) (by omega) wpf : Words H3 pf fs).ext f3 x35
    have ws5 : Words H5 ps ss := ⟨eps, by intro z; subst z; simp at lps; omega, by omega, wps⟩
    have wf6 := wf5.new (o := .tup [.ref pf, .ref ps]) ntp
    have ws6 := ws5.new (o := .tup [.ref pf, .ref ps]) ntp
    have etp : (upd H5 tp (.tup [.ref pf, .ref ps])) tp = some (.tup [.ref pf, .ref ps]) := upd_same
    generalize upd H5 tp (.tup [.ref pf, .ref ps]) = H6 at f6 wf6 ws6 etp
    refine ⟨tp, _, rfl, SqT.of etp, rfl, _, _, rfl, _, _, rfl, rfl, ?_⟩
    refine ⟨3, rfl, by decide, by decide, fun d nd => ?_⟩
    have ndc := f6.ne nd
    refine lc_range (lo := 0) (n := (3 : Int).toNat) (fun i H7 => ∃ (xs : List (List PRow)) (us : List V), xs.length = i ∧ (∀ x ∈ xs, RowsOk 8 1000000000 x ∧ ∀ r ∈ x, r.1 ∈ fs ∧ r.2.1 ∈ ss) ∧ H7 d = some (.lst us) ∧ DpAll K H7 us (xs.map rowsD) ∧ Ext fe H6 H7 ∧ IsFeed H7 fe c) ⟨[], [], rfl, fun _ h => (nomatch h), upd_same, .nil, (Ext.refl fe H6).new nd, f6.new nd⟩ ?_ ?_
    · rintro i H7 hi ⟨xs, us, xl, xok, ed, du, x7, f7⟩
      refine ⟨rfl, .ref fe, rfl, .ref pf, rfl, .ref ps, rfl, fe, c, pf, ps, fs, ss, 8, rfl, f7, wf6.ext f6 x7, ws6.ext f6 x7, by decide, fun v H8 x okx inx e8 f8 dv => ?_⟩
      have ed8 := e8 d _ ed ndc.1
      refine ⟨us, ed8, ?_, xs ++ [x], us ++ [v], by rw [List.length_append, xl]; rfl, fun y hy => ?_, upd_same, ?_, (x7.trans e8).own nd, f8.own ndc⟩
      · rw [dp_lenM du]
        exact small1000 (by have hi : i < 3 := hi; omega)
      · rcases List.mem_append.mp hy with h | h
        · exact xok y h
        · rw [List.mem_singleton.mp h]; exact ⟨okx, inx⟩
      · exact dp_snoc flat_rows du ((TKeep.feed f7 e8).trans (TKeep.lst ed8)) (Dp.keepT (TKeep.lst ed8) (flat_rows x) dv)
    · rintro H7 ⟨xs, us, xl, xok, ed, du, x7, f7⟩
      have xl : xs.length = 3 := xl
      -- the heaps
      refine ⟨.ref d, rfl, d, rfl, ⟨_, .inl (.inl ed)⟩, fun d6 nd6 => ?_⟩
      refine lc_list (K := K) (a := d) (xs := us) (fun i G => ∃ zs : List V, G d6 = some (.lst zs) ∧ AllH K C G zs ((xs.take i).map sumR) ∧ Same H7 G) ⟨[], upd_same, .nil, same_new (Same.refl H7) nd6⟩ ?_ ?_ ?_
      · rintro i G _ ⟨_, _, _, g⟩
        exact .inl (.inl (g _ _ ed))
      · rintro i v G hv ⟨zs, e6, hz, g⟩
        obtain ⟨e, he, de⟩ := DpAll.getV du hv
        rw [List.getElem?_map] at he
        obtain ⟨L, hL, rfl⟩ := Option.map_eq_some_iff.mp he
        have okL := (xok L (List.mem_of_getElem? hL)).1
        have lz := hz.len
        rw [List.length_map, List.length_take] at lz
        have hi : i < us.length := (List.getElem?_eq_some_iff.mp hv).1
        have lus : us.length = xs.length := dp_lenM du
        refine ⟨rfl, v, rfl, L, .inr (Dp.same g de), Nat.le_trans okL.len (by decide), fun p G1 np g1 hp => ?_⟩
        have e61 := g1 _ _ e6
        refine ⟨zs, e61, small1000 (by omega), zs ++ [.ref p], upd_same, ?_, same_own (g.trans g1) nd6⟩
        rw [take_map_snoc hL]
        exact ((hz.same g1).lst e61).snoc (hp.lst e61)
      rintro G ⟨zs, e6, hz, g⟩
      rw [show us.length = xs.length from dp_lenM du, List.take_length] at hz
      obtain ⟨Ms, eM⟩ : ∃ Ms, Ms = xs.map sumR := ⟨_, rfl⟩
      rw [← eM] at hz
      have lM3 : Ms.length = 3 := by rw [eM, List.length_map, xl]
      have uM : ∀ M ∈ Ms, Up 8 M := fun M hM => by
        rw [eM] at hM
        obtain ⟨x, hx, rfl⟩ := List.mem_map.mp hM
        exact Up.sum (xok x hx).1 (by decide)
      have lenM : ∀ M ∈ Ms, M.length ≤ 900 := fun M hM => Nat.le_trans (uM M hM).len (by decide)
      have shl : Sh (.list (Ms.map rowsD)) 3 20000 := by
        refine (Sh.list (dp := 2) (n := 5000) (m := 3) (fun e he => ?_) (by rw [List.length_map, lM3]; exact Nat.le_refl _)).mono (Nat.le_refl _) (by decide)
        obtain ⟨M, hM, rfl⟩ := List.mem_map.mp he
        rw [eM] at hM
        obtain ⟨x, hx, rfl⟩ := List.mem_map.mp hM
        exact (sh_rows (b := ((8 : Nat) : Int) * 1000000000) (by decide) (sumR_ok (by decide) (xok x hx).1)).mono (Nat.le_refl _) (by decide)
      refine ⟨.ref d6, rfl, d6, rfl, ⟨_, .inl (.inl e6)⟩, fun dd ndd => ?_⟩
      refine lc_list (K := K) (a := d6) (xs := zs) (fun i B => ∃ ws : List V, B dd = some (.lst ws) ∧ DpAll K B ws ((Ms.take i).map rowsD) ∧ Same G B) ⟨[], upd_same, .nil, same_new (Same.refl G) ndd⟩ ?_ ?_ ?_
      · rintro i B _ ⟨_, _, _, uB⟩
        exact .inl (.inl (uB _ _ e6))
      · rintro i v B hv ⟨ws, edd, dws, uB⟩
        obtain ⟨p, L, rfl, hL, hp⟩ := hz.getV hv
        have hp := hp.same uB
        have hi : i < Ms.length := (List.getElem?_eq_some_iff.mp hL).1
        refine ⟨rfl, .ref p, rfl, rd_m hp (by decide +kernel) ⟨p, L, rfl, hp, lenM L (List.mem_of_getElem? hL), fun v' B' uB' dv' => ?_⟩⟩
        have edd' := uB' _ _ edd
        refine ⟨ws, edd', ?_, ws ++ [v'], upd_same, ?_, same_own (uB.trans uB') ndd⟩
        · rw [dp_lenM dws, List.length_take]
          exact small1000 (by omega)
        · rw [take_snoc hL]
          exact dp_snoc flat_rows dws ((TKeep.of uB').trans (TKeep.lst edd')) (Dp.keepT (TKeep.lst edd') (flat_rows L) dv')
      rintro B ⟨ws, edd, dws, uB⟩
      rw [show zs.length = Ms.length from hz.len, List.take_length] at dws
      refine ⟨dd, _, rfl, .lst (SqL.of edd) dws, shl.ok, shl.nd, Nat.le_trans shl.dep (by decide), Nat.le_trans shl.len (by decide), ?_⟩
      have e6B := uB _ _ e6
      have hzB := hz.same uB
      have two : ∀ {i j : Nat} {v v' : V} {D' : Hp}, Same B D' → zs[i]? = some v → zs[j]? = some v' → ∃ p r L M, v = .ref p ∧ v' = .ref r ∧ HeapAt K C D' p L ∧ HeapAt K C D' r M ∧ Up 8 L ∧ Up 8 M := fun {i j v v' D'} uD h1 h2 => by
        obtain ⟨p, L, e1, hL, hp⟩ := hzB.getV h1
        obtain ⟨r, M, e2, hM, hr⟩ := hzB.getV h2
        exact ⟨p, r, L, M, e1, e2, hp.same uD, hr.same uD, uM L (List.mem_of_getElem? hL), uM M (List.mem_of_getElem? hM)⟩
      refine ⟨.ref d6, rfl, d6, rfl, ⟨_, .inl (.inl e6B)⟩, for_list (K := K) (a := d6) (xs := zs) (fun i σ D' => ∃ y10 y11 : Option V, σ = [some (.ref a), some (.ref fe), some (.ref pf), some (.ref ps), some (.ref d), none, some (.ref d6), none, some (.str (PyData.list (Ms.map rowsD)).shown), none, y10, y11, none, none, none] ∧ Same B D') ⟨none, none, rfl, Same.refl _⟩ ?_ ?_ ?_⟩
      · rintro i σ D' _ ⟨y10, y11, rfl, uD⟩
        exact .inl (.inl (uD _ _ e6B))
      · rintro i v σ D' hv ⟨y10, y11, rfl, uD⟩
        refine ⟨.ref d6, rfl, d6, rfl, ⟨_, .inl (.inl (uD _ _ e6B))⟩, for_list (K := K) (a := d6) (xs := zs) (fun j σ D2 => ∃ y11 : Option V, σ = [some (.ref a), some (.ref fe), some (.ref pf), some (.ref ps), some (.ref d), none, some (.ref d6), none, some (.str (PyData.list (Ms.map rowsD)).shown), none, some v, y11, none, none, none] ∧ Same B D2) ⟨_, rfl, uD⟩ ?_ ?_ ?_⟩
        · rintro j σ D2 _ ⟨y11, rfl, uD2⟩
          exact .inl (.inl (uD2 _ _ e6B))
        · rintro j v' σ D2 hv' ⟨y11, rfl, uD2⟩
          obtain ⟨p, r, L, M, rfl, rfl, hp, hq, uL, uM'⟩ := two uD2 hv hv'
          refine ⟨.ref p, rfl, .ref r, rfl, p, r, L, M, rfl, hp, hq, uL, uM', fun D3 u3 => ⟨true, rfl, iteF ?_⟩⟩
          exact ⟨.ref p, rfl, .ref r, rfl, p, r, L, M, rfl, hp.same u3, hq.same u3, uL, uM', fun D4 u4 => ⟨true, rfl, iteF ⟨_, rfl, (uD2.trans u3).trans u4⟩⟩⟩
        · rintro σ D2 ⟨y11, rfl, uD2⟩
          exact ⟨_, _, rfl, uD2⟩
      · rintro σ D' ⟨y10, y11, rfl, uD⟩
        have edD := uD _ _ (uB _ _ (g _ _ ed))
        have e6D := uD _ _ e6B
        have hzD := hzB.same uD
        have duD : DpAll K D' us (xs.map rowsD) := DpAll.same ((g.trans uB).trans uD) du
        clear hz hzB two uD uB
        obtain ⟨L0, L1, L2, rfl⟩ : ∃ s0 s1 s2, xs = [s0, s1, s2] := by
          match xs, xl with
          | [p, q, r], _ => exact ⟨p, q, r, rfl⟩
        have eM' : Ms = [sumR L0, sumR L1, sumR L2] := eM
        rw [eM'] at hzD
        have ok0 := (xok L0 (by simp)).1
        have ok1 := (xok L1 (by simp)).1
        have ok2 := (xok L2 (by simp)).1
        have u0 := uM (sumR L0) (by rw [eM']; simp)
        have u1 := uM (sumR L1) (by rw [eM']; simp)
        have u2 := uM (sumR L2) (by rw [eM']; simp)
        have j1 : sumR (sumR (sumR L0 ++ sumR L1) ++ sumR L2) = sumR (sumR (sumR L2 ++ sumR L0) ++ sumR L1) := by
          refine sumR_congr (fun k => ?_) fun k => ?_
          · simp only [List.map_append, List.mem_append, sumR_keys, mem_skeys]
            constructor <;> rintro ((z | z) | z) <;> simp [z]
          · simp only [cnt_app, cnt_sumR]
            omega
        have j2 : sumR (sumR L0 ++ sumR (sumR L1 ++ sumR L2)) = sumR (L2 ++ L0 ++ L1) := by
          refine sumR_congr (fun k => ?_) fun k => ?_
          · simp only [List.map_append, List.mem_append, sumR_keys, mem_skeys]
            constructor
            · rintro (z | z | z) <;> simp [z]
            · rintro ((z | z) | z) <;> simp [z]
          · simp only [cnt_app, cnt_sumR]
            omega
        cases hzD with
        | @cons p0 _ _ _ h0 hzD =>
        cases hzD with
        | @cons p1 _ _ _ h1 hzD =>
        cases hzD with
        | @cons p2 _ _ _ h2 hzD =>
        cases hzD
        cases duD with
        | @cons v0 _ _ _ dv0 duD =>
        cases duD with
        | @cons v1 _ _ _ dv1 duD =>
        cases duD with
        | @cons v2 _ _ _ dv2 duD =>
        cases duD
        have n0 := u0.len
        have n1 := u1.len
        have n2 := u2.len
        refine ⟨.ref d6, rfl, d6, _, rfl, .inl (.inl e6D), rfl, _, _, rfl, _, _, rfl, _, _, rfl, rfl, ?_⟩
        have u01 := u0.plus u1
        have u20 := u2.plus u0
        have u12 := u1.plus u2
        have n01 := u01.len
        have n20 := u20.len
        have n12 := u12.len
        obtain ⟨b1, o012⟩ := (u01.plus u2).ok
        obtain ⟨b2, o120⟩ := (u0.plus u12).ok
        have s2 : Dp K D' v2 (rowsD L2) := dv2
        refine ⟨.ref p0, rfl, rd_m h0 (by decide +kernel) ⟨.ref p1, rfl, p0, p1, _, _, rfl, h0, h1, by omega, fun c1 E1 _ t1 k1 => ?_⟩⟩
        refine rd_m k1 (by decide +kernel) ⟨.ref p2, rfl, c1, p2, _, _, rfl, k1, h2.same t1, by omega, fun c2 E2 _ t2 k2 => ?_⟩
        have t12 := t1.trans t2
        refine ⟨.ref p2, rfl, rd_m (h2.same t12) (by decide +kernel) ⟨.ref p0, rfl, p2, p0, _, _, rfl, h2.same t12, h0.same t12, by omega, fun c3 E3 _ t3 k3 => ?_⟩⟩
        have t13 := t12.trans t3
        refine rd_m k3 (by decide +kernel) ⟨.ref p1, rfl, c3, p1, _, _, rfl, k3, h1.same t13, by omega, fun c4 E4 _ t4 k4 => ?_⟩
        rw [← j1] at k4
        refine ⟨c2, c4, _, _, _, b1, rfl, rfl, (k2.same t3).same t4, k4, o012, o012, _, rfl, ?_⟩
        rw [decide_eq_true rfl]
        refine iteF ?_
        have t14 := t13.trans t4
        refine ⟨.ref p0, rfl, rd_m (h0.same t14) (by decide +kernel) ⟨.ref p1, rfl, rd_m (h1.same t14) (by decide +kernel) ⟨.ref p2, rfl, p1, p2, _, _, rfl, h1.same t14, h2.same t14, by omega, fun c5 E5 _ t5 k5 => ?_⟩⟩⟩
        have t15 := t14.trans t5
        refine ⟨p0, c5, _, _, rfl, h0.same t15, k5, by omega, fun c6 E6 _ t6 k6 => ?_⟩
        have t16 := t15.trans t6
        rw [j2] at k6
        obtain ⟨q0, w0, rfl, hq0, dq0⟩ := Dp.tupE (Dp.same t16 dv0)
        obtain ⟨q1, w1, rfl, hq1, dq1⟩ := Dp.tupE (Dp.same t16 dv1)
        obtain ⟨q2, w2, rfl, hq2, dq2⟩ := Dp.tupE (Dp.same t16 dv2)
        have l0 : w0.length = L0.length := dp_lenM dq0
        have l1 : w1.length = L1.length := dp_lenM dq1
        have l2 : w2.length = L2.length := dp_lenM dq2
        have m0 := ok0.len
        have m1 := ok1.len
        have m2 := ok2.len
        have edE := t16 _ _ edD
        refine ⟨.ref d, rfl, d, _, 2, .ref q2, rfl, rfl, .inl (.inl edE), at_of (j := 2) rfl rfl, .ref d, rfl, d, _, 0, .ref q0, rfl, rfl, .inl (.inl edE), at_of (j := 0) rfl rfl, ?_⟩
        refine rd_cat hq2 hq0 (by omega) fun c7 E7 t7 k7 => ?_
        refine ⟨.ref d, rfl, d, _, 1, .ref q1, rfl, rfl, .inl (.inl (t7 _ _ edE)), at_of (j := 1) rfl rfl, ?_⟩
        refine rd_cat k7 ((TKeep.of t7).sq hq1) (by rw [List.length_append]; omega) fun c8 E8 t8 k8 => ?_
        refine ⟨L2 ++ L0 ++ L1, .inr (.tup k8 ?_), by rw [List.length_append, List.length_append]; omega, fun c9 E9 _ t9 k9 => ?_⟩
        · rw [List.map_append, List.map_append]
          exact DpAll.app (DpAll.app (DpAll.same (t7.trans t8) dq2) (DpAll.same (t7.trans t8) dq0)) (DpAll.same (t7.trans t8) dq1)
        rw [j2] at o120
        refine ⟨c6, c9, _, _, _, b2, rfl, rfl, ((k6.same t7).same t8).same t9, k9, o120, o120, _, rfl, ?_⟩
        rw [decide_eq_true rfl]
        refine iteF ?_
        have t19 := ((t16.trans t7).trans t8).trans t9
        have e6E := t19 _ _ e6D
        have hzE : AllH K C E9 [.ref p0, .ref p1, .ref p2] Ms := by
          rw [eM']
          exact .cons (h0.same t19) (.cons (h1.same t19) (.cons (h2.same t19) .nil))
        refine ⟨.ref d6, rfl, d6, rfl, ⟨_, .inl (.inl e6E)⟩, fun d9 ndd => ?_⟩
        refine lc_list (K := K) (a := d6) (xs := [.ref p0, .ref p1, .ref p2]) (fun i B9 => ∃ w9 : List V, B9 d9 = some (.lst w9) ∧ DpAll K B9 w9 ((Ms.take i).map rowsD) ∧ Same E9 B9) ⟨[], upd_same, .nil, same_new (Same.refl E9) ndd⟩ ?_ ?_ ?_
        · rintro i B9 _ ⟨_, _, _, uB9⟩
          exact .inl (.inl (uB9 _ _ e6E))
        · rintro i v B9 hv ⟨w9, ed9, dw9, uB9⟩
          obtain ⟨p, L, rfl, hL, hp⟩ := hzE.getV hv
          have hp := hp.same uB9
          have hi : i < Ms.length := (List.getElem?_eq_some_iff.mp hL).1
          refine ⟨rfl, .ref p, rfl, rd_m hp (by decide +kernel) ⟨p, L, rfl, hp, lenM L (List.mem_of_getElem? hL), fun v' B' uB' dv' => ?_⟩⟩
          have edd' := uB' _ _ ed9
          refine ⟨w9, edd', ?_, w9 ++ [v'], upd_same, ?_, same_own (uB9.trans uB') ndd⟩
          · rw [dp_lenM dw9, List.length_take]
            exact small1000 (by omega)
          · rw [take_snoc hL]
            exact dp_snoc flat_rows dw9 ((TKeep.of uB').trans (TKeep.lst edd')) (Dp.keepT (TKeep.lst edd') (flat_rows L) dv')
        rintro B9 ⟨w9, ed9, dw9, uB9⟩
        rw [show [.ref p0, .ref p1, .ref p2].length = Ms.length from hzE.len, List.take_length] at dw9
        refine ⟨d9, _, rfl, .lst (SqL.of ed9) dw9, shl.ok, shl.nd, Nat.le_trans shl.dep (by decide), Nat.le_trans shl.len (by decide), _, rfl, rfl, ?_⟩
        rw [decide_eq_true rfl]
        exact q _
end
end K13
namespace K13
open PySem PySem.Spec PyProof.Rows L2 PK
abbrev NMany : List Str := ["_law_feed_here"]
theorem scMany : FnScope NMany ["_law_feed_here"] (defScope (topS 12)) := ⟨rfl, rfl, rfl, by decide +kernel, rfl, by decide +kernel, by decide +kernel⟩
section
variable {P : Program} {w : World} {K : PySem.W.Frag} {mg : Str → Option Value} {base : Heap}
theorem ok_many {f fD : Addr} {fd fdD : FuncData} {k : Nat} (F : Fun K "_law_many" "_law_many" (topS 12) f fd)
    (D : Cal P w K mg base 1 "_law_draw" fD fdD ["_law_feed_here", "_law_many_here"] spDraw) :
    FnOk P w K mg base CX0 (k + 2) f fd ["_law_feed_here"] spMany := by
  refine F.ok scMany (fun vs H Q E h => ?_) (fun cdv A outer s H vs Q E hr h => ?_)
  · obtain ⟨a, c, rfl, _⟩ := h
    rfl
  · obtain ⟨a, c, rfl, fe, q⟩ := h
    refine ⟨_, (pss_one (ps_ret (pe_ix (kx_list K) (pe_lst (pa_cons pe_int (pa_cons (pe_op op_add pe_int (pe_call D.ok (hr.mono (Nat.le_add_left 1 k)) (by rfl) D.g D.kp D.b .nil pass0 (pa_cons (pv 0) (pa_cons pe_int pa_nil)))) (pa_cons (pe_op op_sub (pe_op op_pow pe_int pe_int) (pe_call D.ok (hr.mono (Nat.le_add_left 1 k)) (by rfl) D.g D.kp D.b .nil pass0 (pa_cons (pv 0) (pa_cons pe_int pa_nil)))) (pa_cons (pe_op op_add pe_int (pe_call D.ok (hr.mono (Nat.le_add_left 1 k)) (by rfl) D.g D.kp D.b .nil pass0 (pa_cons (pv 0) (pa_cons (pe_op op_pow pe_int pe_int) pa_nil)))) pa_nil))))) (pe_call D.ok (hr.mono (Nat.le_add_left 1 k)) (by rfl) D.g D.kp D.b .nil pass0 (pa_cons (pv 0) (pa_cons pe_int pa_nil))) (fun _ _ => rfl)))), ?_⟩
    refine ⟨.ref a, rfl, a, c, 9, rfl, fe, by decide, by decide, fun r1 H1 a0 a1 e1 f1 => ⟨_, _, rfl, rfl, 10, 9, rfl, rfl, ⟨by decide, by decide, by decide⟩, .ref a, rfl, a, c, 3, rfl, f1, by decide, by decide, fun r2 H2 b0 b1 e2 f2 => ⟨_, _, rfl, rfl, .ref a, rfl, 10, 6, rfl, rfl, ⟨by decide, by decide, by decide⟩, a, c, _, rfl, f2, by decide, by decide, fun r3 H3 c0 c1 e3 f3 => ⟨_, _, rfl, rfl, by show 4 ≤ sizeLine; decide, fun p np => ?_⟩⟩⟩⟩
    have npc := f3.ne np
    refine ⟨.ref a, rfl, a, c, 4, rfl, f3.new np, by decide, by decide, fun r H4 r0 r4 e4 f4 => ?_⟩
    have x4 : Ext a H H4 := (((e1.trans e2).trans e3).new np).trans e4
    have ep := e4 p _ upd_same npc.1
    have hz : ∃ z : Int, 1 ≤ z ∧ z ≤ 1000000000 ∧ atI [V.int 1, .int (1 + r1), .int (10 ^ 9 - r2), .int (1 + r3)] r = some (.int z) := by
      have : r = 0 ∨ r = 1 ∨ r = 2 ∨ r = 3 := by omega
      have c1' : r3 < 1000000 := c1
      rcases this with rfl | rfl | rfl | rfl
      · exact ⟨1, by decide, by decide, rfl⟩
      · exact ⟨1 + r1, by omega, by omega, rfl⟩
      · exact ⟨10 ^ 9 - r2, by omega, by omega, rfl⟩
      · exact ⟨1 + r3, by omega, by omega, rfl⟩
    obtain ⟨z, z0, z1, ez⟩ := hz
    exact ⟨p, _, r, .int z, rfl, rfl, .inl (.inl ep), ez, q z H4 z0 z1 x4 f4⟩
end
end K13
namespace K13
open PySem PySem.Spec PyProof.Rows L2 PK
abbrev NLRows : List Str := ["_law_feed_here", "_law_forms", "_law_shades", "_law_most_now", "_law_found", "_law_k", "_law_form", "_law_shade"]
theorem scLRows : FnScope NLRows ["_law_feed_here", "_law_forms", "_law_shades", "_law_most_now"] (defScope (topS 13)) := ⟨rfl, rfl, rfl, by decide +kernel, rfl, by decide +kernel, by decide +kernel⟩
section
variable {P : Program} {w : World} {K : PySem.W.Frag} {mg : Str → Option Value} {base : Heap}
-- names: ["_law_feed_here", "_law_forms", "_law_shades", "_law_most_now", "_law_found", "_law_k", "_law_form", "_law_shade"] cells set()
theorem ok_lrows {f fD fM : Addr} {fd fdD fdM : FuncData} {k : Nat} (F : Fun K "_law_rows" "_law_rows" (topS 13) f fd)
    (D : Cal P w K mg base 1 "_law_draw" fD fdD ["_law_feed_here", "_law_many_here"] spDraw) (Mn : Cal P w K mg base 2 "_law_many" fM fdM ["_law_feed_here"] spMany)
    (hR : mg "range" = none) (hT : mg "tuple" = none) (hl : mg "len" = none) :
    FnOk P w K mg base CX0 (k + 3) f fd ["_law_feed_here", "_law_forms", "_law_shades", "_law_most_now"] (spLRows K) := by
  refine F.ok scLRows (fun vs H Q E h => ?_) (fun cdv A outer s H vs Q E hr h => ?_)
  · obtain ⟨a, c, pf, ps, fs, ss, mo, rfl, _⟩ := h
    rfl
  · obtain ⟨a, c, pf, ps, fs, ss, mo, rfl, fe, wf, ws, hmo, q⟩ := h
    have hp := wf.pos
    have hf := wf.few
    have hp' := ws.pos
    have hf' := ws.few
    have lf : ((fs.map V.str).length : Int) = (fs.length : Int) := by rw [List.length_map]
    have ls : ((ss.map V.str).length : Int) = (ss.length : Int) := by rw [List.length_map]
    refine ⟨_, (pss_cons (ps_set (i := 4) scLRows.nd rfl (.inl rfl) (pe_lst pa_nil))
  (pss_cons (ps_for PassesOwn.never rfl (pi_range1 (by rfl) hR (pa_cons (pe_call D.ok (hr.mono (Nat.le_add_left 1 (k + 1))) (by rfl) D.g D.kp D.b .nil pass0 (pa_cons (pv 0) (pa_cons (pe_op op_add (pv 3) pe_int) pa_nil))) pa_nil)) (pg_name (i := 5) scLRows.nd rfl (.inl rfl))
  (pss_cons (ps_set (i := 6) scLRows.nd rfl (.inl rfl) (pe_ix (kx_list K) (pv 1) (pe_call D.ok (hr.mono (Nat.le_add_left 1 (k + 1))) (by rfl) D.g D.kp D.b .nil pass0 (pa_cons (pv 0) (pa_cons (pe_callB (k_len K) (by rfl) hl PySem.boot_len (pa_cons (pv 1) pa_nil)) pa_nil))) (fun _ _ => rfl)))
  (pss_cons (ps_set (i := 7) scLRows.nd rfl (.inl rfl) (pe_ix (kx_list K) (pv 2) (pe_call D.ok (hr.mono (Nat.le_add_left 1 (k + 1))) (by rfl) D.g D.kp D.b .nil pass0 (pa_cons (pv 0) (pa_cons (pe_callB (k_len K) (by rfl) hl PySem.boot_len (pa_cons (pv 2) pa_nil)) pa_nil))) (fun _ _ => rfl)))
  (pss_one (ps_expr (pe_bm PySem.F.plainAttrs_list PySem.F.slot_list_append PySem.F.type_list_append mt_append (pv 4) (pa_cons (pe_tup (pa_cons (pv 6) (pa_cons (pv 7) (pa_cons (pe_call Mn.ok (hr.mono (Nat.le_add_left 2 k)) (by rfl) Mn.g Mn.kp Mn.b .nil pass0 (pa_cons (pv 0) pa_nil)) pa_nil)))) pa_nil)))))))
  (pss_one (ps_ret (pe_callTy (k_tup K) (by rfl) hT (by decide +kernel) (pa_cons (pv 4) pa_nil)))))), ?_⟩
    refine ⟨Nat.zero_le _, fun o no => ?_⟩
    have noc := fe.ne no
    have xo : Ext a H (upd H o (.lst [])) := (Ext.refl a H).new no
    refine ⟨.ref a, rfl, .int mo, rfl, mo, 1, rfl, rfl, a, c, _, rfl, fe.new no, by omega, by omega, fun n H1 n0 n4 e1 f1 => ⟨n, rfl, by omega, by omega, ?_⟩⟩
    have x1 : Ext a H H1 := xo.trans e1
    have o1 : H1 o = some (.lst []) := e1 o _ upd_same noc.1
    refine for_range (lo := 0) (n := n.toNat) (fun k σ H2 => ∃ (L : List PRow) (us : List V) (y5 y6 y7 : Option V),
      σ = [some (.ref a), some (.ref pf), some (.ref ps), some (.int mo), some (.ref o), y5, y6, y7] ∧ L.length = k ∧ (∀ r ∈ L, PRowOk 1000000000 r) ∧ (∀ r ∈ L, r.1 ∈ fs ∧ r.2.1 ∈ ss) ∧
      H2 o = some (.lst us) ∧ DpAll K H2 us (L.map prowD) ∧ Ext a H H2 ∧ IsFeed H2 a c) ⟨[], [], none, none, none, rfl, rfl, fun _ h => (nomatch h), fun _ h => (nomatch h), o1, .nil, x1, f1⟩ ?_ ?_
    · rintro k σ H2 hk ⟨L, us, y5, y6, y7, rfl, Ll, Lok, Lin, eo, du, x2, f2⟩
      have wf2 := wf.ext fe x2
      have ws2 := ws.ext fe x2
      refine ⟨.ref pf, rfl, .ref a, rfl, .ref pf, rfl, pf, _, rfl, .inl (.inl (.inl wf2.at_)), a, c, _, rfl, f2, by rw [lf]; omega, by rw [lf]; omega, fun r H3 r0 r1 e3 f3 => ?_⟩
      rw [lf] at r1
      have hr1 : r.toNat < fs.length := by omega
      have wf3 := wf2.ext f2 e3
      have ws3 := ws2.ext f2 e3
      refine ⟨pf, _, r, .str fs[r.toNat], rfl, rfl, .inl (.inl wf3.at_), at_of (j := r.toNat) (by omega) (strs_at hr1), ?_⟩
      refine ⟨.ref ps, rfl, .ref a, rfl, .ref ps, rfl, ps, _, rfl, .inl (.inl (.inl ws3.at_)), a, c, _, rfl, f3, by rw [ls]; omega, by rw [ls]; omega, fun r' H4 r0' r1' e4 f4 => ?_⟩
      rw [ls] at r1'
      have hr2 : r'.toNat < ss.length := by omega
      have ws4 := ws3.ext f3 e4
      refine ⟨ps, _, r', .str ss[r'.toNat], rfl, rfl, .inl (.inl ws4.at_), at_of (j := r'.toNat) (by omega) (strs_at hr2), ?_⟩
      have x4 : Ext a H2 H4 := e3.trans e4
      have eo4 := x4 o _ eo noc.1
      refine ⟨.ref o, rfl, .inl ⟨rfl, _, .inl (.inl eo4)⟩, .str fs[r.toNat], rfl, .str ss[r'.toNat], rfl, .ref a, rfl, a, c, rfl, f4, fun z H5 z0 z1 e5 f5 => ⟨by show 3 ≤ sizeLine; decide, fun u nu => ?_⟩⟩
      have x5 : Ext a H2 (upd H5 u (.tup [.str fs[r.toNat], .str ss[r'.toNat], .int z])) := (x4.trans e5).new nu
      have f6 := f5.new (o := .tup [.str fs[r.toNat], .str ss[r'.toNat], .int z]) nu
      have eu : (upd H5 u (.tup [.str fs[r.toNat], .str ss[r'.toNat], .int z])) u = some (.tup [.str fs[r.toNat], .str ss[r'.toNat], .int z]) := upd_same
      generalize upd H5 u (.tup [.str fs[r.toNat], .str ss[r'.toNat], .int z]) = H6 at x5 f6 eu
      have eo6 := x5 o _ eo noc.1
      have tk : TKeep H2 (upd H6 o (.lst (us ++ [.ref u]))) := (TKeep.feed f2 x5).trans (TKeep.lst eo6)
      have sz : us.length < sizeLine := by
        rw [dp_lenM du]
        exact small1000 (by omega)
      refine ⟨o, us, .ref u, rfl, rfl, eo6, sz, L ++ [(fs[r.toNat], ss[r'.toNat], z)], us ++ [.ref u], _, _, _, rfl, by rw [List.length_append, Ll]; rfl, fun y hy => ?_, fun y hy => ?_, upd_same, ?_, (x2.trans x5).own no, f6.own noc⟩
      · rcases List.mem_append.mp hy with h | h
        · exact Lok y h
        · rw [List.mem_singleton.mp h]; exact ⟨wf.each _ (List.getElem_mem hr1), ws.each _ (List.getElem_mem hr2), z0, z1⟩
      · rcases List.mem_append.mp hy with h | h
        · exact Lin y h
        · rw [List.mem_singleton.mp h]; exact ⟨List.getElem_mem hr1, List.getElem_mem hr2⟩
      · exact dp_snoc flat_prow du tk (Dp.prow (r := (fs[r.toNat], ss[r'.toNat], z)) (SqT.of (by rw [upd_ne (ne_of eu eo6 (by intro z; cases z))]; exact eu)))
    · rintro σ H2 ⟨L, us, y5, y6, y7, rfl, Ll, Lok, Lin, eo, du, x2, f2⟩
      refine ⟨.ref o, rfl, o, us, rfl, .inl ⟨.inl (.inl eo), fun t nt => ?_⟩⟩
      exact q (.ref t) _ L ⟨by omega, Lok⟩ Lin (x2.new nt) (f2.new nt) (.tup (SqT.of upd_same) (dp_move flat_prow du (TKeep.new nt)))
end
end K13
namespace K13
open PySem PySem.Spec PyProof.Rows L2 PK
abbrev NAdded : List Str := ["rows", "counts", "form", "shade", "many"]
theorem scAdded : FnScope NAdded ["rows"] (defScope (topS 5)) := ⟨rfl, rfl, rfl, by decide +kernel, rfl, by decide +kernel, by decide +kernel⟩
section
variable {P : Program} {w : World} {K : PySem.W.Frag} {mg : Str → Option Value} {base : Heap}
-- names: ["rows", "counts", "form", "shade", "many"] cells {'counts'}
theorem ok_added {f : Addr} {fd : FuncData} {k : Nat} (F : Fun K "added_rows" "added_rows" (topS 5) f fd) (hT : mg "tuple" = none) (hS : mg "sorted" = none) :
    FnOk P w K mg base CX0 (k + 1) f fd ["rows"] (spAdded K) := by
  refine F.ok scAdded (fun vs H Q E h => ?_) (fun cdv A outer s H vs Q E hr h => ?_)
  · obtain ⟨v, L, rfl, _⟩ := h
    rfl
  · obtain ⟨v, L, rfl, dv, hL, q⟩ := h
    obtain ⟨b, us, rfl, hb, du⟩ := Dp.tupE dv
    have lus : us.length = L.length := dp_lenM du
    refine ⟨_, (pss_cons (ps_set (i := 1) scAdded.nd rfl (.inr rfl) pe_dnewT)
  (pss_cons (ps_for PassesOwn.never rfl (pk_tup K (pv 0)) (pgk_tup K (n := 3) rfl (pgs_cons (pg_name (i := 2) scAdded.nd rfl (.inl rfl)) (pgs_cons (pg_name (i := 3) scAdded.nd rfl (.inl rfl)) (pgs_cons (pg_name (i := 4) scAdded.nd rfl (.inl rfl)) pgs_nil))))
  (pss_one (ps_dput (hu_of hr) (pv 1) (pe_tup (pa_cons (pv 2) (pa_cons (pv 3) pa_nil))) (pe_op op_add (pe_dget2 (hu_of hr) (pv 1) (pe_tup (pa_cons (pv 2) (pa_cons (pv 3) pa_nil))) pe_int ⟨rfl, rfl, rfl, rfl⟩) (pv 4)) rfl)))
  (pss_one (ps_ret (pe_callTy (k_tup K) (by rfl) hT (by decide +kernel) (pa_cons (pe_lc (own := [("form", 2), ("shade", 3)]) rfl scAdded.nd (pk_list K (pe_callB (call_srtT rfl hr) (by rfl) hS (by decide +kernel) (pa_cons (pv 1) pa_nil))) (blkOk_by (N := NAdded) (sc := defScope (topS 5)) (own := [("form", 2), ("shade", 3)]) (by decide +kernel)) (fun _ _ _ _ _ => (pgk_tup K (n := 2) rfl (pgs_cons (pg_name (i := 2) scAdded.nd rfl (.inl rfl)) (pgs_cons (pg_name (i := 3) scAdded.nd rfl (.inl rfl)) pgs_nil)))) (fun _ _ _ _ _ => pts_nil) (fun _ _ _ _ _ => (pe_tup (pa_cons (pv 2) (pa_cons (pv 3) (pa_cons (pe_dget (hu_of hr) (pv 1) (pe_tup (pa_cons (pv 2) (pa_cons (pv 3) pa_nil))) (fun _ _ => rfl)) pa_nil)))))) pa_nil)))))), ?_⟩
    -- counts = {}
    refine fun o no => ?_
    have s0 : Same H (upd H o (.dT [])) := same_new (Same.refl H) no
    refine ⟨.ref b, rfl, b, rfl, ⟨us, (TKeep.of s0).sq hb⟩, for_tup (K := K) (a := b) (xs := us) (fun i σ H2 => ∃ (ks : List PKey) (y2 y3 y4 : Option V), σ = [some (.ref b), some (.ref o), y2, y3, y4] ∧ Same H H2 ∧
      H2 o = some (.dT (ent ks (cnt (L.take i)))) ∧ ks.Nodup ∧ ks.length ≤ i ∧ ∀ k, k ∈ ks ↔ k ∈ (L.take i).map PK.pk) ?_ ?_ ?_ ?_⟩
    · exact ⟨[], none, none, none, rfl, s0, upd_same, List.nodup_nil, Nat.le_refl _, fun k => Iff.rfl⟩
    · rintro i σ H2 _ ⟨ks, y2, y3, y4, rfl, s2, _⟩
      exact (TKeep.of s2).sq hb
    · rintro i rv σ H2 hv ⟨ks, y2, y3, y4, rfl, s2, eo, nd, lk, mk⟩
      obtain ⟨e1, he, de⟩ := DpAll.getV du hv
      rw [List.getElem?_map] at he
      obtain ⟨r, hLi, rfl⟩ := Option.map_eq_some_iff.mp he
      obtain ⟨b1, rfl, hb1⟩ := Dp.prowE (Dp.same s2 de)
      have hi : i < L.length := (List.getElem?_eq_some_iff.mp hLi).1
      refine ⟨b1, _, rfl, hb1, rfl, _, _, rfl, _, _, rfl, _, _, rfl, rfl, ?_⟩
      refine ⟨.ref o, rfl, o, rfl, .inr ⟨_, .inl eo⟩, .str r.1, rfl, .str r.2.1, rfl, by show 2 ≤ sizeLine; decide, fun t nt => ?_⟩
      have eo1 : (upd H2 t (.tup [.str r.1, .str r.2.1])) o = some (.dT (ent ks (cnt (L.take i)))) := by rw [upd_ne (ne_of_none eo nt)]; exact eo
      have s3 : Same H (upd H2 t (.tup [.str r.1, .str r.2.1])) := same_new s2 nt
      have et : (upd H2 t (.tup [.str r.1, .str r.2.1])) t = some (.tup ((kk (PK.pk r)).map kV)) := upd_same
      generalize upd H2 t (.tup [.str r.1, .str r.2.1]) = H3 at eo1 s3 et
      refine ⟨_, DGet.t eo1 et, ?_⟩
      have hval : (valV (ent ks (cnt (L.take i))) (kk (PK.pk r))).getD (.int 0) = .int (cnt (L.take i) (PK.pk r)) := by
        rw [ent_val]
        by_cases z : PK.pk r ∈ ks
        · rw [if_pos z]
          rfl
        · rw [if_neg z, cnt_none (fun h => z ((mk _).mpr h))]
          rfl
      rw [hval]
      refine ⟨.int r.2.2, rfl, _, _, rfl, rfl, .ref o, rfl, .str r.1, rfl, .str r.2.1, rfl, by show 2 ≤ sizeLine; decide, fun t2 nt2 => ?_⟩
      have eo2 : (upd H3 t2 (.tup [.str r.1, .str r.2.1])) o = some (.dT (ent ks (cnt (L.take i)))) := by rw [upd_ne (ne_of_none eo1 nt2)]; exact eo1
      have s4 : Same H (upd H3 t2 (.tup [.str r.1, .str r.2.1])) := same_new s3 nt2
      have et2 : (upd H3 t2 (.tup [.str r.1, .str r.2.1])) t2 = some (.tup ((kk (PK.pk r)).map kV)) := upd_same
      generalize upd H3 t2 (.tup [.str r.1, .str r.2.1]) = H4 at eo2 s4 et2
      have lent : (ent ks (cnt (L.take i))).length < sizeLine := by
        unfold ent
        rw [List.length_map]
        exact small1000 (by omega)
      refine ⟨o, _, rfl, DPut.t eo2 et2 lent, ?_⟩
      refine ⟨if PK.pk r ∈ ks then ks else ks ++ [PK.pk r], _, _, _, rfl, same_own s4 no, ?_, ?_, ?_, fun k => ?_⟩
      · rw [upd_same, ent_put (c' := cnt (L.take (i + 1))) (by rw [cnt_snoc hLi, if_pos rfl]) (fun q hq => by rw [cnt_snoc hLi, if_neg (fun e => hq e.symm)]; omega)]
      · split
        · exact nd
        · rename_i z
          exact List.nodup_append.mpr ⟨nd, List.nodup_cons.mpr ⟨by simp, List.nodup_nil⟩, fun a ha b hb e => by
            rw [List.mem_singleton.mp hb] at e
            exact z (by rw [← e]; exact ha)⟩
      · split
        · omega
        · rw [List.length_append, List.length_singleton]; omega
      · rw [take_snoc hLi, List.map_append, List.mem_append, ← mk k]
        show _ ↔ k ∈ ks ∨ k ∈ [PK.pk r]
        rw [List.mem_singleton]
        split
        · rename_i z
          constructor
          · exact Or.inl
          · rintro (h | h)
            · exact h
            · rw [h]; exact z
        · rw [List.mem_append, List.mem_singleton]
    · rintro σ H2 ⟨ks, y2, y3, y4, rfl, s2, eo, nd, lk, mk⟩
      rw [lus, List.take_length] at eo mk
      refine ⟨.ref o, rfl, o, _, rfl, .inl eo, by rw [ent_keys]; exact pk_cmpb ks, fun sl Lp nsl ⟨bs, ik, eLp⟩ => ?_⟩
      have hdp : DpAll K H2 (bs.map V.ref) (ks.map pkD) := by
        have := keys_dp (K := K) ik
        rw [ent_keys] at this
        exact this
      rw [ent_keys] at eLp
      obtain ⟨z1, z2, z3⟩ := dp_zip hdp
      have hkeys : Lp.map (·.2) = (skeys L).map pkD := by
        have hr1 : Rises (Lp.map (·.2)) := by
          rw [eLp]
          exact srt_rises (by rw [z3]; exact pk_allAlike ks) (by rw [z3]; exact nodup_mapD nd)
        refine rises_ext hr1 (skeys_rises L) fun d => ?_
        rw [eLp, ((srt_perm false _ _).map _).mem_iff, z3, List.mem_map, List.mem_map]
        constructor
        · rintro ⟨k, hk, rfl⟩
          exact ⟨k, mem_skeys.mpr ((mk k).mp hk), rfl⟩
        · rintro ⟨k, hk, rfl⟩
          exact ⟨k, (mk k).mpr (mem_skeys.mp hk), rfl⟩
      have hdL : DpAll K H2 (Lp.map (·.1)) ((skeys L).map pkD) := by
        rw [← hkeys]
        exact dp_pairs fun p hp => z1 p (by rw [eLp] at hp; exact (srt_perm false _ _).mem_iff.mp hp)
      generalize Lp.map (·.1) = xs at hdL
      have s3 : Same H (upd H2 sl (.lst xs)) := same_new s2 nsl
      have eo3 : (upd H2 sl (.lst xs)) o = some (.dT (ent ks (cnt L))) := by rw [upd_ne (ne_of_none eo nsl)]; exact eo
      have esl : (upd H2 sl (.lst xs)) sl = some (.lst xs) := upd_same
      have hd3 := dp_move (f := pkD) flat_pk hdL (TKeep.new (o := .lst xs) nsl)
      generalize upd H2 sl (.lst xs) = H3 at s3 eo3 esl hd3
      have lks : (skeys L).length ≤ 900 := by
        have := sumR_len L
        unfold sumR at this
        rw [List.length_map] at this
        omega
      refine ⟨sl, rfl, ⟨xs, .inl (.inl esl)⟩, fun d ndd => ?_⟩
      refine lc_list (K := K) (a := sl) (xs := xs) (fun i H4 => ∃ zs : List V, H4 d = some (.lst zs) ∧ DpAll K H4 zs (((sumR L).take i).map prowD) ∧ Same H3 H4) ?_ ?_ ?_ ?_
      · exact ⟨[], upd_same, .nil, same_new (Same.refl H3) ndd⟩
      · rintro i H4 _ ⟨zs, _, _, s4⟩
        exact .inl (.inl (s4 _ _ esl))
      · rintro i v H4 hv ⟨zs, ed, dz, s4⟩
        obtain ⟨e1, he, de⟩ := DpAll.getV hd3 hv
        rw [List.getElem?_map] at he
        obtain ⟨k, hki, rfl⟩ := Option.map_eq_some_iff.mp he
        obtain ⟨b1, rfl, hb1⟩ := Dp.pkE (Dp.same s4 de)
        have hk : k ∈ ks := (mk k).mpr (mem_skeys.mp (List.mem_of_getElem? hki))
        have eo4 := s4 _ _ eo3
        refine ⟨b1, _, rfl, hb1, rfl, _, _, rfl, _, _, rfl, rfl, rfl, .str k.1, rfl, .str k.2, rfl, .ref o, rfl, .str k.1, rfl, .str k.2, rfl, by show 2 ≤ sizeLine; decide, fun t nt => ?_⟩
        have eo5 : (upd H4 t (.tup [.str k.1, .str k.2])) o = some (.dT (ent ks (cnt L))) := by rw [upd_ne (ne_of_none eo4 nt)]; exact eo4
        have ed5 : (upd H4 t (.tup [.str k.1, .str k.2])) d = some (.lst zs) := by rw [upd_ne (ne_of_none ed nt)]; exact ed
        have et : (upd H4 t (.tup [.str k.1, .str k.2])) t = some (.tup ((kk k).map kV)) := upd_same
        have s5 : Same H4 (upd H4 t (.tup [.str k.1, .str k.2])) := same_new (Same.refl H4) nt
        generalize upd H4 t (.tup [.str k.1, .str k.2]) = H5 at eo5 ed5 et s5
        have hg := DGet.t eo5 et
        rw [ent_val, if_pos hk] at hg
        refine ⟨o, _, rfl, hg, by show 3 ≤ sizeLine; decide, fun u nu => ?_⟩
        have ed6 : (upd H5 u (.tup [.str k.1, .str k.2, .int (cnt L k)])) d = some (.lst zs) := by rw [upd_ne (ne_of_none ed5 nu)]; exact ed5
        have eu : (upd H5 u (.tup [.str k.1, .str k.2, .int (cnt L k)])) u = some (.tup [.str k.1, .str k.2, .int (cnt L k)]) := upd_same
        have s6 : Same H4 (upd H5 u (.tup [.str k.1, .str k.2, .int (cnt L k)])) := same_new s5 nu
        generalize upd H5 u (.tup [.str k.1, .str k.2, .int (cnt L k)]) = H6 at ed6 eu s6
        have lz : zs.length < sizeLine := by
          rw [dp_lenM dz, List.length_take]
          have : (sumR L).length = (skeys L).length := by unfold sumR; rw [List.length_map]
          exact small1000 (by omega)
        have hsi : (sumR L)[i]? = some (k.1, k.2, cnt L k) := by
          unfold sumR
          rw [List.getElem?_map, hki]
          rfl
        refine ⟨zs, ed6, lz, zs ++ [.ref u], upd_same, ?_, same_own (s4.trans s6) ndd⟩
        rw [take_snoc hsi]
        have tkd := TKeep.lst (o := .lst (zs ++ [.ref u])) ed6
        exact dp_snoc flat_prow dz ((TKeep.of s6).trans tkd) (Dp.prow (r := (k.1, k.2, cnt L k)) (tkd.sq (SqT.of eu)))
      · rintro H4 ⟨zs, ed, dz, s4⟩
        have lx : xs.length = (sumR L).length := by
          rw [dp_lenM hd3]
          unfold sumR
          rw [List.length_map]
        rw [lx, List.take_length] at dz
        refine ⟨d, zs, rfl, .inl ⟨.inl (.inl ed), fun t nt => ?_⟩⟩
        have s5 := s3.trans s4
        exact q t zs _ (s5.free nt) (same_new s5 nt) upd_same (dp_move flat_prow dz (TKeep.new nt))
end
end K13
namespace K13
open PySem PySem.Spec PyProof.Rows L2 PK
abbrev NInit : List Str := ["self", "rows"]
theorem scInit : FnScope NInit ["self", "rows"] (defScope (inClass (topS 7) 0)) := ⟨rfl, rfl, rfl, by decide +kernel, rfl, by decide +kernel, by decide +kernel⟩
section
variable {P : Program} {w : World} {K : PySem.W.Frag} {mg : Str → Option Value} {base : Heap}
abbrev FunI (K : PySem.W.Frag) (f : Addr) (fd : FuncData) : Prop := FunD K "__init__" "Heap.__init__" (defArgs (inClass (topS 7) 0)) (defBody (inClass (topS 7) 0)) (defScope (inClass (topS 7) 0)) [.non] [] f fd
theorem ok_init {f fA C : Addr} {fd fdA : FuncData} {k : Nat} (F : FunI K f fd) (T : HCls K mg C)
    (Ad : Cal P w K mg base 1 "added_rows" fA fdA ["rows"] (spAdded K)) :
    FnOk P w K mg base CX0 (k + 2) f fd ["self", "rows"] (spInit K C) := by
  refine F.ok (CX := CX0) scInit (fun vs H Q E h => ?_) (fun cdv A outer s H vs Q E hr h => ?_)
  · obtain ⟨p, dx, x, L, rfl, _⟩ := h
    rfl
  · obtain ⟨p, dx, x, L, rfl, hp, hx, hL, q⟩ := h
    refine ⟨_, (pss_one (ps_fld (pv 0) (pe_call Ad.ok (hr.mono (Nat.le_add_left 1 k)) (by rfl) Ad.g Ad.kp Ad.b .nil pass0 (pa_cons (pe_ifExp (pt_cmpR op_isN (pv 1) pe_non (nomark _)) (pe_tup pa_nil) (pv 1)) pa_nil)) rfl)), ?_⟩
    refine ⟨x, rfl, rfl, _, rfl, ite2 (fun hn => ?_) (fun hn => ?_)⟩
    · have hn : x = .non := of_decide_eq_true hn
      refine ⟨Nat.zero_le _, fun e ne => ?_⟩
      have eL : L = [] := by
        rcases hx with ⟨_, h⟩ | h
        · exact h
        · rw [hn] at h
          cases h
      subst eL
      have s1 : Same H (upd H e (.tup [])) := same_new (Same.refl H) ne
      have d1 : Dp K (upd H e (.tup [])) (.ref e) (rowsD []) := .tup (SqT.of upd_same) .nil
      generalize upd H e (.tup []) = H1 at s1 d1
      refine ⟨.ref e, [], rfl, d1, hL, fun t us H2 nt s2 et du => ⟨_, rfl, p, C, dx, [], rfl, s2 _ _ (s1 _ _ hp), T.cl, T.nh, (by show 0 < 1000; decide), ?_⟩⟩
      have hp2 := s2 _ _ (s1 _ _ hp)
      have tp : t ≠ p := ne_of et hp2 (by intro z; cases z)
      have tk : TKeep H2 (upd H2 p (.ins C dx (putF "held" (.ref t) []))) := fun b o z h => by
        rw [upd_ne (ne_of h hp2 (by rintro rfl; exact z))]
        exact h
      refine q _ (fun b o e hb => ?_) ⟨dx, t, upd_same, .tup (SqT.of (by rw [upd_ne tp]; exact et)) (dp_move flat_prow du tk)⟩
      rw [upd_ne hb]
      exact s2 _ _ (s1 _ _ e)
    · have hn : ¬ x = .non := fun z => hn (decide_eq_true z)
      have hd : Dp K H x (rowsD L) := by
        rcases hx with ⟨h, _⟩ | h
        · exact absurd h hn
        · exact h
      refine ⟨x, rfl, x, L, rfl, hd, hL, fun t us H2 nt s2 et du => ⟨_, rfl, p, C, dx, [], rfl, s2 _ _ hp, T.cl, T.nh, (by show 0 < 1000; decide), ?_⟩⟩
      have hp2 := s2 _ _ hp
      have tp : t ≠ p := ne_of et hp2 (by intro z; cases z)
      have tk : TKeep H2 (upd H2 p (.ins C dx (putF "held" (.ref t) []))) := fun b o z h => by
        rw [upd_ne (ne_of h hp2 (by rintro rfl; exact z))]
        exact h
      refine q _ (fun b o e hb => ?_) ⟨dx, t, upd_same, .tup (SqT.of (by rw [upd_ne tp]; exact et)) (dp_move flat_prow du tk)⟩
      rw [upd_ne hb]
      exact s2 _ _ e
theorem kb_init2 {f : Addr} {fd : FuncData} (F : FunI K f fd) : KB K fd ["self", "rows"] 2 [] (fun vs _ => vs) :=
  kb_of F 2 [] (fun vs _ _ => vs) (by simp) (fun r _ _ => r) fun T kV doc pm an cdv ct us its ws h1 h2 h3 => by
    match us, its, ws, h1, h2, h3 with
    | [a, b], [c], [], _, _, _ => exact ⟨_, rfl, rfl⟩
theorem kb_initK {f : Addr} {fd : FuncData} (F : FunI K f fd) : KB K fd ["self", "rows"] 1 ["rows"] (fun vs zs => vs ++ zs) :=
  kb_of F 1 ["rows"] (fun vs _ zs => vs ++ zs) (by simp) (fun r _ q => r.append q) fun T kV doc pm an cdv ct us its ws h1 h2 h3 => by
    match us, its, ws, h1, h2, h3 with
    | [a], [c], [d], _, _, _ => exact ⟨_, rfl, rfl⟩
theorem b_init0 {f : Addr} {fd : FuncData} (F : FunI K f fd) : ∃ ds, Vals [V.non] ds ∧ Binds K fd ["self", "rows"] ds := by
  refine F.binds1 (ps := ["self", "rows"]) 1 0 (by simp) rfl fun T kV doc pm an cdv ct us its h1 h2 => ?_
  match us, its, h1, h2 with
  | [a], [c], _, _ => exact ⟨_, rfl, rfl⟩
end
end K13
namespace K13
open PySem PySem.Spec PyProof.Rows L2 PK
abbrev NRows : List Str := ["self", "form", "shade", "many"]
theorem scRows : FnScope NRows ["self"] (defScope (inClass (topS 7) 1)) := ⟨rfl, rfl, rfl, by decide +kernel, rfl, by decide +kernel, by decide +kernel⟩
section
variable {P : Program} {w : World} {K : PySem.W.Frag} {mg : Str → Option Value} {base : Heap}
-- names: ["self", "form", "shade", "many"] cells set()
theorem ok_rows {f C : Addr} {fd : FuncData} {k : Nat} (F : Fun K "rows" "Heap.rows" (inClass (topS 7) 1) f fd) (T : HCls K mg C) (hT : mg "tuple" = none) :
    FnOk P w K mg base CX0 (k + 1) f fd ["self"] (spRows K C) := by
  refine F.ok scRows (fun vs H Q E h => ?_) (fun cdv A outer s H vs Q E hr h => ?_)
  · obtain ⟨p, L, rfl, _⟩ := h
    rfl
  · obtain ⟨p, L, rfl, ⟨dx, t0, hp, dt⟩, hL, q⟩ := h
    obtain ⟨b, us, eb, hb, du⟩ := Dp.tupE dt
    cases eb
    have lus : us.length = L.length := dp_lenM du
    refine ⟨_, (pss_one (ps_ret (pe_callTy (k_tup K) (by rfl) hT (by decide +kernel) (pa_cons (pe_lc (own := [("form", 1), ("shade", 2), ("many", 3)]) rfl scRows.nd (pk_tup K (pe_fld (pv 0) rfl)) (blkOk_by (N := NRows) (sc := defScope (inClass (topS 7) 1)) (own := [("form", 1), ("shade", 2), ("many", 3)]) (by decide +kernel)) (fun _ _ _ _ _ => (pgk_tup K (n := 3) rfl (pgs_cons (pg_name (i := 1) scRows.nd rfl (.inl rfl)) (pgs_cons (pg_name (i := 2) scRows.nd rfl (.inl rfl)) (pgs_cons (pg_name (i := 3) scRows.nd rfl (.inl rfl)) pgs_nil))))) (fun _ _ _ _ _ => pts_nil) (fun _ _ _ _ _ => (pe_tup (pa_cons (pv 1) (pa_cons (pv 2) (pa_cons (pv 3) pa_nil)))))) pa_nil)))), ?_⟩
    refine ⟨.ref p, rfl, p, C, dx, _, _, rfl, hp, T.cl, T.nh, hf_held _, t0, rfl, ⟨us, hb⟩, fun d nd => ?_⟩
    refine lc_tup (K := K) (a := t0) (xs := us) (fun i H2 => ∃ zs : List V, H2 d = some (.lst zs) ∧ DpAll K H2 zs ((L.take i).map prowD) ∧ Same H H2) ?_ ?_ ?_ ?_
    · exact ⟨[], upd_same, .nil, same_new (Same.refl H) nd⟩
    · rintro i H2 _ ⟨zs, _, _, s2⟩
      exact (TKeep.of s2).sq hb
    · rintro i v H2 hv ⟨zs, ed, dz, s2⟩
      obtain ⟨e, he, de⟩ := DpAll.getV du hv
      rw [List.getElem?_map] at he
      obtain ⟨r, hxi, rfl⟩ := Option.map_eq_some_iff.mp he
      have hi := (List.getElem?_eq_some_iff.mp hxi).1
      obtain ⟨b1, rfl, hb1⟩ := Dp.prowE (Dp.same s2 de)
      refine ⟨b1, _, rfl, hb1, rfl, _, _, rfl, _, _, rfl, _, _, rfl, rfl, rfl, .str r.1, rfl, .str r.2.1, rfl, .int r.2.2, rfl, by show 3 ≤ sizeLine; decide, fun u nu => ?_⟩
      have ed6 : (upd H2 u (.tup [.str r.1, .str r.2.1, .int r.2.2])) d = some (.lst zs) := by rw [upd_ne (ne_of_none ed nu)]; exact ed
      have eu : (upd H2 u (.tup [.str r.1, .str r.2.1, .int r.2.2])) u = some (.tup [.str r.1, .str r.2.1, .int r.2.2]) := upd_same
      have s6 : Same H2 (upd H2 u (.tup [.str r.1, .str r.2.1, .int r.2.2])) := same_new (Same.refl H2) nu
      generalize upd H2 u (.tup [.str r.1, .str r.2.1, .int r.2.2]) = H6 at ed6 eu s6
      have lz : zs.length < sizeLine := by
        rw [dp_lenM dz, List.length_take]
        exact small1000 (by omega)
      refine ⟨zs, ed6, lz, zs ++ [.ref u], upd_same, ?_, same_own (s2.trans s6) nd⟩
      rw [take_snoc hxi]
      have tkd := TKeep.lst (o := .lst (zs ++ [.ref u])) ed6
      exact dp_snoc flat_prow dz ((TKeep.of s6).trans tkd) (Dp.prow (tkd.sq (SqT.of eu)))
    · rintro H2 ⟨zs, ed, dz, s2⟩
      rw [lus, List.take_length] at dz
      refine ⟨d, zs, rfl, .inl ⟨.inl (.inl ed), fun t nt => ?_⟩⟩
      exact q (.ref t) _ (same_new s2 nt) (.tup (SqT.of upd_same) (dp_move flat_prow dz (TKeep.new nt)))
end
end K13
namespace K13
open PySem PySem.Spec PyProof.Rows L2 PK
abbrev NManyM : List Str := ["self", "form", "shade", "own", "tint", "many"]
theorem scManyM : FnScope NManyM ["self", "form", "shade"] (defScope (inClass (topS 7) 2)) := ⟨rfl, rfl, rfl, by decide +kernel, rfl, by decide +kernel, by decide +kernel⟩
abbrev FunM (K : PySem.W.Frag) (f : Addr) (fd : FuncData) : Prop := FunD K "many" "Heap.many" (defArgs (inClass (topS 7) 2)) (defBody (inClass (topS 7) 2)) (defScope (inClass (topS 7) 2)) [.non] [] f fd
section
variable {P : Program} {w : World} {K : PySem.W.Frag} {mg : Str → Option Value} {base : Heap}
-- names: ["self", "form", "shade", "own", "tint", "many"] cells {'form', 'shade'}
theorem ok_manym {f C : Addr} {fd : FuncData} {k : Nat} (F : FunM K f fd) (T : HCls K mg C) (hSu : mg "sum" = none) :
    FnOk P w K mg base CX0 (k + 1) f fd ["self", "form", "shade"] (spManyM K C) := by
  refine F.ok (CX := CX0) scManyM (fun vs H Q E h => ?_) (fun cdv A outer s H vs Q E hr h => ?_)
  · obtain ⟨p, fo, x, o, L, rfl, _⟩ := h
    rfl
  · obtain ⟨p, fo, x, o, L, rfl, ⟨dx, t0, hp, dt⟩, hL, hx, q⟩ := h
    obtain ⟨b, us, eb, hb, du⟩ := Dp.tupE dt
    cases eb
    have lus : us.length = L.length := dp_lenM du
    refine ⟨_, (pss_one (ps_ret (pe_callB (k_sum K rfl) (by rfl) hSu (by decide +kernel) (pa_cons (pe_lc (own := [("own", 3), ("tint", 4), ("many", 5)]) rfl scManyM.nd (pk_tup K (pe_fld (pv 0) rfl)) (blkOk_by (N := NManyM) (sc := defScope (inClass (topS 7) 2)) (own := [("own", 3), ("tint", 4), ("many", 5)]) (by decide +kernel)) (fun _ _ _ _ _ => (pgk_tup K (n := 3) rfl (pgs_cons (pg_name (i := 3) scManyM.nd rfl (.inl rfl)) (pgs_cons (pg_name (i := 4) scManyM.nd rfl (.inl rfl)) (pgs_cons (pg_name (i := 5) scManyM.nd rfl (.inl rfl)) pgs_nil))))) (fun _ _ _ _ _ => pts_one (PW.pt (pw_and (pt_cmpR op_eq (pv 3) (pv 1) (nomark _)) (pw_and1 (PW.pt (pw_or (pt_cmpR op_isN (pv 2) pe_non (nomark _)) (pw_or1 (pt_cmpR op_eq (pv 4) (pv 2) (nomark _))))))))) (fun _ _ _ _ _ => (pv 5))) pa_nil)))), ?_⟩
    refine ⟨.ref p, rfl, p, C, dx, _, _, rfl, hp, T.cl, T.nh, hf_held _, t0, rfl, ⟨us, hb⟩, fun d nd => ?_⟩
    refine lc_tup (K := K) (a := t0) (xs := us) (fun i H2 => H2 d = some (.lst ((selL (L.take i) fo o).map V.int)) ∧ Same H H2) ⟨upd_same, same_new (Same.refl H) nd⟩ ?_ ?_ ?_
    · rintro i H2 _ ⟨_, s2⟩
      exact (TKeep.of s2).sq hb
    · rintro i v H2 hv ⟨ed, s2⟩
      obtain ⟨e, he, de⟩ := DpAll.getV du hv
      rw [List.getElem?_map] at he
      obtain ⟨r, hxi, rfl⟩ := Option.map_eq_some_iff.mp he
      have hi := (List.getElem?_eq_some_iff.mp hxi).1
      obtain ⟨b1, rfl, hb1⟩ := Dp.prowE (Dp.same s2 de)
      have add : sel fo o r = true → ∃ acc, H2 d = some (.lst acc) ∧ acc.length < sizeLine ∧ (upd H2 d (.lst (acc ++ [.int r.2.2]))) d = some (.lst ((selL (L.take (i + 1)) fo o).map V.int)) ∧ Same H (upd H2 d (.lst (acc ++ [.int r.2.2]))) := fun hs => by
        refine ⟨_, ed, ?_, ?_, same_own s2 nd⟩
        · rw [List.length_map]
          have := selL_len (L.take i) fo o
          rw [List.length_take] at this
          exact small1000 (by omega)
        · rw [upd_same, selL_snoc hxi, if_pos hs, List.map_append]
          rfl
      have skip : ¬ sel fo o r = true → H2 d = some (.lst ((selL (L.take (i + 1)) fo o).map V.int)) ∧ Same H H2 := fun hs => by
        refine ⟨?_, s2⟩
        rw [ed, selL_snoc hxi, if_neg hs, List.append_nil]
      refine ⟨b1, _, rfl, hb1, rfl, _, _, rfl, _, _, rfl, _, _, rfl, rfl, rfl, ?_⟩
      have dstr : ∀ a b : Str, decide (V.str a = V.str b) = decide (a = b) := fun a b => by
        by_cases z : a = b
        · rw [z, decide_eq_true rfl, decide_eq_true rfl]
        · rw [decide_eq_false z]
          exact decide_eq_false fun y => z (V.str.inj y)
      refine ⟨.str r.1, rfl, .str fo, rfl, rfl, _, rfl, ?_⟩
      rw [dstr]
      refine ite2 (fun h1 => ?_) (fun h1 => ?_)
      · refine ⟨x, rfl, rfl, _, rfl, ite2 (fun h2 => ?_) (fun h2 => ?_)⟩
        · have hn : x = .non := of_decide_eq_true h2
          refine iteT ⟨.int r.2.2, rfl, add ?_⟩
          rcases hx with ⟨_, rfl⟩ | ⟨t, e, _⟩
          · unfold sel
            rw [h1]
            rfl
          · rw [hn] at e
            cases e
        · have hn : ¬ x = .non := fun z => h2 (decide_eq_true z)
          rcases hx with ⟨e, _⟩ | ⟨t, rfl, rfl⟩
          · exact absurd e hn
          refine ⟨.str r.2.1, rfl, .str t, rfl, rfl, _, rfl, ?_⟩
          rw [dstr]
          refine ite2 (fun h3 => ⟨.int r.2.2, rfl, add ?_⟩) (fun h3 => skip ?_)
          · unfold sel
            rw [h1]
            exact h3
          · intro z
            unfold sel at z
            rw [h1] at z
            exact h3 z
      · refine iteF (skip fun z => h1 ?_)
        unfold sel at z
        exact (Bool.and_eq_true_iff.mp z).1
    · rintro H2 ⟨ed, s2⟩
      rw [lus, List.take_length] at ed
      exact ⟨d, _, rfl, .inl (.inl ed), q H2 s2⟩
end
end K13
namespace K13
open PySem PySem.Spec PyProof.Rows L2 PK
abbrev NAbove : List Str := ["heap", "other", "above", "form", "shade", "many", "more"]
theorem scAbove : FnScope NAbove ["heap", "other"] (defScope (topS 6)) := ⟨rfl, rfl, rfl, by decide +kernel, rfl, by decide +kernel, by decide +kernel⟩
section
variable {P : Program} {w : World} {K : PySem.W.Frag} {mg : Str → Option Value} {base : Heap}
-- names: ["heap", "other", "above", "form", "shade", "many", "more"] cells set()
/-- many, all its arguments given or its last left out -/
structure MMany (P : Program) (w : World) (K : PySem.W.Frag) (mg : Str → Option Value) (base : Heap) (k : Nat) (C f : Addr) (fd : FuncData) : Prop where
  ok : FnOk P w K mg base CX0 k f fd ["self", "form", "shade"] (spManyM K C)
  m : Meth K C "many" f
  b2 : ∃ ds, Vals ([] : List V) ds ∧ Binds K fd ["self", "form", "shade"] ds
theorem ok_above {f fR fM C : Addr} {fd fdR fdM : FuncData} {k : Nat} (F : Fun K "rows_above" "rows_above" (topS 6) f fd) (T : HCls K mg C)
    (Rw : MCal P w K mg base 1 C "rows" fR fdR ["self"] (spRows K C)) (Mm : MMany P w K mg base 1 C fM fdM) (hT : mg "tuple" = none) :
    FnOk P w K mg base CX0 (k + 2) f fd ["heap", "other"] (spAbove K C) := by
  obtain ⟨dsM, dM, bM⟩ := Mm.b2
  refine F.ok scAbove (fun vs H Q E h => ?_) (fun cdv A outer s H vs Q E hr h => ?_)
  · obtain ⟨p, q, L, M, rfl, _⟩ := h
    rfl
  · obtain ⟨p, r, L, M, rfl, hp, hq, lL, lM, q⟩ := h
    refine ⟨_, (pss_cons (ps_set (i := 2) scAbove.nd rfl (.inl rfl) (pe_lst pa_nil))
  (pss_cons (ps_for PassesOwn.never rfl (pk_tup K (pe_meth0 (pv 0) T.cl Rw.m Rw.ok (hr.mono (Nat.le_add_left 1 k)) Rw.b .nil pass0)) (pgk_tup K (n := 3) rfl (pgs_cons (pg_name (i := 3) scAbove.nd rfl (.inl rfl)) (pgs_cons (pg_name (i := 4) scAbove.nd rfl (.inl rfl)) (pgs_cons (pg_name (i := 5) scAbove.nd rfl (.inl rfl)) pgs_nil))))
  (Evl.pss_cut (ps_set (i := 6) scAbove.nd rfl (.inl rfl) (pe_op op_sub (pv 5) (pe_meth (pv 1) T.cl Mm.m Mm.ok (hr.mono (Nat.le_add_left 1 k)) bM dM pass0 (pa_cons (pv 3) (pa_cons (pv 4) pa_nil)))))
  (pss_one (ps_if (pt_cmpR op_gt (pv 6) pe_int (nomark _))
  (pss_one (ps_expr (pe_bm PySem.F.plainAttrs_list PySem.F.slot_list_append PySem.F.type_list_append mt_append (pv 2) (pa_cons (pe_tup (pa_cons (pv 3) (pa_cons (pv 4) (pa_cons (pv 6) pa_nil)))) pa_nil)))) pss_nil))))
  (pss_one (ps_ret (pe_callTy (k_tup K) (by rfl) hT (by decide +kernel) (pa_cons (pv 2) pa_nil)))))), ?_⟩
    refine ⟨Nat.zero_le _, fun o no => ?_⟩
    have s0 : Same H (upd H o (.lst [])) := same_new (Same.refl H) no
    have eo0 : (upd H o (.lst [])) o = some (.lst []) := upd_same
    generalize upd H o (.lst []) = H0 at s0 eo0
    have hp0 := hp.same s0
    obtain ⟨dx, fz, e1, e2⟩ := hp0.no (m := "rows") (by decide +kernel)
    refine ⟨.ref p, rfl, p, dx, fz, rfl, e1, e2, p, L, rfl, hp0, lL, fun v H1 s1 dv => ?_⟩
    obtain ⟨b, us, rfl, hb, du⟩ := Dp.tupE dv
    have lus : us.length = L.length := dp_lenM du
    have s01 : Same H H1 := s0.trans s1
    refine ⟨b, rfl, ⟨us, hb⟩, for_tup (K := K) (a := b) (xs := us) (fun i σ H2 => ∃ (zs : List V) (y3 y4 y5 y6 : Option V), σ = [some (.ref p), some (.ref r), some (.ref o), y3, y4, y5, y6] ∧ Same H H2 ∧ TKeep H1 H2 ∧
      H2 o = some (.lst zs) ∧ DpAll K H2 zs ((aboveR (L.take i) M).map prowD)) ⟨[], none, none, none, none, rfl, s01, TKeep.refl _, s1 _ _ eo0, .nil⟩ ?_ ?_ ?_⟩
    · rintro i σ H2 _ ⟨zs, y3, y4, y5, y6, rfl, s2, tk2, _⟩
      exact tk2.sq hb
    · rintro i rv σ H2 hv ⟨zs, y3, y4, y5, y6, rfl, s2, tk2, eo, dz⟩
      obtain ⟨e1', he, de⟩ := DpAll.getV du hv
      rw [List.getElem?_map] at he
      obtain ⟨ro, hLi, rfl⟩ := Option.map_eq_some_iff.mp he
      obtain ⟨b1, rfl, hb1⟩ := Dp.prowE (Dp.keepT tk2 (flat_prow ro) de)
      have hi := (List.getElem?_eq_some_iff.mp hLi).1
      refine ⟨b1, _, rfl, hb1, rfl, _, _, rfl, _, _, rfl, _, _, rfl, rfl, ?_⟩
      have hq2 := hq.same s2
      obtain ⟨dy, fy, g1, g2⟩ := hq2.no (m := "many") (by decide +kernel)
      refine ⟨fun σ H3 => σ = [some (.ref p), some (.ref r), some (.ref o), some (.str ro.1), some (.str ro.2.1), some (.int ro.2.2), some (.int (ro.2.2 - cnt M (PK.pk ro)))] ∧ Same H2 H3, ?_, ?_⟩
      · refine ⟨.int ro.2.2, rfl, .ref r, rfl, r, dy, fy, rfl, g1, g2, .str ro.1, rfl, .str ro.2.1, rfl, r, ro.1, .str ro.2.1, some ro.2.1, M, rfl, hq2, lM, .inr ⟨_, rfl, rfl⟩, fun H3 s3 => ?_⟩
        rw [show manyR M ro.1 (some ro.2.1) = cnt M (PK.pk ro) from manyR_cnt M (PK.pk ro)]
        exact ⟨_, _, rfl, rfl, rfl, s3⟩
      · rintro σ H3 ⟨rfl, s3⟩
        have eo3 := s3 _ _ eo
        have dz3 := DpAll.same s3 dz
        have tk3 : TKeep H1 H3 := tk2.trans (TKeep.of s3)
        refine ⟨.int (ro.2.2 - cnt M (PK.pk ro)), rfl, _, _, rfl, rfl, _, rfl, ite2 (fun h1 => ?_) (fun h1 => ?_)⟩
        · have h1 : 0 < ro.2.2 - cnt M (PK.pk ro) := of_decide_eq_true h1
          refine ⟨.ref o, rfl, .inl ⟨rfl, _, .inl (.inl eo3)⟩, .str ro.1, rfl, .str ro.2.1, rfl, .int _, rfl, by show 3 ≤ sizeLine; decide, fun u nu => ?_⟩
          have s4 : Same H3 (upd H3 u (.tup [.str ro.1, .str ro.2.1, .int (ro.2.2 - cnt M (PK.pk ro))])) := same_new (Same.refl H3) nu
          have eu : (upd H3 u (.tup [.str ro.1, .str ro.2.1, .int (ro.2.2 - cnt M (PK.pk ro))])) u = some (.tup [.str ro.1, .str ro.2.1, .int (ro.2.2 - cnt M (PK.pk ro))]) := upd_same
          generalize upd H3 u (.tup [.str ro.1, .str ro.2.1, .int (ro.2.2 - cnt M (PK.pk ro))]) = H4 at s4 eu
          have eo4 := s4 _ _ eo3
          have tk := TKeep.lst (o := .lst (zs ++ [.ref u])) eo4
          refine ⟨o, zs, .ref u, rfl, rfl, eo4, ?_, zs ++ [.ref u], _, _, _, _, rfl, same_own ((s2.trans s3).trans s4) no, (tk3.trans (TKeep.of s4)).trans tk, upd_same, ?_⟩
          · rw [dp_lenM dz]
            have h2 := aboveR_len (L.take i) M
            rw [List.length_take] at h2
            exact small1000 (by omega)
          · rw [aboveR_snoc hLi, if_pos h1]
            exact dp_snoc flat_prow dz3 ((TKeep.of s4).trans tk) (Dp.prow (r := (ro.1, ro.2.1, ro.2.2 - cnt M (PK.pk ro))) (tk.sq (SqT.of eu)))
        · have h1 : ¬ 0 < ro.2.2 - cnt M (PK.pk ro) := fun z => h1 (decide_eq_true z)
          refine ⟨zs, _, _, _, _, rfl, s2.trans s3, tk3, eo3, ?_⟩
          rw [aboveR_snoc hLi, if_neg h1, List.append_nil]
          exact dz3
    · rintro σ H2 ⟨zs, y3, y4, y5, y6, rfl, s2, tk2, eo, dz⟩
      rw [lus, List.take_length] at dz
      refine ⟨.ref o, rfl, o, zs, rfl, .inl ⟨.inl (.inl eo), fun t nt => ?_⟩⟩
      exact q (.ref t) _ (same_new s2 nt) (.tup (SqT.of upd_same) (dp_move flat_prow dz (TKeep.new nt)))
end
end K13
namespace K13
open PySem PySem.Spec PyProof.Rows L2 PK
abbrev NPlus : List Str := ["self", "other"]
theorem scPlus : FnScope NPlus ["self", "other"] (defScope (inClass (topS 7) 4)) := ⟨rfl, rfl, rfl, by decide +kernel, rfl, by decide +kernel, by decide +kernel⟩
section
variable {P : Program} {w : World} {K : PySem.W.Frag} {mg : Str → Option Value} {base : Heap}
theorem ok_plus {f fI C : Addr} {fd fdI : FuncData} {k : Nat} (F : Fun K "plus" "Heap.plus" (inClass (topS 7) 4) f fd) (T : HCls K mg C) (Hm : HMk P w K mg base 2 C fI fdI) :
    FnOk P w K mg base CX0 (k + 4) f fd ["self", "other"] (spPlus K C) := by
  refine F.ok scPlus (fun vs H Q E h => ?_) (fun cdv A outer s H vs Q E hr h => ?_)
  · obtain ⟨p, q, L, M, rfl, _⟩ := h
    rfl
  · obtain ⟨p, r, L, M, rfl, ⟨dx, t0, hp, dt⟩, ⟨dy, t1, hq, du⟩, hl, q⟩ := h
    refine ⟨_, (pss_one (ps_ret (kheap1 K Hm (hr.mono (Nat.le_add_left 3 k)) (by rfl) (pe_op (ko_catA K) (pe_fld (pv 0) rfl) (pe_fld (pv 1) rfl))))), ?_⟩
    obtain ⟨b0, us, e0, hb0, du0⟩ := Dp.tupE dt
    cases e0
    obtain ⟨b1, vs1, e1, hb1, du1⟩ := Dp.tupE du
    cases e1
    have l0 : us.length = L.length := dp_lenM du0
    have l1 : vs1.length = M.length := dp_lenM du1
    refine ⟨.ref p, rfl, p, C, dx, _, _, rfl, hp, T.cl, T.nh, hf_held _, .ref r, rfl, r, C, dy, _, _, rfl, hq, T.cl, T.nh, hf_held _, t0, t1, us, vs1, rfl, rfl, hb0, hb1, ?_, fun h0 => ?_, fun _ h1 => ?_, fun _ _ u nu => ?_⟩
    · rw [l0, l1]
      exact Nat.le_of_lt (small1000 (by omega))
    · have eL : L = [] := List.eq_nil_of_length_eq_zero (by rw [← l0, h0]; rfl)
      refine ⟨L ++ M, .inr ?_, by rw [List.length_append]; exact hl, fun p' H' n' s' h' => q p' H' n' s' h'⟩
      rw [eL, List.nil_append]
      exact .tup hb1 du1
    · have eM : M = [] := List.eq_nil_of_length_eq_zero (by rw [← l1, h1]; rfl)
      refine ⟨L ++ M, .inr ?_, by rw [List.length_append]; exact hl, fun p' H' n' s' h' => q p' H' n' s' h'⟩
      rw [eM, List.append_nil]
      exact .tup hb0 du0
    · have s1 : Same H (upd H u (.tup (us ++ vs1))) := same_new (Same.refl H) nu
      refine ⟨L ++ M, .inr (.tup (SqT.of upd_same) ?_), by rw [List.length_append]; exact hl, fun p' H' n' s' h' => q p' H' (s1.free n') (s1.trans s') h'⟩
      rw [List.map_append]
      exact DpAll.app (DpAll.same s1 du0) (DpAll.same s1 du1)
end
end K13
namespace K13
open PySem PySem.Spec PyProof.Rows L2 PK
abbrev NHolds : List Str := ["self", "other"]
theorem scHolds : FnScope NHolds ["self", "other"] (defScope (inClass (topS 7) 6)) := ⟨rfl, rfl, rfl, by decide +kernel, rfl, by decide +kernel, by decide +kernel⟩
section
variable {P : Program} {w : World} {K : PySem.W.Frag} {mg : Str → Option Value} {base : Heap}
theorem ok_holds {f fA C : Addr} {fd fdA : FuncData} {k : Nat} (F : Fun K "holds" "Heap.holds" (inClass (topS 7) 6) f fd) (Ab : Cal P w K mg base 2 "rows_above" fA fdA ["heap", "other"] (spAbove K C)) :
    FnOk P w K mg base CX0 (k + 3) f fd ["self", "other"] (spHolds K C) := by
  refine F.ok scHolds (fun vs H Q E h => ?_) (fun cdv A outer s H vs Q E hr h => ?_)
  · obtain ⟨p, q, L, M, n, b, rfl, _⟩ := h
    rfl
  · obtain ⟨p, r, L, M, n, b, rfl, hp, hq, okL, okM, hn, q⟩ := h
    refine ⟨_, (pss_one (ps_ret (pe_cmpR (ko_eqD K hr) (pe_call Ab.ok (hr.mono (Nat.le_add_left 2 k)) (by rfl) Ab.g Ab.kp Ab.b .nil pass0 (pa_cons (pv 1) (pa_cons (pv 0) pa_nil))) (pe_tup pa_nil) (nomark _)))), ?_⟩
    have lL := okL.len
    have lM := okM.len
    refine ⟨.ref r, rfl, .ref p, rfl, r, p, M, L, rfl, hq, hp, by omega, by omega, fun v H1 s1 dv => ⟨Nat.zero_le _, fun e ne => ?_⟩⟩
    have s2 : Same H1 (upd H1 e (.tup [])) := same_new (Same.refl H1) ne
    refine ⟨_, rowsD [], Dp.same s2 dv, .tup (SqT.of upd_same) .nil, rows_shaped (aboveR_ok okM okL), rows_shaped (n := 0) (b := 0) ⟨Nat.le_refl _, fun _ h => (nomatch h)⟩, ?_⟩
    rw [rows_eqv]
    exact q _ (s1.trans s2)
end
end K13
namespace K13
open PySem PySem.Spec PyProof.Rows L2 PK
abbrev NNoParts : List Str := ["self", "lacking"]
theorem scNoParts : SScope NNoParts ["self", "lacking"] (defScope (inClass (topS 3) 0)) := ⟨rfl, rfl, rfl, by decide +kernel, rfl, by decide +kernel, by decide +kernel, by decide +kernel, rfl, rfl⟩
section
variable {P : Program} {w : World} {K : PySem.W.Frag} {mg : Str → Option Value} {base : Heap}
theorem ok_NoParts {f C : Addr} {fd : FuncData} {k : Nat} (F : FunS P K "__init__" "NoParts.__init__" (inClass (topS 3) 0) C f fd) (U : SupC K mg C) (nf : PySem.W.findIn K (.ref C) "lacking" = some none) :
    FnOk P w K mg base CX0 (k + 1) f fd ["self", "lacking"] (spErr1 C "lacking") := by
  refine fn_super (N := NNoParts) F U scNoParts rfl rfl rfl (fun _ => rfl) (fun _ => ⟨_, rfl⟩) (fun _ => rfl) (fun vs H Q E h => ?_) (fun cdv cc A outer s H vs Q E hr h => ?_)
  · obtain ⟨a, v, rfl, _⟩ := h
    rfl
  · obtain ⟨a, v, rfl, ha, q⟩ := h
    refine ⟨a, _, _, rfl, ha, pa_cons pe_str pa_nil, pss_one (ps_ost (pv 0) (pv 1)), by show 1 ≤ 1000; decide, ha, ?_⟩
    exact ⟨v, rfl, .ref a, rfl, a, C, rfl, U.ex, nf, .inl ⟨ha, fun dx nd ne => q dx nd ne⟩⟩
end
end K13
namespace K13
open PySem PySem.Spec PyProof.Rows L2 PK
abbrev NLess : List Str := ["self", "other", "lacking"]
theorem scLess : FnScope NLess ["self", "other"] (defScope (inClass (topS 7) 5)) := ⟨rfl, rfl, rfl, by decide +kernel, rfl, by decide +kernel, by decide +kernel⟩
section
variable {P : Program} {w : World} {K : PySem.W.Frag} {mg : Str → Option Value} {base : Heap}
theorem ok_less {f fA fI fN C CN : Addr} {fd fdA fdI fdN : FuncData} {k : Nat} (F : Fun K "less" "Heap.less" (inClass (topS 7) 5) f fd) (Ab : Cal P w K mg base 2 "rows_above" fA fdA ["heap", "other"] (spAbove K C))
    (Hm : HMk P w K mg base 2 C fI fdI) (U : SupC K mg CN) (iN : PySem.W.findIn K (.ref CN) "__init__" = some (some (.ref fN))) (tN : PySem.W.typeIn K (.ref fN) = some (.type "function"))
    (Er : FnOk P w K mg base CX0 1 fN fdN ["self", "lacking"] (spErr1 CN "lacking")) (bN : Binds K fdN ["self", "lacking"] []) (gN : mg "NoParts" = some (.ref CN)) :
    FnOk P w K mg base (L2.CX P w) (k + 4) f fd ["self", "other"] (spLess K C CN) := by
  refine F.okX scLess (fun vs H Q E h => ?_) (fun cdv A outer s H vs Q E hr h => ?_)
  · obtain ⟨p, q, L, M, n, b, rfl, _⟩ := h
    rfl
  · obtain ⟨p, r, L, M, n, b, rfl, hp, hq, okL, okM, hn, rL, rM, q, qe⟩ := h
    refine ⟨_, (pss_cons (ps_set (i := 2) scLess.nd rfl (.inl rfl) (pe_call Ab.ok (hr.mono (Nat.le_add_left 2 (k + 1))) (by rfl) Ab.g Ab.kp Ab.b .nil pass0 (pa_cons (pv 1) (pa_cons (pv 0) pa_nil))))
  (pss_cons (ps_if (pt_cmpR (ko_neD K hr) (pv 2) (pe_tup pa_nil) (nomark _))
  (pss_one (ps_raise rfl (takes_of rfl rfl rfl rfl) (pmk_oex U.ex iN tN Er (hr.mono (Nat.le_add_left 2 (k + 1))) bN .nil pass0 (by rfl) gN (pa_cons (kheap1 K Hm (hr.mono (Nat.le_add_left 3 k)) (by rfl) (pv 2)) pa_nil)))) pss_nil)
  (pss_one (ps_ret (kheap1 K Hm (hr.mono (Nat.le_add_left 3 k)) (by rfl) (pe_call Ab.ok (hr.mono (Nat.le_add_left 2 (k + 1))) (by rfl) Ab.g Ab.kp Ab.b .nil pass0 (pa_cons (pv 0) (pa_cons (pv 1) pa_nil)))))))), ?_⟩
    have lL := okL.len
    have lM := okM.len
    refine ⟨.ref r, rfl, .ref p, rfl, r, p, M, L, rfl, hq, hp, by omega, by omega, fun v H1 s1 dv => ?_⟩
    refine ⟨v, rfl, Nat.zero_le _, fun e ne => ?_⟩
    have s2 : Same H1 (upd H1 e (.tup [])) := same_new (Same.refl H1) ne
    have de : Dp K (upd H1 e (.tup [])) (.ref e) (rowsD []) := .tup (SqT.of upd_same) .nil
    generalize upd H1 e (.tup []) = H2 at s2 de
    have s12 : Same H H2 := s1.trans s2
    have dv2 := Dp.same s2 dv
    refine ⟨_, rowsD [], dv2, de, rows_shaped (aboveR_ok okM okL), rows_shaped (n := 0) (b := 0) ⟨Nat.le_refl _, fun _ h => (nomatch h)⟩, _, rfl, ?_⟩
    rw [rows_eqv]
    refine ite2 (fun h1 => ?_) (fun h1 => ?_)
    · have h1 : aboveR M L ≠ [] := by simpa using h1
      have la := aboveR_len M L
      refine ⟨v, rfl, aboveR M L, .inr dv2, by omega, fun p' H3 n3 s3 h3 => ⟨by show 1 ≤ 1000; decide, fun a na => ?_⟩⟩
      rw [sumR_id (rises_above rM)] at h3
      refine ⟨a, .ref p', rfl, upd_same, fun dx ndx ndxa => ⟨rfl, dx, [("lacking", .ref p')], upd_same, ?_, ?_, ?_⟩⟩
      · rw [upd_ne ndxa, upd_same]
      · rw [upd_ne ndxa] at ndx
        exact ndx
      · have nd3 : H3 dx = none := by
          rw [upd_ne ndxa] at ndx
          exact ndx
        have s4 : Same H3 (upd (del (upd (upd (upd H3 a (exo a CN none)) dx (exd dx [("lacking", .ref p')])) a (exo a CN (some dx))) a) dx (.xd [("lacking", .ref p')])) := fun b o z => by
          have z1 : b ≠ dx := ne_of_none z nd3
          have z2 : b ≠ a := ne_of_none z na
          rw [upd_ne z1, del_ne z2, upd_ne z2, upd_ne z1, upd_ne z2]
          exact z
        have s34 := (s12.trans s3).trans s4
        exact qe h1 p' dx _ ((s12.trans s3).free nd3) s34 (h3.same s4) upd_same
    · have h1 : aboveR M L = [] := by simpa using h1
      refine ⟨.ref p, rfl, .ref r, rfl, p, r, L, M, rfl, hp.same s12, hq.same s12, by omega, by omega, fun v3 H3 s3 dv3 => ?_⟩
      have la := aboveR_len L M
      refine ⟨aboveR L M, .inr dv3, by omega, fun p' H4 n4 s4 h4 => ?_⟩
      rw [sumR_id (rises_above rL)] at h4
      have s13 := s12.trans s3
      exact q h1 p' H4 (s13.free n4) (s13.trans s4) h4
end
end K13
namespace K13
open PySem PySem.Spec PyProof.Rows L2 PK
abbrev NForms : List Str := ["self", "form", "shade", "many"]
theorem scForms : FnScope NForms ["self"] (defScope (inClass (topS 7) 3)) := ⟨rfl, rfl, rfl, by decide +kernel, rfl, by decide +kernel, by decide +kernel⟩
section
variable {P : Program} {w : World} {K : PySem.W.Frag} {mg : Str → Option Value} {base : Heap}
-- names: ["self", "form", "shade", "many"] cells set()
theorem ok_forms {f C : Addr} {fd : FuncData} {k : Nat} (F : Fun K "forms" "Heap.forms" (inClass (topS 7) 3) f fd) (T : HCls K mg C) (hT : mg "tuple" = none) (hS : mg "sorted" = none) :
    FnOk P w K mg base CX0 (k + 1) f fd ["self"] (spForms K C) := by
  refine F.ok scForms (fun vs H Q E h => ?_) (fun cdv A outer s H vs Q E hr h => ?_)
  · obtain ⟨p, L, rfl, _⟩ := h
    rfl
  · obtain ⟨p, L, rfl, ⟨dx, t0, hp, dt⟩, hL, q⟩ := h
    obtain ⟨b, us, eb, hb, du⟩ := Dp.tupE dt
    cases eb
    have lus : us.length = L.length := dp_lenM du
    refine ⟨_, (pss_one (ps_ret (pe_callTy (k_tup K) (by rfl) hT (by decide +kernel) (pa_cons (pe_callB (call_srtSet rfl hr) (by rfl) hS (by decide +kernel) (pa_cons (pe_scT (own := [("form", 1), ("shade", 2), ("many", 3)]) rfl scForms.nd (pk_tup K (pe_fld (pv 0) rfl)) (blkOk_by (N := NForms) (sc := defScope (inClass (topS 7) 3)) (own := [("form", 1), ("shade", 2), ("many", 3)]) (by decide +kernel)) (fun _ _ _ _ _ => (pgk_tup K (n := 3) rfl (pgs_cons (pg_name (i := 1) scForms.nd rfl (.inl rfl)) (pgs_cons (pg_name (i := 2) scForms.nd rfl (.inl rfl)) (pgs_cons (pg_name (i := 3) scForms.nd rfl (.inl rfl)) pgs_nil))))) (fun _ _ _ _ _ => (pv 1))) pa_nil)) pa_nil)))), ?_⟩
    refine ⟨.ref p, rfl, p, C, dx, _, _, rfl, hp, T.cl, T.nh, hf_held _, t0, rfl, ⟨us, hb⟩, fun d nd => ?_⟩
    refine scT_tup (K := K) (a := t0) (xs := us) (fun i H2 => H2 d = some (SetTO P w d (formL (L.take i))) ∧ ∀ b o, H b = some o → H2 b = some o) ⟨upd_same, same_new (Same.refl H) nd⟩ ?_ ?_ ?_
    · rintro i H2 _ ⟨_, s2⟩
      exact (TKeep.of s2).sq hb
    · rintro i v H2 hv ⟨ed, s2⟩
      have s2 : Same H H2 := s2
      obtain ⟨e, he, de⟩ := DpAll.getV du hv
      rw [List.getElem?_map] at he
      obtain ⟨r, hxi, rfl⟩ := Option.map_eq_some_iff.mp he
      have hi := (List.getElem?_eq_some_iff.mp hxi).1
      obtain ⟨b1, rfl, hb1⟩ := Dp.prowE (Dp.same s2 de)
      refine ⟨b1, _, rfl, hb1, rfl, _, _, rfl, _, _, rfl, _, _, rfl, rfl, rfl, .str r.1, rfl, r.1, formL (L.take i), rfl, ed, ?_, ?_, same_own s2 nd⟩
      · have := formL_len (L.take i)
        rw [List.length_take] at this
        show _ < 4096
        omega
      · rw [upd_same, formL_snoc hxi]
        rfl
    · rintro H2 ⟨ed, s2⟩
      have s2 : Same H H2 := s2
      rw [lus, List.take_length] at ed
      have lf := formL_len L
      refine ⟨d, formL L, rfl, ed, formL_nodup L, ?_, by omega, fun sl nsl => ?_⟩
      · show _ < 4096
        omega
      · refine ⟨sl, _, rfl, .inl ⟨.inl (.inl upd_same), fun t nt => ?_⟩⟩
        exact q (.ref t) _ (same_new (same_new s2 nsl) nt) (.tup (SqT.of upd_same) (DpAll.strs _))
end
end K13
namespace K13
open PySem PySem.Spec PyProof.Rows L2 PK
abbrev NEq : List Str := ["self", "other"]
theorem scEq : FnScope NEq ["self", "other"] (defScope (inClass (topS 7) 7)) := ⟨rfl, rfl, rfl, by decide +kernel, rfl, by decide +kernel, by decide +kernel⟩
section
variable {P : Program} {w : World} {K : PySem.W.Frag} {mg : Str → Option Value} {base : Heap}
theorem ok_eq {f C : Addr} {fd : FuncData} {k : Nat} (F : Fun K "__eq__" "Heap.__eq__" (inClass (topS 7) 7) f fd) (T : HCls K mg C) (U : HIs K C) (hI : mg "isinstance" = none) :
    FnOk P w K mg base CX0 (k + 1) f fd ["self", "other"] (spEqH K C) := by
  refine F.ok scEq (fun vs H Q E h => ?_) (fun cdv A outer s H vs Q E hr h => ?_)
  · obtain ⟨p, q, L, M, n, b, rfl, _⟩ := h
    rfl
  · obtain ⟨p, r, L, M, n, b, rfl, hp, hq, okL, okM, q⟩ := h
    refine ⟨_, (pss_one (ps_ret (pe_and (pe_callB (k_isi K) (by rfl) hI (by decide +kernel) (pa_cons (pv 1) (pa_cons (pe_glob (v := .ref C) (by rfl) T.mg rfl) pa_nil))) (pe_one (pe_cmpR (ko_eqD K hr) (pe_fld (pv 0) rfl) (pe_fld (pv 1) rfl) (nomark _)))))), ?_⟩
    have ty := hq.ty T U
    obtain ⟨dx, t0, e1, d1⟩ := hp
    obtain ⟨dy, t1, e2, d2⟩ := hq
    refine ⟨.ref r, rfl, .ref r, .ref C, .ref C, .ref C, true, rfl, .own C, ty, kit_self K C, true, rfl, iteT ?_⟩
    refine ⟨.ref p, rfl, p, C, dx, _, _, rfl, e1, T.cl, T.nh, hf_held _, .ref r, rfl, r, C, dy, _, _, rfl, e2, T.cl, T.nh, hf_held _, rowsD L, rowsD M, d1, d2, rows_shaped okL, rows_shaped okM, ?_⟩
    rw [rows_eqv]
    exact q
end
end K13
namespace K13
open PySem PySem.Spec PyProof.Rows L2 PK
abbrev NLen : List Str := ["self"]
theorem scLen : FnScope NLen ["self"] (defScope (inClass (topS 7) 8)) := ⟨rfl, rfl, rfl, by decide +kernel, rfl, by decide +kernel, by decide +kernel⟩
section
variable {P : Program} {w : World} {K : PySem.W.Frag} {mg : Str → Option Value} {base : Heap}
theorem ok_len {f C : Addr} {fd : FuncData} {k : Nat} (F : Fun K "__len__" "Heap.__len__" (inClass (topS 7) 8) f fd) (T : HCls K mg C) (hl : mg "len" = none) :
    FnOk P w K mg base CX0 (k + 1) f fd ["self"] (spLenH K C) := by
  refine F.ok scLen (fun vs H Q E h => ?_) (fun cdv A outer s H vs Q E hr h => ?_)
  · obtain ⟨p, L, rfl, _⟩ := h
    rfl
  · obtain ⟨p, L, rfl, ⟨dx, t0, e1, d1⟩, hL, q⟩ := h
    refine ⟨_, (pss_one (ps_ret (pe_callB (k_len K) (by rfl) hl PySem.boot_len (pa_cons (pe_fld (pv 0) rfl) pa_nil)))), ?_⟩
    obtain ⟨b, us, eb, hb, du⟩ := Dp.tupE d1
    cases eb
    refine ⟨.ref p, rfl, p, C, dx, _, _, rfl, e1, T.cl, T.nh, hf_held _, t0, us, rfl, .inr hb, ?_⟩
    rw [dp_lenM du]
    exact q
end
end K13
namespace K13
open PySem PySem.Spec PyProof.Rows L2 PK
section
variable {K : PySem.W.Frag}
theorem kb_m2 {f : Addr} {fd : FuncData} (F : FunM K f fd) : KB K fd ["self", "form", "shade"] 2 [] (fun vs _ => vs ++ [.non]) :=
  kb_of F 2 [] (fun vs ds _ => vs ++ ds) (by simp) (fun r d _ => r.append d) fun T kV doc pm an cdv ct us its ws h1 h2 h3 => by
    match us, its, ws, h1, h2, h3 with
    | [a, b], [c], [], _, _, _ => exact ⟨_, rfl, rfl⟩
theorem kb_m3 {f : Addr} {fd : FuncData} (F : FunM K f fd) : KB K fd ["self", "form", "shade"] 3 [] (fun vs _ => vs) :=
  kb_of F 3 [] (fun vs _ _ => vs) (by simp) (fun r _ _ => r) fun T kV doc pm an cdv ct us its ws h1 h2 h3 => by
    match us, its, ws, h1, h2, h3 with
    | [a, b, e], [c], [], _, _, _ => exact ⟨_, rfl, rfl⟩
theorem kb_mf {f : Addr} {fd : FuncData} (F : FunM K f fd) : KB K fd ["self", "form", "shade"] 1 ["form"] (fun vs zs => vs ++ (zs ++ [.non])) :=
  kb_of F 1 ["form"] (fun vs ds zs => vs ++ (zs ++ ds)) (by simp) (fun r d z => r.append (z.append d)) fun T kV doc pm an cdv ct us its ws h1 h2 h3 => by
    match us, its, ws, h1, h2, h3 with
    | [a], [c], [e], _, _, _ => exact ⟨_, rfl, rfl⟩
theorem kb_ms {f : Addr} {fd : FuncData} (F : FunM K f fd) : KB K fd ["self", "form", "shade"] 2 ["shade"] (fun vs zs => vs ++ zs) :=
  kb_of F 2 ["shade"] (fun vs _ zs => vs ++ zs) (by simp) (fun r _ z => r.append z) fun T kV doc pm an cdv ct us its ws h1 h2 h3 => by
    match us, its, ws, h1, h2, h3 with
    | [a, b], [c], [e], _, _, _ => exact ⟨_, rfl, rfl⟩
theorem kb_msf {f : Addr} {fd : FuncData} (F : FunM K f fd) : KB K fd ["self", "form", "shade"] 1 ["shade", "form"] (fun vs zs => vs ++ zs.reverse) :=
  kb_of F 1 ["shade", "form"] (fun vs _ zs => vs ++ zs.reverse) (by simp) (fun r _ z => r.append z.reverse) fun T kV doc pm an cdv ct us its ws h1 h2 h3 => by
    match us, its, ws, h1, h2, h3 with
    | [a], [c], [e, g], _, _, _ => exact ⟨_, rfl, rfl⟩
theorem b_many3 {f : Addr} {fd : FuncData} (F : FunM K f fd) : ∃ ds, Vals ([] : List V) ds ∧ Binds K fd ["self", "form", "shade"] ds := by
  refine F.binds1 (ps := ["self", "form", "shade"]) 3 1 (by simp) rfl fun T kV doc pm an cdv ct us its h1 h2 => ?_
  match us, its, h1, h2 with
  | [a, b, c], [d], _, _ => exact ⟨_, rfl, rfl⟩
end
theorem all_mk {l : PySem.W.OpenLaw} {w : World} {K : PySem.W.Frag} {h : Heap} {mg : Str → Option Value} {fa : Addr} (X : K.In h) (G : h.Ns mainGlobals mg) (hfa : mg "law" = some (.ref fa))
    {f_feed : Addr} {od_feed an_feed : Option Addr} {sl_feed : Array (Option Value)} {oc_feed kV_feed dc_feed pm_feed cd_feed ct_feed : Value}
    (a_feed : PySem.W.nsIn K mainGlobals "_law_feed" = some (some (.ref f_feed))) (l_feed : K.lookup f_feed = some ⟨oc_feed, od_feed, .func (PySem.W.fnOf "_law_feed" "_law_feed" (defArgs (topS 9)) (defBody (topS 9)) (defScope (topS 9)) .none kV_feed dc_feed pm_feed an_feed cd_feed ct_feed), sl_feed⟩) (c_feed : PySem.W.codeIn K cd_feed "_law_feed" = true) (k_feed : PySem.W.keepIn K (.ref f_feed) = true)
    {f_draw : Addr} {od_draw an_draw : Option Addr} {sl_draw : Array (Option Value)} {oc_draw kV_draw dc_draw pm_draw cd_draw ct_draw : Value}
    (a_draw : PySem.W.nsIn K mainGlobals "_law_draw" = some (some (.ref f_draw))) (l_draw : K.lookup f_draw = some ⟨oc_draw, od_draw, .func (PySem.W.fnOf "_law_draw" "_law_draw" (defArgs (topS 10)) (defBody (topS 10)) (defScope (topS 10)) .none kV_draw dc_draw pm_draw an_draw cd_draw ct_draw), sl_draw⟩) (c_draw : PySem.W.codeIn K cd_draw "_law_draw" = true) (k_draw : PySem.W.keepIn K (.ref f_draw) = true)
    {f_names : Addr} {od_names an_names : Option Addr} {sl_names : Array (Option Value)} {oc_names kV_names dc_names pm_names cd_names ct_names : Value}
    (a_names : PySem.W.nsIn K mainGlobals "_law_names" = some (some (.ref f_names))) (l_names : K.lookup f_names = some ⟨oc_names, od_names, .func (PySem.W.fnOf "_law_names" "_law_names" (defArgs (topS 11)) (defBody (topS 11)) (defScope (topS 11)) .none kV_names dc_names pm_names an_names cd_names ct_names), sl_names⟩) (c_names : PySem.W.codeIn K cd_names "_law_names" = true) (k_names : PySem.W.keepIn K (.ref f_names) = true)
    {f_many : Addr} {od_many an_many : Option Addr} {sl_many : Array (Option Value)} {oc_many kV_many dc_many pm_many cd_many ct_many : Value}
    (a_many : PySem.W.nsIn K mainGlobals "_law_many" = some (some (.ref f_many))) (l_many : K.lookup f_many = some ⟨oc_many, od_many, .func (PySem.W.fnOf "_law_many" "_law_many" (defArgs (topS 12)) (defBody (topS 12)) (defScope (topS 12)) .none kV_many dc_many pm_many an_many cd_many ct_many), sl_many⟩) (c_many : PySem.W.codeIn K cd_many "_law_many" = true) (k_many : PySem.W.keepIn K (.ref f_many) = true)
    {f_lrows : Addr} {od_lrows an_lrows : Option Addr} {sl_lrows : Array (Option Value)} {oc_lrows kV_lrows dc_lrows pm_lrows cd_lrows ct_lrows : Value}
    (a_lrows : PySem.W.nsIn K mainGlobals "_law_rows" = some (some (.ref f_lrows))) (l_lrows : K.lookup f_lrows = some ⟨oc_lrows, od_lrows, .func (PySem.W.fnOf "_law_rows" "_law_rows" (defArgs (topS 13)) (defBody (topS 13)) (defScope (topS 13)) .none kV_lrows dc_lrows pm_lrows an_lrows cd_lrows ct_lrows), sl_lrows⟩) (c_lrows : PySem.W.codeIn K cd_lrows "_law_rows" = true) (k_lrows : PySem.W.keepIn K (.ref f_lrows) = true)
    {f_added : Addr} {od_added an_added : Option Addr} {sl_added : Array (Option Value)} {oc_added kV_added dc_added pm_added cd_added ct_added : Value}
    (a_added : PySem.W.nsIn K mainGlobals "added_rows" = some (some (.ref f_added))) (l_added : K.lookup f_added = some ⟨oc_added, od_added, .func (PySem.W.fnOf "added_rows" "added_rows" (defArgs (topS 5)) (defBody (topS 5)) (defScope (topS 5)) .none kV_added dc_added pm_added an_added cd_added ct_added), sl_added⟩) (c_added : PySem.W.codeIn K cd_added "added_rows" = true) (k_added : PySem.W.keepIn K (.ref f_added) = true)
    {f_above : Addr} {od_above an_above : Option Addr} {sl_above : Array (Option Value)} {oc_above kV_above dc_above pm_above cd_above ct_above : Value}
    (a_above : PySem.W.nsIn K mainGlobals "rows_above" = some (some (.ref f_above))) (l_above : K.lookup f_above = some ⟨oc_above, od_above, .func (PySem.W.fnOf "rows_above" "rows_above" (defArgs (topS 6)) (defBody (topS 6)) (defScope (topS 6)) .none kV_above dc_above pm_above an_above cd_above ct_above), sl_above⟩) (c_above : PySem.W.codeIn K cd_above "rows_above" = true) (k_above : PySem.W.keepIn K (.ref f_above) = true)
    {f_law : Addr} {od_law an_law : Option Addr} {sl_law : Array (Option Value)} {oc_law kV_law dc_law pm_law cd_law ct_law : Value}
    (a_law : PySem.W.nsIn K mainGlobals "law" = some (some (.ref f_law))) (l_law : K.lookup f_law = some ⟨oc_law, od_law, .func (PySem.W.fnOf "law" "law" (defArgs (topS 17)) (defBody (topS 17)) (defScope (topS 17)) .none kV_law dc_law pm_law an_law cd_law ct_law), sl_law⟩) (c_law : PySem.W.codeIn K cd_law "law" = true) (k_law : PySem.W.keepIn K (.ref f_law) = true)
    {f_lacking : Addr} {od_lacking an_lacking : Option Addr} {sl_lacking : Array (Option Value)} {oc_lacking kV_lacking dc_lacking pm_lacking cd_lacking ct_lacking : Value}
    (a_lacking : PySem.W.nsIn K mainGlobals "_law_lacking" = some (some (.ref f_lacking))) (l_lacking : K.lookup f_lacking = some ⟨oc_lacking, od_lacking, .func (PySem.W.fnOf "_law_lacking" "_law_lacking" (defArgs (topS 14)) (defBody (topS 14)) (defScope (topS 14)) .none kV_lacking dc_lacking pm_lacking an_lacking cd_lacking ct_lacking), sl_lacking⟩) (c_lacking : PySem.W.codeIn K cd_lacking "_law_lacking" = true) (k_lacking : PySem.W.keepIn K (.ref f_lacking) = true)
    {f_pair : Addr} {od_pair an_pair : Option Addr} {sl_pair : Array (Option Value)} {oc_pair kV_pair dc_pair pm_pair cd_pair ct_pair : Value}
    (a_pair : PySem.W.nsIn K mainGlobals "_law_pair_right" = some (some (.ref f_pair))) (l_pair : K.lookup f_pair = some ⟨oc_pair, od_pair, .func (PySem.W.fnOf "_law_pair_right" "_law_pair_right" (defArgs (topS 15)) (defBody (topS 15)) (defScope (topS 15)) .none kV_pair dc_pair pm_pair an_pair cd_pair ct_pair), sl_pair⟩) (c_pair : PySem.W.codeIn K cd_pair "_law_pair_right" = true) (k_pair : PySem.W.keepIn K (.ref f_pair) = true)
    {f_lackr : Addr} {od_lackr an_lackr : Option Addr} {sl_lackr : Array (Option Value)} {oc_lackr kV_lackr dc_lackr pm_lackr cd_lackr ct_lackr : Value}
    (a_lackr : PySem.W.nsIn K mainGlobals "_law_lack_right" = some (some (.ref f_lackr))) (l_lackr : K.lookup f_lackr = some ⟨oc_lackr, od_lackr, .func (PySem.W.fnOf "_law_lack_right" "_law_lack_right" (defArgs (topS 16)) (defBody (topS 16)) (defScope (topS 16)) .none kV_lackr dc_lackr pm_lackr an_lackr cd_lackr ct_lackr), sl_lackr⟩) (c_lackr : PySem.W.codeIn K cd_lackr "_law_lack_right" = true) (k_lackr : PySem.W.keepIn K (.ref f_lackr) = true)
    {C_heap : Addr} (a_heap : PySem.W.nsIn K mainGlobals "Heap" = some (some (.ref C_heap)))
    (pg_heap : PySem.W.plainGet K C_heap Str.empty = true) (hd_heap : PySem.W.hasDictIn K C_heap = true) (po_heap : PySem.W.plainOver K C_heap = true) (sa_heap : PySem.W.findIn K (.ref C_heap) "__setattr__" = some (some (.builtin "object.__setattr__"))) (mk_heap : PySem.W.makesIn K C_heap = true) (kc_heap : PySem.W.keepIn K (.ref C_heap) = true)
    (n_heap_held : PySem.W.findIn K (.ref C_heap) "held" = some none)
    {f_init : Addr} {od_init an_init : Option Addr} {sl_init : Array (Option Value)} {oc_init kV_init dc_init pm_init cd_init ct_init : Value}
    {T_init : Addr} {odT_init : Option Addr} {slT_init : Array (Option Value)} {nT_init : Nat} {ocT_init : Value}
    (a_init : PySem.W.findIn K (.ref C_heap) "__init__" = some (some (.ref f_init))) (i_init : PySem.W.isFn K (.ref f_init) = true) (l_init : K.lookup f_init = some ⟨oc_init, od_init, .func (PySem.W.fnOf "__init__" "Heap.__init__" (defArgs (inClass (topS 7) 0)) (defBody (inClass (topS 7) 0)) (defScope (inClass (topS 7) 0)) (.ref T_init) kV_init dc_init pm_init an_init cd_init ct_init), sl_init⟩) (t_init : K.lookup T_init = some ⟨ocT_init, odT_init, .seq #[.none] nT_init, slT_init⟩) (c_init : PySem.W.codeIn K cd_init "Heap.__init__" = true) (k_init : PySem.W.keepIn K (.ref f_init) = true)
    {f_rows : Addr} {od_rows an_rows : Option Addr} {sl_rows : Array (Option Value)} {oc_rows kV_rows dc_rows pm_rows cd_rows ct_rows : Value}
    (a_rows : PySem.W.findIn K (.ref C_heap) "rows" = some (some (.ref f_rows))) (i_rows : PySem.W.isFn K (.ref f_rows) = true) (l_rows : K.lookup f_rows = some ⟨oc_rows, od_rows, .func (PySem.W.fnOf "rows" "Heap.rows" (defArgs (inClass (topS 7) 1)) (defBody (inClass (topS 7) 1)) (defScope (inClass (topS 7) 1)) .none kV_rows dc_rows pm_rows an_rows cd_rows ct_rows), sl_rows⟩) (c_rows : PySem.W.codeIn K cd_rows "Heap.rows" = true) (k_rows : PySem.W.keepIn K (.ref f_rows) = true)
    {f_hmany : Addr} {od_hmany an_hmany : Option Addr} {sl_hmany : Array (Option Value)} {oc_hmany kV_hmany dc_hmany pm_hmany cd_hmany ct_hmany : Value}
    {T_hmany : Addr} {odT_hmany : Option Addr} {slT_hmany : Array (Option Value)} {nT_hmany : Nat} {ocT_hmany : Value}
    (a_hmany : PySem.W.findIn K (.ref C_heap) "many" = some (some (.ref f_hmany))) (i_hmany : PySem.W.isFn K (.ref f_hmany) = true) (l_hmany : K.lookup f_hmany = some ⟨oc_hmany, od_hmany, .func (PySem.W.fnOf "many" "Heap.many" (defArgs (inClass (topS 7) 2)) (defBody (inClass (topS 7) 2)) (defScope (inClass (topS 7) 2)) (.ref T_hmany) kV_hmany dc_hmany pm_hmany an_hmany cd_hmany ct_hmany), sl_hmany⟩) (t_hmany : K.lookup T_hmany = some ⟨ocT_hmany, odT_hmany, .seq #[.none] nT_hmany, slT_hmany⟩) (c_hmany : PySem.W.codeIn K cd_hmany "Heap.many" = true) (k_hmany : PySem.W.keepIn K (.ref f_hmany) = true)
    {f_plus : Addr} {od_plus an_plus : Option Addr} {sl_plus : Array (Option Value)} {oc_plus kV_plus dc_plus pm_plus cd_plus ct_plus : Value}
    (a_plus : PySem.W.findIn K (.ref C_heap) "plus" = some (some (.ref f_plus))) (i_plus : PySem.W.isFn K (.ref f_plus) = true) (l_plus : K.lookup f_plus = some ⟨oc_plus, od_plus, .func (PySem.W.fnOf "plus" "Heap.plus" (defArgs (inClass (topS 7) 4)) (defBody (inClass (topS 7) 4)) (defScope (inClass (topS 7) 4)) .none kV_plus dc_plus pm_plus an_plus cd_plus ct_plus), sl_plus⟩) (c_plus : PySem.W.codeIn K cd_plus "Heap.plus" = true) (k_plus : PySem.W.keepIn K (.ref f_plus) = true)
    {f_less : Addr} {od_less an_less : Option Addr} {sl_less : Array (Option Value)} {oc_less kV_less dc_less pm_less cd_less ct_less : Value}
    (a_less : PySem.W.findIn K (.ref C_heap) "less" = some (some (.ref f_less))) (i_less : PySem.W.isFn K (.ref f_less) = true) (l_less : K.lookup f_less = some ⟨oc_less, od_less, .func (PySem.W.fnOf "less" "Heap.less" (defArgs (inClass (topS 7) 5)) (defBody (inClass (topS 7) 5)) (defScope (inClass (topS 7) 5)) .none kV_less dc_less pm_less an_less cd_less ct_less), sl_less⟩) (c_less : PySem.W.codeIn K cd_less "Heap.less" = true) (k_less : PySem.W.keepIn K (.ref f_less) = true)
    {f_holds : Addr} {od_holds an_holds : Option Addr} {sl_holds : Array (Option Value)} {oc_holds kV_holds dc_holds pm_holds cd_holds ct_holds : Value}
    (a_holds : PySem.W.findIn K (.ref C_heap) "holds" = some (some (.ref f_holds))) (i_holds : PySem.W.isFn K (.ref f_holds) = true) (l_holds : K.lookup f_holds = some ⟨oc_holds, od_holds, .func (PySem.W.fnOf "holds" "Heap.holds" (defArgs (inClass (topS 7) 6)) (defBody (inClass (topS 7) 6)) (defScope (inClass (topS 7) 6)) .none kV_holds dc_holds pm_holds an_holds cd_holds ct_holds), sl_holds⟩) (c_holds : PySem.W.codeIn K cd_holds "Heap.holds" = true) (k_holds : PySem.W.keepIn K (.ref f_holds) = true)
    {f_forms : Addr} {od_forms an_forms : Option Addr} {sl_forms : Array (Option Value)} {oc_forms kV_forms dc_forms pm_forms cd_forms ct_forms : Value}
    (a_forms : PySem.W.findIn K (.ref C_heap) "forms" = some (some (.ref f_forms))) (i_forms : PySem.W.isFn K (.ref f_forms) = true) (l_forms : K.lookup f_forms = some ⟨oc_forms, od_forms, .func (PySem.W.fnOf "forms" "Heap.forms" (defArgs (inClass (topS 7) 3)) (defBody (inClass (topS 7) 3)) (defScope (inClass (topS 7) 3)) .none kV_forms dc_forms pm_forms an_forms cd_forms ct_forms), sl_forms⟩) (c_forms : PySem.W.codeIn K cd_forms "Heap.forms" = true) (k_forms : PySem.W.keepIn K (.ref f_forms) = true)
    {f_eq : Addr} {od_eq an_eq : Option Addr} {sl_eq : Array (Option Value)} {oc_eq kV_eq dc_eq pm_eq cd_eq ct_eq : Value}
    (a_eq : PySem.W.findIn K (.ref C_heap) "__eq__" = some (some (.ref f_eq))) (i_eq : PySem.W.isFn K (.ref f_eq) = true) (l_eq : K.lookup f_eq = some ⟨oc_eq, od_eq, .func (PySem.W.fnOf "__eq__" "Heap.__eq__" (defArgs (inClass (topS 7) 7)) (defBody (inClass (topS 7) 7)) (defScope (inClass (topS 7) 7)) .none kV_eq dc_eq pm_eq an_eq cd_eq ct_eq), sl_eq⟩) (c_eq : PySem.W.codeIn K cd_eq "Heap.__eq__" = true) (k_eq : PySem.W.keepIn K (.ref f_eq) = true)
    {f_len : Addr} {od_len an_len : Option Addr} {sl_len : Array (Option Value)} {oc_len kV_len dc_len pm_len cd_len ct_len : Value}
    (a_len : PySem.W.findIn K (.ref C_heap) "__len__" = some (some (.ref f_len))) (i_len : PySem.W.isFn K (.ref f_len) = true) (l_len : K.lookup f_len = some ⟨oc_len, od_len, .func (PySem.W.fnOf "__len__" "Heap.__len__" (defArgs (inClass (topS 7) 8)) (defBody (inClass (topS 7) 8)) (defScope (inClass (topS 7) 8)) .none kV_len dc_len pm_len an_len cd_len ct_len), sl_len⟩) (c_len : PySem.W.codeIn K cd_len "Heap.__len__" = true) (k_len : PySem.W.keepIn K (.ref f_len) = true)
    (z_len : PySem.W.nsIn K mainGlobals "len" = some none)
    (z_list : PySem.W.nsIn K mainGlobals "list" = some none)
    (z_range : PySem.W.nsIn K mainGlobals "range" = some none)
    (z_tuple : PySem.W.nsIn K mainGlobals "tuple" = some none)
    (z_sorted : PySem.W.nsIn K mainGlobals "sorted" = some none)
    (z_repr : PySem.W.nsIn K mainGlobals "repr" = some none)
    (z_sum : PySem.W.nsIn K mainGlobals "sum" = some none)
    (z_isinstance : PySem.W.nsIn K mainGlobals "isinstance" = some none)
    (z_set : PySem.W.nsIn K mainGlobals "set" = some none)
    (z_super : PySem.W.nsIn K mainGlobals "super" = some none)
    (ca_heap : PySem.W.findIn K (.ref C_heap) "__class__" = some (some (.builtin "object.__class__"))) (cg_heap : PySem.W.specialIn K (.builtin "object.__class__") "__get__" = some (some (.builtin "getset_descriptor.__get__"))) (ct_heap : PySem.W.takesIn K (.builtin "object.__class__") = some true) (cm_heap : PySem.W.mroIn K C_heap (.type "object") = some true)
    (ne_heap : PySem.W.findIn K (.ref C_heap) "__ne__" = some (some (.builtin "object.__ne__"))) (ob_heap : PySem.W.subIn K (.ref C_heap) (.type "object") = some true)
    {C_np : Addr} (a_np : PySem.W.nsIn K mainGlobals "NoParts" = some (some (.ref C_np)))
    {nm_np q_np : Str} {N_np : Addr} {bs_np bm_np : List Value} {sn_np : List Str} {sub_np : List Value} {ab_np : Bool} {col_np : Option Bool} {dd_np : Option Addr} {m0_np m1_np m2_np m3_np m5_np : Option Value}
    (x_np : K.lookup C_np = some (excClassObj nm_np q_np C_np N_np bs_np bm_np true sn_np sub_np ab_np col_np dd_np m0_np m1_np m2_np m3_np m5_np "ValueError.__new__")) (rv_np : PySem.HandSPX.refsVE bm_np = true)
    (sa_np : PySem.W.findIn K (.ref C_np) "__setattr__" = some (some (.builtin "object.__setattr__"))) (ex_np : PySem.W.subIn K (.ref C_np) (.type "BaseException") = some true) (ty_np : PySem.W.typeIn K (.ref C_np) = some (.type "type")) (kc_np : PySem.W.keepIn K (.ref C_np) = true)
    {cd_np : ClassData} (cl_np : PySem.W.clsIn K C_np = some cd_np) (ms_np : PySem.W.mroIn K C_np (.ref C_np) = some true) (mv_np : PySem.W.mroIn K C_np (.type "ValueError") = some true) (up_np : PySem.W.ks_superIn K C_np C_np "__init__" = some (some (.builtin "ValueError.__init__"))) (th_np : PySem.W.nsIn K cStatics "thirdparty.any" = some none)
    (ga_np : PySem.W.findIn K (.ref C_np) "__getattribute__" = some (some (.builtin "BaseException.__getattribute__"))) (gg_np : PySem.W.findIn K (.ref C_np) "__getattr__" = some none) (hd_np : PySem.W.hasDictIn K C_np = true) (nf_np : PySem.W.findIn K (.ref C_np) "lacking" = some none)
    {f_np : Addr} (i_np : PySem.W.findIn K (.ref C_np) "__init__" = some (some (.ref f_np))) (t_np : PySem.W.typeIn K (.ref f_np) = some (.type "function"))
    {oc_np kV_np dc_np pm_np ct_np : Value} {od_np an_np : Option Addr} {sl_np : Array (Option Value)} {cda_np cc_np : Addr}
    (l_np : K.lookup f_np = some ⟨oc_np, od_np, .func (PySem.W.fnX "__init__" "NoParts.__init__" (defArgs (inClass (topS 3) 0)) (defBody (inClass (topS 3) 0)) (defScope (inClass (topS 3) 0)) [("__class__", cc_np)] .none kV_np dc_np pm_np an_np (.ref cda_np) ct_np), sl_np⟩) (c_np : PySem.W.codeIn K (.ref cda_np) "NoParts.__init__" = true)
    {ccl_np cl2_np : Value} {cdd_np cld_np : Option Addr} {vs_np : Array Value} {ccs_np csl_np : Array (Option Value)} {file_np : Str} {tf_np : Tok}
    (lc_np : K.lookup cda_np = some ⟨ccl_np, cdd_np, .fields vs_np, ccs_np⟩) (v2_np : vs_np[2]? = some (.str file_np tf_np)) (fi_np : ((l.prog.main.file : Str) == file_np) = true) (lk_np : K.lookup cc_np = some ⟨cl2_np, cld_np, .cell (some (.ref C_np)), csl_np⟩) (tp_np : (l.prog.main.scope.names.lookup ("super" : Str)).isSome = false)
    (ss_np : PySem.W.subIn K (.ref C_np) (.ref C_np) = some true)
    : ∃ fd : FuncData, (∀ (s : Shared) (v : Value), BindsTo s fd ⟨[v], []⟩ [("_law_script", v)]) ∧ ∀ base : Heap, K.In base → base.Ns mainGlobals mg → FnG l.prog w K mg base CX0 7 fa fd ["_law_script"] (spLaw K) := by
  have e := hfa.symm.trans (PySem.W.mg_of X G a_law)
  cases e
  have F_feed := fun_mk (st := topS 9) l_feed c_feed k_feed
  have g_feed := PySem.W.mg_of X G a_feed
  have b_feed := F_feed.binds (ps := ["_law_script"]) fun _ _ _ _ _ _ us hl => match us, hl with | [_], _ => rfl
  have F_draw := fun_mk (st := topS 10) l_draw c_draw k_draw
  have g_draw := PySem.W.mg_of X G a_draw
  have b_draw := F_draw.binds (ps := ["_law_feed_here", "_law_many_here"]) fun _ _ _ _ _ _ us hl => match us, hl with | [_, _], _ => rfl
  have F_names := fun_mk (st := topS 11) l_names c_names k_names
  have g_names := PySem.W.mg_of X G a_names
  have b_names := F_names.binds (ps := ["_law_feed_here", "_law_many_here"]) fun _ _ _ _ _ _ us hl => match us, hl with | [_, _], _ => rfl
  have F_many := fun_mk (st := topS 12) l_many c_many k_many
  have g_many := PySem.W.mg_of X G a_many
  have b_many := F_many.binds (ps := ["_law_feed_here"]) fun _ _ _ _ _ _ us hl => match us, hl with | [_], _ => rfl
  have F_lrows := fun_mk (st := topS 13) l_lrows c_lrows k_lrows
  have g_lrows := PySem.W.mg_of X G a_lrows
  have b_lrows := F_lrows.binds (ps := ["_law_feed_here", "_law_forms", "_law_shades", "_law_most_now"]) fun _ _ _ _ _ _ us hl => match us, hl with | [_, _, _, _], _ => rfl
  have F_added := fun_mk (st := topS 5) l_added c_added k_added
  have g_added := PySem.W.mg_of X G a_added
  have b_added := F_added.binds (ps := ["rows"]) fun _ _ _ _ _ _ us hl => match us, hl with | [_], _ => rfl
  have F_above := fun_mk (st := topS 6) l_above c_above k_above
  have g_above := PySem.W.mg_of X G a_above
  have b_above := F_above.binds (ps := ["heap", "other"]) fun _ _ _ _ _ _ us hl => match us, hl with | [_, _], _ => rfl
  have F_law := fun_mk (st := topS 17) l_law c_law k_law
  have g_law := PySem.W.mg_of X G a_law
  have F_lacking := fun_mk (st := topS 14) l_lacking c_lacking k_lacking
  have g_lacking := PySem.W.mg_of X G a_lacking
  have b_lacking := F_lacking.binds (ps := ["_law_one", "_law_other"]) fun _ _ _ _ _ _ us hl => match us, hl with | [_, _], _ => rfl
  have F_pair := fun_mk (st := topS 15) l_pair c_pair k_pair
  have g_pair := PySem.W.mg_of X G a_pair
  have b_pair := F_pair.binds (ps := ["_law_one", "_law_other"]) fun _ _ _ _ _ _ us hl => match us, hl with | [_, _], _ => rfl
  have F_lackr := fun_mk (st := topS 16) l_lackr c_lackr k_lackr
  have g_lackr := PySem.W.mg_of X G a_lackr
  have b_lackr := F_lackr.binds (ps := ["_law_one", "_law_other"]) fun _ _ _ _ _ _ us hl => match us, hl with | [_, _], _ => rfl
  have g_heap := PySem.W.mg_of X G a_heap
  have cl_heap : Cls K C_heap := ⟨pg_heap, hd_heap, po_heap, sa_heap⟩
  have F_init : FunD K "__init__" "Heap.__init__" (defArgs (inClass (topS 7) 0)) (defBody (inClass (topS 7) 0)) (defScope (inClass (topS 7) 0)) [.non] [] f_init _ := fund_mk (its := [.none]) l_init c_init k_init t_init rfl (.cons rfl .nil) (by simp)
  have m_init : Meth K C_heap "__init__" f_init := ⟨a_init, i_init, k_init⟩
  have F_rows := fun_mk (st := inClass (topS 7) 1) l_rows c_rows k_rows
  have b_rows := F_rows.binds (ps := ["self"]) fun _ _ _ _ _ _ us hl => match us, hl with | [_], _ => rfl
  have m_rows : Meth K C_heap "rows" f_rows := ⟨a_rows, i_rows, k_rows⟩
  have F_hmany : FunD K "many" "Heap.many" (defArgs (inClass (topS 7) 2)) (defBody (inClass (topS 7) 2)) (defScope (inClass (topS 7) 2)) [.non] [] f_hmany _ := fund_mk (its := [.none]) l_hmany c_hmany k_hmany t_hmany rfl (.cons rfl .nil) (by simp)
  have m_hmany : Meth K C_heap "many" f_hmany := ⟨a_hmany, i_hmany, k_hmany⟩
  have F_plus := fun_mk (st := inClass (topS 7) 4) l_plus c_plus k_plus
  have b_plus := F_plus.binds (ps := ["self", "other"]) fun _ _ _ _ _ _ us hl => match us, hl with | [_, _], _ => rfl
  have m_plus : Meth K C_heap "plus" f_plus := ⟨a_plus, i_plus, k_plus⟩
  have F_less := fun_mk (st := inClass (topS 7) 5) l_less c_less k_less
  have b_less := F_less.binds (ps := ["self", "other"]) fun _ _ _ _ _ _ us hl => match us, hl with | [_, _], _ => rfl
  have m_less : Meth K C_heap "less" f_less := ⟨a_less, i_less, k_less⟩
  have F_holds := fun_mk (st := inClass (topS 7) 6) l_holds c_holds k_holds
  have b_holds := F_holds.binds (ps := ["self", "other"]) fun _ _ _ _ _ _ us hl => match us, hl with | [_, _], _ => rfl
  have m_holds : Meth K C_heap "holds" f_holds := ⟨a_holds, i_holds, k_holds⟩
  have F_forms := fun_mk (st := inClass (topS 7) 3) l_forms c_forms k_forms
  have b_forms := F_forms.binds (ps := ["self"]) fun _ _ _ _ _ _ us hl => match us, hl with | [_], _ => rfl
  have m_forms : Meth K C_heap "forms" f_forms := ⟨a_forms, i_forms, k_forms⟩
  have F_eq := fun_mk (st := inClass (topS 7) 7) l_eq c_eq k_eq
  have b_eq := F_eq.binds (ps := ["self", "other"]) fun _ _ _ _ _ _ us hl => match us, hl with | [_, _], _ => rfl
  have m_eq : Meth K C_heap "__eq__" f_eq := ⟨a_eq, i_eq, k_eq⟩
  have F_len := fun_mk (st := inClass (topS 7) 8) l_len c_len k_len
  have b_len := F_len.binds (ps := ["self"]) fun _ _ _ _ _ _ us hl => match us, hl with | [_], _ => rfl
  have m_len : Meth K C_heap "__len__" f_len := ⟨a_len, i_len, k_len⟩
  have m_len := PySem.W.mg_none_of X G z_len
  have m_list := PySem.W.mg_none_of X G z_list
  have m_range := PySem.W.mg_none_of X G z_range
  have m_tuple := PySem.W.mg_none_of X G z_tuple
  have m_sorted := PySem.W.mg_none_of X G z_sorted
  have m_repr := PySem.W.mg_none_of X G z_repr
  have m_sum := PySem.W.mg_none_of X G z_sum
  have m_isinstance := PySem.W.mg_none_of X G z_isinstance
  have m_set := PySem.W.mg_none_of X G z_set
  have m_super := PySem.W.mg_none_of X G z_super
  have Hi : HIs K C_heap := ⟨ca_heap, cg_heap, ct_heap, cm_heap⟩
  have g_np := PySem.W.mg_of X G a_np
  have E_np : OexC K C_np := ⟨⟨_, _, _, _, _, _, _, _, _, _, _, _, _, _, _, x_np, rv_np⟩, sa_np, ex_np, ty_np, kc_np⟩
  have U_np : SupC K mg C_np := ⟨E_np, ⟨_, cl_np⟩, ms_np, mv_np, up_np, th_np, m_super⟩
  have FS_np : FunS l.prog K "__init__" "NoParts.__init__" (inClass (topS 3) 0) C_np f_np _ := ⟨⟨_, _, _, _, _, _, _, _, _, _, _, _, _, _, _, _, _, _, _, rfl, l_np, c_np, lc_np, v2_np, fi_np, lk_np⟩, tp_np⟩
  have b_np : Binds K (PySem.W.fnX "__init__" "NoParts.__init__" (defArgs (inClass (topS 3) 0)) (defBody (inClass (topS 3) 0)) (defScope (inClass (topS 3) 0)) [("__class__", cc_np)] .none kV_np dc_np pm_np an_np (.ref cda_np) ct_np) ["self", "lacking"] [] := fun s us _ hl => match us, hl with | [_, _], _ => .of_eq rfl
  have xf_np : XfC K C_np := ⟨ga_np, gg_np, ex_np, hd_np⟩
  refine ⟨PySem.W.fnOf "law" "law" (defArgs (topS 17)) (defBody (topS 17)) (defScope (topS 17)) .none kV_law dc_law pm_law an_law cd_law ct_law, fun s v => .of_eq rfl, fun base _ _ => ?_⟩
  have Fe : Cal l.prog w K mg base 1 "_law_feed" f_feed _ ["_law_script"] (spFeed K) := ⟨ok_feed F_feed m_list, g_feed, k_feed, b_feed⟩
  have D : Cal l.prog w K mg base 1 "_law_draw" f_draw _ ["_law_feed_here", "_law_many_here"] spDraw := ⟨ok_draw F_draw m_len, g_draw, k_draw, b_draw⟩
  have Nm : Cal l.prog w K mg base 2 "_law_names" f_names _ ["_law_feed_here", "_law_many_here"] spNames := ⟨ok_names F_names D m_len m_range, g_names, k_names, b_names⟩
  have Mn : Cal l.prog w K mg base 2 "_law_many" f_many _ ["_law_feed_here"] spMany := ⟨ok_many F_many D, g_many, k_many, b_many⟩
  have Lr : Cal l.prog w K mg base 3 "_law_rows" f_lrows _ ["_law_feed_here", "_law_forms", "_law_shades", "_law_most_now"] (spLRows K) := ⟨ok_lrows F_lrows D Mn m_range m_tuple m_len, g_lrows, k_lrows, b_lrows⟩
  have Ad : Cal l.prog w K mg base 1 "added_rows" f_added _ ["rows"] (spAdded K) := ⟨ok_added F_added m_tuple m_sorted, g_added, k_added, b_added⟩
  have Hc : HCls K mg C_heap := ⟨cl_heap, n_heap_held, g_heap⟩
  have Hm : HMk l.prog w K mg base 2 C_heap f_init _ := ⟨Hc, ⟨mk_heap, a_init, i_init, kc_heap⟩, ok_init F_init Hc Ad, b_init0 F_init, kb_init2 F_init, kb_initK F_init⟩
  have Rw : MCal l.prog w K mg base 1 C_heap "rows" f_rows _ ["self"] (spRows K C_heap) := ⟨ok_rows F_rows Hc m_tuple, m_rows, b_rows⟩
  have okM := ok_manym (P := l.prog) (w := w) (base := base) (k := 0) F_hmany Hc m_sum
  have Mm : MMn l.prog w K mg base 1 C_heap f_hmany _ := ⟨okM, m_hmany, kb_m2 F_hmany, kb_m3 F_hmany, kb_mf F_hmany, kb_ms F_hmany, kb_msf F_hmany⟩
  have M3 : MMany l.prog w K mg base 1 C_heap f_hmany _ := ⟨okM, m_hmany, b_many3 F_hmany⟩
  have Ab : Cal l.prog w K mg base 2 "rows_above" f_above _ ["heap", "other"] (spAbove K C_heap) := ⟨ok_above F_above Hc Rw M3 m_tuple, g_above, k_above, b_above⟩
  have Pl : MCal l.prog w K mg base 4 C_heap "plus" f_plus _ ["self", "other"] (spPlus K C_heap) := ⟨ok_plus F_plus Hc Hm, m_plus, b_plus⟩
  have Ho : MCal l.prog w K mg base 3 C_heap "holds" f_holds _ ["self", "other"] (spHolds K C_heap) := ⟨ok_holds F_holds Ab, m_holds, b_holds⟩
  have Er := ok_NoParts (w := w) (mg := mg) (base := base) (k := 0) FS_np U_np nf_np
  have Ls : MLess l.prog w K mg base C_heap C_np f_less _ := ⟨ok_less F_less Ab Hm U_np i_np t_np Er b_np g_np, m_less, b_less⟩
  have Fo : MCal l.prog w K mg base 1 C_heap "forms" f_forms _ ["self"] (spForms K C_heap) := ⟨ok_forms F_forms Hc m_tuple m_sorted, m_forms, b_forms⟩
  have Eq : HSp l.prog w K mg base 1 C_heap "__eq__" f_eq _ ["self", "other"] (spEqH K C_heap) := ⟨ok_eq F_eq Hc Hi m_isinstance, a_eq, i_eq, b_eq⟩
  have Ln : HSp l.prog w K mg base 1 C_heap "__len__" f_len _ ["self"] (spLenH K C_heap) := ⟨ok_len F_len Hc m_len, a_len, i_len, b_len⟩
  have Ec : ErrC K mg C_np "NoParts" C_np := ⟨g_np, PySem.W.exm_ref ex_np hd_np ty_np ss_np, xf_np, nf_np⟩
  have Lk : Cal l.prog w K mg base 5 "_law_lacking" f_lacking _ ["_law_one", "_law_other"] (spLacking K C_heap) := ⟨ok_lacking F_lacking Hc Ls Ec, g_lacking, k_lacking, b_lacking⟩
  have Pr : Cal l.prog w K mg base 6 "_law_pair_right" f_pair _ ["_law_one", "_law_other"] (spPair K C_heap) := ⟨ok_pair F_pair Hc Pl Ls Ho Fo Rw Mm Hm Eq ne_heap ob_heap Lk m_tuple m_sorted m_set, g_pair, k_pair, b_pair⟩
  have Lr2 : Cal l.prog w K mg base 6 "_law_lack_right" f_lackr _ ["_law_one", "_law_other"] (spPair K C_heap) := ⟨ok_lackr F_lackr Hc Pl Ls Ho Fo Rw Mm Hm Eq ne_heap ob_heap Lk Ln m_len, g_lackr, k_lackr, b_lackr⟩
  exact ok_law F_law Fe D Nm Lr Hc Pl Ls Ho Fo Rw Mm Hm Eq ne_heap ob_heap Pr Lr2 m_range m_repr
end K13

open PySem PySem.W PyProof.Rows
set_option maxHeartbeats 0 in
theorem PySem.Challenge.cw_partkits_k13_whole_less_and_back_holds : PySem.Challenge.rw_partkits_k13_whole_less_and_back.Holds := by
  w_on; o_law; k_head; (case hw => w_witness2)
  k_fill
  refine PK.walk_ofG (l := PySem.Challenge.rw_partkits_k13_whole_less_and_back) (n := 63) (k := 7) (x := "_law_script") (sp := fun w => K13.spLaw _) rfl (by decide) rfl ⟨rfl, by decide, by decide⟩ (fun w h Y => PySem.W.kIn_of Y) ?F (fun _ _ a ns hl _ hS => ⟨a, ns, rfl, hS, fun _ => rfl⟩)
  case F =>
    intro w mg fa h KX G hmg
    refine' K13.all_mk KX G hmg ?a_feed ?l_feed ?c_feed ?k_feed ?a_draw ?l_draw ?c_draw ?k_draw ?a_names ?l_names ?c_names ?k_names ?a_many ?l_many ?c_many ?k_many ?a_lrows ?l_lrows ?c_lrows ?k_lrows ?a_added ?l_added ?c_added ?k_added ?a_above ?l_above ?c_above ?k_above ?a_law ?l_law ?c_law ?k_law ?a_lacking ?l_lacking ?c_lacking ?k_lacking ?a_pair ?l_pair ?c_pair ?k_pair ?a_lackr ?l_lackr ?c_lackr ?k_lackr ?a_heap ?pg_heap ?hd_heap ?po_heap ?sa_heap ?mk_heap ?kc_heap ?n_heap_held ?a_init ?i_init ?l_init ?t_init ?c_init ?k_init ?a_rows ?i_rows ?l_rows ?c_rows ?k_rows ?a_hmany ?i_hmany ?l_hmany ?t_hmany ?c_hmany ?k_hmany ?a_plus ?i_plus ?l_plus ?c_plus ?k_plus ?a_less ?i_less ?l_less ?c_less ?k_less ?a_holds ?i_holds ?l_holds ?c_holds ?k_holds ?a_forms ?i_forms ?l_forms ?c_forms ?k_forms ?a_eq ?i_eq ?l_eq ?c_eq ?k_eq ?a_len ?i_len ?l_len ?c_len ?k_len ?z_len ?z_list ?z_range ?z_tuple ?z_sorted ?z_repr ?z_sum ?z_isinstance ?z_set ?z_super ?ca_heap ?cg_heap ?ct_heap ?cm_heap ?ne_heap ?ob_heap ?a_np ?x_np ?rv_np ?sa_np ?ex_np ?ty_np ?kc_np ?cl_np ?ms_np ?mv_np ?up_np ?th_np ?ga_np ?gg_np ?hd_np ?nf_np ?i_np ?t_np ?l_np ?c_np ?lc_np ?v2_np ?fi_np ?lk_np ?tp_np ?ss_np
    (case a_feed => k_is)
    (case l_feed => k_is)
    (case c_feed => k_is)
    (case k_feed => k_is)
    (case a_draw => k_is)
    (case l_draw => k_is)
    (case c_draw => k_is)
    (case k_draw => k_is)
    (case a_names => k_is)
    (case l_names => k_is)
    (case c_names => k_is)
    (case k_names => k_is)
    (case a_many => k_is)
    (case l_many => k_is)
    (case c_many => k_is)
    (case k_many => k_is)
    (case a_lrows => k_is)
    (case l_lrows => k_is)
    (case c_lrows => k_is)
    (case k_lrows => k_is)
    (case a_added => k_is)
    (case l_added => k_is)
    (case c_added => k_is)
    (case k_added => k_is)
    (case a_above => k_is)
    (case l_above => k_is)
    (case c_above => k_is)
    (case k_above => k_is)
    (case a_law => k_is)
    (case l_law => k_is)
    (case c_law => k_is)
    (case k_law => k_is)
    (case a_lacking => k_is)
    (case l_lacking => k_is)
    (case c_lacking => k_is)
    (case k_lacking => k_is)
    (case a_pair => k_is)
    (case l_pair => k_is)
    (case c_pair => k_is)
    (case k_pair => k_is)
    (case a_lackr => k_is)
    (case l_lackr => k_is)
    (case c_lackr => k_is)
    (case k_lackr => k_is)
    (case a_heap => k_is)
    (case pg_heap => k_is)
    (case hd_heap => k_is)
    (case po_heap => k_is)
    (case sa_heap => k_is)
    (case mk_heap => k_is)
    (case kc_heap => k_is)
    (case n_heap_held => k_is)
    (case a_init => k_is)
    (case i_init => k_is)
    (case l_init => k_is)
    (case t_init => k_is)
    (case c_init => k_is)
    (case k_init => k_is)
    (case a_rows => k_is)
    (case i_rows => k_is)
    (case l_rows => k_is)
    (case c_rows => k_is)
    (case k_rows => k_is)
    (case a_hmany => k_is)
    (case i_hmany => k_is)
    (case l_hmany => k_is)
    (case t_hmany => k_is)
    (case c_hmany => k_is)
    (case k_hmany => k_is)
    (case a_plus => k_is)
    (case i_plus => k_is)
    (case l_plus => k_is)
    (case c_plus => k_is)
    (case k_plus => k_is)
    (case a_less => k_is)
    (case i_less => k_is)
    (case l_less => k_is)
    (case c_less => k_is)
    (case k_less => k_is)
    (case a_holds => k_is)
    (case i_holds => k_is)
    (case l_holds => k_is)
    (case c_holds => k_is)
    (case k_holds => k_is)
    (case a_forms => k_is)
    (case i_forms => k_is)
    (case l_forms => k_is)
    (case c_forms => k_is)
    (case k_forms => k_is)
    (case a_eq => k_is)
    (case i_eq => k_is)
    (case l_eq => k_is)
    (case c_eq => k_is)
    (case k_eq => k_is)
    (case a_len => k_is)
    (case i_len => k_is)
    (case l_len => k_is)
    (case c_len => k_is)
    (case k_len => k_is)
    (case z_len => k_is)
    (case z_list => k_is)
    (case z_range => k_is)
    (case z_tuple => k_is)
    (case z_sorted => k_is)
    (case z_repr => k_is)
    (case z_sum => k_is)
    (case z_isinstance => k_is)
    (case z_set => k_is)
    (case z_super => k_is)
    (case ca_heap => k_is)
    (case cg_heap => k_is)
    (case ct_heap => k_is)
    (case cm_heap => k_is)
    (case ne_heap => k_is)
    (case ob_heap => k_is)
    (case a_np => k_is)
    (case x_np => k_is)
    (case rv_np => decide +kernel)
    (case sa_np => k_is)
    (case ex_np => k_is)
    (case ty_np => k_is)
    (case kc_np => k_is)
    (case cl_np => k_is)
    (case ms_np => k_is)
    (case mv_np => k_is)
    (case up_np => ks_is)
    (case th_np => k_is)
    (case ga_np => k_is)
    (case gg_np => k_is)
    (case hd_np => k_is)
    (case nf_np => k_is)
    (case i_np => k_is)
    (case t_np => k_is)
    (case l_np => k_is)
    (case c_np => k_is)
    (case lc_np => k_is)
    (case v2_np => first | rfl | k_is)
    (case fi_np => decide +kernel)
    (case lk_np => k_is)
    (case tp_np => decide +kernel)
    (case ss_np => first | rfl | k_is)
