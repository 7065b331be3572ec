import PyProof.Rows.All
import Wide.All
import OpenK.AllK
import Wide.FinOn
import PyProof.EqAt
import PyProof.EqKinds
import PyProof.TupleCall
import PyProof.ReprRoads
import HandS.ForMost
import HandS.Walk
import HandS.TupAny
import HandS.TupMul
import HandS.Zip
import HandS.Defaults
import HandS.Style
import HandS.Evl
import HandS.FStrTup
import HandS.Conv
import HandS.More
import HandS.Set
import KE.DatumOrd
import KE.SortData
import HandS.MakeKwOnly
import HandS.ExcInit
import HandS.ExcSuper
import KE.KExcSuper
import HandS.WordsExc
import HandS.CallSlots
import HandS.ExcField
import HandS.ExcIs
import HandS.SetTxt0
import HandS.SetBool
import HandS.Comp
import HandS.Codes
import HandS.Deep
import HandS.IsInst
import PyProof.InstNe
import OpenK.KOps
import PyProof.Rows.IntBool
import HandS.SetFor
import HandS.Text
import KE.KCallOwn
import HandS.FStr
import PyProof.FitsInt
import KE.RegKSuper
import PySem.Challenge.RW_partkits_k17_heaps_by_turns
set_option Elab.async false
set_option linter.all false
set_option maxRecDepth 100000
set_option maxHeartbeats 4000000
namespace PK
open PySem PySem.Spec PyProof.Rows L2

/-! ### defs that show things: called where nothing is being shown -/
structure FnG (P : Program) (w : World) (K : PySem.W.Frag) (mg : Str → Option Value) (base : Heap) (CX : CXT)
    (k : Nat) (f : Addr) (fd : FuncData) (ps : List Str) (sp : Sp) : Prop where
  len : ∀ vs H Q E, sp vs H Q E → vs.length = ps.length
  go : ∀ {A : Around} {outer : List Env} {s : Shared} {H : Hp} {args : Args} {us : List Value} {vs : List V} {Q : VK} {E : XK},
    A.guards = some [] → Room k A → Env0 P w K mg base A outer s H → BindsTo s fd args (ps.zip us) → Vals vs us →
    sp vs H Q E → codeAny (model P w) A (.call (.ref f) args) (CR CX outer P w H s Q E) s
theorem FnG.of {P : Program} {w : World} {K : PySem.W.Frag} {mg : Str → Option Value} {base : Heap} {CX : CXT}
    {k : Nat} {f : Addr} {fd : FuncData} {ps : List Str} {sp : Sp} (F : FnOk P w K mg base CX k f fd ps sp) :
    FnG P w K mg base CX k f fd ps sp :=
  ⟨F.len, fun _ hr e0 hb hv hs => F.run _ _ _ _ _ _ _ _ _ hr e0 hb hv hs⟩

/-- the def's promise from its body, the body read where nothing is being shown -/
theorem fnG_of {CX : CXT} {P : Program} {w : World} {K : PySem.W.Frag} {mg : Str → Option Value} {base : Heap} {k : Nat} {f : Addr} {fd : FuncData}
    {x qual : Str} {st : Stmt} {N ps : List Str} {sp : Sp} (F : Fun K x qual st f fd) (S : FnScope N ps (defScope st))
    (len : ∀ vs H Q E, sp vs H Q E → vs.length = ps.length)
    (hbody : ∀ (cdv : Value) (A : Around) (outer : List Env) (s : Shared) (H : Hp) (vs : List V) (Q : VK) (E : XK), A.guards = some [] →
      Room k (A.deeper (envOfC qual (defScope st) s.heap.objs.size f cdv)) → sp vs H Q E →
      ∃ t, PSs (cxOf CX P w K mg base N qual (defScope st) f cdv A outer s H E) (defBody st) t ∧
        t { nx := fun _ H' => Q .non H', rt := Q } (start N vs) H) : FnG P w K mg base CX (k + 1) f fd ps sp := by
  obtain ⟨oc, od, kV, doc, pm, an, cdv, ct, osl, rfl, lk, hcd⟩ := F.ex
  refine ⟨len, fun {A outer s H args us vs Q E} hgd hr e0 hb hv hsp => ?_⟩
  have kept : ∀ b o, base.get? b = some o → s.heap.get? b = some o := fun b o e => (e0.bs b o e).1
  have KX := e0.mod.kin.keeps kept
  have noLim := e0.mod.nolimit.keeps kept
  refine codeAny_call_function hr.depth (KX _ _ lk) rfl S.co S.gen rfl (PySem.W.codeRec_of KX hcd) (hb _ _ _ _ ?_)
  refine wpAny_newFunctionEnv_cells S.kind (fun y hy => ?_) fun env he s1 hx => ?_
  · rcases S.par y.1 (List.of_mem_zip (show (y.1, y.2) ∈ ps.zip us from hy)).1 with q | q
    · exact Or.inl q
    · exact Or.inr ⟨q, PySem.W.cellsFrom_some _ _ _ (Or.inl q)⟩
  cases he
  refine ⟨noLim.keeps hx.toInCall.keep, codeAny_func ?_⟩
  obtain ⟨t, ht, hq⟩ := hbody cdv A outer s H vs Q E hgd (hr.deeper _) hsp
  have I := inv_start (CX := CX) (N := N) (E := E) S hr.hd e0 (len _ _ _ _ hsp) hv hx
  refine wpAny_mono (ht.run [] s1 _ H _ I hq) (fun fl s' hs => ?_) (fun _ _ h => h)
  cases fl with
  | ret u =>
    obtain ⟨v, σ', H', J, rv, q⟩ := hs
    exact ⟨v, H', J.os, J.bare, J.base, J.hok, rv, q⟩
  | next =>
    obtain ⟨σ', H', J, q⟩ := hs
    exact ⟨V.non, H', J.os, J.bare, J.base, J.hok, rfl, q⟩
  | brk => exact hs.elim fun _ h => h.elim fun _ h => h.2.elim
  | cont => exact hs.elim fun _ h => h.elim fun _ h => h.2.elim

section
variable {X : Cx} {CX : CXT} {k : Nat} {f : Addr} {fd : FuncData} {ps : List Str} {sp : Sp} {dvs : List V} {ds : List Value} {E : XK}
  {x : Str} {p pos : Pos} {e : Expr} {es : List Expr} {t : TA}
theorem pe_callG (F : FnG X.prog X.w X.K X.mg X.base CX k f fd ps sp) (hgd : X.A.guards = some []) (hr : Room k X.A) (hg : Gl X x)
    (hm : X.mg x = some (.ref f)) (hk : PySem.W.keepIn X.K (.ref f) = true) (hb : Binds X.K fd ps ds) (hd : Vals dvs ds) (hx : Passes CX X E)
    (ha : PA X (e :: es) t) (hdb : (x == ("__debug__" : Str)) = false := by decide)
    (he : starEach (e :: es) X.env = (false, eval e X.env) :: starEach es X.env := by rfl)
    (hpl : (backTo pos (starEach es X.env)).any (·.1) = false := by rfl) :
    PE X (.Call (.Name x p) (e :: es) [] pos) (tCall sp dvs E t) := by
  refine ⟨fun pins s σ H Q I h => wpAny_Call_Name_kw (ld_glob I hg hm ?_ hdb)⟩
  refine PySem.W.callWith_K (h₀ := X.base) I.ok.mod.kin hk (thn (ha.run pos pins s σ H _ I h) ?_) he hpl
  rintro us s1 ⟨vs, H1, J, r, q⟩
  refine ⟨J.kIn, ?_⟩
  have r2 : Vals (vs ++ dvs) (us ++ ds) := r.append hd
  have hl : (us ++ ds).length = ps.length := r2.length.symm.trans (F.len _ _ _ _ q)
  refine wpAny_call (codeAny_mono (F.go hgd hr J.env0 (hb s1 us J.kIn hl) r2 q) ?_)
  intro res s2 hq
  match res, hq with
  | .error er, hq => exact hx pins σ H1 s1 er s2 J hq
  | .ok (.ret u), hq => exact J.after hq
  | .ok .next, hq => exact hq.elim
  | .ok .brk, hq => exact hq.elim
  | .ok .cont, hq => exact hq.elim

/-- f(k = v, ..), no argument by its place -/
theorem pe_callK0 {ks : List Str} {kws : List Keyword} {tk : TA} {g : List Value → List Value → List Value} {gV : List V → List V → List V}
    (F : FnOk X.prog X.w X.K X.mg X.base CX k f fd ps sp) (hr : Room k X.A) (hg : Gl X x) (hm : X.mg x = some (.ref f))
    (hk : PySem.W.keepIn X.K (.ref f) = true) (hb : KBinds X.K fd ps ks g gV) (hx : Passes CX X E) (hkw : PK X kws tk)
    (hall : (backToKw pos (keywordEach kws X.env)).all (·.1.isSome) = true := by rfl)
    (hks : (backToKw pos (keywordEach kws X.env)).filterMap (·.1) = ks := by rfl)
    (hdb : (x == ("__debug__" : Str)) = false := by decide)
    (hpl : ((backTo pos (starEach [] X.env)).any (·.1) || (backToKw pos (keywordEach kws X.env)).any (·.1.isNone)) = false := by rfl) :
    PE X (.Call (.Name x p) [] kws pos) (tCallK sp gV E tNil tk) := by
  refine ⟨fun pins s σ H Q I h => wpAny_Call_Name_kw (ld_glob I hg hm ?_ hdb)⟩
  refine PySem.W.callWith_KW0 (h₀ := X.base) I.ok.mod.kin hk hall (thn (hkw.run pos pins s σ H _ I h) ?_) hpl
  rintro ws s2 ⟨zs, H2, J, rz, q⟩
  refine ⟨J.kIn, ?_⟩
  rw [hks]
  exact run_fnk (us := []) F hr hb hx J .nil rz q
end

/-! ### repr of data -/
theorem call_repr {X : Cx} {k : Nat} (hgd : X.A.guards = some []) (hr : Room k X.A) : CallR X (.builtin "repr")
    (fun xs H Q => ∃ a d, xs = [.ref a] ∧ Dp X.K H (.ref a) d ∧ d.showable = true ∧ d.hasDict = false ∧ d.depth ≤ 100 ∧
      d.shown.length ≤ sizeLine ∧ Q (.str d.shown) H) := by
  intro pins s σ H xs us Q I r h
  obtain ⟨a, d, rfl, hd, hs, hn, hdp, hz, q⟩ := h
  obtain ⟨u, rfl, rr⟩ := vals1 r
  cases rr
  obtain ⟨as, rd⟩ := Dp.reads I d _ _ hd rfl
  have hu := hr.un
  refine repr_of_reads' rd hs (fun e => by rw [hn] at e; cases e) hgd (by omega) (fun _ _ e => e) (fun h' u tk hk => ?_) hz
  exact ⟨.str _, H, I.kept (t' := tk) hk, ⟨_, rfl⟩, q⟩
end PK
namespace PK
open PySem PySem.Spec PyProof.Rows L2
section
open PySem.SeqAt
open PySem.AutoSeq1 (wpAny_loadPart')
open PySem.MeetsSeq PySem.MeetsSeq2 PySem.MeetsSeq3

theorem extend_tup (l b : Addr) (xs ys : Array Value) (n m : Nat) (dd : Option Addr) (sl : Array (Option Value))
    (h0 : ¬(!xs.isEmpty && Builtin.List.listTooLong (xs.size + ys.size)) = true) (h1 : xs.size ≤ sizeLine) (h2 : xs.size + ys.size ≤ sizeLine + 1) :
    Meets (Builtin.«list.extend» ⟨[.ref l, .ref b], []⟩)
      (fun _ R s => s.heap.get? l = some { cls := .type "list", dict := none, data := .seq xs n, slots := #[] } ∧
        s.heap.get? b = some { cls := .type "tuple", dict := dd, data := .seq ys m, slots := sl } ∧
        R (.ok (.ret Value.none)) { s with heap := s.heap.update l (Obj.mapSeq fun x => x ++ ys), toks := s.toks }) :=
  .of_wp fun prog w A R s h => by
    obtain ⟨hp, g, d, tk, os⟩ := s
    obtain ⟨hl, hb, h⟩ := h
    have f1 := AutoSeq1.idx_int
    have f2 := AutoSeq1.sub_tuple_tuple
    have f3 := AutoSeq1.sub_list_list
    have f4 := AutoSeq1.sub_tuple_list
    have f5 := AutoSeq1.sub_list_tuple
    have hz : (xs ++ ys).size ≤ sizeLine + 1 := by
      rw [Array.size_append]
      exact h2
    wp_walk using (wpAny_updateSeq hl rfl (hz := h1) (_hz' := hz)), wpAny_loadPart' hl, wpAny_loadPart' hb
    exact ⟨_, rfl, h⟩
end

section
variable {X : Cx}
/-- xs.extend(t), t a tuple -/
def rExtT (K : PySem.W.Frag) : V → List V → Hp → VK → Prop := fun x vs H Q => ∃ l b xs zs, x = .ref l ∧ vs = [.ref b] ∧ H l = some (.lst xs) ∧
  SqT K H b zs ∧ xs.length + zs.length ≤ sizeLine ∧ Q .non (upd H l (.lst (xs ++ zs)))
theorem mt_extT : MtM X "list.extend" (rExtT X.K) := by
  intro pins s σ H x vs v us Q I rx rv h
  obtain ⟨l, b, xs, zs, rfl, rfl, hH, hB, hz, q⟩ := h
  cases rx
  obtain ⟨u, rfl, ru⟩ := rv.one
  cases ru
  obtain ⟨z, its, n, r, hl, e⟩ := I.lstM hH
  obtain ⟨ys, ry, ⟨⟨cls, dd, data, sl⟩, ho, hc, m, hd⟩, zy⟩ := I.tuple hB
  simp only at hc hd
  subst hc hd
  have l1 := r.length
  have l2 := ry.length
  have hsz : its.toArray.size + ys.toArray.size ≤ sizeLine := by
    rw [List.size_toArray, List.size_toArray]
    omega
  have hlong : ¬ (!its.toArray.isEmpty && Builtin.List.listTooLong (its.toArray.size + ys.toArray.size)) = true := by
    rw [notLongL hsz, Bool.and_false]
    exact Bool.false_ne_true
  refine call_meets PySem.F.slot_list_extend ⟨_, e, rfl⟩ PySem.F.entry_list_extend (PySem.F.args_list_extend_2 _ _)
    (extend_tup l b its.toArray ys.toArray n m dd sl hlong (by rw [List.size_toArray]; omega) (by omega)) ⟨e, ho, ?_⟩
  refine ⟨.non, _, I.lset (its' := its ++ ys) hH e (by simp) (r.append ry) ?_, rfl, q⟩
  rw [List.length_append]
  omega
end

/-! ### t[::-1] -/
section
variable {prog : Program} {w : World} {A : Around} {E : Value → Shared → Prop} {s : Shared}
theorem places_rev (n : Nat) : Builtin.Slice.slicePlaces ((n : Int) - 1) (-1) (-1) = n := by
  unfold Builtin.Slice.slicePlaces
  have h1 : ¬ ((-1 : Int) > 0) := by omega
  simp only [h1, if_false]
  by_cases h : (n : Int) - 1 > -1
  · rw [if_pos h]
    have e : ((n : Int) - 1 - -1 - 1) / (- -1) = (n : Int) - 1 := by
      rw [Int.neg_neg, Int.ediv_one]
      omega
    rw [e]
    omega
  · rw [if_neg h]
    omega
theorem fm_congr {α β : Type} {f g : α → Option β} : ∀ {l : List α}, (∀ k ∈ l, f k = g k) → l.filterMap f = l.filterMap g
  | [], _ => rfl
  | x :: l, h => by
    rw [List.filterMap_cons, List.filterMap_cons, h x List.mem_cons_self, fm_congr fun k hk => h k (List.mem_cons_of_mem _ hk)]
theorem range_pick {α : Type} : ∀ l : List α, (List.range l.length).filterMap (fun k => l[k]?) = l
  | [] => rfl
  | a :: l => by
    rw [List.length_cons, List.range_succ_eq_map, List.filterMap_cons, List.filterMap_map]
    have e : ((fun k => (a :: l)[k]?) ∘ Nat.succ) = fun k => l[k]? := by
      funext k
      rfl
    rw [e, range_pick l]
    rfl
theorem pick_rev (xs : Array Value) : ((List.range xs.size).filterMap fun (k : Nat) => xs[(((xs.size : Int) - 1) + (k : Int) * (-1)).toNat]?).toArray = xs.toList.reverse.toArray := by
  congr 1
  have el : xs.size = xs.toList.reverse.length := by simp
  have e1 : ((List.range xs.size).filterMap fun (k : Nat) => xs[(((xs.size : Int) - 1) + (k : Int) * (-1)).toNat]?) = (List.range xs.size).filterMap fun k => xs.toList.reverse[k]? := by
    refine fm_congr fun k hk => ?_
    have hk' := List.mem_range.mp hk
    rw [List.getElem?_reverse (by simpa using hk')]
    have e2 : (((xs.size : Int) - 1) + (k : Int) * (-1)).toNat = xs.toList.length - 1 - k := by
      rw [Array.length_toList]
      omega
    rw [e2, Array.getElem?_toList]
  rw [e1, el]
  exact range_pick _
theorem applied_rev {sl : Addr} {n : Nat} {vl vu vs : Value} {R : Int × Int × Nat → Shared → Prop} (hs : s.heap.IsSliceOf sl vl vu vs)
    (pl : IsPart vl none) (pu : IsPart vu none) (pv : IsPart vs (some (-1))) (hR : R ((n : Int) - 1, -1, n) s) :
    wpAny (model prog w) A (Builtin.Slice.sliceApplied (.ref sl) (pure (n : Int))) R E s := by
  obtain ⟨os, hos, hcs, hds⟩ := id hs
  unfold Builtin.Slice.sliceApplied Builtin.Slice.sliceFields
  refine wpAny_bind (wpAny_bind (wpAny_field hos hds (x := vl) rfl (wpAny_bind (wpAny_field hos hds (x := vu) rfl (wpAny_bind (wpAny_field hos hds (x := vs) rfl (wpAny_pure ?_)))))))
  refine wpAny_bind (HT.slicePart_ pv ?_)
  show wpAny _ _ (if ((-1 : Int) == 0) = true then _ else _) _ _ s
  rw [if_neg (by decide)]
  refine wpAny_bind (HT.slicePart_ pl (wpAny_bind (HT.slicePart_ pu (wpAny_bind (wpAny_pure ?_)))))
  show wpAny _ _ (pure ((n : Int) - 1, (-1 : Int), Builtin.Slice.slicePlaces ((n : Int) - 1) (-1) (-1))) _ _ s
  rw [places_rev]
  exact wpAny_pure hR
theorem getItem_tup_rev {t sl : Addr} {items : Array Value} {vl vu vs : Value} {Q : Value → Shared → Prop} (ht : IsTup s.heap t items)
    (hs : s.heap.IsSliceOf sl vl vu vs) (pl : IsPart vl none) (pu : IsPart vu none) (pv : IsPart vs (some (-1)))
    (h : Q (.ref s.heap.objs.size) { s with heap := s.heap.push { cls := .type "tuple", data := .seq items.toList.reverse.toArray } })
    (hsz : items.size ≤ sizeLine) : wpAny (model prog w) A (getItem (.ref t) (.ref sl)) Q E s := by
  have htake : sizeOk (.seq items.toList.reverse.toArray) := by
    show items.toList.reverse.toArray.size ≤ sizeLine
    rw [List.size_toArray, List.length_reverse, Array.length_toList]
    exact hsz
  obtain ⟨os, hos, hcs, hds⟩ := id hs
  have hTs : s.TypeIs (.ref sl) "slice" := ⟨os, hos, hcs⟩
  unfold getItem
  try with_reducible refine wpAny_holding ?_
  first | refine wpAny_bind (wpAny_pure ?_) | skip
  refine wpAny_bind (wpAny_sequenceKey ht.typeIs (by decide) ?_)
  refine wpAny_bind (wpAny_callSpecial?_slot (name := Str.ofString "__getitem__") ht.typeIs PyProof.Rows.slot_tuple_getitem
    (wpAny_call_entry PyProof.Rows.slot_tuple_getitem ht.typeIs entry_tuple_getitem ?_ (args_tuple_getitem _ _)))
  show wpAny _ _ (Builtin.Tuple.tupleItemsOf (.ref t) >>= _) _ _ s
  refine wpAny_bind (tupleItemsOf_ ht (wpAny_bind (wpAny_typeOf hTs ?_)))
  rw [if_pos (by decide)]
  refine wpAny_bind (applied_rev hs pl pu pv ?_)
  have hno : ¬ ((((items.size : Int) - 1) == 0 && (-1 : Int) == 1 && items.size == items.size) = true) := by
    intro q
    rw [Bool.and_eq_true, Bool.and_eq_true] at q
    exact absurd q.1.2 (by decide)
  show wpAny _ _ (if (((items.size : Int) - 1) == 0 && (-1 : Int) == 1 && items.size == items.size) = true then _ else _) _ _ s
  rw [if_neg hno, pick_rev]
  first
    | exact wpAny_bind (m := Builtin.Tuple.tupleExact _) (wpAny_newObj_type (wpAny_pure ⟨_, rfl, wpAny_pure h⟩) htake)
    | exact wpAny_bind (wpAny_bind (m := Builtin.Tuple.tupleExact _) (wpAny_newObj_type (wpAny_pure ⟨_, rfl, wpAny_pure h⟩) htake))
end
section
variable {X : Cx}
def tRevT (K : PySem.W.Frag) (te : TE) : TE := fun σ H Q => te σ H fun x H1 => ∃ a xs, x = .ref a ∧ SqT K H1 a xs ∧
  ∀ p, H1 p = none → Q (.ref p) (upd H1 p (.tup xs.reverse))
theorem pe_revT {e : Expr} {te : TE} {k : Nat} {p1 p2 p3 pos : Pos} (he : PE X e te) :
    PE X (.Subscript e (.Slice none none (some (.UnaryOp .USub (.Constant (.int 1) k p1) p2)) p3) pos) (tRevT X.K te) := by
  refine ⟨fun pins s σ H Q I h => Subscript_ (thn (he.run pins s σ H _ I h) ?_)⟩
  rintro v s1 ⟨x, H1, I1, r1, a, xs, rfl, hx, q⟩
  cases r1
  have hst : PO X (some (.UnaryOp .USub (.Constant (.int 1) k p1) p2)) (tPart (tUn (rU fun i => .int (-i)) (tC (.int 1)))) := po_some (pe_un un_neg pe_int)
  refine wpAny_Slice (thn (po_none.run pins s1 σ H1 (fun o H' => o = none ∧ H' = H1) I1 ⟨rfl, rfl⟩) ?_)
  rintro vl s2 ⟨l, H2, I2, pl, rfl, rfl⟩
  refine thn (po_none.run pins s2 σ H2 (fun o H' => o = none ∧ H' = H2) I2 ⟨rfl, rfl⟩) ?_
  rintro vu s3 ⟨u, H3, I3, pu, rfl, rfl⟩
  refine thn (hst.run pins s3 σ H3 (fun o H' => o = some (-1) ∧ H' = H3) I3 ⟨1, rfl, -1, rfl, rfl, rfl⟩) ?_
  rintro vs s4 ⟨o, H4, I4, ps, rfl, rfl⟩
  have I5 : Inv X pins σ H4 { s4 with heap := s4.heap.push { cls := .type "slice", data := .fields #[vl, vu, vs] } } :=
    I4.kept (t' := s4.toks) fun b ob q => Heap.get?_push_of_some _ q
  obtain ⟨its, r, ht, hz⟩ := I5.tuple hx
  have hlen := r.length
  show wpAny (model X.prog X.w) X.A (subscriptTail e _ (.ref a) (.ref s4.heap.objs.size)) _ _ _
  refine tail_any (ops := [.ref a, .ref s4.heap.objs.size]) ht.typeIs (PyProof.Rows.slot_tuple_getitem.lookup) ?_ (by with_unfolding_all rfl)
  refine getItem_tup_rev ht (Heap.IsSliceOf.new _ vl vu vs) pl pu ps ?_ (by rw [List.size_toArray]; omega)
  refine ⟨.ref _, _, I5.laid (t' := s4.toks) (o := .tup xs.reverse) (fun b ob q => Heap.get?_push_of_some _ q) (Nat.le_refl _) ?_, rfl, q _ (I5.hok.fresh (Nat.le_refl _))⟩
  refine ⟨by rw [List.length_reverse]; exact hz, its.reverse, r.reverse, ⟨_, Heap.get?_push_size _ rfl, rfl, 0, rfl⟩⟩
end

/-! ### xs != [], xs == [] -/
section
open PySem.SeqAt
open PySem.AutoSeq1 (wpAny_loadPart')
open PySem.MeetsSeq PySem.MeetsSeq2 PySem.MeetsSeq3
theorem list_ne_sizes (l b : Addr) (xs ys : Array Value) (n m : Nat) (sl sl2 : Array (Option Value)) (hc : (xs.size != ys.size) = true) :
    Meets (Builtin.«list.__ne__» ⟨[.ref l, .ref b], []⟩)
      (fun _ R s => s.heap.get? l = some { cls := .type "list", dict := none, data := .seq xs n, slots := sl } ∧
        s.heap.get? b = some { cls := .type "list", dict := none, data := .seq ys m, slots := sl2 } ∧ R (.ok (.ret (.bool true))) s) :=
  .of_wp fun prog w A R s h => by
    obtain ⟨hp, g, d, tk, os⟩ := s
    obtain ⟨hl, hb, h⟩ := h
    have f3 := AutoSeq1.sub_list_list
    wp_walk using wpAny_loadPart' hl, wpAny_loadPart' hb
    exact ⟨_, rfl, h⟩
theorem list_eq_sizes (l b : Addr) (xs ys : Array Value) (n m : Nat) (sl sl2 : Array (Option Value)) (hc : (xs.size != ys.size) = true) :
    Meets (Builtin.«list.__eq__» ⟨[.ref l, .ref b], []⟩)
      (fun _ R s => s.heap.get? l = some { cls := .type "list", dict := none, data := .seq xs n, slots := sl } ∧
        s.heap.get? b = some { cls := .type "list", dict := none, data := .seq ys m, slots := sl2 } ∧ R (.ok (.ret (.bool false))) s) :=
  .of_wp fun prog w A R s h => by
    obtain ⟨hp, g, d, tk, os⟩ := s
    obtain ⟨hl, hb, h⟩ := h
    have f3 := AutoSeq1.sub_list_list
    wp_walk using wpAny_loadPart' hl, wpAny_loadPart' hb
    exact ⟨_, rfl, h⟩
end
section
variable {X : Cx}
def rNeNil (K : PySem.W.Frag) : R2 := fun x y H Q => ∃ a b xs, x = .ref a ∧ y = .ref b ∧ SqL K H a xs ∧ SqL K H b [] ∧ Q (.bl (!xs.isEmpty)) H
def rEqNil (K : PySem.W.Frag) : R2 := fun x y H Q => ∃ a b xs, x = .ref a ∧ y = .ref b ∧ SqL K H a xs ∧ SqL K H b [] ∧ Q (.bl xs.isEmpty) H
theorem op_neNil {k : Nat} (hr : Room k X.A) : OpR X (compareOp .NotEq) (rNeNil X.K) := by
  intro pins s σ H x y v u Q I rx ry h
  obtain ⟨a, b, xs, rfl, rfl, ha, hb, q⟩ := h
  cases xs with
  | nil => exact op_neD hr.units pins s σ H _ _ v u Q I rx ry ⟨.list [], .list [], .lst ha .nil, .lst hb .nil, rfl, rfl, q⟩
  | cons z zs =>
    cases rx
    cases ry
    obtain ⟨its, r, ⟨⟨cls, dd, data, sl⟩, n, ho, hc, hdd, hd⟩, _⟩ := I.list ha
    obtain ⟨jts, r2, ⟨⟨cls2, dd2, data2, sl2⟩, n2, ho2, hc2, hdd2, hd2⟩, _⟩ := I.list hb
    simp only at hc hd hdd hc2 hd2 hdd2
    subst hc hd hdd hc2 hd2 hdd2
    cases r2
    have hz : (its.toArray.size != ([] : List Value).toArray.size) = true := by
      rw [List.size_toArray, ← r.length]
      rfl
    exact richCompare_meets_room (op := .NotEq) ⟨_, ho, rfl⟩ ⟨_, ho2, rfl⟩ PySem.F.slot_list_ne PySem.F.entry_list_ne (PySem.F.args_list_ne_2 _ _)
      (list_ne_sizes a b its.toArray ([] : List Value).toArray n n2 sl sl2 hz) ⟨ho, ho2, (fun z => nomatch z), ⟨.bl true, H, I, rfl, q⟩⟩ hr.units0
theorem op_eqNil {k : Nat} (hr : Room k X.A) : OpR X (compareOp .Eq) (rEqNil X.K) := by
  intro pins s σ H x y v u Q I rx ry h
  obtain ⟨a, b, xs, rfl, rfl, ha, hb, q⟩ := h
  cases xs with
  | nil => exact op_eqD hr.units pins s σ H _ _ v u Q I rx ry ⟨.list [], .list [], .lst ha .nil, .lst hb .nil, rfl, rfl, q⟩
  | cons z zs =>
    cases rx
    cases ry
    obtain ⟨its, r, ⟨⟨cls, dd, data, sl⟩, n, ho, hc, hdd, hd⟩, _⟩ := I.list ha
    obtain ⟨jts, r2, ⟨⟨cls2, dd2, data2, sl2⟩, n2, ho2, hc2, hdd2, hd2⟩, _⟩ := I.list hb
    simp only at hc hd hdd hc2 hd2 hdd2
    subst hc hd hdd hc2 hd2 hdd2
    cases r2
    have hz : (its.toArray.size != ([] : List Value).toArray.size) = true := by
      rw [List.size_toArray, ← r.length]
      rfl
    exact richCompare_meets_room (op := .Eq) ⟨_, ho, rfl⟩ ⟨_, ho2, rfl⟩ PySem.F.slot_list_eq PySem.F.entry_list_eq (PySem.F.args_list_eq_2 _ _)
      (list_eq_sizes a b its.toArray ([] : List Value).toArray n n2 sl sl2 hz) ⟨ho, ho2, (fun z => nomatch z), ⟨.bl false, H, I, rfl, q⟩⟩ hr.units0
end
end PK
namespace PK
open PySem PySem.Spec PyProof.Rows L2

/-- a def that may be called: its promise, its name, how its arguments come -/
structure Cal (P : Program) (w : World) (K : PySem.W.Frag) (mg : Str → Option Value) (base : Heap) (k : Nat) (x : Str) (f : Addr)
    (fd : FuncData) (ps : List Str) (sp : Sp) : Prop where
  ok : FnOk P w K mg base CX0 k f fd ps sp
  g : mg x = some (.ref f)
  kp : PySem.W.keepIn K (.ref f) = true
  b : Binds K fd ps []
structure CalG (P : Program) (w : World) (K : PySem.W.Frag) (mg : Str → Option Value) (base : Heap) (k : Nat) (x : Str) (f : Addr)
    (fd : FuncData) (ps : List Str) (sp : Sp) : Prop where
  ok : FnG P w K mg base CX0 k f fd ps sp
  g : mg x = some (.ref f)
  kp : PySem.W.keepIn K (.ref f) = true
  b : Binds K fd ps []

/-! ### the heap but for one object -/
/-- all that was tracked, but the object at a, is as it was -/
def Ext (a : Addr) (H H' : Hp) : Prop := ∀ b o, H b = some o → b ≠ a → H' b = some o
theorem Ext.refl (a : Addr) (H : Hp) : Ext a H H := fun _ _ h _ => h
theorem Ext.trans {a : Addr} {H H1 H2 : Hp} (x : Ext a H H1) (y : Ext a H1 H2) : Ext a H H2 := fun b o h n => y b o (x b o h n) n
theorem Ext.of {a : Addr} {H H' : Hp} (x : Same H H') : Ext a H H' := fun b o h _ => x b o h
theorem Ext.new {a p : Addr} {H H1 : Hp} {o : HO} (x : Ext a H H1) (np : H1 p = none) : Ext a H (upd H1 p o) := fun b u h n => by
  have h1 := x b u h n
  rw [upd_ne (ne_of_none h1 np)]
  exact h1
theorem Ext.at {a : Addr} {H H1 : Hp} {o : HO} (x : Ext a H H1) : Ext a H (upd H1 a o) := fun b u h n => by
  rw [upd_ne n]
  exact x b u h n
/-- a new object of ours changes -/
theorem Ext.own {a p : Addr} {H H1 : Hp} {o : HO} (x : Ext a H H1) (np : H p = none) : Ext a H (upd H1 p o) := fun b u h n => by
  rw [upd_ne (ne_of_none h np)]
  exact x b u h n
theorem Ext.free {a p : Addr} {H H1 : Hp} (x : Ext a H H1) (np : H1 p = none) (ne : p ≠ a) : H p = none := by
  cases q : H p with
  | none => rfl
  | some o =>
    rw [x p o q ne] at np
    cases np
theorem same_new {H H1 : Hp} {p : Addr} {o : HO} (x : Same H H1) (np : H1 p = none) : Same H (upd H1 p o) := fun b u h => by
  have h1 := x b u h
  rw [upd_ne (ne_of_none h1 np)]
  exact h1
theorem same_own {H H1 : Hp} {p : Addr} {o : HO} (x : Same H H1) (np : H p = none) : Same H (upd H1 p o) := fun b u h => by
  rw [upd_ne (ne_of_none h np)]
  exact x b u h

/-! ### what the law draws from -/
abbrev kC : Key := Sum.inr "cells"
abbrev kA : Key := Sum.inr "at"
abbrev kL : Key := Sum.inr "left"
abbrev kN : Key := Sum.inr "count"
def feed (c : Addr) (i l n : Int) : List (Key × V) := [(kC, .ref c), (kA, .int i), (kL, .int l), (kN, .int n)]
theorem feed_cells (c : Addr) (i l n : Int) : valV (feed c i l n) kC = some (.ref c) := rfl
theorem feed_at (c : Addr) (i l n : Int) : valV (feed c i l n) kA = some (.int i) := rfl
theorem feed_left (c : Addr) (i l n : Int) : valV (feed c i l n) kL = some (.int l) := rfl
theorem feed_count (c : Addr) (i l n : Int) : valV (feed c i l n) kN = some (.int n) := rfl
theorem feed_putA (c : Addr) (i l n j : Int) : putK (feed c i l n) kA (.int j) = feed c j l n := rfl
theorem feed_putL (c : Addr) (i l n j : Int) : putK (feed c i l n) kL (.int j) = feed c i j n := rfl
theorem feed_putN (c : Addr) (i l n j : Int) : putK (feed c i l n) kN (.int j) = feed c i l j := rfl
theorem feed_len (c : Addr) (i l n : Int) : (feed c i l n).length < sizeLine := by
  show 4 < sizeLine
  decide
theorem feed_merge (c : Addr) (i l n : Int) : mergeK [] (feed c i l n) = feed c i l n := rfl
/-- the feed at a: cells, all of them ints, and three numbers -/
structure Feed (H : Hp) (a : Addr) (c : Addr) (cs : List Int) (i l n : Int) : Prop where
  d : H a = some (.dK (feed c i l n))
  l : H c = some (.lst (cs.map V.int))
  i0 : 0 ≤ i
theorem Feed.ne {H : Hp} {a c : Addr} {cs : List Int} {i l n : Int} (f : Feed H a c cs i l n) : c ≠ a := ne_of f.l f.d (by intro z; cases z)
def IsFeed (H : Hp) (a c : Addr) : Prop := ∃ cs i l n, Feed H a c cs i l n
theorem Feed.new {H : Hp} {a c p : Addr} {cs : List Int} {i l n : Int} {o : HO} (f : Feed H a c cs i l n) (np : H p = none) : Feed (upd H p o) a c cs i l n :=
  ⟨by rw [upd_ne (ne_of_none f.d np)]; exact f.d, by rw [upd_ne (ne_of_none f.l np)]; exact f.l, f.i0⟩
theorem Feed.put {H : Hp} {a c : Addr} {cs : List Int} {i l n i' l' n' : Int} (f : Feed H a c cs i l n) (h : 0 ≤ i') : Feed (upd H a (.dK (feed c i' l' n'))) a c cs i' l' n' :=
  ⟨upd_same, by rw [upd_ne f.ne]; exact f.l, h⟩
theorem IsFeed.new {H : Hp} {a c p : Addr} {o : HO} (f : IsFeed H a c) (np : H p = none) : IsFeed (upd H p o) a c := by
  obtain ⟨cs, i, l, n, f⟩ := f
  exact ⟨cs, i, l, n, f.new np⟩
theorem IsFeed.keep {H H' : Hp} {a c : Addr} (f : IsFeed H a c) (h : Same H H') : IsFeed H' a c := by
  obtain ⟨cs, i, l, n, f⟩ := f
  exact ⟨cs, i, l, n, h _ _ f.d, h _ _ f.l, f.i0⟩
theorem IsFeed.some {H : Hp} {a c : Addr} (f : IsFeed H a c) : ∃ o, H a = some o := by
  obtain ⟨cs, i, l, n, f⟩ := f
  exact ⟨_, f.d⟩
theorem IsFeed.ne {H : Hp} {a c p : Addr} (f : IsFeed H a c) (np : H p = none) : p ≠ a ∧ p ≠ c := by
  obtain ⟨cs, i, l, n, f⟩ := f
  exact ⟨(ne_of_none f.d np).symm, (ne_of_none f.l np).symm⟩
/-- an object of ours that is neither the feed nor its cells changes -/
theorem IsFeed.own {H : Hp} {a c p : Addr} {o : HO} (f : IsFeed H a c) (h : p ≠ a ∧ p ≠ c) : IsFeed (upd H p o) a c := by
  obtain ⟨cs, i, l, n, f⟩ := f
  exact ⟨cs, i, l, n, by rw [upd_ne h.1.symm]; exact f.d, by rw [upd_ne h.2.symm]; exact f.l, f.i0⟩

/-- a draw: any number below the second -/
def spDraw : Sp := fun vs H Q _ => ∃ (a c : Addr) (m : Int), vs = [.ref a, .int m] ∧ IsFeed H a c ∧ 0 < m ∧ m ≤ 1000000 ∧
  ∀ (r : Int) (H' : Hp), 0 ≤ r → r < m → Ext a H H' → IsFeed H' a c → Q (.int r) H'

/-- the else of an if, said once -/
theorem if_else {tc : TT} {u v : TS} {D : Ends} {σ : L2.St} {H : Hp} (R : Hp → Prop) (hv : ∀ H', R H' → v D σ H')
    (h : (∀ H', R H' → v D σ H') → tIfS tc u v D σ H) : tIfS tc u v D σ H := h hv
end PK
namespace PK
open PySem PySem.Spec PyProof.Rows L2
/-- a small letter; a word: one to eight of them -/
def Lw (c : Nat) : Prop := 97 ≤ c ∧ c ≤ 122
structure Word (y : Str) : Prop where
  one : 1 ≤ y.length
  eight : y.length ≤ 8
  low : ∀ c ∈ y.cps.toList, Lw c
abbrev abc : Str := "abcdefghijklmnopqrstuvwxyz"
theorem abc_list : abc.cps.toList = List.range' 97 26 := by decide +kernel
theorem abc_len : abc.length ≤ sizeLine := by decide +kernel
theorem abc_at {i : Int} (h0 : 0 ≤ i) (h1 : i < 26) : ∃ c, atI abc.cps.toList i = some c ∧ Lw c := by
  refine ⟨97 + i.toNat, ?_, by omega, by omega⟩
  rw [abc_list]
  obtain ⟨n, rfl⟩ := Int.eq_ofNat_of_zero_le h0
  refine atI_nat ?_
  rw [Int.toNat_natCast, List.getElem?_range' (by omega)]
  rw [Nat.one_mul]
theorem len_one (c : Nat) : (⟨#[c]⟩ : Str).length = 1 := rfl
theorem word_one {c : Nat} (h : Lw c) : Word ⟨#[c]⟩ := ⟨Nat.le_refl 1, by rw [len_one]; omega, fun d hd => by
  have e : d = c := by simpa using hd
  rw [e]; exact h⟩
/-- a sign behind a word -/
theorem word_snoc {y : Str} {c : Nat} (h : Word y) (h8 : y.length < 8) (hc : Lw c) : Word (y ++ ⟨#[c]⟩) := by
  refine ⟨?_, ?_, fun d hd => ?_⟩
  · rw [strLen_append, len_one]; omega
  · rw [strLen_append, len_one]; omega
  · rw [mem_cps_append] at hd
    rcases hd with z | z
    · exact h.low d z
    · have e : d = c := by simpa using z
      rw [e]; exact hc
/-- a sign, and up to seven behind it -/
theorem word_join {c : Nat} {l : List Nat} (hc : Lw c) (hl : l.length ≤ 7) (h : ∀ d ∈ l, Lw d) : Word (⟨#[c]⟩ ++ Txt.join ⟨#[]⟩ (l.map fun k => (⟨#[k]⟩ : Str))) := by
  rw [TL.join_eq, join_ones]
  have e : (⟨l.toArray⟩ : Str).length = l.length := by simp [Str.length]
  refine ⟨?_, ?_, fun d hd => ?_⟩
  · rw [strLen_append, len_one]; omega
  · rw [strLen_append, len_one, e]; omega
  · rw [mem_cps_append] at hd
    rcases hd with z | z
    · have e : d = c := by simpa using z
      rw [e]; exact hc
    · exact h d (by simpa using z)

/-- so many words, a new list -/
def spNames : Sp := fun vs H Q _ => ∃ (a c : Addr) (m : Int), vs = [.ref a, .int m] ∧ IsFeed H a c ∧ 1 ≤ m ∧ m ≤ 8 ∧
  ∀ (p : Addr) (H' : Hp) (ws : List Str), H p = none → Ext a H H' → IsFeed H' a c → H' p = some (.lst (ws.map V.str)) → (ws.length : Int) = m →
    (∀ y ∈ ws, Word y) → Q (.ref p) H'
theorem strs_at {ws : List Str} {i : Nat} (h : i < ws.length) : (ws.map V.str)[i]? = some (.str ws[i]) := by
  rw [List.getElem?_map, List.getElem?_eq_getElem h]
  rfl
theorem strs_last {ws : List Str} (h : ws ≠ []) : atI (ws.map V.str) (-1) = some (.str (ws.getLast h)) := by
  have e : ws.map V.str = ws.dropLast.map V.str ++ [.str (ws.getLast h)] := by
    rw [← List.map_singleton (f := V.str), ← List.map_append, List.dropLast_concat_getLast]
  rw [e]
  exact atI_last _ _
end PK
namespace PK
open PySem PySem.Spec PyProof.Rows L2
/-- how many: from one to a thousand millions -/
def spMany : Sp := fun vs H Q _ => ∃ (a c : Addr), vs = [.ref a] ∧ IsFeed H a c ∧
  ∀ (r : Int) (H' : Hp), 1 ≤ r → r ≤ 1000000000 → Ext a H H' → IsFeed H' a c → Q (.int r) H'
end PK
namespace PK
open PySem PySem.Spec PyProof.Rows L2

/-! ### what never changes: tuples -/
def Tk : HO → Prop
  | .tup _ => True
  | .frz _ _ => True
  | _ => False
/-- the tuples (and what is locked) stay -/
def TKeep (H H' : Hp) : Prop := ∀ b u, Tk u → H b = some u → H' b = some u
theorem TKeep.refl (H : Hp) : TKeep H H := fun _ _ _ h => h
theorem TKeep.trans {H H1 H2 : Hp} (x : TKeep H H1) (y : TKeep H1 H2) : TKeep H H2 := fun b u t h => y b u t (x b u t h)
theorem TKeep.of {H H' : Hp} (x : Same H H') : TKeep H H' := fun b u _ h => x b u h
theorem TKeep.new {H : Hp} {p : Addr} {o : HO} (np : H p = none) : TKeep H (upd H p o) := fun b u _ h => by
  rw [upd_ne (ne_of_none h np)]
  exact h
theorem TKeep.lst {H : Hp} {p : Addr} {xs : List V} {o : HO} (hp : H p = some (.lst xs)) : TKeep H (upd H p o) := fun b u t h => by
  rw [upd_ne (ne_of h hp (by rintro rfl; exact t))]
  exact h
theorem TKeep.ext {H H' : Hp} {a : Addr} {kv : List (Key × V)} (ha : H a = some (.dK kv)) (x : Ext a H H') : TKeep H H' := fun b u t h =>
  x b u h (ne_of h ha (by rintro rfl; exact t))
theorem TKeep.feed {H H' : Hp} {a c : Addr} (f : IsFeed H a c) (x : Ext a H H') : TKeep H H' := by
  obtain ⟨cs, i, l, n, f⟩ := f
  exact TKeep.ext f.d x
theorem TKeep.sq {K : PySem.W.Frag} {H H' : Hp} {b : Addr} {xs : List V} (x : TKeep H H') (h : SqT K H b xs) : SqT K H' b xs := by
  rcases h with (h | ⟨o, h⟩) | h
  · exact Or.inl (Or.inl (x _ _ trivial h))
  · exact Or.inl (Or.inr ⟨o, x _ _ trivial h⟩)
  · exact Or.inr h
mutual
/-- data without lists and dicts -/
def flatT : PyData → Bool
  | .none | .bool _ | .int _ | .str _ => true
  | .tuple xs => flatTs xs
  | _ => false
def flatTs : List PyData → Bool
  | [] => true
  | x :: xs => flatT x && flatTs xs
end
mutual
theorem Dp.keepT {K : PySem.W.Frag} {H H' : Hp} (x : TKeep H H') : ∀ {d : PyData} {v : V}, flatT d = true → Dp K H v d → Dp K H' v d
  | .none, _, _, .non => .non
  | .bool _, _, _, .bl b => .bl b
  | .int _, _, _, .int i => .int i
  | .str _, _, _, .str y => .str y
  | .list _, _, h, _ => by simp [flatT] at h
  | .dict _, _, h, _ => by simp [flatT] at h
  | .tuple ds, _, h, .tup hs ha => .tup (x.sq hs) (DpAll.keepT x (by simpa [flatT] using h) ha)
theorem DpAll.keepT {K : PySem.W.Frag} {H H' : Hp} (x : TKeep H H') : ∀ {ds : List PyData} {vs : List V}, flatTs ds = true → DpAll K H vs ds → DpAll K H' vs ds
  | [], _, _, .nil => .nil
  | d :: ds, _, h, .cons h1 h2 => by
    have h' : flatT d = true ∧ flatTs ds = true := by simpa [flatTs] using h
    exact .cons (Dp.keepT x h'.1 h1) (DpAll.keepT x h'.2 h2)
end
mutual
theorem Dp.same {K : PySem.W.Frag} {H H' : Hp} (x : Same H H') : ∀ {d : PyData} {v : V}, Dp K H v d → Dp K H' v d
  | .none, _, .non => .non
  | .bool _, _, .bl b => .bl b
  | .int _, _, .int i => .int i
  | .str _, _, .str y => .str y
  | .list ds, _, .lst hs ha => .lst (x.seq hs) (DpAll.same x ha)
  | .tuple ds, _, .tup hs ha => .tup ((TKeep.of x).sq hs) (DpAll.same x ha)
theorem DpAll.same {K : PySem.W.Frag} {H H' : Hp} (x : Same H H') : ∀ {ds : List PyData} {vs : List V}, DpAll K H vs ds → DpAll K H' vs ds
  | [], _, .nil => .nil
  | d :: ds, _, .cons h1 h2 => .cons (Dp.same x h1) (DpAll.same x h2)
end
theorem DpAll.len {K : PySem.W.Frag} {H : Hp} : ∀ {vs : List V} {ds : List PyData}, DpAll K H vs ds → vs.length = ds.length
  | _, _, .nil => rfl
  | _, _, .cons _ h => by rw [List.length_cons, List.length_cons, DpAll.len h]
theorem DpAll.snoc {K : PySem.W.Frag} {H : Hp} {v : V} {d : PyData} (h : Dp K H v d) : ∀ {vs : List V} {ds : List PyData}, DpAll K H vs ds → DpAll K H (vs ++ [v]) (ds ++ [d])
  | _, _, .nil => .cons h .nil
  | _, _, .cons h1 h2 => .cons h1 (DpAll.snoc h h2)
theorem DpAll.app {K : PySem.W.Frag} {H : Hp} : ∀ {vs us : List V} {ds es : List PyData}, DpAll K H vs ds → DpAll K H us es → DpAll K H (vs ++ us) (ds ++ es)
  | _, _, _, _, .nil, h => h
  | _, _, _, _, .cons h1 h2, h => .cons h1 (DpAll.app h2 h)
theorem DpAll.get {K : PySem.W.Frag} {H : Hp} : ∀ {vs : List V} {ds : List PyData} {i : Nat} {d : PyData}, DpAll K H vs ds → ds[i]? = some d → ∃ v, vs[i]? = some v ∧ Dp K H v d
  | _, _, _, _, .nil, h => by simp at h
  | _, _, 0, _, .cons h1 _, h => ⟨_, rfl, by
    have e := Option.some.inj h
    rw [← e]; exact h1⟩
  | _, _, i + 1, _, .cons _ h2, h => by
    obtain ⟨v, e, r⟩ := DpAll.get (i := i) h2 (by simpa using h)
    exact ⟨v, by simpa using e, r⟩
theorem DpAll.getV {K : PySem.W.Frag} {H : Hp} : ∀ {vs : List V} {ds : List PyData} {i : Nat} {v : V}, DpAll K H vs ds → vs[i]? = some v → ∃ d, ds[i]? = some d ∧ Dp K H v d
  | _, _, _, _, .nil, h => by simp at h
  | _, _, 0, _, .cons h1 _, h => ⟨_, rfl, by
    have e := Option.some.inj h
    rw [← e]; exact h1⟩
  | _, _, i + 1, _, .cons _ h2, h => by
    obtain ⟨v, e, r⟩ := DpAll.getV (i := i) h2 (by simpa using h)
    exact ⟨v, by simpa using e, r⟩
theorem DpAll.take {K : PySem.W.Frag} {H : Hp} : ∀ (n : Nat) {vs : List V} {ds : List PyData}, DpAll K H vs ds → DpAll K H (vs.take n) (ds.take n)
  | 0, _, _, _ => .nil
  | _ + 1, _, _, .nil => .nil
  | n + 1, _, _, .cons h1 h2 => .cons h1 (DpAll.take n h2)
theorem DpAll.rev {K : PySem.W.Frag} {H : Hp} : ∀ {vs : List V} {ds : List PyData}, DpAll K H vs ds → DpAll K H vs.reverse ds.reverse
  | _, _, .nil => .nil
  | _, _, .cons h1 h2 => by
    rw [List.reverse_cons, List.reverse_cons]
    exact DpAll.snoc h1 (DpAll.rev h2)
theorem DpAll.ints {K : PySem.W.Frag} {H : Hp} : ∀ ns : List Int, DpAll K H (ns.map V.int) (ns.map PyData.int)
  | [] => .nil
  | n :: ns => .cons (.int n) (DpAll.ints ns)
theorem DpAll.strs {K : PySem.W.Frag} {H : Hp} : ∀ ns : List Str, DpAll K H (ns.map V.str) (ns.map PyData.str)
  | [] => .nil
  | n :: ns => .cons (.str n) (DpAll.strs ns)
theorem DpAll.of_ints {K : PySem.W.Frag} {H : Hp} : ∀ {ns : List Int} {vs : List V}, DpAll K H vs (ns.map PyData.int) → vs = ns.map V.int
  | [], _, .nil => rfl
  | n :: ns, _, .cons (.int _) h => by rw [DpAll.of_ints h]; rfl
theorem DpAll.of_strs {K : PySem.W.Frag} {H : Hp} : ∀ {ns : List Str} {vs : List V}, DpAll K H vs (ns.map PyData.str) → vs = ns.map V.str
  | [], _, .nil => rfl
  | n :: ns, _, .cons (.str _) h => by rw [DpAll.of_strs h]; rfl
theorem Dp.tupE {K : PySem.W.Frag} {H : Hp} {v : V} {ds : List PyData} (h : Dp K H v (.tuple ds)) : ∃ b xs, v = .ref b ∧ SqT K H b xs ∧ DpAll K H xs ds := by
  cases h with
  | tup hs ha => exact ⟨_, _, rfl, hs, ha⟩
theorem Dp.lstE {K : PySem.W.Frag} {H : Hp} {v : V} {ds : List PyData} (h : Dp K H v (.list ds)) : ∃ b xs, v = .ref b ∧ SqL K H b xs ∧ DpAll K H xs ds := by
  cases h with
  | lst hs ha => exact ⟨_, _, rfl, hs, ha⟩

/-! ### what can be shown, how deep and how long it is -/
structure Sh (d : PyData) (dp n : Nat) : Prop where
  ok : d.showable = true
  nd : d.hasDict = false
  dep : d.depth ≤ dp
  len : d.shown.length ≤ n
theorem Sh.mono {d : PyData} {a b n m : Nat} (h : Sh d a n) (h1 : a ≤ b) (h2 : n ≤ m) : Sh d b m := ⟨h.ok, h.nd, Nat.le_trans h.dep h1, Nat.le_trans h.len h2⟩
theorem Sh.all {dp n : Nat} : ∀ {ds : List PyData}, (∀ d ∈ ds, Sh d dp n) → PyData.showableAll ds = true ∧ PyData.hasDictAll ds = false ∧
    PyData.depthAll ds ≤ dp ∧ ((PyData.shownAll ds).map (·.length)).sum ≤ ds.length * n ∧ (PyData.shownAll ds).length = ds.length
  | [], _ => ⟨rfl, rfl, Nat.zero_le _, Nat.zero_le _, rfl⟩
  | d :: ds, h => by
    obtain ⟨h1, h2, h3, h4, h5⟩ := Sh.all (ds := ds) fun e he => h e (List.mem_cons_of_mem _ he)
    have q := h d List.mem_cons_self
    refine ⟨?_, ?_, ?_, ?_, ?_⟩
    · show (d.showable && PyData.showableAll ds) = true
      rw [q.ok, h1]
      rfl
    · show (d.hasDict || PyData.hasDictAll ds) = false
      rw [q.nd, h2]
      rfl
    · show max d.depth (PyData.depthAll ds) ≤ dp
      exact Nat.max_le.mpr ⟨q.dep, h3⟩
    · show (d.shown.length :: ((PyData.shownAll ds).map (·.length))).sum ≤ (d :: ds).length * n
      rw [List.sum_cons, List.length_cons, Nat.succ_mul]
      have := q.len
      omega
    · show (PyData.shownAll ds).length + 1 = ds.length + 1
      rw [h5]
theorem Sh.tuple {dp n m : Nat} {ds : List PyData} (h : ∀ d ∈ ds, Sh d dp n) (hm : ds.length ≤ m) : Sh (.tuple ds) (dp + 1) (m * n + 2 * m + 3) := by
  obtain ⟨h1, h2, h3, h4, h5⟩ := Sh.all h
  refine ⟨by simpa [PyData.showable] using h1, by simpa [PyData.hasDict] using h2, by simpa [PyData.depth] using h3, ?_⟩
  have e : (PyData.shown (.tuple ds)) = tupleText (PyData.shownAll ds) := by simp only [PyData.shown]
  rw [e]
  have l := tupleText_len_le (PyData.shownAll ds)
  rw [h5] at l
  have : ds.length * n ≤ m * n := Nat.mul_le_mul_right n hm
  omega
theorem Sh.list {dp n m : Nat} {ds : List PyData} (h : ∀ d ∈ ds, Sh d dp n) (hm : ds.length ≤ m) : Sh (.list ds) (dp + 1) (m * n + 2 * m + 3) := by
  obtain ⟨h1, h2, h3, h4, h5⟩ := Sh.all h
  refine ⟨by simpa [PyData.showable] using h1, by simpa [PyData.hasDict] using h2, by simpa [PyData.depth] using h3, ?_⟩
  have e : (PyData.shown (.list ds)) = listText (PyData.shownAll ds) := by simp only [PyData.shown]
  rw [e]
  have l := listText_len_le (PyData.shownAll ds)
  rw [h5] at l
  have : ds.length * n ≤ m * n := Nat.mul_le_mul_right n hm
  omega
theorem Sh.non : Sh .none 0 4 := ⟨rfl, rfl, Nat.le_refl _, by decide +kernel⟩
theorem Sh.bl (b : Bool) : Sh (.bool b) 0 5 := ⟨rfl, rfl, Nat.le_refl _, by cases b <;> decide +kernel⟩
theorem Sh.word {y : Str} (h : Word y) : Sh (.str y) 0 82 := by
  refine ⟨rfl, rfl, Nat.le_refl _, ?_⟩
  have e : (PyData.shown (.str y)) = reprText y := by simp only [PyData.shown]
  rw [e]
  have l := StrLaws.reprText_len y fun c hc => Nat.lt_of_le_of_lt (h.low c hc).2 (by decide)
  have := h.eight
  omega
/-- a number of at most 1920 bits -/
theorem Sh.intB {i : Int} {k : Nat} (hk : 0 < k) (h : i.natAbs.log2 < k) (hk2 : k ≤ 1920) : Sh (.int i) 0 (k + 1) := by
  refine ⟨decide_eq_true (Nat.lt_of_lt_of_le h hk2), rfl, Nat.le_refl _, ?_⟩
  have e : (PyData.shown (.int i)) = Str.ofString (toString i) := by simp only [PyData.shown]
  rw [e, PySem.ofString_length]
  exact int_text_length_le hk h
theorem Sh.int {i : Int} (h0 : 0 ≤ i) (h : i < 2 ^ 64) : Sh (.int i) 0 65 := by
  refine Sh.intB (k := 64) (by decide) ?_ (by decide)
  by_cases z : i.natAbs = 0
  · rw [z]; decide
  · exact (Nat.log2_lt z).mpr (by omega)
end PK
namespace PK
open PySem PySem.Spec PyProof.Rows L2

/-! ### wants, ways, rows, sheets as data -/
abbrev Want := Str × List Str × Int
abbrev Way := List Want
abbrev Row := List Way
abbrev Sheet := List Row
def wantD (x : Want) : PyData := .tuple [.str x.1, .tuple (x.2.1.map PyData.str), .int x.2.2]
def wayD (x : Way) : PyData := .tuple (x.map wantD)
def rowD (x : Row) : PyData := .tuple (x.map wayD)
def sheetD (x : Sheet) : PyData := .tuple (x.map rowD)
structure WantOk (x : Want) : Prop where
  form : Word x.1
  shades : ∀ y ∈ x.2.1, Word y
  few : x.2.1.length ≤ 8
  one : 1 ≤ x.2.2
  most : x.2.2 ≤ 1000000000
structure WayOk (n : Nat) (x : Way) : Prop where
  len : x.length ≤ n
  each : ∀ y ∈ x, WantOk y
structure RowOk (n : Nat) (x : Row) : Prop where
  some : 1 ≤ x.length
  len : x.length ≤ 3
  each : ∀ y ∈ x, WayOk n y
structure SheetOk (m n : Nat) (x : Sheet) : Prop where
  len : x.length ≤ m
  each : ∀ y ∈ x, RowOk n y
theorem flatTs_of {ds : List PyData} : (∀ d ∈ ds, flatT d = true) → flatTs ds = true := by
  induction ds with
  | nil => intro _; rfl
  | cons d ds ih =>
    intro h
    show (flatT d && flatTs ds) = true
    rw [h d List.mem_cons_self, ih fun e he => h e (List.mem_cons_of_mem _ he)]
    rfl
theorem flat_map {α : Type} {f : α → PyData} (hf : ∀ x, flatT (f x) = true) (l : List α) : flatTs (l.map f) = true :=
  flatTs_of fun d hd => by
    obtain ⟨x, _, rfl⟩ := List.mem_map.mp hd
    exact hf x
theorem flat_strs (l : List Str) : flatTs (l.map PyData.str) = true := flat_map (fun _ => rfl) l
theorem flat_ints (l : List Int) : flatTs (l.map PyData.int) = true := flat_map (fun _ => rfl) l
theorem flat_want (x : Want) : flatT (wantD x) = true := by
  show (flatT (.str x.1) && (flatT (.tuple (x.2.1.map PyData.str)) && (flatT (.int x.2.2) && true))) = true
  have e : flatT (.tuple (x.2.1.map PyData.str)) = true := by
    show flatTs _ = true
    exact flat_strs _
  rw [e]
  rfl
theorem flat_way (x : Way) : flatT (wayD x) = true := flat_map flat_want x
theorem flat_row (x : Row) : flatT (rowD x) = true := flat_map flat_way x
theorem flat_sheet (x : Sheet) : flatT (sheetD x) = true := flat_map flat_row x
/-- so many choices and wants as one likes, all of them short -/
theorem sh_want {x : Want} (h : WantOk x) : Sh (wantD x) 2 2457 := by
  have e1 : Sh (.tuple (x.2.1.map PyData.str)) 1 (8 * 82 + 2 * 8 + 3) := Sh.tuple (fun d hd => by
    obtain ⟨y, hy, rfl⟩ := List.mem_map.mp hd
    exact Sh.word (h.shades y hy)) (by rw [List.length_map]; exact h.few)
  refine (Sh.tuple (dp := 1) (n := 816) (m := 3) (fun d hd => ?_) (Nat.le_refl _)).mono (Nat.le_refl _) (by decide)
  rcases List.mem_cons.mp hd with rfl | hd
  · exact (Sh.word h.form).mono (by decide) (by decide)
  rcases List.mem_cons.mp hd with rfl | hd
  · exact e1.mono (by decide) (by decide)
  · rw [List.mem_singleton.mp hd]
    have := h.one
    have := h.most
    exact (Sh.int (by omega) (by omega)).mono (by decide) (by decide)
theorem sh_way {n : Nat} {x : Way} (h : WayOk n x) : Sh (wayD x) 3 (n * 2457 + 2 * n + 3) :=
  Sh.tuple (fun d hd => by
    obtain ⟨y, hy, rfl⟩ := List.mem_map.mp hd
    exact sh_want (h.each y hy)) (by rw [List.length_map]; exact h.len)
theorem sh_row {n : Nat} {x : Row} (h : RowOk n x) : Sh (rowD x) 4 (3 * (n * 2457 + 2 * n + 3) + 2 * 3 + 3) :=
  Sh.tuple (fun d hd => by
    obtain ⟨y, hy, rfl⟩ := List.mem_map.mp hd
    exact sh_way (h.each y hy)) (by rw [List.length_map]; exact h.len)
theorem sh_sheet {m n : Nat} {x : Sheet} (h : SheetOk m n x) : Sh (sheetD x) 5 (m * (3 * (n * 2457 + 2 * n + 3) + 2 * 3 + 3) + 2 * m + 3) :=
  Sh.tuple (fun d hd => by
    obtain ⟨y, hy, rfl⟩ := List.mem_map.mp hd
    exact sh_row (h.each y hy)) (by rw [List.length_map]; exact h.len)
def intsD (l : List Int) : PyData := .tuple (l.map PyData.int)
theorem flat_intsD (l : List Int) : flatT (intsD l) = true := flat_ints l

/-! ### all choices: two ways to count them -/
/-- as the program does it -/
def grow (told : List (List Int)) (L : Nat) : List (List Int) := told.flatMap fun c => (List.range L).map fun (p : Nat) => c ++ [((p : Nat) : Int)]
def choicesM (ls : List Nat) : List (List Int) := ls.foldl grow [[]]
/-- the figures of a number, the last row's first -/
def figStep (st : List Int × Nat) (L : Nat) : List Int × Nat := (((st.2 % L : Nat) : Int) :: st.1, st.2 / L)
def figs (ls : List Nat) (n : Nat) : List Int := (ls.reverse.foldl figStep ([], n)).1
theorem fig_acc : ∀ (ls : List Nat) (fs : List Int) (n : Nat), (ls.foldl figStep (fs, n)).1 = (ls.foldl figStep ([], n)).1 ++ fs
  | [], fs, n => by simp
  | L :: r, fs, n => by
    show (r.foldl figStep (((n % L : Nat) : Int) :: fs, n / L)).1 = (r.foldl figStep ([((n % L : Nat) : Int)], n / L)).1 ++ fs
    rw [fig_acc r (((n % L : Nat) : Int) :: fs), fig_acc r [((n % L : Nat) : Int)], List.append_assoc]
    rfl
theorem figs_snoc (ls : List Nat) (L n : Nat) : figs (ls ++ [L]) n = figs ls (n / L) ++ [((n % L : Nat) : Int)] := by
  unfold figs
  rw [List.reverse_append]
  show (ls.reverse.foldl figStep ([((n % L : Nat) : Int)], n / L)).1 = _
  rw [fig_acc]
theorem range_mul (N L : Nat) (hL : 0 < L) : List.range (N * L) = (List.range N).flatMap fun q => (List.range L).map fun p => q * L + p := by
  induction N with
  | zero => simp
  | succ N ih =>
    rw [List.range_succ, List.flatMap_append, ← ih, Nat.succ_mul, List.range_add]
    simp
def total (ls : List Nat) : Nat := ls.foldl (· * ·) 1
theorem total_snoc (ls : List Nat) (L : Nat) : total (ls ++ [L]) = total ls * L := by
  unfold total
  rw [List.foldl_append]
  rfl
theorem snocInd {α : Type} {P : List α → Prop} (h0 : P []) (h1 : ∀ l x, P l → P (l ++ [x])) : ∀ l, P l := by
  intro l
  have : ∀ l : List α, P l.reverse := by
    intro l
    induction l with
    | nil => exact h0
    | cons x l ih =>
      rw [List.reverse_cons]
      exact h1 _ _ ih
  have h := this l.reverse
  rwa [List.reverse_reverse] at h
theorem counted_choices : ∀ ls : List Nat, (∀ L ∈ ls, 0 < L) → (List.range (total ls)).map (figs ls) = choicesM ls := by
  refine snocInd (P := fun ls => (∀ L ∈ ls, 0 < L) → (List.range (total ls)).map (figs ls) = choicesM ls) (fun _ => rfl) ?_
  intro ls L ih h
  have hL := h L (by simp)
  have ih' := ih fun x hx => h x (by simp [hx])
  have e : choicesM (ls ++ [L]) = grow (choicesM ls) L := by
    unfold choicesM
    rw [List.foldl_append]
    rfl
  rw [e, ← ih', total_snoc, range_mul _ _ hL]
  unfold grow
  rw [List.map_flatMap, List.flatMap_map]
  congr 1
  funext q
  rw [List.map_map]
  refine List.map_congr_left fun p hp => ?_
  have hp' := List.mem_range.mp hp
  show figs (ls ++ [L]) (q * L + p) = _
  rw [figs_snoc]
  have e1 : (q * L + p) / L = q := by
    rw [Nat.mul_comm, Nat.mul_add_div hL, Nat.div_eq_of_lt hp']
    rfl
  have e2 : (q * L + p) % L = p := by
    rw [Nat.mul_comm, Nat.mul_add_mod, Nat.mod_eq_of_lt hp']
  rw [e1, e2]
end PK
namespace PK
open PySem PySem.Spec PyProof.Rows L2
/-- a list of words at p, some of them -/
structure Words (H : Hp) (p : Addr) (ws : List Str) : Prop where
  at_ : H p = some (.lst (ws.map V.str))
  some : ws ≠ []
  few : ws.length ≤ 8
  each : ∀ y ∈ ws, Word y
theorem Words.ext {H H' : Hp} {a c p : Addr} {ws : List Str} (w : Words H p ws) (f : IsFeed H a c) (x : Ext a H H') : Words H' p ws := by
  obtain ⟨cs, i, l, n, f⟩ := f
  exact ⟨x p _ w.at_ (ne_of w.at_ f.d (by intro z; cases z)), w.some, w.few, w.each⟩
theorem Words.new {H : Hp} {p q : Addr} {o : HO} {ws : List Str} (w : Words H p ws) (nq : H q = none) : Words (upd H q o) p ws :=
  ⟨by rw [upd_ne (ne_of_none w.at_ nq)]; exact w.at_, w.some, w.few, w.each⟩
theorem Words.same {H H' : Hp} {p : Addr} {ws : List Str} (w : Words H p ws) (x : Same H H') : Words H' p ws := ⟨x _ _ w.at_, w.some, w.few, w.each⟩
theorem Words.own {H : Hp} {p q : Addr} {o : HO} {ws : List Str} (w : Words H p ws) (ne : p ≠ q) : Words (upd H q o) p ws :=
  ⟨by rw [upd_ne ne]; exact w.at_, w.some, w.few, w.each⟩
theorem Words.pos {H : Hp} {p : Addr} {ws : List Str} (w : Words H p ws) : 0 < ws.length := by
  cases h : ws with
  | nil => exact absurd h w.some
  | cons _ _ => simp
def spWant (K : PySem.W.Frag) : Sp := fun vs H Q _ => ∃ (a c pf ps : Addr) (fs ss : List Str), vs = [.ref a, .ref pf, .ref ps] ∧ IsFeed H a c ∧ Words H pf fs ∧ Words H ps ss ∧
  ∀ (v : V) (H' : Hp) (x : Want), WantOk x → Ext a H H' → IsFeed H' a c → Dp K H' v (wantD x) → Q v H'
end PK
namespace PK
open PySem PySem.Spec PyProof.Rows L2
def spSheet (K : PySem.W.Frag) : Sp := fun vs H Q _ => ∃ (a c pf ps : Addr) (fs ss : List Str) (mo : Nat), vs = [.ref a, .ref pf, .ref ps, .int mo] ∧ IsFeed H a c ∧ Words H pf fs ∧ Words H ps ss ∧ mo ≤ 10 ∧
  ∀ (v : V) (H' : Hp) (x : Sheet), SheetOk 3 mo x → Ext a H H' → IsFeed H' a c → Dp K H' v (sheetD x) → Q v H'
/-- one more behind data of a list, the tuples kept -/
theorem dp_snoc {α : Type} {f : α → PyData} {K : PySem.W.Frag} {H H' : Hp} {vs : List V} {xs : List α} {v : V} {x : α} (hf : ∀ x, flatT (f x) = true) (h : DpAll K H vs (xs.map f)) (t : TKeep H H') (hv : Dp K H' v (f x)) :
    DpAll K H' (vs ++ [v]) ((xs ++ [x]).map f) := by
  rw [List.map_append]
  exact DpAll.snoc hv (DpAll.keepT t (flat_map hf xs) h)
theorem dp_move {α : Type} {f : α → PyData} {K : PySem.W.Frag} {H H' : Hp} {vs : List V} {xs : List α} (hf : ∀ x, flatT (f x) = true) (h : DpAll K H vs (xs.map f)) (t : TKeep H H') :
    DpAll K H' vs (xs.map f) := DpAll.keepT t (flat_map hf xs) h
theorem dp_lenM {α : Type} {f : α → PyData} {K : PySem.W.Frag} {H : Hp} {vs : List V} {xs : List α} (h : DpAll K H vs (xs.map f)) : vs.length = xs.length := by
  rw [DpAll.len h, List.length_map]
end PK
namespace PK
open PySem PySem.Spec PyProof.Rows L2
/-! ### places in the text -/
def retE (st : Stmt) : Expr := match (defBody st).getLast? with
  | some (.Return (some e) _) => e
  | _ => .Constant .none 0 ⟨0, 0, 0, 0⟩
def argE (e : Expr) (i : Nat) : Expr := match e with
  | .Call _ args _ _ => args.getD i (.Constant .none 0 ⟨0, 0, 0, 0⟩)
  | _ => .Constant .none 0 ⟨0, 0, 0, 0⟩
def lcScope (e : Expr) : Scope := match e with
  | .ListComp _ _ sc _ => sc
  | _ => { kind := .function, names := [], isGenerator := false, isCoroutine := false }
theorem take_snoc {α : Type} {l : List α} {i : Nat} {x : α} (h : l[i]? = some x) : l.take (i + 1) = l.take i ++ [x] := by
  rw [List.take_add_one, h]
  rfl
theorem Dp.wantE {K : PySem.W.Frag} {H : Hp} {v : V} {x : Want} (h : Dp K H v (wantD x)) :
    ∃ b t, v = .ref b ∧ SqT K H b [.str x.1, .ref t, .int x.2.2] ∧ SqT K H t (x.2.1.map V.str) := by
  obtain ⟨b, xs, rfl, hb, h1⟩ := Dp.tupE h
  cases h1 with
  | cons a1 h2 =>
    cases h2 with
    | cons a2 h3 =>
      cases h3 with
      | cons a3 h4 =>
        cases h4
        cases a1
        cases a3
        obtain ⟨t, ys, rfl, ht, hy⟩ := Dp.tupE a2
        rw [DpAll.of_strs hy] at ht
        exact ⟨b, t, rfl, hb, ht⟩
/-- the same way, made anew -/
def spCopy (K : PySem.W.Frag) : Sp := fun vs H Q _ => ∃ (v : V) (x : Way), vs = [v] ∧ Dp K H v (wayD x) ∧ x.length ≤ 100 ∧ (∀ y ∈ x, y.2.1.length ≤ 100) ∧
  ∀ (p : Addr) (us : List V) (H' : Hp), Same H H' → H' p = some (.tup us) → DpAll K H' us (x.map wantD) → Q (.ref p) H'
end PK
/-! The rules with the written part K said: within a comprehension the block's own context is not named. -/
namespace PK
open PySem PySem.Spec PyProof.Rows L2
def rTupOf (K : PySem.W.Frag) : List V → Hp → VK → Prop := fun xs H Q => ∃ p ys, xs = [.ref p] ∧
  ((SqL K H p ys ∧ ∀ l, H l = none → Q (.ref l) (upd H l (.tup ys))) ∨ (SqT K H p ys ∧ Q (.ref p) H))
def rLenOf (K : PySem.W.Frag) : List V → Hp → VK → Prop := fun xs H Q => ∃ p ys, xs = [.ref p] ∧ (SqL K H p ys ∨ SqT K H p ys) ∧ Q (.int ys.length) H
def rListOf (K : PySem.W.Frag) : List V → Hp → VK → Prop := fun xs H Q => ∃ p ys, xs = [.ref p] ∧ (SqL K H p ys ∨ SqT K H p ys) ∧
  ∀ l, H l = none → Q (.ref l) (upd H l (.lst ys))
def rRepr (K : PySem.W.Frag) : List V → Hp → VK → Prop := fun xs H Q => ∃ a d, xs = [.ref a] ∧ Dp K H (.ref a) d ∧ d.showable = true ∧ d.hasDict = false ∧ d.depth ≤ 100 ∧
  d.shown.length ≤ sizeLine ∧ Q (.str d.shown) H
section
variable {X : Cx} (K : PySem.W.Frag)
theorem k_tup (hK : X.K = K := by rfl) : CallR X (.type "tuple") (rTupOf K) := by subst hK; exact call_tuple_of
theorem k_len (hK : X.K = K := by rfl) : CallR X (.builtin "len") (rLenOf K) := by subst hK; exact call_len_seq
theorem k_list (hK : X.K = K := by rfl) : CallR X (.type "list") (rListOf K) := by subst hK; exact call_list_of
theorem k_repr {k : Nat} (hgd : X.A.guards = some []) (hr : Room k X.A) (hK : X.K = K := by rfl) : CallR X (.builtin "repr") (rRepr K) := by subst hK; exact call_repr hgd hr
theorem k_all (hc : X.calm = true) (hK : X.K = K := by rfl) : CallR X (.builtin "all") (rAll K) := by subst hK; exact cr_all hc
theorem k_sum (hc : X.calm = true) (hK : X.K = K := by rfl) : CallR X (.builtin "sum") (rSum K) := by subst hK; exact cr_sum hc
theorem k_sortedS (hK : X.K = K := by rfl) : CallR X (.builtin "sorted") (rSortedS K) := by subst hK; exact cr_sortedS
theorem kx_list (hK : X.K = K := by rfl) : IxR X (rIxL K) := by subst hK; exact ix_list
theorem kx_tup (hK : X.K = K := by rfl) : IxR X (rIxT K) := by subst hK; exact ix_tup
theorem ks_list (hK : X.K = K := by rfl) : SlR X (rSlL K) := by subst hK; exact sl_list
theorem ks_tup (hK : X.K = K := by rfl) : SlR X (rSlA K) := by subst hK; exact sl_tupA
theorem ko_catA (hK : X.K = K := by rfl) : OpR X (binaryOp .Add) (rCatA K) := by subst hK; exact op_catA
theorem ko_repT (hK : X.K = K := by rfl) : OpR X (binaryOp .Mult) (rRepT K) := by subst hK; exact op_repT
theorem ko_neNil {k : Nat} (hr : Room k X.A) (hK : X.K = K := by rfl) : OpR X (compareOp .NotEq) (rNeNil K) := by subst hK; exact op_neNil hr
theorem ko_eqNil {k : Nat} (hr : Room k X.A) (hK : X.K = K := by rfl) : OpR X (compareOp .Eq) (rEqNil K) := by subst hK; exact op_eqNil hr
theorem ko_eqD {k : Nat} (hr : Room k X.A) (hK : X.K = K := by rfl) : OpR X (compareOp .Eq) (rEqD K) := by subst hK; exact op_eqD hr.units
theorem ko_neD {k : Nat} (hr : Room k X.A) (hK : X.K = K := by rfl) : OpR X (compareOp .NotEq) (rNeD K) := by subst hK; exact op_neD hr.units
theorem km_ext (hK : X.K = K := by rfl) : MtM X "list.extend" (rExtT K) := by subst hK; exact mt_extT
theorem pk_list {tg l : Expr} {tl : TE} (hl : PE X l tl) (hK : X.K = K := by rfl) : PI X tg l (iList K tl) := by subst hK; exact pi_list hl
theorem pk_tup {tg l : Expr} {tl : TE} (hl : PE X l tl) (hK : X.K = K := by rfl) : PI X tg l (iTup K tl) := by subst hK; exact pi_tup hl
theorem pek_revT {e : Expr} {te : TE} {k : Nat} {p1 p2 p3 pos : Pos} (he : PE X e te) (hK : X.K = K := by rfl) :
    PE X (.Subscript e (.Slice none none (some (.UnaryOp .USub (.Constant (.int 1) k p1) p2)) p3) pos) (tRevT K te) := by subst hK; exact pe_revT he
theorem pek_revL {e : Expr} {te : TE} {k : Nat} {p1 p2 p3 pos : Pos} (he : PE X e te) (hK : X.K = K := by rfl) :
    PE X (.Subscript e (.Slice none none (some (.UnaryOp .USub (.Constant (.int 1) k p1) p2)) p3) pos) (tRevL K te) := by subst hK; exact pe_revL he
theorem pgk_tup {es : List Expr} {k n : Nat} {t : TGs} {pos : Pos} (hc : X.calm = true) (h : PGs X es t) (hK : X.K = K := by rfl)
    (hn : (assignEach es X.env).length = n := by rfl) (hst : (assignEach es X.env).findIdx? (·.1) = none := by rfl) : PG X (.Tuple es k pos) (gTup K n t) := by
  subst hK; exact pg_tup hc h hn hst
theorem pek_bm {T id : String} {name : Str} {r : V → List V → Hp → VK → Prop} {o e : Expr} {es : List Expr} {to : TE} {t : TA} {apos cpos : Pos}
    (h : PE X (.Call (.Attribute o name apos) (e :: es) [] cpos) (tBM X.K T r to t)) (hK : X.K = K := by rfl) :
    PE X (.Call (.Attribute o name apos) (e :: es) [] cpos) (tBM K T r to t) := by subst hK; exact h
end
end PK
namespace PK
open PySem PySem.Spec PyProof.Rows L2
section
open PySem.SeqAt
open PySem.AutoSeq1 (wpAny_loadPart')
open PySem.MeetsSeq PySem.MeetsSeq2 PySem.MeetsSeq3
theorem mul_one (l : Addr) (items : Array Value) (n : Nat) (dd : Option Addr) (sl : Array (Option Value)) (u : Tok) :
    Meets (Builtin.«tuple.__mul__» ⟨[.ref l, .int 1 u], []⟩) (fun _ R s => s.heap.get? l = some { cls := .type "tuple", dict := dd, data := .seq items n, slots := sl } ∧
      R (.ok (.ret (Value.ref l))) s) :=
  .of_wp fun prog w A R s h => by
    obtain ⟨hp, g, d, tk, os⟩ := s
    obtain ⟨hl, h⟩ := h
    have f1 := AutoSeq1.idx_int
    have c1 : (items.isEmpty || (1 : Int) == 1) = true := by simp
    wp_walk using wpAny_loadPart' hl
    exact ⟨_, rfl, h⟩
theorem mul_nought (l : Addr) (items : Array Value) (n : Nat) (dd : Option Addr) (sl : Array (Option Value)) (u : Tok) (c1 : (items.isEmpty || (0 : Int) == 1) = false) :
    Meets (Builtin.«tuple.__mul__» ⟨[.ref l, .int 0 u], []⟩) (fun _ R s => s.heap.get? l = some { cls := .type "tuple", dict := dd, data := .seq items n, slots := sl } ∧
      R (.ok (.ret (Value.ref s.heap.objs.size))) { s with heap := s.heap.push { cls := Value.type "tuple", data := Data.seq #[] } }) :=
  .of_wp fun prog w A R s h => by
    obtain ⟨hp, g, d, tk, os⟩ := s
    obtain ⟨hl, h⟩ := h
    have f1 := AutoSeq1.idx_int
    wp_walk using wpAny_loadPart' hl
    repeat (first
      | (refine wpAny_ite_false (decide_eq_false (by rw [c1]; exact Bool.false_ne_true)) ?_; wp_walk using wpAny_loadPart' hl))
    exact ⟨_, rfl, h⟩
end
/-- t * k, k from nought on -/
def rRepA (K : PySem.W.Frag) : R2 := fun x y H Q => ∃ l k xs, x = .ref l ∧ y = .int k ∧ SqT K H l xs ∧ xs ≠ [] ∧ 0 ≤ k ∧ k ≤ 1000 ∧ xs.length ≤ 1000 ∧
  (k = 1 → Q (.ref l) H) ∧ (k ≠ 1 → ∀ p, H p = none → Q (.ref p) (upd H p (.tup (List.replicate k.toNat xs).flatten)))
theorem ko_repA {X : Cx} (K : PySem.W.Frag) (hK : X.K = K := by rfl) : OpR X (binaryOp .Mult) (rRepA K) := by
  subst hK
  intro pins s σ H x y v u Q I rx ry h
  obtain ⟨l, k, xs, rfl, rfl, hT, hne, h0, h1, hz, q1, q2⟩ := h
  by_cases k2 : 2 ≤ k
  · exact op_repT pins s σ H _ _ v u Q I rx ry ⟨l, k, xs, rfl, rfl, hT, hne, k2, h1, hz, q2 (by omega)⟩
  · cases rx
    obtain ⟨t, rfl⟩ := ry
    obtain ⟨its, r, ⟨⟨cls, dd, data, sl⟩, ho, hc, n, hd⟩, hs⟩ := I.tuple hT
    simp only at hc hd
    subst hc hd
    have hle : its.length = xs.length := r.length.symm
    have hi : its.toArray.isEmpty = false := by
      cases its with
      | nil => exact absurd (List.eq_nil_of_length_eq_zero hle.symm) hne
      | cons _ _ => rfl
    have kk : k = 0 ∨ k = 1 := by omega
    rcases kk with rfl | rfl
    · refine wpAny_binaryOp_repeat_ref (T := "tuple") (U := "int") (by decide) ⟨_, ho, rfl⟩ (fun s' => typeIs_int s' 0 t) noFill_tuple_mul F.fills_int_mul F.slot_int_rmul repeat_tuple F.slot_int_index.lookup
        (call_meets F.slot_int_rmul (typeIs_int s 0 t) F.entry_int_rmul (F.args_int_rmul_2 _ _) (int_rmul_tuple 0 t l its.toArray n dd sl)
          ⟨ho, rfl, ⟨_, ho, rfl⟩, call_meets F.slot_tuple_mul ⟨_, ho, rfl⟩ F.entry_tuple_mul (F.args_tuple_mul_2 _ _) (mul_nought l its.toArray n dd sl t (by rw [hi]; rfl)) ⟨ho, ?_⟩⟩)
      refine ⟨.ref _, _, I.laid (t' := s.toks) (o := .tup []) (fun b ob q => Heap.get?_push_of_some _ q) (Nat.le_refl _) ?_, rfl, q2 (by decide) _ (I.hok.fresh (Nat.le_refl _))⟩
      exact ⟨Nat.zero_le _, [], .nil, ⟨_, Heap.get?_push_size _ rfl, rfl, 0, rfl⟩⟩
    · refine wpAny_binaryOp_repeat_ref (T := "tuple") (U := "int") (by decide) ⟨_, ho, rfl⟩ (fun s' => typeIs_int s' 1 t) noFill_tuple_mul F.fills_int_mul F.slot_int_rmul repeat_tuple F.slot_int_index.lookup
        (call_meets F.slot_int_rmul (typeIs_int s 1 t) F.entry_int_rmul (F.args_int_rmul_2 _ _) (int_rmul_tuple 1 t l its.toArray n dd sl)
          ⟨ho, rfl, ⟨_, ho, rfl⟩, call_meets F.slot_tuple_mul ⟨_, ho, rfl⟩ F.entry_tuple_mul (F.args_tuple_mul_2 _ _) (mul_one l its.toArray n dd sl t) ⟨ho, ?_⟩⟩)
      exact ⟨.ref l, H, I, rfl, q1 rfl⟩
end PK
namespace PK
open PySem PySem.Spec PyProof.Rows L2 RZ
/-- the second clause's own loop, to Nx -/
def Inner (J1 : It) (g1 : TG) (tt1 : TT) (te : TE) (vs1 : List Nat) (σ2 : L2.St) (D : Addr) (Nx : Hp → Prop) (H4 : Hp) : Prop :=
  ∃ W1 : Nat → Nat → Hp → Prop, (∃ m, W1 0 m H4) ∧ ∀ j k H, W1 j k H →
      (J1.stop j H ∧ Nx H) ∨ (J1.go j H ∧ ∃ Nx1 : Hp → Prop, (∀ H', Nx1 H' → ∃ k', k' < k ∧ W1 (j + 1) k' H') ∧
        ∀ x H', J1.yld j H x H' → g1 x (wipe σ2 vs1) H' fun σ3 H5 => wipe σ3 vs1 = wipe σ2 vs1 ∧ tt1 σ3 H5 fun b H6 =>
        if b = true then te σ3 H6 fun y H7 => ∃ acc, H7 D = some (.lst acc) ∧ acc.length < sizeLine ∧ Nx1 (upd H7 D (.lst (acc ++ [y]))) else Nx1 H6)
section
variable {J J1 : It} {n n1 : Nat} {G G1 : Hp → Prop} {Y Y1 : Nat → Hp → V → Hp → Prop}
theorem inner_it (w : Walk J1 n1 G1 Y1) {g1 : TG} {tt1 : TT} {te : TE} {vs1 : List Nat} {σ2 : L2.St} {D : Addr} {Nx : Hp → Prop} {H4 : Hp}
    (Pv : Nat → Hp → Prop) (h0 : Pv 0 H4) (hG : ∀ j H, j ≤ n1 → Pv j H → G1 H)
    (hs : ∀ j x H H', j < n1 → Pv j H → Y1 j H x H' → g1 x (wipe σ2 vs1) H' fun σ3 H5 => wipe σ3 vs1 = wipe σ2 vs1 ∧ tt1 σ3 H5 fun b H6 =>
        if b = true then te σ3 H6 fun y H7 => ∃ acc, H7 D = some (.lst acc) ∧ acc.length < sizeLine ∧ Pv (j + 1) (upd H7 D (.lst (acc ++ [y]))) else Pv (j + 1) H6)
    (hd : ∀ H, Pv n1 H → Nx H) : Inner J1 g1 tt1 te vs1 σ2 D Nx H4 := by
  refine ⟨fun j m H => m = n1 - j ∧ j ≤ n1 ∧ Pv j H, ⟨n1, rfl, Nat.zero_le _, h0⟩, ?_⟩
  rintro j m H ⟨rfl, hj, p⟩
  have q := hG j H hj p
  by_cases hlt : j < n1
  · exact Or.inr ⟨w.goes j H hlt q, Pv (j + 1), fun H' p' => ⟨n1 - (j + 1), by omega, rfl, hlt, p'⟩, fun x H' y => hs j x H H' hlt p (w.yields j H x H' hlt q y)⟩
  · have e : j = n1 := by omega
    subst e
    exact Or.inl ⟨w.stops H q, hd H p⟩
theorem outer_it (w : Walk J n G Y) {g g1 : TG} {tt tt1 : TT} {wi1 : TI} {te : TE} {vs vs1 : List Nat} {σ : L2.St} {D : Addr} {H1 : Hp} {Qd : Hp → Prop}
    (Pv : Nat → Hp → Prop) (h0 : Pv 0 (upd H1 D (.lst []))) (hG : ∀ i H, i ≤ n → Pv i H → G H)
    (hs : ∀ i x H H', i < n → Pv i H → Y i H x H' → g x (wipe σ vs) H' fun σ2 H2 => wipe σ2 vs = wipe σ vs ∧ tt σ2 H2 fun b H3 =>
      if b = true then wi1 σ2 H3 fun J1 H4 => Inner J1 g1 tt1 te vs1 σ2 D (Pv (i + 1)) H4 else Pv (i + 1) H3)
    (hd : ∀ H, Pv n H → Qd H) :
    ∃ W : Nat → Nat → Hp → Prop, (∃ m, W 0 m (upd H1 D (.lst []))) ∧ ∀ i m H, W i m H →
      (J.stop i H ∧ Qd H) ∨ (J.go i H ∧ ∃ Nx : Hp → Prop, (∀ H', Nx H' → ∃ m', m' < m ∧ W (i + 1) m' H') ∧
        ∀ x H', J.yld i H x H' → g x (wipe σ vs) H' fun σ2 H2 => wipe σ2 vs = wipe σ vs ∧ tt σ2 H2 fun b H3 =>
        if b = true then wi1 σ2 H3 fun J1 H4 => Inner J1 g1 tt1 te vs1 σ2 D Nx H4 else Nx H3) := by
  refine ⟨fun i m H => m = n - i ∧ i ≤ n ∧ Pv i H, ⟨n, rfl, Nat.zero_le _, h0⟩, ?_⟩
  rintro i m H ⟨rfl, hi, p⟩
  have q := hG i H hi p
  by_cases hlt : i < n
  · exact Or.inr ⟨w.goes i H hlt q, Pv (i + 1), fun H' p' => ⟨n - (i + 1), by omega, rfl, hlt, p'⟩, fun x H' y => hs i x H H' hlt p (w.yields i H x H' hlt q y)⟩
  · have e : i = n := by omega
    subst e
    exact Or.inl ⟨w.stops H q, hd H p⟩
end
/-- zip of two tuples of one length -/
theorem walk_zipT {K : PySem.W.Frag} {a b : Addr} {xs ys : List V} {n : Nat} (hn : n = min xs.length ys.length) :
    Walk (ItzT K a b) n (fun H => SqT K H a xs ∧ SqT K H b ys) (YPair (fun i => xs[i]?) (fun i => ys[i]?)) := by
  subst hn
  refine ⟨fun i _ hi q => ?_, fun _ q => ⟨xs, ys, q.1, q.2, by omega⟩, fun i H v H' _ q y => ?_⟩
  · have h1 : i < xs.length := by omega
    have h2 : i < ys.length := by omega
    exact ⟨xs, ys, xs[i], ys[i], q.1, q.2, by simp [h1], by simp [h2]⟩
  · obtain ⟨T, x, z, h1, h2, h3, h4, h5⟩ := y
    exact ⟨T, x, z, h1, h2, h3, h4 xs q.1, h5 ys q.2⟩
theorem pk_zip {X : Cx} (K : PySem.W.Frag) {e e2 : Expr} {ta : TA} {p pos tpos : Pos} {elts : List Expr} {kk : Nat} (hg : Gl X "zip") (hm : X.mg "zip" = none) (ha : PA X [e, e2] ta) (hK : X.K = K := by rfl)
    (hs : starEach [e, e2] X.env = (false, eval e X.env) :: starEach [e2] X.env := by rfl) (hpl : (backTo pos (starEach [e2] X.env)).any (·.1) = false := by rfl) :
    PI X (.Tuple elts kk tpos) (.Call (.Name "zip" p) [e, e2] [] pos) (iZipA K ta) := by
  subst hK; exact pi_zipA hg hm ha hs hpl
end PK
/-! Defs with defaults, called by places and by names. -/
namespace PK
open PySem PySem.Spec PyProof.Rows L2 RZ
/-- a def of the text with defaults dvs -/
abbrev FunDf (K : PySem.W.Frag) (x : Str) (st : Stmt) (dvs : List V) (f : Addr) (fd : FuncData) : Prop := FunD K x x (defArgs st) (defBody st) (defScope st) dvs [] f fd
theorem fund_mk {K : PySem.W.Frag} {x qual : Str} {st : Stmt} {f T : Addr} {oc : Value} {od an : Option Addr} {osl : Array (Option Value)} {kV doc pm cdv ct : Value} {o : Obj} {its : List Value} {n : Nat} {dvs : List V}
    (l : K.lookup f = some ⟨oc, od, .func (PySem.W.fnOf x qual (defArgs st) (defBody st) (defScope st) (.ref T) kV doc pm an cdv ct), osl⟩)
    (c : PySem.W.codeIn K cdv qual = true) (k : PySem.W.keepIn K (.ref f) = true) (lT : K.lookup T = some o) (oT : o.data = .seq its.toArray n) (r : Vals dvs its) (hd : dvs ≠ []) :
    FunD K x qual (defArgs st) (defBody st) (defScope st) dvs [] f (PySem.W.fnOf x qual (defArgs st) (defBody st) (defScope st) (.ref T) kV doc pm an cdv ct) :=
  ⟨⟨oc, od, .ref T, kV, doc, pm, an, cdv, ct, osl, rfl, l, c, Or.inr ⟨hd, T, o, its, n, rfl, lT, oT, r⟩, Or.inl rfl⟩, k⟩
/-- how such a call binds: n values by their places, ks the names of the others -/
def KB (K : PySem.W.Frag) (fd : FuncData) (ps : List Str) (n : Nat) (ks : List Str) (gV : List V → List V → List V) : Prop :=
  ∃ g : List Value → List Value → List Value, KBn K fd ps n ks g gV
theorem kb_of {K : PySem.W.Frag} {x qual : Str} {params : Arguments} {body : List Stmt} {scope : Scope} {dvs : List V} {f : Addr} {fd : FuncData} {ps : List Str}
    (F : FunD K x qual params body scope dvs [] f fd) (n : Nat) (ks : List Str) (g : {α : Type} → List α → List α → List α → List α) (hd : dvs ≠ [])
    (hrel : ∀ {vs ds zs : List V} {us its ws : List Value}, Vals vs us → Vals ds its → Vals zs ws → Vals (g vs ds zs) (g us its ws))
    (h : ∀ (T : Addr) (kV doc pm : Value) (an : Option Addr) (cdv ct : Value) (us its ws : List Value), us.length = n → its.length = dvs.length → ws.length = ks.length →
      (∃ k, bindArgs (PySem.W.fnOf x qual params body scope (.ref T) kV doc pm an cdv ct) ⟨us, ks.zip ws⟩ = seqItems? (.ref T) >>= k ∧ k (some its.toArray) = pure (ps.zip (g us its ws)))) :
    KB K fd ps n ks (fun vs zs => g vs dvs zs) := by
  obtain ⟨oc, od, dV, kV, doc, pm, an, cdv, ct, osl, rfl, lk, hcd, hD, hK⟩ := F.ex
  rcases hD with ⟨e, _⟩ | ⟨_, T, o, its, m, rfl, lT, oT, rT⟩
  · exact absurd e hd
  · refine ⟨fun us ws => g us its ws, fun s us ws X l1 l2 => ?_, fun r1 r2 => hrel r1 rT r2⟩
    obtain ⟨k, e1, e2⟩ := h T kV doc pm an cdv ct us its ws l1 rT.length.symm l2
    refine BindsTo.of_looks fun M => ?_
    rw [e1]
    exact looks_items X lT oT (PySem.W.Looks.of_pure e2)
/-- all are given: no default is looked at -/
theorem kb_all {K : PySem.W.Frag} {x qual : Str} {params : Arguments} {body : List Stmt} {scope : Scope} {dvs : List V} {f : Addr} {fd : FuncData} {ps : List Str}
    (F : FunD K x qual params body scope dvs [] f fd) (n : Nat) (ks : List Str) (g : {α : Type} → List α → List α → List α)
    (hrel : ∀ {vs zs : List V} {us ws : List Value}, Vals vs us → Vals zs ws → Vals (g vs zs) (g us ws))
    (h : ∀ (T kV doc pm : Value) (an : Option Addr) (cdv ct : Value) (us ws : List Value), us.length = n → ws.length = ks.length →
      bindArgs (PySem.W.fnOf x qual params body scope T kV doc pm an cdv ct) ⟨us, ks.zip ws⟩ = pure (ps.zip (g us ws))) :
    KB K fd ps n ks (fun vs zs => g vs zs) := by
  obtain ⟨oc, od, dV, kV, doc, pm, an, cdv, ct, osl, rfl, lk, hcd, hD, hK⟩ := F.ex
  exact ⟨fun us ws => g us ws, fun s us ws X l1 l2 => .of_eq (h dV kV doc pm an cdv ct us ws l1 l2), fun r1 r2 => hrel r1 r2⟩
section
variable {X : Cx} {CX : CXT} {k n : Nat} {f : Addr} {fd : FuncData} {ps ks : List Str} {sp : Sp} {E : XK} {x : Str} {p pos : Pos} {e : Expr} {es : List Expr} {kws : List Keyword} {t tk : TA} {gV : List V → List V → List V}
theorem pe_kb (F : FnOk X.prog X.w X.K X.mg X.base CX k f fd ps sp) (hr : Room k X.A) (hg : Gl X x) (hm : X.mg x = some (.ref f)) (hk : PySem.W.keepIn X.K (.ref f) = true) (hb : KB X.K fd ps n ks gV) (hx : Passes CX X E)
    (ha : PA X (e :: es) t) (hkw : PK X kws tk) (hall : (backToKw pos (keywordEach kws X.env)).all (·.1.isSome) = true := by rfl) (hks : (backToKw pos (keywordEach kws X.env)).filterMap (·.1) = ks := by rfl)
    (hdb : (x == ("__debug__" : Str)) = false := by decide) (he : starEach (e :: es) X.env = (false, eval e X.env) :: starEach es X.env := by rfl)
    (hpl : ((backTo pos (starEach (e :: es) X.env)).any (·.1) || (backToKw pos (keywordEach kws X.env)).any (·.1.isNone)) = false := by rfl) :
    PE X (.Call (.Name x p) (e :: es) kws pos) (tCallN n ks.length sp gV E t tk) := by
  obtain ⟨g, hb⟩ := hb
  exact pe_callN F hr hg hm hk hb hx ha hkw hall hks hdb he hpl
theorem pe_kb0 (F : FnOk X.prog X.w X.K X.mg X.base CX k f fd ps sp) (hr : Room k X.A) (hg : Gl X x) (hm : X.mg x = some (.ref f)) (hk : PySem.W.keepIn X.K (.ref f) = true) (hb : KB X.K fd ps n ks gV) (hx : Passes CX X E)
    (hkw : PK X kws tk) (hall : (backToKw pos (keywordEach kws X.env)).all (·.1.isSome) = true := by rfl) (hks : (backToKw pos (keywordEach kws X.env)).filterMap (·.1) = ks := by rfl)
    (hdb : (x == ("__debug__" : Str)) = false := by decide)
    (hpl : ((backTo pos (starEach [] X.env)).any (·.1) || (backToKw pos (keywordEach kws X.env)).any (·.1.isNone)) = false := by rfl) :
    PE X (.Call (.Name x p) [] kws pos) (tCallN n ks.length sp gV E tNil tk) := by
  obtain ⟨g, hb⟩ := hb
  refine ⟨fun pins s σ H Q I h => wpAny_Call_Name_kw (ld_glob I hg hm ?_ hdb)⟩
  refine PySem.W.callWith_KW0 (h₀ := X.base) I.ok.mod.kin hk hall (thn (hkw.run pos pins s σ H _ I h) ?_) hpl
  rintro ws s2 ⟨zs, H2, J, rz, l1, l2, q⟩
  refine ⟨J.kIn, ?_⟩
  rw [hks]
  exact run_fnN (us := []) F hr hb hx J .nil rz l1 l2 q
end
structure CalD (P : Program) (w : World) (K : PySem.W.Frag) (mg : Str → Option Value) (base : Heap) (k : Nat) (x : Str) (f : Addr)
    (fd : FuncData) (ps : List Str) (sp : Sp) : Prop where
  ok : FnOk P w K mg base CX0 k f fd ps sp
  g : mg x = some (.ref f)
  kp : PySem.W.keepIn K (.ref f) = true
/-! ### lengths of choices -/
theorem choices_len : ∀ ls : List Nat, ∀ c ∈ choicesM ls, c.length = ls.length := by
  refine snocInd (P := fun ls => ∀ c ∈ choicesM ls, c.length = ls.length) (fun c hc => ?_) ?_
  · have e : c = [] := by simpa [choicesM] using hc
    subst e
    rfl
  · intro ls L ih c hc
    have e : choicesM (ls ++ [L]) = grow (choicesM ls) L := by
      unfold choicesM
      rw [List.foldl_append]
      rfl
    rw [e] at hc
    unfold grow at hc
    obtain ⟨d, hd, hc⟩ := List.mem_flatMap.mp hc
    obtain ⟨p, _, rfl⟩ := List.mem_map.mp hc
    rw [List.length_append, List.length_append, ih d hd]
    rfl
theorem choices_in : ∀ ls : List Nat, ∀ c ∈ choicesM ls, ∀ (i : Nat) (p : Int), c[i]? = some p → ∃ L, ls[i]? = some L ∧ 0 ≤ p ∧ p < (L : Int) := by
  refine snocInd (P := fun ls => ∀ c ∈ choicesM ls, ∀ (i : Nat) (p : Int), c[i]? = some p → ∃ L, ls[i]? = some L ∧ 0 ≤ p ∧ p < (L : Int)) (fun c hc i p h => ?_) ?_
  · have e : c = [] := by simpa [choicesM] using hc
    rw [e] at h
    simp at h
  · intro ls L ih c hc i p h
    have e : choicesM (ls ++ [L]) = grow (choicesM ls) L := by
      unfold choicesM
      rw [List.foldl_append]
      rfl
    rw [e] at hc
    unfold grow at hc
    obtain ⟨d, hd, hc⟩ := List.mem_flatMap.mp hc
    obtain ⟨q, hq, rfl⟩ := List.mem_map.mp hc
    have ld := choices_len ls d hd
    by_cases hi : i < d.length
    · rw [List.getElem?_append_left hi] at h
      obtain ⟨M, hM, h0, h1⟩ := ih d hd i p h
      exact ⟨M, by rw [List.getElem?_append_left (by omega)]; exact hM, h0, h1⟩
    · rw [List.getElem?_append_right (by omega)] at h
      have hi2 : i - d.length = 0 := by
        have := (List.getElem?_eq_some_iff.mp h).1
        simp at this
        omega
      rw [hi2] at h
      have ep : (q : Int) = p := by simpa using h
      have hq' := List.mem_range.mp hq
      refine ⟨L, ?_, by omega, by omega⟩
      rw [List.getElem?_append_right (by omega)]
      have : i - ls.length = 0 := by omega
      rw [this]
      rfl
theorem total_le {ls : List Nat} {k : Nat} (h : ∀ L ∈ ls, L ≤ k) (hk : 1 ≤ k) : total ls ≤ k ^ ls.length := by
  revert h
  refine snocInd (P := fun ls => (∀ L ∈ ls, L ≤ k) → total ls ≤ k ^ ls.length) (fun _ => Nat.le_refl 1) ?_ ls
  intro ls L ih h
  rw [total_snoc, List.length_append]
  show total ls * L ≤ k ^ (ls.length + 1)
  rw [Nat.pow_succ]
  exact Nat.mul_le_mul (ih fun x hx => h x (by simp [hx])) (h L (by simp))
theorem choices_count (ls : List Nat) (h : ∀ L ∈ ls, 0 < L) : (choicesM ls).length = total ls := by
  rw [← counted_choices ls h, List.length_map, List.length_range]
theorem SheetOk.mono {a b c d : Nat} {x : Sheet} (h : SheetOk a b x) (h1 : a ≤ c) (h2 : b ≤ d) : SheetOk c d x :=
  ⟨Nat.le_trans h.len h1, fun r hr => ⟨(h.each r hr).some, (h.each r hr).len, fun w hw => ⟨Nat.le_trans ((h.each r hr).each w hw).len h2, ((h.each r hr).each w hw).each⟩⟩⟩
/-- the rule for a def that shows things and lets no exception out -/
theorem funG_ok {P : Program} {w : World} {K : PySem.W.Frag} {mg : Str → Option Value} {base : Heap} {k : Nat} {f : Addr} {fd : FuncData}
    {x qual : Str} {st : Stmt} {N ps : List Str} {sp : Sp} (F : Fun K x qual st f fd) (S : FnScope N ps (defScope st))
    (len : ∀ vs H Q E, sp vs H Q E → vs.length = ps.length)
    (hbody : ∀ (cdv : Value) (A : Around) (outer : List Env) (s : Shared) (H : Hp) (vs : List V) (Q : VK) (E : XK), A.guards = some [] →
      Room k (A.deeper (envOfC qual (defScope st) s.heap.objs.size f cdv)) → sp vs H Q E →
      ∃ t, PSs (cxOf CX0 P w K mg base N qual (defScope st) f cdv A outer s H E).nox (defBody st) t ∧
        t { nx := fun _ H' => Q .non H', rt := Q } (start N vs) H) : FnG P w K mg base CX0 (k + 1) f fd ps sp :=
  fnG_of F S len fun cdv A outer s H vs Q E hg hr h => by
    obtain ⟨t, ht, hq⟩ := hbody cdv A outer s H vs Q E hg hr h
    exact ⟨t, ht.nox, hq⟩
end PK
/-! The order of data; sorted and min of data; sorted of a dict with tuple keys. -/
namespace PK
open PySem PySem.Spec PyProof.Rows L2
/-! ### the order -/
abbrev dlt : PyData → PyData → Bool := PySem.W.dataLt
mutual
theorem eqv_eq : ∀ (x y : PyData), PySem.W.alike x y = true → PyData.eqv x y = true → x = y
  | .none, y, h, e => by cases y <;> simp [PySem.W.alike] at h <;> rfl
  | .bool _, y, h, e => by cases y <;> simp [PySem.W.alike] at h; simpa [PyData.eqv] using e
  | .int _, y, h, e => by cases y <;> simp [PySem.W.alike] at h; simpa [PyData.eqv] using e
  | .str _, y, h, e => by cases y <;> simp [PySem.W.alike] at h; simpa [PyData.eqv] using e
  | .list xs, y, h, e => by
    cases y with
    | list ys => rw [eqvAll_eq xs ys (by simpa [PySem.W.alike] using h) (by simpa [PyData.eqv] using e)]
    | _ => simp [PySem.W.alike] at h
  | .tuple xs, y, h, e => by
    cases y with
    | tuple ys => rw [eqvAll_eq xs ys (by simpa [PySem.W.alike] using h) (by simpa [PyData.eqv] using e)]
    | _ => simp [PySem.W.alike] at h
  | .dict _, y, h, e => by cases y <;> simp [PySem.W.alike] at h
theorem eqvAll_eq : ∀ (xs ys : List PyData), PySem.W.alikeAll xs ys = true → PyData.eqvAll xs ys = true → xs = ys
  | [], [], _, _ => rfl
  | [], _ :: _, _, e => by simp [PyData.eqvAll] at e
  | _ :: _, [], _, e => by simp [PyData.eqvAll] at e
  | x :: xs, y :: ys, h, e => by
    obtain ⟨h1, h2⟩ := PySem.W.alike_all_cons h
    rw [PySem.W.eqv_all_cons, Bool.and_eq_true] at e
    rw [eqv_eq x y h1 e.1, eqvAll_eq xs ys h2 e.2]
end
mutual
theorem eqv_refl : ∀ (x : PyData), flatT x = true → PyData.eqv x x = true
  | .none, _ => by simp [PyData.eqv]
  | .bool _, _ => by simp [PyData.eqv]
  | .int _, _ => by simp [PyData.eqv]
  | .str _, _ => by simp [PyData.eqv]
  | .list _, h => by simp [flatT] at h
  | .dict _, h => by simp [flatT] at h
  | .tuple xs, h => by
    rw [PyData.eqv]
    exact eqvAll_refl xs (by simpa [flatT] using h)
theorem eqvAll_refl : ∀ (xs : List PyData), flatTs xs = true → PyData.eqvAll xs xs = true
  | [], _ => by simp [PyData.eqvAll]
  | x :: xs, h => by
    have h' : flatT x = true ∧ flatTs xs = true := by simpa [flatTs] using h
    rw [PySem.W.eqv_all_cons, eqv_refl x h'.1, eqvAll_refl xs h'.2]
    rfl
end
theorem eqv_false {x y : PyData} (h : PySem.W.alike x y = true) (e : x ≠ y) : PyData.eqv x y = false := by
  cases q : PyData.eqv x y with
  | false => rfl
  | true => exact absurd (eqv_eq x y h q) e
theorem dlt_irr (x : PyData) : dlt x x = false := PyProof.Rows.lex_irrefl _
theorem dlt_tr {x y z : PyData} (h1 : dlt x y = true) (h2 : dlt y z = true) : dlt x z = true := PyProof.Rows.lex_trans _ _ _ h1 h2
theorem dlt_asym {x y : PyData} (h : dlt x y = true) : dlt y x = false := by
  cases q : dlt y x with
  | false => rfl
  | true =>
    have := dlt_tr h q
    rw [dlt_irr] at this
    cases this
theorem dlt_split {x z : PyData} (y : PyData) (h : dlt x z = true) : dlt x y = true ∨ dlt y z = true := PyProof.Rows.lex_negTrans _ _ _ h
theorem dlt_tot {x y : PyData} (h : PySem.W.alike x y = true) (e : x ≠ y) : dlt x y = true ∨ dlt y x = true := by
  cases q1 : dlt x y with
  | true => exact Or.inl rfl
  | false =>
    cases q2 : dlt y x with
    | true => exact Or.inr rfl
    | false =>
      have et := PyProof.Rows.lex_total _ _ q1 q2
      have f := (PySem.W.toks_eqv x y h).2 (eqv_false h e) [.inl 0] [.inl 1]
      rw [et, PySem.W.lex_pre, PyProof.Rows.lex_irrefl] at f
      exact absurd f (by decide)
/-- rising -/
def Rises (ds : List PyData) : Prop := ds.Pairwise fun x y => dlt x y = true
theorem rises_ext : ∀ {xs ys : List PyData}, Rises xs → Rises ys → (∀ d, d ∈ xs ↔ d ∈ ys) → xs = ys
  | [], [], _, _, _ => rfl
  | [], y :: _, _, _, h => nomatch (h y).mpr List.mem_cons_self
  | x :: _, [], _, _, h => nomatch (h x).mp List.mem_cons_self
  | x :: xs, y :: ys, h1, h2, h => by
    obtain ⟨a1, a2⟩ := List.pairwise_cons.mp h1
    obtain ⟨b1, b2⟩ := List.pairwise_cons.mp h2
    have e : x = y := by
      rcases List.mem_cons.mp ((h x).mp List.mem_cons_self) with q | q
      · exact q
      · rcases List.mem_cons.mp ((h y).mpr List.mem_cons_self) with q2 | q2
        · exact q2.symm
        · have c1 := b1 x q
          have c2 := dlt_asym (a1 y q2)
          rw [c1] at c2
          cases c2
    subst e
    have nx : x ∉ xs := fun q => by
      have := a1 x q
      rw [dlt_irr] at this
      cases this
    have ny : x ∉ ys := fun q => by
      have := b1 x q
      rw [dlt_irr] at this
      cases this
    rw [rises_ext a2 b2 fun d => ⟨fun hd => ?_, fun hd => ?_⟩]
    · rcases List.mem_cons.mp ((h d).mp (List.mem_cons_of_mem _ hd)) with q | q
      · subst q
        exact absurd hd nx
      · exact q
    · rcases List.mem_cons.mp ((h d).mpr (List.mem_cons_of_mem _ hd)) with q | q
      · subst q
        exact absurd hd ny
      · exact q
/-! ### sorted -/
def srt {α : Type} (rev : Bool) (k : α → PyData) (bs : List α) : List α := bs.mergeSort (PySem.W.dataLe rev k)
theorem srt_perm {α : Type} (rev : Bool) (k : α → PyData) (bs : List α) : (srt rev k bs).Perm bs := List.mergeSort_perm _ _
theorem srt_up {α : Type} (k : α → PyData) (bs : List α) : (srt false k bs).Pairwise fun x y => dlt (k y) (k x) = false := by
  have tr : ∀ a b c : α, PySem.W.dataLe false k a b = true → PySem.W.dataLe false k b c = true → PySem.W.dataLe false k a c = true := by
    intro a b c h1 h2
    rw [PySem.W.dataLe_eq] at h1 h2 ⊢
    simp only [cond_false, Bool.not_eq_true'] at h1 h2 ⊢
    cases q : PySem.W.dataLt (k c) (k a) with
    | false => rfl
    | true =>
      rcases dlt_split (k b) q with z | z
      · rw [show PySem.W.dataLt (k c) (k b) = true from z] at h2
        cases h2
      · rw [show PySem.W.dataLt (k b) (k a) = true from z] at h1
        cases h1
  have tot : ∀ a b : α, (PySem.W.dataLe false k a b || PySem.W.dataLe false k b a) = true := by
    intro a b
    rw [PySem.W.dataLe_eq]
    simp only [cond_false]
    cases q : PySem.W.dataLt (k b) (k a) with
    | false => rfl
    | true =>
      have := dlt_asym q
      rw [show PySem.W.dataLt (k a) (k b) = false from this]
      rfl
  refine (List.pairwise_mergeSort tr tot bs).imp fun {a b} h => ?_
  rw [PySem.W.dataLe_eq] at h
  simpa using h
/-- alike, all different: strictly rising -/
theorem srt_rises {α : Type} {k : α → PyData} {bs : List α} (ha : PySem.W.AllAlike (bs.map k)) (hn : (bs.map k).Nodup) : Rises ((srt false k bs).map k) := by
  have p := (srt_perm false k bs).map k
  have hn' : ((srt false k bs).map k).Nodup := p.nodup_iff.mpr hn
  have up : ((srt false k bs).map k).Pairwise fun x y => dlt y x = false := List.pairwise_map.mpr (srt_up k bs)
  have ha' : PySem.W.AllAlike ((srt false k bs).map k) := fun d hd e he => ha d (p.mem_iff.mp hd) e (p.mem_iff.mp he)
  generalize (srt false k bs).map k = ds at hn' up ha'
  have both : ds.Pairwise fun x y => x ≠ y ∧ dlt y x = false := by
    have := hn'
    unfold List.Nodup at this
    exact List.pairwise_and_iff.mpr ⟨this, up⟩
  clear up hn'
  unfold Rises
  induction ds with
  | nil => exact List.Pairwise.nil
  | cons d ds ih =>
    obtain ⟨h1, h2⟩ := List.pairwise_cons.mp both
    refine List.pairwise_cons.mpr ⟨fun e he => ?_, ih (fun a h b h' => ha' a (List.mem_cons_of_mem _ h) b (List.mem_cons_of_mem _ h')) h2⟩
    obtain ⟨q1, q2⟩ := h1 e he
    rcases dlt_tot (ha' d List.mem_cons_self e (List.mem_cons_of_mem _ he)) q1 with z | z
    · exact z
    · rw [z] at q2
      cases q2
/-! ### the rules -/
structure Cmpb (ds : List PyData) : Prop where
  al : PySem.W.AllAlike ds
  so : PySem.W.Sortable ds
  dp : ∀ d ∈ ds, d.depth ≤ 90
theorem dp_pairs {K : PySem.W.Frag} {H : Hp} : ∀ {bs : List (V × PyData)}, (∀ b ∈ bs, Dp K H b.1 b.2) → DpAll K H (bs.map (·.1)) (bs.map (·.2))
  | [], _ => .nil
  | b :: bs, h => .cons (h b List.mem_cons_self) (dp_pairs fun c hc => h c (List.mem_cons_of_mem _ hc))
theorem dp_zip {K : PySem.W.Frag} {H : Hp} : ∀ {xs : List V} {ds : List PyData}, DpAll K H xs ds → (∀ b ∈ xs.zip ds, Dp K H b.1 b.2) ∧ (xs.zip ds).map (·.1) = xs ∧ (xs.zip ds).map (·.2) = ds
  | _, _, .nil => ⟨fun _ h => (nomatch h), rfl, rfl⟩
  | x :: xs, d :: ds, .cons h1 h2 => by
    obtain ⟨a, b, c⟩ := dp_zip h2
    refine ⟨fun p hp => ?_, ?_, ?_⟩
    · rcases List.mem_cons.mp hp with rfl | q
      · exact h1
      · exact a p q
    · show x :: (xs.zip ds).map (·.1) = _
      rw [b]
    · show d :: (xs.zip ds).map (·.2) = _
      rw [c]
theorem each_vals {bs : List (V × PyData)} : ∀ {us : List Value}, Vals (bs.map (·.1)) us → PySem.W.EachIs (fun v b => RelV b.1 v) us bs := by
  induction bs with
  | nil =>
    intro us r
    cases r
    exact .nil
  | cons b bs ih =>
    intro us r
    cases r with
    | cons r1 r2 => exact .cons r1 (ih r2)
theorem vals_each {bs : List (V × PyData)} : ∀ {us : List Value}, PySem.W.EachIs (fun v b => RelV b.1 v) us bs → Vals (bs.map (·.1)) us
  | _, .nil => .nil
  | _, .cons r1 r2 => .cons r1 (vals_each r2)
theorem each_reads {X : Cx} {pins : List (Addr × Obj)} {σ : L2.St} {H : Hp} {s : Shared} (I : Inv X pins σ H s) : ∀ {bs : List (V × PyData)} {us : List Value}, PySem.W.EachIs (fun v b => RelV b.1 v) us bs → (∀ b ∈ bs, Dp X.K H b.1 b.2) →
    PySem.W.EachIs (fun v (b : V × PyData) => ∃ as, Reads s.heap v b.2 as) us bs
  | _, _, .nil, _ => .nil
  | _, _, .cons r1 r2, h => .cons (Dp.reads I _ _ _ (h _ List.mem_cons_self) r1) (each_reads I r2 fun b hb => h b (List.mem_cons_of_mem _ hb))
theorem vals_back : ∀ {xs : List V} {us : List Value} {i : Nat} {u : Value}, Vals xs us → us[i]? = some u → ∃ x, xs[i]? = some x ∧ RelV x u
  | _, _, _, _, .nil, h => by simp at h
  | x :: _, _, 0, u, .cons r _, h => ⟨x, rfl, by
    have e := Option.some.inj h
    rw [← e]; exact r⟩
  | _, _, i + 1, _, .cons _ r, h => by
    obtain ⟨x, e, q⟩ := vals_back (i := i) r (by simpa using h)
    exact ⟨x, by simpa using e, q⟩
section
variable {X : Cx}
/-- sorted(xs) of a list of data -/
def rSrt (K : PySem.W.Frag) : List V → Hp → VK → Prop := fun vs H Q => ∃ (a : Addr) (xs : List V) (ds : List PyData), vs = [.ref a] ∧ SqL K H a xs ∧ DpAll K H xs ds ∧ Cmpb ds ∧ xs.length ≤ sizeLine ∧
  ∀ p, H p = none → Q (.ref p) (upd H p (.lst ((srt false (·.2) (xs.zip ds)).map (·.1))))
theorem call_srt {k : Nat} (hr : Room k X.A) : CallR X (.builtin "sorted") (rSrt X.K) := by
  intro pins s σ H vs us Q I r h
  obtain ⟨a, xs, ds, rfl, hs, hd, hc, hz, q⟩ := h
  obtain ⟨its, rv, hl, _⟩ := I.list hs
  rw [Vals.ref1 r]
  obtain ⟨z1, z2, z3⟩ := dp_zip hd
  have e : PySem.W.EachIs (fun v (b : V × PyData) => RelV b.1 v) its (xs.zip ds) := each_vals (by rw [z2]; exact rv)
  have er := each_reads I e z1
  have hu := hr.un
  have lz : (xs.zip ds).length ≤ sizeLine := by
    have := congrArg List.length z2
    rw [List.length_map] at this
    omega
  refine PySem.W.sorted_data (enc := fun b : V × PyData => b.2) hl.isList e er (by rw [z3]; exact hc.al) (by rw [z3]; exact hc.so) lz (fun b hb => ?_) fun out lo eo => ?_
  · have := hc.dp b.2 (by rw [← z3]; exact List.mem_map.mpr ⟨b, hb, rfl⟩)
    omega
  · obtain ⟨ep, he'⟩ := PyProof.Rows.sortedAll_at s.heap its (List.toArray out)
    refine ⟨.ref _, upd H (s.heap.objs.size + 1) (.lst ((srt false (·.2) (xs.zip ds)).map (·.1))), I.laid (t' := s.toks) (fun _ _ => PyProof.Rows.sortedAll_old) (Nat.le_succ _) ⟨?_, out, ep, vals_each eo, he'⟩, rfl, q _ (I.hok.fresh (Nat.le_succ _))⟩
    rw [List.length_map, (srt_perm _ _ _).length_eq]
    exact lz
/-- min(xs) of a list of data -/
def rMinDt (K : PySem.W.Frag) : List V → Hp → VK → Prop := fun vs H Q => ∃ (a : Addr) (xs : List V) (d : PyData) (ds : List PyData), vs = [.ref a] ∧ SqL K H a xs ∧ DpAll K H xs (d :: ds) ∧ PySem.W.AlikeAll (d :: ds) ∧ (∀ e ∈ d :: ds, e.depth ≤ 90) ∧
  ∀ (i : Nat) (x : V), xs[i]? = some x → Dp K H x (PySem.W.minD d ds) → Q x H
theorem depthAll_le {n : Nat} : ∀ {ds : List PyData}, (∀ d ∈ ds, d.depth ≤ n) → PyData.depthAll ds ≤ n
  | [], _ => Nat.zero_le _
  | d :: ds, h => Nat.max_le.mpr ⟨h d List.mem_cons_self, depthAll_le fun e he => h e (List.mem_cons_of_mem _ he)⟩
theorem minD_at : ∀ (ds : List PyData) (d : PyData), (PySem.W.minD d ds = d ∨ PySem.W.minD d ds ∈ ds) ∧ dlt d (PySem.W.minD d ds) = false ∧ ∀ e ∈ ds, dlt e (PySem.W.minD d ds) = false
  | [], d => ⟨Or.inl rfl, dlt_irr d, fun _ h => (nomatch h)⟩
  | e :: ds, d => by
    show (PySem.W.minD (if dlt e d then e else d) ds = d ∨ _) ∧ _
    have ee : PySem.W.minD d (e :: ds) = PySem.W.minD (if dlt e d then e else d) ds := rfl
    rw [ee]
    cases q : dlt e d with
    | true =>
      obtain ⟨h1, h2, h3⟩ := minD_at ds e
      refine ⟨Or.inr ?_, ?_, fun f hf => ?_⟩
      · rcases h1 with z | z
        · show PySem.W.minD e ds ∈ _
          rw [z]; exact List.mem_cons_self
        · exact List.mem_cons_of_mem _ z
      · show dlt d (PySem.W.minD e ds) = false
        cases z : dlt d (PySem.W.minD e ds) with
        | false => rfl
        | true =>
          have := dlt_tr q z
          rw [h2] at this
          cases this
      · rcases List.mem_cons.mp hf with rfl | hf
        · exact h2
        · exact h3 f hf
    | false =>
      obtain ⟨h1, h2, h3⟩ := minD_at ds d
      refine ⟨?_, h2, fun f hf => ?_⟩
      · rcases h1 with z | z
        · exact Or.inl z
        · exact Or.inr (List.mem_cons_of_mem _ z)
      · rcases List.mem_cons.mp hf with rfl | hf
        · show dlt f (PySem.W.minD d ds) = false
          cases z : dlt f (PySem.W.minD d ds) with
          | false => rfl
          | true =>
            rcases dlt_split d z with y | y
            · rw [q] at y; cases y
            · rw [h2] at y; cases y
        · exact h3 f hf
theorem call_minDt {k : Nat} (hc : X.calm = true) (hr : Room k X.A) : CallR X (.builtin "min") (rMinDt X.K) := by
  intro pins s σ H vs us Q I r h
  obtain ⟨a, xs, d, ds, rfl, hs, hd, ha, hdp, q⟩ := h
  obtain ⟨its, rv, hl, _⟩ := I.list hs
  rw [Vals.ref1 r]
  obtain ⟨as, hR⟩ := Dp.readsAll I _ _ _ hd rv
  have hu := hr.un
  have hdd := depthAll_le hdp
  refine PySem.W.min_list_data (vs := its.toArray) (I.ok.hd hc) hl.isList (by simpa using hR) ha (by omega) fun i v h' tk bs hv rd hk => ?_
  have hv' : its[i]? = some v := by simpa using hv
  obtain ⟨x, hx, rx⟩ : ∃ x, xs[i]? = some x ∧ RelV x v := vals_back rv hv'
  refine ⟨x, H, I.kept hk, rx, q i x hx ?_⟩
  obtain ⟨e, he, de⟩ := DpAll.getV hd hx
  obtain ⟨as2, re⟩ := Dp.reads (I.kept (t' := tk) hk) _ _ _ de rx
  obtain ⟨m1, _⟩ := minD_at ds d
  have mm : PySem.W.minD d ds ∈ d :: ds := by
    rcases m1 with z | z
    · rw [z]; exact List.mem_cons_self
    · exact List.mem_cons_of_mem _ z
  have ee := PySem.W.alike_unique _ _ _ _ _ (ha.1 e (List.mem_of_getElem? he) _ mm) re rd
  rw [← ee]
  exact de
/-! ### a dict with tuple keys -/
def kD : Key → PyData
  | .inl i => .int i
  | .inr x => .str x
theorem dp_key {K : PySem.W.Frag} {H : Hp} : ∀ k : Key, Dp K H (kV k) (kD k)
  | .inl i => .int i
  | .inr x => .str x
theorem dp_keys {K : PySem.W.Frag} {H : Hp} : ∀ ks : List Key, DpAll K H (ks.map kV) (ks.map kD)
  | [] => .nil
  | k :: ks => .cons (dp_key k) (dp_keys ks)
abbrev tkD (k : List Key) : PyData := .tuple (k.map kD)
/-- sorted(d) of a dict whose keys are tuples -/
def rSrtT : List V → Hp → VK → Prop := fun vs H Q => ∃ (a : Addr) (kvs : List (List Key × V)), vs = [.ref a] ∧ Rd H a (.dT kvs) ∧ Cmpb (kvs.map fun p => tkD p.1) ∧
  ∀ (p : Addr) (L : List (V × PyData)), H p = none → (∃ bs : List Addr, IsKeys H kvs bs ∧ L = srt false (·.2) ((bs.map V.ref).zip (kvs.map fun p => tkD p.1))) → Q (.ref p) (upd H p (.lst (L.map (·.1))))
theorem keys_dp {K : PySem.W.Frag} {H : Hp} : ∀ {kvs : List (List Key × V)} {bs : List Addr}, IsKeys H kvs bs → DpAll K H (bs.map V.ref) (kvs.map fun p => tkD p.1)
  | _, _, .nil => .nil
  | p :: _, b :: _, .cons h t => .cons (.tup (SqT.of h) (dp_keys p.1)) (keys_dp t)
theorem call_srtT {k : Nat} (hcalm : X.calm = true) (hr : Room k X.A) : CallR X (.builtin "sorted") rSrtT := by
  intro pins s σ H xs us Q I r h
  obtain ⟨a, kvs, rfl, hd, hc, q⟩ := h
  rw [Vals.ref1 r]
  obtain ⟨z, hs, ks, pr, o, es, ep, ho, hx, hdt, he, hn⟩ := (show ObjOk X.prog X.w H s.heap a (.dT kvs) from hd.ok I.hok)
  have l1 : es.size = ks.length := size_of_entries he
  have l2 : kvs.length = ks.length := Paired.length pr
  have hu := hr.un
  refine Calls.call_function_entry PyProof.Rows.kind_sorted PyProof.Rows.plain_sorted PyProof.Rows.entry_sorted (PyProof.Rows.args_sorted1 _) ?_
  unfold Builtin.«sorted»
  refine wpAny_bind (m := checkCount "sorted" 1 1 _) (wpAny_pure ?_)
  refine wpAny_bind (PySem.W.kdu_collect (A := X.A.in1) (kdl_raw hs hx hdt) (I.ok.hd hcalm) ho (by omega) fun h' tk acc' kp it => ?_)
  have ea : acc'.toList = ks.map fun x => Value.ref x.2.1 := items_out (by rw [List.length_map, ← l1]; exact it) fun j v => by
    rintro ⟨en, hen, rfl⟩
    obtain ⟨b, hb, e2⟩ := Option.map_eq_some_iff.mp ((entry_at he j).symm.trans hen)
    rw [List.getElem?_map, hb, ← e2]
    rfl
  have eb : acc'.toList = (ks.map fun x => x.2.1).map Value.ref := by rw [ea, List.map_map]; all_goals rfl
  have rv : Vals ((ks.map fun x => x.2.1).map V.ref) acc'.toList := by rw [eb]; exact vals_refs _
  have ik := isKeys_of pr
  have hdp : DpAll X.K H ((ks.map fun x => x.2.1).map V.ref) (kvs.map fun p => tkD p.1) := keys_dp ik
  obtain ⟨z1, z2, z3⟩ := dp_zip hdp
  have I1 : Inv X pins σ H { s with heap := h', toks := tk } := I.kept kp
  have hal : acc'.toList.length = ks.length := by rw [Array.length_toList, it.1]; exact l1
  refine wpAny_bind (wpAny_newList ?_ (by omega))
  have hoL : (h'.push (seqObj "list" acc'.toList.toArray 0)).get? h'.objs.size = some (seqObj "list" acc'.toList.toArray 0) := Heap.get?_push_size _ rfl
  show wpAny _ _ _ _ _ { s with heap := h'.push (seqObj "list" acc'.toList.toArray 0), toks := tk }
  have e : PySem.W.EachIs (fun v (b : V × PyData) => RelV b.1 v) acc'.toList (((ks.map fun x => x.2.1).map V.ref).zip (kvs.map fun p => tkD p.1)) := each_vals (by rw [z2]; exact rv)
  have er := each_reads I1 e z1
  generalize hB : ((ks.map fun x => x.2.1).map V.ref).zip (kvs.map fun p => tkD p.1) = B at z1 z2 z3 e er
  have al : PySem.W.AllAlike (B.map fun b : V × PyData => b.2) := by rw [z3]; exact hc.al
  have so : PySem.W.Sortable (B.map fun b : V × PyData => b.2) := by rw [z3]; exact hc.so
  have er' : PySem.W.EachIs (fun v (b : V × PyData) => ∃ as, Reads (PySem.W.sortingHeap (h'.push (seqObj "list" acc'.toList.toArray 0)) h'.objs.size acc'.toList) v b.2 as) acc'.toList B :=
    er.mono fun v b ⟨as, rd⟩ => ⟨as, PyProof.Rows.Reads.keeps (fun b o eo => PySem.W.sortingHeap_old (Nat.ne_of_lt (Heap.lt_size eo)) (Heap.get?_push_of_some _ eo)) rd⟩
  refine wpAny_bind (wpAny_holding (wpAny_call_entry PyProof.Rows.slot_list_sort ⟨_, hoL, rfl⟩ PyProof.Rows.entry_list_sort
    (PySem.W.list_sort_vals (κ := PySem.W.dataKind (PySem.W.sortingHeap (h'.push (seqObj "list" acc'.toList.toArray 0)) h'.objs.size acc'.toList) (B.map fun b : V × PyData => b.2)) (s := { s with heap := h'.push (seqObj "list" acc'.toList.toArray 0), toks := tk }) hoL
      (PySem.W.SortsAt.data (s := { s with heap := PySem.W.sortingHeap (h'.push (seqObj "list" acc'.toList.toArray 0)) h'.objs.size acc'.toList, toks := tk })
        (PySem.W.each_map (R := fun v d => ∃ as, Reads (PySem.W.sortingHeap (h'.push (seqObj "list" acc'.toList.toArray 0)) h'.objs.size acc'.toList) v d as) (fun b : V × PyData => b.2) er') al so
        (PySem.W.bound_map fun b hb => by
          have := hc.dp b.2 (by rw [← z3]; exact List.mem_map.mpr ⟨b, hb, rfl⟩)
          show X.A.units + 2 + _ < _
          omega)) (by omega) ⟨_, rfl, ?_⟩)
    (PyProof.Rows.args_list_sort _)))
  have eo := PySem.W.sortVals_data (enc := fun b : V × PyData => b.2) false e er' al
  have lo : (PySem.W.sortVals (PySem.W.dataKind (PySem.W.sortingHeap (h'.push (seqObj "list" acc'.toList.toArray 0)) h'.objs.size acc'.toList) (B.map fun b : V × PyData => b.2)) false acc'.toList acc'.toList).length = acc'.toList.length := PySem.W.sortVals_length false rfl
  generalize PySem.W.sortVals (PySem.W.dataKind (PySem.W.sortingHeap (h'.push (seqObj "list" acc'.toList.toArray 0)) h'.objs.size acc'.toList) (B.map fun b : V × PyData => b.2)) false acc'.toList acc'.toList = out at eo lo
  obtain ⟨e', he'⟩ := PyProof.Rows.sortedHeap_at (vs := acc'.toList) (out := out.toArray) hoL
  refine wpAny_pure ⟨_, rfl, .ref h'.objs.size, upd H h'.objs.size (.lst ((srt false (·.2) B).map (·.1))), I1.laid (t' := tk) (fun b u e => ?_) (Nat.le_refl _)
    (show ObjOk X.prog X.w _ _ _ (.lst ((srt false (·.2) B).map (·.1))) from ⟨?_, out, e', vals_each eo, he'⟩), rfl, q _ _ (I1.hok.fresh (Nat.le_refl _)) ⟨_, ik, by rw [hB]⟩⟩
  · have hb : b < h'.objs.size := Heap.lt_size e
    rw [PyProof.Rows.sortedHeap_old (Nat.ne_of_lt hb) (by rw [size_push']; exact Nat.lt_succ_of_lt hb)]
    exact Heap.get?_push_of_some _ e
  · have := (vals_each eo).length
    unfold srt
    rw [this]
    omega
end
end PK
/-! Part rows: their sums, rising, each part once. -/
namespace PK
open PySem PySem.Spec PyProof.Rows L2
abbrev PKey := Str × Str
abbrev PRow := Str × Str × Int
def pk (r : PRow) : PKey := (r.1, r.2.1)
def pkD (k : PKey) : PyData := .tuple [.str k.1, .str k.2]
def prowD (r : PRow) : PyData := .tuple [.str r.1, .str r.2.1, .int r.2.2]
def rowsD (L : List PRow) : PyData := .tuple (L.map prowD)
theorem flat_pk (k : PKey) : flatT (pkD k) = true := rfl
theorem flat_prow (r : PRow) : flatT (prowD r) = true := rfl
theorem flatTs_map {α : Type} {f : α → PyData} (h : ∀ a, flatT (f a) = true) : ∀ l : List α, flatTs (l.map f) = true
  | [] => rfl
  | a :: l => by
    show (flatT (f a) && flatTs (l.map f)) = true
    rw [h a, flatTs_map h l]
    rfl
theorem flat_rows (L : List PRow) : flatT (rowsD L) = true := by
  show flatTs (L.map prowD) = true
  exact flatTs_map flat_prow L
theorem pkD_inj {a b : PKey} (h : pkD a = pkD b) : a = b := by
  unfold pkD at h
  injection h with h
  injection h with h1 h2
  injection h1 with h1
  injection h2 with h2 _
  injection h2 with h2
  exact Prod.ext h1 h2
theorem pkD_alike (a b : PKey) : PySem.W.alike (pkD a) (pkD b) = true := by simp [pkD, PySem.W.alike, PySem.W.alikeAll]
theorem pk_allAlike (ks : List PKey) : PySem.W.AllAlike (ks.map pkD) := PySem.W.AllAlike.of pkD_alike
theorem pk_cmpb (ks : List PKey) : Cmpb (ks.map pkD) := ⟨pk_allAlike ks, PySem.W.Sortable.tuples fun b => ⟨_, _, rfl⟩, fun d hd => by
  obtain ⟨k, _, rfl⟩ := List.mem_map.mp hd
  show 1 ≤ 90
  decide⟩
theorem nodup_mapD {ks : List PKey} (h : ks.Nodup) : (ks.map pkD).Nodup := by
  unfold List.Nodup at h ⊢
  refine List.pairwise_map.mpr (h.imp fun {a b} q e => q (pkD_inj e))
/-! ### how many -/
def cnt : List PRow → PKey → Int
  | [], _ => 0
  | r :: L, k => (if pk r = k then r.2.2 else 0) + cnt L k
theorem cnt_nil (k : PKey) : cnt [] k = 0 := rfl
theorem cnt_cons (r : PRow) (L : List PRow) (k : PKey) : cnt (r :: L) k = (if pk r = k then r.2.2 else 0) + cnt L k := rfl
theorem cnt_app : ∀ (L M : List PRow) (k : PKey), cnt (L ++ M) k = cnt L k + cnt M k
  | [], M, k => by rw [List.nil_append, cnt_nil]; omega
  | r :: L, M, k => by
    rw [List.cons_append, cnt_cons, cnt_cons, cnt_app L M k]
    omega
theorem cnt_perm {L M : List PRow} (h : L.Perm M) (k : PKey) : cnt L k = cnt M k := by
  induction h with
  | nil => rfl
  | cons r _ ih => rw [cnt_cons, cnt_cons, ih]
  | swap r q L => rw [cnt_cons, cnt_cons, cnt_cons, cnt_cons]; omega
  | trans _ _ i j => rw [i, j]
theorem cnt_none {L : List PRow} {k : PKey} (h : k ∉ L.map pk) : cnt L k = 0 := by
  induction L with
  | nil => rfl
  | cons r L ih =>
    rw [List.map_cons, List.mem_cons, not_or] at h
    rw [cnt_cons, if_neg (fun e => h.1 e.symm), ih h.2]
    rfl
/-- a drawn row: words, from 1 on -/
structure PRowOk (b : Int) (r : PRow) : Prop where
  f : Word r.1
  s : Word r.2.1
  lo : 1 ≤ r.2.2
  hi : r.2.2 ≤ b
structure RowsOk (n : Nat) (b : Int) (L : List PRow) : Prop where
  len : L.length ≤ n
  each : ∀ r ∈ L, PRowOk b r
theorem PRowOk.mono {b c : Int} {r : PRow} (h : PRowOk b r) (hb : b ≤ c) : PRowOk c r := ⟨h.f, h.s, h.lo, Int.le_trans h.hi hb⟩
theorem RowsOk.mono {n m : Nat} {b c : Int} {L : List PRow} (h : RowsOk n b L) (hn : n ≤ m) (hb : b ≤ c) : RowsOk m c L := ⟨Nat.le_trans h.len hn, fun r hr => (h.each r hr).mono hb⟩
theorem RowsOk.tail {n : Nat} {b : Int} {r : PRow} {L : List PRow} (h : RowsOk n b (r :: L)) : RowsOk n b L := ⟨by have := h.len; rw [List.length_cons] at this; omega, fun q hq => h.each q (List.mem_cons_of_mem _ hq)⟩
theorem cnt_nn {n : Nat} {b : Int} {L : List PRow} (h : RowsOk n b L) (k : PKey) : 0 ≤ cnt L k := by
  induction L with
  | nil => exact Int.le_refl 0
  | cons r L ih =>
    rw [cnt_cons]
    have h1 := (h.each r List.mem_cons_self).lo
    have h2 := ih h.tail
    split <;> omega
theorem cnt_pos {n : Nat} {b : Int} {L : List PRow} (h : RowsOk n b L) {k : PKey} (hk : k ∈ L.map pk) : 0 < cnt L k := by
  induction L with
  | nil => cases hk
  | cons r L ih =>
    rw [cnt_cons]
    have h1 := (h.each r List.mem_cons_self).lo
    have h2 := cnt_nn h.tail k
    rcases List.mem_cons.mp hk with e | e
    · rw [if_pos e.symm]; omega
    · have := ih h.tail e
      split <;> omega
theorem cnt_le {n : Nat} {b : Int} (hb : 0 ≤ b) {L : List PRow} (h : RowsOk n b L) (k : PKey) : cnt L k ≤ (L.length : Int) * b := by
  induction L with
  | nil => simp [cnt_nil]
  | cons r L ih =>
    rw [cnt_cons, List.length_cons]
    have h1 := (h.each r List.mem_cons_self).hi
    have h2 := ih h.tail
    have e : ((L.length + 1 : Nat) : Int) * b = (L.length : Int) * b + b := by
      rw [Int.natCast_add, Int.add_mul]
      simp
    rw [e]
    split <;> omega
theorem cnt_key {n : Nat} {b : Int} {L : List PRow} (h : RowsOk n b L) (k : PKey) : k ∈ L.map pk ↔ 0 < cnt L k := by
  refine ⟨cnt_pos h, fun q => ?_⟩
  by_cases z : k ∈ L.map pk
  · exact z
  · rw [cnt_none z] at q
    omega
/-! ### the sums, rising -/
def nub : List PKey → List PKey
  | [] => []
  | k :: ks => k :: (nub ks).filter fun q => decide (q ≠ k)
theorem mem_nub {k : PKey} : ∀ {ks : List PKey}, k ∈ nub ks ↔ k ∈ ks
  | [] => Iff.rfl
  | q :: ks => by
    show k ∈ q :: _ ↔ _
    rw [List.mem_cons, List.mem_cons, List.mem_filter, mem_nub (ks := ks)]
    by_cases e : k = q
    · simp [e]
    · simp [e]
theorem nodup_nub : ∀ ks : List PKey, (nub ks).Nodup
  | [] => List.nodup_nil
  | q :: ks => List.nodup_cons.mpr ⟨fun h => by
      have := (List.mem_filter.mp h).2
      simp at this, (nodup_nub ks).filter _⟩
def skeys (L : List PRow) : List PKey := srt false pkD (nub (L.map pk))
def sumR (L : List PRow) : List PRow := (skeys L).map fun k => (k.1, k.2, cnt L k)
theorem mem_skeys {L : List PRow} {k : PKey} : k ∈ skeys L ↔ k ∈ L.map pk := ((srt_perm false pkD _).mem_iff).trans mem_nub
theorem skeys_rises (L : List PRow) : Rises ((skeys L).map pkD) := srt_rises (pk_allAlike _) (nodup_mapD (nodup_nub _))
theorem sumR_keys (L : List PRow) : (sumR L).map pk = skeys L := by
  unfold sumR
  rw [List.map_map]
  exact List.map_id'' (fun k => rfl) _
theorem map_inj {ks ls : List PKey} : ks.map pkD = ls.map pkD → ks = ls := by
  induction ks generalizing ls with
  | nil => intro h; cases ls with
    | nil => rfl
    | cons => cases h
  | cons k ks ih =>
    intro h
    cases ls with
    | nil => cases h
    | cons l ls =>
      rw [List.map_cons, List.map_cons] at h
      injection h with h1 h2
      rw [pkD_inj h1, ih h2]
/-- rising keys that are just these -/
theorem skeys_of {L : List PRow} {ks : List PKey} (h : Rises (ks.map pkD)) (hm : ∀ k, k ∈ ks ↔ k ∈ L.map pk) : ks = skeys L := by
  refine map_inj (rises_ext h (skeys_rises L) fun d => ⟨fun hd => ?_, fun hd => ?_⟩)
  · obtain ⟨k, hk, rfl⟩ := List.mem_map.mp hd
    exact List.mem_map.mpr ⟨k, mem_skeys.mpr ((hm k).mp hk), rfl⟩
  · obtain ⟨k, hk, rfl⟩ := List.mem_map.mp hd
    exact List.mem_map.mpr ⟨k, (hm k).mpr (mem_skeys.mp hk), rfl⟩
theorem sumR_of {L M : List PRow} (h : Rises (M.map fun r => pkD (pk r))) (hm : ∀ k, k ∈ M.map pk ↔ k ∈ L.map pk) (hc : ∀ r ∈ M, r.2.2 = cnt L (pk r)) : M = sumR L := by
  have e : M.map pk = skeys L := skeys_of (by rw [List.map_map]; exact h) hm
  unfold sumR
  rw [← e, List.map_map]
  symm
  refine (List.map_congr_left (g := id) fun r hr => ?_).trans (List.map_id _)
  show (r.1, r.2.1, cnt L (pk r)) = r
  rw [← hc r hr]
theorem sumR_congr {L M : List PRow} (hm : ∀ k, k ∈ L.map pk ↔ k ∈ M.map pk) (hc : ∀ k, cnt L k = cnt M k) : sumR L = sumR M := by
  have e : skeys L = skeys M := skeys_of (skeys_rises L) fun k => mem_skeys.trans (hm k)
  unfold sumR
  rw [e]
  exact List.map_congr_left fun k _ => by rw [hc k]
/-- the same how many of each: the same sums -/
theorem sumR_eq {n m : Nat} {b c : Int} {L M : List PRow} (hL : RowsOk n b L) (hM : RowsOk m c M) (h : ∀ k, cnt L k = cnt M k) : sumR L = sumR M :=
  sumR_congr (fun k => by rw [cnt_key hL, cnt_key hM, h k]) h
theorem sumR_perm {L M : List PRow} (h : L.Perm M) : sumR L = sumR M := sumR_congr (fun k => (h.map pk).mem_iff) (cnt_perm h)
theorem cnt_once {f : PKey → Int} : ∀ {ks : List PKey}, ks.Nodup → ∀ k, cnt (ks.map fun k => (k.1, k.2, f k)) k = if k ∈ ks then f k else 0
  | [], _, k => by simp [cnt_nil]
  | q :: ks, h, k => by
    obtain ⟨h1, h2⟩ := List.nodup_cons.mp h
    rw [List.map_cons, cnt_cons, cnt_once h2 k]
    show (if (q.1, q.2) = k then f q else 0) + _ = _
    by_cases e : q = k
    · subst e
      rw [if_pos rfl, if_neg h1, if_pos List.mem_cons_self]
      omega
    · have e' : ¬ ((q.1, q.2) : PKey) = k := e
      rw [if_neg e']
      by_cases z : k ∈ ks
      · rw [if_pos z, if_pos (List.mem_cons_of_mem _ z)]; omega
      · rw [if_neg z, if_neg (fun y => by
          rcases List.mem_cons.mp y with y | y
          · exact e y.symm
          · exact z y)]
        rfl
theorem skeys_nodup (L : List PRow) : (skeys L).Nodup := (srt_perm false pkD _).nodup_iff.mpr (nodup_nub _)
theorem cnt_sumR (L : List PRow) (k : PKey) : cnt (sumR L) k = cnt L k := by
  unfold sumR
  rw [cnt_once (f := cnt L) (skeys_nodup L) k]
  by_cases z : k ∈ skeys L
  · rw [if_pos z]
  · rw [if_neg z, cnt_none (fun h => z (mem_skeys.mpr h))]
theorem sumR_len (L : List PRow) : (sumR L).length ≤ L.length := by
  unfold sumR
  rw [List.length_map]
  have h : ∀ ks : List PKey, (nub ks).length ≤ ks.length := by
    intro ks
    induction ks with
    | nil => exact Nat.le_refl _
    | cons k ks ih =>
      show ((nub ks).filter _).length + 1 ≤ ks.length + 1
      have := List.length_filter_le (fun q => decide (q ≠ k)) (nub ks)
      omega
  have e := (srt_perm false pkD (nub (L.map pk))).length_eq
  have := h (L.map pk)
  rw [List.length_map] at this
  unfold skeys
  omega
theorem sumR_ok {n : Nat} {b : Int} (hb : 0 ≤ b) {L : List PRow} (h : RowsOk n b L) : RowsOk n (n * b) (sumR L) := by
  refine ⟨Nat.le_trans (sumR_len L) h.len, fun r hr => ?_⟩
  unfold sumR at hr
  obtain ⟨k, hk, rfl⟩ := List.mem_map.mp hr
  have hk' := mem_skeys.mp hk
  obtain ⟨q, hq, rfl⟩ := List.mem_map.mp hk'
  have okq := h.each q hq
  refine ⟨okq.f, okq.s, ?_, ?_⟩
  · have := cnt_pos h hk'
    show 1 ≤ cnt L (pk q)
    omega
  · have h1 := cnt_le hb h (pk q)
    have h2 : (L.length : Int) * b ≤ (n : Int) * b := Int.mul_le_mul_of_nonneg_right (by have := h.len; omega) hb
    exact Int.le_trans h1 h2
theorem sumR_nil : sumR [] = [] := by
  have := sumR_len []
  exact List.eq_nil_of_length_eq_zero (Nat.le_zero.mp this)
theorem sumR_sumR (L : List PRow) : sumR (sumR L) = sumR L := by
  refine sumR_congr (fun k => ?_) (cnt_sumR L)
  rw [sumR_keys]
  exact mem_skeys
/-! ### shown -/
theorem sh_prow {b : Int} (hb : b < 2 ^ 64) {r : PRow} (h : PRowOk b r) : Sh (prowD r) 1 261 := by
  refine (Sh.tuple (dp := 0) (n := 82) (m := 3) (fun d hd => ?_) (by show 3 ≤ 3; decide)).mono (by decide) (by decide)
  rcases List.mem_cons.mp hd with rfl | hd
  · exact Sh.word h.f
  · rcases List.mem_cons.mp hd with rfl | hd
    · exact Sh.word h.s
    · rcases List.mem_cons.mp hd with rfl | hd
      · have := h.lo
        have := h.hi
        exact (Sh.int (by omega) (by omega)).mono (Nat.le_refl _) (by decide)
      · cases hd
theorem sh_rows {n : Nat} {b : Int} (hb : b < 2 ^ 64) {L : List PRow} (h : RowsOk n b L) : Sh (rowsD L) 2 (n * 261 + 2 * n + 3) :=
  Sh.tuple (fun d hd => by
    obtain ⟨r, hr, rfl⟩ := List.mem_map.mp hd
    exact sh_prow hb (h.each r hr)) (by rw [List.length_map]; exact h.len)
end PK
/-! A dict of how many, by part; what the heaps' defs promise. -/
namespace PK
open PySem PySem.Spec PyProof.Rows L2
abbrev kk (k : PKey) : List Key := [Sum.inr k.1, Sum.inr k.2]
theorem kk_inj {a b : PKey} (h : kk a = kk b) : a = b := by
  injection h with h1 h2
  injection h2 with h2 _
  injection h1 with h1
  injection h2 with h2
  exact Prod.ext h1 h2
def ent (ks : List PKey) (c : PKey → Int) : List (List Key × V) := ks.map fun k => (kk k, V.int (c k))
theorem ent_val (c : PKey → Int) (k : PKey) : ∀ ks : List PKey, valV (ent ks c) (kk k) = if k ∈ ks then some (.int (c k)) else none
  | [] => by simp [ent, valV_nil]
  | q :: ks => by
    show valV ((kk q, V.int (c q)) :: ent ks c) (kk k) = _
    by_cases e : q = k
    · subst e
      rw [valV_pos rfl, if_pos List.mem_cons_self]
    · rw [valV_neg (fun h => e (kk_inj h)), ent_val c k ks]
      by_cases z : k ∈ ks
      · rw [if_pos z, if_pos (List.mem_cons_of_mem _ z)]
      · rw [if_neg z, if_neg (fun y => by
          rcases List.mem_cons.mp y with y | y
          · exact e y.symm
          · exact z y)]
theorem ent_any (c : PKey → Int) (k : PKey) (ks : List PKey) : ((ent ks c).any fun kv => decide (kv.1 = kk k)) = decide (k ∈ ks) := by
  rw [Bool.eq_iff_iff, List.any_eq_true, decide_eq_true_eq]
  constructor
  · rintro ⟨kv, h1, h2⟩
    obtain ⟨q, hq, rfl⟩ := List.mem_map.mp h1
    have := kk_inj (of_decide_eq_true h2)
    subst this
    exact hq
  · intro h
    exact ⟨_, List.mem_map.mpr ⟨k, h, rfl⟩, decide_eq_true rfl⟩
/-- one more row of this part -/
theorem ent_put {ks : List PKey} {c c' : PKey → Int} {k : PKey} {n : Int} (h1 : c' k = n) (h2 : ∀ q, q ≠ k → c' q = c q) :
    putK (ent ks c) (kk k) (.int n) = ent (if k ∈ ks then ks else ks ++ [k]) c' := by
  unfold putK
  rw [ent_any]
  by_cases z : k ∈ ks
  · rw [if_pos (decide_eq_true z), if_pos z]
    unfold ent
    rw [List.map_map]
    refine List.map_congr_left fun q hq => ?_
    show (if kk q = kk k then (kk q, V.int n) else (kk q, V.int (c q))) = (kk q, V.int (c' q))
    by_cases e : q = k
    · subst e
      rw [if_pos rfl, h1]
    · rw [if_neg (fun h => e (kk_inj h)), h2 q e]
  · rw [if_neg (by simpa using z), if_neg z]
    unfold ent
    rw [List.map_append]
    congr 1
    · refine List.map_congr_left fun q hq => ?_
      have e : q ≠ k := fun e => z (by rw [← e]; exact hq)
      rw [h2 q e]
    · show _ = [(kk k, V.int (c' k))]
      rw [h1]
theorem ent_keys (ks : List PKey) (c : PKey → Int) : ((ent ks c).map fun p => tkD p.1) = ks.map pkD := by
  unfold ent
  rw [List.map_map]
  rfl
theorem Dp.prowE {K : PySem.W.Frag} {H : Hp} {v : V} {r : PRow} (h : Dp K H v (prowD r)) : ∃ b, v = .ref b ∧ SqT K H b [.str r.1, .str r.2.1, .int r.2.2] := by
  obtain ⟨b, xs, rfl, hb, ha⟩ := Dp.tupE h
  cases ha with
  | cons h1 h2 =>
    cases h2 with
    | cons h3 h4 =>
      cases h4 with
      | cons h5 h6 =>
        cases h6
        cases h1
        cases h3
        cases h5
        exact ⟨b, rfl, hb⟩
theorem Dp.pkE {K : PySem.W.Frag} {H : Hp} {v : V} {k : PKey} (h : Dp K H v (pkD k)) : ∃ b, v = .ref b ∧ SqT K H b [.str k.1, .str k.2] := by
  obtain ⟨b, xs, rfl, hb, ha⟩ := Dp.tupE h
  cases ha with
  | cons h1 h2 =>
    cases h2 with
    | cons h3 h4 =>
      cases h4
      cases h1
      cases h3
      exact ⟨b, rfl, hb⟩
theorem Dp.prow {K : PySem.W.Frag} {H : Hp} {b : Addr} {r : PRow} (h : SqT K H b [.str r.1, .str r.2.1, .int r.2.2]) : Dp K H (.ref b) (prowD r) := .tup h (.cons (.str _) (.cons (.str _) (.cons (.int _) .nil)))
theorem Dp.pk {K : PySem.W.Frag} {H : Hp} {b : Addr} {k : PKey} (h : SqT K H b [.str k.1, .str k.2]) : Dp K H (.ref b) (pkD k) := .tup h (.cons (.str _) (.cons (.str _) .nil))
theorem cnt_snoc {L : List PRow} {i : Nat} {r : PRow} (h : L[i]? = some r) (k : PKey) : cnt (L.take (i + 1)) k = cnt (L.take i) k + if PK.pk r = k then r.2.2 else 0 := by
  rw [take_snoc h, cnt_app, cnt_cons, cnt_nil]
  omega
/-! ### the promises -/
/-- added_rows: the sums, rising -/
def spAdded (K : PySem.W.Frag) : Sp := fun vs H Q _ => ∃ (v : V) (L : List PRow), vs = [v] ∧ Dp K H v (rowsD L) ∧ L.length ≤ 900 ∧
  ∀ (p : Addr) (us : List V) (H' : Hp), H p = none → Same H H' → H' p = some (.tup us) → DpAll K H' us ((sumR L).map prowD) → Q (.ref p) H'
/-- a heap's attributes -/
def hf (t : Addr) : List (Str × V) := putF "held" (.ref t) []
theorem hf_held (t : Addr) : (hf t).lookup ("held" : Str) = some (.ref t) := by
  unfold hf
  rw [lookup_putF, if_pos rfl]
theorem hf_no (t : Addr) {m : Str} (h : ¬ m = "held") : (hf t).lookup m = none := by
  unfold hf
  rw [lookup_putF, if_neg h]
  all_goals rfl
/-- a heap of these rows stands at p -/
def HeapAt (K : PySem.W.Frag) (C : Addr) (H : Hp) (p : Addr) (L : List PRow) : Prop := ∃ dx t, H p = some (.ins C dx (hf t)) ∧ Dp K H (.ref t) (rowsD L)
theorem HeapAt.same {K : PySem.W.Frag} {C : Addr} {H H' : Hp} {p : Addr} {L : List PRow} (h : HeapAt K C H p L) (s : Same H H') : HeapAt K C H' p L := by
  obtain ⟨dx, t, h1, h2⟩ := h
  exact ⟨dx, t, s _ _ h1, Dp.same s h2⟩
theorem HeapAt.ext {K : PySem.W.Frag} {C : Addr} {H H' : Hp} {p a c : Addr} {L : List PRow} (h : HeapAt K C H p L) (fe : IsFeed H a c) (x : Ext a H H') : HeapAt K C H' p L := by
  obtain ⟨dx, t, h1, h2⟩ := h
  obtain ⟨cs, i, l, n, fe'⟩ := id fe
  exact ⟨dx, t, x _ _ h1 (ne_of h1 fe'.d (by intro z; cases z)), Dp.keepT (TKeep.feed fe x) (flat_rows L) h2⟩
/-- __init__ -/
def spInit (K : PySem.W.Frag) (C : Addr) : Sp := fun vs H Q _ => ∃ (p dx : Addr) (x : V) (L : List PRow), vs = [.ref p, x] ∧ H p = some (.ins C dx []) ∧ ((x = .non ∧ L = []) ∨ Dp K H x (rowsD L)) ∧ L.length ≤ 900 ∧
  ∀ H' : Hp, (∀ b o, H b = some o → b ≠ p → H' b = some o) → HeapAt K C H' p (sumR L) → Q .non H'
/-- rows() -/
def spRows (K : PySem.W.Frag) (C : Addr) : Sp := fun vs H Q _ => ∃ (p : Addr) (L : List PRow), vs = [.ref p] ∧ HeapAt K C H p L ∧ L.length ≤ 900 ∧
  ∀ (v : V) (H' : Hp), Same H H' → Dp K H' v (rowsD L) → Q v H'
/-- what is known of the class -/
structure HCls (K : PySem.W.Frag) (mg : Str → Option Value) (C : Addr) : Prop where
  cl : Cls K C
  nh : NoAttr K C "held"
  mg : mg "Heap" = some (.ref C)
end PK
/-! A heap made: Heap(), Heap(x), Heap(rows=x). -/
namespace PK
open PySem PySem.Spec PyProof.Rows L2
/-- all that is known of the class and its __init__ -/
structure HMk (P : Program) (w : World) (K : PySem.W.Frag) (mg : Str → Option Value) (base : Heap) (k : Nat) (C f : Addr) (fd : FuncData) : Prop where
  c : HCls K mg C
  m : Mk K C f
  ok : FnOk P w K mg base CX0 k f fd ["self", "rows"] (spInit K C)
  b0 : ∃ ds, Vals [V.non] ds ∧ Binds K fd ["self", "rows"] ds
  b1 : KB K fd ["self", "rows"] 2 [] (fun vs _ => vs)
  bk : KB K fd ["self", "rows"] 1 ["rows"] (fun vs zs => vs ++ zs)
/-- of x: none, or rows -/
def mkHeap (K : PySem.W.Frag) (C : Addr) (x : V) (H : Hp) (Q : VK) : Prop := ∃ L : List PRow, ((x = .non ∧ L = []) ∨ Dp K H x (rowsD L)) ∧ L.length ≤ 900 ∧
  ∀ (p : Addr) (H' : Hp), H p = none → Same H H' → HeapAt K C H' p (sumR L) → Q (.ref p) H'
def tHeap0 (K : PySem.W.Frag) (C : Addr) : TE := fun _ H Q => mkHeap K C .non H Q
def tHeap (K : PySem.W.Frag) (C : Addr) (te : TE) : TE := fun σ H Q => te σ H fun x H1 => mkHeap K C x H1 Q
theorem mk_init {K : PySem.W.Frag} {C : Addr} {x : V} {H : Hp} {Q : VK} {E : XK} (h : mkHeap K C x H Q) (p dx : Addr) (np : H p = none) (nd : H dx = none) (ne : dx ≠ p) :
    spInit K C [.ref p, x] (upd (upd H dx (.own p)) p (.ins C dx [])) (fun v H2 => v = .non ∧ Q (.ref p) H2) E := by
  obtain ⟨L, hx, hL, q⟩ := h
  have s1 : Same H (upd (upd H dx (.own p)) p (.ins C dx [])) := fun b o e => by
    rw [upd_ne (ne_of_none e np), upd_ne (ne_of_none e nd)]
    exact e
  refine ⟨p, dx, x, L, rfl, upd_same, ?_, hL, fun H' kp hh => ⟨rfl, q p H' np (Same.made np nd kp) hh⟩⟩
  rcases hx with hx | hx
  · exact Or.inl hx
  · exact Or.inr (Dp.same s1 hx)
section
variable {X : Cx} {k : Nat} {C f : Addr} {fd : FuncData} {p pos : Pos} {e : Expr} {kw : Keyword} {te : TE}
theorem pe_heap0 (M : HMk X.prog X.w X.K X.mg X.base k C f fd) (hr : Room (k + 1) X.A) (hg : Gl X "Heap") : PE X (.Call (.Name "Heap" p) [] [] pos) (tHeap0 X.K C) := by
  refine ⟨fun pins s σ H Q I h => ?_⟩
  obtain ⟨ds, hd, hb⟩ := M.b0
  refine (pe_make0 M.m M.ok hr hg M.c.mg hb hd (E := fun _ _ _ => False) pass0).run pins s σ H Q I ?_
  exact fun x dx nx nd ne => mk_init h x dx nx nd ne
/-- the one argument -/
def one (R : V → Hp → Prop) : List V → Hp → Prop := fun vs H => match vs with
  | [x] => R x H
  | _ => False
theorem one_at {R : V → Hp → Prop} {vs : List V} {H : Hp} (h : one R vs H) : ∃ x, vs = [x] ∧ R x H := by
  match vs, h with
  | [x], h => exact ⟨x, rfl, h⟩
theorem pe_heap1 (M : HMk X.prog X.w X.K X.mg X.base k C f fd) (hr : Room (k + 1) X.A) (hg : Gl X "Heap") (ha : PE X e te)
    (he : starEach [e] X.env = (false, eval e X.env) :: starEach [] X.env := by rfl) (hpl : (backTo pos (starEach [] X.env)).any (·.1) = false := by rfl) :
    PE X (.Call (.Name "Heap" p) [e] [] pos) (tHeap X.K C te) := by
  refine ⟨fun pins s σ H Q I h => ?_⟩
  obtain ⟨g, hb⟩ := M.b1
  refine wpAny_Call_Name_kw (ld_glob I hg M.c.mg ?_ (by decide))
  refine PySem.W.callWith_K (h₀ := X.base) I.ok.mod.kin M.m.kp (thn ((pa_cons ha pa_nil he).run pos pins s σ H (one fun x H1 => mkHeap X.K C x H1 Q) I h) ?_) he hpl
  rintro us s1 ⟨vs, H1, I1, r, q⟩
  refine ⟨I1.kIn, ?_⟩
  obtain ⟨x, rfl, q⟩ := one_at q
  exact run_makeK (n := 1) (ks := []) (ws := []) (zs := []) M.m M.ok hr hb (E := fun _ _ _ => False) pass0 I1 r .nil rfl rfl fun p dx np nd ne => mk_init q p dx np nd ne
theorem pe_heapK (M : HMk X.prog X.w X.K X.mg X.base k C f fd) (hr : Room (k + 1) X.A) (hg : Gl X "Heap") {kpos : Pos} {nm : Option Str} (ha : PE X e te)
    (hall : (backToKw pos (keywordEach [⟨nm, e, kpos⟩] X.env)).all (·.1.isSome) = true := by rfl) (hks : (backToKw pos (keywordEach [⟨nm, e, kpos⟩] X.env)).filterMap (·.1) = [("rows" : Str)] := by rfl)
    (hpl : ((backTo pos (starEach [] X.env)).any (·.1) || (backToKw pos (keywordEach [⟨nm, e, kpos⟩] X.env)).any (·.1.isNone)) = false := by rfl) :
    PE X (.Call (.Name "Heap" p) [] [⟨nm, e, kpos⟩] pos) (tHeap X.K C te) := by
  refine ⟨fun pins s σ H Q I h => ?_⟩
  obtain ⟨g, hb⟩ := M.bk
  refine wpAny_Call_Name_kw (ld_glob I hg M.c.mg ?_ (by decide))
  refine PySem.W.callWith_KW0 (h₀ := X.base) I.ok.mod.kin M.m.kp hall (thn ((pk_cons ha pk_nil).run pos pins s σ H (one fun x H1 => mkHeap X.K C x H1 Q) I h) ?_) hpl
  rintro ws s1 ⟨zs, H1, I1, r, q⟩
  refine ⟨I1.kIn, ?_⟩
  obtain ⟨x, rfl, q⟩ := one_at q
  rw [hks]
  exact run_makeK (n := 0) (us := []) (vs := []) M.m M.ok hr hb (E := fun _ _ _ => False) pass0 I1 .nil r rfl rfl fun p dx np nd ne => mk_init q p dx np nd ne
theorem kheap0 (K : PySem.W.Frag) (M : HMk X.prog X.w K X.mg X.base k C f fd) (hr : Room (k + 1) X.A) (hg : Gl X "Heap") (hK : X.K = K := by rfl) : PE X (.Call (.Name "Heap" p) [] [] pos) (tHeap0 K C) := by
  subst hK
  exact pe_heap0 M hr hg
theorem kheap1 (K : PySem.W.Frag) (M : HMk X.prog X.w K X.mg X.base k C f fd) (hr : Room (k + 1) X.A) (hg : Gl X "Heap") (ha : PE X e te) (hK : X.K = K := by rfl)
    (he : starEach [e] X.env = (false, eval e X.env) :: starEach [] X.env := by rfl) (hpl : (backTo pos (starEach [] X.env)).any (·.1) = false := by rfl) :
    PE X (.Call (.Name "Heap" p) [e] [] pos) (tHeap K C te) := by
  subst hK
  exact pe_heap1 M hr hg ha he hpl
theorem kheapK (K : PySem.W.Frag) (M : HMk X.prog X.w K X.mg X.base k C f fd) (hr : Room (k + 1) X.A) (hg : Gl X "Heap") {kpos : Pos} {nm : Option Str} (ha : PE X e te) (hK : X.K = K := by rfl)
    (hall : (backToKw pos (keywordEach [⟨nm, e, kpos⟩] X.env)).all (·.1.isSome) = true := by rfl) (hks : (backToKw pos (keywordEach [⟨nm, e, kpos⟩] X.env)).filterMap (·.1) = [("rows" : Str)] := by rfl)
    (hpl : ((backTo pos (starEach [] X.env)).any (·.1) || (backToKw pos (keywordEach [⟨nm, e, kpos⟩] X.env)).any (·.1.isNone)) = false := by rfl) :
    PE X (.Call (.Name "Heap" p) [] [⟨nm, e, kpos⟩] pos) (tHeap K C te) := by
  subst hK
  exact pe_heapK M hr hg ha hall hks hpl
end
/-- a method that may be called, all its arguments given -/
structure MCal (P : Program) (w : World) (K : PySem.W.Frag) (mg : Str → Option Value) (base : Heap) (k : Nat) (C : Addr) (x : Str) (f : Addr) (fd : FuncData) (ps : List Str) (sp : Sp) : Prop where
  ok : FnOk P w K mg base CX0 k f fd ps sp
  m : Meth K C x f
  b : Binds K fd ps []
theorem HeapAt.no {K : PySem.W.Frag} {C : Addr} {H : Hp} {p : Addr} {L : List PRow} (h : HeapAt K C H p L) {m : Str} (hm : ¬ m = "held") : ∃ dx fs, H p = some (.ins C dx fs) ∧ fs.lookup m = none := by
  obtain ⟨dx, t, h1, _⟩ := h
  exact ⟨dx, _, h1, hf_no t hm⟩
end PK
/-! Drawn rows; sums by taking the least one by one; rows parted in two. -/
namespace PK
open PySem PySem.Spec PyProof.Rows L2
def spLRows (K : PySem.W.Frag) : Sp := fun vs H Q _ => ∃ (a c pf ps : Addr) (fs ss : List Str) (mo : Nat), vs = [.ref a, .ref pf, .ref ps, .int mo] ∧ IsFeed H a c ∧ Words H pf fs ∧ Words H ps ss ∧ mo ≤ 100 ∧
  ∀ (v : V) (H' : Hp) (L : List PRow), RowsOk mo 1000000000 L → (∀ r ∈ L, r.1 ∈ fs ∧ r.2.1 ∈ ss) → Ext a H H' → IsFeed H' a c → Dp K H' v (rowsD L) → Q v H'
theorem word_ok {y : Str} (h : Word y) : PyData.strOk y = true := by
  unfold PyData.strOk
  rw [Array.all_eq_true_iff_forall_mem]
  intro c hc
  have := (h.low c (by simpa using hc)).2
  exact decide_eq_true (by omega)
theorem pk_shaped {k : PKey} (h1 : Word k.1) (h2 : Word k.2) : SeqAt.shaped (pkD k) = true := by
  unfold SeqAt.shaped pkD
  simp only [PyData.canLay0, PyData.canLayAll0, word_ok h1, word_ok h2, Bool.and_self, Bool.true_and]
  rfl
theorem pk_eqv (a b : PKey) : PyData.eqv (pkD a) (pkD b) = decide (a = b) := by
  by_cases e : a = b
  · subst e
    rw [decide_eq_true rfl]
    exact eqv_refl _ (flat_pk a)
  · rw [decide_eq_false e]
    exact eqv_false (pkD_alike a b) fun z => e (pkD_inj z)
/-- the rows of one part -/
def ofPart (L : List PRow) (k : PKey) : List Int := (L.filter fun r => decide (pk r = k)).map fun r => r.2.2
theorem ofPart_sum (k : PKey) : ∀ L : List PRow, (ofPart L k).sum = cnt L k
  | [] => rfl
  | r :: L => by
    have ih := ofPart_sum k L
    unfold ofPart at ih ⊢
    rw [cnt_cons]
    by_cases e : pk r = k
    · rw [List.filter_cons_of_pos (by simpa using e), List.map_cons, List.sum_cons, ih, if_pos e]
    · rw [List.filter_cons_of_neg (by simpa using e), ih, if_neg e]
      omega
theorem ofPart_snoc {L : List PRow} {i : Nat} {r : PRow} (h : L[i]? = some r) (k : PKey) : ofPart (L.take (i + 1)) k = ofPart (L.take i) k ++ if pk r = k then [r.2.2] else [] := by
  unfold ofPart
  rw [take_snoc h, List.filter_append, List.map_append]
  congr 1
  by_cases e : pk r = k
  · rw [if_pos e, List.filter_cons_of_pos (by simpa using e)]
    rfl
  · rw [if_neg e, List.filter_cons_of_neg (by simpa using e)]
    rfl
theorem pk_alikeAll (ks : List PKey) : PySem.W.AlikeAll (ks.map pkD) := ⟨pk_allAlike ks, fun x hx => by
  obtain ⟨k, _, rfl⟩ := List.mem_map.mp hx
  intro z
  cases z⟩
/-- the least of keys -/
theorem least_key {k : PKey} {ks : List PKey} : ∃ m, m ∈ k :: ks ∧ PySem.W.minD (pkD k) (ks.map pkD) = pkD m ∧ ∀ q ∈ k :: ks, q ≠ m → dlt (pkD m) (pkD q) = true := by
  obtain ⟨h1, h2, h3⟩ := minD_at (ks.map pkD) (pkD k)
  have hm : ∃ m, m ∈ k :: ks ∧ PySem.W.minD (pkD k) (ks.map pkD) = pkD m := by
    rcases h1 with h1 | h1
    · exact ⟨k, List.mem_cons_self, h1⟩
    · obtain ⟨m, hm, e⟩ := List.mem_map.mp h1
      exact ⟨m, List.mem_cons_of_mem _ hm, e.symm⟩
  obtain ⟨m, hm, e⟩ := hm
  refine ⟨m, hm, e, fun q hq hne => ?_⟩
  rw [e] at h2 h3
  have hf : dlt (pkD q) (pkD m) = false := by
    rcases List.mem_cons.mp hq with rfl | hq
    · exact h2
    · exact h3 _ (List.mem_map.mpr ⟨q, hq, rfl⟩)
  rcases dlt_tot (pkD_alike m q) (fun z => hne (pkD_inj z).symm) with z | z
  · exact z
  · rw [z] at hf
    cases hf
/-- what has been found, what is left -/
structure Least (L M : List PRow) (ks : List PKey) : Prop where
  up : Rises (M.map fun r => pkD (pk r))
  ahead : ∀ r ∈ M, ∀ q ∈ ks, dlt (pkD (pk r)) (pkD q) = true
  all : ∀ k, k ∈ L.map pk ↔ k ∈ M.map pk ∨ k ∈ ks
  many : ∀ r ∈ M, r.2.2 = cnt L (pk r)
theorem Least.start (L : List PRow) : Least L [] (L.map pk) := ⟨List.Pairwise.nil, fun _ h => (nomatch h), fun k => ⟨Or.inr, fun h => h.resolve_left (fun z => nomatch z)⟩, fun _ h => (nomatch h)⟩
theorem Least.done {L M : List PRow} (h : Least L M []) : M = sumR L := sumR_of h.up (fun k => ⟨fun z => (h.all k).mpr (Or.inl z), fun z => ((h.all k).mp z).resolve_right (fun z => nomatch z)⟩) h.many
theorem Least.next {L M : List PRow} {ks : List PKey} {m : PKey} (h : Least L M ks) (hm : m ∈ ks) (hl : ∀ q ∈ ks, q ≠ m → dlt (pkD m) (pkD q) = true) :
    Least L (M ++ [(m.1, m.2, cnt L m)]) (ks.filter fun q => decide (q ≠ m)) := by
  refine ⟨?_, fun r hr q hq => ?_, fun k => ?_, fun r hr => ?_⟩
  · unfold Rises
    rw [List.map_append]
    refine List.pairwise_append.mpr ⟨h.up, List.pairwise_singleton _ _, fun d hd e he => ?_⟩
    obtain ⟨r, hr, rfl⟩ := List.mem_map.mp hd
    have : e = pkD m := List.mem_singleton.mp he
    rw [this]
    exact h.ahead r hr m hm
  · obtain ⟨q1, q2⟩ := List.mem_filter.mp hq
    rcases List.mem_append.mp hr with hr | hr
    · exact h.ahead r hr q q1
    · rw [List.mem_singleton.mp hr]
      exact hl q q1 (of_decide_eq_true q2)
  · rw [h.all k, List.map_append, List.mem_append, List.mem_filter]
    show _ ↔ (k ∈ M.map pk ∨ k ∈ [m]) ∨ _
    rw [List.mem_singleton, decide_eq_true_eq]
    by_cases e : k = m
    · subst e
      simp [hm]
    · simp [e]
  · rcases List.mem_append.mp hr with hr | hr
    · exact h.many r hr
    · rw [List.mem_singleton.mp hr]
      rfl
/-- the law's own sums -/
def spSummed (K : PySem.W.Frag) : Sp := fun vs H Q _ => ∃ (v : V) (L : List PRow) (n : Nat) (b : Int), vs = [v] ∧ Dp K H v (rowsD L) ∧ RowsOk n b L ∧ n ≤ 900 ∧
  ∀ (v : V) (H' : Hp), Same H H' → Dp K H' v (rowsD (sumR L)) → Q v H'
/-! ### rows parted in two -/
def parted1 (r : PRow) : List PRow := (if 1 < r.2.2 then [(r.1, r.2.1, r.2.2 / 2)] else []) ++ [(r.1, r.2.1, r.2.2 - r.2.2 / 2)]
def parted (L : List PRow) : List PRow := L.flatMap parted1
theorem parted_snoc {L : List PRow} {i : Nat} {r : PRow} (h : L[i]? = some r) : parted (L.take (i + 1)) = parted (L.take i) ++ parted1 r := by
  unfold parted
  rw [take_snoc h, List.flatMap_append]
  simp
theorem parted1_cnt {b : Int} {r : PRow} (h : PRowOk b r) (k : PKey) : cnt (parted1 r) k = if pk r = k then r.2.2 else 0 := by
  have := h.lo
  unfold parted1
  split
  · rw [List.singleton_append, cnt_cons, cnt_cons, cnt_nil]
    show (if pk r = k then r.2.2 / 2 else 0) + ((if pk r = k then r.2.2 - r.2.2 / 2 else 0) + 0) = _
    split <;> omega
  · rw [List.nil_append, cnt_cons, cnt_nil]
    show (if pk r = k then r.2.2 - r.2.2 / 2 else 0) + 0 = _
    split <;> omega
theorem parted1_ok {b : Int} {r : PRow} (h : PRowOk b r) : RowsOk 2 b (parted1 r) := by
  have := h.lo
  have := h.hi
  unfold parted1
  split
  · refine ⟨Nat.le_refl _, fun q hq => ?_⟩
    rcases List.mem_cons.mp hq with rfl | hq
    · exact ⟨h.f, h.s, by show 1 ≤ r.2.2 / 2; omega, by show r.2.2 / 2 ≤ b; omega⟩
    · rw [List.mem_singleton.mp hq]
      exact ⟨h.f, h.s, by show 1 ≤ r.2.2 - r.2.2 / 2; omega, by show r.2.2 - r.2.2 / 2 ≤ b; omega⟩
  · refine ⟨by show 1 ≤ 2; decide, fun q hq => ?_⟩
    rw [List.mem_singleton.mp hq]
    exact ⟨h.f, h.s, by show 1 ≤ r.2.2 - r.2.2 / 2; omega, by show r.2.2 - r.2.2 / 2 ≤ b; omega⟩
theorem parted_both {n : Nat} {b : Int} : ∀ {L : List PRow}, RowsOk n b L → RowsOk (2 * L.length) b (parted L) ∧ ∀ k, cnt (parted L) k = cnt L k
  | [], _ => ⟨⟨Nat.le_refl _, fun _ h => (nomatch h)⟩, fun _ => rfl⟩
  | r :: L, h => by
    obtain ⟨h1, h2⟩ := parted_both h.tail
    have okr := h.each r List.mem_cons_self
    have ok1 := parted1_ok okr
    have e : parted (r :: L) = parted1 r ++ parted L := by unfold parted; rw [List.flatMap_cons]
    rw [e]
    refine ⟨⟨?_, fun q hq => ?_⟩, fun k => ?_⟩
    · rw [List.length_append, List.length_cons]
      have := h1.len
      have := ok1.len
      omega
    · rcases List.mem_append.mp hq with hq | hq
      · exact ok1.each q hq
      · exact h1.each q hq
    · rw [cnt_app, h2 k, cnt_cons, parted1_cnt okr]
theorem sumR_parted {n : Nat} {b : Int} {L : List PRow} (h : RowsOk n b L) : sumR (parted L) = sumR L := sumR_eq (parted_both h).1 h (parted_both h).2
def spParted (K : PySem.W.Frag) : Sp := fun vs H Q _ => ∃ (v : V) (L : List PRow) (n : Nat) (b : Int), vs = [v] ∧ Dp K H v (rowsD L) ∧ RowsOk n b L ∧ n ≤ 400 ∧ b < 2 ^ 60 ∧
  ∀ (v : V) (H' : Hp), Same H H' → Dp K H' v (rowsD (parted L)) → Q v H'
end PK
/-! An own error whose __init__ says super().__init__(text), its families over ValueError. -/
namespace PK
open PySem PySem.Spec PyProof.Rows L2
/-! ### the bound built-in __init__, called -/
section
variable {prog : Program} {w : World} {A : Around} {E : Value → Shared → Prop} {h : Heap} {g : Array GenState} {d : Drawn} {t : Nat} {os : OsState}
variable {nm q : Str} {C N : Addr} {bs bm : List Value} {hdct : Bool} {sn : List Str} {sub : List Value} {ab : Bool} {col : Option Bool} {dd : Option Addr} {k0 k1 k2 k3 k5 : Option Value}
theorem call_mw {u e t0 : Addr} {rest : List Value} {Q : Value → Shared → Prop}
    (hC : h.get? C = some (excClassObj nm q C N bs bm hdct sn sub ab col dd k0 k1 k2 k3 k5 "ValueError.__new__")) (he : h.get? e = some (HandSPX.excO C t0)) (hu : h.get? u = some (PySem.W.kxs_mw "ValueError.__init__" e)) (hrest : rest.length ≤ sizeLine)
    (hq : ∀ h' t1, (∀ b o, b ≠ e → h.get? b = some o → h'.get? b = some o) → h'.get? e = some (HandSPX.excO C t1) → Q .none ⟨h', g, d, t, os⟩) :
    wpAny (model prog w) A (call (.ref u) rest) Q E ⟨h, g, d, t, os⟩ := by
  have kind : (Value.type "method-wrapper" == Value.type "method" || Value.type "method-wrapper" == Value.type "builtin_function_or_method" || Value.type "method-wrapper" == Value.type "method-wrapper") = true := by decide
  refine wpAny_call (codeAny_of_tree ?_)
  show wpAny _ A.in1 (callAny (.ref u) ⟨rest, []⟩) _ _ _
  simp only [callAny]
  refine wpAny_bind (wpAny_load hu ?_)
  simp only [PySem.W.kxs_mw, kind, if_true]
  refine W.KFB.if_so (by decide) (wpAny_bind (PySem.ESX.check_bound F.excBase_ValueError hC he rfl (wpAny_bind (wpAny_pure (wpAny_pure ⟨Code.quiet_builtin _ (by decide +kernel), codeAny_builtin F.excBase_ValueError.initEntry ?_⟩)))))
  rw [Around.under_plainId F.excBase_ValueError.init.plain]
  wp_walk
  have hp : (h.push { cls := .type "tuple", data := .seq rest.toArray }).get? e = some (HandSPX.excO C t0) := Heap.get?_push_of_some _ he
  refine hq _ h.objs.size (fun b o hb ho => ?_) ?_
  · exact (Heap.get?_update_other _ _ hb.symm).trans (Heap.get?_push_of_some _ ho)
  · rw [Heap.get?_update_self _ hp rfl]
    rfl
end
/-! ### a def that says super() -/
/-- the def of the text, within the class at D -/
structure FunS (P : Program) (K : PySem.W.Frag) (x qual : Str) (st : Stmt) (D f : Addr) (fd : FuncData) : Prop where
  ex : ∃ (oc : Value) (od : Option Addr) (osl : Array (Option Value)) (kV doc pm : Value) (an : Option Addr) (cda : Addr) (ct : Value) (cc : Addr) (ccl : Value) (cdd : Option Addr) (vs : Array Value) (ccs : Array (Option Value)) (file : Str) (tf : Tok) (cl : Value) (cld : Option Addr) (csl : Array (Option Value)),
    fd = PySem.W.fnX x qual (defArgs st) (defBody st) (defScope st) [("__class__", cc)] .none kV doc pm an (.ref cda) ct ∧ K.lookup f = some ⟨oc, od, .func fd, osl⟩ ∧ PySem.W.codeIn K (.ref cda) qual = true ∧
    K.lookup cda = some ⟨ccl, cdd, .fields vs, ccs⟩ ∧ vs[2]? = some (.str file tf) ∧ ((P.main.file : Str) == file) = true ∧ K.lookup cc = some ⟨cl, cld, .cell (some (.ref D)), csl⟩
  top : (P.main.scope.names.lookup ("super" : Str)).isSome = false
/-- the class of the error, with its line of classes over ValueError -/
structure SupC (K : PySem.W.Frag) (mg : Str → Option Value) (C : Addr) : Prop where
  ex : OexC K C
  cls : ∃ cd, PySem.W.clsIn K C = some cd
  self : PySem.W.mroIn K C (.ref C) = some true
  ve : PySem.W.mroIn K C (.type "ValueError") = some true
  up : PySem.W.ks_superIn K C C "__init__" = some (some (.builtin "ValueError.__init__"))
  third : PySem.W.nsIn K cStatics "thirdparty.any" = some none
  sup : mg "super" = none
structure SScope (N ps : List Str) (sc : Scope) : Prop where
  kind : sc.kind = .function
  co : sc.isCoroutine = false
  gen : sc.isGenerator = false
  nd : N.Nodup
  pre : N.take ps.length = ps
  par : ∀ x ∈ ps, sc.names.lookup x = some .local
  nocell : ∀ y ∈ sc.names, y.2 ≠ .cell
  fr : ∀ y ∈ sc.names, y.2 = .free → y.1 = "__class__"
  ksup : sc.names.lookup ("super" : Str) = some .globalImplicit
  kcls : sc.names.lookup ("__class__" : Str) = some .free
def cxS (P : Program) (w : World) (K : PySem.W.Frag) (mg : Str → Option Value) (base : Heap) (N : List Str) (qual : Str) (scope : Scope) (f : Addr) (cd : Value) (cc : Addr) (A : Around) (outer : List Env) (s : Shared) (H : Hp) : Cx where
  prog := P
  w := w
  K := K
  mg := mg
  base := base
  A := A.deeper (PySem.W.envX qual scope s.heap.objs.size f cd [("__class__", cc)])
  N := N
  s_0 := s
  H_0 := H
  env := PySem.W.envX qual scope s.heap.objs.size f cd [("__class__", cc)]
  outer := outer
  stack := PySem.W.envX qual scope s.heap.objs.size f cd [("__class__", cc)] :: outer
  ex := []
  calm := true
  fn := fun _ => false
  pn := []
  xe := fun _ _ => False
theorem lookup_rev_zip : ∀ {ps : List Str} {us : List Value} {i : Nat} {y : Str} {u : Value}, ps.Nodup → ps.length = us.length → ps[i]? = some y → us[i]? = some u → (ps.zip us).reverse.lookup y = some u := by
  intro ps us i y u nd hl hp hu
  have hm : (y, u) ∈ ps.zip us := by
    have e : (ps.zip us)[i]? = some (y, u) := by rw [List.getElem?_zip_eq_some]; exact ⟨hp, hu⟩
    exact List.mem_of_getElem? e
  have nd2 : ((ps.zip us).reverse.map (·.1)).Nodup := by
    rw [List.map_reverse, List.map_fst_zip (by omega)]
    exact (List.reverse_perm ps).nodup_iff.mpr nd
  have hm2 : (y, u) ∈ (ps.zip us).reverse := List.mem_reverse.mpr hm
  generalize (ps.zip us).reverse = l at nd2 hm2
  induction l with
  | nil => cases hm2
  | cons p l ih =>
    rw [List.map_cons] at nd2
    obtain ⟨n1, n2⟩ := List.nodup_cons.mp nd2
    rcases List.mem_cons.mp hm2 with e | e
    · subst e
      simp [List.lookup_cons]
    · have hne : (y == p.1) = false := by
        refine beq_eq_false_iff_ne.mpr fun z => n1 ?_
        rw [← z]
        exact List.mem_map.mpr ⟨_, e, rfl⟩
      obtain ⟨p1, p2⟩ := p
      rw [List.lookup_cons, hne]
      exact ih n2 e
/-- a slot that holds something at the start holds an argument -/
theorem slot0 {N : List Str} {vs : List V} {i : Nat} {v : V} (h : (L2.start N vs)[i]? = some (some v)) : vs[i]? = some v := by
  unfold L2.start at h
  rcases Nat.lt_or_ge i (vs.map some).length with z | z
  · rw [List.getElem?_append_left z, List.getElem?_map] at h
    obtain ⟨y, hy, e⟩ := Option.map_eq_some_iff.mp h
    cases e
    exact hy
  · rw [List.getElem?_append_right z] at h
    have := List.mem_of_getElem? h
    rw [List.mem_replicate] at this
    cases this.2
theorem one_cell {cc c : Addr} {x : Str} (h : ([("__class__", cc)] : List (Str × Addr)).lookup x = some c) : x = "__class__" ∧ c = cc := by
  rw [List.lookup_cons] at h
  split at h
  · rename_i z
    exact ⟨beq_iff_eq.mp z, (Option.some.inj h).symm⟩
  · cases h
theorem inv_startS {P : Program} {w : World} {K : PySem.W.Frag} {mg : Str → Option Value} {base : Heap} {N ps : List Str} {qual : Str} {scope : Scope} {f cc : Addr} {cd : Value} {A : Around} {outer : List Env} {s : Shared} {h₁ : Heap} {tk : Nat} {H : Hp} {us : List Value} {vs : List V}
    {oc : Obj} {vc : Option Value} (S : SScope N ps scope) (hd : A.handled = none) (e0 : Env0 P w K mg base A outer s H) (hl : vs.length = ps.length) (r : Vals vs us) (hcc : K.lookup cc = some oc) (hcd : oc.data = .cell vc)
    (hns : h₁.Ns s.heap.objs.size (fun x => (ps.zip us).reverse.lookup x)) (hk : ∀ b o, s.heap.get? b = some o → h₁.get? b = some o) :
    Inv (cxS P w K mg base N qual scope f cd cc A outer s H) [] (L2.start N vs) H { s with heap := h₁, toks := tk } := by
  have cb := e0.bs _ _ (e0.mod.kin _ _ hcc)
  have lps : ps.length ≤ N.length := by
    have e := congrArg List.length S.pre
    rw [List.length_take] at e
    omega
  have okX : (cxS P w K mg base N qual scope f cd cc A outer s H).Ok :=
    { mod := e0.mod, kind := S.kind, glob := rfl, blt := rfl, above := Nat.le_refl _
      inj := fun y z c h1 h2 => by rw [(one_cell h1).1, (one_cell h2).1]
      has := fun y hy => by
        rcases (show scope.names.lookup y = some .cell ∨ scope.names.lookup y = some .free from hy) with q | q
        · exact absurd rfl (S.nocell _ (PySem.mem_of_lookup q))
        · refine ⟨cc, ?_⟩
          show ([("__class__", cc)] : List (Str × Addr)).lookup y = some cc
          rw [show y = "__class__" from S.fr _ (PySem.mem_of_lookup q) rfl]
          simp [List.lookup_cons]
      cab := fun y c hf => nomatch (show false = true from hf)
      hd := fun _ => hd, frames := Around.frames_deeper e0.frames, stk := Or.inr ⟨rfl, rfl⟩
      exf := fun b hb => nomatch hb
      bs := e0.bs, bsz := e0.bsz
      noex := fun b o _ hb => nomatch hb
      exfs := fun b hb => nomatch hb
      funs := e0.funs, frf := e0.frf }
  exact
    { ok := okX, os := rfl, bare := e0.bare, base := Un.kept hk
      loc := ⟨_, hns, fun i y v h1 h2 _ => by
        have hv := slot0 h2
        obtain ⟨u, hu, rv⟩ := r.get hv
        have hi := (List.getElem?_eq_some_iff.mp hv).1
        have hp : ps[i]? = some y := by
          rw [← S.pre, List.getElem?_take, if_pos (by omega)]
          exact h1
        have ndp : ps.Nodup := S.pre ▸ S.nd.sublist (List.take_sublist _ _)
        exact ⟨u, rv, Or.inl ⟨S.par y (List.mem_of_getElem? hp), lookup_rev_zip ndp (hl.symm.trans r.length) hp hu⟩⟩⟩
      cell := fun y c h => by
        obtain ⟨_, rfl⟩ := one_cell h
        exact ⟨vc, oc, hk _ _ cb.1, hcd⟩
      free := e0.hok.fresh (Nat.le_refl _)
      freeC := fun y c h => by
        obtain ⟨_, rfl⟩ := one_cell h
        exact cb.2
      pin := fun p hp => nomatch hp
      hok := e0.hok.kept hk
      len := by
        unfold L2.start
        show _ = N.length
        simp
        omega }
theorem fn_super {P : Program} {w : World} {K : PySem.W.Frag} {mg : Str → Option Value} {base : Heap} {k : Nat} {f C : Addr} {fd : FuncData} {x qual : Str} {st : Stmt} {N ps : List Str} {sp : Sp}
    {e : Expr} {p0 p1 p2 p3 p4 : Pos} {rest : List Stmt} {ar : Arg}
    (F : FunS P K x qual st C f fd) (U : SupC K mg C) (S : SScope N ps (defScope st)) (hb0 : defBody st = .Expr (.Call (.Attribute (.Call (.Name "super" p0) [] [] p1) "__init__" p2) [e] [] p3) p4 :: rest)
    (har : ((defArgs st).posonlyargs ++ (defArgs st).args).head? = some ar) (hps : ps[0]? = some ar.arg)
    (hse : ∀ env : Env, starEach [e] env = (false, eval e env) :: starEach [] env)
    (hev : ∀ env : Env, ∃ pl : Sem Bool, eval (.Call (.Attribute (.Call (.Name "super" p0) [] [] p1) "__init__" p2) [e] [] p3) env = (do
      let ov ← attributeBase (.Call (.Name "super" p0) [] [] p1) "__init__" env (eval (.Call (.Name "super" p0) [] [] p1) env)
      standAt p2.atName
      let (f, first) ← holding [ov] (getMethod ov "__init__" pl)
      callWith p3 f first (backTo p3 (starEach [e] env)) []))
    (hsw : ∀ env : Env, swapsWith (.Call (.Attribute (.Call (.Name "super" p0) [] [] p1) "__init__" p2) [e] [] p3) none p4.line env = pure false)
    (len : ∀ vs H Q E, sp vs H Q E → vs.length = ps.length)
    (hbody : ∀ (cdv : Value) (cc : Addr) (A : Around) (outer : List Env) (s : Shared) (H : Hp) (vs : List V) (Q : VK) (E : XK), Room k (A.deeper (PySem.W.envX qual (defScope st) s.heap.objs.size f cdv [("__class__", cc)])) → sp vs H Q E →
      ∃ (a : Addr) (ta : TA) (t : TS), vs[0]? = some (.ref a) ∧ H a = some (exo a C none) ∧ PA (cxS P w K mg base N qual (defScope st) f cdv cc A outer s H) [e] ta ∧ PSs (cxS P w K mg base N qual (defScope st) f cdv cc A outer s H) rest t ∧
        ta (L2.start N vs) H fun ws H1 => ws.length ≤ 1000 ∧ H1 a = some (exo a C none) ∧ t { nx := fun _ H' => Q .non H', rt := Q } (L2.start N vs) H1) :
    FnOk P w K mg base CX0 (k + 1) f fd ps sp := by
  obtain ⟨oc, od, osl, kV, doc, pm, an, cda, ct, cc, ccl, cdd, fvs, ccs, file, tf, cl, cld, csl, rfl, lk, hcd, lcd, hvs, hfile, lcc⟩ := F.ex
  refine ⟨len, fun A outer s H args us vs Q E hr e0 hb r hsp => ?_⟩
  have hl := len _ _ _ _ hsp
  have kept : ∀ b o, base.get? b = some o → s.heap.get? b = some o := fun b o e => (e0.bs b o e).1
  have KX : K.In s.heap := e0.mod.kin.keeps kept
  have lim : s.heap.NoLimit := e0.mod.nolimit.keeps kept
  refine ks_codeAny_call_defAt (fd := PySem.W.fnX x qual (defArgs st) (defBody st) (defScope st) [("__class__", cc)] .none kV doc pm an (.ref cda) ct) (body := defBody st) (binds := ps.zip us) hr.depth (KX _ _ lk) rfl lim (PySem.W.codeRec_of KX hcd) rfl hb S.nocell
    (fun y hy => S.par y.1 (List.of_mem_zip (show (y.1, y.2) ∈ ps.zip us from hy)).1) (fun h₁ hns hk => ?_) S.co S.gen S.kind
  obtain ⟨a, ta, t, hv0, ha, pa, pr, hq⟩ := hbody (.ref cda) cc A outer s H vs Q E (hr.deeper _) hsp
  have I : Inv (cxS P w K mg base N qual (defScope st) f (.ref cda) cc A outer s H) [] (L2.start N vs) H { s with heap := h₁, toks := s.toks + (ps.zip us).length } := inv_startS S hr.hd e0 hl r lcc rfl hns hk
  show _root_.PySem.wpAt (model P w) (A.deeper (PySem.W.envX qual (defScope st) s.heap.objs.size f (.ref cda) [("__class__", cc)])) (.func (defBody st) (PySem.W.envX qual (defScope st) s.heap.objs.size f (.ref cda) [("__class__", cc)]))
    (execs (defBody st) (PySem.W.envX qual (defScope st) s.heap.objs.size f (.ref cda) [("__class__", cc)])) _ _ _
  rw [hb0]
  obtain ⟨pl, hev⟩ := hev (PySem.W.envX qual (defScope st) s.heap.objs.size f (.ref cda) [("__class__", cc)])
  refine ks_wpAt_execs_cons (ks_wpAt_Expr_any (ks_wpAt_MethodCall (pl := pl) ?_ hev) (by unfold interactive; simp [S.kind]) (hsw _))
  have X1 : K.In h₁ := KX.keeps hk
  have hmem : ar.arg ∈ ps := List.mem_of_getElem? hps
  refine ks_wpAt_super_base (env := PySem.W.envX qual (defScope st) s.heap.objs.size f (.ref cda) [("__class__", cc)]) (cc := cda) S.ksup S.kcls (by decide) rfl (X1 _ _ lk) rfl har rfl (X1 _ _ lcd) rfl hvs hfile F.top ?_
  obtain ⟨mb, b1, b2⟩ := I.ok.mod.blt
  refine PySem.W.ks_loadName_global S.kind S.ksup (PySem.Calls.loadGlobal_builtin (env := PySem.W.envX qual (defScope st) s.heap.objs.size f (.ref cda) [("__class__", cc)]) (I.ok.mod.glob.keeps I.bk) U.sup (b1.keeps I.bk) ((b2 _ (by decide +kernel)).trans (show bootBuiltins "super" = some (.type "super") by decide +kernel)) ⟨rfl, ?_⟩)
  refine wpAny_loadName_free S.kind S.kcls rfl ⟨_, X1 _ _ lcc, rfl⟩ ?_
  obtain ⟨u0, hu0, ru0⟩ := r.get hv0
  cases ru0
  have ndP : ps.Nodup := by rw [← S.pre]; exact S.nd.sublist (List.take_sublist _ _)
  refine wpAny_loadName_local S.kind (S.par _ hmem) hns (lookup_rev_zip ndP (hl.symm.trans r.length) hps hu0) ?_
  obtain ⟨cd, hcd'⟩ := U.cls
  obtain ⟨oD, hD1, hD2⟩ : ∃ oD, h₁.get? C = some oD ∧ oD.data = .cls cd := by
    have hD := hcd'
    unfold PySem.W.clsIn at hD
    split at hD
    · rename_i c d cd' sl ho
      cases hD
      exact ⟨_, X1 _ _ ho, rfl⟩
    · cases hD
  obtain ⟨t1, hx⟩ := exo_at I.hok ha
  have hx : h₁.get? a = some (HandSPX.excO C t1) := hx
  refine ks_wpAny_isType_cls hD1 hD2 ⟨rfl, ?_⟩
  refine ks_wpAny_call_super hD1 hD2 hx rfl (fun c z => by cases z) (PySem.W.looks_mroIn X1 U.self) (fun h2 e2 k2 => ?_)
  have X2 : K.In h2 := X1.keeps k2
  have IA : PySem.W.InstAt h2 a (HandSPX.excO C t1) C none := ⟨k2 _ _ hx, rfl, rfl, trivial⟩
  have hup := U.up
  unfold PySem.W.ks_superIn at hup
  rw [hcd', Option.bind_some] at hup
  refine PySem.W.kxs_getMethod PySem.W.kxs_ValueError e2 (PySem.W.looks_opaque X2 U.third) (l₀ := cd.mro) ?_ rfl X2 hup (IA.type.andThen (PySem.W.looks_mroIn X2 U.ve)) (PySem.W.ks_ne X2 IA hcd') (by decide) ?_
  · exact (PySem.W.looks_clsIn X2 hcd').andThen .now
  -- the call
  have k3 : ∀ b o, h2.get? b = some o → (h2.push (PySem.W.kxs_mw "ValueError.__init__" a)).get? b = some o := fun b o z => Heap.get?_push_of_some _ z
  have I2 : Inv (cxS P w K mg base N qual (defScope st) f (.ref cda) cc A outer s H) [] (L2.start N vs) H { s with heap := h2, toks := s.toks + (ps.zip us).length } := I.kept k2
  have I3 : Inv (cxS P w K mg base N qual (defScope st) f (.ref cda) cc A outer s H) [] (L2.start N vs) H { s with heap := h2.push (PySem.W.kxs_mw "ValueError.__init__" a), toks := s.toks + (ps.zip us).length + 1 } := I2.kept k3
  have I3 : Inv (cxS P w K mg base N qual (defScope st) f (.ref cda) cc A outer s H) [(h2.objs.size, PySem.W.kxs_mw "ValueError.__init__" a)] (L2.start N vs) H { s with heap := h2.push (PySem.W.kxs_mw "ValueError.__init__" a), toks := s.toks + (ps.zip us).length + 1 } :=
    I3.pins_of fun p hp => by
      rw [List.mem_singleton.mp hp]
      exact ⟨Heap.get?_push_size _ rfl, I2.hok.fresh (Nat.le_refl _), fun z => Nat.lt_irrefl _ (z ▸ I2.lt), I2.nofs (Nat.le_refl _), fun v z => by cases z⟩
  show wpAny _ _ (callWith p3 (.ref h2.objs.size) [] (backTo p3 (starEach [e] (PySem.W.envX qual (defScope st) s.heap.objs.size f (.ref cda) [("__class__", cc)]))) []) _ _ _
  have prun := pa.run p3 _ _ _ _ _ I3 hq
  rw [show (cxS P w K mg base N qual (defScope st) f (.ref cda) cc A outer s H).env = PySem.W.envX qual (defScope st) s.heap.objs.size f (.ref cda) [("__class__", cc)] from rfl] at prun
  rw [hse] at prun ⊢
  refine PySem.W.kxs_callWith (i := "ValueError.__init__") (x := a) rfl (PySem.Calls.evalArgs_plain (wpAny_mono prun (fun ws s4 hws => ?_) fun _ _ z => z.elim))
  obtain ⟨zs, H1, I4, r4, hz, ha1, ht⟩ := hws
  have pin := I4.pin (h2.objs.size, PySem.W.kxs_mw "ValueError.__init__" a) (by simp)
  refine ⟨pin.1, ?_⟩
  obtain ⟨nm, q, N', bs, bm, sn, sub, ab, col, dd, k0, k1, k2', k3', k5, hC, hbm⟩ := U.ex.cls
  obtain ⟨t4, hx4⟩ := exo_at I4.hok ha1
  obtain ⟨hp4, g4, d4, tk4, os4⟩ := s4
  refine call_mw (I4.kIn _ _ hC) hx4 pin.1 (by show ws.length ≤ sizeLine; rw [← r4.length, sizeLine_eq]; omega) fun h5 t5 k5' hx5 => ?_
  have J := I4.write (t' := tk4) (x := a) (e := a) (o := exo a C none) (by rw [ha1]; exact True.intro) (.inl rfl) k5' ⟨_, hx5⟩ (exo_ok hx5)
  have eu : upd H1 a (exo a C none) = H1 := by
    funext b
    by_cases hb : b = a
    · rw [hb, upd_same, ha1]
    · rw [upd_ne hb]
  rw [eu] at J
  have J0 := J.pins_of (pins' := []) fun p hp => (nomatch hp)
  refine wpAt_of_wpAny (wpAny_mono (pr.run [] _ _ _ _ J0 ht) (fun fl s' hs => ?_) fun _ _ z => z.elim)
  cases fl with
  | ret u =>
    obtain ⟨v, σ', H', J', rv, q'⟩ := hs
    exact ⟨v, H', J'.os, J'.bare, J'.base, J'.hok, rv, q'⟩
  | next =>
    obtain ⟨σ', H', J', q'⟩ := hs
    exact ⟨V.non, H', J'.os, J'.bare, J'.base, J'.hok, rfl, q'⟩
  | brk => exact hs.elim fun _ h => h.elim fun _ h => h.2.elim
  | cont => exact hs.elim fun _ h => h.elim fun _ h => h.2.elim
end PK
/-! Heaps together, what is above, what lacks. -/
namespace PK
open PySem PySem.Spec PyProof.Rows L2
/-- of this form, and of this shade where one is told -/
def sel (f : Str) (o : Option Str) (r : PRow) : Bool := decide (r.1 = f) && match o with
  | none => true
  | some t => decide (r.2.1 = t)
def selL (L : List PRow) (f : Str) (o : Option Str) : List Int := (L.filter (sel f o)).map fun r => r.2.2
def manyR (L : List PRow) (f : Str) (o : Option Str) : Int := (selL L f o).sum
theorem selL_snoc {L : List PRow} {i : Nat} {r : PRow} (h : L[i]? = some r) (f : Str) (o : Option Str) : selL (L.take (i + 1)) f o = selL (L.take i) f o ++ if sel f o r = true then [r.2.2] else [] := by
  unfold selL
  rw [take_snoc h, List.filter_append, List.map_append]
  congr 1
  by_cases e : sel f o r = true
  · rw [if_pos e, List.filter_cons_of_pos e]
    rfl
  · rw [if_neg e, List.filter_cons_of_neg e]
    rfl
theorem selL_len (L : List PRow) (f : Str) (o : Option Str) : (selL L f o).length ≤ L.length := by
  unfold selL
  rw [List.length_map]
  exact List.length_filter_le _ _
theorem manyR_cnt (L : List PRow) (k : PKey) : manyR L k.1 (some k.2) = cnt L k := by
  rw [← ofPart_sum k L]
  unfold manyR selL ofPart
  congr 2
  refine List.filter_congr fun r _ => ?_
  show (decide (r.1 = k.1) && decide (r.2.1 = k.2)) = decide (pk r = k)
  by_cases e1 : r.1 = k.1
  · by_cases e2 : r.2.1 = k.2
    · have : pk r = k := Prod.ext e1 e2
      simp [e1, e2, this]
    · have : ¬ pk r = k := fun z => e2 (congrArg Prod.snd z)
      simp [e2, this]
  · have : ¬ pk r = k := fun z => e1 (congrArg Prod.fst z)
    simp [e1, this]
/-- what the one has more than the other -/
def above1 (M : List PRow) (r : PRow) : Option PRow := if 0 < r.2.2 - cnt M (pk r) then some (r.1, r.2.1, r.2.2 - cnt M (pk r)) else none
def aboveR (L M : List PRow) : List PRow := L.filterMap (above1 M)
theorem aboveR_snoc {L M : List PRow} {i : Nat} {r : PRow} (h : L[i]? = some r) : aboveR (L.take (i + 1)) M = aboveR (L.take i) M ++ if 0 < r.2.2 - cnt M (pk r) then [(r.1, r.2.1, r.2.2 - cnt M (pk r))] else [] := by
  unfold aboveR
  rw [take_snoc h, List.filterMap_append]
  congr 1
  rw [List.filterMap_cons]
  unfold above1
  by_cases e : 0 < r.2.2 - cnt M (pk r)
  · rw [if_pos e, if_pos e]
    rfl
  · rw [if_neg e, if_neg e]
    rfl
theorem aboveR_len (L M : List PRow) : (aboveR L M).length ≤ L.length := List.length_filterMap_le _ _
theorem aboveR_mem {L M : List PRow} {q : PRow} (h : q ∈ aboveR L M) : ∃ r ∈ L, pk q = pk r ∧ q.2.2 = r.2.2 - cnt M (pk r) ∧ 0 < q.2.2 := by
  obtain ⟨r, hr, e⟩ := List.mem_filterMap.mp h
  unfold above1 at e
  split at e
  · rename_i z
    cases e
    exact ⟨r, hr, rfl, rfl, z⟩
  · cases e
theorem aboveR_ok {n m : Nat} {b c : Int} {L M : List PRow} (hL : RowsOk n b L) (hM : RowsOk m c M) : RowsOk n b (aboveR L M) := by
  refine ⟨Nat.le_trans (aboveR_len L M) hL.len, fun q hq => ?_⟩
  obtain ⟨r, hr, e1, e2, h0⟩ := aboveR_mem hq
  have okr := hL.each r hr
  have hn := cnt_nn hM (pk r)
  have hi := okr.hi
  have f1 : q.1 = r.1 := congrArg (fun k : PKey => k.1) e1
  have f2 : q.2.1 = r.2.1 := congrArg (fun k : PKey => k.2) e1
  exact ⟨by rw [f1]; exact okr.f, by rw [f2]; exact okr.s, by omega, by omega⟩
theorem aboveR_cnt {L M N : List PRow} (h : ∀ k, cnt M k = cnt N k) : aboveR L M = aboveR L N := by
  unfold aboveR
  refine congrArg (fun f => L.filterMap f) (funext fun r => ?_)
  unfold above1
  rw [h]
theorem rises_above {L M : List PRow} (h : Rises (L.map fun r => pkD (pk r))) : Rises ((aboveR L M).map fun r => pkD (pk r)) := by
  unfold Rises at h ⊢
  rw [List.pairwise_map] at h ⊢
  unfold aboveR
  refine List.pairwise_filterMap.mpr (h.imp fun {a b} z a' ha b' hb => ?_)
  unfold above1 at ha hb
  split at ha
  · split at hb
    · cases ha
      cases hb
      exact z
    · cases hb
  · cases ha
/-- rising rows are their own sums -/
theorem sumR_id {M : List PRow} (h : Rises (M.map fun r => pkD (pk r))) : sumR M = M := by
  symm
  refine sumR_of h (fun k => Iff.rfl) fun r hr => ?_
  have nd : (M.map pk).Nodup := by
    unfold Rises at h
    rw [List.pairwise_map] at h
    unfold List.Nodup
    rw [List.pairwise_map]
    refine h.imp fun {a b} z e => ?_
    rw [e, dlt_irr] at z
    cases z
  clear h
  induction M with
  | nil => cases hr
  | cons q M ih =>
    rw [List.map_cons] at nd
    obtain ⟨n1, n2⟩ := List.nodup_cons.mp nd
    rw [cnt_cons]
    rcases List.mem_cons.mp hr with e | e
    · subst e
      rw [if_pos rfl, cnt_none n1]
      omega
    · have hne : ¬ pk q = pk r := fun z => n1 (by rw [z]; exact List.mem_map.mpr ⟨r, e, rfl⟩)
      rw [if_neg hne, ← ih e n2]
      omega
theorem sumR_rises (L : List PRow) : Rises ((sumR L).map fun r => pkD (pk r)) := by
  have e : ((sumR L).map fun r => pkD (pk r)) = ((sumR L).map pk).map pkD := by rw [List.map_map]; rfl
  rw [e, sumR_keys]
  exact skeys_rises L
theorem sumR_plus (L M : List PRow) : sumR (sumR L ++ sumR M) = sumR (L ++ M) := by
  refine sumR_congr (fun k => ?_) fun k => ?_
  · rw [List.map_append, List.map_append, List.mem_append, List.mem_append, sumR_keys, sumR_keys, mem_skeys, mem_skeys]
  · rw [cnt_app, cnt_app, cnt_sumR, cnt_sumR]
/-! ### what the methods promise -/
def spManyM (K : PySem.W.Frag) (C : Addr) : Sp := fun vs H Q _ => ∃ (p : Addr) (f : Str) (x : V) (o : Option Str) (L : List PRow), vs = [.ref p, .str f, x] ∧ HeapAt K C H p L ∧ L.length ≤ 900 ∧
  ((x = .non ∧ o = none) ∨ ∃ t, x = .str t ∧ o = some t) ∧ ∀ H' : Hp, Same H H' → Q (.int (manyR L f o)) H'
def spAbove (K : PySem.W.Frag) (C : Addr) : Sp := fun vs H Q _ => ∃ (p q : Addr) (L M : List PRow), vs = [.ref p, .ref q] ∧ HeapAt K C H p L ∧ HeapAt K C H q M ∧ L.length ≤ 900 ∧ M.length ≤ 900 ∧
  ∀ (v : V) (H' : Hp), Same H H' → Dp K H' v (rowsD (aboveR L M)) → Q v H'
def spPlus (K : PySem.W.Frag) (C : Addr) : Sp := fun vs H Q _ => ∃ (p q : Addr) (L M : List PRow), vs = [.ref p, .ref q] ∧ HeapAt K C H p L ∧ HeapAt K C H q M ∧ L.length + M.length ≤ 900 ∧
  ∀ (r : Addr) (H' : Hp), H r = none → Same H H' → HeapAt K C H' r (sumR (L ++ M)) → Q (.ref r) H'
def spHolds (K : PySem.W.Frag) (C : Addr) : Sp := fun vs H Q _ => ∃ (p q : Addr) (L M : List PRow) (n : Nat) (b : Int), vs = [.ref p, .ref q] ∧ HeapAt K C H p L ∧ HeapAt K C H q M ∧ RowsOk n b L ∧ RowsOk n b M ∧ n ≤ 900 ∧
  ∀ H' : Hp, Same H H' → Q (.bl (decide (aboveR M L = []))) H'
/-- an error with the one field -/
def spErr1 (C : Addr) (f : Str) : Sp := fun vs H Q _ => ∃ (a : Addr) (v : V), vs = [.ref a, v] ∧ H a = some (exo a C none) ∧
  ∀ (dx : Addr), H dx = none → dx ≠ a → Q .non (upd (upd H dx (exd dx [(f, v)])) a (exo a C (some dx)))
def spLess (K : PySem.W.Frag) (C CN : Addr) : Sp := fun vs H Q E => ∃ (p q : Addr) (L M : List PRow) (n : Nat) (b : Int), vs = [.ref p, .ref q] ∧ HeapAt K C H p L ∧ HeapAt K C H q M ∧ RowsOk n b L ∧ RowsOk n b M ∧ n ≤ 900 ∧
  Rises (L.map fun r => pkD (pk r)) ∧ Rises (M.map fun r => pkD (pk r)) ∧
  (aboveR M L = [] → ∀ (r : Addr) (H' : Hp), H r = none → Same H H' → HeapAt K C H' r (aboveR L M) → Q (.ref r) H') ∧
  (aboveR M L ≠ [] → ∀ (r d : Addr) (H' : Hp), H d = none → H r = none → Same H H' → HeapAt K C H' r (aboveR M L) → H' d = some (.xd [("lacking", .ref r)]) → E (.ref CN) (some d) H')
/-- rows == (), rows != () -/
theorem rows_shaped {n : Nat} {b : Int} {L : List PRow} (h : RowsOk n b L) : SeqAt.shaped (rowsD L) = true := by
  have hc : PyData.canLayAll0 (L.map prowD) = true := by
    have all := h.each
    clear h
    induction L with
    | nil => rfl
    | cons r L ih =>
      rw [List.map_cons]
      show (PyData.canLay0 (prowD r) && PyData.canLayAll0 (L.map prowD)) = true
      rw [ih fun q hq => all q (List.mem_cons_of_mem _ hq)]
      have okr := all r List.mem_cons_self
      simp [prowD, PyData.canLay0, PyData.canLayAll0, word_ok okr.f, word_ok okr.s]
  have hd : (rowsD L).depth ≤ 64 := by
    have : PyData.depthAll (L.map prowD) ≤ 63 := depthAll_le fun d hd => by
      obtain ⟨r, _, rfl⟩ := List.mem_map.mp hd
      show 1 ≤ 63
      decide
    show PyData.depthAll (L.map prowD) + 1 ≤ 64
    omega
  unfold SeqAt.shaped
  rw [show (rowsD L).canLay0 = true from by simpa [rowsD, PyData.canLay0] using hc, decide_eq_true hd]
  rfl
theorem rows_alike (L M : List PRow) : PySem.W.alike (rowsD L) (rowsD M) = true := by
  show PySem.W.alikeAll (L.map prowD) (M.map prowD) = true
  induction L generalizing M with
  | nil => simp [PySem.W.alikeAll]
  | cons r L ih =>
    cases M with
    | nil => simp [PySem.W.alikeAll]
    | cons q M =>
      rw [List.map_cons, List.map_cons, PySem.W.alikeAll, ih]
      simp [prowD, PySem.W.alike, PySem.W.alikeAll]
theorem prowD_inj {a b : PRow} (h : prowD a = prowD b) : a = b := by
  unfold prowD at h
  injection h with h
  injection h with h1 h
  injection h with h2 h
  injection h with h3 _
  injection h1 with h1
  injection h2 with h2
  injection h3 with h3
  exact Prod.ext h1 (Prod.ext h2 h3)
theorem rowsD_inj {L M : List PRow} (h : rowsD L = rowsD M) : L = M := by
  unfold rowsD at h
  injection h with h
  exact (List.map_inj_right fun a b => prowD_inj).mp h
theorem rows_eqv (L M : List PRow) : PyData.eqv (rowsD L) (rowsD M) = decide (L = M) := by
  by_cases e : L = M
  · subst e
    rw [decide_eq_true rfl]
    exact eqv_refl _ (flat_rows L)
  · rw [decide_eq_false e]
    exact eqv_false (rows_alike L M) fun z => e (rowsD_inj z)
end PK
/-! Sets of texts: made by a comprehension, sorted. -/
namespace PK
open PySem PySem.Spec PyProof.Rows L2
/-- the set at a holds just the texts l, each once -/
def SetTx (P : Program) (w : World) (h : Heap) (a : Addr) (l : List Str) : Prop := ∃ D : Froz.SD, h.get? a = some (Froz.sObj "set" D) ∧ Froz.TxOk P w D l ∧ Ris D.2.2.place.toList ∧ (w.params.followText "set-order" = true ∨ D.2.2.led = true)
def SetTO (P : Program) (w : World) (a : Addr) (l : List Str) : HO := .ext fun h => SetTx P w h a l
/-- one more -/
def ins (k : Str) (l : List Str) : List Str := if k ∈ l then l else k :: l
theorem setTO_ok {P : Program} {w : World} {H : Hp} {h : Heap} {a : Addr} {l : List Str} (R : SetTx P w h a l) : ObjOk P w H h a (SetTO P w a l) := by
  obtain ⟨D, hD, r⟩ := id R
  exact ⟨R, ⟨_, hD⟩, fun h1 h2 z st => by
    obtain ⟨D', e, q⟩ := z
    exact ⟨D', st _ e, q⟩⟩
section
variable {P : Program} {w : World} {A : Around} {E : Value → Shared → Prop} {s : Shared}
theorem tail_both {ep : Nat} {es1 : Array (Int × Value)} {t2 : SetTable} {b : Bool} (r : Ris t2.place.toList) : Ris (Froz.tailTx ep es1 t2 b).2.2.place.toList ∧ (Froz.tailTx ep es1 t2 b).2.2.led = t2.led := by
  unfold Froz.tailTx
  by_cases c : (!b && t2.tooFull) = true
  · rw [if_pos c]
    exact ⟨relayAll_ris _ _ _, relayAll_led _ _ _⟩
  · rw [if_neg c]
    exact ⟨r, rfl⟩
theorem addTx_both {h : Int} {v : Value} {D : Froz.SD} (r : Ris D.2.2.place.toList) : Ris (Froz.addTx h v D).2.2.place.toList ∧ (Froz.addTx h v D).2.2.led = D.2.2.led := by
  have r1 := layNew_ris D.2.2 D.1 h v r
  have r2 := layNew_led D.2.2 D.1 h v
  unfold Froz.addTx
  by_cases c : (layNew D.2.2 D.1 h v).2.1.plain = true
  · rw [if_pos c, ← r2]
    exact tail_both r1
  · rw [if_neg c, ← r2]
    exact tail_both r1
/-- a text that is in it already -/
theorem add_old {a : Addr} {T : String} {D : Froz.SD} {l : List Str} {k : Str} {u : Tok} {Q : Bool → Shared → Prop} (ho : s.heap.get? a = some (Froz.sObj T D)) (F : Froz.TxOk P w D l) (hk : k ∈ l) (hb : l.length < scanBound)
    (h : Q false s) : wpAny (model P w) A (setAddHashed a (.str k u) (hashStr w k)) Q E s := by
  obtain ⟨es, ep, t⟩ := D
  have key : (strKind P w).is k (.str k u) = true := Froz.is_str k u
  obtain ⟨e, he, hp⟩ := (F.mem k).mp hk
  have found : ∃ j, List.findIdx? (fun e => (strKind P w).is k e.2) es.toList = some j := by
    cases z : List.findIdx? (fun e => (strKind P w).is k e.2) es.toList with
    | some j => exact ⟨j, rfl⟩
    | none =>
      have := List.findIdx?_eq_none_iff.mp z e he
      rw [hp] at this
      cases this
  obtain ⟨j, hj⟩ := found
  have small : es.size < scanBound := Nat.lt_of_le_of_lt (Nat.le_of_eq F.sz) hb
  have fit : t.fits es.size = true := F.fit
  have el : ElemsOf (strKind P w) es.toList := F.el
  unfold setAddHashed setAddHashedIn
  refine wpAny_holding (wpAny_bind (wpAny_setState_of (es := es) (ep := ep) (t := t) ho rfl fit ?_))
  dsimp only
  rw [byScan_of rfl small el]
  simp only [↓reduceIte]
  unfold setAddByScan
  refine wpAny_bind (wpAny_bind (wpAny_rule (wpAny_bind (wpAny_setScan_of (es := es) (ep := ep) (t := t) (knd := strKind P w) (k := k) key ho rfl fit el ?_))))
  rw [hj]
  exact wpAny_pure (wpAny_pure h)
/-- found.add(k) -/
theorem setTx_add {a : Addr} {l : List Str} {k : Str} {u : Tok} {Q : Value → Shared → Prop} (R : SetTx P w s.heap a l) (hb : l.length + 1 < scanBound)
    (h : ∀ h', Heap.SameBut a s.heap h' → SetTx P w h' a (ins k l) → Q .none { s with heap := h', toks := s.toks + 1 }) :
    wpAny (model P w) A (call (.builtin "set.add") [.ref a, .str k u]) Q E s := by
  obtain ⟨D, hD, F', r, led⟩ := R
  have ty : s.TypeIs (.ref a) "set" := ⟨_, hD, rfl⟩
  refine wpAny_call_entry F.slot_set_add ty F.entry_set_add ?_ (F.args_set_add_2 _ _)
  unfold Builtin.«set.add» Builtin.Frozenset.oneOther
  simp only [List.isEmpty_nil, bind_assoc]
  unfold Builtin.Frozenset.addrOf setAdd
  refine wpAny_bind (wpAny_pure (wpAny_bind (wpAny_pure (wpAny_bind (wpAny_holding (wpAny_bind ((strKind P w).pyHash (Froz.is_str k u) ?_)))))))
  by_cases hk : k ∈ l
  · refine add_old (s := { s with toks := s.toks + 1 }) hD F' hk (by omega) (wpAny_pure ⟨_, rfl, h s.heap (Heap.SameBut.refl a _) ?_⟩)
    unfold ins
    rw [if_pos hk]
    exact ⟨D, hD, F', r, led⟩
  · refine Froz.add_x (s := { s with toks := s.toks + 1 }) hD F' hk hb (wpAny_pure ⟨_, rfl, h _ (Heap.SameBut.update ..) ?_⟩)
    unfold ins
    rw [if_neg hk]
    exact ⟨_, Heap.get?_update_self _ hD rfl, Froz.add_ok u F', (addTx_both r).1, led.imp id fun z => by rw [(addTx_both r).2]; exact z⟩
theorem setTx_new {h : Heap} : SetTx P w (h.push { cls := .type "set", dict := none, data := .set #[] 0 (.fresh 0 0 (!w.params.followText "set-order")) }) h.objs.size [] := by
  refine ⟨(#[], 0, .fresh 0 0 (!w.params.followText "set-order")), Heap.get?_push_size _ rfl, Froz.TxOk.nil (by cases w.params.followText "set-order" <;> rfl), ?_, ?_⟩
  · exact ris_range 0
  · cases w.params.followText "set-order"
    · exact Or.inr rfl
    · exact Or.inl rfl
end
/-! ### members -/
theorem ins_nodup {k : Str} {l : List Str} (h : l.Nodup) : (ins k l).Nodup := by
  unfold ins
  split
  · exact h
  · rename_i z
    exact List.nodup_cons.mpr ⟨z, h⟩
theorem mem_ins {k y : Str} {l : List Str} : y ∈ ins k l ↔ y = k ∨ y ∈ l := by
  unfold ins
  split
  · rename_i z
    constructor
    · exact Or.inr
    · rintro (rfl | h)
      · exact z
      · exact h
  · exact List.mem_cons
theorem ins_len {k : Str} {l : List Str} : (ins k l).length ≤ l.length + 1 := by
  unfold ins
  split
  · exact Nat.le_succ _
  · exact Nat.le_refl _
theorem perm_of_sub : ∀ {l m : List Str}, l.Nodup → (∀ y ∈ l, y ∈ m) → m.length = l.length → l.Perm m
  | [], m, _, _, hl => by
    have : m = [] := List.eq_nil_of_length_eq_zero hl
    rw [this]
  | k :: t, m, nd, sub, hl => by
    obtain ⟨n1, n2⟩ := List.nodup_cons.mp nd
    have hk := sub k List.mem_cons_self
    have p := List.perm_cons_erase hk
    refine (List.Perm.cons k (perm_of_sub n2 (fun y hy => ?_) ?_)).trans p.symm
    · exact (List.mem_erase_of_ne (fun e => n1 (by rw [← e]; exact hy))).mpr (sub y (List.mem_cons_of_mem _ hy))
    · have := p.length_eq
      rw [List.length_cons] at this hl
      omega
/-- the texts of the entries -/
theorem texts_of {P : Program} {w : World} : ∀ {es : List (Int × Value)}, ElemsOf (strKind P w) es → ∃ ks : List Str, ks.length = es.length ∧ Vals (ks.map V.str) (es.map (·.2)) ∧ ∀ k, k ∈ ks ↔ ∃ e ∈ es, (strKind P w).is k e.2 = true
  | [], _ => ⟨[], rfl, .nil, fun k => ⟨fun h => (nomatch h), fun ⟨e, h, _⟩ => (nomatch h)⟩⟩
  | e :: es, h => by
    obtain ⟨ks, h1, h2, h3⟩ := texts_of h.tail
    obtain ⟨⟨k, hk, _⟩, _⟩ := h.head
    obtain ⟨t, et⟩ := Value.isStrOf_shape (x := k) (v := e.2) hk
    refine ⟨k :: ks, by rw [List.length_cons, List.length_cons, h1], ?_, fun y => ?_⟩
    · exact .cons ⟨t, et⟩ h2
    · rw [List.mem_cons, h3 y]
      constructor
      · rintro (rfl | ⟨e', he, q⟩)
        · exact ⟨e, List.mem_cons_self, hk⟩
        · exact ⟨e', List.mem_cons_of_mem _ he, q⟩
      · rintro ⟨e', he, q⟩
        rcases List.mem_cons.mp he with rfl | he
        · exact Or.inl ((strKind P w).inj _ _ _ q hk)
        · exact Or.inr ⟨e', he, q⟩
/-- texts in order -/
def sortS (l : List Str) : List Str := srt false PyData.str l
theorem str_alike (a b : Str) : PySem.W.alike (PyData.str a) (PyData.str b) = true := by simp [PySem.W.alike]
theorem str_rises {l : List Str} (h : l.Nodup) : Rises ((sortS l).map PyData.str) := by
  refine srt_rises (PySem.W.AllAlike.of str_alike) ?_
  unfold List.Nodup at h ⊢
  exact List.pairwise_map.mpr (h.imp fun {a b} q e => q (by injection e))
theorem sortS_of {l ys : List Str} (hl : l.Nodup) (h : Rises (ys.map PyData.str)) (hm : ∀ y, y ∈ ys ↔ y ∈ l) : ys = sortS l := by
  have e := rises_ext h (str_rises hl) fun d => by
    rw [List.mem_map, List.mem_map]
    constructor
    · rintro ⟨y, hy, rfl⟩
      exact ⟨y, (srt_perm false _ l).mem_iff.mpr ((hm y).mp hy), rfl⟩
    · rintro ⟨y, hy, rfl⟩
      exact ⟨y, (hm y).mpr ((srt_perm false _ l).mem_iff.mp hy), rfl⟩
  exact (List.map_inj_right fun a b q => by injection q).mp e
/-! ### sorted -/
section
variable {X : Cx}
def rSrtSet (P : Program) (w : World) : List V → Hp → VK → Prop := fun vs H Q => ∃ (a : Addr) (l : List Str), vs = [.ref a] ∧ H a = some (SetTO P w a l) ∧ l.Nodup ∧ l.length < scanBound ∧ l.length ≤ 4090 ∧
  ∀ p, H p = none → Q (.ref p) (upd H p (.lst ((sortS l).map V.str)))
theorem call_srtSet {k : Nat} (hc : X.calm = true) (hr : Room k X.A) : CallR X (.builtin "sorted") (rSrtSet X.prog X.w) := by
  intro pins s σ H vs us Q I r h
  obtain ⟨a, l, rfl, ha, nd, hb, hz, q⟩ := h
  rw [Vals.ref1 r]
  obtain ⟨D, hD, F', hris, hled⟩ := (I.hok a _ ha).1
  have hu := hr.un
  refine Calls.call_function_entry PyProof.Rows.kind_sorted PyProof.Rows.plain_sorted PyProof.Rows.entry_sorted (PyProof.Rows.args_sorted1 _) ?_
  unfold Builtin.«sorted»
  refine wpAny_bind (m := checkCount "sorted" 1 1 _) (wpAny_pure ?_)
  have fit : D.2.2.fits D.1.size = true := F'.fit
  refine wpAny_bind (collect_set (A := X.A.in1) (I.ok.hd hc) ⟨_, hD, rfl, rfl⟩ fit (Nat.lt_of_le_of_lt (Nat.le_of_eq F'.sz) hb) hris hled fun s1 out kp big hg ho perm => ?_)
  have I1 : Inv X pins σ H s1 := I.call' (ch := []) ho (Un.kept kp) (I.hok.kept kp) (by rw [hg]; exact I.bare) (fun _ z => (nomatch z))
  obtain ⟨ks0, hk1, hk2, hk3⟩ := texts_of F'.el
  -- in the order in which they came
  obtain ⟨ks, kperm, kvals⟩ : ∃ ks : List Str, ks.Perm ks0 ∧ Vals (ks.map V.str) out := by
    have gen : ∀ {us vs : List Value}, us.Perm vs → ∀ {ys : List Str}, Vals (ys.map V.str) vs → ∃ zs : List Str, zs.Perm ys ∧ Vals (zs.map V.str) us := by
      intro us vs p
      induction p with
      | nil => intro ys h; exact ⟨ys, List.Perm.refl _, h⟩
      | @cons x l1 l2 _ ih =>
        intro ys h
        cases ys with
        | nil => cases h
        | cons y ys =>
          cases h with
          | cons h1 h2 =>
            obtain ⟨zs, p1, p2⟩ := ih h2
            exact ⟨y :: zs, p1.cons y, .cons h1 p2⟩
      | @swap x y l1 =>
        intro ys h
        match ys, h with
        | y1 :: y2 :: ys, .cons h1 (.cons h2 h3) => exact ⟨y2 :: y1 :: ys, List.Perm.swap _ _ _, .cons h2 (.cons h1 h3)⟩
      | trans _ _ i1 i2 =>
        intro ys h
        obtain ⟨zs, p1, p2⟩ := i2 h
        obtain ⟨ws, p3, p4⟩ := i1 p2
        exact ⟨ws, p3.trans p1, p4⟩
    exact gen perm hk2
  have lperm : l.Perm ks := (perm_of_sub nd (fun y hy => (hk3 y).mpr ((F'.mem y).mp hy)) (by rw [hk1, Array.length_toList]; exact F'.sz)).trans kperm.symm
  have lks : ks.length = l.length := lperm.length_eq.symm
  have lout : out.length = ks.length := by rw [← kvals.length, List.length_map]
  let B : List (V × PyData) := ks.map fun y => (V.str y, PyData.str y)
  have b1 : B.map (·.1) = ks.map V.str := by rw [List.map_map]; rfl
  have b2 : B.map (fun b : V × PyData => b.2) = ks.map PyData.str := by rw [List.map_map]; rfl
  have e : PySem.W.EachIs (fun v (b : V × PyData) => RelV b.1 v) out B := each_vals (by rw [b1]; exact kvals)
  have hdp : ∀ b ∈ B, Dp X.K H b.1 b.2 := fun b hb => by
    obtain ⟨y, _, rfl⟩ := List.mem_map.mp hb
    exact .str y
  obtain ⟨h1, g1, d1, t1, os1⟩ := s1
  have er := each_reads I1 e hdp
  have al : PySem.W.AllAlike (B.map fun b : V × PyData => b.2) := by rw [b2]; exact PySem.W.AllAlike.of str_alike
  have so : PySem.W.Sortable (B.map fun b : V × PyData => b.2) := by
    rw [b2]
    exact PySem.W.Sortable.others fun y => ⟨fun z => (nomatch z), fun xs z => (nomatch z)⟩
  refine wpAny_bind (wpAny_newList ?_ (by rw [lout, lks, sizeLine_eq]; omega))
  have hoL : (h1.push (seqObj "list" out.toArray 0)).get? h1.objs.size = some (seqObj "list" out.toArray 0) := Heap.get?_push_size _ rfl
  show wpAny _ _ _ _ _ ⟨h1.push (seqObj "list" out.toArray 0), g1, d1, t1, os1⟩
  have er' : PySem.W.EachIs (fun v (b : V × PyData) => ∃ as, Reads (PySem.W.sortingHeap (h1.push (seqObj "list" out.toArray 0)) h1.objs.size out) v b.2 as) out B :=
    er.mono fun v b ⟨as, rd⟩ => ⟨as, PyProof.Rows.Reads.keeps (fun b o eo => PySem.W.sortingHeap_old (Nat.ne_of_lt (Heap.lt_size eo)) (Heap.get?_push_of_some _ eo)) rd⟩
  refine wpAny_bind (wpAny_holding (wpAny_call_entry PyProof.Rows.slot_list_sort ⟨_, hoL, rfl⟩ PyProof.Rows.entry_list_sort
    (PySem.W.list_sort_vals (κ := PySem.W.dataKind (PySem.W.sortingHeap (h1.push (seqObj "list" out.toArray 0)) h1.objs.size out) (B.map fun b : V × PyData => b.2)) (s := ⟨h1.push (seqObj "list" out.toArray 0), g1, d1, t1, os1⟩) hoL
      (PySem.W.SortsAt.data (s := ⟨PySem.W.sortingHeap (h1.push (seqObj "list" out.toArray 0)) h1.objs.size out, g1, d1, t1, os1⟩)
        (PySem.W.each_map (R := fun v d => ∃ as, Reads (PySem.W.sortingHeap (h1.push (seqObj "list" out.toArray 0)) h1.objs.size out) v d as) (fun b : V × PyData => b.2) er') al so
        (PySem.W.bound_map fun b hb => by
          obtain ⟨y, _, rfl⟩ := List.mem_map.mp hb
          show X.A.units + 2 + 0 < _
          omega)) (by rw [lout, lks, sizeLine_eq]; omega) ⟨_, rfl, ?_⟩)
    (PyProof.Rows.args_list_sort _)))
  have eo := PySem.W.sortVals_data (enc := fun b : V × PyData => b.2) false e er' al
  generalize PySem.W.sortVals (PySem.W.dataKind (PySem.W.sortingHeap (h1.push (seqObj "list" out.toArray 0)) h1.objs.size out) (B.map fun b : V × PyData => b.2)) false out out = res at eo
  obtain ⟨e', he'⟩ := PyProof.Rows.sortedHeap_at (vs := out) (out := res.toArray) hoL
  have vres := vals_each eo
  -- what has come out
  have hys : (B.mergeSort (PySem.W.dataLe false fun b : V × PyData => b.2)).map (·.1) = (sortS l).map V.str := by
    have bp : (srt false (fun b : V × PyData => b.2) B).Perm B := srt_perm _ _ _
    have hd2 : (srt false (fun b : V × PyData => b.2) B).map (·.2) = (sortS l).map PyData.str := by
      have nk : ks.Nodup := lperm.nodup_iff.mp nd
      have r1 : Rises ((srt false (fun b : V × PyData => b.2) B).map (·.2)) := srt_rises al (by
        rw [b2]
        unfold List.Nodup at nk ⊢
        exact List.pairwise_map.mpr (nk.imp fun {a b} q e => q (by injection e)))
      refine rises_ext r1 (str_rises nd) fun d => ?_
      rw [(bp.map _).mem_iff, b2, List.mem_map, List.mem_map]
      constructor
      · rintro ⟨y, hy, rfl⟩
        exact ⟨y, (srt_perm false _ l).mem_iff.mpr (lperm.mem_iff.mpr hy), rfl⟩
      · rintro ⟨y, hy, rfl⟩
        exact ⟨y, lperm.mem_iff.mp ((srt_perm false _ l).mem_iff.mp hy), rfl⟩
    have shape : ∀ b ∈ srt false (fun b : V × PyData => b.2) B, ∃ y, b = (V.str y, PyData.str y) := fun b hb => by
      obtain ⟨y, _, rfl⟩ := List.mem_map.mp (bp.mem_iff.mp hb)
      exact ⟨y, rfl⟩
    show (srt false (fun b : V × PyData => b.2) B).map (·.1) = _
    generalize srt false (fun b : V × PyData => b.2) B = Z at hd2 shape
    generalize sortS l = ys at hd2
    clear vres eo he' er' so al er hdp e b2 b1 bp
    induction Z generalizing ys with
    | nil =>
      cases ys with
      | nil => rfl
      | cons => cases hd2
    | cons z Z ih =>
      cases ys with
      | nil => cases hd2
      | cons y ys =>
        rw [List.map_cons, List.map_cons] at hd2
        injection hd2 with d1' d2'
        obtain ⟨y', rfl⟩ := shape z List.mem_cons_self
        injection d1' with d1'
        subst d1'
        rw [List.map_cons, List.map_cons, ih (fun b hb => shape b (List.mem_cons_of_mem _ hb)) ys d2']
  rw [hys] at vres
  refine wpAny_pure ⟨_, rfl, .ref h1.objs.size, upd H h1.objs.size (.lst ((sortS l).map V.str)), I1.laid (t' := t1) (fun b u e => ?_) (Nat.le_refl _)
    (show ObjOk X.prog X.w _ _ _ (.lst ((sortS l).map V.str)) from ⟨?_, res, e', vres, he'⟩), rfl, q _ (I1.hok.fresh (Nat.le_refl _))⟩
  · have hb : b < h1.objs.size := Heap.lt_size e
    rw [PyProof.Rows.sortedHeap_old (Nat.ne_of_lt hb) (by rw [size_push']; exact Nat.lt_succ_of_lt hb)]
    exact Heap.get?_push_of_some _ e
  · rw [List.length_map]
    unfold sortS
    rw [(srt_perm false _ l).length_eq, sizeLine_eq]
    omega
end
end PK
/-! {text for target in iter}. -/
namespace PK
open PySem PySem.Spec PyProof.Rows L2
section
variable {X : Cx} {pins : List (Addr × Obj)} {σ : L2.St} {H : Hp} {s : Shared}
theorem addT_ok {E : Value → Shared → Prop} {D : Addr} {l : List Str} {k : Str} {v : Value} {Q : Value → Shared → Prop} (I : Inv X pins σ H s) (hD : H D = some (SetTO X.prog X.w D l)) (hb : l.length + 1 < scanBound) (r : RelV (.str k) v)
    (h : ∀ s', Inv X pins σ (upd H D (SetTO X.prog X.w D (ins k l))) s' → Q .none s') : wpAny (model X.prog X.w) X.A (call (.builtin "set.add") [.ref D, v]) Q E s := by
  obtain ⟨u, rfl⟩ := r
  refine setTx_add (I.hok D _ hD).1 hb fun h' sb new => ?_
  obtain ⟨D', e, _⟩ := id new
  exact h _ (I.write (e := D) (t' := s.toks + 1) (by rw [hD]; trivial) (.inl rfl) (fun b o hb ho => (sb.2 b hb).trans ho) ⟨_, e⟩ (setTO_ok new))
/-- what the turns are to keep: W, by the turn and a number that falls -/
def tScT (P : Program) (w : World) (wi : TI) (g : TG) (te : TE) (vs : List Nat) : TE := fun σ H Q => wi σ H fun J H1 => ∀ D, H1 D = none → ∃ W : Nat → Nat → Hp → Prop, (∃ m, W 0 m (upd H1 D (SetTO P w D []))) ∧
  ∀ i m H', W i m H' → (J.stop i H' ∧ Q (.ref D) H') ∨ (J.go i H' ∧ ∃ Nx : Hp → Prop, (∀ H'', Nx H'' → ∃ m', m' < m ∧ W (i + 1) m' H'') ∧ ∀ x H2, J.yld i H' x H2 → g x (wipe σ vs) H2 fun σ2 H3 => wipe σ2 vs = wipe σ vs ∧
    te σ2 H3 fun y H4 => ∃ k l, y = .str k ∧ H4 D = some (SetTO P w D l) ∧ l.length + 1 < scanBound ∧ Nx (upd H4 D (SetTO P w D (ins k l))))
theorem pe_scT {elt tg iter : Expr} {scope : Scope} {own : List (Str × Nat)} {pos : Pos} {wi : TI} {g : TG} {te : TE} (calm : X.calm = true) (nd : X.N.Nodup) (pi : PI X tg iter wi) (blk : BlkOk X.N X.env.scope scope own)
    (pgs : ∀ (s : Shared) (H : Hp) (C : Addr) (cl : List (Str × Addr)) (fp : List Addr), PG (X.blk s H scope (compEnvC scope cl C X.env) fp) tg g)
    (pes : ∀ (s : Shared) (H : Hp) (C : Addr) (cl : List (Str × Addr)) (fp : List Addr), PE (X.blk s H scope (compEnvC scope cl C X.env) fp) elt te) (fold : ∀ x, foldedSetIterable iter X.env x = pure x := by intro _; rfl) :
    PE X (.SetComp elt [⟨tg, iter, [], 0⟩] scope pos) (tScT X.prog X.w wi g te (own.map (·.2))) := by
  refine ⟨fun pins s σ H Q I h => ?_⟩
  rw [PpSet.eval_SetComp]
  have clo : ∀ y ∈ scope.names, y.2 = .free → ∃ c, X.env.cells.lookup y.1 = some c := fun y hy e => (blk.free y hy e).elim (fun k => I.ok.has _ (Or.inl k)) fun k => I.ok.has _ (Or.inr k)
  refine wpAny_comprehension_free (use := none) rfl fold (closure_ok clo) blk.kind (fun y hy e => (blk.uniq y hy).trans (by rw [e])) (thn (pi.run pins s σ H _ I h) fun _ _ hx => thn hx fun _ sB hB => ?_)
  obtain ⟨it, fp, tn, J, HB, rfl, IB, T, stB, fB, q⟩ := hB
  refine PpSet.newSet_ok (newEnv_comp ?_)
  have freshD : HB sB.heap.objs.size = none := IB.hok.fresh (Nat.le_refl _)
  obtain ⟨W, ⟨m0, w0⟩, turn⟩ := q sB.heap.objs.size freshD
  -- the new set stands
  have IC : Inv X pins σ (upd HB sB.heap.objs.size (SetTO X.prog X.w sB.heap.objs.size [])) { sB with heap := sB.heap.push { cls := .type "set", dict := none, data := .set #[] 0 (.fresh 0 0 (!X.w.params.followText "set-order")) } } :=
    IB.laid (t' := sB.toks) (fun _ _ e => Heap.get?_push_of_some _ e) (Nat.le_refl _) (setTO_ok setTx_new)
  have old : ∀ b ∈ fp, b < sB.heap.objs.size := fun b hb => let ⟨_, e, _⟩ := T.obj _ _ stB b hb; Heap.lt_size e
  have fC : ∀ b ∈ fp, FpOk X pins (upd HB sB.heap.objs.size (SetTO X.prog X.w sB.heap.objs.size [])) b ∧ b < (sB.heap.push { cls := .type "set", dict := none, data := .set #[] 0 (.fresh 0 0 (!X.w.params.followText "set-order")) }).objs.size := fun b hb =>
    ⟨⟨by rw [upd_ne (Nat.ne_of_lt (old b hb))]; exact (fB b hb).1, (fB b hb).2⟩, by rw [Heap.size_push]; exact Nat.lt_succ_of_lt (old b hb)⟩
  have stC : tn 0 (sB.heap.push { cls := .type "set", dict := none, data := .set #[] 0 (.fresh 0 0 (!X.w.params.followText "set-order")) }) := T.keep _ _ _ stB fun b _ o e => Heap.get?_push_of_some _ e
  generalize hsC : ({ sB with heap := sB.heap.push { cls := .type "set", dict := none, data := .set #[] 0 (.fresh 0 0 (!X.w.params.followText "set-order")) } } : Shared) = sC at IC ⊢
  have eC : sC.heap = sB.heap.push { cls := .type "set", dict := none, data := .set #[] 0 (.fresh 0 0 (!X.w.params.followText "set-order")) } := by rw [← hsC]
  rw [← eC] at fC stC
  generalize sB.heap.objs.size = D at *
  generalize upd HB D (SetTO X.prog X.w D []) = HC at IC fC w0
  have IE := block_start IC blk nd fC
  have pg := pgs sC HC sC.heap.objs.size (cellsFrom (sC.heap.objs.size + 1) scope.names (cloFrom X.env.cells scope.names [])) fp
  have pe := pes sC HC sC.heap.objs.size (cellsFrom (sC.heap.objs.size + 1) scope.names (cloFrom X.env.cells scope.names [])) fp
  show codeAny _ _ (.compStart (.SetComp elt [⟨tg, iter, [], 0⟩] scope pos) 0 (.ref it) (.ref D) (compEnvC scope (cellsFrom (sC.heap.objs.size + 1) scope.names (cloFrom X.env.cells scope.names [])) sC.heap.objs.size X.env)) (compPost (model X.prog X.w) X.A X.xe none (EP X pins σ Q) (.ref D) sC.heap.objs.size) { sC with heap := pushCells (sC.heap.push { cls := .type "dict", data := .dict #[] }) scope.names }
  generalize hce : compEnvC scope (cellsFrom (sC.heap.objs.size + 1) scope.names (cloFrom X.env.cells scope.names [])) sC.heap.objs.size X.env = ce at IE pg pe ⊢
  have loc : ce.locals = sC.heap.objs.size := by subst hce; rfl
  generalize hsE : ({ sC with heap := pushCells (sC.heap.push { cls := .type "dict", data := .dict #[] }) scope.names } : Shared) = sE at IE ⊢
  have stE : tn 0 sE.heap := T.keep _ _ _ stC fun b _ o e => by rw [← hsE]; exact pushCells_keeps _ _ _ _ (Heap.get?_push_of_some _ e)
  have inBlk : ∀ {σ' : L2.St} {H' : Hp} {s' : Shared}, Inv (X.blk sC HC scope ce fp) [] σ' H' s' → (∀ b ∈ fp, H' b = none) → ∀ b ∈ fp, FpOk (X.blk sC HC scope ce fp) [] H' b := fun {_ _ _} J' hn b hb =>
    ⟨hn b hb, (J'.ok.exf b hb).1, J'.ok.exfs b hb, Or.inl hb, fun x c e => (J'.ok.exf b hb).2 x c e, fun p hp => (nomatch (show p ∈ ([] : List (Addr × Obj)) from hp))⟩
  have loop : codeAny (model X.prog X.w) X.A (.compLoop (.SetComp elt [⟨tg, iter, [], 0⟩] scope pos) 0 (.ref it) (.ref D) ce) (compPost (model X.prog X.w) X.A X.xe none (EP X pins σ Q) (.ref D) sC.heap.objs.size) sE := by
    refine PpSet.compLoopS_any (fun n s' => ∃ i H', Inv (X.blk sC HC scope ce fp) [] (wipe σ (own.map (·.2))) H' s' ∧ tn i s'.heap ∧ (∀ b ∈ fp, H' b = none) ∧ W i n H') ?_ m0 ⟨0, HC, IE, stE, fun b hb => (fC b hb).1.1, w0⟩
    rintro n s1 ⟨i, H1, I1, st1, n1, w1⟩
    rcases turn i n H1 w1 with ⟨stop, qq⟩ | ⟨go, Nx, falls, step⟩
    · refine thnF (T.done (X.blk sC HC scope ce fp) rfl rfl rfl calm i [] s1 _ H1 (fun _ _ => False) I1 (inBlk I1 n1) st1 stop) fun _ s2 ⟨hr, I2⟩ => ?_
      subst hr
      have back : Inv X pins σ H1 s2 := IC.call' (ch := fp) I2.os I2.base I2.hok I2.bare fun b hb => by
        obtain ⟨_, f1, _, f3, f4, f5⟩ := (fC b hb).1
        exact ⟨f3, f1, f4, f5⟩
      have noC : H1 sC.heap.objs.size = none := loc ▸ (show H1 ce.locals = none from I2.free)
      obtain ⟨m, ns, _⟩ := I2.loc
      have ns : s2.heap.Ns sC.heap.objs.size m := loc ▸ (show s2.heap.Ns ce.locals m from ns)
      refine ⟨m, ns, fun h3 sb => ?_⟩
      obtain ⟨f0, f1, _, f3, f4, f5⟩ := IC.fpOk (H' := H1) (Nat.le_refl _) noC
      exact ⟨.ref D, H1, back.turned (t' := s2.toks) (fun b o hb e => (sb.2 b hb).trans e) f0 f1 f3 f4 f5, rfl, qq⟩
    · refine thnF (T.item (X.blk sC HC scope ce fp) rfl rfl rfl calm i [] s1 _ H1 (fun _ _ => False) I1 (inBlk I1 n1) st1 go) fun _ s2 ⟨u, hr, h2⟩ => ?_
      subst hr
      refine thnF h2 fun _ s3 ⟨x, H3, I3, r3, y3, st3, n3⟩ => ?_
      have P3 := I3.pinned (inBlk I3 n3) (T.obj _ _ st3)
      refine thnF (pg.run _ s3 _ H3 x u _ P3 r3 (step x H3 y3)) fun _ s4 ⟨σ4, H4, I4, wp4, q4⟩ => ?_
      refine wpAny_pure ?_
      simp only [if_true]
      refine thnF (pe.run _ s4 σ4 H4 _ I4 q4) fun z s5 ⟨yv, H5, I5, r5, k, l, ey, hD5, hb5, nx⟩ => ?_
      subst ey
      refine addT_ok (X := X.blk sC HC scope ce fp) I5 hD5 hb5 r5 fun s6 I6 => ?_
      obtain ⟨m', lt, w'⟩ := falls _ nx
      have pin : ∀ b ∈ fp, ∀ o, s3.heap.get? b = some o → s6.heap.get? b = some o ∧ (upd H5 D (SetTO X.prog X.w D (ins k l))) b = none := fun b hb o e =>
        let ⟨z1, z2, _⟩ := I6.pin (b, o) (List.mem_append_right _ (List.mem_append_right _ (mem_pinsAt hb e)))
        ⟨z1, z2⟩
      refine ⟨m', lt, i + 1, _, (I6.unpinned (pins := [])).weak (by rw [← wp4, wipe_length]) (fun j v e => ?_), T.keep _ _ _ st3 fun b hb o e => (pin b hb o e).1, fun b hb => ?_, w'⟩
      · rw [← wp4] at e
        exact (wipe_some e).1
      · obtain ⟨o, e, _⟩ := T.obj _ _ st3 b hb
        exact (pin b hb o e).2
  exact PpSet.codeAny_compStart_set loop (T.self X.A 0 _ _ _ stE loop)
/-- over a tuple -/
theorem scT_tup {P : Program} {w : World} {K : PySem.W.Frag} {a : Addr} {xs : List V} {g : TG} {te : TE} {vs : List Nat} {D : Addr} {H1 : Hp} {Qd : Hp → Prop} (Pv : Nat → Hp → Prop) (h0 : Pv 0 (upd H1 D (SetTO P w D [])))
    (hl : ∀ i H, i ≤ xs.length → Pv i H → SqT K H a xs)
    (hs : ∀ i x H, xs[i]? = some x → Pv i H → g x (wipe σ vs) H fun σ2 H2 => wipe σ2 vs = wipe σ vs ∧ te σ2 H2 fun y H4 => ∃ k l, y = .str k ∧ H4 D = some (SetTO P w D l) ∧ l.length + 1 < scanBound ∧ Pv (i + 1) (upd H4 D (SetTO P w D (ins k l))))
    (hd : ∀ H, Pv xs.length H → Qd H) :
    ∃ W : Nat → Nat → Hp → Prop, (∃ m, W 0 m (upd H1 D (SetTO P w D []))) ∧ ∀ i m H', W i m H' → ((Itt K a).stop i H' ∧ Qd H') ∨ ((Itt K a).go i H' ∧ ∃ Nx : Hp → Prop, (∀ H'', Nx H'' → ∃ m', m' < m ∧ W (i + 1) m' H'') ∧
      ∀ x H2, (Itt K a).yld i H' x H2 → g x (wipe σ vs) H2 fun σ2 H3 => wipe σ2 vs = wipe σ vs ∧ te σ2 H3 fun y H4 => ∃ k l, y = .str k ∧ H4 D = some (SetTO P w D l) ∧ l.length + 1 < scanBound ∧ Nx (upd H4 D (SetTO P w D (ins k l)))) := by
  refine ⟨fun i m H' => m + i = xs.length ∧ Pv i H', ⟨xs.length, rfl, h0⟩, ?_⟩
  rintro i m H' ⟨hm, pv⟩
  have hq := hl i H' (by omega) pv
  rcases Nat.lt_or_ge i xs.length with z | z
  · refine Or.inr ⟨⟨xs, xs[i], hq, List.getElem?_eq_getElem z⟩, Pv (i + 1), fun H'' p => ⟨m - 1, by omega, by omega, p⟩, ?_⟩
    rintro x H2 ⟨rfl, hx⟩
    exact hs i x H2 (hx xs hq) pv
  · have e : i = xs.length := by omega
    subst e
    exact Or.inl ⟨⟨xs, hq, Nat.le_refl _⟩, hd H' pv⟩
end
end PK
/-! The forms of a heap. -/
namespace PK
open PySem PySem.Spec PyProof.Rows L2
def formL (L : List PRow) : List Str := L.foldl (fun l r => ins r.1 l) []
theorem formL_snoc {L : List PRow} {i : Nat} {r : PRow} (h : L[i]? = some r) : formL (L.take (i + 1)) = ins r.1 (formL (L.take i)) := by
  unfold formL
  rw [take_snoc h, List.foldl_append]
  rfl
theorem foldl_ins : ∀ (L : List PRow) (l : List Str), l.Nodup → (L.foldl (fun l r => ins r.1 l) l).Nodup ∧ (L.foldl (fun l r => ins r.1 l) l).length ≤ l.length + L.length ∧ ∀ y, y ∈ L.foldl (fun l r => ins r.1 l) l ↔ y ∈ l ∨ ∃ r ∈ L, y = r.1
  | [], l, h => ⟨h, Nat.le_refl _, fun y => ⟨Or.inl, fun q => q.resolve_right fun ⟨_, z, _⟩ => (nomatch z)⟩⟩
  | r :: L, l, h => by
    obtain ⟨h1, h2, h3⟩ := foldl_ins L (ins r.1 l) (ins_nodup h)
    have hl := ins_len (k := r.1) (l := l)
    refine ⟨h1, ?_, fun y => ?_⟩
    · rw [List.length_cons]
      show (L.foldl (fun l r => ins r.1 l) (ins r.1 l)).length ≤ _
      omega
    · show y ∈ L.foldl (fun l r => ins r.1 l) (ins r.1 l) ↔ _
      rw [h3 y, mem_ins]
      constructor
      · rintro ((rfl | q) | ⟨r', hr, e⟩)
        · exact Or.inr ⟨r, List.mem_cons_self, rfl⟩
        · exact Or.inl q
        · exact Or.inr ⟨r', List.mem_cons_of_mem _ hr, e⟩
      · rintro (q | ⟨r', hr, e⟩)
        · exact Or.inl (Or.inr q)
        · rcases List.mem_cons.mp hr with rfl | hr
          · exact Or.inl (Or.inl e)
          · exact Or.inr ⟨r', hr, e⟩
theorem formL_nodup (L : List PRow) : (formL L).Nodup := (foldl_ins L [] List.nodup_nil).1
theorem formL_len (L : List PRow) : (formL L).length ≤ L.length := by
  have := (foldl_ins L [] List.nodup_nil).2.1
  rw [List.length_nil] at this
  unfold formL
  omega
theorem mem_formL {L : List PRow} {y : Str} : y ∈ formL L ↔ ∃ r ∈ L, y = r.1 := ((foldl_ins L [] List.nodup_nil).2.2 y).trans ⟨fun q => q.resolve_left fun z => (nomatch z), Or.inr⟩
def formsR (L : List PRow) : List Str := sortS (formL L)
def strsD (l : List Str) : PyData := .tuple (l.map PyData.str)
def spForms (K : PySem.W.Frag) (C : Addr) : Sp := fun vs H Q _ => ∃ (p : Addr) (L : List PRow), vs = [.ref p] ∧ HeapAt K C H p L ∧ L.length ≤ 900 ∧
  ∀ (v : V) (H' : Hp), Same H H' → Dp K H' v (strsD (formsR L)) → Q v H'
end PK
/-! Drawn names are unlike. -/
namespace PK
open PySem PySem.Spec PyProof.Rows L2
theorem cps_app (x y : Str) : (x ++ y).cps.toList = x.cps.toList ++ y.cps.toList := by
  show (x.cps ++ y.cps).toList = _
  exact Array.toList_append ..
def hd1 (y : Str) : Option Nat := y.cps.toList.head?
def letterOf (j : Int) : Nat := 97 + (j % 26).toNat
theorem abc_at2 {i : Int} (h0 : 0 ≤ i) (h1 : i < 26) {x : Nat} (h : atI abc.cps.toList i = some x) : x = 97 + i.toNat := by
  rw [abc_list] at h
  obtain ⟨n, rfl⟩ := Int.eq_ofNat_of_zero_le h0
  have e : atI (List.range' 97 26) (n : Int) = some (97 + n) := by
    refine atI_nat ?_
    rw [List.getElem?_range' (by omega), Nat.one_mul]
  rw [e] at h
  rw [Int.toNat_natCast]
  exact (Option.some.inj h).symm
structure NmOk (a0 z : Int) (ws : List Str) : Prop where
  nd : ws.Nodup
  lo : a0 ≤ z
  few : z - a0 ≤ ws.length
  hd : ∀ y ∈ ws, ∃ j, a0 < j ∧ j ≤ z ∧ hd1 y = some (letterOf j)
  last : ∀ h : ws ≠ [], hd1 (ws.getLast h) = some (letterOf z) ∧ ∀ y ∈ ws, hd1 y = some (letterOf z) → y.length ≤ (ws.getLast h).length
theorem NmOk.nil (a0 : Int) : NmOk a0 a0 [] := ⟨List.nodup_nil, Int.le_refl _, by simp, fun _ h => (nomatch h), fun h => absurd rfl h⟩
theorem last_snoc {ws : List Str} {y : Str} (h : ws ++ [y] ≠ []) : (ws ++ [y]).getLast h = y := by simp
/-- one with another letter behind the last one -/
theorem NmOk.more {a0 z : Int} {ws : List Str} {c : Nat} (n : NmOk a0 z ws) (h : ws ≠ []) (h1 : 1 ≤ (ws.getLast h).length) : NmOk a0 z (ws ++ [ws.getLast h ++ ⟨#[c]⟩]) := by
  obtain ⟨e1, e2⟩ := n.last h
  have lm := List.getLast_mem h
  have hz := n.hd _ lm
  have hh : hd1 (ws.getLast h ++ ⟨#[c]⟩) = some (letterOf z) := by
    rw [← e1]
    unfold hd1
    generalize ws.getLast h = y at h1
    have e : (y ++ (⟨#[c]⟩ : Str)).cps.toList = y.cps.toList ++ [c] := cps_app _ _
    rw [e]
    have : y.cps.toList ≠ [] := fun q => by
      have : y.length = 0 := by
        show y.cps.size = 0
        rw [← Array.length_toList, q]
        rfl
      omega
    cases q : y.cps.toList with
    | nil => exact absurd q this
    | cons a l => rfl
  have ll : (ws.getLast h ++ (⟨#[c]⟩ : Str)).length = (ws.getLast h).length + 1 := by rw [strLen_append, len_one]
  refine ⟨?_, n.lo, ?_, fun y hy => ?_, fun h' => ?_⟩
  · refine List.nodup_append.mpr ⟨n.nd, List.nodup_cons.mpr ⟨by simp, List.nodup_nil⟩, fun a ha b hb e => ?_⟩
    rw [List.mem_singleton.mp hb] at e
    have := e2 a ha (by rw [e]; exact hh)
    rw [e, ll] at this
    omega
  · rw [List.length_append, List.length_singleton]
    have := n.few
    omega
  · rcases List.mem_append.mp hy with q | q
    · exact n.hd y q
    · rw [List.mem_singleton.mp q, hh]
      obtain ⟨j, j1, j2, _⟩ := hz
      exact ⟨z, by omega, Int.le_refl _, rfl⟩
  · rw [last_snoc]
    refine ⟨hh, fun y hy q => ?_⟩
    rcases List.mem_append.mp hy with z1 | z1
    · have := e2 y z1 q
      omega
    · rw [List.mem_singleton.mp z1]
      exact Nat.le_refl _
/-- one with the next letter ahead -/
theorem NmOk.next {a0 z : Int} {ws : List Str} {y : Str} (n : NmOk a0 z ws) (h8 : ws.length ≤ 20) (hy : hd1 y = some (letterOf (z + 1))) : NmOk a0 (z + 1) (ws ++ [y]) := by
  have few := n.few
  have lo := n.lo
  have ne : ∀ v ∈ ws, hd1 v ≠ some (letterOf (z + 1)) := fun v hv q => by
    obtain ⟨j, j1, j2, e⟩ := n.hd v hv
    rw [e] at q
    have q := Option.some.inj q
    unfold letterOf at q
    have a1 := Int.emod_nonneg j (show (26 : Int) ≠ 0 by decide)
    have a2 := Int.emod_nonneg (z + 1) (show (26 : Int) ≠ 0 by decide)
    omega
  refine ⟨?_, by omega, ?_, fun v hv => ?_, fun h' => ?_⟩
  · refine List.nodup_append.mpr ⟨n.nd, List.nodup_cons.mpr ⟨by simp, List.nodup_nil⟩, fun a ha b hb e => ?_⟩
    rw [List.mem_singleton.mp hb] at e
    exact ne a ha (by rw [e]; exact hy)
  · rw [List.length_append, List.length_singleton]
    omega
  · rcases List.mem_append.mp hv with q | q
    · obtain ⟨j, j1, j2, e⟩ := n.hd v q
      exact ⟨j, j1, by omega, e⟩
    · rw [List.mem_singleton.mp q]
      exact ⟨z + 1, by omega, Int.le_refl _, hy⟩
  · rw [last_snoc]
    refine ⟨hy, fun v hv q => ?_⟩
    rcases List.mem_append.mp hv with z1 | z1
    · exact absurd q (ne v z1)
    · rw [List.mem_singleton.mp z1]
      exact Nat.le_refl _
theorem hd_cons {x : Nat} {y : Str} : hd1 (⟨#[x]⟩ ++ y) = some x := by
  unfold hd1
  have e : ((⟨#[x]⟩ : Str) ++ y).cps.toList = x :: y.cps.toList := cps_app _ _
  rw [e]
  rfl
def spNames2 : Sp := fun vs H Q _ => ∃ (a c : Addr) (m : Int), vs = [.ref a, .int m] ∧ IsFeed H a c ∧ 1 ≤ m ∧ m ≤ 8 ∧
  ∀ (p : Addr) (H' : Hp) (ws : List Str), H p = none → Ext a H H' → IsFeed H' a c → H' p = some (.lst (ws.map V.str)) → (ws.length : Int) = m →
    (∀ y ∈ ws, Word y) → ws.Nodup → Q (.ref p) H'
end PK
/-! Words near a word; how many of a form; methods called with keywords. -/
namespace PK
open PySem PySem.Spec PyProof.Rows L2
/-! ### o.m(.., k = v, ..) -/
abbrev viaMeth (env : Env) (o : Expr) (m : Str) (pl : Sem Bool) (apos pos : Pos) (args : List Expr) (kws : List Keyword) : Sem Value := do
  let x ← eval o env; standAt apos.atName; let (g, fst) ← holding [x] (getMethod x m pl); callWith pos g fst (backTo pos (starEach args env)) (backToKw pos (keywordEach kws env))
def tMethN (C : Addr) (m : Str) (n j : Nat) (sp : Sp) (gV : List V → List V → List V) (E : XK) (ta : TE) (t tk : TA) : TE := fun σ H Q => ta σ H fun x H1 => ∃ a dx fs, x = .ref a ∧ H1 a = some (.ins C dx fs) ∧ fs.lookup m = none ∧
  t σ H1 fun vs H2 => tk σ H2 fun zs H3 => vs.length + 1 = n ∧ zs.length = j ∧ sp (gV (x :: vs) zs) H3 Q E
section
variable {X : Cx} {CX : CXT} {k n : Nat} {C f : Addr} {fd : FuncData} {ps ks : List Str} {sp : Sp} {E : XK} {m : Str} {apos pos : Pos} {o e : Expr} {es : List Expr} {kws : List Keyword} {ta : TE} {t tk : TA} {gV : List V → List V → List V}
theorem pe_mkb {pl : Sem Bool} (he : PE X o ta) (c : Cls X.K C) (hm : Meth X.K C m f) (F : FnOk X.prog X.w X.K X.mg X.base CX k f fd ps sp) (hr : Room k X.A) (hb : KB X.K fd ps n ks gV) (hx : Passes CX X E)
    (ha : PA X (e :: es) t) (hkw : PK X kws tk) (hall : (backToKw pos (keywordEach kws X.env)).all (·.1.isSome) = true := by rfl) (hks : (backToKw pos (keywordEach kws X.env)).filterMap (·.1) = ks := by rfl)
    (hst : starEach (e :: es) X.env = (false, eval e X.env) :: starEach es X.env := by rfl)
    (hpl : ((backTo pos (starEach (e :: es) X.env)).any (·.1) || (backToKw pos (keywordEach kws X.env)).any (·.1.isNone)) = false := by rfl)
    (ht : eval (.Call (.Attribute o m apos) (e :: es) kws pos) X.env = viaMeth X.env o m pl apos pos (e :: es) kws := by rfl) :
    PE X (.Call (.Attribute o m apos) (e :: es) kws pos) (tMethN C m n ks.length sp gV E ta t tk) := by
  obtain ⟨g, hb⟩ := hb
  refine ⟨fun pins s σ H Q I h => PySem.W.methodCall_KW (pl := pl) (thn (he.run pins s σ H _ I h) ?_) ht⟩
  rintro u s1 ⟨x, H1, I1, rx, a, dx, fs, rfl, ea, l, q⟩
  obtain rfl : u = Value.ref a := rx
  refine getmeth_ok I1 ea c hm l (PySem.W.callWith_KW (first := [.ref a]) (h₀ := X.base) I1.ok.mod.kin hm.kp hall (thn (ha.run pos pins s1 σ H1 _ I1 q) ?_) hpl hst)
  rintro us s2 ⟨vs, H2, I2, r, q⟩
  refine thn (hkw.run pos pins s2 σ H2 _ I2 q) ?_
  rintro ws s3 ⟨zs, H3, I3, rz, l1, l2, q⟩
  refine ⟨I3.kIn, ?_⟩
  rw [hks]
  exact run_fnN (us := .ref a :: us) (vs := .ref a :: vs) F hr hb hx I3 (.cons rfl r) rz (by rw [List.length_cons]; exact l1) l2 q
theorem pe_mkb0 {pl : Sem Bool} (he : PE X o ta) (c : Cls X.K C) (hm : Meth X.K C m f) (F : FnOk X.prog X.w X.K X.mg X.base CX k f fd ps sp) (hr : Room k X.A) (hb : KB X.K fd ps n ks gV) (hx : Passes CX X E)
    (hkw : PK X kws tk) (hall : (backToKw pos (keywordEach kws X.env)).all (·.1.isSome) = true := by rfl) (hks : (backToKw pos (keywordEach kws X.env)).filterMap (·.1) = ks := by rfl)
    (hpl : ((backTo pos (starEach [] X.env)).any (·.1) || (backToKw pos (keywordEach kws X.env)).any (·.1.isNone)) = false := by rfl)
    (ht : eval (.Call (.Attribute o m apos) [] kws pos) X.env = viaMeth X.env o m pl apos pos [] kws := by rfl) :
    PE X (.Call (.Attribute o m apos) [] kws pos) (tMethN C m n ks.length sp gV E ta tNil tk) := by
  obtain ⟨g, hb⟩ := hb
  refine ⟨fun pins s σ H Q I h => PySem.W.methodCall_KW (pl := pl) (thn (he.run pins s σ H _ I h) ?_) ht⟩
  rintro u s1 ⟨x, H1, I1, rx, a, dx, fs, rfl, ea, l, q⟩
  obtain rfl : u = Value.ref a := rx
  refine getmeth_ok I1 ea c hm l (PySem.W.callWith_KW0 (first := [.ref a]) (h₀ := X.base) I1.ok.mod.kin hm.kp hall (thn (hkw.run pos pins s1 σ H1 _ I1 q) ?_) hpl)
  rintro ws s3 ⟨zs, H3, I3, rz, l1, l2, q⟩
  refine ⟨I3.kIn, ?_⟩
  rw [hks]
  exact run_fnN (us := [.ref a]) (vs := [.ref a]) F hr hb hx I3 (.cons rfl .nil) rz l1 l2 q
end
theorem ko_notIn {X : Cx} (K : PySem.W.Frag) {k : Nat} (hr : Room (k + 1) X.A) (hK : X.K = K := by rfl) : OpR X (compareOp .NotIn) (rNotInD K) := by
  subst hK
  have := hr.un
  exact op_notInD (by omega)
/-! ### texts in a list of texts -/
theorem str_shaped {y : Str} (h : Word y) : SeqAt.shaped (.str y) = true := by
  unfold SeqAt.shaped
  simp only [PyData.canLay0, word_ok h, Bool.true_and]
  rfl
theorem strs_shaped {l : List Str} (h : ∀ y ∈ l, Word y) : SeqAt.shaped (.list (l.map PyData.str)) = true := by
  have hc : PyData.canLayAll0 (l.map PyData.str) = true := by
    induction l with
    | nil => rfl
    | cons r L ih =>
      rw [List.map_cons]
      show (PyData.canLay0 (.str r) && PyData.canLayAll0 (L.map PyData.str)) = true
      rw [ih fun q hq => h q (List.mem_cons_of_mem _ hq)]
      simp [PyData.canLay0, word_ok (h r List.mem_cons_self)]
  have hd : (PyData.list (l.map PyData.str)).depth ≤ 64 := by
    have : PyData.depthAll (l.map PyData.str) ≤ 63 := depthAll_le fun d hd => by
      obtain ⟨r, _, rfl⟩ := List.mem_map.mp hd
      exact Nat.zero_le _
    show PyData.depthAll (l.map PyData.str) + 1 ≤ 64
    omega
  unfold SeqAt.shaped
  rw [show (PyData.list (l.map PyData.str)).canLay0 = true from by simpa [PyData.canLay0] using hc, decide_eq_true hd]
  rfl
theorem str_eqv (a b : Str) : PyData.eqv (.str a) (.str b) = decide (a = b) := by
  by_cases e : a = b
  · subst e
    rw [decide_eq_true rfl]
    exact eqv_refl _ rfl
  · rw [decide_eq_false e]
    exact eqv_false rfl fun z => e (PyData.str.inj z)
theorem strs_any (l : List Str) (y : Str) : ((l.map PyData.str).any fun z => PyData.eqv z (.str y)) = decide (y ∈ l) := by
  induction l with
  | nil => rfl
  | cons a l ih =>
    rw [List.map_cons, List.any_cons, ih, str_eqv]
    by_cases e : a = y
    · subst e
      simp
    · have : ¬ y = a := fun z => e z.symm
      simp [e, this]
/-! ### words near a word -/
def w7 (y : Str) : Str := Txt.slice y none (some 7) ++ "a"
def w1 (y : Str) : Str := Txt.slice y none (some 1)
def wz (y : Str) : Str := Txt.slice y none (some (-1)) ++ "z"
def near (y : Str) : List Str := [w7 y, w1 y, wz y]
theorem of_list (y : Str) : y = SX.S y.cps.toList := rfl
theorem w7_l (y : Str) : (w7 y).cps.toList = y.cps.toList.take 7 ++ [97] := by
  unfold w7
  rw [cps_app]
  conv => lhs; lhs; rw [of_list y, SX.slice_to (by decide)]
  rfl
theorem w1_l (y : Str) : (w1 y).cps.toList = y.cps.toList.take 1 := by
  unfold w1
  conv => lhs; rw [of_list y, SX.slice_to (by decide)]
  rfl
theorem wz_l {y : Str} (h : Word y) : (wz y).cps.toList = y.cps.toList.take (y.cps.toList.length - 1) ++ [122] := by
  unfold wz
  rw [cps_app]
  have hn : y.cps.toList ≠ [] := fun q => by
    have h1 := h.one
    have : y.length = 0 := by
      show y.cps.size = 0
      rw [← Array.length_toList, q]
      rfl
    omega
  conv => lhs; lhs; rw [of_list y, SX.slice_butlast hn]
  rfl
theorem len_l (y : Str) : y.length = y.cps.toList.length := by
  show y.cps.size = _
  rw [Array.length_toList]
theorem near_word {y : Str} (h : Word y) : ∀ x ∈ near y, Word x := by
  have h1 := h.one
  have h8 := h.eight
  rw [len_l] at h1 h8
  intro x hx
  have mk : ∀ {x : Str} {l : List Nat}, x.cps.toList = l → 1 ≤ l.length → l.length ≤ 8 → (∀ c ∈ l, Lw c) → Word x := fun e a b c => ⟨by rw [len_l, e]; exact a, by rw [len_l, e]; exact b, by rw [e]; exact c⟩
  unfold near at hx
  simp only [List.mem_cons, List.not_mem_nil, or_false] at hx
  rcases hx with rfl | rfl | rfl
  · refine mk (w7_l y) ?_ ?_ fun c hc => ?_
    · rw [List.length_append, List.length_singleton]; omega
    · rw [List.length_append, List.length_singleton, List.length_take]; omega
    · rcases List.mem_append.mp hc with z | z
      · exact h.low c (List.mem_of_mem_take z)
      · rw [List.mem_singleton.mp z]; exact ⟨by decide, by decide⟩
  · refine mk (w1_l y) ?_ ?_ fun c hc => h.low c (List.mem_of_mem_take hc)
    · rw [List.length_take]; omega
    · rw [List.length_take]; omega
  · refine mk (wz_l h) ?_ ?_ fun c hc => ?_
    · rw [List.length_append, List.length_singleton]; omega
    · rw [List.length_append, List.length_singleton, List.length_take]; omega
    · rcases List.mem_append.mp hc with z | z
      · exact h.low c (List.mem_of_mem_take z)
      · rw [List.mem_singleton.mp z]; exact ⟨by decide, by decide⟩
theorem near_unlike {y : Str} (h : Word y) : w7 y ≠ w1 y ∧ w7 y ≠ wz y ∧ (w1 y = wz y → w1 y = y) := by
  have h1 := h.one
  rw [len_l] at h1
  have L : ∀ {a b : Str}, a = b → a.cps.toList = b.cps.toList := fun e => by rw [e]
  refine ⟨fun e => ?_, fun e => ?_, fun e => ?_⟩
  · have := congrArg List.length (L e)
    rw [w7_l, w1_l, List.length_append, List.length_take, List.length_take, List.length_singleton] at this
    omega
  · have := congrArg List.getLast? (L e)
    rw [w7_l, wz_l h, List.getLast?_append, List.getLast?_append] at this
    simp at this
  · have := congrArg List.length (L e)
    rw [w1_l, wz_l h, List.length_append, List.length_take, List.length_take, List.length_singleton] at this
    have e1 : y.cps.toList.length = 1 := by omega
    have e2 : (w1 y).cps.toList = y.cps.toList := by
      rw [w1_l]
      exact List.take_of_length_le (by omega)
    have e3 : (w1 y).cps = y.cps := Array.toList_inj.mp e2
    cases q : w1 y
    cases y
    rw [q] at e3
    simp only at e3
    rw [e3]
def newOf (ys : List Str) (y : Str) : List Str := (near y).filter fun x => decide (x ∉ ys)
theorem filter3 {α : Type} {p : α → Bool} {x y z : α} (h1 : x ≠ y) (h2 : x ≠ z) (h3 : y = z → p y = false) : ([x, y, z].filter p).Nodup := by
  by_cases a : p x = true <;> by_cases b : p y = true <;> by_cases c : p z = true <;> simp [List.filter, a, b, c, h1, h2]
  · intro e
    rw [h3 e] at b
    cases b
  · intro e
    rw [h3 e] at b
    cases b
theorem newOf_nodup {ys : List Str} {y : Str} (h : Word y) (hy : y ∈ ys) : (newOf ys y).Nodup := by
  obtain ⟨a, b, c⟩ := near_unlike h
  refine filter3 a b fun e => decide_eq_false fun z => z ?_
  rw [c e]
  exact hy
theorem near_nodup {ys : List Str} {y : Str} (h : Word y) (hy : y ∈ ys) (hn : ys.Nodup) : (ys ++ newOf ys y).Nodup := by
  refine List.nodup_append.mpr ⟨hn, newOf_nodup h hy, fun a ha b hb e => ?_⟩
  subst e
  exact of_decide_eq_true (List.mem_filter.mp hb).2 ha
theorem newOf_len (ys : List Str) (y : Str) : (newOf ys y).length ≤ 3 := List.length_filter_le _ _
/-- words, and others near them -/
def spWords (K : PySem.W.Frag) : Sp := fun vs H Q _ => ∃ (a : Addr) (ws : List Str), vs = [.ref a] ∧ Words H a ws ∧ ws.Nodup ∧
  ∀ (p : Addr) (H' : Hp) (ys : List Str), H p = none → Same H H' → H' p = some (.lst (ys.map V.str)) → (∀ y ∈ ys, Word y) → ys.Nodup → (∀ y ∈ ws, y ∈ ys) → ys.length ≤ 32 → Q (.ref p) H'
/-! ### sorted(l), l of unlike texts -/
theorem srt_strs {l : List Str} (nd : l.Nodup) : (srt false (fun b : V × PyData => b.2) ((l.map V.str).zip (l.map PyData.str))).map (·.1) = (sortS l).map V.str := by
  have eB : (l.map V.str).zip (l.map PyData.str) = l.map fun y => (V.str y, PyData.str y) := by
    rw [List.zip_map']
  rw [eB]
  have b2 : (l.map fun y => (V.str y, PyData.str y)).map (fun b : V × PyData => b.2) = l.map PyData.str := by
    rw [List.map_map]
    rfl
  have bp := srt_perm false (fun b : V × PyData => b.2) (l.map fun y => (V.str y, PyData.str y))
  have nd2 : (l.map PyData.str).Nodup := by
    unfold List.Nodup at nd ⊢
    exact List.pairwise_map.mpr (nd.imp fun {a b} q e => q (by injection e))
  have r1 := srt_rises (k := fun b : V × PyData => b.2) (bs := l.map fun y => (V.str y, PyData.str y)) (by rw [b2]; exact PySem.W.AllAlike.of str_alike) (by rw [b2]; exact nd2)
  have hd2 := rises_ext r1 (str_rises nd) fun d => by
    rw [(bp.map _).mem_iff, b2]
    exact (((srt_perm false PyData.str l).map PyData.str).mem_iff (a := d)).symm
  have shape : ∀ b ∈ srt false (fun b : V × PyData => b.2) (l.map fun y => (V.str y, PyData.str y)), ∃ y, b = (V.str y, PyData.str y) := fun b hb => by
    obtain ⟨y, _, rfl⟩ := List.mem_map.mp (bp.mem_iff.mp hb)
    exact ⟨y, rfl⟩
  revert hd2 shape
  generalize srt false (fun b : V × PyData => b.2) (l.map fun y => (V.str y, PyData.str y)) = Z
  generalize sortS l = ys
  intro hd2 shape
  clear r1 bp b2 eB
  induction Z generalizing ys with
  | nil =>
    cases ys with
    | nil => rfl
    | cons => cases hd2
  | cons z Z ih =>
    cases ys with
    | nil => cases hd2
    | cons y ys =>
      obtain ⟨y', rfl⟩ := shape z List.mem_cons_self
      rw [List.map_cons, List.map_cons] at hd2
      injection hd2 with h1 h2
      injection h1 with h1
      rw [List.map_cons, List.map_cons, ih ys h2 fun b hb => shape b (List.mem_cons_of_mem _ hb), h1]
def rSrtL (K : PySem.W.Frag) : List V → Hp → VK → Prop := fun vs H Q => ∃ (a : Addr) (l : List Str), vs = [.ref a] ∧ SqL K H a (l.map V.str) ∧ l.Nodup ∧ l.length ≤ sizeLine ∧
  ∀ p, H p = none → Q (.ref p) (upd H p (.lst ((sortS l).map V.str)))
theorem k_srtL {X : Cx} (K : PySem.W.Frag) {k : Nat} (hr : Room k X.A) (hK : X.K = K := by rfl) : CallR X (.builtin "sorted") (rSrtL K) := by
  subst hK
  intro pins s σ H vs us Q I r h
  obtain ⟨a, l, e, hs, nd, hz, q⟩ := h
  refine call_srt hr pins s σ H vs us Q I r ⟨a, l.map V.str, l.map PyData.str, e, hs, DpAll.strs l, ⟨PySem.W.AllAlike.of str_alike, PySem.W.Sortable.others fun b => ⟨by simp, by simp⟩, fun d hd => ?_⟩, by rw [List.length_map]; exact hz, fun p np => ?_⟩
  · obtain ⟨y, _, rfl⟩ := List.mem_map.mp hd
    exact Nat.zero_le _
  · rw [srt_strs nd]
    exact q p np
/-! ### places in the text -/
def asgE (st : Stmt) (i : Nat) : Expr := match (defBody st)[i]? with
  | some (.Assign _ e _) => e
  | _ => .Constant .none 0 ⟨0, 0, 0, 0⟩
/-! ### how many of a form -/
theorem manyR_nil (f : Str) (o : Option Str) : manyR [] f o = 0 := rfl
theorem manyR_cons (r : PRow) (L : List PRow) (f : Str) (o : Option Str) : manyR (r :: L) f o = (if sel f o r = true then r.2.2 else 0) + manyR L f o := by
  unfold manyR selL
  by_cases e : sel f o r = true
  · rw [List.filter_cons_of_pos e, if_pos e, List.map_cons, List.sum_cons]
  · rw [List.filter_cons_of_neg e, if_neg e, Int.zero_add]
def sumK (g : PKey → Int) (ks : List PKey) : Int := (ks.map g).sum
theorem sumK_add (g h : PKey → Int) : ∀ ks : List PKey, sumK (fun k => g k + h k) ks = sumK g ks + sumK h ks
  | [] => rfl
  | k :: ks => by
    have := sumK_add g h ks
    unfold sumK at this ⊢
    rw [List.map_cons, List.map_cons, List.map_cons, List.sum_cons, List.sum_cons, List.sum_cons, this]
    omega
theorem sumK_one {p : PKey} {v : Int} : ∀ {ks : List PKey}, ks.Nodup → sumK (fun k => if p = k then v else 0) ks = if p ∈ ks then v else 0
  | [], _ => rfl
  | k :: ks, h => by
    obtain ⟨h1, h2⟩ := List.nodup_cons.mp h
    have ih := sumK_one (p := p) (v := v) h2
    unfold sumK at ih ⊢
    rw [List.map_cons, List.sum_cons, ih]
    by_cases e : p = k
    · subst e
      rw [if_pos rfl, if_neg h1, if_pos List.mem_cons_self]
      omega
    · rw [if_neg e, Int.zero_add]
      by_cases z : p ∈ ks
      · rw [if_pos z, if_pos (List.mem_cons_of_mem _ z)]
      · rw [if_neg z, if_neg]
        intro q
        rcases List.mem_cons.mp q with q | q
        · exact e q
        · exact z q
theorem sumK_zero : ∀ ks : List PKey, sumK (fun _ => 0) ks = 0
  | [] => rfl
  | k :: ks => by
    have := sumK_zero ks
    unfold sumK at this ⊢
    rw [List.map_cons, List.sum_cons, this]
    rfl
theorem manyR_keys {f : Str} {ks : List PKey} (hn : ks.Nodup) : ∀ {L : List PRow}, (∀ r ∈ L, pk r ∈ ks) → manyR L f none = sumK (cnt L) (ks.filter fun k => decide (k.1 = f))
  | [], _ => by
    rw [manyR_nil]
    exact (sumK_zero _).symm
  | r :: L, h => by
    rw [manyR_cons, manyR_keys hn fun q hq => h q (List.mem_cons_of_mem _ hq)]
    have e : cnt (r :: L) = fun k => (if pk r = k then r.2.2 else 0) + cnt L k := funext fun k => cnt_cons r L k
    rw [e, sumK_add, sumK_one (hn.filter _)]
    congr 1
    have hk := h r List.mem_cons_self
    have e2 : sel f none r = decide (r.1 = f) := by
      unfold sel
      exact Bool.and_true _
    rw [e2]
    by_cases z : r.1 = f
    · rw [if_pos (decide_eq_true z), if_pos (List.mem_filter.mpr ⟨hk, decide_eq_true z⟩)]
    · rw [if_neg (by rw [decide_eq_false z]; exact Bool.false_ne_true), if_neg (show ¬ pk r ∈ ks.filter (fun k => decide (k.1 = f)) from fun q => z (of_decide_eq_true (p := (pk r).1 = f) (List.mem_filter.mp q).2))]
theorem manyR_sumR (L : List PRow) (f : Str) : ∀ o : Option Str, manyR (sumR L) f o = manyR L f o
  | some t => by rw [manyR_cnt _ (f, t), manyR_cnt _ (f, t), cnt_sumR]
  | none => by
    have e : cnt (sumR L) = cnt L := funext fun k => cnt_sumR L k
    rw [manyR_keys (ks := skeys L) (skeys_nodup L) (L := sumR L) fun r hr => by rw [← sumR_keys]; exact List.mem_map_of_mem hr,
      manyR_keys (ks := skeys L) (skeys_nodup L) (L := L) fun r hr => mem_skeys.mpr (List.mem_map_of_mem hr), e]
theorem manyR_nn {n : Nat} {b : Int} {f : Str} {o : Option Str} : ∀ {L : List PRow}, RowsOk n b L → 0 ≤ manyR L f o ∧ manyR L f o ≤ L.length * b
  | [], _ => ⟨Int.le_refl _, by rw [manyR_nil]; simp⟩
  | r :: L, h => by
    obtain ⟨h1, h2⟩ := manyR_nn (f := f) (o := o) h.tail
    have okr := h.each r List.mem_cons_self
    have lo := okr.lo
    have hi := okr.hi
    rw [manyR_cons, List.length_cons]
    have e : (((L.length + 1 : Nat) : Int)) * b = (L.length : Int) * b + b := by rw [Int.natCast_add, Int.add_mul]; simp
    rw [e]
    split <;> constructor <;> omega
theorem mem_formL_sum {L : List PRow} {y : Str} : y ∈ formL (sumR L) ↔ ∃ r ∈ L, r.1 = y := by
  rw [mem_formL]
  constructor
  · rintro ⟨r, hr, rfl⟩
    have : pk r ∈ (sumR L).map pk := List.mem_map_of_mem hr
    rw [sumR_keys, mem_skeys] at this
    obtain ⟨q, hq, e⟩ := List.mem_map.mp this
    exact ⟨q, hq, congrArg (fun k : PKey => k.1) e⟩
  · rintro ⟨r, hr, rfl⟩
    have : pk r ∈ skeys L := mem_skeys.mpr (List.mem_map_of_mem hr)
    rw [← sumR_keys] at this
    obtain ⟨q, hq, e⟩ := List.mem_map.mp this
    exact ⟨q, hq, (congrArg (fun k : PKey => k.1) e).symm⟩
/-! ### what the law holds a heap against -/
def hasF (L : List PRow) (f : Str) : Bool := L.any fun r => decide (r.1 = f)
theorem hasF_snoc {L : List PRow} {i : Nat} {r : PRow} (h : L[i]? = some r) (f : Str) : hasF (L.take (i + 1)) f = (hasF (L.take i) f || decide (r.1 = f)) := by
  unfold hasF
  rw [take_snoc h, List.any_append]
  simp
theorem hasF_iff {L : List PRow} {f : Str} : hasF L f = true ↔ ∃ r ∈ L, r.1 = f := by
  unfold hasF
  simp
theorem forms_right {L : List PRow} {fs : List Str} (hn : fs.Nodup) (h : ∀ r ∈ L, r.1 ∈ fs) : formsR (sumR L) = sortS (fs.filter (hasF L)) := by
  refine sortS_of (hn.filter _) (str_rises (formL_nodup _)) fun y => ?_
  unfold formsR sortS
  rw [(srt_perm false PyData.str _).mem_iff, mem_formL_sum, List.mem_filter, hasF_iff]
  constructor
  · rintro ⟨r, hr, rfl⟩
    exact ⟨h r hr, r, hr, rfl⟩
  · exact fun q => q.2
theorem formsR_sh {n : Nat} {b : Int} {L : List PRow} (h : RowsOk n b L) : Sh (strsD (formsR (sumR L))) 1 (n * 82 + 2 * n + 3) := by
  refine Sh.tuple (m := n) (fun d hd => ?_) ?_
  · obtain ⟨y, hy, rfl⟩ := List.mem_map.mp hd
    unfold formsR sortS at hy
    rw [(srt_perm false PyData.str _).mem_iff, mem_formL_sum] at hy
    obtain ⟨r, hr, rfl⟩ := hy
    exact Sh.word (h.each r hr).f
  · rw [List.length_map]
    unfold formsR sortS
    rw [(srt_perm false PyData.str _).length_eq]
    have h1 := formL_len (sumR L)
    have h2 := sumR_len L
    have h3 := h.len
    omega
theorem HeapAt.lst {K : PySem.W.Frag} {C : Addr} {H : Hp} {p d : Addr} {L : List PRow} {xs : List V} {o : HO} (h : HeapAt K C H p L) (hd : H d = some (.lst xs)) : HeapAt K C (upd H d o) p L := by
  obtain ⟨dx, t, h1, h2⟩ := h
  refine ⟨dx, t, ?_, Dp.keepT (TKeep.lst hd) (flat_rows L) h2⟩
  rw [upd_ne (ne_of h1 hd (by intro z; cases z))]
  exact h1
structure MMn (P : Program) (w : World) (K : PySem.W.Frag) (mg : Str → Option Value) (base : Heap) (k : Nat) (C f : Addr) (fd : FuncData) : Prop where
  ok : FnOk P w K mg base CX0 k f fd ["self", "form", "shade"] (spManyM K C)
  m : Meth K C "many" f
  k2 : KB K fd ["self", "form", "shade"] 2 [] (fun vs _ => vs ++ [.non])
  k3 : KB K fd ["self", "form", "shade"] 3 [] (fun vs _ => vs)
  kf : KB K fd ["self", "form", "shade"] 1 ["form"] (fun vs zs => vs ++ (zs ++ [.non]))
  ks : KB K fd ["self", "form", "shade"] 2 ["shade"] (fun vs zs => vs ++ zs)
  ksf : KB K fd ["self", "form", "shade"] 1 ["shade", "form"] (fun vs zs => vs ++ zs.reverse)
def spRight (K : PySem.W.Frag) (C : Addr) : Sp := fun vs H Q _ => ∃ (p a b : Addr) (v : V) (L : List PRow) (fs ss : List Str), vs = [.ref p, v, .ref a, .ref b] ∧ HeapAt K C H p (sumR L) ∧ Dp K H v (rowsD L) ∧ RowsOk 8 1000000000 L ∧
  H a = some (.lst (fs.map V.str)) ∧ H b = some (.lst (ss.map V.str)) ∧ (∀ y ∈ fs, Word y) ∧ fs.Nodup ∧ (∀ r ∈ L, r.1 ∈ fs) ∧ fs.length ≤ 32 ∧ ss.length ≤ 32 ∧ ∀ H' : Hp, Same H H' → Q (.bl true) H'
end PK
/-! Heaps by ==, != and len: own methods that built-in ones call; methods that raise, within a try. -/
namespace PK
open PySem PySem.Spec PyProof.Rows L2
section
variable {prog : Program} {w : World} {A : Around} {E : Value → Shared → Prop} {s : Shared} {K : PySem.W.Frag} {x C f : Addr} {ox : Obj} {od : Option Obj}
/-- x != b where the class says == alone -/
theorem ne_own {b tb : Value} {Q : Value → Shared → Prop} (hu : A.units + 1 < cLine) (X : K.In s.heap) (I : PySem.W.InstAt s.heap x ox C od) (hb : PySem.W.Looks (model prog w) s.heap (typeOf b) tb) (hn : PySem.W.notFirst K C tb = true)
    (hs : PySem.W.findIn K (.ref C) "__ne__" = some (some (.builtin "object.__ne__"))) (ho : PySem.W.subIn K (.ref C) (.type "object") = some true)
    (he : PySem.W.findIn K (.ref C) "__eq__" = some (some (.ref f))) (hf : PySem.W.isFn K (.ref f) = true)
    (h : wpAny (model prog w) A.in1 (call (.ref f) [.ref x, b]) (fun v s' => ∃ r, v = .bool r ∧ Q (.bool (!r)) s') E s) :
    wpAny (model prog w) A (richCompare .NotEq (.ref x) b) Q E s := by
  have one : wpAny (model prog w) A (tryCompare (.ref x) "__ne__" b) (fun r s' => ∃ v, r = some v ∧ Q v s') E s := by
    unfold tryCompare callSpecialIfBound? bindSpecialIfBound?
    refine wpAny_bind (wpAny_holding (wpAny_bind (wpAny_bind (wpAny_bind (I.type.here ((PySem.W.looks_findIn X hs).here (wpAny_bind (wpAny_askSetting (wpAny_ite ?_)))))))))
    have fin : wpAny (model prog w) A (call (.builtin "object.__ne__") ([.ref x] ++ [b]) >>= fun v => pure (some v)) (fun r s' => wpAny (model prog w) A (match r with | some .notImplemented | none => pure none | some v => pure (some v) : Sem (Option Value)) (fun r s' => ∃ v, r = some v ∧ Q v s') E s') E s := by
      refine wpAny_bind (wpAny_call (codeAny_call_builtin F.cmp_object.ne.plain F.cmpEntry_ne (PySem.W.check_slot F.cmpKind_ne F.cmpSplit_ne (I.type.andThen (PySem.W.looks_subIn X ho)) (F.cmpArgs_ne _ _) ?_)))
      unfold Builtin.«object.__ne__»
      refine wpAny_bind (wpAny_of_eq (a := ((Value.ref x : Value), [b])) (by first | rfl | (simp only [slotArgs]; rfl)) (wpAny_bind (wpAny_cRoomFor hu (wpAny_bind (PySem.W.ifBound_K X I he hf (wpAny_mono h (fun v s' q => ?_) fun _ _ z => z))))))
      obtain ⟨r, rfl, q⟩ := q
      refine wpAny_bind (wpAny_truthy_bool ?_)
      refine wpAny_pure ?_
      show wpAny (model prog w) A (pure (some (Value.bool !r))) _ E s'
      refine wpAny_pure (wpAny_pure ?_)
      exact ⟨_, rfl, q⟩
    rw [F.cmp_object.ne.bind (.ref x)]
    split
    · exact wpAny_bind (wpAny_pure (wpAny_pure fin))
    · exact wpAny_tryCatch (wpAny_bind (wpAny_pure (wpAny_pure fin)))
  unfold richCompare
  simp only [oneThing_ref]
  have last : ∀ {s1 : Shared} {g : Option Value → Sem Value}, s1 = s → (∀ v, g (some v) = pure v) → wpAny (model prog w) A (tryCompare (.ref x) (cmpInfo CmpOp.NotEq).2.fst b >>= g) Q E s1 := by
    rintro s1 g rfl hg
    refine wpAny_bind (wpAny_mono one (fun r s' z => ?_) fun _ _ z => z)
    obtain ⟨v, rfl, q⟩ := z
    rw [hg]
    exact wpAny_pure q
  refine wpAny_holding (wpAny_bind (wpAny_cRoomFor (by omega) (wpAny_bind (I.type.here (wpAny_bind (hb.here ?_))))))
  split
  · rename_i q
    have e : PySem.W.subIn K tb (.ref C) = some false := (Bool.or_eq_true_iff.mp hn).elim (fun z => by rw [beq_iff_eq.mp z] at q; simp at q) fun z => beq_iff_eq.mp z
    refine wpAny_bind ((PySem.W.looks_subIn X e).here ?_)
    rw [if_neg Bool.false_ne_true]
    exact last rfl fun _ => rfl
  · refine wpAny_bind (wpAny_pure ?_)
    rw [if_neg Bool.false_ne_true]
    exact last rfl fun _ => rfl
end
section
variable {X : Cx} {pins : List (Addr × Obj)} {σ : L2.St} {H : Hp} {s : Shared} {k : Nat} {f C : Addr} {fd : FuncData} {ps : List Str} {sp : Sp}
/-- an own def, called by a built-in one -/
theorem run_in {A : Around} {us : List Value} {vs : List V} {Q : VK} {E : XK} (F : FnOk X.prog X.w X.K X.mg X.base CX0 k f fd ps sp) (hr : Room k A) (hf : A.frames = X.A.frames) (hb : Binds X.K fd ps []) (I : Inv X pins σ H s)
    (r : Vals vs us) (h : sp vs H Q E) : wpAny (model X.prog X.w) A (call (.ref f) us) (EP X pins σ Q) X.xe s := by
  have e := I.env0
  have e0 : Env0 X.prog X.w X.K X.mg X.base A X.stack s H := ⟨by rw [hf]; exact e.frames, e.mod, e.bs, e.bsz, e.funs, e.frf, e.hok, e.bare⟩
  have b := hb s us I.kIn (by rw [List.append_nil, ← r.length]; exact F.len _ _ _ _ h)
  rw [List.append_nil] at b
  refine wpAny_call (codeAny_mono (F.run A X.stack s H ⟨us, []⟩ us vs Q E hr e0 b r h) fun res s' hq => ?_)
  match res, hq with
  | .ok (.ret u), hq => exact I.after hq
  | .ok .next, hq => exact hq.elim
  | .ok .brk, hq => exact hq.elim
  | .ok .cont, hq => exact hq.elim
  | .error _, hq => exact hq.elim
end
theorem k_isi {X : Cx} (K : PySem.W.Frag) (hK : X.K = K := by rfl) : CallR X (.builtin "isinstance") (rIsi K) := by subst hK; exact call_isi
/-! ### two heaps -/
/-- what is told of the class beside -/
structure HIs (K : PySem.W.Frag) (C : Addr) : Prop where
  ca : PySem.W.findIn K (.ref C) "__class__" = some (some (.builtin "object.__class__"))
  cg : PySem.W.specialIn K (.builtin "object.__class__") "__get__" = some (some (.builtin "getset_descriptor.__get__"))
  ct : PySem.W.takesIn K (.builtin "object.__class__") = some true
  cm : PySem.W.mroIn K C (.type "object") = some true
theorem kit_self (K : PySem.W.Frag) (C : Addr) : PySem.W.kitOne K (.ref C) (.ref C) = some true := by
  unfold PySem.W.kitOne
  rw [if_pos (beq_self_eq_true _)]
theorem HeapAt.ty {K : PySem.W.Frag} {mg : Str → Option Value} {C p : Addr} {H : Hp} {L : List PRow} (h : HeapAt K C H p L) (T : HCls K mg C) (U : HIs K C) : TyX K H (.ref p) (.ref C) := by
  obtain ⟨dx, t, h1, _⟩ := h
  exact .base (.ins h1 T.cl U.ca U.cg U.ct U.cm)
/-- == of two heaps -/
def spEqH (K : PySem.W.Frag) (C : Addr) : Sp := fun vs H Q _ => ∃ (p q : Addr) (L M : List PRow) (n : Nat) (b : Int), vs = [.ref p, .ref q] ∧ HeapAt K C H p L ∧ HeapAt K C H q M ∧ RowsOk n b L ∧ RowsOk n b M ∧
  Q (.bl (decide (L = M))) H
def spLenH (K : PySem.W.Frag) (C : Addr) : Sp := fun vs H Q _ => ∃ (p : Addr) (L : List PRow), vs = [.ref p] ∧ HeapAt K C H p L ∧ L.length ≤ 900 ∧ Q (.int L.length) H
def rEqH (K : PySem.W.Frag) (C : Addr) : R2 := fun x y H Q => ∃ (p q : Addr) (L M : List PRow) (n : Nat) (b : Int), x = .ref p ∧ y = .ref q ∧ HeapAt K C H p L ∧ HeapAt K C H q M ∧ RowsOk n b L ∧ RowsOk n b M ∧
  Q (.bl (decide (L = M))) H
def rNeH (K : PySem.W.Frag) (C : Addr) : R2 := fun x y H Q => ∃ (p q : Addr) (L M : List PRow) (n : Nat) (b : Int), x = .ref p ∧ y = .ref q ∧ HeapAt K C H p L ∧ HeapAt K C H q M ∧ RowsOk n b L ∧ RowsOk n b M ∧
  Q (.bl (!decide (L = M))) H
def rLenH (K : PySem.W.Frag) (C : Addr) : List V → Hp → VK → Prop := fun xs H Q => ∃ (p : Addr) (L : List PRow), xs = [.ref p] ∧ HeapAt K C H p L ∧ L.length ≤ 900 ∧ Q (.int L.length) H
/-- an own method with its class's name for it -/
structure HSp (P : Program) (w : World) (K : PySem.W.Frag) (mg : Str → Option Value) (base : Heap) (k : Nat) (C : Addr) (x : Str) (f : Addr) (fd : FuncData) (ps : List Str) (sp : Sp) : Prop where
  ok : FnOk P w K mg base CX0 k f fd ps sp
  fi : PySem.W.findIn K (.ref C) x = some (some (.ref f))
  fn : PySem.W.isFn K (.ref f) = true
  b : Binds K fd ps []
section
variable {X : Cx} {k : Nat} {C f : Addr} {fd : FuncData}
theorem HeapAt.inst {pins : List (Addr × Obj)} {σ : L2.St} {H : Hp} {s : Shared} {p : Addr} {L : List PRow} (h : HeapAt X.K C H p L) (I : Inv X pins σ H s) : ∃ ox od, PySem.W.InstAt s.heap p ox C (some od) := by
  obtain ⟨dx, t, h1, _⟩ := h
  obtain ⟨mA, J, _⟩ := ins_get I.hok h1
  obtain ⟨od, J, _⟩ := J.look
  exact ⟨_, od, J⟩
theorem op_eqH (K : PySem.W.Frag) (E : HSp X.prog X.w K X.mg X.base k C "__eq__" f fd ["self", "other"] (spEqH K C)) (hr : Room k X.A) (hK : X.K = K := by rfl) : OpR X (compareOp .Eq) (rEqH K C) := by
  subst hK
  intro pins s σ H x y v u Q I rx ry h
  obtain ⟨p, q, L, M, n, b, rfl, rfl, hp, hq, okL, okM, z⟩ := h
  cases rx
  cases ry
  obtain ⟨ox, od, J⟩ := hp.inst I
  obtain ⟨oy, oe, J'⟩ := hq.inst I
  obtain ⟨m, hF⟩ := I.fr
  show wpAny (model X.prog X.w) X.A (richCompare .Eq (.ref p) (.ref q)) (EP X pins σ Q) X.xe s
  refine PySem.W.cmp_K (op := .Eq) (tb := .ref C) hr.units0 hF I.ok.mod.kin J J'.type (by simp [PySem.W.notFirst]) E.fi E.fn ?_
  refine wpAny_mono (run_in (Q := fun v H' => v = .bl (decide (L = M)) ∧ H' = H) (E := fun _ _ _ => False) E.ok hr rfl E.b I (vs := [.ref p, .ref q]) (.cons rfl (.cons rfl .nil)) ⟨p, q, L, M, n, b, rfl, hp, hq, okL, okM, rfl, rfl⟩) (fun r s' g => ?_) fun _ _ z => z
  obtain ⟨v, H', I', rv, rfl, rfl⟩ := g
  cases rv
  exact ⟨.bl (decide (L = M)), _, I', rfl, z⟩
theorem op_neH (K : PySem.W.Frag) (E : HSp X.prog X.w K X.mg X.base k C "__eq__" f fd ["self", "other"] (spEqH K C)) (hne : PySem.W.findIn K (.ref C) "__ne__" = some (some (.builtin "object.__ne__"))) (hob : PySem.W.subIn K (.ref C) (.type "object") = some true)
    (hr : Room (k + 1) X.A) (hK : X.K = K := by rfl) : OpR X (compareOp .NotEq) (rNeH K C) := by
  subst hK
  intro pins s σ H x y v u Q I rx ry h
  obtain ⟨p, q, L, M, n, b, rfl, rfl, hp, hq, okL, okM, z⟩ := h
  cases rx
  cases ry
  obtain ⟨ox, od, J⟩ := hp.inst I
  obtain ⟨oy, oe, J'⟩ := hq.inst I
  show wpAny (model X.prog X.w) X.A (richCompare .NotEq (.ref p) (.ref q)) (EP X pins σ Q) X.xe s
  refine ne_own (tb := .ref C) (by have := hr.un; omega) I.kIn J J'.type (by simp [PySem.W.notFirst]) hne hob E.fi E.fn ?_
  refine wpAny_mono (run_in (Q := fun v H' => v = .bl (decide (L = M)) ∧ H' = H) (E := fun _ _ _ => False) E.ok hr.in1 rfl E.b I (vs := [.ref p, .ref q]) (.cons rfl (.cons rfl .nil)) ⟨p, q, L, M, n, b, rfl, hp, hq, okL, okM, rfl, rfl⟩) (fun r s' g => ?_) fun _ _ z => z
  obtain ⟨v, H', I', rv, rfl, rfl⟩ := g
  cases rv
  exact ⟨_, rfl, .bl (!decide (L = M)), _, I', rfl, z⟩
theorem call_lenH (K : PySem.W.Frag) (E : HSp X.prog X.w K X.mg X.base k C "__len__" f fd ["self"] (spLenH K C)) (hr : Room (k + 1) X.A) (hK : X.K = K := by rfl) : CallR X (.builtin "len") (rLenH K C) := by
  subst hK
  intro pins s σ H xs us Q I r h
  obtain ⟨p, L, rfl, hp, hL, z⟩ := h
  obtain ⟨u, rfl, ru⟩ := vals1 r
  cases ru
  obtain ⟨ox, od, J⟩ := hp.inst I
  obtain ⟨m, hF⟩ := I.fr
  refine PySem.W.len_K hF I.ok.mod.kin J E.fi E.fn ?_
  refine wpAny_mono (run_in (Q := fun v H' => v = .int L.length ∧ H' = H) (E := fun _ _ _ => False) E.ok hr.in1 rfl E.b I (vs := [.ref p]) (.cons rfl .nil) ⟨p, L, rfl, hp, hL, rfl, rfl⟩) (fun r s' g => ?_) fun _ _ z => z
  obtain ⟨v, H', I', rv, rfl, rfl⟩ := g
  obtain ⟨t, rfl⟩ := rv
  exact ⟨⟨by omega, by omega⟩, .int L.length, _, I'.tok _, ⟨_, rfl⟩, z⟩
end
/-! ### a method that may raise, within a try -/
section
variable {X : Cx} {CX : CXT} {k : Nat} {f C : Addr} {fd : FuncData} {ps : List Str} {sp : Sp} {E : L2.St → XK} {m : Str} {pos apos : Pos} {e o : Expr} {es : List Expr} {ta : TE} {t : TA}
def tMethX (C : Addr) (m : Str) (sp : Sp) (E : L2.St → XK) (ta : TE) (t : TA) : TE := fun σ H Q => ta σ H fun x H1 => ∃ a dx fs, x = .ref a ∧ H1 a = some (.ins C dx fs) ∧ fs.lookup m = none ∧ t σ H1 fun vs H2 => sp (x :: vs) H2 Q (E σ)
theorem pe_methX {pl : Sem Bool} (he : PE X o ta) (c : Cls X.K C) (hm : Meth X.K C m f) (F : FnOk X.prog X.w X.K X.mg X.base CX k f fd ps sp) (hr : Room k X.A) (hb : Binds X.K fd ps []) (hx : ∀ σ, PassesAt CX X σ (E σ)) (ha : PA X (e :: es) t)
    (hst : starEach (e :: es) X.env = (false, eval e X.env) :: starEach es X.env := by rfl) (hpl : (backTo pos (starEach es X.env)).any (·.1) = false := by rfl)
    (ht : eval (.Call (.Attribute o m apos) (e :: es) [] pos) X.env = viaMeth X.env o m pl apos pos (e :: es) [] := by rfl) :
    PE X (.Call (.Attribute o m apos) (e :: es) [] pos) (tMethX C m sp E ta t) := by
  refine ⟨fun pins s σ H Q I h => PySem.W.methodCall_KW (pl := pl) (thn (he.run pins s σ H _ I h) ?_) ht⟩
  rintro u s1 ⟨x, H1, I1, rx, a, dx, fs, rfl, ea, l, q⟩
  obtain rfl : u = Value.ref a := rx
  refine getmeth_ok I1 ea c hm l (PySem.W.callWith_K (first := [.ref a]) (h₀ := X.base) I.ok.mod.kin hm.kp (thn (ha.run pos pins s1 σ H1 _ I1 q) ?_) hst hpl)
  rintro us s2 ⟨vs, H2, I2, r, q2⟩
  exact ⟨I2.kIn, run_fnSD (us := .ref a :: us) (vs := .ref a :: vs) (dvs := []) (ds := []) F hr hb .nil (hx σ) I2 (.cons rfl r) (by rw [List.append_nil]; exact q2)⟩
end
end PK
/-! Things of any kind: what stays, how long they are shown, what they are. -/
namespace PK
open PySem PySem.Spec PyProof.Rows L2
/-! ### what stays: tuples and lists -/
def Lk : HO → Prop
  | .tup _ => True
  | .frz _ _ => True
  | .lst _ => True
  | _ => False
def LKeep (H H' : Hp) : Prop := ∀ b u, Lk u → H b = some u → H' b = some u
theorem LKeep.refl (H : Hp) : LKeep H H := fun _ _ _ h => h
theorem LKeep.trans {H H1 H2 : Hp} (x : LKeep H H1) (y : LKeep H1 H2) : LKeep H H2 := fun b u t h => y b u t (x b u t h)
theorem LKeep.of {H H' : Hp} (x : Same H H') : LKeep H H' := fun b u _ h => x b u h
theorem LKeep.feed {H H' : Hp} {a c : Addr} (f : IsFeed H a c) (x : Ext a H H') : LKeep H H' := fun b u t h => by
  obtain ⟨cs, i, l, n, f⟩ := f
  exact x b u h (ne_of h f.d (by rintro rfl; exact t))
theorem LKeep.sqT {K : PySem.W.Frag} {H H' : Hp} {b : Addr} {xs : List V} (x : LKeep H H') (h : SqT K H b xs) : SqT K H' b xs := by
  rcases h with (h | ⟨o, h⟩) | h
  · exact Or.inl (Or.inl (x _ _ trivial h))
  · exact Or.inl (Or.inr ⟨o, x _ _ trivial h⟩)
  · exact Or.inr h
theorem LKeep.sqL {K : PySem.W.Frag} {H H' : Hp} {b : Addr} {xs : List V} (x : LKeep H H') (h : SqL K H b xs) : SqL K H' b xs := by
  rcases h with (h | ⟨o, h⟩) | h
  · exact Or.inl (Or.inl (x _ _ trivial h))
  · exact Or.inl (Or.inr ⟨o, x _ _ trivial h⟩)
  · exact Or.inr h
mutual
theorem Dp.keepL {K : PySem.W.Frag} {H H' : Hp} (x : LKeep H H') : ∀ {d : PyData} {v : V}, Dp K H v d → Dp K H' v d
  | .none, _, .non => .non
  | .bool _, _, .bl b => .bl b
  | .int _, _, .int i => .int i
  | .str _, _, .str y => .str y
  | .list _, _, .lst hs ha => .lst (x.sqL hs) (DpAll.keepL x ha)
  | .tuple _, _, .tup hs ha => .tup (x.sqT hs) (DpAll.keepL x ha)
theorem DpAll.keepL {K : PySem.W.Frag} {H H' : Hp} (x : LKeep H H') : ∀ {ds : List PyData} {vs : List V}, DpAll K H vs ds → DpAll K H' vs ds
  | [], _, .nil => .nil
  | _ :: _, _, .cons h1 h2 => .cons (Dp.keepL x h1) (DpAll.keepL x h2)
end
/-- all but the object at d -/
def mask (H : Hp) (d : Addr) : Hp := fun b => if b = d then none else H b
theorem mask_ne {H : Hp} {d b : Addr} (h : b ≠ d) : mask H d b = H b := if_neg h
theorem mask_some {H : Hp} {d b : Addr} {o : HO} (h : mask H d b = some o) : H b = some o ∧ b ≠ d := by
  unfold mask at h
  split at h
  · cases h
  · rename_i z
    exact ⟨h, z⟩
theorem mask_upd {H : Hp} {d : Addr} {o : HO} : mask (upd H d o) d = mask H d := by
  funext b
  unfold mask
  split
  · rfl
  · rename_i z
    exact upd_ne z
theorem mask_sub (H : Hp) (d : Addr) : Same (mask H d) H := fun b o h => (mask_some h).1
theorem mask_keep {H H' : Hp} {d : Addr} (x : LKeep H H') : LKeep (mask H d) (mask H' d) := fun b u t h => by
  obtain ⟨h1, h2⟩ := mask_some h
  rw [mask_ne h2]
  exact x b u t h1
theorem mask_of {H H' : Hp} {d : Addr} (x : LKeep H H') (nd : H d = none) : LKeep H (mask H' d) := fun b u t h => by
  rw [mask_ne (ne_of_none h nd)]
  exact x b u t h
/-! ### what can be laid, shown -/
structure Ok (d : PyData) : Prop where
  lay : d.canLay0 = true
  sh : d.showable = true
  nd : d.hasDict = false
theorem okAll {ds : List PyData} : (∀ d ∈ ds, Ok d) ↔ (PyData.canLayAll0 ds = true ∧ PyData.showableAll ds = true ∧ PyData.hasDictAll ds = false) := by
  induction ds with
  | nil => exact ⟨fun _ => ⟨rfl, rfl, rfl⟩, fun _ d h => (nomatch h)⟩
  | cons d ds ih =>
    constructor
    · intro h
      obtain ⟨h1, h2, h3⟩ := ih.mp fun e he => h e (List.mem_cons_of_mem _ he)
      have q := h d List.mem_cons_self
      refine ⟨?_, ?_, ?_⟩
      · show (d.canLay0 && PyData.canLayAll0 ds) = true
        rw [q.lay, h1]
        rfl
      · show (d.showable && PyData.showableAll ds) = true
        rw [q.sh, h2]
        rfl
      · show (d.hasDict || PyData.hasDictAll ds) = false
        rw [q.nd, h3]
        rfl
    · rintro ⟨h1, h2, h3⟩
      have h1 : (d.canLay0 && PyData.canLayAll0 ds) = true := h1
      have h2 : (d.showable && PyData.showableAll ds) = true := h2
      have h3 : (d.hasDict || PyData.hasDictAll ds) = false := h3
      rw [Bool.and_eq_true] at h1 h2
      rw [Bool.or_eq_false_iff] at h3
      intro e he
      rcases List.mem_cons.mp he with rfl | he
      · exact ⟨h1.1, h2.1, h3.1⟩
      · exact ih.mpr ⟨h1.2, h2.2, h3.2⟩ e he
theorem Ok.tuple {ds : List PyData} (h : ∀ d ∈ ds, Ok d) : Ok (.tuple ds) := by
  obtain ⟨h1, h2, h3⟩ := okAll.mp h
  exact ⟨by simpa [PyData.canLay0] using h1, by simpa [PyData.showable] using h2, by simpa [PyData.hasDict] using h3⟩
theorem Ok.list {ds : List PyData} (h : ∀ d ∈ ds, Ok d) : Ok (.list ds) := by
  obtain ⟨h1, h2, h3⟩ := okAll.mp h
  exact ⟨by simpa [PyData.canLay0] using h1, by simpa [PyData.showable] using h2, by simpa [PyData.hasDict] using h3⟩
theorem Ok.mem {ds : List PyData} (h : Ok (.tuple ds)) : ∀ d ∈ ds, Ok d := okAll.mpr ⟨by simpa [PyData.canLay0] using h.lay, by simpa [PyData.showable] using h.sh, by simpa [PyData.hasDict] using h.nd⟩
theorem Ok.memL {ds : List PyData} (h : Ok (.list ds)) : ∀ d ∈ ds, Ok d := okAll.mpr ⟨by simpa [PyData.canLay0] using h.lay, by simpa [PyData.showable] using h.sh, by simpa [PyData.hasDict] using h.nd⟩
/-! ### a bound of the length when shown -/
mutual
def wt : PyData → Nat
  | .none => 4
  | .bool _ => 5
  | .int i => i.natAbs.log2 + 2
  | .str y => 10 * y.length + 2
  | .tuple ds => wts ds + 3
  | .list ds => wts ds + 3
  | .dict _ => 0
def wts : List PyData → Nat
  | [] => 0
  | d :: ds => wt d + 2 + wts ds
end
theorem wts_app : ∀ a b : List PyData, wts (a ++ b) = wts a + wts b
  | [], b => by rw [List.nil_append]; show _ = 0 + _; omega
  | d :: a, b => by
    show wt d + 2 + wts (a ++ b) = wt d + 2 + wts a + wts b
    rw [wts_app a b]
    omega
theorem wts_one (d : PyData) : wts [d] = wt d + 2 := rfl
theorem wts_take (n : Nat) : ∀ ds : List PyData, wts (ds.take n) ≤ wts ds := by
  intro ds
  have := wts_app (ds.take n) (ds.drop n)
  rw [List.take_append_drop] at this
  omega
theorem wts_drop (n : Nat) (ds : List PyData) : wts (ds.drop n) ≤ wts ds := by
  have := wts_app (ds.take n) (ds.drop n)
  rw [List.take_append_drop] at this
  omega
theorem wts_rev : ∀ ds : List PyData, wts ds.reverse = wts ds
  | [] => rfl
  | d :: ds => by
    rw [List.reverse_cons, wts_app, wts_rev ds, wts_one]
    show _ = wt d + 2 + wts ds
    omega
theorem wts_mem {d : PyData} : ∀ {ds : List PyData}, d ∈ ds → wt d + 2 ≤ wts ds
  | e :: ds, h => by
    show _ ≤ wt e + 2 + wts ds
    rcases List.mem_cons.mp h with rfl | h
    · omega
    · have := wts_mem h
      omega
theorem wts_len {n : Nat} : ∀ {ds : List PyData}, wts ds ≤ 2 * n → ds.length ≤ n
  | [], _ => Nat.zero_le _
  | d :: ds, h => by
    have h : wt d + 2 + wts ds ≤ 2 * n := h
    have := wts_len (n := n - 1) (ds := ds) (by omega)
    rw [List.length_cons]
    omega
theorem wts_le {n : Nat} : ∀ {ds : List PyData}, (∀ d ∈ ds, wt d + 2 ≤ n) → wts ds ≤ ds.length * n
  | [], _ => Nat.zero_le _
  | d :: ds, h => by
    have h1 := h d List.mem_cons_self
    have h2 := wts_le (ds := ds) fun e he => h e (List.mem_cons_of_mem _ he)
    show wt d + 2 + wts ds ≤ (ds.length + 1) * n
    rw [Nat.succ_mul]
    omega
theorem cps_small {y : Str} (h : PyData.strOk y = true) : ∀ c ∈ y.cps.toList, c < 16 ^ 8 := fun c hc => by
  unfold PyData.strOk at h
  rw [Array.all_eq_true_iff_forall_mem] at h
  have := of_decide_eq_true (h c (by simpa using hc))
  omega
mutual
theorem shown_wt : ∀ d : PyData, Ok d → d.shown.length ≤ wt d
  | .none, _ => by decide +kernel
  | .bool b, _ => by cases b <;> decide +kernel
  | .int i, _ => by
    have e : (PyData.shown (.int i)) = Str.ofString (toString i) := by simp only [PyData.shown]
    rw [e, PySem.ofString_length]
    exact int_text_length_le (k := i.natAbs.log2 + 1) (by omega) (by omega)
  | .str y, h => by
    have e : (PyData.shown (.str y)) = reprText y := by simp only [PyData.shown]
    rw [e]
    exact StrLaws.reprText_len y (cps_small (by simpa [PyData.canLay0] using h.lay))
  | .tuple ds, h => by
    have e : (PyData.shown (.tuple ds)) = tupleText (PyData.shownAll ds) := by simp only [PyData.shown]
    rw [e]
    have l := tupleText_len_le (PyData.shownAll ds)
    have q := shownAll_wt ds h.mem
    show _ ≤ wts ds + 3
    omega
  | .list ds, h => by
    have e : (PyData.shown (.list ds)) = listText (PyData.shownAll ds) := by simp only [PyData.shown]
    rw [e]
    have l := listText_len_le (PyData.shownAll ds)
    have q := shownAll_wt ds h.memL
    show _ ≤ wts ds + 3
    omega
  | .dict _, h => by
    have := h.lay
    simp [PyData.canLay0] at this
theorem shownAll_wt : ∀ ds : List PyData, (∀ d ∈ ds, Ok d) → ((PyData.shownAll ds).map (·.length)).sum + 2 * (PyData.shownAll ds).length ≤ wts ds
  | [], _ => Nat.le_refl _
  | d :: ds, h => by
    have h1 := shown_wt d (h d List.mem_cons_self)
    have h2 := shownAll_wt ds fun e he => h e (List.mem_cons_of_mem _ he)
    show (d.shown.length :: ((PyData.shownAll ds).map (·.length))).sum + 2 * ((PyData.shownAll ds).length + 1) ≤ wt d + 2 + wts ds
    rw [List.sum_cons]
    omega
end
/-- a thing: how deep, how long -/
structure Tg (dp n : Nat) (d : PyData) : Prop where
  ok : Ok d
  dep : d.depth ≤ dp
  wt : wt d ≤ n
theorem Tg.sh {dp n : Nat} {d : PyData} (h : Tg dp n d) : Sh d dp n := ⟨h.ok.sh, h.ok.nd, h.dep, Nat.le_trans (shown_wt d h.ok) h.wt⟩
theorem Tg.mono {dp n dp' n' : Nat} {d : PyData} (h : Tg dp n d) (h1 : dp ≤ dp') (h2 : n ≤ n') : Tg dp' n' d := ⟨h.ok, Nat.le_trans h.dep h1, Nat.le_trans h.wt h2⟩
theorem Tg.shaped {dp n : Nat} {d : PyData} (h : Tg dp n d) (hd : dp ≤ 64) : SeqAt.shaped d = true := by
  unfold SeqAt.shaped
  rw [h.ok.lay, decide_eq_true (Nat.le_trans h.dep hd)]
  rfl
theorem depthAll_mem {d : PyData} : ∀ {ds : List PyData}, d ∈ ds → d.depth ≤ PyData.depthAll ds
  | e :: ds, h => by
    show _ ≤ max e.depth (PyData.depthAll ds)
    rcases List.mem_cons.mp h with rfl | h
    · exact Nat.le_max_left _ _
    · exact Nat.le_trans (depthAll_mem h) (Nat.le_max_right _ _)
theorem depth_tuple (ds : List PyData) : (PyData.tuple ds).depth = PyData.depthAll ds + 1 := by simp only [PyData.depth]
theorem depth_list (ds : List PyData) : (PyData.list ds).depth = PyData.depthAll ds + 1 := by simp only [PyData.depth]
theorem Tg.tuple {dp n : Nat} {ds : List PyData} (h : ∀ d ∈ ds, Ok d ∧ d.depth ≤ dp) (hn : wts ds + 3 ≤ n) : Tg (dp + 1) n (.tuple ds) := by
  refine ⟨Ok.tuple fun d hd => (h d hd).1, ?_, hn⟩
  rw [depth_tuple]
  exact Nat.succ_le_succ (depthAll_le fun d hd => (h d hd).2)
theorem Tg.list {dp n : Nat} {ds : List PyData} (h : ∀ d ∈ ds, Ok d ∧ d.depth ≤ dp) (hn : wts ds + 3 ≤ n) : Tg (dp + 1) n (.list ds) := by
  refine ⟨Ok.list fun d hd => (h d hd).1, ?_, hn⟩
  rw [depth_list]
  exact Nat.succ_le_succ (depthAll_le fun d hd => (h d hd).2)
theorem Tg.each {dp n : Nat} {ds : List PyData} (h : Tg (dp + 1) n (.tuple ds)) : ∀ d ∈ ds, Ok d ∧ d.depth ≤ dp := fun d hd => by
  refine ⟨h.ok.mem d hd, ?_⟩
  have h1 := h.dep
  rw [depth_tuple] at h1
  have := depthAll_mem hd
  omega
theorem Ok.non : Ok .none := ⟨rfl, rfl, rfl⟩
theorem Ok.bl (b : Bool) : Ok (.bool b) := ⟨rfl, rfl, rfl⟩
theorem Ok.int {i : Int} (h : i.natAbs.log2 < 1920) : Ok (.int i) := ⟨rfl, decide_eq_true h, rfl⟩
theorem Ok.str {y : Str} (h : PyData.strOk y = true) : Ok (.str y) := ⟨h, rfl, rfl⟩
/-! ### the kinds -/
def tyD : PyData → String
  | .none => "NoneType"
  | .bool _ => "bool"
  | .int _ => "int"
  | .str _ => "str"
  | .tuple _ => "tuple"
  | .list _ => "list"
  | .dict _ => "dict"
theorem Dp.ty {K : PySem.W.Frag} {H : Hp} {v : V} {d : PyData} (h : Dp K H v d) : TyX K H v (.type (tyD d)) := by
  cases h with
  | non => exact .base .non
  | bl b => exact .base (.bl b)
  | int i => exact .base (.int i)
  | str y => exact .base (.str y)
  | lst hs _ =>
    rcases hs with (h | ⟨o, h⟩) | ⟨o, its, n, hk, hc, _⟩
    · exact .base (.lst h)
    · exact .base (.frz h)
    · exact .kList hk hc
  | tup hs _ =>
    rcases hs with (h | ⟨o, h⟩) | ⟨o, its, n, hk, hc, _⟩
    · exact .base (.tup h)
    · exact .fTuple h
    · exact .kTuple hk hc
def isD (T : String) (d : PyData) : Bool := tyD d == T || (tyD d == "bool" && T == "int")
theorem kitB_tab : ∀ a ∈ ["NoneType", "bool", "int", "str", "tuple", "list"], ∀ b ∈ ["int", "bool", "str", "tuple", "list"], kitB a b = some (a == b || (a == "bool" && b == "int")) := by decide +kernel
theorem kit_isD {K : PySem.W.Frag} {T : String} (hT : T ∈ ["int", "bool", "str", "tuple", "list"]) (d : PyData) (hd : d.canLay0 = true) : PySem.W.kitOne K (.type (tyD d)) (.type T) = some (isD T d) := by
  refine kit_ty (kitB_tab (tyD d) ?_ T hT)
  cases d <;> first
    | (simp [PyData.canLay0] at hd; done)
    | simp [tyD]
/-- isinstance(thing, T) -/
theorem rd_isi {K : PySem.W.Frag} {H : Hp} {v : V} {d : PyData} {T : String} {Q : VK} (h : Dp K H v d) (hd : d.canLay0 = true) (hT : T ∈ ["int", "bool", "str", "tuple", "list"]) (k : Q (.bl (isD T d)) H) : rIsi K [v, .ty T] H Q :=
  ⟨v, .ty T, .type (tyD d), .type T, isD T d, rfl, .ty T, Dp.ty h, kit_isD hT d hd, k⟩
theorem DpAll.three {K : PySem.W.Frag} {H : Hp} {xs : List V} {ds : List PyData} (h : DpAll K H xs ds) (hl : xs.length = 3) : ∃ d0 d1 d2 x0 x1 x2, ds = [d0, d1, d2] ∧ xs = [x0, x1, x2] ∧ Dp K H x0 d0 ∧ Dp K H x1 d1 ∧ Dp K H x2 d2 := by
  cases h with
  | nil => cases hl
  | cons h0 h =>
    cases h with
    | nil => cases hl
    | cons h1 h =>
      cases h with
      | nil => cases hl
      | cons h2 h =>
        cases h with
        | nil => exact ⟨_, _, _, _, _, _, rfl, rfl, h0, h1, h2⟩
        | cons _ _ => simp at hl
/-! ### names that are the built-in ones -/
def NoB (mg : Str → Option Value) (l : List Str) : Prop := ∀ x ∈ l, mg x = none
abbrev BL : List Str := ["isinstance", "int", "bool", "str", "tuple", "list", "len", "range", "repr", "all", "ord", "sorted", "set", "sum", "min", "zip"]
/-- the program's own letters -/
structure Abc (mg : Str → Option Value) : Prop where
  le : ∃ u, mg "LETTERS" = some u ∧ RelV (.str abc) u
  lo : ∃ u, mg "LONGEST_WORD" = some u ∧ RelV (.int 8) u
theorem pe_gl {X : Cx} {x : Str} {v : V} {pos : Pos} (hg : Gl X x) (h : ∃ u, X.mg x = some u ∧ RelV v u) (hd : (x == ("__debug__" : Str)) = false := by decide) : PE X (.Name x pos) (tC v) := by
  obtain ⟨u, h1, h2⟩ := h
  exact pe_glob hg h1 h2 hd
theorem take_mapS {α β : Type} {f : α → β} {l : List α} {i : Nat} {x : α} (h : l[i]? = some x) : (l.take (i + 1)).map f = (l.take i).map f ++ [f x] := by
  rw [take_snoc h, List.map_append]
  rfl
theorem bls_all {α : Type} (f : α → Bool) (l : List α) : (l.map f).all id = l.all f := by
  rw [List.all_map]
  rfl
theorem abc_mem (c : Nat) : decide (c ∈ abc.cps.toList) = decide (97 ≤ c ∧ c ≤ 122) := by
  rw [abc_list, decide_eq_decide, List.mem_range']
  constructor
  · rintro ⟨i, h1, h2⟩
    omega
  · rintro ⟨h1, h2⟩
    exact ⟨c - 97, by omega, by omega⟩
theorem empty_filter {α β : Type} (f : α → Bool) (g : α → β) : ∀ l : List α, ((l.filter fun c => !f c).map g).isEmpty = l.all f
  | [] => rfl
  | a :: l => by
    cases h : f a with
    | false =>
      rw [List.filter_cons_of_pos (by rw [h]; rfl), List.all_cons, h]
      rfl
    | true =>
      rw [List.filter_cons_of_neg (by rw [h]; exact Bool.false_ne_true), List.all_cons, h, Bool.true_and]
      exact empty_filter f g l
/-! ### looks -/
def numD : PyData → Bool
  | .int _ => true
  | _ => false
def manyD : PyData → Bool
  | .int i => decide (1 ≤ i)
  | _ => false
def wordB (y : Str) : Bool := decide (1 ≤ y.length) && decide (y.length ≤ 8) && y.cps.toList.all fun c => decide (c ∈ abc.cps.toList)
def wordD : PyData → Bool
  | .str y => wordB y
  | _ => false
def rowB : PyData → Bool
  | .tuple [a, b, c] => wordD a && wordD b && manyD c
  | _ => false
def rowsB : PyData → Bool
  | .tuple ds => ds.all rowB
  | _ => false
theorem isD_tuple {d : PyData} (h : isD "tuple" d = true) : ∃ ds, d = .tuple ds := by
  cases d with
  | tuple ds => exact ⟨ds, rfl⟩
  | _ => simp [isD, tyD] at h
theorem isD_str {d : PyData} (h : isD "str" d = true) : ∃ y, d = .str y := by
  cases d with
  | str y => exact ⟨y, rfl⟩
  | _ => simp [isD, tyD] at h
theorem isD_int {d : PyData} (h : isD "int" d = true) (h2 : isD "bool" d = false) : ∃ i, d = .int i := by
  cases d with
  | int i => exact ⟨i, rfl⟩
  | bool b => simp [isD, tyD] at h2
  | _ => simp [isD, tyD] at h
theorem num_is (d : PyData) : (isD "int" d && !isD "bool" d) = numD d := by
  cases d <;> simp [isD, tyD, numD]
theorem num_int {d : PyData} (h : numD d = true) : ∃ i, d = .int i := by
  cases d with
  | int i => exact ⟨i, rfl⟩
  | _ => simp [numD] at h
/-- the three truths -/
def dueD (d : PyData) : PyData := .tuple [.bool (numD d), .bool (wordD d), .bool (rowsB d)]
def spDue (K : PySem.W.Frag) : Sp := fun vs H Q _ => ∃ (v : V) (d : PyData), vs = [v] ∧ Dp K H v d ∧ Ok d ∧ wt d ≤ 1000000 ∧ ∀ u H', Same H H' → Dp K H' u (dueD d) → Q u H'
def spLook (K : PySem.W.Frag) (f : PyData → Bool) : Sp := fun vs H Q _ => ∃ (v : V) (d : PyData), vs = [v] ∧ Dp K H v d ∧ Ok d ∧ wt d ≤ 1000000 ∧ ∀ H', Same H H' → Q (.bl (f d)) H'
end PK
/-! All but some lists that grow. -/
namespace PK
open PySem PySem.Spec PyProof.Rows L2
def ms (S : List Addr) (H : Hp) : Hp := fun b => if b ∈ S then none else H b
section
variable {K : PySem.W.Frag} {S : List Addr} {H H' : Hp} {a c o p D : Addr} {x u : HO}
theorem ms_at (h : H p = some u) (n : p ∉ S) : ms S H p = some u := by
  unfold ms
  rw [if_neg n]
  exact h
theorem ms_some (h : ms S H p = some u) : H p = some u ∧ p ∉ S := by
  unfold ms at h
  split at h
  · cases h
  · rename_i z
    exact ⟨h, z⟩
theorem ms_sub : Same (ms S H) H := fun b o h => (ms_some h).1
theorem ms_keep (k : LKeep H H') : LKeep (ms S H) (ms S H') := fun b u t h => by
  obtain ⟨h1, h2⟩ := ms_some h
  exact ms_at (k b u t h1) h2
theorem ms_same (s : Same H H') : LKeep (ms S H) (ms S H') := ms_keep (LKeep.of s)
theorem ms_feed (f : IsFeed H a c) (e : Ext a H H') : LKeep (ms S H) (ms S H') := ms_keep (LKeep.feed f e)
theorem ms_upd (h : o ∈ S) : ms S (upd H o x) = ms S H := by
  funext b
  unfold ms
  split
  · rfl
  · rename_i z
    exact upd_ne (fun e => z (by rw [e]; exact h))
/-- a new list, to be kept out -/
theorem ms_in (nD : H D = none) : LKeep (ms S H) (ms (D :: S) (upd H D x)) := fun b u t h => by
  obtain ⟨h1, h2⟩ := ms_some h
  have n := ne_of_none h1 nD
  exact ms_at (by rw [upd_ne n]; exact h1) (fun z => (List.mem_cons.mp z).elim n h2)
theorem ms_in0 (nD : H D = none) : LKeep H (ms [D] (upd H D x)) := fun b u t h => by
  have n := ne_of_none h nD
  exact ms_at (by rw [upd_ne n]; exact h) (fun z => n (List.mem_singleton.mp z))
theorem ms_out : LKeep (ms (D :: S) H) (ms S H) := fun b u t h => by
  obtain ⟨h1, h2⟩ := ms_some h
  exact ms_at h1 fun z => h2 (List.mem_cons_of_mem _ z)
theorem ms_new (np : H p = none) : LKeep (ms S H) (ms S (upd H p x)) := ms_same (same_new (Same.refl H) np)
theorem ms_get (h : H p = some u) (k : ∀ q ∈ S, ∃ w, H q = some w ∧ w ≠ u) : ms S H p = some u := ms_at h fun z => by
  obtain ⟨w, h1, h2⟩ := k p z
  rw [h] at h1
  exact h2 (Option.some.inj h1).symm
end
theorem Dp.full {K : PySem.W.Frag} {S : List Addr} {H : Hp} {v : V} {d : PyData} (h : Dp K (ms S H) v d) : Dp K H v d := Dp.same ms_sub h
/-- these are lists -/
def Ls (S : List Addr) (H : Hp) : Prop := ∀ q ∈ S, ∃ l, H q = some (.lst l)
theorem Ls.keep {S : List Addr} {H H' : Hp} (h : Ls S H) (k : LKeep H H') : Ls S H' := fun q hq => by
  obtain ⟨l, e⟩ := h q hq
  exact ⟨l, k _ _ trivial e⟩
theorem Ls.same {S : List Addr} {H H' : Hp} (h : Ls S H) (k : Same H H') : Ls S H' := h.keep (LKeep.of k)
theorem Ls.out {S : List Addr} {H : Hp} {p : Addr} (h : Ls S H) (n : H p = none) : p ∉ S := fun z => by
  obtain ⟨l, e⟩ := h p z
  rw [n] at e
  cases e
theorem Ls.cons {S : List Addr} {H : Hp} {p : Addr} {l : List V} (e : H p = some (.lst l)) (h : Ls S H) : Ls (p :: S) H := fun q hq => by
  rcases List.mem_cons.mp hq with rfl | z
  · exact ⟨l, e⟩
  · exact h q z
theorem Ls.set {S : List Addr} {H : Hp} {t : Addr} {l : List V} (h : Ls S H) : Ls S (upd H t (.lst l)) := fun q hq => by
  by_cases z : q = t
  · rw [z]
    exact ⟨l, upd_same⟩
  · rw [upd_ne z]
    exact h q hq
theorem Ls.nil (H : Hp) : Ls [] H := fun _ h => (nomatch h)
theorem sqT_ms {K : PySem.W.Frag} {S : List Addr} {H : Hp} {c : Addr} {xs : List V} (h : SqT K H c xs) (k : Ls S H) : SqT K (ms S H) c xs := by
  rcases h with (h | ⟨o, h⟩) | h
  · exact Or.inl (Or.inl (ms_at h fun z => by
      obtain ⟨l, h1⟩ := k c z
      rw [h] at h1
      cases h1))
  · refine Or.inl (Or.inr ⟨o, ms_at h fun z => ?_⟩)
    obtain ⟨l, h1⟩ := k c z
    rw [h] at h1
    cases h1
  · exact Or.inr h
/-- what is of tuples alone stands apart from all lists -/
theorem tk_ms {S : List Addr} {H : Hp} (k : Ls S H) : TKeep H (ms S H) := fun b u t h => ms_at h fun z => by
  obtain ⟨l, e⟩ := k b z
  rw [h] at e
  cases e
  exact t
end PK
/-! Things bent at some place. -/
namespace PK
open PySem PySem.Spec PyProof.Rows L2
/-! ### how great the numbers are -/
mutual
def mx : PyData → Nat
  | .int i => i.natAbs.log2
  | .tuple ds => mxs ds
  | .list ds => mxs ds
  | _ => 0
def mxs : List PyData → Nat
  | [] => 0
  | d :: ds => max (mx d) (mxs ds)
end
theorem mxs_le {m : Nat} : ∀ {ds : List PyData}, mxs ds ≤ m ↔ ∀ d ∈ ds, mx d ≤ m
  | [] => ⟨fun _ _ h => (nomatch h), fun _ => Nat.zero_le _⟩
  | d :: ds => by
    show max (mx d) (mxs ds) ≤ m ↔ _
    rw [Nat.max_le, mxs_le (ds := ds)]
    constructor
    · rintro ⟨h1, h2⟩ e he
      rcases List.mem_cons.mp he with rfl | he
      · exact h1
      · exact h2 e he
    · exact fun h => ⟨h d List.mem_cons_self, fun e he => h e (List.mem_cons_of_mem _ he)⟩
/-- what is known of a thing: texts, numbers, depth -/
structure Bd (m dp : Nat) (d : PyData) : Prop where
  lay : d.canLay0 = true
  mx : mx d ≤ m
  dep : d.depth ≤ dp
theorem canLay_all {ds : List PyData} : PyData.canLayAll0 ds = true ↔ ∀ d ∈ ds, d.canLay0 = true := by
  induction ds with
  | nil => exact ⟨fun _ _ h => (nomatch h), fun _ => rfl⟩
  | cons d ds ih =>
    show (d.canLay0 && PyData.canLayAll0 ds) = true ↔ _
    rw [Bool.and_eq_true, ih]
    constructor
    · rintro ⟨h1, h2⟩ e he
      rcases List.mem_cons.mp he with rfl | he
      · exact h1
      · exact h2 e he
    · exact fun h => ⟨h d List.mem_cons_self, fun e he => h e (List.mem_cons_of_mem _ he)⟩
mutual
theorem ok_of : ∀ {d : PyData} {m : Nat}, d.canLay0 = true → mx d ≤ m → m < 1920 → Ok d
  | .none, _, _, _, _ => Ok.non
  | .bool b, _, _, _, _ => Ok.bl b
  | .int i, _, _, h, hm => Ok.int (Nat.lt_of_le_of_lt h hm)
  | .str y, _, h, _, _ => Ok.str h
  | .tuple ds, _, h, h2, hm => Ok.tuple (oks_of (by simpa [PyData.canLay0] using h) h2 hm)
  | .list ds, _, h, h2, hm => Ok.list (oks_of (by simpa [PyData.canLay0] using h) h2 hm)
  | .dict _, _, h, _, _ => by simp [PyData.canLay0] at h
theorem oks_of : ∀ {ds : List PyData} {m : Nat}, PyData.canLayAll0 ds = true → mxs ds ≤ m → m < 1920 → ∀ d ∈ ds, Ok d
  | [], _, _, _, _, _, h => (nomatch h)
  | e :: ds, m, h, h2, hm, d, hd => by
    have h : (e.canLay0 && PyData.canLayAll0 ds) = true := h
    have h2 : max (mx e) (mxs ds) ≤ m := h2
    rw [Bool.and_eq_true] at h
    rw [Nat.max_le] at h2
    rcases List.mem_cons.mp hd with z | z
    · rw [z]
      exact ok_of h.1 h2.1 hm
    · exact oks_of h.2 h2.2 hm d z
end
theorem Bd.ok {m dp : Nat} {d : PyData} (h : Bd m dp d) (hm : m < 1920) : Ok d := ok_of h.lay h.mx hm
theorem Bd.mono {m dp m' dp' : Nat} {d : PyData} (h : Bd m dp d) (h1 : m ≤ m') (h2 : dp ≤ dp') : Bd m' dp' d := ⟨h.lay, Nat.le_trans h.mx h1, Nat.le_trans h.dep h2⟩
theorem Bd.tuple {m dp : Nat} {ds : List PyData} (h : ∀ d ∈ ds, Bd m dp d) : Bd m (dp + 1) (.tuple ds) := by
  refine ⟨?_, mxs_le.mpr fun d hd => (h d hd).mx, ?_⟩
  · have := canLay_all.mpr fun d hd => (h d hd).lay
    simpa [PyData.canLay0] using this
  · rw [depth_tuple]
    exact Nat.succ_le_succ (depthAll_le fun d hd => (h d hd).dep)
theorem Bd.list {m dp : Nat} {ds : List PyData} (h : ∀ d ∈ ds, Bd m dp d) : Bd m (dp + 1) (.list ds) := by
  refine ⟨?_, mxs_le.mpr fun d hd => (h d hd).mx, ?_⟩
  · have := canLay_all.mpr fun d hd => (h d hd).lay
    simpa [PyData.canLay0] using this
  · rw [depth_list]
    exact Nat.succ_le_succ (depthAll_le fun d hd => (h d hd).dep)
theorem Bd.mem {m dp : Nat} {ds : List PyData} (h : Bd m (dp + 1) (.tuple ds)) : ∀ d ∈ ds, Bd m dp d := fun d hd => by
  refine ⟨canLay_all.mp (by simpa [PyData.canLay0] using h.lay) d hd, mxs_le.mp h.mx d hd, ?_⟩
  have h1 := h.dep
  rw [depth_tuple] at h1
  have := depthAll_mem hd
  omega
theorem Bd.non {m dp : Nat} : Bd m dp .none := ⟨rfl, Nat.zero_le _, Nat.zero_le _⟩
theorem Bd.bl {m dp : Nat} (b : Bool) : Bd m dp (.bool b) := ⟨rfl, Nat.zero_le _, Nat.zero_le _⟩
theorem Bd.int {m dp : Nat} {i : Int} (h : i.natAbs.log2 ≤ m) : Bd m dp (.int i) := ⟨rfl, h, Nat.zero_le _⟩
theorem Bd.str {m dp : Nat} {y : Str} (h : PyData.strOk y = true) : Bd m dp (.str y) := ⟨h, Nat.zero_le _, Nat.zero_le _⟩
/-! ### slices of data -/
theorem DpAll.drop {K : PySem.W.Frag} {H : Hp} : ∀ (n : Nat) {vs : List V} {ds : List PyData}, DpAll K H vs ds → DpAll K H (vs.drop n) (ds.drop n)
  | 0, _, _, h => h
  | _ + 1, _, _, .nil => .nil
  | n + 1, _, _, .cons _ h2 => DpAll.drop n h2
/-- what is cut out of them -/
theorem DpAll.cut {K : PySem.W.Frag} {H : Hp} {vs : List V} {ds : List PyData} (h : DpAll K H vs ds) (lo hi : Option Int) : ∃ es, DpAll K H (cutV vs lo hi) es ∧ (∀ e ∈ es, e ∈ ds) ∧ wts es ≤ wts ds := by
  unfold cutV
  refine ⟨_, DpAll.take _ (DpAll.drop _ h), fun e he => List.mem_of_mem_drop (List.mem_of_mem_take he), ?_⟩
  exact Nat.le_trans (wts_take _ _) (wts_drop _ _)
/-- a slice of a tuple -/
theorem rd_sl {K : PySem.W.Frag} {H : Hp} {b : Addr} {xs : List V} {lo hi : Option Int} {Q : VK} (hb : SqT K H b xs) (q : ∀ c H', Same H H' → SqT K H' c (cutV xs lo hi) → Q (.ref c) H') :
    (HT.sIx xs.length 0 lo = 0 ∧ HT.sIx xs.length xs.length hi = xs.length → Q (.ref b) H) ∧ (¬ (HT.sIx xs.length 0 lo = 0 ∧ HT.sIx xs.length xs.length hi = xs.length) → ∀ p, H p = none → Q (.ref p) (upd H p (.tup (cutV xs lo hi)))) := by
  refine ⟨fun hw => ?_, fun _ p np => q p _ (same_new (Same.refl H) np) (SqT.of upd_same)⟩
  have e : cutV xs lo hi = xs := by
    unfold cutV
    rw [hw.1, hw.2]
    simp
  have := q b H (Same.refl H)
  rw [e] at this
  exact this hb
/-! ### sums with a truth -/
def asI : V → Option Int
  | .int i => some i
  | .bl b => some (b2i b)
  | _ => none
section
variable {X : Cx}
theorem op_addW : OpR X (binaryOp .Add) (fun x y H Q => ∃ i j, asI x = some i ∧ y = .int j ∧ Q (.int (i + j)) H) := by
  intro pins s σ H x y v u Q I rx ry h
  obtain ⟨i, j, hx, rfl, q⟩ := h
  obtain ⟨t, rfl⟩ := ry
  cases x with
  | int n =>
    cases hx
    exact op_add pins s σ H (.int i) (.int j) v _ Q I rx ⟨t, rfl⟩ ⟨_, _, rfl, rfl, q⟩
  | bl b =>
    cases hx
    cases rx
    exact PySem.IntBool.add_bool_int ⟨.int _, H, I.tok _, ⟨_, rfl⟩, q⟩
  | _ => cases hx
theorem op_subW : OpR X (binaryOp .Sub) (fun x y H Q => ∃ i j, asI x = some i ∧ y = .int j ∧ Q (.int (i - j)) H) := by
  intro pins s σ H x y v u Q I rx ry h
  obtain ⟨i, j, hx, rfl, q⟩ := h
  obtain ⟨t, rfl⟩ := ry
  cases x with
  | int n =>
    cases hx
    exact op_sub pins s σ H (.int i) (.int j) v _ Q I rx ⟨t, rfl⟩ ⟨_, _, rfl, rfl, q⟩
  | bl b =>
    cases hx
    cases rx
    exact PySem.IntBool.sub_bool_int ⟨.int _, H, I.tok _, ⟨_, rfl⟩, q⟩
  | _ => cases hx
/-- str(n), n a number or a truth -/
def txI : V → Str
  | .int i => toString i
  | .bl b => if b then "True" else "False"
  | _ => ""
theorem call_strW : CallR X (.type "str") (fun xs H Q => ∃ x i, xs = [x] ∧ asI x = some i ∧ i.natAbs.log2 < 1920 ∧ Q (.str (txI x)) H) := by
  intro pins s σ H xs us Q I r h
  obtain ⟨x, i, rfl, hx, hl, q⟩ := h
  obtain ⟨u, rfl, ru⟩ := vals1 r
  cases x with
  | int n =>
    cases hx
    obtain ⟨t, rfl⟩ := ru
    exact PySem.P.str_of_int hl ⟨.str _, H, I.tok _, ⟨_, rfl⟩, q⟩
  | bl b =>
    cases hx
    cases ru
    exact PySem.P.str_of_bool ⟨.str _, H, I.tok _, ⟨_, rfl⟩, q⟩
  | _ => cases hx
end
end PK
namespace PK
open PySem PySem.Spec PyProof.Rows L2
/-- a thing bent: some thing -/
def spBent (K : PySem.W.Frag) (n : Nat) : Sp := fun vs H Q _ => ∃ (a c : Addr) (S : List Addr) (v : V) (d : PyData) (m : Nat), vs = [.ref a, v] ∧ IsFeed H a c ∧ Ls S H ∧ Dp K (ms S H) v d ∧ Bd m d.depth d ∧ d.depth < n ∧ 200 ≤ m ∧ m ≤ 1900 ∧ wt d ≤ 100000 ∧
  ∀ (v' : V) (H' : Hp) (d' : PyData), Ext a H H' → IsFeed H' a c → Dp K (ms S H') v' d' → Bd (m + 1) (d.depth + 1) d' → wt d' ≤ 2 * wt d + 10 * m + 300 → Q v' H'
end PK
namespace PK
open PySem PySem.Spec PyProof.Rows L2
theorem cut_to {xs : List V} {k : Nat} (h : k ≤ xs.length) : cutV xs none (some (k : Int)) = xs.take k := by
  unfold cutV
  rw [HT.sIx_none, HT.sIx_nat, Nat.min_eq_left h]
  simp
theorem cut_from {xs : List V} {k : Nat} (h : k ≤ xs.length) : cutV xs (some (k : Int)) none = xs.drop k := by
  unfold cutV
  rw [HT.sIx_none, HT.sIx_nat, Nat.min_eq_left h, List.take_of_length_le (by rw [List.length_drop]; exact Nat.le_refl _)]
theorem log2_succ (n : Nat) : (n + 1).log2 ≤ n.log2 + 1 := by
  have h : n < 2 ^ (n.log2 + 1) := Nat.lt_log2_self
  by_cases z : n + 1 = 2 ^ (n.log2 + 1)
  · rw [z, Nat.log2_two_pow]
    exact Nat.le_refl _
  · have : n + 1 < 2 ^ (n.log2 + 1) := by omega
    have := (Nat.log2_lt (by omega)).mpr this
    omega
theorem log2_mono {a b : Nat} (h : a ≤ b) : a.log2 ≤ b.log2 := by
  by_cases z : a = 0
  · subst z
    simp
  · have h1 : 2 ^ a.log2 ≤ a := Nat.log2_self_le z
    exact (Nat.le_log2 (by omega)).mpr (Nat.le_trans h1 h)
theorem log2_near {i j : Int} (h : i.natAbs ≤ j.natAbs + 1) : i.natAbs.log2 ≤ j.natAbs.log2 + 1 := Nat.le_trans (log2_mono h) (log2_succ _)
theorem strOk_of (s : String) : PyData.strOk (Str.ofString s) = true := by
  unfold PyData.strOk
  rw [Array.all_eq_true_iff_forall_mem]
  intro c hc
  rw [Str.ofString_eq_toList] at hc
  have hc : c ∈ (s.toList.map Char.toNat) := by simpa using hc
  obtain ⟨x, _, rfl⟩ := List.mem_map.mp hc
  have := x.valid
  refine decide_eq_true ?_
  rcases this with h | ⟨_, h⟩
  · have : x.val.toNat < 55296 := h
    show x.val.toNat < 1114112
    omega
  · have : x.val.toNat < 1114112 := h
    exact this
theorem txI_ok {v : V} {i : Int} (h : asI v = some i) : PyData.strOk (txI v) = true ∧ (txI v).length ≤ max 5 (i.natAbs.log2 + 2) := by
  cases v with
  | int n =>
    cases h
    refine ⟨strOk_of _, ?_⟩
    show (Str.ofString (toString i)).length ≤ _
    rw [PySem.ofString_length]
    have := int_text_length_le (a := i) (k := i.natAbs.log2 + 1) (by omega) (by omega)
    omega
  | bl b =>
    cases b <;> exact ⟨by decide +kernel, Nat.le_trans (show _ ≤ 5 by decide +kernel) (Nat.le_max_left _ _)⟩
  | _ => cases h
theorem eqv_unit {ds : List PyData} : PyData.eqv (.tuple ds) (.tuple []) = ds.isEmpty := by
  cases ds with
  | nil => simp [PyData.eqv, PyData.eqvAll]
  | cons d ds => simp [PyData.eqv, PyData.eqvAll]
theorem int_is {K : PySem.W.Frag} {H : Hp} {v : V} {d : PyData} (h : Dp K H v d) (hi : isD "int" d = true) : ∃ i, asI v = some i ∧ (d = .int i ∨ ∃ b, d = .bool b ∧ i.natAbs ≤ 1) := by
  cases h with
  | int i => exact ⟨i, rfl, Or.inl rfl⟩
  | bl b => exact ⟨b2i b, rfl, Or.inr ⟨b, rfl, by cases b <;> decide⟩⟩
  | _ => simp [isD, tyD] at hi
end PK
namespace PK
open PySem PySem.Spec PyProof.Rows L2
/-! ### slices and sums of tuples, wherever the answer lies -/
def rSlB (K : PySem.W.Frag) : V → Option Int → Option Int → Hp → VK → Prop := fun x lo hi H Q => ∃ a xs, x = .ref a ∧ SqT K H a xs ∧ ∀ c H', Same H H' → SqT K H' c (cutV xs lo hi) → Q (.ref c) H'
def rCatB (K : PySem.W.Frag) : R2 := fun x y H Q => ∃ a b xs ys, x = .ref a ∧ y = .ref b ∧ SqT K H a xs ∧ SqT K H b ys ∧ xs.length + ys.length ≤ sizeLine ∧ ∀ c H', Same H H' → SqT K H' c (xs ++ ys) → Q (.ref c) H'
theorem ks_tupB {X : Cx} (K : PySem.W.Frag) (hK : X.K = K := by rfl) : SlR X (rSlB K) := by
  intro pins s σ H x v vl vu lo hi sl Q I rx hs pl pu h
  obtain ⟨a, xs, e, hx, q⟩ := h
  exact ks_tup K hK pins s σ H x v vl vu lo hi sl Q I rx hs pl pu ⟨a, xs, e, hx, rd_sl hx q⟩
theorem ko_catB {X : Cx} (K : PySem.W.Frag) (hK : X.K = K := by rfl) : OpR X (binaryOp .Add) (rCatB K) := by
  intro pins s σ H x y v u Q I rx ry h
  obtain ⟨a, b, xs, ys, e1, e2, ha, hb, hz, q⟩ := h
  refine ko_catA K hK pins s σ H x y v u Q I rx ry ⟨a, b, xs, ys, e1, e2, ha, hb, hz, fun z => ?_, fun _ z => ?_, fun _ _ c nc => q c _ (same_new (Same.refl H) nc) (SqT.of upd_same)⟩
  · subst z
    exact q b H (Same.refl H) hb
  · subst z
    rw [List.append_nil] at q
    exact q a H (Same.refl H) ha
end PK
namespace PK
open PySem PySem.Spec PyProof.Rows L2
theorem wt_two {d : PyData} (h : Ok d) : 2 ≤ wt d := by
  cases d with
  | none => show 2 ≤ 4; decide
  | bool _ => show 2 ≤ 5; decide
  | int i => show 2 ≤ i.natAbs.log2 + 2; omega
  | str y => show 2 ≤ 10 * y.length + 2; omega
  | tuple ds => show 2 ≤ wts ds + 3; omega
  | list ds => show 2 ≤ wts ds + 3; omega
  | dict _ =>
    have := h.lay
    simp [PyData.canLay0] at this
end PK
/-! Texts of drawn signs. -/
namespace PK
open PySem PySem.Spec PyProof.Rows L2
abbrev sgn : Str := " !\"#$&'()*+,-./0123456789:;<=>?@ABCDEFGHIJKLMNOPQRSTUVWXYZ[\\]^_`abcdefghijklmnopqrstuvwxyz{|}~"
/-- signs of seven bits -/
def Low (y : Str) : Prop := ∀ c ∈ y.cps.toList, c < 128
theorem low_ok {y : Str} (h : Low y) : PyData.strOk y = true := by
  unfold PyData.strOk
  rw [Array.all_eq_true_iff_forall_mem]
  intro c hc
  have := h c (by simpa using hc)
  exact decide_eq_true (by omega)
theorem sgn_low : Low sgn := by
  have : (sgn.cps.toList.all fun c => decide (c < 128)) = true := by decide +kernel
  exact fun c hc => of_decide_eq_true (List.all_eq_true.mp this c hc)
theorem sgn_len : sgn.length = 94 := by decide +kernel
theorem abc_low : Low abc := by
  have : (abc.cps.toList.all fun c => decide (c < 128)) = true := by decide +kernel
  exact fun c hc => of_decide_eq_true (List.all_eq_true.mp this c hc)
theorem abc_len26 : abc.length = 26 := by decide +kernel
theorem cps_len (y : Str) : y.cps.toList.length = y.length := by simp [Str.length]
theorem low_at {y : Str} {i : Int} (h : Low y) (h0 : 0 ≤ i) (h1 : i < (y.length : Nat)) : ∃ c, atI y.cps.toList i = some c ∧ c < 128 := by
  obtain ⟨k, rfl⟩ := Int.eq_ofNat_of_zero_le h0
  have hk : k < y.cps.toList.length := by rw [cps_len]; omega
  exact ⟨_, atI_nat (List.getElem?_eq_getElem hk), h _ (List.getElem_mem hk)⟩
theorem low_one {c : Nat} (h : c < 128) : Low ⟨#[c]⟩ := fun d hd => by
  have e : d = c := by simpa using hd
  rw [e]; exact h
theorem low_app {x y : Str} (hx : Low x) (hy : Low y) : Low (x ++ y) := fun d hd => by
  rw [mem_cps_append] at hd
  rcases hd with z | z
  · exact hx d z
  · exact hy d z
theorem low_cut {y : Str} (h : Low y) (lo hi : Option Int) : Low (cutS y lo hi) ∧ (cutS y lo hi).length ≤ y.length := by
  unfold cutS
  constructor
  · intro c hc
    have hc : c ∈ (y.cps.toList.drop (HT.sIx y.length 0 lo)).take (HT.sIx y.length y.length hi - HT.sIx y.length 0 lo) := by simpa using hc
    exact h c (List.mem_of_mem_drop (List.mem_of_mem_take hc))
  · show (List.toArray _).size ≤ _
    rw [List.size_toArray, List.length_take, List.length_drop, cps_len]
    omega
theorem low_join {l : List Nat} (h : ∀ d ∈ l, d < 128) : Low (Txt.join ⟨#[]⟩ (l.map fun k => (⟨#[k]⟩ : Str))) ∧ (Txt.join ⟨#[]⟩ (l.map fun k => (⟨#[k]⟩ : Str))).length = l.length := by
  rw [TL.join_eq, join_ones]
  exact ⟨fun c hc => h c (by simpa using hc), by simp [Str.length]⟩
theorem ones_sum (l : List Nat) : ((l.map fun x => (⟨#[x]⟩ : Str)).map (·.length)).sum = l.length := by
  rw [List.map_map]
  induction l with
  | nil => rfl
  | cons y r ih =>
    rw [List.map_cons, List.sum_cons, ih]
    show 1 + r.length = r.length + 1
    omega
/-- a drawn text -/
def spText : Sp := fun vs H Q _ => ∃ (a c : Addr), vs = [.ref a] ∧ IsFeed H a c ∧ ∀ (y : Str) (H' : Hp), Ext a H H' → IsFeed H' a c → Low y → y.length ≤ 24 → Q (.str y) H'
end PK
namespace PK
open PySem PySem.Spec PyProof.Rows L2
/-- what is known of a value, said once -/
def tCut (te : TE) : TE := fun σ H Q => ∃ R : VK, te σ H R ∧ ∀ v H', R v H' → Q v H'
theorem pe_cut {X : Cx} {e : Expr} {te : TE} (h : PE X e te) : PE X e (tCut te) := by
  refine ⟨fun pins s σ H Q I g => ?_⟩
  obtain ⟨R, g1, g2⟩ := g
  refine wpAny_mono (h.run pins s σ H R I g1) (fun u s' z => ?_) fun _ _ z => z
  obtain ⟨v, H', I', r, z⟩ := z
  exact ⟨v, H', I', r, g2 v H' z⟩
/-- a drawn thing -/
def spThing (K : PySem.W.Frag) : Sp := fun vs H Q _ => ∃ (a c : Addr) (S : List Addr), vs = [.ref a] ∧ IsFeed H a c ∧ Ls S H ∧ ∀ (v : V) (H' : Hp) (d : PyData), Ext a H H' → IsFeed H' a c → Dp K (ms S H') v d → Bd 700 3 d → wt d ≤ 1000 → Q v H'
theorem num_log {n : Int} {k : Nat} (h0 : 0 ≤ n) (h : n < 100 * 1000000 ^ k) (hk : k ≤ 33) : n.natAbs.log2 ≤ 700 := by
  have h1 : n.natAbs < 2 ^ 700 := by
    have e := Int.ofNat_le.mpr (Nat.pow_le_pow_right (n := 1000000) (by decide) hk)
    rw [Int.natCast_pow, Int.natCast_pow] at e
    have e2 : (100 * ((1000000 : Nat) : Int) ^ 33) ≤ ((2 ^ 700 : Nat) : Int) := by decide +kernel
    have h : n < 100 * ((1000000 : Nat) : Int) ^ k := h
    generalize ((1000000 : Nat) : Int) ^ k = w at e h
    generalize ((1000000 : Nat) : Int) ^ 33 = u at e e2
    generalize (2 ^ 700 : Nat) = v at e2
    omega
  by_cases z : n.natAbs = 0
  · rw [z]
    decide
  · exact Nat.le_of_lt ((Nat.log2_lt z).mpr h1)
end PK
/-! Things that are kept in lists that grow: all but these lists. -/
namespace PK
open PySem PySem.Spec PyProof.Rows L2
/-- things near rows: a new list -/
def spNear (K : PySem.W.Frag) : Sp := fun vs H Q _ => ∃ (a c : Addr) (S : List Addr) (v : V) (L : List PRow), vs = [.ref a, v] ∧ IsFeed H a c ∧ Ls S H ∧ Dp K H v (rowsD L) ∧ RowsOk 6 1000000000 L ∧
  ∀ (p : Addr) (us : List V) (ds : List PyData) (H' : Hp), H p = none → Ext a H H' → IsFeed H' a c → H' p = some (.lst us) → DpAll K (ms (p :: S) H') us ds → (∀ d ∈ ds, Bd 703 5 d) → wts ds ≤ 300000 → ds.length ≤ 100 → Q (.ref p) H'
theorem word_wt {y : Str} (h : Word y) : wt (.str y) ≤ 82 := by
  have := h.eight
  show 10 * y.length + 2 ≤ 82
  omega
theorem int_wt {i : Int} (h0 : 1 ≤ i) (h1 : i ≤ 1000000000) : i.natAbs.log2 ≤ 29 := by
  have : i.natAbs ≤ 2 ^ 30 - 1 := by omega
  have h := log2_mono this
  have e : (2 ^ 30 - 1).log2 = 29 := by decide +kernel
  omega
theorem prow_bd {r : PRow} (h : PRowOk 1000000000 r) : Bd 29 1 (prowD r) ∧ wt (prowD r) ≤ 204 := by
  have l := int_wt h.lo h.hi
  constructor
  · refine Bd.tuple fun z hz => ?_
    simp only [List.mem_cons, List.not_mem_nil, or_false] at hz
    rcases hz with rfl | rfl | rfl
    · exact Bd.str (word_ok h.f)
    · exact Bd.str (word_ok h.s)
    · exact Bd.int l
  · have := word_wt h.f
    have := word_wt h.s
    show wt (.str r.1) + 2 + (wt (.str r.2.1) + 2 + (r.2.2.natAbs.log2 + 2 + 2 + 0)) + 3 ≤ 204
    omega
theorem rows_bd {n : Nat} {L : List PRow} (h : RowsOk n 1000000000 L) : Bd 29 2 (rowsD L) ∧ wts (L.map prowD) ≤ L.length * 206 := by
  constructor
  · refine Bd.tuple fun z hz => ?_
    obtain ⟨r, hr, rfl⟩ := List.mem_map.mp hz
    exact (prow_bd (h.each r hr)).1
  · have := wts_le (n := 206) (ds := L.map prowD) fun d hd => by
      obtain ⟨r, hr, rfl⟩ := List.mem_map.mp hd
      have := (prow_bd (h.each r hr)).2
      omega
    rw [List.length_map] at this
    exact this
end PK
/-! Shades, wants and ways: what they are. -/
namespace PK
open PySem PySem.Spec PyProof.Rows L2
def txOf : PyData → Str
  | .str y => y
  | _ => ""
/-- neighbours, each less than the next -/
def pairsB (ys : List Str) : List Bool := (ys.zip (ys.drop 1)).map fun p => decide (p.1.cps.toList < p.2.cps.toList)
def shadesD : PyData → Bool
  | .tuple ds => ds.all wordD && (pairsB (ds.map txOf)).all id
  | _ => false
def wantB : PyData → Bool
  | .tuple [a, b, c] => wordD a && shadesD b && manyD c
  | _ => false
def wayB : PyData → Bool
  | .tuple ds => ds.all wantB
  | _ => false
theorem word_str {d : PyData} (h : wordD d = true) : d = .str (txOf d) := by
  cases d <;> first | rfl | (simp [wordD] at h)
theorem words_str : ∀ {ds : List PyData}, ds.all wordD = true → ds = (ds.map txOf).map PyData.str
  | [], _ => rfl
  | d :: ds, h => by
    rw [List.all_cons, Bool.and_eq_true] at h
    rw [List.map_cons, List.map_cons, ← word_str h.1, ← words_str h.2]
theorem dp_strs {K : PySem.W.Frag} {H : Hp} : ∀ {xs : List V} {ys : List Str}, DpAll K H xs (ys.map PyData.str) → xs = ys.map V.str
  | _, [], h => by cases h; rfl
  | _, y :: ys, h => by
    cases h with
    | cons h1 h2 =>
      cases h1
      rw [dp_strs h2]
      rfl
theorem cut_one (xs : List V) : cutV xs (some 1) none = xs.drop 1 := by
  cases xs with
  | nil => rfl
  | cons x xs => exact cut_from (k := 1) (by simp)
theorem txOf_map (ys : List Str) : (ys.map PyData.str).map txOf = ys := by
  rw [List.map_map]
  exact List.map_id' ys
theorem pairs_at {ys : List Str} {i : Nat} {x y : Str} (hx : ys[i]? = some x) (hy : (ys.drop 1)[i]? = some y) : (pairsB ys)[i]? = some (decide (x.cps.toList < y.cps.toList)) := by
  unfold pairsB
  rw [List.getElem?_map, (List.getElem?_zip_eq_some (z := (x, y))).mpr ⟨hx, hy⟩]
  rfl
theorem nearB_len (ys : List Str) : (pairsB ys).length = ys.length - 1 := by
  unfold pairsB
  simp
end PK
/-! set(t) of texts. -/
namespace PK
open PySem PySem.Spec PyProof.Rows L2
def insAll (ks : List Str) : List Str := ks.foldl (fun l k => ins k l) []
theorem insAll_snoc {ks : List Str} {i : Nat} {k : Str} (h : ks[i]? = some k) : insAll (ks.take (i + 1)) = ins k (insAll (ks.take i)) := by
  unfold insAll
  rw [List.take_add_one, h, List.foldl_append]
  rfl
theorem foldl_insS : ∀ (ks l : List Str), l.Nodup → (ks.foldl (fun l k => ins k l) l).Nodup ∧ (ks.foldl (fun l k => ins k l) l).length ≤ l.length + ks.length ∧ ∀ y, y ∈ ks.foldl (fun l k => ins k l) l ↔ y ∈ l ∨ y ∈ ks
  | [], l, h => ⟨h, Nat.le_refl _, fun y => ⟨Or.inl, fun q => q.resolve_right fun z => (nomatch z)⟩⟩
  | k :: ks, l, h => by
    obtain ⟨h1, h2, h3⟩ := foldl_insS ks (ins k l) (ins_nodup h)
    have hl := ins_len (k := k) (l := l)
    refine ⟨h1, ?_, fun y => ?_⟩
    · show (ks.foldl (fun l k => ins k l) (ins k l)).length ≤ _
      rw [List.length_cons]
      omega
    · show y ∈ ks.foldl (fun l k => ins k l) (ins k l) ↔ _
      rw [h3 y, mem_ins, List.mem_cons, or_assoc, or_left_comm]
theorem insAll_nodup (ks : List Str) : (insAll ks).Nodup := (foldl_insS ks [] List.nodup_nil).1
theorem insAll_len (ks : List Str) : (insAll ks).length ≤ ks.length := by
  have := (foldl_insS ks [] List.nodup_nil).2.1
  rw [List.length_nil] at this
  unfold insAll
  omega
theorem mem_insAll {ks : List Str} {y : Str} : y ∈ insAll ks ↔ y ∈ ks := ((foldl_insS ks [] List.nodup_nil).2.2 y).trans ⟨fun q => q.resolve_left fun z => (nomatch z), Or.inr⟩
section
variable {P : Program} {w : World} {A : Around} {E : Value → Shared → Prop} {s : Shared}
theorem setTx_put {a : Addr} {l : List Str} {k : Str} {u : Tok} {Q : Bool → Shared → Prop} (R : SetTx P w s.heap a l) (hb : l.length + 1 < scanBound)
    (h : ∀ r h', Heap.SameBut a s.heap h' → SetTx P w h' a (ins k l) → Q r { s with heap := h', toks := s.toks + 1 }) :
    wpAny (model P w) A (setAdd a (.str k u)) Q E s := by
  obtain ⟨D, hD, F', r, led⟩ := R
  unfold setAdd
  refine wpAny_holding (wpAny_bind ((strKind P w).pyHash (Froz.is_str k u) ?_))
  by_cases hk : k ∈ l
  · refine add_old (s := { s with toks := s.toks + 1 }) hD F' hk (by omega) (h _ s.heap (Heap.SameBut.refl a _) ?_)
    unfold ins
    rw [if_pos hk]
    exact ⟨D, hD, F', r, led⟩
  · refine Froz.add_x (s := { s with toks := s.toks + 1 }) hD F' hk hb (h _ _ (Heap.SameBut.update ..) ?_)
    unfold ins
    rw [if_neg hk]
    exact ⟨_, Heap.get?_update_self _ hD rfl, Froz.add_ok u F', (addTx_both r).1, led.imp id fun z => by rw [(addTx_both r).2]; exact z⟩
abbrev newSet (w : World) : Obj := { cls := .type "set", dict := none, data := .set #[] 0 (.fresh 0 0 (!w.params.followText "set-order")) }
theorem SetTx.at {h h' : Heap} {a : Addr} {l : List Str} (R : SetTx P w h a l) (k : ∀ o, h.get? a = some o → h'.get? a = some o) : SetTx P w h' a l := by
  obtain ⟨D, hD, r⟩ := R
  exact ⟨D, k _ hD, r⟩
theorem upd_texts {I : Addr} {fp wr : List Addr} {G : Array GenState → Array GenState → Prop} {n : Nat} {Pv : Nat → Value → Prop} {St : Nat → Shared → Prop} {R : Result → Shared → Prop}
    (W : WalksS P w A.in1 I fp wr G n Pv St) (S : Addr) (hS : S ∉ fp) (ks : List Str) (hn : n = ks.length) (hb : ks.length + 1 < scanBound) (hv : ∀ i v, Pv i v → ∃ k t, ks[i]? = some k ∧ v = .str k t) :
    ∀ (m i : Nat) (s : Shared), n - i = m → i ≤ n → St i s → SetTx P w s.heap S (insAll (ks.take i)) → (∀ s', Moved (S :: wr) G s s' → SetTx P w s'.heap S (insAll ks) → R (.ok (.ret .none)) s') →
      codeAny (model P w) A (.builtin "set.update.loop" ⟨[.ref S, .ref I], []⟩) R s := by
  have nw : S ∉ wr := fun z => hS (W.sub _ z)
  have sb : ∀ b ∈ wr, b ∈ S :: wr := fun b z => List.mem_cons_of_mem _ z
  intro m
  induction m with
  | zero =>
    intro i s hm hi st hT hR
    obtain rfl : i = n := by omega
    refine codeAny_builtin F.entry_set_update_loop ?_
    rw [Around.under_plainId F.plain_set_update_loop _]
    refine wpAny_bind (m := pyNext (.ref I)) (W.done s _ _ st fun s' mv => wpAny_pure (hR s' (mv.mono sb) ?_))
    rw [List.take_of_length_le (by omega)] at hT
    exact hT.at fun o e => mv.heap S o nw e
  | succ m ih =>
    intro i s hm hi st hT hR
    have lt : i < n := by omega
    refine codeAny_builtin F.entry_set_update_loop ?_
    rw [Around.under_plainId F.plain_set_update_loop _]
    refine wpAny_bind (m := pyNext (.ref I)) (W.item i s _ _ lt st fun v s1 pv st1 mv => ?_)
    obtain ⟨k, t, hk, rfl⟩ := hv i v pv
    have hl := insAll_len (ks.take i)
    rw [List.length_take] at hl
    refine wpAny_bind (wpAny_holding (setTx_put (hT.at fun o e => mv.heap S o nw e) (by omega) fun r h' bt hT1 => ?_))
    rw [← insAll_snoc hk] at hT1
    refine wpAny_pure ⟨plainId_quiet F.plain_set_update_loop _, ih (i + 1) _ (by omega) lt (W.frame _ s1 _ _ st1 (Nat.le_succ _) fun b z o e => ?_) hT1 fun s2 mv2 hT2 => hR s2 (Moved.trans W.gtrans ((mv.mono sb).then_heap (Nat.le_succ _) fun b o z e => ?_) mv2) hT2⟩
    · exact (bt.2 b fun q => hS (by rw [← q]; exact z)).trans e
    · exact (bt.2 b fun q => z (by rw [q]; exact List.mem_cons_self)).trans e
/-- what stands at l: a tuple or a list of these values -/
def SeqOf (T : String) (h : Heap) (l : Addr) (its : Array Value) : Prop := ∃ dd n sl, h.get? l = some { cls := .type T, dict := dd, data := .seq its n, slots := sl }
set_option maxHeartbeats 8000000 in
theorem call_set_texts {T : String} {l : Addr} {items : Array Value} (ks : List Str) {Q : Value → Shared → Prop} (hh : A.handled = none) (hT : T = "tuple" ∨ T = "list") (hl : SeqOf T s.heap l items)
    (hsz : items.size = ks.length) (hval : ∀ (i : Nat) (v : Value), items[i]? = some v → ∃ k t, ks[i]? = some k ∧ v = .str k t) (hb : ks.length + 1 < scanBound)
    (h : ∀ (h' : Heap) (tk : Nat), SetTx P w h' s.heap.objs.size (insAll ks) → (∀ b o, s.heap.get? b = some o → h'.get? b = some o) → Q (.ref s.heap.objs.size) { s with heap := h', toks := tk }) :
    wpAny (model P w) A (call (.type "set") [.ref l]) Q E s := by
  obtain ⟨cc, tt, mro⟩ := F.called_set.mro
  have made := F.called_set.made
  have sub := F.called_set.sub
  have ntp := F.called_set.notType
  have can := F.called_set.canCreate
  have tcl := F.typeCall_set_1 (.ref l)
  refine wpAny_call (codeAny_of_tree (wpAny_pure ⟨Code.quiet_builtin _ (by decide +kernel), codeAny_builtin F.entry_type_call ?_⟩))
  rw [Around.under_plain (weight_type_call_type "set" [.ref l] []) rfl]
  repeat (any_goals (first | assumption | wp_step))
  refine codeAny_mono (code_set_led1 (.ref l) (E := E) (Q₁ := fun o s1 => o = .ref s.heap.objs.size ∧ s1 = { s with heap := s.heap.push (newSet w) }) ⟨rfl, rfl⟩) fun r s1 hr => ?_
  match r, hr with
  | .error e, hr => exact hr
  | .ok .next, hr => exact hr.elim
  | .ok .brk, hr => exact hr.elim
  | .ok .cont, hr => exact hr.elim
  | .ok (.ret o), hr =>
    obtain ⟨rfl, rfl⟩ := hr
    have ty : Shared.TypeIs { s with heap := s.heap.push (newSet w) } (.ref s.heap.objs.size) "set" := ⟨_, Heap.get?_push_size _ rfl, rfl⟩
    have look := F.called_set.init.lookup
    have bnd := F.called_set.init.bind (.ref s.heap.objs.size)
    repeat (any_goals (first | assumption | wp_step))
    refine codeAny_mono (codeAny_call_builtin (R := wants (fun r s2 => r = .none ∧ ∃ h' tk, s2 = { s with heap := h', toks := tk } ∧ SetTx P w h' s.heap.objs.size (insAll ks) ∧ ∀ b o, s.heap.get? b = some o → h'.get? b = some o) E)
      F.called_set.init.plain F.entry_set_init (check_set_init_1 ty ?_)) fun r2 s2 hr2 => ?_
    · obtain ⟨dd, n, sl, hol⟩ := hl
      have hol1 : (s.heap.push (newSet w)).get? l = _ := Heap.get?_push_of_some _ hol
      have lt : l < s.heap.objs.size := Heap.lt_size hol
      have sz : (s.heap.push (newSet w)).objs.size = s.heap.objs.size + 1 := Heap.size_push ..
      have hh3 : A.in1.in1.in1.handled = none := by simp [hh]
      have ne1 : l ≠ (s.heap.push (newSet w)).objs.size := by rw [sz]; exact Nat.ne_of_lt (Nat.lt_succ_of_lt lt)
      have nin : s.heap.objs.size ∉ [(s.heap.push (newSet w)).objs.size, l] := by
        rw [sz]
        intro z
        rcases List.mem_cons.mp z with z | z
        · exact absurd z (Nat.ne_of_lt (Nat.lt_succ_self _))
        · exact absurd (List.mem_singleton.mp z) (Nat.ne_of_gt lt)
      have fin : ∀ (it : Obj) (s3 : Shared), Moved (s.heap.objs.size :: [(s.heap.push (newSet w)).objs.size]) (fun a b => b = a) { s with heap := (s.heap.push (newSet w)).push it } s3 → SetTx P w s3.heap s.heap.objs.size (insAll ks) →
          ∃ h' tk, s3 = { s with heap := h', toks := tk } ∧ SetTx P w h' s.heap.objs.size (insAll ks) ∧ ∀ b o, s.heap.get? b = some o → h'.get? b = some o := by
        intro it s3 mv hT3
        obtain ⟨h3, g3, d3, t3, o3⟩ := s3
        obtain rfl : g3 = s.gens := mv.gens
        obtain rfl : d3 = s.drawn := mv.drawn
        obtain rfl : o3 = s.os := mv.os
        refine ⟨h3, t3, rfl, hT3, fun b o e => mv.heap b o (fun z => ?_) (Heap.get?_push_of_some _ (Heap.get?_push_of_some _ e))⟩
        have lb : b < s.heap.objs.size := Heap.lt_size e
        rcases List.mem_cons.mp z with z | z
        · exact absurd z (Nat.ne_of_lt lb)
        · rw [sz] at z
          exact absurd (List.mem_singleton.mp z) (Nat.ne_of_lt (Nat.lt_succ_of_lt lb))
      rcases hT with rfl | rfl
      · have f1 := F.sub_tuple_set
        have f2 := F.sub_tuple_frozenset
        have f3 : (Value.type "tuple" == Value.type "dict") = false := by decide
        unfold Builtin.«set.__init__» noKeywords Builtin.Frozenset.updateFrom
        generalize hPI : pyIter = PI
        wp_walk
        subst hPI
        have it1 : (s.heap.push (newSet w)).IsTuple l items := ⟨_, hol1, rfl, n, rfl⟩
        refine wpAny_pyIter_tuple it1 (wpAny_bind (wpAny_runValue ?_))
        refine upd_texts ((Walks.tuple hh3 _ l ne1 items).toS) s.heap.objs.size nin ks hsz hb hval (items.size - 0) 0 _ (by omega) (Nat.zero_le _) ⟨⟨_, Heap.get?_push_size _ rfl, rfl, rfl⟩, it1.push _⟩ (setTx_new.at fun o e => Heap.get?_push_of_some _ e) fun s3 mv hT3 => ?_
        refine wpAny_pure ?_
        show wpAny _ _ (ret Value.none) _ _ _
        exact wpAny_pure ⟨rfl, fin _ s3 mv hT3⟩
      · have f1 := F.sub_list_set
        have f2 := F.sub_list_frozenset
        have f3 : (Value.type "list" == Value.type "dict") = false := by decide
        unfold Builtin.«set.__init__» noKeywords Builtin.Frozenset.updateFrom
        generalize hPI : pyIter = PI
        wp_walk
        subst hPI
        have it1 : (s.heap.push (newSet w)).IsList l items := ⟨_, hol1, rfl, n, rfl⟩
        refine wpAny_pyIter_list it1 (wpAny_bind (wpAny_runValue ?_))
        refine upd_texts ((Walks.list hh3 _ l ne1 items).toS) s.heap.objs.size nin ks hsz hb hval (items.size - 0) 0 _ (by omega) (Nat.zero_le _) ⟨⟨_, Heap.get?_push_size _ rfl, rfl, rfl⟩, it1.push _⟩ (setTx_new.at fun o e => Heap.get?_push_of_some _ e) fun s3 mv hT3 => ?_
        refine wpAny_pure ?_
        show wpAny _ _ (ret Value.none) _ _ _
        exact wpAny_pure ⟨rfl, fin _ s3 mv hT3⟩
    · match r2, hr2 with
      | .error e, hr2 => exact hr2
      | .ok .next, hr2 => exact hr2.elim
      | .ok .brk, hr2 => exact hr2.elim
      | .ok .cont, hr2 => exact hr2.elim
      | .ok (.ret o), hr2 =>
        obtain ⟨rfl, h', tk, rfl, hT', kp⟩ := hr2
        repeat (any_goals (first | assumption | wp_step))
        exact h _ _ hT' kp
end
section
variable {X : Cx}
def rSetOf (K : PySem.W.Frag) (P : Program) (w : World) : List V → Hp → VK → Prop := fun xs H Q => ∃ (l : Addr) (ks : List Str), xs = [.ref l] ∧ (SqT K H l (ks.map V.str) ∨ SqL K H l (ks.map V.str)) ∧ ks.length ≤ 4090 ∧
  ∀ p, H p = none → Q (.ref p) (upd H p (SetTO P w p (insAll ks)))
theorem call_setOf {k : Nat} (K : PySem.W.Frag) (hr : Room k X.A) (hK : X.K = K := by rfl) : CallR X (.type "set") (rSetOf K X.prog X.w) := by
  subst hK
  intro pins s σ H xs us Q I r h
  obtain ⟨l, ks, rfl, hs, hk, q⟩ := h
  obtain ⟨u, rfl, ru⟩ := vals1 r
  cases ru
  have sb : ks.length + 1 < scanBound := by unfold scanBound; omega
  have go : ∀ {T : String} {its : List Value}, T = "tuple" ∨ T = "list" → SeqOf T s.heap l its.toArray → Vals (ks.map V.str) its → wpAny (model X.prog X.w) X.A (call (.type "set") [.ref l]) (EP X pins σ Q) X.xe s := by
    intro T its hT hl rv
    have len : its.length = ks.length := by rw [← rv.length, List.length_map]
    refine call_set_texts ks hr.hd hT hl (by rw [List.size_toArray]; exact len) (fun i v e => ?_) sb fun h' tk hS kp => ?_
    · rw [List.getElem?_toArray] at e
      have hi : i < ks.length := by rw [← len]; exact (List.getElem?_eq_some_iff.mp e).1
      obtain ⟨u, hu, ru⟩ := rv.get (i := i) (x := .str ks[i]) (by rw [List.getElem?_map, List.getElem?_eq_getElem hi]; rfl)
      obtain ⟨t, rfl⟩ := ru
      rw [e] at hu
      cases hu
      exact ⟨ks[i], t, List.getElem?_eq_getElem hi, rfl⟩
    · refine ⟨.ref _, _, I.laid (t' := tk) (o := SetTO X.prog X.w s.heap.objs.size (insAll ks)) kp (Nat.le_refl _) (setTO_ok hS), rfl, q _ (I.hok.fresh (Nat.le_refl _))⟩
  rcases hs with hs | hs
  · obtain ⟨its, rv, ⟨⟨c, dd, dt, sl⟩, ho, hc, m, hd⟩, _⟩ := I.tuple hs
    simp only at hc hd
    subst hc hd
    exact go (.inl rfl) ⟨_, _, _, ho⟩ rv
  · obtain ⟨its, rv, ⟨⟨c, dd, dt, sl⟩, m, ho, hc, hdd, hd⟩, _⟩ := I.list hs
    simp only at hc hd hdd
    subst hc hd hdd
    exact go (.inr rfl) ⟨_, _, _, ho⟩ rv
end
end PK
/-! Shades in order: told by neighbours, or by sorting the set. -/
namespace PK
open PySem PySem.Spec PyProof.Rows L2
theorem dlt_str (a b : Str) : dlt (.str a) (.str b) = decide (a.cps.toList < b.cps.toList) := by
  show PySem.W.dataLt _ _ = _
  unfold PySem.W.dataLt
  have e : ∀ a : Str, PySem.W.keyToks (.str a) = [Sum.inr a.cps.toList] := fun a => by rw [PySem.W.keyToks]
  rw [e, e]
  simp only [PyProof.Rows.lexLt, itemLt]
  rw [Bool.and_false, Bool.or_false]
theorem pairs_iff : ∀ ys : List Str, (pairsB ys).all id = true ↔ Rises (ys.map PyData.str)
  | [] => ⟨fun _ => List.Pairwise.nil, fun _ => rfl⟩
  | [a] => ⟨fun _ => List.pairwise_singleton _ _, fun _ => rfl⟩
  | a :: b :: l => by
    have e : pairsB (a :: b :: l) = decide (a.cps.toList < b.cps.toList) :: pairsB (b :: l) := rfl
    rw [e, List.all_cons, Bool.and_eq_true, pairs_iff (b :: l)]
    constructor
    · rintro ⟨h1, h2⟩
      have h1 : dlt (.str a) (.str b) = true := by rw [dlt_str]; exact h1
      refine List.pairwise_cons.mpr ⟨fun d hd => ?_, h2⟩
      rcases List.mem_cons.mp hd with rfl | hd
      · exact h1
      · exact dlt_tr h1 ((List.pairwise_cons.mp h2).1 d hd)
    · intro h
      obtain ⟨h1, h2⟩ := List.pairwise_cons.mp h
      refine ⟨?_, h2⟩
      have := h1 (.str b) List.mem_cons_self
      rw [dlt_str] at this
      exact this
theorem inc_set (ys : List Str) : decide (sortS (insAll ys) = ys) = (pairsB ys).all id := by
  cases h : (pairsB ys).all id with
  | true =>
    have r := (pairs_iff ys).mp h
    exact decide_eq_true (sortS_of (insAll_nodup ys) r fun y => mem_insAll.symm).symm
  | false =>
    refine decide_eq_false fun z => ?_
    have r := str_rises (insAll_nodup ys)
    rw [z] at r
    rw [(pairs_iff ys).mpr r] at h
    cases h
theorem strs_eqv : ∀ (a b : List Str), PyData.eqv (.list (a.map PyData.str)) (.list (b.map PyData.str)) = decide (a = b) := by
  intro a b
  by_cases h : a = b
  · rw [h, decide_eq_true rfl]
    show PyData.eqvAll (b.map PyData.str) (b.map PyData.str) = true
    refine eqvAll_refl _ ?_
    exact flatTs_of fun d hd => by
      obtain ⟨y, _, rfl⟩ := List.mem_map.mp hd
      rfl
  · rw [decide_eq_false h]
    cases z : PyData.eqv (.list (a.map PyData.str)) (.list (b.map PyData.str)) with
    | false => rfl
    | true =>
      have z : PyData.eqvAll (a.map PyData.str) (b.map PyData.str) = true := z
      have al : ∀ a b : List Str, PyData.eqvAll (a.map PyData.str) (b.map PyData.str) = true → a = b := by
        intro a
        induction a with
        | nil =>
          intro b hb
          cases b with
          | nil => rfl
          | cons y b => cases hb
        | cons x a ih =>
          intro b hb
          cases b with
          | nil => cases hb
          | cons y b =>
            have hb : (PyData.eqv (.str x) (.str y) && PyData.eqvAll (a.map PyData.str) (b.map PyData.str)) = true := hb
            rw [Bool.and_eq_true, str_eqv] at hb
            rw [of_decide_eq_true hb.1, ih b hb.2]
      exact absurd (al a b z) h
end PK
namespace PK
open PySem PySem.Spec PyProof.Rows L2
/-- a look at a thing that is not great -/
def spLookS (K : PySem.W.Frag) (f : PyData → Bool) : Sp := fun vs H Q _ => ∃ (v : V) (d : PyData), vs = [v] ∧ Dp K H v d ∧ Ok d ∧ wt d ≤ 14000 ∧ ∀ H', Same H H' → Q (.bl (f d)) H'
theorem word_wt14 {d : PyData} (h : wordD d = true) : 14 ≤ wt d + 2 := by
  obtain ⟨y, rfl⟩ : ∃ y, d = .str y := ⟨_, word_str h⟩
  have h : wordB y = true := h
  unfold wordB at h
  rw [Bool.and_eq_true, Bool.and_eq_true] at h
  have := of_decide_eq_true h.1.1
  show 14 ≤ 10 * y.length + 2 + 2
  omega
theorem words_few : ∀ {ds : List PyData}, ds.all wordD = true → 14 * ds.length ≤ wts ds
  | [], _ => Nat.zero_le _
  | d :: ds, h => by
    rw [List.all_cons, Bool.and_eq_true] at h
    have h1 := word_wt14 h.1
    have h2 := words_few h.2
    show 14 * (ds.length + 1) ≤ wt d + 2 + wts ds
    omega
theorem strs_tg {ys : List Str} (h : ∀ y ∈ ys, PyData.strOk y = true) : SeqAt.shaped (.list (ys.map PyData.str)) = true := by
  refine Tg.shaped (dp := 1) (n := wts (ys.map PyData.str) + 3) (Tg.list (dp := 0) (fun d hd => ?_) (Nat.le_refl _)) (by decide)
  obtain ⟨y, hy, rfl⟩ := List.mem_map.mp hd
  exact ⟨Ok.str (h y hy), Nat.zero_le _⟩
end PK
/-! Things by value: a def's body as a computation over plain things, apart from the memory. -/
namespace LP
open PySem PySem.Spec PyProof.Rows L2 PK
/-! ### plain things -/
inductive D where
  | non
  | bl (b : Bool)
  | int (i : Int)
  | str (s : Str)
  | tup (l : List D)
  | lst (l : List D)
  | dct (ks vs : List D)
  | set (l : List Str)
  | txt (s : Str)
  | obj (c : Nat) (l : List D)
  | tok (n : Nat)
deriving Inhabited
/-- what may be raised: which class, its fields -/
structure Ex where
  c : Nat
  l : List D
/-! ### computations: what is wanted of the answer, of what is raised -/
structure W (α : Type) where
  wp : (α → Prop) → (Ex → Prop) → Prop
  mono : ∀ {Q Q' : α → Prop} {E E' : Ex → Prop}, (∀ a, Q a → Q' a) → (∀ e, E e → E' e) → wp Q E → wp Q' E'
namespace W
variable {α β γ : Type}
def ret (a : α) : W α := ⟨fun Q _ => Q a, fun h _ q => h _ q⟩
def bind (m : W α) (f : α → W β) : W β := ⟨fun Q E => m.wp (fun a => (f a).wp Q E) E, fun h1 h2 q => m.mono (fun a => (f a).mono h1 h2) h2 q⟩
def want (p : Prop) : W Unit := ⟨fun Q _ => p ∧ Q (), fun h _ q => ⟨q.1, h _ q.2⟩⟩
def fail : W α := ⟨fun _ _ => False, fun _ _ q => q⟩
def raise (e : Ex) : W α := ⟨fun _ E => E e, fun _ h q => h _ q⟩
def any (P : α → Prop) : W α := ⟨fun Q _ => ∀ a, P a → Q a, fun h _ q a p => h _ (q a p)⟩
/-- nothing is raised -/
def calm (m : W α) : W α := ⟨fun Q _ => m.wp Q fun _ => False, fun h _ q => m.mono h (fun _ z => z) q⟩
/-- what is raised is caught -/
def catch_ (m : W α) (f : Ex → W α) : W α := ⟨fun Q E => m.wp Q fun e => (f e).wp Q E, fun h1 h2 q => m.mono h1 (fun e => (f e).mono h1 h2) q⟩
def ite (b : Bool) (x y : W α) : W α := match b with | true => x | false => y
instance : Monad W where
  pure := ret
  bind := bind
theorem pure_def (a : α) : (pure a : W α) = ret a := rfl
theorem bind_def (m : W α) (f : α → W β) : (m >>= f) = bind m f := rfl
theorem ret_wp {a : α} {Q : α → Prop} {E : Ex → Prop} : (ret a).wp Q E ↔ Q a := Iff.rfl
theorem bind_wp {m : W α} {f : α → W β} {Q : β → Prop} {E : Ex → Prop} : (bind m f).wp Q E ↔ m.wp (fun a => (f a).wp Q E) E := Iff.rfl
theorem want_wp {p : Prop} {Q : Unit → Prop} {E : Ex → Prop} : (want p).wp Q E ↔ p ∧ Q () := Iff.rfl
theorem fail_wp {Q : α → Prop} {E : Ex → Prop} : (fail : W α).wp Q E ↔ False := Iff.rfl
theorem raise_wp {e : Ex} {Q : α → Prop} {E : Ex → Prop} : (raise e : W α).wp Q E ↔ E e := Iff.rfl
theorem any_wp {P : α → Prop} {Q : α → Prop} {E : Ex → Prop} : (any P).wp Q E ↔ ∀ a, P a → Q a := Iff.rfl
theorem calm_wp {m : W α} {Q : α → Prop} {E : Ex → Prop} : (calm m).wp Q E ↔ m.wp Q fun _ => False := Iff.rfl
theorem catch_wp {m : W α} {f : Ex → W α} {Q : α → Prop} {E : Ex → Prop} : (catch_ m f).wp Q E ↔ m.wp Q fun e => (f e).wp Q E := Iff.rfl
theorem ite_true {x y : W α} : ite true x y = x := rfl
theorem ite_false {x y : W α} : ite false x y = y := rfl
@[ext] theorem ext {a b : W α} (h : a.wp = b.wp) : a = b := by
  cases a
  cases b
  cases h
  rfl
theorem bind_ret {m : W α} : bind m ret = m := rfl
theorem ret_bind {a : α} {f : α → W β} : bind (ret a) f = f a := rfl
theorem bind_bind {m : W α} {f : α → W β} {g : β → W γ} : bind (bind m f) g = bind m fun a => bind (f a) g := rfl
end W
/-! ### where one stands -/
/-- what is not a tuple: it may change -/
def Mt : HO → Prop
  | .tup _ => False
  | .frz _ _ => False
  | _ => True
/-- the program, its classes, the kind of feed -/
structure Sig where
  P : Program
  w : World
  K : PySem.W.Frag
  cl : Nat → Option Addr
  fl : Nat → List Str
  fk : Hp → Addr → Addr → Prop
  fks : ∀ H H' a c, fk H a c → H' a = H a → H' c = H c → fk H' a c
  fkm : ∀ H a c, fk H a c → (∃ o, H a = some o ∧ Mt o) ∧ ∃ o, H c = some o ∧ Mt o
/-- .., and the feed: what may change beside -/
structure Ctx where
  Γ : Sig
  fd : Option (Addr × Addr)
namespace Ctx
abbrev P (Ξ : Ctx) : Program := Ξ.Γ.P
abbrev w (Ξ : Ctx) : World := Ξ.Γ.w
abbrev K (Ξ : Ctx) : PySem.W.Frag := Ξ.Γ.K
abbrev cl (Ξ : Ctx) : Nat → Option Addr := Ξ.Γ.cl
abbrev fl (Ξ : Ctx) : Nat → List Str := Ξ.Γ.fl
def ff (Ξ : Ctx) : List Addr := match Ξ.fd with
  | none => []
  | some (a, c) => [a, c]
def FI (Ξ : Ctx) (H : Hp) : Prop := match Ξ.fd with
  | none => True
  | some (a, c) => Ξ.Γ.fk H a c
def tk (Ξ : Ctx) (n : Nat) : Option V := match Ξ.fd with
  | none => none
  | some (a, _) => if n = 0 then some (.ref a) else none
theorem tkr (Ξ : Ctx) (n : Nat) (v : V) (h : Ξ.tk n = some v) : ∃ a, v = .ref a ∧ a ∈ Ξ.ff := by
  unfold tk at h
  split at h
  · cases h
  · rename_i a c e
    split at h
    · cases h
      exact ⟨a, rfl, by unfold ff; rw [e]; exact List.mem_cons_self⟩
    · cases h
theorem fst (Ξ : Ctx) (H H' : Hp) (h : ∀ b ∈ Ξ.ff, H' b = H b) (f : Ξ.FI H) : Ξ.FI H' := by
  unfold FI ff at *
  split at f
  · rename_i e
    trivial
  · rename_i a c e
    rw [e] at h
    exact Ξ.Γ.fks H H' a c f (h a List.mem_cons_self) (h c (List.mem_cons_of_mem _ List.mem_cons_self))
theorem fex (Ξ : Ctx) (H : Hp) (f : Ξ.FI H) : ∀ b ∈ Ξ.ff, ∃ o, H b = some o ∧ Mt o := by
  unfold FI at f
  unfold ff
  split at f
  · exact fun b hb => (nomatch hb)
  · rename_i a c e
    intro b hb
    rcases List.mem_cons.mp hb with rfl | hb
    · exact (Ξ.Γ.fkm H _ _ f).1
    · rw [List.mem_singleton.mp hb]
      exact (Ξ.Γ.fkm H _ _ f).2
end Ctx
mutual
inductive Rp (Ξ : Ctx) (H : Hp) : V → D → Prop
  | non : Rp Ξ H .non .non
  | bl (b : Bool) : Rp Ξ H (.bl b) (.bl b)
  | int (i : Int) : Rp Ξ H (.int i) (.int i)
  | str (y : Str) : PyData.strOk y = true → Rp Ξ H (.str y) (.str y)
  | tup {a : Addr} {xs : List V} {ds : List D} : SqT Ξ.K H a xs → RpAll Ξ H xs ds → Rp Ξ H (.ref a) (.tup ds)
  | lst {a : Addr} {xs : List V} {ds : List D} : H a = some (.lst xs) → RpAll Ξ H xs ds → Rp Ξ H (.ref a) (.lst ds)
  | obj {a C dx : Addr} {c : Nat} {xs : List V} {ds : List D} : H a = some (.ins C dx ((Ξ.fl c).zip xs)) → Ξ.cl c = some C → RpAll Ξ H xs ds → Rp Ξ H (.ref a) (.obj c ds)
  | tok {v : V} {n : Nat} : Ξ.tk n = some v → Rp Ξ H v (.tok n)
  | set {a : Addr} {l : List Str} : H a = some (SetTO Ξ.P Ξ.w a l) → l.Nodup → (∀ y ∈ l, PyData.strOk y = true) → Rp Ξ H (.ref a) (.set l)
  | txt (s : Str) : Rp Ξ H (.str s) (.txt s)
inductive RpAll (Ξ : Ctx) (H : Hp) : List V → List D → Prop
  | nil : RpAll Ξ H [] []
  | cons {v : V} {vs : List V} {d : D} {ds : List D} : Rp Ξ H v d → RpAll Ξ H vs ds → RpAll Ξ H (v :: vs) (d :: ds)
end
theorem sqT_same {K : PySem.W.Frag} {H H' : Hp} {b : Addr} {xs : List V} (x : Same H H') (h : SqT K H b xs) : SqT K H' b xs := (LKeep.of x).sqT h
theorem sqL_same {K : PySem.W.Frag} {H H' : Hp} {b : Addr} {xs : List V} (x : Same H H') (h : SqL K H b xs) : SqL K H' b xs := (LKeep.of x).sqL h
section
variable {Ξ : Ctx} {H H' : Hp}
mutual
theorem Rp.same (x : Same H H') : ∀ {d : D} {v : V}, Rp Ξ H v d → Rp Ξ H' v d
  | .non, _, .non => .non
  | .bl _, _, .bl b => .bl b
  | .int _, _, .int i => .int i
  | .str _, _, .str y h => .str y h
  | .tup _, _, .tup hs ha => .tup (sqT_same x hs) (RpAll.same x ha)
  | .lst _, _, .lst hs ha => .lst (x _ _ hs) (RpAll.same x ha)
  | .obj _ _, _, .obj h1 h2 ha => .obj (x _ _ h1) h2 (RpAll.same x ha)
  | .tok _, _, .tok h => .tok h
  | .set _, _, .set h n o => .set (x _ _ h) n o
  | .txt _, _, .txt s => .txt s
theorem RpAll.same (x : Same H H') : ∀ {ds : List D} {vs : List V}, RpAll Ξ H vs ds → RpAll Ξ H' vs ds
  | [], _, .nil => .nil
  | _ :: _, _, .cons h1 h2 => .cons (Rp.same x h1) (RpAll.same x h2)
end
theorem RpAll.len : ∀ {vs : List V} {ds : List D}, RpAll Ξ H vs ds → vs.length = ds.length
  | _, _, .nil => rfl
  | _, _, .cons _ h => congrArg (· + 1) (RpAll.len h)
theorem RpAll.app : ∀ {vs us : List V} {ds es : List D}, RpAll Ξ H vs ds → RpAll Ξ H us es → RpAll Ξ H (vs ++ us) (ds ++ es)
  | _, _, _, _, .nil, h => h
  | _, _, _, _, .cons h1 h2, h => .cons h1 (RpAll.app h2 h)
theorem RpAll.snoc {v : V} {d : D} {vs : List V} {ds : List D} (h : Rp Ξ H v d) (h2 : RpAll Ξ H vs ds) : RpAll Ξ H (vs ++ [v]) (ds ++ [d]) := h2.app (.cons h .nil)
theorem RpAll.get : ∀ {vs : List V} {ds : List D} {i : Nat} {d : D}, RpAll Ξ H vs ds → ds[i]? = some d → ∃ v, vs[i]? = some v ∧ Rp Ξ H v d
  | _, _, _, _, .nil, h => by simp at h
  | _, _, 0, _, .cons h1 _, h => ⟨_, rfl, by simp at h; subst h; exact h1⟩
  | _, _, i + 1, _, .cons _ h2, h => RpAll.get (i := i) h2 (by simpa using h)
theorem RpAll.getV : ∀ {vs : List V} {ds : List D} {i : Nat} {v : V}, RpAll Ξ H vs ds → vs[i]? = some v → ∃ d, ds[i]? = some d ∧ Rp Ξ H v d
  | _, _, _, _, .nil, h => by simp at h
  | _, _, 0, _, .cons h1 _, h => ⟨_, rfl, by simp at h; subst h; exact h1⟩
  | _, _, i + 1, _, .cons _ h2, h => RpAll.getV (i := i) h2 (by simpa using h)
theorem RpAll.take : ∀ (n : Nat) {vs : List V} {ds : List D}, RpAll Ξ H vs ds → RpAll Ξ H (vs.take n) (ds.take n)
  | 0, _, _, _ => .nil
  | _ + 1, _, _, .nil => .nil
  | n + 1, _, _, .cons h1 h2 => .cons h1 (RpAll.take n h2)
theorem RpAll.drop : ∀ (n : Nat) {vs : List V} {ds : List D}, RpAll Ξ H vs ds → RpAll Ξ H (vs.drop n) (ds.drop n)
  | 0, _, _, h => h
  | _ + 1, _, _, .nil => .nil
  | n + 1, _, _, .cons _ h2 => RpAll.drop n h2
theorem RpAll.rev : ∀ {vs : List V} {ds : List D}, RpAll Ξ H vs ds → RpAll Ξ H vs.reverse ds.reverse
  | _, _, .nil => .nil
  | _, _, .cons h1 h2 => by
    rw [List.reverse_cons, List.reverse_cons]
    exact (RpAll.rev h2).app (.cons h1 .nil)
theorem RpAll.set {v : V} {d : D} (h : Rp Ξ H v d) : ∀ (n : Nat) {vs : List V} {ds : List D}, RpAll Ξ H vs ds → RpAll Ξ H (vs.set n v) (ds.set n d)
  | _, _, _, .nil => .nil
  | 0, _, _, .cons _ h2 => .cons h h2
  | n + 1, _, _, .cons h1 h2 => .cons h1 (RpAll.set h n h2)
theorem RpAll.rep {v : V} {d : D} (h : Rp Ξ H v d) : ∀ n : Nat, RpAll Ξ H (List.replicate n v) (List.replicate n d)
  | 0 => .nil
  | n + 1 => .cons h (RpAll.rep h n)
theorem RpAll.reps {vs : List V} {ds : List D} (h : RpAll Ξ H vs ds) : ∀ n : Nat, RpAll Ξ H (List.replicate n vs).flatten (List.replicate n ds).flatten
  | 0 => .nil
  | n + 1 => h.app (RpAll.reps h n)
theorem RpAll.strs : ∀ ys : List Str, (∀ y ∈ ys, PyData.strOk y = true) → RpAll Ξ H (ys.map V.str) (ys.map D.str)
  | [], _ => .nil
  | y :: ys, h => .cons (.str y (h y List.mem_cons_self)) (RpAll.strs ys fun z hz => h z (List.mem_cons_of_mem _ hz))
theorem RpAll.strs_ok : ∀ {ys : List Str} {vs : List V}, RpAll Ξ H vs (ys.map D.str) → ∀ y ∈ ys, PyData.strOk y = true
  | [], _, _, _, h => (nomatch h)
  | _ :: _, _, .cons h1 h2, y, h => by
    rcases List.mem_cons.mp h with rfl | h
    · cases h1
      assumption
    · exact RpAll.strs_ok h2 y h
theorem RpAll.ints : ∀ ys : List Int, RpAll Ξ H (ys.map V.int) (ys.map D.int)
  | [] => .nil
  | y :: ys => .cons (.int y) (RpAll.ints ys)
theorem RpAll.of_strs : ∀ {ys : List Str} {vs : List V}, RpAll Ξ H vs (ys.map D.str) → vs = ys.map V.str
  | [], _, .nil => rfl
  | _ :: _, _, .cons h1 h2 => by
    cases h1
    rw [RpAll.of_strs h2]
    rfl
theorem RpAll.of_ints : ∀ {ys : List Int} {vs : List V}, RpAll Ξ H vs (ys.map D.int) → vs = ys.map V.int
  | [], _, .nil => rfl
  | _ :: _, _, .cons h1 h2 => by
    cases h1
    rw [RpAll.of_ints h2]
    rfl
theorem RpAll.of_bls : ∀ {ys : List Bool} {vs : List V}, RpAll Ξ H vs (ys.map D.bl) → vs = ys.map V.bl
  | [], _, .nil => rfl
  | _ :: _, _, .cons h1 h2 => by
    cases h1
    rw [RpAll.of_bls h2]
    rfl
theorem Rp.tupE {v : V} {ds : List D} (h : Rp Ξ H v (.tup ds)) : ∃ b xs, v = .ref b ∧ SqT Ξ.K H b xs ∧ RpAll Ξ H xs ds := by
  cases h with
  | tup hs ha => exact ⟨_, _, rfl, hs, ha⟩
theorem Rp.lstE {v : V} {ds : List D} (h : Rp Ξ H v (.lst ds)) : ∃ b xs, v = .ref b ∧ H b = some (.lst xs) ∧ RpAll Ξ H xs ds := by
  cases h with
  | lst hs ha => exact ⟨_, _, rfl, hs, ha⟩
end
/-! ### data -/
mutual
def D.toP : D → PyData
  | .non => .none
  | .bl b => .bool b
  | .int i => .int i
  | .str y => .str y
  | .tup l => .tuple (D.toPs l)
  | .lst l => .list (D.toPs l)
  | .dct _ _ => .none
  | .set _ => .none
  | .txt _ => .none
  | .obj _ _ => .none
  | .tok _ => .none
def D.toPs : List D → List PyData
  | [] => []
  | d :: l => d.toP :: D.toPs l
end
mutual
/-- no objects in it -/
def D.plain : D → Bool
  | .non => true
  | .bl _ => true
  | .int _ => true
  | .str _ => true
  | .tup l => D.plains l
  | .lst l => D.plains l
  | .dct _ _ => false
  | .set _ => false
  | .txt _ => false
  | .obj _ _ => false
  | .tok _ => false
def D.plains : List D → Bool
  | [] => true
  | d :: l => d.plain && D.plains l
end
theorem toPs_map : ∀ l : List D, D.toPs l = l.map D.toP
  | [] => rfl
  | d :: l => by
    show d.toP :: D.toPs l = _
    rw [toPs_map l]
    rfl
theorem plains_all : ∀ l : List D, D.plains l = l.all D.plain
  | [] => rfl
  | d :: l => by
    show (d.plain && D.plains l) = _
    rw [plains_all l]
    rfl
section
variable {Ξ : Ctx} {H : Hp}
mutual
theorem Rp.dp : ∀ {d : D} {v : V}, d.plain = true → Rp Ξ H v d → Dp Ξ.K H v d.toP
  | .non, _, _, .non => .non
  | .bl _, _, _, .bl b => .bl b
  | .int _, _, _, .int i => .int i
  | .str _, _, _, .str y _ => .str y
  | .tup l, _, h, .tup hs ha => .tup hs (RpAll.dp h ha)
  | .lst l, _, h, .lst hs ha => .lst (SqL.of hs) (RpAll.dp h ha)
  | .dct _ _, _, h, _ => by cases h
  | .set _, _, h, _ => by cases h
  | .txt _, _, h, _ => by cases h
  | .obj _ _, _, h, _ => by cases h
  | .tok _, _, h, _ => by cases h
theorem RpAll.dp : ∀ {ds : List D} {vs : List V}, D.plains ds = true → RpAll Ξ H vs ds → DpAll Ξ.K H vs (D.toPs ds)
  | [], _, _, .nil => .nil
  | d :: ds, _, h, .cons h1 h2 => by
    have h : (d.plain && D.plains ds) = true := h
    rw [Bool.and_eq_true] at h
    exact .cons (Rp.dp h.1 h1) (RpAll.dp h.2 h2)
end
mutual
theorem Rp.lay : ∀ {d : D} {v : V}, d.plain = true → Rp Ξ H v d → d.toP.canLay0 = true
  | .non, _, _, .non => rfl
  | .bl _, _, _, .bl b => rfl
  | .int _, _, _, .int i => rfl
  | .str _, _, _, .str y h => h
  | .tup l, _, h, .tup hs ha => by
    have := RpAll.lay h ha
    simpa [D.toP, PyData.canLay0] using this
  | .lst l, _, h, .lst hs ha => by
    have := RpAll.lay h ha
    simpa [D.toP, PyData.canLay0] using this
  | .dct _ _, _, h, _ => by cases h
  | .set _, _, h, _ => by cases h
  | .txt _, _, h, _ => by cases h
  | .obj _ _, _, h, _ => by cases h
  | .tok _, _, h, _ => by cases h
theorem RpAll.lay : ∀ {ds : List D} {vs : List V}, D.plains ds = true → RpAll Ξ H vs ds → PyData.canLayAll0 (D.toPs ds) = true
  | [], _, _, .nil => rfl
  | d :: ds, _, h, .cons h1 h2 => by
    have h : (d.plain && D.plains ds) = true := h
    rw [Bool.and_eq_true] at h
    show (d.toP.canLay0 && PyData.canLayAll0 (D.toPs ds)) = true
    rw [Rp.lay h.1 h1, RpAll.lay h.2 h2]
    rfl
end
end
end LP
namespace LP
open PySem PySem.Spec PyProof.Rows L2 PK
/-! ### growing -/
/-- all that was there, but the feed, is as it was -/
def Gr (Ξ : Ctx) (H H' : Hp) : Prop := ∀ b o, b ∉ Ξ.ff → H b = some o → H' b = some o
section
variable {Ξ : Ctx} {H H1 H2 : Hp} {S : List Addr} {p : Addr} {o : HO}
theorem Gr.refl (H : Hp) : Gr Ξ H H := fun _ _ _ h => h
theorem Gr.trans (x : Gr Ξ H H1) (y : Gr Ξ H1 H2) : Gr Ξ H H2 := fun b o n h => y b o n (x b o n h)
theorem Gr.of (x : Same H H1) : Gr Ξ H H1 := fun b o _ h => x b o h
/-- masked: what is not in S stays -/
theorem Gr.ms (x : Gr Ξ H H1) (h : ∀ b ∈ Ξ.ff, b ∈ S) : Same (ms S H) (ms S H1) := fun b o e => by
  obtain ⟨h1, h2⟩ := ms_some e
  exact ms_at (x b o (fun z => h2 (h b z)) h1) h2
theorem ms_mono {S T : List Addr} (h : ∀ b ∈ T, b ∈ S) : Same (ms S H) (ms T H) := fun b o e => by
  obtain ⟨h1, h2⟩ := ms_some e
  exact ms_at h1 fun z => h2 (h b z)
def Mu (S : List Addr) (H : Hp) : Prop := ∀ q ∈ S, ∃ o, H q = some o ∧ Mt o
theorem Mu.out {S : List Addr} (h : Mu S H) (n : H p = none) : p ∉ S := fun z => by
  obtain ⟨o, e, _⟩ := h p z
  rw [n] at e
  cases e
theorem Mu.same {S : List Addr} (h : Mu S H) (s : Same H H1) : Mu S H1 := fun q hq => by
  obtain ⟨o, e, m⟩ := h q hq
  exact ⟨o, s _ _ e, m⟩
theorem Mu.gr {S : List Addr} (h : Mu S H) (s : Gr Ξ H H1) (f : Ξ.FI H1) : Mu S H1 := fun q hq => by
  by_cases z : q ∈ Ξ.ff
  · exact Ξ.fex H1 f q z
  · obtain ⟨o, e, m⟩ := h q hq
    exact ⟨o, s _ _ z e, m⟩
theorem Mu.upd {S : List Addr} (h : Mu S H) (m : Mt o) : Mu S (upd H p o) := fun q hq => by
  by_cases z : q = p
  · rw [z]
    exact ⟨o, upd_same, m⟩
  · rw [upd_ne z]
    exact h q hq
theorem Mu.cons {S : List Addr} (h : Mu S H) (e : H p = some o) (m : Mt o) : Mu (p :: S) H := fun q hq => by
  rcases List.mem_cons.mp hq with rfl | z
  · exact ⟨o, e, m⟩
  · exact h q z
theorem sqT_mu {K : PySem.W.Frag} {S : List Addr} {c : Addr} {xs : List V} (h : SqT K H c xs) (k : Mu S H) : SqT K (ms S H) c xs := by
  rcases h with (h | ⟨o, h⟩) | h
  · exact .inl (.inl (ms_at h fun z => by
      obtain ⟨l, h1, m⟩ := k c z
      rw [h] at h1
      cases h1
      exact m))
  · refine .inl (.inr ⟨o, ms_at h fun z => ?_⟩)
    obtain ⟨l, h1, m⟩ := k c z
    rw [h] at h1
    cases h1
    exact m
  · exact .inr h
theorem FI_same (f : Ξ.FI H) (s : Same H H1) : Ξ.FI H1 := Ξ.fst H H1 (fun b hb => by
  obtain ⟨o, e, _⟩ := Ξ.fex H f b hb
  rw [e, s _ _ e]) f
theorem FI_upd (f : Ξ.FI H) (n : p ∉ Ξ.ff) : Ξ.FI (upd H p o) := Ξ.fst _ _ (fun b hb => upd_ne fun z => n (z ▸ hb)) f
theorem ff_out (f : Ξ.FI H) (n : H p = none) : p ∉ Ξ.ff := fun z => by
  obtain ⟨o, e, _⟩ := Ξ.fex H f p z
  rw [n] at e
  cases e
end
/-! ### the names -/
abbrev Env := List (Option D)
/-- what stands at an owned place -/
inductive Ow (Ξ : Ctx) (Hm : Hp) : Option HO → D → Prop
  | lst {us : List V} {ds : List D} : RpAll Ξ Hm us ds → Ow Ξ Hm (some (.lst us)) (.lst ds)
theorem Ow.same {Ξ : Ctx} {H H' : Hp} {o : Option HO} {d : D} (s : Same H H') (h : Ow Ξ H o d) : Ow Ξ H' o d := by
  cases h with
  | lst h => exact .lst (h.same s)
structure Rel (Ξ : Ctx) (H0 : Hp) (S : List Addr) (A : List (Nat × Addr)) (G : List (V × D)) (σ : L2.St) (H : Hp) (env : Env) : Prop where
  len : σ.length = env.length
  fr : ∀ i d, env[i]? = some (some d) → (∀ a, (i, a) ∉ A) → ∃ v, σ[i]? = some (some v) ∧ Rp Ξ (ms (S ++ A.map (·.2)) H) v d
  ow : ∀ i a, (i, a) ∈ A → ∃ d, env[i]? = some (some d) ∧ σ[i]? = some (some (.ref a)) ∧ Ow Ξ (ms (S ++ A.map (·.2)) H) (H a) d
  old : ∀ i a, (i, a) ∈ A → H0 a = none ∧ a ∉ S
  nd : (A.map (·.2)).Nodup
  ndk : (A.map (·.1)).Nodup
  gh : ∀ x ∈ G, Rp Ξ (ms (S ++ A.map (·.2)) H) x.1 x.2
  mu : Mu S H
  fi : Ξ.FI H
  ffs : ∀ b ∈ Ξ.ff, b ∈ S
  gr : Gr Ξ H0 H
section
variable {Ξ : Ctx} {H0 H H1 : Hp} {S : List Addr} {A : List (Nat × Addr)} {G : List (V × D)} {σ : L2.St} {env : Env}
theorem Rel.ffM (r : Rel Ξ H0 S A G σ H env) : ∀ b ∈ Ξ.ff, b ∈ S ++ A.map (·.2) := fun b hb => List.mem_append_left _ (r.ffs b hb)
theorem Rel.outA (r : Rel Ξ H0 S A G σ H env) {i : Nat} {a : Addr} (h : (i, a) ∈ A) : a ∉ Ξ.ff := fun z => (r.old i a h).2 (r.ffs a z)
theorem Rel.muA (r : Rel Ξ H0 S A G σ H env) : Mu (S ++ A.map (·.2)) H := fun q hq => by
  rcases List.mem_append.mp hq with h | h
  · exact r.mu q h
  · obtain ⟨⟨i, a⟩, hm, rfl⟩ := List.mem_map.mp h
    obtain ⟨d, _, _, ho⟩ := r.ow i a hm
    show ∃ o, H a = some o ∧ Mt o
    generalize H a = o at ho
    cases ho with
    | lst _ => exact ⟨_, rfl, trivial⟩
theorem Rel.grow (r : Rel Ξ H0 S A G σ H env) (g : Gr Ξ H H1) (f : Ξ.FI H1) : Rel Ξ H0 S A G σ H1 env := by
  have s := g.ms r.ffM
  refine ⟨r.len, fun i d h n => ?_, fun i a h => ?_, r.old, r.nd, r.ndk, fun x hx => (r.gh x hx).same s, r.mu.gr g f, f, r.ffs, r.gr.trans g⟩
  · obtain ⟨v, h1, h2⟩ := r.fr i d h n
    exact ⟨v, h1, h2.same s⟩
  · obtain ⟨d, h1, h2, h3⟩ := r.ow i a h
    refine ⟨d, h1, h2, ?_⟩
    have h4 := h3.same s
    have e : H1 a = H a := by
      generalize ho : H a = o at h3
      cases h3 with
      | lst _ => exact g a _ (r.outA h) ho
    rw [e]
    exact h4
theorem Rel.same (r : Rel Ξ H0 S A G σ H env) (s : Same H H1) : Rel Ξ H0 S A G σ H1 env := r.grow (Gr.of s) (FI_same r.fi s)
/-- one more object is kept out -/
theorem Rel.mask (r : Rel Ξ H0 S A G σ H env) {p : Addr} {o : HO} (np : H p = none) (m : Mt o) : Rel Ξ H0 (p :: S) A G σ (upd H p o) env := by
  have hA : ∀ i a, (i, a) ∈ A → a ≠ p := fun i a h z => by
    have := r.muA.out np
    exact this (List.mem_append_right _ (List.mem_map.mpr ⟨(i, a), h, z⟩))
  have s : Same (ms (S ++ A.map (·.2)) H) (ms ((p :: S) ++ A.map (·.2)) (upd H p o)) := fun b u e => by
    obtain ⟨h1, h2⟩ := ms_some e
    have n := ne_of_none h1 np
    exact ms_at (by rw [upd_ne n]; exact h1) fun z => (List.mem_cons.mp z).elim n h2
  refine ⟨r.len, fun i d h n => ?_, fun i a h => ?_, fun i a h => ?_, r.nd, r.ndk, fun x hx => (r.gh x hx).same s, ?_, ?_, fun b hb => List.mem_cons_of_mem _ (r.ffs b hb), fun b u n e => ?_⟩
  · obtain ⟨v, h1, h2⟩ := r.fr i d h n
    exact ⟨v, h1, h2.same s⟩
  · obtain ⟨d, h1, h2, h3⟩ := r.ow i a h
    refine ⟨d, h1, h2, ?_⟩
    rw [upd_ne (hA i a h)]
    exact h3.same s
  · refine ⟨(r.old i a h).1, fun z => ?_⟩
    rcases List.mem_cons.mp z with z | z
    · exact hA i a h z
    · exact (r.old i a h).2 z
  · exact (r.mu.same (same_new (Same.refl H) np)).cons upd_same m
  · exact FI_upd r.fi (ff_out r.fi np)
  · have h1 := r.gr b u n e
    rw [upd_ne (ne_of_none h1 np)]
    exact h1
end
/-- read: frozen, or an owned list with frozen things in it -/
inductive Bp (Ξ : Ctx) (M : List Addr) (H : Hp) : V → D → Prop
  | rp {v : V} {d : D} : Rp Ξ (ms M H) v d → Bp Ξ M H v d
  | lst {a : Addr} {us : List V} {ds : List D} : a ∉ Ξ.ff → H a = some (.lst us) → RpAll Ξ (ms M H) us ds → Bp Ξ M H (.ref a) (.lst ds)
section
variable {Ξ : Ctx} {H H1 : Hp} {M : List Addr} {v : V}
theorem Bp.gr {d : D} (h : Bp Ξ M H v d) (g : Gr Ξ H H1) (hf : ∀ b ∈ Ξ.ff, b ∈ M) : Bp Ξ M H1 v d := by
  cases h with
  | rp h => exact .rp (h.same (g.ms hf))
  | lst n h1 h2 => exact .lst n (g _ _ n h1) (h2.same (g.ms hf))
theorem Bp.full {d : D} (h : Bp Ξ M H v d) : Rp Ξ H v d := by
  cases h with
  | rp h => exact h.same ms_sub
  | lst _ h1 h2 => exact .lst h1 (h2.same ms_sub)
theorem Bp.lstE {ds : List D} (h : Bp Ξ M H v (.lst ds)) : ∃ b xs, v = .ref b ∧ H b = some (.lst xs) ∧ RpAll Ξ (ms M H) xs ds := by
  cases h with
  | rp h =>
    obtain ⟨b, xs, e, h1, h2⟩ := h.lstE
    exact ⟨b, xs, e, ms_sub _ _ h1, h2⟩
  | lst _ h1 h2 => exact ⟨_, _, rfl, h1, h2⟩
theorem Bp.tupE {ds : List D} (h : Bp Ξ M H v (.tup ds)) : ∃ b xs, v = .ref b ∧ SqT Ξ.K H b xs ∧ RpAll Ξ (ms M H) xs ds := by
  cases h with
  | rp h =>
    obtain ⟨b, xs, e, h1, h2⟩ := h.tupE
    exact ⟨b, xs, e, sqT_same ms_sub h1, h2⟩
end
/-! ### the readings by value -/
section
variable (Ξ : Ctx) (H0 : Hp) (O : List Nat)
def liE (p : Env → W D) : TE := fun σ H Q => ∃ S A G env E, A.map (·.1) = O ∧ Rel Ξ H0 S A G σ H env ∧
  (p env).wp (fun d => ∀ v H', Gr Ξ H H' → Rel Ξ H0 S A G σ H' env → Rp Ξ (ms (S ++ A.map (·.2)) H') v d → Q v H') E
/-- an owned name may be read -/
def liB (p : Env → W D) : TE := fun σ H Q => ∃ S A G env E, A.map (·.1) = O ∧ Rel Ξ H0 S A G σ H env ∧
  (p env).wp (fun d => ∀ v H', Gr Ξ H H' → Rel Ξ H0 S A G σ H' env → Bp Ξ (S ++ A.map (·.2)) H' v d → Q v H') E
def liA (p : Env → W (List D)) : TA := fun σ H Q => ∃ S A G env E, A.map (·.1) = O ∧ Rel Ξ H0 S A G σ H env ∧
  (p env).wp (fun ds => ∀ vs H', Gr Ξ H H' → Rel Ξ H0 S A G σ H' env → RpAll Ξ (ms (S ++ A.map (·.2)) H') vs ds → Q vs H') E
/-- arguments that are read -/
inductive BpAll (M : List Addr) (H : Hp) : List V → List D → Prop
  | nil : BpAll M H [] []
  | cons {v : V} {vs : List V} {d : D} {ds : List D} : Bp Ξ M H v d → BpAll M H vs ds → BpAll M H (v :: vs) (d :: ds)
def liAB (p : Env → W (List D)) : TA := fun σ H Q => ∃ S A G env E, A.map (·.1) = O ∧ Rel Ξ H0 S A G σ H env ∧
  (p env).wp (fun ds => ∀ vs H', Gr Ξ H H' → Rel Ξ H0 S A G σ H' env → BpAll Ξ (S ++ A.map (·.2)) H' vs ds → Q vs H') E
def liT (p : Env → W Bool) : TT := fun σ H Q => ∃ S A G env E, A.map (·.1) = O ∧ Rel Ξ H0 S A G σ H env ∧
  (p env).wp (fun b => ∀ H', Gr Ξ H H' → Rel Ξ H0 S A G σ H' env → Q b H') E
end
end LP
namespace LP
open PySem PySem.Spec PyProof.Rows L2 PK
section
variable {X : Cx}
theorem wkE {e : Expr} {t t' : TE} (h : PE X e t) (w : ∀ σ H Q, t' σ H Q → t σ H Q) : PE X e t' := ⟨fun pins s σ H Q I q => h.run pins s σ H Q I (w σ H Q q)⟩
theorem wkT {e : Expr} {t t' : TT} (h : PT X e t) (w : ∀ σ H Q, t' σ H Q → t σ H Q) : PT X e t' := ⟨fun pins s σ H Q I q => h.run pins s σ H Q I (w σ H Q q)⟩
theorem wkW {e : Expr} {t t' : TT} (h : PW X e t) (w : ∀ σ H Q, t' σ H Q → t σ H Q) : PW X e t' := ⟨fun wh pins s σ H Q I q => h.run wh pins s σ H Q I (w σ H Q q)⟩
theorem wkA {es : List Expr} {t t' : TA} (h : PA X es t) (w : ∀ σ H Q, t' σ H Q → t σ H Q) : PA X es t' := ⟨fun pos pins s σ H Q I q => h.run pos pins s σ H Q I (w σ H Q q)⟩
theorem wkS {st : Stmt} {t t' : TS} (h : PS X st t) (w : ∀ D σ H, t' D σ H → t D σ H) : PS X st t' := ⟨fun pins s σ H D I q => h.run pins s σ H D I (w D σ H q)⟩
theorem wkSs {st : List Stmt} {t t' : TS} (h : PSs X st t) (w : ∀ D σ H, t' D σ H → t D σ H) : PSs X st t' := ⟨fun pins s σ H D I q => h.run pins s σ H D I (w D σ H q)⟩
end
def getW (env : Env) (i : Nat) : W D := match env[i]? with
  | some (some d) => W.ret d
  | _ => W.fail
def asB : D → W Bool
  | .bl b => W.ret b
  | _ => W.fail
theorem getW_wp {env : Env} {i : Nat} {Q : D → Prop} {E : Ex → Prop} (h : (getW env i).wp Q E) : ∃ d, env[i]? = some (some d) ∧ Q d := by
  unfold getW at h
  split at h
  · rename_i d e
    exact ⟨d, e, h⟩
  · exact h.elim
theorem asB_wp {d : D} {Q : Bool → Prop} {E : Ex → Prop} (h : (asB d).wp Q E) : ∃ b, d = .bl b ∧ Q b := by
  cases d with
  | bl b => exact ⟨b, rfl, h⟩
  | _ => exact h.elim
section
variable {X : Cx} {Ξ : Ctx} {H0 : Hp} {O : List Nat} {e a b c : Expr} {es : List Expr} {pos : Pos}
abbrev LE (Ξ : Ctx) (H0 : Hp) (O : List Nat) (X : Cx) (e : Expr) (p : Env → W D) : Prop := PE X e (liE Ξ H0 O p)
abbrev LB (Ξ : Ctx) (H0 : Hp) (O : List Nat) (X : Cx) (e : Expr) (p : Env → W D) : Prop := PE X e (liB Ξ H0 O p)
abbrev LT (Ξ : Ctx) (H0 : Hp) (O : List Nat) (X : Cx) (e : Expr) (p : Env → W Bool) : Prop := PT X e (liT Ξ H0 O p)
theorem lb {p : Env → W D} (h : LE Ξ H0 O X e p) : LB Ξ H0 O X e p := wkE h fun σ H Q ⟨S, A, G, env, E, hO, r, q⟩ =>
  ⟨S, A, G, env, E, hO, r, (p env).mono (fun d k v H' g r' h' => k v H' g r' (.rp h')) (fun _ z => z) q⟩
/-! ### names, constants -/
theorem le_var (i : Nat) (hO : i ∉ O) (h : PE X e (tVar i)) : LE Ξ H0 O X e fun env => getW env i := wkE h fun σ H Q ⟨S, A, G, env, E, hA, r, q⟩ => by
  obtain ⟨d, he, q⟩ := getW_wp q
  obtain ⟨v, h1, h2⟩ := r.fr i d he fun a ha => hO (hA ▸ List.mem_map.mpr ⟨(i, a), ha, rfl⟩)
  exact ⟨v, h1, q v H (Gr.refl H) r h2⟩
theorem lb_var (i : Nat) (h : PE X e (tVar i)) : LB Ξ H0 O X e fun env => getW env i := wkE h fun σ H Q ⟨S, A, G, env, E, hA, r, q⟩ => by
  obtain ⟨d, he, q⟩ := getW_wp q
  by_cases z : ∃ a, (i, a) ∈ A
  · obtain ⟨a, ha⟩ := z
    obtain ⟨d', h1, h2, h3⟩ := r.ow i a ha
    rw [he] at h1
    cases h1
    refine ⟨.ref a, h2, q _ H (Gr.refl H) r ?_⟩
    generalize ho : H a = o at h3
    cases h3 with
    | lst h3 => exact .lst (r.outA ha) ho h3
  · obtain ⟨v, h1, h2⟩ := r.fr i d he fun a ha => z ⟨a, ha⟩
    exact ⟨v, h1, q v H (Gr.refl H) r (.rp h2)⟩
theorem le_const {v : V} {d : D} (hd : ∀ H, Rp Ξ H v d) (h : PE X e (tC v)) : LE Ξ H0 O X e fun _ => W.ret d := wkE h fun σ H Q ⟨S, A, G, env, E, hA, r, q⟩ => q v H (Gr.refl H) r (hd _)
theorem le_int {i : Int} {j} : LE Ξ H0 O X (.Constant (.int i) j pos) fun _ => W.ret (.int i) := le_const (fun _ => .int i) pe_int
theorem le_str {x : Str} {j} (hs : PyData.strOk x = true := by decide +kernel) : LE Ξ H0 O X (.Constant (.str x) j pos) fun _ => W.ret (.str x) := le_const (fun _ => .str x hs) pe_str
theorem le_bl {x : Bool} {j} : LE Ξ H0 O X (.Constant (.bool x) j pos) fun _ => W.ret (.bl x) := le_const (fun _ => .bl x) pe_bl
theorem le_non {j} : LE Ξ H0 O X (.Constant .none j pos) fun _ => W.ret .non := le_const (fun _ => .non) pe_non
/-! ### two parts, one behind the other -/
/-- an operator of values is kept by f -/
def OpOk (Ξ : Ctx) (r : R2) (f : D → D → W D) : Prop := ∀ (M : List Addr) (H : Hp) (x y : V) (d1 d2 : D) (Q : VK) (E : Ex → Prop), Mu M H → (∀ b ∈ Ξ.ff, b ∈ M) →
  Bp Ξ M H x d1 → Bp Ξ M H y d2 → (f d1 d2).wp (fun d => ∀ v H', Same H H' → Rp Ξ (ms M H') v d → Q v H') E → r x y H Q
/-- .. of values that are read only: the answer is told at once -/
theorem two {pa pb : Env → W D} {ta tb : TE} {f : D → D → W D} {r : R2} (hf : OpOk Ξ r f) (ha : ∀ σ H Q, liB Ξ H0 O pa σ H Q → ta σ H Q) (hb : ∀ σ H Q, liB Ξ H0 O pb σ H Q → tb σ H Q) :
    ∀ σ H Q, liE Ξ H0 O (fun env => (pa env).bind fun x => (pb env).bind fun y => f x y) σ H Q → ta σ H fun x H1 => tb σ H1 fun y H2 => r x y H2 Q := by
  rintro σ H Q ⟨S, A, G, env, E, hA, rl, q⟩
  refine ha σ H _ ⟨S, A, G, env, E, hA, rl, (pa env).mono (fun d1 k x H1 g1 r1 b1 => ?_) (fun _ z => z) q⟩
  refine hb σ H1 _ ⟨S, A, G, env, E, hA, r1, (pb env).mono (fun d2 k y H2 g2 r2 b2 => ?_) (fun _ z => z) k⟩
  refine hf _ H2 x y d1 d2 Q E r2.muA r2.ffM (b1.gr g2 r1.ffM) b2 ((f d1 d2).mono (fun d k v H3 s3 rv => ?_) (fun _ z => z) k)
  exact k v H3 ((g1.trans g2).trans (Gr.of s3)) (r2.same s3) rv
theorem le_op {op : Operator} {r : R2} {f : D → D → W D} {pa pb : Env → W D} (ho : OpR X (binaryOp op) r) (hf : OpOk Ξ r f) (ha : LB Ξ H0 O X a pa) (hb : LB Ξ H0 O X b pb) :
    LE Ξ H0 O X (.BinOp a op b pos) fun env => (pa env).bind fun x => (pb env).bind fun y => f x y :=
  wkE (pe_op ho ha hb) (two hf (fun _ _ _ h => h) fun _ _ _ h => h)
theorem le_cmp {op : CmpOp} {r : R2} {f : D → D → W D} {pa pb : Env → W D} (ho : OpR X (compareOp op) r) (hf : OpOk Ξ r f) (hm : behindInMarks op b = false) (ha : LB Ξ H0 O X a pa) (hb : LB Ξ H0 O X b pb) :
    LE Ξ H0 O X (.Compare a [op] [b] pos) fun env => (pa env).bind fun x => (pb env).bind fun y => f x y :=
  wkE (pe_cmpR ho ha hb hm) (two hf (fun _ _ _ h => h) fun _ _ _ h => h)
theorem le_ix {r : R2} {f : D → D → W D} {pa pb : Env → W D} (ho : IxR X r) (hf : OpOk Ξ r f) (hs : PlainIx b) (ha : LB Ξ H0 O X a pa) (hb : LB Ξ H0 O X b pb) :
    LE Ξ H0 O X (.Subscript a b pos) fun env => (pa env).bind fun x => (pb env).bind fun y => f x y :=
  wkE (pe_ix ho ha hb hs) (two hf (fun _ _ _ h => h) fun _ _ _ h => h)
/-! ### tests -/
theorem lt_val {p : Env → W D} (h : LE Ξ H0 O X e p) (he : ∀ whole, isTrue e X.env whole = (do let v ← whole; standAt e.pos; holding [v] (truthy v)) := by intro _; rfl) : LT Ξ H0 O X e fun env => (p env).bind asB :=
  wkT (pt_val h he) fun σ H Q ⟨S, A, G, env, E, hA, r, q⟩ => ⟨S, A, G, env, E, hA, r, (p env).mono (fun d k v H' g r' hv => by
    obtain ⟨b, rfl, k⟩ := asB_wp k
    cases hv
    exact ⟨b, rfl, k H' g r'⟩) (fun _ z => z) q⟩
theorem lt_cmp {op : CmpOp} {r : R2} {f : D → D → W D} {pa pb : Env → W D} (ho : OpR X (compareOp op) r) (hf : OpOk Ξ r f) (hm : behindInMarks op b = false) (ha : LB Ξ H0 O X a pa) (hb : LB Ξ H0 O X b pb) :
    LT Ξ H0 O X (.Compare a [op] [b] pos) fun env => ((pa env).bind fun x => (pb env).bind fun y => f x y).bind asB := by
  refine wkT (pt_cmpR ho ha hb hm) fun σ H Q h => ?_
  have key : liE Ξ H0 O (fun env => (pa env).bind fun x => (pb env).bind fun y => f x y) σ H (fun v H' => ∃ k, v = .bl k ∧ Q k H') := by
    obtain ⟨S, A, G, env, E, hA, r', q⟩ := h
    refine ⟨S, A, G, env, E, hA, r', W.mono _ (fun d k v H' g r' hv => ?_) (fun _ z => z) q⟩
    obtain ⟨b, rfl, k⟩ := asB_wp k
    cases hv
    exact ⟨b, rfl, k H' g r'⟩
  exact two hf (fun _ _ _ h => h) (fun _ _ _ h => h) σ H _ key
theorem lt_not {p : Env → W Bool} (h : LT Ξ H0 O X a p) : LT Ξ H0 O X (.UnaryOp .Not a pos) fun env => (p env).bind fun k => W.ret !k :=
  wkT (pt_not h) fun σ H Q ⟨S, A, G, env, E, hA, r, q⟩ => ⟨S, A, G, env, E, hA, r, (p env).mono (fun d k H' g r' => k H' g r') (fun _ z => z) q⟩
abbrev LW (Ξ : Ctx) (H0 : Hp) (O : List Nat) (X : Cx) (e : Expr) (p : Env → W Bool) : Prop := PW X e (liT Ξ H0 O p)
variable {rest : List Expr} {p q : Env → W Bool}
theorem lw_and1 (h : LT Ξ H0 O X a p) : LW Ξ H0 O X (.BoolOp .And [a] pos) p := pw_and1 h
theorem lw_or1 (h : LT Ξ H0 O X a p) : LW Ξ H0 O X (.BoolOp .Or [a] pos) p := pw_or1 h
theorem lw_and (h : LT Ξ H0 O X a p) (h2 : LW Ξ H0 O X (.BoolOp .And (b :: rest) pos) q) : LW Ξ H0 O X (.BoolOp .And (a :: b :: rest) pos) fun env => (p env).bind fun k => W.ite k (q env) (W.ret false) :=
  wkW (pw_and h h2) fun σ H Q ⟨S, A, G, env, E, hA, r, z⟩ => ⟨S, A, G, env, E, hA, r, (p env).mono (fun k u H' g r' => by
    cases k with
    | true => exact iteT ⟨S, A, G, env, E, hA, r', (q env).mono (fun k u H2 g2 r2 => u H2 (g.trans g2) r2) (fun _ z => z) u⟩
    | false => exact iteF (u H' g r')) (fun _ z => z) z⟩
theorem lw_or (h : LT Ξ H0 O X a p) (h2 : LW Ξ H0 O X (.BoolOp .Or (b :: rest) pos) q) : LW Ξ H0 O X (.BoolOp .Or (a :: b :: rest) pos) fun env => (p env).bind fun k => W.ite k (W.ret true) (q env) :=
  wkW (pw_or h h2) fun σ H Q ⟨S, A, G, env, E, hA, r, z⟩ => ⟨S, A, G, env, E, hA, r, (p env).mono (fun k u H' g r' => by
    cases k with
    | true => exact iteT (u H' g r')
    | false => exact iteF ⟨S, A, G, env, E, hA, r', (q env).mono (fun k u H2 g2 r2 => u H2 (g.trans g2) r2) (fun _ z => z) u⟩) (fun _ z => z) z⟩
/-! ### and, or, not, if as values -/
variable {pa pb : Env → W D}
theorem le_one {op} (h : LE Ξ H0 O X a pa) : LE Ξ H0 O X (.BoolOp op [a] pos) pa := pe_one h
theorem le_and (h : LE Ξ H0 O X a pa) (h2 : LE Ξ H0 O X (.BoolOp .And (b :: rest) pos) pb) : LE Ξ H0 O X (.BoolOp .And (a :: b :: rest) pos) fun env => (pa env).bind fun d => (asB d).bind fun k => W.ite k (pb env) (W.ret (.bl false)) :=
  wkE (pe_and h h2) fun σ H Q ⟨S, A, G, env, E, hA, r, z⟩ => ⟨S, A, G, env, E, hA, r, (pa env).mono (fun d u v H' g r' hv => by
    obtain ⟨k, rfl, u⟩ := asB_wp u
    cases hv
    refine ⟨k, rfl, ?_⟩
    cases k with
    | true => exact iteT ⟨S, A, G, env, E, hA, r', (pb env).mono (fun k u v H2 g2 r2 => u v H2 (g.trans g2) r2) (fun _ z => z) u⟩
    | false => exact iteF (u _ H' g r' (.bl false))) (fun _ z => z) z⟩
theorem le_or (h : LE Ξ H0 O X a pa) (h2 : LE Ξ H0 O X (.BoolOp .Or (b :: rest) pos) pb) : LE Ξ H0 O X (.BoolOp .Or (a :: b :: rest) pos) fun env => (pa env).bind fun d => (asB d).bind fun k => W.ite k (W.ret (.bl true)) (pb env) :=
  wkE (pe_or h h2) fun σ H Q ⟨S, A, G, env, E, hA, r, z⟩ => ⟨S, A, G, env, E, hA, r, (pa env).mono (fun d u v H' g r' hv => by
    obtain ⟨k, rfl, u⟩ := asB_wp u
    cases hv
    refine ⟨k, rfl, ?_⟩
    cases k with
    | true => exact iteT (u _ H' g r' (.bl true))
    | false => exact iteF ⟨S, A, G, env, E, hA, r', (pb env).mono (fun k u v H2 g2 r2 => u v H2 (g.trans g2) r2) (fun _ z => z) u⟩) (fun _ z => z) z⟩
theorem le_not (h : LE Ξ H0 O X a pa) : LE Ξ H0 O X (.UnaryOp .Not a pos) fun env => (pa env).bind fun d => (asB d).bind fun k => W.ret (.bl !k) :=
  wkE (pe_not h) fun σ H Q ⟨S, A, G, env, E, hA, r, z⟩ => ⟨S, A, G, env, E, hA, r, (pa env).mono (fun d u v H' g r' hv => by
    obtain ⟨k, rfl, u⟩ := asB_wp u
    cases hv
    exact ⟨k, rfl, u _ H' g r' (.bl _)⟩) (fun _ z => z) z⟩
theorem le_if (hc : LT Ξ H0 O X c p) (h : LE Ξ H0 O X a pa) (h2 : LE Ξ H0 O X b pb) : LE Ξ H0 O X (.IfExp c a b pos) fun env => (p env).bind fun k => W.ite k (pa env) (pb env) :=
  wkE (pe_ifExp hc h h2) fun σ H Q ⟨S, A, G, env, E, hA, r, z⟩ => ⟨S, A, G, env, E, hA, r, (p env).mono (fun k u H' g r' => by
    cases k with
    | true => exact iteT ⟨S, A, G, env, E, hA, r', (pa env).mono (fun d u v H2 g2 r2 => u v H2 (g.trans g2) r2) (fun _ z => z) u⟩
    | false => exact iteF ⟨S, A, G, env, E, hA, r', (pb env).mono (fun d u v H2 g2 r2 => u v H2 (g.trans g2) r2) (fun _ z => z) u⟩) (fun _ z => z) z⟩
/-! ### arguments, displays -/
abbrev LA (Ξ : Ctx) (H0 : Hp) (O : List Nat) (X : Cx) (es : List Expr) (p : Env → W (List D)) : Prop := PA X es (liA Ξ H0 O p)
abbrev LAB (Ξ : Ctx) (H0 : Hp) (O : List Nat) (X : Cx) (es : List Expr) (p : Env → W (List D)) : Prop := PA X es (liAB Ξ H0 O p)
theorem la_nil : LA Ξ H0 O X [] fun _ => W.ret [] := wkA pa_nil fun σ H Q ⟨S, A, G, env, E, hA, r, z⟩ => z [] H (Gr.refl H) r .nil
theorem lab_nil : LAB Ξ H0 O X [] fun _ => W.ret [] := wkA pa_nil fun σ H Q ⟨S, A, G, env, E, hA, r, z⟩ => z [] H (Gr.refl H) r .nil
variable {ps : Env → W (List D)}
theorem la_cons (h : LE Ξ H0 O X e pa) (h2 : LA Ξ H0 O X es ps) (hs : starEach (e :: es) X.env = (false, eval e X.env) :: starEach es X.env := by rfl) : LA Ξ H0 O X (e :: es) fun env => (pa env).bind fun d => (ps env).bind fun ds => W.ret (d :: ds) :=
  wkA (pa_cons h h2 hs) fun σ H Q ⟨S, A, G, env, E, hA, r, z⟩ => ⟨S, A, G, env, E, hA, r, (pa env).mono (fun d u v H1 g1 r1 hv => ⟨S, A, G, env, E, hA, r1, (ps env).mono (fun ds u vs H2 g2 r2 hvs =>
    u (v :: vs) H2 (g1.trans g2) r2 (.cons (hv.same (g2.ms r1.ffM)) hvs)) (fun _ z => z) u⟩) (fun _ z => z) z⟩
theorem lab_cons (h : LB Ξ H0 O X e pa) (h2 : LAB Ξ H0 O X es ps) (hs : starEach (e :: es) X.env = (false, eval e X.env) :: starEach es X.env := by rfl) : LAB Ξ H0 O X (e :: es) fun env => (pa env).bind fun d => (ps env).bind fun ds => W.ret (d :: ds) :=
  wkA (pa_cons h h2 hs) fun σ H Q ⟨S, A, G, env, E, hA, r, z⟩ => ⟨S, A, G, env, E, hA, r, (pa env).mono (fun d u v H1 g1 r1 hv => ⟨S, A, G, env, E, hA, r1, (ps env).mono (fun ds u vs H2 g2 r2 hvs =>
    u (v :: vs) H2 (g1.trans g2) r2 (.cons (hv.gr g2 r1.ffM) hvs)) (fun _ z => z) u⟩) (fun _ z => z) z⟩
def tupW (ds : List D) : W D := (W.want (ds.length ≤ sizeLine)).bind fun _ => W.ret (.tup ds)
def lstW (ds : List D) : W D := (W.want (ds.length ≤ sizeLine)).bind fun _ => W.ret (.lst ds)
theorem le_tup {x1} (h : LA Ξ H0 O X es ps) : LE Ξ H0 O X (.Tuple es x1 pos) fun env => (ps env).bind tupW :=
  wkE (pe_tup h) fun σ H Q ⟨S, A, G, env, E, hA, r, z⟩ => ⟨S, A, G, env, E, hA, r, (ps env).mono (fun ds u vs H1 g1 r1 hv => ⟨by rw [hv.len]; exact u.1, fun p np => by
    have s : Same H1 (upd H1 p (.tup vs)) := same_new (Same.refl H1) np
    have r2 := r1.same s
    exact u.2 (.ref p) _ (g1.trans (Gr.of s)) r2 (.tup (sqT_mu (SqT.of upd_same) r2.muA) (hv.same ((Gr.of s : Gr Ξ _ _).ms r1.ffM)))⟩) (fun _ z => z) z⟩
theorem le_lst (h : LA Ξ H0 O X es ps) : LE Ξ H0 O X (.List es pos) fun env => (ps env).bind lstW :=
  wkE (pe_lst h) fun σ H Q ⟨S, A, G, env, E, hA, r, z⟩ => ⟨S, A, G, env, E, hA, r, (ps env).mono (fun ds u vs H1 g1 r1 hv => ⟨by rw [hv.len]; exact u.1, fun p np => by
    have s : Same H1 (upd H1 p (.lst vs)) := same_new (Same.refl H1) np
    have r2 := r1.same s
    exact u.2 (.ref p) _ (g1.trans (Gr.of s)) r2 (.lst (ms_at upd_same (r1.muA.out np)) (hv.same ((Gr.of s : Gr Ξ _ _).ms r1.ffM)))⟩) (fun _ z => z) z⟩
/-! ### built-in calls -/
def CallOk (Ξ : Ctx) (r : List V → Hp → VK → Prop) (f : List D → W D) : Prop := ∀ (M : List Addr) (H : Hp) (xs : List V) (ds : List D) (Q : VK) (E : Ex → Prop), Mu M H → (∀ b ∈ Ξ.ff, b ∈ M) →
  BpAll Ξ M H xs ds → (f ds).wp (fun d => ∀ v H', Same H H' → Rp Ξ (ms M H') v d → Q v H') E → r xs H Q
theorem le_args {r : List V → Hp → VK → Prop} {f : List D → W D} (hf : CallOk Ξ r f) : ∀ σ H Q, liE Ξ H0 O (fun env => (ps env).bind f) σ H Q → liAB Ξ H0 O ps σ H fun xs H1 => r xs H1 Q := by
  rintro σ H Q ⟨S, A, G, env, E, hA, rl, q⟩
  refine ⟨S, A, G, env, E, hA, rl, (ps env).mono (fun ds k xs H1 g1 r1 b1 => ?_) (fun _ z => z) q⟩
  refine hf _ H1 xs ds Q E r1.muA r1.ffM b1 ((f ds).mono (fun d k v H3 s3 rv => ?_) (fun _ z => z) k)
  exact k v H3 (g1.trans (Gr.of s3)) (r1.same s3) rv
end
end LP
namespace LP
open PySem PySem.Spec PyProof.Rows L2 PK
/-! ### what may be done to the names -/
theorem nodup_inj {α β : Type} {f : α → β} : ∀ {l : List α}, (l.map f).Nodup → ∀ {x y : α}, x ∈ l → y ∈ l → f x = f y → x = y
  | [], _, _, _, h, _, _ => (nomatch h)
  | z :: l, nd, x, y, hx, hy, e => by
    rw [List.map_cons, List.nodup_cons] at nd
    rcases List.mem_cons.mp hx with e1 | h1
    · rcases List.mem_cons.mp hy with e2 | h2
      · rw [e1, e2]
      · exact absurd (List.mem_map.mpr ⟨y, h2, by rw [← e, e1]⟩) nd.1
    · rcases List.mem_cons.mp hy with e2 | h2
      · exact absurd (List.mem_map.mpr ⟨x, h1, by rw [e, e2]⟩) nd.1
      · exact nodup_inj nd.2 h1 h2 e
section
variable {Ξ : Ctx} {H0 H H1 : Hp} {S : List Addr} {A : List (Nat × Addr)} {G : List (V × D)} {σ : L2.St} {env : Env}
/-- some owned names are owned no more -/
theorem Rel.sub (k : Nat → Bool) (r : Rel Ξ H0 S A G σ H env) : Rel Ξ H0 S (A.filter fun x => k x.1) G σ H env := by
  have hm : ∀ b ∈ S ++ (A.filter fun x => k x.1).map (·.2), b ∈ S ++ A.map (·.2) := fun b hb => by
    rcases List.mem_append.mp hb with h | h
    · exact List.mem_append_left _ h
    · obtain ⟨x, hx, rfl⟩ := List.mem_map.mp h
      exact List.mem_append_right _ (List.mem_map.mpr ⟨x, (List.mem_filter.mp hx).1, rfl⟩)
  have s : Same (ms (S ++ A.map (·.2)) H) (ms (S ++ (A.filter fun x => k x.1).map (·.2)) H) := ms_mono hm
  have nd2 : ((A.filter fun x => k x.1).map (·.2)).Nodup := List.Sublist.nodup (List.Sublist.map _ List.filter_sublist) r.nd
  have nd1 : ((A.filter fun x => k x.1).map (·.1)).Nodup := List.Sublist.nodup (List.Sublist.map _ List.filter_sublist) r.ndk
  refine ⟨r.len, fun i d h n => ?_, fun i a h => ?_, fun i a h => r.old i a (List.mem_filter.mp h).1, nd2, nd1, fun x hx => (r.gh x hx).same s, r.mu, r.fi, r.ffs, r.gr⟩
  · by_cases z : ∃ a, (i, a) ∈ A
    · obtain ⟨a, ha⟩ := z
      obtain ⟨d', h1, h2, h3⟩ := r.ow i a ha
      rw [h] at h1
      cases h1
      have na : a ∉ S ++ (A.filter fun x => k x.1).map (·.2) := fun hb => by
        rcases List.mem_append.mp hb with hb | hb
        · exact (r.old i a ha).2 hb
        · obtain ⟨⟨j, a'⟩, hx, e⟩ := List.mem_map.mp hb
          have e : a' = a := e
          subst e
          have hxA := (List.mem_filter.mp hx).1
          have : (j, a') = (i, a') := nodup_inj r.nd hxA ha rfl
          rw [this] at hx
          exact n a' hx
      refine ⟨.ref a, h2, ?_⟩
      generalize ho : H a = o at h3
      cases h3 with
      | lst h3 => exact .lst (ms_at ho na) (h3.same s)
    · obtain ⟨v, h1, h2⟩ := r.fr i d h fun a ha => z ⟨a, ha⟩
      exact ⟨v, h1, h2.same s⟩
  · obtain ⟨d, h1, h2, h3⟩ := r.ow i a (List.mem_filter.mp h).1
    exact ⟨d, h1, h2, h3.same s⟩
theorem Rel.set {v : V} {d : D} {i : Nat} (r : Rel Ξ H0 S A G σ H env) (n : ∀ a, (i, a) ∉ A) (hv : Rp Ξ (ms (S ++ A.map (·.2)) H) v d) : Rel Ξ H0 S A G (σ.set i (some v)) H (env.set i (some d)) := by
  refine ⟨by rw [List.length_set, List.length_set]; exact r.len, fun j e h nj => ?_, fun j a h => ?_, r.old, r.nd, r.ndk, r.gh, r.mu, r.fi, r.ffs, r.gr⟩
  · by_cases z : i = j
    · subst z
      have hl : i < env.length := by
        have := (List.getElem?_eq_some_iff.mp h).1
        rwa [List.length_set] at this
      rw [List.getElem?_set_self hl] at h
      cases h
      exact ⟨v, List.getElem?_set_self (by rw [r.len]; exact hl), hv⟩
    · rw [List.getElem?_set_ne z] at h
      obtain ⟨w, h1, h2⟩ := r.fr j e h nj
      exact ⟨w, by rw [List.getElem?_set_ne z]; exact h1, h2⟩
  · have z : i ≠ j := fun z => n a (z ▸ h)
    obtain ⟨e, h1, h2, h3⟩ := r.ow j a h
    exact ⟨e, by rw [List.getElem?_set_ne z]; exact h1, by rw [List.getElem?_set_ne z]; exact h2, h3⟩
/-- a new object comes to be owned -/
theorem Rel.own {p : Addr} {d : D} {i : Nat} (r : Rel Ξ H0 S A G σ H env) (n : ∀ a, (i, a) ∉ A) (hi : i < env.length) (np : H p = none) (g : Gr Ξ H H1) (f : Ξ.FI H1) (ho : Ow Ξ (ms (p :: (S ++ A.map (·.2))) H1) (H1 p) d) :
    Rel Ξ H0 S ((i, p) :: A) G (σ.set i (some (.ref p))) H1 (env.set i (some d)) := by
  have hM : ∀ b : Addr, b ∈ S ++ ((i, p) :: A).map (·.2) ↔ b ∈ p :: (S ++ A.map (·.2)) := fun b => by
    rw [List.map_cons, List.mem_append, List.mem_cons, List.mem_cons, List.mem_append]
    constructor
    · rintro (h | h | h)
      · exact .inr (.inl h)
      · exact .inl h
      · exact .inr (.inr h)
    · rintro (h | h | h)
      · exact .inr (.inl h)
      · exact .inl h
      · exact .inr (.inr h)
  have s : Same (ms (S ++ A.map (·.2)) H) (ms (S ++ ((i, p) :: A).map (·.2)) H1) := fun b u e => by
    obtain ⟨h1, h2⟩ := ms_some e
    refine ms_at (g b u (fun z => h2 (r.ffM b z)) h1) fun z => ?_
    rcases List.mem_cons.mp ((hM b).mp z) with z | z
    · exact ne_of_none h1 np z
    · exact h2 z
  have s2 : Same (ms (p :: (S ++ A.map (·.2))) H1) (ms (S ++ ((i, p) :: A).map (·.2)) H1) := ms_mono fun b hb => (hM b).mp hb
  have hp := r.muA.out np
  refine ⟨by rw [List.length_set, List.length_set]; exact r.len, fun j e h nj => ?_, fun j a h => ?_, fun j a h => ?_, ?_, ?_, fun x hx => (r.gh x hx).same s, r.mu.gr g f, f, r.ffs, r.gr.trans g⟩
  · have z : i ≠ j := fun z => nj p (z ▸ List.mem_cons_self)
    rw [List.getElem?_set_ne z] at h
    obtain ⟨w, h1, h2⟩ := r.fr j e h fun a ha => nj a (List.mem_cons_of_mem _ ha)
    exact ⟨w, by rw [List.getElem?_set_ne z]; exact h1, h2.same s⟩
  · rcases List.mem_cons.mp h with e | h
    · cases e
      exact ⟨d, List.getElem?_set_self hi, List.getElem?_set_self (by rw [r.len]; exact hi), ho.same s2⟩
    · have z : i ≠ j := fun z => n a (z ▸ h)
      obtain ⟨e, h1, h2, h3⟩ := r.ow j a h
      have ea : H1 a = H a := by
        generalize hq : H a = o at h3
        cases h3 with
        | lst _ => exact g a _ (r.outA h) hq
      refine ⟨e, by rw [List.getElem?_set_ne z]; exact h1, by rw [List.getElem?_set_ne z]; exact h2, ?_⟩
      rw [ea]
      exact h3.same s
  · rcases List.mem_cons.mp h with e | h
    · cases e
      refine ⟨?_, fun z => hp (List.mem_append_left _ z)⟩
      cases q : H0 p with
      | none => rfl
      | some o =>
        have := r.gr p o (fun z => hp (List.mem_append_left _ (r.ffs p z))) q
        rw [np] at this
        cases this
    · exact r.old j a h
  · rw [List.map_cons, List.nodup_cons]
    exact ⟨fun z => hp (List.mem_append_right _ z), r.nd⟩
  · rw [List.map_cons, List.nodup_cons]
    refine ⟨fun z => ?_, r.ndk⟩
    obtain ⟨⟨j, a⟩, hx, e⟩ := List.mem_map.mp z
    have e : j = i := e
    subst e
    exact n a hx
/-- an owned object changes -/
theorem Rel.put {a : Addr} {d : D} {i : Nat} {o : HO} (r : Rel Ξ H0 S A G σ H env) (h : (i, a) ∈ A) (ho : Ow Ξ (ms (S ++ A.map (·.2)) H) (some o) d) : Rel Ξ H0 S A G σ (upd H a o) (env.set i (some d)) := by
  have ha : a ∈ S ++ A.map (·.2) := List.mem_append_right _ (List.mem_map.mpr ⟨(i, a), h, rfl⟩)
  have em : ms (S ++ A.map (·.2)) (upd H a o) = ms (S ++ A.map (·.2)) H := ms_upd ha
  obtain ⟨d0, e1, e2, _⟩ := r.ow i a h
  have hi : i < env.length := (List.getElem?_eq_some_iff.mp e1).1
  have uniq : ∀ {j : Nat} {b : Addr}, (j, b) ∈ A → i ≠ j → b ≠ a := fun {j b} hj z e => by
    subst e
    exact z (congrArg Prod.fst (nodup_inj r.nd h hj rfl))
  have uniqk : ∀ {b : Addr}, (i, b) ∈ A → b = a := fun {b} hj => congrArg Prod.snd (nodup_inj r.ndk hj h rfl)
  have nS := (r.old i a h).2
  refine ⟨by rw [List.length_set]; exact r.len, fun j e hj nj => ?_, fun j b hj => ?_, r.old, r.nd, r.ndk, fun x hx => by rw [em]; exact r.gh x hx, fun q hq => ?_, FI_upd r.fi (r.outA h), r.ffs, fun b u n e => ?_⟩
  · have z : i ≠ j := fun z => nj a (z ▸ h)
    rw [List.getElem?_set_ne z] at hj
    rw [em]
    exact r.fr j e hj nj
  · by_cases z : i = j
    · subst z
      have := uniqk hj
      subst this
      refine ⟨d, List.getElem?_set_self hi, e2, ?_⟩
      rw [em, upd_same]
      exact ho
    · obtain ⟨e, h1, h2, h3⟩ := r.ow j b hj
      refine ⟨e, by rw [List.getElem?_set_ne z]; exact h1, h2, ?_⟩
      rw [em, upd_ne (uniq hj z)]
      exact h3
  · rw [upd_ne (fun z => nS (by rw [← z]; exact hq))]
    exact r.mu q hq
  · have h0 := (r.old i a h).1
    rw [upd_ne (ne_of_none e h0)]
    exact r.gr b u n e
theorem Rel.ghost {g : List (V × D)} (r : Rel Ξ H0 S A G σ H env) (h : ∀ x ∈ g, Rp Ξ (ms (S ++ A.map (·.2)) H) x.1 x.2) : Rel Ξ H0 S A (g ++ G) σ H env :=
  ⟨r.len, r.fr, r.ow, r.old, r.nd, r.ndk, fun x hx => (List.mem_append.mp hx).elim (h x) (r.gh x), r.mu, r.fi, r.ffs, r.gr⟩
theorem Rel.unghost {g : List (V × D)} (r : Rel Ξ H0 S A (g ++ G) σ H env) : Rel Ξ H0 S A G σ H env :=
  ⟨r.len, r.fr, r.ow, r.old, r.nd, r.ndk, fun x hx => r.gh x (List.mem_append_right _ hx), r.mu, r.fi, r.ffs, r.gr⟩
/-- a comprehension's own names hold nothing -/
def wipeE (env : Env) : List Nat → Env
  | [] => env
  | i :: vs => (wipeE env vs).set i none
theorem wipeE_len (env : Env) : ∀ vs : List Nat, (wipeE env vs).length = env.length
  | [] => rfl
  | i :: vs => by
    show ((wipeE env vs).set i none).length = _
    rw [List.length_set, wipeE_len env vs]
theorem wipeE_some {env : Env} {i : Nat} {d : D} : ∀ {vs : List Nat}, (wipeE env vs)[i]? = some (some d) → env[i]? = some (some d) ∧ i ∉ vs
  | [], h => ⟨h, fun z => (nomatch z)⟩
  | j :: vs, h => by
    have h : ((wipeE env vs).set j none)[i]? = some (some d) := h
    by_cases z : j = i
    · subst z
      have hl := (List.getElem?_eq_some_iff.mp h).1
      rw [List.length_set] at hl
      rw [List.getElem?_set_self hl] at h
      cases h
    · rw [List.getElem?_set_ne z] at h
      obtain ⟨h1, h2⟩ := wipeE_some h
      exact ⟨h1, fun q => (List.mem_cons.mp q).elim (fun q => z q.symm) h2⟩
theorem wipeE_out {env : Env} {i : Nat} : ∀ {vs : List Nat}, i ∉ vs → (wipeE env vs)[i]? = env[i]?
  | [], _ => rfl
  | j :: vs, h => by
    show ((wipeE env vs).set j none)[i]? = _
    rw [List.getElem?_set_ne (fun z => h (by rw [z]; exact List.mem_cons_self)), wipeE_out fun z => h (List.mem_cons_of_mem _ z)]
theorem Rel.wipe (r : Rel Ξ H0 S A G σ H env) {vs : List Nat} (hv : ∀ i ∈ vs, i ∉ A.map (·.1)) : Rel Ξ H0 S A G (wipe σ vs) H (wipeE env vs) := by
  refine ⟨by rw [wipe_length, wipeE_len]; exact r.len, fun i d h n => ?_, fun i a h => ?_, r.old, r.nd, r.ndk, r.gh, r.mu, r.fi, r.ffs, r.gr⟩
  · obtain ⟨h1, h2⟩ := wipeE_some h
    obtain ⟨v, h3, h4⟩ := r.fr i d h1 n
    exact ⟨v, by rw [wipe_out h2]; exact h3, h4⟩
  · obtain ⟨d, h1, h2, h3⟩ := r.ow i a h
    have ni : i ∉ vs := fun z => hv i z (List.mem_map.mpr ⟨(i, a), h, rfl⟩)
    exact ⟨d, by rw [wipeE_out ni]; exact h1, by rw [wipe_out ni]; exact h2, h3⟩
end
end LP
namespace LP
open PySem PySem.Spec PyProof.Rows L2 PK
/-! ### targets -/
def liG (Ξ : Ctx) (H0 : Hp) (O vs : List Nat) (g : D → Env → W Env) : TG := fun v σ H Q => ∃ S A G env d E, A.map (·.1) = O ∧ Rel Ξ H0 S A G σ H env ∧ Rp Ξ (ms (S ++ A.map (·.2)) H) v d ∧
  (g d env).wp (fun env' => ∀ σ', σ'.length = σ.length → (∀ j, j ∉ vs → σ'[j]? = σ[j]?) → Rel Ξ H0 S A G σ' H env' → Q σ' H) E
def liGs (Ξ : Ctx) (H0 : Hp) (O vs : List Nat) (g : List D → Env → W Env) : TGs := fun xs σ H Q => ∃ S A G env ds E, A.map (·.1) = O ∧ Rel Ξ H0 S A G σ H env ∧ RpAll Ξ (ms (S ++ A.map (·.2)) H) xs ds ∧
  (g ds env).wp (fun env' => ∀ σ', σ'.length = σ.length → (∀ j, j ∉ vs → σ'[j]? = σ[j]?) → Rel Ξ H0 S A G σ' H env' → Q σ' H) E
section
variable {X : Cx} {Ξ : Ctx} {H0 : Hp} {O vs : List Nat} {e : Expr} {es : List Expr} {pos : Pos}
theorem wkG {t t' : TG} (h : PG X e t) (w : ∀ v σ H Q, t' v σ H Q → t v σ H Q) : PG X e t' := ⟨fun pins s σ H x u Q I r q => h.run pins s σ H x u Q I r (w x σ H Q q)⟩
theorem wkGs {t t' : TGs} (h : PGs X es t) (w : ∀ v σ H Q, t' v σ H Q → t v σ H Q) : PGs X es t' := ⟨fun pins s σ H x u Q I r q => h.run pins s σ H x u Q I r (w x σ H Q q)⟩
abbrev LG (Ξ : Ctx) (H0 : Hp) (O vs : List Nat) (X : Cx) (e : Expr) (g : D → Env → W Env) : Prop := PG X e (liG Ξ H0 O vs g)
abbrev LGs (Ξ : Ctx) (H0 : Hp) (O vs : List Nat) (X : Cx) (es : List Expr) (g : List D → Env → W Env) : Prop := PGs X es (liGs Ξ H0 O vs g)
theorem lg_name (i : Nat) (hO : i ∉ O) (hv : i ∈ vs) (h : PG X e (gName i)) : LG Ξ H0 O vs X e fun d env => W.ret (env.set i (some d)) := wkG h fun v σ H Q ⟨S, A, G, env, d, E, hA, r, hd, q⟩ => by
  refine q _ (List.length_set) (fun j hj => List.getElem?_set_ne fun z => hj (by rw [← z]; exact hv)) (r.set (fun a ha => hO ?_) hd)
  rw [← hA]
  exact List.mem_map.mpr ⟨(i, a), ha, rfl⟩
theorem lgs_nil : LGs Ξ H0 O vs X [] fun ds env => match ds with | [] => W.ret env | _ => W.fail := wkGs pgs_nil fun xs σ H Q ⟨S, A, G, env, ds, E, hA, r, hd, q⟩ => by
  cases hd with
  | nil => exact ⟨rfl, q σ rfl (fun _ _ => rfl) r⟩
  | cons _ _ => exact q.elim
def gsW (g : D → Env → W Env) (gs : List D → Env → W Env) (ds : List D) (env : Env) : W Env := match ds with
  | [] => W.fail
  | d :: ds => (g d env).bind fun env' => gs ds env'
theorem lgs_cons {g : D → Env → W Env} {gs : List D → Env → W Env} (h1 : LG Ξ H0 O vs X e g) (h2 : LGs Ξ H0 O vs X es gs) (hs : (assignEach (e :: es) X.env).map (·.2) = assign e X.env :: (assignEach es X.env).map (·.2) := by rfl) :
    LGs Ξ H0 O vs X (e :: es) (gsW g gs) := wkGs (pgs_cons h1 h2 hs) fun xs σ H Q ⟨S, A, G, env, ds, E, hA, r, hd, q⟩ => by
  cases hd with
  | nil => exact q.elim
  | cons hv hvs =>
    refine ⟨_, _, rfl, S, A, G, env, _, E, hA, r, hv, W.mono _ (fun env' k σ' l1 k1 r1 => ?_) (fun _ z => z) q⟩
    exact ⟨S, A, G, env', _, E, hA, r1, hvs, W.mono _ (fun env2 k σ2 l2 k2 r2 => k σ2 (l2.trans l1) (fun j hj => (k2 j hj).trans (k1 j hj)) r2) (fun _ z => z) k⟩
def tupG (n : Nat) (gs : List D → Env → W Env) (d : D) (env : Env) : W Env := match d with
  | .tup ds => (W.want (ds.length = n)).bind fun _ => gs ds env
  | _ => W.fail
theorem lg_tup {k n : Nat} {gs : List D → Env → W Env} (hc : X.calm = true) (hK : X.K = Ξ.K) (h : LGs Ξ H0 O vs X es gs) (hn : (assignEach es X.env).length = n := by rfl) (hst : (assignEach es X.env).findIdx? (·.1) = none := by rfl) :
    LG Ξ H0 O vs X (.Tuple es k pos) (tupG n gs) := wkG (pg_tup hc h hn hst) fun v σ H Q ⟨S, A, G, env, d, E, hA, r, hd, q⟩ => by
  cases d with
  | tup ds =>
    obtain ⟨b, xs, rfl, h1, h2⟩ := hd.tupE
    rw [hK]
    exact ⟨b, xs, rfl, sqT_same ms_sub h1, by rw [h2.len]; exact q.1, S, A, G, env, ds, E, hA, r, h2, q.2⟩
  | _ => exact q.elim
end
/-! ### what is walked -/
/-- J walks ds, while the things of g stand -/
structure Wk (Ξ : Ctx) (J : It) (g : List (V × D)) (ds : List D) : Prop where
  goes : ∀ (M : List Addr) (H : Hp) (i : Nat), Mu M H → (∀ x ∈ g, Rp Ξ (ms M H) x.1 x.2) → i < ds.length → J.go i H
  stops : ∀ (M : List Addr) (H : Hp), Mu M H → (∀ x ∈ g, Rp Ξ (ms M H) x.1 x.2) → J.stop ds.length H
  yields : ∀ (M : List Addr) (H : Hp) (i : Nat) (x : V) (H' : Hp), Mu M H → (∀ x ∈ g, Rp Ξ (ms M H) x.1 x.2) → i < ds.length → J.yld i H x H' → Same H H' ∧ ∃ d, ds[i]? = some d ∧ Rp Ξ (ms M H') x d
def liI (Ξ : Ctx) (H0 : Hp) (O : List Nat) (p : Env → W (List D)) : TI := fun σ H R => ∃ S A G env E, A.map (·.1) = O ∧ Rel Ξ H0 S A G σ H env ∧
  (p env).wp (fun ds => ∀ J H' g, Gr Ξ H H' → Rel Ξ H0 S A G σ H' env → (∀ x ∈ g, Rp Ξ (ms (S ++ A.map (·.2)) H') x.1 x.2) → Wk Ξ J g ds → R J H') E
section
variable {X : Cx} {Ξ : Ctx} {H0 : Hp} {O : List Nat} {tg e : Expr} {pos : Pos}
theorem wkI {t t' : TI} (h : PI X tg e t) (w : ∀ σ H R, t' σ H R → t σ H R) : PI X tg e t' := ⟨fun pins s σ H R I q => h.run pins s σ H R I (w σ H R q)⟩
abbrev LI (Ξ : Ctx) (H0 : Hp) (O : List Nat) (X : Cx) (tg e : Expr) (p : Env → W (List D)) : Prop := PI X tg e (liI Ξ H0 O p)
theorem wk_list {K : PySem.W.Frag} {a : Addr} {ds : List D} (hK : K = Ξ.K) : Wk Ξ (Itl K a) [(.ref a, .lst ds)] ds := by
  subst hK
  have get : ∀ {M : List Addr} {H : Hp}, (∀ x ∈ [((V.ref a : V), D.lst ds)], Rp Ξ (ms M H) x.1 x.2) → ∃ xs, SqL Ξ.K H a xs ∧ RpAll Ξ (ms M H) xs ds := fun {M H} h => by
    obtain ⟨b, xs, e, h1, h2⟩ := (h _ List.mem_cons_self).lstE
    cases e
    exact ⟨xs, SqL.of (ms_sub _ _ h1), h2⟩
  refine ⟨fun M H i _ h hi => ?_, fun M H _ h => ?_, fun M H i x H' _ h hi y => ?_⟩
  · obtain ⟨xs, h1, h2⟩ := get h
    have hx : i < xs.length := by rw [h2.len]; exact hi
    exact ⟨xs, xs[i], h1, by simp [hx]⟩
  · obtain ⟨xs, h1, h2⟩ := get h
    exact ⟨xs, h1, by rw [h2.len]; exact Nat.le_refl _⟩
  · obtain ⟨xs, h1, h2⟩ := get h
    obtain ⟨e, y⟩ := y
    subst e
    exact ⟨Same.refl _, h2.getV (y xs h1)⟩
theorem wk_tup {K : PySem.W.Frag} {a : Addr} {ds : List D} (hK : K = Ξ.K) : Wk Ξ (Itt K a) [(.ref a, .tup ds)] ds := by
  subst hK
  have get : ∀ {M : List Addr} {H : Hp}, (∀ x ∈ [((V.ref a : V), D.tup ds)], Rp Ξ (ms M H) x.1 x.2) → ∃ xs, SqT Ξ.K H a xs ∧ RpAll Ξ (ms M H) xs ds := fun {M H} h => by
    obtain ⟨b, xs, e, h1, h2⟩ := (h _ List.mem_cons_self).tupE
    cases e
    exact ⟨xs, sqT_same ms_sub h1, h2⟩
  refine ⟨fun M H i _ h hi => ?_, fun M H _ h => ?_, fun M H i x H' _ h hi y => ?_⟩
  · obtain ⟨xs, h1, h2⟩ := get h
    have hx : i < xs.length := by rw [h2.len]; exact hi
    exact ⟨xs, xs[i], h1, by simp [hx]⟩
  · obtain ⟨xs, h1, h2⟩ := get h
    exact ⟨xs, h1, by rw [h2.len]; exact Nat.le_refl _⟩
  · obtain ⟨xs, h1, h2⟩ := get h
    obtain ⟨e, y⟩ := y
    subst e
    exact ⟨Same.refl _, h2.getV (y xs h1)⟩
def rangeD (lo : Int) (n : Nat) : List D := (List.range n).map fun (i : Nat) => D.int (lo + (i : Int))
theorem wk_range {lo : Int} {n : Nat} : Wk Ξ (Itr lo n) [] (rangeD lo n) := by
  have l : (rangeD lo n).length = n := by simp [rangeD]
  refine ⟨fun M H i _ _ hi => by rw [l] at hi; exact hi, fun M H _ _ => by rw [l]; exact Nat.le_refl _, fun M H i x H' _ _ hi y => ?_⟩
  rw [l] at hi
  obtain ⟨e, y⟩ := y
  subst e y
  exact ⟨Same.refl _, .int (lo + i), by simp [rangeD, hi], .int _⟩
/-- a list or a tuple, walked -/
def walkLW : D → W (List D)
  | .lst ds => W.ret ds
  | _ => W.fail
def walkTW : D → W (List D)
  | .tup ds => W.ret ds
  | _ => W.fail
theorem li_list {p : Env → W D} (h : LE Ξ H0 O X e p) (hK : X.K = Ξ.K) : LI Ξ H0 O X tg e fun env => (p env).bind walkLW :=
  wkI (pi_list h) fun σ H R ⟨S, A, G, env, E, hA, r, q⟩ => ⟨S, A, G, env, E, hA, r, (p env).mono (fun d k v H' g r' hv => by
    cases d with
    | lst ds =>
      have hv' := hv
      obtain ⟨b, xs, rfl, h1, h2⟩ := hv'.lstE
      exact ⟨b, rfl, ⟨xs, SqL.of (ms_sub _ _ h1)⟩, k _ H' [(.ref b, .lst ds)] g r' (fun x hx => by rw [List.mem_singleton.mp hx]; exact hv) (wk_list hK)⟩
    | _ => exact k.elim) (fun _ z => z) q⟩
theorem li_tup {p : Env → W D} (h : LE Ξ H0 O X e p) (hK : X.K = Ξ.K) : LI Ξ H0 O X tg e fun env => (p env).bind walkTW :=
  wkI (pi_tup h) fun σ H R ⟨S, A, G, env, E, hA, r, q⟩ => ⟨S, A, G, env, E, hA, r, (p env).mono (fun d k v H' g r' hv => by
    cases d with
    | tup ds =>
      have hv' := hv
      obtain ⟨b, xs, rfl, h1, h2⟩ := hv'.tupE
      exact ⟨b, rfl, ⟨xs, by rw [hK]; exact sqT_same ms_sub h1⟩, k _ H' [(.ref b, .tup ds)] g r' (fun x hx => by rw [List.mem_singleton.mp hx]; exact hv) (wk_tup hK)⟩
    | _ => exact k.elim) (fun _ z => z) q⟩
def range1W : List D → W (List D)
  | [.int n] => (W.want (-(2 ^ 62) ≤ n ∧ n < 2 ^ 62)).bind fun _ => W.ret (rangeD 0 n.toNat)
  | _ => W.fail
theorem li_range {a : Expr} {p : Env → W (List D)} {pp pos : Pos} (hg : Gl X "range") (hm : X.mg "range" = none) (ha : LA Ξ H0 O X [a] p) (hs : starEach [a] X.env = [(false, eval a X.env)] := by rfl) :
    LI Ξ H0 O X tg (.Call (.Name "range" pp) [a] [] pos) fun env => (p env).bind range1W :=
  wkI (pi_range1 hg hm ha hs) fun σ H R ⟨S, A, G, env, E, hA, r, q⟩ => ⟨S, A, G, env, E, hA, r, (p env).mono (fun ds k vs H' g r' hv => by
    match ds, k, hv with
    | [.int n], k, .cons (.int _) .nil => exact ⟨n, rfl, k.1.1, k.1.2, k.2 _ H' [] g r' (fun _ hx => (nomatch hx)) wk_range⟩) (fun _ z => z) q⟩
end
/-! ### comprehensions -/
def lcW (g : D → Env → W Env) (t : Env → W Bool) (el : Env → W D) (env : Env) : List D → List D → W (List D)
  | [], acc => W.ret acc
  | d :: ds, acc => (W.calm (g d env)).bind fun env' => (W.calm (t env')).bind fun b => W.ite b
    ((W.calm (el env')).bind fun y => (W.want (acc.length < sizeLine)).bind fun _ => lcW g t el env ds (acc ++ [y])) (lcW g t el env ds acc)
/-- the new list -/
def liN (Ξ : Ctx) (H0 : Hp) (O : List Nat) (p : Env → W D) : TE := fun σ H Q => ∃ S A G env E, A.map (·.1) = O ∧ Rel Ξ H0 S A G σ H env ∧
  (p env).wp (fun d => ∀ (l : Addr) H', Gr Ξ H H' → Ξ.FI H' → H l = none → Ow Ξ (ms (l :: (S ++ A.map (·.2))) H') (H' l) d → Q (.ref l) H') E
section
variable {X : Cx} {Ξ : Ctx} {H0 : Hp} {O : List Nat}
theorem wipe_eq {σ σ' : L2.St} : ∀ {vs : List Nat}, σ'.length = σ.length → (∀ j, j ∉ vs → σ'[j]? = σ[j]?) → wipe σ' vs = wipe σ vs := by
  intro vs hl h
  refine List.ext_getElem? fun j => ?_
  by_cases z : j ∈ vs
  · by_cases q : j < σ.length
    · have key : ∀ τ : L2.St, τ.length = σ.length → (wipe τ vs)[j]? = some none := fun τ ht => by
        cases e : (wipe τ vs)[j]? with
        | none =>
          have := List.getElem?_eq_none_iff.mp e
          rw [wipe_length] at this
          omega
        | some o =>
          cases o with
          | none => rfl
          | some x => exact absurd z (wipe_some e).2
      rw [key σ' hl, key σ rfl]
    · rw [List.getElem?_eq_none (by rw [wipe_length]; omega), List.getElem?_eq_none (by rw [wipe_length]; omega)]
  · rw [wipe_out z, wipe_out z]
    exact h j z
theorem wipe_wipe {σ : L2.St} {vs : List Nat} : wipe (wipe σ vs) vs = wipe σ vs := wipe_eq (wipe_length _ _) fun j hj => wipe_out hj
/-- frozen as it is made -/
theorem le_new {e : Expr} {p : Env → W D} (h : PE X e (liN Ξ H0 O p)) : LE Ξ H0 O X e p := wkE h fun σ H Q ⟨S, A, G, env, E, hA, r, q⟩ =>
  ⟨S, A, G, env, E, hA, r, (p env).mono (fun d k l H' g f nl ho => by
    refine k (.ref l) H' g (r.grow g f) ?_
    have nM := r.muA.out nl
    generalize hq : H' l = o at ho
    cases ho with
    | lst ho => exact .lst (ms_at hq nM) (ho.same (ms_mono fun b hb => List.mem_cons_of_mem _ hb))) (fun _ z => z) q⟩
theorem lc_reads {wi : TI} {g : TG} {tt : TT} {te : TE} {vs : List Nat} {p : Env → W (List D)} {gW : D → Env → W Env} {tW : Env → W Bool} {eW : Env → W D} (hvs : ∀ i ∈ vs, i ∉ O)
    (hi : ∀ σ H R, liI Ξ H0 O p σ H R → wi σ H R) (hg : ∀ v σ H Q, liG Ξ H0 O vs gW v σ H Q → g v σ H Q) (ht : ∀ σ H Q, liT Ξ H0 O tW σ H Q → tt σ H Q) (he : ∀ σ H Q, liE Ξ H0 O eW σ H Q → te σ H Q) :
    ∀ σ H Q, liN Ξ H0 O (fun env => (p env).bind fun ds => (lcW gW tW eW (wipeE env vs) ds []).bind fun l => W.ret (.lst l)) σ H Q → tLc wi g tt te vs σ H Q := by
  rintro σ H Q ⟨S, A, G, env, E, hA, r, q⟩
  refine hi σ H _ ⟨S, A, G, env, E, hA, r, (p env).mono (fun ds k J H1 gh g1 r1 hgh w D nD => ?_) (fun _ z => z) q⟩
  have nDM := r1.muA.out nD
  have nDf : D ∉ Ξ.ff := ff_out r1.fi nD
  have hwp : ∀ i ∈ vs, i ∉ A.map (·.1) := fun i hi => by rw [hA]; exact hvs i hi
  -- the state of the turns
  let Pv : Nat → Hp → Prop := fun i H2 => ∃ us acc, Gr Ξ H1 H2 ∧ Rel Ξ H0 (D :: S) A (gh ++ G) σ H2 env ∧ H2 D = some (.lst us) ∧ RpAll Ξ (ms ((D :: S) ++ A.map (·.2)) H2) us acc ∧
    (lcW gW tW eW (wipeE env vs) (ds.drop i) acc).wp (fun l => ∀ (l' : Addr) H', Gr Ξ H H' → Ξ.FI H' → H l' = none → Ow Ξ (ms (l' :: (S ++ A.map (·.2))) H') (H' l') (.lst l) → Q (.ref l') H') E
  have hcons : ∀ {H2 : Hp}, ms (D :: (S ++ A.map (·.2))) H2 = ms ((D :: S) ++ A.map (·.2)) H2 := rfl
  have nDH : H D = none := by
    cases q : H D with
    | none => rfl
    | some o =>
      have := g1 D o nDf q
      rw [nD] at this
      cases this
  refine ⟨fun i m H2 => m = ds.length - i ∧ i ≤ ds.length ∧ Pv i H2, ⟨ds.length, rfl, Nat.zero_le _, [], [], ?_⟩, ?_⟩
  · refine ⟨Gr.of (same_new (Same.refl H1) nD), (r1.ghost hgh).mask nD trivial, upd_same, .nil, k⟩
  · rintro i m H2 ⟨rfl, hi2, us, acc, g2, r2, eD, ha, k2⟩
    have gh2 : ∀ x ∈ gh, Rp Ξ (ms ((D :: S) ++ A.map (·.2)) H2) x.1 x.2 := fun x hx => r2.gh x (List.mem_append_left _ hx)
    by_cases hlt : i < ds.length
    · refine .inr ⟨w.goes _ H2 i r2.muA gh2 hlt, Pv (i + 1), fun H' p' => ⟨ds.length - (i + 1), by omega, rfl, hlt, p'⟩, fun x H3 y => ?_⟩
      obtain ⟨s3, d, hd, rx⟩ := w.yields _ H2 i x H3 r2.muA gh2 hlt y
      have r3 := r2.same s3
      have eD3 := s3 _ _ eD
      have ha3 := ha.same ((Gr.of s3 : Gr Ξ _ _).ms r2.ffM)
      rw [List.drop_eq_getElem_cons hlt] at k2
      have ed : ds[i] = d := by
        rw [List.getElem?_eq_getElem hlt] at hd
        exact Option.some.inj hd
      rw [ed] at k2
      refine hg x _ H3 _ ⟨D :: S, A, gh ++ G, wipeE env vs, d, fun _ => False, hA, r3.wipe hwp, rx, W.mono _ (fun env' k3 σ' l' k' r4 => ?_) (fun _ z => z) k2⟩
      refine ⟨(wipe_eq l' k').trans wipe_wipe, ht σ' H3 _ ⟨D :: S, A, gh ++ G, env', fun _ => False, hA, r4, W.mono _ (fun b k4 H4 g4 r5 => ?_) (fun _ z => z) k3⟩⟩
      have back : ∀ {H5 : Hp}, Rel Ξ H0 (D :: S) A (gh ++ G) σ' H5 env' → Gr Ξ H3 H5 → Rel Ξ H0 (D :: S) A (gh ++ G) σ H5 env := fun {H5} rr gg => r3.grow gg rr.fi
      have eD4 := g4 _ _ nDf eD3
      have ha4 := ha3.same (g4.ms r3.ffM)
      cases b with
      | false => exact iteF ⟨us, acc, (g2.trans (Gr.of s3)).trans g4, back r5 g4, eD4, ha4, k4⟩
      | true =>
        refine iteT (he σ' H4 _ ⟨D :: S, A, gh ++ G, env', fun _ => False, hA, r5, W.mono _ (fun y k5 v H5 g5 r6 hv => ?_) (fun _ z => z) k4⟩)
        have eD5 := g5 _ _ nDf eD4
        have ha5 := ha4.same (g5.ms r5.ffM)
        have r7 := back r6 (g4.trans g5)
        have hD : D ∈ (D :: S) ++ A.map (·.2) := List.mem_cons_self
        refine ⟨us, eD5, by rw [ha5.len]; exact k5.1, us ++ [v], acc ++ [y], fun b o n e => ?_, ?_, upd_same, ?_, k5.2⟩
        · rw [upd_ne (ne_of_none e nD)]
          exact ((g2.trans (Gr.of s3)).trans (g4.trans g5)) b o n e
        · refine ⟨r7.len, fun j z h n => ?_, fun j a h => ?_, r7.old, r7.nd, r7.ndk, fun x hx => ?_, r7.mu.upd trivial, FI_upd r7.fi nDf, r7.ffs, fun b o n e => ?_⟩
          · rw [ms_upd hD]
            exact r7.fr j z h n
          · have na : a ≠ D := fun z => (r7.old j a h).2 (by rw [z]; exact List.mem_cons_self)
            rw [ms_upd hD, upd_ne na]
            exact r7.ow j a h
          · rw [ms_upd hD]
            exact r7.gh x hx
          · have nb : b ≠ D := fun z => by
              rw [z] at e
              have := r1.gr D o (by rw [← z]; exact n) e
              rw [nD] at this
              cases this
            rw [upd_ne nb]
            exact r7.gr b o n e
        · rw [ms_upd hD]
          exact ha5.snoc hv
    · have e : i = ds.length := by omega
      subst e
      refine .inl ⟨w.stops _ H2 r2.muA gh2, ?_⟩
      rw [List.drop_length] at k2
      refine k2 D H2 (g1.trans g2) r2.fi nDH ?_
      rw [eD]
      exact .lst ha
end
end LP
namespace LP
open PySem PySem.Spec PyProof.Rows L2 PK
/-! ### statements -/
inductive Fl where
  | nx (e : Env)
  | rt (d : D)
  | bk (e : Env)
  | ct (e : Env)
/-- what is wanted behind -/
def FQ (Ξ : Ctx) (H0 : Hp) (S : List Addr) (G : List (V × D)) (O' Ob : List Nat) (De : Ends) : Fl → Prop
  | .nx env => ∀ A σ H, A.map (·.1) = O' → Rel Ξ H0 S A G σ H env → De.nx σ H
  | .rt d => ∀ v H, Gr Ξ H0 H → Ξ.FI H → Rp Ξ (ms S H) v d → De.rt v H
  | .bk env => ∀ A σ H, A.map (·.1) = Ob → Rel Ξ H0 S A G σ H env → De.bk σ H
  | .ct env => ∀ A σ H, A.map (·.1) = Ob → Rel Ξ H0 S A G σ H env → De.ct σ H
def liS (Ξ : Ctx) (H0 : Hp) (O O' Ob : List Nat) (p : Env → W Fl) : TS := fun De σ H => ∃ S A G env E, A.map (·.1) = O ∧ Rel Ξ H0 S A G σ H env ∧ (p env).wp (FQ Ξ H0 S G O' Ob De) E
def thenW (m : W Fl) (q : Env → W Fl) : W Fl := m.bind fun f => match f with
  | .nx e => q e
  | f => W.ret f
section
variable {X : Cx} {Ξ : Ctx} {H0 : Hp} {O O1 O2 O' Ob : List Nat} {st : Stmt} {sts a b : List Stmt} {e c : Expr} {pos : Pos} {p q : Env → W Fl}
abbrev LS (Ξ : Ctx) (H0 : Hp) (O O' Ob : List Nat) (X : Cx) (st : Stmt) (p : Env → W Fl) : Prop := PS X st (liS Ξ H0 O O' Ob p)
abbrev LSs (Ξ : Ctx) (H0 : Hp) (O O' Ob : List Nat) (X : Cx) (st : List Stmt) (p : Env → W Fl) : Prop := PSs X st (liS Ξ H0 O O' Ob p)
theorem keys_filter {A : List (Nat × Addr)} {O1 O2 : List Nat} (h : A.map (·.1) = O1) (hs : O1.filter (fun i => decide (i ∈ O2)) = O2) : (A.filter fun x => decide (x.1 ∈ O2)).map (·.1) = O2 := by
  have e : (A.filter fun x => decide (x.1 ∈ O2)).map (·.1) = (A.map (·.1)).filter fun i => decide (i ∈ O2) := by
    rw [List.filter_map]
    rfl
  rw [e, h, hs]
/-- fewer owned names at the start -/
theorem liS_sub (hs : O.filter (fun i => decide (i ∈ O2)) = O2) {De : Ends} {σ : L2.St} {H : Hp} (h : liS Ξ H0 O O' Ob p De σ H) : liS Ξ H0 O2 O' Ob p De σ H := by
  obtain ⟨S, A, G, env, E, hA, r, k⟩ := h
  exact ⟨S, _, G, env, E, keys_filter hA hs, r.sub fun i => decide (i ∈ O2), k⟩
theorem lss_sub (hs : O.filter (fun i => decide (i ∈ O2)) = O2 := by decide) (h : LSs Ξ H0 O2 O' Ob X sts p) : LSs Ξ H0 O O' Ob X sts p := wkSs h fun De σ H q => liS_sub hs q
theorem lss_nil : LSs Ξ H0 O O Ob X [] fun env => W.ret (.nx env) := wkSs pss_nil fun De σ H ⟨S, A, G, env, E, hA, r, k⟩ => k A σ H hA r
theorem lss_cons (h1 : LS Ξ H0 O O1 Ob X st p) (h2 : LSs Ξ H0 O2 O' Ob X sts q) (hs : O1.filter (fun i => decide (i ∈ O2)) = O2 := by decide) : LSs Ξ H0 O O' Ob X (st :: sts) fun env => thenW (p env) q :=
  wkSs (pss_cons h1 h2) fun De σ H ⟨S, A, G, env, E, hA, r, k⟩ => ⟨S, A, G, env, E, hA, r, (p env).mono (fun f k => by
    cases f with
    | nx env' => exact fun A' σ' H' hA' r' => ⟨S, _, G, env', E, keys_filter hA' hs, r'.sub fun i => decide (i ∈ O2), k⟩
    | rt d => exact k
    | bk env' => exact k
    | ct env' => exact k) (fun _ z => z) k⟩
theorem lss_one (h1 : LS Ξ H0 O O' Ob X st p) : LSs Ξ H0 O O' Ob X [st] p := pss_one h1
theorem ls_pass : LS Ξ H0 O O Ob X (.Pass pos) fun env => W.ret (.nx env) := wkS ps_pass fun De σ H ⟨S, A, G, env, E, hA, r, k⟩ => k A σ H hA r
theorem ls_break : LS Ξ H0 Ob O' Ob X (.Break pos) fun env => W.ret (.bk env) := wkS ps_break fun De σ H ⟨S, A, G, env, E, hA, r, k⟩ => k A σ H hA r
theorem ls_continue : LS Ξ H0 Ob O' Ob X (.Continue pos) fun env => W.ret (.ct env) := wkS ps_continue fun De σ H ⟨S, A, G, env, E, hA, r, k⟩ => k A σ H hA r
theorem ls_ret {pe : Env → W D} (h : LE Ξ H0 O X e pe) : LS Ξ H0 O O' Ob X (.Return (some e) pos) fun env => (pe env).bind fun d => W.ret (.rt d) :=
  wkS (ps_ret h) fun De σ H ⟨S, A, G, env, E, hA, r, k⟩ => ⟨S, A, G, env, E, hA, r, (pe env).mono (fun d k v H' g r' hv => k v H' r'.gr r'.fi (hv.same (ms_mono fun b hb => List.mem_append_left _ hb))) (fun _ z => z) k⟩
theorem ls_retN : LS Ξ H0 O O' Ob X (.Return none pos) fun env => W.ret (.rt .non) := wkS ps_retN fun De σ H ⟨S, A, G, env, E, hA, r, k⟩ => k .non H r.gr r.fi .non
theorem ls_if {pt : Env → W Bool} (hc : LT Ξ H0 O X c pt) (ha : LSs Ξ H0 O O' Ob X a p) (hb : LSs Ξ H0 O O' Ob X b q) : LS Ξ H0 O O' Ob X (.If c a b pos) fun env => (pt env).bind fun k => W.ite k (p env) (q env) :=
  wkS (ps_if hc ha hb) fun De σ H ⟨S, A, G, env, E, hA, r, k⟩ => ⟨S, A, G, env, E, hA, r, (pt env).mono (fun b k H' g r' => by
    cases b with
    | true => exact iteT ⟨S, A, G, env, E, hA, r', k⟩
    | false => exact iteF ⟨S, A, G, env, E, hA, r', k⟩) (fun _ z => z) k⟩
theorem ls_expr {pe : Env → W D} (h : LE Ξ H0 O X e pe) (hs : swapsWith e none pos.line X.env = pure false := by rfl) : LS Ξ H0 O O Ob X (.Expr e pos) fun env => (pe env).bind fun _ => W.ret (.nx env) :=
  wkS (ps_expr h hs) fun De σ H ⟨S, A, G, env, E, hA, r, k⟩ => ⟨S, A, G, env, E, hA, r, (pe env).mono (fun d k v H' g r' hv => k A σ H' hA r') (fun _ z => z) k⟩
/-- x = e -/
theorem asg_reads {te : TE} {pe : Env → W D} {i : Nat} (hO : O.filter (fun j => decide (j ∈ O')) = O') (hi : i ∉ O') (h : ∀ σ H Q, liE Ξ H0 O pe σ H Q → te σ H Q) :
    ∀ De σ H, liS Ξ H0 O O' Ob (fun env => (pe env).bind fun d => W.ret (.nx (env.set i (some d)))) De σ H → tAsg te (gName i) De σ H := by
  rintro De σ H ⟨S, A, G, env, E, hA, r, k⟩
  refine h σ H _ ⟨S, A, G, env, E, hA, r, (pe env).mono (fun d k v H' g r' hv => ?_) (fun _ z => z) k⟩
  refine k _ _ H' (keys_filter hA hO) ((r'.sub fun j => decide (j ∈ O')).set (fun a ha => hi ?_) (hv.same (ms_mono fun b hb => ?_)))
  · exact of_decide_eq_true (List.mem_filter.mp ha).2
  · rcases List.mem_append.mp hb with hb | hb
    · exact List.mem_append_left _ hb
    · obtain ⟨x, hx, rfl⟩ := List.mem_map.mp hb
      exact List.mem_append_right _ (List.mem_map.mpr ⟨x, (List.mem_filter.mp hx).1, rfl⟩)
theorem ls_set {pe : Env → W D} {i : Nat} {x : Str} {pos' : Pos} (hN : X.N.Nodup) (hi : X.N[i]? = some x) (hx : Loc X.env.scope x) (he : LE Ξ H0 O X e pe) (hO : O.filter (fun j => decide (j ∈ O')) = O' := by decide) (hi2 : i ∉ O' := by decide)
    (hs : swapsWith e (some (.Name x pos')) pos.line X.env = pure false := by rfl) (hf : X.fn x = true ∨ X.env.scope.names.lookup x = some .local := by first | exact .inl rfl | exact .inr rfl | assumption) :
    LS Ξ H0 O O' Ob X (.Assign [.Name x pos'] e pos) fun env => (pe env).bind fun d => W.ret (.nx (env.set i (some d))) :=
  wkS (ps_set hN hi hx he hs hf) (asg_reads hO hi2 fun _ _ _ h => h)
/-- x = a new list, owned -/
theorem own_reads {te : TE} {pe : Env → W D} {i : Nat} (hO : O.filter (fun j => decide (j ∈ O')) = O') (hi : i ∉ O') (h : ∀ σ H Q, liN Ξ H0 O pe σ H Q → te σ H Q) :
    ∀ De σ H, liS Ξ H0 O (i :: O') Ob (fun env => (pe env).bind fun d => (W.want (i < env.length)).bind fun _ => W.ret (.nx (env.set i (some d)))) De σ H → tAsg te (gName i) De σ H := by
  rintro De σ H ⟨S, A, G, env, E, hA, r, k⟩
  refine h σ H _ ⟨S, A, G, env, E, hA, r, (pe env).mono (fun d k l H' g f nl ho => ?_) (fun _ z => z) k⟩
  refine k.2 _ _ H' (by rw [List.map_cons, keys_filter hA hO]) ((r.sub fun j => decide (j ∈ O')).own (fun a ha => hi ?_) k.1 nl g f (ho.same (ms_mono fun b hb => ?_)))
  · exact of_decide_eq_true (List.mem_filter.mp ha).2
  · rcases List.mem_cons.mp hb with hb | hb
    · rw [hb]
      exact List.mem_cons_self
    · rcases List.mem_append.mp hb with hb | hb
      · exact List.mem_cons_of_mem _ (List.mem_append_left _ hb)
      · obtain ⟨x, hx, rfl⟩ := List.mem_map.mp hb
        exact List.mem_cons_of_mem _ (List.mem_append_right _ (List.mem_map.mpr ⟨x, (List.mem_filter.mp hx).1, rfl⟩))
theorem ls_own {pe : Env → W D} {i : Nat} {x : Str} {pos' : Pos} (hN : X.N.Nodup) (hi : X.N[i]? = some x) (hx : Loc X.env.scope x) (he : PE X e (liN Ξ H0 O pe)) (hO : O.filter (fun j => decide (j ∈ O')) = O' := by decide) (hi2 : i ∉ O' := by decide)
    (hs : swapsWith e (some (.Name x pos')) pos.line X.env = pure false := by rfl) (hf : X.fn x = true ∨ X.env.scope.names.lookup x = some .local := by first | exact .inl rfl | exact .inr rfl | assumption) :
    LS Ξ H0 O (i :: O') Ob X (.Assign [.Name x pos'] e pos) fun env => (pe env).bind fun d => (W.want (i < env.length)).bind fun _ => W.ret (.nx (env.set i (some d))) :=
  wkS (ps_set hN hi hx he hs hf) (own_reads hO hi2 fun _ _ _ h => h)
/-- a, b = e -/
theorem ls_asg {pe : Env → W D} {tg : Expr} {gW : D → Env → W Env} {vs : List Nat} (he : LE Ξ H0 O X e pe) (hg : LG Ξ H0 O vs X tg gW) (hs : swapsWithSole [tg] e pos.line X.env = pure false := by rfl) (hw : swappedStores [tg] e X.env = pure none := by rfl) (h1 : (assignEach [tg] X.env).map (·.2) = [assign tg X.env] := by rfl) :
    LS Ξ H0 O O Ob X (.Assign [tg] e pos) fun env => (pe env).bind fun d => (gW d env).bind fun env' => W.ret (.nx env') :=
  wkS (ps_asg he hg hs hw h1) fun De σ H ⟨S, A, G, env, E, hA, r, k⟩ => ⟨S, A, G, env, E, hA, r, (pe env).mono (fun d k v H' g r' hv =>
    ⟨S, A, G, env, d, E, hA, r', hv, W.mono _ (fun env' k σ' _ _ r2 => k A σ' H' hA r2) (fun _ z => z) k⟩) (fun _ z => z) k⟩
/-! ### loops -/
def forW (g : D → Env → W Env) (p : Env → W Fl) : List D → Env → W Fl
  | [], env => W.ret (.nx env)
  | d :: ds, env => (g d env).bind fun env1 => (p env1).bind fun f => match f with
    | .nx e => forW g p ds e
    | .ct e => forW g p ds e
    | .bk e => W.ret (.nx e)
    | .rt d => W.ret (.rt d)
theorem ls_for {tg iter : Expr} {body : List Stmt} {pi : Env → W (List D)} {gW : D → Env → W Env} {vs : List Nat} (hp : PassesOwn (model X.prog X.w) X.A X.env X.xe) (hc : X.calm = true) (hi : LI Ξ H0 O X tg iter pi) (hg : LG Ξ H0 O vs X tg gW) (hb : LSs Ξ H0 O O O X body p)
    (hs : ∀ x, foldedSetIterable iter X.env x = pure x := by intro _; rfl) : LS Ξ H0 O O Ob X (.For tg iter body [] pos) fun env => (pi env).bind fun ds => forW gW p ds env := by
  refine wkS (ps_for hp hc hi hg hb hs) fun De σ H ⟨S, A, G, env, E, hA, r, k⟩ => ⟨S, A, G, env, E, hA, r, (pi env).mono (fun ds k J H1 gh g1 r1 hgh w => ?_) (fun _ z => z) k⟩
  refine ⟨fun i m σ' H' => m = ds.length - i ∧ i ≤ ds.length ∧ ∃ A' env', A'.map (·.1) = O ∧ Rel Ξ H0 S A' (gh ++ G) σ' H' env' ∧ (forW gW p (ds.drop i) env').wp (FQ Ξ H0 S G O Ob De) E, ⟨ds.length, rfl, Nat.zero_le _, A, env, hA, r1.ghost hgh, k⟩, ?_⟩
  rintro i m σ2 H2 ⟨rfl, hi2, A2, env2, hA2, r2, k2⟩
  have gh2 : ∀ x ∈ gh, Rp Ξ (ms (S ++ A2.map (·.2)) H2) x.1 x.2 := fun x hx => r2.gh x (List.mem_append_left _ hx)
  by_cases hlt : i < ds.length
  · refine .inr ⟨w.goes _ H2 i r2.muA gh2 hlt, fun σ' H' => ∃ A' env', A'.map (·.1) = O ∧ Rel Ξ H0 S A' (gh ++ G) σ' H' env' ∧ (forW gW p (ds.drop (i + 1)) env').wp (FQ Ξ H0 S G O Ob De) E, fun σ' H' p' => ⟨ds.length - (i + 1), by omega, rfl, hlt, p'⟩, fun x H3 y => ?_⟩
    obtain ⟨s3, d, hd, rx⟩ := w.yields _ H2 i x H3 r2.muA gh2 hlt y
    rw [List.drop_eq_getElem_cons hlt] at k2
    have ed : ds[i] = d := by
      rw [List.getElem?_eq_getElem hlt] at hd
      exact Option.some.inj hd
    rw [ed] at k2
    refine ⟨S, A2, gh ++ G, env2, d, E, hA2, r2.same s3, rx, W.mono _ (fun env3 k3 σ3 _ _ r3 => ?_) (fun _ z => z) k2⟩
    refine ⟨S, A2, gh ++ G, env3, E, hA2, r3, (p env3).mono (fun f k4 => ?_) (fun _ z => z) k3⟩
    cases f with
    | nx e => exact fun A' σ' H' hA' r' => ⟨A', e, hA', r', k4⟩
    | ct e => exact fun A' σ' H' hA' r' => ⟨A', e, hA', r', k4⟩
    | bk e => exact fun A' σ' H' hA' r' => k4 A' σ' H' hA' r'.unghost
    | rt d => exact k4
  · have e : i = ds.length := by omega
    subst e
    rw [List.drop_length] at k2
    exact .inl ⟨w.stops _ H2 r2.muA gh2, k2 A2 σ2 H2 hA2 r2.unghost⟩
def whileN (t : Env → W Bool) (p : Env → W Fl) : Nat → Env → W Fl
  | 0, _ => W.fail
  | n + 1, env => (t env).bind fun b => W.ite b ((p env).bind fun f => match f with
    | .nx e => whileN t p n e
    | .ct e => whileN t p n e
    | .bk e => W.ret (.nx e)
    | .rt d => W.ret (.rt d)) (W.ret (.nx env))
def whileW (t : Env → W Bool) (p : Env → W Fl) (env : Env) : W Fl := ⟨fun Q E => ∃ n, (whileN t p n env).wp Q E, fun h1 h2 ⟨n, q⟩ => ⟨n, W.mono _ h1 h2 q⟩⟩
theorem ls_while {body : List Stmt} {pt : Env → W Bool} (hp : PassesOwn (model X.prog X.w) X.A X.env X.xe) (hc : LT Ξ H0 O X c pt) (hb : LSs Ξ H0 O O O X body p) : LS Ξ H0 O O Ob X (.While c body [] pos) fun env => whileW pt p env := by
  refine wkS (ps_while hp hc hb) fun De σ H ⟨S, A, G, env, E, hA, r, n, k⟩ => ?_
  refine ⟨fun m σ' H' => ∃ A' env', A'.map (·.1) = O ∧ Rel Ξ H0 S A' G σ' H' env' ∧ (whileN pt p m env').wp (FQ Ξ H0 S G O Ob De) E, ⟨n, A, env, hA, r, k⟩, ?_⟩
  rintro m σ2 H2 ⟨A2, env2, hA2, r2, k2⟩
  cases m with
  | zero => exact k2.elim
  | succ m =>
    refine ⟨S, A2, G, env2, E, hA2, r2, (pt env2).mono (fun b k3 H3 g3 r3 => ?_) (fun _ z => z) k2⟩
    cases b with
    | false => exact iteF (k3 A2 σ2 H3 hA2 r3)
    | true =>
      refine iteT ⟨fun σ' H' => ∃ A' env', A'.map (·.1) = O ∧ Rel Ξ H0 S A' G σ' H' env' ∧ (whileN pt p m env').wp (FQ Ξ H0 S G O Ob De) E, fun σ' H' p' => ⟨m, by omega, p'⟩, ?_⟩
      refine ⟨S, A2, G, env2, E, hA2, r3, (p env2).mono (fun f k4 => ?_) (fun _ z => z) k3⟩
      cases f with
      | nx e => exact fun A' σ' H' hA' r' => ⟨A', e, hA', r', k4⟩
      | ct e => exact fun A' σ' H' hA' r' => ⟨A', e, hA', r', k4⟩
      | bk e => exact fun A' σ' H' hA' r' => k4 A' σ' H' hA' r'
      | rt d => exact k4
end
/-! ### defs -/
/-- how an error stands -/
def ExAt (Ξ : Ctx) (S : List Addr) (H : Hp) (C d : Addr) (ex : Ex) : Prop := Ξ.cl ex.c = some C ∧ ∃ xs, H d = some (.xd ((Ξ.fl ex.c).zip xs)) ∧ RpAll Ξ (ms S H) xs ex.l
/-- a def by value: p of what is handed in -/
def liF (Γ : Sig) (p : List D → W D) : Sp := fun vs H Q E => ∃ (fd : Option (Addr × Addr)) (S : List Addr) (ds : List D) (EE : Ex → Prop),
  Mu S H ∧ (∀ b ∈ (Ctx.mk Γ fd).ff, b ∈ S) ∧ (Ctx.mk Γ fd).FI H ∧ RpAll (Ctx.mk Γ fd) (ms S H) vs ds ∧
  (∀ ex, EE ex → ∀ C d H', Gr (Ctx.mk Γ fd) H H' → (Ctx.mk Γ fd).FI H' → H d = none → ExAt (Ctx.mk Γ fd) S H' C d ex → E (.ref C) (some d) H') ∧
  (p ds).wp (fun d => ∀ v H', Gr (Ctx.mk Γ fd) H H' → (Ctx.mk Γ fd).FI H' → Rp (Ctx.mk Γ fd) (ms S H') v d → Q v H') EE
def startE (n : Nat) (ds : List D) : Env := ds.map some ++ List.replicate (n - ds.length) none
/-- what a body gives -/
def endW (m : W Fl) : W D := m.bind fun f => match f with
  | .rt d => W.ret d
  | .nx _ => W.ret .non
  | _ => W.fail
theorem Rel.start {Ξ : Ctx} {H : Hp} {S : List Addr} {vs : List V} {ds : List D} {N : List Str} (mu : Mu S H) (hf : ∀ b ∈ Ξ.ff, b ∈ S) (fi : Ξ.FI H) (h : RpAll Ξ (ms S H) vs ds) : Rel Ξ H S [] [] (L2.start N vs) H (startE N.length ds) := by
  have em : S ++ ([] : List (Nat × Addr)).map (·.2) = S := List.append_nil S
  refine ⟨?_, fun i d hd _ => ?_, fun i a h => (nomatch h), fun i a h => (nomatch h), List.nodup_nil, List.nodup_nil, fun x hx => (nomatch hx), mu, fi, hf, Gr.refl H⟩
  · unfold L2.start startE
    simp [h.len]
  · unfold startE at hd
    have hl : i < ds.length := by
      rcases Nat.lt_or_ge i ds.length with z | z
      · exact z
      · rw [List.getElem?_append_right (by rw [List.length_map]; exact z)] at hd
        have := List.mem_of_getElem? hd
        rw [List.mem_replicate] at this
        cases this.2
    rw [List.getElem?_append_left (by rw [List.length_map]; exact hl), List.getElem?_map] at hd
    obtain ⟨d', e1, e2⟩ := Option.map_eq_some_iff.mp hd
    cases e2
    obtain ⟨v, h1, h2⟩ := h.get e1
    refine ⟨v, ?_, by rw [em]; exact h2⟩
    unfold L2.start
    rw [List.getElem?_append_left (by rw [List.length_map, h.len]; exact hl), List.getElem?_map, h1]
    rfl
section
variable {Γ : Sig} {mg : Str → Option Value} {base : Heap}
/-- THE RULE for a def by value -/
theorem ok_by {x qual : Str} {st : Stmt} {f : Addr} {fd : FuncData} {N ps : List Str} {k : Nat} {p : List D → W D} {pb : Env → W Fl} (F : Fun Γ.K x qual st f fd) (Sc : FnScope N ps (defScope st))
    (hbody : ∀ (fe : Option (Addr × Addr)) (cdv : Value) (A : Around) (outer : List PySem.Env) (s : Shared) (H : Hp) (E : XK), Room k (A.deeper (envOfC qual (defScope st) s.heap.objs.size f cdv)) →
      LSs ⟨Γ, fe⟩ H [] [] [] (cxOf CX0 Γ.P Γ.w Γ.K mg base N qual (defScope st) f cdv A outer s H E).nox (defBody st) pb)
    (hp : ∀ ds Q E, (p ds).wp Q E → ds.length = ps.length ∧ (endW (pb (startE N.length ds))).wp Q E) : FnOk Γ.P Γ.w Γ.K mg base CX0 (k + 1) f fd ps (liF Γ p) := by
  refine F.ok Sc (fun vs H Q E ⟨fe, S, ds, EE, mu, hf, fi, hv, hE, q⟩ => ?_) (fun cdv A outer s H vs Q E hr ⟨fe, S, ds, EE, mu, hf, fi, hv, hE, q⟩ => ?_)
  · rw [hv.len]
    exact (hp ds _ _ q).1
  · refine ⟨_, hbody fe cdv A outer s H E hr, S, [], [], startE N.length ds, EE, rfl, Rel.start mu hf fi hv, ?_⟩
    refine W.mono _ (fun fl' k => ?_) (fun _ z => z) (hp ds _ _ q).2
    cases fl' with
    | nx e => exact fun A' σ' H' hA' r' => k .non H' r'.gr r'.fi .non
    | rt d => exact fun v H' g f hv => k v H' g f hv
    | bk e => exact k.elim
    | ct e => exact k.elim
/-- .. of a def that shows things -/
theorem ok_byG {x qual : Str} {st : Stmt} {f : Addr} {fd : FuncData} {N ps : List Str} {k : Nat} {p : List D → W D} {pb : Env → W Fl} (F : Fun Γ.K x qual st f fd) (Sc : FnScope N ps (defScope st))
    (hbody : ∀ (fe : Option (Addr × Addr)) (cdv : Value) (A : Around) (outer : List PySem.Env) (s : Shared) (H : Hp) (E : XK), A.guards = some [] → Room k (A.deeper (envOfC qual (defScope st) s.heap.objs.size f cdv)) →
      LSs ⟨Γ, fe⟩ H [] [] [] (cxOf CX0 Γ.P Γ.w Γ.K mg base N qual (defScope st) f cdv A outer s H E).nox (defBody st) pb)
    (hp : ∀ ds Q E, (p ds).wp Q E → ds.length = ps.length ∧ (endW (pb (startE N.length ds))).wp Q E) : FnG Γ.P Γ.w Γ.K mg base CX0 (k + 1) f fd ps (liF Γ p) := by
  refine funG_ok F Sc (fun vs H Q E ⟨fe, S, ds, EE, mu, hf, fi, hv, hE, q⟩ => ?_) (fun cdv A outer s H vs Q E hg hr ⟨fe, S, ds, EE, mu, hf, fi, hv, hE, q⟩ => ?_)
  · rw [hv.len]
    exact (hp ds _ _ q).1
  · refine ⟨_, hbody fe cdv A outer s H E hg hr, S, [], [], startE N.length ds, EE, rfl, Rel.start mu hf fi hv, ?_⟩
    refine W.mono _ (fun fl' k => ?_) (fun _ z => z) (hp ds _ _ q).2
    cases fl' with
    | nx e => exact fun A' σ' H' hA' r' => k .non H' r'.gr r'.fi .non
    | rt d => exact fun v H' g f hv => k v H' g f hv
    | bk e => exact k.elim
    | ct e => exact k.elim
end
/-! ### a def called -/
section
variable {X : Cx} {Γ : Sig} {fe : Option (Addr × Addr)} {H0 : Hp} {O : List Nat} {k : Nat} {f : Addr} {fd : FuncData} {ps : List Str} {e : Expr} {es : List Expr} {x : Str} {pp pos : Pos} {p : List D → W D} {pa : Env → W (List D)}
theorem call_reads {ta : TA} (ha : ∀ σ H Q, liA ⟨Γ, fe⟩ H0 O pa σ H Q → ta σ H Q) :
    ∀ σ H Q, liE ⟨Γ, fe⟩ H0 O (fun env => (pa env).bind p) σ H Q → ta σ H fun vs H1 => liF Γ p (vs ++ []) H1 Q fun _ _ _ => True := by
  rintro σ H Q ⟨S, A, G, env, E, hA, r, q⟩
  refine ha σ H _ ⟨S, A, G, env, E, hA, r, (pa env).mono (fun ds k vs H1 g1 r1 hv => ?_) (fun _ z => z) q⟩
  show liF Γ p (vs ++ []) H1 Q _
  rw [List.append_nil]
  refine ⟨fe, S ++ A.map (·.2), ds, E, r1.muA, r1.ffM, r1.fi, hv, fun _ _ _ _ _ _ _ _ _ => trivial, (p ds).mono (fun d k v H2 g2 f2 hv2 => ?_) (fun _ z => z) k⟩
  exact k v H2 (g1.trans g2) (r1.grow g2 f2) hv2
/-- a def by value that may be called: its name, its place -/
structure CalV (Γ : Sig) (mg : Str → Option Value) (base : Heap) (k : Nat) (x : Str) (f : Addr)
    (fd : FuncData) (ps : List Str) (p : List D → W D) : Prop where
  ok : FnOk Γ.P Γ.w Γ.K mg base CX0 k f fd ps (liF Γ p)
  g : mg x = some (.ref f)
  kp : PySem.W.keepIn Γ.K (.ref f) = true
  b : Binds Γ.K fd ps []
structure CalW (Γ : Sig) (mg : Str → Option Value) (base : Heap) (k : Nat) (x : Str) (f : Addr)
    (fd : FuncData) (ps : List Str) (p : List D → W D) : Prop where
  ok : FnG Γ.P Γ.w Γ.K mg base CX0 k f fd ps (liF Γ p)
  g : mg x = some (.ref f)
  kp : PySem.W.keepIn Γ.K (.ref f) = true
  b : Binds Γ.K fd ps []
theorem le_call {mg : Str → Option Value} {base : Heap} (C : CalV Γ mg base k x f fd ps p) (hP : X.prog = Γ.P) (hw : X.w = Γ.w) (hK : X.K = Γ.K) (hmg : X.mg = mg) (hbs : X.base = base) (hr : Room k X.A) (hg : Gl X x) (ha : LA ⟨Γ, fe⟩ H0 O X (e :: es) pa)
    (hdb : (x == ("__debug__" : Str)) = false := by decide) (he : starEach (e :: es) X.env = (false, eval e X.env) :: starEach es X.env := by rfl) (hpl : (backTo pos (starEach es X.env)).any (·.1) = false := by rfl) :
    LE ⟨Γ, fe⟩ H0 O X (.Call (.Name x pp) (e :: es) [] pos) fun env => (pa env).bind p :=
  wkE (pe_call (E := fun _ _ _ => True) (by rw [hP, hw, hK, hmg, hbs]; exact C.ok) hr hg (by rw [hmg]; exact C.g) (by rw [hK]; exact C.kp) (by rw [hK]; exact C.b) .nil pass0 ha hdb he hpl) (call_reads fun _ _ _ h => h)
theorem le_callG {mg : Str → Option Value} {base : Heap} (C : CalW Γ mg base k x f fd ps p) (hP : X.prog = Γ.P) (hw : X.w = Γ.w) (hK : X.K = Γ.K) (hmg : X.mg = mg) (hbs : X.base = base) (hgd : X.A.guards = some []) (hr : Room k X.A) (hg : Gl X x) (ha : LA ⟨Γ, fe⟩ H0 O X (e :: es) pa)
    (hdb : (x == ("__debug__" : Str)) = false := by decide) (he : starEach (e :: es) X.env = (false, eval e X.env) :: starEach es X.env := by rfl) (hpl : (backTo pos (starEach es X.env)).any (·.1) = false := by rfl) :
    LE ⟨Γ, fe⟩ H0 O X (.Call (.Name x pp) (e :: es) [] pos) fun env => (pa env).bind p :=
  wkE (pe_callG (E := fun _ _ _ => True) (by rw [hP, hw, hK, hmg, hbs]; exact C.ok) hgd hr hg (by rw [hmg]; exact C.g) (by rw [hK]; exact C.kp) (by rw [hK]; exact C.b) .nil pass0 ha hdb he hpl) (call_reads fun _ _ _ h => h)
end
end LP
namespace LP
open PySem PySem.Spec PyProof.Rows L2 PK
theorem OpR.or {X : Cx} {f : Value → Value → Sem Value} {r r' : R2} (h : OpR X f r) (h' : OpR X f r') : OpR X f fun x y H Q => r x y H Q ∨ r' x y H Q := by
  intro pins s σ H x y v u Q I rx ry q
  rcases q with q | q
  · exact h pins s σ H x y v u Q I rx ry q
  · exact h' pins s σ H x y v u Q I rx ry q
theorem CallR.or {X : Cx} {f : Value} {r r' : List V → Hp → VK → Prop} (h : CallR X f r) (h' : CallR X f r') : CallR X f fun xs H Q => r xs H Q ∨ r' xs H Q := by
  intro pins s σ H xs us Q I rx q
  rcases q with q | q
  · exact h pins s σ H xs us Q I rx q
  · exact h' pins s σ H xs us Q I rx q
/-! ### texts that can be -/
theorem strOk_mem {y : Str} : PyData.strOk y = true ↔ ∀ c ∈ y.cps.toList, c < 1114112 := by
  unfold PyData.strOk
  rw [Array.all_eq_true_iff_forall_mem]
  constructor
  · intro h c hc
    exact of_decide_eq_true (h c (by simpa using hc))
  · intro h c hc
    exact decide_eq_true (h c (by simpa using hc))
theorem strOk_app {x y : Str} (hx : PyData.strOk x = true) (hy : PyData.strOk y = true) : PyData.strOk (x ++ y) = true := by
  rw [strOk_mem] at hx hy ⊢
  intro c hc
  have hc : c ∈ x.cps.toList ++ y.cps.toList := by
    have : (x ++ y).cps = x.cps ++ y.cps := rfl
    rw [this] at hc
    simpa using hc
  exact (List.mem_append.mp hc).elim (hx c) (hy c)
theorem strOk_sub {x : Str} {l : List Nat} (hx : PyData.strOk x = true) (h : ∀ c ∈ l, c ∈ x.cps.toList) : PyData.strOk ⟨l.toArray⟩ = true := by
  rw [strOk_mem] at hx ⊢
  intro c hc
  exact hx c (h c (by simpa using hc))
theorem strOk_one {x : Str} {c : Nat} (hx : PyData.strOk x = true) (h : c ∈ x.cps.toList) : PyData.strOk ⟨#[c]⟩ = true := strOk_sub (l := [c]) hx fun d hd => by rw [List.mem_singleton.mp hd]; exact h
section
variable {Ξ : Ctx} {M : List Addr} {H : Hp} {v : V}
theorem Bp.intE {i : Int} (h : Bp Ξ M H v (.int i)) : v = .int i := by
  cases h with
  | rp h => cases h; rfl
theorem Bp.strE {y : Str} (h : Bp Ξ M H v (.str y)) : v = .str y ∧ PyData.strOk y = true := by
  cases h with
  | rp h => cases h; exact ⟨rfl, by assumption⟩
theorem Bp.blE {b : Bool} (h : Bp Ξ M H v (.bl b)) : v = .bl b := by
  cases h with
  | rp h => cases h; rfl
theorem Bp.nonE (h : Bp Ξ M H v .non) : v = .non := by
  cases h with
  | rp h => cases h; rfl
theorem Bp.dp {d : D} (hp : d.plain = true) (h : Bp Ξ M H v d) : Dp Ξ.K H v d.toP := h.full.dp hp
theorem Bp.lay {d : D} (hp : d.plain = true) (h : Bp Ξ M H v d) : d.toP.canLay0 = true := h.full.lay hp
end
/-! ### sums -/
def addW : D → D → W D
  | .int i, .int j => W.ret (.int (i + j))
  | .bl b, .int j => W.ret (.int (b2i b + j))
  | .str a, .str b => (W.want (a.length + b.length ≤ sizeLine)).bind fun _ => W.ret (.str (a ++ b))
  | .tup a, .tup b => (W.want (a.length + b.length ≤ sizeLine)).bind fun _ => W.ret (.tup (a ++ b))
  | .lst a, .lst b => (W.want (a.length + b.length ≤ sizeLine)).bind fun _ => W.ret (.lst (a ++ b))
  | _, _ => W.fail
section
variable {Ξ : Ctx} {H : Hp} {M : List Addr} {d : D}
theorem at_int (i : Int) {Q : VK} (q : ∀ v H', Same H H' → Rp Ξ (ms M H') v (.int i) → Q v H') : Q (.int i) H := q _ H (Same.refl H) (.int i)
theorem at_bl (b : Bool) {Q : VK} (q : ∀ v H', Same H H' → Rp Ξ (ms M H') v (.bl b) → Q v H') : Q (.bl b) H := q _ H (Same.refl H) (.bl b)
theorem at_new {xs : List V} {ds : List D} {p : Addr} {Q : VK} (mu : Mu M H) (hx : RpAll Ξ (ms M H) xs ds) (np : H p = none) (q : ∀ v H', Same H H' → Rp Ξ (ms M H') v (.lst ds) → Q v H') : Q (.ref p) (upd H p (.lst xs)) := by
  have s : Same H (upd H p (.lst xs)) := same_new (Same.refl H) np
  have sm : Same (ms M H) (ms M (upd H p (.lst xs))) := fun b o e => by
    obtain ⟨h1, h2⟩ := ms_some e
    exact ms_at (s _ _ h1) h2
  exact q _ _ s (.lst (ms_at upd_same (mu.out np)) (hx.same sm))
theorem at_newT {xs : List V} {ds : List D} {p : Addr} {Q : VK} (mu : Mu M H) (hx : RpAll Ξ (ms M H) xs ds) (np : H p = none) (q : ∀ v H', Same H H' → Rp Ξ (ms M H') v (.tup ds) → Q v H') : Q (.ref p) (upd H p (.tup xs)) := by
  have s : Same H (upd H p (.tup xs)) := same_new (Same.refl H) np
  have sm : Same (ms M H) (ms M (upd H p (.tup xs))) := fun b o e => by
    obtain ⟨h1, h2⟩ := ms_some e
    exact ms_at (s _ _ h1) h2
  exact q _ _ s (.tup (SqT.of (ms_at upd_same (mu.out np))) (hx.same sm))
theorem same_ms {H H' : Hp} (s : Same H H') : Same (ms M H) (ms M H') := fun b o e => by
  obtain ⟨h1, h2⟩ := ms_some e
  exact ms_at (s _ _ h1) h2
theorem at_tup {xs : List V} {ds : List D} {c : Addr} {H' : Hp} {Q : VK} (mu : Mu M H) (s : Same H H') (hc : SqT Ξ.K H' c xs) (hx : RpAll Ξ (ms M H) xs ds) (q : ∀ v H', Same H H' → Rp Ξ (ms M H') v (.tup ds) → Q v H') : Q (.ref c) H' :=
  q _ _ s (.tup (sqT_mu hc (mu.same s)) (hx.same (same_ms s)))
end
section
variable {X : Cx} {Ξ : Ctx} {H0 : Hp} {O : List Nat} {a b e : Expr} {pos : Pos} {pa pb : Env → W D}
def rAdd (K : PySem.W.Frag) : R2 := fun x y H Q => (((∃ i j, asI x = some i ∧ y = .int j ∧ Q (.int (i + j)) H) ∨ (∃ i j, x = .str i ∧ y = .str j ∧ i.length + j.length ≤ sizeLine ∧ Q (.str (i ++ j)) H)) ∨ rCatB K x y H Q) ∨ rCat x y H Q
theorem add_ok : OpOk Ξ (rAdd Ξ.K) addW := by
  intro M H x y d1 d2 Q E mu hf h1 h2 q
  cases d1 <;> cases d2 <;> try exact q.elim
  · rw [h1.blE, h2.intE]
    exact .inl (.inl (.inl ⟨_, _, rfl, rfl, at_int _ q⟩))
  · rw [h1.intE, h2.intE]
    exact .inl (.inl (.inl ⟨_, _, rfl, rfl, at_int _ q⟩))
  · obtain ⟨rfl, o1⟩ := h1.strE
    obtain ⟨rfl, o2⟩ := h2.strE
    exact .inl (.inl (.inr ⟨_, _, rfl, rfl, q.1, q.2 _ H (Same.refl H) (.str _ (strOk_app o1 o2))⟩))
  · obtain ⟨b1, xs, rfl, t1, a1⟩ := h1.tupE
    obtain ⟨b2, ys, rfl, t2, a2⟩ := h2.tupE
    exact .inl (.inr ⟨b1, b2, xs, ys, rfl, rfl, t1, t2, by rw [a1.len, a2.len]; exact q.1, fun c H' s hc => at_tup mu s hc (a1.app a2) q.2⟩)
  · obtain ⟨b1, xs, rfl, t1, a1⟩ := h1.lstE
    obtain ⟨b2, ys, rfl, t2, a2⟩ := h2.lstE
    exact .inr ⟨b1, b2, xs, ys, rfl, rfl, t1, t2, by rw [a1.len, a2.len]; exact q.1, fun p np => at_new mu (a1.app a2) np q.2⟩
theorem le_add (hK : X.K = Ξ.K) (ha : LB Ξ H0 O X a pa) (hb : LB Ξ H0 O X b pb) : LE Ξ H0 O X (.BinOp a .Add b pos) fun env => (pa env).bind fun x => (pb env).bind fun y => addW x y :=
  le_op (((op_addW.or op_add_str).or (ko_catB Ξ.K hK)).or op_cat) add_ok ha hb
def subW : D → D → W D
  | .int i, .int j => W.ret (.int (i - j))
  | .bl b, .int j => W.ret (.int (b2i b - j))
  | _, _ => W.fail
theorem sub_ok : OpOk Ξ (fun x y H Q => ∃ i j, asI x = some i ∧ y = .int j ∧ Q (.int (i - j)) H) subW := by
  intro M H x y d1 d2 Q E mu hf h1 h2 q
  cases d1 <;> cases d2 <;> try exact q.elim
  · rw [h1.blE, h2.intE]
    exact ⟨_, _, rfl, rfl, at_int _ q⟩
  · rw [h1.intE, h2.intE]
    exact ⟨_, _, rfl, rfl, at_int _ q⟩
theorem le_sub (ha : LB Ξ H0 O X a pa) (hb : LB Ξ H0 O X b pb) : LE Ξ H0 O X (.BinOp a .Sub b pos) fun env => (pa env).bind fun x => (pb env).bind fun y => subW x y := le_op op_subW sub_ok ha hb
def mulW : D → D → W D
  | .int i, .int j => (W.want (CMul i j)).bind fun _ => W.ret (.int (i * j))
  | .tup a, .int k => (W.want (a ≠ [] ∧ 0 ≤ k ∧ k ≤ 1000 ∧ a.length ≤ 1000)).bind fun _ => W.ret (.tup (List.replicate k.toNat a).flatten)
  | .lst a, .int k => (W.want (0 ≤ k ∧ k ≤ 1000 ∧ a.length ≤ 1000)).bind fun _ => W.ret (.lst (List.replicate k.toNat a).flatten)
  | _, _ => W.fail
theorem mul_ok : OpOk Ξ (fun x y H Q => (rI CMul (fun i j => .int (i * j)) x y H Q ∨ rRepA Ξ.K x y H Q) ∨ rRep x y H Q) mulW := by
  intro M H x y d1 d2 Q E mu hf h1 h2 q
  cases d1 <;> cases d2 <;> try exact q.elim
  · rw [h1.intE, h2.intE]
    exact .inl (.inl ⟨_, _, rfl, rfl, q.1, at_int _ q.2⟩)
  · obtain ⟨b1, xs, rfl, t1, a1⟩ := h1.tupE
    rw [h2.intE]
    obtain ⟨⟨n0, k0, k1, l1⟩, q⟩ := q
    have l := a1.len
    refine .inl (.inr ⟨b1, _, xs, rfl, rfl, t1, fun z => n0 (by subst z; exact List.eq_nil_of_length_eq_zero l.symm), k0, k1, by omega, fun e => ?_, fun _ p np => at_newT mu (RpAll.reps a1 _) np q⟩)
    subst e
    have q := q (.ref b1) H (Same.refl H)
    have e1 : (List.replicate (1 : Int).toNat (‹List D› : List D)).flatten = ‹List D› := List.append_nil _
    exact q (.tup (sqT_mu t1 mu) (by
      show RpAll Ξ (ms M H) xs (List.replicate (1 : Int).toNat _).flatten
      rw [show (1 : Int).toNat = 1 from rfl, List.replicate_succ, List.replicate_zero, List.flatten_cons, List.flatten_nil, List.append_nil]
      exact a1))
  · obtain ⟨b1, xs, rfl, t1, a1⟩ := h1.lstE
    rw [h2.intE]
    obtain ⟨⟨k0, k1, l1⟩, q⟩ := q
    have l := a1.len
    have hz : xs.length * (Int.toNat ‹Int›) ≤ sizeLine := by
      have : xs.length * (Int.toNat ‹Int›) ≤ 1000 * 1000 := Nat.mul_le_mul (by omega) (by omega)
      exact Nat.le_trans this (by decide)
    exact .inr ⟨b1, _, xs, rfl, rfl, t1, by omega, by omega, hz, fun p np => at_new mu (RpAll.reps a1 _) np q⟩
theorem le_mul (hK : X.K = Ξ.K) (ha : LB Ξ H0 O X a pa) (hb : LB Ξ H0 O X b pb) : LE Ξ H0 O X (.BinOp a .Mult b pos) fun env => (pa env).bind fun x => (pb env).bind fun y => mulW x y := le_op ((op_mul.or (ko_repA Ξ.K hK)).or op_rep) mul_ok ha hb
def intOp (C : Int → Int → Prop) (g : Int → Int → D) : D → D → W D
  | .int i, .int j => (W.want (C i j)).bind fun _ => W.ret (g i j)
  | _, _ => W.fail
theorem intOp_ok {C : Int → Int → Prop} {g : Int → Int → Int} : OpOk Ξ (rI C fun i j => .int (g i j)) (intOp C fun i j => .int (g i j)) := by
  intro M H x y d1 d2 Q E mu hf h1 h2 q
  cases d1 <;> cases d2 <;> try exact q.elim
  rw [h1.intE, h2.intE]
  exact ⟨_, _, rfl, rfl, q.1, at_int _ q.2⟩
def modW : D → D → W D := intOp (fun _ j => 0 < j) fun i j => .int (i % j)
def fdivW : D → D → W D := intOp CDiv fun i j => .int (i / j)
def powW : D → D → W D := intOp CPow fun i j => .int (i ^ j.toNat)
theorem le_mod (ha : LB Ξ H0 O X a pa) (hb : LB Ξ H0 O X b pb) : LE Ξ H0 O X (.BinOp a .Mod b pos) fun env => (pa env).bind fun x => (pb env).bind fun y => modW x y := le_op op_mod intOp_ok ha hb
theorem le_fdiv (ha : LB Ξ H0 O X a pa) (hb : LB Ξ H0 O X b pb) : LE Ξ H0 O X (.BinOp a .FloorDiv b pos) fun env => (pa env).bind fun x => (pb env).bind fun y => fdivW x y := le_op op_fdiv intOp_ok ha hb
theorem le_pow (ha : LB Ξ H0 O X a pa) (hb : LB Ξ H0 O X b pb) : LE Ξ H0 O X (.BinOp a .Pow b pos) fun env => (pa env).bind fun x => (pb env).bind fun y => powW x y := le_op op_pow intOp_ok ha hb
def negW : D → W D
  | .int i => W.ret (.int (-i))
  | _ => W.fail
theorem le_neg (ha : LE Ξ H0 O X a pa) : LE Ξ H0 O X (.UnaryOp .USub a pos) fun env => (pa env).bind negW :=
  wkE (pe_un un_neg ha) fun σ H Q ⟨S, A, G, env, E, hA, r, z⟩ => ⟨S, A, G, env, E, hA, r, (pa env).mono (fun d u v H' g r' hv => by
    cases d <;> try exact u.elim
    cases hv
    exact ⟨_, rfl, u _ H' g r' (.int _)⟩) (fun _ z => z) z⟩
/-! ### comparisons -/
def D.eqv (a b : D) : Bool := PyData.eqv a.toP b.toP
/-- data, not too deep -/
def D.sh (d : D) : Prop := d.plain = true ∧ d.toP.depth ≤ 64
def eqW : D → D → W D
  | .txt s, .txt t => W.ret (.bl (decide (s = t)))
  | a, b => (W.want (D.sh a ∧ D.sh b)).bind fun _ => W.ret (.bl (D.eqv a b))
def neW : D → D → W D
  | .txt s, .txt t => W.ret (.bl (!decide (s = t)))
  | a, b => (W.want (D.sh a ∧ D.sh b)).bind fun _ => W.ret (.bl (!D.eqv a b))
theorem Bp.txtE {M : List Addr} {H : Hp} {v : V} {s : Str} (h : Bp Ξ M H v (.txt s)) : v = .str s := by
  cases h with
  | rp h => cases h; rfl
theorem str_dec (s t : Str) : decide (V.str s = V.str t) = decide (s = t) := decide_eq_decide.mpr ⟨fun h => V.str.inj h, fun h => congrArg _ h⟩
theorem eqW_cases {a b : D} {Q : D → Prop} {E : Ex → Prop} (h : (eqW a b).wp Q E) : (∃ s t, a = .txt s ∧ b = .txt t ∧ Q (.bl (decide (s = t)))) ∨ (D.sh a ∧ D.sh b) ∧ Q (.bl (D.eqv a b)) := by
  unfold eqW at h
  split at h
  · exact .inl ⟨_, _, rfl, rfl, h⟩
  · exact .inr h
theorem neW_cases {a b : D} {Q : D → Prop} {E : Ex → Prop} (h : (neW a b).wp Q E) : (∃ s t, a = .txt s ∧ b = .txt t ∧ Q (.bl (!decide (s = t)))) ∨ (D.sh a ∧ D.sh b) ∧ Q (.bl (!D.eqv a b)) := by
  unfold neW at h
  split at h
  · exact .inl ⟨_, _, rfl, rfl, h⟩
  · exact .inr h
theorem Bp.shaped {M : List Addr} {H : Hp} {v : V} {d : D} (h : Bp Ξ M H v d) (s : D.sh d) : SeqAt.shaped d.toP = true := by
  unfold SeqAt.shaped
  rw [h.lay s.1, decide_eq_true s.2]
  rfl
theorem eq_ok : OpOk Ξ (fun x y H Q => rEq x y H Q ∨ rEqD Ξ.K x y H Q) eqW := by
  intro M H x y d1 d2 Q E mu hf h1 h2 q
  rcases eqW_cases q with ⟨s, t, rfl, rfl, q⟩ | ⟨⟨s1, s2⟩, q⟩
  · rw [h1.txtE, h2.txtE]
    exact .inl ⟨rfl, by rw [str_dec]; exact at_bl _ q⟩
  · exact .inr ⟨_, _, h1.dp s1.1, h2.dp s2.1, h1.shaped s1, h2.shaped s2, at_bl _ q⟩
theorem ne_ok : OpOk Ξ (fun x y H Q => rNe x y H Q ∨ rNeD Ξ.K x y H Q) neW := by
  intro M H x y d1 d2 Q E mu hf h1 h2 q
  rcases neW_cases q with ⟨s, t, rfl, rfl, q⟩ | ⟨⟨s1, s2⟩, q⟩
  · rw [h1.txtE, h2.txtE]
    exact .inl ⟨rfl, by rw [str_dec]; exact at_bl _ q⟩
  · exact .inr ⟨_, _, h1.dp s1.1, h2.dp s2.1, h1.shaped s1, h2.shaped s2, at_bl _ q⟩
theorem le_eq {k : Nat} (hr : Room k X.A) (hK : X.K = Ξ.K) (ha : LB Ξ H0 O X a pa) (hb : LB Ξ H0 O X b pb) : LE Ξ H0 O X (.Compare a [.Eq] [b] pos) fun env => (pa env).bind fun x => (pb env).bind fun y => eqW x y := le_cmp (op_eq.or (ko_eqD Ξ.K hr hK)) eq_ok (nomark _) ha hb
theorem le_ne {k : Nat} (hr : Room k X.A) (hK : X.K = Ξ.K) (ha : LB Ξ H0 O X a pa) (hb : LB Ξ H0 O X b pb) : LE Ξ H0 O X (.Compare a [.NotEq] [b] pos) fun env => (pa env).bind fun x => (pb env).bind fun y => neW x y := le_cmp (op_ne.or (ko_neD Ξ.K hr hK)) ne_ok (nomark _) ha hb
/-- an order of numbers and of texts -/
def ordW (g : Int → Int → Bool) (h : Str → Str → Bool) : D → D → W D
  | .int i, .int j => W.ret (.bl (g i j))
  | .str a, .str b => W.ret (.bl (h a b))
  | _, _ => W.fail
theorem ord_ok {g : Int → Int → Bool} {h : Str → Str → Bool} : OpOk Ξ (fun x y H Q => rI0 (fun i j => .bl (g i j)) x y H Q ∨ ∃ i j, x = .str i ∧ y = .str j ∧ Q (.bl (h i j)) H) (ordW g h) := by
  intro M H x y d1 d2 Q E mu hf h1 h2 q
  cases d1 <;> cases d2 <;> try exact q.elim
  · rw [h1.intE, h2.intE]
    exact .inl ⟨_, _, rfl, rfl, at_bl _ q⟩
  · rw [h1.strE.1, h2.strE.1]
    exact .inr ⟨_, _, rfl, rfl, at_bl _ q⟩
def slt (a b : Str) : Bool := decide (a.cps.toList < b.cps.toList)
def ltW : D → D → W D := ordW (fun i j => decide (i < j)) fun a b => slt a b
def leW : D → D → W D := ordW (fun i j => decide (i ≤ j)) fun a b => !slt b a
def gtW : D → D → W D := ordW (fun i j => decide (j < i)) fun a b => slt b a
def geW : D → D → W D := ordW (fun i j => decide (j ≤ i)) fun a b => !slt a b
theorem le_lt (ha : LB Ξ H0 O X a pa) (hb : LB Ξ H0 O X b pb) : LE Ξ H0 O X (.Compare a [.Lt] [b] pos) fun env => (pa env).bind fun x => (pb env).bind fun y => ltW x y := le_cmp (op_lt.or op_lt_str) ord_ok (nomark _) ha hb
theorem le_le (ha : LB Ξ H0 O X a pa) (hb : LB Ξ H0 O X b pb) : LE Ξ H0 O X (.Compare a [.LtE] [b] pos) fun env => (pa env).bind fun x => (pb env).bind fun y => leW x y := le_cmp (op_le.or op_le_str) ord_ok (nomark _) ha hb
theorem le_gt (ha : LB Ξ H0 O X a pa) (hb : LB Ξ H0 O X b pb) : LE Ξ H0 O X (.Compare a [.Gt] [b] pos) fun env => (pa env).bind fun x => (pb env).bind fun y => gtW x y := le_cmp (op_gt.or op_gt_str) ord_ok (nomark _) ha hb
theorem le_ge (ha : LB Ξ H0 O X a pa) (hb : LB Ξ H0 O X b pb) : LE Ξ H0 O X (.Compare a [.GtE] [b] pos) fun env => (pa env).bind fun x => (pb env).bind fun y => geW x y := le_cmp (op_ge.or op_ge_str) ord_ok (nomark _) ha hb
def isNone : D → Bool
  | .non => true
  | _ => false
def isW (a b : D) : W D := match b with
  | .non => W.ret (.bl (isNone a))
  | _ => W.fail
def isntW (a b : D) : W D := match b with
  | .non => W.ret (.bl (!isNone a))
  | _ => W.fail
theorem tok_non {M : List Addr} {H : Hp} {v : V} {d : D} (h : Bp Ξ M H v d) : decide (v = .non) = isNone d := by
  cases h with
  | lst _ _ _ => exact decide_eq_false fun z => by cases z
  | rp h =>
    cases h with
    | non => rfl
    | tok h =>
      obtain ⟨a, rfl, _⟩ := Ξ.tkr _ _ h
      exact decide_eq_false fun z => by cases z
    | set _ _ _ => exact decide_eq_false fun z => by cases z
    | txt _ => exact decide_eq_false fun z => by cases z
    | bl _ => exact decide_eq_false fun z => by cases z
    | int _ => exact decide_eq_false fun z => by cases z
    | str _ _ => exact decide_eq_false fun z => by cases z
    | tup _ _ => exact decide_eq_false fun z => by cases z
    | lst _ _ => exact decide_eq_false fun z => by cases z
    | obj _ _ _ => exact decide_eq_false fun z => by cases z
end
end LP
/-! Heaps by their counts: together, less, what lacks. -/
namespace PK
open PySem PySem.Spec PyProof.Rows L2
/-- rows of a heap: rising, each part once -/
structure Up (n : Nat) (L : List PRow) : Prop where
  ok : ∃ b : Int, RowsOk n b L
  up : Rises (L.map fun r => pkD (pk r))
theorem Up.mono {n m : Nat} {L : List PRow} (h : Up n L) (hm : n ≤ m) : Up m L := by
  obtain ⟨b, ok⟩ := h.ok
  exact ⟨⟨b, ok.mono hm (Int.le_refl _)⟩, h.up⟩
theorem Up.len {n : Nat} {L : List PRow} (h : Up n L) : L.length ≤ n := by
  obtain ⟨b, ok⟩ := h.ok
  exact ok.len
theorem Up.two {n : Nat} {L M : List PRow} (h : Up n L) (g : Up n M) : ∃ b : Int, RowsOk n b L ∧ RowsOk n b M := by
  obtain ⟨b, ok⟩ := h.ok
  obtain ⟨c, oc⟩ := g.ok
  refine ⟨max b c, ok.mono (Nat.le_refl _) (Int.le_max_left _ _), oc.mono (Nat.le_refl _) (Int.le_max_right _ _)⟩
theorem Up.nn {n : Nat} {L : List PRow} (h : Up n L) (k : PKey) : 0 ≤ cnt L k := by
  obtain ⟨b, ok⟩ := h.ok
  exact cnt_nn ok k
theorem Up.nodup {n : Nat} {L : List PRow} (h : Up n L) : (L.map pk).Nodup := by
  have z := h.up
  unfold Rises at z
  rw [List.pairwise_map] at z
  unfold List.Nodup
  rw [List.pairwise_map]
  refine z.imp fun {a b} y e => ?_
  rw [e, dlt_irr] at y
  cases y
theorem cnt_mem {L : List PRow} {r : PRow} (nd : (L.map pk).Nodup) (h : r ∈ L) : cnt L (pk r) = r.2.2 := by
  induction L with
  | nil => cases h
  | cons q L ih =>
    rw [List.map_cons] at nd
    obtain ⟨n1, n2⟩ := List.nodup_cons.mp nd
    rw [cnt_cons]
    rcases List.mem_cons.mp h with e | e
    · subst e
      rw [if_pos rfl, cnt_none n1]
      omega
    · have hne : ¬ pk q = pk r := fun z => n1 (by rw [z]; exact List.mem_map.mpr ⟨r, e, rfl⟩)
      rw [if_neg hne, ih n2 e]
      omega
/-- a part that is there -/
theorem cnt_some {L : List PRow} {k : PKey} (h : 0 < cnt L k) : k ∈ L.map pk := by
  by_cases z : k ∈ L.map pk
  · exact z
  · rw [cnt_none z] at h
    omega
/-- counts make the heap -/
theorem Up.ext {n m : Nat} {L M : List PRow} (h : Up n L) (g : Up m M) (e : ∀ k, cnt L k = cnt M k) : L = M := by
  obtain ⟨b, ok⟩ := h.ok
  obtain ⟨c, oc⟩ := g.ok
  rw [← sumR_id h.up, ← sumR_id g.up]
  exact sumR_eq ok oc e
theorem Up.sum {n : Nat} {b : Int} {L : List PRow} (h : RowsOk n b L) (hb : 0 ≤ b) : Up n (sumR L) := ⟨⟨_, sumR_ok hb h⟩, sumR_rises L⟩
theorem Up.nil : Up 0 [] := ⟨⟨0, Nat.le_refl _, fun _ h => (nomatch h)⟩, List.Pairwise.nil⟩
theorem Up.one {f s : Str} (hf : Word f) (hs : Word s) : Up 1 [(f, s, 1)] := by
  refine ⟨⟨1, Nat.le_refl _, fun r hr => ?_⟩, List.pairwise_singleton _ _⟩
  rw [List.mem_singleton.mp hr]
  exact ⟨hf, hs, Int.le_refl _, Int.le_refl _⟩
theorem Up.app {n m : Nat} {L M : List PRow} (h : Up n L) (g : Up m M) : ∃ b : Int, 0 ≤ b ∧ RowsOk (n + m) b (L ++ M) := by
  obtain ⟨b, ok⟩ := h.ok
  obtain ⟨c, oc⟩ := g.ok
  refine ⟨max 0 (max b c), Int.le_max_left _ _, ?_, fun r hr => ?_⟩
  · rw [List.length_append]
    have := ok.len
    have := oc.len
    omega
  · rcases List.mem_append.mp hr with z | z
    · exact (ok.each r z).mono (by omega)
    · exact (oc.each r z).mono (by omega)
theorem Up.plus {n m : Nat} {L M : List PRow} (h : Up n L) (g : Up m M) : Up (n + m) (sumR (L ++ M)) := by
  obtain ⟨b, hb, ok⟩ := h.app g
  exact Up.sum ok hb
theorem cnt_plus (L M : List PRow) (k : PKey) : cnt (sumR (L ++ M)) k = cnt L k + cnt M k := by rw [cnt_sumR, cnt_app]
theorem Up.above {n m : Nat} {L M : List PRow} (h : Up n L) (g : Up m M) : Up n (aboveR L M) := by
  obtain ⟨b, ok⟩ := h.ok
  obtain ⟨c, oc⟩ := g.ok
  exact ⟨⟨b, aboveR_ok ok oc⟩, rises_above h.up⟩
theorem mem_above {L M : List PRow} {r : PRow} (h : r ∈ L) (hp : 0 < r.2.2 - cnt M (pk r)) : (r.1, r.2.1, r.2.2 - cnt M (pk r)) ∈ aboveR L M := by
  refine List.mem_filterMap.mpr ⟨r, h, ?_⟩
  unfold above1
  rw [if_pos hp]
theorem cnt_above {n m : Nat} {L M : List PRow} (h : Up n L) (g : Up m M) (k : PKey) : cnt (aboveR L M) k = if 0 < cnt L k - cnt M k then cnt L k - cnt M k else 0 := by
  have ua := h.above g
  by_cases z : 0 < cnt L k - cnt M k
  · rw [if_pos z]
    have hk := cnt_some (L := L) (k := k) (by have := g.nn k; omega)
    obtain ⟨r, hr, rfl⟩ := List.mem_map.mp hk
    rw [cnt_mem h.nodup hr] at z ⊢
    exact cnt_mem ua.nodup (mem_above hr z)
  · rw [if_neg z]
    refine cnt_none fun hk => ?_
    obtain ⟨q, hq, rfl⟩ := List.mem_map.mp hk
    obtain ⟨r, hr, e1, e2, h0⟩ := aboveR_mem hq
    rw [e1, cnt_mem h.nodup hr] at z
    omega
theorem above_nil {n m : Nat} {L M : List PRow} (h : Up n L) (g : Up m M) : aboveR L M = [] ↔ ∀ k, cnt L k ≤ cnt M k := by
  constructor
  · intro e k
    have := cnt_above h g k
    rw [e, cnt_nil] at this
    split at this <;> omega
  · intro e
    refine (h.above g).ext Up.nil fun k => ?_
    rw [cnt_above h g k, cnt_nil, if_neg (by have := e k; omega)]
/-- what was put to it is taken out -/
theorem above_plus {n m : Nat} {L M : List PRow} (h : Up n L) (g : Up m M) : aboveR (sumR (L ++ M)) M = L ∧ aboveR M (sumR (L ++ M)) = [] := by
  have u := h.plus g
  constructor
  · refine (u.above g).ext h fun k => ?_
    have := h.nn k
    rw [cnt_above u g k, cnt_plus]
    split <;> omega
  · refine (above_nil g u).mpr fun k => ?_
    have := h.nn k
    rw [cnt_plus]
    omega
theorem plus_comm {L M : List PRow} : sumR (L ++ M) = sumR (M ++ L) := sumR_perm List.perm_append_comm
theorem plus_assoc (L M N : List PRow) : sumR (sumR (L ++ M) ++ N) = sumR (L ++ M ++ N) := by
  refine sumR_congr (fun k => ?_) fun k => ?_
  · simp only [List.map_append, List.mem_append, sumR_keys, mem_skeys]
  · rw [cnt_app, cnt_app, cnt_sumR]
theorem Up.plus_nil {n : Nat} {L : List PRow} (h : Up n L) : sumR (L ++ []) = L := by
  rw [List.append_nil]
  exact sumR_id h.up
theorem Up.less_nil {n : Nat} {L : List PRow} (h : Up n L) : aboveR L [] = L ∧ aboveR [] L = [] := by
  constructor
  · refine (h.above Up.nil).ext h fun k => ?_
    have := h.nn k
    rw [cnt_above h Up.nil k, cnt_nil]
    split <;> omega
  · rfl
/-! ### what lacks -/
theorem lack_held {n m : Nat} {L M : List PRow} (h : Up n L) (g : Up m M) : aboveR (aboveR M L) M = [] := by
  refine (above_nil (g.above h) g).mpr fun k => ?_
  have := h.nn k
  have := g.nn k
  rw [cnt_above g h k]
  split <;> omega
theorem lack_entire {n m : Nat} {L M : List PRow} (h : Up n L) (g : Up m M) (k : PKey) : cnt (sumR (L ++ aboveR M L)) k = max (cnt L k) (cnt M k) := by
  rw [cnt_plus, cnt_above g h k]
  split <;> omega
theorem less_plus {n m : Nat} {L M : List PRow} (h : Up n L) (g : Up m M) (e : aboveR M L = []) : sumR (aboveR L M ++ M) = L := by
  have e := (above_nil g h).mp e
  refine ((h.above g).plus g).ext h fun k => ?_
  have := e k
  have := g.nn k
  rw [cnt_plus, cnt_above h g k]
  split <;> omega
theorem cnt_one (f s : Str) (k : PKey) : cnt [(f, s, 1)] k = if (f, s) = k then 1 else 0 := by
  rw [cnt_cons, cnt_nil]
  show (if (f, s) = k then (1 : Int) else 0) + 0 = _
  omega
end PK
namespace PK
open PySem PySem.Spec PyProof.Rows L2
/-- all of it less one of a part that lacked: this one lacks again -/
theorem lack_one {n m : Nat} {L M : List PRow} (h : Up n L) (g : Up m M) {r : PRow} (hr : r ∈ aboveR M L) :
    aboveR [(r.1, r.2.1, 1)] (sumR (L ++ aboveR M L)) = [] ∧ aboveR M (aboveR (sumR (L ++ aboveR M L)) [(r.1, r.2.1, 1)]) = [(r.1, r.2.1, 1)] := by
  have ua := g.above h
  obtain ⟨b, ok⟩ := ua.ok
  have o1 := Up.one (ok.each r hr).f (ok.each r hr).s
  have uW := h.plus ua
  have hc := cnt_mem ua.nodup hr
  have hp := (ok.each r hr).lo
  have hw : ∀ k, cnt (sumR (L ++ aboveR M L)) k = max (cnt L k) (cnt M k) := lack_entire h g
  have hu : ∀ k, cnt (aboveR M L) k = if 0 < cnt M k - cnt L k then cnt M k - cnt L k else 0 := cnt_above g h
  have hk : cnt L (pk r) < cnt M (pk r) := by
    have := hu (pk r)
    rw [hc] at this
    split at this <;> omega
  have hn := h.nn (pk r)
  have c1 : ∀ k, cnt [(r.1, r.2.1, 1)] k = if pk r = k then 1 else 0 := cnt_one r.1 r.2.1
  constructor
  · refine (above_nil o1 uW).mpr fun k => ?_
    rw [c1, hw]
    split
    · rename_i z
      rw [← z]
      omega
    · have := h.nn k
      omega
  · refine (g.above (uW.above o1)).ext o1 fun k => ?_
    rw [cnt_above g (uW.above o1) k, cnt_above uW o1 k, c1, hw]
    by_cases z : pk r = k
    · rw [if_pos z, ← z]
      split <;> split <;> omega
    · rw [if_neg z]
      have := h.nn k
      have := g.nn k
      split <;> split <;> omega
theorem lack_full {n m : Nat} {L M : List PRow} (h : Up n L) (g : Up m M) : aboveR M (sumR (L ++ aboveR M L)) = [] := by
  refine (above_nil g (h.plus (g.above h))).mpr fun k => ?_
  rw [lack_entire h g k]
  omega
end PK
/-! Short readings of heaps' methods. -/
namespace PK
open PySem PySem.Spec PyProof.Rows L2
theorem manyR_app (L M : List PRow) (f : Str) (o : Option Str) : manyR (L ++ M) f o = manyR L f o + manyR M f o := by
  unfold manyR selL
  rw [List.filter_append, List.map_append, List.sum_append]
theorem mem_formsR {L : List PRow} {y : Str} : y ∈ formsR L ↔ ∃ r ∈ L, y = r.1 := by
  unfold formsR sortS
  rw [(srt_perm false PyData.str _).mem_iff, mem_formL]
theorem formsR_len (L : List PRow) : (formsR L).length ≤ L.length := by
  unfold formsR sortS
  rw [(srt_perm false PyData.str _).length_eq]
  exact formL_len L
theorem flat_strsD (l : List Str) : flatT (strsD l) = true := flat_strs l
theorem strsD_shaped {l : List Str} (h : ∀ y ∈ l, Word y) : SeqAt.shaped (strsD l) = true := by
  have hc : PyData.canLayAll0 (l.map PyData.str) = true := by
    induction l with
    | nil => rfl
    | cons y l ih =>
      show (PyData.canLay0 (.str y) && PyData.canLayAll0 (l.map PyData.str)) = true
      rw [ih fun z hz => h z (List.mem_cons_of_mem _ hz)]
      simp [PyData.canLay0, word_ok (h y List.mem_cons_self)]
  have hd : (strsD l).depth ≤ 64 := by
    have : PyData.depthAll (l.map PyData.str) ≤ 63 := depthAll_le fun d hd => by
      obtain ⟨y, _, rfl⟩ := List.mem_map.mp hd
      exact Nat.zero_le _
    show PyData.depthAll (l.map PyData.str) + 1 ≤ 64
    omega
  unfold SeqAt.shaped
  rw [show (strsD l).canLay0 = true from by simpa [strsD, PyData.canLay0] using hc, decide_eq_true hd]
  rfl
theorem forms_plus (L M : List PRow) : formsR (sumR (L ++ M)) = sortS (insAll (formsR L ++ formsR M)) := by
  refine sortS_of (insAll_nodup _) (str_rises (formL_nodup _)) fun y => ?_
  show y ∈ formsR (sumR (L ++ M)) ↔ _
  rw [mem_insAll, List.mem_append, mem_formsR, mem_formsR, mem_formsR]
  have key : (∃ r ∈ sumR (L ++ M), y = r.1) ↔ ∃ r ∈ L ++ M, y = r.1 := by
    have e : ∀ N : List PRow, (∃ r ∈ N, y = r.1) ↔ ∃ k ∈ N.map pk, y = k.1 := fun N => by
      constructor
      · rintro ⟨r, hr, rfl⟩
        exact ⟨pk r, List.mem_map.mpr ⟨r, hr, rfl⟩, rfl⟩
      · rintro ⟨k, hk, rfl⟩
        obtain ⟨r, hr, rfl⟩ := List.mem_map.mp hk
        exact ⟨r, hr, rfl⟩
    rw [e, e, sumR_keys]
    constructor
    · rintro ⟨k, hk, z⟩
      exact ⟨k, mem_skeys.mp hk, z⟩
    · rintro ⟨k, hk, z⟩
      exact ⟨k, mem_skeys.mpr hk, z⟩
  rw [key]
  constructor
  · rintro ⟨r, hr, z⟩
    rcases List.mem_append.mp hr with h | h
    · exact Or.inl ⟨r, h, z⟩
    · exact Or.inr ⟨r, h, z⟩
  · rintro (⟨r, hr, z⟩ | ⟨r, hr, z⟩)
    · exact ⟨r, List.mem_append.mpr (Or.inl hr), z⟩
    · exact ⟨r, List.mem_append.mpr (Or.inr hr), z⟩
theorem k_setOf {X : Cx} {k : Nat} (K : PySem.W.Frag) (P : Program) (w : World) (hr : Room k X.A) (hK : X.K = K := by rfl) (hP : X.prog = P := by rfl) (hw : X.w = w := by rfl) : CallR X (.type "set") (rSetOf K P w) := by
  subst hP hw
  exact call_setOf K hr hK
theorem k_srtSet {X : Cx} {k : Nat} (P : Program) (w : World) (hc : X.calm = true) (hr : Room k X.A) (hP : X.prog = P := by rfl) (hw : X.w = w := by rfl) : CallR X (.builtin "sorted") (rSrtSet P w) := by
  subst hP hw
  exact call_srtSet hc hr
section
variable {K : PySem.W.Frag} {C p q : Addr} {H : Hp} {L M : List PRow}
theorem rd_m {m : Str} {R : Prop} (h : HeapAt K C H p L) (hm : ¬ m = "held") (k : R) : ∃ a dx fs, V.ref p = .ref a ∧ H a = some (.ins C dx fs) ∧ fs.lookup m = none ∧ R := by
  obtain ⟨dx, fz, e1, e2⟩ := h.no hm
  exact ⟨p, dx, fz, rfl, e1, e2, k⟩
theorem rd_cat {a b : Addr} {us vs : List V} {Q : VK} (ha : SqT K H a us) (hb : SqT K H b vs) (hz : us.length + vs.length ≤ 1000) (k : ∀ c H', Same H H' → SqT K H' c (us ++ vs) → Q (.ref c) H') : rCatA K (.ref a) (.ref b) H Q := by
  refine ⟨a, b, us, vs, rfl, rfl, ha, hb, Nat.le_trans hz (by decide), fun e => ?_, fun _ e => ?_, fun _ _ c nc => k c _ (same_new (Same.refl H) nc) (SqT.of upd_same)⟩
  · subst e
    exact k b H (Same.refl H) hb
  · subst e
    rw [List.append_nil] at k
    exact k a H (Same.refl H) ha
theorem rd_eq {n : Nat} {Q : VK} (hp : HeapAt K C H p L) (hq : HeapAt K C H q M) (u : Up n L) (v : Up n M) (k : Q (.bl (decide (L = M))) H) : rEqH K C (.ref p) (.ref q) H Q := by
  obtain ⟨b, o1, o2⟩ := u.two v
  exact ⟨p, q, L, M, n, b, rfl, rfl, hp, hq, o1, o2, k⟩
theorem rd_ne {n : Nat} {Q : VK} (hp : HeapAt K C H p L) (hq : HeapAt K C H q M) (u : Up n L) (v : Up n M) (k : Q (.bl (!decide (L = M))) H) : rNeH K C (.ref p) (.ref q) H Q := by
  obtain ⟨b, o1, o2⟩ := u.two v
  exact ⟨p, q, L, M, n, b, rfl, rfl, hp, hq, o1, o2, k⟩
theorem rd_plus {Q : VK} {E : XK} (hp : HeapAt K C H p L) (hq : HeapAt K C H q M) (hl : L.length + M.length ≤ 900) (k : ∀ r H', Same H H' → HeapAt K C H' r (sumR (L ++ M)) → Q (.ref r) H') : spPlus K C [.ref p, .ref q] H Q E :=
  ⟨p, q, L, M, rfl, hp, hq, hl, fun r H' _ s h => k r H' s h⟩
theorem rd_less {CN : Addr} {n : Nat} {Q : VK} {E : XK} (hp : HeapAt K C H p L) (hq : HeapAt K C H q M) (u : Up n L) (v : Up n M) (hn : n ≤ 900) (e : aboveR M L = []) (k : ∀ r H', Same H H' → HeapAt K C H' r (aboveR L M) → Q (.ref r) H') : spLess K C CN [.ref p, .ref q] H Q E := by
  obtain ⟨b, o1, o2⟩ := u.two v
  exact ⟨p, q, L, M, n, b, rfl, hp, hq, o1, o2, hn, u.up, v.up, fun _ r H' _ s h => k r H' s h, fun z => absurd e z⟩
theorem rd_holds {n : Nat} {Q : VK} {E : XK} (hp : HeapAt K C H p L) (hq : HeapAt K C H q M) (u : Up n L) (v : Up n M) (hn : n ≤ 900) (k : ∀ H', Same H H' → Q (.bl (decide (aboveR M L = []))) H') : spHolds K C [.ref p, .ref q] H Q E := by
  obtain ⟨b, o1, o2⟩ := u.two v
  exact ⟨p, q, L, M, n, b, rfl, hp, hq, o1, o2, hn, k⟩
end
end PK
namespace LP
open PySem PySem.Spec PyProof.Rows L2 PK
def optW {α : Type} : Option α → W α
  | some x => W.ret x
  | none => W.fail
theorem optW_wp {α : Type} {o : Option α} {Q : α → Prop} {E : Ex → Prop} (h : (optW o).wp Q E) : ∃ x, o = some x ∧ Q x := by
  cases o with
  | none => exact h.elim
  | some x => exact ⟨x, rfl, h⟩
section
variable {X : Cx} {Ξ : Ctx} {H0 : Hp} {O : List Nat} {a b c e : Expr} {es : List Expr} {pos : Pos} {pa pb pc : Env → W D} {ps : Env → W (List D)}
/-! ### is None -/
theorem is_ok : OpOk Ξ (fun x y H Q => y = .non ∧ Q (.bl (decide (x = .non))) H) isW := by
  intro M H x y d1 d2 Q E mu hf h1 h2 q
  cases d2 <;> try exact q.elim
  rw [tok_non h1]
  exact ⟨h2.nonE, at_bl _ q⟩
theorem isnt_ok : OpOk Ξ (fun x y H Q => y = .non ∧ Q (.bl (!decide (x = .non))) H) isntW := by
  intro M H x y d1 d2 Q E mu hf h1 h2 q
  cases d2 <;> try exact q.elim
  rw [tok_non h1]
  exact ⟨h2.nonE, at_bl _ q⟩
theorem le_is (ha : LB Ξ H0 O X a pa) (hb : LB Ξ H0 O X b pb) : LE Ξ H0 O X (.Compare a [.Is] [b] pos) fun env => (pa env).bind fun x => (pb env).bind fun y => isW x y := le_cmp op_isN is_ok (nomark _) ha hb
theorem le_isnt (ha : LB Ξ H0 O X a pa) (hb : LB Ξ H0 O X b pb) : LE Ξ H0 O X (.Compare a [.IsNot] [b] pos) fun env => (pa env).bind fun x => (pb env).bind fun y => isntW x y := le_cmp op_notN isnt_ok (nomark _) ha hb
/-! ### a < b < c -/
theorem chain_reads {r r' : R2} {f f' : D → D → W D} (hf : OpOk Ξ r f) (hf' : OpOk Ξ r' f') :
    ∀ σ H Q, liE Ξ H0 O (fun env => (pa env).bind fun x => (pb env).bind fun y => (f x y).bind fun z => (asB z).bind fun k => W.ite k ((pc env).bind fun w => f' y w) (W.ret (.bl false))) σ H Q →
      tChain r r' (liB Ξ H0 O pa) (liB Ξ H0 O pb) (liB Ξ H0 O pc) σ H Q := by
  rintro σ H Q ⟨S, A, G, env, E, hA, rl, q⟩
  refine ⟨S, A, G, env, E, hA, rl, (pa env).mono (fun d1 k x H1 g1 r1 b1 => ?_) (fun _ z => z) q⟩
  refine ⟨S, A, G, env, E, hA, r1, (pb env).mono (fun d2 k y H2 g2 r2 b2 => ?_) (fun _ z => z) k⟩
  refine hf _ H2 x y d1 d2 _ E r2.muA r2.ffM (b1.gr g2 r1.ffM) b2 ((f d1 d2).mono (fun d k v H3 s3 rv => ?_) (fun _ z => z) k)
  obtain ⟨b, rfl, k⟩ := asB_wp k
  cases rv
  refine ⟨b, rfl, ?_⟩
  have r3 := r2.same s3
  have g3 := (g1.trans g2).trans (Gr.of s3)
  cases b with
  | false => exact iteF (k _ H3 g3 r3 (.bl false))
  | true =>
    refine iteT ⟨S, A, G, env, E, hA, r3, (pc env).mono (fun d3 k w H4 g4 r4 b4 => ?_) (fun _ z => z) k⟩
    refine hf' _ H4 y w d2 d3 Q E r4.muA r4.ffM (b2.gr ((Gr.of s3).trans g4) r2.ffM) b4 ((f' d2 d3).mono (fun d k v H5 s5 rv => ?_) (fun _ z => z) k)
    exact k v H5 ((g3.trans g4).trans (Gr.of s5)) (r4.same s5) rv
theorem le_chain {op op' : CmpOp} {r r' : R2} {f f' : D → D → W D} (ho : OpR X (compareOp op) r) (ho' : OpR X (compareOp op') r') (hf : OpOk Ξ r f) (hf' : OpOk Ξ r' f') (ha : LB Ξ H0 O X a pa) (hb : LB Ξ H0 O X b pb) (hc : LB Ξ H0 O X c pc)
    (hm : lastMarks [op, op'] [b, c] = false := by rfl) :
    LE Ξ H0 O X (.Compare a [op, op'] [b, c] pos) fun env => (pa env).bind fun x => (pb env).bind fun y => (f x y).bind fun z => (asB z).bind fun k => W.ite k ((pc env).bind fun w => f' y w) (W.ret (.bl false)) :=
  wkE (pe_chain ho ho' ha hb hc hm) (chain_reads hf hf')
theorem lt_chain {op op' : CmpOp} {r r' : R2} {f f' : D → D → W D} (ho : OpR X (compareOp op) r) (ho' : OpR X (compareOp op') r') (hf : OpOk Ξ r f) (hf' : OpOk Ξ r' f') (ha : LB Ξ H0 O X a pa) (hb : LB Ξ H0 O X b pb) (hc : LB Ξ H0 O X c pc)
    (hm : lastMarks [op, op'] [b, c] = false := by rfl) :
    LT Ξ H0 O X (.Compare a [op, op'] [b, c] pos) fun env => ((pa env).bind fun x => (pb env).bind fun y => (f x y).bind fun z => (asB z).bind fun k => W.ite k ((pc env).bind fun w => f' y w) (W.ret (.bl false))).bind asB := by
  refine wkT (pt_chain ho ho' ha hb hc hm) fun σ H Q h => ?_
  have key : liE Ξ H0 O (fun env => (pa env).bind fun x => (pb env).bind fun y => (f x y).bind fun z => (asB z).bind fun k => W.ite k ((pc env).bind fun w => f' y w) (W.ret (.bl false))) σ H (fun v H' => ∃ k, v = .bl k ∧ Q k H') := by
    obtain ⟨S, A, G, env, E, hA, r', q⟩ := h
    refine ⟨S, A, G, env, E, hA, r', W.mono _ (fun d k v H' g r' hv => ?_) (fun _ z => z) q⟩
    obtain ⟨b, rfl, k⟩ := asB_wp k
    cases hv
    exact ⟨b, rfl, k H' g r'⟩
  exact chain_reads hf hf' σ H _ key
/-! ### x in xs -/
def flatD : D → Bool
  | .non => true
  | .bl _ => true
  | .int _ => true
  | .str _ => true
  | _ => false
def inD (x : D) (l : List D) : Bool := l.any fun y => D.eqv y x
theorem flat_bp {M : List Addr} {H : Hp} {v : V} {d : D} (h : Bp Ξ M H v d) (f : flatD d = true) : flatV v = true := by
  cases d <;> try cases f
  · rw [h.nonE]; rfl
  · rw [h.blE]; rfl
  · rw [h.intE]; rfl
  · rw [h.strE.1]; rfl
theorem flat_eqv {M : List Addr} {H : Hp} {v u : V} {d e : D} (h : Bp Ξ M H v d) (h2 : Bp Ξ M H u e) (f : flatD d = true) (f2 : flatD e = true) : eqV v u = D.eqv d e := by
  cases d <;> try cases f
  all_goals cases e <;> try cases f2
  all_goals first
    | rw [h.nonE]
    | rw [h.blE]
    | rw [h.intE]
    | rw [h.strE.1]
  all_goals first
    | rw [h2.nonE]
    | rw [h2.blE]
    | rw [h2.intE]
    | rw [h2.strE.1]
  all_goals rfl
theorem in_eq {M : List Addr} {H : Hp} {x : V} {d : D} (h : Bp Ξ M H x d) (f : flatD d = true) : ∀ {xs : List V} {ds : List D}, RpAll Ξ (ms M H) xs ds → ds.all flatD = true → xs.all flatV = true ∧ inV x xs = inD d ds
  | _, _, .nil, _ => ⟨rfl, rfl⟩
  | _, _, .cons h1 h2, g => by
    rw [List.all_cons, Bool.and_eq_true] at g
    obtain ⟨i1, i2⟩ := in_eq h f h2 g.2
    refine ⟨by rw [List.all_cons, flat_bp (.rp h1) g.1, i1]; rfl, ?_⟩
    show (eqV _ x || inV x _) = (D.eqv _ d || inD d _)
    rw [flat_eqv (.rp h1) h g.1 f, i2]
/-- one sign in a text -/
def signIn (s z : Str) : Bool := match s.cps.toList with
  | [c] => decide (c ∈ z.cps.toList)
  | _ => false
def inW' (neg : Bool) : D → D → W D
  | .str s, .str z => (W.want (s.length = 1)).bind fun _ => W.ret (.bl (if neg then !signIn s z else signIn s z))
  | x, .tup l => (W.want (flatD x = true ∧ l.all flatD = true)).bind fun _ => W.ret (.bl (if neg then !inD x l else inD x l))
  | x, .lst l => (W.want (flatD x = true ∧ l.all flatD = true)).bind fun _ => W.ret (.bl (if neg then !inD x l else inD x l))
  | _, _ => W.fail
def inW : D → D → W D := inW' false
def notinW : D → D → W D := inW' true
theorem one_sign {s : Str} (h : s.length = 1) : ∃ c, s = ⟨#[c]⟩ := by
  obtain ⟨⟨l⟩⟩ := s
  match l, h with
  | [c], _ => exact ⟨c, rfl⟩
theorem in_ok' (neg : Bool) : OpOk Ξ (fun x y H Q => (∃ (c : Nat) (z : Str), x = .str ⟨#[c]⟩ ∧ y = .str z ∧ Q (.bl (if neg then !decide (c ∈ z.cps.toList) else decide (c ∈ z.cps.toList))) H) ∨ rIn Ξ.K neg x y H Q) (inW' neg) := by
  intro M H x y d1 d2 Q E mu hf h1 h2 q
  have seqL : ∀ {ds : List D}, d2 = .lst ds → (flatD d1 = true ∧ ds.all flatD = true) ∧ (∀ v H', Same H H' → Rp Ξ (ms M H') v (.bl (if neg then !inD d1 ds else inD d1 ds)) → Q v H') → rIn Ξ.K neg x y H Q := by
    rintro ds rfl ⟨⟨f1, f2⟩, q⟩
    obtain ⟨b2, ys, rfl, t2, a2⟩ := h2.lstE
    obtain ⟨i1, i2⟩ := in_eq h1 f1 a2 f2
    exact ⟨b2, ys, rfl, .inl (SqL.of t2), flat_bp h1 f1, i1, by rw [i2]; exact at_bl _ q⟩
  have seqT : ∀ {ds : List D}, d2 = .tup ds → (flatD d1 = true ∧ ds.all flatD = true) ∧ (∀ v H', Same H H' → Rp Ξ (ms M H') v (.bl (if neg then !inD d1 ds else inD d1 ds)) → Q v H') → rIn Ξ.K neg x y H Q := by
    rintro ds rfl ⟨⟨f1, f2⟩, q⟩
    obtain ⟨b2, ys, rfl, t2, a2⟩ := h2.tupE
    obtain ⟨i1, i2⟩ := in_eq h1 f1 a2 f2
    exact ⟨b2, ys, rfl, .inr t2, flat_bp h1 f1, i1, by rw [i2]; exact at_bl _ q⟩
  cases d2 with
  | tup ds =>
    cases d1 <;> exact .inr (seqT rfl q)
  | lst ds =>
    cases d1 <;> exact .inr (seqL rfl q)
  | str z =>
    cases d1 <;> try exact q.elim
    obtain ⟨l1, q⟩ := q
    obtain ⟨rfl, _⟩ := h1.strE
    obtain ⟨rfl, _⟩ := h2.strE
    obtain ⟨c, rfl⟩ := one_sign l1
    exact .inl ⟨c, z, rfl, rfl, at_bl _ q⟩
  | _ => cases d1 <;> exact q.elim
theorem le_in (hK : X.K = Ξ.K) (hm : behindInMarks .In b = false) (ha : LB Ξ H0 O X a pa) (hb : LB Ξ H0 O X b pb) : LE Ξ H0 O X (.Compare a [.In] [b] pos) fun env => (pa env).bind fun x => (pb env).bind fun y => inW x y :=
  le_cmp (op_in_sign.or (by rw [← hK]; exact op_in_seq)) (in_ok' false) hm ha hb
theorem le_notin (hK : X.K = Ξ.K) (hm : behindInMarks .NotIn b = false) (ha : LB Ξ H0 O X a pa) (hb : LB Ξ H0 O X b pb) : LE Ξ H0 O X (.Compare a [.NotIn] [b] pos) fun env => (pa env).bind fun x => (pb env).bind fun y => notinW x y :=
  le_cmp (op_notIn_sign.or (by rw [← hK]; exact op_notIn_seq)) (in_ok' true) hm ha hb
/-! ### xs[i] -/
def ixW : D → D → W D
  | .lst l, .int i => optW (atI l i)
  | .tup l, .int i => optW (atI l i)
  | .str z, .int i => (W.want (z.length ≤ sizeLine)).bind fun _ => (optW (atI z.cps.toList i)).bind fun c => W.ret (.str ⟨#[c]⟩)
  | _, _ => W.fail
theorem RpAll.atI {H : Hp} {xs : List V} {ds : List D} {i : Int} {d : D} (h : RpAll Ξ H xs ds) (e : atI ds i = some d) : ∃ v, atI xs i = some v ∧ Rp Ξ H v d := by
  unfold L2.atI at e ⊢
  rw [h.len]
  obtain ⟨j, h1, h2⟩ := Option.bind_eq_some_iff.mp e
  obtain ⟨v, h3, h4⟩ := h.get h2
  exact ⟨v, by rw [h1]; exact h3, h4⟩
theorem atI_mem {α : Type} {l : List α} {i : Int} {x : α} (h : atI l i = some x) : x ∈ l := by
  unfold L2.atI at h
  obtain ⟨j, _, h2⟩ := Option.bind_eq_some_iff.mp h
  exact List.mem_of_getElem? h2
theorem ix_ok : OpOk Ξ (rIx Ξ.K) ixW := by
  intro M H x y d1 d2 Q E mu hf h1 h2 q
  cases d1 <;> cases d2 <;> try exact q.elim
  · obtain ⟨rfl, o1⟩ := h1.strE
    rw [h2.intE]
    obtain ⟨l, q⟩ := q
    obtain ⟨c, hc, q⟩ := optW_wp q
    exact .inr (.inr ⟨_, _, c, rfl, rfl, l, hc, q _ H (Same.refl H) (.str _ (strOk_one o1 (atI_mem hc)))⟩)
  · obtain ⟨b1, xs, rfl, t1, a1⟩ := h1.tupE
    rw [h2.intE]
    obtain ⟨d, hd, q⟩ := optW_wp q
    obtain ⟨v, h3, h4⟩ := a1.atI hd
    exact .inr (.inl ⟨b1, xs, _, v, rfl, rfl, t1, h3, q _ H (Same.refl H) h4⟩)
  · obtain ⟨b1, xs, rfl, t1, a1⟩ := h1.lstE
    rw [h2.intE]
    obtain ⟨d, hd, q⟩ := optW_wp q
    obtain ⟨v, h3, h4⟩ := a1.atI hd
    exact .inl ⟨b1, xs, _, v, rfl, rfl, SqL.of t1, h3, q _ H (Same.refl H) h4⟩
theorem le_item (hK : X.K = Ξ.K) (hs : PlainIx b) (ha : LB Ξ H0 O X a pa) (hb : LB Ξ H0 O X b pb) : LE Ξ H0 O X (.Subscript a b pos) fun env => (pa env).bind fun x => (pb env).bind fun y => ixW x y :=
  le_ix (by rw [← hK]; exact ix_seq) ix_ok hs ha hb
/-! ### xs[a:b] -/
def cutD {α : Type} (xs : List α) (lo hi : Option Int) : List α := (xs.drop (HT.sIx xs.length 0 lo)).take (HT.sIx xs.length xs.length hi - HT.sIx xs.length 0 lo)
def slW (d : D) (lo hi : Option Int) : W D := match d with
  | .tup l => W.ret (.tup (cutD l lo hi))
  | .lst l => W.ret (.lst (cutD l lo hi))
  | .str z => (W.want (z.length ≤ sizeLine)).bind fun _ => W.ret (.str (cutS z lo hi))
  | _ => W.fail
theorem RpAll.cut {H : Hp} {xs : List V} {ds : List D} (h : RpAll Ξ H xs ds) (lo hi : Option Int) : RpAll Ξ H (cutV xs lo hi) (cutD ds lo hi) := by
  unfold cutV cutD
  rw [h.len]
  exact (h.drop _).take _
def SlOk (Ξ : Ctx) (r : V → Option Int → Option Int → Hp → VK → Prop) (f : D → Option Int → Option Int → W D) : Prop := ∀ (M : List Addr) (H : Hp) (x : V) (d : D) (lo hi : Option Int) (Q : VK) (E : Ex → Prop), Mu M H →
  Bp Ξ M H x d → (f d lo hi).wp (fun d => ∀ v H', Same H H' → Rp Ξ (ms M H') v d → Q v H') E → r x lo hi H Q
theorem sl_ok : SlOk Ξ (fun x lo hi H Q => (rSlB Ξ.K x lo hi H Q ∨ rSlL Ξ.K x lo hi H Q) ∨ rSlS x lo hi H Q) slW := by
  intro M H x d lo hi Q E mu h q
  cases d <;> try exact q.elim
  · obtain ⟨rfl, o1⟩ := h.strE
    refine .inr ⟨_, rfl, q.1, q.2 _ H (Same.refl H) (.str _ (strOk_sub o1 fun c hc => List.mem_of_mem_drop (List.mem_of_mem_take hc)))⟩
  · obtain ⟨b1, xs, rfl, t1, a1⟩ := h.tupE
    exact .inl (.inl ⟨b1, xs, rfl, t1, fun c H' s hc => at_tup mu s hc (a1.cut lo hi) q⟩)
  · obtain ⟨b1, xs, rfl, t1, a1⟩ := h.lstE
    exact .inl (.inr ⟨b1, xs, rfl, SqL.of t1, fun p np => at_new mu (a1.cut lo hi) np q⟩)
def liO (Ξ : Ctx) (H0 : Hp) (O : List Nat) (p : Env → W (Option Int)) : TO := fun σ H Q => ∃ S A G env E, A.map (·.1) = O ∧ Rel Ξ H0 S A G σ H env ∧
  (p env).wp (fun o => ∀ H', Gr Ξ H H' → Rel Ξ H0 S A G σ H' env → Q o H') E
theorem wkO {o : Option Expr} {t t' : TO} (h : PO X o t) (w : ∀ σ H Q, t' σ H Q → t σ H Q) : PO X o t' := ⟨fun pins s σ H Q I q => h.run pins s σ H Q I (w σ H Q q)⟩
def partW : D → W (Option Int)
  | .int i => W.ret (some i)
  | _ => W.fail
abbrev LO (Ξ : Ctx) (H0 : Hp) (O : List Nat) (X : Cx) (o : Option Expr) (p : Env → W (Option Int)) : Prop := PO X o (liO Ξ H0 O p)
theorem lo_none : LO Ξ H0 O X none fun _ => W.ret none := wkO po_none fun σ H Q ⟨S, A, G, env, E, hA, r, q⟩ => q H (Gr.refl H) r
theorem lo_some (h : LE Ξ H0 O X e pa) : LO Ξ H0 O X (some e) fun env => (pa env).bind partW := wkO (po_some h) fun σ H Q ⟨S, A, G, env, E, hA, r, q⟩ =>
  ⟨S, A, G, env, E, hA, r, (pa env).mono (fun d k v H' g r' hv => by
    cases d <;> try exact k.elim
    cases hv
    exact ⟨_, rfl, k H' g r'⟩) (fun _ z => z) q⟩
theorem le_slice {lo hi : Option Expr} {pl ph : Env → W (Option Int)} {p2 : Pos} (hK : X.K = Ξ.K) (h : LB Ξ H0 O X e pa) (hl : LO Ξ H0 O X lo pl) (hh : LO Ξ H0 O X hi ph) :
    LE Ξ H0 O X (.Subscript e (.Slice lo hi none p2) pos) fun env => (pa env).bind fun d => (pl env).bind fun l => (ph env).bind fun u => slW d l u := by
  refine wkE (pe_slice (((ks_tupB Ξ.K hK).or (ks_list Ξ.K hK)).or sl_str) h hl hh) fun σ H Q ⟨S, A, G, env, E, hA, r, q⟩ => ?_
  refine ⟨S, A, G, env, E, hA, r, (pa env).mono (fun d k x H1 g1 r1 b1 => ?_) (fun _ z => z) q⟩
  refine ⟨S, A, G, env, E, hA, r1, (pl env).mono (fun l k H2 g2 r2 => ?_) (fun _ z => z) k⟩
  refine ⟨S, A, G, env, E, hA, r2, (ph env).mono (fun u k H3 g3 r3 => ?_) (fun _ z => z) k⟩
  refine sl_ok _ H3 x d l u Q E r3.muA (b1.gr (g2.trans g3) r1.ffM) ((slW d l u).mono (fun d k v H4 s4 rv => ?_) (fun _ z => z) k)
  exact k v H4 (((g1.trans g2).trans g3).trans (Gr.of s4)) (r3.same s4) rv
def revTW : D → W D
  | .tup l => W.ret (.tup l.reverse)
  | _ => W.fail
def revLW : D → W D
  | .lst l => W.ret (.lst l.reverse)
  | _ => W.fail
theorem le_revT {k : Nat} {p1 p2 p3 pos : Pos} (hK : X.K = Ξ.K) (h : LB Ξ H0 O X e pa) : LE Ξ H0 O X (.Subscript e (.Slice none none (some (.UnaryOp .USub (.Constant (.int 1) k p1) p2)) p3) pos) fun env => (pa env).bind revTW :=
  wkE (pek_revT Ξ.K h hK) fun σ H Q ⟨S, A, G, env, E, hA, r, q⟩ => ⟨S, A, G, env, E, hA, r, (pa env).mono (fun d k v H' g r' hv => by
    cases d <;> try exact k.elim
    obtain ⟨b1, xs, rfl, t1, a1⟩ := hv.tupE
    exact ⟨b1, xs, rfl, t1, fun p np => at_newT r'.muA a1.rev np fun v H2 s hv => k v H2 (g.trans (Gr.of s)) (r'.same s) hv⟩) (fun _ z => z) q⟩
theorem le_revL {k : Nat} {p1 p2 p3 pos : Pos} (hK : X.K = Ξ.K) (h : LB Ξ H0 O X e pa) : LE Ξ H0 O X (.Subscript e (.Slice none none (some (.UnaryOp .USub (.Constant (.int 1) k p1) p2)) p3) pos) fun env => (pa env).bind revLW :=
  wkE (pek_revL Ξ.K h hK) fun σ H Q ⟨S, A, G, env, E, hA, r, q⟩ => ⟨S, A, G, env, E, hA, r, (pa env).mono (fun d k v H' g r' hv => by
    cases d <;> try exact k.elim
    obtain ⟨b1, xs, rfl, t1, a1⟩ := hv.lstE
    exact ⟨b1, xs, rfl, SqL.of t1, fun p np => at_new r'.muA a1.rev np fun v H2 s hv => k v H2 (g.trans (Gr.of s)) (r'.same s) hv⟩) (fun _ z => z) q⟩
/-! ### built-in calls -/
theorem le_callB {id : String} {x : Str} {r : List V → Hp → VK → Prop} {f : List D → W D} {p pos : Pos} (hc : CallR X (.builtin id) r) (hf : CallOk Ξ r f) (hg : Gl X x) (hm : X.mg x = none) (hv : bootBuiltins x = some (.builtin id)) (ha : LAB Ξ H0 O X (e :: es) ps) (hn : x ≠ "__name__" := by decide) (hdb : (x == ("__debug__" : Str)) = false := by decide)
    (he : starEach (e :: es) X.env = (false, eval e X.env) :: starEach es X.env := by rfl) (hpl : (backTo pos (starEach es X.env)).any (·.1) = false := by rfl) :
    LE Ξ H0 O X (.Call (.Name x p) (e :: es) [] pos) fun env => (ps env).bind f := wkE (pe_callB hc hg hm hv ha hn hdb he hpl) (le_args hf)
theorem le_callTy {T : String} {x : Str} {r : List V → Hp → VK → Prop} {f : List D → W D} {p pos : Pos} (hc : CallR X (.type T) r) (hf : CallOk Ξ r f) (hg : Gl X x) (hm : X.mg x = none) (hv : bootBuiltins x = some (.type T)) (ha : LAB Ξ H0 O X (e :: es) ps) (hn : x ≠ "__name__" := by decide) (hdb : (x == ("__debug__" : Str)) = false := by decide)
    (he : starEach (e :: es) X.env = (false, eval e X.env) :: starEach es X.env := by rfl) (hpl : (backTo pos (starEach es X.env)).any (·.1) = false := by rfl) :
    LE Ξ H0 O X (.Call (.Name x p) (e :: es) [] pos) fun env => (ps env).bind f := wkE (pe_callTy hc hg hm hv ha hn hdb he hpl) (le_args hf)
def lenW : List D → W D
  | [.lst l] => W.ret (.int l.length)
  | [.tup l] => W.ret (.int l.length)
  | [.str s] => (W.want (s.length ≤ sizeLine)).bind fun _ => W.ret (.int s.length)
  | _ => W.fail
theorem len_ok : CallOk Ξ (fun xs H Q => rLenOf Ξ.K xs H Q ∨ ∃ z, xs = [.str z] ∧ z.length ≤ sizeLine ∧ Q (.int z.length) H) lenW := by
  intro M H xs ds Q E mu hf h q
  match ds, h, q with
  | [.lst l], .cons h .nil, q =>
    obtain ⟨b, ys, rfl, t, a⟩ := h.lstE
    exact .inl ⟨b, ys, rfl, .inl (SqL.of t), by rw [a.len]; exact at_int _ q⟩
  | [.tup l], .cons h .nil, q =>
    obtain ⟨b, ys, rfl, t, a⟩ := h.tupE
    exact .inl ⟨b, ys, rfl, .inr t, by rw [a.len]; exact at_int _ q⟩
  | [.str s], .cons h .nil, q =>
    obtain ⟨rfl, _⟩ := h.strE
    exact .inr ⟨s, rfl, q.1, at_int _ q.2⟩
theorem le_len {p pos : Pos} (hK : X.K = Ξ.K) (hg : Gl X "len") (hm : X.mg "len" = none) (ha : LAB Ξ H0 O X [e] ps) (he : starEach [e] X.env = [(false, eval e X.env)] := by rfl) : LE Ξ H0 O X (.Call (.Name "len" p) [e] [] pos) fun env => (ps env).bind lenW :=
  le_callB ((k_len Ξ.K hK).or call_len_str) len_ok hg hm PySem.boot_len ha (by decide) (by decide) he rfl
def tupleW : List D → W D
  | [.lst l] => W.ret (.tup l)
  | [.tup l] => W.ret (.tup l)
  | _ => W.fail
theorem tuple_ok : CallOk Ξ (rTupOf Ξ.K) tupleW := by
  intro M H xs ds Q E mu hf h q
  match ds, h, q with
  | [.lst l], .cons h .nil, q =>
    obtain ⟨b, ys, rfl, t, a⟩ := h.lstE
    exact ⟨b, ys, rfl, .inl ⟨SqL.of t, fun p np => at_newT mu a np q⟩⟩
  | [.tup l], .cons h .nil, q =>
    obtain ⟨b, ys, rfl, t, a⟩ := h.tupE
    exact ⟨b, ys, rfl, .inr ⟨t, at_tup mu (Same.refl H) t a q⟩⟩
theorem le_tuple {p pos : Pos} (hK : X.K = Ξ.K) (hg : Gl X "tuple") (hm : X.mg "tuple" = none) (ha : LAB Ξ H0 O X [e] ps) (he : starEach [e] X.env = [(false, eval e X.env)] := by rfl) : LE Ξ H0 O X (.Call (.Name "tuple" p) [e] [] pos) fun env => (ps env).bind tupleW :=
  le_callTy (k_tup Ξ.K hK) tuple_ok hg hm (by decide +kernel) ha (by decide) (by decide) he rfl
def listW : List D → W D
  | [.lst l] => W.ret (.lst l)
  | [.tup l] => W.ret (.lst l)
  | _ => W.fail
theorem list_ok : CallOk Ξ (rListOf Ξ.K) listW := by
  intro M H xs ds Q E mu hf h q
  match ds, h, q with
  | [.lst l], .cons h .nil, q =>
    obtain ⟨b, ys, rfl, t, a⟩ := h.lstE
    exact ⟨b, ys, rfl, .inl (SqL.of t), fun p np => at_new mu a np q⟩
  | [.tup l], .cons h .nil, q =>
    obtain ⟨b, ys, rfl, t, a⟩ := h.tupE
    exact ⟨b, ys, rfl, .inr t, fun p np => at_new mu a np q⟩
theorem le_list {p pos : Pos} (hK : X.K = Ξ.K) (hg : Gl X "list") (hm : X.mg "list" = none) (ha : LAB Ξ H0 O X [e] ps) (he : starEach [e] X.env = [(false, eval e X.env)] := by rfl) : LE Ξ H0 O X (.Call (.Name "list" p) [e] [] pos) fun env => (ps env).bind listW :=
  le_callTy (k_list Ξ.K hK) list_ok hg hm (by decide +kernel) ha (by decide) (by decide) he rfl
def bsOf : List D → Option (List Bool)
  | [] => some []
  | .bl b :: l => (bsOf l).map (b :: ·)
  | _ => none
theorem bsOf_eq : ∀ {l : List D} {bs : List Bool}, bsOf l = some bs → l = bs.map D.bl
  | [], _, h => by cases h; rfl
  | .bl b :: l, _, h => by
    obtain ⟨cs, h1, rfl⟩ := Option.map_eq_some_iff.mp h
    rw [bsOf_eq h1]
    rfl
theorem bsOf_map (bs : List Bool) : bsOf (bs.map D.bl) = some bs := by
  induction bs with
  | nil => rfl
  | cons b bs ih => show (bsOf (bs.map D.bl)).map (b :: ·) = _; rw [ih]; rfl
def allW : List D → W D
  | [.lst l] => (optW (bsOf l)).bind fun bs => W.ret (.bl (bs.all id))
  | _ => W.fail
theorem all_ok : CallOk Ξ (rAll Ξ.K) allW := by
  intro M H xs ds Q E mu hf h q
  match ds, h, q with
  | [.lst l], .cons h .nil, q =>
    obtain ⟨bs, e, q⟩ := optW_wp q
    rw [bsOf_eq e] at h
    obtain ⟨b, ys, rfl, t, a⟩ := h.lstE
    rw [a.of_bls] at t
    exact ⟨b, bs, rfl, SqL.of t, at_bl _ q⟩
theorem le_all {p pos : Pos} (hc : X.calm = true) (hK : X.K = Ξ.K) (hg : Gl X "all") (hm : X.mg "all" = none) (ha : LAB Ξ H0 O X [e] ps) (he : starEach [e] X.env = [(false, eval e X.env)] := by rfl) : LE Ξ H0 O X (.Call (.Name "all" p) [e] [] pos) fun env => (ps env).bind allW :=
  le_callB (k_all Ξ.K hc hK) all_ok hg hm (by decide +kernel) ha (by decide) (by decide) he rfl
def isOf : List D → Option (List Int)
  | [] => some []
  | .int b :: l => (isOf l).map (b :: ·)
  | _ => none
theorem isOf_eq : ∀ {l : List D} {bs : List Int}, isOf l = some bs → l = bs.map D.int
  | [], _, h => by cases h; rfl
  | .int b :: l, _, h => by
    obtain ⟨cs, h1, rfl⟩ := Option.map_eq_some_iff.mp h
    rw [isOf_eq h1]
    rfl
theorem isOf_map (bs : List Int) : isOf (bs.map D.int) = some bs := by
  induction bs with
  | nil => rfl
  | cons b bs ih => show (isOf (bs.map D.int)).map (b :: ·) = _; rw [ih]; rfl
def sumW : List D → W D
  | [.lst l] => (optW (isOf l)).bind fun ns => W.ret (.int ns.sum)
  | _ => W.fail
theorem sum_ok : CallOk Ξ (rSum Ξ.K) sumW := by
  intro M H xs ds Q E mu hf h q
  match ds, h, q with
  | [.lst l], .cons h .nil, q =>
    obtain ⟨bs, e, q⟩ := optW_wp q
    rw [isOf_eq e] at h
    obtain ⟨b, ys, rfl, t, a⟩ := h.lstE
    rw [a.of_ints] at t
    exact ⟨b, bs, rfl, SqL.of t, at_int _ q⟩
theorem le_sum {p pos : Pos} (hc : X.calm = true) (hK : X.K = Ξ.K) (hg : Gl X "sum") (hm : X.mg "sum" = none) (ha : LAB Ξ H0 O X [e] ps) (he : starEach [e] X.env = [(false, eval e X.env)] := by rfl) : LE Ξ H0 O X (.Call (.Name "sum" p) [e] [] pos) fun env => (ps env).bind sumW :=
  le_callB (k_sum Ξ.K hc hK) sum_ok hg hm (by decide +kernel) ha (by decide) (by decide) he rfl
/-! ### isinstance, of data -/
def tyOf : D → Option String
  | .non => some "NoneType"
  | .bl _ => some "bool"
  | .int _ => some "int"
  | .str _ => some "str"
  | .tup _ => some "tuple"
  | .lst _ => some "list"
  | _ => none
theorem Bp.ty {M : List Addr} {H : Hp} {v : V} {d : D} {t : String} (h : Bp Ξ M H v d) (e : tyOf d = some t) : TyX Ξ.K H v (.type t) := by
  cases d <;> cases e
  · rw [h.nonE]; exact .base .non
  · rw [h.blE]; exact .base (.bl _)
  · rw [h.intE]; exact .base (.int _)
  · rw [h.strE.1]; exact .base (.str _)
  · obtain ⟨b, xs, rfl, t, _⟩ := h.tupE
    rcases t with (h | ⟨o, h⟩) | ⟨o, its, n, hk, hc, _⟩
    · exact .base (.tup h)
    · exact .fTuple h
    · exact .kTuple hk hc
  · obtain ⟨b, xs, rfl, t, _⟩ := h.lstE
    exact .base (.lst t)
/-- isinstance(e, T) -/
def isiW (T : String) (d : D) : W D := match tyOf d with
  | some t => W.ret (.bl (t == T || (t == "bool" && T == "int")))
  | none => W.fail
theorem le_isi {T : String} {p p2 pos : Pos} (hT : T ∈ ["int", "bool", "str", "tuple", "list"]) (hK : X.K = Ξ.K) (hg : Gl X "isinstance") (hm : X.mg "isinstance" = none) (hg2 : Gl X (T : Str)) (hm2 : X.mg (T : Str) = none) (hb2 : bootBuiltins (T : Str) = some (.type T)) (hn2 : (T : Str) ≠ "__name__") (hd2 : ((T : Str) == ("__debug__" : Str)) = false)
    (ha : LB Ξ H0 O X a pa) (he : starEach [a, .Name (T : Str) p2] X.env = (false, eval a X.env) :: starEach [.Name (T : Str) p2] X.env := by rfl) (he2 : starEach [.Name (T : Str) p2] X.env = [(false, eval (.Name (T : Str) p2) X.env)] := by rfl) (hpl : (backTo pos (starEach [.Name (T : Str) p2] X.env)).any (·.1) = false := by rfl) :
    LE Ξ H0 O X (.Call (.Name "isinstance" p) [a, .Name (T : Str) p2] [] pos) fun env => (pa env).bind (isiW T) :=
  wkE (pe_callB (k_isi Ξ.K hK) hg hm (by decide +kernel) (pa_cons ha (pa_cons (pe_bltn (v := .ty T) hg2 hm2 hb2 rfl hn2 hd2) pa_nil he2) he) (by decide) (by decide) he hpl) fun σ H Q ⟨S, A, G, env, E, hA, r, q⟩ =>
    ⟨S, A, G, env, E, hA, r, (pa env).mono (fun d k v H' g r' hv => by
      unfold isiW at k
      split at k
      · rename_i t et
        refine ⟨v, .ty T, .type t, .type T, _, rfl, .ty _, hv.ty et, kit_ty (kitB_tab t ?_ T hT), k _ H' g r' (.bl _)⟩
        cases d <;> cases et <;> decide
      · exact k.elim) (fun _ z => z) q⟩
end
end LP
namespace LP
open PySem PySem.Spec PyProof.Rows L2 PK RZ
section
variable {X : Cx} {Ξ : Ctx} {H0 : Hp} {O O' Ob : List Nat} {a b c e : Expr} {es : List Expr} {pos : Pos} {pa pb pc : Env → W D} {ps : Env → W (List D)}
/-! ### comprehensions -/
abbrev LTs (Ξ : Ctx) (H0 : Hp) (O : List Nat) (X : Cx) (ifs : List Expr) (p : Env → W Bool) : Prop := PTs X ifs (liT Ξ H0 O p)
theorem lts_nil : LTs Ξ H0 O X [] fun _ => W.ret true := ⟨fun pins s σ H Q I h => pts_nil.run pins s σ H Q I (by
  obtain ⟨S, A, G, env, E, hA, r, q⟩ := h
  exact q H (Gr.refl H) r)⟩
theorem lts_one {p : Env → W Bool} (h : LT Ξ H0 O X c p) : LTs Ξ H0 O X [c] p := pts_one h
def lcD (gW : D → Env → W Env) (tW : Env → W Bool) (eW : Env → W D) (vs : List Nat) (pi : Env → W (List D)) (env : Env) : W D :=
  (pi env).bind fun ds => (lcW gW tW eW (wipeE env vs) ds []).bind fun l => W.ret (.lst l)
section
variable {elt tg iter : Expr} {ifs : List Expr} {scope : Scope} {own : List (Str × Nat)} {pi : Env → W (List D)} {gW : D → Env → W Env} {tW : Env → W Bool} {eW : Env → W D}
theorem ln_lc (hc : X.calm = true) (hN : X.N.Nodup) (hi : LI Ξ H0 O X tg iter pi) (ok : BlkOk X.N X.env.scope scope own) (hvs : ∀ i ∈ own.map (·.2), i ∉ O)
    (hg : ∀ (s : Shared) (H : Hp) (C : Addr) (cl : List (Str × Addr)) (fp : List Addr), LG Ξ H0 O (own.map (·.2)) (X.blk s H scope (compEnvC scope cl C X.env) fp) tg gW)
    (ht : ∀ (s : Shared) (H : Hp) (C : Addr) (cl : List (Str × Addr)) (fp : List Addr), LTs Ξ H0 O (X.blk s H scope (compEnvC scope cl C X.env) fp) ifs tW)
    (he : ∀ (s : Shared) (H : Hp) (C : Addr) (cl : List (Str × Addr)) (fp : List Addr), LE Ξ H0 O (X.blk s H scope (compEnvC scope cl C X.env) fp) elt eW) (hs : ∀ x, foldedSetIterable iter X.env x = pure x := by intro _; rfl) :
    PE X (.ListComp elt [⟨tg, iter, ifs, 0⟩] scope pos) (liN Ξ H0 O (lcD gW tW eW (own.map (·.2)) pi)) :=
  wkE (pe_lc hc hN hi ok hg ht he hs) (lc_reads hvs (fun _ _ _ h => h) (fun _ _ _ _ h => h) (fun _ _ _ h => h) fun _ _ _ h => h)
theorem ls_lc {i : Nat} {y : Str} {py spos : Pos} (hc : X.calm = true) (hN : X.N.Nodup) (hy : X.N[i]? = some y) (hyl : X.env.scope.names.lookup y = some .local)
    (hsw : swapsWith (.ListComp elt [⟨tg, iter, ifs, 0⟩] scope pos) (some (.Name y py)) spos.line X.env = pure true) (hi : LI Ξ H0 O X tg iter pi) (ok : BlkOk X.N X.env.scope scope own) (hvs : ∀ i ∈ own.map (·.2), i ∉ O)
    (hg : ∀ (s : Shared) (H : Hp) (C : Addr) (cl : List (Str × Addr)) (fp : List Addr), LG Ξ H0 O (own.map (·.2)) (X.blk s H scope (compEnvC scope cl C X.env) fp) tg gW)
    (ht : ∀ (s : Shared) (H : Hp) (C : Addr) (cl : List (Str × Addr)) (fp : List Addr), LTs Ξ H0 O (X.blk s H scope (compEnvC scope cl C X.env) fp) ifs tW)
    (he : ∀ (s : Shared) (H : Hp) (C : Addr) (cl : List (Str × Addr)) (fp : List Addr), LE Ξ H0 O (X.blk s H scope (compEnvC scope cl C X.env) fp) elt eW) (hO : O.filter (fun j => decide (j ∈ O')) = O' := by decide) (hi2 : i ∉ O' := by decide) (hs : ∀ x, foldedSetIterable iter X.env x = pure x := by intro _; rfl) :
    LS Ξ H0 O (i :: O') Ob X (.Assign [.Name y py] (.ListComp elt [⟨tg, iter, ifs, 0⟩] scope pos) spos) fun env => (lcD gW tW eW (own.map (·.2)) pi env).bind fun d => (W.want (i < env.length)).bind fun _ => W.ret (.nx (env.set i (some d))) :=
  wkS (ps_setLc hc hN hy hyl hsw hi ok hg ht he hs) (own_reads hO hi2 (lc_reads hvs (fun _ _ _ h => h) (fun _ _ _ _ h => h) (fun _ _ _ h => h) fun _ _ _ h => h))
/-- the same, frozen at once -/
theorem ls_lcF {i : Nat} {y : Str} {py spos : Pos} (hc : X.calm = true) (hN : X.N.Nodup) (hy : X.N[i]? = some y) (hyl : X.env.scope.names.lookup y = some .local)
    (hsw : swapsWith (.ListComp elt [⟨tg, iter, ifs, 0⟩] scope pos) (some (.Name y py)) spos.line X.env = pure true) (hi : LI Ξ H0 O X tg iter pi) (ok : BlkOk X.N X.env.scope scope own) (hvs : ∀ i ∈ own.map (·.2), i ∉ O)
    (hg : ∀ (s : Shared) (H : Hp) (C : Addr) (cl : List (Str × Addr)) (fp : List Addr), LG Ξ H0 O (own.map (·.2)) (X.blk s H scope (compEnvC scope cl C X.env) fp) tg gW)
    (ht : ∀ (s : Shared) (H : Hp) (C : Addr) (cl : List (Str × Addr)) (fp : List Addr), LTs Ξ H0 O (X.blk s H scope (compEnvC scope cl C X.env) fp) ifs tW)
    (he : ∀ (s : Shared) (H : Hp) (C : Addr) (cl : List (Str × Addr)) (fp : List Addr), LE Ξ H0 O (X.blk s H scope (compEnvC scope cl C X.env) fp) elt eW) (hO : O.filter (fun j => decide (j ∈ O')) = O' := by decide) (hi2 : i ∉ O' := by decide) (hs : ∀ x, foldedSetIterable iter X.env x = pure x := by intro _; rfl) :
    LS Ξ H0 O O' Ob X (.Assign [.Name y py] (.ListComp elt [⟨tg, iter, ifs, 0⟩] scope pos) spos) fun env => (lcD gW tW eW (own.map (·.2)) pi env).bind fun d => W.ret (.nx (env.set i (some d))) :=
  wkS (ps_setLc hc hN hy hyl hsw hi ok hg ht he hs) (asg_reads hO hi2 fun σ H Q h => lc_reads hvs (fun _ _ _ h => h) (fun _ _ _ _ h => h) (fun _ _ _ h => h) (fun _ _ _ h => h) σ H Q (by
    obtain ⟨S, A, G, env, E, hA, r, q⟩ := h
    refine ⟨S, A, G, env, E, hA, r, W.mono _ (fun d k l H' g f nl ho => ?_) (fun _ z => z) q⟩
    refine k (.ref l) H' g (r.grow g f) ?_
    have nM := r.muA.out nl
    generalize hq : H' l = o at ho
    cases ho with
    | lst ho => exact .lst (ms_at hq nM) (ho.same (ms_mono fun b hb => List.mem_cons_of_mem _ hb))))
end
/-! ### a new list, owned -/
theorem ln_lst (h : LA Ξ H0 O X es ps) : PE X (.List es pos) (liN Ξ H0 O fun env => (ps env).bind lstW) :=
  wkE (pe_lst h) fun σ H Q ⟨S, A, G, env, E, hA, r, z⟩ => ⟨S, A, G, env, E, hA, r, (ps env).mono (fun ds u vs H1 g1 r1 hv => ⟨by rw [hv.len]; exact u.1, fun p np => by
    have s : Same H1 (upd H1 p (.lst vs)) := same_new (Same.refl H1) np
    have nf := ff_out r1.fi np
    have n0 : H p = none := by
      cases q : H p with
      | none => rfl
      | some o =>
        have := g1 p o nf q
        rw [np] at this
        cases this
    refine u.2 p _ (g1.trans (Gr.of s)) (FI_same r1.fi s) n0 ?_
    rw [upd_same]
    refine .lst (hv.same fun b o e => ?_)
    obtain ⟨h1, h2⟩ := ms_some e
    exact ms_at (s _ _ h1) fun z => (List.mem_cons.mp z).elim (ne_of_none h1 np) h2⟩) (fun _ z => z) z⟩
/-! ### methods of an owned list -/
def putW (env : Env) (i : Nat) (f : List D → W (List D)) : W Fl := (getW env i).bind fun x => match x with
  | .lst l => (f l).bind fun l' => W.ret (.nx (env.set i (some (.lst l'))))
  | _ => W.fail
def appW (d : D) (l : List D) : W (List D) := (W.want (l.length < sizeLine)).bind fun _ => W.ret (l ++ [d])
theorem putW_wp {env : Env} {i : Nat} {f : List D → W (List D)} {Q : Fl → Prop} {E : Ex → Prop} (h : (putW env i f).wp Q E) : ∃ l, env[i]? = some (some (.lst l)) ∧ (f l).wp (fun l' => Q (.nx (env.set i (some (.lst l'))))) E := by
  obtain ⟨d, e, h⟩ := getW_wp h
  cases d <;> try exact h.elim
  exact ⟨_, e, h⟩
/-- what a change of an owned list asks -/
theorem ls_append {i : Nat} {x : Str} {pn pa' pc' : Pos} (hO : i ∈ O)
    (hm : PE X (.Call (.Attribute (.Name x pn) "append" pa') [e] [] pc') (tBM X.K "list" rAppend (tVar i) (tCons (liE Ξ H0 O pa) tNil)))
    (hs : swapsWith (.Call (.Attribute (.Name x pn) "append" pa') [e] [] pc') none pos.line X.env = pure false := by rfl) :
    LS Ξ H0 O O Ob X (.Expr (.Call (.Attribute (.Name x pn) "append" pa') [e] [] pc') pos) fun env => (pa env).bind fun d => putW env i (appW d) := by
  refine wkS (ps_expr hm hs) fun De σ H ⟨S, A, G, env, E, hA, r, q⟩ => ?_
  rw [← hA] at hO
  obtain ⟨⟨j, a⟩, ha, e1⟩ := List.mem_map.mp hO
  have e1 : j = i := e1
  subst e1
  obtain ⟨d0, h1, h2, h3⟩ := r.ow j a ha
  have key : ∃ us ds, H a = some (.lst us) ∧ d0 = .lst ds := by
    generalize hq : H a = o at h3
    cases h3 with
    | lst h => exact ⟨_, _, rfl, rfl⟩
  obtain ⟨us, ds, ea, rfl⟩ := key
  refine ⟨.ref a, h2, .inl ⟨rfl, us, SqL.of ea⟩, S, A, G, env, E, hA, r, (pa env).mono (fun d k v H1 g1 r1 hv1 => ?_) (fun _ z => z) q⟩
  obtain ⟨l, el, k⟩ := putW_wp k
  obtain ⟨d1, i1, i2, i3⟩ := r1.ow j a ha
  rw [el] at i1
  cases i1
  have ea1 : H1 a = some (.lst us) := g1 a _ (r.outA ha) ea
  rw [ea1] at i3
  cases i3 with
  | lst i3 => exact ⟨a, us, v, rfl, rfl, ea1, by rw [i3.len]; exact k.1, k.2 A σ _ hA (r1.put ha (.lst (i3.snoc hv1)))⟩
def extW (d : D) (l : List D) : W (List D) := match d with
  | .lst m => (W.want (l.length + m.length ≤ sizeLine)).bind fun _ => W.ret (l ++ m)
  | .tup m => (W.want (l.length + m.length ≤ sizeLine)).bind fun _ => W.ret (l ++ m)
  | _ => W.fail
def rExtA (K : PySem.W.Frag) : V → List V → Hp → VK → Prop := fun x vs H Q => rExtend x vs H Q ∨ rExtT K x vs H Q
theorem MtM.or {id : String} {r r' : V → List V → Hp → VK → Prop} (h : MtM X id r) (h' : MtM X id r') : MtM X id fun x vs H Q => r x vs H Q ∨ r' x vs H Q := by
  intro pins s σ H x vs v us Q I rx rv q
  rcases q with q | q
  · exact h pins s σ H x vs v us Q I rx rv q
  · exact h' pins s σ H x vs v us Q I rx rv q
theorem mt_extA {K : PySem.W.Frag} (hK : X.K = K) : MtM X "list.extend" (rExtA K) := MtM.or mt_extend (km_ext K hK)
theorem ls_extend {i : Nat} {x : Str} {pn pa' pc' : Pos} (hO : i ∈ O)
    (hm : PE X (.Call (.Attribute (.Name x pn) "extend" pa') [e] [] pc') (tBM X.K "list" (rExtA Ξ.K) (tVar i) (tCons (liE Ξ H0 O pa) tNil)))
    (hs : swapsWith (.Call (.Attribute (.Name x pn) "extend" pa') [e] [] pc') none pos.line X.env = pure false := by rfl) :
    LS Ξ H0 O O Ob X (.Expr (.Call (.Attribute (.Name x pn) "extend" pa') [e] [] pc') pos) fun env => (pa env).bind fun d => putW env i (extW d) := by
  refine wkS (ps_expr hm hs) fun De σ H ⟨S, A, G, env, E, hA, r, q⟩ => ?_
  rw [← hA] at hO
  obtain ⟨⟨j, a⟩, ha, e1⟩ := List.mem_map.mp hO
  have e1 : j = i := e1
  subst e1
  obtain ⟨d0, h1, h2, h3⟩ := r.ow j a ha
  have key : ∃ us ds, H a = some (.lst us) ∧ d0 = .lst ds := by
    generalize hq : H a = o at h3
    cases h3 with
    | lst h => exact ⟨_, _, rfl, rfl⟩
  obtain ⟨us, ds, ea, rfl⟩ := key
  refine ⟨.ref a, h2, .inl ⟨rfl, us, SqL.of ea⟩, S, A, G, env, E, hA, r, (pa env).mono (fun d k v H1 g1 r1 hv1 => ?_) (fun _ z => z) q⟩
  obtain ⟨l, el, k⟩ := putW_wp k
  obtain ⟨d1, i1, i2, i3⟩ := r1.ow j a ha
  rw [el] at i1
  cases i1
  have ea1 : H1 a = some (.lst us) := g1 a _ (r.outA ha) ea
  rw [ea1] at i3
  cases i3 with
  | lst i3 =>
    cases d <;> try exact k.elim
    · obtain ⟨b, xs, rfl, t, hx⟩ := hv1.tupE
      exact .inr ⟨a, b, us, xs, rfl, rfl, ea1, sqT_same ms_sub t, by rw [i3.len, hx.len]; exact k.1, k.2 A σ _ hA (r1.put ha (.lst (i3.app hx)))⟩
    · obtain ⟨b, xs, rfl, t, hx⟩ := hv1.lstE
      exact .inl ⟨a, b, us, xs, rfl, rfl, ea1, ms_sub _ _ t, by rw [i3.len, hx.len]; exact k.1, k.2 A σ _ hA (r1.put ha (.lst (i3.app hx)))⟩
/-! ### walks over texts, pairs -/
theorem wk_str {z : Str} (ok : PyData.strOk z = true) : Wk Ξ (Its z) [] (z.cps.toList.map fun c => D.str ⟨#[c]⟩) := by
  refine ⟨fun M H i _ _ hi => ?_, fun M H _ _ => ?_, fun M H i x H' _ _ hi y => ?_⟩
  · rw [List.length_map, Array.length_toList] at hi
    exact hi
  · rw [List.length_map, Array.length_toList]
    exact Nat.le_refl _
  · obtain ⟨e, c, hc, rfl⟩ := y
    subst e
    have hc' : z.cps.toList[i]? = some c := by rw [Array.getElem?_toList]; exact hc
    exact ⟨Same.refl _, .str ⟨#[c]⟩, by rw [List.getElem?_map, hc']; rfl, .str _ (strOk_one ok (List.mem_of_getElem? hc'))⟩
def walkSW : D → W (List D)
  | .str z => W.ret (z.cps.toList.map fun c => D.str ⟨#[c]⟩)
  | _ => W.fail
theorem li_str {tg : Expr} (h : LE Ξ H0 O X e pa) : LI Ξ H0 O X tg e fun env => (pa env).bind walkSW :=
  wkI (pi_str h) fun σ H R ⟨S, A, G, env, E, hA, r, q⟩ => ⟨S, A, G, env, E, hA, r, (pa env).mono (fun d k v H' g r' hv => by
    cases d <;> try exact k.elim
    cases hv with
    | str _ ok => exact ⟨_, rfl, k _ H' [] g r' (fun _ hx => (nomatch hx)) (wk_str ok)⟩) (fun _ z => z) q⟩
def zipD (l m : List D) : List D := (l.zip m).map fun p => D.tup [p.1, p.2]
theorem pair_at {M : List Addr} {H : Hp} {T : Addr} {x y : V} {d1 d2 : D} (mu : Mu M H) (nT : H T = none) (h1 : Rp Ξ (ms M H) x d1) (h2 : Rp Ξ (ms M H) y d2) : Same H (upd H T (.tup [x, y])) ∧ Rp Ξ (ms M (upd H T (.tup [x, y]))) (.ref T) (.tup [d1, d2]) := by
  have s : Same H (upd H T (.tup [x, y])) := same_new (Same.refl H) nT
  exact ⟨s, .tup (SqT.of (ms_at upd_same (mu.out nT))) (.cons (h1.same (same_ms s)) (.cons (h2.same (same_ms s)) .nil))⟩
theorem zip_get {l m : List D} {i : Nat} {d1 d2 : D} (h1 : l[i]? = some d1) (h2 : m[i]? = some d2) : (zipD l m)[i]? = some (.tup [d1, d2]) := by
  unfold zipD
  rw [List.getElem?_map, (List.getElem?_zip_eq_some (z := (d1, d2))).mpr ⟨h1, h2⟩]
  rfl
theorem wk_zipL {K : PySem.W.Frag} {a b : Addr} {l m : List D} (hK : K = Ξ.K) : Wk Ξ (Itz K a b) [(.ref a, .lst l), (.ref b, .lst m)] (zipD l m) := by
  subst hK
  have get : ∀ {M : List Addr} {H : Hp}, (∀ x ∈ [((V.ref a : V), D.lst l), (V.ref b, D.lst m)], Rp Ξ (ms M H) x.1 x.2) → ∃ xs ys, SqL Ξ.K H a xs ∧ RpAll Ξ (ms M H) xs l ∧ SqL Ξ.K H b ys ∧ RpAll Ξ (ms M H) ys m := fun {M H} h => by
    obtain ⟨_, xs, e, h1, h2⟩ := (h _ List.mem_cons_self).lstE
    cases e
    obtain ⟨_, ys, e, h3, h4⟩ := (h _ (List.mem_cons_of_mem _ List.mem_cons_self)).lstE
    cases e
    exact ⟨xs, ys, SqL.of (ms_sub _ _ h1), h2, SqL.of (ms_sub _ _ h3), h4⟩
  have ln : (zipD l m).length = min l.length m.length := by simp [zipD]
  refine ⟨fun M H i _ h hi => ?_, fun M H _ h => ?_, fun M H i x H' mu h hi y => ?_⟩
  · obtain ⟨xs, ys, h1, h2, h3, h4⟩ := get h
    have hx : i < xs.length := by rw [h2.len]; omega
    have hy : i < ys.length := by rw [h4.len]; omega
    exact ⟨xs, ys, xs[i], ys[i], h1, h3, by simp [hx], by simp [hy]⟩
  · obtain ⟨xs, ys, h1, h2, h3, h4⟩ := get h
    exact ⟨xs, ys, h1, h3, by rw [h2.len, h4.len]; omega⟩
  · obtain ⟨xs, ys, h1, h2, h3, h4⟩ := get h
    obtain ⟨T, u, v, rfl, nT, rfl, y1, y2⟩ := y
    obtain ⟨d1, e1, r1⟩ := h2.getV (y1 xs h1)
    obtain ⟨d2, e2, r2⟩ := h4.getV (y2 ys h3)
    obtain ⟨s, rp⟩ := pair_at mu nT r1 r2
    exact ⟨s, _, zip_get e1 e2, rp⟩
theorem wk_zipT {K : PySem.W.Frag} {a b : Addr} {l m : List D} (hK : K = Ξ.K) : Wk Ξ (ItzT K a b) [(.ref a, .tup l), (.ref b, .tup m)] (zipD l m) := by
  subst hK
  have get : ∀ {M : List Addr} {H : Hp}, (∀ x ∈ [((V.ref a : V), D.tup l), (V.ref b, D.tup m)], Rp Ξ (ms M H) x.1 x.2) → ∃ xs ys, SqT Ξ.K H a xs ∧ RpAll Ξ (ms M H) xs l ∧ SqT Ξ.K H b ys ∧ RpAll Ξ (ms M H) ys m := fun {M H} h => by
    obtain ⟨_, xs, e, h1, h2⟩ := (h _ List.mem_cons_self).tupE
    cases e
    obtain ⟨_, ys, e, h3, h4⟩ := (h _ (List.mem_cons_of_mem _ List.mem_cons_self)).tupE
    cases e
    exact ⟨xs, ys, sqT_same ms_sub h1, h2, sqT_same ms_sub h3, h4⟩
  have ln : (zipD l m).length = min l.length m.length := by simp [zipD]
  refine ⟨fun M H i _ h hi => ?_, fun M H _ h => ?_, fun M H i x H' mu h hi y => ?_⟩
  · obtain ⟨xs, ys, h1, h2, h3, h4⟩ := get h
    have hx : i < xs.length := by rw [h2.len]; omega
    have hy : i < ys.length := by rw [h4.len]; omega
    exact ⟨xs, ys, xs[i], ys[i], h1, h3, by simp [hx], by simp [hy]⟩
  · obtain ⟨xs, ys, h1, h2, h3, h4⟩ := get h
    exact ⟨xs, ys, h1, h3, by rw [h2.len, h4.len]; omega⟩
  · obtain ⟨xs, ys, h1, h2, h3, h4⟩ := get h
    obtain ⟨T, u, v, rfl, nT, rfl, y1, y2⟩ := y
    obtain ⟨d1, e1, r1⟩ := h2.getV (y1 xs h1)
    obtain ⟨d2, e2, r2⟩ := h4.getV (y2 ys h3)
    obtain ⟨s, rp⟩ := pair_at mu nT r1 r2
    exact ⟨s, _, zip_get e1 e2, rp⟩
def zipW : List D → W (List D)
  | [.lst l, .lst m] => W.ret (zipD l m)
  | [.tup l, .tup m] => W.ret (zipD l m)
  | _ => W.fail
theorem li_zip {e2 : Expr} {p pos tpos : Pos} {elts : List Expr} {kk : Nat} (hK : X.K = Ξ.K) (hg : Gl X "zip") (hm : X.mg "zip" = none) (ha : LA Ξ H0 O X [e, e2] ps)
    (hs : starEach [e, e2] X.env = (false, eval e X.env) :: starEach [e2] X.env := by rfl) (hpl : (backTo pos (starEach [e2] X.env)).any (·.1) = false := by rfl) :
    LI Ξ H0 O X (.Tuple elts kk tpos) (.Call (.Name "zip" p) [e, e2] [] pos) fun env => (ps env).bind zipW :=
  wkI (pk_zip Ξ.K hg hm ha hK hs hpl) fun σ H R ⟨S, A, G, env, E, hA, r, q⟩ => ⟨S, A, G, env, E, hA, r, (ps env).mono (fun ds k vs H' g r' hv => by
    match ds, k, hv with
    | [.lst l, .lst m], k, .cons h1 (.cons h2 .nil) =>
      have h1' := h1
      have h2' := h2
      obtain ⟨b1, xs, rfl, t1, a1⟩ := h1'.lstE
      obtain ⟨b2, ys, rfl, t2, a2⟩ := h2'.lstE
      refine ⟨b1, b2, xs, ys, rfl, .inl ⟨SqL.of (ms_sub _ _ t1), SqL.of (ms_sub _ _ t2), k _ H' [(.ref b1, .lst l), (.ref b2, .lst m)] g r' (fun x hx => ?_) (wk_zipL rfl)⟩⟩
      simp only [List.mem_cons, List.not_mem_nil, or_false] at hx
      rcases hx with rfl | rfl
      · exact h1
      · exact h2
    | [.tup l, .tup m], k, .cons h1 (.cons h2 .nil) =>
      have h1' := h1
      have h2' := h2
      obtain ⟨b1, xs, rfl, t1, a1⟩ := h1'.tupE
      obtain ⟨b2, ys, rfl, t2, a2⟩ := h2'.tupE
      refine ⟨b1, b2, xs, ys, rfl, .inr ⟨sqT_same ms_sub t1, sqT_same ms_sub t2, k _ H' [(.ref b1, .tup l), (.ref b2, .tup m)] g r' (fun x hx => ?_) (wk_zipT rfl)⟩⟩
      simp only [List.mem_cons, List.not_mem_nil, or_false] at hx
      rcases hx with rfl | rfl
      · exact h1
      · exact h2) (fun _ z => z) q⟩
/-! ### repr -/
def reprW : List D → W D
  | [d] => (W.want (flatD d = false ∧ d.plain = true ∧ d.toP.showable = true ∧ d.toP.depth ≤ 100 ∧ d.toP.shown.length ≤ sizeLine)).bind fun _ => W.ret (.str d.toP.shown)
  | _ => W.fail
end
end LP
namespace LP
open PySem PySem.Spec PyProof.Rows L2 PK RZ
/-! ### how great a thing is -/
/-- data: its numbers, its depth, how long it is when shown -/
structure Sz (m dp n : Nat) (d : D) : Prop where
  pl : d.plain = true
  mx : mx d.toP ≤ m
  dep : d.toP.depth ≤ dp
  wt : wt d.toP ≤ n
structure Szs (m dp n : Nat) (l : List D) : Prop where
  pl : D.plains l = true
  mx : mxs (D.toPs l) ≤ m
  dep : PyData.depthAll (D.toPs l) ≤ dp
  wt : wts (D.toPs l) ≤ n
section
variable {m dp n m' dp' n' : Nat} {d : D} {l k : List D}
theorem Sz.mono (h : Sz m dp n d) (h1 : m ≤ m') (h2 : dp ≤ dp') (h3 : n ≤ n') : Sz m' dp' n' d := ⟨h.pl, Nat.le_trans h.mx h1, Nat.le_trans h.dep h2, Nat.le_trans h.wt h3⟩
theorem Szs.mono (h : Szs m dp n l) (h1 : m ≤ m') (h2 : dp ≤ dp') (h3 : n ≤ n') : Szs m' dp' n' l := ⟨h.pl, Nat.le_trans h.mx h1, Nat.le_trans h.dep h2, Nat.le_trans h.wt h3⟩
theorem Szs.nil : Szs m dp n [] := ⟨rfl, Nat.zero_le _, Nat.zero_le _, Nat.zero_le _⟩
theorem Szs.cons (h1 : Sz m dp n d) (h2 : Szs m dp n' l) : Szs m dp (n + 2 + n') (d :: l) := by
  refine ⟨?_, ?_, ?_, ?_⟩
  · show (d.plain && D.plains l) = true
    rw [h1.pl, h2.pl]
    rfl
  · show max (PK.mx d.toP) (mxs (D.toPs l)) ≤ m
    exact Nat.max_le.mpr ⟨h1.mx, h2.mx⟩
  · show max d.toP.depth (PyData.depthAll (D.toPs l)) ≤ dp
    exact Nat.max_le.mpr ⟨h1.dep, h2.dep⟩
  · show PK.wt d.toP + 2 + wts (D.toPs l) ≤ _
    have := h1.wt
    have := h2.wt
    omega
theorem toPs_app : ∀ l k : List D, D.toPs (l ++ k) = D.toPs l ++ D.toPs k
  | [], _ => rfl
  | d :: l, k => by
    show d.toP :: D.toPs (l ++ k) = _
    rw [toPs_app l k]
    rfl
theorem plains_app : ∀ l k : List D, D.plains (l ++ k) = (D.plains l && D.plains k)
  | [], _ => rfl
  | d :: l, k => by
    show (d.plain && D.plains (l ++ k)) = (d.plain && D.plains l && D.plains k)
    rw [plains_app l k, Bool.and_assoc]
theorem mxs_app : ∀ a b : List PyData, mxs (a ++ b) = max (mxs a) (mxs b)
  | [], b => (Nat.zero_max _).symm
  | d :: a, b => by
    show max (PK.mx d) (mxs (a ++ b)) = max (max (PK.mx d) (mxs a)) (mxs b)
    rw [mxs_app a b, Nat.max_assoc]
theorem depths_app : ∀ a b : List PyData, PyData.depthAll (a ++ b) = max (PyData.depthAll a) (PyData.depthAll b)
  | [], b => (Nat.zero_max _).symm
  | d :: a, b => by
    show max d.depth (PyData.depthAll (a ++ b)) = max (max d.depth (PyData.depthAll a)) (PyData.depthAll b)
    rw [depths_app a b, Nat.max_assoc]
theorem Szs.app (h1 : Szs m dp n l) (h2 : Szs m dp n' k) : Szs m dp (n + n') (l ++ k) := by
  refine ⟨?_, ?_, ?_, ?_⟩
  · rw [plains_app, h1.pl, h2.pl]
    rfl
  · rw [toPs_app, mxs_app]
    exact Nat.max_le.mpr ⟨h1.mx, h2.mx⟩
  · rw [toPs_app, depths_app]
    exact Nat.max_le.mpr ⟨h1.dep, h2.dep⟩
  · rw [toPs_app, wts_app]
    exact Nat.add_le_add h1.wt h2.wt
theorem Szs.parts (h : Szs m dp n (l ++ k)) : Szs m dp n l ∧ Szs m dp n k := by
  have h1 := h.pl
  have h2 := h.mx
  have h3 := h.dep
  have h4 := h.wt
  rw [plains_app, Bool.and_eq_true] at h1
  rw [toPs_app, mxs_app, Nat.max_le] at h2
  rw [toPs_app, depths_app, Nat.max_le] at h3
  rw [toPs_app, wts_app] at h4
  exact ⟨⟨h1.1, h2.1, h3.1, by omega⟩, ⟨h1.2, h2.2, h3.2, by omega⟩⟩
theorem Szs.take (h : Szs m dp n l) (i : Nat) : Szs m dp n (l.take i) := by
  rw [← List.take_append_drop i l] at h
  exact h.parts.1
theorem Szs.drop (h : Szs m dp n l) (i : Nat) : Szs m dp n (l.drop i) := by
  rw [← List.take_append_drop i l] at h
  exact h.parts.2
theorem Szs.cut (h : Szs m dp n l) (lo hi : Option Int) : Szs m dp n (cutD l lo hi) := (h.drop _).take _
theorem Szs.head (h : Szs m dp n (d :: l)) : Sz m dp n d ∧ Szs m dp n l := by
  have h1 : (d.plain && D.plains l) = true := h.pl
  have h2 : max (PK.mx d.toP) (mxs (D.toPs l)) ≤ m := h.mx
  have h3 : max d.toP.depth (PyData.depthAll (D.toPs l)) ≤ dp := h.dep
  have h4 : PK.wt d.toP + 2 + wts (D.toPs l) ≤ n := h.wt
  rw [Bool.and_eq_true] at h1
  rw [Nat.max_le] at h2 h3
  exact ⟨⟨h1.1, h2.1, h3.1, by omega⟩, ⟨h1.2, h2.2, h3.2, by omega⟩⟩
theorem Szs.mem (h : Szs m dp n l) : ∀ d ∈ l, Sz m dp n d := by
  induction l with
  | nil => exact fun _ z => (nomatch z)
  | cons e l ih =>
    intro d hd
    rcases List.mem_cons.mp hd with rfl | hd
    · exact h.head.1
    · exact ih h.head.2 d hd
/-- each of them, so many -/
theorem Szs.each (h : ∀ d ∈ l, Sz m dp n d) : Szs m dp (l.length * (n + 2)) l := by
  induction l with
  | nil => exact Szs.nil
  | cons e l ih =>
    have := Szs.cons (h e List.mem_cons_self) (ih fun d hd => h d (List.mem_cons_of_mem _ hd))
    refine this.mono (Nat.le_refl _) (Nat.le_refl _) ?_
    rw [List.length_cons, Nat.succ_mul]
    omega
theorem Szs.rev (h : Szs m dp n l) : Szs m dp n l.reverse := by
  have key : ∀ l : List D, D.plains l.reverse = D.plains l ∧ mxs (D.toPs l.reverse) = mxs (D.toPs l) ∧ PyData.depthAll (D.toPs l.reverse) = PyData.depthAll (D.toPs l) ∧ wts (D.toPs l.reverse) = wts (D.toPs l) := by
    intro l
    induction l with
    | nil => exact ⟨rfl, rfl, rfl, rfl⟩
    | cons d l ih =>
      obtain ⟨i1, i2, i3, i4⟩ := ih
      rw [List.reverse_cons, plains_app, toPs_app, mxs_app, depths_app, wts_app, i1, i2, i3, i4]
      refine ⟨?_, ?_, ?_, ?_⟩
      · show (D.plains l && (d.plain && true)) = (d.plain && D.plains l)
        rw [Bool.and_true, Bool.and_comm]
      · show max _ (max (PK.mx d.toP) 0) = max (PK.mx d.toP) _
        rw [Nat.max_zero, Nat.max_comm]
      · show max _ (max d.toP.depth 0) = max d.toP.depth _
        rw [Nat.max_zero, Nat.max_comm]
      · show _ + (PK.wt d.toP + 2 + 0) = PK.wt d.toP + 2 + _
        omega
  obtain ⟨i1, i2, i3, i4⟩ := key l
  exact ⟨by rw [i1]; exact h.pl, by rw [i2]; exact h.mx, by rw [i3]; exact h.dep, by rw [i4]; exact h.wt⟩
theorem Sz.tup (h : Szs m dp n l) : Sz m (dp + 1) (n + 3) (.tup l) := by
  refine ⟨h.pl, h.mx, ?_, Nat.add_le_add_right h.wt 3⟩
  show (PyData.tuple (D.toPs l)).depth ≤ _
  rw [depth_tuple]
  exact Nat.succ_le_succ h.dep
theorem Sz.lst (h : Szs m dp n l) : Sz m (dp + 1) (n + 3) (.lst l) := by
  refine ⟨h.pl, h.mx, ?_, Nat.add_le_add_right h.wt 3⟩
  show (PyData.list (D.toPs l)).depth ≤ _
  rw [depth_list]
  exact Nat.succ_le_succ h.dep
theorem Sz.untup (h : Sz m (dp + 1) n (.tup l)) : Szs m dp n l ∧ wts (D.toPs l) + 3 ≤ n := by
  have h3 : (PyData.tuple (D.toPs l)).depth ≤ dp + 1 := h.dep
  rw [depth_tuple] at h3
  have h4 : wts (D.toPs l) + 3 ≤ n := h.wt
  exact ⟨⟨h.pl, h.mx, by omega, by omega⟩, h4⟩
theorem Sz.unlst (h : Sz m (dp + 1) n (.lst l)) : Szs m dp n l ∧ wts (D.toPs l) + 3 ≤ n := by
  have h3 : (PyData.list (D.toPs l)).depth ≤ dp + 1 := h.dep
  rw [depth_list] at h3
  have h4 : wts (D.toPs l) + 3 ≤ n := h.wt
  exact ⟨⟨h.pl, h.mx, by omega, by omega⟩, h4⟩
theorem Sz.non (h : 4 ≤ n) : Sz m dp n .non := ⟨rfl, Nat.zero_le _, Nat.zero_le _, h⟩
theorem Sz.bl {b : Bool} (h : 5 ≤ n) : Sz m dp n (.bl b) := ⟨rfl, Nat.zero_le _, Nat.zero_le _, h⟩
theorem Sz.int {i : Int} (h : i.natAbs.log2 ≤ m) (h2 : i.natAbs.log2 + 2 ≤ n) : Sz m dp n (.int i) := ⟨rfl, h, Nat.zero_le _, h2⟩
theorem Sz.str {y : Str} (h : 10 * y.length + 2 ≤ n) : Sz m dp n (.str y) := ⟨rfl, Nat.zero_le _, Nat.zero_le _, h⟩
theorem Sz.sh (h : Sz m dp n d) (h2 : dp ≤ 64) : D.sh d := ⟨h.pl, Nat.le_trans h.dep h2⟩
theorem toPs_len : ∀ l : List D, (D.toPs l).length = l.length
  | [] => rfl
  | d :: l => congrArg (· + 1) (toPs_len l)
theorem Szs.len (h : Szs m dp n l) : 2 * l.length ≤ n := by
  have := wts_len (n := (n + 1) / 2) (ds := D.toPs l) (by have := h.wt; omega)
  have h2 : 2 * (D.toPs l).length ≤ wts (D.toPs l) := by
    generalize D.toPs l = ds
    induction ds with
    | nil => exact Nat.le_refl _
    | cons d ds ih =>
      show 2 * (ds.length + 1) ≤ PK.wt d + 2 + wts ds
      omega
  rw [toPs_len] at h2
  have := h.wt
  omega
end
/-! ### repr -/
theorem call_reprV {X : Cx} {k : Nat} (K : PySem.W.Frag) (hgd : X.A.guards = some []) (hr : Room k X.A) (hK : X.K = K) : CallR X (.builtin "repr")
    (fun xs H Q => ∃ v d, xs = [v] ∧ Dp K H v d ∧ Ok d ∧ d.depth ≤ 100 ∧ d.shown.length ≤ sizeLine ∧ Q (.str d.shown) H) := by
  subst hK
  intro pins s σ H xs us Q I r h
  obtain ⟨v, d, rfl, hd, ok, hdp, hz, q⟩ := h
  obtain ⟨u, rfl, rr⟩ := vals1 r
  have big : ∀ a : Addr, v = .ref a → wpAny (model X.prog X.w) X.A (call (.builtin "repr") [u]) (EP X pins σ Q) X.xe s := by
    rintro a rfl
    cases rr
    obtain ⟨as, rd⟩ := Dp.reads I d _ _ hd rfl
    have hu := hr.un
    refine repr_of_reads' rd ok.sh (fun e => by rw [ok.nd] at e; cases e) hgd (by omega) (fun _ _ e => e) (fun h' u tk hk => ?_) hz
    exact ⟨.str _, H, I.kept (t' := tk) hk, ⟨_, rfl⟩, q⟩
  cases hd with
  | non =>
    cases rr
    exact PySem.P.repr_of_none ⟨.str _, H, I.tok _, ⟨_, rfl⟩, q⟩
  | bl b =>
    cases rr
    refine PySem.P.repr_of_bool ⟨.str _, H, I.tok _, ⟨_, rfl⟩, ?_⟩
    cases b <;> exact q
  | int i =>
    obtain ⟨t, rfl⟩ := rr
    exact PySem.P.repr_of_int (of_decide_eq_true ok.sh) ⟨.str _, H, I.tok _, ⟨_, rfl⟩, q⟩
  | str y =>
    obtain ⟨t, rfl⟩ := rr
    exact PySem.P.repr_of_str ⟨.str _, H, I.tok _, ⟨_, rfl⟩, q⟩ hz
  | lst hs ha => exact big _ rfl
  | tup hs ha => exact big _ rfl
/-- what repr shows -/
def rp (d : D) : D := .txt d.toP.shown
def reprD : List D → W D
  | [d] => (W.want (Sz 1900 64 sizeLine d)).bind fun _ => W.ret (rp d)
  | _ => W.fail
section
variable {X : Cx} {Ξ : Ctx} {H0 : Hp} {O O' Ob : List Nat} {a b c e : Expr} {es : List Expr} {pos : Pos} {pa pb pc : Env → W D} {ps : Env → W (List D)}
theorem repr_ok : CallOk Ξ (fun xs H Q => ∃ v d, xs = [v] ∧ Dp Ξ.K H v d ∧ Ok d ∧ d.depth ≤ 100 ∧ d.shown.length ≤ sizeLine ∧ Q (.str d.shown) H) reprD := by
  intro M H xs ds Q E mu hf h q
  match ds, h, q with
  | [d], .cons h .nil, ⟨z, q⟩ =>
    have ok : Ok d.toP := ok_of (h.lay z.pl) z.mx (by decide)
    exact ⟨_, d.toP, rfl, h.dp z.pl, ok, Nat.le_trans z.dep (by decide), Nat.le_trans (shown_wt _ ok) z.wt, q _ H (Same.refl H) (.txt _)⟩
theorem le_repr {k : Nat} {p pos : Pos} (hgd : X.A.guards = some []) (hr : Room k X.A) (hK : X.K = Ξ.K) (hg : Gl X "repr") (hm : X.mg "repr" = none) (ha : LAB Ξ H0 O X [e] ps) (he : starEach [e] X.env = [(false, eval e X.env)] := by rfl) : LE Ξ H0 O X (.Call (.Name "repr" p) [e] [] pos) fun env => (ps env).bind reprD :=
  le_callB (call_reprV Ξ.K hgd hr hK) repr_ok hg hm (by decide +kernel) ha (by decide) (by decide) he rfl
/-! ### sorted, set -/
def sortD (l : List D) : List D := srt false D.toP l
def ssOf : List D → Option (List Str)
  | [] => some []
  | .str b :: l => (ssOf l).map (b :: ·)
  | _ => none
theorem ssOf_eq : ∀ {l : List D} {bs : List Str}, ssOf l = some bs → l = bs.map D.str
  | [], _, h => by cases h; rfl
  | .str b :: l, _, h => by
    obtain ⟨cs, h1, rfl⟩ := Option.map_eq_some_iff.mp h
    rw [ssOf_eq h1]
    rfl
theorem ssOf_map (bs : List Str) : ssOf (bs.map D.str) = some bs := by
  induction bs with
  | nil => rfl
  | cons b bs ih => show (ssOf (bs.map D.str)).map (b :: ·) = _; rw [ih]; rfl
def sortedW : List D → W D
  | [.lst l] => (W.want (D.plains l = true ∧ Cmpb (D.toPs l) ∧ l.length ≤ sizeLine)).bind fun _ => W.ret (.lst (sortD l))
  | [.set l] => (W.want (l.length ≤ 4090)).bind fun _ => W.ret (.lst ((sortS l).map D.str))
  | _ => W.fail
theorem merge_map {α β : Type} (f : α → β) (le : β → β → Bool) (l : List α) : (l.mergeSort fun a b => le (f a) (f b)).map f = (l.map f).mergeSort le := by
  exact List.map_mergeSort (fun _ _ _ _ => rfl)
theorem RpAll.zipM {H : Hp} : ∀ {xs : List V} {ds : List D}, RpAll Ξ H xs ds → ∀ p ∈ xs.zip ds, Rp Ξ H p.1 p.2
  | _, _, .nil, _, h => (nomatch h)
  | _, _, .cons h1 h2, p, h => by
    rcases List.mem_cons.mp h with rfl | h
    · exact h1
    · exact RpAll.zipM h2 p h
theorem RpAll.ofPairs {H : Hp} : ∀ {bs : List (V × D)}, (∀ p ∈ bs, Rp Ξ H p.1 p.2) → RpAll Ξ H (bs.map (·.1)) (bs.map (·.2))
  | [], _ => .nil
  | b :: bs, h => .cons (h b List.mem_cons_self) (RpAll.ofPairs fun p hp => h p (List.mem_cons_of_mem _ hp))
theorem zip_toP : ∀ (xs : List V) (ds : List D), xs.zip (D.toPs ds) = (xs.zip ds).map fun p => (p.1, p.2.toP)
  | [], _ => rfl
  | _ :: _, [] => rfl
  | x :: xs, d :: ds => by
    show (x, d.toP) :: xs.zip (D.toPs ds) = _
    rw [zip_toP xs ds]
    rfl
theorem srt_zip {H : Hp} {xs : List V} {ds : List D} (h : RpAll Ξ H xs ds) : RpAll Ξ H ((srt false (·.2) (xs.zip (D.toPs ds))).map (·.1)) (sortD ds) := by
  have e1 : (srt false (·.2) (xs.zip (D.toPs ds))) = (srt false (fun p : V × D => p.2.toP) (xs.zip ds)).map fun p => (p.1, p.2.toP) := by
    unfold srt
    rw [zip_toP]
    exact (merge_map (fun p : V × D => (p.1, p.2.toP)) (PySem.W.dataLe false (·.2)) (xs.zip ds)).symm
  have e2 : sortD ds = (srt false (fun p : V × D => p.2.toP) (xs.zip ds)).map (·.2) := by
    unfold sortD srt
    have : ds = (xs.zip ds).map (·.2) := (List.map_snd_zip (by rw [h.len]; exact Nat.le_refl _)).symm
    rw [this]
    have e := (merge_map (fun p : V × D => p.2) (PySem.W.dataLe false D.toP) (xs.zip ds)).symm
    rw [← this] at e ⊢
    exact e
  rw [e1, e2, List.map_map]
  refine RpAll.ofPairs fun p hp => h.zipM p ?_
  exact (srt_perm false _ _).mem_iff.mp hp
theorem sorted_ok : CallOk Ξ (fun xs H Q => rSrt Ξ.K xs H Q ∨ rSrtSet Ξ.P Ξ.w xs H Q) sortedW := by
  intro M H xs ds Q E mu hf h q
  match ds, h, q with
  | [.lst l], .cons h .nil, ⟨⟨pl, cm, hl⟩, q⟩ =>
    have hd := h.full
    obtain ⟨b, ys, rfl, t, a⟩ := h.lstE
    obtain ⟨_, ys', e, t', a'⟩ := hd.lstE
    cases e
    rw [t] at t'
    cases t'
    exact .inl ⟨b, ys, _, rfl, SqL.of t, a'.dp pl, cm, by rw [a.len]; exact hl, fun p np => at_new mu (srt_zip a) np q⟩
  | [.set l], .cons h .nil, ⟨hl, q⟩ =>
    cases h with
    | rp h =>
      cases h with
      | set h1 h2 h3 =>
        refine .inr ⟨_, l, rfl, ms_sub _ _ h1, h2, Nat.lt_of_le_of_lt hl (by decide), hl, fun p np => at_new mu (RpAll.strs _ fun y hy => ?_) np q⟩
        exact h3 y ((srt_perm false _ _).mem_iff.mp hy)
theorem le_sorted {k : Nat} {p pos : Pos} (hc : X.calm = true) (hr : Room k X.A) (hP : X.prog = Ξ.P) (hw : X.w = Ξ.w) (hK : X.K = Ξ.K) (hg : Gl X "sorted") (hm : X.mg "sorted" = none) (ha : LAB Ξ H0 O X [e] ps) (he : starEach [e] X.env = [(false, eval e X.env)] := by rfl) : LE Ξ H0 O X (.Call (.Name "sorted" p) [e] [] pos) fun env => (ps env).bind sortedW :=
  le_callB ((by rw [← hK]; exact call_srt hr : CallR X _ (rSrt Ξ.K)).or (by rw [← hP, ← hw]; exact call_srtSet hc hr)) sorted_ok hg hm (by decide +kernel) ha (by decide) (by decide) he rfl
def setW : List D → W D
  | [.lst l] => (optW (ssOf l)).bind fun ys => (W.want (ys.length ≤ 4090)).bind fun _ => W.ret (.set (insAll ys))
  | [.tup l] => (optW (ssOf l)).bind fun ys => (W.want (ys.length ≤ 4090)).bind fun _ => W.ret (.set (insAll ys))
  | _ => W.fail
theorem at_set {M : List Addr} {H : Hp} {p : Addr} {l : List Str} {Q : VK} (mu : Mu M H) (np : H p = none) (n : l.Nodup) (o : ∀ y ∈ l, PyData.strOk y = true) (q : ∀ v H', Same H H' → Rp Ξ (ms M H') v (.set l) → Q v H') : Q (.ref p) (upd H p (SetTO Ξ.P Ξ.w p l)) :=
  q _ _ (same_new (Same.refl H) np) (.set (ms_at upd_same (mu.out np)) n o)
theorem set_ok : CallOk Ξ (rSetOf Ξ.K Ξ.P Ξ.w) setW := by
  intro M H xs ds Q E mu hf h q
  match ds, h, q with
  | [.lst l], .cons h .nil, q =>
    obtain ⟨ys, e, hl, q⟩ := optW_wp q
    rw [ssOf_eq e] at h
    obtain ⟨b, zs, rfl, t, a⟩ := h.lstE
    have ok := a.strs_ok
    rw [a.of_strs] at t
    exact ⟨b, ys, rfl, .inr (SqL.of t), hl, fun p np => at_set mu np (insAll_nodup ys) (fun y hy => ok y (mem_insAll.mp hy)) q⟩
  | [.tup l], .cons h .nil, q =>
    obtain ⟨ys, e, hl, q⟩ := optW_wp q
    rw [ssOf_eq e] at h
    obtain ⟨b, zs, rfl, t, a⟩ := h.tupE
    have ok := a.strs_ok
    rw [a.of_strs] at t
    exact ⟨b, ys, rfl, .inl t, hl, fun p np => at_set mu np (insAll_nodup ys) (fun y hy => ok y (mem_insAll.mp hy)) q⟩
theorem le_set {k : Nat} {p pos : Pos} (hr : Room k X.A) (hP : X.prog = Ξ.P) (hw : X.w = Ξ.w) (hK : X.K = Ξ.K) (hg : Gl X "set") (hm : X.mg "set" = none) (ha : LAB Ξ H0 O X [e] ps) (he : starEach [e] X.env = [(false, eval e X.env)] := by rfl) : LE Ξ H0 O X (.Call (.Name "set" p) [e] [] pos) fun env => (ps env).bind setW :=
  le_callTy (by rw [← hP, ← hw]; exact call_setOf Ξ.K hr hK) set_ok hg hm (by decide +kernel) ha (by decide) (by decide) he rfl
/-! ### str, min, max -/
theorem strOk_int (i : Int) : PyData.strOk (toString i : String) = true := strOk_of _
def strW : List D → W D
  | [.int i] => (W.want (i.natAbs.log2 < 1920)).bind fun _ => W.ret (.str (toString i : String))
  | [.bl b] => W.ret (.str (if b then "True" else "False" : String))
  | _ => W.fail
theorem str_ok : CallOk Ξ (fun xs H Q => ∃ x i, xs = [x] ∧ asI x = some i ∧ i.natAbs.log2 < 1920 ∧ Q (.str (txI x)) H) strW := by
  intro M H xs ds Q E mu hf h q
  match ds, h, q with
  | [.int i], .cons h .nil, ⟨hl, q⟩ =>
    rw [h.intE]
    exact ⟨_, i, rfl, rfl, hl, q _ H (Same.refl H) (.str _ (strOk_int i))⟩
  | [.bl b], .cons h .nil, q =>
    rw [h.blE]
    refine ⟨_, _, rfl, rfl, by cases b <;> decide, ?_⟩
    cases b <;> exact q _ H (Same.refl H) (.str _ (by decide +kernel))
theorem le_strOf {p pos : Pos} (hg : Gl X "str") (hm : X.mg "str" = none) (ha : LAB Ξ H0 O X [e] ps) (he : starEach [e] X.env = [(false, eval e X.env)] := by rfl) : LE Ξ H0 O X (.Call (.Name "str" p) [e] [] pos) fun env => (ps env).bind strW :=
  le_callTy call_strW str_ok hg hm (by decide +kernel) ha (by decide) (by decide) he rfl
def min2W : List D → W D
  | [.int i, .int j] => W.ret (.int (min i j))
  | _ => W.fail
def max2W : List D → W D
  | [.int i, .int j] => W.ret (.int (max i j))
  | _ => W.fail
theorem min2_ok : CallOk Ξ (fun xs H Q => ∃ i j, xs = [.int i, .int j] ∧ Q (.int (if j < i then j else i)) H) min2W := by
  intro M H xs ds Q E mu hf h q
  match ds, h, q with
  | [.int i, .int j], .cons h (.cons h2 .nil), q =>
    rw [h.intE, h2.intE]
    refine ⟨i, j, rfl, ?_⟩
    have e : (if j < i then j else i) = min i j := by split <;> omega
    rw [e]
    exact at_int _ q
theorem max2_ok : CallOk Ξ (fun xs H Q => ∃ i j, xs = [.int i, .int j] ∧ Q (.int (if j > i then j else i)) H) max2W := by
  intro M H xs ds Q E mu hf h q
  match ds, h, q with
  | [.int i, .int j], .cons h (.cons h2 .nil), q =>
    rw [h.intE, h2.intE]
    refine ⟨i, j, rfl, ?_⟩
    have e : (if j > i then j else i) = max i j := by split <;> omega
    rw [e]
    exact at_int _ q
theorem le_min2 {e2 : Expr} {p pos : Pos} (hc : X.calm = true) (hg : Gl X "min") (hm : X.mg "min" = none) (ha : LAB Ξ H0 O X [e, e2] ps) (he : starEach [e, e2] X.env = (false, eval e X.env) :: starEach [e2] X.env := by rfl) (hpl : (backTo pos (starEach [e2] X.env)).any (·.1) = false := by rfl) :
    LE Ξ H0 O X (.Call (.Name "min" p) [e, e2] [] pos) fun env => (ps env).bind min2W := le_callB (call_min2 hc) min2_ok hg hm (by decide +kernel) ha (by decide) (by decide) he hpl
theorem le_max2 {e2 : Expr} {p pos : Pos} (hc : X.calm = true) (hg : Gl X "max") (hm : X.mg "max" = none) (ha : LAB Ξ H0 O X [e, e2] ps) (he : starEach [e, e2] X.env = (false, eval e X.env) :: starEach [e2] X.env := by rfl) (hpl : (backTo pos (starEach [e2] X.env)).any (·.1) = false := by rfl) :
    LE Ξ H0 O X (.Call (.Name "max" p) [e, e2] [] pos) fun env => (ps env).bind max2W := le_callB (call_max2 hc) max2_ok hg hm (by decide +kernel) ha (by decide) (by decide) he hpl
/-! ### join, upper -/
theorem strOk_joinL {a : Str} (ha : PyData.strOk a = true) : ∀ {ys : List Str}, (∀ y ∈ ys, PyData.strOk y = true) → PyData.strOk (Str.join a ys) = true
  | [], _ => (by decide +kernel : PyData.strOk Str.empty = true)
  | [y], h => h y List.mem_cons_self
  | y :: z :: ys, h => by
    have ih := strOk_joinL ha (ys := z :: ys) fun u hu => h u (List.mem_cons_of_mem _ hu)
    exact strOk_app (strOk_app (h y List.mem_cons_self) ha) ih
def asS : D → W Str
  | .str a => W.ret a
  | _ => W.fail
theorem asS_wp {d : D} {Q : Str → Prop} {E : Ex → Prop} (h : (asS d).wp Q E) : ∃ a, d = .str a ∧ Q a := by
  cases d with
  | str a => exact ⟨a, rfl, h⟩
  | _ => exact h.elim
def joinW (a : Str) : D → W D
  | .lst l => (optW (ssOf l)).bind fun ys => (W.want ((ys.map (·.length)).sum + ys.length * a.length ≤ 16777216)).bind fun _ => W.ret (.str (Str.join a ys))
  | .tup l => (optW (ssOf l)).bind fun ys => (W.want ((ys.map (·.length)).sum + ys.length * a.length ≤ 16777216)).bind fun _ => W.ret (.str (Str.join a ys))
  | _ => W.fail
theorem le_join {o : Expr} {apos pos : Pos} (hK : X.K = Ξ.K) (ho : LB Ξ H0 O X o pa) (he : LB Ξ H0 O X e pb) (hs : starEach [e] X.env = [(false, eval e X.env)] := by rfl) (hbase : attributeBase o "join" X.env (eval o X.env) = eval o X.env := by rfl) (hline : (apos.endLine == pos.line) = true := by rfl) :
    LE Ξ H0 O X (.Call (.Attribute o "join" apos) [e] [] pos) fun env => (pa env).bind fun x => (asS x).bind fun a => (pb env).bind fun y => joinW a y := by
  refine wkE (pe_join ho he hs hbase hline) fun σ H Q ⟨S, A, G, env, E, hA, r, q⟩ => ?_
  refine ⟨S, A, G, env, E, hA, r, (pa env).mono (fun d1 k x H1 g1 r1 b1 => ?_) (fun _ z => z) q⟩
  obtain ⟨a, rfl, k⟩ := asS_wp k
  obtain ⟨rfl, oa⟩ := b1.strE
  refine ⟨⟨a, rfl⟩, S, A, G, env, E, hA, r1, (pb env).mono (fun d2 k y H2 g2 r2 b2 => ?_) (fun _ z => z) k⟩
  rw [hK]
  cases d2 <;> try exact k.elim
  · obtain ⟨ys, e, hl, k⟩ := optW_wp k
    rw [ssOf_eq e] at b2
    obtain ⟨b, zs, rfl, t, ha⟩ := b2.tupE
    have ok := ha.strs_ok
    rw [ha.of_strs] at t
    exact ⟨a, b, ys, rfl, rfl, .inr t, hl, by rw [TL.join_eq]; exact k _ H2 (g1.trans g2) r2 (.str _ (strOk_joinL oa ok))⟩
  · obtain ⟨ys, e, hl, k⟩ := optW_wp k
    rw [ssOf_eq e] at b2
    obtain ⟨b, zs, rfl, t, ha⟩ := b2.lstE
    have ok := ha.strs_ok
    rw [ha.of_strs] at t
    exact ⟨a, b, ys, rfl, rfl, .inl (SqL.of t), hl, by rw [TL.join_eq]; exact k _ H2 (g1.trans g2) r2 (.str _ (strOk_joinL oa ok))⟩
end
/-! ### drawing -/
def drawW : List D → W D
  | [.tok 0, .int m] => (W.want (0 < m ∧ m ≤ 1000000)).bind fun _ => (W.any fun r : Int => 0 ≤ r ∧ r < m).bind fun r => W.ret (.int r)
  | _ => W.fail
def isFeedSig (P : Program) (w : World) (K : PySem.W.Frag) (cl : Nat → Option Addr) (fl : Nat → List Str) : Sig where
  P := P
  w := w
  K := K
  cl := cl
  fl := fl
  fk := IsFeed
  fks := fun H H' a c h e1 e2 => by
    obtain ⟨cs, i, l, n, f⟩ := h
    exact ⟨cs, i, l, n, e1.trans f.d, e2.trans f.l, f.i0⟩
  fkm := fun H a c h => by
    obtain ⟨cs, i, l, n, f⟩ := h
    exact ⟨⟨_, f.d, trivial⟩, ⟨_, f.l, trivial⟩⟩
theorem draw_by {P : Program} {w : World} {K : PySem.W.Frag} {cl : Nat → Option Addr} {fl : Nat → List Str} {mg : Str → Option Value} {base : Heap} {k : Nat} {f : Addr} {fd : FuncData} {ps : List Str} (F : FnOk P w K mg base CX0 k f fd ps spDraw) :
    FnOk P w K mg base CX0 k f fd ps (liF (isFeedSig P w K cl fl) drawW) := by
  have key : ∀ vs H Q E, liF (isFeedSig P w K cl fl) drawW vs H Q E → spDraw vs H Q E := by
    rintro vs H Q E ⟨fe, S, ds, EE, mu, hf, fi, hv, hE, q⟩
    match ds, hv, q with
    | [.tok 0, .int m], .cons h1 (.cons h2 .nil), ⟨⟨m0, m1⟩, q⟩ =>
      cases h1 with
      | tok h1 =>
        cases h2
        match fe, hf, fi, h1, q with
        | some (a, c), hf, fi, h1, q =>
          have ev : V.ref a = _ := Option.some.inj h1
          subst ev
          refine ⟨a, c, m, rfl, fi, m0, m1, fun r H' r0 r1 x f' => q r ⟨r0, r1⟩ (.int r) H' (fun b o n e => x b o e fun z => n ?_) f' (.int r)⟩
          rw [z]
          exact List.mem_cons_self
  exact ⟨fun vs H Q E h => F.len vs H Q E (key vs H Q E h), fun A outer s H args us vs Q E hr e0 hb hv h => F.run A outer s H args us vs Q E hr e0 hb hv (key vs H Q E h)⟩
end LP
namespace LP
open PySem PySem.Spec PyProof.Rows L2 PK RZ
/-- a def's body, run: np parameters, nN names -/
def runB (np nN : Nat) (b : Env → W Fl) (ds : List D) : W D := (W.want (ds.length = np)).bind fun _ => endW (b (startE nN ds))
section
variable {Γ : Sig} {mg : Str → Option Value} {base : Heap}
theorem ok_run {x qual : Str} {st : Stmt} {f : Addr} {fd : FuncData} {N ps : List Str} {k np nN : Nat} {pb : Env → W Fl} (F : Fun Γ.K x qual st f fd) (Sc : FnScope N ps (defScope st)) (h1 : ps.length = np) (h2 : N.length = nN)
    (hbody : ∀ (fe : Option (Addr × Addr)) (cdv : Value) (A : Around) (outer : List PySem.Env) (s : Shared) (H : Hp) (E : XK), Room k (A.deeper (envOfC qual (defScope st) s.heap.objs.size f cdv)) →
      LSs ⟨Γ, fe⟩ H [] [] [] (cxOf CX0 Γ.P Γ.w Γ.K mg base N qual (defScope st) f cdv A outer s H E).nox (defBody st) pb) : FnOk Γ.P Γ.w Γ.K mg base CX0 (k + 1) f fd ps (liF Γ (runB np nN pb)) := by
  subst h1 h2
  exact ok_by F Sc hbody fun ds Q E h => h
theorem ok_runG {x qual : Str} {st : Stmt} {f : Addr} {fd : FuncData} {N ps : List Str} {k np nN : Nat} {pb : Env → W Fl} (F : Fun Γ.K x qual st f fd) (Sc : FnScope N ps (defScope st)) (h1 : ps.length = np) (h2 : N.length = nN)
    (hbody : ∀ (fe : Option (Addr × Addr)) (cdv : Value) (A : Around) (outer : List PySem.Env) (s : Shared) (H : Hp) (E : XK), A.guards = some [] → Room k (A.deeper (envOfC qual (defScope st) s.heap.objs.size f cdv)) →
      LSs ⟨Γ, fe⟩ H [] [] [] (cxOf CX0 Γ.P Γ.w Γ.K mg base N qual (defScope st) f cdv A outer s H E).nox (defBody st) pb) : FnG Γ.P Γ.w Γ.K mg base CX0 (k + 1) f fd ps (liF Γ (runB np nN pb)) := by
  subst h1 h2
  exact ok_byG F Sc hbody fun ds Q E h => h
end
section
variable {X : Cx} {Ξ : Ctx} {H0 : Hp} {O O1 O' Ob : List Nat} {st : Stmt} {a b : Expr} {pos : Pos} {p : Env → W Fl} {ps : Env → W (List D)}
theorem lss_last (h1 : LS Ξ H0 O O1 Ob X st p) (hs : O1.filter (fun i => decide (i ∈ O')) = O' := by decide) : LSs Ξ H0 O O' Ob X [st] p := by
  refine wkSs (pss_one h1) fun De σ H ⟨S, A, G, env, E, hA, r, k⟩ => ⟨S, A, G, env, E, hA, r, (p env).mono (fun f k => ?_) (fun _ z => z) k⟩
  cases f with
  | nx env' => exact fun A' σ' H' hA' r' => k _ σ' H' (keys_filter hA' hs) (r'.sub fun i => decide (i ∈ O'))
  | rt d => exact k
  | bk env' => exact k
  | ct env' => exact k
def par2 (i j : Nat) (env : Env) : List D → W Fl
  | [d, e] => W.ret (.nx ((env.set i (some d)).set j (some e)))
  | _ => W.fail
theorem ls_par {i j : Nat} {x y : Str} {px py pt : Pos} {kt k2 pt2} (hc : X.calm = true) (hN : X.N.Nodup) (hi : X.N[i]? = some x) (hj : X.N[j]? = some y) (hij : i ≠ j) (hx : X.env.scope.names.lookup x = some .local) (hy : X.env.scope.names.lookup y = some .local)
    (ha : LA Ξ H0 O X [a, b] ps) (hw : swappedStores [.Tuple [.Name x px, .Name y py] kt pt] (.Tuple [a, b] k2 pt2) X.env = pure (some [x, y])) (hiO : i ∉ O) (hjO : j ∉ O)
    (hs : swapsWithSole [.Tuple [.Name x px, .Name y py] kt pt] (.Tuple [a, b] k2 pt2) pos.line X.env = pure false := by rfl) :
    LS Ξ H0 O O Ob X (.Assign [.Tuple [.Name x px, .Name y py] kt pt] (.Tuple [a, b] k2 pt2) pos) fun env => (ps env).bind (par2 i j env) := by
  refine wkS (ps_par hc hN hi hj hij hx hy ha hw hs) fun De σ H ⟨S, A, G, env, E, hA, r, k⟩ => ⟨S, A, G, env, E, hA, r, (ps env).mono (fun ds k vs H1 g1 r1 hv => ?_) (fun _ z => z) k⟩
  match ds, hv, k with
  | [d, e], .cons h1 (.cons h2 .nil), k =>
    have n : ∀ {i : Nat}, i ∉ O → ∀ a, (i, a) ∉ A := fun h a ha => h (by rw [← hA]; exact List.mem_map.mpr ⟨_, ha, rfl⟩)
    exact ⟨_, _, rfl, k A _ H1 hA ((r1.set (n hiO) h1).set (n hjO) h2)⟩
variable {pa pb : Env → W D}
theorem lt_eq {k : Nat} (hr : Room k X.A) (hK : X.K = Ξ.K) (ha : LB Ξ H0 O X a pa) (hb : LB Ξ H0 O X b pb) : LT Ξ H0 O X (.Compare a [.Eq] [b] pos) fun env => ((pa env).bind fun x => (pb env).bind fun y => eqW x y).bind asB := lt_cmp (op_eq.or (ko_eqD Ξ.K hr hK)) eq_ok (nomark _) ha hb
theorem lt_ne {k : Nat} (hr : Room k X.A) (hK : X.K = Ξ.K) (ha : LB Ξ H0 O X a pa) (hb : LB Ξ H0 O X b pb) : LT Ξ H0 O X (.Compare a [.NotEq] [b] pos) fun env => ((pa env).bind fun x => (pb env).bind fun y => neW x y).bind asB := lt_cmp (op_ne.or (ko_neD Ξ.K hr hK)) ne_ok (nomark _) ha hb
theorem lt_lt (ha : LB Ξ H0 O X a pa) (hb : LB Ξ H0 O X b pb) : LT Ξ H0 O X (.Compare a [.Lt] [b] pos) fun env => ((pa env).bind fun x => (pb env).bind fun y => ltW x y).bind asB := lt_cmp (op_lt.or op_lt_str) ord_ok (nomark _) ha hb
theorem lt_le (ha : LB Ξ H0 O X a pa) (hb : LB Ξ H0 O X b pb) : LT Ξ H0 O X (.Compare a [.LtE] [b] pos) fun env => ((pa env).bind fun x => (pb env).bind fun y => leW x y).bind asB := lt_cmp (op_le.or op_le_str) ord_ok (nomark _) ha hb
theorem lt_gt (ha : LB Ξ H0 O X a pa) (hb : LB Ξ H0 O X b pb) : LT Ξ H0 O X (.Compare a [.Gt] [b] pos) fun env => ((pa env).bind fun x => (pb env).bind fun y => gtW x y).bind asB := lt_cmp (op_gt.or op_gt_str) ord_ok (nomark _) ha hb
theorem lt_ge (ha : LB Ξ H0 O X a pa) (hb : LB Ξ H0 O X b pb) : LT Ξ H0 O X (.Compare a [.GtE] [b] pos) fun env => ((pa env).bind fun x => (pb env).bind fun y => geW x y).bind asB := lt_cmp (op_ge.or op_ge_str) ord_ok (nomark _) ha hb
theorem lt_is (ha : LB Ξ H0 O X a pa) (hb : LB Ξ H0 O X b pb) : LT Ξ H0 O X (.Compare a [.Is] [b] pos) fun env => ((pa env).bind fun x => (pb env).bind fun y => isW x y).bind asB := lt_cmp op_isN is_ok (nomark _) ha hb
theorem lt_isnt (ha : LB Ξ H0 O X a pa) (hb : LB Ξ H0 O X b pb) : LT Ξ H0 O X (.Compare a [.IsNot] [b] pos) fun env => ((pa env).bind fun x => (pb env).bind fun y => isntW x y).bind asB := lt_cmp op_notN isnt_ok (nomark _) ha hb
theorem lt_in (hK : X.K = Ξ.K) (hm : behindInMarks .In b = false) (ha : LB Ξ H0 O X a pa) (hb : LB Ξ H0 O X b pb) : LT Ξ H0 O X (.Compare a [.In] [b] pos) fun env => ((pa env).bind fun x => (pb env).bind fun y => inW x y).bind asB := lt_cmp (op_in_sign.or (by rw [← hK]; exact op_in_seq)) (in_ok' false) hm ha hb
theorem lt_notin (hK : X.K = Ξ.K) (hm : behindInMarks .NotIn b = false) (ha : LB Ξ H0 O X a pa) (hb : LB Ξ H0 O X b pb) : LT Ξ H0 O X (.Compare a [.NotIn] [b] pos) fun env => ((pa env).bind fun x => (pb env).bind fun y => notinW x y).bind asB := lt_cmp (op_notIn_sign.or (by rw [← hK]; exact op_notIn_seq)) (in_ok' true) hm ha hb
end
end LP
namespace PK
open PySem PySem.Spec PyProof.Rows L2

section
variable {P : Program} {w : World} {K : PySem.W.Frag} {mg mb : Str → Option Value} {k : Nat} {fa a : Addr} {fd : FuncData} {x : Str} {sp : Sp}
  {s₁ : Shared} {vs : List Value} {ns : List Int}
abbrev AllTrue (s₁ : Shared) : Result → Shared → Prop :=
  fun r s' => r = .ok (.ret (.bool true)) ∧ OldK s₁.heap s'.heap ∧ s'.os = s₁.os ∧ AllBare s'.gens

/-- what is hidden are the tracked objects: here at most the script -/
theorem core_of {H : Hp} (KX : K.In s₁.heap) (hns : s₁.heap.Ns mainGlobals mg) (hb : s₁.heap.Ns builtinsNs mb)
    (hbb : ∀ y : Str, y ≠ "__name__" → mb y = bootBuiltins y) (hlim : s₁.heap.NoLimit) (hg : s₁.gens = #[])
    (ha : s₁.heap.get? a = some { cls := .type "list", data := .seq vs.toArray }) (hr : Room k callerA)
    (F : ∀ base : Heap, K.In base → base.Ns mainGlobals mg → FnG P w K mg base CX0 k fa fd [x] sp)
    (hbind : ∀ (s : Shared) (u : Value), BindsTo s fd ⟨[u], []⟩ [(x, u)])
    (hO : Only H) (hS : sp [.ref a] H (fun v _ => v = .bl true) fun _ _ _ => False) (hok : HOk P w H s₁.heap)
    (hA : ∀ b u, H b = some u → b = a) (hK : ∀ u, H a = some u → K.lookup a = none) :
    codeAny (model P w) callerA (.call (.ref fa) ⟨[.ref a], []⟩) (AllTrue s₁) s₁ := by
  have free : ∀ {b : Addr} {o : Obj}, s₁.heap.get? b = some o → (∀ es ep, o.data = .dict es ep → True) → (∃ es ep, o.data = .dict es ep) → H b = none := by
    intro b o e _ ⟨es, ep, d⟩
    cases q : H b with
    | none => rfl
    | some u =>
      have e1 := hA b u q
      rw [e1, ha] at e
      rw [← Option.some.inj e] at d
      cases d
  have toNs : ∀ {b : Addr} {m : Str → Option Value}, s₁.heap.Ns b m → (hidT s₁.heap H).Ns b m := by
    rintro b m ⟨o, es, ep, e, d, r⟩
    exact ⟨o, es, ep, hidT_get e (free e (fun _ _ _ => trivial) ⟨es, ep, d⟩), d, r⟩
  have KB : K.In (hidT s₁.heap H) := by
    intro b o e
    refine hidT_get (KX b o e) ?_
    cases q : H b with
    | none => rfl
    | some u =>
      have e1 := hA b u q
      subst e1
      rw [hK u q] at e
      cases e
  obtain ⟨mc, l1, l2⟩ := hlim
  have M : Mod K mg (hidT s₁.heap H) := ⟨KB, toNs hns, ⟨mb, toNs hb, hbb⟩, ⟨mc, toNs l1, l2⟩⟩
  have e0 : Env0 P w K mg (hidT s₁.heap H) callerA [] s₁ H :=
    { frames := rfl, mod := M, bs := fun b o e => of_hidT e, bsz := Nat.le_of_eq (hidT_size _ _), funs := trivial,
      frf := fun b z => absurd z (List.not_mem_nil), hok := hok, bare := .of_eq hg }
  refine codeAny_mono ((F _ KB (toNs hns)).go (us := [.ref a]) (vs := [.ref a]) rfl hr e0 (hbind s₁ (.ref a)) (.cons rfl .nil) hS) ?_
  intro res s' h
  match res, h with
  | .error _, h => exact h.elim
  | .ok .next, h => exact h.elim
  | .ok .brk, h => exact h.elim
  | .ok .cont, h => exact h.elim
  | .ok (.ret u), h =>
    obtain ⟨v, H', os, bare, un, hok', rv, ev⟩ := h
    have ev' : v = .bl true := ev
    subst ev'
    cases rv
    refine ⟨rfl, OldK.of_keep fun b o e => ?_, os, bare⟩
    rcases hO b with z | ⟨ob, xs, z⟩
    · exact un.keep b o e z (by intro z'; cases z') (by intro z'; cases z')
    · have z2 := hok' b _ (un.frzs b ob _ z)
      have z1 := hok b _ z
      have e1 : ob = o := Option.some.inj (z1.1.symm.trans e)
      rw [← e1]
      exact z2.1

theorem law_goG (KX : K.In s₁.heap) (hns : s₁.heap.Ns mainGlobals mg) (hb : s₁.heap.Ns builtinsNs mb)
    (hbb : ∀ y : Str, y ≠ "__name__" → mb y = bootBuiltins y) (hlim : s₁.heap.NoLimit) (hg : s₁.gens = #[])
    (ha : s₁.heap.get? a = some { cls := .type "list", data := .seq vs.toArray }) (hi : IntsAre vs ns) (hl : ns.length ≤ sizeLine) (hr : Room k callerA)
    (F : ∀ base : Heap, K.In base → base.Ns mainGlobals mg → FnG P w K mg base CX0 k fa fd [x] sp)
    (hbind : ∀ (s : Shared) (u : Value), BindsTo s fd ⟨[u], []⟩ [(x, u)])
    (hsp : ∀ H : Hp, Only H → SqL K H a (ns.map V.int) → sp [.ref a] H (fun v _ => v = .bl true) fun _ _ _ => False) :
    codeAny (model P w) callerA (.call (.ref fa) ⟨[.ref a], []⟩) (AllTrue s₁) s₁ := by
  have rv := vals_ints hi
  have lz : (ns.map V.int).length ≤ sizeLine := by rw [List.length_map]; exact hl
  cases hk : K.lookup a with
  | some o =>
    have e : o = _ := Option.some.inj ((KX a o hk).symm.trans ha)
    have hO : Only (fun _ => none) := fun _ => Or.inl rfl
    refine core_of (H := fun _ => none) KX hns hb hbb hlim hg ha hr F hbind hO (hsp _ hO ?_) (fun _ _ z => by cases z) (fun _ _ z => by cases z) (fun _ z => by cases z)
    refine Or.inr ⟨o, vs.toArray, 0, hk, ?_, ?_, ?_, ?_, ?_⟩
    · rw [e]
    · rw [e]
    · rw [e]
    · rw [List.size_toArray, hi.length]; exact hl
    · simpa using rv
  | none =>
    let ob : Obj := { cls := .type "list", data := .seq vs.toArray }
    let Hs : Hp := upd (fun _ => none) a (.frz ob (.lst (ns.map V.int)))
    have hO : Only Hs := fun b => by
      by_cases z : b = a
      · subst z
        exact Or.inr ⟨ob, _, upd_same⟩
      · exact Or.inl (upd_ne z)
    have only : ∀ b u, Hs b = some u → b = a ∧ u = .frz ob (.lst (ns.map V.int)) := fun b u q => by
      by_cases z : b = a
      · subst z
        rw [show Hs b = _ from upd_same] at q
        exact ⟨rfl, (Option.some.inj q).symm⟩
      · rw [show Hs b = _ from upd_ne z] at q
        cases q
    refine core_of (H := Hs) KX hns hb hbb hlim hg ha hr F hbind hO (hsp _ hO (Or.inl (Or.inr ⟨ob, upd_same⟩))) (fun b u q => ?_) (fun b u q => (only b u q).1) (fun _ _ => hk)
    obtain ⟨rfl, rfl⟩ := only b u q
    exact ⟨ha, lz, vs, 0, rv, ha⟩
end

theorem walk_ofG {l : PySem.W.OpenLaw} {n k : Nat} {q : Program} {loose : List Str} {XP : (Str → Option Value) → Heap → Prop} {YP : World → Heap → Prop}
    {d : DefRec} {K : Params → PySem.W.Frag} {sp : World → Sp} {x : Str}
    (hn : l.most = some n) (hn2 : n ≤ sizeLine) (hdf : d.params.defaults = []) (hr : Room k callerA)
    (hY : ∀ (w : World) (h : Heap), YP w h → (K w.params).In h)
    (F : ∀ (w : World) (mg : Str → Option Value) (fa : Addr) (h : Heap), (K w.params).In h → h.Ns mainGlobals mg → mg d.name = some (.ref fa) →
      ∃ fd : FuncData, (∀ (s : Shared) (u : Value), BindsTo s fd ⟨[u], []⟩ [(x, u)]) ∧
        ∀ base : Heap, (K w.params).In base → base.Ns mainGlobals mg → FnG l.prog w (K w.params) mg base CX0 k fa fd [x] (sp w))
    (hsp : ∀ (w : World) (H : Hp) (a : Addr) (ns : List Int), ns.length ≤ n → Only H → SqL (K w.params) H a (ns.map V.int) →
      sp w [.ref a] H (fun v _ => v = .bl true) fun _ _ _ => False) :
    PySem.W.WalkO q loose XP YP l.row.toRowW d [] (fun f vs => PySem.call f vs) := by
  refine Att.attach_call hn hdf ?_
  intro w s₀ s₁ mg mb fa o pm cd doc a vs ns G Y ho hd hcd hmg hobj hints hlen hg
  have KX := hY w _ Y
  obtain ⟨fd, hb, hF⟩ := F w mg fa _ KX G.T.g hmg
  exact law_goG KX G.T.g G.T.b G.T.builtins G.T.nolimit hg hobj hints (Nat.le_trans hlen hn2) hr hF hb fun H hO hS => hsp w H a ns hlen hO hS
end PK
namespace LP
open PySem PySem.Spec PyProof.Rows L2 PK RZ
/-! ### the law's own def -/
/-- what the law draws from is made of the script -/
def spFeedOf (fk : Hp → Addr → Addr → Prop) (K : PySem.W.Frag) : Sp := fun vs H Q _ => ∃ (a : Addr) (ns : List Int), vs = [.ref a] ∧ SqL K H a (ns.map V.int) ∧
  ∀ p c H', H p = none → Same H H' → fk H' p c → Q (.ref p) H'
def spLawK (K : PySem.W.Frag) : Sp := fun vs H Q _ => ∃ (a : Addr) (ns : List Int), vs = [.ref a] ∧ SqL K H a (ns.map V.int) ∧ ∀ H', Q (.bl true) H'
def tRest (Γ : Sig) (pb : Env → W Fl) : TS := fun De σ H => ∃ a c H0, liS ⟨Γ, some (a, c)⟩ H0 [] [] [] pb De σ H
theorem pss_rest {X : Cx} {Γ : Sig} {sts : List Stmt} {pb : Env → W Fl} (h : ∀ a c H0, LSs ⟨Γ, some (a, c)⟩ H0 [] [] [] X sts pb) : PSs X sts (tRest Γ pb) :=
  ⟨fun pins s σ H D I ⟨a, c, H0, q⟩ => (h a c H0).run pins s σ H D I q⟩
/-- the names at the law's start -/
def lawE (n : Nat) : Env := (List.replicate n none).set 1 (some (.tok 0))
section
variable {Γ : Sig} {mg : Str → Option Value} {base : Heap}
theorem law_by {st : Stmt} {f : Addr} {fd : FuncData} {N : List Str} {k nN : Nat} {s0 : Str} {pb : Env → W Fl} (F : Fun Γ.K "law" "law" st f fd) (Sc : FnScope N [s0] (defScope st)) (hn : N.length = nN) (h1 : 1 < nN)
    (hb : ∀ (cdv : Value) (A : Around) (outer : List PySem.Env) (s : Shared) (H : Hp) (E : XK), A.guards = some [] → Room k (A.deeper (envOfC "law" (defScope st) s.heap.objs.size f cdv)) →
      PSs (cxOf CX0 Γ.P Γ.w Γ.K mg base N "law" (defScope st) f cdv A outer s H E).nox (defBody st) (tSeq (tAsg (tCall (spFeedOf Γ.fk Γ.K) [] (fun _ _ _ => True) (tCons (tVar 0) tNil)) (gName 1)) (tRest Γ pb)))
    (hp : (pb (lawE nN)).wp (fun f => ∃ b, f = .rt (.bl b) ∧ b = true) fun _ => False) : FnG Γ.P Γ.w Γ.K mg base CX0 (k + 1) f fd [s0] (spLawK Γ.K) := by
  subst hn
  refine funG_ok F Sc (fun vs H Q E h => ?_) (fun cdv A outer s H vs Q E hgd hr h => ?_)
  · obtain ⟨a, ns, rfl, _⟩ := h
    rfl
  · obtain ⟨a, ns, rfl, hS, q⟩ := h
    refine ⟨_, hb cdv A outer s H E hgd hr, ?_⟩
    refine ⟨.ref a, by rfl, a, ns, rfl, hS, fun p c H' np sm fk => ?_⟩
    have e0 : (L2.start N [V.ref a]).length = N.length := by
      unfold L2.start
      simp
      omega
    refine ⟨p, c, H', [p, c], [], [], lawE N.length, fun _ => False, rfl, ?_, ?_⟩
    · refine ⟨?_, fun i d hd _ => ?_, fun i a h => (nomatch h), fun i a h => (nomatch h), List.nodup_nil, List.nodup_nil, fun x hx => (nomatch hx), fun b hb => ?_, fk, fun b hb => hb, Gr.refl H'⟩
      · rw [List.length_set, e0]
        simp [lawE]
      · unfold lawE at hd
        by_cases z : 1 = i
        · subst z
          rw [List.getElem?_set_self (by simpa using h1)] at hd
          cases hd
          exact ⟨.ref p, List.getElem?_set_self (by rw [e0]; exact h1), .tok rfl⟩
        · rw [List.getElem?_set_ne z] at hd
          have := List.mem_of_getElem? hd
          rw [List.mem_replicate] at this
          cases this.2
      · obtain ⟨m1, m2⟩ := Γ.fkm H' p c fk
        rcases List.mem_cons.mp hb with rfl | hb
        · exact m1
        · rw [List.mem_singleton.mp hb]
          exact m2
    · refine W.mono _ (fun fl hf => ?_) (fun _ z => z) hp
      obtain ⟨b, rfl, rfl⟩ := hf
      intro v H2 g f hv
      cases hv
      exact q H2
end
/-- nothing is promised -/
theorem ok_none {P : Program} {w : World} {K : PySem.W.Frag} {mg : Str → Option Value} {base : Heap} {Γ : Sig} {k : Nat} {f : Addr} {fd : FuncData} {ps : List Str} : FnOk P w K mg base CX0 k f fd ps (liF Γ fun _ => W.fail) :=
  ⟨fun vs H Q E h => by
    obtain ⟨_, _, _, _, _, _, _, _, _, q⟩ := h
    exact q.elim, fun A outer s H args us vs Q E hr e0 hb hv h => by
    obtain ⟨_, _, _, _, _, _, _, _, _, q⟩ := h
    exact q.elim⟩
section
variable {X : Cx} {Ξ : Ctx} {H0 : Hp} {O : List Nat} {o : Expr} {pa : Env → W D}
def upS (a : Str) : Str := ⟨a.cps.map up1⟩
def upperW (a : Str) : W D := (W.want (a.length ≤ 1000 ∧ ∀ c ∈ a.cps.toList, c < 128)).bind fun _ => W.ret (.str (upS a))
theorem le_upper {apos pos : Pos} (ho : LB Ξ H0 O X o pa) (hbase : attributeBase o "upper" X.env (eval o X.env) = eval o X.env := by rfl) (hline : (apos.endLine == pos.line) = true := by rfl) :
    LE Ξ H0 O X (.Call (.Attribute o "upper" apos) [] [] pos) fun env => (pa env).bind fun x => (asS x).bind upperW :=
  wkE (pe_upper ho hbase hline) fun σ H Q ⟨S, A, G, env, E, hA, r, q⟩ => ⟨S, A, G, env, E, hA, r, (pa env).mono (fun d k v H' g r' hv => by
    obtain ⟨a, rfl, ⟨hl, h8⟩, k⟩ := asS_wp k
    obtain ⟨rfl, oa⟩ := hv.strE
    refine ⟨⟨a, rfl⟩, a, rfl, rfl, Nat.le_trans hl (by decide), ?_⟩
    rw [upper_ascii h8]
    refine k _ H' g r' (.str _ (strOk_mem.mpr fun c hc => ?_))
    have hc : c ∈ a.cps.toList.map up1 := by
      have : (upS a).cps.toList = a.cps.toList.map up1 := by simp [upS]
      rw [← this]
      exact hc
    obtain ⟨c0, h0, rfl⟩ := List.mem_map.mp hc
    have := h8 c0 h0
    unfold up1
    split <;> omega) (fun _ z => z) q⟩
end
end LP
namespace LP
open PySem PySem.Spec PyProof.Rows L2 PK
def bIsNumber (env : Env) : W Fl := ((((getW env 0).bind (isiW "int")).bind fun d => (asB d).bind fun k => W.ite k (((getW env 0).bind (isiW "bool")).bind fun d => (asB d).bind fun k => W.ret (.bl !k)) (W.ret (.bl false))).bind fun d => W.ret (.rt d))
def fIsNumber : List D → W D := runB 1 1 bIsNumber
def bIsMany (env : Env) : W Fl := (((((getW env 0).bind fun d => (W.ret []).bind fun ds => W.ret (d :: ds)).bind fIsNumber).bind fun d => (asB d).bind fun k => W.ite k ((getW env 0).bind fun x => (W.ret (.int 1)).bind fun y => geW x y) (W.ret (.bl false))).bind fun d => W.ret (.rt d))
def fIsMany : List D → W D := runB 1 1 bIsMany
def bIsWord (env : Env) : W Fl := (thenW ((((((getW env 0).bind (isiW "str")).bind asB).bind fun k => W.ret !k).bind fun k => W.ite k (W.ret true) ((((W.ret (.int 1)).bind fun x => (((getW env 0).bind fun d => (W.ret []).bind fun ds => W.ret (d :: ds)).bind lenW).bind fun y => (leW x y).bind fun z => (asB z).bind fun k => W.ite k ((W.ret (.int 8)).bind fun w => leW y w) (W.ret (.bl false))).bind asB).bind fun k => W.ret !k)).bind fun k => W.ite k ((W.ret (.bl false)).bind fun d => W.ret (.rt d)) (W.ret (.nx env)))
  fun env => ((((lcD (fun d env => W.ret (env.set 1 (some d))) (fun env => (W.ret true)) (fun env => ((getW env 1).bind fun x => (W.ret (.str abc)).bind fun y => inW x y)) [1] (fun env => ((getW env 0).bind walkSW)) env).bind fun d => (W.ret []).bind fun ds => W.ret (d :: ds)).bind allW).bind fun d => W.ret (.rt d)))
def fIsWord : List D → W D := runB 1 2 bIsWord
def bIsShades (env : Env) : W Fl := (thenW ((((((getW env 0).bind (isiW "tuple")).bind asB).bind fun k => W.ret !k).bind fun k => W.ite k (W.ret true) (((((lcD (fun d env => W.ret (env.set 1 (some d))) (fun env => (W.ret true)) (fun env => (((getW env 1).bind fun d => (W.ret []).bind fun ds => W.ret (d :: ds)).bind fIsWord)) [1] (fun env => ((getW env 0).bind walkTW)) env).bind fun d => (W.ret []).bind fun ds => W.ret (d :: ds)).bind allW).bind asB).bind fun k => W.ret !k)).bind fun k => W.ite k ((W.ret (.bl false)).bind fun d => W.ret (.rt d)) (W.ret (.nx env)))
  fun env => ((((lcD (tupG 2 (gsW (fun d env => W.ret (env.set 2 (some d))) (gsW (fun d env => W.ret (env.set 3 (some d))) (fun ds env => match ds with | [] => W.ret env | _ => W.fail)))) (fun env => (W.ret true)) (fun env => ((getW env 2).bind fun x => (getW env 3).bind fun y => ltW x y)) [2, 3] (fun env => (((getW env 0).bind fun d => (((getW env 0).bind fun d => ((W.ret (.int 1)).bind partW).bind fun l => (W.ret none).bind fun u => slW d l u).bind fun d => (W.ret []).bind fun ds => W.ret (d :: ds)).bind fun ds => W.ret (d :: ds)).bind zipW)) env).bind fun d => (W.ret []).bind fun ds => W.ret (d :: ds)).bind allW).bind fun d => W.ret (.rt d)))
def fIsShades : List D → W D := runB 1 4 bIsShades
def bIsWant (env : Env) : W Fl := (thenW ((((((getW env 0).bind (isiW "tuple")).bind asB).bind fun k => W.ret !k).bind fun k => W.ite k (W.ret true) (((((getW env 0).bind fun d => (W.ret []).bind fun ds => W.ret (d :: ds)).bind lenW).bind fun x => (W.ret (.int 3)).bind fun y => neW x y).bind asB)).bind fun k => W.ite k ((W.ret (.bl false)).bind fun d => W.ret (.rt d)) (W.ret (.nx env)))
  fun env => ((((((getW env 0).bind fun x => (W.ret (.int 0)).bind fun y => ixW x y).bind fun d => (W.ret []).bind fun ds => W.ret (d :: ds)).bind fIsWord).bind fun d => (asB d).bind fun k => W.ite k (((((getW env 0).bind fun x => (W.ret (.int 1)).bind fun y => ixW x y).bind fun d => (W.ret []).bind fun ds => W.ret (d :: ds)).bind fIsShades).bind fun d => (asB d).bind fun k => W.ite k ((((getW env 0).bind fun x => (W.ret (.int 2)).bind fun y => ixW x y).bind fun d => (W.ret []).bind fun ds => W.ret (d :: ds)).bind fIsMany) (W.ret (.bl false))) (W.ret (.bl false))).bind fun d => W.ret (.rt d)))
def fIsWant : List D → W D := runB 1 1 bIsWant
def bIsWay (env : Env) : W Fl := ((((getW env 0).bind (isiW "tuple")).bind fun d => (asB d).bind fun k => W.ite k (((lcD (fun d env => W.ret (env.set 1 (some d))) (fun env => (W.ret true)) (fun env => (((getW env 1).bind fun d => (W.ret []).bind fun ds => W.ret (d :: ds)).bind fIsWant)) [1] (fun env => ((getW env 0).bind walkTW)) env).bind fun d => (W.ret []).bind fun ds => W.ret (d :: ds)).bind allW) (W.ret (.bl false))).bind fun d => W.ret (.rt d))
def fIsWay : List D → W D := runB 1 2 bIsWay
end LP
namespace LP
open PySem PySem.Spec PyProof.Rows L2 PK
def bLNames_1 (env : Env) : W Fl := ((((getW env 3).bind fun x => ((W.ret (.int 1)).bind negW).bind fun y => ixW x y).bind fun x => ((getW env 2).bind fun x => (((getW env 0).bind fun d => ((W.ret (.int 26)).bind fun d => (W.ret []).bind fun ds => W.ret (d :: ds)).bind fun ds => W.ret (d :: ds)).bind drawW).bind fun y => ixW x y).bind fun y => addW x y).bind fun d => putW env 3 (appW d))
def bLNames_2 (env : Env) : W Fl := (thenW (((getW env 4).bind fun x => (W.ret (.int 1)).bind fun y => addW x y).bind fun d => W.ret (.nx (env.set 4 (some d))))
  fun env => (thenW ((lcD (fun d env => W.ret (env.set 7 (some d))) (fun env => (W.ret true)) (fun env => ((getW env 2).bind fun x => (((getW env 0).bind fun d => ((W.ret (.int 26)).bind fun d => (W.ret []).bind fun ds => W.ret (d :: ds)).bind fun ds => W.ret (d :: ds)).bind drawW).bind fun y => ixW x y)) [7] (fun env => ((((((W.ret (.int 0)).bind fun d => ((W.ret (.int 0)).bind fun d => ((W.ret (.int 1)).bind fun d => ((W.ret (.int 7)).bind fun d => (W.ret []).bind fun ds => W.ret (d :: ds)).bind fun ds => W.ret (d :: ds)).bind fun ds => W.ret (d :: ds)).bind fun ds => W.ret (d :: ds)).bind lstW).bind fun x => (((getW env 0).bind fun d => ((W.ret (.int 4)).bind fun d => (W.ret []).bind fun ds => W.ret (d :: ds)).bind fun ds => W.ret (d :: ds)).bind drawW).bind fun y => ixW x y).bind fun d => (W.ret []).bind fun ds => W.ret (d :: ds)).bind range1W)) env).bind fun d => W.ret (.nx (env.set 6 (some d))))
  fun env => ((((getW env 2).bind fun x => ((getW env 4).bind fun x => (W.ret (.int 26)).bind fun y => modW x y).bind fun y => ixW x y).bind fun x => ((W.ret (.str "")).bind fun x => (asS x).bind fun a => (getW env 6).bind fun y => joinW a y).bind fun y => addW x y).bind fun d => putW env 3 (appW d))))
def bLNames_3 (env : Env) : W Fl := (((((getW env 3).bind fun x => ((W.ret []).bind lstW).bind fun y => neW x y).bind asB).bind fun k => W.ite k (((((((getW env 3).bind fun x => ((W.ret (.int 1)).bind negW).bind fun y => ixW x y).bind fun d => (W.ret []).bind fun ds => W.ret (d :: ds)).bind lenW).bind fun x => (W.ret (.int 8)).bind fun y => ltW x y).bind asB).bind fun k => W.ite k (((((getW env 0).bind fun d => ((W.ret (.int 3)).bind fun d => (W.ret []).bind fun ds => W.ret (d :: ds)).bind fun ds => W.ret (d :: ds)).bind drawW).bind fun x => (W.ret (.int 0)).bind fun y => eqW x y).bind asB) (W.ret false)) (W.ret false)).bind fun k => W.ite k (bLNames_1 env) (bLNames_2 env))
def bLNames (env : Env) : W Fl := (thenW ((W.ret (.str "abcdefghijklmnopqrstuvwxyz")).bind fun d => W.ret (.nx (env.set 2 (some d))))
  fun env => (thenW (((W.ret []).bind lstW).bind fun d => (W.want (3 < env.length)).bind fun _ => W.ret (.nx (env.set 3 (some d))))
  fun env => (thenW ((((getW env 0).bind fun d => ((W.ret (.int 26)).bind fun d => (W.ret []).bind fun ds => W.ret (d :: ds)).bind fun ds => W.ret (d :: ds)).bind drawW).bind fun d => W.ret (.nx (env.set 4 (some d))))
  fun env => (thenW ((((getW env 1).bind fun d => (W.ret []).bind fun ds => W.ret (d :: ds)).bind range1W).bind fun ds => forW (fun d env => W.ret (env.set 5 (some d))) (fun env => (bLNames_3 env)) ds env)
  fun env => ((getW env 3).bind fun d => W.ret (.rt d))))))
def fLNames : List D → W D := runB 2 8 bLNames
def bLMany (env : Env) : W Fl := (((((W.ret (.int 1)).bind fun d => (((W.ret (.int 1)).bind fun x => (((getW env 0).bind fun d => ((W.ret (.int 9)).bind fun d => (W.ret []).bind fun ds => W.ret (d :: ds)).bind fun ds => W.ret (d :: ds)).bind drawW).bind fun y => addW x y).bind fun d => ((((W.ret (.int 10)).bind fun x => (W.ret (.int 9)).bind fun y => powW x y).bind fun x => (((getW env 0).bind fun d => ((W.ret (.int 3)).bind fun d => (W.ret []).bind fun ds => W.ret (d :: ds)).bind fun ds => W.ret (d :: ds)).bind drawW).bind fun y => subW x y).bind fun d => (((W.ret (.int 1)).bind fun x => (((getW env 0).bind fun d => (((W.ret (.int 10)).bind fun x => (W.ret (.int 6)).bind fun y => powW x y).bind fun d => (W.ret []).bind fun ds => W.ret (d :: ds)).bind fun ds => W.ret (d :: ds)).bind drawW).bind fun y => addW x y).bind fun d => (W.ret []).bind fun ds => W.ret (d :: ds)).bind fun ds => W.ret (d :: ds)).bind fun ds => W.ret (d :: ds)).bind fun ds => W.ret (d :: ds)).bind lstW).bind fun x => (((getW env 0).bind fun d => ((W.ret (.int 4)).bind fun d => (W.ret []).bind fun ds => W.ret (d :: ds)).bind fun ds => W.ret (d :: ds)).bind drawW).bind fun y => ixW x y).bind fun d => W.ret (.rt d))
def fLMany : List D → W D := runB 1 1 bLMany
def bLWant (env : Env) : W Fl := (thenW (((getW env 1).bind fun x => (((getW env 0).bind fun d => ((((getW env 1).bind fun d => (W.ret []).bind fun ds => W.ret (d :: ds)).bind lenW).bind fun d => (W.ret []).bind fun ds => W.ret (d :: ds)).bind fun ds => W.ret (d :: ds)).bind drawW).bind fun y => ixW x y).bind fun d => W.ret (.nx (env.set 3 (some d))))
  fun env => (thenW ((((lcD (fun d env => W.ret (env.set 5 (some d))) (fun env => (((((getW env 0).bind fun d => ((W.ret (.int 2)).bind fun d => (W.ret []).bind fun ds => W.ret (d :: ds)).bind fun ds => W.ret (d :: ds)).bind drawW).bind fun x => (W.ret (.int 0)).bind fun y => eqW x y).bind asB)) (fun env => (getW env 5)) [5] (fun env => ((((getW env 2).bind fun d => (W.ret []).bind fun ds => W.ret (d :: ds)).bind sortedW).bind walkLW)) env).bind fun d => (W.ret []).bind fun ds => W.ret (d :: ds)).bind tupleW).bind fun d => W.ret (.nx (env.set 4 (some d))))
  fun env => ((((getW env 3).bind fun d => ((getW env 4).bind fun d => ((((getW env 0).bind fun d => (W.ret []).bind fun ds => W.ret (d :: ds)).bind fLMany).bind fun d => (W.ret []).bind fun ds => W.ret (d :: ds)).bind fun ds => W.ret (d :: ds)).bind fun ds => W.ret (d :: ds)).bind tupW).bind fun d => W.ret (.rt d))))
def fLWant : List D → W D := runB 3 6 bLWant
end LP
namespace LP
open PySem PySem.Spec PyProof.Rows L2 PK RZ
/-! ### by equations -/
namespace W
variable {α β : Type}
theorem want_bind {p : Prop} {f : Unit → W α} (h : p) : bind (want p) f = f () := by
  refine ext ?_
  funext Q E
  exact propext ⟨fun q => q.2, fun q => ⟨h, q⟩⟩
theorem fail_bind {f : α → W β} : bind (fail : W α) f = fail := rfl
theorem calm_ret {a : α} : calm (ret a) = ret a := rfl
theorem raise_bind {e : Ex} {f : α → W β} : bind (raise e : W α) f = raise e := rfl
end W
theorem optW_some {α : Type} (x : α) : optW (some x) = W.ret x := rfl
theorem asB_bl (b : Bool) : asB (.bl b) = W.ret b := rfl
theorem asS_str (b : Str) : asS (.str b) = W.ret b := rfl
theorem runB_eq {np nN : Nat} {b : Env → W Fl} {ds : List D} (h : ds.length = np) : runB np nN b ds = endW (b (startE nN ds)) := W.want_bind h
theorem endW_rt {m : W Fl} {d : D} (h : m = W.ret (.rt d)) : endW m = W.ret d := by rw [h]; rfl
theorem tupW_eq {l : List D} (h : l.length ≤ sizeLine) : tupW l = W.ret (.tup l) := W.want_bind h
theorem lstW_eq {l : List D} (h : l.length ≤ sizeLine) : lstW l = W.ret (.lst l) := W.want_bind h
theorem small {n : Nat} (h : n ≤ 1000000) : n ≤ sizeLine := Nat.le_trans h (by decide)
theorem smallT {n : Nat} (h : n ≤ 1000000) : n < sizeLine := Nat.lt_of_le_of_lt h (by decide)
theorem eqW_sh {a b : D} (h1 : D.sh a) (h2 : D.sh b) : eqW a b = W.ret (.bl (D.eqv a b)) := by
  unfold eqW
  split
  · exact absurd h1.1 Bool.false_ne_true
  · exact W.want_bind ⟨h1, h2⟩
theorem neW_sh {a b : D} (h1 : D.sh a) (h2 : D.sh b) : neW a b = W.ret (.bl (!D.eqv a b)) := by
  unfold neW
  split
  · exact absurd h1.1 Bool.false_ne_true
  · exact W.want_bind ⟨h1, h2⟩
theorem sh_int (i : Int) : D.sh (.int i) := ⟨rfl, Nat.zero_le _⟩
theorem sh_str (i : Str) : D.sh (.str i) := ⟨rfl, Nat.zero_le _⟩
theorem sh_bl (i : Bool) : D.sh (.bl i) := ⟨rfl, Nat.zero_le _⟩
theorem sh_non : D.sh .non := ⟨rfl, Nat.zero_le _⟩
theorem eqW_int (i j : Int) : eqW (.int i) (.int j) = W.ret (.bl (i == j)) := eqW_sh (sh_int i) (sh_int j)
theorem neW_int (i j : Int) : neW (.int i) (.int j) = W.ret (.bl (!(i == j))) := neW_sh (sh_int i) (sh_int j)
theorem eqW_str (i j : Str) : eqW (.str i) (.str j) = W.ret (.bl (i == j)) := eqW_sh (sh_str i) (sh_str j)
theorem neW_str (i j : Str) : neW (.str i) (.str j) = W.ret (.bl (!(i == j))) := neW_sh (sh_str i) (sh_str j)
theorem rp_eq (d e : D) : eqW (rp d) (rp e) = W.ret (.bl (decide (d.toP.shown = e.toP.shown))) := rfl
theorem rp_ne (d e : D) : neW (rp d) (rp e) = W.ret (.bl (!decide (d.toP.shown = e.toP.shown))) := rfl
theorem rp_self (d : D) : eqW (rp d) (rp d) = W.ret (.bl true) := by rw [rp_eq, decide_eq_true rfl]
theorem rp_same (d : D) : neW (rp d) (rp d) = W.ret (.bl false) := by rw [rp_ne, decide_eq_true rfl]; rfl
theorem reprD_eq {d : D} (h : Sz 1900 64 sizeLine d) : reprD [d] = W.ret (rp d) := W.want_bind h
/-! ### comprehensions, by equations -/
theorem lcW_eq {g : D → Env → W Env} {t : Env → W Bool} {el : Env → W D} {env : Env} {tb : D → Bool} {f : D → D} {ge : D → Env} : ∀ {ds : List D} {acc : List D},
    (∀ d ∈ ds, g d env = W.ret (ge d) ∧ t (ge d) = W.ret (tb d) ∧ (tb d = true → el (ge d) = W.ret (f d))) → acc.length + ds.length ≤ sizeLine →
    lcW g t el env ds acc = W.ret (acc ++ (ds.filter tb).map f)
  | [], acc, _, _ => by rw [List.filter_nil, List.map_nil, List.append_nil]; rfl
  | d :: ds, acc, h, hl => by
    obtain ⟨h1, h2, h3⟩ := h d List.mem_cons_self
    have ih := fun acc hl => lcW_eq (ds := ds) (acc := acc) (fun e he => h e (List.mem_cons_of_mem _ he)) hl
    show W.bind (W.calm (g d env)) _ = _
    rw [h1, W.calm_ret, W.ret_bind, h2, W.calm_ret, W.ret_bind]
    rw [List.length_cons] at hl
    cases e : tb d with
    | false =>
      rw [List.filter_cons_of_neg (by rw [e]; exact Bool.false_ne_true)]
      exact ih acc (by omega)
    | true =>
      show W.bind (W.calm (el (ge d))) _ = _
      rw [h3 e, W.calm_ret, W.ret_bind, W.want_bind (by omega), ih _ (by rw [List.length_append, List.length_singleton]; omega), List.filter_cons_of_pos e, List.map_cons, List.append_assoc]
      rfl
theorem lcD_eq {g : D → Env → W Env} {t : Env → W Bool} {el : Env → W D} {vs : List Nat} {pi : Env → W (List D)} {env : Env} {ds : List D} {tb : D → Bool} {f : D → D} {ge : D → Env} (hi : pi env = W.ret ds) (hl : ds.length ≤ sizeLine)
    (h : ∀ d ∈ ds, g d (wipeE env vs) = W.ret (ge d) ∧ t (ge d) = W.ret (tb d) ∧ (tb d = true → el (ge d) = W.ret (f d))) : lcD g t el vs pi env = W.ret (.lst ((ds.filter tb).map f)) := by
  unfold lcD
  rw [hi, W.ret_bind, lcW_eq h (by rw [List.length_nil]; omega)]
  rfl
/-- no test -/
theorem lcD_map {g : D → Env → W Env} {el : Env → W D} {vs : List Nat} {pi : Env → W (List D)} {env : Env} {ds : List D} {f : D → D} {ge : D → Env} (hi : pi env = W.ret ds) (hl : ds.length ≤ sizeLine)
    (h : ∀ d ∈ ds, g d (wipeE env vs) = W.ret (ge d) ∧ el (ge d) = W.ret (f d)) : lcD g (fun _ => W.ret true) el vs pi env = W.ret (.lst (ds.map f)) := by
  have := lcD_eq (t := fun _ => W.ret true) (tb := fun _ => true) hi hl fun d hd => ⟨(h d hd).1, rfl, fun _ => (h d hd).2⟩
  rw [this]
  have e : ds.filter (fun _ => true) = ds := List.filter_eq_self.mpr fun _ _ => rfl
  rw [e]
/-! ### what may come out, by what is wanted -/
theorem lcW_wp {g : D → Env → W Env} {t : Env → W Bool} {el : Env → W D} {env : Env} {E : Ex → Prop} (P : Nat → List D → Prop) : ∀ {ds : List D} {k : Nat} {acc : List D} {Q : List D → Prop}, P k acc →
    (∀ i d acc, ds[i]? = some d → P (k + i) acc → (g d env).wp (fun env' => (t env').wp (fun b => match b with
      | true => (el env').wp (fun y => acc.length < sizeLine ∧ P (k + i + 1) (acc ++ [y])) fun _ => False
      | false => P (k + i + 1) acc) fun _ => False) fun _ => False) →
    (∀ acc, P (k + ds.length) acc → Q acc) → (lcW g t el env ds acc).wp Q E
  | [], k, acc, Q, h0, _, hq => hq acc h0
  | d :: ds, k, acc, Q, h0, hs, hq => by
    have h := hs 0 d acc rfl h0
    refine W.mono (g d env) (fun env' h2 => ?_) (fun _ z => z) h
    refine W.mono (t env') (fun b h3 => ?_) (fun _ z => z) h2
    have ih : ∀ acc, P (k + 1) acc → (lcW g t el env ds acc).wp Q E := fun acc h1 => lcW_wp P (k := k + 1) h1 (fun i e acc he hp => by
      have := hs (i + 1) e acc (by simpa using he) (by rw [show k + (i + 1) = k + 1 + i by omega]; exact hp)
      rw [show k + (i + 1) + 1 = k + 1 + i + 1 by omega] at this
      exact this) (fun acc hp => hq acc (by rw [List.length_cons, show k + (ds.length + 1) = k + 1 + ds.length by omega]; exact hp))
    cases b with
    | false => exact ih acc h3
    | true => exact W.mono (el env') (fun y h4 => ⟨h4.1, ih _ h4.2⟩) (fun _ z => z) h3
theorem lcD_wp {g : D → Env → W Env} {t : Env → W Bool} {el : Env → W D} {vs : List Nat} {pi : Env → W (List D)} {env : Env} {E : Ex → Prop} {Q : D → Prop} {ds : List D} (P : Nat → List D → Prop) (hi : pi env = W.ret ds) (h0 : P 0 [])
    (hs : ∀ i d acc, ds[i]? = some d → P i acc → (g d (wipeE env vs)).wp (fun env' => (t env').wp (fun b => match b with
      | true => (el env').wp (fun y => acc.length < sizeLine ∧ P (i + 1) (acc ++ [y])) fun _ => False
      | false => P (i + 1) acc) fun _ => False) fun _ => False)
    (hq : ∀ acc, P ds.length acc → Q (.lst acc)) : (lcD g t el vs pi env).wp Q E := by
  unfold lcD
  rw [hi]
  refine lcW_wp (k := 0) P h0 (fun i d acc hd hp => ?_) (fun acc hp => hq acc ?_)
  · rw [Nat.zero_add] at hp ⊢
    exact hs i d acc hd hp
  · rw [Nat.zero_add] at hp
    exact hp
/-- a for: an invariant by how many were gone through -/
theorem forW_wp {g : D → Env → W Env} {p : Env → W Fl} {E : Ex → Prop} {Q : Fl → Prop} (P : Nat → Env → Prop) : ∀ {ds : List D} {k : Nat} {env : Env}, P k env →
    (∀ i d env, ds[i]? = some d → P (k + i) env → (g d env).wp (fun env1 => (p env1).wp (fun f => match f with
      | .nx e => P (k + i + 1) e
      | .ct e => P (k + i + 1) e
      | .bk e => Q (.nx e)
      | .rt d => Q (.rt d)) E) E) →
    (∀ env, P (k + ds.length) env → Q (.nx env)) → (forW g p ds env).wp Q E
  | [], k, env, h0, _, hq => hq env h0
  | d :: ds, k, env, h0, hs, hq => by
    have h := hs 0 d env rfl h0
    refine W.mono (g d env) (fun env1 h2 => ?_) (fun _ z => z) h
    refine W.mono (p env1) (fun f h3 => ?_) (fun _ z => z) h2
    have ih : ∀ e, P (k + 1) e → (forW g p ds e).wp Q E := fun e h1 => forW_wp P (k := k + 1) h1 (fun i d e' he hp => by
      have := hs (i + 1) d e' (by simpa using he) (by rw [show k + (i + 1) = k + 1 + i by omega]; exact hp)
      rw [show k + (i + 1) + 1 = k + 1 + i + 1 by omega] at this
      exact this) (fun e' hp => hq e' (by rw [List.length_cons, show k + (ds.length + 1) = k + 1 + ds.length by omega]; exact hp))
    cases f with
    | nx e => exact ih e h3
    | ct e => exact ih e h3
    | bk e => exact h3
    | rt d => exact h3
theorem forW_wp0 {g : D → Env → W Env} {p : Env → W Fl} {E : Ex → Prop} {Q : Fl → Prop} {ds : List D} {env : Env} (P : Nat → Env → Prop) (h0 : P 0 env)
    (hs : ∀ i d env, ds[i]? = some d → P i env → (g d env).wp (fun env1 => (p env1).wp (fun f => match f with
      | .nx e => P (i + 1) e
      | .ct e => P (i + 1) e
      | .bk e => Q (.nx e)
      | .rt d => Q (.rt d)) E) E)
    (hq : ∀ env, P ds.length env → Q (.nx env)) : (forW g p ds env).wp Q E := by
  refine forW_wp P (k := 0) h0 (fun i d e hd hp => ?_) (fun e hp => hq e ?_)
  · rw [Nat.zero_add] at hp ⊢
    exact hs i d e hd hp
  · rw [Nat.zero_add] at hp
    exact hp
/-- a draw -/
theorem draw_wp {m : Int} {Q : D → Prop} {E : Ex → Prop} (h0 : 0 < m) (h1 : m ≤ 1000000) (h : ∀ r : Int, 0 ≤ r → r < m → Q (.int r)) : (drawW [.tok 0, .int m]).wp Q E := ⟨⟨h0, h1⟩, fun r hr => h r hr.1 hr.2⟩
/-! ### surely -/
/-- m gives r -/
def Ret {α : Type} (m : W α) (r : α) : Prop := ∀ Q E, Q r → m.wp Q E
theorem Ret.go {α : Type} {m : W α} {r : α} {Q : α → Prop} {E : Ex → Prop} (h : Ret m r) (q : Q r) : m.wp Q E := h Q E q
theorem Ret.ret {α : Type} (r : α) : Ret (W.ret r) r := fun _ _ q => q
theorem Ret.bind {α β : Type} {m : W α} {f : α → W β} {a : α} {b : β} (h1 : Ret m a) (h2 : Ret (f a) b) : Ret (W.bind m f) b := fun Q E q => h1 _ E (h2 Q E q)
theorem lc_ret {g : D → Env → W Env} {t : Env → W Bool} {el : Env → W D} {vs : List Nat} {pi : Env → W (List D)} {env : Env} {ds : List D} (tb : D → Bool) (f : D → D) (hi : Ret (pi env) ds) (hl : ds.length ≤ sizeLine)
    (h : ∀ d ∈ ds, (g d (wipeE env vs)).wp (fun env' => (t env').wp (fun b => b = tb d ∧ (b = true → (el env').wp (fun y => y = f d) fun _ => False)) fun _ => False) fun _ => False) : Ret (lcD g t el vs pi env) (.lst ((ds.filter tb).map f)) := by
  intro Q E q
  refine hi _ E ?_
  refine lcW_wp (k := 0) (fun i acc => acc = ((ds.take i).filter tb).map f) rfl (fun i d acc hd hp => ?_) (fun acc hp => ?_)
  · rw [Nat.zero_add] at hp ⊢
    have hi : i < ds.length := (List.getElem?_eq_some_iff.mp hd).1
    refine W.mono _ (fun env' h2 => ?_) (fun _ z => z) (h d (List.mem_of_getElem? hd))
    refine W.mono _ (fun b h3 => ?_) (fun _ z => z) h2
    obtain ⟨rfl, h3⟩ := h3
    cases e : tb d with
    | false =>
      show acc = _
      rw [hp, take_snoc hd, List.filter_append, List.filter_cons_of_neg (by rw [e]; exact Bool.false_ne_true), List.filter_nil, List.append_nil]
    | true =>
      refine W.mono _ (fun y h4 => ⟨?_, ?_⟩) (fun _ z => z) (h3 e)
      · rw [hp, List.length_map]
        have := List.length_filter_le tb (ds.take i)
        rw [List.length_take] at this
        omega
      · rw [hp, h4, take_snoc hd, List.filter_append, List.filter_cons_of_pos e, List.map_append]
        rfl
  · rw [Nat.zero_add, List.take_length] at hp
    rw [hp]
    exact q
theorem lc_map {g : D → Env → W Env} {el : Env → W D} {vs : List Nat} {pi : Env → W (List D)} {env : Env} {ds : List D} (f : D → D) (hi : Ret (pi env) ds) (hl : ds.length ≤ sizeLine)
    (h : ∀ d ∈ ds, (g d (wipeE env vs)).wp (fun env' => (el env').wp (fun y => y = f d) fun _ => False) fun _ => False) : Ret (lcD g (fun _ => W.ret true) el vs pi env) (.lst (ds.map f)) := by
  have := lc_ret (t := fun _ => W.ret true) (fun _ => true) f hi hl fun d hd => W.mono _ (fun env' h2 => ⟨rfl, fun _ => h2⟩) (fun _ z => z) (h d hd)
  rw [List.filter_eq_self.mpr (fun _ _ => rfl)] at this
  exact this
/-! ### to go through what a body asks -/
section
variable {α β : Type}
theorem s_ite {k : Bool} {x y : W α} {Q : α → Prop} {E : Ex → Prop} : (W.ite k x y).wp Q E ↔ (k = true → x.wp Q E) ∧ (k = false → y.wp Q E) := by
  cases k
  · exact ⟨fun h => ⟨fun z => (nomatch z), fun _ => h⟩, fun h => h.2 rfl⟩
  · exact ⟨fun h => ⟨fun _ => h, fun z => (nomatch z)⟩, fun h => h.1 rfl⟩
theorem s_get0 {d : D} {l : Env} : getW (some d :: l) 0 = W.ret d := rfl
theorem s_get {a : Option D} {l : Env} {i : Nat} : getW (a :: l) (i + 1) = getW l i := rfl
theorem s_then {m : W Fl} {q : Env → W Fl} {Q : Fl → Prop} {E : Ex → Prop} : (thenW m q).wp Q E ↔ m.wp (fun f => (match f with | .nx e => q e | f => W.ret f : W Fl).wp Q E) E := Iff.rfl
theorem s_end {m : W Fl} {Q : D → Prop} {E : Ex → Prop} : (endW m).wp Q E ↔ m.wp (fun f => (match f with | .rt d => W.ret d | .nx _ => W.ret .non | _ => W.fail : W D).wp Q E) E := Iff.rfl
theorem s_run {np nN : Nat} {b : Env → W Fl} {ds : List D} {Q : D → Prop} {E : Ex → Prop} : (runB np nN b ds).wp Q E ↔ ds.length = np ∧ (endW (b (startE nN ds))).wp Q E := Iff.rfl
theorem s_calm {m : W α} {Q : α → Prop} {E : Ex → Prop} : (W.calm m).wp Q E ↔ m.wp Q fun _ => False := Iff.rfl
theorem s_fail {Q : α → Prop} {E : Ex → Prop} : (W.fail : W α).wp Q E ↔ False := Iff.rfl
theorem s_start1 {n : Nat} {a : D} : startE n [a] = some a :: List.replicate (n - 1) none := rfl
theorem s_start2 {n : Nat} {a b : D} : startE n [a, b] = some a :: some b :: List.replicate (n - 2) none := rfl
theorem s_start3 {n : Nat} {a b c : D} : startE n [a, b, c] = some a :: some b :: some c :: List.replicate (n - 3) none := rfl
theorem s_start4 {n : Nat} {a b c d : D} : startE n [a, b, c, d] = some a :: some b :: some c :: some d :: List.replicate (n - 4) none := rfl
theorem s_start5 {n : Nat} {a b c d e : D} : startE n [a, b, c, d, e] = some a :: some b :: some c :: some d :: some e :: List.replicate (n - 5) none := rfl
end
theorem isi_non (T : String) : isiW T .non = W.ret (.bl ("NoneType" == T || ("NoneType" == "bool" && T == "int"))) := rfl
theorem isi_bl (T : String) (b : Bool) : isiW T (.bl b) = W.ret (.bl ("bool" == T || ("bool" == "bool" && T == "int"))) := rfl
theorem isi_int (T : String) (b : Int) : isiW T (.int b) = W.ret (.bl ("int" == T || ("int" == "bool" && T == "int"))) := rfl
theorem isi_str (T : String) (b : Str) : isiW T (.str b) = W.ret (.bl ("str" == T || ("str" == "bool" && T == "int"))) := rfl
theorem isi_tup (T : String) (b : List D) : isiW T (.tup b) = W.ret (.bl ("tuple" == T || ("tuple" == "bool" && T == "int"))) := rfl
theorem isi_lst (T : String) (b : List D) : isiW T (.lst b) = W.ret (.bl ("list" == T || ("list" == "bool" && T == "int"))) := rfl
theorem lcD_go {g : D → Env → W Env} {t : Env → W Bool} {el : Env → W D} {vs : List Nat} {pi : Env → W (List D)} {env : Env} {E : Ex → Prop} {Q : D → Prop} (h : (pi env).wp (fun ds => (lcW g t el (wipeE env vs) ds []).wp (fun l => Q (.lst l)) E) E) : (lcD g t el vs pi env).wp Q E := h
/-- .. of any list: an invariant by how many -/
theorem lcW_go {g : D → Env → W Env} {el : Env → W D} {env : Env} {E : Ex → Prop} {Q : List D → Prop} {ds : List D} (P : Nat → List D → Prop) (h0 : P 0 []) (hs : ∀ i d acc, ds[i]? = some d → P i acc → (g d env).wp (fun env' => (el env').wp (fun y => acc.length < sizeLine ∧ P (i + 1) (acc ++ [y])) fun _ => False) fun _ => False)
    (hq : ∀ acc, P ds.length acc → Q acc) : (lcW g (fun _ => W.ret true) el env ds []).wp Q E := by
  refine lcW_wp (k := 0) P h0 (fun i d acc hd hp => ?_) (fun acc hp => hq acc ?_)
  · rw [Nat.zero_add] at hp ⊢
    exact hs i d acc hd hp
  · rw [Nat.zero_add] at hp
    exact hp
/-- .. with a test -/
theorem lcW_goT {g : D → Env → W Env} {t : Env → W Bool} {el : Env → W D} {env : Env} {E : Ex → Prop} {Q : List D → Prop} {ds : List D} (P : Nat → List D → Prop) (h0 : P 0 []) (hs : ∀ i d acc, ds[i]? = some d → P i acc → (g d env).wp (fun env' => (t env').wp (fun b => (b = true → (el env').wp (fun y => acc.length < sizeLine ∧ P (i + 1) (acc ++ [y])) fun _ => False) ∧ (b = false → P (i + 1) acc)) fun _ => False) fun _ => False)
    (hq : ∀ acc, P ds.length acc → Q acc) : (lcW g t el env ds []).wp Q E := by
  refine lcW_wp (k := 0) P h0 (fun i d acc hd hp => ?_) (fun acc hp => hq acc ?_)
  · rw [Nat.zero_add] at hp ⊢
    refine W.mono _ (fun env' h => W.mono _ (fun b h => ?_) (fun _ z => z) h) (fun _ z => z) (hs i d acc hd hp)
    cases b with
    | true => exact h.1 rfl
    | false => exact h.2 rfl
  · rw [Nat.zero_add] at hp
    exact hp
theorem Sz.i0 {m dp n : Nat} (h : 2 ≤ n) : Sz m dp n (.int 0) := Sz.int (by rw [show (0 : Int).natAbs.log2 = 0 by decide]; exact Nat.zero_le _) (by rw [show (0 : Int).natAbs.log2 = 0 by decide]; exact h)
theorem Sz.i1 {m dp n : Nat} (h : 2 ≤ n) : Sz m dp n (.int 1) := Sz.int (by rw [show (1 : Int).natAbs.log2 = 0 by decide]; exact Nat.zero_le _) (by rw [show (1 : Int).natAbs.log2 = 0 by decide]; exact h)
theorem Sz.im {m dp n : Nat} (h : 2 ≤ n) : Sz m dp n (.int (-1)) := Sz.int (by rw [show (-1 : Int).natAbs.log2 = 0 by decide]; exact Nat.zero_le _) (by rw [show (-1 : Int).natAbs.log2 = 0 by decide]; exact h)
theorem Sz.i60 {m dp n : Nat} (h : 199 ≤ m) (h2 : 201 ≤ n) : Sz m dp n (.int (10 ^ 60)) := Sz.int (by rw [show ((10 : Int) ^ 60).natAbs.log2 = 199 by decide +kernel]; exact h) (by rw [show ((10 : Int) ^ 60).natAbs.log2 = 199 by decide +kernel]; exact h2)
end LP
namespace LP
open PySem PySem.Spec PyProof.Rows L2 PK RZ
/-! ### a list and a list, owned -/
def catLW : D → D → W D
  | .lst a, .lst b => (W.want (a.length + b.length ≤ sizeLine)).bind fun _ => W.ret (.lst (a ++ b))
  | _, _ => W.fail
section
variable {X : Cx} {Ξ : Ctx} {H0 : Hp} {O : List Nat} {a b : Expr} {pos : Pos} {pa pb : Env → W D}
theorem ln_cat (ha : LB Ξ H0 O X a pa) (hb : LB Ξ H0 O X b pb) : PE X (.BinOp a .Add b pos) (liN Ξ H0 O fun env => (pa env).bind fun x => (pb env).bind fun y => catLW x y) :=
  wkE (pe_op op_cat ha hb) (by
    rintro σ H Q ⟨S, A, G, env, E, hA, rl, q⟩
    refine ⟨S, A, G, env, E, hA, rl, (pa env).mono (fun d1 k x H1 g1 r1 b1 => ?_) (fun _ z => z) q⟩
    refine ⟨S, A, G, env, E, hA, r1, (pb env).mono (fun d2 k y H2 g2 r2 b2 => ?_) (fun _ z => z) k⟩
    have b1 := b1.gr g2 r1.ffM
    cases d1 <;> cases d2 <;> try exact k.elim
    obtain ⟨c1, xs, rfl, t1, a1⟩ := b1.lstE
    obtain ⟨c2, ys, rfl, t2, a2⟩ := b2.lstE
    refine ⟨c1, c2, xs, ys, rfl, rfl, t1, t2, by rw [a1.len, a2.len]; exact k.1, fun p np => ?_⟩
    have s : Same H2 (upd H2 p (.lst (xs ++ ys))) := same_new (Same.refl H2) np
    have nf := ff_out r2.fi np
    have n0 : H p = none := by
      cases q : H p with
      | none => rfl
      | some o =>
        have := (g1.trans g2) p o nf q
        rw [np] at this
        cases this
    refine k.2 p _ ((g1.trans g2).trans (Gr.of s)) (FI_same r2.fi s) n0 ?_
    rw [upd_same]
    refine .lst ((a1.app a2).same fun b o e => ?_)
    obtain ⟨h1, h2⟩ := ms_some e
    exact ms_at (s _ _ h1) fun z => (List.mem_cons.mp z).elim (ne_of_none h1 np) h2)
end
end LP
namespace LP
open PySem PySem.Spec PyProof.Rows L2 PK RZ
/-! ### the least of a list -/
def rMinI (K : PySem.W.Frag) : List V → Hp → VK → Prop := fun vs H Q => ∃ (a : Addr) (xs : List V) (d : PyData) (ds : List PyData), vs = [.ref a] ∧ SqL K H a xs ∧ DpAll K H xs (d :: ds) ∧ PySem.W.AlikeAll (d :: ds) ∧ (∀ e ∈ d :: ds, e.depth ≤ 90) ∧
  ∀ (i : Nat) (x : V), xs[i]? = some x → (d :: ds)[i]? = some (PySem.W.minD d ds) → Q x H
theorem call_minI {X : Cx} {k : Nat} (hc : X.calm = true) (hr : Room k X.A) : CallR X (.builtin "min") (rMinI X.K) := by
  intro pins s σ H vs us Q I r h
  obtain ⟨a, xs, d, ds, rfl, hs, hd, ha, hdp, q⟩ := h
  obtain ⟨its, rv, hl, _⟩ := I.list hs
  rw [Vals.ref1 r]
  obtain ⟨as, hR⟩ := Dp.readsAll I _ _ _ hd rv
  have hu := hr.un
  have hdd := depthAll_le hdp
  refine PySem.W.min_list_data (vs := its.toArray) (I.ok.hd hc) hl.isList (by simpa using hR) ha (by omega) fun i v h' tk bs hv rd hk => ?_
  have hv' : its[i]? = some v := by simpa using hv
  obtain ⟨x, hx, rx⟩ : ∃ x, xs[i]? = some x ∧ RelV x v := vals_back rv hv'
  refine ⟨x, H, I.kept hk, rx, q i x hx ?_⟩
  obtain ⟨e, he, de⟩ := DpAll.getV hd hx
  obtain ⟨as2, re⟩ := Dp.reads (I.kept (t' := tk) hk) _ _ _ de rx
  obtain ⟨m1, _⟩ := minD_at ds d
  have mm : PySem.W.minD d ds ∈ d :: ds := by
    rcases m1 with z | z
    · rw [z]; exact List.mem_cons_self
    · exact List.mem_cons_of_mem _ z
  have ee := PySem.W.alike_unique _ _ _ _ _ (ha.1 e (List.mem_of_getElem? he) _ mm) re rd
  rw [he, ee]
/-- one that is the least -/
def minLW : List D → W D
  | [.lst (d :: l)] => (W.want (D.plains (d :: l) = true ∧ PySem.W.AlikeAll (D.toPs (d :: l)) ∧ ∀ e ∈ D.toPs (d :: l), e.depth ≤ 90)).bind fun _ =>
    (W.any fun x : D => x ∈ d :: l ∧ x.toP = PySem.W.minD d.toP (D.toPs l)).bind fun x => W.ret x
  | _ => W.fail
section
variable {X : Cx} {Ξ : Ctx} {H0 : Hp} {O : List Nat} {e : Expr} {ps : Env → W (List D)}
theorem min_ok : CallOk Ξ (rMinI Ξ.K) minLW := by
  intro M H xs ds Q E mu hf h q
  match ds, h, q with
  | [.lst (d :: l)], .cons h .nil, ⟨⟨pl, al, dp⟩, q⟩ =>
    have hd := h.full
    obtain ⟨b, ys, rfl, t, a⟩ := h.lstE
    obtain ⟨_, ys', e, t', a'⟩ := hd.lstE
    cases e
    rw [t] at t'
    cases t'
    refine ⟨b, ys, d.toP, D.toPs l, rfl, SqL.of t, a'.dp pl, al, dp, fun i x hx hm => ?_⟩
    obtain ⟨di, hdi, rx⟩ := a.getV hx
    refine q di ⟨List.mem_of_getElem? hdi, ?_⟩ x H (Same.refl H) rx
    have e1 : (D.toPs (d :: l))[i]? = some (PySem.W.minD d.toP (D.toPs l)) := hm
    rw [toPs_map, List.getElem?_map, hdi] at e1
    exact Option.some.inj e1
theorem le_minL {k : Nat} {p pos : Pos} (hc : X.calm = true) (hr : Room k X.A) (hK : X.K = Ξ.K) (hg : Gl X "min") (hm : X.mg "min" = none) (ha : LAB Ξ H0 O X [e] ps) (he : starEach [e] X.env = [(false, eval e X.env)] := by rfl) : LE Ξ H0 O X (.Call (.Name "min" p) [e] [] pos) fun env => (ps env).bind minLW :=
  le_callB (by rw [← hK]; exact call_minI hc hr : CallR X _ (rMinI Ξ.K)) min_ok hg hm (by decide +kernel) ha (by decide) (by decide) he rfl
end
end LP
namespace LP
open PySem PySem.Spec PyProof.Rows L2 PK RZ
/-! ### put into an owned list at a place; the last one out -/
def insW (ds : List D) (l : List D) : W (List D) := match ds with
  | [.int i, d] => (W.want (l.length < sizeLine ∧ 0 ≤ i ∧ i < 2 ^ 63)).bind fun _ => W.ret (l.take i.toNat ++ [d] ++ l.drop i.toNat)
  | _ => W.fail
abbrev rInsI : V → List V → Hp → VK → Prop := fun x vs H Q => ∃ (l : Addr) (xs : List V) (i : Int) (y : V), x = .ref l ∧ vs = [.int i, y] ∧ H l = some (.lst xs) ∧ xs.length < sizeLine ∧ 0 ≤ i ∧ i < 2 ^ 63 ∧
    Q .non (upd H l (.lst (xs.take i.toNat ++ [y] ++ xs.drop i.toNat)))
section
variable {X : Cx} {Ξ : Ctx} {H0 : Hp} {O Ob : List Nat} {e : Expr} {es : List Expr} {ps : Env → W (List D)} {pos : Pos}
theorem ls_insert {i : Nat} {x : Str} {pn pa' pc' : Pos} (hO : i ∈ O)
    (hm : PE X (.Call (.Attribute (.Name x pn) "insert" pa') es [] pc') (tBM X.K "list" rInsI (tVar i) (liA Ξ H0 O ps)))
    (hs : swapsWith (.Call (.Attribute (.Name x pn) "insert" pa') es [] pc') none pos.line X.env = pure false := by rfl) :
    LS Ξ H0 O O Ob X (.Expr (.Call (.Attribute (.Name x pn) "insert" pa') es [] pc') pos) fun env => (ps env).bind fun ds => putW env i (insW ds) := by
  refine wkS (ps_expr hm hs) fun De σ H ⟨S, A, G, env, E, hA, r, q⟩ => ?_
  rw [← hA] at hO
  obtain ⟨⟨j, a⟩, ha, e1⟩ := List.mem_map.mp hO
  have e1 : j = i := e1
  subst e1
  obtain ⟨d0, h1, h2, h3⟩ := r.ow j a ha
  have key : ∃ us ds, H a = some (.lst us) ∧ d0 = .lst ds := by
    generalize hq : H a = o at h3
    cases h3 with
    | lst h => exact ⟨_, _, rfl, rfl⟩
  obtain ⟨us, ds, ea, rfl⟩ := key
  refine ⟨.ref a, h2, .inl ⟨rfl, us, SqL.of ea⟩, S, A, G, env, E, hA, r, (ps env).mono (fun ds1 k vs H1 g1 r1 hv1 => ?_) (fun _ z => z) q⟩
  obtain ⟨l, el, k⟩ := putW_wp k
  obtain ⟨d1, i1, i2, i3⟩ := r1.ow j a ha
  rw [el] at i1
  cases i1
  have ea1 : H1 a = some (.lst us) := g1 a _ (r.outA ha) ea
  rw [ea1] at i3
  cases i3 with
  | lst i3 =>
    match ds1, hv1, k with
    | [.int n, d], .cons h1 (.cons h2 .nil), ⟨⟨k1, k2, k3⟩, k⟩ =>
      cases h1
      exact ⟨a, us, n, _, rfl, rfl, ea1, by rw [i3.len]; exact k1, k2, k3, k A σ _ hA (r1.put ha (.lst (((i3.take _).app (.cons h2 .nil)).app (i3.drop _))))⟩
end
end LP
namespace LP
open PySem PySem.Spec PyProof.Rows L2 PK RZ
/-! ### a place of an owned list set; the last one taken out -/
def setLW (i d : D) (l : List D) : W (List D) := match i with
  | .int k => (optW (ixN l.length k)).bind fun j => W.ret (l.set j d)
  | _ => W.fail
section
variable {X : Cx} {Ξ : Ctx} {H0 : Hp} {O Ob : List Nat} {e ix : Expr} {pv' pi' : Env → W D} {pos : Pos}
theorem ls_setL {i : Nat} {x : Str} {pn pt : Pos} (hO : i ∈ O)
    (hm : PS X (.Assign [.Subscript (.Name x pn) ix pt] e pos) (tAsg (liE Ξ H0 O pv') (gSub (tVar i) (liE Ξ H0 O pi') rSetL))) :
    LS Ξ H0 O O Ob X (.Assign [.Subscript (.Name x pn) ix pt] e pos) fun env => (pv' env).bind fun d => (pi' env).bind fun k => putW env i (setLW k d) := by
  refine wkS hm fun De σ H ⟨S, A, G, env, E, hA, r, q⟩ => ?_
  rw [← hA] at hO
  obtain ⟨⟨j, a⟩, ha, e1⟩ := List.mem_map.mp hO
  have e1 : j = i := e1
  subst e1
  refine ⟨S, A, G, env, E, hA, r, (pv' env).mono (fun d k v H1 g1 r1 hv1 => ?_) (fun _ z => z) q⟩
  obtain ⟨d0, h1, h2, h3⟩ := r1.ow j a ha
  refine ⟨.ref a, h2, S, A, G, env, E, hA, r1, (pi' env).mono (fun dk k vk H2 g2 r2 hv2 => ?_) (fun _ z => z) k⟩
  obtain ⟨l, el, k⟩ := putW_wp k
  obtain ⟨d1, i1, i2, i3⟩ := r2.ow j a ha
  rw [el] at i1
  cases i1
  generalize hq : H2 a = o at i3
  cases i3 with
  | lst i3 =>
    match dk, hv2, k with
    | .int n, hv2, k =>
      cases hv2
      obtain ⟨t, et, k⟩ := optW_wp k
      exact ⟨a, _, n, t, rfl, rfl, hq, by rw [i3.len]; exact et, k A σ _ hA (r2.put ha (.lst (i3.set (hv1.same (g2.ms r1.ffM)) t)))⟩
end
end LP
namespace LP
open PySem PySem.Spec PyProof.Rows L2 PK RZ
/-! ### from a to b -/
def range2W : List D → W (List D)
  | [.int i, .int j] => (W.want (-(2 ^ 62) ≤ i ∧ i < 2 ^ 62 ∧ -(2 ^ 62) ≤ j ∧ j < 2 ^ 62)).bind fun _ => W.ret (rangeD i (j - i).toNat)
  | _ => W.fail
section
variable {X : Cx} {Ξ : Ctx} {H0 : Hp} {O : List Nat} {tg : Expr}
theorem li_range2 {a b : Expr} {p : Env → W (List D)} {pp pos : Pos} (hg : Gl X "range") (hm : X.mg "range" = none) (ha : LA Ξ H0 O X [a, b] p) (hs : starEach [a, b] X.env = [(false, eval a X.env), (false, eval b X.env)] := by rfl) (hs2 : starEach [b] X.env = [(false, eval b X.env)] := by rfl) :
    LI Ξ H0 O X tg (.Call (.Name "range" pp) [a, b] [] pos) fun env => (p env).bind range2W :=
  wkI (pi_range2 hg hm ha hs hs2) fun σ H R ⟨S, A, G, env, E, hA, r, q⟩ => ⟨S, A, G, env, E, hA, r, (p env).mono (fun ds k vs H' g r' hv => by
    match ds, k, hv with
    | [.int i, .int j], k, .cons (.int _) (.cons (.int _) .nil) => exact ⟨i, j, rfl, k.1, k.2 _ H' [] g r' (fun _ hx => (nomatch hx)) wk_range⟩) (fun _ z => z) q⟩
end
end LP
namespace LP
open PySem PySem.Spec PyProof.Rows L2 PK RZ
/-! ### a list, with its places -/
def enumD (l : List D) : List D := l.mapIdx fun i d => .tup [.int (i : Nat), d]
theorem enum_get {l : List D} {i : Nat} {d : D} (h : l[i]? = some d) : (enumD l)[i]? = some (.tup [.int (i : Nat), d]) := by
  unfold enumD
  rw [List.getElem?_mapIdx, h]
  rfl
theorem enum_len (l : List D) : (enumD l).length = l.length := by simp [enumD]
def enumLW : List D → W (List D)
  | [.lst l] => W.ret (enumD l)
  | _ => W.fail
section
variable {X : Cx} {Ξ : Ctx} {H0 : Hp} {O : List Nat} {e : Expr} {ps : Env → W (List D)}
theorem wk_enum {K : PySem.W.Frag} {a : Addr} {l : List D} (hK : K = Ξ.K) : Wk Ξ (Ite K a) [(.ref a, .lst l)] (enumD l) := by
  subst hK
  have get : ∀ {M : List Addr} {H : Hp}, (∀ x ∈ [((V.ref a : V), D.lst l)], Rp Ξ (ms M H) x.1 x.2) → ∃ xs, SqL Ξ.K H a xs ∧ RpAll Ξ (ms M H) xs l := fun {M H} h => by
    obtain ⟨_, xs, e, h1, h2⟩ := (h _ List.mem_cons_self).lstE
    cases e
    exact ⟨xs, SqL.of (ms_sub _ _ h1), h2⟩
  have ln := enum_len l
  refine ⟨fun M H i _ h hi => ?_, fun M H _ h => ?_, fun M H i x H' mu h hi y => ?_⟩
  · obtain ⟨xs, h1, h2⟩ := get h
    have hx : i < xs.length := by rw [h2.len]; omega
    exact ⟨xs, xs[i], h1, by simp [hx]⟩
  · obtain ⟨xs, h1, h2⟩ := get h
    exact ⟨xs, h1, by rw [h2.len]; omega⟩
  · obtain ⟨xs, h1, h2⟩ := get h
    obtain ⟨T, v, rfl, nT, rfl, y1⟩ := y
    obtain ⟨d1, e1, r1⟩ := h2.getV (y1 xs h1)
    obtain ⟨s, rp⟩ := pair_at mu nT (Rp.int (Ξ := Ξ) (H := ms M H) (i : Int)) r1
    exact ⟨s, _, enum_get e1, rp⟩
theorem li_enumL {p pos tpos : Pos} {elts : List Expr} {kk : Nat} (hK : X.K = Ξ.K) (hg : Gl X "enumerate") (hm : X.mg "enumerate" = none) (ha : LA Ξ H0 O X [e] ps) (hs : starEach [e] X.env = [(false, eval e X.env)] := by rfl) :
    LI Ξ H0 O X (.Tuple elts kk tpos) (.Call (.Name "enumerate" p) [e] [] pos) fun env => (ps env).bind enumLW :=
  wkI (pi_enum hg hm ha hs) fun σ H R ⟨S, A, G, env, E, hA, r, q⟩ => ⟨S, A, G, env, E, hA, r, (ps env).mono (fun ds k vs H' g r' hv => by
    match ds, k, hv with
    | [.lst l], k, .cons h1 .nil =>
      have h1' := h1
      obtain ⟨b1, xs, rfl, t1, a1⟩ := h1'.lstE
      refine ⟨b1, xs, rfl, SqL.of (ms_sub _ _ t1), k _ H' [(.ref b1, .lst l)] g r' (fun x hx => ?_) (wk_enum hK)⟩
      rw [List.mem_singleton.mp hx]
      exact h1) (fun _ z => z) q⟩
end
end LP
namespace LP
open PySem PySem.Spec PyProof.Rows L2 PK RZ
/-! ### two clauses in one comprehension -/
def lc2W (g : D → Env → W Env) (t : Env → W Bool) (p1 : Env → W (List D)) (g1 : D → Env → W Env) (t1 : Env → W Bool) (el : Env → W D) (vs1 : List Nat) (env : Env) : List D → List D → W (List D)
  | [], acc => W.ret acc
  | d :: ds, acc => (W.calm (g d env)).bind fun env' => (W.calm (t env')).bind fun b => W.ite b
    ((W.calm (p1 env')).bind fun ds1 => (lcW g1 t1 el (wipeE env' vs1) ds1 acc).bind fun acc' => lc2W g t p1 g1 t1 el vs1 env ds acc') (lc2W g t p1 g1 t1 el vs1 env ds acc)
section
variable {X : Cx} {Ξ : Ctx} {H0 : Hp} {O : List Nat}
theorem Rel.updD {S : List Addr} {A : List (Nat × Addr)} {G : List (V × D)} {σ : L2.St} {H : Hp} {env : Env} {L : Addr} {us : List V} (r7 : Rel Ξ H0 (L :: S) A G σ H env) (nf : L ∉ Ξ.ff) (n0 : H0 L = none) : Rel Ξ H0 (L :: S) A G σ (upd H L (.lst us)) env := by
  have hD : L ∈ (L :: S) ++ A.map (·.2) := List.mem_cons_self
  refine ⟨r7.len, fun j z h n => ?_, fun j a h => ?_, r7.old, r7.nd, r7.ndk, fun x hx => ?_, r7.mu.upd trivial, FI_upd r7.fi nf, r7.ffs, fun b o n e => ?_⟩
  · rw [ms_upd hD]
    exact r7.fr j z h n
  · have na : a ≠ L := fun z => (r7.old j a h).2 (by rw [z]; exact List.mem_cons_self)
    rw [ms_upd hD, upd_ne na]
    exact r7.ow j a h
  · rw [ms_upd hD]
    exact r7.gh x hx
  · have nb : b ≠ L := fun z => by
      rw [z, n0] at e
      cases e
    rw [upd_ne nb]
    exact r7.gr b o n e
theorem lc2_reads {wi wi1 : TI} {g g1 : TG} {tt tt1 : TT} {te : TE} {vs vs1 : List Nat} {p p1 : Env → W (List D)} {gW gW1 : D → Env → W Env} {tW tW1 : Env → W Bool} {eW : Env → W D} (hvs : ∀ i ∈ vs, i ∉ O) (hvs1 : ∀ i ∈ vs1, i ∉ O)
    (hi : ∀ σ H R, liI Ξ H0 O p σ H R → wi σ H R) (hg : ∀ v σ H Q, liG Ξ H0 O vs gW v σ H Q → g v σ H Q) (ht : ∀ σ H Q, liT Ξ H0 O tW σ H Q → tt σ H Q)
    (hi1 : ∀ σ H R, liI Ξ H0 O p1 σ H R → wi1 σ H R) (hg1 : ∀ v σ H Q, liG Ξ H0 O vs1 gW1 v σ H Q → g1 v σ H Q) (ht1 : ∀ σ H Q, liT Ξ H0 O tW1 σ H Q → tt1 σ H Q) (he : ∀ σ H Q, liE Ξ H0 O eW σ H Q → te σ H Q) :
    ∀ σ H Q, liN Ξ H0 O (fun env => (p env).bind fun ds => (lc2W gW tW p1 gW1 tW1 eW vs1 (wipeE env vs) ds []).bind fun l => W.ret (.lst l)) σ H Q → tLc2 wi g tt wi1 g1 tt1 te vs vs1 σ H Q := by
  rintro σ H Q ⟨S, A, G, env, E, hA, r, q⟩
  refine hi σ H _ ⟨S, A, G, env, E, hA, r, (p env).mono (fun ds k J H1 gh g1' r1 hgh w L nD => ?_) (fun _ z => z) q⟩
  have nDM := r1.muA.out nD
  have nDf : L ∉ Ξ.ff := ff_out r1.fi nD
  have n0 : H0 L = none := by
    cases q : H0 L with
    | none => rfl
    | some o =>
      have := r1.gr L o nDf q
      rw [nD] at this
      cases this
  have hwp : ∀ i ∈ vs, i ∉ A.map (·.1) := fun i hi => by rw [hA]; exact hvs i hi
  have hwp1 : ∀ i ∈ vs1, i ∉ A.map (·.1) := fun i hi => by rw [hA]; exact hvs1 i hi
  let Pv : Nat → Hp → Prop := fun i H2 => ∃ us acc, Gr Ξ H1 H2 ∧ Rel Ξ H0 (L :: S) A (gh ++ G) σ H2 env ∧ H2 L = some (.lst us) ∧ RpAll Ξ (ms ((L :: S) ++ A.map (·.2)) H2) us acc ∧
    (lc2W gW tW p1 gW1 tW1 eW vs1 (wipeE env vs) (ds.drop i) acc).wp (fun l => ∀ (l' : Addr) H', Gr Ξ H H' → Ξ.FI H' → H l' = none → Ow Ξ (ms (l' :: (S ++ A.map (·.2))) H') (H' l') (.lst l) → Q (.ref l') H') E
  have nDH : H L = none := by
    cases q : H L with
    | none => rfl
    | some o =>
      have := g1' L o nDf q
      rw [nD] at this
      cases this
  refine ⟨fun i m H2 => m = ds.length - i ∧ i ≤ ds.length ∧ Pv i H2, ⟨ds.length, rfl, Nat.zero_le _, [], [], ?_⟩, ?_⟩
  · refine ⟨Gr.of (same_new (Same.refl H1) nD), (r1.ghost hgh).mask nD trivial, upd_same, .nil, k⟩
  · rintro i m H2 ⟨rfl, hi2, us, acc, g2, r2, eD, ha, k2⟩
    have gh2 : ∀ x ∈ gh, Rp Ξ (ms ((L :: S) ++ A.map (·.2)) H2) x.1 x.2 := fun x hx => r2.gh x (List.mem_append_left _ hx)
    by_cases hlt : i < ds.length
    · refine .inr ⟨w.goes _ H2 i r2.muA gh2 hlt, Pv (i + 1), fun H' p' => ⟨ds.length - (i + 1), by omega, rfl, hlt, p'⟩, fun x H3 y => ?_⟩
      obtain ⟨s3, d, hd, rx⟩ := w.yields _ H2 i x H3 r2.muA gh2 hlt y
      have r3 := r2.same s3
      have eD3 := s3 _ _ eD
      have ha3 := ha.same ((Gr.of s3 : Gr Ξ _ _).ms r2.ffM)
      rw [List.drop_eq_getElem_cons hlt] at k2
      have ed : ds[i] = d := by
        rw [List.getElem?_eq_getElem hlt] at hd
        exact Option.some.inj hd
      rw [ed] at k2
      refine hg x _ H3 _ ⟨L :: S, A, gh ++ G, wipeE env vs, d, fun _ => False, hA, r3.wipe hwp, rx, W.mono _ (fun env' k3 σ' l' k' r4 => ?_) (fun _ z => z) k2⟩
      refine ⟨(wipe_eq l' k').trans wipe_wipe, ht σ' H3 _ ⟨L :: S, A, gh ++ G, env', fun _ => False, hA, r4, W.mono _ (fun b k4 H4 g4 r5 => ?_) (fun _ z => z) k3⟩⟩
      have back : ∀ {H5 : Hp}, Ξ.FI H5 → Gr Ξ H3 H5 → Rel Ξ H0 (L :: S) A (gh ++ G) σ H5 env := fun {H5} rr gg => r3.grow gg rr
      have eD4 := g4 _ _ nDf eD3
      have ha4 := ha3.same (g4.ms r3.ffM)
      cases b with
      | false => exact iteF ⟨us, acc, (g2.trans (Gr.of s3)).trans g4, back r5.fi g4, eD4, ha4, k4⟩
      | true =>
        refine iteT (hi1 σ' H4 _ ⟨L :: S, A, gh ++ G, env', fun _ => False, hA, r5, W.mono _ (fun ds1 k5 J1 H5 gh1 g5 r6 hgh1 w1 => ?_) (fun _ z => z) k4⟩)
        have eD5 := g5 _ _ nDf eD4
        have ha5 := ha4.same (g5.ms r5.ffM)
        let Pv1 : Nat → Hp → Prop := fun j H6 => ∃ us acc, (∀ b o, b ≠ L → b ∉ Ξ.ff → H5 b = some o → H6 b = some o) ∧ Rel Ξ H0 (L :: S) A (gh1 ++ (gh ++ G)) σ' H6 env' ∧ Rel Ξ H0 (L :: S) A (gh ++ G) σ H6 env ∧ Gr Ξ H1 H6 ∧ H6 L = some (.lst us) ∧ RpAll Ξ (ms ((L :: S) ++ A.map (·.2)) H6) us acc ∧
          (lcW gW1 tW1 eW (wipeE env' vs1) (ds1.drop j) acc).wp (fun acc' => (lc2W gW tW p1 gW1 tW1 eW vs1 (wipeE env vs) (ds.drop (i + 1)) acc').wp (fun l => ∀ (l' : Addr) H', Gr Ξ H H' → Ξ.FI H' → H l' = none → Ow Ξ (ms (l' :: (S ++ A.map (·.2))) H') (H' l') (.lst l) → Q (.ref l') H') E) E
        refine ⟨fun j m H6 => m = ds1.length - j ∧ j ≤ ds1.length ∧ Pv1 j H6, ⟨ds1.length, rfl, Nat.zero_le _, us, acc, ?_⟩, ?_⟩
        · exact ⟨fun b o _ _ e => e, r6.ghost hgh1, back r6.fi (g4.trans g5), (g2.trans (Gr.of s3)).trans (g4.trans g5), eD5, ha5, k5⟩
        · rintro j m H6 ⟨rfl, hj2, us1, acc1, gq, r7, r8, g6, eD6, ha6, k6⟩
          have gh3 : ∀ x ∈ gh1, Rp Ξ (ms ((L :: S) ++ A.map (·.2)) H6) x.1 x.2 := fun x hx => r7.gh x (List.mem_append_left _ hx)
          by_cases hlt1 : j < ds1.length
          · refine .inr ⟨w1.goes _ H6 j r7.muA gh3 hlt1, Pv1 (j + 1), fun H' p' => ⟨ds1.length - (j + 1), by omega, rfl, hlt1, p'⟩, fun x1 H7 y1 => ?_⟩
            obtain ⟨s7, d1, hd1, rx1⟩ := w1.yields _ H6 j x1 H7 r7.muA gh3 hlt1 y1
            have r9 := r7.same s7
            have r9' := r8.same s7
            have eD7 := s7 _ _ eD6
            have ha7 := ha6.same ((Gr.of s7 : Gr Ξ _ _).ms r7.ffM)
            rw [List.drop_eq_getElem_cons hlt1] at k6
            have ed1 : ds1[j] = d1 := by
              rw [List.getElem?_eq_getElem hlt1] at hd1
              exact Option.some.inj hd1
            rw [ed1] at k6
            refine hg1 x1 _ H7 _ ⟨L :: S, A, gh1 ++ (gh ++ G), wipeE env' vs1, d1, fun _ => False, hA, r9.wipe hwp1, rx1, W.mono _ (fun env2 k7 σ2 l2 k2' r10 => ?_) (fun _ z => z) k6⟩
            refine ⟨(wipe_eq l2 k2').trans wipe_wipe, ht1 σ2 H7 _ ⟨L :: S, A, gh1 ++ (gh ++ G), env2, fun _ => False, hA, r10, W.mono _ (fun b k8 H8 g8 r11 => ?_) (fun _ z => z) k7⟩⟩
            have eD8 := g8 _ _ nDf eD7
            have ha8 := ha7.same (g8.ms r9.ffM)
            cases b with
            | false => exact iteF ⟨us1, acc1, fun b o nb nf e => g8 _ _ nf (s7 _ _ (gq b o nb nf e)), r9.grow g8 r11.fi, r9'.grow g8 r11.fi, (g6.trans (Gr.of s7)).trans g8, eD8, ha8, k8⟩
            | true =>
              refine iteT (he σ2 H8 _ ⟨L :: S, A, gh1 ++ (gh ++ G), env2, fun _ => False, hA, r11, W.mono _ (fun y k9 v H9 g9 r12 hv => ?_) (fun _ z => z) k8⟩)
              have eD9 := g9 _ _ nDf eD8
              have ha9 := ha8.same (g9.ms r11.ffM)
              have r13 := r9.grow (g8.trans g9) r12.fi
              have r14 := r9'.grow (g8.trans g9) r12.fi
              have hD : L ∈ (L :: S) ++ A.map (·.2) := List.mem_cons_self
              refine ⟨us1, eD9, by rw [ha9.len]; exact k9.1, us1 ++ [v], acc1 ++ [y], fun b o nb nf e => ?_, r13.updD nDf n0, r14.updD nDf n0, fun b o n e => ?_, upd_same, ?_, k9.2⟩
              · rw [upd_ne nb]
                exact g9 _ _ nf (g8 _ _ nf (s7 _ _ (gq b o nb nf e)))
              · rw [upd_ne (ne_of_none e nD)]
                exact ((g6.trans (Gr.of s7)).trans (g8.trans g9)) b o n e
              · rw [ms_upd hD]
                exact ha9.snoc hv
          · have e : j = ds1.length := by omega
            subst e
            refine .inl ⟨w1.stops _ H6 r7.muA gh3, ?_⟩
            rw [List.drop_length] at k6
            exact ⟨us1, acc1, g6, r8, eD6, ha6, k6⟩
    · have e : i = ds.length := by omega
      subst e
      refine .inl ⟨w.stops _ H2 r2.muA gh2, ?_⟩
      rw [List.drop_length] at k2
      refine k2 L H2 (g1'.trans g2) r2.fi nDH ?_
      rw [eD]
      exact .lst ha
def lc2D (gW : D → Env → W Env) (tW : Env → W Bool) (p1 : Env → W (List D)) (gW1 : D → Env → W Env) (tW1 : Env → W Bool) (eW : Env → W D) (vs vs1 : List Nat) (pi : Env → W (List D)) (env : Env) : W D :=
  (pi env).bind fun ds => (lc2W gW tW p1 gW1 tW1 eW vs1 (wipeE env vs) ds []).bind fun l => W.ret (.lst l)
theorem ln_lc2 {elt tg iter tg1 iter1 : Expr} {ifs ifs1 : List Expr} {scope : Scope} {own : List (Str × Nat)} {vs1 : List Nat} {pos : Pos} {pi p1 : Env → W (List D)} {gW gW1 : D → Env → W Env} {tW tW1 : Env → W Bool} {eW : Env → W D}
    (hc : X.calm = true) (hN : X.N.Nodup) (hi : LI Ξ H0 O X tg iter pi) (ok : BlkOk X.N X.env.scope scope own) (hv : ∀ i ∈ vs1, i ∈ own.map (·.2)) (hvs : ∀ i ∈ own.map (·.2), i ∉ O)
    (hg : ∀ (s : Shared) (H : Hp) (C : Addr) (cl : List (Str × Addr)) (fp : List Addr), LG Ξ H0 O (own.map (·.2)) (X.blk s H scope (compEnvC scope cl C X.env) fp) tg gW)
    (ht : ∀ (s : Shared) (H : Hp) (C : Addr) (cl : List (Str × Addr)) (fp : List Addr), LTs Ξ H0 O (X.blk s H scope (compEnvC scope cl C X.env) fp) ifs tW)
    (hi1 : ∀ (s : Shared) (H : Hp) (C : Addr) (cl : List (Str × Addr)) (fp : List Addr), LI Ξ H0 O (X.blk s H scope (compEnvC scope cl C X.env) fp) tg1 iter1 p1)
    (hg1 : ∀ (s : Shared) (H : Hp) (C : Addr) (cl : List (Str × Addr)) (fp : List Addr), LG Ξ H0 O vs1 (X.blk s H scope (compEnvC scope cl C X.env) fp) tg1 gW1)
    (ht1 : ∀ (s : Shared) (H : Hp) (C : Addr) (cl : List (Str × Addr)) (fp : List Addr), LTs Ξ H0 O (X.blk s H scope (compEnvC scope cl C X.env) fp) ifs1 tW1)
    (he : ∀ (s : Shared) (H : Hp) (C : Addr) (cl : List (Str × Addr)) (fp : List Addr), LE Ξ H0 O (X.blk s H scope (compEnvC scope cl C X.env) fp) elt eW) (hs : ∀ x, foldedSetIterable iter X.env x = pure x := by intro _; rfl) (hs1 : ∀ env x, foldedSetIterable iter1 env x = pure x := by intro _ _; rfl) :
    PE X (.ListComp elt [⟨tg, iter, ifs, 0⟩, ⟨tg1, iter1, ifs1, 0⟩] scope pos) (liN Ξ H0 O (lc2D gW tW p1 gW1 tW1 eW (own.map (·.2)) vs1 pi)) :=
  wkE (pe_lc2 hc hN hi ok hv hg ht hi1 hg1 ht1 he hs hs1) (lc2_reads hvs (fun i h => hvs i (hv i h)) (fun _ _ _ h => h) (fun _ _ _ _ h => h) (fun _ _ _ h => h) (fun _ _ _ h => h) (fun _ _ _ _ h => h) (fun _ _ _ h => h) fun _ _ _ h => h)
end
end LP
namespace LP
open PySem PySem.Spec PyProof.Rows L2 PK RZ
/-- two clauses: an invariant by how many of the first were gone through -/
theorem lc2W_wp {g g1 : D → Env → W Env} {t t1 : Env → W Bool} {p1 : Env → W (List D)} {el : Env → W D} {vs1 : List Nat} {env : Env} {E : Ex → Prop} (P : Nat → List D → Prop) : ∀ {ds : List D} {k : Nat} {acc : List D} {Q : List D → Prop}, P k acc →
    (∀ i d acc, ds[i]? = some d → P (k + i) acc → (g d env).wp (fun env' => (t env').wp (fun b => match b with
      | true => (p1 env').wp (fun ds1 => (lcW g1 t1 el (wipeE env' vs1) ds1 acc).wp (fun acc' => P (k + i + 1) acc') E) fun _ => False
      | false => P (k + i + 1) acc) fun _ => False) fun _ => False) →
    (∀ acc, P (k + ds.length) acc → Q acc) → (lc2W g t p1 g1 t1 el vs1 env ds acc).wp Q E
  | [], k, acc, Q, h0, _, hq => hq acc h0
  | d :: ds, k, acc, Q, h0, hs, hq => by
    have h := hs 0 d acc rfl h0
    refine W.mono (g d env) (fun env' h2 => ?_) (fun _ z => z) h
    refine W.mono (t env') (fun b h3 => ?_) (fun _ z => z) h2
    have ih : ∀ acc, P (k + 1) acc → (lc2W g t p1 g1 t1 el vs1 env ds acc).wp Q E := fun acc h1 => lc2W_wp P (k := k + 1) h1 (fun i e acc he hp => by
      have := hs (i + 1) e acc (by simpa using he) (by rw [show k + (i + 1) = k + 1 + i by omega]; exact hp)
      rw [show k + (i + 1) + 1 = k + 1 + i + 1 by omega] at this
      exact this) (fun acc hp => hq acc (by rw [List.length_cons, show k + (ds.length + 1) = k + 1 + ds.length by omega]; exact hp))
    cases b with
    | false => exact ih acc h3
    | true => exact W.mono (p1 env') (fun ds1 h4 => W.mono (lcW g1 t1 el (wipeE env' vs1) ds1 acc) (fun acc' h5 => ih acc' h5) (fun _ z => z) h4) (fun _ z => z) h3
end LP
/-! Heaps by value. -/
namespace LP
open PySem PySem.Spec PyProof.Rows L2 PK RZ
/-! ### rows, heaps as things -/
def rowT (r : PRow) : D := .tup [.str r.1, .str r.2.1, .int r.2.2]
def rowsT (L : List PRow) : D := .tup (L.map rowT)
def heapD (L : List PRow) : D := .obj 0 [rowsT L]
def rowOf : D → Option PRow
  | .tup [.str f, .str s, .int n] => some (f, s, n)
  | _ => none
def rowsOf1 : List D → Option (List PRow)
  | [] => some []
  | d :: l => (rowOf d).bind fun r => (rowsOf1 l).map fun L => r :: L
def rowsOf : D → Option (List PRow)
  | .tup l => rowsOf1 l
  | _ => none
def heapOf : D → Option (List PRow)
  | .obj 0 [d] => rowsOf d
  | _ => none
theorem rowOf_eq {d : D} {r : PRow} (h : rowOf d = some r) : d = rowT r := by
  unfold rowOf at h
  split at h
  · cases h
    rfl
  · cases h
theorem rowsOf1_eq : ∀ {l : List D} {L : List PRow}, rowsOf1 l = some L → l = L.map rowT
  | [], L, h => by
    cases h
    rfl
  | d :: l, L, h => by
    unfold rowsOf1 at h
    cases e : rowOf d with
    | none => rw [e] at h; cases h
    | some r =>
      rw [e] at h
      cases e2 : rowsOf1 l with
      | none => rw [e2] at h; cases h
      | some M =>
        rw [e2] at h
        cases h
        rw [rowOf_eq e, rowsOf1_eq e2]
        rfl
theorem rowsOf_eq {d : D} {L : List PRow} (h : rowsOf d = some L) : d = rowsT L := by
  unfold rowsOf at h
  split at h
  · rw [rowsOf1_eq h]
    rfl
  · cases h
theorem heapOf_eq {d : D} {L : List PRow} (h : heapOf d = some L) : d = heapD L := by
  unfold heapOf at h
  split at h
  · rw [rowsOf_eq h]
    rfl
  · cases h
theorem rowsOf1_map : ∀ L : List PRow, rowsOf1 (L.map rowT) = some L
  | [] => rfl
  | r :: L => by
    show (rowOf (rowT r)).bind (fun r => (rowsOf1 (L.map rowT)).map fun L => r :: L) = _
    rw [rowsOf1_map L]
    rfl
theorem rowsOf_T (L : List PRow) : rowsOf (rowsT L) = some L := rowsOf1_map L
theorem rowsOf_tup (L : List PRow) : rowsOf (.tup (L.map rowT)) = some L := rowsOf1_map L
theorem heapOf_D (L : List PRow) : heapOf (heapD L) = some L := rowsOf1_map L
theorem rowsT_toP (L : List PRow) : (rowsT L).toP = rowsD L := by
  show PyData.tuple (D.toPs (L.map rowT)) = PyData.tuple (L.map prowD)
  rw [toPs_map, List.map_map]
  rfl
theorem rowsT_plain (L : List PRow) : (rowsT L).plain = true := by
  show D.plains (L.map rowT) = true
  rw [plains_all, List.all_eq_true]
  intro d hd
  obtain ⟨r, _, rfl⟩ := List.mem_map.mp hd
  rfl
/-- texts that may stand -/
def RowS (L : List PRow) : Prop := ∀ r ∈ L, PyData.strOk r.1 = true ∧ PyData.strOk r.2.1 = true
theorem RowS.sub {L M : List PRow} (h : RowS L) (k : ∀ r ∈ M, ∃ q ∈ L, PK.pk r = PK.pk q) : RowS M := fun r hr => by
  obtain ⟨q, hq, e⟩ := k r hr
  have e1 : r.1 = q.1 := congrArg (fun k : PKey => k.1) e
  have e2 : r.2.1 = q.2.1 := congrArg (fun k : PKey => k.2) e
  rw [e1, e2]
  exact h q hq
theorem RowS.app {L M : List PRow} (h : RowS L) (k : RowS M) : RowS (L ++ M) := fun r hr => (List.mem_append.mp hr).elim (h r) (k r)
theorem sumR_keyIn {L : List PRow} {r : PRow} (h : r ∈ sumR L) : ∃ q ∈ L, PK.pk r = PK.pk q := by
  have : PK.pk r ∈ (sumR L).map PK.pk := List.mem_map.mpr ⟨r, h, rfl⟩
  rw [sumR_keys, mem_skeys] at this
  obtain ⟨q, hq, e⟩ := List.mem_map.mp this
  exact ⟨q, hq, e.symm⟩
theorem RowS.sum {L : List PRow} (h : RowS L) : RowS (sumR L) := h.sub fun _ hr => sumR_keyIn hr
theorem RowS.above {L M : List PRow} (h : RowS L) : RowS (aboveR L M) := h.sub fun r hr => by
  obtain ⟨q, hq, e, _⟩ := aboveR_mem hr
  exact ⟨q, hq, e⟩
section
variable {Ξ : Ctx} {H : Hp} {M : List Addr}
theorem Rp.rowE {v : V} {r : PRow} (h : Rp Ξ H v (rowT r)) : PyData.strOk r.1 = true ∧ PyData.strOk r.2.1 = true := by
  obtain ⟨b, xs, _, _, h2⟩ := h.tupE
  match xs, h2 with
  | _, .cons h1 (.cons h2 _) =>
    cases h1
    cases h2
    constructor <;> assumption
theorem RpAll.rowsE : ∀ {L : List PRow} {vs : List V}, RpAll Ξ H vs (L.map rowT) → RowS L
  | [], _, _ => fun _ h => (nomatch h)
  | r :: L, _, .cons h1 h2 => fun q hq => by
    rcases List.mem_cons.mp hq with rfl | hq
    · exact h1.rowE
    · exact RpAll.rowsE h2 q hq
theorem Rp.rowsE {v : V} {L : List PRow} (h : Rp Ξ H v (rowsT L)) : Dp Ξ.K H v (rowsD L) ∧ RowS L := by
  refine ⟨by rw [← rowsT_toP]; exact h.dp (rowsT_plain L), ?_⟩
  obtain ⟨b, xs, _, _, h2⟩ := h.tupE
  exact h2.rowsE
theorem rp_row {v : V} {r : PRow} (mu : Mu M H) (h : Dp Ξ.K H v (prowD r)) (h1 : PyData.strOk r.1 = true) (h2 : PyData.strOk r.2.1 = true) : Rp Ξ (ms M H) v (rowT r) := by
  obtain ⟨b, us, rfl, hb, du⟩ := Dp.tupE h
  refine .tup (sqT_mu hb mu) ?_
  cases du with
  | cons a1 du =>
    cases du with
    | cons a2 du =>
      cases du with
      | cons a3 du =>
        cases du
        cases a1
        cases a2
        cases a3
        exact .cons (.str _ h1) (.cons (.str _ h2) (.cons (.int _) .nil))
theorem rp_rowsL (mu : Mu M H) : ∀ {L : List PRow} {us : List V}, DpAll Ξ.K H us (L.map prowD) → RowS L → RpAll Ξ (ms M H) us (L.map rowT)
  | [], _, .nil, _ => .nil
  | r :: L, _, .cons h1 h2, k => .cons (rp_row mu h1 (k r List.mem_cons_self).1 (k r List.mem_cons_self).2) (rp_rowsL mu h2 fun q hq => k q (List.mem_cons_of_mem _ hq))
theorem rp_rows {v : V} {L : List PRow} (mu : Mu M H) (h : Dp Ξ.K H v (rowsD L)) (k : RowS L) : Rp Ξ (ms M H) v (rowsT L) := by
  obtain ⟨b, us, rfl, hb, du⟩ := Dp.tupE h
  exact .tup (sqT_mu hb mu) (rp_rowsL mu du k)
/-- the class of heaps is the first one -/
structure HSig (Γ : Sig) (C : Addr) : Prop where
  cl : Γ.cl 0 = some C
  fl : Γ.fl 0 = [("held" : Str)]
theorem Rp.heapE {C : Addr} (s : HSig Ξ.Γ C) {v : V} {L : List PRow} (h : Rp Ξ H v (heapD L)) : ∃ p, v = .ref p ∧ HeapAt Ξ.K C H p L ∧ RowS L := by
  cases h with
  | obj h1 h2 ha =>
    rename_i a C' dx xs
    have e : C' = C := by
      have := s.cl.symm.trans h2
      exact (Option.some.inj this).symm
    subst e
    cases ha with
    | cons a1 a2 =>
      cases a2
      obtain ⟨dv, rs⟩ := a1.rowsE
      obtain ⟨t, us, rfl, _, _⟩ := Dp.tupE dv
      refine ⟨a, rfl, ⟨dx, t, ?_, dv⟩, rs⟩
      rw [h1]
      have : Ξ.fl 0 = [("held" : Str)] := s.fl
      rw [this]
      rfl
theorem rp_heap {C : Addr} (s : HSig Ξ.Γ C) {p : Addr} {L : List PRow} (mu : Mu M H) (np : p ∉ M) (h : HeapAt Ξ.K C H p L) (k : RowS L) : Rp Ξ (ms M H) (.ref p) (heapD L) := by
  obtain ⟨dx, t, h1, h2⟩ := h
  refine .obj (C := C) (dx := dx) (xs := [.ref t]) ?_ s.cl (.cons (rp_rows mu h2 k) .nil)
  rw [ms_at h1 np]
  have : Ξ.fl 0 = [("held" : Str)] := s.fl
  rw [this]
  rfl
end
/-! ### what the methods tell -/
def rowsW : List D → W D
  | [h] => (optW (heapOf h)).bind fun L => (W.want (L.length ≤ 900)).bind fun _ => W.ret (rowsT L)
  | _ => W.fail
def formsW : List D → W D
  | [h] => (optW (heapOf h)).bind fun L => (W.want (L.length ≤ 900)).bind fun _ => W.ret (.tup ((formsR L).map D.str))
  | _ => W.fail
def plusW : List D → W D
  | [h, g] => (optW (heapOf h)).bind fun L => (optW (heapOf g)).bind fun M => (W.want (L.length + M.length ≤ 900)).bind fun _ => W.ret (heapD (sumR (L ++ M)))
  | _ => W.fail
def holdsW : List D → W D
  | [h, g] => (optW (heapOf h)).bind fun L => (optW (heapOf g)).bind fun M => (W.want (∃ (n : Nat) (b : Int), RowsOk n b L ∧ RowsOk n b M ∧ n ≤ 900)).bind fun _ => W.ret (.bl (decide (aboveR M L = [])))
  | _ => W.fail
def manyW : List D → W D
  | [h, .str f, .non] => (optW (heapOf h)).bind fun L => (W.want (L.length ≤ 900)).bind fun _ => W.ret (.int (manyR L f none))
  | [h, .str f, .str t] => (optW (heapOf h)).bind fun L => (W.want (L.length ≤ 900)).bind fun _ => W.ret (.int (manyR L f (some t)))
  | _ => W.fail
/-- the error that tells what lacks is the class 1 -/
def lessW : List D → W D
  | [h, g] => (optW (heapOf h)).bind fun L => (optW (heapOf g)).bind fun M => (W.want (∃ (n : Nat) (b : Int), RowsOk n b L ∧ RowsOk n b M ∧ n ≤ 900)).bind fun _ => (W.want (Rises (L.map fun r => pkD (PK.pk r)) ∧ Rises (M.map fun r => pkD (PK.pk r)))).bind fun _ =>
    W.ite (decide (aboveR M L = [])) (W.ret (heapD (aboveR L M))) (W.raise ⟨1, [heapD (aboveR M L)]⟩)
  | _ => W.fail
theorem fn_wk {P : Program} {w : World} {K : PySem.W.Frag} {mg : Str → Option Value} {base : Heap} {CX : CXT} {k : Nat} {f : Addr} {fd : FuncData} {ps : List Str} {sp sp' : Sp} (F : FnOk P w K mg base CX k f fd ps sp) (key : ∀ vs H Q E, sp' vs H Q E → sp vs H Q E) : FnOk P w K mg base CX k f fd ps sp' :=
  ⟨fun vs H Q E h => F.len vs H Q E (key vs H Q E h), fun A outer s H args us vs Q E hr e0 hb hv h => F.run A outer s H args us vs Q E hr e0 hb hv (key vs H Q E h)⟩
section
variable {Γ : Sig} {C : Addr}
theorem of_rows (s : HSig Γ C) : ∀ vs H Q E, liF Γ rowsW vs H Q E → spRows Γ.K C vs H Q E := by
  rintro vs H Q E ⟨fe, S, ds, EE, mu, hf, fi, hv, hE, q⟩
  match ds, hv, q with
  | [h], .cons h1 .nil, q =>
    obtain ⟨L, e, hL, q⟩ := optW_wp q
    rw [heapOf_eq e] at h1
    obtain ⟨p, rfl, hp, rs⟩ := h1.heapE (Ξ := ⟨Γ, fe⟩) s
    exact ⟨p, L, rfl, hp.same ms_sub, hL, fun v H' s' dv => q v H' (Gr.of s') (FI_same fi s') (rp_rows (mu.same s') dv rs)⟩
theorem of_forms (s : HSig Γ C) : ∀ vs H Q E, liF Γ formsW vs H Q E → spForms Γ.K C vs H Q E := by
  rintro vs H Q E ⟨fe, S, ds, EE, mu, hf, fi, hv, hE, q⟩
  match ds, hv, q with
  | [h], .cons h1 .nil, q =>
    obtain ⟨L, e, hL, q⟩ := optW_wp q
    rw [heapOf_eq e] at h1
    obtain ⟨p, rfl, hp, rs⟩ := h1.heapE (Ξ := ⟨Γ, fe⟩) s
    refine ⟨p, L, rfl, hp.same ms_sub, hL, fun v H' s' dv => q v H' (Gr.of s') (FI_same fi s') ?_⟩
    obtain ⟨b, us, rfl, hb, du⟩ := Dp.tupE dv
    have hok : ∀ y ∈ formsR L, PyData.strOk y = true := fun y hy => by
      have hy : y ∈ formL L := ((srt_perm false PyData.str (formL L)).mem_iff).mp hy
      obtain ⟨r, hr, rfl⟩ := mem_formL.mp hy
      exact (rs r hr).1
    refine .tup (sqT_mu hb (mu.same s')) ?_
    clear hb dv
    generalize formsR L = l at du hok
    induction l generalizing us with
    | nil => cases du; exact .nil
    | cons y l ih =>
      cases du with
      | cons d1 d2 =>
        cases d1
        exact .cons (.str _ (hok y List.mem_cons_self)) (ih _ d2 fun z hz => hok z (List.mem_cons_of_mem _ hz))
theorem of_plus (s : HSig Γ C) : ∀ vs H Q E, liF Γ plusW vs H Q E → spPlus Γ.K C vs H Q E := by
  rintro vs H Q E ⟨fe, S, ds, EE, mu, hf, fi, hv, hE, q⟩
  match ds, hv, q with
  | [h, g], .cons h1 (.cons h2 .nil), q =>
    obtain ⟨L, e, q⟩ := optW_wp q
    obtain ⟨M, e2, hL, q⟩ := optW_wp q
    rw [heapOf_eq e] at h1
    rw [heapOf_eq e2] at h2
    obtain ⟨p, rfl, hp, rs⟩ := h1.heapE (Ξ := ⟨Γ, fe⟩) s
    obtain ⟨p2, rfl, hp2, rs2⟩ := h2.heapE (Ξ := ⟨Γ, fe⟩) s
    exact ⟨p, p2, L, M, rfl, hp.same ms_sub, hp2.same ms_sub, hL, fun r H' nr s' hr => q _ H' (Gr.of s') (FI_same fi s') (rp_heap (Ξ := ⟨Γ, fe⟩) s (mu.same s') (mu.out nr) hr (rs.app rs2).sum)⟩
theorem of_holds (s : HSig Γ C) : ∀ vs H Q E, liF Γ holdsW vs H Q E → spHolds Γ.K C vs H Q E := by
  rintro vs H Q E ⟨fe, S, ds, EE, mu, hf, fi, hv, hE, q⟩
  match ds, hv, q with
  | [h, g], .cons h1 (.cons h2 .nil), q =>
    obtain ⟨L, e, q⟩ := optW_wp q
    obtain ⟨M, e2, ⟨n, b, okL, okM, hn⟩, q⟩ := optW_wp q
    rw [heapOf_eq e] at h1
    rw [heapOf_eq e2] at h2
    obtain ⟨p, rfl, hp, rs⟩ := h1.heapE (Ξ := ⟨Γ, fe⟩) s
    obtain ⟨p2, rfl, hp2, rs2⟩ := h2.heapE (Ξ := ⟨Γ, fe⟩) s
    exact ⟨p, p2, L, M, n, b, rfl, hp.same ms_sub, hp2.same ms_sub, okL, okM, hn, fun H' s' => q _ H' (Gr.of s') (FI_same fi s') (.bl _)⟩
theorem of_many (s : HSig Γ C) : ∀ vs H Q E, liF Γ manyW vs H Q E → spManyM Γ.K C vs H Q E := by
  rintro vs H Q E ⟨fe, S, ds, EE, mu, hf, fi, hv, hE, q⟩
  match ds, hv, q with
  | [h, .str f, .non], .cons h1 (.cons h2 (.cons h3 .nil)), q =>
    obtain ⟨L, e, hL, q⟩ := optW_wp q
    rw [heapOf_eq e] at h1
    obtain ⟨p, rfl, hp, rs⟩ := h1.heapE (Ξ := ⟨Γ, fe⟩) s
    cases h2
    cases h3
    exact ⟨p, f, _, none, L, rfl, hp.same ms_sub, hL, .inl ⟨rfl, rfl⟩, fun H' s' => q _ H' (Gr.of s') (FI_same fi s') (.int _)⟩
  | [h, .str f, .str t], .cons h1 (.cons h2 (.cons h3 .nil)), q =>
    obtain ⟨L, e, hL, q⟩ := optW_wp q
    rw [heapOf_eq e] at h1
    obtain ⟨p, rfl, hp, rs⟩ := h1.heapE (Ξ := ⟨Γ, fe⟩) s
    cases h2
    cases h3
    exact ⟨p, f, _, some t, L, rfl, hp.same ms_sub, hL, .inr ⟨t, rfl, rfl⟩, fun H' s' => q _ H' (Gr.of s') (FI_same fi s') (.int _)⟩
/-- .. the error's class, its field -/
structure ESig (Γ : Sig) (CN : Addr) : Prop where
  cl : Γ.cl 1 = some CN
  fl : Γ.fl 1 = [("lacking" : Str)]
theorem of_less {CN : Addr} (s : HSig Γ C) (z : ESig Γ CN) : ∀ vs H Q E, liF Γ lessW vs H Q E → spLess Γ.K C CN vs H Q E := by
  rintro vs H Q E ⟨fe, S, ds, EE, mu, hf, fi, hv, hE, q⟩
  match ds, hv, q with
  | [h, g], .cons h1 (.cons h2 .nil), q =>
    obtain ⟨L, e, q⟩ := optW_wp q
    obtain ⟨M, e2, ⟨n, b, okL, okM, hn⟩, ⟨rL, rM⟩, q⟩ := optW_wp q
    rw [heapOf_eq e] at h1
    rw [heapOf_eq e2] at h2
    obtain ⟨p, rfl, hp, rs⟩ := h1.heapE (Ξ := ⟨Γ, fe⟩) s
    obtain ⟨p2, rfl, hp2, rs2⟩ := h2.heapE (Ξ := ⟨Γ, fe⟩) s
    refine ⟨p, p2, L, M, n, b, rfl, hp.same ms_sub, hp2.same ms_sub, okL, okM, hn, rL, rM, fun e r H' nr s' hr => ?_, fun e r d H' nd nr s' hr hd => ?_⟩
    · rw [decide_eq_true e] at q
      exact q _ H' (Gr.of s') (FI_same fi s') (rp_heap (Ξ := ⟨Γ, fe⟩) s (mu.same s') (mu.out nr) hr rs.above)
    · rw [decide_eq_false e] at q
      refine hE _ q CN d H' (Gr.of s') (FI_same fi s') nd ⟨z.cl, [.ref r], ?_, .cons (rp_heap (Ξ := ⟨Γ, fe⟩) s (mu.same s') (mu.out nr) hr rs2.above) .nil⟩
      rw [hd]
      have : (Ctx.mk Γ fe).fl 1 = [("lacking" : Str)] := z.fl
      rw [this]
      rfl
end
end LP
/-! Own objects by value: methods called, made, compared, shown. -/
namespace LP
open PySem PySem.Spec PyProof.Rows L2 PK RZ
def objW (c : Nat) : D → W D
  | .obj c' l => (W.want (c' = c)).bind fun _ => W.ret (.obj c' l)
  | _ => W.fail
theorem objW_wp {c : Nat} {d : D} {Q : D → Prop} {E : Ex → Prop} (h : (objW c d).wp Q E) : ∃ l, d = .obj c l ∧ Q d := by
  cases d with
  | obj c' l =>
    obtain ⟨rfl, q⟩ := h
    exact ⟨l, rfl, q⟩
  | _ => exact h.elim
theorem objW_heap (L : List PRow) : objW 0 (heapD L) = W.ret (heapD L) := W.want_bind rfl
theorem lookup_zip {ks : List Str} {xs : List V} {m : Str} (h : m ∉ ks) : (ks.zip xs).lookup m = none := by
  induction ks generalizing xs with
  | nil => rfl
  | cons k ks ih =>
    cases xs with
    | nil => rfl
    | cons x xs =>
      rw [List.zip_cons_cons, List.lookup_cons, show (m == k) = false from beq_eq_false_iff_ne.mpr fun z => h (by rw [z]; exact List.mem_cons_self)]
      exact ih fun z => h (List.mem_cons_of_mem _ z)
/-- a method by value -/
structure MetV (Γ : Sig) (mg : Str → Option Value) (base : Heap) (k : Nat) (c : Nat) (C : Addr) (m : Str) (f : Addr) (fd : FuncData) (ps : List Str) (p : List D → W D) : Prop where
  ok : FnOk Γ.P Γ.w Γ.K mg base CX0 k f fd ps (liF Γ p)
  cls : Cls Γ.K C
  me : Meth Γ.K C m f
  b : Binds Γ.K fd ps []
  cl : Γ.cl c = some C
  nf : m ∉ Γ.fl c
section
variable {X : Cx} {Γ : Sig} {fe : Option (Addr × Addr)} {H0 : Hp} {O : List Nat} {k c : Nat} {C f : Addr} {fd : FuncData} {ps : List Str} {o e : Expr} {es : List Expr} {m : Str} {apos pos : Pos} {p : List D → W D} {po : Env → W D} {pa : Env → W (List D)} {mg : Str → Option Value} {base : Heap}
theorem meth_reads {ta : TA} {sp : Sp} {gV : List V → List V} {gD : List D → List D} (hsp : ∀ vs H Q, liF Γ p vs H Q (fun _ _ _ => True) → sp vs H Q fun _ _ _ => True) (hcl : Γ.cl c = some C) (hnf : m ∉ Γ.fl c)
    (hg : ∀ M H vs ds, RpAll ⟨Γ, fe⟩ (ms M H) vs ds → RpAll ⟨Γ, fe⟩ (ms M H) (gV vs) (gD ds)) (ha : ∀ σ H Q, liA ⟨Γ, fe⟩ H0 O pa σ H Q → ta σ H Q) :
    ∀ σ H Q, liE ⟨Γ, fe⟩ H0 O (fun env => (po env).bind fun d => (objW c d).bind fun d => (pa env).bind fun ds => p (gD (d :: ds))) σ H Q →
      liE ⟨Γ, fe⟩ H0 O po σ H fun x H1 => ∃ a dx fs, x = .ref a ∧ H1 a = some (.ins C dx fs) ∧ fs.lookup m = none ∧ ta σ H1 fun vs H2 => sp (gV (x :: vs)) H2 Q fun _ _ _ => True := by
  rintro σ H Q ⟨S, A, G, env, E, hA, r, q⟩
  refine ⟨S, A, G, env, E, hA, r, (po env).mono (fun d k x H1 g1 r1 hx => ?_) (fun _ z => z) q⟩
  obtain ⟨l, rfl, k⟩ := objW_wp k
  have hx0 := hx
  cases hx with
  | obj h1 h2 hl =>
    rename_i a C' dx xs
    have eC : C' = C := by
      have := hcl.symm.trans h2
      exact (Option.some.inj this).symm
    subst eC
    refine ⟨a, dx, _, rfl, ms_sub _ _ h1, lookup_zip hnf, ha σ H1 _ ⟨S, A, G, env, E, hA, r1, (pa env).mono (fun ds k2 vs H2 g2 r2 hv => ?_) (fun _ z => z) k⟩⟩
    refine hsp _ _ _ ⟨fe, S ++ A.map (·.2), gD (.obj c l :: ds), E, r2.muA, r2.ffM, r2.fi, hg _ _ _ _ (.cons (hx0.same (g2.ms r1.ffM)) hv), fun _ _ _ _ _ _ _ _ _ => trivial, (p _).mono (fun d k v H3 g3 f3 hv3 => ?_) (fun _ z => z) k2⟩
    exact k v H3 ((g1.trans g2).trans g3) (r2.grow g3 f3) hv3
theorem le_meth {pl : Sem Bool} (M : MetV Γ mg base k c C m f fd ps p) (hP : X.prog = Γ.P) (hw : X.w = Γ.w) (hK : X.K = Γ.K) (hmg : X.mg = mg) (hbs : X.base = base) (hr : Room k X.A) (ho : LE ⟨Γ, fe⟩ H0 O X o po) (ha : LA ⟨Γ, fe⟩ H0 O X (e :: es) pa)
    (hst : starEach (e :: es) X.env = (false, eval e X.env) :: starEach es X.env := by rfl) (hpl : (backTo pos (starEach es X.env)).any (·.1) = false := by rfl)
    (ht : eval (.Call (.Attribute o m apos) (e :: es) [] pos) X.env = viaMeth X.env o m pl apos pos (e :: es) [] := by rfl) :
    LE ⟨Γ, fe⟩ H0 O X (.Call (.Attribute o m apos) (e :: es) [] pos) fun env => (po env).bind fun d => (objW c d).bind fun d => (pa env).bind fun ds => p (d :: ds) :=
  wkE (pe_meth (pl := pl) (E := fun _ _ _ => True) ho (by rw [hK]; exact M.cls) (by rw [hK]; exact M.me) (by rw [hP, hw, hK, hmg, hbs]; exact M.ok) hr (by rw [hK]; exact M.b) .nil pass0 ha hst hpl ht)
    (meth_reads (gV := fun vs => vs ++ []) (gD := fun ds => ds) (fun _ _ _ h => h) M.cl M.nf (fun _ _ vs ds h => by rw [List.append_nil]; exact h) fun _ _ _ h => h)
theorem le_meth0 {pl : Sem Bool} (M : MetV Γ mg base k c C m f fd ps p) (hP : X.prog = Γ.P) (hw : X.w = Γ.w) (hK : X.K = Γ.K) (hmg : X.mg = mg) (hbs : X.base = base) (hr : Room k X.A) (ho : LE ⟨Γ, fe⟩ H0 O X o po)
    (ht : eval (.Call (.Attribute o m apos) [] [] pos) X.env = viaMeth X.env o m pl apos pos [] [] := by rfl) :
    LE ⟨Γ, fe⟩ H0 O X (.Call (.Attribute o m apos) [] [] pos) fun env => (po env).bind fun d => (objW c d).bind fun d => (W.ret []).bind fun ds => p (d :: ds) :=
  wkE (pe_meth0 (pl := pl) (E := fun _ _ _ => True) ho (by rw [hK]; exact M.cls) (by rw [hK]; exact M.me) (by rw [hP, hw, hK, hmg, hbs]; exact M.ok) hr (by rw [hK]; exact M.b) .nil pass0 ht)
    (meth_reads (gV := fun vs => vs ++ []) (gD := fun ds => ds) (pa := fun _ => W.ret []) (fun _ _ _ h => h) M.cl M.nf (fun _ _ vs ds h => by rw [List.append_nil]; exact h) fun σ H Q ⟨S, A, G, env, E, hA, r, z⟩ => z [] H (Gr.refl H) r .nil)
/-- a method with defaults: n are handed in (the object among them), the rest are none -/
structure MetN (Γ : Sig) (mg : Str → Option Value) (base : Heap) (k : Nat) (c : Nat) (C : Addr) (m : Str) (f : Addr) (fd : FuncData) (ps : List Str) (n : Nat) (gV : List V → List V) (p : List D → W D) : Prop where
  ok : FnOk Γ.P Γ.w Γ.K mg base CX0 k f fd ps (liF Γ p)
  cls : Cls Γ.K C
  me : Meth Γ.K C m f
  b : KB Γ.K fd ps n [] (fun vs _ => gV vs)
  cl : Γ.cl c = some C
  nf : m ∉ Γ.fl c
def noneD (j : Nat) (ds : List D) : List D := ds ++ List.replicate j .non
def noneV (j : Nat) (ds : List V) : List V := ds ++ List.replicate j .non
theorem noneRp {M : List Addr} {H : Hp} {vs : List V} {ds : List D} (j : Nat) (h : RpAll ⟨Γ, fe⟩ (ms M H) vs ds) : RpAll ⟨Γ, fe⟩ (ms M H) (noneV j vs) (noneD j ds) := h.app (RpAll.rep .non j)
def lenP (m : Nat) (p : List D → W D) (ds : List D) : W D := (W.want (ds.length = m)).bind fun _ => p ds
theorem liE_mono {Ξ : Ctx} {pe : Env → W D} {σ : L2.St} {H : Hp} {Q Q' : VK} (h : liE Ξ H0 O pe σ H Q) (k : ∀ v H', Q v H' → Q' v H') : liE Ξ H0 O pe σ H Q' := by
  obtain ⟨S, A, G, env, E, hA, r, q⟩ := h
  exact ⟨S, A, G, env, E, hA, r, (pe env).mono (fun d z v H' g r' hv => k v H' (z v H' g r' hv)) (fun _ z => z) q⟩
theorem liA_mono {Ξ : Ctx} {pe : Env → W (List D)} {σ : L2.St} {H : Hp} {Q Q' : List V → Hp → Prop} (h : liA Ξ H0 O pe σ H Q) (k : ∀ v H', Q v H' → Q' v H') : liA Ξ H0 O pe σ H Q' := by
  obtain ⟨S, A, G, env, E, hA, r, q⟩ := h
  exact ⟨S, A, G, env, E, hA, r, (pe env).mono (fun d z v H' g r' hv => k v H' (z v H' g r' hv)) (fun _ z => z) q⟩
theorem le_methN {pl : Sem Bool} {n j : Nat} (M : MetN Γ mg base k c C m f fd ps n (noneV j) p) (hP : X.prog = Γ.P) (hw : X.w = Γ.w) (hK : X.K = Γ.K) (hmg : X.mg = mg) (hbs : X.base = base) (hr : Room k X.A) (ho : LE ⟨Γ, fe⟩ H0 O X o po) (ha : LA ⟨Γ, fe⟩ H0 O X (e :: es) pa)
    (hst : starEach (e :: es) X.env = (false, eval e X.env) :: starEach es X.env := by rfl)
    (hall : (backToKw pos (keywordEach [] X.env)).all (·.1.isSome) = true := by rfl) (hks : (backToKw pos (keywordEach [] X.env)).filterMap (·.1) = [] := by rfl)
    (hpl : ((backTo pos (starEach (e :: es) X.env)).any (·.1) || (backToKw pos (keywordEach [] X.env)).any (·.1.isNone)) = false := by rfl)
    (ht : eval (.Call (.Attribute o m apos) (e :: es) [] pos) X.env = viaMeth X.env o m pl apos pos (e :: es) [] := by rfl) :
    LE ⟨Γ, fe⟩ H0 O X (.Call (.Attribute o m apos) (e :: es) [] pos) fun env => (po env).bind fun d => (objW c d).bind fun d => (pa env).bind fun ds => lenP (n + j) p (noneD j (d :: ds)) := by
  refine wkE (pe_mkb (pl := pl) (E := fun _ _ _ => True) ho (by rw [hK]; exact M.cls) (by rw [hK]; exact M.me) (by rw [hP, hw, hK, hmg, hbs]; exact M.ok) hr (by rw [hK]; exact M.b) pass0 ha pk_nil hall hks hst hpl ht) fun σ H Q h => ?_
  refine liE_mono (meth_reads (p := lenP (n + j) p) (sp := fun vs H Q E => vs.length = n + j ∧ liF Γ p vs H Q E) (gV := noneV j) (gD := noneD j) (po := po) (pa := pa) (ta := liA ⟨Γ, fe⟩ H0 O pa) (fun vs H Q h => ?_) M.cl M.nf (fun _ _ _ _ h => noneRp j h) (fun _ _ _ h => h) σ H Q h) fun x H1 h => ?_
  · obtain ⟨fe, S, ds, EE, mu, hf, fi, hv, hE, hl, q⟩ := h
    exact ⟨by rw [hv.len]; exact hl, fe, S, ds, EE, mu, hf, fi, hv, hE, q⟩
  · obtain ⟨a, dx, fs, h1, h2, h3, h4⟩ := h
    refine ⟨a, dx, fs, h1, h2, h3, liA_mono h4 fun vs H2 h => ?_⟩
    have hl : vs.length + 1 = n := by
      have := h.1
      unfold noneV at this
      rw [List.length_append, List.length_replicate, List.length_cons] at this
      omega
    exact ⟨hl, rfl, h.2⟩
/-! ### made -/
def rowsArg : D → Option (List PRow)
  | .non => some []
  | d => rowsOf d
def heapW (d : D) : W D := (optW (rowsArg d)).bind fun L => (W.want (L.length ≤ 900)).bind fun _ => W.ret (heapD (sumR L))
theorem heapW_rows (L : List PRow) (h : L.length ≤ 900) : heapW (rowsT L) = W.ret (heapD (sumR L)) := by
  show (optW (rowsOf (rowsT L))).bind _ = _
  rw [rowsOf_T, optW_some, W.ret_bind]
  exact W.want_bind h
theorem sumR_nil : sumR [] = [] := sumR_id List.Pairwise.nil
theorem heapW_non : heapW .non = W.ret (heapD []) := by
  show (optW (some [])).bind _ = _
  rw [optW_some, W.ret_bind, W.want_bind (show ([] : List PRow).length ≤ 900 from Nat.zero_le _), sumR_nil]
theorem heap_mk (s : HSig Γ C) {M : List Addr} {H : Hp} {x : V} {d : D} {Q : VK} {E : Ex → Prop} (mu : Mu M H) (hx : Rp ⟨Γ, fe⟩ (ms M H) x d) (q : (heapW d).wp (fun d => ∀ v H', Same H H' → Rp ⟨Γ, fe⟩ (ms M H') v d → Q v H') E) : mkHeap Γ.K C x H Q := by
  have key : ∀ L, ((x = .non ∧ L = []) ∨ Rp ⟨Γ, fe⟩ (ms M H) x (rowsT L)) → L.length ≤ 900 → (∀ v H', Same H H' → Rp ⟨Γ, fe⟩ (ms M H') v (heapD (sumR L)) → Q v H') → mkHeap Γ.K C x H Q := fun L h hL q => by
    have rs : RowS L := by
      rcases h with ⟨_, rfl⟩ | h
      · exact fun _ h => (nomatch h)
      · exact h.rowsE.2
    refine ⟨L, h.imp id fun h => Dp.same ms_sub h.rowsE.1, hL, fun p H' np s' hp => q _ H' s' (rp_heap (Ξ := ⟨Γ, fe⟩) s (mu.same s') (mu.out np) hp rs.sum)⟩
  obtain ⟨L, e, hL, q⟩ := optW_wp q
  by_cases z : d = .non
  · subst z
    cases hx
    cases e
    exact key [] (.inl ⟨rfl, rfl⟩) hL q
  · have e : rowsOf d = some L := by
      cases d with
      | non => exact absurd rfl z
      | _ => exact e
    rw [rowsOf_eq e] at hx
    exact key L (.inr hx) hL q
variable {p0 : Pos} {pe : Env → W D} {kI : Nat} {fI : Addr} {fdI : FuncData}
theorem le_heap0 (s : HSig Γ C) (M : HMk Γ.P Γ.w Γ.K mg base kI C fI fdI) (hP : X.prog = Γ.P) (hw : X.w = Γ.w) (hK : X.K = Γ.K) (hmg : X.mg = mg) (hbs : X.base = base) (hr : Room (kI + 1) X.A) (hg : Gl X "Heap") :
    LE ⟨Γ, fe⟩ H0 O X (.Call (.Name "Heap" p0) [] [] pos) fun env => heapW .non := by
  refine wkE (pe_heap0 (C := C) (by rw [hP, hw, hK, hmg, hbs]; exact M) hr hg) fun σ H Q ⟨S, A, G, env, E, hA, r, q⟩ => ?_
  rw [hK]
  exact heap_mk (d := .non) (E := E) s r.muA .non ((heapW .non).mono (fun d k v H' s' hv => k v H' (Gr.of s') (r.same s') hv) (fun _ z => z) q)
theorem le_heap1 (s : HSig Γ C) (M : HMk Γ.P Γ.w Γ.K mg base kI C fI fdI) (hP : X.prog = Γ.P) (hw : X.w = Γ.w) (hK : X.K = Γ.K) (hmg : X.mg = mg) (hbs : X.base = base) (hr : Room (kI + 1) X.A) (hg : Gl X "Heap") (ha : LE ⟨Γ, fe⟩ H0 O X e pe)
    (he : starEach [e] X.env = (false, eval e X.env) :: starEach [] X.env := by rfl) (hpl : (backTo pos (starEach [] X.env)).any (·.1) = false := by rfl) :
    LE ⟨Γ, fe⟩ H0 O X (.Call (.Name "Heap" p0) [e] [] pos) fun env => (pe env).bind heapW := by
  refine wkE (pe_heap1 (C := C) (by rw [hP, hw, hK, hmg, hbs]; exact M) hr hg ha he hpl) fun σ H Q ⟨S, A, G, env, E, hA, r, q⟩ => ?_
  rw [hK]
  refine ⟨S, A, G, env, E, hA, r, (pe env).mono (fun d k x H1 g1 r1 hx => ?_) (fun _ z => z) q⟩
  exact heap_mk s r1.muA hx ((heapW d).mono (fun d k v H' s' hv => k v H' (g1.trans (Gr.of s')) (r1.same s') hv) (fun _ z => z) k)
/-! ### == of heaps, len -/
def eqHW (x y : D) : W D := (optW (heapOf x)).bind fun L => (optW (heapOf y)).bind fun M => (W.want (∃ (n : Nat) (b : Int), RowsOk n b L ∧ RowsOk n b M)).bind fun _ => W.ret (.bl (decide (L = M)))
theorem bp_heap {Ξ : Ctx} (s : HSig Ξ.Γ C) {M : List Addr} {H : Hp} {v : V} {L : List PRow} (h : Bp Ξ M H v (heapD L)) : ∃ p, v = .ref p ∧ HeapAt Ξ.K C H p L ∧ RowS L := by
  cases h with
  | rp h =>
    obtain ⟨p, e, h1, h2⟩ := h.heapE s
    exact ⟨p, e, h1.same ms_sub, h2⟩
theorem eqH_ok (s : HSig Γ C) : OpOk ⟨Γ, fe⟩ (rEqH Γ.K C) eqHW := by
  intro M H x y d1 d2 Q E mu hf hx hy q
  obtain ⟨L, e1, q⟩ := optW_wp q
  obtain ⟨N, e2, ⟨n, b, ok1, ok2⟩, q⟩ := optW_wp q
  rw [heapOf_eq e1] at hx
  rw [heapOf_eq e2] at hy
  obtain ⟨a, rfl, ha, _⟩ := bp_heap (Ξ := ⟨Γ, fe⟩) s hx
  obtain ⟨c, rfl, hc, _⟩ := bp_heap (Ξ := ⟨Γ, fe⟩) s hy
  exact ⟨a, c, L, N, n, b, rfl, rfl, ha, hc, ok1, ok2, q _ H (Same.refl H) (.bl _)⟩
variable {a b : Expr} {pb : Env → W D} {kq : Nat} {fq : Addr} {fdq : FuncData}
theorem le_eqH (s : HSig Γ C) (Eq : HSp Γ.P Γ.w Γ.K mg base kq C "__eq__" fq fdq ["self", "other"] (spEqH Γ.K C)) (hP : X.prog = Γ.P) (hw : X.w = Γ.w) (hK : X.K = Γ.K) (hmg : X.mg = mg) (hbs : X.base = base) (hr : Room kq X.A) (ha : LB ⟨Γ, fe⟩ H0 O X a po) (hb : LB ⟨Γ, fe⟩ H0 O X b pb) :
    LE ⟨Γ, fe⟩ H0 O X (.Compare a [.Eq] [b] pos) fun env => (po env).bind fun x => (pb env).bind fun y => eqHW x y :=
  le_cmp (op_eqH Γ.K (by rw [hP, hw, hmg, hbs]; exact Eq) hr hK) (eqH_ok s) (nomark _) ha hb
theorem lt_eqH (s : HSig Γ C) (Eq : HSp Γ.P Γ.w Γ.K mg base kq C "__eq__" fq fdq ["self", "other"] (spEqH Γ.K C)) (hP : X.prog = Γ.P) (hw : X.w = Γ.w) (hK : X.K = Γ.K) (hmg : X.mg = mg) (hbs : X.base = base) (hr : Room kq X.A) (ha : LB ⟨Γ, fe⟩ H0 O X a po) (hb : LB ⟨Γ, fe⟩ H0 O X b pb) :
    LT ⟨Γ, fe⟩ H0 O X (.Compare a [.Eq] [b] pos) fun env => ((po env).bind fun x => (pb env).bind fun y => eqHW x y).bind asB :=
  lt_cmp (op_eqH Γ.K (by rw [hP, hw, hmg, hbs]; exact Eq) hr hK) (eqH_ok s) (nomark _) ha hb
def lenHW : List D → W D
  | [h] => (optW (heapOf h)).bind fun L => (W.want (L.length ≤ 900)).bind fun _ => W.ret (.int L.length)
  | _ => W.fail
theorem lenH_ok (s : HSig Γ C) : CallOk ⟨Γ, fe⟩ (rLenH Γ.K C) lenHW := by
  intro M H xs ds Q E mu hf hx q
  match ds, hx, q with
  | [d], .cons h1 .nil, q =>
    obtain ⟨L, e1, hL, q⟩ := optW_wp q
    rw [heapOf_eq e1] at h1
    obtain ⟨a, rfl, ha, _⟩ := bp_heap (Ξ := ⟨Γ, fe⟩) s h1
    exact ⟨a, L, rfl, ha, hL, q _ H (Same.refl H) (.int _)⟩
theorem le_lenH (s : HSig Γ C) (Ln : HSp Γ.P Γ.w Γ.K mg base kq C "__len__" fq fdq ["self"] (spLenH Γ.K C)) (hP : X.prog = Γ.P) (hw : X.w = Γ.w) (hK : X.K = Γ.K) (hmg : X.mg = mg) (hbs : X.base = base) (hr : Room (kq + 1) X.A) (hg : Gl X "len") (hm : X.mg "len" = none) (ha : LAB ⟨Γ, fe⟩ H0 O X [e] pa)
    (he : starEach [e] X.env = (false, eval e X.env) :: starEach [] X.env := by rfl) (hpl : (backTo pos (starEach [] X.env)).any (·.1) = false := by rfl) :
    LE ⟨Γ, fe⟩ H0 O X (.Call (.Name "len" p0) [e] [] pos) fun env => (pa env).bind lenHW :=
  wkE (pe_callB (call_lenH Γ.K (by rw [hP, hw, hmg, hbs]; exact Ln) hr hK) hg hm PySem.boot_len ha (by decide) (by decide) he hpl) (le_args (lenH_ok s))
/-! ### str of an own object -/
structure StrV (Γ : Sig) (mg : Str → Option Value) (base : Heap) (k : Nat) (c : Nat) (C f : Addr) (fd : FuncData) (p : List D → W D) : Prop where
  ok : FnOk Γ.P Γ.w Γ.K mg base CX0 k f fd ["self"] (liF Γ p)
  fi : PySem.W.findIn Γ.K (.ref C) "__str__" = some (some (.ref f))
  fn : PySem.W.isFn Γ.K (.ref f) = true
  b : Binds Γ.K fd ["self"] []
  cl : Γ.cl c = some C
def rStrO (Γ : Sig) (C : Addr) (p : List D → W D) : List V → Hp → VK → Prop := fun xs H Q => ∃ a dx fs, xs = [.ref a] ∧ H a = some (.ins C dx fs) ∧ liF Γ p [.ref a] H (fun v H' => ∃ y, v = .str y ∧ Q v H') fun _ _ _ => True
theorem call_strO (T : StrV Γ mg base k c C f fd p) (hP : X.prog = Γ.P) (hw : X.w = Γ.w) (hK : X.K = Γ.K) (hmg : X.mg = mg) (hbs : X.base = base) (hr : Room (k + 2) X.A) : CallR X (.type "str") (rStrO Γ C p) := by
  intro pins s σ H xs us Q I r h
  obtain ⟨a, dx, fs, rfl, ha, h⟩ := h
  obtain ⟨u, rfl, ru⟩ := vals1 r
  cases ru
  obtain ⟨mA, J, _⟩ := ins_get I.hok ha
  obtain ⟨od, J, _⟩ := J.look
  have hr1 : Room (k + 1) X.A.in1 := hr.in1
  have hr2 : Room k X.A.in1.in1 := hr1.in1
  refine PySem.W.kso_call hr2.units0 I.kIn J (by rw [hK]; exact T.fi) (by rw [hK]; exact T.fn) ?_
  refine wpAny_mono (run_in (E := fun _ _ _ => True) (by rw [hP, hw, hK, hmg, hbs]; exact T.ok) hr2 rfl (by rw [hK]; exact T.b) I (vs := [.ref a]) (.cons rfl .nil) h) (fun r s' g => ?_) fun _ _ z => z
  obtain ⟨v, H', I', rv, y, rfl, q⟩ := g
  obtain ⟨t, rfl⟩ := rv
  exact ⟨.str y, H', I', ⟨t, rfl⟩, q⟩
theorem le_strO (T : StrV Γ mg base k c C f fd p) (hP : X.prog = Γ.P) (hw : X.w = Γ.w) (hK : X.K = Γ.K) (hmg : X.mg = mg) (hbs : X.base = base) (hr : Room (k + 2) X.A) (hg : Gl X "str") (hm : X.mg "str" = none) (ha : LE ⟨Γ, fe⟩ H0 O X e po)
    (hs : starEach [e] X.env = (false, eval e X.env) :: starEach [] X.env := by rfl) (hpl : (backTo pos (starEach [] X.env)).any (·.1) = false := by rfl) :
    LE ⟨Γ, fe⟩ H0 O X (.Call (.Name "str" p0) [e] [] pos) fun env => (po env).bind fun d => (objW c d).bind fun d => (p [d]).bind fun r => (asS r).bind fun y => W.ret (.str y) := by
  refine wkE (pe_callTy (call_strO T hP hw hK hmg hbs hr) hg hm (by decide +kernel) (pa_cons ha pa_nil hs) (by decide) (by decide) hs hpl) fun σ H Q ⟨S, A, G, env, E, hA, r, q⟩ => ?_
  refine ⟨S, A, G, env, E, hA, r, (po env).mono (fun d k x H1 g1 r1 hx => ?_) (fun _ z => z) q⟩
  obtain ⟨l, rfl, k⟩ := objW_wp k
  have hx0 := hx
  cases hx with
  | obj h1 h2 hl =>
    rename_i a C' dx xs
    have eC : C' = C := by
      have := T.cl.symm.trans h2
      exact (Option.some.inj this).symm
    subst eC
    refine ⟨a, dx, _, rfl, ms_sub _ _ h1, fe, S ++ A.map (·.2), [.obj c l], E, r1.muA, r1.ffM, r1.fi, .cons hx0 .nil, fun _ _ _ _ _ _ _ _ _ => trivial, (p _).mono (fun d k v H3 g3 f3 hv3 => ?_) (fun _ z => z) k⟩
    obtain ⟨y, rfl, k⟩ := asS_wp k
    have hv4 := hv3
    cases hv3
    exact ⟨y, rfl, k _ H3 (g1.trans g3) (r1.grow g3 f3) hv4⟩
/-! ### a field read -/
def fldW (c i : Nat) (d : D) : W D := (objW c d).bind fun d => match d with
  | .obj _ l => optW l[i]?
  | _ => W.fail
theorem lookup_zipI : ∀ {ks : List Str} {xs : List V} {i : Nat} {f : Str} {v : V}, ks.Nodup → ks[i]? = some f → xs[i]? = some v → (ks.zip xs).lookup f = some v
  | [], _, _, _, _, _, h, _ => by simp at h
  | _ :: _, [], _, _, _, _, _, h => by simp at h
  | k :: ks, x :: xs, 0, f, v, _, h1, h2 => by
    simp at h1 h2
    subst h1
    subst h2
    simp [List.lookup_cons]
  | k :: ks, x :: xs, i + 1, f, v, nd, h1, h2 => by
    obtain ⟨n1, n2⟩ := List.nodup_cons.mp nd
    rw [List.zip_cons_cons, List.lookup_cons]
    have h1 : ks[i]? = some f := by simpa using h1
    rw [show (f == k) = false from beq_eq_false_iff_ne.mpr fun z => n1 (by rw [← z]; exact List.mem_of_getElem? h1)]
    exact lookup_zipI n2 h1 (by simpa using h2)
theorem le_fld {i : Nat} {fn : Str} (hK : X.K = Γ.K) (T : Cls Γ.K C) (Nn : NoAttr Γ.K C fn) (hcl : Γ.cl c = some C) (hnd : (Γ.fl c).Nodup) (hi : (Γ.fl c)[i]? = some fn) (ho : LE ⟨Γ, fe⟩ H0 O X o po) (hb : attributeBase o fn X.env (eval o X.env) = eval o X.env) :
    LE ⟨Γ, fe⟩ H0 O X (.Attribute o fn pos) fun env => (po env).bind (fldW c i) := by
  refine wkE (pe_fld ho hb) fun σ H Q ⟨S, A, G, env, E, hA, r, q⟩ => ?_
  refine ⟨S, A, G, env, E, hA, r, (po env).mono (fun d k x H1 g1 r1 hx => ?_) (fun _ z => z) q⟩
  obtain ⟨l, rfl, k⟩ := objW_wp k
  obtain ⟨d, hd, k⟩ := optW_wp k
  cases hx with
  | obj h1 h2 hl =>
    rename_i a C' dx xs
    have eC : C' = C := by
      have := hcl.symm.trans h2
      exact (Option.some.inj this).symm
    subst eC
    obtain ⟨v, hv, rv⟩ := hl.get hd
    exact ⟨a, _, dx, _, v, rfl, ms_sub _ _ h1, by rw [hK]; exact T, by rw [hK]; exact Nn, lookup_zipI hnd hi hv, k v H1 g1 r1 rv⟩
end
end LP
/-! Texts with things in them; a heap taken out of another, or what lacks. -/
namespace LP
open PySem PySem.Spec PyProof.Rows L2 PK RZ
/-! ### f'..' -/
def fmtW : D → W D
  | .str y => (W.want (y.length ≤ sizeLine)).bind fun _ => W.ret (.str y)
  | .int i => (W.want (i.natAbs.log2 < 1920)).bind fun _ => W.ret (.str (toString i))
  | _ => W.fail
def jsW : List (Env → W D) → Env → Str → W D
  | [], _, acc => W.ret (.str acc)
  | p :: ps, env, acc => (p env).bind fun d => (asS d).bind fun y => (W.want ((acc ++ y).length ≤ sizeLine)).bind fun _ => jsW ps env (acc ++ y)
section
variable {X : Cx} {Ξ : Ctx} {H0 : Hp} {O : List Nat} {e : Expr} {es : List Expr} {pos : Pos} {pa : Env → W D} {ps : List (Env → W D)}
theorem le_fmt (h : LE Ξ H0 O X e pa) : LE Ξ H0 O X (.FormattedValue e (-1) none pos) fun env => (pa env).bind fmtW :=
  wkE (pe_fmt h) fun σ H Q ⟨S, A, G, env, E, hA, r, q⟩ => ⟨S, A, G, env, E, hA, r, (pa env).mono (fun d k v H1 g1 r1 hv => by
    cases d with
    | str y =>
      obtain ⟨h1, k⟩ := k
      have hv' := hv
      cases hv
      exact .inl ⟨y, rfl, h1, k _ H1 g1 r1 hv'⟩
    | int i =>
      obtain ⟨h1, k⟩ := k
      cases hv
      exact .inr ⟨i, rfl, h1, k _ H1 g1 r1 (.str _ (strOk_int i))⟩
    | _ => exact k.elim) (fun _ z => z) q⟩
inductive LJ (Ξ : Ctx) (H0 : Hp) (O : List Nat) (X : Cx) : List Expr → List (Env → W D) → Prop
  | nil : LJ Ξ H0 O X [] []
  | cons {e : Expr} {es : List Expr} {p : Env → W D} {ps : List (Env → W D)} : LE Ξ H0 O X e p → LJ Ξ H0 O X es ps → LJ Ξ H0 O X (e :: es) (p :: ps)
theorem LJ.pj : ∀ {es : List Expr} {ps : List (Env → W D)}, LJ Ξ H0 O X es ps → PJ X es (ps.map (liE Ξ H0 O))
  | _, _, .nil => .nil
  | _, _, .cons h r => .cons h r.pj
theorem js_reads : ∀ (ps : List (Env → W D)) (acc : Str) (σ : L2.St) (H : Hp) (Q : VK), PyData.strOk acc = true → liE Ξ H0 O (fun env => jsW ps env acc) σ H Q → tJs (ps.map (liE Ξ H0 O)) acc σ H fun out H1 => Q (.str out) H1
  | [], acc, σ, H, Q, ok, ⟨S, A, G, env, E, hA, r, q⟩ => q (.str acc) H (Gr.refl H) r (.str acc ok)
  | p :: ps, acc, σ, H, Q, ok, ⟨S, A, G, env, E, hA, r, q⟩ => by
    refine ⟨S, A, G, env, E, hA, r, (p env).mono (fun d k v H1 g1 r1 hv => ?_) (fun _ z => z) q⟩
    obtain ⟨y, rfl, hl, k⟩ := asS_wp k
    cases hv with
    | str _ oy => exact ⟨y, rfl, hl, js_reads ps (acc ++ y) σ H1 Q (strOk_app ok oy) ⟨S, A, G, env, E, hA, r1, W.mono _ (fun d k v H2 g2 r2 hv => k v H2 (g1.trans g2) r2 hv) (fun _ z => z) k⟩⟩
theorem le_joined {v1 v2 : Expr} {rest : List Expr} (h : LJ Ξ H0 O X (v1 :: v2 :: rest) ps) : LE Ξ H0 O X (.JoinedStr (v1 :: v2 :: rest) pos) fun env => jsW ps env Str.empty :=
  wkE (pe_joined h.pj) fun σ H Q q => js_reads ps Str.empty σ H Q (by decide +kernel) q
end
/-! ### a name without a thing may be set, and set free -/
theorem Rel.setN {Ξ : Ctx} {H0 H : Hp} {S : List Addr} {A : List (Nat × Addr)} {G : List (V × D)} {σ : L2.St} {env : Env} (r : Rel Ξ H0 S A G σ H env) {i : Nat} (h : env[i]? = some none) (y : Option V) : Rel Ξ H0 S A G (σ.set i y) H env := by
  have ne : ∀ {j : Nat} {d : D}, env[j]? = some (some d) → i ≠ j := fun hj z => by
    rw [← z, h] at hj
    cases hj
  refine ⟨by rw [List.length_set]; exact r.len, fun j d hj n => ?_, fun j a hj => ?_, r.old, r.nd, r.ndk, r.gh, r.mu, r.fi, r.ffs, r.gr⟩
  · rw [List.getElem?_set_ne (ne hj)]
    exact r.fr j d hj n
  · obtain ⟨d, h1, h2, h3⟩ := r.ow j a hj
    refine ⟨d, h1, ?_, h3⟩
    rw [List.getElem?_set_ne (ne h1)]
    exact h2
/-! ### try: x = o.less(e) / except .. as n: x = n.lacking -/
structure LessV (Γ : Sig) (mg : Str → Option Value) (base : Heap) (k : Nat) (C CN f : Addr) (fd : FuncData) : Prop where
  ok : FnOk Γ.P Γ.w Γ.K mg base (L2.CX Γ.P Γ.w) k f fd ["self", "other"] (liF Γ lessW)
  cls : Cls Γ.K C
  me : Meth Γ.K C "less" f
  b : Binds Γ.K fd ["self", "other"] []
  s : HSig Γ C
  z : ESig Γ CN
/-- an error's class, as it is caught by x -/
structure ErrV (K : PySem.W.Frag) (mg : Str → Option Value) (CN : Addr) (x : Str) (CF : Addr) : Prop where
  g : mg x = some (.ref CF)
  te : PySem.W.exmOne K (.ref CN) (.ref CF) = some true
  xf : XfC K CN
  no : PySem.W.findIn K (.ref CN) "lacking" = some none
def lackX : Ex → W D
  | ⟨1, [h]⟩ => W.ret h
  | _ => W.fail
def lessTry (m : W D) : W D := m.catch_ lackX
section
variable {X : Cx} {Γ : Sig} {fe : Option (Addr × Addr)} {H0 : Hp} {O Ob : List Nat} {k i j : Nat} {C CN CF f : Addr} {fd : FuncData} {o e : Expr} {po pe : Env → W D} {mg : Str → Option Value} {base : Heap} {x n cn : Str} {p1 p2 p3 p4 p5 apos cpos spos np pos pos' : Pos}
theorem ls_tryLack {pl : Sem Bool} (M : LessV Γ mg base k C CN f fd) (Ec : ErrV Γ.K mg CN cn CF) (hP : X.prog = Γ.P) (hw : X.w = Γ.w) (hK : X.K = Γ.K) (hmg : X.mg = mg) (hbs : X.base = base) (hr : Room k X.A)
    (hs : X.stack = X.env :: X.outer) (hfr : X.env.frame = some X.env.locals) (hN : X.N.Nodup) (hi : X.N[i]? = some n) (hln : X.env.kindOf n = some .local) (hgl : Gl X cn) (hdb : (cn == ("__debug__" : Str)) = false)
    (hj : X.N[j]? = some x) (hx : Loc X.env.scope x) (hxl : X.env.scope.names.lookup x = some .local) (hij : i ≠ j) (hjO : j ∉ O)
    (ho : ∀ pn xe, LE ⟨Γ, fe⟩ H0 O (X.tr pn xe) o po) (he : ∀ pn xe, LE ⟨Γ, fe⟩ H0 O (X.tr pn xe) e pe)
    (hvar : ∀ a pn, PE (X.suite a pn) (.Name n p3) (tVar i))
    (hst : starEach [e] X.env = (false, eval e X.env) :: starEach [] X.env := by rfl) (hpl : (backTo cpos (starEach [] X.env)).any (·.1) = false := by rfl)
    (ht : eval (.Call (.Attribute o "less" apos) [e] [] cpos) X.env = viaMeth X.env o "less" pl apos cpos [e] [] := by rfl)
    (hs1 : swapsWith (.Call (.Attribute o "less" apos) [e] [] cpos) (some (.Name x p1)) spos.line X.env = pure false := by rfl)
    (hs2 : swapsWith (.Attribute (.Name n p3) "lacking" p4) (some (.Name x p2)) p5.line X.env = pure false := by rfl)
    (hba : attributeBase (.Name n p3) "lacking" X.env (eval (.Name n p3) X.env) = eval (.Name n p3) X.env := by rfl) :
    LS ⟨Γ, fe⟩ H0 O O Ob X (.Try [.Assign [.Name x p1] (.Call (.Attribute o "less" apos) [e] [] cpos) spos] [.ExceptHandler (some (.Name cn np)) (some n) [.Assign [.Name x p2] (.Attribute (.Name n p3) "lacking" p4) p5] pos'] [] [] pos)
      fun env => (W.want (env[i]? = some none)).bind fun _ => (po env).bind fun d => (objW 0 d).bind fun d => (pe env).bind fun d2 => (lessTry (lessW [d, d2])).bind fun h => W.ret (.nx (env.set j (some h))) := by
  have nl : ("less" : Str) ∉ Γ.fl 0 := by
    rw [M.s.fl]
    decide +kernel
  refine wkS (ps_try_as (i := i) (tb := fun W => tAsg (tMethX C "less" (liF Γ lessW) (WE W) (liE ⟨Γ, fe⟩ H0 O po) (tCons (liE ⟨Γ, fe⟩ H0 O pe) tNil)) (gName j)) (ts := fun a cls d => tAsg (tXf a cls d CN "lacking" (tVar i)) (gName j)) hs hfr hN hi hln ⟨hgl, hdb, .inl (by rw [hmg]; exact Ec.g)⟩ takes0
    (fun W pn xe tk _ => pss_one (ps_set hN hj hx (pe_methX (pl := pl) (X := X.tr pn xe) (ho pn xe) (by show Cls X.K C; rw [hK]; exact M.cls) (by show Meth X.K C _ f; rw [hK]; exact M.me) (by show FnOk X.prog X.w X.K X.mg X.base (L2.CX X.prog X.w) _ _ _ _ _; rw [hP, hw, hK, hmg, hbs]; exact M.ok) hr (by show Binds X.K fd _ _; rw [hK]; exact M.b) (fun σ => passAt tk σ) (pa_cons (he pn xe) pa_nil hst) hst hpl ht) hs1 (.inr hxl)))
    (fun a oe cls d pn hz hf => pss_one (ps_set hN hj hx (pe_xf (X := X) (C := CN) (by rw [hK]; exact Ec.xf) (by rw [hK]; exact Ec.no) hz hf (hvar a _) hba) hs2 (.inr hxl)))) ?_
  rintro De σ H ⟨S, A, G, env, E, hA, r, hi0, q⟩
  have nA : ∀ a, (j, a) ∉ A := fun a ha => hjO (by rw [← hA]; exact List.mem_map.mpr ⟨_, ha, rfl⟩)
  have il : i < env.length := (List.getElem?_eq_some_iff.mp hi0).1
  refine ⟨S, A, G, env, E, hA, r, (po env).mono (fun d k y H1 g1 r1 hy => ?_) (fun _ z => z) q⟩
  obtain ⟨l, rfl, k⟩ := objW_wp k
  have hy0 := hy
  cases hy with
  | obj h1 h2 hl =>
    rename_i a C' dx xs
    have eC : C' = C := by
      have := M.s.cl.symm.trans h2
      exact (Option.some.inj this).symm
    subst eC
    refine ⟨a, dx, _, rfl, ms_sub _ _ h1, lookup_zip nl, S, A, G, env, E, hA, r1, (pe env).mono (fun d2 k2 y2 H2 g2 r2 hy2 => ?_) (fun _ z => z) k⟩
    have fin : ∀ (h : D) (v : V) (H3 : Hp), Gr ⟨Γ, fe⟩ H2 H3 → (Ctx.mk Γ fe).FI H3 → Rp ⟨Γ, fe⟩ (ms (S ++ A.map (·.2)) H3) v h → FQ ⟨Γ, fe⟩ H0 S G O Ob De (.nx (env.set j (some h))) → ∀ y, De.nx ((σ.set j (some v)).set i y) H3 ∧ De.nx (σ.set j (some v)) H3 := fun h v H3 g3 f3 hv k y => by
      have R := (r2.grow g3 f3).set nA hv
      have e0 : (env.set j (some h))[i]? = some none := by
        rw [List.getElem?_set_ne fun z => hij z.symm]
        exact hi0
      exact ⟨k A _ H3 hA (R.setN e0 y), k A _ H3 hA R⟩
    refine ⟨fe, S ++ A.map (·.2), [.obj 0 l, d2], fun ex => (lackX ex).wp (fun h => FQ ⟨Γ, fe⟩ H0 S G O Ob De (.nx (env.set j (some h)))) E, r2.muA, r2.ffM, r2.fi, .cons (hy0.same (g2.ms r1.ffM)) (.cons hy2 .nil), fun ex hex C1 d1 H3 g3 f3 nd3 at3 => ?_, (lessW _).mono (fun h k v H3 g3 f3 hv => ?_) (fun _ z => z) k2⟩
    · obtain ⟨c1, xs1, hd1, hxs1⟩ := at3
      match ex, hex, c1, xs1, hd1, hxs1 with
      | ⟨1, [h]⟩, hex, c1, [v], hd1, .cons hv .nil =>
        have eC : C1 = CN := by
          have := M.z.cl.symm.trans c1
          exact (Option.some.inj this).symm
        subst eC
        refine ⟨true, by rw [hK]; exact Ec.te, fun _ b nb => ?_, fun z => Bool.noConfusion z⟩
        have lsig : i < σ.length := by rw [r.len]; exact il
        have hd1' : H3 d1 = some (.xd [("lacking", v)]) := by
          rw [hd1]
          have : (Ctx.mk Γ fe).fl 1 = [("lacking" : Str)] := M.z.fl
          show some (HO.xd (((Ctx.mk Γ fe).fl 1).zip [v])) = _
          rw [this]
          rfl
        refine ⟨.ref b, List.getElem?_set_self lsig, rfl, rfl, d1, _, v, rfl, hd1', rfl, ?_⟩
        show De.nx (((σ.set i (some (.ref b))).set j (some v)).set i none) H3
        rw [List.set_comm _ _ hij, List.set_set]
        exact (fin h v H3 g3 f3 hv hex none).1
    · exact (fin h v H3 g3 f3 hv k none).2
end
end LP
namespace LP
open PySem PySem.Spec PyProof.Rows L2 PK RZ
section
variable {X : Cx} {Ξ : Ctx} {H0 : Hp} {O Ob : List Nat} {b : Expr} {pos : Pos} {pb : Env → W D}
/-- x, y = [], e: x is owned -/
theorem ls_parN {i j : Nat} {x y : Str} {px py pt lp : Pos} {kt k2 pt2} (hc : X.calm = true) (hN : X.N.Nodup) (hi : X.N[i]? = some x) (hj : X.N[j]? = some y) (hij : i ≠ j) (hx : X.env.scope.names.lookup x = some .local) (hy : X.env.scope.names.lookup y = some .local)
    (hb : LE Ξ H0 O X b pb) (hw : swappedStores [.Tuple [.Name x px, .Name y py] kt pt] (.Tuple [.List [] lp, b] k2 pt2) X.env = pure (some [x, y])) (hiO : i ∉ O) (hjO : j ∉ O)
    (hs : swapsWithSole [.Tuple [.Name x px, .Name y py] kt pt] (.Tuple [.List [] lp, b] k2 pt2) pos.line X.env = pure false := by rfl)
    (hst : starEach [.List [] lp, b] X.env = (false, eval (.List [] lp) X.env) :: starEach [b] X.env := by rfl) (hst2 : starEach [b] X.env = (false, eval b X.env) :: starEach [] X.env := by rfl) :
    LS Ξ H0 O (i :: O) Ob X (.Assign [.Tuple [.Name x px, .Name y py] kt pt] (.Tuple [.List [] lp, b] k2 pt2) pos) fun env => (pb env).bind fun d => (W.want (i < env.length)).bind fun _ => W.ret (.nx ((env.set i (some (.lst []))).set j (some d))) := by
  refine wkS (ps_par hc hN hi hj hij hx hy (pa_cons (pe_lst pa_nil) (pa_cons hb pa_nil hst2) hst) hw hs) fun De σ H ⟨S, A, G, env, E, hA, r, k⟩ => ?_
  refine ⟨Nat.zero_le _, fun l nl => ?_⟩
  have r1 := r.mask nl (o := .lst []) trivial
  refine ⟨l :: S, A, G, env, E, hA, r1, (pb env).mono (fun d k u H2 g2 r2 hu => ?_) (fun _ z => z) k⟩
  have n : ∀ {i : Nat}, i ∉ O → ∀ a, (i, a) ∉ A := fun h a ha => h (by rw [← hA]; exact List.mem_map.mpr ⟨_, ha, rfl⟩)
  have nf := ff_out r.fi nl
  have el : H2 l = some (.lst []) := g2 l _ nf upd_same
  have g : Gr Ξ H H2 := Gr.trans (Gr.of (same_new (Same.refl H) nl)) g2
  have R := r.own (d := .lst []) (n hiO) k.1 nl g r2.fi (by rw [el]; exact .lst .nil)
  refine ⟨_, _, rfl, k.2 _ _ H2 (by rw [List.map_cons, hA]) (R.set (fun a ha => ?_) (hu.same (ms_mono fun b hb => ?_)))⟩
  · rcases List.mem_cons.mp ha with e | ha
    · cases e
      exact hij rfl
    · exact n hjO a ha
  · rw [List.map_cons] at hb
    rcases List.mem_append.mp hb with hb | hb
    · exact List.mem_append_left _ (List.mem_cons_of_mem _ hb)
    · rcases List.mem_cons.mp hb with hb | hb
      · rw [hb]
        exact List.mem_append_left _ List.mem_cons_self
      · exact List.mem_append_right _ hb
end
end LP
namespace LP
open PySem PySem.Spec PyProof.Rows L2 PK LP
def bLRows_1 (env : Env) : W Fl := (thenW (((getW env 1).bind fun x => (((getW env 0).bind fun d => ((((getW env 1).bind fun d => (W.ret []).bind fun ds => W.ret (d :: ds)).bind lenW).bind fun d => (W.ret []).bind fun ds => W.ret (d :: ds)).bind fun ds => W.ret (d :: ds)).bind drawW).bind fun y => ixW x y).bind fun d => W.ret (.nx (env.set 6 (some d))))
  fun env => (thenW (((getW env 2).bind fun x => (((getW env 0).bind fun d => ((((getW env 2).bind fun d => (W.ret []).bind fun ds => W.ret (d :: ds)).bind lenW).bind fun d => (W.ret []).bind fun ds => W.ret (d :: ds)).bind fun ds => W.ret (d :: ds)).bind drawW).bind fun y => ixW x y).bind fun d => W.ret (.nx (env.set 7 (some d))))
  fun env => ((((getW env 6).bind fun d => ((getW env 7).bind fun d => ((((getW env 0).bind fun d => (W.ret []).bind fun ds => W.ret (d :: ds)).bind fLMany).bind fun d => (W.ret []).bind fun ds => W.ret (d :: ds)).bind fun ds => W.ret (d :: ds)).bind fun ds => W.ret (d :: ds)).bind tupW).bind fun d => putW env 4 (appW d))))
def bLRows (env : Env) : W Fl := (thenW (((W.ret []).bind lstW).bind fun d => (W.want (4 < env.length)).bind fun _ => W.ret (.nx (env.set 4 (some d))))
  fun env => (thenW ((((((getW env 0).bind fun d => (((getW env 3).bind fun x => (W.ret (.int 1)).bind fun y => addW x y).bind fun d => (W.ret []).bind fun ds => W.ret (d :: ds)).bind fun ds => W.ret (d :: ds)).bind drawW).bind fun d => (W.ret []).bind fun ds => W.ret (d :: ds)).bind range1W).bind fun ds => forW (fun d env => W.ret (env.set 5 (some d))) (fun env => (bLRows_1 env)) ds env)
  fun env => ((((getW env 4).bind fun d => (W.ret []).bind fun ds => W.ret (d :: ds)).bind tupleW).bind fun d => W.ret (.rt d))))
def fLRows : List D → W D := runB 4 8 bLRows
def bSummed_1 (env : Env) : W Fl := (((getW env 4).bind fun x => (((((lcD (fun d env => W.ret (env.set 3 (some d))) (fun env => ((((getW env 3).bind fun d => (W.ret none).bind fun l => ((W.ret (.int 2)).bind partW).bind fun u => slW d l u).bind fun x => (getW env 4).bind fun y => eqW x y).bind asB)) (fun env => ((getW env 3).bind fun x => (W.ret (.int 2)).bind fun y => ixW x y)) [3] (fun env => ((getW env 0).bind walkTW)) env).bind fun d => (W.ret []).bind fun ds => W.ret (d :: ds)).bind sumW).bind fun d => (W.ret []).bind fun ds => W.ret (d :: ds)).bind tupW).bind fun y => addW x y).bind fun d => putW env 1 (appW d))
def bSummed_2 (env : Env) : W Fl := (thenW ((lcD (fun d env => W.ret (env.set 5 (some d))) (fun env => (((getW env 5).bind fun x => (getW env 4).bind fun y => neW x y).bind asB)) (fun env => (getW env 5)) [5] (fun env => ((getW env 2).bind walkLW)) env).bind fun d => W.ret (.nx (env.set 2 (some d))))
  fun env => (bSummed_1 env))
def bSummed_3 (env : Env) : W Fl := (thenW ((((getW env 2).bind fun d => (W.ret []).bind fun ds => W.ret (d :: ds)).bind minLW).bind fun d => W.ret (.nx (env.set 4 (some d))))
  fun env => (bSummed_2 env))
def bSummed_4 (env : Env) : W Fl := (thenW (whileW (fun env => (((getW env 2).bind fun x => ((W.ret []).bind lstW).bind fun y => neW x y).bind asB)) (fun env => (bSummed_3 env)) env)
  fun env => ((((getW env 1).bind fun d => (W.ret []).bind fun ds => W.ret (d :: ds)).bind tupleW).bind fun d => W.ret (.rt d)))
def bSummed (env : Env) : W Fl := (thenW ((lcD (fun d env => W.ret (env.set 3 (some d))) (fun env => (W.ret true)) (fun env => ((getW env 3).bind fun d => (W.ret none).bind fun l => ((W.ret (.int 2)).bind partW).bind fun u => slW d l u)) [3] (fun env => ((getW env 0).bind walkTW)) env).bind fun d => (W.want (1 < env.length)).bind fun _ => W.ret (.nx ((env.set 1 (some (.lst []))).set 2 (some d))))
  fun env => (bSummed_4 env))
def fSummed : List D → W D := runB 1 6 bSummed
def bStr (env : Env) : W Fl := (thenW (((((((getW env 0).bind (fldW 0 0)).bind fun d => (W.ret []).bind fun ds => W.ret (d :: ds)).bind lenW).bind fun x => (W.ret (.int 0)).bind fun y => eqW x y).bind asB).bind fun k => W.ite k ((W.ret (.str "-")).bind fun d => W.ret (.rt d)) (W.ret (.nx env)))
  fun env => (((W.ret (.str " ")).bind fun x => (asS x).bind fun a => (lcD (tupG 3 (gsW (fun d env => W.ret (env.set 1 (some d))) (gsW (fun d env => W.ret (env.set 2 (some d))) (gsW (fun d env => W.ret (env.set 3 (some d))) (fun ds env => match ds with | [] => W.ret env | _ => W.fail))))) (fun env => (W.ret true)) (fun env => (jsW [(fun env => ((getW env 1).bind fmtW)), (fun env => (W.ret (.str "/"))), (fun env => ((getW env 2).bind fmtW)), (fun env => (W.ret (.str ":"))), (fun env => ((getW env 3).bind fmtW))] env Str.empty)) [1, 2, 3] (fun env => (((getW env 0).bind (fldW 0 0)).bind walkTW)) env).bind fun y => joinW a y).bind fun d => W.ret (.rt d)))
def fStr : List D → W D := runB 1 4 bStr
end LP
/-! len of a set of texts. -/
namespace LP
open PySem PySem.Spec PyProof.Rows L2 PK RZ
def rLenTx (P : Program) (w : World) : List V → Hp → VK → Prop := fun vs H Q => ∃ (a : Addr) (l : List Str), vs = [.ref a] ∧ H a = some (SetTO P w a l) ∧ l.length ≤ 1000000 ∧ Q (.int l.length) H
theorem call_lenTx {X : Cx} : CallR X (.builtin "len") (rLenTx X.prog X.w) := by
  intro pins s σ H vs us Q I r h
  obtain ⟨a, l, rfl, ha, hl, q⟩ := h
  rw [Vals.ref1 r]
  obtain ⟨D, hD, F, _, _⟩ := (I.hok a _ ha).1
  have hs : (D.1.size : Int) = l.length := by rw [F.sz]
  refine call_len_set hD ⟨rfl, rfl, rfl⟩ rfl F.fit (by omega) ⟨.int l.length, H, (I.tok _).tok _, ⟨_, by rw [hs]⟩, q⟩
def lenSW : List D → W D
  | [.set l] => (W.want (l.length ≤ 1000000)).bind fun _ => W.ret (.int l.length)
  | _ => W.fail
section
variable {X : Cx} {Ξ : Ctx} {H0 : Hp} {O : List Nat} {e : Expr} {ps : Env → W (List D)}
theorem lenS_ok : CallOk Ξ (rLenTx Ξ.P Ξ.w) lenSW := by
  intro M H xs ds Q E mu hf h q
  match ds, h, q with
  | [.set l], .cons h .nil, ⟨hl, q⟩ =>
    cases h.full with
    | set h1 n o => exact ⟨_, l, rfl, h1, hl, q _ H (Same.refl H) (.int _)⟩
theorem le_lenS {p pos : Pos} (hP : X.prog = Ξ.P) (hw : X.w = Ξ.w) (hg : Gl X "len") (hm : X.mg "len" = none) (ha : LAB Ξ H0 O X [e] ps) (he : starEach [e] X.env = [(false, eval e X.env)] := by rfl) : LE Ξ H0 O X (.Call (.Name "len" p) [e] [] pos) fun env => (ps env).bind lenSW :=
  le_callB (by rw [← hP, ← hw]; exact call_lenTx : CallR X _ (rLenTx Ξ.P Ξ.w)) lenS_ok hg hm (by decide +kernel) ha (by decide) (by decide) he rfl
end
end LP
namespace LP.K17
open PySem PySem.Spec PyProof.Rows L2 PK LP
def bShown_1 (env : Env) : W Fl := ((((((getW env 2).bind fun x => (W.ret (.str "/")).bind fun y => addW x y).bind fun x => (getW env 3).bind fun y => addW x y).bind fun x => (W.ret (.str ":")).bind fun y => addW x y).bind fun x => (((getW env 4).bind fun d => (W.ret []).bind fun ds => W.ret (d :: ds)).bind strW).bind fun y => addW x y).bind fun d => putW env 1 (appW d))
def bShown_2 (env : Env) : W Fl := (thenW (((getW env 0).bind walkTW).bind fun ds => forW (tupG 3 (gsW (fun d env => W.ret (env.set 2 (some d))) (gsW (fun d env => W.ret (env.set 3 (some d))) (gsW (fun d env => W.ret (env.set 4 (some d))) (fun ds env => match ds with | [] => W.ret env | _ => W.fail))))) (fun env => (bShown_1 env)) ds env)
  fun env => (((((getW env 0).bind fun x => ((W.ret []).bind tupW).bind fun y => neW x y).bind asB).bind fun k => W.ite k ((W.ret (.str " ")).bind fun x => (asS x).bind fun a => (getW env 1).bind fun y => joinW a y) (W.ret (.str "-"))).bind fun d => W.ret (.rt d)))
def bShown (env : Env) : W Fl := (thenW (((W.ret []).bind lstW).bind fun d => (W.want (1 < env.length)).bind fun _ => W.ret (.nx (env.set 1 (some d))))
  fun env => (bShown_2 env))
def fShown : List D → W D := runB 1 5 bShown
def bDeed_1 (env : Env) : W Fl := (thenW ((W.want (env[5]? = some none)).bind fun _ => (getW env 0).bind fun d => (objW 0 d).bind fun d => (getW env 1).bind fun d2 => (lessTry (lessW [d, d2])).bind fun h => W.ret (.nx (env.set 4 (some h))))
  fun env => ((getW env 4).bind fun d => W.ret (.rt d)))
def bDeed_2 (env : Env) : W Fl := (thenW ((getW env 0).bind fun d => W.ret (.nx (env.set 4 (some d))))
  fun env => (bDeed_1 env))
def bDeed_3 (env : Env) : W Fl := (thenW ((((getW env 2).bind fun x => (W.ret (.int 4)).bind fun y => eqW x y).bind asB).bind fun k => W.ite k ((((((getW env 0).bind fun x => (getW env 1).bind fun y => eqHW x y).bind asB).bind fun k => W.ite k (W.ret true) ((((((getW env 0).bind fun d => (objW 0 d).bind fun d => (fStr [d]).bind fun r => (asS r).bind fun y => W.ret (.str y)).bind fun d => (W.ret []).bind fun ds => W.ret (d :: ds)).bind lenW).bind fun x => ((((getW env 1).bind fun d => (objW 0 d).bind fun d => (fStr [d]).bind fun r => (asS r).bind fun y => W.ret (.str y)).bind fun d => (W.ret []).bind fun ds => W.ret (d :: ds)).bind lenW).bind fun y => gtW x y).bind asB)).bind fun k => W.ite k (((getW env 0).bind fun d => (objW 0 d).bind fun d => (W.ret []).bind fun ds => rowsW (d :: ds)).bind heapW) ((getW env 1).bind fun d => (objW 0 d).bind fun d => ((heapW .non).bind fun d => (W.ret []).bind fun ds => W.ret (d :: ds)).bind fun ds => plusW (d :: ds))).bind fun d => W.ret (.rt d)) (W.ret (.nx env)))
  fun env => (((((getW env 0).bind fun d => (objW 0 d).bind fun d => (W.ret []).bind fun ds => rowsW (d :: ds)).bind fun d => (W.ret none).bind fun l => (((((getW env 0).bind fun d => (objW 0 d).bind fun d => (W.ret []).bind fun ds => formsW (d :: ds)).bind fun d => (W.ret []).bind fun ds => W.ret (d :: ds)).bind lenW).bind partW).bind fun u => slW d l u).bind heapW).bind fun d => W.ret (.rt d)))
def bDeed_4 (env : Env) : W Fl := (thenW ((((getW env 2).bind fun x => (W.ret (.int 3)).bind fun y => eqW x y).bind asB).bind fun k => W.ite k (((((getW env 0).bind fun d => (objW 0 d).bind fun d => ((getW env 1).bind fun d => (W.ret []).bind fun ds => W.ret (d :: ds)).bind fun ds => holdsW (d :: ds)).bind asB).bind fun k => W.ite k ((getW env 0).bind fun d => (objW 0 d).bind fun d => ((getW env 0).bind fun d => (W.ret []).bind fun ds => W.ret (d :: ds)).bind fun ds => plusW (d :: ds)) ((getW env 0).bind fun d => (objW 0 d).bind fun d => (((((((getW env 3).bind fun d => ((W.ret (.str "zz")).bind fun d => ((W.ret (.int 1)).bind fun d => (W.ret []).bind fun ds => W.ret (d :: ds)).bind fun ds => W.ret (d :: ds)).bind fun ds => W.ret (d :: ds)).bind tupW).bind fun d => (W.ret []).bind fun ds => W.ret (d :: ds)).bind tupW).bind heapW).bind fun d => (W.ret []).bind fun ds => W.ret (d :: ds)).bind fun ds => plusW (d :: ds))).bind fun d => W.ret (.rt d)) (W.ret (.nx env)))
  fun env => (bDeed_3 env))
def bDeed_5 (env : Env) : W Fl := (thenW ((((getW env 2).bind fun x => (W.ret (.int 2)).bind fun y => eqW x y).bind asB).bind fun k => W.ite k (((((getW env 0).bind fun d => (objW 0 d).bind fun d => (W.ret []).bind fun ds => rowsW (d :: ds)).bind fun x => (((getW env 1).bind fun d => (objW 0 d).bind fun d => (W.ret []).bind fun ds => rowsW (d :: ds)).bind fun d => (W.ret none).bind fun l => ((W.ret (.int 1)).bind partW).bind fun u => slW d l u).bind fun y => addW x y).bind heapW).bind fun d => W.ret (.rt d)) (W.ret (.nx env)))
  fun env => (bDeed_4 env))
def bDeed_6 (env : Env) : W Fl := (thenW ((((getW env 2).bind fun x => (W.ret (.int 1)).bind fun y => eqW x y).bind asB).bind fun k => W.ite k (bDeed_2 env) (W.ret (.nx env)))
  fun env => (bDeed_5 env))
def bDeed (env : Env) : W Fl := (thenW ((((getW env 2).bind fun x => (W.ret (.int 0)).bind fun y => eqW x y).bind asB).bind fun k => W.ite k (((getW env 0).bind fun d => (objW 0 d).bind fun d => ((getW env 1).bind fun d => (W.ret []).bind fun ds => W.ret (d :: ds)).bind fun ds => plusW (d :: ds)).bind fun d => W.ret (.rt d)) (W.ret (.nx env)))
  fun env => (bDeed_6 env))
def fDeed : List D → W D := runB 4 6 bDeed
def bDue_1 (env : Env) : W Fl := (thenW ((((getW env 2).bind fun x => (W.ret (.int 4)).bind fun y => eqW x y).bind asB).bind fun k => W.ite k ((((((getW env 4).bind fun x => (getW env 5).bind fun y => eqW x y).bind asB).bind fun k => W.ite k (W.ret true) (((((((getW env 4).bind fun d => (W.ret []).bind fun ds => W.ret (d :: ds)).bind fShown).bind fun d => (W.ret []).bind fun ds => W.ret (d :: ds)).bind lenW).bind fun x => (((((getW env 5).bind fun d => (W.ret []).bind fun ds => W.ret (d :: ds)).bind fShown).bind fun d => (W.ret []).bind fun ds => W.ret (d :: ds)).bind lenW).bind fun y => gtW x y).bind asB)).bind fun k => W.ite k (getW env 4) (getW env 5)).bind fun d => W.ret (.rt d)) (W.ret (.nx env)))
  fun env => (((getW env 4).bind fun d => (W.ret none).bind fun l => ((((((lcD (fun d env => W.ret (env.set 8 (some d))) (fun env => (W.ret true)) (fun env => ((getW env 8).bind fun x => (W.ret (.int 0)).bind fun y => ixW x y)) [8] (fun env => ((getW env 4).bind walkTW)) env).bind fun d => (W.ret []).bind fun ds => W.ret (d :: ds)).bind setW).bind fun d => (W.ret []).bind fun ds => W.ret (d :: ds)).bind lenSW).bind partW).bind fun u => slW d l u).bind fun d => W.ret (.rt d)))
def bDue_2 (env : Env) : W Fl := (thenW ((((getW env 2).bind fun x => (W.ret (.int 3)).bind fun y => eqW x y).bind asB).bind fun k => W.ite k (((((getW env 10).bind fun x => ((W.ret []).bind tupW).bind fun y => eqW x y).bind asB).bind fun k => W.ite k ((((getW env 4).bind fun x => (getW env 4).bind fun y => addW x y).bind fun d => (W.ret []).bind fun ds => W.ret (d :: ds)).bind fSummed) ((((getW env 4).bind fun x => (((((getW env 3).bind fun d => ((W.ret (.str "zz")).bind fun d => ((W.ret (.int 1)).bind fun d => (W.ret []).bind fun ds => W.ret (d :: ds)).bind fun ds => W.ret (d :: ds)).bind fun ds => W.ret (d :: ds)).bind tupW).bind fun d => (W.ret []).bind fun ds => W.ret (d :: ds)).bind tupW).bind fun y => addW x y).bind fun d => (W.ret []).bind fun ds => W.ret (d :: ds)).bind fSummed)).bind fun d => W.ret (.rt d)) (W.ret (.nx env)))
  fun env => (bDue_1 env))
def bDue_3 (env : Env) : W Fl := (thenW ((((getW env 2).bind fun x => (W.ret (.int 2)).bind fun y => eqW x y).bind asB).bind fun k => W.ite k (((((getW env 4).bind fun x => ((getW env 5).bind fun d => (W.ret none).bind fun l => ((W.ret (.int 1)).bind partW).bind fun u => slW d l u).bind fun y => addW x y).bind fun d => (W.ret []).bind fun ds => W.ret (d :: ds)).bind fSummed).bind fun d => W.ret (.rt d)) (W.ret (.nx env)))
  fun env => (bDue_2 env))
def bDue_4 (env : Env) : W Fl := (thenW ((((getW env 2).bind fun x => (W.ret (.int 1)).bind fun y => eqW x y).bind asB).bind fun k => W.ite k (((((getW env 10).bind fun x => ((W.ret []).bind tupW).bind fun y => neW x y).bind asB).bind fun k => W.ite k (getW env 10) (((lcD (fun d env => W.ret (env.set 8 (some d))) (fun env => ((((getW env 8).bind fun x => (W.ret (.int 2)).bind fun y => ixW x y).bind fun x => (W.ret (.int 0)).bind fun y => gtW x y).bind asB)) (fun env => (getW env 8)) [8] (fun env => ((getW env 6).bind walkLW)) env).bind fun d => (W.ret []).bind fun ds => W.ret (d :: ds)).bind tupleW)).bind fun d => W.ret (.rt d)) (W.ret (.nx env)))
  fun env => (bDue_3 env))
def bDue_5 (env : Env) : W Fl := (thenW ((((getW env 2).bind fun x => (W.ret (.int 0)).bind fun y => eqW x y).bind asB).bind fun k => W.ite k (((((getW env 4).bind fun x => (getW env 5).bind fun y => addW x y).bind fun d => (W.ret []).bind fun ds => W.ret (d :: ds)).bind fSummed).bind fun d => W.ret (.rt d)) (W.ret (.nx env)))
  fun env => (bDue_4 env))
def bDue_6 (env : Env) : W Fl := (thenW ((((lcD (fun d env => W.ret (env.set 8 (some d))) (fun env => ((((getW env 8).bind fun x => (W.ret (.int 2)).bind fun y => ixW x y).bind fun x => (W.ret (.int 0)).bind fun y => gtW x y).bind asB)) (fun env => (getW env 8)) [8] (fun env => ((getW env 9).bind walkLW)) env).bind fun d => (W.ret []).bind fun ds => W.ret (d :: ds)).bind tupleW).bind fun d => W.ret (.nx (env.set 10 (some d))))
  fun env => (bDue_5 env))
def bDue_7 (env : Env) : W Fl := (thenW ((lcD (fun d env => W.ret (env.set 8 (some d))) (fun env => (W.ret true)) (fun env => (((getW env 8).bind fun d => (W.ret none).bind fun l => ((W.ret (.int 2)).bind partW).bind fun u => slW d l u).bind fun x => (((((getW env 8).bind fun x => (W.ret (.int 2)).bind fun y => ixW x y).bind fun x => (((lcD (fun d env => W.ret (env.set 7 (some d))) (fun env => ((((getW env 7).bind fun d => (W.ret none).bind fun l => ((W.ret (.int 2)).bind partW).bind fun u => slW d l u).bind fun x => ((getW env 8).bind fun d => (W.ret none).bind fun l => ((W.ret (.int 2)).bind partW).bind fun u => slW d l u).bind fun y => eqW x y).bind asB)) (fun env => ((getW env 7).bind fun x => (W.ret (.int 2)).bind fun y => ixW x y)) [7] (fun env => ((getW env 4).bind walkTW)) env).bind fun d => (W.ret []).bind fun ds => W.ret (d :: ds)).bind sumW).bind fun y => subW x y).bind fun d => (W.ret []).bind fun ds => W.ret (d :: ds)).bind tupW).bind fun y => addW x y)) [8] (fun env => ((getW env 5).bind walkTW)) env).bind fun d => W.ret (.nx (env.set 9 (some d))))
  fun env => (bDue_6 env))
def bDue_8 (env : Env) : W Fl := (thenW ((lcD (fun d env => W.ret (env.set 8 (some d))) (fun env => (W.ret true)) (fun env => (((getW env 8).bind fun d => (W.ret none).bind fun l => ((W.ret (.int 2)).bind partW).bind fun u => slW d l u).bind fun x => (((((getW env 8).bind fun x => (W.ret (.int 2)).bind fun y => ixW x y).bind fun x => (((lcD (fun d env => W.ret (env.set 7 (some d))) (fun env => ((((getW env 7).bind fun d => (W.ret none).bind fun l => ((W.ret (.int 2)).bind partW).bind fun u => slW d l u).bind fun x => ((getW env 8).bind fun d => (W.ret none).bind fun l => ((W.ret (.int 2)).bind partW).bind fun u => slW d l u).bind fun y => eqW x y).bind asB)) (fun env => ((getW env 7).bind fun x => (W.ret (.int 2)).bind fun y => ixW x y)) [7] (fun env => ((getW env 5).bind walkTW)) env).bind fun d => (W.ret []).bind fun ds => W.ret (d :: ds)).bind sumW).bind fun y => subW x y).bind fun d => (W.ret []).bind fun ds => W.ret (d :: ds)).bind tupW).bind fun y => addW x y)) [8] (fun env => ((getW env 4).bind walkTW)) env).bind fun d => W.ret (.nx (env.set 6 (some d))))
  fun env => (bDue_7 env))
def bDue (env : Env) : W Fl := (thenW ((((((getW env 0).bind fun d => (W.ret []).bind fun ds => W.ret (d :: ds)).bind fSummed).bind fun d => ((((getW env 1).bind fun d => (W.ret []).bind fun ds => W.ret (d :: ds)).bind fSummed).bind fun d => (W.ret []).bind fun ds => W.ret (d :: ds)).bind fun ds => W.ret (d :: ds)).bind tupW).bind fun d => ((tupG 2 (gsW (fun d env => W.ret (env.set 4 (some d))) (gsW (fun d env => W.ret (env.set 5 (some d))) (fun ds env => match ds with | [] => W.ret env | _ => W.fail)))) d env).bind fun env' => W.ret (.nx env'))
  fun env => (bDue_8 env))
def fDue : List D → W D := runB 4 11 bDue
def bLaw_1 (env : Env) : W Fl := (((((((getW env 7).bind fun x => (getW env 14).bind fun y => ixW x y).bind fun d => (objW 0 d).bind fun d => ((getW env 13).bind fun d => (W.ret []).bind fun ds => W.ret (d :: ds)).bind fun ds => lenP 3 manyW (noneD 1 (d :: ds))).bind fun x => (getW env 15).bind fun y => neW x y).bind asB).bind fun k => W.ite k (W.ret true) ((((((getW env 7).bind fun x => (getW env 14).bind fun y => ixW x y).bind fun d => (W.ret []).bind fun ds => W.ret (d :: ds)).bind lenHW).bind fun x => ((((getW env 9).bind fun x => (getW env 14).bind fun y => ixW x y).bind fun d => (W.ret []).bind fun ds => W.ret (d :: ds)).bind lenW).bind fun y => neW x y).bind asB)).bind fun k => W.ite k ((W.ret (.bl false)).bind fun d => W.ret (.rt d)) (W.ret (.nx env)))
def bLaw_2 (env : Env) : W Fl := (thenW ((((lcD (fun d env => W.ret (env.set 16 (some d))) (fun env => ((((getW env 16).bind fun x => (W.ret (.int 0)).bind fun y => ixW x y).bind fun x => (getW env 13).bind fun y => eqW x y).bind asB)) (fun env => ((getW env 16).bind fun x => (W.ret (.int 2)).bind fun y => ixW x y)) [16] (fun env => (((getW env 9).bind fun x => (getW env 14).bind fun y => ixW x y).bind walkTW)) env).bind fun d => (W.ret []).bind fun ds => W.ret (d :: ds)).bind sumW).bind fun d => W.ret (.nx (env.set 15 (some d))))
  fun env => (bLaw_1 env))
def bLaw_3 (env : Env) : W Fl := (thenW (((((((((getW env 7).bind fun x => (getW env 14).bind fun y => ixW x y).bind fun d => (objW 0 d).bind fun d => (W.ret []).bind fun ds => rowsW (d :: ds)).bind fun d => (W.ret []).bind fun ds => W.ret (d :: ds)).bind reprD).bind fun x => ((((getW env 9).bind fun x => (getW env 14).bind fun y => ixW x y).bind fun d => (W.ret []).bind fun ds => W.ret (d :: ds)).bind reprD).bind fun y => neW x y).bind asB).bind fun k => W.ite k (W.ret true) (((((getW env 7).bind fun x => (getW env 14).bind fun y => ixW x y).bind fun d => (objW 0 d).bind fun d => (fStr [d]).bind fun r => (asS r).bind fun y => W.ret (.str y)).bind fun x => ((((getW env 9).bind fun x => (getW env 14).bind fun y => ixW x y).bind fun d => (W.ret []).bind fun ds => W.ret (d :: ds)).bind fShown).bind fun y => neW x y).bind asB)).bind fun k => W.ite k ((W.ret (.bl false)).bind fun d => W.ret (.rt d)) (W.ret (.nx env)))
  fun env => (bLaw_2 env))
def bLaw_4 (env : Env) : W Fl := ((((((getW env 7).bind fun d => (W.ret []).bind fun ds => W.ret (d :: ds)).bind lenW).bind fun d => (W.ret []).bind fun ds => W.ret (d :: ds)).bind range1W).bind fun ds => forW (fun d env => W.ret (env.set 14 (some d))) (fun env => (bLaw_3 env)) ds env)
def bLaw_5 (env : Env) : W Fl := (thenW (((((getW env 9).bind fun x => (getW env 10).bind fun y => ixW x y).bind fun d => (((getW env 9).bind fun x => (getW env 11).bind fun y => ixW x y).bind fun d => ((getW env 12).bind fun d => ((getW env 13).bind fun d => (W.ret []).bind fun ds => W.ret (d :: ds)).bind fun ds => W.ret (d :: ds)).bind fun ds => W.ret (d :: ds)).bind fun ds => W.ret (d :: ds)).bind fDue).bind fun d => putW env 9 (appW d))
  fun env => (bLaw_4 env))
def bLaw_6 (env : Env) : W Fl := (thenW (((((getW env 7).bind fun x => (getW env 10).bind fun y => ixW x y).bind fun d => (((getW env 7).bind fun x => (getW env 11).bind fun y => ixW x y).bind fun d => ((getW env 12).bind fun d => ((getW env 13).bind fun d => (W.ret []).bind fun ds => W.ret (d :: ds)).bind fun ds => W.ret (d :: ds)).bind fun ds => W.ret (d :: ds)).bind fun ds => W.ret (d :: ds)).bind fDeed).bind fun d => putW env 7 (appW d))
  fun env => (bLaw_5 env))
def bLaw_7 (env : Env) : W Fl := (thenW ((((((getW env 1).bind fun d => ((W.ret (.int 6)).bind fun d => (W.ret []).bind fun ds => W.ret (d :: ds)).bind fun ds => W.ret (d :: ds)).bind drawW).bind fun d => (((getW env 2).bind fun x => (((getW env 1).bind fun d => ((((getW env 2).bind fun d => (W.ret []).bind fun ds => W.ret (d :: ds)).bind lenW).bind fun d => (W.ret []).bind fun ds => W.ret (d :: ds)).bind fun ds => W.ret (d :: ds)).bind drawW).bind fun y => ixW x y).bind fun d => (W.ret []).bind fun ds => W.ret (d :: ds)).bind fun ds => W.ret (d :: ds)).bind tupW).bind fun d => ((tupG 2 (gsW (fun d env => W.ret (env.set 12 (some d))) (gsW (fun d env => W.ret (env.set 13 (some d))) (fun ds env => match ds with | [] => W.ret env | _ => W.fail)))) d env).bind fun env' => W.ret (.nx env'))
  fun env => (bLaw_6 env))
def bLaw_8 (env : Env) : W Fl := (thenW (((((getW env 1).bind fun d => ((((getW env 7).bind fun d => (W.ret []).bind fun ds => W.ret (d :: ds)).bind lenW).bind fun d => (W.ret []).bind fun ds => W.ret (d :: ds)).bind fun ds => W.ret (d :: ds)).bind drawW).bind fun d => ((((getW env 1).bind fun d => ((((getW env 7).bind fun d => (W.ret []).bind fun ds => W.ret (d :: ds)).bind lenW).bind fun d => (W.ret []).bind fun ds => W.ret (d :: ds)).bind fun ds => W.ret (d :: ds)).bind drawW).bind fun d => (W.ret []).bind fun ds => W.ret (d :: ds)).bind fun ds => W.ret (d :: ds)).bind (par2 10 11 env))
  fun env => (bLaw_7 env))
def bLaw_9 (env : Env) : W Fl := (thenW ((((W.ret (.int 10)).bind fun d => (W.ret []).bind fun ds => W.ret (d :: ds)).bind range1W).bind fun ds => forW (fun d env => W.ret (env.set 5 (some d))) (fun env => (bLaw_8 env)) ds env)
  fun env => (((((getW env 4).bind fun d => (W.ret []).bind fun ds => W.ret (d :: ds)).bind reprD).bind fun x => (getW env 6).bind fun y => eqW x y).bind fun d => W.ret (.rt d)))
def bLaw_10 (env : Env) : W Fl := (thenW ((lcD (fun d env => W.ret (env.set 8 (some d))) (fun env => (W.ret true)) (fun env => (((getW env 8).bind fun d => (W.ret []).bind fun ds => W.ret (d :: ds)).bind fSummed)) [8] (fun env => ((getW env 4).bind walkLW)) env).bind fun d => (W.want (9 < env.length)).bind fun _ => W.ret (.nx (env.set 9 (some d))))
  fun env => (bLaw_9 env))
def bLaw_11 (env : Env) : W Fl := (thenW ((lcD (fun d env => W.ret (env.set 8 (some d))) (fun env => (W.ret true)) (fun env => ((getW env 8).bind heapW)) [8] (fun env => ((getW env 4).bind walkLW)) env).bind fun d => (W.want (7 < env.length)).bind fun _ => W.ret (.nx (env.set 7 (some d))))
  fun env => (bLaw_10 env))
def bLaw_12 (env : Env) : W Fl := (thenW ((((getW env 4).bind fun d => (W.ret []).bind fun ds => W.ret (d :: ds)).bind reprD).bind fun d => W.ret (.nx (env.set 6 (some d))))
  fun env => (bLaw_11 env))
def bLaw_13 (env : Env) : W Fl := (thenW ((lcD (fun d env => W.ret (env.set 5 (some d))) (fun env => (W.ret true)) (fun env => (((getW env 1).bind fun d => ((getW env 2).bind fun d => ((getW env 3).bind fun d => ((W.ret (.int 8)).bind fun d => (W.ret []).bind fun ds => W.ret (d :: ds)).bind fun ds => W.ret (d :: ds)).bind fun ds => W.ret (d :: ds)).bind fun ds => W.ret (d :: ds)).bind fLRows)) [5] (fun env => (((W.ret (.int 3)).bind fun d => (W.ret []).bind fun ds => W.ret (d :: ds)).bind range1W)) env).bind fun d => W.ret (.nx (env.set 4 (some d))))
  fun env => (bLaw_12 env))
def bLaw (env : Env) : W Fl := (thenW ((((((getW env 1).bind fun d => (((W.ret (.int 1)).bind fun x => (((getW env 1).bind fun d => ((W.ret (.int 4)).bind fun d => (W.ret []).bind fun ds => W.ret (d :: ds)).bind fun ds => W.ret (d :: ds)).bind drawW).bind fun y => addW x y).bind fun d => (W.ret []).bind fun ds => W.ret (d :: ds)).bind fun ds => W.ret (d :: ds)).bind fLNames).bind fun d => ((((getW env 1).bind fun d => (((W.ret (.int 1)).bind fun x => (((getW env 1).bind fun d => ((W.ret (.int 4)).bind fun d => (W.ret []).bind fun ds => W.ret (d :: ds)).bind fun ds => W.ret (d :: ds)).bind drawW).bind fun y => addW x y).bind fun d => (W.ret []).bind fun ds => W.ret (d :: ds)).bind fun ds => W.ret (d :: ds)).bind fLNames).bind fun d => (W.ret []).bind fun ds => W.ret (d :: ds)).bind fun ds => W.ret (d :: ds)).bind tupW).bind fun d => ((tupG 2 (gsW (fun d env => W.ret (env.set 2 (some d))) (gsW (fun d env => W.ret (env.set 3 (some d))) (fun ds env => match ds with | [] => W.ret env | _ => W.fail)))) d env).bind fun env' => W.ret (.nx env'))
  fun env => (bLaw_13 env))
end LP.K17
namespace K17
open PySem PySem.Spec PyProof.Rows L2 PK
def topS (i : Nat) : Stmt := PySem.Challenge.pw_partkits_k17_heaps_by_turns.main.body.getD i (.Pass ⟨0, 0, 0, 0⟩)
abbrev NFeed : List Str := ["_law_script"]
theorem scFeed : FnScope NFeed ["_law_script"] (defScope (topS 9)) := ⟨rfl, rfl, rfl, by decide +kernel, rfl, by decide +kernel, by decide +kernel⟩
section
variable {P : Program} {w : World} {K : PySem.W.Frag} {mg : Str → Option Value} {base : Heap}
def spFeed (K : PySem.W.Frag) : Sp := fun vs H Q _ => ∃ (a : Addr) (ns : List Int), vs = [.ref a] ∧ SqL K H a (ns.map V.int) ∧
  ∀ p c H', H p = none → Same H H' → IsFeed H' p c → Q (.ref p) H'
theorem ok_feed {f : Addr} {fd : FuncData} {k : Nat} (F : Fun K "_law_feed" "_law_feed" (topS 9) f fd) (hL : mg "list" = none) :
    FnOk P w K mg base CX0 (k + 1) f fd ["_law_script"] (spFeed K) := by
  refine F.ok scFeed (fun vs H Q E h => ?_) (fun cdv A outer s H vs Q E hr h => ?_)
  · obtain ⟨a, ns, rfl, _⟩ := h
    rfl
  · obtain ⟨a, ns, rfl, hS, q⟩ := h
    refine ⟨_, (pss_one (ps_ret (pe_disp (pps_cons pe_str (pe_callTy (k_list K) (by rfl) hL (by decide +kernel) (pa_cons (pe_slice (ks_list K) (pv 0) po_none (po_some pe_int)) pa_nil)) (pps_cons pe_str pe_int (pps_cons pe_str pe_int (pps_cons pe_str pe_int pps_nil)))) (by rfl) (by rfl) (fun z => by cases z) (by decide)))), ?_⟩
    intro p np
    have sp : Same H (upd H p (.dK [])) := same_new (Same.refl H) np
    refine ⟨.ref a, rfl, 63, rfl, a, ns.map V.int, rfl, sp.seq hS, fun c nc => ?_⟩
    have ncp : c ≠ p := fun e => by
      rw [e, upd_same] at nc
      cases nc
    refine ⟨c, _, rfl, .inl (.inl (.inl upd_same)), fun d nd => ?_⟩
    have ndp : d ≠ p := fun e => by
      rw [e, upd_ne ncp.symm, upd_same] at nd
      cases nd
    refine ⟨?_, feed d 0 0 0, rfl, by show 4 ≤ 15; decide, ?_⟩
    · rw [upd_ne ndp.symm, upd_ne ncp.symm, upd_same]
    · rw [feed_merge]
      have s2 : Same H (upd (upd (upd H p (.dK [])) c (.lst (cutV (ns.map V.int) none (some 63)))) d (.lst (cutV (ns.map V.int) none (some 63)))) := same_new (same_new sp nc) nd
      refine q p d _ np (same_own s2 np) ⟨(ns.drop (HT.sIx ns.length 0 none)).take (HT.sIx ns.length ns.length (some 63) - HT.sIx ns.length 0 none), 0, 0, 0, upd_same, ?_, by decide⟩
      rw [upd_ne ndp, upd_same]
      unfold cutV
      rw [List.map_take, List.map_drop, List.length_map]
end
abbrev NDraw : List Str := ["_law_feed_here", "_law_many_here", "_law_figure", "_law_at", "_law_cell", "_law_mixed"]
theorem scDraw : FnScope NDraw ["_law_feed_here", "_law_many_here"] (defScope (topS 10)) := ⟨rfl, rfl, rfl, by decide +kernel, rfl, by decide +kernel, by decide +kernel⟩
section
variable {P : Program} {w : World} {K : PySem.W.Frag} {mg : Str → Option Value} {base : Heap}
theorem ok_draw {f : Addr} {fd : FuncData} {k : Nat} (F : Fun K "_law_draw" "_law_draw" (topS 10) f fd) (hl : mg "len" = none) :
    FnOk P w K mg base CX0 (k + 1) f fd ["_law_feed_here", "_law_many_here"] spDraw := by
  refine F.ok scDraw (fun vs H Q E h => ?_) (fun cdv A outer s H vs Q E hr h => ?_)
  · obtain ⟨a, c, m, rfl, _⟩ := h
    rfl
  · obtain ⟨a, c, m, rfl, ⟨cs, i, l, n, fd⟩, m0, m1, q⟩ := h
    have e0 : Ext a H H := Ext.refl a H
    refine ⟨_, (pss_cons (ps_dput (hu_of hr) (pv 0) pe_str (pe_op op_add (pe_dget (hu_of hr) (pv 0) pe_str (fun _ _ => rfl)) pe_int) rfl)
  (pss_cons (ps_if (pt_cmpR op_gt (pe_dget (hu_of hr) (pv 0) pe_str (fun _ _ => rfl)) pe_int (nomark _))
  (pss_cons (ps_set (i := 2) scDraw.nd rfl (.inl rfl) (pe_op op_mod (pe_dget (hu_of hr) (pv 0) pe_str (fun _ _ => rfl)) (pv 1)))
  (pss_cons (ps_dput (hu_of hr) (pv 0) pe_str (pe_op op_fdiv (pe_dget (hu_of hr) (pv 0) pe_str (fun _ _ => rfl)) (pv 1)) rfl)
  (pss_one (ps_ret (pv 2))))) pss_nil)
  (pss_cons (ps_set (i := 3) scDraw.nd rfl (.inl rfl) (pe_dget (hu_of hr) (pv 0) pe_str (fun _ _ => rfl)))
  (pss_cons (ps_dput (hu_of hr) (pv 0) pe_str (pe_op op_add (pv 3) pe_int) rfl)
  (Evl.pss_cut (ps_set (i := 4) scDraw.nd rfl (.inl rfl) (pe_ifExp (pt_cmpR (ko_neNil K hr) (pe_dget (hu_of hr) (pv 0) pe_str (fun _ _ => rfl)) (pe_lst pa_nil) (nomark _)) (pe_ix (kx_list K) (pe_dget (hu_of hr) (pv 0) pe_str (fun _ _ => rfl)) (pe_op op_mod (pv 3) (pe_callB (k_len K) (by rfl) hl PySem.boot_len (pa_cons (pe_dget (hu_of hr) (pv 0) pe_str (fun _ _ => rfl)) pa_nil))) (fun _ _ => rfl)) pe_int))
  (Evl.pss_cut (ps_if (PW.pt (pw_and (pt_cmpR op_ge (pv 4) (pe_op op_pow pe_int pe_int) (nomark _)) (pw_and1 (pt_cmpR op_lt (pv 3) (pe_callB (k_len K) (by rfl) hl PySem.boot_len (pa_cons (pe_dget (hu_of hr) (pv 0) pe_str (fun _ _ => rfl)) pa_nil)) (nomark _)))))
  (pss_cons (ps_dput (hu_of hr) (pv 0) pe_str (pe_op op_fdiv (pv 4) (pv 1)) rfl)
  (pss_one (ps_ret (pe_op op_mod (pv 4) (pv 1))))) pss_nil)
  (pss_cons (ps_set (i := 5) scDraw.nd rfl (.inl rfl) (pe_op op_mod (pe_op op_add (pe_op op_add (pe_op op_mod (pv 4) pe_int) (pe_op op_mul pe_int (pe_dget (hu_of hr) (pv 0) pe_str (fun _ _ => rfl)))) pe_int) pe_int))
  (pss_cons (ps_set (i := 5) scDraw.nd rfl (.inl rfl) (pe_op op_mod (pe_op op_add (pe_op op_add (pe_op op_mul (pv 5) (pv 5)) (pe_op op_mul pe_int (pe_dget (hu_of hr) (pv 0) pe_str (fun _ _ => rfl)))) pe_int) pe_int))
  (pss_one (ps_ret (pe_op op_mod (pe_op op_fdiv (pe_op op_mod (pe_op op_add (pe_op op_mul (pv 5) (pv 5)) (pe_op op_mul pe_int (pv 5))) pe_int) pe_int) (pv 1)))))))))))), ?_⟩
    refine ⟨.ref a, rfl, a, .int n, rfl, DGet.k (k := kN) fd.d, n, 1, rfl, rfl, .ref a, rfl, a, _, rfl, DPut.k (k := kN) fd.d (feed_len c i l n), ?_⟩
    rw [feed_putN]
    have f1 := fd.put (l' := l) (n' := n + 1) fd.i0
    have e1 : Ext a H (upd H a (.dK (feed c i l (n + 1)))) := e0.at
    generalize upd H a (.dK (feed c i l (n + 1))) = H1 at f1 e1
    refine ⟨.ref a, rfl, a, .int l, rfl, DGet.k (k := kL) f1.d, l, 0, rfl, rfl, _, rfl, ite2 (fun hl0 => ?_) (fun hl0 => ?_)⟩
    · have hl0 : 0 < l := of_decide_eq_true hl0
      refine ⟨.ref a, rfl, a, .int l, rfl, DGet.k (k := kL) f1.d, .int m, rfl, l, m, rfl, rfl, m0, ?_⟩
      refine ⟨.ref a, rfl, a, .int l, rfl, DGet.k (k := kL) f1.d, .int m, rfl, l, m, rfl, rfl, ⟨m0, by omega⟩, .ref a, rfl, a, _, rfl, DPut.k (k := kL) f1.d (feed_len c i l (n + 1)), ?_⟩
      rw [feed_putL]
      refine ⟨.int (l % m), rfl, q _ _ (Int.emod_nonneg _ (by omega)) (Int.emod_lt_of_pos _ m0) e1.at ?_⟩
      exact ⟨cs, _, _, _, f1.put f1.i0⟩
    · refine ⟨.ref a, rfl, a, .int i, rfl, DGet.k (k := kA) f1.d, .int i, rfl, i, 1, rfl, rfl, .ref a, rfl, a, _, rfl, DPut.k (k := kA) f1.d (feed_len c i l (n + 1)), ?_⟩
      rw [feed_putA]
      have i1 : 0 ≤ i + 1 := by have := f1.i0; omega
      have f2 := f1.put (l' := l) (n' := n + 1) i1
      have e2 : Ext a H (upd H1 a (.dK (feed c (i + 1) l (n + 1)))) := e1.at
      generalize upd H1 a (.dK (feed c (i + 1) l (n + 1))) = H2 at f2 e2
      -- the cell
      refine ⟨fun σ H3 => ∃ z, σ = [some (.ref a), some (.int m), none, some (.int i), some (.int z), none] ∧ Feed H3 a c cs (i + 1) l (n + 1) ∧ Ext a H H3, ?_, ?_⟩
      · refine ⟨.ref a, rfl, a, .ref c, rfl, DGet.k (k := kC) f2.d, Nat.zero_le _, fun p np => ⟨c, p, cs.map V.int, rfl, rfl, .inl (.inl ((f2.new np).l)), .inl (.inl upd_same), ?_⟩⟩
        have f3 := f2.new (o := .lst []) np
        have e3 : Ext a H (upd H2 p (.lst [])) := e2.new np
        generalize upd H2 p (.lst []) = H3 at f3 e3
        cases cs with
        | nil => exact ⟨_, rfl, iteF ⟨8, rfl, f3, e3⟩⟩
        | cons x r =>
          have hlen : (((x :: r).map V.int).length : Int) = ((r.length + 1 : Nat) : Int) := by
            rw [List.length_map, List.length_cons]
          refine ⟨_, rfl, iteT ⟨.ref a, rfl, a, .ref c, rfl, DGet.k (k := kC) f3.d, .int i, rfl, .ref a, rfl, a, .ref c, rfl, DGet.k (k := kC) f3.d, c, _, rfl, .inl (.inl (.inl f3.l)), i, _, rfl, rfl, ?_, ?_⟩⟩
          · rw [hlen]
            omega
          · have hb : (i % ((((x :: r).map V.int).length : Nat) : Int)).toNat < (x :: r).length := by
              rw [hlen, List.length_cons]
              have h1 := Int.emod_nonneg i (show ((r.length + 1 : Nat) : Int) ≠ 0 by omega)
              have h2 := Int.emod_lt_of_pos i (show (0 : Int) < ((r.length + 1 : Nat) : Int) by omega)
              omega
            have h0 : 0 ≤ i % ((((x :: r).map V.int).length : Nat) : Int) := Int.emod_nonneg _ (by rw [hlen]; omega)
            refine ⟨c, _, _, .int ((x :: r)[(i % ((((x :: r).map V.int).length : Nat) : Int)).toNat]), rfl, rfl, .inl (.inl f3.l), at_of (j := (i % ((((x :: r).map V.int).length : Nat) : Int)).toNat) (by omega) ?_, ?_⟩
            · rw [List.getElem?_map, List.getElem?_eq_getElem hb]
              rfl
            · exact ⟨_, rfl, f3, e3⟩
      · rintro σ H3 ⟨z, rfl, f3, e3⟩
        -- a great cell, or a lesser one
        refine ⟨fun σ H4 => σ = [some (.ref a), some (.int m), none, some (.int i), some (.int z), none] ∧ H4 = H3, ?_, ?_⟩
        · refine ⟨.int z, rfl, 10, 18, rfl, rfl, ⟨by decide, by decide, by decide⟩, _, _, rfl, rfl, _, rfl, ite2 (fun hz => ?_) (fun hz => iteF ⟨rfl, rfl⟩)⟩
          refine ⟨.int i, rfl, .ref a, rfl, a, .ref c, rfl, DGet.k (k := kC) f3.d, c, _, rfl, .inl (.inl (.inl f3.l)), _, _, rfl, rfl, _, rfl, ite2 (fun h2 => ?_) (fun h2 => ⟨rfl, rfl⟩)⟩
          refine ⟨.int z, rfl, .int m, rfl, z, m, rfl, rfl, ⟨m0, by omega⟩, .ref a, rfl, a, _, rfl, DPut.k (k := kL) f3.d (feed_len c (i + 1) l (n + 1)), ?_⟩
          rw [feed_putL]
          refine ⟨.int z, rfl, .int m, rfl, z, m, rfl, rfl, m0, q _ _ (Int.emod_nonneg _ (by omega)) (Int.emod_lt_of_pos _ m0) e3.at ?_⟩
          exact ⟨cs, _, _, _, f3.put f3.i0⟩
        · rintro σ H4 ⟨rfl, rfl⟩
          have fin : IsFeed H4 a c := ⟨cs, _, _, _, f3⟩
          refine ⟨.int z, rfl, z, 1000000033, rfl, rfl, (show (0 : Int) < 1000000033 by decide), .ref a, rfl, a, .int (n + 1), rfl, DGet.k (k := kN) f3.d, 70001, n + 1, rfl, rfl, .inl ⟨by decide, by decide⟩, _, _, rfl, rfl, _, 37, rfl, rfl, _, 2147483587, rfl, rfl, (show (0 : Int) < 2147483587 by decide), ?_⟩
          dsimp only
          have hx0 := Int.emod_nonneg (z % 1000000033 + 70001 * (n + 1) + 37) (show (2147483587 : Int) ≠ 0 by decide)
          have hx1 := Int.emod_lt_of_pos (z % 1000000033 + 70001 * (n + 1) + 37) (show (0 : Int) < 2147483587 by decide)
          generalize (z % 1000000033 + 70001 * (n + 1) + 37) % 2147483587 = x at hx0 hx1
          refine ⟨.int x, rfl, .int x, rfl, x, x, rfl, rfl, .inl ⟨by omega, by omega⟩, .ref a, rfl, a, .int (n + 1), rfl, DGet.k (k := kN) f3.d, 6700417, n + 1, rfl, rfl, .inl ⟨by decide, by decide⟩, _, _, rfl, rfl, _, 7, rfl, rfl, _, 2147483563, rfl, rfl, (show (0 : Int) < 2147483563 by decide), ?_⟩
          dsimp only
          have hy0 := Int.emod_nonneg (x * x + 6700417 * (n + 1) + 7) (show (2147483563 : Int) ≠ 0 by decide)
          have hy1 := Int.emod_lt_of_pos (x * x + 6700417 * (n + 1) + 7) (show (0 : Int) < 2147483563 by decide)
          generalize (x * x + 6700417 * (n + 1) + 7) % 2147483563 = y at hy0 hy1
          refine ⟨.int y, rfl, .int y, rfl, y, y, rfl, rfl, .inl ⟨by omega, by omega⟩, .int y, rfl, 17, y, rfl, rfl, .inl ⟨by decide, by decide⟩, _, _, rfl, rfl, _, 2147483549, rfl, rfl, (show (0 : Int) < 2147483549 by decide), _, 8, rfl, rfl, ⟨by decide, by decide⟩, .int m, rfl, _, m, rfl, rfl, m0, ?_⟩
          exact q _ _ (Int.emod_nonneg _ (by omega)) (Int.emod_lt_of_pos _ m0) e3 fin
end
end K17
namespace LP.K17
open PySem PySem.Spec PyProof.Rows L2 PK LP RZ
open _root_.K17 (topS)
section
variable {Γ : Sig} {mg : Str → Option Value} {base : Heap}
abbrev NLNames : List Str := ["_law_feed_here", "_law_many_here", "_law_letters", "_law_found", "_law_at", "_law_k", "_law_tail", "_law_j"]
theorem scLNames : FnScope NLNames ["_law_feed_here", "_law_many_here"] (defScope (topS 11)) := ⟨rfl, rfl, rfl, by decide +kernel, rfl, by decide +kernel, by decide +kernel⟩
theorem ok_LNames {f : Addr} {fd : FuncData} (F : Fun Γ.K "_law_names" "_law_names" (topS 11) f fd) (hB : NoB mg BL)  {gDraw : Addr} {dDraw : FuncData} (CDraw : CalV Γ mg base 1 "_law_draw" gDraw dDraw ["_law_feed_here", "_law_many_here"] drawW) :
    FnOk Γ.P Γ.w Γ.K mg base CX0 2 f fd ["_law_feed_here", "_law_many_here"] (liF Γ fLNames) :=
  ok_run F scLNames rfl rfl (fun fe cdv A outer s H E hr =>
  (lss_cons (O2 := []) (ls_set (O' := []) (i := 2) scLNames.nd rfl (.inr rfl) le_str)
  (lss_cons (O2 := [3]) (ls_own (O' := []) (i := 3) scLNames.nd rfl (.inl rfl) (ln_lst la_nil))
  (lss_cons (O2 := [3]) (ls_set (O' := [3]) (i := 4) scLNames.nd rfl (.inl rfl) (le_call CDraw rfl rfl rfl rfl rfl (hr.mono (by decide)) (by rfl) (la_cons (le_var 0 (by decide) (pv 0)) (la_cons le_int la_nil))))
  (lss_cons (O2 := []) (ls_for (vs := [5]) PassesOwn.never rfl (li_range (by rfl) (hB "range" (by decide +kernel)) (la_cons (le_var 1 (by decide) (pv 1)) la_nil)) (lg_name 5 (by decide) (by decide) (pg_name (i := 5) scLNames.nd rfl (.inl rfl)))
  (lss_last (ls_if (O' := [3]) (PW.pt (lw_and (lt_ne hr rfl (lb_var 3 (pv 3)) (lb (le_lst la_nil))) (lw_and (lt_lt (lb (le_len rfl (by rfl) (hB "len" (by decide +kernel)) (lab_cons (lb (le_item rfl (fun _ _ => rfl) (lb_var 3 (pv 3)) (lb (le_neg le_int)))) lab_nil))) (lb le_int)) (lw_and1 (lt_eq hr rfl (lb (le_call CDraw rfl rfl rfl rfl rfl (hr.mono (by decide)) (by rfl) (la_cons (le_var 0 (by decide) (pv 0)) (la_cons le_int la_nil)))) (lb le_int))))))
  (lss_last (ls_append (i := 3) (by decide) (pe_bm PySem.F.plainAttrs_list PySem.F.slot_list_append PySem.F.type_list_append mt_append (pv 3) (pa_cons (le_add rfl (lb (le_item rfl (fun _ _ => rfl) (lb_var 3 (pv 3)) (lb (le_neg le_int)))) (lb (le_item rfl (fun _ _ => rfl) (lb_var 2 (pv 2)) (lb (le_call CDraw rfl rfl rfl rfl rfl (hr.mono (by decide)) (by rfl) (la_cons (le_var 0 (by decide) (pv 0)) (la_cons le_int la_nil))))))) pa_nil)))) (lss_cons (O2 := [3]) (ls_set (O' := [3]) (i := 4) scLNames.nd rfl (.inl rfl) (le_add rfl (lb_var 4 (pv 4)) (lb le_int)))
  (lss_cons (O2 := [3]) (ls_lcF (O' := [3]) (i := 6) (own := [("_law_j", 7)]) rfl scLNames.nd rfl rfl (sw_true rfl rfl rfl (by decide +kernel)) (li_range (by rfl) (hB "range" (by decide +kernel)) (la_cons (le_item rfl (fun _ _ => rfl) (lb (le_lst (la_cons le_int (la_cons le_int (la_cons le_int (la_cons le_int la_nil)))))) (lb (le_call CDraw rfl rfl rfl rfl rfl (hr.mono (by decide)) (by rfl) (la_cons (le_var 0 (by decide) (pv 0)) (la_cons le_int la_nil))))) la_nil)) (blkOk_by (N := NLNames) (sc := defScope (topS 11)) (own := [("_law_j", 7)]) (by decide +kernel)) (by decide) (fun _ _ _ _ _ => (lg_name 7 (by decide) (by decide) (pg_name (i := 7) scLNames.nd rfl (.inl rfl)))) (fun _ _ _ _ _ => lts_nil) (fun _ _ _ _ _ => (le_item rfl (fun _ _ => rfl) (lb_var 2 (pv 2)) (lb (le_call CDraw rfl rfl rfl rfl rfl (hr.mono (by decide)) (by rfl) (la_cons (le_var 0 (by decide) (pv 0)) (la_cons le_int la_nil)))))))
  (lss_last (ls_append (i := 3) (by decide) (pe_bm PySem.F.plainAttrs_list PySem.F.slot_list_append PySem.F.type_list_append mt_append (pv 3) (pa_cons (le_add rfl (lb (le_item rfl (fun _ _ => rfl) (lb_var 2 (pv 2)) (lb (le_mod (lb_var 4 (pv 4)) (lb le_int))))) (lb (le_join rfl (lb le_str) (lb_var 6 (pv 6))))) pa_nil)))))))))
  (lss_one (ls_ret (le_var 3 (by decide) (pv 3)))))))))
abbrev NLMany : List Str := ["_law_feed_here"]
theorem scLMany : FnScope NLMany ["_law_feed_here"] (defScope (topS 12)) := ⟨rfl, rfl, rfl, by decide +kernel, rfl, by decide +kernel, by decide +kernel⟩
theorem ok_LMany {f : Addr} {fd : FuncData} (F : Fun Γ.K "_law_many" "_law_many" (topS 12) f fd) (hB : NoB mg BL)  {gDraw : Addr} {dDraw : FuncData} (CDraw : CalV Γ mg base 1 "_law_draw" gDraw dDraw ["_law_feed_here", "_law_many_here"] drawW) :
    FnOk Γ.P Γ.w Γ.K mg base CX0 2 f fd ["_law_feed_here"] (liF Γ fLMany) :=
  ok_run F scLMany rfl rfl (fun fe cdv A outer s H E hr =>
  (lss_one (ls_ret (le_item rfl (fun _ _ => rfl) (lb (le_lst (la_cons le_int (la_cons (le_add rfl (lb le_int) (lb (le_call CDraw rfl rfl rfl rfl rfl (hr.mono (by decide)) (by rfl) (la_cons (le_var 0 (by decide) (pv 0)) (la_cons le_int la_nil))))) (la_cons (le_sub (lb (le_pow (lb le_int) (lb le_int))) (lb (le_call CDraw rfl rfl rfl rfl rfl (hr.mono (by decide)) (by rfl) (la_cons (le_var 0 (by decide) (pv 0)) (la_cons le_int la_nil))))) (la_cons (le_add rfl (lb le_int) (lb (le_call CDraw rfl rfl rfl rfl rfl (hr.mono (by decide)) (by rfl) (la_cons (le_var 0 (by decide) (pv 0)) (la_cons (le_pow (lb le_int) (lb le_int)) la_nil))))) la_nil)))))) (lb (le_call CDraw rfl rfl rfl rfl rfl (hr.mono (by decide)) (by rfl) (la_cons (le_var 0 (by decide) (pv 0)) (la_cons le_int la_nil))))))))
abbrev NLRows : List Str := ["_law_feed_here", "_law_forms", "_law_shades", "_law_most_now", "_law_found", "_law_k", "_law_form", "_law_shade"]
theorem scLRows : FnScope NLRows ["_law_feed_here", "_law_forms", "_law_shades", "_law_most_now"] (defScope (topS 13)) := ⟨rfl, rfl, rfl, by decide +kernel, rfl, by decide +kernel, by decide +kernel⟩
theorem ok_LRows {f : Addr} {fd : FuncData} (F : Fun Γ.K "_law_rows" "_law_rows" (topS 13) f fd) (hB : NoB mg BL)  {gDraw : Addr} {dDraw : FuncData} (CDraw : CalV Γ mg base 1 "_law_draw" gDraw dDraw ["_law_feed_here", "_law_many_here"] drawW) {gLMany : Addr} {dLMany : FuncData} (CLMany : CalV Γ mg base 2 "_law_many" gLMany dLMany ["_law_feed_here"] fLMany) :
    FnOk Γ.P Γ.w Γ.K mg base CX0 3 f fd ["_law_feed_here", "_law_forms", "_law_shades", "_law_most_now"] (liF Γ fLRows) :=
  ok_run F scLRows rfl rfl (fun fe cdv A outer s H E hr =>
  (lss_cons (O2 := [4]) (ls_own (O' := []) (i := 4) scLRows.nd rfl (.inl rfl) (ln_lst la_nil))
  (lss_cons (O2 := []) (ls_for (vs := [5]) PassesOwn.never rfl (li_range (by rfl) (hB "range" (by decide +kernel)) (la_cons (le_call CDraw rfl rfl rfl rfl rfl (hr.mono (by decide)) (by rfl) (la_cons (le_var 0 (by decide) (pv 0)) (la_cons (le_add rfl (lb_var 3 (pv 3)) (lb le_int)) la_nil))) la_nil)) (lg_name 5 (by decide) (by decide) (pg_name (i := 5) scLRows.nd rfl (.inl rfl)))
  (lss_cons (O2 := [4]) (ls_set (O' := [4]) (i := 6) scLRows.nd rfl (.inl rfl) (le_item rfl (fun _ _ => rfl) (lb_var 1 (pv 1)) (lb (le_call CDraw rfl rfl rfl rfl rfl (hr.mono (by decide)) (by rfl) (la_cons (le_var 0 (by decide) (pv 0)) (la_cons (le_len rfl (by rfl) (hB "len" (by decide +kernel)) (lab_cons (lb_var 1 (pv 1)) lab_nil)) la_nil))))))
  (lss_cons (O2 := [4]) (ls_set (O' := [4]) (i := 7) scLRows.nd rfl (.inl rfl) (le_item rfl (fun _ _ => rfl) (lb_var 2 (pv 2)) (lb (le_call CDraw rfl rfl rfl rfl rfl (hr.mono (by decide)) (by rfl) (la_cons (le_var 0 (by decide) (pv 0)) (la_cons (le_len rfl (by rfl) (hB "len" (by decide +kernel)) (lab_cons (lb_var 2 (pv 2)) lab_nil)) la_nil))))))
  (lss_last (ls_append (i := 4) (by decide) (pe_bm PySem.F.plainAttrs_list PySem.F.slot_list_append PySem.F.type_list_append mt_append (pv 4) (pa_cons (le_tup (la_cons (le_var 6 (by decide) (pv 6)) (la_cons (le_var 7 (by decide) (pv 7)) (la_cons (le_call CLMany rfl rfl rfl rfl rfl (hr.mono (by decide)) (by rfl) (la_cons (le_var 0 (by decide) (pv 0)) la_nil)) la_nil)))) pa_nil)))))))
  (lss_one (ls_ret (le_tuple rfl (by rfl) (hB "tuple" (by decide +kernel)) (lab_cons (lb_var 4 (pv 4)) lab_nil)))))))
abbrev NSummed : List Str := ["_law_rows_here", "_law_found", "_law_rest", "_law_row", "_law_part", "_law_one"]
theorem scSummed : FnScope NSummed ["_law_rows_here"] (defScope (topS 14)) := ⟨rfl, rfl, rfl, by decide +kernel, rfl, by decide +kernel, by decide +kernel⟩
theorem ok_Summed {f : Addr} {fd : FuncData} (F : Fun Γ.K "_law_summed" "_law_summed" (topS 14) f fd) (hB : NoB mg BL)  :
    FnOk Γ.P Γ.w Γ.K mg base CX0 1 f fd ["_law_rows_here"] (liF Γ fSummed) :=
  ok_run F scSummed rfl rfl (fun fe cdv A outer s H E hr =>
  (lss_cons (O2 := [1]) (ls_parN (i := 1) (j := 2) rfl scSummed.nd rfl rfl (by decide) rfl rfl (le_new (ln_lc (own := [("_law_row", 3)]) rfl scSummed.nd (li_tup (le_var 0 (by decide) (pv 0)) rfl) (blkOk_by (N := NSummed) (sc := defScope (topS 14)) (own := [("_law_row", 3)]) (by decide +kernel)) (by decide) (fun _ _ _ _ _ => (lg_name 3 (by decide) (by decide) (pg_name (i := 3) scSummed.nd rfl (.inl rfl)))) (fun _ _ _ _ _ => lts_nil) (fun _ _ _ _ _ => (le_slice rfl (lb_var 3 (pv 3)) lo_none (lo_some le_int))))) (by rfl) (by decide) (by decide))
  (lss_cons (O2 := []) (ls_while PassesOwn.never (lt_ne hr rfl (lb_var 2 (pv 2)) (lb (le_lst la_nil)))
  (lss_cons (O2 := [1]) (ls_set (O' := [1]) (i := 4) scSummed.nd rfl (.inr rfl) (le_minL rfl hr rfl (by rfl) (hB "min" (by decide +kernel)) (lab_cons (lb_var 2 (pv 2)) lab_nil)))
  (lss_cons (O2 := [1]) (ls_lcF (O' := [1]) (i := 2) (own := [("_law_one", 5)]) rfl scSummed.nd rfl rfl (sw_true rfl rfl rfl (by decide +kernel)) (li_list (le_var 2 (by decide) (pv 2)) rfl) (blkOk_by (N := NSummed) (sc := defScope (topS 14)) (own := [("_law_one", 5)]) (by decide +kernel)) (by decide) (fun _ _ _ _ _ => (lg_name 5 (by decide) (by decide) (pg_name (i := 5) scSummed.nd rfl (.inl rfl)))) (fun _ _ _ _ _ => (lts_one (lt_ne hr rfl (lb_var 5 (pv 5)) (lb_var 4 (pv 4))))) (fun _ _ _ _ _ => (le_var 5 (by decide) (pv 5))))
  (lss_last (ls_append (i := 1) (by decide) (pe_bm PySem.F.plainAttrs_list PySem.F.slot_list_append PySem.F.type_list_append mt_append (pv 1) (pa_cons (le_add rfl (lb_var 4 (pv 4)) (lb (le_tup (la_cons (le_sum rfl rfl (by rfl) (hB "sum" (by decide +kernel)) (lab_cons (lb (le_new (ln_lc (own := [("_law_row", 3)]) rfl scSummed.nd (li_tup (le_var 0 (by decide) (pv 0)) rfl) (blkOk_by (N := NSummed) (sc := defScope (topS 14)) (own := [("_law_row", 3)]) (by decide +kernel)) (by decide) (fun _ _ _ _ _ => (lg_name 3 (by decide) (by decide) (pg_name (i := 3) scSummed.nd rfl (.inl rfl)))) (fun _ _ _ _ _ => (lts_one (lt_eq hr rfl (lb (le_slice rfl (lb_var 3 (pv 3)) lo_none (lo_some le_int))) (lb_var 4 (pv 4))))) (fun _ _ _ _ _ => (le_item rfl (fun _ _ => rfl) (lb_var 3 (pv 3)) (lb le_int)))))) lab_nil)) la_nil)))) pa_nil)))))))
  (lss_one (ls_ret (le_tuple rfl (by rfl) (hB "tuple" (by decide +kernel)) (lab_cons (lb_var 1 (pv 1)) lab_nil)))))))
abbrev NStr : List Str := ["self", "form", "shade", "many"]
theorem scStr : FnScope NStr ["self"] (defScope (inClass (topS 7) 10)) := ⟨rfl, rfl, rfl, by decide +kernel, rfl, by decide +kernel, by decide +kernel⟩
theorem ok_Str {f : Addr} {fd : FuncData} (F : Fun Γ.K "__str__" "Heap.__str__" (inClass (topS 7) 10) f fd) (hB : NoB mg BL) {C : Addr} (Hs : HSig Γ C) (Hc : HCls Γ.K mg C) :
    FnOk Γ.P Γ.w Γ.K mg base CX0 1 f fd ["self"] (liF Γ fStr) :=
  ok_run F scStr rfl rfl (fun fe cdv A outer s H E hr =>
  (lss_cons (O2 := []) (ls_if (O' := []) (lt_eq hr rfl (lb (le_len rfl (by rfl) (hB "len" (by decide +kernel)) (lab_cons (lb (le_fld (i := 0) rfl Hc.cl Hc.nh Hs.cl (by rw [Hs.fl]; decide +kernel) (by rw [Hs.fl]; rfl) (le_var 0 (by decide) (pv 0)) rfl)) lab_nil))) (lb le_int))
  (lss_one (ls_ret le_str)) lss_nil)
  (lss_one (ls_ret (le_join rfl (lb le_str) (lb (le_new (ln_lc (own := [("form", 1), ("shade", 2), ("many", 3)]) rfl scStr.nd (li_tup (le_fld (i := 0) rfl Hc.cl Hc.nh Hs.cl (by rw [Hs.fl]; decide +kernel) (by rw [Hs.fl]; rfl) (le_var 0 (by decide) (pv 0)) rfl) rfl) (blkOk_by (N := NStr) (sc := defScope (inClass (topS 7) 10)) (own := [("form", 1), ("shade", 2), ("many", 3)]) (by decide +kernel)) (by decide) (fun _ _ _ _ _ => (lg_tup (n := 3) rfl rfl (lgs_cons (lg_name 1 (by decide) (by decide) (pg_name (i := 1) scStr.nd rfl (.inl rfl))) (lgs_cons (lg_name 2 (by decide) (by decide) (pg_name (i := 2) scStr.nd rfl (.inl rfl))) (lgs_cons (lg_name 3 (by decide) (by decide) (pg_name (i := 3) scStr.nd rfl (.inl rfl))) lgs_nil))))) (fun _ _ _ _ _ => lts_nil) (fun _ _ _ _ _ => (le_joined (LJ.cons (le_fmt (le_var 1 (by decide) (pv 1))) (LJ.cons le_str (LJ.cons (le_fmt (le_var 2 (by decide) (pv 2))) (LJ.cons le_str (LJ.cons (le_fmt (le_var 3 (by decide) (pv 3))) LJ.nil)))))))))))))))
abbrev NShown : List Str := ["_law_rows_here", "_law_found", "_law_form", "_law_shade", "_law_many_here"]
theorem scShown : FnScope NShown ["_law_rows_here"] (defScope (topS 17)) := ⟨rfl, rfl, rfl, by decide +kernel, rfl, by decide +kernel, by decide +kernel⟩
theorem ok_Shown {f : Addr} {fd : FuncData} (F : Fun Γ.K "_law_shown" "_law_shown" (topS 17) f fd) (hB : NoB mg BL)  :
    FnOk Γ.P Γ.w Γ.K mg base CX0 1 f fd ["_law_rows_here"] (liF Γ fShown) :=
  ok_run F scShown rfl rfl (fun fe cdv A outer s H E hr =>
  (lss_cons (O2 := [1]) (ls_own (O' := []) (i := 1) scShown.nd rfl (.inl rfl) (ln_lst la_nil))
  (lss_cons (O2 := []) (ls_for (vs := [2, 3, 4]) PassesOwn.never rfl (li_tup (le_var 0 (by decide) (pv 0)) rfl) (lg_tup (n := 3) rfl rfl (lgs_cons (lg_name 2 (by decide) (by decide) (pg_name (i := 2) scShown.nd rfl (.inl rfl))) (lgs_cons (lg_name 3 (by decide) (by decide) (pg_name (i := 3) scShown.nd rfl (.inl rfl))) (lgs_cons (lg_name 4 (by decide) (by decide) (pg_name (i := 4) scShown.nd rfl (.inl rfl))) lgs_nil))))
  (lss_last (ls_append (i := 1) (by decide) (pe_bm PySem.F.plainAttrs_list PySem.F.slot_list_append PySem.F.type_list_append mt_append (pv 1) (pa_cons (le_add rfl (lb (le_add rfl (lb (le_add rfl (lb (le_add rfl (lb_var 2 (pv 2)) (lb le_str))) (lb_var 3 (pv 3)))) (lb le_str))) (lb (le_strOf (by rfl) (hB "str" (by decide +kernel)) (lab_cons (lb_var 4 (pv 4)) lab_nil)))) pa_nil)))))
  (lss_one (ls_ret (le_if (lt_ne hr rfl (lb_var 0 (pv 0)) (lb (le_tup la_nil))) (le_join rfl (lb le_str) (lb_var 1 (pv 1))) le_str))))))
abbrev NDeed : List Str := ["_law_one", "_law_other", "_law_mode", "_law_form", "_law_found", "e"]
theorem scDeed : FnScope NDeed ["_law_one", "_law_other", "_law_mode", "_law_form"] (defScope (topS 15)) := ⟨rfl, rfl, rfl, by decide +kernel, rfl, by decide +kernel, by decide +kernel⟩
theorem ok_Deed {f : Addr} {fd : FuncData} (F : Fun Γ.K "_law_deed" "_law_deed" (topS 15) f fd) (hB : NoB mg BL)  {C : Addr} (Hs : HSig Γ C) {fI : Addr} {dI : FuncData} (Hm : HMk Γ.P Γ.w Γ.K mg base 2 C fI dI) {fEq : Addr} {dEq : FuncData} (HEq : HSp Γ.P Γ.w Γ.K mg base 1 C "__eq__" fEq dEq ["self", "other"] (spEqH Γ.K C)) {fFo : Addr} {dFo : FuncData} (MFo : MetV Γ mg base 1 0 C "forms" fFo dFo ["self"] formsW) {fHo : Addr} {dHo : FuncData} (MHo : MetV Γ mg base 3 0 C "holds" fHo dHo ["self", "other"] holdsW) {CN CF : Addr} {fLs : Addr} {dLs : FuncData} (MLs : LessV Γ mg base 4 C CN fLs dLs) (Ec : ErrV Γ.K mg CN "HeapError" CF) {fPl : Addr} {dPl : FuncData} (MPl : MetV Γ mg base 4 0 C "plus" fPl dPl ["self", "other"] plusW) {fRw : Addr} {dRw : FuncData} (MRw : MetV Γ mg base 1 0 C "rows" fRw dRw ["self"] rowsW) {fSt : Addr} {dSt : FuncData} (HSt : StrV Γ mg base 1 0 C fSt dSt fStr) :
    FnOk Γ.P Γ.w Γ.K mg base CX0 5 f fd ["_law_one", "_law_other", "_law_mode", "_law_form"] (liF Γ fDeed) :=
  ok_run F scDeed rfl rfl (fun fe cdv A outer s H E hr =>
  (lss_cons (O2 := []) (ls_if (O' := []) (lt_eq hr rfl (lb_var 2 (pv 2)) (lb le_int))
  (lss_one (ls_ret (le_meth MPl rfl rfl rfl rfl rfl (hr.mono (by decide)) (le_var 0 (by decide) (pv 0)) (la_cons (le_var 1 (by decide) (pv 1)) la_nil)))) lss_nil)
  (lss_cons (O2 := []) (ls_if (O' := []) (lt_eq hr rfl (lb_var 2 (pv 2)) (lb le_int))
  (lss_cons (O2 := []) (ls_set (O' := []) (i := 4) scDeed.nd rfl (.inl rfl) (le_var 0 (by decide) (pv 0)))
  (lss_cons (O2 := []) (ls_tryLack (i := 5) (j := 4) MLs Ec rfl rfl rfl rfl rfl (hr.mono (by decide)) rfl rfl scDeed.nd rfl rfl (by rfl) (by decide) rfl (.inl rfl) rfl (by decide) (by decide) (fun _ _ => (le_var 0 (by decide) (pv 0))) (fun _ _ => (le_var 1 (by decide) (pv 1))) (fun _ _ => pv 5))
  (lss_one (ls_ret (le_var 4 (by decide) (pv 4)))))) lss_nil)
  (lss_cons (O2 := []) (ls_if (O' := []) (lt_eq hr rfl (lb_var 2 (pv 2)) (lb le_int))
  (lss_one (ls_ret (le_heap1 Hs Hm rfl rfl rfl rfl rfl (hr.mono (by decide)) (by rfl) (le_add rfl (lb (le_meth0 MRw rfl rfl rfl rfl rfl (hr.mono (by decide)) (le_var 0 (by decide) (pv 0)))) (lb (le_slice rfl (lb (le_meth0 MRw rfl rfl rfl rfl rfl (hr.mono (by decide)) (le_var 1 (by decide) (pv 1)))) lo_none (lo_some le_int))))))) lss_nil)
  (lss_cons (O2 := []) (ls_if (O' := []) (lt_eq hr rfl (lb_var 2 (pv 2)) (lb le_int))
  (lss_one (ls_ret (le_if (lt_val (le_meth MHo rfl rfl rfl rfl rfl (hr.mono (by decide)) (le_var 0 (by decide) (pv 0)) (la_cons (le_var 1 (by decide) (pv 1)) la_nil))) (le_meth MPl rfl rfl rfl rfl rfl (hr.mono (by decide)) (le_var 0 (by decide) (pv 0)) (la_cons (le_var 0 (by decide) (pv 0)) la_nil)) (le_meth MPl rfl rfl rfl rfl rfl (hr.mono (by decide)) (le_var 0 (by decide) (pv 0)) (la_cons (le_heap1 Hs Hm rfl rfl rfl rfl rfl (hr.mono (by decide)) (by rfl) (le_tup (la_cons (le_tup (la_cons (le_var 3 (by decide) (pv 3)) (la_cons le_str (la_cons le_int la_nil)))) la_nil))) la_nil))))) lss_nil)
  (lss_cons (O2 := []) (ls_if (O' := []) (lt_eq hr rfl (lb_var 2 (pv 2)) (lb le_int))
  (lss_one (ls_ret (le_if (PW.pt (lw_or (lt_eqH Hs HEq rfl rfl rfl rfl rfl (hr.mono (by decide)) (lb_var 0 (pv 0)) (lb_var 1 (pv 1))) (lw_or1 (lt_gt (lb (le_len rfl (by rfl) (hB "len" (by decide +kernel)) (lab_cons (lb (le_strO HSt rfl rfl rfl rfl rfl (hr.mono (by decide)) (by rfl) (hB "str" (by decide +kernel)) (le_var 0 (by decide) (pv 0)))) lab_nil))) (lb (le_len rfl (by rfl) (hB "len" (by decide +kernel)) (lab_cons (lb (le_strO HSt rfl rfl rfl rfl rfl (hr.mono (by decide)) (by rfl) (hB "str" (by decide +kernel)) (le_var 1 (by decide) (pv 1)))) lab_nil))))))) (le_heap1 Hs Hm rfl rfl rfl rfl rfl (hr.mono (by decide)) (by rfl) (le_meth0 MRw rfl rfl rfl rfl rfl (hr.mono (by decide)) (le_var 0 (by decide) (pv 0)))) (le_meth MPl rfl rfl rfl rfl rfl (hr.mono (by decide)) (le_var 1 (by decide) (pv 1)) (la_cons (le_heap0 Hs Hm rfl rfl rfl rfl rfl (hr.mono (by decide)) (by rfl)) la_nil))))) lss_nil)
  (lss_one (ls_ret (le_heap1 Hs Hm rfl rfl rfl rfl rfl (hr.mono (by decide)) (by rfl) (le_slice rfl (lb (le_meth0 MRw rfl rfl rfl rfl rfl (hr.mono (by decide)) (le_var 0 (by decide) (pv 0)))) lo_none (lo_some (le_len rfl (by rfl) (hB "len" (by decide +kernel)) (lab_cons (lb (le_meth0 MFo rfl rfl rfl rfl rfl (hr.mono (by decide)) (le_var 0 (by decide) (pv 0)))) lab_nil)))))))))))))
abbrev NDue : List Str := ["_law_one", "_law_other", "_law_mode", "_law_form", "_law_mine", "_law_its", "_law_over", "_law_more", "_law_row", "_law_under", "_law_lacks"]
theorem scDue : FnScope NDue ["_law_one", "_law_other", "_law_mode", "_law_form"] (defScope (topS 16)) := ⟨rfl, rfl, rfl, by decide +kernel, rfl, by decide +kernel, by decide +kernel⟩
theorem ok_Due {f : Addr} {fd : FuncData} (F : Fun Γ.K "_law_due" "_law_due" (topS 16) f fd) (hB : NoB mg BL)  {gShown : Addr} {dShown : FuncData} (CShown : CalV Γ mg base 1 "_law_shown" gShown dShown ["_law_rows_here"] fShown) {gSummed : Addr} {dSummed : FuncData} (CSummed : CalV Γ mg base 1 "_law_summed" gSummed dSummed ["_law_rows_here"] fSummed) :
    FnOk Γ.P Γ.w Γ.K mg base CX0 2 f fd ["_law_one", "_law_other", "_law_mode", "_law_form"] (liF Γ fDue) :=
  ok_run F scDue rfl rfl (fun fe cdv A outer s H E hr =>
  (lss_cons (O2 := []) (ls_asg (vs := [4, 5]) (le_tup (la_cons (le_call CSummed rfl rfl rfl rfl rfl (hr.mono (by decide)) (by rfl) (la_cons (le_var 0 (by decide) (pv 0)) la_nil)) (la_cons (le_call CSummed rfl rfl rfl rfl rfl (hr.mono (by decide)) (by rfl) (la_cons (le_var 1 (by decide) (pv 1)) la_nil)) la_nil))) (lg_tup (n := 2) rfl rfl (lgs_cons (lg_name 4 (by decide) (by decide) (pg_name (i := 4) scDue.nd rfl (.inr rfl))) (lgs_cons (lg_name 5 (by decide) (by decide) (pg_name (i := 5) scDue.nd rfl (.inr rfl))) lgs_nil))))
  (lss_cons (O2 := []) (ls_lcF (O' := []) (i := 6) (own := [("_law_row", 8)]) rfl scDue.nd rfl rfl (sw_true rfl rfl rfl (by decide +kernel)) (li_tup (le_var 4 (by decide) (pv 4)) rfl) (blkOk_by (N := NDue) (sc := defScope (topS 16)) (own := [("_law_row", 8)]) (by decide +kernel)) (by decide) (fun _ _ _ _ _ => (lg_name 8 (by decide) (by decide) (pg_name (i := 8) scDue.nd rfl (.inr rfl)))) (fun _ _ _ _ _ => lts_nil) (fun _ _ _ _ _ => (le_add rfl (lb (le_slice rfl (lb_var 8 (pv 8)) lo_none (lo_some le_int))) (lb (le_tup (la_cons (le_sub (lb (le_item rfl (fun _ _ => rfl) (lb_var 8 (pv 8)) (lb le_int))) (lb (le_sum rfl rfl (by rfl) (hB "sum" (by decide +kernel)) (lab_cons (lb (le_new (ln_lc (own := [("_law_more", 7)]) rfl scDue.nd (li_tup (le_var 5 (by decide) (pv 5)) rfl) (blkOk_by (N := NDue) (sc := relS { kind := .function, names := [(".0", .local), ("_law_row", .cell), ("sum", .globalImplicit), ("_law_its", .free)], isGenerator := false, isCoroutine := false } (defScope (topS 16))) (own := [("_law_more", 7)]) (by decide +kernel)) (by decide) (fun _ _ _ _ _ => (lg_name 7 (by decide) (by decide) (pg_name (i := 7) scDue.nd rfl (.inl rfl)))) (fun _ _ _ _ _ => (lts_one (lt_eq hr rfl (lb (le_slice rfl (lb_var 7 (pv 7)) lo_none (lo_some le_int))) (lb (le_slice rfl (lb_var 8 (pv 8)) lo_none (lo_some le_int)))))) (fun _ _ _ _ _ => (le_item rfl (fun _ _ => rfl) (lb_var 7 (pv 7)) (lb le_int)))))) lab_nil)))) la_nil))))))
  (lss_cons (O2 := []) (ls_lcF (O' := []) (i := 9) (own := [("_law_row", 8)]) rfl scDue.nd rfl rfl (sw_true rfl rfl rfl (by decide +kernel)) (li_tup (le_var 5 (by decide) (pv 5)) rfl) (blkOk_by (N := NDue) (sc := defScope (topS 16)) (own := [("_law_row", 8)]) (by decide +kernel)) (by decide) (fun _ _ _ _ _ => (lg_name 8 (by decide) (by decide) (pg_name (i := 8) scDue.nd rfl (.inr rfl)))) (fun _ _ _ _ _ => lts_nil) (fun _ _ _ _ _ => (le_add rfl (lb (le_slice rfl (lb_var 8 (pv 8)) lo_none (lo_some le_int))) (lb (le_tup (la_cons (le_sub (lb (le_item rfl (fun _ _ => rfl) (lb_var 8 (pv 8)) (lb le_int))) (lb (le_sum rfl rfl (by rfl) (hB "sum" (by decide +kernel)) (lab_cons (lb (le_new (ln_lc (own := [("_law_more", 7)]) rfl scDue.nd (li_tup (le_var 4 (by decide) (pv 4)) rfl) (blkOk_by (N := NDue) (sc := relS { kind := .function, names := [(".0", .local), ("_law_row", .cell), ("sum", .globalImplicit), ("_law_mine", .free)], isGenerator := false, isCoroutine := false } (defScope (topS 16))) (own := [("_law_more", 7)]) (by decide +kernel)) (by decide) (fun _ _ _ _ _ => (lg_name 7 (by decide) (by decide) (pg_name (i := 7) scDue.nd rfl (.inl rfl)))) (fun _ _ _ _ _ => (lts_one (lt_eq hr rfl (lb (le_slice rfl (lb_var 7 (pv 7)) lo_none (lo_some le_int))) (lb (le_slice rfl (lb_var 8 (pv 8)) lo_none (lo_some le_int)))))) (fun _ _ _ _ _ => (le_item rfl (fun _ _ => rfl) (lb_var 7 (pv 7)) (lb le_int)))))) lab_nil)))) la_nil))))))
  (lss_cons (O2 := []) (ls_set (O' := []) (i := 10) scDue.nd rfl (.inl rfl) (le_tuple rfl (by rfl) (hB "tuple" (by decide +kernel)) (lab_cons (lb (le_new (ln_lc (own := [("_law_row", 8)]) rfl scDue.nd (li_list (le_var 9 (by decide) (pv 9)) rfl) (blkOk_by (N := NDue) (sc := defScope (topS 16)) (own := [("_law_row", 8)]) (by decide +kernel)) (by decide) (fun _ _ _ _ _ => (lg_name 8 (by decide) (by decide) (pg_name (i := 8) scDue.nd rfl (.inl rfl)))) (fun _ _ _ _ _ => (lts_one (lt_gt (lb (le_item rfl (fun _ _ => rfl) (lb_var 8 (pv 8)) (lb le_int))) (lb le_int)))) (fun _ _ _ _ _ => (le_var 8 (by decide) (pv 8)))))) lab_nil)))
  (lss_cons (O2 := []) (ls_if (O' := []) (lt_eq hr rfl (lb_var 2 (pv 2)) (lb le_int))
  (lss_one (ls_ret (le_call CSummed rfl rfl rfl rfl rfl (hr.mono (by decide)) (by rfl) (la_cons (le_add rfl (lb_var 4 (pv 4)) (lb_var 5 (pv 5))) la_nil)))) lss_nil)
  (lss_cons (O2 := []) (ls_if (O' := []) (lt_eq hr rfl (lb_var 2 (pv 2)) (lb le_int))
  (lss_one (ls_ret (le_if (lt_ne hr rfl (lb_var 10 (pv 10)) (lb (le_tup la_nil))) (le_var 10 (by decide) (pv 10)) (le_tuple rfl (by rfl) (hB "tuple" (by decide +kernel)) (lab_cons (lb (le_new (ln_lc (own := [("_law_row", 8)]) rfl scDue.nd (li_list (le_var 6 (by decide) (pv 6)) rfl) (blkOk_by (N := NDue) (sc := defScope (topS 16)) (own := [("_law_row", 8)]) (by decide +kernel)) (by decide) (fun _ _ _ _ _ => (lg_name 8 (by decide) (by decide) (pg_name (i := 8) scDue.nd rfl (.inl rfl)))) (fun _ _ _ _ _ => (lts_one (lt_gt (lb (le_item rfl (fun _ _ => rfl) (lb_var 8 (pv 8)) (lb le_int))) (lb le_int)))) (fun _ _ _ _ _ => (le_var 8 (by decide) (pv 8)))))) lab_nil))))) lss_nil)
  (lss_cons (O2 := []) (ls_if (O' := []) (lt_eq hr rfl (lb_var 2 (pv 2)) (lb le_int))
  (lss_one (ls_ret (le_call CSummed rfl rfl rfl rfl rfl (hr.mono (by decide)) (by rfl) (la_cons (le_add rfl (lb_var 4 (pv 4)) (lb (le_slice rfl (lb_var 5 (pv 5)) lo_none (lo_some le_int)))) la_nil)))) lss_nil)
  (lss_cons (O2 := []) (ls_if (O' := []) (lt_eq hr rfl (lb_var 2 (pv 2)) (lb le_int))
  (lss_one (ls_ret (le_if (lt_eq hr rfl (lb_var 10 (pv 10)) (lb (le_tup la_nil))) (le_call CSummed rfl rfl rfl rfl rfl (hr.mono (by decide)) (by rfl) (la_cons (le_add rfl (lb_var 4 (pv 4)) (lb_var 4 (pv 4))) la_nil)) (le_call CSummed rfl rfl rfl rfl rfl (hr.mono (by decide)) (by rfl) (la_cons (le_add rfl (lb_var 4 (pv 4)) (lb (le_tup (la_cons (le_tup (la_cons (le_var 3 (by decide) (pv 3)) (la_cons le_str (la_cons le_int la_nil)))) la_nil)))) la_nil))))) lss_nil)
  (lss_cons (O2 := []) (ls_if (O' := []) (lt_eq hr rfl (lb_var 2 (pv 2)) (lb le_int))
  (lss_one (ls_ret (le_if (PW.pt (lw_or (lt_eq hr rfl (lb_var 4 (pv 4)) (lb_var 5 (pv 5))) (lw_or1 (lt_gt (lb (le_len rfl (by rfl) (hB "len" (by decide +kernel)) (lab_cons (lb (le_call CShown rfl rfl rfl rfl rfl (hr.mono (by decide)) (by rfl) (la_cons (le_var 4 (by decide) (pv 4)) la_nil))) lab_nil))) (lb (le_len rfl (by rfl) (hB "len" (by decide +kernel)) (lab_cons (lb (le_call CShown rfl rfl rfl rfl rfl (hr.mono (by decide)) (by rfl) (la_cons (le_var 5 (by decide) (pv 5)) la_nil))) lab_nil))))))) (le_var 4 (by decide) (pv 4)) (le_var 5 (by decide) (pv 5))))) lss_nil)
  (lss_one (ls_ret (le_slice rfl (lb_var 4 (pv 4)) lo_none (lo_some (le_lenS rfl rfl (by rfl) (hB "len" (by decide +kernel)) (lab_cons (lb (le_set hr rfl rfl rfl (by rfl) (hB "set" (by decide +kernel)) (lab_cons (lb (le_new (ln_lc (own := [("_law_row", 8)]) rfl scDue.nd (li_tup (le_var 4 (by decide) (pv 4)) rfl) (blkOk_by (N := NDue) (sc := defScope (topS 16)) (own := [("_law_row", 8)]) (by decide +kernel)) (by decide) (fun _ _ _ _ _ => (lg_name 8 (by decide) (by decide) (pg_name (i := 8) scDue.nd rfl (.inl rfl)))) (fun _ _ _ _ _ => lts_nil) (fun _ _ _ _ _ => (le_item rfl (fun _ _ => rfl) (lb_var 8 (pv 8)) (lb le_int)))))) lab_nil))) lab_nil))))))))))))))))
abbrev NLaw : List Str := ["_law_script", "_law_feed_here", "_law_forms", "_law_shades", "_law_lots", "_law_k", "_law_before", "_law_heaps", "_law_rows_here", "_law_due_here", "_law_one", "_law_other", "_law_mode", "_law_form", "_law_j", "_law_entire", "_law_row"]
theorem scLaw : FnScope NLaw ["_law_script"] (defScope (topS 18)) := ⟨rfl, rfl, rfl, by decide +kernel, rfl, by decide +kernel, by decide +kernel⟩
theorem ok_law {f fF : Addr} {fd fdF : FuncData} (F : Fun Γ.K "law" "law" (topS 18) f fd) (hB : NoB mg BL) (Fe : Cal Γ.P Γ.w Γ.K mg base 1 "_law_feed" fF fdF ["_law_script"] (spFeedOf Γ.fk Γ.K)) {gDeed : Addr} {dDeed : FuncData} (CDeed : CalV Γ mg base 5 "_law_deed" gDeed dDeed ["_law_one", "_law_other", "_law_mode", "_law_form"] fDeed) {gDraw : Addr} {dDraw : FuncData} (CDraw : CalV Γ mg base 1 "_law_draw" gDraw dDraw ["_law_feed_here", "_law_many_here"] drawW) {gDue : Addr} {dDue : FuncData} (CDue : CalV Γ mg base 2 "_law_due" gDue dDue ["_law_one", "_law_other", "_law_mode", "_law_form"] fDue) {gLNames : Addr} {dLNames : FuncData} (CLNames : CalV Γ mg base 2 "_law_names" gLNames dLNames ["_law_feed_here", "_law_many_here"] fLNames) {gLRows : Addr} {dLRows : FuncData} (CLRows : CalV Γ mg base 3 "_law_rows" gLRows dLRows ["_law_feed_here", "_law_forms", "_law_shades", "_law_most_now"] fLRows) {gShown : Addr} {dShown : FuncData} (CShown : CalV Γ mg base 1 "_law_shown" gShown dShown ["_law_rows_here"] fShown) {gSummed : Addr} {dSummed : FuncData} (CSummed : CalV Γ mg base 1 "_law_summed" gSummed dSummed ["_law_rows_here"] fSummed) {C : Addr} (Hs : HSig Γ C) {fI : Addr} {dI : FuncData} (Hm : HMk Γ.P Γ.w Γ.K mg base 2 C fI dI) {fLn : Addr} {dLn : FuncData} (HLn : HSp Γ.P Γ.w Γ.K mg base 1 C "__len__" fLn dLn ["self"] (spLenH Γ.K C)) {fM2 : Addr} {dM2 : FuncData} (MM2 : MetN Γ mg base 1 0 C "many" fM2 dM2 ["self", "form", "shade"] 2 (noneV 1) manyW) {fRw : Addr} {dRw : FuncData} (MRw : MetV Γ mg base 1 0 C "rows" fRw dRw ["self"] rowsW) {fSt : Addr} {dSt : FuncData} (HSt : StrV Γ mg base 1 0 C fSt dSt fStr)
    (hp : (bLaw (lawE 17)).wp (fun f => ∃ b, f = .rt (.bl b) ∧ b = true) fun _ => False) :
    FnG Γ.P Γ.w Γ.K mg base CX0 6 f fd ["_law_script"] (spLawK Γ.K) :=
  law_by F scLaw rfl (by decide) (fun cdv A outer s H E hgd hr => pss_cons (ps_set (i := 1) scLaw.nd rfl (.inr rfl) (pe_call (E := fun _ _ _ => True) Fe.ok (hr.mono (by decide)) (by rfl) Fe.g Fe.kp Fe.b .nil pass0 (pa_cons (pv 0) pa_nil))) (pss_rest fun a c H0 =>
  (lss_cons (O2 := []) (ls_asg (vs := [2, 3]) (le_tup (la_cons (le_call CLNames rfl rfl rfl rfl rfl (hr.mono (by decide)) (by rfl) (la_cons (le_var 1 (by decide) (pv 1)) (la_cons (le_add rfl (lb le_int) (lb (le_call CDraw rfl rfl rfl rfl rfl (hr.mono (by decide)) (by rfl) (la_cons (le_var 1 (by decide) (pv 1)) (la_cons le_int la_nil))))) la_nil))) (la_cons (le_call CLNames rfl rfl rfl rfl rfl (hr.mono (by decide)) (by rfl) (la_cons (le_var 1 (by decide) (pv 1)) (la_cons (le_add rfl (lb le_int) (lb (le_call CDraw rfl rfl rfl rfl rfl (hr.mono (by decide)) (by rfl) (la_cons (le_var 1 (by decide) (pv 1)) (la_cons le_int la_nil))))) la_nil))) la_nil))) (lg_tup (n := 2) rfl rfl (lgs_cons (lg_name 2 (by decide) (by decide) (pg_name (i := 2) scLaw.nd rfl (.inr rfl))) (lgs_cons (lg_name 3 (by decide) (by decide) (pg_name (i := 3) scLaw.nd rfl (.inr rfl))) lgs_nil))))
  (lss_cons (O2 := []) (ls_lcF (O' := []) (i := 4) (own := [("_law_k", 5)]) rfl scLaw.nd rfl rfl (sw_true rfl rfl rfl (by decide +kernel)) (li_range (by rfl) (hB "range" (by decide +kernel)) (la_cons le_int la_nil)) (blkOk_by (N := NLaw) (sc := defScope (topS 18)) (own := [("_law_k", 5)]) (by decide +kernel)) (by decide) (fun _ _ _ _ _ => (lg_name 5 (by decide) (by decide) (pg_name (i := 5) scLaw.nd rfl (.inl rfl)))) (fun _ _ _ _ _ => lts_nil) (fun _ _ _ _ _ => (le_call CLRows rfl rfl rfl rfl rfl (hr.mono (by decide)) (by rfl) (la_cons (le_var 1 (by decide) (pv 1)) (la_cons (le_var 2 (by decide) (pv 2)) (la_cons (le_var 3 (by decide) (pv 3)) (la_cons le_int la_nil)))))))
  (lss_cons (O2 := []) (ls_set (O' := []) (i := 6) scLaw.nd rfl (.inl rfl) (le_repr hgd hr rfl (by rfl) (hB "repr" (by decide +kernel)) (lab_cons (lb_var 4 (pv 4)) lab_nil)))
  (lss_cons (O2 := [7]) (ls_lc (O' := []) (i := 7) (own := [("_law_rows_here", 8)]) rfl scLaw.nd rfl rfl (sw_true rfl rfl rfl (by decide +kernel)) (li_list (le_var 4 (by decide) (pv 4)) rfl) (blkOk_by (N := NLaw) (sc := defScope (topS 18)) (own := [("_law_rows_here", 8)]) (by decide +kernel)) (by decide) (fun _ _ _ _ _ => (lg_name 8 (by decide) (by decide) (pg_name (i := 8) scLaw.nd rfl (.inl rfl)))) (fun _ _ _ _ _ => lts_nil) (fun _ _ _ _ _ => (le_heap1 Hs Hm rfl rfl rfl rfl rfl (hr.mono (by decide)) (by rfl) (le_var 8 (by decide) (pv 8)))))
  (lss_cons (O2 := [9, 7]) (ls_lc (O' := [7]) (i := 9) (own := [("_law_rows_here", 8)]) rfl scLaw.nd rfl rfl (sw_true rfl rfl rfl (by decide +kernel)) (li_list (le_var 4 (by decide) (pv 4)) rfl) (blkOk_by (N := NLaw) (sc := defScope (topS 18)) (own := [("_law_rows_here", 8)]) (by decide +kernel)) (by decide) (fun _ _ _ _ _ => (lg_name 8 (by decide) (by decide) (pg_name (i := 8) scLaw.nd rfl (.inl rfl)))) (fun _ _ _ _ _ => lts_nil) (fun _ _ _ _ _ => (le_call CSummed rfl rfl rfl rfl rfl (hr.mono (by decide)) (by rfl) (la_cons (le_var 8 (by decide) (pv 8)) la_nil))))
  (lss_cons (O2 := []) (ls_for (vs := [5]) PassesOwn.never rfl (li_range (by rfl) (hB "range" (by decide +kernel)) (la_cons le_int la_nil)) (lg_name 5 (by decide) (by decide) (pg_name (i := 5) scLaw.nd rfl (.inl rfl)))
  (lss_cons (O2 := [9, 7]) (ls_par (i := 10) (j := 11) rfl scLaw.nd rfl rfl (by decide) rfl rfl (la_cons (le_call CDraw rfl rfl rfl rfl rfl (hr.mono (by decide)) (by rfl) (la_cons (le_var 1 (by decide) (pv 1)) (la_cons (le_len rfl (by rfl) (hB "len" (by decide +kernel)) (lab_cons (lb_var 7 (pv 7)) lab_nil)) la_nil))) (la_cons (le_call CDraw rfl rfl rfl rfl rfl (hr.mono (by decide)) (by rfl) (la_cons (le_var 1 (by decide) (pv 1)) (la_cons (le_len rfl (by rfl) (hB "len" (by decide +kernel)) (lab_cons (lb_var 7 (pv 7)) lab_nil)) la_nil))) la_nil)) (by rfl) (by decide) (by decide))
  (lss_cons (O2 := [9, 7]) (ls_asg (vs := [12, 13]) (le_tup (la_cons (le_call CDraw rfl rfl rfl rfl rfl (hr.mono (by decide)) (by rfl) (la_cons (le_var 1 (by decide) (pv 1)) (la_cons le_int la_nil))) (la_cons (le_item rfl (fun _ _ => rfl) (lb_var 2 (pv 2)) (lb (le_call CDraw rfl rfl rfl rfl rfl (hr.mono (by decide)) (by rfl) (la_cons (le_var 1 (by decide) (pv 1)) (la_cons (le_len rfl (by rfl) (hB "len" (by decide +kernel)) (lab_cons (lb_var 2 (pv 2)) lab_nil)) la_nil))))) la_nil))) (lg_tup (n := 2) rfl rfl (lgs_cons (lg_name 12 (by decide) (by decide) (pg_name (i := 12) scLaw.nd rfl (.inl rfl))) (lgs_cons (lg_name 13 (by decide) (by decide) (pg_name (i := 13) scLaw.nd rfl (.inr rfl))) lgs_nil))))
  (lss_cons (O2 := [9, 7]) (ls_append (i := 7) (by decide) (pe_bm PySem.F.plainAttrs_list PySem.F.slot_list_append PySem.F.type_list_append mt_append (pv 7) (pa_cons (le_call CDeed rfl rfl rfl rfl rfl (hr.mono (by decide)) (by rfl) (la_cons (le_item rfl (fun _ _ => rfl) (lb_var 7 (pv 7)) (lb_var 10 (pv 10))) (la_cons (le_item rfl (fun _ _ => rfl) (lb_var 7 (pv 7)) (lb_var 11 (pv 11))) (la_cons (le_var 12 (by decide) (pv 12)) (la_cons (le_var 13 (by decide) (pv 13)) la_nil))))) pa_nil)))
  (lss_cons (O2 := [9, 7]) (ls_append (i := 9) (by decide) (pe_bm PySem.F.plainAttrs_list PySem.F.slot_list_append PySem.F.type_list_append mt_append (pv 9) (pa_cons (le_call CDue rfl rfl rfl rfl rfl (hr.mono (by decide)) (by rfl) (la_cons (le_item rfl (fun _ _ => rfl) (lb_var 9 (pv 9)) (lb_var 10 (pv 10))) (la_cons (le_item rfl (fun _ _ => rfl) (lb_var 9 (pv 9)) (lb_var 11 (pv 11))) (la_cons (le_var 12 (by decide) (pv 12)) (la_cons (le_var 13 (by decide) (pv 13)) la_nil))))) pa_nil)))
  (lss_last (ls_for (vs := [14]) PassesOwn.never rfl (li_range (by rfl) (hB "range" (by decide +kernel)) (la_cons (le_len rfl (by rfl) (hB "len" (by decide +kernel)) (lab_cons (lb_var 7 (pv 7)) lab_nil)) la_nil)) (lg_name 14 (by decide) (by decide) (pg_name (i := 14) scLaw.nd rfl (.inl rfl)))
  (lss_cons (O2 := [9, 7]) (ls_if (O' := [9, 7]) (PW.pt (lw_or (lt_ne hr rfl (lb (le_repr hgd hr rfl (by rfl) (hB "repr" (by decide +kernel)) (lab_cons (lb (le_meth0 MRw rfl rfl rfl rfl rfl (hr.mono (by decide)) (le_item rfl (fun _ _ => rfl) (lb_var 7 (pv 7)) (lb_var 14 (pv 14))))) lab_nil))) (lb (le_repr hgd hr rfl (by rfl) (hB "repr" (by decide +kernel)) (lab_cons (lb (le_item rfl (fun _ _ => rfl) (lb_var 9 (pv 9)) (lb_var 14 (pv 14)))) lab_nil)))) (lw_or1 (lt_ne hr rfl (lb (le_strO HSt rfl rfl rfl rfl rfl (hr.mono (by decide)) (by rfl) (hB "str" (by decide +kernel)) (le_item rfl (fun _ _ => rfl) (lb_var 7 (pv 7)) (lb_var 14 (pv 14))))) (lb (le_call CShown rfl rfl rfl rfl rfl (hr.mono (by decide)) (by rfl) (la_cons (le_item rfl (fun _ _ => rfl) (lb_var 9 (pv 9)) (lb_var 14 (pv 14))) la_nil)))))))
  (lss_one (ls_ret le_bl)) lss_nil)
  (lss_cons (O2 := [9, 7]) (ls_set (O' := [9, 7]) (i := 15) scLaw.nd rfl (.inl rfl) (le_sum rfl rfl (by rfl) (hB "sum" (by decide +kernel)) (lab_cons (lb (le_new (ln_lc (own := [("_law_row", 16)]) rfl scLaw.nd (li_tup (le_item rfl (fun _ _ => rfl) (lb_var 9 (pv 9)) (lb_var 14 (pv 14))) rfl) (blkOk_by (N := NLaw) (sc := defScope (topS 18)) (own := [("_law_row", 16)]) (by decide +kernel)) (by decide) (fun _ _ _ _ _ => (lg_name 16 (by decide) (by decide) (pg_name (i := 16) scLaw.nd rfl (.inl rfl)))) (fun _ _ _ _ _ => (lts_one (lt_eq hr rfl (lb (le_item rfl (fun _ _ => rfl) (lb_var 16 (pv 16)) (lb le_int))) (lb_var 13 (pv 13))))) (fun _ _ _ _ _ => (le_item rfl (fun _ _ => rfl) (lb_var 16 (pv 16)) (lb le_int)))))) lab_nil)))
  (lss_last (ls_if (O' := [9, 7]) (PW.pt (lw_or (lt_ne hr rfl (lb (le_methN MM2 rfl rfl rfl rfl rfl (hr.mono (by decide)) (le_item rfl (fun _ _ => rfl) (lb_var 7 (pv 7)) (lb_var 14 (pv 14))) (la_cons (le_var 13 (by decide) (pv 13)) la_nil))) (lb_var 15 (pv 15))) (lw_or1 (lt_ne hr rfl (lb (le_lenH Hs HLn rfl rfl rfl rfl rfl (hr.mono (by decide)) (by rfl) (hB "len" (by decide +kernel)) (lab_cons (lb (le_item rfl (fun _ _ => rfl) (lb_var 7 (pv 7)) (lb_var 14 (pv 14)))) lab_nil))) (lb (le_len rfl (by rfl) (hB "len" (by decide +kernel)) (lab_cons (lb (le_item rfl (fun _ _ => rfl) (lb_var 9 (pv 9)) (lb_var 14 (pv 14)))) lab_nil)))))))
  (lss_one (ls_ret le_bl)) lss_nil)))))))))))
  (lss_one (ls_ret (le_eq hr rfl (lb (le_repr hgd hr rfl (by rfl) (hB "repr" (by decide +kernel)) (lab_cons (lb_var 4 (pv 4)) lab_nil))) (lb_var 6 (pv 6))))))))))))) hp
end
end LP.K17
namespace LP
open PySem PySem.Spec PyProof.Rows L2 PK RZ
/-- the classes: heaps, the error -/
def heapSig (P : Program) (w : World) (K : PySem.W.Frag) (C CN : Addr) : Sig := isFeedSig P w K (fun n => match n with | 0 => some C | 1 => some CN | _ => none) (fun n => match n with | 0 => [("held" : Str)] | 1 => [("lacking" : Str)] | _ => [])
end LP
namespace K17
open PySem PySem.Spec PyProof.Rows L2 PK
abbrev NAdded : List Str := ["rows", "counts", "form", "shade", "many"]
theorem scAdded : FnScope NAdded ["rows"] (defScope (topS 5)) := ⟨rfl, rfl, rfl, by decide +kernel, rfl, by decide +kernel, by decide +kernel⟩
section
variable {P : Program} {w : World} {K : PySem.W.Frag} {mg : Str → Option Value} {base : Heap}
-- names: ["rows", "counts", "form", "shade", "many"] cells {'counts'}
theorem ok_added {f : Addr} {fd : FuncData} {k : Nat} (F : Fun K "added_rows" "added_rows" (topS 5) f fd) (hT : mg "tuple" = none) (hS : mg "sorted" = none) :
    FnOk P w K mg base CX0 (k + 1) f fd ["rows"] (spAdded K) := by
  refine F.ok scAdded (fun vs H Q E h => ?_) (fun cdv A outer s H vs Q E hr h => ?_)
  · obtain ⟨v, L, rfl, _⟩ := h
    rfl
  · obtain ⟨v, L, rfl, dv, hL, q⟩ := h
    obtain ⟨b, us, rfl, hb, du⟩ := Dp.tupE dv
    have lus : us.length = L.length := dp_lenM du
    refine ⟨_, (pss_cons (ps_set (i := 1) scAdded.nd rfl (.inr rfl) pe_dnewT)
  (pss_cons (ps_for PassesOwn.never rfl (pk_tup K (pv 0)) (pgk_tup K (n := 3) rfl (pgs_cons (pg_name (i := 2) scAdded.nd rfl (.inl rfl)) (pgs_cons (pg_name (i := 3) scAdded.nd rfl (.inl rfl)) (pgs_cons (pg_name (i := 4) scAdded.nd rfl (.inl rfl)) pgs_nil))))
  (pss_one (ps_dput (hu_of hr) (pv 1) (pe_tup (pa_cons (pv 2) (pa_cons (pv 3) pa_nil))) (pe_op op_add (pe_dget2 (hu_of hr) (pv 1) (pe_tup (pa_cons (pv 2) (pa_cons (pv 3) pa_nil))) pe_int ⟨rfl, rfl, rfl, rfl⟩) (pv 4)) rfl)))
  (pss_one (ps_ret (pe_callTy (k_tup K) (by rfl) hT (by decide +kernel) (pa_cons (pe_lc (own := [("form", 2), ("shade", 3)]) rfl scAdded.nd (pk_list K (pe_callB (call_srtT rfl hr) (by rfl) hS (by decide +kernel) (pa_cons (pv 1) pa_nil))) (blkOk_by (N := NAdded) (sc := defScope (topS 5)) (own := [("form", 2), ("shade", 3)]) (by decide +kernel)) (fun _ _ _ _ _ => (pgk_tup K (n := 2) rfl (pgs_cons (pg_name (i := 2) scAdded.nd rfl (.inl rfl)) (pgs_cons (pg_name (i := 3) scAdded.nd rfl (.inl rfl)) pgs_nil)))) (fun _ _ _ _ _ => pts_nil) (fun _ _ _ _ _ => (pe_tup (pa_cons (pv 2) (pa_cons (pv 3) (pa_cons (pe_dget (hu_of hr) (pv 1) (pe_tup (pa_cons (pv 2) (pa_cons (pv 3) pa_nil))) (fun _ _ => rfl)) pa_nil)))))) pa_nil)))))), ?_⟩
    -- counts = {}
    refine fun o no => ?_
    have s0 : Same H (upd H o (.dT [])) := same_new (Same.refl H) no
    refine ⟨.ref b, rfl, b, rfl, ⟨us, (TKeep.of s0).sq hb⟩, for_tup (K := K) (a := b) (xs := us) (fun i σ H2 => ∃ (ks : List PKey) (y2 y3 y4 : Option V), σ = [some (.ref b), some (.ref o), y2, y3, y4] ∧ Same H H2 ∧
      H2 o = some (.dT (ent ks (cnt (L.take i)))) ∧ ks.Nodup ∧ ks.length ≤ i ∧ ∀ k, k ∈ ks ↔ k ∈ (L.take i).map PK.pk) ?_ ?_ ?_ ?_⟩
    · exact ⟨[], none, none, none, rfl, s0, upd_same, List.nodup_nil, Nat.le_refl _, fun k => Iff.rfl⟩
    · rintro i σ H2 _ ⟨ks, y2, y3, y4, rfl, s2, _⟩
      exact (TKeep.of s2).sq hb
    · rintro i rv σ H2 hv ⟨ks, y2, y3, y4, rfl, s2, eo, nd, lk, mk⟩
      obtain ⟨e1, he, de⟩ := DpAll.getV du hv
      rw [List.getElem?_map] at he
      obtain ⟨r, hLi, rfl⟩ := Option.map_eq_some_iff.mp he
      obtain ⟨b1, rfl, hb1⟩ := Dp.prowE (Dp.same s2 de)
      have hi : i < L.length := (List.getElem?_eq_some_iff.mp hLi).1
      refine ⟨b1, _, rfl, hb1, rfl, _, _, rfl, _, _, rfl, _, _, rfl, rfl, ?_⟩
      refine ⟨.ref o, rfl, o, rfl, .inr ⟨_, .inl eo⟩, .str r.1, rfl, .str r.2.1, rfl, by show 2 ≤ sizeLine; decide, fun t nt => ?_⟩
      have eo1 : (upd H2 t (.tup [.str r.1, .str r.2.1])) o = some (.dT (ent ks (cnt (L.take i)))) := by rw [upd_ne (ne_of_none eo nt)]; exact eo
      have s3 : Same H (upd H2 t (.tup [.str r.1, .str r.2.1])) := same_new s2 nt
      have et : (upd H2 t (.tup [.str r.1, .str r.2.1])) t = some (.tup ((kk (PK.pk r)).map kV)) := upd_same
      generalize upd H2 t (.tup [.str r.1, .str r.2.1]) = H3 at eo1 s3 et
      refine ⟨_, DGet.t eo1 et, ?_⟩
      have hval : (valV (ent ks (cnt (L.take i))) (kk (PK.pk r))).getD (.int 0) = .int (cnt (L.take i) (PK.pk r)) := by
        rw [ent_val]
        by_cases z : PK.pk r ∈ ks
        · rw [if_pos z]
          rfl
        · rw [if_neg z, cnt_none (fun h => z ((mk _).mpr h))]
          rfl
      rw [hval]
      refine ⟨.int r.2.2, rfl, _, _, rfl, rfl, .ref o, rfl, .str r.1, rfl, .str r.2.1, rfl, by show 2 ≤ sizeLine; decide, fun t2 nt2 => ?_⟩
      have eo2 : (upd H3 t2 (.tup [.str r.1, .str r.2.1])) o = some (.dT (ent ks (cnt (L.take i)))) := by rw [upd_ne (ne_of_none eo1 nt2)]; exact eo1
      have s4 : Same H (upd H3 t2 (.tup [.str r.1, .str r.2.1])) := same_new s3 nt2
      have et2 : (upd H3 t2 (.tup [.str r.1, .str r.2.1])) t2 = some (.tup ((kk (PK.pk r)).map kV)) := upd_same
      generalize upd H3 t2 (.tup [.str r.1, .str r.2.1]) = H4 at eo2 s4 et2
      have lent : (ent ks (cnt (L.take i))).length < sizeLine := by
        unfold ent
        rw [List.length_map]
        exact small1000 (by omega)
      refine ⟨o, _, rfl, DPut.t eo2 et2 lent, ?_⟩
      refine ⟨if PK.pk r ∈ ks then ks else ks ++ [PK.pk r], _, _, _, rfl, same_own s4 no, ?_, ?_, ?_, fun k => ?_⟩
      · rw [upd_same, ent_put (c' := cnt (L.take (i + 1))) (by rw [cnt_snoc hLi, if_pos rfl]) (fun q hq => by rw [cnt_snoc hLi, if_neg (fun e => hq e.symm)]; omega)]
      · split
        · exact nd
        · rename_i z
          exact List.nodup_append.mpr ⟨nd, List.nodup_cons.mpr ⟨by simp, List.nodup_nil⟩, fun a ha b hb e => by
            rw [List.mem_singleton.mp hb] at e
            exact z (by rw [← e]; exact ha)⟩
      · split
        · omega
        · rw [List.length_append, List.length_singleton]; omega
      · rw [take_snoc hLi, List.map_append, List.mem_append, ← mk k]
        show _ ↔ k ∈ ks ∨ k ∈ [PK.pk r]
        rw [List.mem_singleton]
        split
        · rename_i z
          constructor
          · exact Or.inl
          · rintro (h | h)
            · exact h
            · rw [h]; exact z
        · rw [List.mem_append, List.mem_singleton]
    · rintro σ H2 ⟨ks, y2, y3, y4, rfl, s2, eo, nd, lk, mk⟩
      rw [lus, List.take_length] at eo mk
      refine ⟨.ref o, rfl, o, _, rfl, .inl eo, by rw [ent_keys]; exact pk_cmpb ks, fun sl Lp nsl ⟨bs, ik, eLp⟩ => ?_⟩
      have hdp : DpAll K H2 (bs.map V.ref) (ks.map pkD) := by
        have := keys_dp (K := K) ik
        rw [ent_keys] at this
        exact this
      rw [ent_keys] at eLp
      obtain ⟨z1, z2, z3⟩ := dp_zip hdp
      have hkeys : Lp.map (·.2) = (skeys L).map pkD := by
        have hr1 : Rises (Lp.map (·.2)) := by
          rw [eLp]
          exact srt_rises (by rw [z3]; exact pk_allAlike ks) (by rw [z3]; exact nodup_mapD nd)
        refine rises_ext hr1 (skeys_rises L) fun d => ?_
        rw [eLp, ((srt_perm false _ _).map _).mem_iff, z3, List.mem_map, List.mem_map]
        constructor
        · rintro ⟨k, hk, rfl⟩
          exact ⟨k, mem_skeys.mpr ((mk k).mp hk), rfl⟩
        · rintro ⟨k, hk, rfl⟩
          exact ⟨k, (mk k).mpr (mem_skeys.mp hk), rfl⟩
      have hdL : DpAll K H2 (Lp.map (·.1)) ((skeys L).map pkD) := by
        rw [← hkeys]
        exact dp_pairs fun p hp => z1 p (by rw [eLp] at hp; exact (srt_perm false _ _).mem_iff.mp hp)
      generalize Lp.map (·.1) = xs at hdL
      have s3 : Same H (upd H2 sl (.lst xs)) := same_new s2 nsl
      have eo3 : (upd H2 sl (.lst xs)) o = some (.dT (ent ks (cnt L))) := by rw [upd_ne (ne_of_none eo nsl)]; exact eo
      have esl : (upd H2 sl (.lst xs)) sl = some (.lst xs) := upd_same
      have hd3 := dp_move (f := pkD) flat_pk hdL (TKeep.new (o := .lst xs) nsl)
      generalize upd H2 sl (.lst xs) = H3 at s3 eo3 esl hd3
      have lks : (skeys L).length ≤ 900 := by
        have := sumR_len L
        unfold sumR at this
        rw [List.length_map] at this
        omega
      refine ⟨sl, rfl, ⟨xs, .inl (.inl esl)⟩, fun d ndd => ?_⟩
      refine lc_list (K := K) (a := sl) (xs := xs) (fun i H4 => ∃ zs : List V, H4 d = some (.lst zs) ∧ DpAll K H4 zs (((sumR L).take i).map prowD) ∧ Same H3 H4) ?_ ?_ ?_ ?_
      · exact ⟨[], upd_same, .nil, same_new (Same.refl H3) ndd⟩
      · rintro i H4 _ ⟨zs, _, _, s4⟩
        exact .inl (.inl (s4 _ _ esl))
      · rintro i v H4 hv ⟨zs, ed, dz, s4⟩
        obtain ⟨e1, he, de⟩ := DpAll.getV hd3 hv
        rw [List.getElem?_map] at he
        obtain ⟨k, hki, rfl⟩ := Option.map_eq_some_iff.mp he
        obtain ⟨b1, rfl, hb1⟩ := Dp.pkE (Dp.same s4 de)
        have hk : k ∈ ks := (mk k).mpr (mem_skeys.mp (List.mem_of_getElem? hki))
        have eo4 := s4 _ _ eo3
        refine ⟨b1, _, rfl, hb1, rfl, _, _, rfl, _, _, rfl, rfl, rfl, .str k.1, rfl, .str k.2, rfl, .ref o, rfl, .str k.1, rfl, .str k.2, rfl, by show 2 ≤ sizeLine; decide, fun t nt => ?_⟩
        have eo5 : (upd H4 t (.tup [.str k.1, .str k.2])) o = some (.dT (ent ks (cnt L))) := by rw [upd_ne (ne_of_none eo4 nt)]; exact eo4
        have ed5 : (upd H4 t (.tup [.str k.1, .str k.2])) d = some (.lst zs) := by rw [upd_ne (ne_of_none ed nt)]; exact ed
        have et : (upd H4 t (.tup [.str k.1, .str k.2])) t = some (.tup ((kk k).map kV)) := upd_same
        have s5 : Same H4 (upd H4 t (.tup [.str k.1, .str k.2])) := same_new (Same.refl H4) nt
        generalize upd H4 t (.tup [.str k.1, .str k.2]) = H5 at eo5 ed5 et s5
        have hg := DGet.t eo5 et
        rw [ent_val, if_pos hk] at hg
        refine ⟨o, _, rfl, hg, by show 3 ≤ sizeLine; decide, fun u nu => ?_⟩
        have ed6 : (upd H5 u (.tup [.str k.1, .str k.2, .int (cnt L k)])) d = some (.lst zs) := by rw [upd_ne (ne_of_none ed5 nu)]; exact ed5
        have eu : (upd H5 u (.tup [.str k.1, .str k.2, .int (cnt L k)])) u = some (.tup [.str k.1, .str k.2, .int (cnt L k)]) := upd_same
        have s6 : Same H4 (upd H5 u (.tup [.str k.1, .str k.2, .int (cnt L k)])) := same_new s5 nu
        generalize upd H5 u (.tup [.str k.1, .str k.2, .int (cnt L k)]) = H6 at ed6 eu s6
        have lz : zs.length < sizeLine := by
          rw [dp_lenM dz, List.length_take]
          have : (sumR L).length = (skeys L).length := by unfold sumR; rw [List.length_map]
          exact small1000 (by omega)
        have hsi : (sumR L)[i]? = some (k.1, k.2, cnt L k) := by
          unfold sumR
          rw [List.getElem?_map, hki]
          rfl
        refine ⟨zs, ed6, lz, zs ++ [.ref u], upd_same, ?_, same_own (s4.trans s6) ndd⟩
        rw [take_snoc hsi]
        have tkd := TKeep.lst (o := .lst (zs ++ [.ref u])) ed6
        exact dp_snoc flat_prow dz ((TKeep.of s6).trans tkd) (Dp.prow (r := (k.1, k.2, cnt L k)) (tkd.sq (SqT.of eu)))
      · rintro H4 ⟨zs, ed, dz, s4⟩
        have lx : xs.length = (sumR L).length := by
          rw [dp_lenM hd3]
          unfold sumR
          rw [List.length_map]
        rw [lx, List.take_length] at dz
        refine ⟨d, zs, rfl, .inl ⟨.inl (.inl ed), fun t nt => ?_⟩⟩
        have s5 := s3.trans s4
        exact q t zs _ (s5.free nt) (same_new s5 nt) upd_same (dp_move flat_prow dz (TKeep.new nt))
end
end K17
namespace K17
open PySem PySem.Spec PyProof.Rows L2 PK
abbrev NInit : List Str := ["self", "rows"]
theorem scInit : FnScope NInit ["self", "rows"] (defScope (inClass (topS 7) 0)) := ⟨rfl, rfl, rfl, by decide +kernel, rfl, by decide +kernel, by decide +kernel⟩
section
variable {P : Program} {w : World} {K : PySem.W.Frag} {mg : Str → Option Value} {base : Heap}
abbrev FunI (K : PySem.W.Frag) (f : Addr) (fd : FuncData) : Prop := FunD K "__init__" "Heap.__init__" (defArgs (inClass (topS 7) 0)) (defBody (inClass (topS 7) 0)) (defScope (inClass (topS 7) 0)) [.non] [] f fd
theorem ok_init {f fA C : Addr} {fd fdA : FuncData} {k : Nat} (F : FunI K f fd) (T : HCls K mg C)
    (Ad : Cal P w K mg base 1 "added_rows" fA fdA ["rows"] (spAdded K)) :
    FnOk P w K mg base CX0 (k + 2) f fd ["self", "rows"] (spInit K C) := by
  refine F.ok (CX := CX0) scInit (fun vs H Q E h => ?_) (fun cdv A outer s H vs Q E hr h => ?_)
  · obtain ⟨p, dx, x, L, rfl, _⟩ := h
    rfl
  · obtain ⟨p, dx, x, L, rfl, hp, hx, hL, q⟩ := h
    refine ⟨_, (pss_one (ps_fld (pv 0) (pe_call Ad.ok (hr.mono (Nat.le_add_left 1 k)) (by rfl) Ad.g Ad.kp Ad.b .nil pass0 (pa_cons (pe_ifExp (pt_cmpR op_isN (pv 1) pe_non (nomark _)) (pe_tup pa_nil) (pv 1)) pa_nil)) rfl)), ?_⟩
    refine ⟨x, rfl, rfl, _, rfl, ite2 (fun hn => ?_) (fun hn => ?_)⟩
    · have hn : x = .non := of_decide_eq_true hn
      refine ⟨Nat.zero_le _, fun e ne => ?_⟩
      have eL : L = [] := by
        rcases hx with ⟨_, h⟩ | h
        · exact h
        · rw [hn] at h
          cases h
      subst eL
      have s1 : Same H (upd H e (.tup [])) := same_new (Same.refl H) ne
      have d1 : Dp K (upd H e (.tup [])) (.ref e) (rowsD []) := .tup (SqT.of upd_same) .nil
      generalize upd H e (.tup []) = H1 at s1 d1
      refine ⟨.ref e, [], rfl, d1, hL, fun t us H2 nt s2 et du => ⟨_, rfl, p, C, dx, [], rfl, s2 _ _ (s1 _ _ hp), T.cl, T.nh, (by show 0 < 1000; decide), ?_⟩⟩
      have hp2 := s2 _ _ (s1 _ _ hp)
      have tp : t ≠ p := ne_of et hp2 (by intro z; cases z)
      have tk : TKeep H2 (upd H2 p (.ins C dx (putF "held" (.ref t) []))) := fun b o z h => by
        rw [upd_ne (ne_of h hp2 (by rintro rfl; exact z))]
        exact h
      refine q _ (fun b o e hb => ?_) ⟨dx, t, upd_same, .tup (SqT.of (by rw [upd_ne tp]; exact et)) (dp_move flat_prow du tk)⟩
      rw [upd_ne hb]
      exact s2 _ _ (s1 _ _ e)
    · have hn : ¬ x = .non := fun z => hn (decide_eq_true z)
      have hd : Dp K H x (rowsD L) := by
        rcases hx with ⟨h, _⟩ | h
        · exact absurd h hn
        · exact h
      refine ⟨x, rfl, x, L, rfl, hd, hL, fun t us H2 nt s2 et du => ⟨_, rfl, p, C, dx, [], rfl, s2 _ _ hp, T.cl, T.nh, (by show 0 < 1000; decide), ?_⟩⟩
      have hp2 := s2 _ _ hp
      have tp : t ≠ p := ne_of et hp2 (by intro z; cases z)
      have tk : TKeep H2 (upd H2 p (.ins C dx (putF "held" (.ref t) []))) := fun b o z h => by
        rw [upd_ne (ne_of h hp2 (by rintro rfl; exact z))]
        exact h
      refine q _ (fun b o e hb => ?_) ⟨dx, t, upd_same, .tup (SqT.of (by rw [upd_ne tp]; exact et)) (dp_move flat_prow du tk)⟩
      rw [upd_ne hb]
      exact s2 _ _ e
theorem kb_init2 {f : Addr} {fd : FuncData} (F : FunI K f fd) : KB K fd ["self", "rows"] 2 [] (fun vs _ => vs) :=
  kb_of F 2 [] (fun vs _ _ => vs) (by simp) (fun r _ _ => r) fun T kV doc pm an cdv ct us its ws h1 h2 h3 => by
    match us, its, ws, h1, h2, h3 with
    | [a, b], [c], [], _, _, _ => exact ⟨_, rfl, rfl⟩
theorem kb_initK {f : Addr} {fd : FuncData} (F : FunI K f fd) : KB K fd ["self", "rows"] 1 ["rows"] (fun vs zs => vs ++ zs) :=
  kb_of F 1 ["rows"] (fun vs _ zs => vs ++ zs) (by simp) (fun r _ q => r.append q) fun T kV doc pm an cdv ct us its ws h1 h2 h3 => by
    match us, its, ws, h1, h2, h3 with
    | [a], [c], [d], _, _, _ => exact ⟨_, rfl, rfl⟩
theorem b_init0 {f : Addr} {fd : FuncData} (F : FunI K f fd) : ∃ ds, Vals [V.non] ds ∧ Binds K fd ["self", "rows"] ds := by
  refine F.binds1 (ps := ["self", "rows"]) 1 0 (by simp) rfl fun T kV doc pm an cdv ct us its h1 h2 => ?_
  match us, its, h1, h2 with
  | [a], [c], _, _ => exact ⟨_, rfl, rfl⟩
end
end K17
namespace K17
open PySem PySem.Spec PyProof.Rows L2 PK
abbrev NRows : List Str := ["self", "form", "shade", "many"]
theorem scRows : FnScope NRows ["self"] (defScope (inClass (topS 7) 1)) := ⟨rfl, rfl, rfl, by decide +kernel, rfl, by decide +kernel, by decide +kernel⟩
section
variable {P : Program} {w : World} {K : PySem.W.Frag} {mg : Str → Option Value} {base : Heap}
-- names: ["self", "form", "shade", "many"] cells set()
theorem ok_rows {f C : Addr} {fd : FuncData} {k : Nat} (F : Fun K "rows" "Heap.rows" (inClass (topS 7) 1) f fd) (T : HCls K mg C) (hT : mg "tuple" = none) :
    FnOk P w K mg base CX0 (k + 1) f fd ["self"] (spRows K C) := by
  refine F.ok scRows (fun vs H Q E h => ?_) (fun cdv A outer s H vs Q E hr h => ?_)
  · obtain ⟨p, L, rfl, _⟩ := h
    rfl
  · obtain ⟨p, L, rfl, ⟨dx, t0, hp, dt⟩, hL, q⟩ := h
    obtain ⟨b, us, eb, hb, du⟩ := Dp.tupE dt
    cases eb
    have lus : us.length = L.length := dp_lenM du
    refine ⟨_, (pss_one (ps_ret (pe_callTy (k_tup K) (by rfl) hT (by decide +kernel) (pa_cons (pe_lc (own := [("form", 1), ("shade", 2), ("many", 3)]) rfl scRows.nd (pk_tup K (pe_fld (pv 0) rfl)) (blkOk_by (N := NRows) (sc := defScope (inClass (topS 7) 1)) (own := [("form", 1), ("shade", 2), ("many", 3)]) (by decide +kernel)) (fun _ _ _ _ _ => (pgk_tup K (n := 3) rfl (pgs_cons (pg_name (i := 1) scRows.nd rfl (.inl rfl)) (pgs_cons (pg_name (i := 2) scRows.nd rfl (.inl rfl)) (pgs_cons (pg_name (i := 3) scRows.nd rfl (.inl rfl)) pgs_nil))))) (fun _ _ _ _ _ => pts_nil) (fun _ _ _ _ _ => (pe_tup (pa_cons (pv 1) (pa_cons (pv 2) (pa_cons (pv 3) pa_nil)))))) pa_nil)))), ?_⟩
    refine ⟨.ref p, rfl, p, C, dx, _, _, rfl, hp, T.cl, T.nh, hf_held _, t0, rfl, ⟨us, hb⟩, fun d nd => ?_⟩
    refine lc_tup (K := K) (a := t0) (xs := us) (fun i H2 => ∃ zs : List V, H2 d = some (.lst zs) ∧ DpAll K H2 zs ((L.take i).map prowD) ∧ Same H H2) ?_ ?_ ?_ ?_
    · exact ⟨[], upd_same, .nil, same_new (Same.refl H) nd⟩
    · rintro i H2 _ ⟨zs, _, _, s2⟩
      exact (TKeep.of s2).sq hb
    · rintro i v H2 hv ⟨zs, ed, dz, s2⟩
      obtain ⟨e, he, de⟩ := DpAll.getV du hv
      rw [List.getElem?_map] at he
      obtain ⟨r, hxi, rfl⟩ := Option.map_eq_some_iff.mp he
      have hi := (List.getElem?_eq_some_iff.mp hxi).1
      obtain ⟨b1, rfl, hb1⟩ := Dp.prowE (Dp.same s2 de)
      refine ⟨b1, _, rfl, hb1, rfl, _, _, rfl, _, _, rfl, _, _, rfl, rfl, rfl, .str r.1, rfl, .str r.2.1, rfl, .int r.2.2, rfl, by show 3 ≤ sizeLine; decide, fun u nu => ?_⟩
      have ed6 : (upd H2 u (.tup [.str r.1, .str r.2.1, .int r.2.2])) d = some (.lst zs) := by rw [upd_ne (ne_of_none ed nu)]; exact ed
      have eu : (upd H2 u (.tup [.str r.1, .str r.2.1, .int r.2.2])) u = some (.tup [.str r.1, .str r.2.1, .int r.2.2]) := upd_same
      have s6 : Same H2 (upd H2 u (.tup [.str r.1, .str r.2.1, .int r.2.2])) := same_new (Same.refl H2) nu
      generalize upd H2 u (.tup [.str r.1, .str r.2.1, .int r.2.2]) = H6 at ed6 eu s6
      have lz : zs.length < sizeLine := by
        rw [dp_lenM dz, List.length_take]
        exact small1000 (by omega)
      refine ⟨zs, ed6, lz, zs ++ [.ref u], upd_same, ?_, same_own (s2.trans s6) nd⟩
      rw [take_snoc hxi]
      have tkd := TKeep.lst (o := .lst (zs ++ [.ref u])) ed6
      exact dp_snoc flat_prow dz ((TKeep.of s6).trans tkd) (Dp.prow (tkd.sq (SqT.of eu)))
    · rintro H2 ⟨zs, ed, dz, s2⟩
      rw [lus, List.take_length] at dz
      refine ⟨d, zs, rfl, .inl ⟨.inl (.inl ed), fun t nt => ?_⟩⟩
      exact q (.ref t) _ (same_new s2 nt) (.tup (SqT.of upd_same) (dp_move flat_prow dz (TKeep.new nt)))
end
end K17
namespace K17
open PySem PySem.Spec PyProof.Rows L2 PK
abbrev NManyM : List Str := ["self", "form", "shade", "own", "tint", "many"]
theorem scManyM : FnScope NManyM ["self", "form", "shade"] (defScope (inClass (topS 7) 2)) := ⟨rfl, rfl, rfl, by decide +kernel, rfl, by decide +kernel, by decide +kernel⟩
abbrev FunM (K : PySem.W.Frag) (f : Addr) (fd : FuncData) : Prop := FunD K "many" "Heap.many" (defArgs (inClass (topS 7) 2)) (defBody (inClass (topS 7) 2)) (defScope (inClass (topS 7) 2)) [.non] [] f fd
section
variable {P : Program} {w : World} {K : PySem.W.Frag} {mg : Str → Option Value} {base : Heap}
-- names: ["self", "form", "shade", "own", "tint", "many"] cells {'shade', 'form'}
theorem ok_manym {f C : Addr} {fd : FuncData} {k : Nat} (F : FunM K f fd) (T : HCls K mg C) (hSu : mg "sum" = none) :
    FnOk P w K mg base CX0 (k + 1) f fd ["self", "form", "shade"] (spManyM K C) := by
  refine F.ok (CX := CX0) scManyM (fun vs H Q E h => ?_) (fun cdv A outer s H vs Q E hr h => ?_)
  · obtain ⟨p, fo, x, o, L, rfl, _⟩ := h
    rfl
  · obtain ⟨p, fo, x, o, L, rfl, ⟨dx, t0, hp, dt⟩, hL, hx, q⟩ := h
    obtain ⟨b, us, eb, hb, du⟩ := Dp.tupE dt
    cases eb
    have lus : us.length = L.length := dp_lenM du
    refine ⟨_, (pss_one (ps_ret (pe_callB (k_sum K rfl) (by rfl) hSu (by decide +kernel) (pa_cons (pe_lc (own := [("own", 3), ("tint", 4), ("many", 5)]) rfl scManyM.nd (pk_tup K (pe_fld (pv 0) rfl)) (blkOk_by (N := NManyM) (sc := defScope (inClass (topS 7) 2)) (own := [("own", 3), ("tint", 4), ("many", 5)]) (by decide +kernel)) (fun _ _ _ _ _ => (pgk_tup K (n := 3) rfl (pgs_cons (pg_name (i := 3) scManyM.nd rfl (.inl rfl)) (pgs_cons (pg_name (i := 4) scManyM.nd rfl (.inl rfl)) (pgs_cons (pg_name (i := 5) scManyM.nd rfl (.inl rfl)) pgs_nil))))) (fun _ _ _ _ _ => pts_one (PW.pt (pw_and (pt_cmpR op_eq (pv 3) (pv 1) (nomark _)) (pw_and1 (PW.pt (pw_or (pt_cmpR op_isN (pv 2) pe_non (nomark _)) (pw_or1 (pt_cmpR op_eq (pv 4) (pv 2) (nomark _))))))))) (fun _ _ _ _ _ => (pv 5))) pa_nil)))), ?_⟩
    refine ⟨.ref p, rfl, p, C, dx, _, _, rfl, hp, T.cl, T.nh, hf_held _, t0, rfl, ⟨us, hb⟩, fun d nd => ?_⟩
    refine lc_tup (K := K) (a := t0) (xs := us) (fun i H2 => H2 d = some (.lst ((selL (L.take i) fo o).map V.int)) ∧ Same H H2) ⟨upd_same, same_new (Same.refl H) nd⟩ ?_ ?_ ?_
    · rintro i H2 _ ⟨_, s2⟩
      exact (TKeep.of s2).sq hb
    · rintro i v H2 hv ⟨ed, s2⟩
      obtain ⟨e, he, de⟩ := DpAll.getV du hv
      rw [List.getElem?_map] at he
      obtain ⟨r, hxi, rfl⟩ := Option.map_eq_some_iff.mp he
      have hi := (List.getElem?_eq_some_iff.mp hxi).1
      obtain ⟨b1, rfl, hb1⟩ := Dp.prowE (Dp.same s2 de)
      have add : sel fo o r = true → ∃ acc, H2 d = some (.lst acc) ∧ acc.length < sizeLine ∧ (upd H2 d (.lst (acc ++ [.int r.2.2]))) d = some (.lst ((selL (L.take (i + 1)) fo o).map V.int)) ∧ Same H (upd H2 d (.lst (acc ++ [.int r.2.2]))) := fun hs => by
        refine ⟨_, ed, ?_, ?_, same_own s2 nd⟩
        · rw [List.length_map]
          have := selL_len (L.take i) fo o
          rw [List.length_take] at this
          exact small1000 (by omega)
        · rw [upd_same, selL_snoc hxi, if_pos hs, List.map_append]
          rfl
      have skip : ¬ sel fo o r = true → H2 d = some (.lst ((selL (L.take (i + 1)) fo o).map V.int)) ∧ Same H H2 := fun hs => by
        refine ⟨?_, s2⟩
        rw [ed, selL_snoc hxi, if_neg hs, List.append_nil]
      refine ⟨b1, _, rfl, hb1, rfl, _, _, rfl, _, _, rfl, _, _, rfl, rfl, rfl, ?_⟩
      have dstr : ∀ a b : Str, decide (V.str a = V.str b) = decide (a = b) := fun a b => by
        by_cases z : a = b
        · rw [z, decide_eq_true rfl, decide_eq_true rfl]
        · rw [decide_eq_false z]
          exact decide_eq_false fun y => z (V.str.inj y)
      refine ⟨.str r.1, rfl, .str fo, rfl, rfl, _, rfl, ?_⟩
      rw [dstr]
      refine ite2 (fun h1 => ?_) (fun h1 => ?_)
      · refine ⟨x, rfl, rfl, _, rfl, ite2 (fun h2 => ?_) (fun h2 => ?_)⟩
        · have hn : x = .non := of_decide_eq_true h2
          refine iteT ⟨.int r.2.2, rfl, add ?_⟩
          rcases hx with ⟨_, rfl⟩ | ⟨t, e, _⟩
          · unfold sel
            rw [h1]
            rfl
          · rw [hn] at e
            cases e
        · have hn : ¬ x = .non := fun z => h2 (decide_eq_true z)
          rcases hx with ⟨e, _⟩ | ⟨t, rfl, rfl⟩
          · exact absurd e hn
          refine ⟨.str r.2.1, rfl, .str t, rfl, rfl, _, rfl, ?_⟩
          rw [dstr]
          refine ite2 (fun h3 => ⟨.int r.2.2, rfl, add ?_⟩) (fun h3 => skip ?_)
          · unfold sel
            rw [h1]
            exact h3
          · intro z
            unfold sel at z
            rw [h1] at z
            exact h3 z
      · refine iteF (skip fun z => h1 ?_)
        unfold sel at z
        exact (Bool.and_eq_true_iff.mp z).1
    · rintro H2 ⟨ed, s2⟩
      rw [lus, List.take_length] at ed
      exact ⟨d, _, rfl, .inl (.inl ed), q H2 s2⟩
end
end K17
namespace K17
open PySem PySem.Spec PyProof.Rows L2 PK
abbrev NAbove : List Str := ["heap", "other", "above", "form", "shade", "many", "more"]
theorem scAbove : FnScope NAbove ["heap", "other"] (defScope (topS 6)) := ⟨rfl, rfl, rfl, by decide +kernel, rfl, by decide +kernel, by decide +kernel⟩
section
variable {P : Program} {w : World} {K : PySem.W.Frag} {mg : Str → Option Value} {base : Heap}
-- names: ["heap", "other", "above", "form", "shade", "many", "more"] cells set()
/-- many, all its arguments given or its last left out -/
structure MMany (P : Program) (w : World) (K : PySem.W.Frag) (mg : Str → Option Value) (base : Heap) (k : Nat) (C f : Addr) (fd : FuncData) : Prop where
  ok : FnOk P w K mg base CX0 k f fd ["self", "form", "shade"] (spManyM K C)
  m : Meth K C "many" f
  b2 : ∃ ds, Vals ([] : List V) ds ∧ Binds K fd ["self", "form", "shade"] ds
theorem ok_above {f fR fM C : Addr} {fd fdR fdM : FuncData} {k : Nat} (F : Fun K "rows_above" "rows_above" (topS 6) f fd) (T : HCls K mg C)
    (Rw : MCal P w K mg base 1 C "rows" fR fdR ["self"] (spRows K C)) (Mm : MMany P w K mg base 1 C fM fdM) (hT : mg "tuple" = none) :
    FnOk P w K mg base CX0 (k + 2) f fd ["heap", "other"] (spAbove K C) := by
  obtain ⟨dsM, dM, bM⟩ := Mm.b2
  refine F.ok scAbove (fun vs H Q E h => ?_) (fun cdv A outer s H vs Q E hr h => ?_)
  · obtain ⟨p, q, L, M, rfl, _⟩ := h
    rfl
  · obtain ⟨p, r, L, M, rfl, hp, hq, lL, lM, q⟩ := h
    refine ⟨_, (pss_cons (ps_set (i := 2) scAbove.nd rfl (.inl rfl) (pe_lst pa_nil))
  (pss_cons (ps_for PassesOwn.never rfl (pk_tup K (pe_meth0 (pv 0) T.cl Rw.m Rw.ok (hr.mono (Nat.le_add_left 1 k)) Rw.b .nil pass0)) (pgk_tup K (n := 3) rfl (pgs_cons (pg_name (i := 3) scAbove.nd rfl (.inl rfl)) (pgs_cons (pg_name (i := 4) scAbove.nd rfl (.inl rfl)) (pgs_cons (pg_name (i := 5) scAbove.nd rfl (.inl rfl)) pgs_nil))))
  (Evl.pss_cut (ps_set (i := 6) scAbove.nd rfl (.inl rfl) (pe_op op_sub (pv 5) (pe_meth (pv 1) T.cl Mm.m Mm.ok (hr.mono (Nat.le_add_left 1 k)) bM dM pass0 (pa_cons (pv 3) (pa_cons (pv 4) pa_nil)))))
  (pss_one (ps_if (pt_cmpR op_gt (pv 6) pe_int (nomark _))
  (pss_one (ps_expr (pe_bm PySem.F.plainAttrs_list PySem.F.slot_list_append PySem.F.type_list_append mt_append (pv 2) (pa_cons (pe_tup (pa_cons (pv 3) (pa_cons (pv 4) (pa_cons (pv 6) pa_nil)))) pa_nil)))) pss_nil))))
  (pss_one (ps_ret (pe_callTy (k_tup K) (by rfl) hT (by decide +kernel) (pa_cons (pv 2) pa_nil)))))), ?_⟩
    refine ⟨Nat.zero_le _, fun o no => ?_⟩
    have s0 : Same H (upd H o (.lst [])) := same_new (Same.refl H) no
    have eo0 : (upd H o (.lst [])) o = some (.lst []) := upd_same
    generalize upd H o (.lst []) = H0 at s0 eo0
    have hp0 := hp.same s0
    obtain ⟨dx, fz, e1, e2⟩ := hp0.no (m := "rows") (by decide +kernel)
    refine ⟨.ref p, rfl, p, dx, fz, rfl, e1, e2, p, L, rfl, hp0, lL, fun v H1 s1 dv => ?_⟩
    obtain ⟨b, us, rfl, hb, du⟩ := Dp.tupE dv
    have lus : us.length = L.length := dp_lenM du
    have s01 : Same H H1 := s0.trans s1
    refine ⟨b, rfl, ⟨us, hb⟩, for_tup (K := K) (a := b) (xs := us) (fun i σ H2 => ∃ (zs : List V) (y3 y4 y5 y6 : Option V), σ = [some (.ref p), some (.ref r), some (.ref o), y3, y4, y5, y6] ∧ Same H H2 ∧ TKeep H1 H2 ∧
      H2 o = some (.lst zs) ∧ DpAll K H2 zs ((aboveR (L.take i) M).map prowD)) ⟨[], none, none, none, none, rfl, s01, TKeep.refl _, s1 _ _ eo0, .nil⟩ ?_ ?_ ?_⟩
    · rintro i σ H2 _ ⟨zs, y3, y4, y5, y6, rfl, s2, tk2, _⟩
      exact tk2.sq hb
    · rintro i rv σ H2 hv ⟨zs, y3, y4, y5, y6, rfl, s2, tk2, eo, dz⟩
      obtain ⟨e1', he, de⟩ := DpAll.getV du hv
      rw [List.getElem?_map] at he
      obtain ⟨ro, hLi, rfl⟩ := Option.map_eq_some_iff.mp he
      obtain ⟨b1, rfl, hb1⟩ := Dp.prowE (Dp.keepT tk2 (flat_prow ro) de)
      have hi := (List.getElem?_eq_some_iff.mp hLi).1
      refine ⟨b1, _, rfl, hb1, rfl, _, _, rfl, _, _, rfl, _, _, rfl, rfl, ?_⟩
      have hq2 := hq.same s2
      obtain ⟨dy, fy, g1, g2⟩ := hq2.no (m := "many") (by decide +kernel)
      refine ⟨fun σ H3 => σ = [some (.ref p), some (.ref r), some (.ref o), some (.str ro.1), some (.str ro.2.1), some (.int ro.2.2), some (.int (ro.2.2 - cnt M (PK.pk ro)))] ∧ Same H2 H3, ?_, ?_⟩
      · refine ⟨.int ro.2.2, rfl, .ref r, rfl, r, dy, fy, rfl, g1, g2, .str ro.1, rfl, .str ro.2.1, rfl, r, ro.1, .str ro.2.1, some ro.2.1, M, rfl, hq2, lM, .inr ⟨_, rfl, rfl⟩, fun H3 s3 => ?_⟩
        rw [show manyR M ro.1 (some ro.2.1) = cnt M (PK.pk ro) from manyR_cnt M (PK.pk ro)]
        exact ⟨_, _, rfl, rfl, rfl, s3⟩
      · rintro σ H3 ⟨rfl, s3⟩
        have eo3 := s3 _ _ eo
        have dz3 := DpAll.same s3 dz
        have tk3 : TKeep H1 H3 := tk2.trans (TKeep.of s3)
        refine ⟨.int (ro.2.2 - cnt M (PK.pk ro)), rfl, _, _, rfl, rfl, _, rfl, ite2 (fun h1 => ?_) (fun h1 => ?_)⟩
        · have h1 : 0 < ro.2.2 - cnt M (PK.pk ro) := of_decide_eq_true h1
          refine ⟨.ref o, rfl, .inl ⟨rfl, _, .inl (.inl eo3)⟩, .str ro.1, rfl, .str ro.2.1, rfl, .int _, rfl, by show 3 ≤ sizeLine; decide, fun u nu => ?_⟩
          have s4 : Same H3 (upd H3 u (.tup [.str ro.1, .str ro.2.1, .int (ro.2.2 - cnt M (PK.pk ro))])) := same_new (Same.refl H3) nu
          have eu : (upd H3 u (.tup [.str ro.1, .str ro.2.1, .int (ro.2.2 - cnt M (PK.pk ro))])) u = some (.tup [.str ro.1, .str ro.2.1, .int (ro.2.2 - cnt M (PK.pk ro))]) := upd_same
          generalize upd H3 u (.tup [.str ro.1, .str ro.2.1, .int (ro.2.2 - cnt M (PK.pk ro))]) = H4 at s4 eu
          have eo4 := s4 _ _ eo3
          have tk := TKeep.lst (o := .lst (zs ++ [.ref u])) eo4
          refine ⟨o, zs, .ref u, rfl, rfl, eo4, ?_, zs ++ [.ref u], _, _, _, _, rfl, same_own ((s2.trans s3).trans s4) no, (tk3.trans (TKeep.of s4)).trans tk, upd_same, ?_⟩
          · rw [dp_lenM dz]
            have h2 := aboveR_len (L.take i) M
            rw [List.length_take] at h2
            exact small1000 (by omega)
          · rw [aboveR_snoc hLi, if_pos h1]
            exact dp_snoc flat_prow dz3 ((TKeep.of s4).trans tk) (Dp.prow (r := (ro.1, ro.2.1, ro.2.2 - cnt M (PK.pk ro))) (tk.sq (SqT.of eu)))
        · have h1 : ¬ 0 < ro.2.2 - cnt M (PK.pk ro) := fun z => h1 (decide_eq_true z)
          refine ⟨zs, _, _, _, _, rfl, s2.trans s3, tk3, eo3, ?_⟩
          rw [aboveR_snoc hLi, if_neg h1, List.append_nil]
          exact dz3
    · rintro σ H2 ⟨zs, y3, y4, y5, y6, rfl, s2, tk2, eo, dz⟩
      rw [lus, List.take_length] at dz
      refine ⟨.ref o, rfl, o, zs, rfl, .inl ⟨.inl (.inl eo), fun t nt => ?_⟩⟩
      exact q (.ref t) _ (same_new s2 nt) (.tup (SqT.of upd_same) (dp_move flat_prow dz (TKeep.new nt)))
end
end K17
namespace K17
open PySem PySem.Spec PyProof.Rows L2 PK
abbrev NForms : List Str := ["self", "form", "shade", "many"]
theorem scForms : FnScope NForms ["self"] (defScope (inClass (topS 7) 3)) := ⟨rfl, rfl, rfl, by decide +kernel, rfl, by decide +kernel, by decide +kernel⟩
section
variable {P : Program} {w : World} {K : PySem.W.Frag} {mg : Str → Option Value} {base : Heap}
-- names: ["self", "form", "shade", "many"] cells set()
theorem ok_forms {f C : Addr} {fd : FuncData} {k : Nat} (F : Fun K "forms" "Heap.forms" (inClass (topS 7) 3) f fd) (T : HCls K mg C) (hT : mg "tuple" = none) (hS : mg "sorted" = none) :
    FnOk P w K mg base CX0 (k + 1) f fd ["self"] (spForms K C) := by
  refine F.ok scForms (fun vs H Q E h => ?_) (fun cdv A outer s H vs Q E hr h => ?_)
  · obtain ⟨p, L, rfl, _⟩ := h
    rfl
  · obtain ⟨p, L, rfl, ⟨dx, t0, hp, dt⟩, hL, q⟩ := h
    obtain ⟨b, us, eb, hb, du⟩ := Dp.tupE dt
    cases eb
    have lus : us.length = L.length := dp_lenM du
    refine ⟨_, (pss_one (ps_ret (pe_callTy (k_tup K) (by rfl) hT (by decide +kernel) (pa_cons (pe_callB (call_srtSet rfl hr) (by rfl) hS (by decide +kernel) (pa_cons (pe_scT (own := [("form", 1), ("shade", 2), ("many", 3)]) rfl scForms.nd (pk_tup K (pe_fld (pv 0) rfl)) (blkOk_by (N := NForms) (sc := defScope (inClass (topS 7) 3)) (own := [("form", 1), ("shade", 2), ("many", 3)]) (by decide +kernel)) (fun _ _ _ _ _ => (pgk_tup K (n := 3) rfl (pgs_cons (pg_name (i := 1) scForms.nd rfl (.inl rfl)) (pgs_cons (pg_name (i := 2) scForms.nd rfl (.inl rfl)) (pgs_cons (pg_name (i := 3) scForms.nd rfl (.inl rfl)) pgs_nil))))) (fun _ _ _ _ _ => (pv 1))) pa_nil)) pa_nil)))), ?_⟩
    refine ⟨.ref p, rfl, p, C, dx, _, _, rfl, hp, T.cl, T.nh, hf_held _, t0, rfl, ⟨us, hb⟩, fun d nd => ?_⟩
    refine scT_tup (K := K) (a := t0) (xs := us) (fun i H2 => H2 d = some (SetTO P w d (formL (L.take i))) ∧ ∀ b o, H b = some o → H2 b = some o) ⟨upd_same, same_new (Same.refl H) nd⟩ ?_ ?_ ?_
    · rintro i H2 _ ⟨_, s2⟩
      exact (TKeep.of s2).sq hb
    · rintro i v H2 hv ⟨ed, s2⟩
      have s2 : Same H H2 := s2
      obtain ⟨e, he, de⟩ := DpAll.getV du hv
      rw [List.getElem?_map] at he
      obtain ⟨r, hxi, rfl⟩ := Option.map_eq_some_iff.mp he
      have hi := (List.getElem?_eq_some_iff.mp hxi).1
      obtain ⟨b1, rfl, hb1⟩ := Dp.prowE (Dp.same s2 de)
      refine ⟨b1, _, rfl, hb1, rfl, _, _, rfl, _, _, rfl, _, _, rfl, rfl, rfl, .str r.1, rfl, r.1, formL (L.take i), rfl, ed, ?_, ?_, same_own s2 nd⟩
      · have := formL_len (L.take i)
        rw [List.length_take] at this
        show _ < 4096
        omega
      · rw [upd_same, formL_snoc hxi]
        rfl
    · rintro H2 ⟨ed, s2⟩
      have s2 : Same H H2 := s2
      rw [lus, List.take_length] at ed
      have lf := formL_len L
      refine ⟨d, formL L, rfl, ed, formL_nodup L, ?_, by omega, fun sl nsl => ?_⟩
      · show _ < 4096
        omega
      · refine ⟨sl, _, rfl, .inl ⟨.inl (.inl upd_same), fun t nt => ?_⟩⟩
        exact q (.ref t) _ (same_new (same_new s2 nsl) nt) (.tup (SqT.of upd_same) (DpAll.strs _))
end
end K17
namespace K17
open PySem PySem.Spec PyProof.Rows L2 PK
abbrev NPlus : List Str := ["self", "other"]
theorem scPlus : FnScope NPlus ["self", "other"] (defScope (inClass (topS 7) 4)) := ⟨rfl, rfl, rfl, by decide +kernel, rfl, by decide +kernel, by decide +kernel⟩
section
variable {P : Program} {w : World} {K : PySem.W.Frag} {mg : Str → Option Value} {base : Heap}
theorem ok_plus {f fI C : Addr} {fd fdI : FuncData} {k : Nat} (F : Fun K "plus" "Heap.plus" (inClass (topS 7) 4) f fd) (T : HCls K mg C) (Hm : HMk P w K mg base 2 C fI fdI) :
    FnOk P w K mg base CX0 (k + 4) f fd ["self", "other"] (spPlus K C) := by
  refine F.ok scPlus (fun vs H Q E h => ?_) (fun cdv A outer s H vs Q E hr h => ?_)
  · obtain ⟨p, q, L, M, rfl, _⟩ := h
    rfl
  · obtain ⟨p, r, L, M, rfl, ⟨dx, t0, hp, dt⟩, ⟨dy, t1, hq, du⟩, hl, q⟩ := h
    refine ⟨_, (pss_one (ps_ret (kheap1 K Hm (hr.mono (Nat.le_add_left 3 k)) (by rfl) (pe_op (ko_catA K) (pe_fld (pv 0) rfl) (pe_fld (pv 1) rfl))))), ?_⟩
    obtain ⟨b0, us, e0, hb0, du0⟩ := Dp.tupE dt
    cases e0
    obtain ⟨b1, vs1, e1, hb1, du1⟩ := Dp.tupE du
    cases e1
    have l0 : us.length = L.length := dp_lenM du0
    have l1 : vs1.length = M.length := dp_lenM du1
    refine ⟨.ref p, rfl, p, C, dx, _, _, rfl, hp, T.cl, T.nh, hf_held _, .ref r, rfl, r, C, dy, _, _, rfl, hq, T.cl, T.nh, hf_held _, t0, t1, us, vs1, rfl, rfl, hb0, hb1, ?_, fun h0 => ?_, fun _ h1 => ?_, fun _ _ u nu => ?_⟩
    · rw [l0, l1]
      exact Nat.le_of_lt (small1000 (by omega))
    · have eL : L = [] := List.eq_nil_of_length_eq_zero (by rw [← l0, h0]; rfl)
      refine ⟨L ++ M, .inr ?_, by rw [List.length_append]; exact hl, fun p' H' n' s' h' => q p' H' n' s' h'⟩
      rw [eL, List.nil_append]
      exact .tup hb1 du1
    · have eM : M = [] := List.eq_nil_of_length_eq_zero (by rw [← l1, h1]; rfl)
      refine ⟨L ++ M, .inr ?_, by rw [List.length_append]; exact hl, fun p' H' n' s' h' => q p' H' n' s' h'⟩
      rw [eM, List.append_nil]
      exact .tup hb0 du0
    · have s1 : Same H (upd H u (.tup (us ++ vs1))) := same_new (Same.refl H) nu
      refine ⟨L ++ M, .inr (.tup (SqT.of upd_same) ?_), by rw [List.length_append]; exact hl, fun p' H' n' s' h' => q p' H' (s1.free n') (s1.trans s') h'⟩
      rw [List.map_append]
      exact DpAll.app (DpAll.same s1 du0) (DpAll.same s1 du1)
end
end K17
namespace K17
open PySem PySem.Spec PyProof.Rows L2 PK
abbrev NHolds : List Str := ["self", "other"]
theorem scHolds : FnScope NHolds ["self", "other"] (defScope (inClass (topS 7) 6)) := ⟨rfl, rfl, rfl, by decide +kernel, rfl, by decide +kernel, by decide +kernel⟩
section
variable {P : Program} {w : World} {K : PySem.W.Frag} {mg : Str → Option Value} {base : Heap}
theorem ok_holds {f fA C : Addr} {fd fdA : FuncData} {k : Nat} (F : Fun K "holds" "Heap.holds" (inClass (topS 7) 6) f fd) (Ab : Cal P w K mg base 2 "rows_above" fA fdA ["heap", "other"] (spAbove K C)) :
    FnOk P w K mg base CX0 (k + 3) f fd ["self", "other"] (spHolds K C) := by
  refine F.ok scHolds (fun vs H Q E h => ?_) (fun cdv A outer s H vs Q E hr h => ?_)
  · obtain ⟨p, q, L, M, n, b, rfl, _⟩ := h
    rfl
  · obtain ⟨p, r, L, M, n, b, rfl, hp, hq, okL, okM, hn, q⟩ := h
    refine ⟨_, (pss_one (ps_ret (pe_cmpR (ko_eqD K hr) (pe_call Ab.ok (hr.mono (Nat.le_add_left 2 k)) (by rfl) Ab.g Ab.kp Ab.b .nil pass0 (pa_cons (pv 1) (pa_cons (pv 0) pa_nil))) (pe_tup pa_nil) (nomark _)))), ?_⟩
    have lL := okL.len
    have lM := okM.len
    refine ⟨.ref r, rfl, .ref p, rfl, r, p, M, L, rfl, hq, hp, by omega, by omega, fun v H1 s1 dv => ⟨Nat.zero_le _, fun e ne => ?_⟩⟩
    have s2 : Same H1 (upd H1 e (.tup [])) := same_new (Same.refl H1) ne
    refine ⟨_, rowsD [], Dp.same s2 dv, .tup (SqT.of upd_same) .nil, rows_shaped (aboveR_ok okM okL), rows_shaped (n := 0) (b := 0) ⟨Nat.le_refl _, fun _ h => (nomatch h)⟩, ?_⟩
    rw [rows_eqv]
    exact q _ (s1.trans s2)
end
end K17
namespace K17
open PySem PySem.Spec PyProof.Rows L2 PK
abbrev NLess : List Str := ["self", "other", "lacking"]
theorem scLess : FnScope NLess ["self", "other"] (defScope (inClass (topS 7) 5)) := ⟨rfl, rfl, rfl, by decide +kernel, rfl, by decide +kernel, by decide +kernel⟩
section
variable {P : Program} {w : World} {K : PySem.W.Frag} {mg : Str → Option Value} {base : Heap}
theorem ok_less {f fA fI fN C CN : Addr} {fd fdA fdI fdN : FuncData} {k : Nat} (F : Fun K "less" "Heap.less" (inClass (topS 7) 5) f fd) (Ab : Cal P w K mg base 2 "rows_above" fA fdA ["heap", "other"] (spAbove K C))
    (Hm : HMk P w K mg base 2 C fI fdI) (U : SupC K mg CN) (iN : PySem.W.findIn K (.ref CN) "__init__" = some (some (.ref fN))) (tN : PySem.W.typeIn K (.ref fN) = some (.type "function"))
    (Er : FnOk P w K mg base CX0 1 fN fdN ["self", "lacking"] (spErr1 CN "lacking")) (bN : Binds K fdN ["self", "lacking"] []) (gN : mg "NoParts" = some (.ref CN)) :
    FnOk P w K mg base (L2.CX P w) (k + 4) f fd ["self", "other"] (spLess K C CN) := by
  refine F.okX scLess (fun vs H Q E h => ?_) (fun cdv A outer s H vs Q E hr h => ?_)
  · obtain ⟨p, q, L, M, n, b, rfl, _⟩ := h
    rfl
  · obtain ⟨p, r, L, M, n, b, rfl, hp, hq, okL, okM, hn, rL, rM, q, qe⟩ := h
    refine ⟨_, (pss_cons (ps_set (i := 2) scLess.nd rfl (.inl rfl) (pe_call Ab.ok (hr.mono (Nat.le_add_left 2 (k + 1))) (by rfl) Ab.g Ab.kp Ab.b .nil pass0 (pa_cons (pv 1) (pa_cons (pv 0) pa_nil))))
  (pss_cons (ps_if (pt_cmpR (ko_neD K hr) (pv 2) (pe_tup pa_nil) (nomark _))
  (pss_one (ps_raise rfl (takes_of rfl rfl rfl rfl) (pmk_oex U.ex iN tN Er (hr.mono (Nat.le_add_left 2 (k + 1))) bN .nil pass0 (by rfl) gN (pa_cons (kheap1 K Hm (hr.mono (Nat.le_add_left 3 k)) (by rfl) (pv 2)) pa_nil)))) pss_nil)
  (pss_one (ps_ret (kheap1 K Hm (hr.mono (Nat.le_add_left 3 k)) (by rfl) (pe_call Ab.ok (hr.mono (Nat.le_add_left 2 (k + 1))) (by rfl) Ab.g Ab.kp Ab.b .nil pass0 (pa_cons (pv 0) (pa_cons (pv 1) pa_nil)))))))), ?_⟩
    have lL := okL.len
    have lM := okM.len
    refine ⟨.ref r, rfl, .ref p, rfl, r, p, M, L, rfl, hq, hp, by omega, by omega, fun v H1 s1 dv => ?_⟩
    refine ⟨v, rfl, Nat.zero_le _, fun e ne => ?_⟩
    have s2 : Same H1 (upd H1 e (.tup [])) := same_new (Same.refl H1) ne
    have de : Dp K (upd H1 e (.tup [])) (.ref e) (rowsD []) := .tup (SqT.of upd_same) .nil
    generalize upd H1 e (.tup []) = H2 at s2 de
    have s12 : Same H H2 := s1.trans s2
    have dv2 := Dp.same s2 dv
    refine ⟨_, rowsD [], dv2, de, rows_shaped (aboveR_ok okM okL), rows_shaped (n := 0) (b := 0) ⟨Nat.le_refl _, fun _ h => (nomatch h)⟩, _, rfl, ?_⟩
    rw [rows_eqv]
    refine ite2 (fun h1 => ?_) (fun h1 => ?_)
    · have h1 : aboveR M L ≠ [] := by simpa using h1
      have la := aboveR_len M L
      refine ⟨v, rfl, aboveR M L, .inr dv2, by omega, fun p' H3 n3 s3 h3 => ⟨by show 1 ≤ 1000; decide, fun a na => ?_⟩⟩
      rw [sumR_id (rises_above rM)] at h3
      refine ⟨a, .ref p', rfl, upd_same, fun dx ndx ndxa => ⟨rfl, dx, [("lacking", .ref p')], upd_same, ?_, ?_, ?_⟩⟩
      · rw [upd_ne ndxa, upd_same]
      · rw [upd_ne ndxa] at ndx
        exact ndx
      · have nd3 : H3 dx = none := by
          rw [upd_ne ndxa] at ndx
          exact ndx
        have s4 : Same H3 (upd (del (upd (upd (upd H3 a (exo a CN none)) dx (exd dx [("lacking", .ref p')])) a (exo a CN (some dx))) a) dx (.xd [("lacking", .ref p')])) := fun b o z => by
          have z1 : b ≠ dx := ne_of_none z nd3
          have z2 : b ≠ a := ne_of_none z na
          rw [upd_ne z1, del_ne z2, upd_ne z2, upd_ne z1, upd_ne z2]
          exact z
        have s34 := (s12.trans s3).trans s4
        exact qe h1 p' dx _ ((s12.trans s3).free nd3) (s12.free n3) s34 (h3.same s4) upd_same
    · have h1 : aboveR M L = [] := by simpa using h1
      refine ⟨.ref p, rfl, .ref r, rfl, p, r, L, M, rfl, hp.same s12, hq.same s12, by omega, by omega, fun v3 H3 s3 dv3 => ?_⟩
      have la := aboveR_len L M
      refine ⟨aboveR L M, .inr dv3, by omega, fun p' H4 n4 s4 h4 => ?_⟩
      rw [sumR_id (rises_above rL)] at h4
      have s13 := s12.trans s3
      exact q h1 p' H4 (s13.free n4) (s13.trans s4) h4
end
end K17
namespace K17
open PySem PySem.Spec PyProof.Rows L2 PK
abbrev NEq : List Str := ["self", "other"]
theorem scEq : FnScope NEq ["self", "other"] (defScope (inClass (topS 7) 7)) := ⟨rfl, rfl, rfl, by decide +kernel, rfl, by decide +kernel, by decide +kernel⟩
section
variable {P : Program} {w : World} {K : PySem.W.Frag} {mg : Str → Option Value} {base : Heap}
theorem ok_eq {f C : Addr} {fd : FuncData} {k : Nat} (F : Fun K "__eq__" "Heap.__eq__" (inClass (topS 7) 7) f fd) (T : HCls K mg C) (U : HIs K C) (hI : mg "isinstance" = none) :
    FnOk P w K mg base CX0 (k + 1) f fd ["self", "other"] (spEqH K C) := by
  refine F.ok scEq (fun vs H Q E h => ?_) (fun cdv A outer s H vs Q E hr h => ?_)
  · obtain ⟨p, q, L, M, n, b, rfl, _⟩ := h
    rfl
  · obtain ⟨p, r, L, M, n, b, rfl, hp, hq, okL, okM, q⟩ := h
    refine ⟨_, (pss_one (ps_ret (pe_and (pe_callB (k_isi K) (by rfl) hI (by decide +kernel) (pa_cons (pv 1) (pa_cons (pe_glob (v := .ref C) (by rfl) T.mg rfl) pa_nil))) (pe_one (pe_cmpR (ko_eqD K hr) (pe_fld (pv 0) rfl) (pe_fld (pv 1) rfl) (nomark _)))))), ?_⟩
    have ty := hq.ty T U
    obtain ⟨dx, t0, e1, d1⟩ := hp
    obtain ⟨dy, t1, e2, d2⟩ := hq
    refine ⟨.ref r, rfl, .ref r, .ref C, .ref C, .ref C, true, rfl, .own C, ty, kit_self K C, true, rfl, iteT ?_⟩
    refine ⟨.ref p, rfl, p, C, dx, _, _, rfl, e1, T.cl, T.nh, hf_held _, .ref r, rfl, r, C, dy, _, _, rfl, e2, T.cl, T.nh, hf_held _, rowsD L, rowsD M, d1, d2, rows_shaped okL, rows_shaped okM, ?_⟩
    rw [rows_eqv]
    exact q
end
end K17
namespace K17
open PySem PySem.Spec PyProof.Rows L2 PK
abbrev NLen : List Str := ["self"]
theorem scLen : FnScope NLen ["self"] (defScope (inClass (topS 7) 8)) := ⟨rfl, rfl, rfl, by decide +kernel, rfl, by decide +kernel, by decide +kernel⟩
section
variable {P : Program} {w : World} {K : PySem.W.Frag} {mg : Str → Option Value} {base : Heap}
theorem ok_len {f C : Addr} {fd : FuncData} {k : Nat} (F : Fun K "__len__" "Heap.__len__" (inClass (topS 7) 8) f fd) (T : HCls K mg C) (hl : mg "len" = none) :
    FnOk P w K mg base CX0 (k + 1) f fd ["self"] (spLenH K C) := by
  refine F.ok scLen (fun vs H Q E h => ?_) (fun cdv A outer s H vs Q E hr h => ?_)
  · obtain ⟨p, L, rfl, _⟩ := h
    rfl
  · obtain ⟨p, L, rfl, ⟨dx, t0, e1, d1⟩, hL, q⟩ := h
    refine ⟨_, (pss_one (ps_ret (pe_callB (k_len K) (by rfl) hl PySem.boot_len (pa_cons (pe_fld (pv 0) rfl) pa_nil)))), ?_⟩
    obtain ⟨b, us, eb, hb, du⟩ := Dp.tupE d1
    cases eb
    refine ⟨.ref p, rfl, p, C, dx, _, _, rfl, e1, T.cl, T.nh, hf_held _, t0, us, rfl, .inr hb, ?_⟩
    rw [dp_lenM du]
    exact q
end
end K17
namespace K17
open PySem PySem.Spec PyProof.Rows L2 PK
abbrev NNoParts : List Str := ["self", "lacking"]
theorem scNoParts : SScope NNoParts ["self", "lacking"] (defScope (inClass (topS 3) 0)) := ⟨rfl, rfl, rfl, by decide +kernel, rfl, by decide +kernel, by decide +kernel, by decide +kernel, rfl, rfl⟩
section
variable {P : Program} {w : World} {K : PySem.W.Frag} {mg : Str → Option Value} {base : Heap}
theorem ok_NoParts {f C : Addr} {fd : FuncData} {k : Nat} (F : FunS P K "__init__" "NoParts.__init__" (inClass (topS 3) 0) C f fd) (U : SupC K mg C) (nf : PySem.W.findIn K (.ref C) "lacking" = some none) :
    FnOk P w K mg base CX0 (k + 1) f fd ["self", "lacking"] (spErr1 C "lacking") := by
  refine fn_super (N := NNoParts) F U scNoParts rfl rfl rfl (fun _ => rfl) (fun _ => ⟨_, rfl⟩) (fun _ => rfl) (fun vs H Q E h => ?_) (fun cdv cc A outer s H vs Q E hr h => ?_)
  · obtain ⟨a, v, rfl, _⟩ := h
    rfl
  · obtain ⟨a, v, rfl, ha, q⟩ := h
    refine ⟨a, _, _, rfl, ha, pa_cons pe_str pa_nil, pss_one (ps_ost (pv 0) (pv 1)), by show 1 ≤ 1000; decide, ha, ?_⟩
    exact ⟨v, rfl, .ref a, rfl, a, C, rfl, U.ex, nf, .inl ⟨ha, fun dx nd ne => q dx nd ne⟩⟩
end
end K17
namespace LP
open PySem PySem.Spec PyProof.Rows L2 PK RZ
def numP : D → Bool
  | .int _ => true
  | _ => false
def manyP : D → Bool
  | .int i => decide (1 ≤ i)
  | _ => false
def wordP : D → Bool
  | .str y => wordB y
  | _ => false
theorem isNumber_ret {d : D} (h : d.plain = true) : Ret (fIsNumber [d]) (.bl (numP d)) := fun Q E q => by
  refine ⟨rfl, ?_⟩
  cases d <;> first
    | exact q
    | exact absurd h Bool.false_ne_true
theorem isMany_ret {d : D} (h : d.plain = true) : Ret (fIsMany [d]) (.bl (manyP d)) := fun Q E q => by
  refine ⟨rfl, isNumber_ret h _ _ ?_⟩
  cases d <;> first
    | exact q
    | exact absurd h Bool.false_ne_true
theorem all_ret (f : D → Bool) (ds : List D) : Ret (allW [.lst (ds.map fun d => .bl (f d))]) (.bl (ds.all f)) := fun Q E q => by
  have e : (ds.map fun d => D.bl (f d)) = (ds.map f).map D.bl := by rw [List.map_map]; rfl
  show (W.bind (optW (bsOf _)) _).wp Q E
  rw [e, bsOf_map]
  show Q (.bl ((ds.map f).all id))
  rw [List.all_map]
  exact q
def ltrP : D → Bool
  | .str s => signIn s abc
  | _ => false
theorem letters_all (y : Str) : (y.cps.toList.map fun c => D.str ⟨#[c]⟩).all ltrP = y.cps.toList.all fun c => decide (c ∈ abc.cps.toList) := by
  rw [List.all_map]
  rfl
theorem isWord_ret {d : D} {m dp n : Nat} (h : Sz m dp n d) (hn : n ≤ 1000000) : Ret (fIsWord [d]) (.bl (wordP d)) := fun Q E q => by
  refine ⟨rfl, ?_⟩
  cases d with
  | str y =>
    have hw : 10 * y.length + 2 ≤ n := h.wt
    have hl : y.length ≤ sizeLine := small (by omega)
    have q : Q (.bl (wordB y)) := q
    unfold wordB at q
    show (endW (bIsWord (startE 2 [.str y]))).wp Q E
    simp only [bIsWord, W.bind_wp, W.ret_wp, W.want_wp, W.any_wp, s_ite, s_get0, s_get, s_then, s_end, s_run, s_calm, s_fail, s_start1, s_start2, s_start3, s_start4, s_start5, List.replicate, List.set_cons_zero, List.set_cons_succ, asB_bl, asS_str, Nat.reduceSub, Nat.reduceAdd, addW.eq_1, addW.eq_2, addW.eq_3, addW.eq_4, addW.eq_5, subW.eq_1, subW.eq_2, mulW.eq_1, mulW.eq_2, mulW.eq_3, intOp.eq_1, negW.eq_1, ordW.eq_1, ordW.eq_2, isW.eq_1, isntW.eq_1, ixW.eq_1, ixW.eq_2, ixW.eq_3, slW.eq_1, slW.eq_2, slW.eq_3, revTW.eq_1, revLW.eq_1, lenW.eq_1, lenW.eq_2, lenW.eq_3, tupleW.eq_1, tupleW.eq_2, listW.eq_1, listW.eq_2, min2W.eq_1, max2W.eq_1, strW.eq_1, strW.eq_2, joinW.eq_1, joinW.eq_2, walkLW.eq_1, walkTW.eq_1, walkSW.eq_1, range1W.eq_1, zipW.eq_1, zipW.eq_2, tupG.eq_1, gsW.eq_1, gsW.eq_2, par2.eq_1, extW.eq_1, extW.eq_2, partW.eq_1, optW.eq_1, optW.eq_2, modW, fdivW, powW, ltW, leW, gtW, geW, isNone, isi_non, isi_bl, isi_int, isi_str, isi_tup, isi_lst, upperW, putW, appW, tupW, lstW, asB_bl, String.reduceBEq, beq_self_eq_true, Bool.or_true, Bool.true_or, Bool.or_false, Bool.false_or, Bool.and_true, Bool.true_and, Bool.and_false, Bool.false_and, Bool.not_true, Bool.not_false, forall_const, true_implies, true_and, and_true, false_implies, reduceCtorEq, List.length_cons, List.length_nil, forall_eq, imp_self, implies_true, if_true, if_false, Bool.false_eq_true, Bool.true_eq_false]
    refine ⟨hl, fun h1 => ⟨fun h8 => ?_, fun h8 => ?_⟩, fun h1 => ?_⟩
    · have h8 : ¬ y.length ≤ 8 := by simp at h8; omega
      rw [decide_eq_false h8, Bool.and_false, Bool.false_and] at q
      exact q
    · have h8 : y.length ≤ 8 := by simp at h8; omega
      have h1 : 1 ≤ y.length := by simp at h1; omega
      rw [decide_eq_true h8, decide_eq_true h1, Bool.true_and, Bool.true_and, ← letters_all] at q
      refine (lc_map (fun d => .bl (ltrP d)) (Ret.ret _) ?_ fun d hd => ?_).go ((all_ret _ _).go q)
      · rw [List.length_map, Array.length_toList]
        exact hl
      · obtain ⟨c, _, rfl⟩ := List.mem_map.mp hd
        exact ⟨rfl, rfl⟩
    · have h1 : ¬ 1 ≤ y.length := by simp at h1; omega
      rw [decide_eq_false h1, Bool.false_and, Bool.false_and] at q
      exact q
  | tup l => exact q
  | lst l => exact q
  | non => exact q
  | bl b => exact q
  | int i => exact q
  | _ => exact absurd h.pl Bool.false_ne_true
/-! ### shades -/
def txP : D → Str
  | .str y => y
  | _ => ""
/-- neighbours, each less than the next -/
def upP : List D → Bool
  | [] => true
  | [_] => true
  | a :: b :: l => slt (txP a) (txP b) && upP (b :: l)
def shadesP : D → Bool
  | .tup l => l.all wordP && upP l
  | _ => false
def pairP : D → Bool
  | .tup [a, b] => slt (txP a) (txP b)
  | _ => false
theorem pairs_up : ∀ l : List D, (zipD l (l.drop 1)).all pairP = upP l
  | [] => rfl
  | [_] => rfl
  | a :: b :: l => by
    have ih := pairs_up (b :: l)
    show (slt (txP a) (txP b) && (zipD (b :: l) ((b :: l).drop 1)).all pairP) = _
    rw [ih]
    rfl
theorem cut_one' {α : Type} (l : List α) : cutD l (some 1) none = l.drop 1 := by
  cases l with
  | nil => rfl
  | cons a l =>
    unfold cutD
    rw [HT.sIx_none, show ((1 : Int)) = ((1 : Nat) : Int) from rfl, HT.sIx_nat, Nat.min_eq_left (by simp), List.take_of_length_le (by rw [List.length_drop]; exact Nat.le_refl _)]
theorem words_txP {l : List D} (h : l.all wordP = true) : ∀ d ∈ l, d = .str (txP d) := fun d hd => by
  have := List.all_eq_true.mp h d hd
  cases d <;> first
    | rfl
    | exact absurd this Bool.false_ne_true
theorem zip_mem {l k : List D} {d : D} (h : d ∈ zipD l k) : ∃ a b, a ∈ l ∧ b ∈ k ∧ d = .tup [a, b] := by
  obtain ⟨⟨a, b⟩, hp, rfl⟩ := List.mem_map.mp h
  exact ⟨a, b, (List.of_mem_zip hp).1, (List.of_mem_zip hp).2, rfl⟩
theorem isShades_ret {d : D} {m dp n : Nat} (h : Sz m dp n d) (hn : n ≤ 1000000) : Ret (fIsShades [d]) (.bl (shadesP d)) := fun Q E q => by
  refine ⟨rfl, ?_⟩
  cases d with
  | tup l =>
    obtain ⟨hs, hw⟩ : (∃ k, Szs m k n l) ∧ wts (D.toPs l) + 3 ≤ n := by
      have h4 : wts (D.toPs l) + 3 ≤ n := h.wt
      exact ⟨⟨_, h.pl, h.mx, Nat.le_refl _, by omega⟩, h4⟩
    obtain ⟨k, hs⟩ := hs
    have hl : l.length ≤ sizeLine := small (by have := hs.len; omega)
    show (endW (bIsShades (startE 4 [.tup l]))).wp Q E
    simp only [bIsShades, W.bind_wp, W.ret_wp, W.want_wp, W.any_wp, s_ite, s_get0, s_get, s_then, s_end, s_run, s_calm, s_fail, s_start1, s_start2, s_start3, s_start4, s_start5, List.replicate, List.set_cons_zero, List.set_cons_succ, asB_bl, asS_str, Nat.reduceSub, Nat.reduceAdd, addW.eq_1, addW.eq_2, addW.eq_3, addW.eq_4, addW.eq_5, subW.eq_1, subW.eq_2, mulW.eq_1, mulW.eq_2, mulW.eq_3, intOp.eq_1, negW.eq_1, ordW.eq_1, ordW.eq_2, isW.eq_1, isntW.eq_1, ixW.eq_1, ixW.eq_2, ixW.eq_3, slW.eq_1, slW.eq_2, slW.eq_3, revTW.eq_1, revLW.eq_1, lenW.eq_1, lenW.eq_2, lenW.eq_3, tupleW.eq_1, tupleW.eq_2, listW.eq_1, listW.eq_2, min2W.eq_1, max2W.eq_1, strW.eq_1, strW.eq_2, joinW.eq_1, joinW.eq_2, walkLW.eq_1, walkTW.eq_1, walkSW.eq_1, range1W.eq_1, zipW.eq_1, zipW.eq_2, tupG.eq_1, gsW.eq_1, gsW.eq_2, par2.eq_1, extW.eq_1, extW.eq_2, partW.eq_1, optW.eq_1, optW.eq_2, modW, fdivW, powW, ltW, leW, gtW, geW, isNone, isi_non, isi_bl, isi_int, isi_str, isi_tup, isi_lst, upperW, putW, appW, tupW, lstW, asB_bl, String.reduceBEq, beq_self_eq_true, Bool.or_true, Bool.true_or, Bool.or_false, Bool.false_or, Bool.and_true, Bool.true_and, Bool.and_false, Bool.false_and, Bool.not_true, Bool.not_false, forall_const, true_implies, true_and, and_true, false_implies, reduceCtorEq, List.length_cons, List.length_nil, forall_eq, imp_self, implies_true, if_true, if_false, Bool.false_eq_true, Bool.true_eq_false]
    refine (lc_map (fun d => .bl (wordP d)) (Ret.ret _) hl fun d hd => isWord_ret (hs.mem d hd) hn _ _ (by rfl)).go ((all_ret _ _).go ?_)
    have q : Q (.bl (l.all wordP && upP l)) := q
    simp only [W.bind_wp, W.ret_wp, W.want_wp, W.any_wp, s_ite, s_get0, s_get, s_then, s_end, s_run, s_calm, s_fail, s_start1, s_start2, s_start3, s_start4, s_start5, List.replicate, List.set_cons_zero, List.set_cons_succ, asB_bl, asS_str, Nat.reduceSub, Nat.reduceAdd, addW.eq_1, addW.eq_2, addW.eq_3, addW.eq_4, addW.eq_5, subW.eq_1, subW.eq_2, mulW.eq_1, mulW.eq_2, mulW.eq_3, intOp.eq_1, negW.eq_1, ordW.eq_1, ordW.eq_2, isW.eq_1, isntW.eq_1, ixW.eq_1, ixW.eq_2, ixW.eq_3, slW.eq_1, slW.eq_2, slW.eq_3, revTW.eq_1, revLW.eq_1, lenW.eq_1, lenW.eq_2, lenW.eq_3, tupleW.eq_1, tupleW.eq_2, listW.eq_1, listW.eq_2, min2W.eq_1, max2W.eq_1, strW.eq_1, strW.eq_2, joinW.eq_1, joinW.eq_2, walkLW.eq_1, walkTW.eq_1, walkSW.eq_1, range1W.eq_1, zipW.eq_1, zipW.eq_2, tupG.eq_1, gsW.eq_1, gsW.eq_2, par2.eq_1, extW.eq_1, extW.eq_2, partW.eq_1, optW.eq_1, optW.eq_2, modW, fdivW, powW, ltW, leW, gtW, geW, isNone, isi_non, isi_bl, isi_int, isi_str, isi_tup, isi_lst, upperW, putW, appW, tupW, lstW, asB_bl, String.reduceBEq, beq_self_eq_true, Bool.or_true, Bool.true_or, Bool.or_false, Bool.false_or, Bool.and_true, Bool.true_and, Bool.and_false, Bool.false_and, Bool.not_true, Bool.not_false, forall_const, true_implies, true_and, and_true, false_implies, reduceCtorEq, List.length_cons, List.length_nil, forall_eq, imp_self, implies_true, if_true, if_false, Bool.false_eq_true, Bool.true_eq_false]
    refine ⟨fun h1 => ?_, fun h1 => ?_⟩
    · rw [show l.all wordP = false by simpa using h1, Bool.false_and] at q
      exact q
    · have h1 : l.all wordP = true := by simpa using h1
      rw [h1, Bool.true_and, ← pairs_up] at q
      rw [← cut_one'] at q
      refine (lc_map (fun d => .bl (pairP d)) (ds := zipD l (cutD l (some 1) none)) (fun _ _ q => q) ?_ fun d hd => ?_).go ((all_ret _ _).go q)
      · have : (zipD l (cutD l (some 1) none)).length ≤ l.length := by
          unfold zipD
          rw [List.length_map, List.length_zip]
          exact Nat.min_le_left _ _
        exact Nat.le_trans this hl
      · obtain ⟨a, b, ha, hb, rfl⟩ := zip_mem hd
        rw [cut_one'] at hb
        rw [words_txP h1 a ha, words_txP h1 b (List.mem_of_mem_drop hb)]
        exact ⟨rfl, rfl⟩
  | str y => exact q
  | lst l => exact q
  | non => exact q
  | bl b => exact q
  | int i => exact q
  | _ => exact absurd h.pl Bool.false_ne_true
/-! ### wants, ways -/
def wantP : D → Bool
  | .tup [a, b, c] => wordP a && shadesP b && manyP c
  | _ => false
def wayP : D → Bool
  | .tup l => l.all wantP
  | _ => false
theorem Sz.un {m dp n : Nat} {l : List D} (h : Sz m dp n (.tup l)) : Szs m dp n l ∧ wts (D.toPs l) + 3 ≤ n := by
  have h3 : (PyData.tuple (D.toPs l)).depth ≤ dp := h.dep
  rw [depth_tuple] at h3
  have h4 : wts (D.toPs l) + 3 ≤ n := h.wt
  exact ⟨⟨h.pl, h.mx, by omega, by omega⟩, h4⟩
theorem Sz.unl {m dp n : Nat} {l : List D} (h : Sz m dp n (.lst l)) : Szs m dp n l ∧ wts (D.toPs l) + 3 ≤ n := by
  have h3 : (PyData.list (D.toPs l)).depth ≤ dp := h.dep
  rw [depth_list] at h3
  have h4 : wts (D.toPs l) + 3 ≤ n := h.wt
  exact ⟨⟨h.pl, h.mx, by omega, by omega⟩, h4⟩
theorem isWant_ret {d : D} {m dp n : Nat} (h : Sz m dp n d) (hn : n ≤ 1000000) : Ret (fIsWant [d]) (.bl (wantP d)) := fun Q E q => by
  refine ⟨rfl, ?_⟩
  cases d with
  | tup l =>
    obtain ⟨hs, hw⟩ := h.un
    show (endW (bIsWant (startE 1 [.tup l]))).wp Q E
    simp only [bIsWant, W.bind_wp, W.ret_wp, W.want_wp, W.any_wp, s_ite, s_get0, s_get, s_then, s_end, s_run, s_calm, s_fail, s_start1, s_start2, s_start3, s_start4, s_start5, List.replicate, List.set_cons_zero, List.set_cons_succ, asB_bl, asS_str, Nat.reduceSub, Nat.reduceAdd, addW.eq_1, addW.eq_2, addW.eq_3, addW.eq_4, addW.eq_5, subW.eq_1, subW.eq_2, mulW.eq_1, mulW.eq_2, mulW.eq_3, intOp.eq_1, negW.eq_1, ordW.eq_1, ordW.eq_2, isW.eq_1, isntW.eq_1, ixW.eq_1, ixW.eq_2, ixW.eq_3, slW.eq_1, slW.eq_2, slW.eq_3, revTW.eq_1, revLW.eq_1, lenW.eq_1, lenW.eq_2, lenW.eq_3, tupleW.eq_1, tupleW.eq_2, listW.eq_1, listW.eq_2, min2W.eq_1, max2W.eq_1, strW.eq_1, strW.eq_2, joinW.eq_1, joinW.eq_2, walkLW.eq_1, walkTW.eq_1, walkSW.eq_1, range1W.eq_1, zipW.eq_1, zipW.eq_2, tupG.eq_1, gsW.eq_1, gsW.eq_2, par2.eq_1, extW.eq_1, extW.eq_2, partW.eq_1, optW.eq_1, optW.eq_2, modW, fdivW, powW, ltW, leW, gtW, geW, isNone, isi_non, isi_bl, isi_int, isi_str, isi_tup, isi_lst, upperW, putW, appW, tupW, lstW, asB_bl, String.reduceBEq, beq_self_eq_true, Bool.or_true, Bool.true_or, Bool.or_false, Bool.false_or, Bool.and_true, Bool.true_and, Bool.and_false, Bool.false_and, Bool.not_true, Bool.not_false, forall_const, true_implies, true_and, and_true, false_implies, reduceCtorEq, List.length_cons, List.length_nil, forall_eq, imp_self, implies_true, if_true, if_false, Bool.false_eq_true, Bool.true_eq_false, neW_int]
    refine ⟨fun h1 => ?_, fun h1 => ?_⟩
    · have e : wantP (.tup l) = false := by
        match l, h1 with
        | [], _ => rfl
        | [_], _ => rfl
        | [_, _], _ => rfl
        | [_, _, _], h1 => exact absurd h1 (by simp)
        | _ :: _ :: _ :: _ :: _, _ => rfl
      rw [← e]
      exact q
    · match l, h1, hs, q with
      | [a, b, c], _, hs, q =>
        have q : Q (.bl (wordP a && shadesP b && manyP c)) := q
        refine isWord_ret (hs.mem a (by simp)) hn _ _ ?_
        simp only [W.bind_wp, W.ret_wp, W.want_wp, W.any_wp, s_ite, s_get0, s_get, s_then, s_end, s_run, s_calm, s_fail, s_start1, s_start2, s_start3, s_start4, s_start5, List.replicate, List.set_cons_zero, List.set_cons_succ, asB_bl, asS_str, Nat.reduceSub, Nat.reduceAdd, addW.eq_1, addW.eq_2, addW.eq_3, addW.eq_4, addW.eq_5, subW.eq_1, subW.eq_2, mulW.eq_1, mulW.eq_2, mulW.eq_3, intOp.eq_1, negW.eq_1, ordW.eq_1, ordW.eq_2, isW.eq_1, isntW.eq_1, ixW.eq_1, ixW.eq_2, ixW.eq_3, slW.eq_1, slW.eq_2, slW.eq_3, revTW.eq_1, revLW.eq_1, lenW.eq_1, lenW.eq_2, lenW.eq_3, tupleW.eq_1, tupleW.eq_2, listW.eq_1, listW.eq_2, min2W.eq_1, max2W.eq_1, strW.eq_1, strW.eq_2, joinW.eq_1, joinW.eq_2, walkLW.eq_1, walkTW.eq_1, walkSW.eq_1, range1W.eq_1, zipW.eq_1, zipW.eq_2, tupG.eq_1, gsW.eq_1, gsW.eq_2, par2.eq_1, extW.eq_1, extW.eq_2, partW.eq_1, optW.eq_1, optW.eq_2, modW, fdivW, powW, ltW, leW, gtW, geW, isNone, isi_non, isi_bl, isi_int, isi_str, isi_tup, isi_lst, upperW, putW, appW, tupW, lstW, asB_bl, String.reduceBEq, beq_self_eq_true, Bool.or_true, Bool.true_or, Bool.or_false, Bool.false_or, Bool.and_true, Bool.true_and, Bool.and_false, Bool.false_and, Bool.not_true, Bool.not_false, forall_const, true_implies, true_and, and_true, false_implies, reduceCtorEq, List.length_cons, List.length_nil, forall_eq, imp_self, implies_true, if_true, if_false, Bool.false_eq_true, Bool.true_eq_false]
        refine ⟨fun z => ?_, fun z => by rw [z, Bool.false_and, Bool.false_and] at q; exact q⟩
        rw [z, Bool.true_and] at q
        refine isShades_ret (hs.mem b (by simp)) hn _ _ ?_
        simp only [W.bind_wp, W.ret_wp, W.want_wp, W.any_wp, s_ite, s_get0, s_get, s_then, s_end, s_run, s_calm, s_fail, s_start1, s_start2, s_start3, s_start4, s_start5, List.replicate, List.set_cons_zero, List.set_cons_succ, asB_bl, asS_str, Nat.reduceSub, Nat.reduceAdd, addW.eq_1, addW.eq_2, addW.eq_3, addW.eq_4, addW.eq_5, subW.eq_1, subW.eq_2, mulW.eq_1, mulW.eq_2, mulW.eq_3, intOp.eq_1, negW.eq_1, ordW.eq_1, ordW.eq_2, isW.eq_1, isntW.eq_1, ixW.eq_1, ixW.eq_2, ixW.eq_3, slW.eq_1, slW.eq_2, slW.eq_3, revTW.eq_1, revLW.eq_1, lenW.eq_1, lenW.eq_2, lenW.eq_3, tupleW.eq_1, tupleW.eq_2, listW.eq_1, listW.eq_2, min2W.eq_1, max2W.eq_1, strW.eq_1, strW.eq_2, joinW.eq_1, joinW.eq_2, walkLW.eq_1, walkTW.eq_1, walkSW.eq_1, range1W.eq_1, zipW.eq_1, zipW.eq_2, tupG.eq_1, gsW.eq_1, gsW.eq_2, par2.eq_1, extW.eq_1, extW.eq_2, partW.eq_1, optW.eq_1, optW.eq_2, modW, fdivW, powW, ltW, leW, gtW, geW, isNone, isi_non, isi_bl, isi_int, isi_str, isi_tup, isi_lst, upperW, putW, appW, tupW, lstW, asB_bl, String.reduceBEq, beq_self_eq_true, Bool.or_true, Bool.true_or, Bool.or_false, Bool.false_or, Bool.and_true, Bool.true_and, Bool.and_false, Bool.false_and, Bool.not_true, Bool.not_false, forall_const, true_implies, true_and, and_true, false_implies, reduceCtorEq, List.length_cons, List.length_nil, forall_eq, imp_self, implies_true, if_true, if_false, Bool.false_eq_true, Bool.true_eq_false]
        refine ⟨fun z => ?_, fun z => by rw [z, Bool.false_and] at q; exact q⟩
        rw [z, Bool.true_and] at q
        exact isMany_ret (hs.mem c (by simp)).pl _ _ q
      | [], h1, _, _ => simp at h1
      | [_], h1, _, _ => simp at h1
      | [_, _], h1, _, _ => simp at h1
      | _ :: _ :: _ :: _ :: _, h1, _, _ =>
        simp at h1
        omega
  | str y => exact q
  | lst l => exact q
  | non => exact q
  | bl b => exact q
  | int i => exact q
  | _ => exact absurd h.pl Bool.false_ne_true
theorem isWay_ret {d : D} {m dp n : Nat} (h : Sz m dp n d) (hn : n ≤ 1000000) : Ret (fIsWay [d]) (.bl (wayP d)) := fun Q E q => by
  refine ⟨rfl, ?_⟩
  cases d with
  | tup l =>
    obtain ⟨hs, hw⟩ := h.un
    have hl : l.length ≤ sizeLine := small (by have := hs.len; omega)
    show (endW (bIsWay (startE 2 [.tup l]))).wp Q E
    simp only [bIsWay, W.bind_wp, W.ret_wp, W.want_wp, W.any_wp, s_ite, s_get0, s_get, s_then, s_end, s_run, s_calm, s_fail, s_start1, s_start2, s_start3, s_start4, s_start5, List.replicate, List.set_cons_zero, List.set_cons_succ, asB_bl, asS_str, Nat.reduceSub, Nat.reduceAdd, addW.eq_1, addW.eq_2, addW.eq_3, addW.eq_4, addW.eq_5, subW.eq_1, subW.eq_2, mulW.eq_1, mulW.eq_2, mulW.eq_3, intOp.eq_1, negW.eq_1, ordW.eq_1, ordW.eq_2, isW.eq_1, isntW.eq_1, ixW.eq_1, ixW.eq_2, ixW.eq_3, slW.eq_1, slW.eq_2, slW.eq_3, revTW.eq_1, revLW.eq_1, lenW.eq_1, lenW.eq_2, lenW.eq_3, tupleW.eq_1, tupleW.eq_2, listW.eq_1, listW.eq_2, min2W.eq_1, max2W.eq_1, strW.eq_1, strW.eq_2, joinW.eq_1, joinW.eq_2, walkLW.eq_1, walkTW.eq_1, walkSW.eq_1, range1W.eq_1, zipW.eq_1, zipW.eq_2, tupG.eq_1, gsW.eq_1, gsW.eq_2, par2.eq_1, extW.eq_1, extW.eq_2, partW.eq_1, optW.eq_1, optW.eq_2, modW, fdivW, powW, ltW, leW, gtW, geW, isNone, isi_non, isi_bl, isi_int, isi_str, isi_tup, isi_lst, upperW, putW, appW, tupW, lstW, asB_bl, String.reduceBEq, beq_self_eq_true, Bool.or_true, Bool.true_or, Bool.or_false, Bool.false_or, Bool.and_true, Bool.true_and, Bool.and_false, Bool.false_and, Bool.not_true, Bool.not_false, forall_const, true_implies, true_and, and_true, false_implies, reduceCtorEq, List.length_cons, List.length_nil, forall_eq, imp_self, implies_true, if_true, if_false, Bool.false_eq_true, Bool.true_eq_false]
    refine (lc_map (fun d => .bl (wantP d)) (Ret.ret _) hl fun d hd => isWant_ret (hs.mem d hd) hn _ _ (by rfl)).go ((all_ret _ _).go ?_)
    exact q
  | str y => exact q
  | lst l => exact q
  | non => exact q
  | bl b => exact q
  | int i => exact q
  | _ => exact absurd h.pl Bool.false_ne_true
end LP
namespace LP
open PySem PySem.Spec PyProof.Rows L2 PK RZ
theorem many_wp {Q : D → Prop} {E : Ex → Prop} (q : ∀ r : Int, 1 ≤ r → r ≤ 1000000000 → Q (.int r)) : (fLMany [.tok 0]).wp Q E := by
  refine ⟨rfl, ?_⟩
  show (endW (bLMany (startE 1 [.tok 0]))).wp Q E
  simp only [bLMany, W.bind_wp, W.ret_wp, W.want_wp, W.any_wp, s_ite, s_get0, s_get, s_then, s_end, s_run, s_calm, s_fail, s_start1, s_start2, s_start3, s_start4, s_start5, List.replicate, List.set_cons_zero, List.set_cons_succ, asB_bl, asS_str, Nat.reduceSub, Nat.reduceAdd, addW.eq_1, addW.eq_2, addW.eq_3, addW.eq_4, addW.eq_5, subW.eq_1, subW.eq_2, mulW.eq_1, mulW.eq_2, mulW.eq_3, intOp.eq_1, negW.eq_1, ordW.eq_1, ordW.eq_2, isW.eq_1, isntW.eq_1, ixW.eq_1, ixW.eq_2, ixW.eq_3, slW.eq_1, slW.eq_2, slW.eq_3, revTW.eq_1, revLW.eq_1, lenW.eq_1, lenW.eq_2, lenW.eq_3, tupleW.eq_1, tupleW.eq_2, listW.eq_1, listW.eq_2, min2W.eq_1, max2W.eq_1, strW.eq_1, strW.eq_2, joinW.eq_1, joinW.eq_2, walkLW.eq_1, walkTW.eq_1, walkSW.eq_1, range1W.eq_1, zipW.eq_1, zipW.eq_2, tupG.eq_1, gsW.eq_1, gsW.eq_2, par2.eq_1, extW.eq_1, extW.eq_2, partW.eq_1, optW.eq_1, optW.eq_2, modW, fdivW, powW, ltW, leW, gtW, geW, isNone, isi_non, isi_bl, isi_int, isi_str, isi_tup, isi_lst, upperW, putW, appW, tupW, lstW, asB_bl, String.reduceBEq, beq_self_eq_true, Bool.or_true, Bool.true_or, Bool.or_false, Bool.false_or, Bool.and_true, Bool.true_and, Bool.and_false, Bool.false_and, Bool.not_true, Bool.not_false, forall_const, true_implies, true_and, and_true, false_implies, reduceCtorEq, List.length_cons, List.length_nil, forall_eq, imp_self, implies_true, if_true, if_false, Bool.false_eq_true, Bool.true_eq_false]
  refine draw_wp (by decide) (by decide) fun r1 a1 b1 => ⟨⟨by decide, by decide, by decide⟩, draw_wp (by decide) (by decide) fun r2 a2 b2 => ⟨⟨by decide, by decide, by decide⟩, draw_wp (by decide) (by decide) fun r3 a3 b3 => ⟨small (by decide), draw_wp (by decide) (by decide) fun r4 a4 b4 => ?_⟩⟩⟩
  have b3 : r3 < 1000000 := b3
  have e : r4 = 0 ∨ r4 = 1 ∨ r4 = 2 ∨ r4 = 3 := by omega
  rcases e with rfl | rfl | rfl | rfl
  · exact q 1 (by decide) (by decide)
  · exact q (1 + r1) (by omega) (by omega)
  · exact q (1000000000 - r2) (by omega) (by omega)
  · exact q (1 + r3) (by omega) (by omega)
theorem plains_strs (ws : List Str) : D.plains (ws.map D.str) = true := by
  rw [plains_all, List.all_map]
  exact List.all_eq_true.mpr fun _ _ => rfl
theorem depths_strs (ws : List Str) : PyData.depthAll (D.toPs (ws.map D.str)) = 0 := by
  induction ws with
  | nil => rfl
  | cons y ws ih => show max 0 (PyData.depthAll (D.toPs (ws.map D.str))) = 0; rw [ih]; rfl
theorem sh_strs (ws : List Str) : D.sh (.lst (ws.map D.str)) := by
  refine ⟨plains_strs ws, ?_⟩
  show (PyData.list (D.toPs (ws.map D.str))).depth ≤ 64
  rw [depth_list, depths_strs]
  decide
theorem neW_nil (ws : List Str) : neW (.lst (ws.map D.str)) (.lst []) = W.ret (.bl (!ws.isEmpty)) := by
  refine (neW_sh (sh_strs ws) (sh_strs [])).trans ?_
  cases ws <;> rfl
theorem last_strs {ws : List Str} (h : ws ≠ []) : atI (ws.map D.str) (-1) = some (.str (ws.getLast h)) := by
  have e : ws.map D.str = ws.dropLast.map D.str ++ [.str (ws.getLast h)] := by
    rw [← List.map_singleton (f := D.str), ← List.map_append, List.dropLast_concat_getLast]
  rw [e]
  exact atI_last _ _
theorem ix_last {ws : List Str} (h : ws ≠ []) : ixW (.lst (ws.map D.str)) (.int (-1)) = W.ret (.str (ws.getLast h)) := by
  show optW (atI _ _) = _
  rw [last_strs h]
  rfl
theorem Word.ok {y : Str} (h : Word y) : PyData.strOk y = true := strOk_mem.mpr fun c hc => by
  have := (h.low c hc).2
  omega
theorem ssOf_ones (l : List Nat) : ssOf (l.map fun k => D.str ⟨#[k]⟩) = some (l.map fun k => (⟨#[k]⟩ : Str)) := by
  have e : (l.map fun k => D.str ⟨#[k]⟩) = (l.map fun k => (⟨#[k]⟩ : Str)).map D.str := by rw [List.map_map]; rfl
  rw [e, ssOf_map]
theorem joinW_lst {a : Str} {l : List D} {ys : List Str} (h : ssOf l = some ys) (h2 : (ys.map (·.length)).sum + ys.length * a.length ≤ 16777216) : joinW a (.lst l) = W.ret (.str (Str.join a ys)) := by
  show W.bind (optW (ssOf l)) _ = _
  rw [h, optW_some, W.ret_bind, W.want_bind h2]
/-- so many words, unlike -/
theorem names_wp {n : Int} {Q : D → Prop} {E : Ex → Prop} (h0 : 0 ≤ n) (h1 : n ≤ 20) (q : ∀ ws : List Str, (ws.length : Int) = n → (∀ y ∈ ws, Word y) → ws.Nodup → Q (.lst (ws.map D.str))) : (fLNames [.tok 0, .int n]).wp Q E := by
  refine ⟨rfl, ?_⟩
  show (endW (bLNames (startE 8 [.tok 0, .int n]))).wp Q E
  simp only [bLNames, W.bind_wp, W.ret_wp, W.want_wp, W.any_wp, s_ite, s_get0, s_get, s_then, s_end, s_run, s_calm, s_fail, s_start1, s_start2, s_start3, s_start4, s_start5, List.replicate, List.set_cons_zero, List.set_cons_succ, asB_bl, asS_str, Nat.reduceSub, Nat.reduceAdd, addW.eq_1, addW.eq_2, addW.eq_3, addW.eq_4, addW.eq_5, subW.eq_1, subW.eq_2, mulW.eq_1, mulW.eq_2, mulW.eq_3, intOp.eq_1, negW.eq_1, ordW.eq_1, ordW.eq_2, isW.eq_1, isntW.eq_1, ixW.eq_1, ixW.eq_2, ixW.eq_3, slW.eq_1, slW.eq_2, slW.eq_3, revTW.eq_1, revLW.eq_1, lenW.eq_1, lenW.eq_2, lenW.eq_3, tupleW.eq_1, tupleW.eq_2, listW.eq_1, listW.eq_2, min2W.eq_1, max2W.eq_1, strW.eq_1, strW.eq_2, joinW.eq_1, joinW.eq_2, walkLW.eq_1, walkTW.eq_1, walkSW.eq_1, range1W.eq_1, zipW.eq_1, zipW.eq_2, tupG.eq_1, gsW.eq_1, gsW.eq_2, par2.eq_1, extW.eq_1, extW.eq_2, partW.eq_1, optW.eq_1, optW.eq_2, modW, fdivW, powW, ltW, leW, gtW, geW, isNone, isi_non, isi_bl, isi_int, isi_str, isi_tup, isi_lst, upperW, putW, appW, tupW, lstW, asB_bl, String.reduceBEq, beq_self_eq_true, Bool.or_true, Bool.true_or, Bool.or_false, Bool.false_or, Bool.and_true, Bool.true_and, Bool.and_false, Bool.false_and, Bool.not_true, Bool.not_false, forall_const, true_implies, true_and, and_true, false_implies, reduceCtorEq, List.length_cons, List.length_nil, forall_eq, imp_self, implies_true, if_true, if_false, Bool.false_eq_true, Bool.true_eq_false]
  refine ⟨small (by decide), by decide, draw_wp (by decide) (by decide) fun a0 a1 a2 => ⟨⟨by omega, by omega⟩, ?_⟩⟩
  refine forW_wp0 (fun i env => ∃ (ws : List Str) (z : Int) (y5 y6 y7 : Option D), env = [some (.tok 0), some (.int n), some (.str abc), some (.lst (ws.map D.str)), some (.int z), y5, y6, y7] ∧ ws.length = i ∧ (∀ y ∈ ws, Word y) ∧ NmOk a0 z ws)
    ⟨[], a0, none, none, none, rfl, rfl, fun _ h => (nomatch h), NmOk.nil a0⟩ ?_ ?_
  · rintro i d env hd ⟨ws, z, y5, y6, y7, rfl, lw, hw, nm⟩
    have hi : i < n.toNat := by
      have := (List.getElem?_eq_some_iff.mp hd).1
      simpa [rangeD] using this
    have lo := nm.lo
    have few := nm.few
    have put : ∀ (y : Str) (z' : Int) (y5 y6 y7 : Option D), Word y → NmOk a0 z' (ws ++ [y]) → ∃ (ws' : List Str) (z : Int) (x5 x6 x7 : Option D), [some (.tok 0), some (.int n), some (.str abc), some (.lst (ws.map D.str ++ [.str y])), some (.int z'), y5, y6, y7] = [some (.tok 0), some (.int n), some (.str abc), some (.lst (ws'.map D.str)), some (.int z), x5, x6, x7] ∧ ws'.length = i + 1 ∧ (∀ y ∈ ws', Word y) ∧ NmOk a0 z ws' := by
      intro y z' y5 y6 y7 hy nm'
      refine ⟨ws ++ [y], z', y5, y6, y7, by rw [List.map_append]; rfl, by rw [List.length_append, lw]; rfl, fun v hv => ?_, nm'⟩
      rcases List.mem_append.mp hv with h | h
      · exact hw v h
      · rw [List.mem_singleton.mp h]
        exact hy
    show (bLNames_3 [some (.tok 0), some (.int n), some (.str abc), some (.lst (ws.map D.str)), some (.int z), some d, y6, y7]).wp _ E
    have els : ∀ R : Fl → Prop, (∀ e, (∃ (ws : List Str) (z : Int) (y5 y6 y7 : Option D), e = [some (.tok 0), some (.int n), some (.str abc), some (.lst (ws.map D.str)), some (.int z), y5, y6, y7] ∧ ws.length = i + 1 ∧ (∀ y ∈ ws, Word y) ∧ NmOk a0 z ws) → R (.nx e)) →
      (bLNames_2 [some (.tok 0), some (.int n), some (.str abc), some (.lst (ws.map D.str)), some (.int z), some d, y6, y7]).wp R E := by
      intro R hR
      simp only [bLNames_2, W.bind_wp, W.ret_wp, W.want_wp, W.any_wp, s_ite, s_get0, s_get, s_then, s_end, s_run, s_calm, s_fail, s_start1, s_start2, s_start3, s_start4, s_start5, List.replicate, List.set_cons_zero, List.set_cons_succ, asB_bl, asS_str, Nat.reduceSub, Nat.reduceAdd, addW.eq_1, addW.eq_2, addW.eq_3, addW.eq_4, addW.eq_5, subW.eq_1, subW.eq_2, mulW.eq_1, mulW.eq_2, mulW.eq_3, intOp.eq_1, negW.eq_1, ordW.eq_1, ordW.eq_2, isW.eq_1, isntW.eq_1, ixW.eq_1, ixW.eq_2, ixW.eq_3, slW.eq_1, slW.eq_2, slW.eq_3, revTW.eq_1, revLW.eq_1, lenW.eq_1, lenW.eq_2, lenW.eq_3, tupleW.eq_1, tupleW.eq_2, listW.eq_1, listW.eq_2, min2W.eq_1, max2W.eq_1, strW.eq_1, strW.eq_2, joinW.eq_1, joinW.eq_2, walkLW.eq_1, walkTW.eq_1, walkSW.eq_1, range1W.eq_1, zipW.eq_1, zipW.eq_2, tupG.eq_1, gsW.eq_1, gsW.eq_2, par2.eq_1, extW.eq_1, extW.eq_2, partW.eq_1, optW.eq_1, optW.eq_2, modW, fdivW, powW, ltW, leW, gtW, geW, isNone, isi_non, isi_bl, isi_int, isi_str, isi_tup, isi_lst, upperW, putW, appW, tupW, lstW, asB_bl, String.reduceBEq, beq_self_eq_true, Bool.or_true, Bool.true_or, Bool.or_false, Bool.false_or, Bool.and_true, Bool.true_and, Bool.and_false, Bool.false_and, Bool.not_true, Bool.not_false, forall_const, true_implies, true_and, and_true, false_implies, reduceCtorEq, List.length_cons, List.length_nil, forall_eq, imp_self, implies_true, if_true, if_false, Bool.false_eq_true, Bool.true_eq_false]
      refine lcD_go ?_
      simp only [W.bind_wp, W.ret_wp, W.want_wp, W.any_wp, s_ite, s_get0, s_get, s_then, s_end, s_run, s_calm, s_fail, s_start1, s_start2, s_start3, s_start4, s_start5, List.replicate, List.set_cons_zero, List.set_cons_succ, asB_bl, asS_str, Nat.reduceSub, Nat.reduceAdd, addW.eq_1, addW.eq_2, addW.eq_3, addW.eq_4, addW.eq_5, subW.eq_1, subW.eq_2, mulW.eq_1, mulW.eq_2, mulW.eq_3, intOp.eq_1, negW.eq_1, ordW.eq_1, ordW.eq_2, isW.eq_1, isntW.eq_1, ixW.eq_1, ixW.eq_2, ixW.eq_3, slW.eq_1, slW.eq_2, slW.eq_3, revTW.eq_1, revLW.eq_1, lenW.eq_1, lenW.eq_2, lenW.eq_3, tupleW.eq_1, tupleW.eq_2, listW.eq_1, listW.eq_2, min2W.eq_1, max2W.eq_1, strW.eq_1, strW.eq_2, joinW.eq_1, joinW.eq_2, walkLW.eq_1, walkTW.eq_1, walkSW.eq_1, range1W.eq_1, zipW.eq_1, zipW.eq_2, tupG.eq_1, gsW.eq_1, gsW.eq_2, par2.eq_1, extW.eq_1, extW.eq_2, partW.eq_1, optW.eq_1, optW.eq_2, modW, fdivW, powW, ltW, leW, gtW, geW, isNone, isi_non, isi_bl, isi_int, isi_str, isi_tup, isi_lst, upperW, putW, appW, tupW, lstW, asB_bl, String.reduceBEq, beq_self_eq_true, Bool.or_true, Bool.true_or, Bool.or_false, Bool.false_or, Bool.and_true, Bool.true_and, Bool.and_false, Bool.false_and, Bool.not_true, Bool.not_false, forall_const, true_implies, true_and, and_true, false_implies, reduceCtorEq, List.length_cons, List.length_nil, forall_eq, imp_self, implies_true, if_true, if_false, Bool.false_eq_true, Bool.true_eq_false]
      refine ⟨small (by decide), draw_wp (by decide) (by decide) fun r r0 r1 => ?_⟩
      have e4 : r = 0 ∨ r = 1 ∨ r = 2 ∨ r = 3 := by omega
      have key : ∃ k : Nat, k ≤ 7 ∧ atI [D.int 0, .int 0, .int 1, .int 7] r = some (.int k) := by
        rcases e4 with rfl | rfl | rfl | rfl
        · exact ⟨0, by decide, rfl⟩
        · exact ⟨0, by decide, rfl⟩
        · exact ⟨1, by decide, rfl⟩
        · exact ⟨7, by decide, rfl⟩
      obtain ⟨k, hk, ek⟩ := key
      simp only [W.bind_wp, W.ret_wp, W.want_wp, W.any_wp, s_ite, s_get0, s_get, s_then, s_end, s_run, s_calm, s_fail, s_start1, s_start2, s_start3, s_start4, s_start5, List.replicate, List.set_cons_zero, List.set_cons_succ, asB_bl, asS_str, Nat.reduceSub, Nat.reduceAdd, addW.eq_1, addW.eq_2, addW.eq_3, addW.eq_4, addW.eq_5, subW.eq_1, subW.eq_2, mulW.eq_1, mulW.eq_2, mulW.eq_3, intOp.eq_1, negW.eq_1, ordW.eq_1, ordW.eq_2, isW.eq_1, isntW.eq_1, ixW.eq_1, ixW.eq_2, ixW.eq_3, slW.eq_1, slW.eq_2, slW.eq_3, revTW.eq_1, revLW.eq_1, lenW.eq_1, lenW.eq_2, lenW.eq_3, tupleW.eq_1, tupleW.eq_2, listW.eq_1, listW.eq_2, min2W.eq_1, max2W.eq_1, strW.eq_1, strW.eq_2, joinW.eq_1, joinW.eq_2, walkLW.eq_1, walkTW.eq_1, walkSW.eq_1, range1W.eq_1, zipW.eq_1, zipW.eq_2, tupG.eq_1, gsW.eq_1, gsW.eq_2, par2.eq_1, extW.eq_1, extW.eq_2, partW.eq_1, optW.eq_1, optW.eq_2, modW, fdivW, powW, ltW, leW, gtW, geW, isNone, isi_non, isi_bl, isi_int, isi_str, isi_tup, isi_lst, upperW, putW, appW, tupW, lstW, asB_bl, String.reduceBEq, beq_self_eq_true, Bool.or_true, Bool.true_or, Bool.or_false, Bool.false_or, Bool.and_true, Bool.true_and, Bool.and_false, Bool.false_and, Bool.not_true, Bool.not_false, forall_const, true_implies, true_and, and_true, false_implies, reduceCtorEq, List.length_cons, List.length_nil, forall_eq, imp_self, implies_true, if_true, if_false, Bool.false_eq_true, Bool.true_eq_false, ek]
      refine ⟨⟨by omega, by omega⟩, ?_⟩
      refine lcW_go (fun j acc => ∃ l : List Nat, acc = l.map (fun c => D.str ⟨#[c]⟩) ∧ l.length = j ∧ ∀ c ∈ l, Lw c) ⟨[], rfl, rfl, fun _ h => (nomatch h)⟩ ?_ ?_
      · rintro j e acc he ⟨l, rfl, lj, hl⟩
        have hj : j < k := by
          have := (List.getElem?_eq_some_iff.mp he).1
          simpa [rangeD] using this
        simp only [wipeE, W.bind_wp, W.ret_wp, W.want_wp, W.any_wp, s_ite, s_get0, s_get, s_then, s_end, s_run, s_calm, s_fail, s_start1, s_start2, s_start3, s_start4, s_start5, List.replicate, List.set_cons_zero, List.set_cons_succ, asB_bl, asS_str, Nat.reduceSub, Nat.reduceAdd, addW.eq_1, addW.eq_2, addW.eq_3, addW.eq_4, addW.eq_5, subW.eq_1, subW.eq_2, mulW.eq_1, mulW.eq_2, mulW.eq_3, intOp.eq_1, negW.eq_1, ordW.eq_1, ordW.eq_2, isW.eq_1, isntW.eq_1, ixW.eq_1, ixW.eq_2, ixW.eq_3, slW.eq_1, slW.eq_2, slW.eq_3, revTW.eq_1, revLW.eq_1, lenW.eq_1, lenW.eq_2, lenW.eq_3, tupleW.eq_1, tupleW.eq_2, listW.eq_1, listW.eq_2, min2W.eq_1, max2W.eq_1, strW.eq_1, strW.eq_2, joinW.eq_1, joinW.eq_2, walkLW.eq_1, walkTW.eq_1, walkSW.eq_1, range1W.eq_1, zipW.eq_1, zipW.eq_2, tupG.eq_1, gsW.eq_1, gsW.eq_2, par2.eq_1, extW.eq_1, extW.eq_2, partW.eq_1, optW.eq_1, optW.eq_2, modW, fdivW, powW, ltW, leW, gtW, geW, isNone, isi_non, isi_bl, isi_int, isi_str, isi_tup, isi_lst, upperW, putW, appW, tupW, lstW, asB_bl, String.reduceBEq, beq_self_eq_true, Bool.or_true, Bool.true_or, Bool.or_false, Bool.false_or, Bool.and_true, Bool.true_and, Bool.and_false, Bool.false_and, Bool.not_true, Bool.not_false, forall_const, true_implies, true_and, and_true, false_implies, reduceCtorEq, List.length_cons, List.length_nil, forall_eq, imp_self, implies_true, if_true, if_false, Bool.false_eq_true, Bool.true_eq_false]
        refine draw_wp (by decide) (by decide) fun r r0 r1 => ?_
        obtain ⟨c, ec, hc⟩ := abc_at r0 r1
        simp only [W.bind_wp, W.ret_wp, W.want_wp, W.any_wp, s_ite, s_get0, s_get, s_then, s_end, s_run, s_calm, s_fail, s_start1, s_start2, s_start3, s_start4, s_start5, List.replicate, List.set_cons_zero, List.set_cons_succ, asB_bl, asS_str, Nat.reduceSub, Nat.reduceAdd, addW.eq_1, addW.eq_2, addW.eq_3, addW.eq_4, addW.eq_5, subW.eq_1, subW.eq_2, mulW.eq_1, mulW.eq_2, mulW.eq_3, intOp.eq_1, negW.eq_1, ordW.eq_1, ordW.eq_2, isW.eq_1, isntW.eq_1, ixW.eq_1, ixW.eq_2, ixW.eq_3, slW.eq_1, slW.eq_2, slW.eq_3, revTW.eq_1, revLW.eq_1, lenW.eq_1, lenW.eq_2, lenW.eq_3, tupleW.eq_1, tupleW.eq_2, listW.eq_1, listW.eq_2, min2W.eq_1, max2W.eq_1, strW.eq_1, strW.eq_2, joinW.eq_1, joinW.eq_2, walkLW.eq_1, walkTW.eq_1, walkSW.eq_1, range1W.eq_1, zipW.eq_1, zipW.eq_2, tupG.eq_1, gsW.eq_1, gsW.eq_2, par2.eq_1, extW.eq_1, extW.eq_2, partW.eq_1, optW.eq_1, optW.eq_2, modW, fdivW, powW, ltW, leW, gtW, geW, isNone, isi_non, isi_bl, isi_int, isi_str, isi_tup, isi_lst, upperW, putW, appW, tupW, lstW, asB_bl, String.reduceBEq, beq_self_eq_true, Bool.or_true, Bool.true_or, Bool.or_false, Bool.false_or, Bool.and_true, Bool.true_and, Bool.and_false, Bool.false_and, Bool.not_true, Bool.not_false, forall_const, true_implies, true_and, and_true, false_implies, reduceCtorEq, List.length_cons, List.length_nil, forall_eq, imp_self, implies_true, if_true, if_false, Bool.false_eq_true, Bool.true_eq_false, ec]
        refine ⟨abc_len, ?_, l ++ [c], by rw [List.map_append]; rfl, by rw [List.length_append, lj]; rfl, fun x hx => ?_⟩
        · rw [List.length_map]
          exact smallT (by omega)
        · rcases List.mem_append.mp hx with h | h
          · exact hl x h
          · rw [List.mem_singleton.mp h]
            exact hc
      · rintro acc ⟨l, rfl, lj, hl⟩
        have lk : l.length = k := by rw [lj]; simp [rangeD]
        have m0 := Int.emod_nonneg (z + 1) (show (26 : Int) ≠ 0 by decide)
        have m1 := Int.emod_lt_of_pos (z + 1) (show (0 : Int) < 26 by decide)
        obtain ⟨c, ec, hc⟩ := abc_at m0 m1
        have hw2 := word_join hc (show l.length ≤ 7 by omega) hl
        rw [TL.join_eq] at hw2
        have hsum : ((l.map fun k => (⟨#[k]⟩ : Str)).map (·.length)).sum + (l.map fun k => (⟨#[k]⟩ : Str)).length * Str.length ("" : String) ≤ 16777216 := by
          have e1 : ((l.map fun k => (⟨#[k]⟩ : Str)).map (·.length)).sum = l.length := by
            rw [List.map_map]
            clear hw2 hl lk lj
            induction l with
            | nil => rfl
            | cons a l ih => rw [List.map_cons, List.sum_cons, ih, List.length_cons]; show 1 + _ = _; omega
          rw [e1, List.length_map, show Str.length ("" : String) = 0 from rfl]
          omega
        simp only [W.bind_wp, W.ret_wp, W.want_wp, W.any_wp, s_ite, s_get0, s_get, s_then, s_end, s_run, s_calm, s_fail, s_start1, s_start2, s_start3, s_start4, s_start5, List.replicate, List.set_cons_zero, List.set_cons_succ, asB_bl, asS_str, Nat.reduceSub, Nat.reduceAdd, addW.eq_1, addW.eq_2, addW.eq_3, addW.eq_4, addW.eq_5, subW.eq_1, subW.eq_2, mulW.eq_1, mulW.eq_2, mulW.eq_3, intOp.eq_1, negW.eq_1, ordW.eq_1, ordW.eq_2, isW.eq_1, isntW.eq_1, ixW.eq_1, ixW.eq_2, ixW.eq_3, slW.eq_1, slW.eq_2, slW.eq_3, revTW.eq_1, revLW.eq_1, lenW.eq_1, lenW.eq_2, lenW.eq_3, tupleW.eq_1, tupleW.eq_2, listW.eq_1, listW.eq_2, min2W.eq_1, max2W.eq_1, strW.eq_1, strW.eq_2, joinW.eq_1, joinW.eq_2, walkLW.eq_1, walkTW.eq_1, walkSW.eq_1, range1W.eq_1, zipW.eq_1, zipW.eq_2, tupG.eq_1, gsW.eq_1, gsW.eq_2, par2.eq_1, extW.eq_1, extW.eq_2, partW.eq_1, optW.eq_1, optW.eq_2, modW, fdivW, powW, ltW, leW, gtW, geW, isNone, isi_non, isi_bl, isi_int, isi_str, isi_tup, isi_lst, upperW, putW, appW, tupW, lstW, asB_bl, String.reduceBEq, beq_self_eq_true, Bool.or_true, Bool.true_or, Bool.or_false, Bool.false_or, Bool.and_true, Bool.true_and, Bool.and_false, Bool.false_and, Bool.not_true, Bool.not_false, forall_const, true_implies, true_and, and_true, false_implies, reduceCtorEq, List.length_cons, List.length_nil, forall_eq, imp_self, implies_true, if_true, if_false, Bool.false_eq_true, Bool.true_eq_false, ec, ssOf_ones]
        refine ⟨by decide, abc_len, hsum, ?_, ?_, hR _ (put _ (z + 1) (some d) _ y7 hw2 (nm.next (by omega) ?_))⟩
        · have := hw2.eight
          have e9 : (⟨#[c]⟩ ++ Str.join ⟨#[]⟩ (l.map fun k => (⟨#[k]⟩ : Str))).length = (⟨#[c]⟩ : Str).length + (Str.join ⟨#[]⟩ (l.map fun k => (⟨#[k]⟩ : Str))).length := strLen_append _ _
          refine small ?_
          show (⟨#[c]⟩ : Str).length + (Str.join ⟨#[]⟩ (l.map fun k => (⟨#[k]⟩ : Str))).length ≤ 1000000
          omega
        · rw [List.length_map]
          exact smallT (by omega)
        · rw [hd_cons, abc_at2 m0 m1 ec]
          rfl
    simp only [bLNames_3, bLNames_1, W.bind_wp, W.ret_wp, W.want_wp, W.any_wp, s_ite, s_get0, s_get, s_then, s_end, s_run, s_calm, s_fail, s_start1, s_start2, s_start3, s_start4, s_start5, List.replicate, List.set_cons_zero, List.set_cons_succ, asB_bl, asS_str, Nat.reduceSub, Nat.reduceAdd, addW.eq_1, addW.eq_2, addW.eq_3, addW.eq_4, addW.eq_5, subW.eq_1, subW.eq_2, mulW.eq_1, mulW.eq_2, mulW.eq_3, intOp.eq_1, negW.eq_1, ordW.eq_1, ordW.eq_2, isW.eq_1, isntW.eq_1, ixW.eq_1, ixW.eq_2, ixW.eq_3, slW.eq_1, slW.eq_2, slW.eq_3, revTW.eq_1, revLW.eq_1, lenW.eq_1, lenW.eq_2, lenW.eq_3, tupleW.eq_1, tupleW.eq_2, listW.eq_1, listW.eq_2, min2W.eq_1, max2W.eq_1, strW.eq_1, strW.eq_2, joinW.eq_1, joinW.eq_2, walkLW.eq_1, walkTW.eq_1, walkSW.eq_1, range1W.eq_1, zipW.eq_1, zipW.eq_2, tupG.eq_1, gsW.eq_1, gsW.eq_2, par2.eq_1, extW.eq_1, extW.eq_2, partW.eq_1, optW.eq_1, optW.eq_2, modW, fdivW, powW, ltW, leW, gtW, geW, isNone, isi_non, isi_bl, isi_int, isi_str, isi_tup, isi_lst, upperW, putW, appW, tupW, lstW, asB_bl, String.reduceBEq, beq_self_eq_true, Bool.or_true, Bool.true_or, Bool.or_false, Bool.false_or, Bool.and_true, Bool.true_and, Bool.and_false, Bool.false_and, Bool.not_true, Bool.not_false, forall_const, true_implies, true_and, and_true, false_implies, reduceCtorEq, List.length_cons, List.length_nil, forall_eq, imp_self, implies_true, if_true, if_false, Bool.false_eq_true, Bool.true_eq_false, neW_nil]
    by_cases we : ws = []
    · subst we
      exact ⟨Nat.zero_le _, fun h => absurd h (by decide), fun _ => els _ fun e h => h⟩
    · have wy : Word (ws.getLast we) := hw _ (List.getLast_mem we)
      simp only [last_strs we, W.bind_wp, W.ret_wp, W.want_wp, W.any_wp, s_ite, s_get0, s_get, s_then, s_end, s_run, s_calm, s_fail, s_start1, s_start2, s_start3, s_start4, s_start5, List.replicate, List.set_cons_zero, List.set_cons_succ, asB_bl, asS_str, Nat.reduceSub, Nat.reduceAdd, addW.eq_1, addW.eq_2, addW.eq_3, addW.eq_4, addW.eq_5, subW.eq_1, subW.eq_2, mulW.eq_1, mulW.eq_2, mulW.eq_3, intOp.eq_1, negW.eq_1, ordW.eq_1, ordW.eq_2, isW.eq_1, isntW.eq_1, ixW.eq_1, ixW.eq_2, ixW.eq_3, slW.eq_1, slW.eq_2, slW.eq_3, revTW.eq_1, revLW.eq_1, lenW.eq_1, lenW.eq_2, lenW.eq_3, tupleW.eq_1, tupleW.eq_2, listW.eq_1, listW.eq_2, min2W.eq_1, max2W.eq_1, strW.eq_1, strW.eq_2, joinW.eq_1, joinW.eq_2, walkLW.eq_1, walkTW.eq_1, walkSW.eq_1, range1W.eq_1, zipW.eq_1, zipW.eq_2, tupG.eq_1, gsW.eq_1, gsW.eq_2, par2.eq_1, extW.eq_1, extW.eq_2, partW.eq_1, optW.eq_1, optW.eq_2, modW, fdivW, powW, ltW, leW, gtW, geW, isNone, isi_non, isi_bl, isi_int, isi_str, isi_tup, isi_lst, upperW, putW, appW, tupW, lstW, asB_bl, String.reduceBEq, beq_self_eq_true, Bool.or_true, Bool.true_or, Bool.or_false, Bool.false_or, Bool.and_true, Bool.true_and, Bool.and_false, Bool.false_and, Bool.not_true, Bool.not_false, forall_const, true_implies, true_and, and_true, false_implies, reduceCtorEq, List.length_cons, List.length_nil, forall_eq, imp_self, implies_true, if_true, if_false, Bool.false_eq_true, Bool.true_eq_false]
      refine ⟨Nat.zero_le _, fun _ => ⟨small (by have := wy.eight; omega), fun h8 => draw_wp (by decide) (by decide) fun r r0 r1 => ?_, fun _ => els _ fun e h => h⟩, fun _ => els _ fun e h => h⟩
      simp only [eqW_int, W.bind_wp, W.ret_wp, W.want_wp, W.any_wp, s_ite, s_get0, s_get, s_then, s_end, s_run, s_calm, s_fail, s_start1, s_start2, s_start3, s_start4, s_start5, List.replicate, List.set_cons_zero, List.set_cons_succ, asB_bl, asS_str, Nat.reduceSub, Nat.reduceAdd, addW.eq_1, addW.eq_2, addW.eq_3, addW.eq_4, addW.eq_5, subW.eq_1, subW.eq_2, mulW.eq_1, mulW.eq_2, mulW.eq_3, intOp.eq_1, negW.eq_1, ordW.eq_1, ordW.eq_2, isW.eq_1, isntW.eq_1, ixW.eq_1, ixW.eq_2, ixW.eq_3, slW.eq_1, slW.eq_2, slW.eq_3, revTW.eq_1, revLW.eq_1, lenW.eq_1, lenW.eq_2, lenW.eq_3, tupleW.eq_1, tupleW.eq_2, listW.eq_1, listW.eq_2, min2W.eq_1, max2W.eq_1, strW.eq_1, strW.eq_2, joinW.eq_1, joinW.eq_2, walkLW.eq_1, walkTW.eq_1, walkSW.eq_1, range1W.eq_1, zipW.eq_1, zipW.eq_2, tupG.eq_1, gsW.eq_1, gsW.eq_2, par2.eq_1, extW.eq_1, extW.eq_2, partW.eq_1, optW.eq_1, optW.eq_2, modW, fdivW, powW, ltW, leW, gtW, geW, isNone, isi_non, isi_bl, isi_int, isi_str, isi_tup, isi_lst, upperW, putW, appW, tupW, lstW, asB_bl, String.reduceBEq, beq_self_eq_true, Bool.or_true, Bool.true_or, Bool.or_false, Bool.false_or, Bool.and_true, Bool.true_and, Bool.and_false, Bool.false_and, Bool.not_true, Bool.not_false, forall_const, true_implies, true_and, and_true, false_implies, reduceCtorEq, List.length_cons, List.length_nil, forall_eq, imp_self, implies_true, if_true, if_false, Bool.false_eq_true, Bool.true_eq_false]
      refine ⟨fun _ => draw_wp (by decide) (by decide) fun r r0 r1 => ?_, fun _ => els _ fun e h => h⟩
      obtain ⟨c, ec, hc⟩ := abc_at r0 r1
      simp only [W.bind_wp, W.ret_wp, W.want_wp, W.any_wp, s_ite, s_get0, s_get, s_then, s_end, s_run, s_calm, s_fail, s_start1, s_start2, s_start3, s_start4, s_start5, List.replicate, List.set_cons_zero, List.set_cons_succ, asB_bl, asS_str, Nat.reduceSub, Nat.reduceAdd, addW.eq_1, addW.eq_2, addW.eq_3, addW.eq_4, addW.eq_5, subW.eq_1, subW.eq_2, mulW.eq_1, mulW.eq_2, mulW.eq_3, intOp.eq_1, negW.eq_1, ordW.eq_1, ordW.eq_2, isW.eq_1, isntW.eq_1, ixW.eq_1, ixW.eq_2, ixW.eq_3, slW.eq_1, slW.eq_2, slW.eq_3, revTW.eq_1, revLW.eq_1, lenW.eq_1, lenW.eq_2, lenW.eq_3, tupleW.eq_1, tupleW.eq_2, listW.eq_1, listW.eq_2, min2W.eq_1, max2W.eq_1, strW.eq_1, strW.eq_2, joinW.eq_1, joinW.eq_2, walkLW.eq_1, walkTW.eq_1, walkSW.eq_1, range1W.eq_1, zipW.eq_1, zipW.eq_2, tupG.eq_1, gsW.eq_1, gsW.eq_2, par2.eq_1, extW.eq_1, extW.eq_2, partW.eq_1, optW.eq_1, optW.eq_2, modW, fdivW, powW, ltW, leW, gtW, geW, isNone, isi_non, isi_bl, isi_int, isi_str, isi_tup, isi_lst, upperW, putW, appW, tupW, lstW, asB_bl, String.reduceBEq, beq_self_eq_true, Bool.or_true, Bool.true_or, Bool.or_false, Bool.false_or, Bool.and_true, Bool.true_and, Bool.and_false, Bool.false_and, Bool.not_true, Bool.not_false, forall_const, true_implies, true_and, and_true, false_implies, reduceCtorEq, List.length_cons, List.length_nil, forall_eq, imp_self, implies_true, if_true, if_false, Bool.false_eq_true, Bool.true_eq_false, ec]
      have h8 : (ws.getLast we).length < 8 := by simp at h8; omega
      refine ⟨abc_len, ?_, ?_, put _ z (some d) y6 y7 (word_snoc wy h8 hc) (nm.more we wy.one)⟩
      · rw [len_one]
        exact small (by omega)
      · rw [List.length_map]
        exact smallT (by omega)
  · rintro env ⟨ws, z, y5, y6, y7, rfl, lw, hw, nm⟩
    simp only [W.bind_wp, W.ret_wp, W.want_wp, W.any_wp, s_ite, s_get0, s_get, s_then, s_end, s_run, s_calm, s_fail, s_start1, s_start2, s_start3, s_start4, s_start5, List.replicate, List.set_cons_zero, List.set_cons_succ, asB_bl, asS_str, Nat.reduceSub, Nat.reduceAdd, addW.eq_1, addW.eq_2, addW.eq_3, addW.eq_4, addW.eq_5, subW.eq_1, subW.eq_2, mulW.eq_1, mulW.eq_2, mulW.eq_3, intOp.eq_1, negW.eq_1, ordW.eq_1, ordW.eq_2, isW.eq_1, isntW.eq_1, ixW.eq_1, ixW.eq_2, ixW.eq_3, slW.eq_1, slW.eq_2, slW.eq_3, revTW.eq_1, revLW.eq_1, lenW.eq_1, lenW.eq_2, lenW.eq_3, tupleW.eq_1, tupleW.eq_2, listW.eq_1, listW.eq_2, min2W.eq_1, max2W.eq_1, strW.eq_1, strW.eq_2, joinW.eq_1, joinW.eq_2, walkLW.eq_1, walkTW.eq_1, walkSW.eq_1, range1W.eq_1, zipW.eq_1, zipW.eq_2, tupG.eq_1, gsW.eq_1, gsW.eq_2, par2.eq_1, extW.eq_1, extW.eq_2, partW.eq_1, optW.eq_1, optW.eq_2, modW, fdivW, powW, ltW, leW, gtW, geW, isNone, isi_non, isi_bl, isi_int, isi_str, isi_tup, isi_lst, upperW, putW, appW, tupW, lstW, asB_bl, String.reduceBEq, beq_self_eq_true, Bool.or_true, Bool.true_or, Bool.or_false, Bool.false_or, Bool.and_true, Bool.true_and, Bool.and_false, Bool.false_and, Bool.not_true, Bool.not_false, forall_const, true_implies, true_and, and_true, false_implies, reduceCtorEq, List.length_cons, List.length_nil, forall_eq, imp_self, implies_true, if_true, if_false, Bool.false_eq_true, Bool.true_eq_false]
    refine q ws ?_ hw nm.nd
    rw [lw]
    simp [rangeD]
    omega
/-! ### texts sorted -/
theorem toPs_strs (l : List Str) : D.toPs (l.map D.str) = l.map PyData.str := by
  rw [toPs_map, List.map_map]
  rfl
theorem cmpb_strs (l : List Str) : Cmpb (D.toPs (l.map D.str)) := by
  rw [toPs_strs]
  refine ⟨fun d hd e he => ?_, .inr fun d hd => ?_, fun d hd => ?_⟩
  · obtain ⟨a, _, rfl⟩ := List.mem_map.mp hd
    obtain ⟨b, _, rfl⟩ := List.mem_map.mp he
    exact str_alike a b
  · obtain ⟨a, _, rfl⟩ := List.mem_map.mp hd
    exact ⟨fun z => (nomatch z), fun _ z => (nomatch z)⟩
  · obtain ⟨a, _, rfl⟩ := List.mem_map.mp hd
    exact Nat.zero_le _
theorem sortD_strs (l : List Str) : sortD (l.map D.str) = (sortS l).map D.str := by
  unfold sortD sortS srt
  exact (merge_map D.str (PySem.W.dataLe false D.toP) l).symm
theorem sorted_strs {l : List Str} (h : l.length ≤ 1000000) : sortedW [.lst (l.map D.str)] = W.ret (.lst ((sortS l).map D.str)) := by
  show W.bind (W.want _) _ = _
  rw [W.want_bind ⟨plains_strs l, cmpb_strs l, by rw [List.length_map]; exact small h⟩, sortD_strs]
theorem sortS_len (l : List Str) : (sortS l).length = l.length := (srt_perm false _ _).length_eq
theorem mem_sortS {l : List Str} {y : Str} : y ∈ sortS l ↔ y ∈ l := (srt_perm false _ _).mem_iff
def wantD' (f : Str) (zs : List Str) (r : Int) : D := .tup [.str f, .tup (zs.map D.str), .int r]
theorem want_wp {fs ss : List Str} {Q : D → Prop} {E : Ex → Prop} (hf : fs ≠ []) (lf : fs.length ≤ 1000) (ls : ss.length ≤ 1000) (q : ∀ f ∈ fs, ∀ (zs : List Str) (r : Int), zs.Sublist (sortS ss) → 1 ≤ r → r ≤ 1000000000 → Q (wantD' f zs r)) :
    (fLWant [.tok 0, .lst (fs.map D.str), .lst (ss.map D.str)]).wp Q E := by
  refine ⟨rfl, ?_⟩
  show (endW (bLWant (startE 6 [.tok 0, .lst (fs.map D.str), .lst (ss.map D.str)]))).wp Q E
  simp only [bLWant, W.bind_wp, W.ret_wp, W.want_wp, W.any_wp, s_ite, s_get0, s_get, s_then, s_end, s_run, s_calm, s_fail, s_start1, s_start2, s_start3, s_start4, s_start5, List.replicate, List.set_cons_zero, List.set_cons_succ, asB_bl, asS_str, Nat.reduceSub, Nat.reduceAdd, addW.eq_1, addW.eq_2, addW.eq_3, addW.eq_4, addW.eq_5, subW.eq_1, subW.eq_2, mulW.eq_1, mulW.eq_2, mulW.eq_3, intOp.eq_1, negW.eq_1, ordW.eq_1, ordW.eq_2, isW.eq_1, isntW.eq_1, ixW.eq_1, ixW.eq_2, ixW.eq_3, slW.eq_1, slW.eq_2, slW.eq_3, revTW.eq_1, revLW.eq_1, lenW.eq_1, lenW.eq_2, lenW.eq_3, tupleW.eq_1, tupleW.eq_2, listW.eq_1, listW.eq_2, min2W.eq_1, max2W.eq_1, strW.eq_1, strW.eq_2, joinW.eq_1, joinW.eq_2, walkLW.eq_1, walkTW.eq_1, walkSW.eq_1, range1W.eq_1, zipW.eq_1, zipW.eq_2, tupG.eq_1, gsW.eq_1, gsW.eq_2, par2.eq_1, extW.eq_1, extW.eq_2, partW.eq_1, optW.eq_1, optW.eq_2, modW, fdivW, powW, ltW, leW, gtW, geW, isNone, isi_non, isi_bl, isi_int, isi_str, isi_tup, isi_lst, upperW, putW, appW, tupW, lstW, asB_bl, String.reduceBEq, beq_self_eq_true, Bool.or_true, Bool.true_or, Bool.or_false, Bool.false_or, Bool.and_true, Bool.true_and, Bool.and_false, Bool.false_and, Bool.not_true, Bool.not_false, forall_const, true_implies, true_and, and_true, false_implies, reduceCtorEq, List.length_cons, List.length_nil, forall_eq, imp_self, implies_true, if_true, if_false, Bool.false_eq_true, Bool.true_eq_false]
  have l0 : 0 < fs.length := List.length_pos_iff.mpr hf
  refine draw_wp (by rw [List.length_map]; omega) (by rw [List.length_map]; omega) fun r r0 r1 => ?_
  rw [List.length_map] at r1
  obtain ⟨k, rfl⟩ := Int.eq_ofNat_of_zero_le r0
  have hk : k < fs.length := by omega
  have ek : atI (fs.map D.str) (k : Int) = some (.str fs[k]) := atI_nat (by rw [List.getElem?_map, List.getElem?_eq_getElem hk]; rfl)
  simp only [W.bind_wp, W.ret_wp, W.want_wp, W.any_wp, s_ite, s_get0, s_get, s_then, s_end, s_run, s_calm, s_fail, s_start1, s_start2, s_start3, s_start4, s_start5, List.replicate, List.set_cons_zero, List.set_cons_succ, asB_bl, asS_str, Nat.reduceSub, Nat.reduceAdd, addW.eq_1, addW.eq_2, addW.eq_3, addW.eq_4, addW.eq_5, subW.eq_1, subW.eq_2, mulW.eq_1, mulW.eq_2, mulW.eq_3, intOp.eq_1, negW.eq_1, ordW.eq_1, ordW.eq_2, isW.eq_1, isntW.eq_1, ixW.eq_1, ixW.eq_2, ixW.eq_3, slW.eq_1, slW.eq_2, slW.eq_3, revTW.eq_1, revLW.eq_1, lenW.eq_1, lenW.eq_2, lenW.eq_3, tupleW.eq_1, tupleW.eq_2, listW.eq_1, listW.eq_2, min2W.eq_1, max2W.eq_1, strW.eq_1, strW.eq_2, joinW.eq_1, joinW.eq_2, walkLW.eq_1, walkTW.eq_1, walkSW.eq_1, range1W.eq_1, zipW.eq_1, zipW.eq_2, tupG.eq_1, gsW.eq_1, gsW.eq_2, par2.eq_1, extW.eq_1, extW.eq_2, partW.eq_1, optW.eq_1, optW.eq_2, modW, fdivW, powW, ltW, leW, gtW, geW, isNone, isi_non, isi_bl, isi_int, isi_str, isi_tup, isi_lst, upperW, putW, appW, tupW, lstW, asB_bl, String.reduceBEq, beq_self_eq_true, Bool.or_true, Bool.true_or, Bool.or_false, Bool.false_or, Bool.and_true, Bool.true_and, Bool.and_false, Bool.false_and, Bool.not_true, Bool.not_false, forall_const, true_implies, true_and, and_true, false_implies, reduceCtorEq, List.length_cons, List.length_nil, forall_eq, imp_self, implies_true, if_true, if_false, Bool.false_eq_true, Bool.true_eq_false, ek]
  refine lcD_go ?_
  simp only [W.bind_wp, W.ret_wp, W.want_wp, W.any_wp, s_ite, s_get0, s_get, s_then, s_end, s_run, s_calm, s_fail, s_start1, s_start2, s_start3, s_start4, s_start5, List.replicate, List.set_cons_zero, List.set_cons_succ, asB_bl, asS_str, Nat.reduceSub, Nat.reduceAdd, addW.eq_1, addW.eq_2, addW.eq_3, addW.eq_4, addW.eq_5, subW.eq_1, subW.eq_2, mulW.eq_1, mulW.eq_2, mulW.eq_3, intOp.eq_1, negW.eq_1, ordW.eq_1, ordW.eq_2, isW.eq_1, isntW.eq_1, ixW.eq_1, ixW.eq_2, ixW.eq_3, slW.eq_1, slW.eq_2, slW.eq_3, revTW.eq_1, revLW.eq_1, lenW.eq_1, lenW.eq_2, lenW.eq_3, tupleW.eq_1, tupleW.eq_2, listW.eq_1, listW.eq_2, min2W.eq_1, max2W.eq_1, strW.eq_1, strW.eq_2, joinW.eq_1, joinW.eq_2, walkLW.eq_1, walkTW.eq_1, walkSW.eq_1, range1W.eq_1, zipW.eq_1, zipW.eq_2, tupG.eq_1, gsW.eq_1, gsW.eq_2, par2.eq_1, extW.eq_1, extW.eq_2, partW.eq_1, optW.eq_1, optW.eq_2, modW, fdivW, powW, ltW, leW, gtW, geW, isNone, isi_non, isi_bl, isi_int, isi_str, isi_tup, isi_lst, upperW, putW, appW, tupW, lstW, asB_bl, String.reduceBEq, beq_self_eq_true, Bool.or_true, Bool.true_or, Bool.or_false, Bool.false_or, Bool.and_true, Bool.true_and, Bool.and_false, Bool.false_and, Bool.not_true, Bool.not_false, forall_const, true_implies, true_and, and_true, false_implies, reduceCtorEq, List.length_cons, List.length_nil, forall_eq, imp_self, implies_true, if_true, if_false, Bool.false_eq_true, Bool.true_eq_false, sorted_strs (show ss.length ≤ 1000000 by omega)]
  refine lcW_goT (fun i acc => ∃ zs : List Str, acc = zs.map D.str ∧ zs.Sublist ((sortS ss).take i)) ⟨[], rfl, List.nil_sublist _⟩ ?_ ?_
  · rintro i d acc hd ⟨zs, rfl, hz⟩
    rw [List.getElem?_map] at hd
    obtain ⟨y, hy, rfl⟩ := Option.map_eq_some_iff.mp hd
    have lz := hz.length_le
    rw [List.length_take, sortS_len] at lz
    simp only [wipeE, W.bind_wp, W.ret_wp, W.want_wp, W.any_wp, s_ite, s_get0, s_get, s_then, s_end, s_run, s_calm, s_fail, s_start1, s_start2, s_start3, s_start4, s_start5, List.replicate, List.set_cons_zero, List.set_cons_succ, asB_bl, asS_str, Nat.reduceSub, Nat.reduceAdd, addW.eq_1, addW.eq_2, addW.eq_3, addW.eq_4, addW.eq_5, subW.eq_1, subW.eq_2, mulW.eq_1, mulW.eq_2, mulW.eq_3, intOp.eq_1, negW.eq_1, ordW.eq_1, ordW.eq_2, isW.eq_1, isntW.eq_1, ixW.eq_1, ixW.eq_2, ixW.eq_3, slW.eq_1, slW.eq_2, slW.eq_3, revTW.eq_1, revLW.eq_1, lenW.eq_1, lenW.eq_2, lenW.eq_3, tupleW.eq_1, tupleW.eq_2, listW.eq_1, listW.eq_2, min2W.eq_1, max2W.eq_1, strW.eq_1, strW.eq_2, joinW.eq_1, joinW.eq_2, walkLW.eq_1, walkTW.eq_1, walkSW.eq_1, range1W.eq_1, zipW.eq_1, zipW.eq_2, tupG.eq_1, gsW.eq_1, gsW.eq_2, par2.eq_1, extW.eq_1, extW.eq_2, partW.eq_1, optW.eq_1, optW.eq_2, modW, fdivW, powW, ltW, leW, gtW, geW, isNone, isi_non, isi_bl, isi_int, isi_str, isi_tup, isi_lst, upperW, putW, appW, tupW, lstW, asB_bl, String.reduceBEq, beq_self_eq_true, Bool.or_true, Bool.true_or, Bool.or_false, Bool.false_or, Bool.and_true, Bool.true_and, Bool.and_false, Bool.false_and, Bool.not_true, Bool.not_false, forall_const, true_implies, true_and, and_true, false_implies, reduceCtorEq, List.length_cons, List.length_nil, forall_eq, imp_self, implies_true, if_true, if_false, Bool.false_eq_true, Bool.true_eq_false]
    refine draw_wp (by decide) (by decide) fun r r0 r1 => ?_
    simp only [eqW_int, W.bind_wp, W.ret_wp, W.want_wp, W.any_wp, s_ite, s_get0, s_get, s_then, s_end, s_run, s_calm, s_fail, s_start1, s_start2, s_start3, s_start4, s_start5, List.replicate, List.set_cons_zero, List.set_cons_succ, asB_bl, asS_str, Nat.reduceSub, Nat.reduceAdd, addW.eq_1, addW.eq_2, addW.eq_3, addW.eq_4, addW.eq_5, subW.eq_1, subW.eq_2, mulW.eq_1, mulW.eq_2, mulW.eq_3, intOp.eq_1, negW.eq_1, ordW.eq_1, ordW.eq_2, isW.eq_1, isntW.eq_1, ixW.eq_1, ixW.eq_2, ixW.eq_3, slW.eq_1, slW.eq_2, slW.eq_3, revTW.eq_1, revLW.eq_1, lenW.eq_1, lenW.eq_2, lenW.eq_3, tupleW.eq_1, tupleW.eq_2, listW.eq_1, listW.eq_2, min2W.eq_1, max2W.eq_1, strW.eq_1, strW.eq_2, joinW.eq_1, joinW.eq_2, walkLW.eq_1, walkTW.eq_1, walkSW.eq_1, range1W.eq_1, zipW.eq_1, zipW.eq_2, tupG.eq_1, gsW.eq_1, gsW.eq_2, par2.eq_1, extW.eq_1, extW.eq_2, partW.eq_1, optW.eq_1, optW.eq_2, modW, fdivW, powW, ltW, leW, gtW, geW, isNone, isi_non, isi_bl, isi_int, isi_str, isi_tup, isi_lst, upperW, putW, appW, tupW, lstW, asB_bl, String.reduceBEq, beq_self_eq_true, Bool.or_true, Bool.true_or, Bool.or_false, Bool.false_or, Bool.and_true, Bool.true_and, Bool.and_false, Bool.false_and, Bool.not_true, Bool.not_false, forall_const, true_implies, true_and, and_true, false_implies, reduceCtorEq, List.length_cons, List.length_nil, forall_eq, imp_self, implies_true, if_true, if_false, Bool.false_eq_true, Bool.true_eq_false]
    refine ⟨fun _ => ⟨?_, zs ++ [y], by rw [List.map_append]; rfl, ?_⟩, fun _ => ⟨zs, rfl, ?_⟩⟩
    · rw [List.length_map]
      exact smallT (by omega)
    · rw [take_snoc hy]
      exact List.Sublist.append hz (List.Sublist.refl _)
    · rw [take_snoc hy]
      exact hz.trans (List.sublist_append_left _ _)
  · rintro acc ⟨zs, rfl, hz⟩
    rw [List.length_map, List.take_length] at hz
    refine many_wp fun r r0 r1 => ?_
    exact ⟨small (by decide), q _ (List.getElem_mem hk) zs r hz r0 r1⟩
end LP
namespace LP
open PySem PySem.Spec PyProof.Rows L2 PK LP RZ
theorem rangeAt {lo : Int} {n i : Nat} {d : D} (h : (rangeD lo n)[i]? = some d) : i < n ∧ d = .int (lo + (i : Int)) := by
  unfold rangeD at h
  rw [List.getElem?_map] at h
  obtain ⟨j, hj, rfl⟩ := Option.map_eq_some_iff.mp h
  obtain ⟨h1, h2⟩ := List.getElem?_eq_some_iff.mp hj
  rw [List.length_range] at h1
  rw [List.getElem_range] at h2
  subst h2
  exact ⟨h1, rfl⟩
theorem rangeLen (lo : Int) (n : Nat) : (rangeD lo n).length = n := by simp [rangeD]
/-! ### the drawn rows -/
theorem at_draw {fs : List Str} {Q : D → Prop} {E : Ex → Prop} (hf : fs ≠ []) (lf : fs.length ≤ 1000) (q : ∀ (r : Int) (y : Str), y ∈ fs → atI (fs.map D.str) r = some (.str y) → Q (.int r)) : (drawW [.tok 0, .int ((fs.map D.str).length : Int)]).wp Q E := by
  have l0 : 0 < fs.length := List.length_pos_iff.mpr hf
  refine draw_wp (by rw [List.length_map]; omega) (by rw [List.length_map]; omega) fun r r0 r1 => ?_
  rw [List.length_map] at r1
  obtain ⟨k, rfl⟩ := Int.eq_ofNat_of_zero_le r0
  have hk : k < fs.length := by omega
  exact q _ fs[k] (List.getElem_mem hk) (atI_nat (by rw [List.getElem?_map, List.getElem?_eq_getElem hk]; rfl))
structure LR (fs ss : List Str) (n : Nat) (L : List PRow) : Prop where
  len : L.length ≤ n
  each : ∀ r ∈ L, r.1 ∈ fs ∧ r.2.1 ∈ ss ∧ 1 ≤ r.2.2 ∧ r.2.2 ≤ 1000000000
theorem lrows_wp {fs ss : List Str} {m : Nat} {Q : D → Prop} {E : Ex → Prop} (hf : fs ≠ []) (lf : fs.length ≤ 1000) (hs : ss ≠ []) (ls : ss.length ≤ 1000) (hm : m ≤ 1000) (q : ∀ L, LR fs ss m L → Q (rowsT L)) :
    (fLRows [.tok 0, .lst (fs.map D.str), .lst (ss.map D.str), .int (m : Int)]).wp Q E := by
  refine ⟨rfl, ?_⟩
  show (endW (bLRows (startE 8 [.tok 0, .lst (fs.map D.str), .lst (ss.map D.str), .int (m : Int)]))).wp Q E
  simp only [bLRows, W.bind_wp, W.ret_wp, W.want_wp, W.any_wp, s_ite, s_get0, s_get, s_then, s_end, s_run, s_calm, s_fail, s_start1, s_start2, s_start3, s_start4, s_start5, List.replicate, List.set_cons_zero, List.set_cons_succ, asB_bl, asS_str, Nat.reduceSub, Nat.reduceAdd, addW.eq_1, addW.eq_2, addW.eq_3, addW.eq_4, addW.eq_5, subW.eq_1, subW.eq_2, mulW.eq_1, mulW.eq_2, mulW.eq_3, intOp.eq_1, negW.eq_1, ordW.eq_1, ordW.eq_2, isW.eq_1, isntW.eq_1, ixW.eq_1, ixW.eq_2, ixW.eq_3, slW.eq_1, slW.eq_2, slW.eq_3, revTW.eq_1, revLW.eq_1, lenW.eq_1, lenW.eq_2, lenW.eq_3, tupleW.eq_1, tupleW.eq_2, listW.eq_1, listW.eq_2, min2W.eq_1, max2W.eq_1, strW.eq_1, strW.eq_2, joinW.eq_1, joinW.eq_2, walkLW.eq_1, walkTW.eq_1, walkSW.eq_1, range1W.eq_1, zipW.eq_1, zipW.eq_2, tupG.eq_1, gsW.eq_1, gsW.eq_2, par2.eq_1, extW.eq_1, extW.eq_2, partW.eq_1, optW.eq_1, optW.eq_2, modW, fdivW, powW, ltW, leW, gtW, geW, isNone, isi_non, isi_bl, isi_int, isi_str, isi_tup, isi_lst, upperW, putW, appW, tupW, lstW, asB_bl, String.reduceBEq, beq_self_eq_true, Bool.or_true, Bool.true_or, Bool.or_false, Bool.false_or, Bool.and_true, Bool.true_and, Bool.and_false, Bool.false_and, Bool.not_true, Bool.not_false, forall_const, true_implies, true_and, and_true, false_implies, reduceCtorEq, List.length_cons, List.length_nil, forall_eq, imp_self, implies_true, if_true, if_false, Bool.false_eq_true, Bool.true_eq_false]
  refine ⟨small (by decide), by decide, draw_wp (by omega) (by omega) fun a a0 a1 => ⟨⟨by omega, by omega⟩, ?_⟩⟩
  refine forW_wp0 (fun i env => ∃ (L : List PRow) (y5 y6 y7 : Option D), env = [some (.tok 0), some (.lst (fs.map D.str)), some (.lst (ss.map D.str)), some (.int (m : Int)), some (.lst (L.map rowT)), y5, y6, y7] ∧ LR fs ss i L) ⟨[], none, none, none, rfl, Nat.le_refl _, fun _ h => (nomatch h)⟩ ?_ ?_
  · rintro i d env hd ⟨L, y5, y6, y7, rfl, hL⟩
    obtain ⟨hi, rfl⟩ := rangeAt hd
    simp only [bLRows_1, W.bind_wp, W.ret_wp, W.want_wp, W.any_wp, s_ite, s_get0, s_get, s_then, s_end, s_run, s_calm, s_fail, s_start1, s_start2, s_start3, s_start4, s_start5, List.replicate, List.set_cons_zero, List.set_cons_succ, asB_bl, asS_str, Nat.reduceSub, Nat.reduceAdd, addW.eq_1, addW.eq_2, addW.eq_3, addW.eq_4, addW.eq_5, subW.eq_1, subW.eq_2, mulW.eq_1, mulW.eq_2, mulW.eq_3, intOp.eq_1, negW.eq_1, ordW.eq_1, ordW.eq_2, isW.eq_1, isntW.eq_1, ixW.eq_1, ixW.eq_2, ixW.eq_3, slW.eq_1, slW.eq_2, slW.eq_3, revTW.eq_1, revLW.eq_1, lenW.eq_1, lenW.eq_2, lenW.eq_3, tupleW.eq_1, tupleW.eq_2, listW.eq_1, listW.eq_2, min2W.eq_1, max2W.eq_1, strW.eq_1, strW.eq_2, joinW.eq_1, joinW.eq_2, walkLW.eq_1, walkTW.eq_1, walkSW.eq_1, range1W.eq_1, zipW.eq_1, zipW.eq_2, tupG.eq_1, gsW.eq_1, gsW.eq_2, par2.eq_1, extW.eq_1, extW.eq_2, partW.eq_1, optW.eq_1, optW.eq_2, modW, fdivW, powW, ltW, leW, gtW, geW, isNone, isi_non, isi_bl, isi_int, isi_str, isi_tup, isi_lst, upperW, putW, appW, tupW, lstW, asB_bl, String.reduceBEq, beq_self_eq_true, Bool.or_true, Bool.true_or, Bool.or_false, Bool.false_or, Bool.and_true, Bool.true_and, Bool.and_false, Bool.false_and, Bool.not_true, Bool.not_false, forall_const, true_implies, true_and, and_true, false_implies, reduceCtorEq, List.length_cons, List.length_nil, forall_eq, imp_self, implies_true, if_true, if_false, Bool.false_eq_true, Bool.true_eq_false]
    refine at_draw hf lf fun r y hy ey => ?_
    simp only [ey, W.bind_wp, W.ret_wp, W.want_wp, W.any_wp, s_ite, s_get0, s_get, s_then, s_end, s_run, s_calm, s_fail, s_start1, s_start2, s_start3, s_start4, s_start5, List.replicate, List.set_cons_zero, List.set_cons_succ, asB_bl, asS_str, Nat.reduceSub, Nat.reduceAdd, addW.eq_1, addW.eq_2, addW.eq_3, addW.eq_4, addW.eq_5, subW.eq_1, subW.eq_2, mulW.eq_1, mulW.eq_2, mulW.eq_3, intOp.eq_1, negW.eq_1, ordW.eq_1, ordW.eq_2, isW.eq_1, isntW.eq_1, ixW.eq_1, ixW.eq_2, ixW.eq_3, slW.eq_1, slW.eq_2, slW.eq_3, revTW.eq_1, revLW.eq_1, lenW.eq_1, lenW.eq_2, lenW.eq_3, tupleW.eq_1, tupleW.eq_2, listW.eq_1, listW.eq_2, min2W.eq_1, max2W.eq_1, strW.eq_1, strW.eq_2, joinW.eq_1, joinW.eq_2, walkLW.eq_1, walkTW.eq_1, walkSW.eq_1, range1W.eq_1, zipW.eq_1, zipW.eq_2, tupG.eq_1, gsW.eq_1, gsW.eq_2, par2.eq_1, extW.eq_1, extW.eq_2, partW.eq_1, optW.eq_1, optW.eq_2, modW, fdivW, powW, ltW, leW, gtW, geW, isNone, isi_non, isi_bl, isi_int, isi_str, isi_tup, isi_lst, upperW, putW, appW, tupW, lstW, asB_bl, String.reduceBEq, beq_self_eq_true, Bool.or_true, Bool.true_or, Bool.or_false, Bool.false_or, Bool.and_true, Bool.true_and, Bool.and_false, Bool.false_and, Bool.not_true, Bool.not_false, forall_const, true_implies, true_and, and_true, false_implies, reduceCtorEq, List.length_cons, List.length_nil, forall_eq, imp_self, implies_true, if_true, if_false, Bool.false_eq_true, Bool.true_eq_false]
    refine at_draw hs ls fun r2 y2 hy2 ey2 => ?_
    simp only [ey2, W.bind_wp, W.ret_wp, W.want_wp, W.any_wp, s_ite, s_get0, s_get, s_then, s_end, s_run, s_calm, s_fail, s_start1, s_start2, s_start3, s_start4, s_start5, List.replicate, List.set_cons_zero, List.set_cons_succ, asB_bl, asS_str, Nat.reduceSub, Nat.reduceAdd, addW.eq_1, addW.eq_2, addW.eq_3, addW.eq_4, addW.eq_5, subW.eq_1, subW.eq_2, mulW.eq_1, mulW.eq_2, mulW.eq_3, intOp.eq_1, negW.eq_1, ordW.eq_1, ordW.eq_2, isW.eq_1, isntW.eq_1, ixW.eq_1, ixW.eq_2, ixW.eq_3, slW.eq_1, slW.eq_2, slW.eq_3, revTW.eq_1, revLW.eq_1, lenW.eq_1, lenW.eq_2, lenW.eq_3, tupleW.eq_1, tupleW.eq_2, listW.eq_1, listW.eq_2, min2W.eq_1, max2W.eq_1, strW.eq_1, strW.eq_2, joinW.eq_1, joinW.eq_2, walkLW.eq_1, walkTW.eq_1, walkSW.eq_1, range1W.eq_1, zipW.eq_1, zipW.eq_2, tupG.eq_1, gsW.eq_1, gsW.eq_2, par2.eq_1, extW.eq_1, extW.eq_2, partW.eq_1, optW.eq_1, optW.eq_2, modW, fdivW, powW, ltW, leW, gtW, geW, isNone, isi_non, isi_bl, isi_int, isi_str, isi_tup, isi_lst, upperW, putW, appW, tupW, lstW, asB_bl, String.reduceBEq, beq_self_eq_true, Bool.or_true, Bool.true_or, Bool.or_false, Bool.false_or, Bool.and_true, Bool.true_and, Bool.and_false, Bool.false_and, Bool.not_true, Bool.not_false, forall_const, true_implies, true_and, and_true, false_implies, reduceCtorEq, List.length_cons, List.length_nil, forall_eq, imp_self, implies_true, if_true, if_false, Bool.false_eq_true, Bool.true_eq_false]
    refine many_wp fun n n1 n2 => ?_
    refine ⟨small (by decide), ?_, L ++ [(y, y2, n)], _, _, _, by rw [List.map_append]; rfl, ?_, fun r hr => ?_⟩
    · have := hL.len
      rw [List.length_map]
      exact smallT (by omega)
    · have := hL.len
      rw [List.length_append, List.length_singleton]
      omega
    · rcases List.mem_append.mp hr with h | h
      · exact hL.each r h
      · rw [List.mem_singleton.mp h]
        exact ⟨hy, hy2, n1, n2⟩
  · rintro env ⟨L, y5, y6, y7, rfl, hL⟩
    rw [rangeLen] at hL
    simp only [W.bind_wp, W.ret_wp, W.want_wp, W.any_wp, s_ite, s_get0, s_get, s_then, s_end, s_run, s_calm, s_fail, s_start1, s_start2, s_start3, s_start4, s_start5, List.replicate, List.set_cons_zero, List.set_cons_succ, asB_bl, asS_str, Nat.reduceSub, Nat.reduceAdd, addW.eq_1, addW.eq_2, addW.eq_3, addW.eq_4, addW.eq_5, subW.eq_1, subW.eq_2, mulW.eq_1, mulW.eq_2, mulW.eq_3, intOp.eq_1, negW.eq_1, ordW.eq_1, ordW.eq_2, isW.eq_1, isntW.eq_1, ixW.eq_1, ixW.eq_2, ixW.eq_3, slW.eq_1, slW.eq_2, slW.eq_3, revTW.eq_1, revLW.eq_1, lenW.eq_1, lenW.eq_2, lenW.eq_3, tupleW.eq_1, tupleW.eq_2, listW.eq_1, listW.eq_2, min2W.eq_1, max2W.eq_1, strW.eq_1, strW.eq_2, joinW.eq_1, joinW.eq_2, walkLW.eq_1, walkTW.eq_1, walkSW.eq_1, range1W.eq_1, zipW.eq_1, zipW.eq_2, tupG.eq_1, gsW.eq_1, gsW.eq_2, par2.eq_1, extW.eq_1, extW.eq_2, partW.eq_1, optW.eq_1, optW.eq_2, modW, fdivW, powW, ltW, leW, gtW, geW, isNone, isi_non, isi_bl, isi_int, isi_str, isi_tup, isi_lst, upperW, putW, appW, tupW, lstW, asB_bl, String.reduceBEq, beq_self_eq_true, Bool.or_true, Bool.true_or, Bool.or_false, Bool.false_or, Bool.and_true, Bool.true_and, Bool.and_false, Bool.false_and, Bool.not_true, Bool.not_false, forall_const, true_implies, true_and, and_true, false_implies, reduceCtorEq, List.length_cons, List.length_nil, forall_eq, imp_self, implies_true, if_true, if_false, Bool.false_eq_true, Bool.true_eq_false]
    exact q L ⟨by have := hL.len; omega, hL.each⟩
end LP
namespace LP
open PySem PySem.Spec PyProof.Rows L2 PK LP RZ
theorem whileN_wp {t : Env → W Bool} {p : Env → W Fl} {Q : Fl → Prop} {E : Ex → Prop} (P : Nat → Env → Prop)
    (hs : ∀ m env, P m env → (t env).wp (fun b => (b = true → (p env).wp (fun f => match f with | .nx e => ∃ j, j < m ∧ P j e | .ct e => ∃ j, j < m ∧ P j e | .bk e => Q (.nx e) | .rt d => Q (.rt d)) E) ∧ (b = false → Q (.nx env))) E) :
    ∀ k m env, m < k → P m env → (whileN t p k env).wp Q E
  | 0, m, env, h, _ => absurd h (Nat.not_lt_zero _)
  | k + 1, m, env, h, hp => by
    refine (t env).mono (fun b hb => ?_) (fun _ z => z) (hs m env hp)
    cases b with
    | false => exact hb.2 rfl
    | true =>
      refine (p env).mono (fun f hf => ?_) (fun _ z => z) (hb.1 rfl)
      cases f with
      | nx e =>
        obtain ⟨j, hj, hq⟩ := hf
        exact whileN_wp P hs k j e (by omega) hq
      | ct e =>
        obtain ⟨j, hj, hq⟩ := hf
        exact whileN_wp P hs k j e (by omega) hq
      | bk e => exact hf
      | rt d => exact hf
theorem while_wp {t : Env → W Bool} {p : Env → W Fl} {Q : Fl → Prop} {E : Ex → Prop} {env : Env} (P : Nat → Env → Prop) (m : Nat) (h0 : P m env)
    (hs : ∀ m env, P m env → (t env).wp (fun b => (b = true → (p env).wp (fun f => match f with | .nx e => ∃ j, j < m ∧ P j e | .ct e => ∃ j, j < m ∧ P j e | .bk e => Q (.nx e) | .rt d => Q (.rt d)) E) ∧ (b = false → Q (.nx env))) E) : (whileW t p env).wp Q E :=
  ⟨m + 1, whileN_wp P hs (m + 1) m env (Nat.lt_succ_self _) h0⟩
/-! ### keys -/
def keyT (k : PKey) : D := .tup [.str k.1, .str k.2]
theorem cut2 (a b c : D) : cutD [a, b, c] none (some 2) = [a, b] := rfl
theorem key_toP (k : PKey) : (keyT k).toP = pkD k := rfl
theorem keys_toPs (ks : List PKey) : D.toPs (ks.map keyT) = ks.map pkD := by
  rw [toPs_map, List.map_map]
  rfl
theorem keys_plain (ks : List PKey) : D.plains (ks.map keyT) = true := by
  rw [plains_all, List.all_eq_true]
  intro d hd
  obtain ⟨k, _, rfl⟩ := List.mem_map.mp hd
  rfl
theorem key_sh (k : PKey) : D.sh (keyT k) := ⟨rfl, by rw [key_toP]; show 1 ≤ 64; decide⟩
theorem keys_dep (ks : List PKey) : PyData.depthAll (ks.map pkD) ≤ 1 := depthAll_le fun d hd => by
  obtain ⟨k, _, rfl⟩ := List.mem_map.mp hd
  exact Nat.le_refl 1
theorem keys_sh (ks : List PKey) : D.sh (.lst (ks.map keyT)) := ⟨keys_plain ks, by
  show PyData.depthAll (D.toPs (ks.map keyT)) + 1 ≤ 64
  rw [keys_toPs]
  have := keys_dep ks
  omega⟩
theorem nil_shL : D.sh (.lst []) := ⟨rfl, by show 0 + 1 ≤ 64; decide⟩
theorem nil_shT : D.sh (.tup []) := ⟨rfl, by show 0 + 1 ≤ 64; decide⟩
theorem key_eqv (a b : PKey) : D.eqv (keyT a) (keyT b) = decide (a = b) := pk_eqv a b
theorem eqW_key (a b : PKey) : eqW (keyT a) (keyT b) = W.ret (.bl (decide (a = b))) := by rw [eqW_sh (key_sh a) (key_sh b), key_eqv]
theorem neW_key (a b : PKey) : neW (keyT a) (keyT b) = W.ret (.bl (!decide (a = b))) := by rw [neW_sh (key_sh a) (key_sh b), key_eqv]
theorem eqW_key' (a b c d : Str) : eqW (.tup [.str a, .str b]) (.tup [.str c, .str d]) = W.ret (.bl (decide ((a, b) = (c, d)))) := eqW_key (a, b) (c, d)
theorem neW_keysNil (ks : List PKey) : neW (.lst (ks.map keyT)) (.lst []) = W.ret (.bl (!ks.isEmpty)) := by
  rw [neW_sh (keys_sh ks) nil_shL]
  cases ks with
  | nil => rfl
  | cons k ks => rfl
theorem rowsT_depth (L : List PRow) : (rowsT L).toP.depth ≤ 2 := by
  rw [rowsT_toP]
  show PyData.depthAll (L.map prowD) + 1 ≤ 2
  have : PyData.depthAll (L.map prowD) ≤ 1 := depthAll_le fun d hd => by
    obtain ⟨r, _, rfl⟩ := List.mem_map.mp hd
    exact Nat.le_refl 1
  omega
theorem rowsT_sh (L : List PRow) : D.sh (rowsT L) := ⟨rowsT_plain L, Nat.le_trans (rowsT_depth L) (by decide)⟩
theorem rowsT_eqv (L M : List PRow) : D.eqv (rowsT L) (rowsT M) = decide (L = M) := by
  unfold D.eqv
  rw [rowsT_toP, rowsT_toP, rows_eqv]
theorem eqW_rows (L M : List PRow) : eqW (rowsT L) (rowsT M) = W.ret (.bl (decide (L = M))) := by rw [eqW_sh (rowsT_sh L) (rowsT_sh M), rowsT_eqv]
theorem neW_rows (L M : List PRow) : neW (rowsT L) (rowsT M) = W.ret (.bl (!decide (L = M))) := by rw [neW_sh (rowsT_sh L) (rowsT_sh M), rowsT_eqv]
/-- the many of rows of a key -/
def rowIx : D → D
  | .tup [_, _, d] => d
  | d => d
def keyIs (k : PKey) : D → Bool
  | .tup [.str f, .str s, _] => decide ((f, s) = k)
  | _ => false
theorem sum_ofPart (L : List PRow) (k : PKey) : ((L.map rowT).filter (keyIs k)).map rowIx = (ofPart L k).map D.int := by
  unfold ofPart
  induction L with
  | nil => rfl
  | cons r L ih =>
    rw [List.map_cons]
    by_cases e : pk r = k
    · rw [List.filter_cons_of_pos (show keyIs k (rowT r) = true from decide_eq_true e), List.filter_cons_of_pos (by simpa using e), List.map_cons, ih]
      rfl
    · rw [List.filter_cons_of_neg (show ¬ keyIs k (rowT r) = true from fun z => e (of_decide_eq_true z)), List.filter_cons_of_neg (by simpa using e), ih]
theorem sumW_part (L : List PRow) (k : PKey) : sumW [.lst ((ofPart L k).map D.int)] = W.ret (.int (cnt L k)) := by
  show (optW (isOf ((ofPart L k).map D.int))).bind _ = _
  rw [isOf_map, optW_some, W.ret_bind, ofPart_sum]
theorem summed_ret (L : List PRow) (hn : L.length ≤ 10000) : Ret (fSummed [rowsT L]) (rowsT (sumR L)) := by
  intro Q E q
  refine ⟨rfl, ?_⟩
  show (endW (bSummed (startE 6 [rowsT L]))).wp Q E
  have hl : (L.map rowT).length ≤ sizeLine := by rw [List.length_map]; exact small (by omega)
  have sums : ∀ (k : PKey) (y1 y2 y3 y5 : Option D), Ret (lcD (fun d env => W.ret (env.set 3 (some d))) (fun env => ((((getW env 3).bind fun d => (W.ret none).bind fun l => ((W.ret (.int 2)).bind partW).bind fun u => slW d l u).bind fun x => (getW env 4).bind fun y => eqW x y).bind asB)) (fun env => ((getW env 3).bind fun x => (W.ret (.int 2)).bind fun y => ixW x y)) [3] (fun env => ((getW env 0).bind walkTW)) [some (rowsT L), y1, y2, y3, some (keyT k), y5]) (.lst ((ofPart L k).map D.int)) := fun k y1 y2 y3 y5 => by
    rw [← sum_ofPart]
    refine lc_ret (keyIs k) rowIx (fun Q E q => q) hl fun d hd => ?_
    obtain ⟨r, hr, rfl⟩ := List.mem_map.mp hd
    simp only [wipeE, rowT, cut2, keyT, eqW_key', W.bind_wp, W.ret_wp, W.want_wp, W.any_wp, s_ite, s_get0, s_get, s_then, s_end, s_run, s_calm, s_fail, s_start1, s_start2, s_start3, s_start4, s_start5, List.replicate, List.set_cons_zero, List.set_cons_succ, asB_bl, asS_str, Nat.reduceSub, Nat.reduceAdd, addW.eq_1, addW.eq_2, addW.eq_3, addW.eq_4, addW.eq_5, subW.eq_1, subW.eq_2, mulW.eq_1, mulW.eq_2, mulW.eq_3, intOp.eq_1, negW.eq_1, ordW.eq_1, ordW.eq_2, isW.eq_1, isntW.eq_1, ixW.eq_1, ixW.eq_2, ixW.eq_3, slW.eq_1, slW.eq_2, slW.eq_3, revTW.eq_1, revLW.eq_1, lenW.eq_1, lenW.eq_2, lenW.eq_3, tupleW.eq_1, tupleW.eq_2, listW.eq_1, listW.eq_2, min2W.eq_1, max2W.eq_1, strW.eq_1, strW.eq_2, joinW.eq_1, joinW.eq_2, walkLW.eq_1, walkTW.eq_1, walkSW.eq_1, range1W.eq_1, zipW.eq_1, zipW.eq_2, tupG.eq_1, gsW.eq_1, gsW.eq_2, par2.eq_1, extW.eq_1, extW.eq_2, partW.eq_1, optW.eq_1, optW.eq_2, modW, fdivW, powW, ltW, leW, gtW, geW, isNone, isi_non, isi_bl, isi_int, isi_str, isi_tup, isi_lst, upperW, putW, appW, tupW, lstW, asB_bl, String.reduceBEq, beq_self_eq_true, Bool.or_true, Bool.true_or, Bool.or_false, Bool.false_or, Bool.and_true, Bool.true_and, Bool.and_false, Bool.false_and, Bool.not_true, Bool.not_false, forall_const, true_implies, true_and, and_true, false_implies, reduceCtorEq, List.length_cons, List.length_nil, forall_eq, imp_self, implies_true, if_true, if_false, Bool.false_eq_true, Bool.true_eq_false]
    exact ⟨rfl, fun _ => rfl⟩
  simp only [bSummed, W.bind_wp, W.ret_wp, W.want_wp, W.any_wp, s_ite, s_get0, s_get, s_then, s_end, s_run, s_calm, s_fail, s_start1, s_start2, s_start3, s_start4, s_start5, List.replicate, List.set_cons_zero, List.set_cons_succ, asB_bl, asS_str, Nat.reduceSub, Nat.reduceAdd, addW.eq_1, addW.eq_2, addW.eq_3, addW.eq_4, addW.eq_5, subW.eq_1, subW.eq_2, mulW.eq_1, mulW.eq_2, mulW.eq_3, intOp.eq_1, negW.eq_1, ordW.eq_1, ordW.eq_2, isW.eq_1, isntW.eq_1, ixW.eq_1, ixW.eq_2, ixW.eq_3, slW.eq_1, slW.eq_2, slW.eq_3, revTW.eq_1, revLW.eq_1, lenW.eq_1, lenW.eq_2, lenW.eq_3, tupleW.eq_1, tupleW.eq_2, listW.eq_1, listW.eq_2, min2W.eq_1, max2W.eq_1, strW.eq_1, strW.eq_2, joinW.eq_1, joinW.eq_2, walkLW.eq_1, walkTW.eq_1, walkSW.eq_1, range1W.eq_1, zipW.eq_1, zipW.eq_2, tupG.eq_1, gsW.eq_1, gsW.eq_2, par2.eq_1, extW.eq_1, extW.eq_2, partW.eq_1, optW.eq_1, optW.eq_2, modW, fdivW, powW, ltW, leW, gtW, geW, isNone, isi_non, isi_bl, isi_int, isi_str, isi_tup, isi_lst, upperW, putW, appW, tupW, lstW, asB_bl, String.reduceBEq, beq_self_eq_true, Bool.or_true, Bool.true_or, Bool.or_false, Bool.false_or, Bool.and_true, Bool.true_and, Bool.and_false, Bool.false_and, Bool.not_true, Bool.not_false, forall_const, true_implies, true_and, and_true, false_implies, reduceCtorEq, List.length_cons, List.length_nil, forall_eq, imp_self, implies_true, if_true, if_false, Bool.false_eq_true, Bool.true_eq_false]
  refine Ret.go (lc_map (ds := L.map rowT) (fun d => match d with | .tup [a, b, _] => .tup [a, b] | d => d) (fun Q E q => q) hl fun d hd => ?_) ?_
  · obtain ⟨r, hr, rfl⟩ := List.mem_map.mp hd
    simp only [wipeE, rowT, cut2, W.bind_wp, W.ret_wp, W.want_wp, W.any_wp, s_ite, s_get0, s_get, s_then, s_end, s_run, s_calm, s_fail, s_start1, s_start2, s_start3, s_start4, s_start5, List.replicate, List.set_cons_zero, List.set_cons_succ, asB_bl, asS_str, Nat.reduceSub, Nat.reduceAdd, addW.eq_1, addW.eq_2, addW.eq_3, addW.eq_4, addW.eq_5, subW.eq_1, subW.eq_2, mulW.eq_1, mulW.eq_2, mulW.eq_3, intOp.eq_1, negW.eq_1, ordW.eq_1, ordW.eq_2, isW.eq_1, isntW.eq_1, ixW.eq_1, ixW.eq_2, ixW.eq_3, slW.eq_1, slW.eq_2, slW.eq_3, revTW.eq_1, revLW.eq_1, lenW.eq_1, lenW.eq_2, lenW.eq_3, tupleW.eq_1, tupleW.eq_2, listW.eq_1, listW.eq_2, min2W.eq_1, max2W.eq_1, strW.eq_1, strW.eq_2, joinW.eq_1, joinW.eq_2, walkLW.eq_1, walkTW.eq_1, walkSW.eq_1, range1W.eq_1, zipW.eq_1, zipW.eq_2, tupG.eq_1, gsW.eq_1, gsW.eq_2, par2.eq_1, extW.eq_1, extW.eq_2, partW.eq_1, optW.eq_1, optW.eq_2, modW, fdivW, powW, ltW, leW, gtW, geW, isNone, isi_non, isi_bl, isi_int, isi_str, isi_tup, isi_lst, upperW, putW, appW, tupW, lstW, asB_bl, String.reduceBEq, beq_self_eq_true, Bool.or_true, Bool.true_or, Bool.or_false, Bool.false_or, Bool.and_true, Bool.true_and, Bool.and_false, Bool.false_and, Bool.not_true, Bool.not_false, forall_const, true_implies, true_and, and_true, false_implies, reduceCtorEq, List.length_cons, List.length_nil, forall_eq, imp_self, implies_true, if_true, if_false, Bool.false_eq_true, Bool.true_eq_false]
  have e1 : (L.map rowT).map (fun d => match d with | .tup [a, b, _] => D.tup [a, b] | d => d) = (L.map PK.pk).map keyT := by
    rw [List.map_map, List.map_map]
    rfl
  rw [e1]
  refine ⟨by decide, ?_⟩
  simp only [bSummed_4, W.bind_wp, W.ret_wp, W.want_wp, W.any_wp, s_ite, s_get0, s_get, s_then, s_end, s_run, s_calm, s_fail, s_start1, s_start2, s_start3, s_start4, s_start5, List.replicate, List.set_cons_zero, List.set_cons_succ, asB_bl, asS_str, Nat.reduceSub, Nat.reduceAdd, addW.eq_1, addW.eq_2, addW.eq_3, addW.eq_4, addW.eq_5, subW.eq_1, subW.eq_2, mulW.eq_1, mulW.eq_2, mulW.eq_3, intOp.eq_1, negW.eq_1, ordW.eq_1, ordW.eq_2, isW.eq_1, isntW.eq_1, ixW.eq_1, ixW.eq_2, ixW.eq_3, slW.eq_1, slW.eq_2, slW.eq_3, revTW.eq_1, revLW.eq_1, lenW.eq_1, lenW.eq_2, lenW.eq_3, tupleW.eq_1, tupleW.eq_2, listW.eq_1, listW.eq_2, min2W.eq_1, max2W.eq_1, strW.eq_1, strW.eq_2, joinW.eq_1, joinW.eq_2, walkLW.eq_1, walkTW.eq_1, walkSW.eq_1, range1W.eq_1, zipW.eq_1, zipW.eq_2, tupG.eq_1, gsW.eq_1, gsW.eq_2, par2.eq_1, extW.eq_1, extW.eq_2, partW.eq_1, optW.eq_1, optW.eq_2, modW, fdivW, powW, ltW, leW, gtW, geW, isNone, isi_non, isi_bl, isi_int, isi_str, isi_tup, isi_lst, upperW, putW, appW, tupW, lstW, asB_bl, String.reduceBEq, beq_self_eq_true, Bool.or_true, Bool.true_or, Bool.or_false, Bool.false_or, Bool.and_true, Bool.true_and, Bool.and_false, Bool.false_and, Bool.not_true, Bool.not_false, forall_const, true_implies, true_and, and_true, false_implies, reduceCtorEq, List.length_cons, List.length_nil, forall_eq, imp_self, implies_true, if_true, if_false, Bool.false_eq_true, Bool.true_eq_false]
  refine while_wp (fun m env => ∃ (M : List PRow) (ks : List PKey) (y3 y4 y5 : Option D), env = [some (rowsT L), some (.lst (M.map rowT)), some (.lst (ks.map keyT)), y3, y4, y5] ∧ ks.length = m ∧ Least L M ks ∧ M.length + ks.length ≤ 10000) L.length
    ⟨[], L.map PK.pk, none, none, none, rfl, by rw [List.length_map], Least.start L, by rw [List.length_map]; show 0 + _ ≤ _; omega⟩ ?_
  rintro m env ⟨M, ks, y3, y4, y5, rfl, hm, hL, hz⟩
  simp only [neW_keysNil, W.bind_wp, W.ret_wp, W.want_wp, W.any_wp, s_ite, s_get0, s_get, s_then, s_end, s_run, s_calm, s_fail, s_start1, s_start2, s_start3, s_start4, s_start5, List.replicate, List.set_cons_zero, List.set_cons_succ, asB_bl, asS_str, Nat.reduceSub, Nat.reduceAdd, addW.eq_1, addW.eq_2, addW.eq_3, addW.eq_4, addW.eq_5, subW.eq_1, subW.eq_2, mulW.eq_1, mulW.eq_2, mulW.eq_3, intOp.eq_1, negW.eq_1, ordW.eq_1, ordW.eq_2, isW.eq_1, isntW.eq_1, ixW.eq_1, ixW.eq_2, ixW.eq_3, slW.eq_1, slW.eq_2, slW.eq_3, revTW.eq_1, revLW.eq_1, lenW.eq_1, lenW.eq_2, lenW.eq_3, tupleW.eq_1, tupleW.eq_2, listW.eq_1, listW.eq_2, min2W.eq_1, max2W.eq_1, strW.eq_1, strW.eq_2, joinW.eq_1, joinW.eq_2, walkLW.eq_1, walkTW.eq_1, walkSW.eq_1, range1W.eq_1, zipW.eq_1, zipW.eq_2, tupG.eq_1, gsW.eq_1, gsW.eq_2, par2.eq_1, extW.eq_1, extW.eq_2, partW.eq_1, optW.eq_1, optW.eq_2, modW, fdivW, powW, ltW, leW, gtW, geW, isNone, isi_non, isi_bl, isi_int, isi_str, isi_tup, isi_lst, upperW, putW, appW, tupW, lstW, asB_bl, String.reduceBEq, beq_self_eq_true, Bool.or_true, Bool.true_or, Bool.or_false, Bool.false_or, Bool.and_true, Bool.true_and, Bool.and_false, Bool.false_and, Bool.not_true, Bool.not_false, forall_const, true_implies, true_and, and_true, false_implies, reduceCtorEq, List.length_cons, List.length_nil, forall_eq, imp_self, implies_true, if_true, if_false, Bool.false_eq_true, Bool.true_eq_false]
  refine ⟨small (by decide), fun hb => ?_, fun hb => ?_⟩
  · cases ks with
    | nil => cases hb
    | cons k ks =>
      simp only [bSummed_3, W.bind_wp, W.ret_wp, W.want_wp, W.any_wp, s_ite, s_get0, s_get, s_then, s_end, s_run, s_calm, s_fail, s_start1, s_start2, s_start3, s_start4, s_start5, List.replicate, List.set_cons_zero, List.set_cons_succ, asB_bl, asS_str, Nat.reduceSub, Nat.reduceAdd, addW.eq_1, addW.eq_2, addW.eq_3, addW.eq_4, addW.eq_5, subW.eq_1, subW.eq_2, mulW.eq_1, mulW.eq_2, mulW.eq_3, intOp.eq_1, negW.eq_1, ordW.eq_1, ordW.eq_2, isW.eq_1, isntW.eq_1, ixW.eq_1, ixW.eq_2, ixW.eq_3, slW.eq_1, slW.eq_2, slW.eq_3, revTW.eq_1, revLW.eq_1, lenW.eq_1, lenW.eq_2, lenW.eq_3, tupleW.eq_1, tupleW.eq_2, listW.eq_1, listW.eq_2, min2W.eq_1, max2W.eq_1, strW.eq_1, strW.eq_2, joinW.eq_1, joinW.eq_2, walkLW.eq_1, walkTW.eq_1, walkSW.eq_1, range1W.eq_1, zipW.eq_1, zipW.eq_2, tupG.eq_1, gsW.eq_1, gsW.eq_2, par2.eq_1, extW.eq_1, extW.eq_2, partW.eq_1, optW.eq_1, optW.eq_2, modW, fdivW, powW, ltW, leW, gtW, geW, isNone, isi_non, isi_bl, isi_int, isi_str, isi_tup, isi_lst, upperW, putW, appW, tupW, lstW, asB_bl, String.reduceBEq, beq_self_eq_true, Bool.or_true, Bool.true_or, Bool.or_false, Bool.false_or, Bool.and_true, Bool.true_and, Bool.and_false, Bool.false_and, Bool.not_true, Bool.not_false, forall_const, true_implies, true_and, and_true, false_implies, reduceCtorEq, List.length_cons, List.length_nil, forall_eq, imp_self, implies_true, if_true, if_false, Bool.false_eq_true, Bool.true_eq_false]
      have el := least_key (k := k) (ks := ks)
      refine ⟨⟨keys_plain (k :: ks), by rw [show D.toPs (keyT k :: ks.map keyT) = (k :: ks).map pkD from keys_toPs (k :: ks)]; exact pk_alikeAll _, fun e he => ?_⟩, fun x hx => ?_⟩
      · rw [show D.toPs (keyT k :: ks.map keyT) = (k :: ks).map pkD from keys_toPs (k :: ks)] at he
        obtain ⟨q, _, rfl⟩ := List.mem_map.mp he
        show 1 ≤ 90
        decide
      · obtain ⟨hx1, hx2⟩ := hx
        obtain ⟨m', hm', em, lm⟩ := el
        obtain ⟨z, hz1, rfl⟩ : ∃ z, z ∈ k :: ks ∧ keyT z = x := List.mem_map.mp (show x ∈ (k :: ks).map keyT from hx1)
        rw [keys_toPs, key_toP, key_toP, em] at hx2
        have := pkD_inj hx2
        subst this
        simp only [bSummed_2, W.bind_wp, W.ret_wp, W.want_wp, W.any_wp, s_ite, s_get0, s_get, s_then, s_end, s_run, s_calm, s_fail, s_start1, s_start2, s_start3, s_start4, s_start5, List.replicate, List.set_cons_zero, List.set_cons_succ, asB_bl, asS_str, Nat.reduceSub, Nat.reduceAdd, addW.eq_1, addW.eq_2, addW.eq_3, addW.eq_4, addW.eq_5, subW.eq_1, subW.eq_2, mulW.eq_1, mulW.eq_2, mulW.eq_3, intOp.eq_1, negW.eq_1, ordW.eq_1, ordW.eq_2, isW.eq_1, isntW.eq_1, ixW.eq_1, ixW.eq_2, ixW.eq_3, slW.eq_1, slW.eq_2, slW.eq_3, revTW.eq_1, revLW.eq_1, lenW.eq_1, lenW.eq_2, lenW.eq_3, tupleW.eq_1, tupleW.eq_2, listW.eq_1, listW.eq_2, min2W.eq_1, max2W.eq_1, strW.eq_1, strW.eq_2, joinW.eq_1, joinW.eq_2, walkLW.eq_1, walkTW.eq_1, walkSW.eq_1, range1W.eq_1, zipW.eq_1, zipW.eq_2, tupG.eq_1, gsW.eq_1, gsW.eq_2, par2.eq_1, extW.eq_1, extW.eq_2, partW.eq_1, optW.eq_1, optW.eq_2, modW, fdivW, powW, ltW, leW, gtW, geW, isNone, isi_non, isi_bl, isi_int, isi_str, isi_tup, isi_lst, upperW, putW, appW, tupW, lstW, asB_bl, String.reduceBEq, beq_self_eq_true, Bool.or_true, Bool.true_or, Bool.or_false, Bool.false_or, Bool.and_true, Bool.true_and, Bool.and_false, Bool.false_and, Bool.not_true, Bool.not_false, forall_const, true_implies, true_and, and_true, false_implies, reduceCtorEq, List.length_cons, List.length_nil, forall_eq, imp_self, implies_true, if_true, if_false, Bool.false_eq_true, Bool.true_eq_false]
        refine Ret.go (lc_ret (ds := (k :: ks).map keyT) (fun d => match d with | .tup [.str f, .str s] => !decide ((f, s) = z) | _ => false) (fun d => d) (fun Q E q => q) (by rw [List.length_map]; exact small (by simp at hz ⊢; omega)) fun d hd => ?_) ?_
        · obtain ⟨q, hq, rfl⟩ := List.mem_map.mp hd
          simp only [wipeE, neW_key, W.bind_wp, W.ret_wp, W.want_wp, W.any_wp, s_ite, s_get0, s_get, s_then, s_end, s_run, s_calm, s_fail, s_start1, s_start2, s_start3, s_start4, s_start5, List.replicate, List.set_cons_zero, List.set_cons_succ, asB_bl, asS_str, Nat.reduceSub, Nat.reduceAdd, addW.eq_1, addW.eq_2, addW.eq_3, addW.eq_4, addW.eq_5, subW.eq_1, subW.eq_2, mulW.eq_1, mulW.eq_2, mulW.eq_3, intOp.eq_1, negW.eq_1, ordW.eq_1, ordW.eq_2, isW.eq_1, isntW.eq_1, ixW.eq_1, ixW.eq_2, ixW.eq_3, slW.eq_1, slW.eq_2, slW.eq_3, revTW.eq_1, revLW.eq_1, lenW.eq_1, lenW.eq_2, lenW.eq_3, tupleW.eq_1, tupleW.eq_2, listW.eq_1, listW.eq_2, min2W.eq_1, max2W.eq_1, strW.eq_1, strW.eq_2, joinW.eq_1, joinW.eq_2, walkLW.eq_1, walkTW.eq_1, walkSW.eq_1, range1W.eq_1, zipW.eq_1, zipW.eq_2, tupG.eq_1, gsW.eq_1, gsW.eq_2, par2.eq_1, extW.eq_1, extW.eq_2, partW.eq_1, optW.eq_1, optW.eq_2, modW, fdivW, powW, ltW, leW, gtW, geW, isNone, isi_non, isi_bl, isi_int, isi_str, isi_tup, isi_lst, upperW, putW, appW, tupW, lstW, asB_bl, String.reduceBEq, beq_self_eq_true, Bool.or_true, Bool.true_or, Bool.or_false, Bool.false_or, Bool.and_true, Bool.true_and, Bool.and_false, Bool.false_and, Bool.not_true, Bool.not_false, forall_const, true_implies, true_and, and_true, false_implies, reduceCtorEq, List.length_cons, List.length_nil, forall_eq, imp_self, implies_true, if_true, if_false, Bool.false_eq_true, Bool.true_eq_false]
          rfl
        have e2 : (((k :: ks).map keyT).filter (fun d => match d with | .tup [.str f, .str s] => !decide ((f, s) = z) | _ => false)).map (fun d => d) = ((k :: ks).filter fun q => decide (q ≠ z)).map keyT := by
          rw [List.map_id', List.filter_map]
          congr 1
          refine List.filter_congr fun q _ => ?_
          show (!decide (q = z)) = decide (q ≠ z)
          simp
        rw [e2]
        simp only [bSummed_1, W.bind_wp, W.ret_wp, W.want_wp, W.any_wp, s_ite, s_get0, s_get, s_then, s_end, s_run, s_calm, s_fail, s_start1, s_start2, s_start3, s_start4, s_start5, List.replicate, List.set_cons_zero, List.set_cons_succ, asB_bl, asS_str, Nat.reduceSub, Nat.reduceAdd, addW.eq_1, addW.eq_2, addW.eq_3, addW.eq_4, addW.eq_5, subW.eq_1, subW.eq_2, mulW.eq_1, mulW.eq_2, mulW.eq_3, intOp.eq_1, negW.eq_1, ordW.eq_1, ordW.eq_2, isW.eq_1, isntW.eq_1, ixW.eq_1, ixW.eq_2, ixW.eq_3, slW.eq_1, slW.eq_2, slW.eq_3, revTW.eq_1, revLW.eq_1, lenW.eq_1, lenW.eq_2, lenW.eq_3, tupleW.eq_1, tupleW.eq_2, listW.eq_1, listW.eq_2, min2W.eq_1, max2W.eq_1, strW.eq_1, strW.eq_2, joinW.eq_1, joinW.eq_2, walkLW.eq_1, walkTW.eq_1, walkSW.eq_1, range1W.eq_1, zipW.eq_1, zipW.eq_2, tupG.eq_1, gsW.eq_1, gsW.eq_2, par2.eq_1, extW.eq_1, extW.eq_2, partW.eq_1, optW.eq_1, optW.eq_2, modW, fdivW, powW, ltW, leW, gtW, geW, isNone, isi_non, isi_bl, isi_int, isi_str, isi_tup, isi_lst, upperW, putW, appW, tupW, lstW, asB_bl, String.reduceBEq, beq_self_eq_true, Bool.or_true, Bool.true_or, Bool.or_false, Bool.false_or, Bool.and_true, Bool.true_and, Bool.and_false, Bool.false_and, Bool.not_true, Bool.not_false, forall_const, true_implies, true_and, and_true, false_implies, reduceCtorEq, List.length_cons, List.length_nil, forall_eq, imp_self, implies_true, if_true, if_false, Bool.false_eq_true, Bool.true_eq_false]
        refine (sums z _ _ _ _).go ?_
        rw [sumW_part]
        simp only [keyT, W.bind_wp, W.ret_wp, W.want_wp, W.any_wp, s_ite, s_get0, s_get, s_then, s_end, s_run, s_calm, s_fail, s_start1, s_start2, s_start3, s_start4, s_start5, List.replicate, List.set_cons_zero, List.set_cons_succ, asB_bl, asS_str, Nat.reduceSub, Nat.reduceAdd, addW.eq_1, addW.eq_2, addW.eq_3, addW.eq_4, addW.eq_5, subW.eq_1, subW.eq_2, mulW.eq_1, mulW.eq_2, mulW.eq_3, intOp.eq_1, negW.eq_1, ordW.eq_1, ordW.eq_2, isW.eq_1, isntW.eq_1, ixW.eq_1, ixW.eq_2, ixW.eq_3, slW.eq_1, slW.eq_2, slW.eq_3, revTW.eq_1, revLW.eq_1, lenW.eq_1, lenW.eq_2, lenW.eq_3, tupleW.eq_1, tupleW.eq_2, listW.eq_1, listW.eq_2, min2W.eq_1, max2W.eq_1, strW.eq_1, strW.eq_2, joinW.eq_1, joinW.eq_2, walkLW.eq_1, walkTW.eq_1, walkSW.eq_1, range1W.eq_1, zipW.eq_1, zipW.eq_2, tupG.eq_1, gsW.eq_1, gsW.eq_2, par2.eq_1, extW.eq_1, extW.eq_2, partW.eq_1, optW.eq_1, optW.eq_2, modW, fdivW, powW, ltW, leW, gtW, geW, isNone, isi_non, isi_bl, isi_int, isi_str, isi_tup, isi_lst, upperW, putW, appW, tupW, lstW, asB_bl, String.reduceBEq, beq_self_eq_true, Bool.or_true, Bool.true_or, Bool.or_false, Bool.false_or, Bool.and_true, Bool.true_and, Bool.and_false, Bool.false_and, Bool.not_true, Bool.not_false, forall_const, true_implies, true_and, and_true, false_implies, reduceCtorEq, List.length_cons, List.length_nil, forall_eq, imp_self, implies_true, if_true, if_false, Bool.false_eq_true, Bool.true_eq_false]
        have lf : ((k :: ks).filter fun q => decide (q ≠ z)).length < (k :: ks).length := by
          refine List.length_filter_lt_length_iff_exists.mpr ⟨z, hz1, by simp⟩
        refine ⟨small (by decide), small (by decide), by rw [List.length_map]; exact smallT (by omega), _, by rw [← hm]; exact lf, M ++ [(z.1, z.2, cnt L z)], _, _, _, _, by rw [List.map_append]; rfl, rfl, hL.next hz1 lm, ?_⟩
        rw [List.length_append, List.length_singleton]
        omega
  · cases ks with
    | cons k ks => cases hb
    | nil =>
      rw [hL.done]
      exact q
end LP
namespace LP
open PySem PySem.Spec PyProof.Rows L2 PK LP RZ
def shown1 (r : PRow) : Str := r.1 ++ ("/" : Str) ++ r.2.1 ++ (":" : Str) ++ (toString r.2.2 : String)
def shownR (L : List PRow) : Str := if L = [] then ("-" : Str) else Str.join (" " : Str) (L.map shown1)
theorem empty_app (x : Str) : Str.empty ++ x = x := by
  cases x with
  | mk a =>
    show (⟨#[] ++ a⟩ : Str) = ⟨a⟩
    simp
theorem fld_heap (L : List PRow) : fldW 0 0 (heapD L) = W.ret (rowsT L) := by
  show (objW 0 (heapD L)).bind _ = _
  rw [objW_heap]
  rfl
theorem many_log {b : Int} {r : PRow} (h : PRowOk b r) (hb : b ≤ 10 ^ 30) : r.2.2.natAbs.log2 < 1920 ∧ (Str.ofString (toString r.2.2)).length ≤ 32 := by
  have l := h.lo
  have u := h.hi
  have h1 : r.2.2.natAbs < 10 ^ 31 := by
    have : (10 : Int) ^ 30 < 10 ^ 31 := by decide
    have e : ((r.2.2.natAbs : Nat) : Int) = r.2.2 := Int.natAbs_of_nonneg (by omega)
    have : ((r.2.2.natAbs : Nat) : Int) < ((10 ^ 31 : Nat) : Int) := by
      rw [e]
      have : ((10 ^ 31 : Nat) : Int) = (10 : Int) ^ 31 := by decide
      omega
    exact Int.ofNat_lt.mp this
  refine ⟨?_, ?_⟩
  · have : r.2.2.natAbs.log2 < 200 := by
      rw [Nat.log2_lt (by omega)]
      exact Nat.lt_trans h1 (by decide)
    omega
  · have := int_text_length_le10 (by decide) h1
    rw [PySem.ofString_length]
    exact this
theorem word_small {y : Str} (h : Word y) : y.length ≤ sizeLine := small (by have := h.eight; omega)
theorem shown1_len {b : Int} {r : PRow} (h : PRowOk b r) (hb : b ≤ 10 ^ 30) : (shown1 r).length ≤ 60 := by
  have := (many_log h hb).2
  have h1 := h.f.eight
  have h2 := h.s.eight
  unfold shown1
  rw [strLen_append, strLen_append, strLen_append, strLen_append]
  have e1 : (Str.ofString "/").length = 1 := by decide +kernel
  have e2 : (Str.ofString ":").length = 1 := by decide +kernel
  omega
theorem sum_len {f : PRow → Str} {k : Nat} : ∀ {L : List PRow}, (∀ r ∈ L, (f r).length ≤ k) → ((L.map f).map (·.length)).sum ≤ L.length * k
  | [], _ => Nat.zero_le _
  | r :: L, h => by
    rw [List.map_cons, List.map_cons, List.sum_cons, List.length_cons, Nat.succ_mul]
    have := h r List.mem_cons_self
    have := sum_len (L := L) fun q hq => h q (List.mem_cons_of_mem _ hq)
    omega
theorem ssOf_shown (L : List PRow) : ssOf (L.map fun r => D.str (shown1 r)) = some (L.map shown1) := by
  have : (L.map fun r => D.str (shown1 r)) = (L.map shown1).map D.str := by rw [List.map_map]; rfl
  rw [this]
  exact ssOf_map _
theorem join_len (sep : Str) : ∀ ts : List Str, (Str.join sep ts).length ≤ (ts.map (·.length)).sum + ts.length * sep.length
  | [] => Nat.zero_le _
  | [x] => by
    show x.length ≤ x.length + 0 + 1 * sep.length
    omega
  | x :: y :: r => by
    have ih := join_len sep (y :: r)
    show (x ++ sep ++ Str.join sep (y :: r)).length ≤ _
    rw [strLen_append, strLen_append, List.map_cons, List.sum_cons, List.length_cons (a := x), Nat.succ_mul]
    omega
theorem join_fits {n : Nat} {b : Int} {L : List PRow} (h : RowsOk n b L) (hn : n ≤ 900) (hb : b ≤ 10 ^ 30) : ((L.map shown1).map (·.length)).sum + (L.map shown1).length * (Str.ofString " ").length ≤ 16777216 := by
  have h1 := h.len
  have h2 := sum_len (f := shown1) (k := 60) fun r hr => shown1_len (h.each r hr) hb
  rw [List.length_map]
  have e1 : (Str.ofString " ").length = 1 := by decide +kernel
  rw [e1]
  omega
theorem join_shown {n : Nat} {b : Int} {L : List PRow} (h : RowsOk n b L) (hn : n ≤ 900) (hb : b ≤ 10 ^ 30) : joinW (" " : Str) (.lst (L.map fun r => D.str (shown1 r))) = W.ret (.str (Str.join (" " : Str) (L.map shown1))) := by
  refine joinW_lst (ssOf_shown L) ?_
  have h1 := h.len
  have h2 := sum_len (f := shown1) (k := 60) fun r hr => shown1_len (h.each r hr) hb
  rw [List.length_map]
  have e1 : (Str.ofString " ").length = 1 := by decide +kernel
  rw [e1]
  omega
theorem shownR_cons {L : List PRow} (h : L ≠ []) : shownR L = Str.join (" " : Str) (L.map shown1) := if_neg h
theorem str_ret {n : Nat} {b : Int} {L : List PRow} (h : RowsOk n b L) (hn : n ≤ 900) (hb : b ≤ 10 ^ 30) : Ret (fStr [heapD L]) (.str (shownR L)) := by
  intro Q E q
  have hl := h.len
  refine ⟨rfl, ?_⟩
  show (endW (bStr (startE 4 [heapD L]))).wp Q E
  simp only [bStr, fld_heap, rowsT, eqW_int, List.length_map, W.bind_wp, W.ret_wp, W.want_wp, W.any_wp, s_ite, s_get0, s_get, s_then, s_end, s_run, s_calm, s_fail, s_start1, s_start2, s_start3, s_start4, s_start5, List.replicate, List.set_cons_zero, List.set_cons_succ, asB_bl, asS_str, Nat.reduceSub, Nat.reduceAdd, addW.eq_1, addW.eq_2, addW.eq_3, addW.eq_4, addW.eq_5, subW.eq_1, subW.eq_2, mulW.eq_1, mulW.eq_2, mulW.eq_3, intOp.eq_1, negW.eq_1, ordW.eq_1, ordW.eq_2, isW.eq_1, isntW.eq_1, ixW.eq_1, ixW.eq_2, ixW.eq_3, slW.eq_1, slW.eq_2, slW.eq_3, revTW.eq_1, revLW.eq_1, lenW.eq_1, lenW.eq_2, lenW.eq_3, tupleW.eq_1, tupleW.eq_2, listW.eq_1, listW.eq_2, min2W.eq_1, max2W.eq_1, strW.eq_1, strW.eq_2, joinW.eq_1, joinW.eq_2, walkLW.eq_1, walkTW.eq_1, walkSW.eq_1, range1W.eq_1, zipW.eq_1, zipW.eq_2, tupG.eq_1, gsW.eq_1, gsW.eq_2, par2.eq_1, extW.eq_1, extW.eq_2, partW.eq_1, optW.eq_1, optW.eq_2, modW, fdivW, powW, ltW, leW, gtW, geW, isNone, isi_non, isi_bl, isi_int, isi_str, isi_tup, isi_lst, upperW, putW, appW, tupW, lstW, asB_bl, String.reduceBEq, beq_self_eq_true, Bool.or_true, Bool.true_or, Bool.or_false, Bool.false_or, Bool.and_true, Bool.true_and, Bool.and_false, Bool.false_and, Bool.not_true, Bool.not_false, forall_const, true_implies, true_and, and_true, false_implies, reduceCtorEq, List.length_cons, List.length_nil, forall_eq, imp_self, implies_true, if_true, if_false, Bool.false_eq_true, Bool.true_eq_false]
  refine ⟨fun hz => ?_, fun hz => ?_⟩
  · have : L = [] := by
      have : ((L.length : Int)) = 0 := by simpa using hz
      exact List.length_eq_zero_iff.mp (by omega)
    subst this
    exact q
  · have hne : L ≠ [] := fun z => by
      subst z
      simp at hz
    refine Ret.go (lc_map (ds := L.map rowT) (fun d => match d with | .tup [.str f, .str s, .int n] => .str (shown1 (f, s, n)) | d => d) (fun Q E q => by
      show ((fldW 0 0 (heapD L)).bind walkTW).wp Q E
      rw [fld_heap]
      exact q) (by rw [List.length_map]; exact small (by omega)) fun d hd => ?_) ?_
    · obtain ⟨r, hr, rfl⟩ := List.mem_map.mp hd
      have ok := h.each r hr
      obtain ⟨k1, k2⟩ := many_log ok hb
      have s1 := shown1_len ok hb
      simp only [wipeE, rowT, jsW, fmtW, W.bind_wp, W.ret_wp, W.want_wp, W.any_wp, s_ite, s_get0, s_get, s_then, s_end, s_run, s_calm, s_fail, s_start1, s_start2, s_start3, s_start4, s_start5, List.replicate, List.set_cons_zero, List.set_cons_succ, asB_bl, asS_str, Nat.reduceSub, Nat.reduceAdd, addW.eq_1, addW.eq_2, addW.eq_3, addW.eq_4, addW.eq_5, subW.eq_1, subW.eq_2, mulW.eq_1, mulW.eq_2, mulW.eq_3, intOp.eq_1, negW.eq_1, ordW.eq_1, ordW.eq_2, isW.eq_1, isntW.eq_1, ixW.eq_1, ixW.eq_2, ixW.eq_3, slW.eq_1, slW.eq_2, slW.eq_3, revTW.eq_1, revLW.eq_1, lenW.eq_1, lenW.eq_2, lenW.eq_3, tupleW.eq_1, tupleW.eq_2, listW.eq_1, listW.eq_2, min2W.eq_1, max2W.eq_1, strW.eq_1, strW.eq_2, joinW.eq_1, joinW.eq_2, walkLW.eq_1, walkTW.eq_1, walkSW.eq_1, range1W.eq_1, zipW.eq_1, zipW.eq_2, tupG.eq_1, gsW.eq_1, gsW.eq_2, par2.eq_1, extW.eq_1, extW.eq_2, partW.eq_1, optW.eq_1, optW.eq_2, modW, fdivW, powW, ltW, leW, gtW, geW, isNone, isi_non, isi_bl, isi_int, isi_str, isi_tup, isi_lst, upperW, putW, appW, tupW, lstW, asB_bl, String.reduceBEq, beq_self_eq_true, Bool.or_true, Bool.true_or, Bool.or_false, Bool.false_or, Bool.and_true, Bool.true_and, Bool.and_false, Bool.false_and, Bool.not_true, Bool.not_false, forall_const, true_implies, true_and, and_true, false_implies, reduceCtorEq, List.length_cons, List.length_nil, forall_eq, imp_self, implies_true, if_true, if_false, Bool.false_eq_true, Bool.true_eq_false]
      rw [empty_app]
      unfold shown1 at s1
      rw [strLen_append, strLen_append, strLen_append, strLen_append] at s1
      refine ⟨word_small ok.f, word_small ok.f, ?_, word_small ok.s, ?_, ?_, k1, ?_, rfl⟩
      · rw [strLen_append]
        exact small (by omega)
      · rw [strLen_append, strLen_append]
        exact small (by omega)
      · rw [strLen_append, strLen_append, strLen_append]
        exact small (by omega)
      · rw [strLen_append, strLen_append, strLen_append, strLen_append]
        exact small (by omega)
    · have e1 : (L.map rowT).map (fun d => match d with | .tup [.str f, .str s, .int n] => .str (shown1 (f, s, n)) | d => d) = L.map fun r => D.str (shown1 r) := by
        rw [List.map_map]
        rfl
      rw [e1, join_shown h hn hb]
      show Q _
      rw [← shownR_cons hne]
      exact q
end LP
namespace LP.K17
open PySem PySem.Spec PyProof.Rows L2 PK LP RZ
theorem shown_ret {n : Nat} {b : Int} {L : List PRow} (h : RowsOk n b L) (hn : n ≤ 900) (hb : b ≤ 10 ^ 30) : Ret (fShown [rowsT L]) (.str (shownR L)) := by
  intro Q E q
  have hl := h.len
  refine ⟨rfl, ?_⟩
  show (endW (bShown (startE 5 [rowsT L]))).wp Q E
  simp only [bShown, W.bind_wp, W.ret_wp, W.want_wp, W.any_wp, s_ite, s_get0, s_get, s_then, s_end, s_run, s_calm, s_fail, s_start1, s_start2, s_start3, s_start4, s_start5, List.replicate, List.set_cons_zero, List.set_cons_succ, asB_bl, asS_str, Nat.reduceSub, Nat.reduceAdd, addW.eq_1, addW.eq_2, addW.eq_3, addW.eq_4, addW.eq_5, subW.eq_1, subW.eq_2, mulW.eq_1, mulW.eq_2, mulW.eq_3, intOp.eq_1, negW.eq_1, ordW.eq_1, ordW.eq_2, isW.eq_1, isntW.eq_1, ixW.eq_1, ixW.eq_2, ixW.eq_3, slW.eq_1, slW.eq_2, slW.eq_3, revTW.eq_1, revLW.eq_1, lenW.eq_1, lenW.eq_2, lenW.eq_3, tupleW.eq_1, tupleW.eq_2, listW.eq_1, listW.eq_2, min2W.eq_1, max2W.eq_1, strW.eq_1, strW.eq_2, joinW.eq_1, joinW.eq_2, walkLW.eq_1, walkTW.eq_1, walkSW.eq_1, range1W.eq_1, zipW.eq_1, zipW.eq_2, tupG.eq_1, gsW.eq_1, gsW.eq_2, par2.eq_1, extW.eq_1, extW.eq_2, partW.eq_1, optW.eq_1, optW.eq_2, modW, fdivW, powW, ltW, leW, gtW, geW, isNone, isi_non, isi_bl, isi_int, isi_str, isi_tup, isi_lst, upperW, putW, appW, tupW, lstW, asB_bl, String.reduceBEq, beq_self_eq_true, Bool.or_true, Bool.true_or, Bool.or_false, Bool.false_or, Bool.and_true, Bool.true_and, Bool.and_false, Bool.false_and, Bool.not_true, Bool.not_false, forall_const, true_implies, true_and, and_true, false_implies, reduceCtorEq, List.length_cons, List.length_nil, forall_eq, imp_self, implies_true, if_true, if_false, Bool.false_eq_true, Bool.true_eq_false]
  refine ⟨small (by decide), by decide, ?_⟩
  simp only [bShown_2, rowsT, W.bind_wp, W.ret_wp, W.want_wp, W.any_wp, s_ite, s_get0, s_get, s_then, s_end, s_run, s_calm, s_fail, s_start1, s_start2, s_start3, s_start4, s_start5, List.replicate, List.set_cons_zero, List.set_cons_succ, asB_bl, asS_str, Nat.reduceSub, Nat.reduceAdd, addW.eq_1, addW.eq_2, addW.eq_3, addW.eq_4, addW.eq_5, subW.eq_1, subW.eq_2, mulW.eq_1, mulW.eq_2, mulW.eq_3, intOp.eq_1, negW.eq_1, ordW.eq_1, ordW.eq_2, isW.eq_1, isntW.eq_1, ixW.eq_1, ixW.eq_2, ixW.eq_3, slW.eq_1, slW.eq_2, slW.eq_3, revTW.eq_1, revLW.eq_1, lenW.eq_1, lenW.eq_2, lenW.eq_3, tupleW.eq_1, tupleW.eq_2, listW.eq_1, listW.eq_2, min2W.eq_1, max2W.eq_1, strW.eq_1, strW.eq_2, joinW.eq_1, joinW.eq_2, walkLW.eq_1, walkTW.eq_1, walkSW.eq_1, range1W.eq_1, zipW.eq_1, zipW.eq_2, tupG.eq_1, gsW.eq_1, gsW.eq_2, par2.eq_1, extW.eq_1, extW.eq_2, partW.eq_1, optW.eq_1, optW.eq_2, modW, fdivW, powW, ltW, leW, gtW, geW, isNone, isi_non, isi_bl, isi_int, isi_str, isi_tup, isi_lst, upperW, putW, appW, tupW, lstW, asB_bl, String.reduceBEq, beq_self_eq_true, Bool.or_true, Bool.true_or, Bool.or_false, Bool.false_or, Bool.and_true, Bool.true_and, Bool.and_false, Bool.false_and, Bool.not_true, Bool.not_false, forall_const, true_implies, true_and, and_true, false_implies, reduceCtorEq, List.length_cons, List.length_nil, forall_eq, imp_self, implies_true, if_true, if_false, Bool.false_eq_true, Bool.true_eq_false]
  refine forW_wp0 (fun i env => ∃ (y2 y3 y4 : Option D), env = [some (.tup (L.map rowT)), some (.lst ((L.take i).map fun r => D.str (shown1 r))), y2, y3, y4]) ⟨none, none, none, rfl⟩ ?_ ?_
  · rintro i d env hd ⟨y2, y3, y4, rfl⟩
    rw [List.getElem?_map] at hd
    obtain ⟨r, hr, rfl⟩ := Option.map_eq_some_iff.mp hd
    have hi := (List.getElem?_eq_some_iff.mp hr).1
    have ok := h.each r (List.mem_of_getElem? hr)
    obtain ⟨k1, k2⟩ := many_log ok hb
    have s1 := shown1_len ok hb
    unfold shown1 at s1
    rw [strLen_append, strLen_append, strLen_append, strLen_append] at s1
    simp only [bShown_1, rowT, W.bind_wp, W.ret_wp, W.want_wp, W.any_wp, s_ite, s_get0, s_get, s_then, s_end, s_run, s_calm, s_fail, s_start1, s_start2, s_start3, s_start4, s_start5, List.replicate, List.set_cons_zero, List.set_cons_succ, asB_bl, asS_str, Nat.reduceSub, Nat.reduceAdd, addW.eq_1, addW.eq_2, addW.eq_3, addW.eq_4, addW.eq_5, subW.eq_1, subW.eq_2, mulW.eq_1, mulW.eq_2, mulW.eq_3, intOp.eq_1, negW.eq_1, ordW.eq_1, ordW.eq_2, isW.eq_1, isntW.eq_1, ixW.eq_1, ixW.eq_2, ixW.eq_3, slW.eq_1, slW.eq_2, slW.eq_3, revTW.eq_1, revLW.eq_1, lenW.eq_1, lenW.eq_2, lenW.eq_3, tupleW.eq_1, tupleW.eq_2, listW.eq_1, listW.eq_2, min2W.eq_1, max2W.eq_1, strW.eq_1, strW.eq_2, joinW.eq_1, joinW.eq_2, walkLW.eq_1, walkTW.eq_1, walkSW.eq_1, range1W.eq_1, zipW.eq_1, zipW.eq_2, tupG.eq_1, gsW.eq_1, gsW.eq_2, par2.eq_1, extW.eq_1, extW.eq_2, partW.eq_1, optW.eq_1, optW.eq_2, modW, fdivW, powW, ltW, leW, gtW, geW, isNone, isi_non, isi_bl, isi_int, isi_str, isi_tup, isi_lst, upperW, putW, appW, tupW, lstW, asB_bl, String.reduceBEq, beq_self_eq_true, Bool.or_true, Bool.true_or, Bool.or_false, Bool.false_or, Bool.and_true, Bool.true_and, Bool.and_false, Bool.false_and, Bool.not_true, Bool.not_false, forall_const, true_implies, true_and, and_true, false_implies, reduceCtorEq, List.length_cons, List.length_nil, forall_eq, imp_self, implies_true, if_true, if_false, Bool.false_eq_true, Bool.true_eq_false]
    refine ⟨?_, ?_, ?_, k1, ?_, ?_, some (.str r.1), some (.str r.2.1), some (.int r.2.2), ?_⟩
    · exact small (by omega)
    · rw [strLen_append]
      exact small (by omega)
    · rw [strLen_append, strLen_append]
      exact small (by omega)
    · rw [strLen_append, strLen_append, strLen_append]
      exact small (by omega)
    · rw [List.length_map, List.length_take]
      exact smallT (by omega)
    · rw [take_snoc hr, List.map_append]
      rfl
  · rintro env ⟨y2, y3, y4, rfl⟩
    rw [List.length_map, List.take_length]
    have e0 := neW_rows L []
    unfold rowsT at e0
    rw [List.map_nil] at e0
    simp only [e0, W.bind_wp, W.ret_wp, W.want_wp, W.any_wp, s_ite, s_get0, s_get, s_then, s_end, s_run, s_calm, s_fail, s_start1, s_start2, s_start3, s_start4, s_start5, List.replicate, List.set_cons_zero, List.set_cons_succ, asB_bl, asS_str, Nat.reduceSub, Nat.reduceAdd, addW.eq_1, addW.eq_2, addW.eq_3, addW.eq_4, addW.eq_5, subW.eq_1, subW.eq_2, mulW.eq_1, mulW.eq_2, mulW.eq_3, intOp.eq_1, negW.eq_1, ordW.eq_1, ordW.eq_2, isW.eq_1, isntW.eq_1, ixW.eq_1, ixW.eq_2, ixW.eq_3, slW.eq_1, slW.eq_2, slW.eq_3, revTW.eq_1, revLW.eq_1, lenW.eq_1, lenW.eq_2, lenW.eq_3, tupleW.eq_1, tupleW.eq_2, listW.eq_1, listW.eq_2, min2W.eq_1, max2W.eq_1, strW.eq_1, strW.eq_2, joinW.eq_1, joinW.eq_2, walkLW.eq_1, walkTW.eq_1, walkSW.eq_1, range1W.eq_1, zipW.eq_1, zipW.eq_2, tupG.eq_1, gsW.eq_1, gsW.eq_2, par2.eq_1, extW.eq_1, extW.eq_2, partW.eq_1, optW.eq_1, optW.eq_2, modW, fdivW, powW, ltW, leW, gtW, geW, isNone, isi_non, isi_bl, isi_int, isi_str, isi_tup, isi_lst, upperW, putW, appW, tupW, lstW, asB_bl, String.reduceBEq, beq_self_eq_true, Bool.or_true, Bool.true_or, Bool.or_false, Bool.false_or, Bool.and_true, Bool.true_and, Bool.and_false, Bool.false_and, Bool.not_true, Bool.not_false, forall_const, true_implies, true_and, and_true, false_implies, reduceCtorEq, List.length_cons, List.length_nil, forall_eq, imp_self, implies_true, if_true, if_false, Bool.false_eq_true, Bool.true_eq_false]
    refine ⟨small (by decide), fun hz => ?_, fun hz => ?_⟩
    · have hne : L ≠ [] := by simpa using hz
      rw [ssOf_shown, optW_some]
      refine ⟨join_fits h hn hb, ?_⟩
      rw [← shownR_cons hne]
      exact q
    · have he : L = [] := by simpa using hz
      subst he
      exact q
/-! ### the wants of the methods -/
structure Good (n : Nat) (b : Int) (L : List PRow) : Prop where
  ok : RowsOk n b L
  up : Rises (L.map fun r => pkD (PK.pk r))
theorem plus_eq {L M : List PRow} (h : L.length + M.length ≤ 900) : plusW [heapD L, heapD M] = W.ret (heapD (sumR (L ++ M))) := by
  show (optW (heapOf (heapD L))).bind _ = _
  rw [heapOf_D, optW_some, W.ret_bind, heapOf_D, optW_some, W.ret_bind]
  exact W.want_bind h
theorem rows_eq {L : List PRow} (h : L.length ≤ 900) : rowsW [heapD L] = W.ret (rowsT L) := by
  show (optW (heapOf (heapD L))).bind _ = _
  rw [heapOf_D, optW_some, W.ret_bind]
  exact W.want_bind h
theorem forms_eq {L : List PRow} (h : L.length ≤ 900) : formsW [heapD L] = W.ret (.tup ((formsR L).map D.str)) := by
  show (optW (heapOf (heapD L))).bind _ = _
  rw [heapOf_D, optW_some, W.ret_bind]
  exact W.want_bind h
theorem holds_eq {n : Nat} {b : Int} {L M : List PRow} (hL : RowsOk n b L) (hM : RowsOk n b M) (hn : n ≤ 900) : holdsW [heapD L, heapD M] = W.ret (.bl (decide (aboveR M L = []))) := by
  show (optW (heapOf (heapD L))).bind _ = _
  rw [heapOf_D, optW_some, W.ret_bind, heapOf_D, optW_some, W.ret_bind]
  exact W.want_bind ⟨n, b, hL, hM, hn⟩
theorem eqH_eq {n : Nat} {b : Int} {L M : List PRow} (hL : RowsOk n b L) (hM : RowsOk n b M) : eqHW (heapD L) (heapD M) = W.ret (.bl (decide (L = M))) := by
  show (optW (heapOf (heapD L))).bind _ = _
  rw [heapOf_D, optW_some, W.ret_bind, heapOf_D, optW_some, W.ret_bind]
  exact W.want_bind ⟨n, b, hL, hM⟩
theorem lenH_eq {L : List PRow} (h : L.length ≤ 900) : lenHW [heapD L] = W.ret (.int L.length) := by
  show (optW (heapOf (heapD L))).bind _ = _
  rw [heapOf_D, optW_some, W.ret_bind]
  exact W.want_bind h
theorem many_eq {L : List PRow} {f : Str} (h : L.length ≤ 900) : lenP 3 manyW (noneD 1 [heapD L, .str f]) = W.ret (.int (manyR L f none)) := by
  show (W.want _).bind (fun _ => (optW (heapOf (heapD L))).bind _) = _
  rw [W.want_bind (show (noneD 1 [heapD L, .str f]).length = 3 from rfl), heapOf_D, optW_some, W.ret_bind]
  exact W.want_bind h
theorem less_ret {n : Nat} {b : Int} {L M : List PRow} (hL : Good n b L) (hM : Good n b M) (hn : n ≤ 900) : Ret (lessTry (lessW [heapD L, heapD M])) (heapD (if aboveR M L = [] then aboveR L M else aboveR M L)) := by
  intro Q E q
  show (lessW [heapD L, heapD M]).wp Q fun e => (lackX e).wp Q E
  have e : lessW [heapD L, heapD M] = W.ite (decide (aboveR M L = [])) (W.ret (heapD (aboveR L M))) (W.raise ⟨1, [heapD (aboveR M L)]⟩) := by
    show (optW (heapOf (heapD L))).bind _ = _
    rw [heapOf_D, optW_some, W.ret_bind, heapOf_D, optW_some, W.ret_bind, W.want_bind ⟨n, b, hL.ok, hM.ok, hn⟩]
    exact W.want_bind ⟨hL.up, hM.up⟩
  rw [e]
  by_cases z : aboveR M L = []
  · rw [decide_eq_true z]
    rw [if_pos z] at q
    exact q
  · rw [decide_eq_false z]
    rw [if_neg z] at q
    exact q
/-! ### what a deed tells -/
def deedR (L M : List PRow) (m : Int) (f : Str) : List PRow :=
  if m = 0 then sumR (L ++ M)
  else if m = 1 then (if aboveR M L = [] then aboveR L M else aboveR M L)
  else if m = 2 then sumR (L ++ M.take 1)
  else if m = 3 then (if aboveR M L = [] then sumR (L ++ L) else sumR (L ++ [(f, ("zz" : Str), 1)]))
  else if m = 4 then (if L = M ∨ (shownR M).length < (shownR L).length then L else M)
  else L.take (formsR L).length
theorem cut_take {α : Type} (l : List α) (n : Nat) : cutD l none (some (n : Int)) = l.take n := by
  unfold cutD
  have e0 : HT.sIx l.length 0 none = 0 := rfl
  rw [e0, List.drop_zero, Nat.sub_zero]
  have e1 : HT.sIx l.length l.length (some (n : Int)) = min n l.length := by
    simp [HT.sIx]
    try omega
  rw [e1]
  rcases Nat.le_total n l.length with z | z
  · rw [Nat.min_eq_left z]
  · rw [Nat.min_eq_right z, List.take_length, List.take_of_length_le z]
theorem shown_len {n : Nat} {b : Int} {L : List PRow} (h : RowsOk n b L) (hn : n ≤ 900) (hb : b ≤ 10 ^ 30) : (shownR L).length ≤ sizeLine := by
  unfold shownR
  split
  · exact small (by decide +kernel)
  · have h1 := h.len
    have h2 := sum_len (f := shown1) (k := 60) fun r hr => shown1_len (h.each r hr) hb
    have h3 := join_len (" " : Str) (L.map shown1)
    refine small ?_
    have e1 : (Str.ofString " ").length = 1 := by decide +kernel
    rw [List.length_map, e1] at h3
    omega
end LP.K17
namespace LP.K17
open PySem PySem.Spec PyProof.Rows L2 PK LP RZ
theorem rows_app (L M : List PRow) : addW (rowsT L) (rowsT M) = (W.want (L.length + M.length ≤ sizeLine)).bind fun _ => W.ret (rowsT (L ++ M)) := by
  show (W.want ((L.map rowT).length + (M.map rowT).length ≤ sizeLine)).bind _ = _
  rw [List.length_map, List.length_map]
  unfold rowsT
  rw [List.map_append]
theorem addW_rows {L M : List PRow} (h : L.length + M.length ≤ 1000000) : addW (rowsT L) (rowsT M) = W.ret (rowsT (L ++ M)) := by
  rw [rows_app, W.want_bind (small h)]
theorem sl_rows (L : List PRow) (n : Nat) : slW (rowsT L) none (some (n : Int)) = W.ret (rowsT (L.take n)) := by
  show W.ret (D.tup (cutD (L.map rowT) none (some (n : Int)))) = _
  rw [cut_take, ← List.map_take]
  rfl
theorem sl1_rows (L : List PRow) : slW (rowsT L) none (some 1) = W.ret (rowsT (L.take 1)) := sl_rows L 1
theorem up_take {L : List PRow} (h : Rises (L.map fun r => pkD (PK.pk r))) (n : Nat) : Rises ((L.take n).map fun r => pkD (PK.pk r)) := by
  unfold Rises at *
  rw [List.map_take]
  exact h.sublist (List.take_sublist _ _) 
theorem deed_ret {n : Nat} {b : Int} {L M : List PRow} {m : Int} {f : Str} (hL : Good n b L) (hM : Good n b M) (hn : n ≤ 100) (hb : b ≤ 10 ^ 30) (m0 : 0 ≤ m) (m6 : m < 6) : Ret (fDeed [heapD L, heapD M, .int m, .str f]) (heapD (deedR L M m f)) := by
  intro Q E q
  have l1 := hL.ok.len
  have l2 := hM.ok.len
  refine ⟨rfl, ?_⟩
  show (endW (bDeed (startE 6 [heapD L, heapD M, .int m, .str f]))).wp Q E
  simp only [bDeed, eqW_int, objW_heap, W.bind_wp, W.ret_wp, W.want_wp, W.any_wp, s_ite, s_get0, s_get, s_then, s_end, s_run, s_calm, s_fail, s_start1, s_start2, s_start3, s_start4, s_start5, List.replicate, List.set_cons_zero, List.set_cons_succ, asB_bl, asS_str, Nat.reduceSub, Nat.reduceAdd, addW.eq_1, addW.eq_2, addW.eq_3, addW.eq_4, addW.eq_5, subW.eq_1, subW.eq_2, mulW.eq_1, mulW.eq_2, mulW.eq_3, intOp.eq_1, negW.eq_1, ordW.eq_1, ordW.eq_2, isW.eq_1, isntW.eq_1, ixW.eq_1, ixW.eq_2, ixW.eq_3, slW.eq_1, slW.eq_2, slW.eq_3, revTW.eq_1, revLW.eq_1, lenW.eq_1, lenW.eq_2, lenW.eq_3, tupleW.eq_1, tupleW.eq_2, listW.eq_1, listW.eq_2, min2W.eq_1, max2W.eq_1, strW.eq_1, strW.eq_2, joinW.eq_1, joinW.eq_2, walkLW.eq_1, walkTW.eq_1, walkSW.eq_1, range1W.eq_1, zipW.eq_1, zipW.eq_2, tupG.eq_1, gsW.eq_1, gsW.eq_2, par2.eq_1, extW.eq_1, extW.eq_2, partW.eq_1, optW.eq_1, optW.eq_2, modW, fdivW, powW, ltW, leW, gtW, geW, isNone, isi_non, isi_bl, isi_int, isi_str, isi_tup, isi_lst, upperW, putW, appW, tupW, lstW, asB_bl, String.reduceBEq, beq_self_eq_true, Bool.or_true, Bool.true_or, Bool.or_false, Bool.false_or, Bool.and_true, Bool.true_and, Bool.and_false, Bool.false_and, Bool.not_true, Bool.not_false, forall_const, true_implies, true_and, and_true, false_implies, reduceCtorEq, List.length_cons, List.length_nil, forall_eq, imp_self, implies_true, if_true, if_false, Bool.false_eq_true, Bool.true_eq_false]
  refine ⟨fun e => ?_, fun e => ?_⟩
  · have e : m = 0 := by simpa using e
    rw [plus_eq (by omega)]
    rw [deedR, if_pos e] at q
    exact q
  have n0 : m ≠ 0 := by simpa using e
  rw [deedR, if_neg n0] at q
  simp only [bDeed_6, eqW_int, objW_heap, W.bind_wp, W.ret_wp, W.want_wp, W.any_wp, s_ite, s_get0, s_get, s_then, s_end, s_run, s_calm, s_fail, s_start1, s_start2, s_start3, s_start4, s_start5, List.replicate, List.set_cons_zero, List.set_cons_succ, asB_bl, asS_str, Nat.reduceSub, Nat.reduceAdd, addW.eq_1, addW.eq_2, addW.eq_3, addW.eq_4, addW.eq_5, subW.eq_1, subW.eq_2, mulW.eq_1, mulW.eq_2, mulW.eq_3, intOp.eq_1, negW.eq_1, ordW.eq_1, ordW.eq_2, isW.eq_1, isntW.eq_1, ixW.eq_1, ixW.eq_2, ixW.eq_3, slW.eq_1, slW.eq_2, slW.eq_3, revTW.eq_1, revLW.eq_1, lenW.eq_1, lenW.eq_2, lenW.eq_3, tupleW.eq_1, tupleW.eq_2, listW.eq_1, listW.eq_2, min2W.eq_1, max2W.eq_1, strW.eq_1, strW.eq_2, joinW.eq_1, joinW.eq_2, walkLW.eq_1, walkTW.eq_1, walkSW.eq_1, range1W.eq_1, zipW.eq_1, zipW.eq_2, tupG.eq_1, gsW.eq_1, gsW.eq_2, par2.eq_1, extW.eq_1, extW.eq_2, partW.eq_1, optW.eq_1, optW.eq_2, modW, fdivW, powW, ltW, leW, gtW, geW, isNone, isi_non, isi_bl, isi_int, isi_str, isi_tup, isi_lst, upperW, putW, appW, tupW, lstW, asB_bl, String.reduceBEq, beq_self_eq_true, Bool.or_true, Bool.true_or, Bool.or_false, Bool.false_or, Bool.and_true, Bool.true_and, Bool.and_false, Bool.false_and, Bool.not_true, Bool.not_false, forall_const, true_implies, true_and, and_true, false_implies, reduceCtorEq, List.length_cons, List.length_nil, forall_eq, imp_self, implies_true, if_true, if_false, Bool.false_eq_true, Bool.true_eq_false]
  refine ⟨fun e => ?_, fun e => ?_⟩
  · have e : m = 1 := by simpa using e
    rw [if_pos e] at q
    simp only [bDeed_2, bDeed_1, eqW_int, objW_heap, W.bind_wp, W.ret_wp, W.want_wp, W.any_wp, s_ite, s_get0, s_get, s_then, s_end, s_run, s_calm, s_fail, s_start1, s_start2, s_start3, s_start4, s_start5, List.replicate, List.set_cons_zero, List.set_cons_succ, asB_bl, asS_str, Nat.reduceSub, Nat.reduceAdd, addW.eq_1, addW.eq_2, addW.eq_3, addW.eq_4, addW.eq_5, subW.eq_1, subW.eq_2, mulW.eq_1, mulW.eq_2, mulW.eq_3, intOp.eq_1, negW.eq_1, ordW.eq_1, ordW.eq_2, isW.eq_1, isntW.eq_1, ixW.eq_1, ixW.eq_2, ixW.eq_3, slW.eq_1, slW.eq_2, slW.eq_3, revTW.eq_1, revLW.eq_1, lenW.eq_1, lenW.eq_2, lenW.eq_3, tupleW.eq_1, tupleW.eq_2, listW.eq_1, listW.eq_2, min2W.eq_1, max2W.eq_1, strW.eq_1, strW.eq_2, joinW.eq_1, joinW.eq_2, walkLW.eq_1, walkTW.eq_1, walkSW.eq_1, range1W.eq_1, zipW.eq_1, zipW.eq_2, tupG.eq_1, gsW.eq_1, gsW.eq_2, par2.eq_1, extW.eq_1, extW.eq_2, partW.eq_1, optW.eq_1, optW.eq_2, modW, fdivW, powW, ltW, leW, gtW, geW, isNone, isi_non, isi_bl, isi_int, isi_str, isi_tup, isi_lst, upperW, putW, appW, tupW, lstW, asB_bl, String.reduceBEq, beq_self_eq_true, Bool.or_true, Bool.true_or, Bool.or_false, Bool.false_or, Bool.and_true, Bool.true_and, Bool.and_false, Bool.false_and, Bool.not_true, Bool.not_false, forall_const, true_implies, true_and, and_true, false_implies, reduceCtorEq, List.length_cons, List.length_nil, forall_eq, imp_self, implies_true, if_true, if_false, Bool.false_eq_true, Bool.true_eq_false]
    refine ⟨rfl, (less_ret hL hM (by omega)).go ?_⟩
    exact q
  have n1 : m ≠ 1 := by simpa using e
  rw [if_neg n1] at q
  simp only [bDeed_5, eqW_int, objW_heap, W.bind_wp, W.ret_wp, W.want_wp, W.any_wp, s_ite, s_get0, s_get, s_then, s_end, s_run, s_calm, s_fail, s_start1, s_start2, s_start3, s_start4, s_start5, List.replicate, List.set_cons_zero, List.set_cons_succ, asB_bl, asS_str, Nat.reduceSub, Nat.reduceAdd, addW.eq_1, addW.eq_2, addW.eq_3, addW.eq_4, addW.eq_5, subW.eq_1, subW.eq_2, mulW.eq_1, mulW.eq_2, mulW.eq_3, intOp.eq_1, negW.eq_1, ordW.eq_1, ordW.eq_2, isW.eq_1, isntW.eq_1, ixW.eq_1, ixW.eq_2, ixW.eq_3, slW.eq_1, slW.eq_2, slW.eq_3, revTW.eq_1, revLW.eq_1, lenW.eq_1, lenW.eq_2, lenW.eq_3, tupleW.eq_1, tupleW.eq_2, listW.eq_1, listW.eq_2, min2W.eq_1, max2W.eq_1, strW.eq_1, strW.eq_2, joinW.eq_1, joinW.eq_2, walkLW.eq_1, walkTW.eq_1, walkSW.eq_1, range1W.eq_1, zipW.eq_1, zipW.eq_2, tupG.eq_1, gsW.eq_1, gsW.eq_2, par2.eq_1, extW.eq_1, extW.eq_2, partW.eq_1, optW.eq_1, optW.eq_2, modW, fdivW, powW, ltW, leW, gtW, geW, isNone, isi_non, isi_bl, isi_int, isi_str, isi_tup, isi_lst, upperW, putW, appW, tupW, lstW, asB_bl, String.reduceBEq, beq_self_eq_true, Bool.or_true, Bool.true_or, Bool.or_false, Bool.false_or, Bool.and_true, Bool.true_and, Bool.and_false, Bool.false_and, Bool.not_true, Bool.not_false, forall_const, true_implies, true_and, and_true, false_implies, reduceCtorEq, List.length_cons, List.length_nil, forall_eq, imp_self, implies_true, if_true, if_false, Bool.false_eq_true, Bool.true_eq_false]
  refine ⟨fun e => ?_, fun e => ?_⟩
  · have e : m = 2 := by simpa using e
    rw [if_pos e] at q
    rw [rows_eq (by omega)]
    simp only [W.bind_wp, W.ret_wp, W.want_wp, W.any_wp, s_ite, s_get0, s_get, s_then, s_end, s_run, s_calm, s_fail, s_start1, s_start2, s_start3, s_start4, s_start5, List.replicate, List.set_cons_zero, List.set_cons_succ, asB_bl, asS_str, Nat.reduceSub, Nat.reduceAdd, addW.eq_1, addW.eq_2, addW.eq_3, addW.eq_4, addW.eq_5, subW.eq_1, subW.eq_2, mulW.eq_1, mulW.eq_2, mulW.eq_3, intOp.eq_1, negW.eq_1, ordW.eq_1, ordW.eq_2, isW.eq_1, isntW.eq_1, ixW.eq_1, ixW.eq_2, ixW.eq_3, slW.eq_1, slW.eq_2, slW.eq_3, revTW.eq_1, revLW.eq_1, lenW.eq_1, lenW.eq_2, lenW.eq_3, tupleW.eq_1, tupleW.eq_2, listW.eq_1, listW.eq_2, min2W.eq_1, max2W.eq_1, strW.eq_1, strW.eq_2, joinW.eq_1, joinW.eq_2, walkLW.eq_1, walkTW.eq_1, walkSW.eq_1, range1W.eq_1, zipW.eq_1, zipW.eq_2, tupG.eq_1, gsW.eq_1, gsW.eq_2, par2.eq_1, extW.eq_1, extW.eq_2, partW.eq_1, optW.eq_1, optW.eq_2, modW, fdivW, powW, ltW, leW, gtW, geW, isNone, isi_non, isi_bl, isi_int, isi_str, isi_tup, isi_lst, upperW, putW, appW, tupW, lstW, asB_bl, String.reduceBEq, beq_self_eq_true, Bool.or_true, Bool.true_or, Bool.or_false, Bool.false_or, Bool.and_true, Bool.true_and, Bool.and_false, Bool.false_and, Bool.not_true, Bool.not_false, forall_const, true_implies, true_and, and_true, false_implies, reduceCtorEq, List.length_cons, List.length_nil, forall_eq, imp_self, implies_true, if_true, if_false, Bool.false_eq_true, Bool.true_eq_false]
    rw [rows_eq (by omega)]
    simp only [W.bind_wp, W.ret_wp, W.want_wp, W.any_wp, s_ite, s_get0, s_get, s_then, s_end, s_run, s_calm, s_fail, s_start1, s_start2, s_start3, s_start4, s_start5, List.replicate, List.set_cons_zero, List.set_cons_succ, asB_bl, asS_str, Nat.reduceSub, Nat.reduceAdd, addW.eq_1, addW.eq_2, addW.eq_3, addW.eq_4, addW.eq_5, subW.eq_1, subW.eq_2, mulW.eq_1, mulW.eq_2, mulW.eq_3, intOp.eq_1, negW.eq_1, ordW.eq_1, ordW.eq_2, isW.eq_1, isntW.eq_1, ixW.eq_1, ixW.eq_2, ixW.eq_3, slW.eq_1, slW.eq_2, slW.eq_3, revTW.eq_1, revLW.eq_1, lenW.eq_1, lenW.eq_2, lenW.eq_3, tupleW.eq_1, tupleW.eq_2, listW.eq_1, listW.eq_2, min2W.eq_1, max2W.eq_1, strW.eq_1, strW.eq_2, joinW.eq_1, joinW.eq_2, walkLW.eq_1, walkTW.eq_1, walkSW.eq_1, range1W.eq_1, zipW.eq_1, zipW.eq_2, tupG.eq_1, gsW.eq_1, gsW.eq_2, par2.eq_1, extW.eq_1, extW.eq_2, partW.eq_1, optW.eq_1, optW.eq_2, modW, fdivW, powW, ltW, leW, gtW, geW, isNone, isi_non, isi_bl, isi_int, isi_str, isi_tup, isi_lst, upperW, putW, appW, tupW, lstW, asB_bl, String.reduceBEq, beq_self_eq_true, Bool.or_true, Bool.true_or, Bool.or_false, Bool.false_or, Bool.and_true, Bool.true_and, Bool.and_false, Bool.false_and, Bool.not_true, Bool.not_false, forall_const, true_implies, true_and, and_true, false_implies, reduceCtorEq, List.length_cons, List.length_nil, forall_eq, imp_self, implies_true, if_true, if_false, Bool.false_eq_true, Bool.true_eq_false]
    rw [sl1_rows]
    simp only [W.ret_wp]
    have lt := List.length_take_le 1 M
    rw [addW_rows (by omega)]
    simp only [W.ret_wp]
    rw [heapW_rows _ (by rw [List.length_append]; omega)]
    exact q
  have n2 : m ≠ 2 := by simpa using e
  rw [if_neg n2] at q
  simp only [bDeed_4, eqW_int, objW_heap, W.bind_wp, W.ret_wp, W.want_wp, W.any_wp, s_ite, s_get0, s_get, s_then, s_end, s_run, s_calm, s_fail, s_start1, s_start2, s_start3, s_start4, s_start5, List.replicate, List.set_cons_zero, List.set_cons_succ, asB_bl, asS_str, Nat.reduceSub, Nat.reduceAdd, addW.eq_1, addW.eq_2, addW.eq_3, addW.eq_4, addW.eq_5, subW.eq_1, subW.eq_2, mulW.eq_1, mulW.eq_2, mulW.eq_3, intOp.eq_1, negW.eq_1, ordW.eq_1, ordW.eq_2, isW.eq_1, isntW.eq_1, ixW.eq_1, ixW.eq_2, ixW.eq_3, slW.eq_1, slW.eq_2, slW.eq_3, revTW.eq_1, revLW.eq_1, lenW.eq_1, lenW.eq_2, lenW.eq_3, tupleW.eq_1, tupleW.eq_2, listW.eq_1, listW.eq_2, min2W.eq_1, max2W.eq_1, strW.eq_1, strW.eq_2, joinW.eq_1, joinW.eq_2, walkLW.eq_1, walkTW.eq_1, walkSW.eq_1, range1W.eq_1, zipW.eq_1, zipW.eq_2, tupG.eq_1, gsW.eq_1, gsW.eq_2, par2.eq_1, extW.eq_1, extW.eq_2, partW.eq_1, optW.eq_1, optW.eq_2, modW, fdivW, powW, ltW, leW, gtW, geW, isNone, isi_non, isi_bl, isi_int, isi_str, isi_tup, isi_lst, upperW, putW, appW, tupW, lstW, asB_bl, String.reduceBEq, beq_self_eq_true, Bool.or_true, Bool.true_or, Bool.or_false, Bool.false_or, Bool.and_true, Bool.true_and, Bool.and_false, Bool.false_and, Bool.not_true, Bool.not_false, forall_const, true_implies, true_and, and_true, false_implies, reduceCtorEq, List.length_cons, List.length_nil, forall_eq, imp_self, implies_true, if_true, if_false, Bool.false_eq_true, Bool.true_eq_false]
  refine ⟨fun e => ?_, fun e => ?_⟩
  · have e : m = 3 := by simpa using e
    rw [if_pos e] at q
    rw [holds_eq hL.ok hM.ok (by omega)]
    simp only [W.bind_wp, W.ret_wp, W.want_wp, W.any_wp, s_ite, s_get0, s_get, s_then, s_end, s_run, s_calm, s_fail, s_start1, s_start2, s_start3, s_start4, s_start5, List.replicate, List.set_cons_zero, List.set_cons_succ, asB_bl, asS_str, Nat.reduceSub, Nat.reduceAdd, addW.eq_1, addW.eq_2, addW.eq_3, addW.eq_4, addW.eq_5, subW.eq_1, subW.eq_2, mulW.eq_1, mulW.eq_2, mulW.eq_3, intOp.eq_1, negW.eq_1, ordW.eq_1, ordW.eq_2, isW.eq_1, isntW.eq_1, ixW.eq_1, ixW.eq_2, ixW.eq_3, slW.eq_1, slW.eq_2, slW.eq_3, revTW.eq_1, revLW.eq_1, lenW.eq_1, lenW.eq_2, lenW.eq_3, tupleW.eq_1, tupleW.eq_2, listW.eq_1, listW.eq_2, min2W.eq_1, max2W.eq_1, strW.eq_1, strW.eq_2, joinW.eq_1, joinW.eq_2, walkLW.eq_1, walkTW.eq_1, walkSW.eq_1, range1W.eq_1, zipW.eq_1, zipW.eq_2, tupG.eq_1, gsW.eq_1, gsW.eq_2, par2.eq_1, extW.eq_1, extW.eq_2, partW.eq_1, optW.eq_1, optW.eq_2, modW, fdivW, powW, ltW, leW, gtW, geW, isNone, isi_non, isi_bl, isi_int, isi_str, isi_tup, isi_lst, upperW, putW, appW, tupW, lstW, asB_bl, String.reduceBEq, beq_self_eq_true, Bool.or_true, Bool.true_or, Bool.or_false, Bool.false_or, Bool.and_true, Bool.true_and, Bool.and_false, Bool.false_and, Bool.not_true, Bool.not_false, forall_const, true_implies, true_and, and_true, false_implies, reduceCtorEq, List.length_cons, List.length_nil, forall_eq, imp_self, implies_true, if_true, if_false, Bool.false_eq_true, Bool.true_eq_false]
    refine ⟨fun z => ?_, fun z => ?_⟩
    · rw [if_pos (of_decide_eq_true z)] at q
      rw [plus_eq (by omega)]
      exact q
    · rw [if_neg (of_decide_eq_false z)] at q
      refine ⟨small (by decide), small (by decide), ?_⟩
      rw [show (D.tup [.tup [.str f, .str (Str.ofString "zz"), .int 1]]) = rowsT [(f, Str.ofString "zz", 1)] from rfl, heapW_rows _ (by show 1 ≤ 900; decide)]
      simp only [W.ret_wp]
      have e1 : sumR [(f, Str.ofString "zz", 1)] = [(f, Str.ofString "zz", 1)] := sumR_id (List.pairwise_singleton _ _)
      rw [e1, plus_eq (by simp; omega)]
      exact q
  have n3 : m ≠ 3 := by simpa using e
  rw [if_neg n3] at q
  simp only [bDeed_3, eqW_int, objW_heap, W.bind_wp, W.ret_wp, W.want_wp, W.any_wp, s_ite, s_get0, s_get, s_then, s_end, s_run, s_calm, s_fail, s_start1, s_start2, s_start3, s_start4, s_start5, List.replicate, List.set_cons_zero, List.set_cons_succ, asB_bl, asS_str, Nat.reduceSub, Nat.reduceAdd, addW.eq_1, addW.eq_2, addW.eq_3, addW.eq_4, addW.eq_5, subW.eq_1, subW.eq_2, mulW.eq_1, mulW.eq_2, mulW.eq_3, intOp.eq_1, negW.eq_1, ordW.eq_1, ordW.eq_2, isW.eq_1, isntW.eq_1, ixW.eq_1, ixW.eq_2, ixW.eq_3, slW.eq_1, slW.eq_2, slW.eq_3, revTW.eq_1, revLW.eq_1, lenW.eq_1, lenW.eq_2, lenW.eq_3, tupleW.eq_1, tupleW.eq_2, listW.eq_1, listW.eq_2, min2W.eq_1, max2W.eq_1, strW.eq_1, strW.eq_2, joinW.eq_1, joinW.eq_2, walkLW.eq_1, walkTW.eq_1, walkSW.eq_1, range1W.eq_1, zipW.eq_1, zipW.eq_2, tupG.eq_1, gsW.eq_1, gsW.eq_2, par2.eq_1, extW.eq_1, extW.eq_2, partW.eq_1, optW.eq_1, optW.eq_2, modW, fdivW, powW, ltW, leW, gtW, geW, isNone, isi_non, isi_bl, isi_int, isi_str, isi_tup, isi_lst, upperW, putW, appW, tupW, lstW, asB_bl, String.reduceBEq, beq_self_eq_true, Bool.or_true, Bool.true_or, Bool.or_false, Bool.false_or, Bool.and_true, Bool.true_and, Bool.and_false, Bool.false_and, Bool.not_true, Bool.not_false, forall_const, true_implies, true_and, and_true, false_implies, reduceCtorEq, List.length_cons, List.length_nil, forall_eq, imp_self, implies_true, if_true, if_false, Bool.false_eq_true, Bool.true_eq_false]
  refine ⟨fun e => ?_, fun e => ?_⟩
  · have e : m = 4 := by simpa using e
    rw [if_pos e] at q
    rw [eqH_eq hL.ok hM.ok]
    have fin1 : (L = M ∨ (shownR M).length < (shownR L).length) → (rowsW [heapD L]).wp (fun a => (heapW a).wp Q E) E := fun z => by
      rw [if_pos z] at q
      rw [rows_eq (by omega)]
      show (heapW (rowsT L)).wp Q E
      rw [heapW_rows _ (by omega), sumR_id hL.up]
      exact q
    have fin2 : ¬ (L = M ∨ (shownR M).length < (shownR L).length) → (heapW .non).wp (fun a => (plusW [heapD M, a]).wp Q E) E := fun z => by
      rw [if_neg z] at q
      rw [heapW_non]
      show (plusW [heapD M, heapD []]).wp Q E
      rw [plus_eq (by simp; omega), List.append_nil, sumR_id hM.up]
      exact q
    simp only [W.bind_wp, W.ret_wp, W.want_wp, W.any_wp, s_ite, s_get0, s_get, s_then, s_end, s_run, s_calm, s_fail, s_start1, s_start2, s_start3, s_start4, s_start5, List.replicate, List.set_cons_zero, List.set_cons_succ, asB_bl, asS_str, Nat.reduceSub, Nat.reduceAdd, addW.eq_1, addW.eq_2, addW.eq_3, addW.eq_4, addW.eq_5, subW.eq_1, subW.eq_2, mulW.eq_1, mulW.eq_2, mulW.eq_3, intOp.eq_1, negW.eq_1, ordW.eq_1, ordW.eq_2, isW.eq_1, isntW.eq_1, ixW.eq_1, ixW.eq_2, ixW.eq_3, slW.eq_1, slW.eq_2, slW.eq_3, revTW.eq_1, revLW.eq_1, lenW.eq_1, lenW.eq_2, lenW.eq_3, tupleW.eq_1, tupleW.eq_2, listW.eq_1, listW.eq_2, min2W.eq_1, max2W.eq_1, strW.eq_1, strW.eq_2, joinW.eq_1, joinW.eq_2, walkLW.eq_1, walkTW.eq_1, walkSW.eq_1, range1W.eq_1, zipW.eq_1, zipW.eq_2, tupG.eq_1, gsW.eq_1, gsW.eq_2, par2.eq_1, extW.eq_1, extW.eq_2, partW.eq_1, optW.eq_1, optW.eq_2, modW, fdivW, powW, ltW, leW, gtW, geW, isNone, isi_non, isi_bl, isi_int, isi_str, isi_tup, isi_lst, upperW, putW, appW, tupW, lstW, asB_bl, String.reduceBEq, beq_self_eq_true, Bool.or_true, Bool.true_or, Bool.or_false, Bool.false_or, Bool.and_true, Bool.true_and, Bool.and_false, Bool.false_and, Bool.not_true, Bool.not_false, forall_const, true_implies, true_and, and_true, false_implies, reduceCtorEq, List.length_cons, List.length_nil, forall_eq, imp_self, implies_true, if_true, if_false, Bool.false_eq_true, Bool.true_eq_false]
    refine ⟨fun z => fin1 (.inl (of_decide_eq_true z)), fun z => ?_⟩
    refine (str_ret hL.ok (by omega) hb).go ?_
    simp only [W.bind_wp, W.ret_wp, W.want_wp, W.any_wp, s_ite, s_get0, s_get, s_then, s_end, s_run, s_calm, s_fail, s_start1, s_start2, s_start3, s_start4, s_start5, List.replicate, List.set_cons_zero, List.set_cons_succ, asB_bl, asS_str, Nat.reduceSub, Nat.reduceAdd, addW.eq_1, addW.eq_2, addW.eq_3, addW.eq_4, addW.eq_5, subW.eq_1, subW.eq_2, mulW.eq_1, mulW.eq_2, mulW.eq_3, intOp.eq_1, negW.eq_1, ordW.eq_1, ordW.eq_2, isW.eq_1, isntW.eq_1, ixW.eq_1, ixW.eq_2, ixW.eq_3, slW.eq_1, slW.eq_2, slW.eq_3, revTW.eq_1, revLW.eq_1, lenW.eq_1, lenW.eq_2, lenW.eq_3, tupleW.eq_1, tupleW.eq_2, listW.eq_1, listW.eq_2, min2W.eq_1, max2W.eq_1, strW.eq_1, strW.eq_2, joinW.eq_1, joinW.eq_2, walkLW.eq_1, walkTW.eq_1, walkSW.eq_1, range1W.eq_1, zipW.eq_1, zipW.eq_2, tupG.eq_1, gsW.eq_1, gsW.eq_2, par2.eq_1, extW.eq_1, extW.eq_2, partW.eq_1, optW.eq_1, optW.eq_2, modW, fdivW, powW, ltW, leW, gtW, geW, isNone, isi_non, isi_bl, isi_int, isi_str, isi_tup, isi_lst, upperW, putW, appW, tupW, lstW, asB_bl, String.reduceBEq, beq_self_eq_true, Bool.or_true, Bool.true_or, Bool.or_false, Bool.false_or, Bool.and_true, Bool.true_and, Bool.and_false, Bool.false_and, Bool.not_true, Bool.not_false, forall_const, true_implies, true_and, and_true, false_implies, reduceCtorEq, List.length_cons, List.length_nil, forall_eq, imp_self, implies_true, if_true, if_false, Bool.false_eq_true, Bool.true_eq_false]
    refine ⟨shown_len hL.ok (by omega) hb, (str_ret hM.ok (by omega) hb).go ?_⟩
    simp only [W.bind_wp, W.ret_wp, W.want_wp, W.any_wp, s_ite, s_get0, s_get, s_then, s_end, s_run, s_calm, s_fail, s_start1, s_start2, s_start3, s_start4, s_start5, List.replicate, List.set_cons_zero, List.set_cons_succ, asB_bl, asS_str, Nat.reduceSub, Nat.reduceAdd, addW.eq_1, addW.eq_2, addW.eq_3, addW.eq_4, addW.eq_5, subW.eq_1, subW.eq_2, mulW.eq_1, mulW.eq_2, mulW.eq_3, intOp.eq_1, negW.eq_1, ordW.eq_1, ordW.eq_2, isW.eq_1, isntW.eq_1, ixW.eq_1, ixW.eq_2, ixW.eq_3, slW.eq_1, slW.eq_2, slW.eq_3, revTW.eq_1, revLW.eq_1, lenW.eq_1, lenW.eq_2, lenW.eq_3, tupleW.eq_1, tupleW.eq_2, listW.eq_1, listW.eq_2, min2W.eq_1, max2W.eq_1, strW.eq_1, strW.eq_2, joinW.eq_1, joinW.eq_2, walkLW.eq_1, walkTW.eq_1, walkSW.eq_1, range1W.eq_1, zipW.eq_1, zipW.eq_2, tupG.eq_1, gsW.eq_1, gsW.eq_2, par2.eq_1, extW.eq_1, extW.eq_2, partW.eq_1, optW.eq_1, optW.eq_2, modW, fdivW, powW, ltW, leW, gtW, geW, isNone, isi_non, isi_bl, isi_int, isi_str, isi_tup, isi_lst, upperW, putW, appW, tupW, lstW, asB_bl, String.reduceBEq, beq_self_eq_true, Bool.or_true, Bool.true_or, Bool.or_false, Bool.false_or, Bool.and_true, Bool.true_and, Bool.and_false, Bool.false_and, Bool.not_true, Bool.not_false, forall_const, true_implies, true_and, and_true, false_implies, reduceCtorEq, List.length_cons, List.length_nil, forall_eq, imp_self, implies_true, if_true, if_false, Bool.false_eq_true, Bool.true_eq_false]
    refine ⟨shown_len hM.ok (by omega) hb, fun y => fin1 (.inr ?_), fun y => fin2 ?_⟩
    · have := of_decide_eq_true y
      omega
    · have := of_decide_eq_false y
      rintro (z2 | z2)
      · exact of_decide_eq_false z z2
      · omega
  have n4 : m ≠ 4 := by simpa using e
  rw [if_neg n4] at q
  rw [rows_eq (by omega)]
  simp only [W.bind_wp, W.ret_wp, W.want_wp, W.any_wp, s_ite, s_get0, s_get, s_then, s_end, s_run, s_calm, s_fail, s_start1, s_start2, s_start3, s_start4, s_start5, List.replicate, List.set_cons_zero, List.set_cons_succ, asB_bl, asS_str, Nat.reduceSub, Nat.reduceAdd, addW.eq_1, addW.eq_2, addW.eq_3, addW.eq_4, addW.eq_5, subW.eq_1, subW.eq_2, mulW.eq_1, mulW.eq_2, mulW.eq_3, intOp.eq_1, negW.eq_1, ordW.eq_1, ordW.eq_2, isW.eq_1, isntW.eq_1, ixW.eq_1, ixW.eq_2, ixW.eq_3, slW.eq_1, slW.eq_2, slW.eq_3, revTW.eq_1, revLW.eq_1, lenW.eq_1, lenW.eq_2, lenW.eq_3, tupleW.eq_1, tupleW.eq_2, listW.eq_1, listW.eq_2, min2W.eq_1, max2W.eq_1, strW.eq_1, strW.eq_2, joinW.eq_1, joinW.eq_2, walkLW.eq_1, walkTW.eq_1, walkSW.eq_1, range1W.eq_1, zipW.eq_1, zipW.eq_2, tupG.eq_1, gsW.eq_1, gsW.eq_2, par2.eq_1, extW.eq_1, extW.eq_2, partW.eq_1, optW.eq_1, optW.eq_2, modW, fdivW, powW, ltW, leW, gtW, geW, isNone, isi_non, isi_bl, isi_int, isi_str, isi_tup, isi_lst, upperW, putW, appW, tupW, lstW, asB_bl, String.reduceBEq, beq_self_eq_true, Bool.or_true, Bool.true_or, Bool.or_false, Bool.false_or, Bool.and_true, Bool.true_and, Bool.and_false, Bool.false_and, Bool.not_true, Bool.not_false, forall_const, true_implies, true_and, and_true, false_implies, reduceCtorEq, List.length_cons, List.length_nil, forall_eq, imp_self, implies_true, if_true, if_false, Bool.false_eq_true, Bool.true_eq_false]
  rw [forms_eq (by omega)]
  simp only [List.length_map, W.bind_wp, W.ret_wp, W.want_wp, W.any_wp, s_ite, s_get0, s_get, s_then, s_end, s_run, s_calm, s_fail, s_start1, s_start2, s_start3, s_start4, s_start5, List.replicate, List.set_cons_zero, List.set_cons_succ, asB_bl, asS_str, Nat.reduceSub, Nat.reduceAdd, addW.eq_1, addW.eq_2, addW.eq_3, addW.eq_4, addW.eq_5, subW.eq_1, subW.eq_2, mulW.eq_1, mulW.eq_2, mulW.eq_3, intOp.eq_1, negW.eq_1, ordW.eq_1, ordW.eq_2, isW.eq_1, isntW.eq_1, ixW.eq_1, ixW.eq_2, ixW.eq_3, slW.eq_1, slW.eq_2, slW.eq_3, revTW.eq_1, revLW.eq_1, lenW.eq_1, lenW.eq_2, lenW.eq_3, tupleW.eq_1, tupleW.eq_2, listW.eq_1, listW.eq_2, min2W.eq_1, max2W.eq_1, strW.eq_1, strW.eq_2, joinW.eq_1, joinW.eq_2, walkLW.eq_1, walkTW.eq_1, walkSW.eq_1, range1W.eq_1, zipW.eq_1, zipW.eq_2, tupG.eq_1, gsW.eq_1, gsW.eq_2, par2.eq_1, extW.eq_1, extW.eq_2, partW.eq_1, optW.eq_1, optW.eq_2, modW, fdivW, powW, ltW, leW, gtW, geW, isNone, isi_non, isi_bl, isi_int, isi_str, isi_tup, isi_lst, upperW, putW, appW, tupW, lstW, asB_bl, String.reduceBEq, beq_self_eq_true, Bool.or_true, Bool.true_or, Bool.or_false, Bool.false_or, Bool.and_true, Bool.true_and, Bool.and_false, Bool.false_and, Bool.not_true, Bool.not_false, forall_const, true_implies, true_and, and_true, false_implies, reduceCtorEq, List.length_cons, List.length_nil, forall_eq, imp_self, implies_true, if_true, if_false, Bool.false_eq_true, Bool.true_eq_false]
  rw [sl_rows]
  simp only [W.ret_wp]
  rw [heapW_rows _ (by rw [List.length_take]; omega), sumR_id (up_take hL.up _)]
  exact q
end LP.K17
namespace LP.K17
open PySem PySem.Spec PyProof.Rows L2 PK LP RZ
/-! ### the law's own -/
def lessN (M : List PRow) (r : PRow) : PRow := (r.1, r.2.1, r.2.2 - cnt M (PK.pk r))
theorem above_filter (L M : List PRow) : (L.map (lessN M)).filter (fun r => decide (0 < r.2.2)) = aboveR L M := by
  unfold aboveR
  induction L with
  | nil => rfl
  | cons r L ih =>
    rw [List.map_cons, List.filterMap_cons, List.filter_cons, ih]
    by_cases e : 0 < r.2.2 - cnt M (PK.pk r)
    · have e1 : above1 M r = some (lessN M r) := by
        unfold above1
        rw [if_pos e]
        rfl
      rw [e1, if_pos (show decide (0 < (lessN M r).2.2) = true from decide_eq_true e)]
    · have e1 : above1 M r = none := by
        unfold above1
        rw [if_neg e]
      rw [e1, if_neg (show ¬ decide (0 < (lessN M r).2.2) = true from fun z => e (of_decide_eq_true z))]
def lessD (M : List PRow) : D → D
  | .tup [.str f, .str s, .int n] => rowT (lessN M (f, s, n))
  | d => d
def posD : D → Bool
  | .tup [_, _, .int n] => decide (n > 0)
  | _ => false
theorem lessD_map (L M : List PRow) : (L.map rowT).map (lessD M) = (L.map (lessN M)).map rowT := by
  rw [List.map_map, List.map_map]
  rfl
theorem pos_map (L : List PRow) : ((L.map rowT).filter posD).map (fun d => d) = (L.filter fun r => decide (0 < r.2.2)).map rowT := by
  rw [List.map_id', List.filter_map]
  rfl
theorem lcA {M : List PRow} (hl : M.length ≤ 10000) (r : PRow) {y0 y1 y2 y3 y4 y6 y7 y9 y10 : Option D} :
    Ret (lcD (fun d env => W.ret (env.set 7 (some d))) (fun env => ((((getW env 7).bind fun d => (W.ret none).bind fun l => ((W.ret (.int 2)).bind partW).bind fun u => slW d l u).bind fun x => ((getW env 8).bind fun d => (W.ret none).bind fun l => ((W.ret (.int 2)).bind partW).bind fun u => slW d l u).bind fun y => eqW x y).bind asB)) (fun env => ((getW env 7).bind fun x => (W.ret (.int 2)).bind fun y => ixW x y)) [7] (fun env => ((getW env 5).bind walkTW)) [y0, y1, y2, y3, y4, some (rowsT M), y6, y7, some (rowT r), y9, y10]) (.lst ((ofPart M (PK.pk r)).map D.int)) := by
  rw [← sum_ofPart]
  refine lc_ret (keyIs (PK.pk r)) rowIx (fun Q E q => q) (by rw [List.length_map]; exact small (by omega)) fun d hd => ?_
  obtain ⟨q, hq, rfl⟩ := List.mem_map.mp hd
  simp only [wipeE, rowT, cut2, eqW_key', W.bind_wp, W.ret_wp, W.want_wp, W.any_wp, s_ite, s_get0, s_get, s_then, s_end, s_run, s_calm, s_fail, s_start1, s_start2, s_start3, s_start4, s_start5, List.replicate, List.set_cons_zero, List.set_cons_succ, asB_bl, asS_str, Nat.reduceSub, Nat.reduceAdd, addW.eq_1, addW.eq_2, addW.eq_3, addW.eq_4, addW.eq_5, subW.eq_1, subW.eq_2, mulW.eq_1, mulW.eq_2, mulW.eq_3, intOp.eq_1, negW.eq_1, ordW.eq_1, ordW.eq_2, isW.eq_1, isntW.eq_1, ixW.eq_1, ixW.eq_2, ixW.eq_3, slW.eq_1, slW.eq_2, slW.eq_3, revTW.eq_1, revLW.eq_1, lenW.eq_1, lenW.eq_2, lenW.eq_3, tupleW.eq_1, tupleW.eq_2, listW.eq_1, listW.eq_2, min2W.eq_1, max2W.eq_1, strW.eq_1, strW.eq_2, joinW.eq_1, joinW.eq_2, walkLW.eq_1, walkTW.eq_1, walkSW.eq_1, range1W.eq_1, zipW.eq_1, zipW.eq_2, tupG.eq_1, gsW.eq_1, gsW.eq_2, par2.eq_1, extW.eq_1, extW.eq_2, partW.eq_1, optW.eq_1, optW.eq_2, modW, fdivW, powW, ltW, leW, gtW, geW, isNone, isi_non, isi_bl, isi_int, isi_str, isi_tup, isi_lst, upperW, putW, appW, tupW, lstW, asB_bl, String.reduceBEq, beq_self_eq_true, Bool.or_true, Bool.true_or, Bool.or_false, Bool.false_or, Bool.and_true, Bool.true_and, Bool.and_false, Bool.false_and, Bool.not_true, Bool.not_false, forall_const, true_implies, true_and, and_true, false_implies, reduceCtorEq, List.length_cons, List.length_nil, forall_eq, imp_self, implies_true, if_true, if_false, Bool.false_eq_true, Bool.true_eq_false]
  exact ⟨rfl, fun _ => rfl⟩
theorem lcB {M : List PRow} (hl : M.length ≤ 10000) (r : PRow) {y0 y1 y2 y3 y5 y6 y7 y9 y10 : Option D} :
    Ret (lcD (fun d env => W.ret (env.set 7 (some d))) (fun env => ((((getW env 7).bind fun d => (W.ret none).bind fun l => ((W.ret (.int 2)).bind partW).bind fun u => slW d l u).bind fun x => ((getW env 8).bind fun d => (W.ret none).bind fun l => ((W.ret (.int 2)).bind partW).bind fun u => slW d l u).bind fun y => eqW x y).bind asB)) (fun env => ((getW env 7).bind fun x => (W.ret (.int 2)).bind fun y => ixW x y)) [7] (fun env => ((getW env 4).bind walkTW)) [y0, y1, y2, y3, some (rowsT M), y5, y6, y7, some (rowT r), y9, y10]) (.lst ((ofPart M (PK.pk r)).map D.int)) := by
  rw [← sum_ofPart]
  refine lc_ret (keyIs (PK.pk r)) rowIx (fun Q E q => q) (by rw [List.length_map]; exact small (by omega)) fun d hd => ?_
  obtain ⟨q, hq, rfl⟩ := List.mem_map.mp hd
  simp only [wipeE, rowT, cut2, eqW_key', W.bind_wp, W.ret_wp, W.want_wp, W.any_wp, s_ite, s_get0, s_get, s_then, s_end, s_run, s_calm, s_fail, s_start1, s_start2, s_start3, s_start4, s_start5, List.replicate, List.set_cons_zero, List.set_cons_succ, asB_bl, asS_str, Nat.reduceSub, Nat.reduceAdd, addW.eq_1, addW.eq_2, addW.eq_3, addW.eq_4, addW.eq_5, subW.eq_1, subW.eq_2, mulW.eq_1, mulW.eq_2, mulW.eq_3, intOp.eq_1, negW.eq_1, ordW.eq_1, ordW.eq_2, isW.eq_1, isntW.eq_1, ixW.eq_1, ixW.eq_2, ixW.eq_3, slW.eq_1, slW.eq_2, slW.eq_3, revTW.eq_1, revLW.eq_1, lenW.eq_1, lenW.eq_2, lenW.eq_3, tupleW.eq_1, tupleW.eq_2, listW.eq_1, listW.eq_2, min2W.eq_1, max2W.eq_1, strW.eq_1, strW.eq_2, joinW.eq_1, joinW.eq_2, walkLW.eq_1, walkTW.eq_1, walkSW.eq_1, range1W.eq_1, zipW.eq_1, zipW.eq_2, tupG.eq_1, gsW.eq_1, gsW.eq_2, par2.eq_1, extW.eq_1, extW.eq_2, partW.eq_1, optW.eq_1, optW.eq_2, modW, fdivW, powW, ltW, leW, gtW, geW, isNone, isi_non, isi_bl, isi_int, isi_str, isi_tup, isi_lst, upperW, putW, appW, tupW, lstW, asB_bl, String.reduceBEq, beq_self_eq_true, Bool.or_true, Bool.true_or, Bool.or_false, Bool.false_or, Bool.and_true, Bool.true_and, Bool.and_false, Bool.false_and, Bool.not_true, Bool.not_false, forall_const, true_implies, true_and, and_true, false_implies, reduceCtorEq, List.length_cons, List.length_nil, forall_eq, imp_self, implies_true, if_true, if_false, Bool.false_eq_true, Bool.true_eq_false]
  exact ⟨rfl, fun _ => rfl⟩
theorem sl2R (r : PRow) : slW (rowT r) none (some 2) = W.ret (.tup [.str r.1, .str r.2.1]) := rfl
theorem ix2R (r : PRow) : ixW (rowT r) (.int 2) = W.ret (.int r.2.2) := rfl
theorem ix0R (r : PRow) : ixW (rowT r) (.int 0) = W.ret (.str r.1) := rfl
theorem nil_T : rowsT [] = .tup [] := rfl
theorem formsR_set (L : List PRow) : (insAll (L.map fun r => r.1)).length = (formsR L).length := by
  unfold formsR
  rw [sortS_len]
  unfold formL insAll
  rw [List.foldl_map]
theorem setW_strs (ys : List Str) (h : ys.length ≤ 1000) (Q : D → Prop) (E : Ex → Prop) (q : Q (.set (insAll ys))) : (setW [.lst (ys.map D.str)]).wp Q E := by
  show ((optW (ssOf (ys.map D.str))).bind _).wp Q E
  rw [ssOf_map, optW_some, W.ret_bind]
  exact ⟨by omega, q⟩
theorem due_ret {n : Nat} {b : Int} {L M : List PRow} {m : Int} {f : Str} (hL : Good n b L) (hM : Good n b M) (hn : n ≤ 100) (hb : b ≤ 10 ^ 30) (m0 : 0 ≤ m) (m6 : m < 6) : Ret (fDue [rowsT L, rowsT M, .int m, .str f]) (rowsT (deedR L M m f)) := by
  intro Q E q
  have l1 := hL.ok.len
  have l2 := hM.ok.len
  refine ⟨rfl, ?_⟩
  show (endW (bDue (startE 11 [rowsT L, rowsT M, .int m, .str f]))).wp Q E
  simp only [bDue, W.bind_wp, W.ret_wp, W.want_wp, W.any_wp, s_ite, s_get0, s_get, s_then, s_end, s_run, s_calm, s_fail, s_start1, s_start2, s_start3, s_start4, s_start5, List.replicate, List.set_cons_zero, List.set_cons_succ, asB_bl, asS_str, Nat.reduceSub, Nat.reduceAdd, addW.eq_1, addW.eq_2, addW.eq_3, addW.eq_4, addW.eq_5, subW.eq_1, subW.eq_2, mulW.eq_1, mulW.eq_2, mulW.eq_3, intOp.eq_1, negW.eq_1, ordW.eq_1, ordW.eq_2, isW.eq_1, isntW.eq_1, ixW.eq_1, ixW.eq_2, ixW.eq_3, slW.eq_1, slW.eq_2, slW.eq_3, revTW.eq_1, revLW.eq_1, lenW.eq_1, lenW.eq_2, lenW.eq_3, tupleW.eq_1, tupleW.eq_2, listW.eq_1, listW.eq_2, min2W.eq_1, max2W.eq_1, strW.eq_1, strW.eq_2, joinW.eq_1, joinW.eq_2, walkLW.eq_1, walkTW.eq_1, walkSW.eq_1, range1W.eq_1, zipW.eq_1, zipW.eq_2, tupG.eq_1, gsW.eq_1, gsW.eq_2, par2.eq_1, extW.eq_1, extW.eq_2, partW.eq_1, optW.eq_1, optW.eq_2, modW, fdivW, powW, ltW, leW, gtW, geW, isNone, isi_non, isi_bl, isi_int, isi_str, isi_tup, isi_lst, upperW, putW, appW, tupW, lstW, asB_bl, String.reduceBEq, beq_self_eq_true, Bool.or_true, Bool.true_or, Bool.or_false, Bool.false_or, Bool.and_true, Bool.true_and, Bool.and_false, Bool.false_and, Bool.not_true, Bool.not_false, forall_const, true_implies, true_and, and_true, false_implies, reduceCtorEq, List.length_cons, List.length_nil, forall_eq, imp_self, implies_true, if_true, if_false, Bool.false_eq_true, Bool.true_eq_false]
  refine (summed_ret L (by omega)).go ?_
  refine (summed_ret M (by omega)).go ?_
  rw [sumR_id hL.up, sumR_id hM.up]
  refine ⟨small (by decide), ?_⟩
  simp only [bDue_8, W.bind_wp, W.ret_wp, W.want_wp, W.any_wp, s_ite, s_get0, s_get, s_then, s_end, s_run, s_calm, s_fail, s_start1, s_start2, s_start3, s_start4, s_start5, List.replicate, List.set_cons_zero, List.set_cons_succ, asB_bl, asS_str, Nat.reduceSub, Nat.reduceAdd, addW.eq_1, addW.eq_2, addW.eq_3, addW.eq_4, addW.eq_5, subW.eq_1, subW.eq_2, mulW.eq_1, mulW.eq_2, mulW.eq_3, intOp.eq_1, negW.eq_1, ordW.eq_1, ordW.eq_2, isW.eq_1, isntW.eq_1, ixW.eq_1, ixW.eq_2, ixW.eq_3, slW.eq_1, slW.eq_2, slW.eq_3, revTW.eq_1, revLW.eq_1, lenW.eq_1, lenW.eq_2, lenW.eq_3, tupleW.eq_1, tupleW.eq_2, listW.eq_1, listW.eq_2, min2W.eq_1, max2W.eq_1, strW.eq_1, strW.eq_2, joinW.eq_1, joinW.eq_2, walkLW.eq_1, walkTW.eq_1, walkSW.eq_1, range1W.eq_1, zipW.eq_1, zipW.eq_2, tupG.eq_1, gsW.eq_1, gsW.eq_2, par2.eq_1, extW.eq_1, extW.eq_2, partW.eq_1, optW.eq_1, optW.eq_2, modW, fdivW, powW, ltW, leW, gtW, geW, isNone, isi_non, isi_bl, isi_int, isi_str, isi_tup, isi_lst, upperW, putW, appW, tupW, lstW, asB_bl, String.reduceBEq, beq_self_eq_true, Bool.or_true, Bool.true_or, Bool.or_false, Bool.false_or, Bool.and_true, Bool.true_and, Bool.and_false, Bool.false_and, Bool.not_true, Bool.not_false, forall_const, true_implies, true_and, and_true, false_implies, reduceCtorEq, List.length_cons, List.length_nil, forall_eq, imp_self, implies_true, if_true, if_false, Bool.false_eq_true, Bool.true_eq_false]
  refine Ret.go (lc_map (ds := L.map rowT) (lessD M) (fun Q E q => q) (by rw [List.length_map]; exact small (by omega)) fun d hd => ?_) ?_
  · obtain ⟨r, hr, rfl⟩ := List.mem_map.mp hd
    simp only [wipeE, W.bind_wp, W.ret_wp, W.want_wp, W.any_wp, s_ite, s_get0, s_get, s_then, s_end, s_run, s_calm, s_fail, s_start1, s_start2, s_start3, s_start4, s_start5, List.replicate, List.set_cons_zero, List.set_cons_succ, asB_bl, asS_str, Nat.reduceSub, Nat.reduceAdd, addW.eq_1, addW.eq_2, addW.eq_3, addW.eq_4, addW.eq_5, subW.eq_1, subW.eq_2, mulW.eq_1, mulW.eq_2, mulW.eq_3, intOp.eq_1, negW.eq_1, ordW.eq_1, ordW.eq_2, isW.eq_1, isntW.eq_1, ixW.eq_1, ixW.eq_2, ixW.eq_3, slW.eq_1, slW.eq_2, slW.eq_3, revTW.eq_1, revLW.eq_1, lenW.eq_1, lenW.eq_2, lenW.eq_3, tupleW.eq_1, tupleW.eq_2, listW.eq_1, listW.eq_2, min2W.eq_1, max2W.eq_1, strW.eq_1, strW.eq_2, joinW.eq_1, joinW.eq_2, walkLW.eq_1, walkTW.eq_1, walkSW.eq_1, range1W.eq_1, zipW.eq_1, zipW.eq_2, tupG.eq_1, gsW.eq_1, gsW.eq_2, par2.eq_1, extW.eq_1, extW.eq_2, partW.eq_1, optW.eq_1, optW.eq_2, modW, fdivW, powW, ltW, leW, gtW, geW, isNone, isi_non, isi_bl, isi_int, isi_str, isi_tup, isi_lst, upperW, putW, appW, tupW, lstW, asB_bl, String.reduceBEq, beq_self_eq_true, Bool.or_true, Bool.true_or, Bool.or_false, Bool.false_or, Bool.and_true, Bool.true_and, Bool.and_false, Bool.false_and, Bool.not_true, Bool.not_false, forall_const, true_implies, true_and, and_true, false_implies, reduceCtorEq, List.length_cons, List.length_nil, forall_eq, imp_self, implies_true, if_true, if_false, Bool.false_eq_true, Bool.true_eq_false]
    rw [sl2R]
    simp only [W.ret_wp]
    rw [ix2R]
    simp only [W.ret_wp]
    refine (lcA (by omega) r).go ?_
    rw [sumW_part]
    simp only [W.bind_wp, W.ret_wp, W.want_wp, W.any_wp, s_ite, s_get0, s_get, s_then, s_end, s_run, s_calm, s_fail, s_start1, s_start2, s_start3, s_start4, s_start5, List.replicate, List.set_cons_zero, List.set_cons_succ, asB_bl, asS_str, Nat.reduceSub, Nat.reduceAdd, addW.eq_1, addW.eq_2, addW.eq_3, addW.eq_4, addW.eq_5, subW.eq_1, subW.eq_2, mulW.eq_1, mulW.eq_2, mulW.eq_3, intOp.eq_1, negW.eq_1, ordW.eq_1, ordW.eq_2, isW.eq_1, isntW.eq_1, ixW.eq_1, ixW.eq_2, ixW.eq_3, slW.eq_1, slW.eq_2, slW.eq_3, revTW.eq_1, revLW.eq_1, lenW.eq_1, lenW.eq_2, lenW.eq_3, tupleW.eq_1, tupleW.eq_2, listW.eq_1, listW.eq_2, min2W.eq_1, max2W.eq_1, strW.eq_1, strW.eq_2, joinW.eq_1, joinW.eq_2, walkLW.eq_1, walkTW.eq_1, walkSW.eq_1, range1W.eq_1, zipW.eq_1, zipW.eq_2, tupG.eq_1, gsW.eq_1, gsW.eq_2, par2.eq_1, extW.eq_1, extW.eq_2, partW.eq_1, optW.eq_1, optW.eq_2, modW, fdivW, powW, ltW, leW, gtW, geW, isNone, isi_non, isi_bl, isi_int, isi_str, isi_tup, isi_lst, upperW, putW, appW, tupW, lstW, asB_bl, String.reduceBEq, beq_self_eq_true, Bool.or_true, Bool.true_or, Bool.or_false, Bool.false_or, Bool.and_true, Bool.true_and, Bool.and_false, Bool.false_and, Bool.not_true, Bool.not_false, forall_const, true_implies, true_and, and_true, false_implies, reduceCtorEq, List.length_cons, List.length_nil, forall_eq, imp_self, implies_true, if_true, if_false, Bool.false_eq_true, Bool.true_eq_false]
    exact ⟨small (by decide), small (by decide), rfl⟩
  rw [lessD_map]
  simp only [bDue_7, W.bind_wp, W.ret_wp, W.want_wp, W.any_wp, s_ite, s_get0, s_get, s_then, s_end, s_run, s_calm, s_fail, s_start1, s_start2, s_start3, s_start4, s_start5, List.replicate, List.set_cons_zero, List.set_cons_succ, asB_bl, asS_str, Nat.reduceSub, Nat.reduceAdd, addW.eq_1, addW.eq_2, addW.eq_3, addW.eq_4, addW.eq_5, subW.eq_1, subW.eq_2, mulW.eq_1, mulW.eq_2, mulW.eq_3, intOp.eq_1, negW.eq_1, ordW.eq_1, ordW.eq_2, isW.eq_1, isntW.eq_1, ixW.eq_1, ixW.eq_2, ixW.eq_3, slW.eq_1, slW.eq_2, slW.eq_3, revTW.eq_1, revLW.eq_1, lenW.eq_1, lenW.eq_2, lenW.eq_3, tupleW.eq_1, tupleW.eq_2, listW.eq_1, listW.eq_2, min2W.eq_1, max2W.eq_1, strW.eq_1, strW.eq_2, joinW.eq_1, joinW.eq_2, walkLW.eq_1, walkTW.eq_1, walkSW.eq_1, range1W.eq_1, zipW.eq_1, zipW.eq_2, tupG.eq_1, gsW.eq_1, gsW.eq_2, par2.eq_1, extW.eq_1, extW.eq_2, partW.eq_1, optW.eq_1, optW.eq_2, modW, fdivW, powW, ltW, leW, gtW, geW, isNone, isi_non, isi_bl, isi_int, isi_str, isi_tup, isi_lst, upperW, putW, appW, tupW, lstW, asB_bl, String.reduceBEq, beq_self_eq_true, Bool.or_true, Bool.true_or, Bool.or_false, Bool.false_or, Bool.and_true, Bool.true_and, Bool.and_false, Bool.false_and, Bool.not_true, Bool.not_false, forall_const, true_implies, true_and, and_true, false_implies, reduceCtorEq, List.length_cons, List.length_nil, forall_eq, imp_self, implies_true, if_true, if_false, Bool.false_eq_true, Bool.true_eq_false]
  refine Ret.go (lc_map (ds := M.map rowT) (lessD L) (fun Q E q => q) (by rw [List.length_map]; exact small (by omega)) fun d hd => ?_) ?_
  · obtain ⟨r, hr, rfl⟩ := List.mem_map.mp hd
    simp only [wipeE, W.bind_wp, W.ret_wp, W.want_wp, W.any_wp, s_ite, s_get0, s_get, s_then, s_end, s_run, s_calm, s_fail, s_start1, s_start2, s_start3, s_start4, s_start5, List.replicate, List.set_cons_zero, List.set_cons_succ, asB_bl, asS_str, Nat.reduceSub, Nat.reduceAdd, addW.eq_1, addW.eq_2, addW.eq_3, addW.eq_4, addW.eq_5, subW.eq_1, subW.eq_2, mulW.eq_1, mulW.eq_2, mulW.eq_3, intOp.eq_1, negW.eq_1, ordW.eq_1, ordW.eq_2, isW.eq_1, isntW.eq_1, ixW.eq_1, ixW.eq_2, ixW.eq_3, slW.eq_1, slW.eq_2, slW.eq_3, revTW.eq_1, revLW.eq_1, lenW.eq_1, lenW.eq_2, lenW.eq_3, tupleW.eq_1, tupleW.eq_2, listW.eq_1, listW.eq_2, min2W.eq_1, max2W.eq_1, strW.eq_1, strW.eq_2, joinW.eq_1, joinW.eq_2, walkLW.eq_1, walkTW.eq_1, walkSW.eq_1, range1W.eq_1, zipW.eq_1, zipW.eq_2, tupG.eq_1, gsW.eq_1, gsW.eq_2, par2.eq_1, extW.eq_1, extW.eq_2, partW.eq_1, optW.eq_1, optW.eq_2, modW, fdivW, powW, ltW, leW, gtW, geW, isNone, isi_non, isi_bl, isi_int, isi_str, isi_tup, isi_lst, upperW, putW, appW, tupW, lstW, asB_bl, String.reduceBEq, beq_self_eq_true, Bool.or_true, Bool.true_or, Bool.or_false, Bool.false_or, Bool.and_true, Bool.true_and, Bool.and_false, Bool.false_and, Bool.not_true, Bool.not_false, forall_const, true_implies, true_and, and_true, false_implies, reduceCtorEq, List.length_cons, List.length_nil, forall_eq, imp_self, implies_true, if_true, if_false, Bool.false_eq_true, Bool.true_eq_false]
    rw [sl2R]
    simp only [W.ret_wp]
    rw [ix2R]
    simp only [W.ret_wp]
    refine (lcB (by omega) r).go ?_
    rw [sumW_part]
    simp only [W.bind_wp, W.ret_wp, W.want_wp, W.any_wp, s_ite, s_get0, s_get, s_then, s_end, s_run, s_calm, s_fail, s_start1, s_start2, s_start3, s_start4, s_start5, List.replicate, List.set_cons_zero, List.set_cons_succ, asB_bl, asS_str, Nat.reduceSub, Nat.reduceAdd, addW.eq_1, addW.eq_2, addW.eq_3, addW.eq_4, addW.eq_5, subW.eq_1, subW.eq_2, mulW.eq_1, mulW.eq_2, mulW.eq_3, intOp.eq_1, negW.eq_1, ordW.eq_1, ordW.eq_2, isW.eq_1, isntW.eq_1, ixW.eq_1, ixW.eq_2, ixW.eq_3, slW.eq_1, slW.eq_2, slW.eq_3, revTW.eq_1, revLW.eq_1, lenW.eq_1, lenW.eq_2, lenW.eq_3, tupleW.eq_1, tupleW.eq_2, listW.eq_1, listW.eq_2, min2W.eq_1, max2W.eq_1, strW.eq_1, strW.eq_2, joinW.eq_1, joinW.eq_2, walkLW.eq_1, walkTW.eq_1, walkSW.eq_1, range1W.eq_1, zipW.eq_1, zipW.eq_2, tupG.eq_1, gsW.eq_1, gsW.eq_2, par2.eq_1, extW.eq_1, extW.eq_2, partW.eq_1, optW.eq_1, optW.eq_2, modW, fdivW, powW, ltW, leW, gtW, geW, isNone, isi_non, isi_bl, isi_int, isi_str, isi_tup, isi_lst, upperW, putW, appW, tupW, lstW, asB_bl, String.reduceBEq, beq_self_eq_true, Bool.or_true, Bool.true_or, Bool.or_false, Bool.false_or, Bool.and_true, Bool.true_and, Bool.and_false, Bool.false_and, Bool.not_true, Bool.not_false, forall_const, true_implies, true_and, and_true, false_implies, reduceCtorEq, List.length_cons, List.length_nil, forall_eq, imp_self, implies_true, if_true, if_false, Bool.false_eq_true, Bool.true_eq_false]
    exact ⟨small (by decide), small (by decide), rfl⟩
  rw [lessD_map]
  simp only [bDue_6, W.bind_wp, W.ret_wp, W.want_wp, W.any_wp, s_ite, s_get0, s_get, s_then, s_end, s_run, s_calm, s_fail, s_start1, s_start2, s_start3, s_start4, s_start5, List.replicate, List.set_cons_zero, List.set_cons_succ, asB_bl, asS_str, Nat.reduceSub, Nat.reduceAdd, addW.eq_1, addW.eq_2, addW.eq_3, addW.eq_4, addW.eq_5, subW.eq_1, subW.eq_2, mulW.eq_1, mulW.eq_2, mulW.eq_3, intOp.eq_1, negW.eq_1, ordW.eq_1, ordW.eq_2, isW.eq_1, isntW.eq_1, ixW.eq_1, ixW.eq_2, ixW.eq_3, slW.eq_1, slW.eq_2, slW.eq_3, revTW.eq_1, revLW.eq_1, lenW.eq_1, lenW.eq_2, lenW.eq_3, tupleW.eq_1, tupleW.eq_2, listW.eq_1, listW.eq_2, min2W.eq_1, max2W.eq_1, strW.eq_1, strW.eq_2, joinW.eq_1, joinW.eq_2, walkLW.eq_1, walkTW.eq_1, walkSW.eq_1, range1W.eq_1, zipW.eq_1, zipW.eq_2, tupG.eq_1, gsW.eq_1, gsW.eq_2, par2.eq_1, extW.eq_1, extW.eq_2, partW.eq_1, optW.eq_1, optW.eq_2, modW, fdivW, powW, ltW, leW, gtW, geW, isNone, isi_non, isi_bl, isi_int, isi_str, isi_tup, isi_lst, upperW, putW, appW, tupW, lstW, asB_bl, String.reduceBEq, beq_self_eq_true, Bool.or_true, Bool.true_or, Bool.or_false, Bool.false_or, Bool.and_true, Bool.true_and, Bool.and_false, Bool.false_and, Bool.not_true, Bool.not_false, forall_const, true_implies, true_and, and_true, false_implies, reduceCtorEq, List.length_cons, List.length_nil, forall_eq, imp_self, implies_true, if_true, if_false, Bool.false_eq_true, Bool.true_eq_false]
  refine Ret.go (lc_ret (ds := (M.map (lessN L)).map rowT) posD (fun d => d) (fun Q E q => q) (by rw [List.length_map, List.length_map]; exact small (by omega)) fun d hd => ?_) ?_
  · obtain ⟨r, hr, rfl⟩ := List.mem_map.mp hd
    simp only [wipeE, rowT, W.bind_wp, W.ret_wp, W.want_wp, W.any_wp, s_ite, s_get0, s_get, s_then, s_end, s_run, s_calm, s_fail, s_start1, s_start2, s_start3, s_start4, s_start5, List.replicate, List.set_cons_zero, List.set_cons_succ, asB_bl, asS_str, Nat.reduceSub, Nat.reduceAdd, addW.eq_1, addW.eq_2, addW.eq_3, addW.eq_4, addW.eq_5, subW.eq_1, subW.eq_2, mulW.eq_1, mulW.eq_2, mulW.eq_3, intOp.eq_1, negW.eq_1, ordW.eq_1, ordW.eq_2, isW.eq_1, isntW.eq_1, ixW.eq_1, ixW.eq_2, ixW.eq_3, slW.eq_1, slW.eq_2, slW.eq_3, revTW.eq_1, revLW.eq_1, lenW.eq_1, lenW.eq_2, lenW.eq_3, tupleW.eq_1, tupleW.eq_2, listW.eq_1, listW.eq_2, min2W.eq_1, max2W.eq_1, strW.eq_1, strW.eq_2, joinW.eq_1, joinW.eq_2, walkLW.eq_1, walkTW.eq_1, walkSW.eq_1, range1W.eq_1, zipW.eq_1, zipW.eq_2, tupG.eq_1, gsW.eq_1, gsW.eq_2, par2.eq_1, extW.eq_1, extW.eq_2, partW.eq_1, optW.eq_1, optW.eq_2, modW, fdivW, powW, ltW, leW, gtW, geW, isNone, isi_non, isi_bl, isi_int, isi_str, isi_tup, isi_lst, upperW, putW, appW, tupW, lstW, asB_bl, String.reduceBEq, beq_self_eq_true, Bool.or_true, Bool.true_or, Bool.or_false, Bool.false_or, Bool.and_true, Bool.true_and, Bool.and_false, Bool.false_and, Bool.not_true, Bool.not_false, forall_const, true_implies, true_and, and_true, false_implies, reduceCtorEq, List.length_cons, List.length_nil, forall_eq, imp_self, implies_true, if_true, if_false, Bool.false_eq_true, Bool.true_eq_false]
    rfl
  rw [pos_map, above_filter]
  have eT : (D.tup ((aboveR M L).map rowT)) = rowsT (aboveR M L) := rfl
  simp only [eT, bDue_5, eqW_int, W.bind_wp, W.ret_wp, W.want_wp, W.any_wp, s_ite, s_get0, s_get, s_then, s_end, s_run, s_calm, s_fail, s_start1, s_start2, s_start3, s_start4, s_start5, List.replicate, List.set_cons_zero, List.set_cons_succ, asB_bl, asS_str, Nat.reduceSub, Nat.reduceAdd, addW.eq_1, addW.eq_2, addW.eq_3, addW.eq_4, addW.eq_5, subW.eq_1, subW.eq_2, mulW.eq_1, mulW.eq_2, mulW.eq_3, intOp.eq_1, negW.eq_1, ordW.eq_1, ordW.eq_2, isW.eq_1, isntW.eq_1, ixW.eq_1, ixW.eq_2, ixW.eq_3, slW.eq_1, slW.eq_2, slW.eq_3, revTW.eq_1, revLW.eq_1, lenW.eq_1, lenW.eq_2, lenW.eq_3, tupleW.eq_1, tupleW.eq_2, listW.eq_1, listW.eq_2, min2W.eq_1, max2W.eq_1, strW.eq_1, strW.eq_2, joinW.eq_1, joinW.eq_2, walkLW.eq_1, walkTW.eq_1, walkSW.eq_1, range1W.eq_1, zipW.eq_1, zipW.eq_2, tupG.eq_1, gsW.eq_1, gsW.eq_2, par2.eq_1, extW.eq_1, extW.eq_2, partW.eq_1, optW.eq_1, optW.eq_2, modW, fdivW, powW, ltW, leW, gtW, geW, isNone, isi_non, isi_bl, isi_int, isi_str, isi_tup, isi_lst, upperW, putW, appW, tupW, lstW, asB_bl, String.reduceBEq, beq_self_eq_true, Bool.or_true, Bool.true_or, Bool.or_false, Bool.false_or, Bool.and_true, Bool.true_and, Bool.and_false, Bool.false_and, Bool.not_true, Bool.not_false, forall_const, true_implies, true_and, and_true, false_implies, reduceCtorEq, List.length_cons, List.length_nil, forall_eq, imp_self, implies_true, if_true, if_false, Bool.false_eq_true, Bool.true_eq_false]
  refine ⟨fun e => ?_, fun e => ?_⟩
  · have e : m = 0 := by simpa using e
    rw [deedR, if_pos e] at q
    rw [addW_rows (by omega)]
    exact (summed_ret _ (by rw [List.length_append]; omega)).go q
  have n0 : m ≠ 0 := by simpa using e
  rw [deedR, if_neg n0] at q
  simp only [bDue_4, eqW_int, ← nil_T, neW_rows, W.bind_wp, W.ret_wp, W.want_wp, W.any_wp, s_ite, s_get0, s_get, s_then, s_end, s_run, s_calm, s_fail, s_start1, s_start2, s_start3, s_start4, s_start5, List.replicate, List.set_cons_zero, List.set_cons_succ, asB_bl, asS_str, Nat.reduceSub, Nat.reduceAdd, addW.eq_1, addW.eq_2, addW.eq_3, addW.eq_4, addW.eq_5, subW.eq_1, subW.eq_2, mulW.eq_1, mulW.eq_2, mulW.eq_3, intOp.eq_1, negW.eq_1, ordW.eq_1, ordW.eq_2, isW.eq_1, isntW.eq_1, ixW.eq_1, ixW.eq_2, ixW.eq_3, slW.eq_1, slW.eq_2, slW.eq_3, revTW.eq_1, revLW.eq_1, lenW.eq_1, lenW.eq_2, lenW.eq_3, tupleW.eq_1, tupleW.eq_2, listW.eq_1, listW.eq_2, min2W.eq_1, max2W.eq_1, strW.eq_1, strW.eq_2, joinW.eq_1, joinW.eq_2, walkLW.eq_1, walkTW.eq_1, walkSW.eq_1, range1W.eq_1, zipW.eq_1, zipW.eq_2, tupG.eq_1, gsW.eq_1, gsW.eq_2, par2.eq_1, extW.eq_1, extW.eq_2, partW.eq_1, optW.eq_1, optW.eq_2, modW, fdivW, powW, ltW, leW, gtW, geW, isNone, isi_non, isi_bl, isi_int, isi_str, isi_tup, isi_lst, upperW, putW, appW, tupW, lstW, asB_bl, String.reduceBEq, beq_self_eq_true, Bool.or_true, Bool.true_or, Bool.or_false, Bool.false_or, Bool.and_true, Bool.true_and, Bool.and_false, Bool.false_and, Bool.not_true, Bool.not_false, forall_const, true_implies, true_and, and_true, false_implies, reduceCtorEq, List.length_cons, List.length_nil, forall_eq, imp_self, implies_true, if_true, if_false, Bool.false_eq_true, Bool.true_eq_false]
  refine ⟨fun e => ?_, fun e => ?_⟩
  · have e : m = 1 := by simpa using e
    rw [if_pos e] at q
    refine ⟨small (by decide), fun z => ?_, fun z => ?_⟩
    · have z : aboveR M L ≠ [] := by simpa using z
      rw [if_neg z] at q
      exact q
    · have z : aboveR M L = [] := by simpa using z
      rw [if_pos z] at q
      refine Ret.go (lc_ret (ds := (L.map (lessN M)).map rowT) posD (fun d => d) (fun Q E q => q) (by rw [List.length_map, List.length_map]; exact small (by omega)) fun d hd => ?_) ?_
      · obtain ⟨r, hr, rfl⟩ := List.mem_map.mp hd
        simp only [wipeE, rowT, W.bind_wp, W.ret_wp, W.want_wp, W.any_wp, s_ite, s_get0, s_get, s_then, s_end, s_run, s_calm, s_fail, s_start1, s_start2, s_start3, s_start4, s_start5, List.replicate, List.set_cons_zero, List.set_cons_succ, asB_bl, asS_str, Nat.reduceSub, Nat.reduceAdd, addW.eq_1, addW.eq_2, addW.eq_3, addW.eq_4, addW.eq_5, subW.eq_1, subW.eq_2, mulW.eq_1, mulW.eq_2, mulW.eq_3, intOp.eq_1, negW.eq_1, ordW.eq_1, ordW.eq_2, isW.eq_1, isntW.eq_1, ixW.eq_1, ixW.eq_2, ixW.eq_3, slW.eq_1, slW.eq_2, slW.eq_3, revTW.eq_1, revLW.eq_1, lenW.eq_1, lenW.eq_2, lenW.eq_3, tupleW.eq_1, tupleW.eq_2, listW.eq_1, listW.eq_2, min2W.eq_1, max2W.eq_1, strW.eq_1, strW.eq_2, joinW.eq_1, joinW.eq_2, walkLW.eq_1, walkTW.eq_1, walkSW.eq_1, range1W.eq_1, zipW.eq_1, zipW.eq_2, tupG.eq_1, gsW.eq_1, gsW.eq_2, par2.eq_1, extW.eq_1, extW.eq_2, partW.eq_1, optW.eq_1, optW.eq_2, modW, fdivW, powW, ltW, leW, gtW, geW, isNone, isi_non, isi_bl, isi_int, isi_str, isi_tup, isi_lst, upperW, putW, appW, tupW, lstW, asB_bl, String.reduceBEq, beq_self_eq_true, Bool.or_true, Bool.true_or, Bool.or_false, Bool.false_or, Bool.and_true, Bool.true_and, Bool.and_false, Bool.false_and, Bool.not_true, Bool.not_false, forall_const, true_implies, true_and, and_true, false_implies, reduceCtorEq, List.length_cons, List.length_nil, forall_eq, imp_self, implies_true, if_true, if_false, Bool.false_eq_true, Bool.true_eq_false]
        rfl
      rw [pos_map, above_filter]
      exact q
  have n1 : m ≠ 1 := by simpa using e
  rw [if_neg n1] at q
  simp only [bDue_3, eqW_int, W.bind_wp, W.ret_wp, W.want_wp, W.any_wp, s_ite, s_get0, s_get, s_then, s_end, s_run, s_calm, s_fail, s_start1, s_start2, s_start3, s_start4, s_start5, List.replicate, List.set_cons_zero, List.set_cons_succ, asB_bl, asS_str, Nat.reduceSub, Nat.reduceAdd, addW.eq_1, addW.eq_2, addW.eq_3, addW.eq_4, addW.eq_5, subW.eq_1, subW.eq_2, mulW.eq_1, mulW.eq_2, mulW.eq_3, intOp.eq_1, negW.eq_1, ordW.eq_1, ordW.eq_2, isW.eq_1, isntW.eq_1, ixW.eq_1, ixW.eq_2, ixW.eq_3, slW.eq_1, slW.eq_2, slW.eq_3, revTW.eq_1, revLW.eq_1, lenW.eq_1, lenW.eq_2, lenW.eq_3, tupleW.eq_1, tupleW.eq_2, listW.eq_1, listW.eq_2, min2W.eq_1, max2W.eq_1, strW.eq_1, strW.eq_2, joinW.eq_1, joinW.eq_2, walkLW.eq_1, walkTW.eq_1, walkSW.eq_1, range1W.eq_1, zipW.eq_1, zipW.eq_2, tupG.eq_1, gsW.eq_1, gsW.eq_2, par2.eq_1, extW.eq_1, extW.eq_2, partW.eq_1, optW.eq_1, optW.eq_2, modW, fdivW, powW, ltW, leW, gtW, geW, isNone, isi_non, isi_bl, isi_int, isi_str, isi_tup, isi_lst, upperW, putW, appW, tupW, lstW, asB_bl, String.reduceBEq, beq_self_eq_true, Bool.or_true, Bool.true_or, Bool.or_false, Bool.false_or, Bool.and_true, Bool.true_and, Bool.and_false, Bool.false_and, Bool.not_true, Bool.not_false, forall_const, true_implies, true_and, and_true, false_implies, reduceCtorEq, List.length_cons, List.length_nil, forall_eq, imp_self, implies_true, if_true, if_false, Bool.false_eq_true, Bool.true_eq_false]
  refine ⟨fun e => ?_, fun e => ?_⟩
  · have e : m = 2 := by simpa using e
    rw [if_pos e] at q
    rw [sl1_rows]
    simp only [W.ret_wp]
    have lt := List.length_take_le 1 M
    rw [addW_rows (by omega)]
    exact (summed_ret _ (by rw [List.length_append]; omega)).go q
  have n2 : m ≠ 2 := by simpa using e
  rw [if_neg n2] at q
  simp only [bDue_2, eqW_int, ← nil_T, eqW_rows, W.bind_wp, W.ret_wp, W.want_wp, W.any_wp, s_ite, s_get0, s_get, s_then, s_end, s_run, s_calm, s_fail, s_start1, s_start2, s_start3, s_start4, s_start5, List.replicate, List.set_cons_zero, List.set_cons_succ, asB_bl, asS_str, Nat.reduceSub, Nat.reduceAdd, addW.eq_1, addW.eq_2, addW.eq_3, addW.eq_4, addW.eq_5, subW.eq_1, subW.eq_2, mulW.eq_1, mulW.eq_2, mulW.eq_3, intOp.eq_1, negW.eq_1, ordW.eq_1, ordW.eq_2, isW.eq_1, isntW.eq_1, ixW.eq_1, ixW.eq_2, ixW.eq_3, slW.eq_1, slW.eq_2, slW.eq_3, revTW.eq_1, revLW.eq_1, lenW.eq_1, lenW.eq_2, lenW.eq_3, tupleW.eq_1, tupleW.eq_2, listW.eq_1, listW.eq_2, min2W.eq_1, max2W.eq_1, strW.eq_1, strW.eq_2, joinW.eq_1, joinW.eq_2, walkLW.eq_1, walkTW.eq_1, walkSW.eq_1, range1W.eq_1, zipW.eq_1, zipW.eq_2, tupG.eq_1, gsW.eq_1, gsW.eq_2, par2.eq_1, extW.eq_1, extW.eq_2, partW.eq_1, optW.eq_1, optW.eq_2, modW, fdivW, powW, ltW, leW, gtW, geW, isNone, isi_non, isi_bl, isi_int, isi_str, isi_tup, isi_lst, upperW, putW, appW, tupW, lstW, asB_bl, String.reduceBEq, beq_self_eq_true, Bool.or_true, Bool.true_or, Bool.or_false, Bool.false_or, Bool.and_true, Bool.true_and, Bool.and_false, Bool.false_and, Bool.not_true, Bool.not_false, forall_const, true_implies, true_and, and_true, false_implies, reduceCtorEq, List.length_cons, List.length_nil, forall_eq, imp_self, implies_true, if_true, if_false, Bool.false_eq_true, Bool.true_eq_false]
  refine ⟨fun e => ?_, fun e => ?_⟩
  · have e : m = 3 := by simpa using e
    rw [if_pos e] at q
    refine ⟨small (by decide), fun z => ?_, fun z => ?_⟩
    · rw [if_pos (of_decide_eq_true z)] at q
      rw [addW_rows (by omega)]
      exact (summed_ret _ (by rw [List.length_append]; omega)).go q
    · rw [if_neg (of_decide_eq_false z)] at q
      refine ⟨small (by decide), small (by decide), ?_⟩
      rw [show (D.tup [.tup [.str f, .str (Str.ofString "zz"), .int 1]]) = rowsT [(f, Str.ofString "zz", 1)] from rfl, addW_rows (by show _ + 1 ≤ _; omega)]
      exact (summed_ret _ (by rw [List.length_append]; show _ + 1 ≤ _; omega)).go q
  have n3 : m ≠ 3 := by simpa using e
  rw [if_neg n3] at q
  simp only [bDue_1, eqW_int, eqW_rows, W.bind_wp, W.ret_wp, W.want_wp, W.any_wp, s_ite, s_get0, s_get, s_then, s_end, s_run, s_calm, s_fail, s_start1, s_start2, s_start3, s_start4, s_start5, List.replicate, List.set_cons_zero, List.set_cons_succ, asB_bl, asS_str, Nat.reduceSub, Nat.reduceAdd, addW.eq_1, addW.eq_2, addW.eq_3, addW.eq_4, addW.eq_5, subW.eq_1, subW.eq_2, mulW.eq_1, mulW.eq_2, mulW.eq_3, intOp.eq_1, negW.eq_1, ordW.eq_1, ordW.eq_2, isW.eq_1, isntW.eq_1, ixW.eq_1, ixW.eq_2, ixW.eq_3, slW.eq_1, slW.eq_2, slW.eq_3, revTW.eq_1, revLW.eq_1, lenW.eq_1, lenW.eq_2, lenW.eq_3, tupleW.eq_1, tupleW.eq_2, listW.eq_1, listW.eq_2, min2W.eq_1, max2W.eq_1, strW.eq_1, strW.eq_2, joinW.eq_1, joinW.eq_2, walkLW.eq_1, walkTW.eq_1, walkSW.eq_1, range1W.eq_1, zipW.eq_1, zipW.eq_2, tupG.eq_1, gsW.eq_1, gsW.eq_2, par2.eq_1, extW.eq_1, extW.eq_2, partW.eq_1, optW.eq_1, optW.eq_2, modW, fdivW, powW, ltW, leW, gtW, geW, isNone, isi_non, isi_bl, isi_int, isi_str, isi_tup, isi_lst, upperW, putW, appW, tupW, lstW, asB_bl, String.reduceBEq, beq_self_eq_true, Bool.or_true, Bool.true_or, Bool.or_false, Bool.false_or, Bool.and_true, Bool.true_and, Bool.and_false, Bool.false_and, Bool.not_true, Bool.not_false, forall_const, true_implies, true_and, and_true, false_implies, reduceCtorEq, List.length_cons, List.length_nil, forall_eq, imp_self, implies_true, if_true, if_false, Bool.false_eq_true, Bool.true_eq_false]
  refine ⟨fun e => ?_, fun e => ?_⟩
  · have e : m = 4 := by simpa using e
    rw [if_pos e] at q
    refine ⟨fun z => ?_, fun z => ?_⟩
    · rw [if_pos (.inl (of_decide_eq_true z))] at q
      exact q
    refine (shown_ret hL.ok (by omega) hb).go ?_
    simp only [W.bind_wp, W.ret_wp, W.want_wp, W.any_wp, s_ite, s_get0, s_get, s_then, s_end, s_run, s_calm, s_fail, s_start1, s_start2, s_start3, s_start4, s_start5, List.replicate, List.set_cons_zero, List.set_cons_succ, asB_bl, asS_str, Nat.reduceSub, Nat.reduceAdd, addW.eq_1, addW.eq_2, addW.eq_3, addW.eq_4, addW.eq_5, subW.eq_1, subW.eq_2, mulW.eq_1, mulW.eq_2, mulW.eq_3, intOp.eq_1, negW.eq_1, ordW.eq_1, ordW.eq_2, isW.eq_1, isntW.eq_1, ixW.eq_1, ixW.eq_2, ixW.eq_3, slW.eq_1, slW.eq_2, slW.eq_3, revTW.eq_1, revLW.eq_1, lenW.eq_1, lenW.eq_2, lenW.eq_3, tupleW.eq_1, tupleW.eq_2, listW.eq_1, listW.eq_2, min2W.eq_1, max2W.eq_1, strW.eq_1, strW.eq_2, joinW.eq_1, joinW.eq_2, walkLW.eq_1, walkTW.eq_1, walkSW.eq_1, range1W.eq_1, zipW.eq_1, zipW.eq_2, tupG.eq_1, gsW.eq_1, gsW.eq_2, par2.eq_1, extW.eq_1, extW.eq_2, partW.eq_1, optW.eq_1, optW.eq_2, modW, fdivW, powW, ltW, leW, gtW, geW, isNone, isi_non, isi_bl, isi_int, isi_str, isi_tup, isi_lst, upperW, putW, appW, tupW, lstW, asB_bl, String.reduceBEq, beq_self_eq_true, Bool.or_true, Bool.true_or, Bool.or_false, Bool.false_or, Bool.and_true, Bool.true_and, Bool.and_false, Bool.false_and, Bool.not_true, Bool.not_false, forall_const, true_implies, true_and, and_true, false_implies, reduceCtorEq, List.length_cons, List.length_nil, forall_eq, imp_self, implies_true, if_true, if_false, Bool.false_eq_true, Bool.true_eq_false]
    refine ⟨shown_len hL.ok (by omega) hb, (shown_ret hM.ok (by omega) hb).go ?_⟩
    simp only [W.bind_wp, W.ret_wp, W.want_wp, W.any_wp, s_ite, s_get0, s_get, s_then, s_end, s_run, s_calm, s_fail, s_start1, s_start2, s_start3, s_start4, s_start5, List.replicate, List.set_cons_zero, List.set_cons_succ, asB_bl, asS_str, Nat.reduceSub, Nat.reduceAdd, addW.eq_1, addW.eq_2, addW.eq_3, addW.eq_4, addW.eq_5, subW.eq_1, subW.eq_2, mulW.eq_1, mulW.eq_2, mulW.eq_3, intOp.eq_1, negW.eq_1, ordW.eq_1, ordW.eq_2, isW.eq_1, isntW.eq_1, ixW.eq_1, ixW.eq_2, ixW.eq_3, slW.eq_1, slW.eq_2, slW.eq_3, revTW.eq_1, revLW.eq_1, lenW.eq_1, lenW.eq_2, lenW.eq_3, tupleW.eq_1, tupleW.eq_2, listW.eq_1, listW.eq_2, min2W.eq_1, max2W.eq_1, strW.eq_1, strW.eq_2, joinW.eq_1, joinW.eq_2, walkLW.eq_1, walkTW.eq_1, walkSW.eq_1, range1W.eq_1, zipW.eq_1, zipW.eq_2, tupG.eq_1, gsW.eq_1, gsW.eq_2, par2.eq_1, extW.eq_1, extW.eq_2, partW.eq_1, optW.eq_1, optW.eq_2, modW, fdivW, powW, ltW, leW, gtW, geW, isNone, isi_non, isi_bl, isi_int, isi_str, isi_tup, isi_lst, upperW, putW, appW, tupW, lstW, asB_bl, String.reduceBEq, beq_self_eq_true, Bool.or_true, Bool.true_or, Bool.or_false, Bool.false_or, Bool.and_true, Bool.true_and, Bool.and_false, Bool.false_and, Bool.not_true, Bool.not_false, forall_const, true_implies, true_and, and_true, false_implies, reduceCtorEq, List.length_cons, List.length_nil, forall_eq, imp_self, implies_true, if_true, if_false, Bool.false_eq_true, Bool.true_eq_false]
    refine ⟨shown_len hM.ok (by omega) hb, fun y => ?_, fun y => ?_⟩
    · have := of_decide_eq_true y
      rw [if_pos (.inr (by omega))] at q
      exact q
    · have := of_decide_eq_false y
      rw [if_neg (by
        rintro (z2 | z2)
        · exact of_decide_eq_false z z2
        · omega)] at q
      exact q
  have n4 : m ≠ 4 := by simpa using e
  rw [if_neg n4] at q
  refine Ret.go (lc_map (ds := L.map rowT) (fun d => match d with | .tup [a, _, _] => a | d => d) (fun Q E q => q) (by rw [List.length_map]; exact small (by omega)) fun d hd => ?_) ?_
  · obtain ⟨r, hr, rfl⟩ := List.mem_map.mp hd
    simp only [wipeE, W.bind_wp, W.ret_wp, W.want_wp, W.any_wp, s_ite, s_get0, s_get, s_then, s_end, s_run, s_calm, s_fail, s_start1, s_start2, s_start3, s_start4, s_start5, List.replicate, List.set_cons_zero, List.set_cons_succ, asB_bl, asS_str, Nat.reduceSub, Nat.reduceAdd, addW.eq_1, addW.eq_2, addW.eq_3, addW.eq_4, addW.eq_5, subW.eq_1, subW.eq_2, mulW.eq_1, mulW.eq_2, mulW.eq_3, intOp.eq_1, negW.eq_1, ordW.eq_1, ordW.eq_2, isW.eq_1, isntW.eq_1, ixW.eq_1, ixW.eq_2, ixW.eq_3, slW.eq_1, slW.eq_2, slW.eq_3, revTW.eq_1, revLW.eq_1, lenW.eq_1, lenW.eq_2, lenW.eq_3, tupleW.eq_1, tupleW.eq_2, listW.eq_1, listW.eq_2, min2W.eq_1, max2W.eq_1, strW.eq_1, strW.eq_2, joinW.eq_1, joinW.eq_2, walkLW.eq_1, walkTW.eq_1, walkSW.eq_1, range1W.eq_1, zipW.eq_1, zipW.eq_2, tupG.eq_1, gsW.eq_1, gsW.eq_2, par2.eq_1, extW.eq_1, extW.eq_2, partW.eq_1, optW.eq_1, optW.eq_2, modW, fdivW, powW, ltW, leW, gtW, geW, isNone, isi_non, isi_bl, isi_int, isi_str, isi_tup, isi_lst, upperW, putW, appW, tupW, lstW, asB_bl, String.reduceBEq, beq_self_eq_true, Bool.or_true, Bool.true_or, Bool.or_false, Bool.false_or, Bool.and_true, Bool.true_and, Bool.and_false, Bool.false_and, Bool.not_true, Bool.not_false, forall_const, true_implies, true_and, and_true, false_implies, reduceCtorEq, List.length_cons, List.length_nil, forall_eq, imp_self, implies_true, if_true, if_false, Bool.false_eq_true, Bool.true_eq_false]
    exact rfl
  have e1 : (L.map rowT).map (fun d => match d with | .tup [a, _, _] => a | d => d) = (L.map fun r => r.1).map D.str := by
    rw [List.map_map, List.map_map]
    rfl
  rw [e1]
  refine setW_strs _ (by rw [List.length_map]; omega) _ _ ?_
  have l3 := insAll_len (L.map fun r => r.1)
  rw [List.length_map] at l3
  simp only [lenSW, W.bind_wp, W.ret_wp, W.want_wp, W.any_wp, s_ite, s_get0, s_get, s_then, s_end, s_run, s_calm, s_fail, s_start1, s_start2, s_start3, s_start4, s_start5, List.replicate, List.set_cons_zero, List.set_cons_succ, asB_bl, asS_str, Nat.reduceSub, Nat.reduceAdd, addW.eq_1, addW.eq_2, addW.eq_3, addW.eq_4, addW.eq_5, subW.eq_1, subW.eq_2, mulW.eq_1, mulW.eq_2, mulW.eq_3, intOp.eq_1, negW.eq_1, ordW.eq_1, ordW.eq_2, isW.eq_1, isntW.eq_1, ixW.eq_1, ixW.eq_2, ixW.eq_3, slW.eq_1, slW.eq_2, slW.eq_3, revTW.eq_1, revLW.eq_1, lenW.eq_1, lenW.eq_2, lenW.eq_3, tupleW.eq_1, tupleW.eq_2, listW.eq_1, listW.eq_2, min2W.eq_1, max2W.eq_1, strW.eq_1, strW.eq_2, joinW.eq_1, joinW.eq_2, walkLW.eq_1, walkTW.eq_1, walkSW.eq_1, range1W.eq_1, zipW.eq_1, zipW.eq_2, tupG.eq_1, gsW.eq_1, gsW.eq_2, par2.eq_1, extW.eq_1, extW.eq_2, partW.eq_1, optW.eq_1, optW.eq_2, modW, fdivW, powW, ltW, leW, gtW, geW, isNone, isi_non, isi_bl, isi_int, isi_str, isi_tup, isi_lst, upperW, putW, appW, tupW, lstW, asB_bl, String.reduceBEq, beq_self_eq_true, Bool.or_true, Bool.true_or, Bool.or_false, Bool.false_or, Bool.and_true, Bool.true_and, Bool.and_false, Bool.false_and, Bool.not_true, Bool.not_false, forall_const, true_implies, true_and, and_true, false_implies, reduceCtorEq, List.length_cons, List.length_nil, forall_eq, imp_self, implies_true, if_true, if_false, Bool.false_eq_true, Bool.true_eq_false]
  refine ⟨by omega, ?_⟩
  rw [formsR_set, sl_rows]
  exact q
end LP.K17
namespace LP.K17
open PySem PySem.Spec PyProof.Rows L2 PK LP RZ
theorem len_of_sub {α : Type} [DecidableEq α] : ∀ {l m : List α}, l.Nodup → (∀ x ∈ l, x ∈ m) → l.length ≤ m.length
  | [], _, _, _ => Nat.zero_le _
  | x :: l, m, nd, h => by
    obtain ⟨n1, n2⟩ := List.nodup_cons.mp nd
    have hx := h x List.mem_cons_self
    have ih := len_of_sub (l := l) (m := m.erase x) n2 fun y hy => (List.mem_erase_of_ne fun e => n1 (by rw [← e]; exact hy)).mpr (h y (List.mem_cons_of_mem _ hy))
    rw [List.length_erase_of_mem hx] at ih
    have := List.length_pos_of_mem hx
    rw [List.length_cons]
    omega
theorem rises_nodup {L : List PRow} (h : Rises (L.map fun r => pkD (PK.pk r))) : (L.map PK.pk).Nodup := by
  unfold Rises at h
  rw [List.pairwise_map] at h
  unfold List.Nodup
  rw [List.pairwise_map]
  refine h.imp fun {a b} z e => ?_
  rw [e, dlt_irr] at z
  cases z
theorem sumR_many {L : List PRow} {r : PRow} (h : r ∈ sumR L) : r.2.2 = cnt L (PK.pk r) := by
  unfold sumR at h
  obtain ⟨k, _, rfl⟩ := List.mem_map.mp h
  rfl
/-- rows of these words, rising, to so many -/
structure Kn (fs ss : List Str) (b : Int) (L : List PRow) : Prop where
  up : Rises (L.map fun r => pkD (PK.pk r))
  each : ∀ r ∈ L, r.1 ∈ fs ∧ (r.2.1 ∈ ss ∨ r.2.1 = ("zz" : Str)) ∧ 1 ≤ r.2.2 ∧ r.2.2 ≤ b
section
variable {fs ss : List Str} {b : Int} {L M : List PRow}
theorem Kn.mono {c : Int} (h : Kn fs ss b L) (hc : b ≤ c) : Kn fs ss c L := ⟨h.up, fun r hr => by
  obtain ⟨h1, h2, h3, h4⟩ := h.each r hr
  exact ⟨h1, h2, h3, by omega⟩⟩
theorem Kn.len (h : Kn fs ss b L) : L.length ≤ fs.length * (ss.length + 1) := by
  have : (L.map PK.pk).length ≤ (fs.flatMap fun f => (ss ++ [("zz" : Str)]).map fun s => (f, s)).length := len_of_sub (rises_nodup h.up) fun k hk => by
    obtain ⟨r, hr, rfl⟩ := List.mem_map.mp hk
    obtain ⟨h1, h2, _⟩ := h.each r hr
    refine List.mem_flatMap.mpr ⟨r.1, h1, List.mem_map.mpr ⟨r.2.1, ?_, rfl⟩⟩
    rcases h2 with h2 | h2
    · exact List.mem_append_left _ h2
    · exact List.mem_append_right _ (by rw [h2]; exact List.mem_singleton.mpr rfl)
  rw [List.length_map] at this
  refine Nat.le_trans this ?_
  clear this h
  induction fs with
  | nil => exact Nat.zero_le _
  | cons f fs ih =>
    rw [List.flatMap_cons, List.length_append, List.length_map, List.length_append]
    have e : (f :: fs).length * (ss.length + 1) = fs.length * (ss.length + 1) + (ss.length + 1) := Nat.succ_mul _ _
    rw [e]
    show ss.length + 1 + _ ≤ _
    omega
theorem Kn.cnt (h : Kn fs ss b L) (hb : 0 ≤ b) (k : PKey) : 0 ≤ PK.cnt L k ∧ PK.cnt L k ≤ b := by
  by_cases z : k ∈ L.map PK.pk
  · obtain ⟨r, hr, rfl⟩ := List.mem_map.mp z
    have hr' := hr
    rw [← sumR_id h.up] at hr'
    rw [← sumR_many hr']
    obtain ⟨_, _, h3, h4⟩ := h.each r hr
    exact ⟨by omega, h4⟩
  · rw [cnt_none z]
    exact ⟨Int.le_refl 0, hb⟩
theorem Kn.sum2 (h : Kn fs ss b L) (h2 : Kn fs ss b M) (hb : 0 ≤ b) : Kn fs ss (2 * b) (sumR (L ++ M)) := ⟨sumR_rises _, fun r hr => by
  have hm := sumR_many hr
  rw [cnt_app] at hm
  obtain ⟨q, hq, e⟩ := sumR_keyIn hr
  have e1 : r.1 = q.1 := congrArg (fun k : PKey => k.1) e
  have e2 : r.2.1 = q.2.1 := congrArg (fun k : PKey => k.2) e
  have c1 := h.cnt hb (PK.pk r)
  have c2 := h2.cnt hb (PK.pk r)
  have pos : ∀ {N : List PRow}, Kn fs ss b N → q ∈ N → 1 ≤ PK.cnt N (PK.pk r) := fun {N} hN hq => by
    have hq' := hq
    rw [← sumR_id hN.up] at hq'
    rw [e, ← sumR_many hq']
    exact (hN.each q hq).2.2.1
  rw [e1, e2]
  rcases List.mem_append.mp hq with hq | hq
  · have := pos h hq
    exact ⟨(h.each q hq).1, (h.each q hq).2.1, by omega, by omega⟩
  · have := pos h2 hq
    exact ⟨(h2.each q hq).1, (h2.each q hq).2.1, by omega, by omega⟩⟩
theorem Kn.above (h : Kn fs ss b L) (h2 : Kn fs ss b M) (hb : 0 ≤ b) : Kn fs ss b (aboveR L M) := ⟨rises_above h.up, fun r hr => by
  obtain ⟨q, hq, e, e3, p⟩ := aboveR_mem hr
  have e1 : r.1 = q.1 := congrArg (fun k : PKey => k.1) e
  have e2 : r.2.1 = q.2.1 := congrArg (fun k : PKey => k.2) e
  have c2 := h2.cnt hb (PK.pk q)
  obtain ⟨a1, a2, a3, a4⟩ := h.each q hq
  rw [e1, e2]
  exact ⟨a1, a2, by omega, by omega⟩⟩
theorem Kn.take (h : Kn fs ss b L) (n : Nat) : Kn fs ss b (L.take n) := ⟨up_take h.up n, fun r hr => h.each r (List.mem_of_mem_take hr)⟩
theorem Kn.deed {m : Int} {f : Str} (h : Kn fs ss b L) (h2 : Kn fs ss b M) (hb : 1 ≤ b) (hf : f ∈ fs) : Kn fs ss (2 * b) (deedR L M m f) := by
  unfold deedR
  split
  · exact h.sum2 h2 (by omega)
  split
  · split
    · exact (h.above h2 (by omega)).mono (by omega)
    · exact (h2.above h (by omega)).mono (by omega)
  split
  · exact h.sum2 (h2.take 1) (by omega)
  split
  · split
    · exact h.sum2 h (by omega)
    · exact h.sum2 ⟨List.pairwise_singleton _ _, fun r hr => by
        rw [List.mem_singleton.mp hr]
        exact ⟨hf, .inr rfl, Int.le_refl 1, hb⟩⟩ (by omega)
  split
  · split
    · exact h.mono (by omega)
    · exact h2.mono (by omega)
  · exact (h.take _).mono (by omega)
theorem word_zz : Word ("zz" : Str) := ⟨by decide +kernel, by decide +kernel, fun c hc => by
  rw [show (Str.ofString "zz").cps.toList = [122, 122] by decide +kernel] at hc
  have : c = 122 := by simpa using hc
  subst this
  unfold Lw
  omega⟩
theorem Kn.good (h : Kn fs ss b L) (fw : ∀ y ∈ fs, Word y) (sw : ∀ y ∈ ss, Word y) (f4 : fs.length ≤ 4) (s4 : ss.length ≤ 4) : Good 20 b L := ⟨⟨by
  have := h.len
  have e : fs.length * (ss.length + 1) ≤ 4 * 5 := Nat.mul_le_mul f4 (by omega)
  omega, fun r hr => by
  obtain ⟨h1, h2, h3, h4⟩ := h.each r hr
  refine ⟨fw _ h1, ?_, h3, h4⟩
  rcases h2 with h2 | h2
  · exact sw _ h2
  · rw [h2]
    exact word_zz⟩, h.up⟩
theorem cnt_of_each {c : Int} {k : PKey} : ∀ {L : List PRow}, (∀ r ∈ L, 1 ≤ r.2.2 ∧ r.2.2 ≤ c) → 0 ≤ c → 0 ≤ PK.cnt L k ∧ PK.cnt L k ≤ L.length * c ∧ (k ∈ L.map PK.pk → 1 ≤ PK.cnt L k)
  | [], _, _ => ⟨Int.le_refl 0, by simp [PK.cnt], fun h => (nomatch h)⟩
  | r :: L, h, hc => by
    obtain ⟨i1, i2, i3⟩ := cnt_of_each (L := L) (k := k) (fun q hq => h q (List.mem_cons_of_mem _ hq)) hc
    obtain ⟨a1, a2⟩ := h r List.mem_cons_self
    rw [PK.cnt_cons, List.length_cons]
    have e : ((L.length + 1 : Nat) : Int) * c = L.length * c + c := by
      rw [Int.natCast_add, Int.add_mul]
      simp
    rw [e]
    split
    · exact ⟨by omega, by omega, fun _ => by omega⟩
    · rename_i ne
      refine ⟨by omega, by omega, fun hk => ?_⟩
      rcases List.mem_cons.mp hk with z | z
      · exact absurd z.symm ne
      · have := i3 z
        omega
theorem Kn.start (h : LR fs ss 8 L) : Kn fs ss 8000000000 (sumR L) := ⟨sumR_rises _, fun r hr => by
  have hm := sumR_many hr
  obtain ⟨q, hq, e⟩ := sumR_keyIn hr
  have e1 : r.1 = q.1 := congrArg (fun k : PKey => k.1) e
  have e2 : r.2.1 = q.2.1 := congrArg (fun k : PKey => k.2) e
  obtain ⟨i1, i2, i3⟩ := cnt_of_each (c := 1000000000) (k := PK.pk r) (fun q hq => (h.each q hq).2.2) (by decide)
  have := i3 (by rw [e]; exact List.mem_map.mpr ⟨q, hq, rfl⟩)
  have hl := h.len
  obtain ⟨a1, a2, _⟩ := h.each q hq
  rw [e1, e2]
  exact ⟨a1, .inl a2, by omega, by omega⟩⟩
end
end LP.K17
namespace LP.K17
open PySem PySem.Spec PyProof.Rows L2 PK LP RZ
theorem row_sz {b : Int} {r : PRow} (h : PRowOk b r) (hb : b ≤ 10 ^ 30) : Sz 200 1 400 (rowT r) := by
  have l := h.lo
  have u := h.hi
  have h1 : r.2.2.natAbs < 2 ^ 200 := by
    have e : ((r.2.2.natAbs : Nat) : Int) = r.2.2 := Int.natAbs_of_nonneg (by omega)
    have k : (10 : Int) ^ 30 < ((2 ^ 200 : Nat) : Int) := by decide
    have : ((r.2.2.natAbs : Nat) : Int) < ((2 ^ 200 : Nat) : Int) := by
      rw [e]
      omega
    exact Int.ofNat_lt.mp this
  have h2 : r.2.2.natAbs.log2 < 200 := (Nat.log2_lt (by omega)).mpr h1
  have f8 := h.f.eight
  have s8 := h.s.eight
  have h3 : Sz 200 0 82 (.str r.1) := Sz.str (by omega)
  have h4 : Sz 200 0 82 (.str r.2.1) := Sz.str (by omega)
  have h5 : Sz 200 0 202 (.int r.2.2) := Sz.int (by omega) (by omega)
  have : Szs 200 0 _ [D.str r.1, .str r.2.1, .int r.2.2] := Szs.cons h3 (Szs.cons h4 (Szs.cons h5 (Szs.nil (n := 0))))
  exact (Sz.tup this).mono (Nat.le_refl _) (Nat.le_refl _) (by omega)
theorem rows_sz {n : Nat} {b : Int} {L : List PRow} (h : RowsOk n b L) (hb : b ≤ 10 ^ 30) (hn : n ≤ 900) : Sz 200 2 400000 (rowsT L) := by
  have : Szs 200 1 ((L.map rowT).length * 402) (L.map rowT) := Szs.each fun d hd => by
    obtain ⟨r, hr, rfl⟩ := List.mem_map.mp hd
    exact row_sz (h.each r hr) hb
  have hl := h.len
  rw [List.length_map] at this
  exact (Sz.tup this).mono (Nat.le_refl _) (Nat.le_refl _) (by omega)
theorem repr_rows {n : Nat} {b : Int} {L : List PRow} (h : RowsOk n b L) (hb : b ≤ 10 ^ 30) (hn : n ≤ 900) : reprD [rowsT L] = W.ret (rp (rowsT L)) :=
  reprD_eq ((rows_sz h hb hn).mono (by decide) (by decide) (small (by decide)))
def formIs (f : Str) : D → Bool
  | .tup [.str g, _, _] => g == f
  | _ => false
theorem sum_sel (L : List PRow) (f : Str) : ((L.map rowT).filter (formIs f)).map rowIx = (selL L f none).map D.int := by
  unfold selL
  induction L with
  | nil => rfl
  | cons r L ih =>
    rw [List.map_cons, List.filter_cons, List.filter_cons]
    by_cases e : r.1 = f
    · rw [if_pos (show formIs f (rowT r) = true from beq_iff_eq.mpr e), if_pos (show sel f none r = true by unfold sel; rw [decide_eq_true e]; rfl), List.map_cons, List.map_cons, List.map_cons, ih]
      rfl
    · rw [if_neg (show ¬ formIs f (rowT r) = true from fun z => e (beq_iff_eq.mp z)), if_neg (show ¬ sel f none r = true by unfold sel; rw [decide_eq_false e]; exact Bool.noConfusion), ih]
theorem sumW_sel (L : List PRow) (f : Str) : sumW [.lst ((selL L f none).map D.int)] = W.ret (.int (manyR L f none)) := by
  show (optW (isOf ((selL L f none).map D.int))).bind _ = _
  rw [isOf_map, optW_some, W.ret_bind]
  rfl
section
variable {fs ss : List Str} {E : Ex → Prop} {e0 e4 e5 e6 e8 e10 e11 e12 e14 e15 e16 : Option D}
/-- the looks behind each deed -/
theorem l4_wp {b : Int} {f : Str} {Gs : List (List PRow)} {Q : Fl → Prop} (hg : ∀ G ∈ Gs, Good 20 b G) (hb : b ≤ 10 ^ 30) (hn : Gs.length ≤ 1000)
    (q : ∀ y14 y15 y16, Q (.nx [e0, some (.tok 0), some (.lst (fs.map D.str)), some (.lst (ss.map D.str)), e4, e5, e6, some (.lst (Gs.map heapD)), e8, some (.lst (Gs.map rowsT)), e10, e11, e12, some (.str f), y14, y15, y16])) :
    (bLaw_4 [e0, some (.tok 0), some (.lst (fs.map D.str)), some (.lst (ss.map D.str)), e4, e5, e6, some (.lst (Gs.map heapD)), e8, some (.lst (Gs.map rowsT)), e10, e11, e12, some (.str f), e14, e15, e16]).wp Q E := by
  simp only [bLaw_4, List.length_map, W.bind_wp, W.ret_wp, W.want_wp, W.any_wp, s_ite, s_get0, s_get, s_then, s_end, s_run, s_calm, s_fail, s_start1, s_start2, s_start3, s_start4, s_start5, List.replicate, List.set_cons_zero, List.set_cons_succ, asB_bl, asS_str, Nat.reduceSub, Nat.reduceAdd, addW.eq_1, addW.eq_2, addW.eq_3, addW.eq_4, addW.eq_5, subW.eq_1, subW.eq_2, mulW.eq_1, mulW.eq_2, mulW.eq_3, intOp.eq_1, negW.eq_1, ordW.eq_1, ordW.eq_2, isW.eq_1, isntW.eq_1, ixW.eq_1, ixW.eq_2, ixW.eq_3, slW.eq_1, slW.eq_2, slW.eq_3, revTW.eq_1, revLW.eq_1, lenW.eq_1, lenW.eq_2, lenW.eq_3, tupleW.eq_1, tupleW.eq_2, listW.eq_1, listW.eq_2, min2W.eq_1, max2W.eq_1, strW.eq_1, strW.eq_2, joinW.eq_1, joinW.eq_2, walkLW.eq_1, walkTW.eq_1, walkSW.eq_1, range1W.eq_1, zipW.eq_1, zipW.eq_2, tupG.eq_1, gsW.eq_1, gsW.eq_2, par2.eq_1, extW.eq_1, extW.eq_2, partW.eq_1, optW.eq_1, optW.eq_2, modW, fdivW, powW, ltW, leW, gtW, geW, isNone, isi_non, isi_bl, isi_int, isi_str, isi_tup, isi_lst, upperW, putW, appW, tupW, lstW, asB_bl, String.reduceBEq, beq_self_eq_true, Bool.or_true, Bool.true_or, Bool.or_false, Bool.false_or, Bool.and_true, Bool.true_and, Bool.and_false, Bool.false_and, Bool.not_true, Bool.not_false, forall_const, true_implies, true_and, and_true, false_implies, reduceCtorEq, List.length_cons, List.length_nil, forall_eq, imp_self, implies_true, if_true, if_false, Bool.false_eq_true, Bool.true_eq_false]
  refine ⟨⟨by omega, by omega⟩, ?_⟩
  refine forW_wp0 (fun i env => ∃ y14 y15 y16, env = [e0, some (.tok 0), some (.lst (fs.map D.str)), some (.lst (ss.map D.str)), e4, e5, e6, some (.lst (Gs.map heapD)), e8, some (.lst (Gs.map rowsT)), e10, e11, e12, some (.str f), y14, y15, y16]) ⟨_, _, _, rfl⟩ (fun i d env hd hp => ?_) (fun env hp => ?_)
  · obtain ⟨y14, y15, y16, rfl⟩ := hp
    obtain ⟨hi, rfl⟩ := rangeAt hd
    have hi : i < Gs.length := by omega
    have ok := hg _ (List.getElem_mem hi)
    have len := ok.ok.len
    have a1 : atI (Gs.map heapD) (0 + (i : Int)) = some (heapD Gs[i]) := by rw [Int.zero_add]; exact atI_nat (by rw [List.getElem?_map, List.getElem?_eq_getElem hi]; rfl)
    have a2 : atI (Gs.map rowsT) (0 + (i : Int)) = some (rowsT Gs[i]) := by rw [Int.zero_add]; exact atI_nat (by rw [List.getElem?_map, List.getElem?_eq_getElem hi]; rfl)
    simp only [bLaw_3, a1, a2, objW_heap, W.bind_wp, W.ret_wp, W.want_wp, W.any_wp, s_ite, s_get0, s_get, s_then, s_end, s_run, s_calm, s_fail, s_start1, s_start2, s_start3, s_start4, s_start5, List.replicate, List.set_cons_zero, List.set_cons_succ, asB_bl, asS_str, Nat.reduceSub, Nat.reduceAdd, addW.eq_1, addW.eq_2, addW.eq_3, addW.eq_4, addW.eq_5, subW.eq_1, subW.eq_2, mulW.eq_1, mulW.eq_2, mulW.eq_3, intOp.eq_1, negW.eq_1, ordW.eq_1, ordW.eq_2, isW.eq_1, isntW.eq_1, ixW.eq_1, ixW.eq_2, ixW.eq_3, slW.eq_1, slW.eq_2, slW.eq_3, revTW.eq_1, revLW.eq_1, lenW.eq_1, lenW.eq_2, lenW.eq_3, tupleW.eq_1, tupleW.eq_2, listW.eq_1, listW.eq_2, min2W.eq_1, max2W.eq_1, strW.eq_1, strW.eq_2, joinW.eq_1, joinW.eq_2, walkLW.eq_1, walkTW.eq_1, walkSW.eq_1, range1W.eq_1, zipW.eq_1, zipW.eq_2, tupG.eq_1, gsW.eq_1, gsW.eq_2, par2.eq_1, extW.eq_1, extW.eq_2, partW.eq_1, optW.eq_1, optW.eq_2, modW, fdivW, powW, ltW, leW, gtW, geW, isNone, isi_non, isi_bl, isi_int, isi_str, isi_tup, isi_lst, upperW, putW, appW, tupW, lstW, asB_bl, String.reduceBEq, beq_self_eq_true, Bool.or_true, Bool.true_or, Bool.or_false, Bool.false_or, Bool.and_true, Bool.true_and, Bool.and_false, Bool.false_and, Bool.not_true, Bool.not_false, forall_const, true_implies, true_and, and_true, false_implies, reduceCtorEq, List.length_cons, List.length_nil, forall_eq, imp_self, implies_true, if_true, if_false, Bool.false_eq_true, Bool.true_eq_false]
    rw [rows_eq (by omega)]
    simp only [W.bind_wp, W.ret_wp, W.want_wp, W.any_wp, s_ite, s_get0, s_get, s_then, s_end, s_run, s_calm, s_fail, s_start1, s_start2, s_start3, s_start4, s_start5, List.replicate, List.set_cons_zero, List.set_cons_succ, asB_bl, asS_str, Nat.reduceSub, Nat.reduceAdd, addW.eq_1, addW.eq_2, addW.eq_3, addW.eq_4, addW.eq_5, subW.eq_1, subW.eq_2, mulW.eq_1, mulW.eq_2, mulW.eq_3, intOp.eq_1, negW.eq_1, ordW.eq_1, ordW.eq_2, isW.eq_1, isntW.eq_1, ixW.eq_1, ixW.eq_2, ixW.eq_3, slW.eq_1, slW.eq_2, slW.eq_3, revTW.eq_1, revLW.eq_1, lenW.eq_1, lenW.eq_2, lenW.eq_3, tupleW.eq_1, tupleW.eq_2, listW.eq_1, listW.eq_2, min2W.eq_1, max2W.eq_1, strW.eq_1, strW.eq_2, joinW.eq_1, joinW.eq_2, walkLW.eq_1, walkTW.eq_1, walkSW.eq_1, range1W.eq_1, zipW.eq_1, zipW.eq_2, tupG.eq_1, gsW.eq_1, gsW.eq_2, par2.eq_1, extW.eq_1, extW.eq_2, partW.eq_1, optW.eq_1, optW.eq_2, modW, fdivW, powW, ltW, leW, gtW, geW, isNone, isi_non, isi_bl, isi_int, isi_str, isi_tup, isi_lst, upperW, putW, appW, tupW, lstW, asB_bl, String.reduceBEq, beq_self_eq_true, Bool.or_true, Bool.true_or, Bool.or_false, Bool.false_or, Bool.and_true, Bool.true_and, Bool.and_false, Bool.false_and, Bool.not_true, Bool.not_false, forall_const, true_implies, true_and, and_true, false_implies, reduceCtorEq, List.length_cons, List.length_nil, forall_eq, imp_self, implies_true, if_true, if_false, Bool.false_eq_true, Bool.true_eq_false]
    rw [repr_rows ok.ok hb (by omega)]
    simp only [rp_same, W.bind_wp, W.ret_wp, W.want_wp, W.any_wp, s_ite, s_get0, s_get, s_then, s_end, s_run, s_calm, s_fail, s_start1, s_start2, s_start3, s_start4, s_start5, List.replicate, List.set_cons_zero, List.set_cons_succ, asB_bl, asS_str, Nat.reduceSub, Nat.reduceAdd, addW.eq_1, addW.eq_2, addW.eq_3, addW.eq_4, addW.eq_5, subW.eq_1, subW.eq_2, mulW.eq_1, mulW.eq_2, mulW.eq_3, intOp.eq_1, negW.eq_1, ordW.eq_1, ordW.eq_2, isW.eq_1, isntW.eq_1, ixW.eq_1, ixW.eq_2, ixW.eq_3, slW.eq_1, slW.eq_2, slW.eq_3, revTW.eq_1, revLW.eq_1, lenW.eq_1, lenW.eq_2, lenW.eq_3, tupleW.eq_1, tupleW.eq_2, listW.eq_1, listW.eq_2, min2W.eq_1, max2W.eq_1, strW.eq_1, strW.eq_2, joinW.eq_1, joinW.eq_2, walkLW.eq_1, walkTW.eq_1, walkSW.eq_1, range1W.eq_1, zipW.eq_1, zipW.eq_2, tupG.eq_1, gsW.eq_1, gsW.eq_2, par2.eq_1, extW.eq_1, extW.eq_2, partW.eq_1, optW.eq_1, optW.eq_2, modW, fdivW, powW, ltW, leW, gtW, geW, isNone, isi_non, isi_bl, isi_int, isi_str, isi_tup, isi_lst, upperW, putW, appW, tupW, lstW, asB_bl, String.reduceBEq, beq_self_eq_true, Bool.or_true, Bool.true_or, Bool.or_false, Bool.false_or, Bool.and_true, Bool.true_and, Bool.and_false, Bool.false_and, Bool.not_true, Bool.not_false, forall_const, true_implies, true_and, and_true, false_implies, reduceCtorEq, List.length_cons, List.length_nil, forall_eq, imp_self, implies_true, if_true, if_false, Bool.false_eq_true, Bool.true_eq_false]
    refine (str_ret ok.ok (by omega) hb).go ?_
    simp only [W.bind_wp, W.ret_wp, W.want_wp, W.any_wp, s_ite, s_get0, s_get, s_then, s_end, s_run, s_calm, s_fail, s_start1, s_start2, s_start3, s_start4, s_start5, List.replicate, List.set_cons_zero, List.set_cons_succ, asB_bl, asS_str, Nat.reduceSub, Nat.reduceAdd, addW.eq_1, addW.eq_2, addW.eq_3, addW.eq_4, addW.eq_5, subW.eq_1, subW.eq_2, mulW.eq_1, mulW.eq_2, mulW.eq_3, intOp.eq_1, negW.eq_1, ordW.eq_1, ordW.eq_2, isW.eq_1, isntW.eq_1, ixW.eq_1, ixW.eq_2, ixW.eq_3, slW.eq_1, slW.eq_2, slW.eq_3, revTW.eq_1, revLW.eq_1, lenW.eq_1, lenW.eq_2, lenW.eq_3, tupleW.eq_1, tupleW.eq_2, listW.eq_1, listW.eq_2, min2W.eq_1, max2W.eq_1, strW.eq_1, strW.eq_2, joinW.eq_1, joinW.eq_2, walkLW.eq_1, walkTW.eq_1, walkSW.eq_1, range1W.eq_1, zipW.eq_1, zipW.eq_2, tupG.eq_1, gsW.eq_1, gsW.eq_2, par2.eq_1, extW.eq_1, extW.eq_2, partW.eq_1, optW.eq_1, optW.eq_2, modW, fdivW, powW, ltW, leW, gtW, geW, isNone, isi_non, isi_bl, isi_int, isi_str, isi_tup, isi_lst, upperW, putW, appW, tupW, lstW, asB_bl, String.reduceBEq, beq_self_eq_true, Bool.or_true, Bool.true_or, Bool.or_false, Bool.false_or, Bool.and_true, Bool.true_and, Bool.and_false, Bool.false_and, Bool.not_true, Bool.not_false, forall_const, true_implies, true_and, and_true, false_implies, reduceCtorEq, List.length_cons, List.length_nil, forall_eq, imp_self, implies_true, if_true, if_false, Bool.false_eq_true, Bool.true_eq_false]
    refine (shown_ret ok.ok (by omega) hb).go ?_
    simp only [neW_str, W.bind_wp, W.ret_wp, W.want_wp, W.any_wp, s_ite, s_get0, s_get, s_then, s_end, s_run, s_calm, s_fail, s_start1, s_start2, s_start3, s_start4, s_start5, List.replicate, List.set_cons_zero, List.set_cons_succ, asB_bl, asS_str, Nat.reduceSub, Nat.reduceAdd, addW.eq_1, addW.eq_2, addW.eq_3, addW.eq_4, addW.eq_5, subW.eq_1, subW.eq_2, mulW.eq_1, mulW.eq_2, mulW.eq_3, intOp.eq_1, negW.eq_1, ordW.eq_1, ordW.eq_2, isW.eq_1, isntW.eq_1, ixW.eq_1, ixW.eq_2, ixW.eq_3, slW.eq_1, slW.eq_2, slW.eq_3, revTW.eq_1, revLW.eq_1, lenW.eq_1, lenW.eq_2, lenW.eq_3, tupleW.eq_1, tupleW.eq_2, listW.eq_1, listW.eq_2, min2W.eq_1, max2W.eq_1, strW.eq_1, strW.eq_2, joinW.eq_1, joinW.eq_2, walkLW.eq_1, walkTW.eq_1, walkSW.eq_1, range1W.eq_1, zipW.eq_1, zipW.eq_2, tupG.eq_1, gsW.eq_1, gsW.eq_2, par2.eq_1, extW.eq_1, extW.eq_2, partW.eq_1, optW.eq_1, optW.eq_2, modW, fdivW, powW, ltW, leW, gtW, geW, isNone, isi_non, isi_bl, isi_int, isi_str, isi_tup, isi_lst, upperW, putW, appW, tupW, lstW, asB_bl, String.reduceBEq, beq_self_eq_true, Bool.or_true, Bool.true_or, Bool.or_false, Bool.false_or, Bool.and_true, Bool.true_and, Bool.and_false, Bool.false_and, Bool.not_true, Bool.not_false, forall_const, true_implies, true_and, and_true, false_implies, reduceCtorEq, List.length_cons, List.length_nil, forall_eq, imp_self, implies_true, if_true, if_false, Bool.false_eq_true, Bool.true_eq_false]
    simp only [bLaw_2, W.bind_wp, W.ret_wp, W.want_wp, W.any_wp, s_ite, s_get0, s_get, s_then, s_end, s_run, s_calm, s_fail, s_start1, s_start2, s_start3, s_start4, s_start5, List.replicate, List.set_cons_zero, List.set_cons_succ, asB_bl, asS_str, Nat.reduceSub, Nat.reduceAdd, addW.eq_1, addW.eq_2, addW.eq_3, addW.eq_4, addW.eq_5, subW.eq_1, subW.eq_2, mulW.eq_1, mulW.eq_2, mulW.eq_3, intOp.eq_1, negW.eq_1, ordW.eq_1, ordW.eq_2, isW.eq_1, isntW.eq_1, ixW.eq_1, ixW.eq_2, ixW.eq_3, slW.eq_1, slW.eq_2, slW.eq_3, revTW.eq_1, revLW.eq_1, lenW.eq_1, lenW.eq_2, lenW.eq_3, tupleW.eq_1, tupleW.eq_2, listW.eq_1, listW.eq_2, min2W.eq_1, max2W.eq_1, strW.eq_1, strW.eq_2, joinW.eq_1, joinW.eq_2, walkLW.eq_1, walkTW.eq_1, walkSW.eq_1, range1W.eq_1, zipW.eq_1, zipW.eq_2, tupG.eq_1, gsW.eq_1, gsW.eq_2, par2.eq_1, extW.eq_1, extW.eq_2, partW.eq_1, optW.eq_1, optW.eq_2, modW, fdivW, powW, ltW, leW, gtW, geW, isNone, isi_non, isi_bl, isi_int, isi_str, isi_tup, isi_lst, upperW, putW, appW, tupW, lstW, asB_bl, String.reduceBEq, beq_self_eq_true, Bool.or_true, Bool.true_or, Bool.or_false, Bool.false_or, Bool.and_true, Bool.true_and, Bool.and_false, Bool.false_and, Bool.not_true, Bool.not_false, forall_const, true_implies, true_and, and_true, false_implies, reduceCtorEq, List.length_cons, List.length_nil, forall_eq, imp_self, implies_true, if_true, if_false, Bool.false_eq_true, Bool.true_eq_false]
    refine Ret.go (lc_ret (ds := Gs[i].map rowT) (formIs f) rowIx (fun Q E q => by
      simp only [a2, W.bind_wp, W.ret_wp, W.want_wp, W.any_wp, s_ite, s_get0, s_get, s_then, s_end, s_run, s_calm, s_fail, s_start1, s_start2, s_start3, s_start4, s_start5, List.replicate, List.set_cons_zero, List.set_cons_succ, asB_bl, asS_str, Nat.reduceSub, Nat.reduceAdd, addW.eq_1, addW.eq_2, addW.eq_3, addW.eq_4, addW.eq_5, subW.eq_1, subW.eq_2, mulW.eq_1, mulW.eq_2, mulW.eq_3, intOp.eq_1, negW.eq_1, ordW.eq_1, ordW.eq_2, isW.eq_1, isntW.eq_1, ixW.eq_1, ixW.eq_2, ixW.eq_3, slW.eq_1, slW.eq_2, slW.eq_3, revTW.eq_1, revLW.eq_1, lenW.eq_1, lenW.eq_2, lenW.eq_3, tupleW.eq_1, tupleW.eq_2, listW.eq_1, listW.eq_2, min2W.eq_1, max2W.eq_1, strW.eq_1, strW.eq_2, joinW.eq_1, joinW.eq_2, walkLW.eq_1, walkTW.eq_1, walkSW.eq_1, range1W.eq_1, zipW.eq_1, zipW.eq_2, tupG.eq_1, gsW.eq_1, gsW.eq_2, par2.eq_1, extW.eq_1, extW.eq_2, partW.eq_1, optW.eq_1, optW.eq_2, modW, fdivW, powW, ltW, leW, gtW, geW, isNone, isi_non, isi_bl, isi_int, isi_str, isi_tup, isi_lst, upperW, putW, appW, tupW, lstW, asB_bl, String.reduceBEq, beq_self_eq_true, Bool.or_true, Bool.true_or, Bool.or_false, Bool.false_or, Bool.and_true, Bool.true_and, Bool.and_false, Bool.false_and, Bool.not_true, Bool.not_false, forall_const, true_implies, true_and, and_true, false_implies, reduceCtorEq, List.length_cons, List.length_nil, forall_eq, imp_self, implies_true, if_true, if_false, Bool.false_eq_true, Bool.true_eq_false, rowsT]
      exact q) (by rw [List.length_map]; exact small (by omega)) fun d hd => ?_) ?_
    · obtain ⟨r, hr, rfl⟩ := List.mem_map.mp hd
      simp only [wipeE, ix0R, ix2R, eqW_str, W.bind_wp, W.ret_wp, W.want_wp, W.any_wp, s_ite, s_get0, s_get, s_then, s_end, s_run, s_calm, s_fail, s_start1, s_start2, s_start3, s_start4, s_start5, List.replicate, List.set_cons_zero, List.set_cons_succ, asB_bl, asS_str, Nat.reduceSub, Nat.reduceAdd, addW.eq_1, addW.eq_2, addW.eq_3, addW.eq_4, addW.eq_5, subW.eq_1, subW.eq_2, mulW.eq_1, mulW.eq_2, mulW.eq_3, intOp.eq_1, negW.eq_1, ordW.eq_1, ordW.eq_2, isW.eq_1, isntW.eq_1, ixW.eq_1, ixW.eq_2, ixW.eq_3, slW.eq_1, slW.eq_2, slW.eq_3, revTW.eq_1, revLW.eq_1, lenW.eq_1, lenW.eq_2, lenW.eq_3, tupleW.eq_1, tupleW.eq_2, listW.eq_1, listW.eq_2, min2W.eq_1, max2W.eq_1, strW.eq_1, strW.eq_2, joinW.eq_1, joinW.eq_2, walkLW.eq_1, walkTW.eq_1, walkSW.eq_1, range1W.eq_1, zipW.eq_1, zipW.eq_2, tupG.eq_1, gsW.eq_1, gsW.eq_2, par2.eq_1, extW.eq_1, extW.eq_2, partW.eq_1, optW.eq_1, optW.eq_2, modW, fdivW, powW, ltW, leW, gtW, geW, isNone, isi_non, isi_bl, isi_int, isi_str, isi_tup, isi_lst, upperW, putW, appW, tupW, lstW, asB_bl, String.reduceBEq, beq_self_eq_true, Bool.or_true, Bool.true_or, Bool.or_false, Bool.false_or, Bool.and_true, Bool.true_and, Bool.and_false, Bool.false_and, Bool.not_true, Bool.not_false, forall_const, true_implies, true_and, and_true, false_implies, reduceCtorEq, List.length_cons, List.length_nil, forall_eq, imp_self, implies_true, if_true, if_false, Bool.false_eq_true, Bool.true_eq_false]
      exact ⟨rfl, fun _ => rfl⟩
    rw [sum_sel, sumW_sel]
    simp only [bLaw_1, a1, a2, objW_heap, W.bind_wp, W.ret_wp, W.want_wp, W.any_wp, s_ite, s_get0, s_get, s_then, s_end, s_run, s_calm, s_fail, s_start1, s_start2, s_start3, s_start4, s_start5, List.replicate, List.set_cons_zero, List.set_cons_succ, asB_bl, asS_str, Nat.reduceSub, Nat.reduceAdd, addW.eq_1, addW.eq_2, addW.eq_3, addW.eq_4, addW.eq_5, subW.eq_1, subW.eq_2, mulW.eq_1, mulW.eq_2, mulW.eq_3, intOp.eq_1, negW.eq_1, ordW.eq_1, ordW.eq_2, isW.eq_1, isntW.eq_1, ixW.eq_1, ixW.eq_2, ixW.eq_3, slW.eq_1, slW.eq_2, slW.eq_3, revTW.eq_1, revLW.eq_1, lenW.eq_1, lenW.eq_2, lenW.eq_3, tupleW.eq_1, tupleW.eq_2, listW.eq_1, listW.eq_2, min2W.eq_1, max2W.eq_1, strW.eq_1, strW.eq_2, joinW.eq_1, joinW.eq_2, walkLW.eq_1, walkTW.eq_1, walkSW.eq_1, range1W.eq_1, zipW.eq_1, zipW.eq_2, tupG.eq_1, gsW.eq_1, gsW.eq_2, par2.eq_1, extW.eq_1, extW.eq_2, partW.eq_1, optW.eq_1, optW.eq_2, modW, fdivW, powW, ltW, leW, gtW, geW, isNone, isi_non, isi_bl, isi_int, isi_str, isi_tup, isi_lst, upperW, putW, appW, tupW, lstW, asB_bl, String.reduceBEq, beq_self_eq_true, Bool.or_true, Bool.true_or, Bool.or_false, Bool.false_or, Bool.and_true, Bool.true_and, Bool.and_false, Bool.false_and, Bool.not_true, Bool.not_false, forall_const, true_implies, true_and, and_true, false_implies, reduceCtorEq, List.length_cons, List.length_nil, forall_eq, imp_self, implies_true, if_true, if_false, Bool.false_eq_true, Bool.true_eq_false]
    rw [many_eq (by omega)]
    simp only [neW_int, W.bind_wp, W.ret_wp, W.want_wp, W.any_wp, s_ite, s_get0, s_get, s_then, s_end, s_run, s_calm, s_fail, s_start1, s_start2, s_start3, s_start4, s_start5, List.replicate, List.set_cons_zero, List.set_cons_succ, asB_bl, asS_str, Nat.reduceSub, Nat.reduceAdd, addW.eq_1, addW.eq_2, addW.eq_3, addW.eq_4, addW.eq_5, subW.eq_1, subW.eq_2, mulW.eq_1, mulW.eq_2, mulW.eq_3, intOp.eq_1, negW.eq_1, ordW.eq_1, ordW.eq_2, isW.eq_1, isntW.eq_1, ixW.eq_1, ixW.eq_2, ixW.eq_3, slW.eq_1, slW.eq_2, slW.eq_3, revTW.eq_1, revLW.eq_1, lenW.eq_1, lenW.eq_2, lenW.eq_3, tupleW.eq_1, tupleW.eq_2, listW.eq_1, listW.eq_2, min2W.eq_1, max2W.eq_1, strW.eq_1, strW.eq_2, joinW.eq_1, joinW.eq_2, walkLW.eq_1, walkTW.eq_1, walkSW.eq_1, range1W.eq_1, zipW.eq_1, zipW.eq_2, tupG.eq_1, gsW.eq_1, gsW.eq_2, par2.eq_1, extW.eq_1, extW.eq_2, partW.eq_1, optW.eq_1, optW.eq_2, modW, fdivW, powW, ltW, leW, gtW, geW, isNone, isi_non, isi_bl, isi_int, isi_str, isi_tup, isi_lst, upperW, putW, appW, tupW, lstW, asB_bl, String.reduceBEq, beq_self_eq_true, Bool.or_true, Bool.true_or, Bool.or_false, Bool.false_or, Bool.and_true, Bool.true_and, Bool.and_false, Bool.false_and, Bool.not_true, Bool.not_false, forall_const, true_implies, true_and, and_true, false_implies, reduceCtorEq, List.length_cons, List.length_nil, forall_eq, imp_self, implies_true, if_true, if_false, Bool.false_eq_true, Bool.true_eq_false]
    rw [lenH_eq (by omega)]
    simp only [rowsT, List.length_map, neW_int, W.bind_wp, W.ret_wp, W.want_wp, W.any_wp, s_ite, s_get0, s_get, s_then, s_end, s_run, s_calm, s_fail, s_start1, s_start2, s_start3, s_start4, s_start5, List.replicate, List.set_cons_zero, List.set_cons_succ, asB_bl, asS_str, Nat.reduceSub, Nat.reduceAdd, addW.eq_1, addW.eq_2, addW.eq_3, addW.eq_4, addW.eq_5, subW.eq_1, subW.eq_2, mulW.eq_1, mulW.eq_2, mulW.eq_3, intOp.eq_1, negW.eq_1, ordW.eq_1, ordW.eq_2, isW.eq_1, isntW.eq_1, ixW.eq_1, ixW.eq_2, ixW.eq_3, slW.eq_1, slW.eq_2, slW.eq_3, revTW.eq_1, revLW.eq_1, lenW.eq_1, lenW.eq_2, lenW.eq_3, tupleW.eq_1, tupleW.eq_2, listW.eq_1, listW.eq_2, min2W.eq_1, max2W.eq_1, strW.eq_1, strW.eq_2, joinW.eq_1, joinW.eq_2, walkLW.eq_1, walkTW.eq_1, walkSW.eq_1, range1W.eq_1, zipW.eq_1, zipW.eq_2, tupG.eq_1, gsW.eq_1, gsW.eq_2, par2.eq_1, extW.eq_1, extW.eq_2, partW.eq_1, optW.eq_1, optW.eq_2, modW, fdivW, powW, ltW, leW, gtW, geW, isNone, isi_non, isi_bl, isi_int, isi_str, isi_tup, isi_lst, upperW, putW, appW, tupW, lstW, asB_bl, String.reduceBEq, beq_self_eq_true, Bool.or_true, Bool.true_or, Bool.or_false, Bool.false_or, Bool.and_true, Bool.true_and, Bool.and_false, Bool.false_and, Bool.not_true, Bool.not_false, forall_const, true_implies, true_and, and_true, false_implies, reduceCtorEq, List.length_cons, List.length_nil, forall_eq, imp_self, implies_true, if_true, if_false, Bool.false_eq_true, Bool.true_eq_false]
    exact ⟨_, _, _, rfl⟩
  · obtain ⟨y14, y15, y16, rfl⟩ := hp
    exact q _ _ _
end
end LP.K17
namespace LP.K17
open PySem PySem.Spec PyProof.Rows L2 PK LP RZ
section
variable {fs ss : List Str} {E : Ex → Prop} {e0 e4 e5 e6 e8 e10 e11 e12 e13 e14 e15 e16 : Option D}
theorem at_list {l : List (List PRow)} {g : List PRow → D} {Q : D → Prop} {E : Ex → Prop} (hl : l ≠ []) (ll : l.length ≤ 1000) (q : ∀ (i : Nat) (h : i < l.length), Q (.int (i : Int))) : (drawW [.tok 0, .int ((l.map g).length : Int)]).wp Q E := by
  have l0 : 0 < l.length := List.length_pos_iff.mpr hl
  refine draw_wp (by rw [List.length_map]; omega) (by rw [List.length_map]; omega) fun r r0 r1 => ?_
  rw [List.length_map] at r1
  obtain ⟨k, rfl⟩ := Int.eq_ofNat_of_zero_le r0
  exact q k (by omega)
theorem atI_list {l : List (List PRow)} {g : List PRow → D} {i : Nat} (h : i < l.length) : atI (l.map g) (i : Int) = some (g l[i]) := atI_nat (by rw [List.getElem?_map, List.getElem?_eq_getElem h]; rfl)
def Bd (i : Nat) : Int := 8000000000 * 2 ^ i
theorem Bd_le {i : Nat} (h : i ≤ 10) : Bd i ≤ 10 ^ 30 := by
  unfold Bd
  have : ∀ i : Nat, i ≤ 10 → (8000000000 : Int) * 2 ^ i ≤ 10 ^ 30 := by decide
  exact this i h
theorem Bd_one (i : Nat) : 1 ≤ Bd i := by
  unfold Bd
  have : (1 : Int) ≤ 2 ^ i := by
    have := Int.pow_pos (n := 2) (m := i) (by decide)
    omega
  omega
theorem Bd_succ (i : Nat) : Bd (i + 1) = 2 * Bd i := by
  unfold Bd
  rw [Int.pow_succ]
  omega
theorem l8_wp {i : Nat} {Gs : List (List PRow)} {Q : Fl → Prop} (hi : i ≤ 9) (f0 : fs ≠ []) (f4 : fs.length ≤ 4) (s4 : ss.length ≤ 4) (fw : ∀ y ∈ fs, Word y) (sw : ∀ y ∈ ss, Word y) (hg : ∀ G ∈ Gs, Kn fs ss (Bd i) G) (g0 : Gs ≠ []) (hn : Gs.length ≤ 100)
    (q : ∀ G y10 y11 y12 y13 y14 y15 y16, Kn fs ss (Bd (i + 1)) G → Q (.nx [e0, some (.tok 0), some (.lst (fs.map D.str)), some (.lst (ss.map D.str)), e4, e5, e6, some (.lst ((Gs ++ [G]).map heapD)), e8, some (.lst ((Gs ++ [G]).map rowsT)), y10, y11, y12, y13, y14, y15, y16])) :
    (bLaw_8 [e0, some (.tok 0), some (.lst (fs.map D.str)), some (.lst (ss.map D.str)), e4, e5, e6, some (.lst (Gs.map heapD)), e8, some (.lst (Gs.map rowsT)), e10, e11, e12, e13, e14, e15, e16]).wp Q E := by
  simp only [bLaw_8, W.bind_wp, W.ret_wp, W.want_wp, W.any_wp, s_ite, s_get0, s_get, s_then, s_end, s_run, s_calm, s_fail, s_start1, s_start2, s_start3, s_start4, s_start5, List.replicate, List.set_cons_zero, List.set_cons_succ, asB_bl, asS_str, Nat.reduceSub, Nat.reduceAdd, addW.eq_1, addW.eq_2, addW.eq_3, addW.eq_4, addW.eq_5, subW.eq_1, subW.eq_2, mulW.eq_1, mulW.eq_2, mulW.eq_3, intOp.eq_1, negW.eq_1, ordW.eq_1, ordW.eq_2, isW.eq_1, isntW.eq_1, ixW.eq_1, ixW.eq_2, ixW.eq_3, slW.eq_1, slW.eq_2, slW.eq_3, revTW.eq_1, revLW.eq_1, lenW.eq_1, lenW.eq_2, lenW.eq_3, tupleW.eq_1, tupleW.eq_2, listW.eq_1, listW.eq_2, min2W.eq_1, max2W.eq_1, strW.eq_1, strW.eq_2, joinW.eq_1, joinW.eq_2, walkLW.eq_1, walkTW.eq_1, walkSW.eq_1, range1W.eq_1, zipW.eq_1, zipW.eq_2, tupG.eq_1, gsW.eq_1, gsW.eq_2, par2.eq_1, extW.eq_1, extW.eq_2, partW.eq_1, optW.eq_1, optW.eq_2, modW, fdivW, powW, ltW, leW, gtW, geW, isNone, isi_non, isi_bl, isi_int, isi_str, isi_tup, isi_lst, upperW, putW, appW, tupW, lstW, asB_bl, String.reduceBEq, beq_self_eq_true, Bool.or_true, Bool.true_or, Bool.or_false, Bool.false_or, Bool.and_true, Bool.true_and, Bool.and_false, Bool.false_and, Bool.not_true, Bool.not_false, forall_const, true_implies, true_and, and_true, false_implies, reduceCtorEq, List.length_cons, List.length_nil, forall_eq, imp_self, implies_true, if_true, if_false, Bool.false_eq_true, Bool.true_eq_false]
  refine at_list g0 (by omega) fun a ha => ?_
  refine at_list g0 (by omega) fun c hc => ?_
  simp only [bLaw_7, W.bind_wp, W.ret_wp, W.want_wp, W.any_wp, s_ite, s_get0, s_get, s_then, s_end, s_run, s_calm, s_fail, s_start1, s_start2, s_start3, s_start4, s_start5, List.replicate, List.set_cons_zero, List.set_cons_succ, asB_bl, asS_str, Nat.reduceSub, Nat.reduceAdd, addW.eq_1, addW.eq_2, addW.eq_3, addW.eq_4, addW.eq_5, subW.eq_1, subW.eq_2, mulW.eq_1, mulW.eq_2, mulW.eq_3, intOp.eq_1, negW.eq_1, ordW.eq_1, ordW.eq_2, isW.eq_1, isntW.eq_1, ixW.eq_1, ixW.eq_2, ixW.eq_3, slW.eq_1, slW.eq_2, slW.eq_3, revTW.eq_1, revLW.eq_1, lenW.eq_1, lenW.eq_2, lenW.eq_3, tupleW.eq_1, tupleW.eq_2, listW.eq_1, listW.eq_2, min2W.eq_1, max2W.eq_1, strW.eq_1, strW.eq_2, joinW.eq_1, joinW.eq_2, walkLW.eq_1, walkTW.eq_1, walkSW.eq_1, range1W.eq_1, zipW.eq_1, zipW.eq_2, tupG.eq_1, gsW.eq_1, gsW.eq_2, par2.eq_1, extW.eq_1, extW.eq_2, partW.eq_1, optW.eq_1, optW.eq_2, modW, fdivW, powW, ltW, leW, gtW, geW, isNone, isi_non, isi_bl, isi_int, isi_str, isi_tup, isi_lst, upperW, putW, appW, tupW, lstW, asB_bl, String.reduceBEq, beq_self_eq_true, Bool.or_true, Bool.true_or, Bool.or_false, Bool.false_or, Bool.and_true, Bool.true_and, Bool.and_false, Bool.false_and, Bool.not_true, Bool.not_false, forall_const, true_implies, true_and, and_true, false_implies, reduceCtorEq, List.length_cons, List.length_nil, forall_eq, imp_self, implies_true, if_true, if_false, Bool.false_eq_true, Bool.true_eq_false]
  refine draw_wp (by decide) (by decide) fun m m0 m6 => ?_
  refine at_draw f0 (by omega) fun r f hf ef => ?_
  simp only [ef, W.bind_wp, W.ret_wp, W.want_wp, W.any_wp, s_ite, s_get0, s_get, s_then, s_end, s_run, s_calm, s_fail, s_start1, s_start2, s_start3, s_start4, s_start5, List.replicate, List.set_cons_zero, List.set_cons_succ, asB_bl, asS_str, Nat.reduceSub, Nat.reduceAdd, addW.eq_1, addW.eq_2, addW.eq_3, addW.eq_4, addW.eq_5, subW.eq_1, subW.eq_2, mulW.eq_1, mulW.eq_2, mulW.eq_3, intOp.eq_1, negW.eq_1, ordW.eq_1, ordW.eq_2, isW.eq_1, isntW.eq_1, ixW.eq_1, ixW.eq_2, ixW.eq_3, slW.eq_1, slW.eq_2, slW.eq_3, revTW.eq_1, revLW.eq_1, lenW.eq_1, lenW.eq_2, lenW.eq_3, tupleW.eq_1, tupleW.eq_2, listW.eq_1, listW.eq_2, min2W.eq_1, max2W.eq_1, strW.eq_1, strW.eq_2, joinW.eq_1, joinW.eq_2, walkLW.eq_1, walkTW.eq_1, walkSW.eq_1, range1W.eq_1, zipW.eq_1, zipW.eq_2, tupG.eq_1, gsW.eq_1, gsW.eq_2, par2.eq_1, extW.eq_1, extW.eq_2, partW.eq_1, optW.eq_1, optW.eq_2, modW, fdivW, powW, ltW, leW, gtW, geW, isNone, isi_non, isi_bl, isi_int, isi_str, isi_tup, isi_lst, upperW, putW, appW, tupW, lstW, asB_bl, String.reduceBEq, beq_self_eq_true, Bool.or_true, Bool.true_or, Bool.or_false, Bool.false_or, Bool.and_true, Bool.true_and, Bool.and_false, Bool.false_and, Bool.not_true, Bool.not_false, forall_const, true_implies, true_and, and_true, false_implies, reduceCtorEq, List.length_cons, List.length_nil, forall_eq, imp_self, implies_true, if_true, if_false, Bool.false_eq_true, Bool.true_eq_false]
  refine ⟨small (by decide), ?_⟩
  have a1 := atI_list (g := heapD) ha
  have a2 := atI_list (g := heapD) hc
  have a3 := atI_list (g := rowsT) ha
  have a4 := atI_list (g := rowsT) hc
  have k1 := hg _ (List.getElem_mem ha)
  have k2 := hg _ (List.getElem_mem hc)
  have g1 := k1.good fw sw f4 s4
  have g2 := k2.good fw sw f4 s4
  have hb := Bd_le (i := i) (by omega)
  have kd := k1.deed (m := m) k2 (Bd_one i) hf
  simp only [bLaw_6, a1, a2, W.bind_wp, W.ret_wp, W.want_wp, W.any_wp, s_ite, s_get0, s_get, s_then, s_end, s_run, s_calm, s_fail, s_start1, s_start2, s_start3, s_start4, s_start5, List.replicate, List.set_cons_zero, List.set_cons_succ, asB_bl, asS_str, Nat.reduceSub, Nat.reduceAdd, addW.eq_1, addW.eq_2, addW.eq_3, addW.eq_4, addW.eq_5, subW.eq_1, subW.eq_2, mulW.eq_1, mulW.eq_2, mulW.eq_3, intOp.eq_1, negW.eq_1, ordW.eq_1, ordW.eq_2, isW.eq_1, isntW.eq_1, ixW.eq_1, ixW.eq_2, ixW.eq_3, slW.eq_1, slW.eq_2, slW.eq_3, revTW.eq_1, revLW.eq_1, lenW.eq_1, lenW.eq_2, lenW.eq_3, tupleW.eq_1, tupleW.eq_2, listW.eq_1, listW.eq_2, min2W.eq_1, max2W.eq_1, strW.eq_1, strW.eq_2, joinW.eq_1, joinW.eq_2, walkLW.eq_1, walkTW.eq_1, walkSW.eq_1, range1W.eq_1, zipW.eq_1, zipW.eq_2, tupG.eq_1, gsW.eq_1, gsW.eq_2, par2.eq_1, extW.eq_1, extW.eq_2, partW.eq_1, optW.eq_1, optW.eq_2, modW, fdivW, powW, ltW, leW, gtW, geW, isNone, isi_non, isi_bl, isi_int, isi_str, isi_tup, isi_lst, upperW, putW, appW, tupW, lstW, asB_bl, String.reduceBEq, beq_self_eq_true, Bool.or_true, Bool.true_or, Bool.or_false, Bool.false_or, Bool.and_true, Bool.true_and, Bool.and_false, Bool.false_and, Bool.not_true, Bool.not_false, forall_const, true_implies, true_and, and_true, false_implies, reduceCtorEq, List.length_cons, List.length_nil, forall_eq, imp_self, implies_true, if_true, if_false, Bool.false_eq_true, Bool.true_eq_false]
  refine (deed_ret g1 g2 (by decide) hb m0 m6).go ?_
  refine ⟨by rw [List.length_map]; exact smallT (by omega), ?_⟩
  simp only [bLaw_5, a3, a4, W.bind_wp, W.ret_wp, W.want_wp, W.any_wp, s_ite, s_get0, s_get, s_then, s_end, s_run, s_calm, s_fail, s_start1, s_start2, s_start3, s_start4, s_start5, List.replicate, List.set_cons_zero, List.set_cons_succ, asB_bl, asS_str, Nat.reduceSub, Nat.reduceAdd, addW.eq_1, addW.eq_2, addW.eq_3, addW.eq_4, addW.eq_5, subW.eq_1, subW.eq_2, mulW.eq_1, mulW.eq_2, mulW.eq_3, intOp.eq_1, negW.eq_1, ordW.eq_1, ordW.eq_2, isW.eq_1, isntW.eq_1, ixW.eq_1, ixW.eq_2, ixW.eq_3, slW.eq_1, slW.eq_2, slW.eq_3, revTW.eq_1, revLW.eq_1, lenW.eq_1, lenW.eq_2, lenW.eq_3, tupleW.eq_1, tupleW.eq_2, listW.eq_1, listW.eq_2, min2W.eq_1, max2W.eq_1, strW.eq_1, strW.eq_2, joinW.eq_1, joinW.eq_2, walkLW.eq_1, walkTW.eq_1, walkSW.eq_1, range1W.eq_1, zipW.eq_1, zipW.eq_2, tupG.eq_1, gsW.eq_1, gsW.eq_2, par2.eq_1, extW.eq_1, extW.eq_2, partW.eq_1, optW.eq_1, optW.eq_2, modW, fdivW, powW, ltW, leW, gtW, geW, isNone, isi_non, isi_bl, isi_int, isi_str, isi_tup, isi_lst, upperW, putW, appW, tupW, lstW, asB_bl, String.reduceBEq, beq_self_eq_true, Bool.or_true, Bool.true_or, Bool.or_false, Bool.false_or, Bool.and_true, Bool.true_and, Bool.and_false, Bool.false_and, Bool.not_true, Bool.not_false, forall_const, true_implies, true_and, and_true, false_implies, reduceCtorEq, List.length_cons, List.length_nil, forall_eq, imp_self, implies_true, if_true, if_false, Bool.false_eq_true, Bool.true_eq_false]
  refine (due_ret g1 g2 (by decide) hb m0 m6).go ?_
  refine ⟨by rw [List.length_map]; exact smallT (by omega), ?_⟩
  generalize deedR Gs[a] Gs[c] m f = G at kd
  rw [← Bd_succ] at kd
  have e1 : Gs.map heapD ++ [heapD G] = (Gs ++ [G]).map heapD := by rw [List.map_append]; rfl
  have e2 : Gs.map rowsT ++ [rowsT G] = (Gs ++ [G]).map rowsT := by rw [List.map_append]; rfl
  rw [e1, e2]
  refine l4_wp (b := Bd (i + 1)) (fun G' hG => ?_) (Bd_le (by omega)) (by rw [List.length_append, List.length_singleton]; omega) fun y14 y15 y16 => q G _ _ _ _ _ _ _ kd
  rcases List.mem_append.mp hG with h | h
  · exact ((hg G' h).mono (by rw [Bd_succ]; have := Bd_one i; omega)).good fw sw f4 s4
  · rw [List.mem_singleton.mp h]
    exact kd.good fw sw f4 s4
end
theorem lots_sz {fs ss : List Str} {Ls : List (List PRow)} (fw : ∀ y ∈ fs, Word y) (sw : ∀ y ∈ ss, Word y) (h : ∀ L ∈ Ls, LR fs ss 8 L) (hl : Ls.length ≤ 10) : Sz 200 3 4000100 (.lst (Ls.map rowsT)) := by
  have : Szs 200 2 ((Ls.map rowsT).length * 400002) (Ls.map rowsT) := Szs.each fun d hd => by
    obtain ⟨L, hL, rfl⟩ := List.mem_map.mp hd
    have lr := h L hL
    refine rows_sz (n := 8) (b := 1000000000) ⟨lr.len, fun r hr => ?_⟩ (by decide) (by decide)
    obtain ⟨h1, h2, h3, h4⟩ := lr.each r hr
    exact ⟨fw _ h1, sw _ h2, h3, h4⟩
  rw [List.length_map] at this
  exact (Sz.lst this).mono (Nat.le_refl _) (Nat.le_refl _) (by omega)
theorem law_wp : (bLaw (lawE 17)).wp (fun f => ∃ b, f = .rt (.bl b) ∧ b = true) fun _ => False := by
  show (bLaw [none, some (.tok 0), none, none, none, none, none, none, none, none, none, none, none, none, none, none, none]).wp _ _
  simp only [bLaw, W.bind_wp, W.ret_wp, W.want_wp, W.any_wp, s_ite, s_get0, s_get, s_then, s_end, s_run, s_calm, s_fail, s_start1, s_start2, s_start3, s_start4, s_start5, List.replicate, List.set_cons_zero, List.set_cons_succ, asB_bl, asS_str, Nat.reduceSub, Nat.reduceAdd, addW.eq_1, addW.eq_2, addW.eq_3, addW.eq_4, addW.eq_5, subW.eq_1, subW.eq_2, mulW.eq_1, mulW.eq_2, mulW.eq_3, intOp.eq_1, negW.eq_1, ordW.eq_1, ordW.eq_2, isW.eq_1, isntW.eq_1, ixW.eq_1, ixW.eq_2, ixW.eq_3, slW.eq_1, slW.eq_2, slW.eq_3, revTW.eq_1, revLW.eq_1, lenW.eq_1, lenW.eq_2, lenW.eq_3, tupleW.eq_1, tupleW.eq_2, listW.eq_1, listW.eq_2, min2W.eq_1, max2W.eq_1, strW.eq_1, strW.eq_2, joinW.eq_1, joinW.eq_2, walkLW.eq_1, walkTW.eq_1, walkSW.eq_1, range1W.eq_1, zipW.eq_1, zipW.eq_2, tupG.eq_1, gsW.eq_1, gsW.eq_2, par2.eq_1, extW.eq_1, extW.eq_2, partW.eq_1, optW.eq_1, optW.eq_2, modW, fdivW, powW, ltW, leW, gtW, geW, isNone, isi_non, isi_bl, isi_int, isi_str, isi_tup, isi_lst, upperW, putW, appW, tupW, lstW, asB_bl, String.reduceBEq, beq_self_eq_true, Bool.or_true, Bool.true_or, Bool.or_false, Bool.false_or, Bool.and_true, Bool.true_and, Bool.and_false, Bool.false_and, Bool.not_true, Bool.not_false, forall_const, true_implies, true_and, and_true, false_implies, reduceCtorEq, List.length_cons, List.length_nil, forall_eq, imp_self, implies_true, if_true, if_false, Bool.false_eq_true, Bool.true_eq_false]
  refine draw_wp (by decide) (by decide) fun r r0 r1 => ?_
  simp only [W.bind_wp, W.ret_wp, W.want_wp, W.any_wp, s_ite, s_get0, s_get, s_then, s_end, s_run, s_calm, s_fail, s_start1, s_start2, s_start3, s_start4, s_start5, List.replicate, List.set_cons_zero, List.set_cons_succ, asB_bl, asS_str, Nat.reduceSub, Nat.reduceAdd, addW.eq_1, addW.eq_2, addW.eq_3, addW.eq_4, addW.eq_5, subW.eq_1, subW.eq_2, mulW.eq_1, mulW.eq_2, mulW.eq_3, intOp.eq_1, negW.eq_1, ordW.eq_1, ordW.eq_2, isW.eq_1, isntW.eq_1, ixW.eq_1, ixW.eq_2, ixW.eq_3, slW.eq_1, slW.eq_2, slW.eq_3, revTW.eq_1, revLW.eq_1, lenW.eq_1, lenW.eq_2, lenW.eq_3, tupleW.eq_1, tupleW.eq_2, listW.eq_1, listW.eq_2, min2W.eq_1, max2W.eq_1, strW.eq_1, strW.eq_2, joinW.eq_1, joinW.eq_2, walkLW.eq_1, walkTW.eq_1, walkSW.eq_1, range1W.eq_1, zipW.eq_1, zipW.eq_2, tupG.eq_1, gsW.eq_1, gsW.eq_2, par2.eq_1, extW.eq_1, extW.eq_2, partW.eq_1, optW.eq_1, optW.eq_2, modW, fdivW, powW, ltW, leW, gtW, geW, isNone, isi_non, isi_bl, isi_int, isi_str, isi_tup, isi_lst, upperW, putW, appW, tupW, lstW, asB_bl, String.reduceBEq, beq_self_eq_true, Bool.or_true, Bool.true_or, Bool.or_false, Bool.false_or, Bool.and_true, Bool.true_and, Bool.and_false, Bool.false_and, Bool.not_true, Bool.not_false, forall_const, true_implies, true_and, and_true, false_implies, reduceCtorEq, List.length_cons, List.length_nil, forall_eq, imp_self, implies_true, if_true, if_false, Bool.false_eq_true, Bool.true_eq_false]
  refine names_wp (by omega) (by omega) fun fs lf fw _ => ?_
  refine draw_wp (by decide) (by decide) fun k k0 k1 => ?_
  simp only [W.bind_wp, W.ret_wp, W.want_wp, W.any_wp, s_ite, s_get0, s_get, s_then, s_end, s_run, s_calm, s_fail, s_start1, s_start2, s_start3, s_start4, s_start5, List.replicate, List.set_cons_zero, List.set_cons_succ, asB_bl, asS_str, Nat.reduceSub, Nat.reduceAdd, addW.eq_1, addW.eq_2, addW.eq_3, addW.eq_4, addW.eq_5, subW.eq_1, subW.eq_2, mulW.eq_1, mulW.eq_2, mulW.eq_3, intOp.eq_1, negW.eq_1, ordW.eq_1, ordW.eq_2, isW.eq_1, isntW.eq_1, ixW.eq_1, ixW.eq_2, ixW.eq_3, slW.eq_1, slW.eq_2, slW.eq_3, revTW.eq_1, revLW.eq_1, lenW.eq_1, lenW.eq_2, lenW.eq_3, tupleW.eq_1, tupleW.eq_2, listW.eq_1, listW.eq_2, min2W.eq_1, max2W.eq_1, strW.eq_1, strW.eq_2, joinW.eq_1, joinW.eq_2, walkLW.eq_1, walkTW.eq_1, walkSW.eq_1, range1W.eq_1, zipW.eq_1, zipW.eq_2, tupG.eq_1, gsW.eq_1, gsW.eq_2, par2.eq_1, extW.eq_1, extW.eq_2, partW.eq_1, optW.eq_1, optW.eq_2, modW, fdivW, powW, ltW, leW, gtW, geW, isNone, isi_non, isi_bl, isi_int, isi_str, isi_tup, isi_lst, upperW, putW, appW, tupW, lstW, asB_bl, String.reduceBEq, beq_self_eq_true, Bool.or_true, Bool.true_or, Bool.or_false, Bool.false_or, Bool.and_true, Bool.true_and, Bool.and_false, Bool.false_and, Bool.not_true, Bool.not_false, forall_const, true_implies, true_and, and_true, false_implies, reduceCtorEq, List.length_cons, List.length_nil, forall_eq, imp_self, implies_true, if_true, if_false, Bool.false_eq_true, Bool.true_eq_false]
  refine names_wp (by omega) (by omega) fun ss ls sw _ => ?_
  refine ⟨small (by decide), ?_⟩
  have f0 : fs ≠ [] := by
    intro z
    rw [z] at lf
    simp at lf
    omega
  have s0 : ss ≠ [] := by
    intro z
    rw [z] at ls
    simp at ls
    omega
  have f4 : fs.length ≤ 4 := by omega
  have s4 : ss.length ≤ 4 := by omega
  simp only [bLaw_13, W.bind_wp, W.ret_wp, W.want_wp, W.any_wp, s_ite, s_get0, s_get, s_then, s_end, s_run, s_calm, s_fail, s_start1, s_start2, s_start3, s_start4, s_start5, List.replicate, List.set_cons_zero, List.set_cons_succ, asB_bl, asS_str, Nat.reduceSub, Nat.reduceAdd, addW.eq_1, addW.eq_2, addW.eq_3, addW.eq_4, addW.eq_5, subW.eq_1, subW.eq_2, mulW.eq_1, mulW.eq_2, mulW.eq_3, intOp.eq_1, negW.eq_1, ordW.eq_1, ordW.eq_2, isW.eq_1, isntW.eq_1, ixW.eq_1, ixW.eq_2, ixW.eq_3, slW.eq_1, slW.eq_2, slW.eq_3, revTW.eq_1, revLW.eq_1, lenW.eq_1, lenW.eq_2, lenW.eq_3, tupleW.eq_1, tupleW.eq_2, listW.eq_1, listW.eq_2, min2W.eq_1, max2W.eq_1, strW.eq_1, strW.eq_2, joinW.eq_1, joinW.eq_2, walkLW.eq_1, walkTW.eq_1, walkSW.eq_1, range1W.eq_1, zipW.eq_1, zipW.eq_2, tupG.eq_1, gsW.eq_1, gsW.eq_2, par2.eq_1, extW.eq_1, extW.eq_2, partW.eq_1, optW.eq_1, optW.eq_2, modW, fdivW, powW, ltW, leW, gtW, geW, isNone, isi_non, isi_bl, isi_int, isi_str, isi_tup, isi_lst, upperW, putW, appW, tupW, lstW, asB_bl, String.reduceBEq, beq_self_eq_true, Bool.or_true, Bool.true_or, Bool.or_false, Bool.false_or, Bool.and_true, Bool.true_and, Bool.and_false, Bool.false_and, Bool.not_true, Bool.not_false, forall_const, true_implies, true_and, and_true, false_implies, reduceCtorEq, List.length_cons, List.length_nil, forall_eq, imp_self, implies_true, if_true, if_false, Bool.false_eq_true, Bool.true_eq_false]
  refine lcD_go ?_
  simp only [wipeE, W.bind_wp, W.ret_wp, W.want_wp, W.any_wp, s_ite, s_get0, s_get, s_then, s_end, s_run, s_calm, s_fail, s_start1, s_start2, s_start3, s_start4, s_start5, List.replicate, List.set_cons_zero, List.set_cons_succ, asB_bl, asS_str, Nat.reduceSub, Nat.reduceAdd, addW.eq_1, addW.eq_2, addW.eq_3, addW.eq_4, addW.eq_5, subW.eq_1, subW.eq_2, mulW.eq_1, mulW.eq_2, mulW.eq_3, intOp.eq_1, negW.eq_1, ordW.eq_1, ordW.eq_2, isW.eq_1, isntW.eq_1, ixW.eq_1, ixW.eq_2, ixW.eq_3, slW.eq_1, slW.eq_2, slW.eq_3, revTW.eq_1, revLW.eq_1, lenW.eq_1, lenW.eq_2, lenW.eq_3, tupleW.eq_1, tupleW.eq_2, listW.eq_1, listW.eq_2, min2W.eq_1, max2W.eq_1, strW.eq_1, strW.eq_2, joinW.eq_1, joinW.eq_2, walkLW.eq_1, walkTW.eq_1, walkSW.eq_1, range1W.eq_1, zipW.eq_1, zipW.eq_2, tupG.eq_1, gsW.eq_1, gsW.eq_2, par2.eq_1, extW.eq_1, extW.eq_2, partW.eq_1, optW.eq_1, optW.eq_2, modW, fdivW, powW, ltW, leW, gtW, geW, isNone, isi_non, isi_bl, isi_int, isi_str, isi_tup, isi_lst, upperW, putW, appW, tupW, lstW, asB_bl, String.reduceBEq, beq_self_eq_true, Bool.or_true, Bool.true_or, Bool.or_false, Bool.false_or, Bool.and_true, Bool.true_and, Bool.and_false, Bool.false_and, Bool.not_true, Bool.not_false, forall_const, true_implies, true_and, and_true, false_implies, reduceCtorEq, List.length_cons, List.length_nil, forall_eq, imp_self, implies_true, if_true, if_false, Bool.false_eq_true, Bool.true_eq_false]
  refine ⟨by decide, ?_⟩
  refine lcW_go (fun i acc => ∃ Ls : List (List PRow), acc = Ls.map rowsT ∧ Ls.length = i ∧ ∀ L ∈ Ls, LR fs ss 8 L) ⟨[], rfl, rfl, fun _ h => (nomatch h)⟩ (fun i d acc hd hp => ?_) (fun acc hp => ?_)
  · obtain ⟨Ls, rfl, lL, hL⟩ := hp
    obtain ⟨hi, rfl⟩ := rangeAt hd
    simp only [W.bind_wp, W.ret_wp, W.want_wp, W.any_wp, s_ite, s_get0, s_get, s_then, s_end, s_run, s_calm, s_fail, s_start1, s_start2, s_start3, s_start4, s_start5, List.replicate, List.set_cons_zero, List.set_cons_succ, asB_bl, asS_str, Nat.reduceSub, Nat.reduceAdd, addW.eq_1, addW.eq_2, addW.eq_3, addW.eq_4, addW.eq_5, subW.eq_1, subW.eq_2, mulW.eq_1, mulW.eq_2, mulW.eq_3, intOp.eq_1, negW.eq_1, ordW.eq_1, ordW.eq_2, isW.eq_1, isntW.eq_1, ixW.eq_1, ixW.eq_2, ixW.eq_3, slW.eq_1, slW.eq_2, slW.eq_3, revTW.eq_1, revLW.eq_1, lenW.eq_1, lenW.eq_2, lenW.eq_3, tupleW.eq_1, tupleW.eq_2, listW.eq_1, listW.eq_2, min2W.eq_1, max2W.eq_1, strW.eq_1, strW.eq_2, joinW.eq_1, joinW.eq_2, walkLW.eq_1, walkTW.eq_1, walkSW.eq_1, range1W.eq_1, zipW.eq_1, zipW.eq_2, tupG.eq_1, gsW.eq_1, gsW.eq_2, par2.eq_1, extW.eq_1, extW.eq_2, partW.eq_1, optW.eq_1, optW.eq_2, modW, fdivW, powW, ltW, leW, gtW, geW, isNone, isi_non, isi_bl, isi_int, isi_str, isi_tup, isi_lst, upperW, putW, appW, tupW, lstW, asB_bl, String.reduceBEq, beq_self_eq_true, Bool.or_true, Bool.true_or, Bool.or_false, Bool.false_or, Bool.and_true, Bool.true_and, Bool.and_false, Bool.false_and, Bool.not_true, Bool.not_false, forall_const, true_implies, true_and, and_true, false_implies, reduceCtorEq, List.length_cons, List.length_nil, forall_eq, imp_self, implies_true, if_true, if_false, Bool.false_eq_true, Bool.true_eq_false]
    refine lrows_wp (m := 8) f0 (by omega) s0 (by omega) (by decide) fun L lr => ⟨by rw [List.length_map]; exact smallT (by omega), Ls ++ [L], by rw [List.map_append]; rfl, by rw [List.length_append, lL]; rfl, fun M hM => ?_⟩
    rcases List.mem_append.mp hM with h | h
    · exact hL M h
    · rw [List.mem_singleton.mp h]
      exact lr
  · obtain ⟨Ls, rfl, lL, hL⟩ := hp
    have lL : Ls.length = 3 := by rw [lL]; exact rangeLen _ _
    have sz := (lots_sz fw sw hL (by omega)).mono (m' := 1900) (dp' := 64) (n' := sizeLine) (by decide) (by decide) (by decide)
    simp only [bLaw_12, reprD_eq sz, W.bind_wp, W.ret_wp, W.want_wp, W.any_wp, s_ite, s_get0, s_get, s_then, s_end, s_run, s_calm, s_fail, s_start1, s_start2, s_start3, s_start4, s_start5, List.replicate, List.set_cons_zero, List.set_cons_succ, asB_bl, asS_str, Nat.reduceSub, Nat.reduceAdd, addW.eq_1, addW.eq_2, addW.eq_3, addW.eq_4, addW.eq_5, subW.eq_1, subW.eq_2, mulW.eq_1, mulW.eq_2, mulW.eq_3, intOp.eq_1, negW.eq_1, ordW.eq_1, ordW.eq_2, isW.eq_1, isntW.eq_1, ixW.eq_1, ixW.eq_2, ixW.eq_3, slW.eq_1, slW.eq_2, slW.eq_3, revTW.eq_1, revLW.eq_1, lenW.eq_1, lenW.eq_2, lenW.eq_3, tupleW.eq_1, tupleW.eq_2, listW.eq_1, listW.eq_2, min2W.eq_1, max2W.eq_1, strW.eq_1, strW.eq_2, joinW.eq_1, joinW.eq_2, walkLW.eq_1, walkTW.eq_1, walkSW.eq_1, range1W.eq_1, zipW.eq_1, zipW.eq_2, tupG.eq_1, gsW.eq_1, gsW.eq_2, par2.eq_1, extW.eq_1, extW.eq_2, partW.eq_1, optW.eq_1, optW.eq_2, modW, fdivW, powW, ltW, leW, gtW, geW, isNone, isi_non, isi_bl, isi_int, isi_str, isi_tup, isi_lst, upperW, putW, appW, tupW, lstW, asB_bl, String.reduceBEq, beq_self_eq_true, Bool.or_true, Bool.true_or, Bool.or_false, Bool.false_or, Bool.and_true, Bool.true_and, Bool.and_false, Bool.false_and, Bool.not_true, Bool.not_false, forall_const, true_implies, true_and, and_true, false_implies, reduceCtorEq, List.length_cons, List.length_nil, forall_eq, imp_self, implies_true, if_true, if_false, Bool.false_eq_true, Bool.true_eq_false]
    simp only [bLaw_11, W.bind_wp, W.ret_wp, W.want_wp, W.any_wp, s_ite, s_get0, s_get, s_then, s_end, s_run, s_calm, s_fail, s_start1, s_start2, s_start3, s_start4, s_start5, List.replicate, List.set_cons_zero, List.set_cons_succ, asB_bl, asS_str, Nat.reduceSub, Nat.reduceAdd, addW.eq_1, addW.eq_2, addW.eq_3, addW.eq_4, addW.eq_5, subW.eq_1, subW.eq_2, mulW.eq_1, mulW.eq_2, mulW.eq_3, intOp.eq_1, negW.eq_1, ordW.eq_1, ordW.eq_2, isW.eq_1, isntW.eq_1, ixW.eq_1, ixW.eq_2, ixW.eq_3, slW.eq_1, slW.eq_2, slW.eq_3, revTW.eq_1, revLW.eq_1, lenW.eq_1, lenW.eq_2, lenW.eq_3, tupleW.eq_1, tupleW.eq_2, listW.eq_1, listW.eq_2, min2W.eq_1, max2W.eq_1, strW.eq_1, strW.eq_2, joinW.eq_1, joinW.eq_2, walkLW.eq_1, walkTW.eq_1, walkSW.eq_1, range1W.eq_1, zipW.eq_1, zipW.eq_2, tupG.eq_1, gsW.eq_1, gsW.eq_2, par2.eq_1, extW.eq_1, extW.eq_2, partW.eq_1, optW.eq_1, optW.eq_2, modW, fdivW, powW, ltW, leW, gtW, geW, isNone, isi_non, isi_bl, isi_int, isi_str, isi_tup, isi_lst, upperW, putW, appW, tupW, lstW, asB_bl, String.reduceBEq, beq_self_eq_true, Bool.or_true, Bool.true_or, Bool.or_false, Bool.false_or, Bool.and_true, Bool.true_and, Bool.and_false, Bool.false_and, Bool.not_true, Bool.not_false, forall_const, true_implies, true_and, and_true, false_implies, reduceCtorEq, List.length_cons, List.length_nil, forall_eq, imp_self, implies_true, if_true, if_false, Bool.false_eq_true, Bool.true_eq_false]
    refine Ret.go (lc_map (ds := Ls.map rowsT) (fun d => match rowsOf d with | some L => heapD (sumR L) | none => d) (fun Q E q => q) (by rw [List.length_map]; exact small (by omega)) fun d hd => ?_) ?_
    · obtain ⟨L, hl, rfl⟩ := List.mem_map.mp hd
      have := (hL L hl).len
      simp only [wipeE, W.bind_wp, W.ret_wp, W.want_wp, W.any_wp, s_ite, s_get0, s_get, s_then, s_end, s_run, s_calm, s_fail, s_start1, s_start2, s_start3, s_start4, s_start5, List.replicate, List.set_cons_zero, List.set_cons_succ, asB_bl, asS_str, Nat.reduceSub, Nat.reduceAdd, addW.eq_1, addW.eq_2, addW.eq_3, addW.eq_4, addW.eq_5, subW.eq_1, subW.eq_2, mulW.eq_1, mulW.eq_2, mulW.eq_3, intOp.eq_1, negW.eq_1, ordW.eq_1, ordW.eq_2, isW.eq_1, isntW.eq_1, ixW.eq_1, ixW.eq_2, ixW.eq_3, slW.eq_1, slW.eq_2, slW.eq_3, revTW.eq_1, revLW.eq_1, lenW.eq_1, lenW.eq_2, lenW.eq_3, tupleW.eq_1, tupleW.eq_2, listW.eq_1, listW.eq_2, min2W.eq_1, max2W.eq_1, strW.eq_1, strW.eq_2, joinW.eq_1, joinW.eq_2, walkLW.eq_1, walkTW.eq_1, walkSW.eq_1, range1W.eq_1, zipW.eq_1, zipW.eq_2, tupG.eq_1, gsW.eq_1, gsW.eq_2, par2.eq_1, extW.eq_1, extW.eq_2, partW.eq_1, optW.eq_1, optW.eq_2, modW, fdivW, powW, ltW, leW, gtW, geW, isNone, isi_non, isi_bl, isi_int, isi_str, isi_tup, isi_lst, upperW, putW, appW, tupW, lstW, asB_bl, String.reduceBEq, beq_self_eq_true, Bool.or_true, Bool.true_or, Bool.or_false, Bool.false_or, Bool.and_true, Bool.true_and, Bool.and_false, Bool.false_and, Bool.not_true, Bool.not_false, forall_const, true_implies, true_and, and_true, false_implies, reduceCtorEq, List.length_cons, List.length_nil, forall_eq, imp_self, implies_true, if_true, if_false, Bool.false_eq_true, Bool.true_eq_false]
      rw [heapW_rows _ (by omega), rowsOf_T]
      exact rfl
    have e1 : (Ls.map rowsT).map (fun d => match rowsOf d with | some L => heapD (sumR L) | none => d) = (Ls.map sumR).map heapD := by
      rw [List.map_map, List.map_map]
      refine List.map_congr_left fun L _ => ?_
      show (match rowsOf (rowsT L) with | some L => heapD (sumR L) | none => rowsT L) = _
      rw [rowsOf_T]
      rfl
    rw [e1]
    refine ⟨by decide, ?_⟩
    simp only [bLaw_10, W.bind_wp, W.ret_wp, W.want_wp, W.any_wp, s_ite, s_get0, s_get, s_then, s_end, s_run, s_calm, s_fail, s_start1, s_start2, s_start3, s_start4, s_start5, List.replicate, List.set_cons_zero, List.set_cons_succ, asB_bl, asS_str, Nat.reduceSub, Nat.reduceAdd, addW.eq_1, addW.eq_2, addW.eq_3, addW.eq_4, addW.eq_5, subW.eq_1, subW.eq_2, mulW.eq_1, mulW.eq_2, mulW.eq_3, intOp.eq_1, negW.eq_1, ordW.eq_1, ordW.eq_2, isW.eq_1, isntW.eq_1, ixW.eq_1, ixW.eq_2, ixW.eq_3, slW.eq_1, slW.eq_2, slW.eq_3, revTW.eq_1, revLW.eq_1, lenW.eq_1, lenW.eq_2, lenW.eq_3, tupleW.eq_1, tupleW.eq_2, listW.eq_1, listW.eq_2, min2W.eq_1, max2W.eq_1, strW.eq_1, strW.eq_2, joinW.eq_1, joinW.eq_2, walkLW.eq_1, walkTW.eq_1, walkSW.eq_1, range1W.eq_1, zipW.eq_1, zipW.eq_2, tupG.eq_1, gsW.eq_1, gsW.eq_2, par2.eq_1, extW.eq_1, extW.eq_2, partW.eq_1, optW.eq_1, optW.eq_2, modW, fdivW, powW, ltW, leW, gtW, geW, isNone, isi_non, isi_bl, isi_int, isi_str, isi_tup, isi_lst, upperW, putW, appW, tupW, lstW, asB_bl, String.reduceBEq, beq_self_eq_true, Bool.or_true, Bool.true_or, Bool.or_false, Bool.false_or, Bool.and_true, Bool.true_and, Bool.and_false, Bool.false_and, Bool.not_true, Bool.not_false, forall_const, true_implies, true_and, and_true, false_implies, reduceCtorEq, List.length_cons, List.length_nil, forall_eq, imp_self, implies_true, if_true, if_false, Bool.false_eq_true, Bool.true_eq_false]
    refine Ret.go (lc_map (ds := Ls.map rowsT) (fun d => match rowsOf d with | some L => rowsT (sumR L) | none => d) (fun Q E q => q) (by rw [List.length_map]; exact small (by omega)) fun d hd => ?_) ?_
    · obtain ⟨L, hl, rfl⟩ := List.mem_map.mp hd
      have := (hL L hl).len
      simp only [wipeE, W.bind_wp, W.ret_wp, W.want_wp, W.any_wp, s_ite, s_get0, s_get, s_then, s_end, s_run, s_calm, s_fail, s_start1, s_start2, s_start3, s_start4, s_start5, List.replicate, List.set_cons_zero, List.set_cons_succ, asB_bl, asS_str, Nat.reduceSub, Nat.reduceAdd, addW.eq_1, addW.eq_2, addW.eq_3, addW.eq_4, addW.eq_5, subW.eq_1, subW.eq_2, mulW.eq_1, mulW.eq_2, mulW.eq_3, intOp.eq_1, negW.eq_1, ordW.eq_1, ordW.eq_2, isW.eq_1, isntW.eq_1, ixW.eq_1, ixW.eq_2, ixW.eq_3, slW.eq_1, slW.eq_2, slW.eq_3, revTW.eq_1, revLW.eq_1, lenW.eq_1, lenW.eq_2, lenW.eq_3, tupleW.eq_1, tupleW.eq_2, listW.eq_1, listW.eq_2, min2W.eq_1, max2W.eq_1, strW.eq_1, strW.eq_2, joinW.eq_1, joinW.eq_2, walkLW.eq_1, walkTW.eq_1, walkSW.eq_1, range1W.eq_1, zipW.eq_1, zipW.eq_2, tupG.eq_1, gsW.eq_1, gsW.eq_2, par2.eq_1, extW.eq_1, extW.eq_2, partW.eq_1, optW.eq_1, optW.eq_2, modW, fdivW, powW, ltW, leW, gtW, geW, isNone, isi_non, isi_bl, isi_int, isi_str, isi_tup, isi_lst, upperW, putW, appW, tupW, lstW, asB_bl, String.reduceBEq, beq_self_eq_true, Bool.or_true, Bool.true_or, Bool.or_false, Bool.false_or, Bool.and_true, Bool.true_and, Bool.and_false, Bool.false_and, Bool.not_true, Bool.not_false, forall_const, true_implies, true_and, and_true, false_implies, reduceCtorEq, List.length_cons, List.length_nil, forall_eq, imp_self, implies_true, if_true, if_false, Bool.false_eq_true, Bool.true_eq_false]
      refine (summed_ret L (by omega)).go ?_
      rw [rowsOf_T]
    have e2 : (Ls.map rowsT).map (fun d => match rowsOf d with | some L => rowsT (sumR L) | none => d) = (Ls.map sumR).map rowsT := by
      rw [List.map_map, List.map_map]
      refine List.map_congr_left fun L _ => ?_
      show (match rowsOf (rowsT L) with | some L => rowsT (sumR L) | none => rowsT L) = _
      rw [rowsOf_T]
      rfl
    rw [e2]
    refine ⟨by decide, ?_⟩
    simp only [bLaw_9, W.bind_wp, W.ret_wp, W.want_wp, W.any_wp, s_ite, s_get0, s_get, s_then, s_end, s_run, s_calm, s_fail, s_start1, s_start2, s_start3, s_start4, s_start5, List.replicate, List.set_cons_zero, List.set_cons_succ, asB_bl, asS_str, Nat.reduceSub, Nat.reduceAdd, addW.eq_1, addW.eq_2, addW.eq_3, addW.eq_4, addW.eq_5, subW.eq_1, subW.eq_2, mulW.eq_1, mulW.eq_2, mulW.eq_3, intOp.eq_1, negW.eq_1, ordW.eq_1, ordW.eq_2, isW.eq_1, isntW.eq_1, ixW.eq_1, ixW.eq_2, ixW.eq_3, slW.eq_1, slW.eq_2, slW.eq_3, revTW.eq_1, revLW.eq_1, lenW.eq_1, lenW.eq_2, lenW.eq_3, tupleW.eq_1, tupleW.eq_2, listW.eq_1, listW.eq_2, min2W.eq_1, max2W.eq_1, strW.eq_1, strW.eq_2, joinW.eq_1, joinW.eq_2, walkLW.eq_1, walkTW.eq_1, walkSW.eq_1, range1W.eq_1, zipW.eq_1, zipW.eq_2, tupG.eq_1, gsW.eq_1, gsW.eq_2, par2.eq_1, extW.eq_1, extW.eq_2, partW.eq_1, optW.eq_1, optW.eq_2, modW, fdivW, powW, ltW, leW, gtW, geW, isNone, isi_non, isi_bl, isi_int, isi_str, isi_tup, isi_lst, upperW, putW, appW, tupW, lstW, asB_bl, String.reduceBEq, beq_self_eq_true, Bool.or_true, Bool.true_or, Bool.or_false, Bool.false_or, Bool.and_true, Bool.true_and, Bool.and_false, Bool.false_and, Bool.not_true, Bool.not_false, forall_const, true_implies, true_and, and_true, false_implies, reduceCtorEq, List.length_cons, List.length_nil, forall_eq, imp_self, implies_true, if_true, if_false, Bool.false_eq_true, Bool.true_eq_false]
    refine ⟨by decide, ?_⟩
    refine forW_wp0 (fun i env => ∃ (Gs : List (List PRow)) (y5 y8 y10 y11 y12 y13 y14 y15 y16 : Option D), env = [none, some (.tok 0), some (.lst (fs.map D.str)), some (.lst (ss.map D.str)), some (.lst (Ls.map rowsT)), y5, some (rp (.lst (Ls.map rowsT))), some (.lst (Gs.map heapD)), y8, some (.lst (Gs.map rowsT)), y10, y11, y12, y13, y14, y15, y16] ∧ Gs.length = 3 + i ∧ ∀ G ∈ Gs, Kn fs ss (Bd i) G)
      ⟨Ls.map sumR, _, _, _, _, _, _, _, _, _, rfl, by rw [List.length_map]; omega, fun G hG => ?_⟩ (fun i d env hd hp => ?_) (fun env hp => ?_)
    · obtain ⟨L, hl, rfl⟩ := List.mem_map.mp hG
      exact Kn.start (hL L hl)
    · obtain ⟨Gs, y5, y8, y10, y11, y12, y13, y14, y15, y16, rfl, lG, hG⟩ := hp
      obtain ⟨hi, rfl⟩ := rangeAt hd
      have hi : i < 10 := by omega
      simp only [W.bind_wp, W.ret_wp, W.want_wp, W.any_wp, s_ite, s_get0, s_get, s_then, s_end, s_run, s_calm, s_fail, s_start1, s_start2, s_start3, s_start4, s_start5, List.replicate, List.set_cons_zero, List.set_cons_succ, asB_bl, asS_str, Nat.reduceSub, Nat.reduceAdd, addW.eq_1, addW.eq_2, addW.eq_3, addW.eq_4, addW.eq_5, subW.eq_1, subW.eq_2, mulW.eq_1, mulW.eq_2, mulW.eq_3, intOp.eq_1, negW.eq_1, ordW.eq_1, ordW.eq_2, isW.eq_1, isntW.eq_1, ixW.eq_1, ixW.eq_2, ixW.eq_3, slW.eq_1, slW.eq_2, slW.eq_3, revTW.eq_1, revLW.eq_1, lenW.eq_1, lenW.eq_2, lenW.eq_3, tupleW.eq_1, tupleW.eq_2, listW.eq_1, listW.eq_2, min2W.eq_1, max2W.eq_1, strW.eq_1, strW.eq_2, joinW.eq_1, joinW.eq_2, walkLW.eq_1, walkTW.eq_1, walkSW.eq_1, range1W.eq_1, zipW.eq_1, zipW.eq_2, tupG.eq_1, gsW.eq_1, gsW.eq_2, par2.eq_1, extW.eq_1, extW.eq_2, partW.eq_1, optW.eq_1, optW.eq_2, modW, fdivW, powW, ltW, leW, gtW, geW, isNone, isi_non, isi_bl, isi_int, isi_str, isi_tup, isi_lst, upperW, putW, appW, tupW, lstW, asB_bl, String.reduceBEq, beq_self_eq_true, Bool.or_true, Bool.true_or, Bool.or_false, Bool.false_or, Bool.and_true, Bool.true_and, Bool.and_false, Bool.false_and, Bool.not_true, Bool.not_false, forall_const, true_implies, true_and, and_true, false_implies, reduceCtorEq, List.length_cons, List.length_nil, forall_eq, imp_self, implies_true, if_true, if_false, Bool.false_eq_true, Bool.true_eq_false]
      refine l8_wp (i := i) (by omega) f0 f4 s4 fw sw hG (fun z => by rw [z] at lG; simp at lG; omega) (by omega) fun G z10 z11 z12 z13 z14 z15 z16 kG => ?_
      refine ⟨Gs ++ [G], _, _, _, _, _, _, _, _, _, rfl, by rw [List.length_append, List.length_singleton]; omega, fun G' hG' => ?_⟩
      rcases List.mem_append.mp hG' with h | h
      · exact (hG G' h).mono (by rw [Bd_succ]; have := Bd_one i; omega)
      · rw [List.mem_singleton.mp h]
        exact kG
    · obtain ⟨Gs, y5, y8, y10, y11, y12, y13, y14, y15, y16, rfl, lG, hG⟩ := hp
      simp only [reprD_eq sz, rp_self, W.bind_wp, W.ret_wp, W.want_wp, W.any_wp, s_ite, s_get0, s_get, s_then, s_end, s_run, s_calm, s_fail, s_start1, s_start2, s_start3, s_start4, s_start5, List.replicate, List.set_cons_zero, List.set_cons_succ, asB_bl, asS_str, Nat.reduceSub, Nat.reduceAdd, addW.eq_1, addW.eq_2, addW.eq_3, addW.eq_4, addW.eq_5, subW.eq_1, subW.eq_2, mulW.eq_1, mulW.eq_2, mulW.eq_3, intOp.eq_1, negW.eq_1, ordW.eq_1, ordW.eq_2, isW.eq_1, isntW.eq_1, ixW.eq_1, ixW.eq_2, ixW.eq_3, slW.eq_1, slW.eq_2, slW.eq_3, revTW.eq_1, revLW.eq_1, lenW.eq_1, lenW.eq_2, lenW.eq_3, tupleW.eq_1, tupleW.eq_2, listW.eq_1, listW.eq_2, min2W.eq_1, max2W.eq_1, strW.eq_1, strW.eq_2, joinW.eq_1, joinW.eq_2, walkLW.eq_1, walkTW.eq_1, walkSW.eq_1, range1W.eq_1, zipW.eq_1, zipW.eq_2, tupG.eq_1, gsW.eq_1, gsW.eq_2, par2.eq_1, extW.eq_1, extW.eq_2, partW.eq_1, optW.eq_1, optW.eq_2, modW, fdivW, powW, ltW, leW, gtW, geW, isNone, isi_non, isi_bl, isi_int, isi_str, isi_tup, isi_lst, upperW, putW, appW, tupW, lstW, asB_bl, String.reduceBEq, beq_self_eq_true, Bool.or_true, Bool.true_or, Bool.or_false, Bool.false_or, Bool.and_true, Bool.true_and, Bool.and_false, Bool.false_and, Bool.not_true, Bool.not_false, forall_const, true_implies, true_and, and_true, false_implies, reduceCtorEq, List.length_cons, List.length_nil, forall_eq, imp_self, implies_true, if_true, if_false, Bool.false_eq_true, Bool.true_eq_false]
      exact ⟨true, rfl, rfl⟩
end LP.K17
namespace LP.K17
open PySem PySem.Spec PyProof.Rows L2 PK LP RZ
open _root_.K17
section
variable {K : PySem.W.Frag}
theorem kb_m2 {f : Addr} {fd : FuncData} (F : FunM K f fd) : KB K fd ["self", "form", "shade"] 2 [] (fun vs _ => vs ++ [.non]) :=
  kb_of F 2 [] (fun vs ds _ => vs ++ ds) (by simp) (fun r d _ => r.append d) fun T kV doc pm an cdv ct us its ws h1 h2 h3 => by
    match us, its, ws, h1, h2, h3 with
    | [a, b], [c], [], _, _, _ => exact ⟨_, rfl, rfl⟩
theorem kb_m3 {f : Addr} {fd : FuncData} (F : FunM K f fd) : KB K fd ["self", "form", "shade"] 3 [] (fun vs _ => vs) :=
  kb_of F 3 [] (fun vs _ _ => vs) (by simp) (fun r _ _ => r) fun T kV doc pm an cdv ct us its ws h1 h2 h3 => by
    match us, its, ws, h1, h2, h3 with
    | [a, b, e], [c], [], _, _, _ => exact ⟨_, rfl, rfl⟩
theorem kb_mf {f : Addr} {fd : FuncData} (F : FunM K f fd) : KB K fd ["self", "form", "shade"] 1 ["form"] (fun vs zs => vs ++ (zs ++ [.non])) :=
  kb_of F 1 ["form"] (fun vs ds zs => vs ++ (zs ++ ds)) (by simp) (fun r d z => r.append (z.append d)) fun T kV doc pm an cdv ct us its ws h1 h2 h3 => by
    match us, its, ws, h1, h2, h3 with
    | [a], [c], [e], _, _, _ => exact ⟨_, rfl, rfl⟩
theorem kb_ms {f : Addr} {fd : FuncData} (F : FunM K f fd) : KB K fd ["self", "form", "shade"] 2 ["shade"] (fun vs zs => vs ++ zs) :=
  kb_of F 2 ["shade"] (fun vs _ zs => vs ++ zs) (by simp) (fun r _ z => r.append z) fun T kV doc pm an cdv ct us its ws h1 h2 h3 => by
    match us, its, ws, h1, h2, h3 with
    | [a, b], [c], [e], _, _, _ => exact ⟨_, rfl, rfl⟩
theorem kb_msf {f : Addr} {fd : FuncData} (F : FunM K f fd) : KB K fd ["self", "form", "shade"] 1 ["shade", "form"] (fun vs zs => vs ++ zs.reverse) :=
  kb_of F 1 ["shade", "form"] (fun vs _ zs => vs ++ zs.reverse) (by simp) (fun r _ z => r.append z.reverse) fun T kV doc pm an cdv ct us its ws h1 h2 h3 => by
    match us, its, ws, h1, h2, h3 with
    | [a], [c], [e, g], _, _, _ => exact ⟨_, rfl, rfl⟩
theorem b_many3 {f : Addr} {fd : FuncData} (F : FunM K f fd) : ∃ ds, Vals ([] : List V) ds ∧ Binds K fd ["self", "form", "shade"] ds := by
  refine F.binds1 (ps := ["self", "form", "shade"]) 3 1 (by simp) rfl fun T kV doc pm an cdv ct us its h1 h2 => ?_
  match us, its, h1, h2 with
  | [a, b, c], [d], _, _ => exact ⟨_, rfl, rfl⟩
end
theorem all_mk {l : PySem.W.OpenLaw} {w : World} {K : PySem.W.Frag} {h : Heap} {mg : Str → Option Value} {fa : Addr} (X : K.In h) (G : h.Ns mainGlobals mg) (hfa : mg "law" = some (.ref fa))
    {f_feed : Addr} {od_feed an_feed : Option Addr} {sl_feed : Array (Option Value)} {oc_feed kV_feed dc_feed pm_feed cd_feed ct_feed : Value}
    (a_feed : PySem.W.nsIn K mainGlobals "_law_feed" = some (some (.ref f_feed))) (l_feed : K.lookup f_feed = some ⟨oc_feed, od_feed, .func (PySem.W.fnOf "_law_feed" "_law_feed" (defArgs (topS 9)) (defBody (topS 9)) (defScope (topS 9)) .none kV_feed dc_feed pm_feed an_feed cd_feed ct_feed), sl_feed⟩) (c_feed : PySem.W.codeIn K cd_feed "_law_feed" = true) (k_feed : PySem.W.keepIn K (.ref f_feed) = true)
    {f_Draw : Addr} {od_Draw an_Draw : Option Addr} {sl_Draw : Array (Option Value)} {oc_Draw kV_Draw dc_Draw pm_Draw cd_Draw ct_Draw : Value}
    (a_Draw : PySem.W.nsIn K mainGlobals "_law_draw" = some (some (.ref f_Draw))) (l_Draw : K.lookup f_Draw = some ⟨oc_Draw, od_Draw, .func (PySem.W.fnOf "_law_draw" "_law_draw" (defArgs (topS 10)) (defBody (topS 10)) (defScope (topS 10)) .none kV_Draw dc_Draw pm_Draw an_Draw cd_Draw ct_Draw), sl_Draw⟩) (c_Draw : PySem.W.codeIn K cd_Draw "_law_draw" = true) (k_Draw : PySem.W.keepIn K (.ref f_Draw) = true)
    {f_added : Addr} {od_added an_added : Option Addr} {sl_added : Array (Option Value)} {oc_added kV_added dc_added pm_added cd_added ct_added : Value}
    (a_added : PySem.W.nsIn K mainGlobals "added_rows" = some (some (.ref f_added))) (l_added : K.lookup f_added = some ⟨oc_added, od_added, .func (PySem.W.fnOf "added_rows" "added_rows" (defArgs (topS 5)) (defBody (topS 5)) (defScope (topS 5)) .none kV_added dc_added pm_added an_added cd_added ct_added), sl_added⟩) (c_added : PySem.W.codeIn K cd_added "added_rows" = true) (k_added : PySem.W.keepIn K (.ref f_added) = true)
    {f_above : Addr} {od_above an_above : Option Addr} {sl_above : Array (Option Value)} {oc_above kV_above dc_above pm_above cd_above ct_above : Value}
    (a_above : PySem.W.nsIn K mainGlobals "rows_above" = some (some (.ref f_above))) (l_above : K.lookup f_above = some ⟨oc_above, od_above, .func (PySem.W.fnOf "rows_above" "rows_above" (defArgs (topS 6)) (defBody (topS 6)) (defScope (topS 6)) .none kV_above dc_above pm_above an_above cd_above ct_above), sl_above⟩) (c_above : PySem.W.codeIn K cd_above "rows_above" = true) (k_above : PySem.W.keepIn K (.ref f_above) = true)
    {f_LNames : Addr} {od_LNames an_LNames : Option Addr} {sl_LNames : Array (Option Value)} {oc_LNames kV_LNames dc_LNames pm_LNames cd_LNames ct_LNames : Value}
    (a_LNames : PySem.W.nsIn K mainGlobals "_law_names" = some (some (.ref f_LNames))) (l_LNames : K.lookup f_LNames = some ⟨oc_LNames, od_LNames, .func (PySem.W.fnOf "_law_names" "_law_names" (defArgs (topS 11)) (defBody (topS 11)) (defScope (topS 11)) .none kV_LNames dc_LNames pm_LNames an_LNames cd_LNames ct_LNames), sl_LNames⟩) (c_LNames : PySem.W.codeIn K cd_LNames "_law_names" = true) (k_LNames : PySem.W.keepIn K (.ref f_LNames) = true)
    {f_LMany : Addr} {od_LMany an_LMany : Option Addr} {sl_LMany : Array (Option Value)} {oc_LMany kV_LMany dc_LMany pm_LMany cd_LMany ct_LMany : Value}
    (a_LMany : PySem.W.nsIn K mainGlobals "_law_many" = some (some (.ref f_LMany))) (l_LMany : K.lookup f_LMany = some ⟨oc_LMany, od_LMany, .func (PySem.W.fnOf "_law_many" "_law_many" (defArgs (topS 12)) (defBody (topS 12)) (defScope (topS 12)) .none kV_LMany dc_LMany pm_LMany an_LMany cd_LMany ct_LMany), sl_LMany⟩) (c_LMany : PySem.W.codeIn K cd_LMany "_law_many" = true) (k_LMany : PySem.W.keepIn K (.ref f_LMany) = true)
    {f_LRows : Addr} {od_LRows an_LRows : Option Addr} {sl_LRows : Array (Option Value)} {oc_LRows kV_LRows dc_LRows pm_LRows cd_LRows ct_LRows : Value}
    (a_LRows : PySem.W.nsIn K mainGlobals "_law_rows" = some (some (.ref f_LRows))) (l_LRows : K.lookup f_LRows = some ⟨oc_LRows, od_LRows, .func (PySem.W.fnOf "_law_rows" "_law_rows" (defArgs (topS 13)) (defBody (topS 13)) (defScope (topS 13)) .none kV_LRows dc_LRows pm_LRows an_LRows cd_LRows ct_LRows), sl_LRows⟩) (c_LRows : PySem.W.codeIn K cd_LRows "_law_rows" = true) (k_LRows : PySem.W.keepIn K (.ref f_LRows) = true)
    {f_Summed : Addr} {od_Summed an_Summed : Option Addr} {sl_Summed : Array (Option Value)} {oc_Summed kV_Summed dc_Summed pm_Summed cd_Summed ct_Summed : Value}
    (a_Summed : PySem.W.nsIn K mainGlobals "_law_summed" = some (some (.ref f_Summed))) (l_Summed : K.lookup f_Summed = some ⟨oc_Summed, od_Summed, .func (PySem.W.fnOf "_law_summed" "_law_summed" (defArgs (topS 14)) (defBody (topS 14)) (defScope (topS 14)) .none kV_Summed dc_Summed pm_Summed an_Summed cd_Summed ct_Summed), sl_Summed⟩) (c_Summed : PySem.W.codeIn K cd_Summed "_law_summed" = true) (k_Summed : PySem.W.keepIn K (.ref f_Summed) = true)
    {f_Shown : Addr} {od_Shown an_Shown : Option Addr} {sl_Shown : Array (Option Value)} {oc_Shown kV_Shown dc_Shown pm_Shown cd_Shown ct_Shown : Value}
    (a_Shown : PySem.W.nsIn K mainGlobals "_law_shown" = some (some (.ref f_Shown))) (l_Shown : K.lookup f_Shown = some ⟨oc_Shown, od_Shown, .func (PySem.W.fnOf "_law_shown" "_law_shown" (defArgs (topS 17)) (defBody (topS 17)) (defScope (topS 17)) .none kV_Shown dc_Shown pm_Shown an_Shown cd_Shown ct_Shown), sl_Shown⟩) (c_Shown : PySem.W.codeIn K cd_Shown "_law_shown" = true) (k_Shown : PySem.W.keepIn K (.ref f_Shown) = true)
    {f_Deed : Addr} {od_Deed an_Deed : Option Addr} {sl_Deed : Array (Option Value)} {oc_Deed kV_Deed dc_Deed pm_Deed cd_Deed ct_Deed : Value}
    (a_Deed : PySem.W.nsIn K mainGlobals "_law_deed" = some (some (.ref f_Deed))) (l_Deed : K.lookup f_Deed = some ⟨oc_Deed, od_Deed, .func (PySem.W.fnOf "_law_deed" "_law_deed" (defArgs (topS 15)) (defBody (topS 15)) (defScope (topS 15)) .none kV_Deed dc_Deed pm_Deed an_Deed cd_Deed ct_Deed), sl_Deed⟩) (c_Deed : PySem.W.codeIn K cd_Deed "_law_deed" = true) (k_Deed : PySem.W.keepIn K (.ref f_Deed) = true)
    {f_Due : Addr} {od_Due an_Due : Option Addr} {sl_Due : Array (Option Value)} {oc_Due kV_Due dc_Due pm_Due cd_Due ct_Due : Value}
    (a_Due : PySem.W.nsIn K mainGlobals "_law_due" = some (some (.ref f_Due))) (l_Due : K.lookup f_Due = some ⟨oc_Due, od_Due, .func (PySem.W.fnOf "_law_due" "_law_due" (defArgs (topS 16)) (defBody (topS 16)) (defScope (topS 16)) .none kV_Due dc_Due pm_Due an_Due cd_Due ct_Due), sl_Due⟩) (c_Due : PySem.W.codeIn K cd_Due "_law_due" = true) (k_Due : PySem.W.keepIn K (.ref f_Due) = true)
    {f_law : Addr} {od_law an_law : Option Addr} {sl_law : Array (Option Value)} {oc_law kV_law dc_law pm_law cd_law ct_law : Value}
    (a_law : PySem.W.nsIn K mainGlobals "law" = some (some (.ref f_law))) (l_law : K.lookup f_law = some ⟨oc_law, od_law, .func (PySem.W.fnOf "law" "law" (defArgs (topS 18)) (defBody (topS 18)) (defScope (topS 18)) .none kV_law dc_law pm_law an_law cd_law ct_law), sl_law⟩) (c_law : PySem.W.codeIn K cd_law "law" = true) (k_law : PySem.W.keepIn K (.ref f_law) = true)
    {C_heap : Addr} (a_heap : PySem.W.nsIn K mainGlobals "Heap" = some (some (.ref C_heap)))
    (pg_heap : PySem.W.plainGet K C_heap Str.empty = true) (hd_heap : PySem.W.hasDictIn K C_heap = true) (po_heap : PySem.W.plainOver K C_heap = true) (sa_heap : PySem.W.findIn K (.ref C_heap) "__setattr__" = some (some (.builtin "object.__setattr__"))) (mk_heap : PySem.W.makesIn K C_heap = true) (kc_heap : PySem.W.keepIn K (.ref C_heap) = true)
    (n_heap_held : PySem.W.findIn K (.ref C_heap) "held" = some none)
    {f_init : Addr} {od_init an_init : Option Addr} {sl_init : Array (Option Value)} {oc_init kV_init dc_init pm_init cd_init ct_init : Value}
    {T_init : Addr} {odT_init : Option Addr} {slT_init : Array (Option Value)} {nT_init : Nat} {ocT_init : Value}
    (a_init : PySem.W.findIn K (.ref C_heap) "__init__" = some (some (.ref f_init))) (i_init : PySem.W.isFn K (.ref f_init) = true) (l_init : K.lookup f_init = some ⟨oc_init, od_init, .func (PySem.W.fnOf "__init__" "Heap.__init__" (defArgs (inClass (topS 7) 0)) (defBody (inClass (topS 7) 0)) (defScope (inClass (topS 7) 0)) (.ref T_init) kV_init dc_init pm_init an_init cd_init ct_init), sl_init⟩) (t_init : K.lookup T_init = some ⟨ocT_init, odT_init, .seq #[.none] nT_init, slT_init⟩) (c_init : PySem.W.codeIn K cd_init "Heap.__init__" = true) (k_init : PySem.W.keepIn K (.ref f_init) = true)
    {f_rows : Addr} {od_rows an_rows : Option Addr} {sl_rows : Array (Option Value)} {oc_rows kV_rows dc_rows pm_rows cd_rows ct_rows : Value}
    (a_rows : PySem.W.findIn K (.ref C_heap) "rows" = some (some (.ref f_rows))) (i_rows : PySem.W.isFn K (.ref f_rows) = true) (l_rows : K.lookup f_rows = some ⟨oc_rows, od_rows, .func (PySem.W.fnOf "rows" "Heap.rows" (defArgs (inClass (topS 7) 1)) (defBody (inClass (topS 7) 1)) (defScope (inClass (topS 7) 1)) .none kV_rows dc_rows pm_rows an_rows cd_rows ct_rows), sl_rows⟩) (c_rows : PySem.W.codeIn K cd_rows "Heap.rows" = true) (k_rows : PySem.W.keepIn K (.ref f_rows) = true)
    {f_hmany : Addr} {od_hmany an_hmany : Option Addr} {sl_hmany : Array (Option Value)} {oc_hmany kV_hmany dc_hmany pm_hmany cd_hmany ct_hmany : Value}
    {T_hmany : Addr} {odT_hmany : Option Addr} {slT_hmany : Array (Option Value)} {nT_hmany : Nat} {ocT_hmany : Value}
    (a_hmany : PySem.W.findIn K (.ref C_heap) "many" = some (some (.ref f_hmany))) (i_hmany : PySem.W.isFn K (.ref f_hmany) = true) (l_hmany : K.lookup f_hmany = some ⟨oc_hmany, od_hmany, .func (PySem.W.fnOf "many" "Heap.many" (defArgs (inClass (topS 7) 2)) (defBody (inClass (topS 7) 2)) (defScope (inClass (topS 7) 2)) (.ref T_hmany) kV_hmany dc_hmany pm_hmany an_hmany cd_hmany ct_hmany), sl_hmany⟩) (t_hmany : K.lookup T_hmany = some ⟨ocT_hmany, odT_hmany, .seq #[.none] nT_hmany, slT_hmany⟩) (c_hmany : PySem.W.codeIn K cd_hmany "Heap.many" = true) (k_hmany : PySem.W.keepIn K (.ref f_hmany) = true)
    {f_plus : Addr} {od_plus an_plus : Option Addr} {sl_plus : Array (Option Value)} {oc_plus kV_plus dc_plus pm_plus cd_plus ct_plus : Value}
    (a_plus : PySem.W.findIn K (.ref C_heap) "plus" = some (some (.ref f_plus))) (i_plus : PySem.W.isFn K (.ref f_plus) = true) (l_plus : K.lookup f_plus = some ⟨oc_plus, od_plus, .func (PySem.W.fnOf "plus" "Heap.plus" (defArgs (inClass (topS 7) 4)) (defBody (inClass (topS 7) 4)) (defScope (inClass (topS 7) 4)) .none kV_plus dc_plus pm_plus an_plus cd_plus ct_plus), sl_plus⟩) (c_plus : PySem.W.codeIn K cd_plus "Heap.plus" = true) (k_plus : PySem.W.keepIn K (.ref f_plus) = true)
    {f_holds : Addr} {od_holds an_holds : Option Addr} {sl_holds : Array (Option Value)} {oc_holds kV_holds dc_holds pm_holds cd_holds ct_holds : Value}
    (a_holds : PySem.W.findIn K (.ref C_heap) "holds" = some (some (.ref f_holds))) (i_holds : PySem.W.isFn K (.ref f_holds) = true) (l_holds : K.lookup f_holds = some ⟨oc_holds, od_holds, .func (PySem.W.fnOf "holds" "Heap.holds" (defArgs (inClass (topS 7) 6)) (defBody (inClass (topS 7) 6)) (defScope (inClass (topS 7) 6)) .none kV_holds dc_holds pm_holds an_holds cd_holds ct_holds), sl_holds⟩) (c_holds : PySem.W.codeIn K cd_holds "Heap.holds" = true) (k_holds : PySem.W.keepIn K (.ref f_holds) = true)
    {f_forms : Addr} {od_forms an_forms : Option Addr} {sl_forms : Array (Option Value)} {oc_forms kV_forms dc_forms pm_forms cd_forms ct_forms : Value}
    (a_forms : PySem.W.findIn K (.ref C_heap) "forms" = some (some (.ref f_forms))) (i_forms : PySem.W.isFn K (.ref f_forms) = true) (l_forms : K.lookup f_forms = some ⟨oc_forms, od_forms, .func (PySem.W.fnOf "forms" "Heap.forms" (defArgs (inClass (topS 7) 3)) (defBody (inClass (topS 7) 3)) (defScope (inClass (topS 7) 3)) .none kV_forms dc_forms pm_forms an_forms cd_forms ct_forms), sl_forms⟩) (c_forms : PySem.W.codeIn K cd_forms "Heap.forms" = true) (k_forms : PySem.W.keepIn K (.ref f_forms) = true)
    {f_less : Addr} {od_less an_less : Option Addr} {sl_less : Array (Option Value)} {oc_less kV_less dc_less pm_less cd_less ct_less : Value}
    (a_less : PySem.W.findIn K (.ref C_heap) "less" = some (some (.ref f_less))) (i_less : PySem.W.isFn K (.ref f_less) = true) (l_less : K.lookup f_less = some ⟨oc_less, od_less, .func (PySem.W.fnOf "less" "Heap.less" (defArgs (inClass (topS 7) 5)) (defBody (inClass (topS 7) 5)) (defScope (inClass (topS 7) 5)) .none kV_less dc_less pm_less an_less cd_less ct_less), sl_less⟩) (c_less : PySem.W.codeIn K cd_less "Heap.less" = true) (k_less : PySem.W.keepIn K (.ref f_less) = true)
    {f_eq : Addr} {od_eq an_eq : Option Addr} {sl_eq : Array (Option Value)} {oc_eq kV_eq dc_eq pm_eq cd_eq ct_eq : Value}
    (a_eq : PySem.W.findIn K (.ref C_heap) "__eq__" = some (some (.ref f_eq))) (i_eq : PySem.W.isFn K (.ref f_eq) = true) (l_eq : K.lookup f_eq = some ⟨oc_eq, od_eq, .func (PySem.W.fnOf "__eq__" "Heap.__eq__" (defArgs (inClass (topS 7) 7)) (defBody (inClass (topS 7) 7)) (defScope (inClass (topS 7) 7)) .none kV_eq dc_eq pm_eq an_eq cd_eq ct_eq), sl_eq⟩) (c_eq : PySem.W.codeIn K cd_eq "Heap.__eq__" = true) (k_eq : PySem.W.keepIn K (.ref f_eq) = true)
    {f_len : Addr} {od_len an_len : Option Addr} {sl_len : Array (Option Value)} {oc_len kV_len dc_len pm_len cd_len ct_len : Value}
    (a_len : PySem.W.findIn K (.ref C_heap) "__len__" = some (some (.ref f_len))) (i_len : PySem.W.isFn K (.ref f_len) = true) (l_len : K.lookup f_len = some ⟨oc_len, od_len, .func (PySem.W.fnOf "__len__" "Heap.__len__" (defArgs (inClass (topS 7) 8)) (defBody (inClass (topS 7) 8)) (defScope (inClass (topS 7) 8)) .none kV_len dc_len pm_len an_len cd_len ct_len), sl_len⟩) (c_len : PySem.W.codeIn K cd_len "Heap.__len__" = true) (k_len : PySem.W.keepIn K (.ref f_len) = true)
    {f_str : Addr} {od_str an_str : Option Addr} {sl_str : Array (Option Value)} {oc_str kV_str dc_str pm_str cd_str ct_str : Value}
    (a_str : PySem.W.findIn K (.ref C_heap) "__str__" = some (some (.ref f_str))) (i_str : PySem.W.isFn K (.ref f_str) = true) (l_str : K.lookup f_str = some ⟨oc_str, od_str, .func (PySem.W.fnOf "__str__" "Heap.__str__" (defArgs (inClass (topS 7) 10)) (defBody (inClass (topS 7) 10)) (defScope (inClass (topS 7) 10)) .none kV_str dc_str pm_str an_str cd_str ct_str), sl_str⟩) (c_str : PySem.W.codeIn K cd_str "Heap.__str__" = true) (k_str : PySem.W.keepIn K (.ref f_str) = true)
    (z_isinstance : PySem.W.nsIn K mainGlobals "isinstance" = some none)
    (z_int : PySem.W.nsIn K mainGlobals "int" = some none)
    (z_bool : PySem.W.nsIn K mainGlobals "bool" = some none)
    (z_str : PySem.W.nsIn K mainGlobals "str" = some none)
    (z_tuple : PySem.W.nsIn K mainGlobals "tuple" = some none)
    (z_list : PySem.W.nsIn K mainGlobals "list" = some none)
    (z_len : PySem.W.nsIn K mainGlobals "len" = some none)
    (z_range : PySem.W.nsIn K mainGlobals "range" = some none)
    (z_repr : PySem.W.nsIn K mainGlobals "repr" = some none)
    (z_all : PySem.W.nsIn K mainGlobals "all" = some none)
    (z_ord : PySem.W.nsIn K mainGlobals "ord" = some none)
    (z_sorted : PySem.W.nsIn K mainGlobals "sorted" = some none)
    (z_set : PySem.W.nsIn K mainGlobals "set" = some none)
    (z_sum : PySem.W.nsIn K mainGlobals "sum" = some none)
    (z_min : PySem.W.nsIn K mainGlobals "min" = some none)
    (z_zip : PySem.W.nsIn K mainGlobals "zip" = some none)
    (z_super : PySem.W.nsIn K mainGlobals "super" = some none)
    (ca_heap : PySem.W.findIn K (.ref C_heap) "__class__" = some (some (.builtin "object.__class__"))) (cg_heap : PySem.W.specialIn K (.builtin "object.__class__") "__get__" = some (some (.builtin "getset_descriptor.__get__"))) (ct_heap : PySem.W.takesIn K (.builtin "object.__class__") = some true) (cm_heap : PySem.W.mroIn K C_heap (.type "object") = some true)
    (ne_heap : PySem.W.findIn K (.ref C_heap) "__ne__" = some (some (.builtin "object.__ne__"))) (ob_heap : PySem.W.subIn K (.ref C_heap) (.type "object") = some true)
    {C_np : Addr} (a_np : PySem.W.nsIn K mainGlobals "NoParts" = some (some (.ref C_np)))
    {nm_np q_np : Str} {N_np : Addr} {bs_np bm_np : List Value} {sn_np : List Str} {sub_np : List Value} {ab_np : Bool} {col_np : Option Bool} {dd_np : Option Addr} {m0_np m1_np m2_np m3_np m5_np : Option Value}
    (x_np : K.lookup C_np = some (excClassObj nm_np q_np C_np N_np bs_np bm_np true sn_np sub_np ab_np col_np dd_np m0_np m1_np m2_np m3_np m5_np "ValueError.__new__")) (rv_np : PySem.HandSPX.refsVE bm_np = true)
    (sa_np : PySem.W.findIn K (.ref C_np) "__setattr__" = some (some (.builtin "object.__setattr__"))) (ex_np : PySem.W.subIn K (.ref C_np) (.type "BaseException") = some true) (ty_np : PySem.W.typeIn K (.ref C_np) = some (.type "type")) (kc_np : PySem.W.keepIn K (.ref C_np) = true)
    {cd_np : ClassData} (cl_np : PySem.W.clsIn K C_np = some cd_np) (ms_np : PySem.W.mroIn K C_np (.ref C_np) = some true) (mv_np : PySem.W.mroIn K C_np (.type "ValueError") = some true) (up_np : PySem.W.ks_superIn K C_np C_np "__init__" = some (some (.builtin "ValueError.__init__"))) (th_np : PySem.W.nsIn K cStatics "thirdparty.any" = some none)
    (ga_np : PySem.W.findIn K (.ref C_np) "__getattribute__" = some (some (.builtin "BaseException.__getattribute__"))) (gg_np : PySem.W.findIn K (.ref C_np) "__getattr__" = some none) (hd_np : PySem.W.hasDictIn K C_np = true) (nf_np : PySem.W.findIn K (.ref C_np) "lacking" = some none)
    {f_np : Addr} (i_np : PySem.W.findIn K (.ref C_np) "__init__" = some (some (.ref f_np))) (t_np : PySem.W.typeIn K (.ref f_np) = some (.type "function"))
    {oc_np kV_np dc_np pm_np ct_np : Value} {od_np an_np : Option Addr} {sl_np : Array (Option Value)} {cda_np cc_np : Addr}
    (l_np : K.lookup f_np = some ⟨oc_np, od_np, .func (PySem.W.fnX "__init__" "NoParts.__init__" (defArgs (inClass (topS 3) 0)) (defBody (inClass (topS 3) 0)) (defScope (inClass (topS 3) 0)) [("__class__", cc_np)] .none kV_np dc_np pm_np an_np (.ref cda_np) ct_np), sl_np⟩) (c_np : PySem.W.codeIn K (.ref cda_np) "NoParts.__init__" = true)
    {ccl_np cl2_np : Value} {cdd_np cld_np : Option Addr} {vs_np : Array Value} {ccs_np csl_np : Array (Option Value)} {file_np : Str} {tf_np : Tok}
    (lc_np : K.lookup cda_np = some ⟨ccl_np, cdd_np, .fields vs_np, ccs_np⟩) (v2_np : vs_np[2]? = some (.str file_np tf_np)) (fi_np : ((l.prog.main.file : Str) == file_np) = true) (lk_np : K.lookup cc_np = some ⟨cl2_np, cld_np, .cell (some (.ref C_np)), csl_np⟩) (tp_np : (l.prog.main.scope.names.lookup ("super" : Str)).isSome = false)
    {C_he : Addr} (a_he : PySem.W.nsIn K mainGlobals "HeapError" = some (some (.ref C_he))) (ex_he : PySem.W.subIn K (.ref C_he) (.type "BaseException") = some true) (ty_he : PySem.W.typeIn K (.ref C_he) = some (.type "type")) (hd_he : PySem.W.hasDictIn K C_he = true)
    (ss_he : PySem.W.subIn K (.ref C_np) (.ref C_he) = some true)
    : ∃ fd : FuncData, (∀ (s : Shared) (v : Value), BindsTo s fd ⟨[v], []⟩ [("_law_script", v)]) ∧ ∀ base : Heap, K.In base → base.Ns mainGlobals mg → FnG l.prog w K mg base CX0 6 fa fd ["_law_script"] (spLawK K) := by
  have e := hfa.symm.trans (PySem.W.mg_of X G a_law)
  cases e
  have F_feed := fun_mk (st := topS 9) l_feed c_feed k_feed
  have g_feed := PySem.W.mg_of X G a_feed
  have b_feed := F_feed.binds (ps := ["_law_script"]) fun _ _ _ _ _ _ us hl => match us, hl with | [_], _ => rfl
  have F_Draw := fun_mk (st := topS 10) l_Draw c_Draw k_Draw
  have g_Draw := PySem.W.mg_of X G a_Draw
  have b_Draw := F_Draw.binds (ps := ["_law_feed_here", "_law_many_here"]) fun _ _ _ _ _ _ us hl => match us, hl with | [_, _], _ => rfl
  have F_added := fun_mk (st := topS 5) l_added c_added k_added
  have g_added := PySem.W.mg_of X G a_added
  have b_added := F_added.binds (ps := ["rows"]) fun _ _ _ _ _ _ us hl => match us, hl with | [_], _ => rfl
  have F_above := fun_mk (st := topS 6) l_above c_above k_above
  have g_above := PySem.W.mg_of X G a_above
  have b_above := F_above.binds (ps := ["heap", "other"]) fun _ _ _ _ _ _ us hl => match us, hl with | [_, _], _ => rfl
  have F_LNames := fun_mk (st := topS 11) l_LNames c_LNames k_LNames
  have g_LNames := PySem.W.mg_of X G a_LNames
  have b_LNames := F_LNames.binds (ps := ["_law_feed_here", "_law_many_here"]) fun _ _ _ _ _ _ us hl => match us, hl with | [_, _], _ => rfl
  have F_LMany := fun_mk (st := topS 12) l_LMany c_LMany k_LMany
  have g_LMany := PySem.W.mg_of X G a_LMany
  have b_LMany := F_LMany.binds (ps := ["_law_feed_here"]) fun _ _ _ _ _ _ us hl => match us, hl with | [_], _ => rfl
  have F_LRows := fun_mk (st := topS 13) l_LRows c_LRows k_LRows
  have g_LRows := PySem.W.mg_of X G a_LRows
  have b_LRows := F_LRows.binds (ps := ["_law_feed_here", "_law_forms", "_law_shades", "_law_most_now"]) fun _ _ _ _ _ _ us hl => match us, hl with | [_, _, _, _], _ => rfl
  have F_Summed := fun_mk (st := topS 14) l_Summed c_Summed k_Summed
  have g_Summed := PySem.W.mg_of X G a_Summed
  have b_Summed := F_Summed.binds (ps := ["_law_rows_here"]) fun _ _ _ _ _ _ us hl => match us, hl with | [_], _ => rfl
  have F_Shown := fun_mk (st := topS 17) l_Shown c_Shown k_Shown
  have g_Shown := PySem.W.mg_of X G a_Shown
  have b_Shown := F_Shown.binds (ps := ["_law_rows_here"]) fun _ _ _ _ _ _ us hl => match us, hl with | [_], _ => rfl
  have F_Deed := fun_mk (st := topS 15) l_Deed c_Deed k_Deed
  have g_Deed := PySem.W.mg_of X G a_Deed
  have b_Deed := F_Deed.binds (ps := ["_law_one", "_law_other", "_law_mode", "_law_form"]) fun _ _ _ _ _ _ us hl => match us, hl with | [_, _, _, _], _ => rfl
  have F_Due := fun_mk (st := topS 16) l_Due c_Due k_Due
  have g_Due := PySem.W.mg_of X G a_Due
  have b_Due := F_Due.binds (ps := ["_law_one", "_law_other", "_law_mode", "_law_form"]) fun _ _ _ _ _ _ us hl => match us, hl with | [_, _, _, _], _ => rfl
  have F_law := fun_mk (st := topS 18) l_law c_law k_law
  have g_law := PySem.W.mg_of X G a_law
  have g_heap := PySem.W.mg_of X G a_heap
  have cl_heap : Cls K C_heap := ⟨pg_heap, hd_heap, po_heap, sa_heap⟩
  have F_init : FunD K "__init__" "Heap.__init__" (defArgs (inClass (topS 7) 0)) (defBody (inClass (topS 7) 0)) (defScope (inClass (topS 7) 0)) [.non] [] f_init _ := fund_mk (its := [.none]) l_init c_init k_init t_init rfl (.cons rfl .nil) (by simp)
  have m_init : Meth K C_heap "__init__" f_init := ⟨a_init, i_init, k_init⟩
  have F_rows := fun_mk (st := inClass (topS 7) 1) l_rows c_rows k_rows
  have b_rows := F_rows.binds (ps := ["self"]) fun _ _ _ _ _ _ us hl => match us, hl with | [_], _ => rfl
  have m_rows : Meth K C_heap "rows" f_rows := ⟨a_rows, i_rows, k_rows⟩
  have F_hmany : FunD K "many" "Heap.many" (defArgs (inClass (topS 7) 2)) (defBody (inClass (topS 7) 2)) (defScope (inClass (topS 7) 2)) [.non] [] f_hmany _ := fund_mk (its := [.none]) l_hmany c_hmany k_hmany t_hmany rfl (.cons rfl .nil) (by simp)
  have m_hmany : Meth K C_heap "many" f_hmany := ⟨a_hmany, i_hmany, k_hmany⟩
  have F_plus := fun_mk (st := inClass (topS 7) 4) l_plus c_plus k_plus
  have b_plus := F_plus.binds (ps := ["self", "other"]) fun _ _ _ _ _ _ us hl => match us, hl with | [_, _], _ => rfl
  have m_plus : Meth K C_heap "plus" f_plus := ⟨a_plus, i_plus, k_plus⟩
  have F_holds := fun_mk (st := inClass (topS 7) 6) l_holds c_holds k_holds
  have b_holds := F_holds.binds (ps := ["self", "other"]) fun _ _ _ _ _ _ us hl => match us, hl with | [_, _], _ => rfl
  have m_holds : Meth K C_heap "holds" f_holds := ⟨a_holds, i_holds, k_holds⟩
  have F_forms := fun_mk (st := inClass (topS 7) 3) l_forms c_forms k_forms
  have b_forms := F_forms.binds (ps := ["self"]) fun _ _ _ _ _ _ us hl => match us, hl with | [_], _ => rfl
  have m_forms : Meth K C_heap "forms" f_forms := ⟨a_forms, i_forms, k_forms⟩
  have F_less := fun_mk (st := inClass (topS 7) 5) l_less c_less k_less
  have b_less := F_less.binds (ps := ["self", "other"]) fun _ _ _ _ _ _ us hl => match us, hl with | [_, _], _ => rfl
  have m_less : Meth K C_heap "less" f_less := ⟨a_less, i_less, k_less⟩
  have F_eq := fun_mk (st := inClass (topS 7) 7) l_eq c_eq k_eq
  have b_eq := F_eq.binds (ps := ["self", "other"]) fun _ _ _ _ _ _ us hl => match us, hl with | [_, _], _ => rfl
  have m_eq : Meth K C_heap "__eq__" f_eq := ⟨a_eq, i_eq, k_eq⟩
  have F_len := fun_mk (st := inClass (topS 7) 8) l_len c_len k_len
  have b_len := F_len.binds (ps := ["self"]) fun _ _ _ _ _ _ us hl => match us, hl with | [_], _ => rfl
  have m_len : Meth K C_heap "__len__" f_len := ⟨a_len, i_len, k_len⟩
  have F_str := fun_mk (st := inClass (topS 7) 10) l_str c_str k_str
  have b_str := F_str.binds (ps := ["self"]) fun _ _ _ _ _ _ us hl => match us, hl with | [_], _ => rfl
  have m_str : Meth K C_heap "__str__" f_str := ⟨a_str, i_str, k_str⟩
  have m_isinstance := PySem.W.mg_none_of X G z_isinstance
  have m_int := PySem.W.mg_none_of X G z_int
  have m_bool := PySem.W.mg_none_of X G z_bool
  have m_str := PySem.W.mg_none_of X G z_str
  have m_tuple := PySem.W.mg_none_of X G z_tuple
  have m_list := PySem.W.mg_none_of X G z_list
  have m_len := PySem.W.mg_none_of X G z_len
  have m_range := PySem.W.mg_none_of X G z_range
  have m_repr := PySem.W.mg_none_of X G z_repr
  have m_all := PySem.W.mg_none_of X G z_all
  have m_ord := PySem.W.mg_none_of X G z_ord
  have m_sorted := PySem.W.mg_none_of X G z_sorted
  have m_set := PySem.W.mg_none_of X G z_set
  have m_sum := PySem.W.mg_none_of X G z_sum
  have m_min := PySem.W.mg_none_of X G z_min
  have m_zip := PySem.W.mg_none_of X G z_zip
  have m_super := PySem.W.mg_none_of X G z_super
  have Hi : HIs K C_heap := ⟨ca_heap, cg_heap, ct_heap, cm_heap⟩
  have g_np := PySem.W.mg_of X G a_np
  have E_np : OexC K C_np := ⟨⟨_, _, _, _, _, _, _, _, _, _, _, _, _, _, _, x_np, rv_np⟩, sa_np, ex_np, ty_np, kc_np⟩
  have U_np : SupC K mg C_np := ⟨E_np, ⟨_, cl_np⟩, ms_np, mv_np, up_np, th_np, m_super⟩
  have FS_np : FunS l.prog K "__init__" "NoParts.__init__" (inClass (topS 3) 0) C_np f_np _ := ⟨⟨_, _, _, _, _, _, _, _, _, _, _, _, _, _, _, _, _, _, _, rfl, l_np, c_np, lc_np, v2_np, fi_np, lk_np⟩, tp_np⟩
  have b_np : Binds K (PySem.W.fnX "__init__" "NoParts.__init__" (defArgs (inClass (topS 3) 0)) (defBody (inClass (topS 3) 0)) (defScope (inClass (topS 3) 0)) [("__class__", cc_np)] .none kV_np dc_np pm_np an_np (.ref cda_np) ct_np) ["self", "lacking"] [] := fun s us _ hl => match us, hl with | [_, _], _ => .of_eq rfl
  have xf_np : XfC K C_np := ⟨ga_np, gg_np, ex_np, hd_np⟩
  have g_he := PySem.W.mg_of X G a_he
  refine ⟨PySem.W.fnOf "law" "law" (defArgs (topS 18)) (defBody (topS 18)) (defScope (topS 18)) .none kV_law dc_law pm_law an_law cd_law ct_law, fun s v => .of_eq rfl, fun base _ _ => ?_⟩
  have hB : NoB mg BL := by
    intro x hx
    simp only [BL, List.mem_cons, List.not_mem_nil, or_false] at hx
    rcases hx with rfl | rfl | rfl | rfl | rfl | rfl | rfl | rfl | rfl | rfl | rfl | rfl | rfl | rfl | rfl | rfl
    · exact m_isinstance
    · exact m_int
    · exact m_bool
    · exact m_str
    · exact m_tuple
    · exact m_list
    · exact m_len
    · exact m_range
    · exact m_repr
    · exact m_all
    · exact m_ord
    · exact m_sorted
    · exact m_set
    · exact m_sum
    · exact m_min
    · exact m_zip
  have Fe : Cal l.prog w K mg base 1 "_law_feed" f_feed _ ["_law_script"] (spFeedOf IsFeed K) := ⟨ok_feed F_feed m_list, g_feed, k_feed, b_feed⟩
  have CDraw : CalV (LP.heapSig l.prog w K C_heap C_np) mg base 1 "_law_draw" f_Draw _ ["_law_feed_here", "_law_many_here"] drawW := ⟨draw_by (ok_draw F_Draw m_len), g_Draw, k_Draw, b_Draw⟩
  have Ad : Cal l.prog w K mg base 1 "added_rows" f_added _ ["rows"] (spAdded K) := ⟨ok_added F_added m_tuple m_sorted, g_added, k_added, b_added⟩
  have Hc : HCls K mg C_heap := ⟨cl_heap, n_heap_held, g_heap⟩
  have Hm : HMk l.prog w K mg base 2 C_heap f_init _ := ⟨Hc, ⟨mk_heap, a_init, i_init, kc_heap⟩, ok_init F_init Hc Ad, b_init0 F_init, kb_init2 F_init, kb_initK F_init⟩
  have Hs : HSig (LP.heapSig l.prog w K C_heap C_np) C_heap := ⟨rfl, rfl⟩
  have Rw : MCal l.prog w K mg base 1 C_heap "rows" f_rows _ ["self"] (spRows K C_heap) := ⟨ok_rows F_rows Hc m_tuple, m_rows, b_rows⟩
  have MRw : MetV (LP.heapSig l.prog w K C_heap C_np) mg base 1 0 C_heap "rows" f_rows _ ["self"] rowsW := ⟨fn_wk Rw.ok (of_rows Hs), Hc.cl, m_rows, b_rows, rfl, by rw [Hs.fl]; decide +kernel⟩
  have okM := ok_manym (P := l.prog) (w := w) (base := base) (k := 0) F_hmany Hc m_sum
  have MM2 : MetN (LP.heapSig l.prog w K C_heap C_np) mg base 1 0 C_heap "many" f_hmany _ ["self", "form", "shade"] 2 (noneV 1) manyW := ⟨fn_wk okM (of_many Hs), Hc.cl, m_hmany, kb_m2 F_hmany, rfl, by rw [Hs.fl]; decide +kernel⟩
  have M3 : MMany l.prog w K mg base 1 C_heap f_hmany _ := ⟨okM, m_hmany, b_many3 F_hmany⟩
  have Ab2 : Cal l.prog w K mg base 2 "rows_above" f_above _ ["heap", "other"] (spAbove K C_heap) := ⟨ok_above F_above Hc Rw M3 m_tuple, g_above, k_above, b_above⟩
  have MPl : MetV (LP.heapSig l.prog w K C_heap C_np) mg base 4 0 C_heap "plus" f_plus _ ["self", "other"] plusW := ⟨fn_wk (ok_plus F_plus Hc Hm) (of_plus Hs), Hc.cl, m_plus, b_plus, rfl, by rw [Hs.fl]; decide +kernel⟩
  have MHo : MetV (LP.heapSig l.prog w K C_heap C_np) mg base 3 0 C_heap "holds" f_holds _ ["self", "other"] holdsW := ⟨fn_wk (ok_holds F_holds Ab2) (of_holds Hs), Hc.cl, m_holds, b_holds, rfl, by rw [Hs.fl]; decide +kernel⟩
  have MFo : MetV (LP.heapSig l.prog w K C_heap C_np) mg base 1 0 C_heap "forms" f_forms _ ["self"] formsW := ⟨fn_wk (ok_forms F_forms Hc m_tuple m_sorted) (of_forms Hs), Hc.cl, m_forms, b_forms, rfl, by rw [Hs.fl]; decide +kernel⟩
  have Hz : ESig (LP.heapSig l.prog w K C_heap C_np) C_np := ⟨rfl, rfl⟩
  have Er := ok_NoParts (w := w) (mg := mg) (base := base) (k := 0) FS_np U_np nf_np
  have okL := ok_less (k := 0) F_less Ab2 Hm U_np i_np t_np Er b_np g_np
  have MLs : LessV (LP.heapSig l.prog w K C_heap C_np) mg base 4 C_heap C_np f_less _ := ⟨fn_wk okL (of_less Hs Hz), Hc.cl, m_less, b_less, Hs, Hz⟩
  have HEq : HSp l.prog w K mg base 1 C_heap "__eq__" f_eq _ ["self", "other"] (spEqH K C_heap) := ⟨ok_eq F_eq Hc Hi m_isinstance, a_eq, i_eq, b_eq⟩
  have HLn : HSp l.prog w K mg base 1 C_heap "__len__" f_len _ ["self"] (spLenH K C_heap) := ⟨ok_len F_len Hc m_len, a_len, i_len, b_len⟩
  have HSt : StrV (LP.heapSig l.prog w K C_heap C_np) mg base 1 0 C_heap f_str _ fStr := ⟨ok_Str (Γ := (LP.heapSig l.prog w K C_heap C_np)) F_str hB Hs Hc, a_str, i_str, b_str, rfl⟩
  have Ec : ErrV K mg C_np "HeapError" C_he := ⟨g_he, PySem.W.exm_ref ex_he hd_he ty_he ss_he, xf_np, nf_np⟩
  have CLNames : CalV (LP.heapSig l.prog w K C_heap C_np) mg base 2 "_law_names" f_LNames _ ["_law_feed_here", "_law_many_here"] fLNames := ⟨ok_LNames (Γ := (LP.heapSig l.prog w K C_heap C_np)) F_LNames hB CDraw, g_LNames, k_LNames, b_LNames⟩
  have CLMany : CalV (LP.heapSig l.prog w K C_heap C_np) mg base 2 "_law_many" f_LMany _ ["_law_feed_here"] fLMany := ⟨ok_LMany (Γ := (LP.heapSig l.prog w K C_heap C_np)) F_LMany hB CDraw, g_LMany, k_LMany, b_LMany⟩
  have CLRows : CalV (LP.heapSig l.prog w K C_heap C_np) mg base 3 "_law_rows" f_LRows _ ["_law_feed_here", "_law_forms", "_law_shades", "_law_most_now"] fLRows := ⟨ok_LRows (Γ := (LP.heapSig l.prog w K C_heap C_np)) F_LRows hB CDraw CLMany, g_LRows, k_LRows, b_LRows⟩
  have CSummed : CalV (LP.heapSig l.prog w K C_heap C_np) mg base 1 "_law_summed" f_Summed _ ["_law_rows_here"] fSummed := ⟨ok_Summed (Γ := (LP.heapSig l.prog w K C_heap C_np)) F_Summed hB, g_Summed, k_Summed, b_Summed⟩
  have CShown : CalV (LP.heapSig l.prog w K C_heap C_np) mg base 1 "_law_shown" f_Shown _ ["_law_rows_here"] fShown := ⟨ok_Shown (Γ := (LP.heapSig l.prog w K C_heap C_np)) F_Shown hB, g_Shown, k_Shown, b_Shown⟩
  have CDeed : CalV (LP.heapSig l.prog w K C_heap C_np) mg base 5 "_law_deed" f_Deed _ ["_law_one", "_law_other", "_law_mode", "_law_form"] fDeed := ⟨ok_Deed (Γ := (LP.heapSig l.prog w K C_heap C_np)) F_Deed hB Hs Hm HEq MFo MHo MLs Ec MPl MRw HSt, g_Deed, k_Deed, b_Deed⟩
  have CDue : CalV (LP.heapSig l.prog w K C_heap C_np) mg base 2 "_law_due" f_Due _ ["_law_one", "_law_other", "_law_mode", "_law_form"] fDue := ⟨ok_Due (Γ := (LP.heapSig l.prog w K C_heap C_np)) F_Due hB CShown CSummed, g_Due, k_Due, b_Due⟩
  exact ok_law (Γ := (LP.heapSig l.prog w K C_heap C_np)) F_law hB Fe CDeed CDraw CDue CLNames CLRows CShown CSummed Hs Hm HLn MM2 MRw HSt law_wp
end LP.K17

open PySem PySem.W PyProof.Rows
set_option maxHeartbeats 0 in
theorem PySem.Challenge.cw_partkits_k17_heaps_by_turns_holds : PySem.Challenge.rw_partkits_k17_heaps_by_turns.Holds := by
  w_on; o_law; k_head; (case hw => w_witness2)
  k_fill
  refine PK.walk_ofG (l := PySem.Challenge.rw_partkits_k17_heaps_by_turns) (n := 63) (k := 6) (x := "_law_script") (sp := fun w => LP.spLawK _) rfl (by decide) rfl ⟨rfl, by decide, by decide⟩ (fun w h Y => PySem.W.kIn_of Y) ?F (fun _ _ a ns hl _ hS => ⟨a, ns, rfl, hS, fun _ => rfl⟩)
  case F =>
    intro w mg fa h KX G hmg
    refine' LP.K17.all_mk KX G hmg ?a_feed ?l_feed ?c_feed ?k_feed ?a_Draw ?l_Draw ?c_Draw ?k_Draw ?a_added ?l_added ?c_added ?k_added ?a_above ?l_above ?c_above ?k_above ?a_LNames ?l_LNames ?c_LNames ?k_LNames ?a_LMany ?l_LMany ?c_LMany ?k_LMany ?a_LRows ?l_LRows ?c_LRows ?k_LRows ?a_Summed ?l_Summed ?c_Summed ?k_Summed ?a_Shown ?l_Shown ?c_Shown ?k_Shown ?a_Deed ?l_Deed ?c_Deed ?k_Deed ?a_Due ?l_Due ?c_Due ?k_Due ?a_law ?l_law ?c_law ?k_law ?a_heap ?pg_heap ?hd_heap ?po_heap ?sa_heap ?mk_heap ?kc_heap ?n_heap_held ?a_init ?i_init ?l_init ?t_init ?c_init ?k_init ?a_rows ?i_rows ?l_rows ?c_rows ?k_rows ?a_hmany ?i_hmany ?l_hmany ?t_hmany ?c_hmany ?k_hmany ?a_plus ?i_plus ?l_plus ?c_plus ?k_plus ?a_holds ?i_holds ?l_holds ?c_holds ?k_holds ?a_forms ?i_forms ?l_forms ?c_forms ?k_forms ?a_less ?i_less ?l_less ?c_less ?k_less ?a_eq ?i_eq ?l_eq ?c_eq ?k_eq ?a_len ?i_len ?l_len ?c_len ?k_len ?a_str ?i_str ?l_str ?c_str ?k_str ?z_isinstance ?z_int ?z_bool ?z_str ?z_tuple ?z_list ?z_len ?z_range ?z_repr ?z_all ?z_ord ?z_sorted ?z_set ?z_sum ?z_min ?z_zip ?z_super ?ca_heap ?cg_heap ?ct_heap ?cm_heap ?ne_heap ?ob_heap ?a_np ?x_np ?rv_np ?sa_np ?ex_np ?ty_np ?kc_np ?cl_np ?ms_np ?mv_np ?up_np ?th_np ?ga_np ?gg_np ?hd_np ?nf_np ?i_np ?t_np ?l_np ?c_np ?lc_np ?v2_np ?fi_np ?lk_np ?tp_np ?a_he ?ex_he ?ty_he ?hd_he ?ss_he
    (case a_feed => k_is)
    (case l_feed => k_is)
    (case c_feed => k_is)
    (case k_feed => k_is)
    (case a_Draw => k_is)
    (case l_Draw => k_is)
    (case c_Draw => k_is)
    (case k_Draw => k_is)
    (case a_added => k_is)
    (case l_added => k_is)
    (case c_added => k_is)
    (case k_added => k_is)
    (case a_above => k_is)
    (case l_above => k_is)
    (case c_above => k_is)
    (case k_above => k_is)
    (case a_LNames => k_is)
    (case l_LNames => k_is)
    (case c_LNames => k_is)
    (case k_LNames => k_is)
    (case a_LMany => k_is)
    (case l_LMany => k_is)
    (case c_LMany => k_is)
    (case k_LMany => k_is)
    (case a_LRows => k_is)
    (case l_LRows => k_is)
    (case c_LRows => k_is)
    (case k_LRows => k_is)
    (case a_Summed => k_is)
    (case l_Summed => k_is)
    (case c_Summed => k_is)
    (case k_Summed => k_is)
    (case a_Shown => k_is)
    (case l_Shown => k_is)
    (case c_Shown => k_is)
    (case k_Shown => k_is)
    (case a_Deed => k_is)
    (case l_Deed => k_is)
    (case c_Deed => k_is)
    (case k_Deed => k_is)
    (case a_Due => k_is)
    (case l_Due => k_is)
    (case c_Due => k_is)
    (case k_Due => k_is)
    (case a_law => k_is)
    (case l_law => k_is)
    (case c_law => k_is)
    (case k_law => k_is)
    (case a_heap => k_is)
    (case pg_heap => k_is)
    (case hd_heap => k_is)
    (case po_heap => k_is)
    (case sa_heap => k_is)
    (case mk_heap => k_is)
    (case kc_heap => k_is)
    (case n_heap_held => k_is)
    (case a_init => k_is)
    (case i_init => k_is)
    (case l_init => k_is)
    (case t_init => k_is)
    (case c_init => k_is)
    (case k_init => k_is)
    (case a_rows => k_is)
    (case i_rows => k_is)
    (case l_rows => k_is)
    (case c_rows => k_is)
    (case k_rows => k_is)
    (case a_hmany => k_is)
    (case i_hmany => k_is)
    (case l_hmany => k_is)
    (case t_hmany => k_is)
    (case c_hmany => k_is)
    (case k_hmany => k_is)
    (case a_plus => k_is)
    (case i_plus => k_is)
    (case l_plus => k_is)
    (case c_plus => k_is)
    (case k_plus => k_is)
    (case a_holds => k_is)
    (case i_holds => k_is)
    (case l_holds => k_is)
    (case c_holds => k_is)
    (case k_holds => k_is)
    (case a_forms => k_is)
    (case i_forms => k_is)
    (case l_forms => k_is)
    (case c_forms => k_is)
    (case k_forms => k_is)
    (case a_less => k_is)
    (case i_less => k_is)
    (case l_less => k_is)
    (case c_less => k_is)
    (case k_less => k_is)
    (case a_eq => k_is)
    (case i_eq => k_is)
    (case l_eq => k_is)
    (case c_eq => k_is)
    (case k_eq => k_is)
    (case a_len => k_is)
    (case i_len => k_is)
    (case l_len => k_is)
    (case c_len => k_is)
    (case k_len => k_is)
    (case a_str => k_is)
    (case i_str => k_is)
    (case l_str => k_is)
    (case c_str => k_is)
    (case k_str => k_is)
    (case z_isinstance => k_is)
    (case z_int => k_is)
    (case z_bool => k_is)
    (case z_str => k_is)
    (case z_tuple => k_is)
    (case z_list => k_is)
    (case z_len => k_is)
    (case z_range => k_is)
    (case z_repr => k_is)
    (case z_all => k_is)
    (case z_ord => k_is)
    (case z_sorted => k_is)
    (case z_set => k_is)
    (case z_sum => k_is)
    (case z_min => k_is)
    (case z_zip => k_is)
    (case z_super => k_is)
    (case ca_heap => k_is)
    (case cg_heap => k_is)
    (case ct_heap => k_is)
    (case cm_heap => k_is)
    (case ne_heap => k_is)
    (case ob_heap => k_is)
    (case a_np => k_is)
    (case x_np => k_is)
    (case rv_np => decide +kernel)
    (case sa_np => k_is)
    (case ex_np => k_is)
    (case ty_np => k_is)
    (case kc_np => k_is)
    (case cl_np => k_is)
    (case ms_np => k_is)
    (case mv_np => k_is)
    (case up_np => ks_is)
    (case th_np => k_is)
    (case ga_np => k_is)
    (case gg_np => k_is)
    (case hd_np => k_is)
    (case nf_np => k_is)
    (case i_np => k_is)
    (case t_np => k_is)
    (case l_np => k_is)
    (case c_np => k_is)
    (case lc_np => k_is)
    (case v2_np => first | rfl | k_is)
    (case fi_np => decide +kernel)
    (case lk_np => k_is)
    (case tp_np => decide +kernel)
    (case a_he => k_is)
    (case ex_he => k_is)
    (case ty_he => k_is)
    (case hd_he => k_is)
    (case ss_he => first | rfl | k_is)
