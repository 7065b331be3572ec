import PyProof.Rows.All
import Wide.All
import OpenK.AllK
import Wide.FinOn
import PyProof.EqAt
import PyProof.EqKinds
import PyProof.TupleCall
import PyProof.ReprRoads
import HandS.ForMost
import HandS.Walk
import HandS.TupAny
import HandS.TupMul
import HandS.Zip
import HandS.Defaults
import HandS.Style
import HandS.Evl
import HandS.FStrTup
import HandS.Conv
import HandS.More
import HandS.Set
import KE.DatumOrd
import KE.SortData
import HandS.MakeKwOnly
import PySem.Challenge.RW_partkits_k02_heaps_by_rows
set_option Elab.async false
set_option linter.all false
set_option maxRecDepth 100000
set_option maxHeartbeats 4000000
namespace PK
open PySem PySem.Spec PyProof.Rows L2

/-! ### defs that show things: called where nothing is being shown -/
structure FnG (P : Program) (w : World) (K : PySem.W.Frag) (mg : Str → Option Value) (base : Heap) (CX : CXT)
    (k : Nat) (f : Addr) (fd : FuncData) (ps : List Str) (sp : Sp) : Prop where
  len : ∀ vs H Q E, sp vs H Q E → vs.length = ps.length
  go : ∀ {A : Around} {outer : List Env} {s : Shared} {H : Hp} {args : Args} {us : List Value} {vs : List V} {Q : VK} {E : XK},
    A.guards = some [] → Room k A → Env0 P w K mg base A outer s H → BindsTo s fd args (ps.zip us) → Vals vs us →
    sp vs H Q E → codeAny (model P w) A (.call (.ref f) args) (CR CX outer P w H s Q E) s
theorem FnG.of {P : Program} {w : World} {K : PySem.W.Frag} {mg : Str → Option Value} {base : Heap} {CX : CXT}
    {k : Nat} {f : Addr} {fd : FuncData} {ps : List Str} {sp : Sp} (F : FnOk P w K mg base CX k f fd ps sp) :
    FnG P w K mg base CX k f fd ps sp :=
  ⟨F.len, fun _ hr e0 hb hv hs => F.run _ _ _ _ _ _ _ _ _ hr e0 hb hv hs⟩

/-- the def's promise from its body, the body read where nothing is being shown -/
theorem fnG_of {CX : CXT} {P : Program} {w : World} {K : PySem.W.Frag} {mg : Str → Option Value} {base : Heap} {k : Nat} {f : Addr} {fd : FuncData}
    {x qual : Str} {st : Stmt} {N ps : List Str} {sp : Sp} (F : Fun K x qual st f fd) (S : FnScope N ps (defScope st))
    (len : ∀ vs H Q E, sp vs H Q E → vs.length = ps.length)
    (hbody : ∀ (cdv : Value) (A : Around) (outer : List Env) (s : Shared) (H : Hp) (vs : List V) (Q : VK) (E : XK), A.guards = some [] →
      Room k (A.deeper (envOfC qual (defScope st) s.heap.objs.size f cdv)) → sp vs H Q E →
      ∃ t, PSs (cxOf CX P w K mg base N qual (defScope st) f cdv A outer s H E) (defBody st) t ∧
        t { nx := fun _ H' => Q .non H', rt := Q } (start N vs) H) : FnG P w K mg base CX (k + 1) f fd ps sp := by
  obtain ⟨oc, od, kV, doc, pm, an, cdv, ct, osl, rfl, lk, hcd⟩ := F.ex
  refine ⟨len, fun {A outer s H args us vs Q E} hgd hr e0 hb hv hsp => ?_⟩
  have kept : ∀ b o, base.get? b = some o → s.heap.get? b = some o := fun b o e => (e0.bs b o e).1
  have KX := e0.mod.kin.keeps kept
  have noLim := e0.mod.nolimit.keeps kept
  refine codeAny_call_function hr.depth (KX _ _ lk) rfl S.co S.gen rfl (PySem.W.codeRec_of KX hcd) (hb _ _ _ _ ?_)
  refine wpAny_newFunctionEnv_cells S.kind (fun y hy => ?_) fun env he s1 hx => ?_
  · rcases S.par y.1 (List.of_mem_zip (show (y.1, y.2) ∈ ps.zip us from hy)).1 with q | q
    · exact Or.inl q
    · exact Or.inr ⟨q, PySem.W.cellsFrom_some _ _ _ (Or.inl q)⟩
  cases he
  refine ⟨noLim.keeps hx.toInCall.keep, codeAny_func ?_⟩
  obtain ⟨t, ht, hq⟩ := hbody cdv A outer s H vs Q E hgd (hr.deeper _) hsp
  have I := inv_start (CX := CX) (N := N) (E := E) S hr.hd e0 (len _ _ _ _ hsp) hv hx
  refine wpAny_mono (ht.run [] s1 _ H _ I hq) (fun fl s' hs => ?_) (fun _ _ h => h)
  cases fl with
  | ret u =>
    obtain ⟨v, σ', H', J, rv, q⟩ := hs
    exact ⟨v, H', J.os, J.bare, J.base, J.hok, rv, q⟩
  | next =>
    obtain ⟨σ', H', J, q⟩ := hs
    exact ⟨V.non, H', J.os, J.bare, J.base, J.hok, rfl, q⟩
  | brk => exact hs.elim fun _ h => h.elim fun _ h => h.2.elim
  | cont => exact hs.elim fun _ h => h.elim fun _ h => h.2.elim

section
variable {X : Cx} {CX : CXT} {k : Nat} {f : Addr} {fd : FuncData} {ps : List Str} {sp : Sp} {dvs : List V} {ds : List Value} {E : XK}
  {x : Str} {p pos : Pos} {e : Expr} {es : List Expr} {t : TA}
theorem pe_callG (F : FnG X.prog X.w X.K X.mg X.base CX k f fd ps sp) (hgd : X.A.guards = some []) (hr : Room k X.A) (hg : Gl X x)
    (hm : X.mg x = some (.ref f)) (hk : PySem.W.keepIn X.K (.ref f) = true) (hb : Binds X.K fd ps ds) (hd : Vals dvs ds) (hx : Passes CX X E)
    (ha : PA X (e :: es) t) (hdb : (x == ("__debug__" : Str)) = false := by decide)
    (he : starEach (e :: es) X.env = (false, eval e X.env) :: starEach es X.env := by rfl)
    (hpl : (backTo pos (starEach es X.env)).any (·.1) = false := by rfl) :
    PE X (.Call (.Name x p) (e :: es) [] pos) (tCall sp dvs E t) := by
  refine ⟨fun pins s σ H Q I h => wpAny_Call_Name_kw (ld_glob I hg hm ?_ hdb)⟩
  refine PySem.W.callWith_K (h₀ := X.base) I.ok.mod.kin hk (thn (ha.run pos pins s σ H _ I h) ?_) he hpl
  rintro us s1 ⟨vs, H1, J, r, q⟩
  refine ⟨J.kIn, ?_⟩
  have r2 : Vals (vs ++ dvs) (us ++ ds) := r.append hd
  have hl : (us ++ ds).length = ps.length := r2.length.symm.trans (F.len _ _ _ _ q)
  refine wpAny_call (codeAny_mono (F.go hgd hr J.env0 (hb s1 us J.kIn hl) r2 q) ?_)
  intro res s2 hq
  match res, hq with
  | .error er, hq => exact hx pins σ H1 s1 er s2 J hq
  | .ok (.ret u), hq => exact J.after hq
  | .ok .next, hq => exact hq.elim
  | .ok .brk, hq => exact hq.elim
  | .ok .cont, hq => exact hq.elim

/-- f(k = v, ..), no argument by its place -/
theorem pe_callK0 {ks : List Str} {kws : List Keyword} {tk : TA} {g : List Value → List Value → List Value} {gV : List V → List V → List V}
    (F : FnOk X.prog X.w X.K X.mg X.base CX k f fd ps sp) (hr : Room k X.A) (hg : Gl X x) (hm : X.mg x = some (.ref f))
    (hk : PySem.W.keepIn X.K (.ref f) = true) (hb : KBinds X.K fd ps ks g gV) (hx : Passes CX X E) (hkw : PK X kws tk)
    (hall : (backToKw pos (keywordEach kws X.env)).all (·.1.isSome) = true := by rfl)
    (hks : (backToKw pos (keywordEach kws X.env)).filterMap (·.1) = ks := by rfl)
    (hdb : (x == ("__debug__" : Str)) = false := by decide)
    (hpl : ((backTo pos (starEach [] X.env)).any (·.1) || (backToKw pos (keywordEach kws X.env)).any (·.1.isNone)) = false := by rfl) :
    PE X (.Call (.Name x p) [] kws pos) (tCallK sp gV E tNil tk) := by
  refine ⟨fun pins s σ H Q I h => wpAny_Call_Name_kw (ld_glob I hg hm ?_ hdb)⟩
  refine PySem.W.callWith_KW0 (h₀ := X.base) I.ok.mod.kin hk hall (thn (hkw.run pos pins s σ H _ I h) ?_) hpl
  rintro ws s2 ⟨zs, H2, J, rz, q⟩
  refine ⟨J.kIn, ?_⟩
  rw [hks]
  exact run_fnk (us := []) F hr hb hx J .nil rz q
end

/-! ### repr of data -/
theorem call_repr {X : Cx} {k : Nat} (hgd : X.A.guards = some []) (hr : Room k X.A) : CallR X (.builtin "repr")
    (fun xs H Q => ∃ a d, xs = [.ref a] ∧ Dp X.K H (.ref a) d ∧ d.showable = true ∧ d.hasDict = false ∧ d.depth ≤ 100 ∧
      d.shown.length ≤ sizeLine ∧ Q (.str d.shown) H) := by
  intro pins s σ H xs us Q I r h
  obtain ⟨a, d, rfl, hd, hs, hn, hdp, hz, q⟩ := h
  obtain ⟨u, rfl, rr⟩ := vals1 r
  cases rr
  obtain ⟨as, rd⟩ := Dp.reads I d _ _ hd rfl
  have hu := hr.un
  refine repr_of_reads' rd hs (fun e => by rw [hn] at e; cases e) hgd (by omega) (fun _ _ e => e) (fun h' u tk hk => ?_) hz
  exact ⟨.str _, H, I.kept (t' := tk) hk, ⟨_, rfl⟩, q⟩
end PK
namespace PK
open PySem PySem.Spec PyProof.Rows L2

section
variable {P : Program} {w : World} {K : PySem.W.Frag} {mg mb : Str → Option Value} {k : Nat} {fa a : Addr} {fd : FuncData} {x : Str} {sp : Sp}
  {s₁ : Shared} {vs : List Value} {ns : List Int}
abbrev AllTrue (s₁ : Shared) : Result → Shared → Prop :=
  fun r s' => r = .ok (.ret (.bool true)) ∧ OldK s₁.heap s'.heap ∧ s'.os = s₁.os ∧ AllBare s'.gens

/-- what is hidden are the tracked objects: here at most the script -/
theorem core_of {H : Hp} (KX : K.In s₁.heap) (hns : s₁.heap.Ns mainGlobals mg) (hb : s₁.heap.Ns builtinsNs mb)
    (hbb : ∀ y : Str, y ≠ "__name__" → mb y = bootBuiltins y) (hlim : s₁.heap.NoLimit) (hg : s₁.gens = #[])
    (ha : s₁.heap.get? a = some { cls := .type "list", data := .seq vs.toArray }) (hr : Room k callerA)
    (F : ∀ base : Heap, K.In base → base.Ns mainGlobals mg → FnG P w K mg base CX0 k fa fd [x] sp)
    (hbind : ∀ (s : Shared) (u : Value), BindsTo s fd ⟨[u], []⟩ [(x, u)])
    (hO : Only H) (hS : sp [.ref a] H (fun v _ => v = .bl true) fun _ _ _ => False) (hok : HOk P w H s₁.heap)
    (hA : ∀ b u, H b = some u → b = a) (hK : ∀ u, H a = some u → K.lookup a = none) :
    codeAny (model P w) callerA (.call (.ref fa) ⟨[.ref a], []⟩) (AllTrue s₁) s₁ := by
  have free : ∀ {b : Addr} {o : Obj}, s₁.heap.get? b = some o → (∀ es ep, o.data = .dict es ep → True) → (∃ es ep, o.data = .dict es ep) → H b = none := by
    intro b o e _ ⟨es, ep, d⟩
    cases q : H b with
    | none => rfl
    | some u =>
      have e1 := hA b u q
      rw [e1, ha] at e
      rw [← Option.some.inj e] at d
      cases d
  have toNs : ∀ {b : Addr} {m : Str → Option Value}, s₁.heap.Ns b m → (hidT s₁.heap H).Ns b m := by
    rintro b m ⟨o, es, ep, e, d, r⟩
    exact ⟨o, es, ep, hidT_get e (free e (fun _ _ _ => trivial) ⟨es, ep, d⟩), d, r⟩
  have KB : K.In (hidT s₁.heap H) := by
    intro b o e
    refine hidT_get (KX b o e) ?_
    cases q : H b with
    | none => rfl
    | some u =>
      have e1 := hA b u q
      subst e1
      rw [hK u q] at e
      cases e
  obtain ⟨mc, l1, l2⟩ := hlim
  have M : Mod K mg (hidT s₁.heap H) := ⟨KB, toNs hns, ⟨mb, toNs hb, hbb⟩, ⟨mc, toNs l1, l2⟩⟩
  have e0 : Env0 P w K mg (hidT s₁.heap H) callerA [] s₁ H :=
    { frames := rfl, mod := M, bs := fun b o e => of_hidT e, bsz := Nat.le_of_eq (hidT_size _ _), funs := trivial,
      frf := fun b z => absurd z (List.not_mem_nil), hok := hok, bare := .of_eq hg }
  refine codeAny_mono ((F _ KB (toNs hns)).go (us := [.ref a]) (vs := [.ref a]) rfl hr e0 (hbind s₁ (.ref a)) (.cons rfl .nil) hS) ?_
  intro res s' h
  match res, h with
  | .error _, h => exact h.elim
  | .ok .next, h => exact h.elim
  | .ok .brk, h => exact h.elim
  | .ok .cont, h => exact h.elim
  | .ok (.ret u), h =>
    obtain ⟨v, H', os, bare, un, hok', rv, ev⟩ := h
    have ev' : v = .bl true := ev
    subst ev'
    cases rv
    refine ⟨rfl, OldK.of_keep fun b o e => ?_, os, bare⟩
    rcases hO b with z | ⟨ob, xs, z⟩
    · exact un.keep b o e z (by intro z'; cases z') (by intro z'; cases z')
    · have z2 := hok' b _ (un.frzs b ob _ z)
      have z1 := hok b _ z
      have e1 : ob = o := Option.some.inj (z1.1.symm.trans e)
      rw [← e1]
      exact z2.1

theorem law_goG (KX : K.In s₁.heap) (hns : s₁.heap.Ns mainGlobals mg) (hb : s₁.heap.Ns builtinsNs mb)
    (hbb : ∀ y : Str, y ≠ "__name__" → mb y = bootBuiltins y) (hlim : s₁.heap.NoLimit) (hg : s₁.gens = #[])
    (ha : s₁.heap.get? a = some { cls := .type "list", data := .seq vs.toArray }) (hi : IntsAre vs ns) (hl : ns.length ≤ sizeLine) (hr : Room k callerA)
    (F : ∀ base : Heap, K.In base → base.Ns mainGlobals mg → FnG P w K mg base CX0 k fa fd [x] sp)
    (hbind : ∀ (s : Shared) (u : Value), BindsTo s fd ⟨[u], []⟩ [(x, u)])
    (hsp : ∀ H : Hp, Only H → SqL K H a (ns.map V.int) → sp [.ref a] H (fun v _ => v = .bl true) fun _ _ _ => False) :
    codeAny (model P w) callerA (.call (.ref fa) ⟨[.ref a], []⟩) (AllTrue s₁) s₁ := by
  have rv := vals_ints hi
  have lz : (ns.map V.int).length ≤ sizeLine := by rw [List.length_map]; exact hl
  cases hk : K.lookup a with
  | some o =>
    have e : o = _ := Option.some.inj ((KX a o hk).symm.trans ha)
    have hO : Only (fun _ => none) := fun _ => Or.inl rfl
    refine core_of (H := fun _ => none) KX hns hb hbb hlim hg ha hr F hbind hO (hsp _ hO ?_) (fun _ _ z => by cases z) (fun _ _ z => by cases z) (fun _ z => by cases z)
    refine Or.inr ⟨o, vs.toArray, 0, hk, ?_, ?_, ?_, ?_, ?_⟩
    · rw [e]
    · rw [e]
    · rw [e]
    · rw [List.size_toArray, hi.length]; exact hl
    · simpa using rv
  | none =>
    let ob : Obj := { cls := .type "list", data := .seq vs.toArray }
    let Hs : Hp := upd (fun _ => none) a (.frz ob (.lst (ns.map V.int)))
    have hO : Only Hs := fun b => by
      by_cases z : b = a
      · subst z
        exact Or.inr ⟨ob, _, upd_same⟩
      · exact Or.inl (upd_ne z)
    have only : ∀ b u, Hs b = some u → b = a ∧ u = .frz ob (.lst (ns.map V.int)) := fun b u q => by
      by_cases z : b = a
      · subst z
        rw [show Hs b = _ from upd_same] at q
        exact ⟨rfl, (Option.some.inj q).symm⟩
      · rw [show Hs b = _ from upd_ne z] at q
        cases q
    refine core_of (H := Hs) KX hns hb hbb hlim hg ha hr F hbind hO (hsp _ hO (Or.inl (Or.inr ⟨ob, upd_same⟩))) (fun b u q => ?_) (fun b u q => (only b u q).1) (fun _ _ => hk)
    obtain ⟨rfl, rfl⟩ := only b u q
    exact ⟨ha, lz, vs, 0, rv, ha⟩
end

theorem walk_ofG {l : PySem.W.OpenLaw} {n k : Nat} {q : Program} {loose : List Str} {XP : (Str → Option Value) → Heap → Prop} {YP : World → Heap → Prop}
    {d : DefRec} {K : Params → PySem.W.Frag} {sp : World → Sp} {x : Str}
    (hn : l.most = some n) (hn2 : n ≤ sizeLine) (hdf : d.params.defaults = []) (hr : Room k callerA)
    (hY : ∀ (w : World) (h : Heap), YP w h → (K w.params).In h)
    (F : ∀ (w : World) (mg : Str → Option Value) (fa : Addr) (h : Heap), (K w.params).In h → h.Ns mainGlobals mg → mg d.name = some (.ref fa) →
      ∃ fd : FuncData, (∀ (s : Shared) (u : Value), BindsTo s fd ⟨[u], []⟩ [(x, u)]) ∧
        ∀ base : Heap, (K w.params).In base → base.Ns mainGlobals mg → FnG l.prog w (K w.params) mg base CX0 k fa fd [x] (sp w))
    (hsp : ∀ (w : World) (H : Hp) (a : Addr) (ns : List Int), ns.length ≤ n → Only H → SqL (K w.params) H a (ns.map V.int) →
      sp w [.ref a] H (fun v _ => v = .bl true) fun _ _ _ => False) :
    PySem.W.WalkO q loose XP YP l.row.toRowW d [] (fun f vs => PySem.call f vs) := by
  refine Att.attach_call hn hdf ?_
  intro w s₀ s₁ mg mb fa o pm cd doc a vs ns G Y ho hd hcd hmg hobj hints hlen hg
  have KX := hY w _ Y
  obtain ⟨fd, hb, hF⟩ := F w mg fa _ KX G.T.g hmg
  exact law_goG KX G.T.g G.T.b G.T.builtins G.T.nolimit hg hobj hints (Nat.le_trans hlen hn2) hr hF hb fun H hO hS => hsp w H a ns hlen hO hS
end PK
namespace PK
open PySem PySem.Spec PyProof.Rows L2
section
open PySem.SeqAt
open PySem.AutoSeq1 (wpAny_loadPart')
open PySem.MeetsSeq PySem.MeetsSeq2 PySem.MeetsSeq3

theorem extend_tup (l b : Addr) (xs ys : Array Value) (n m : Nat) (dd : Option Addr) (sl : Array (Option Value))
    (h0 : ¬(!xs.isEmpty && Builtin.List.listTooLong (xs.size + ys.size)) = true) (h1 : xs.size ≤ sizeLine) (h2 : xs.size + ys.size ≤ sizeLine + 1) :
    Meets (Builtin.«list.extend» ⟨[.ref l, .ref b], []⟩)
      (fun _ R s => s.heap.get? l = some { cls := .type "list", dict := none, data := .seq xs n, slots := #[] } ∧
        s.heap.get? b = some { cls := .type "tuple", dict := dd, data := .seq ys m, slots := sl } ∧
        R (.ok (.ret Value.none)) { s with heap := s.heap.update l (Obj.mapSeq fun x => x ++ ys), toks := s.toks }) :=
  .of_wp fun prog w A R s h => by
    obtain ⟨hp, g, d, tk, os⟩ := s
    obtain ⟨hl, hb, h⟩ := h
    have f1 := AutoSeq1.idx_int
    have f2 := AutoSeq1.sub_tuple_tuple
    have f3 := AutoSeq1.sub_list_list
    have f4 := AutoSeq1.sub_tuple_list
    have f5 := AutoSeq1.sub_list_tuple
    have hz : (xs ++ ys).size ≤ sizeLine + 1 := by
      rw [Array.size_append]
      exact h2
    wp_walk using (wpAny_updateSeq hl rfl (hz := h1) (_hz' := hz)), wpAny_loadPart' hl, wpAny_loadPart' hb
    exact ⟨_, rfl, h⟩
end

section
variable {X : Cx}
/-- xs.extend(t), t a tuple -/
def rExtT (K : PySem.W.Frag) : V → List V → Hp → VK → Prop := fun x vs H Q => ∃ l b xs zs, x = .ref l ∧ vs = [.ref b] ∧ H l = some (.lst xs) ∧
  SqT K H b zs ∧ xs.length + zs.length ≤ sizeLine ∧ Q .non (upd H l (.lst (xs ++ zs)))
theorem mt_extT : MtM X "list.extend" (rExtT X.K) := by
  intro pins s σ H x vs v us Q I rx rv h
  obtain ⟨l, b, xs, zs, rfl, rfl, hH, hB, hz, q⟩ := h
  cases rx
  obtain ⟨u, rfl, ru⟩ := rv.one
  cases ru
  obtain ⟨z, its, n, r, hl, e⟩ := I.lstM hH
  obtain ⟨ys, ry, ⟨⟨cls, dd, data, sl⟩, ho, hc, m, hd⟩, zy⟩ := I.tuple hB
  simp only at hc hd
  subst hc hd
  have l1 := r.length
  have l2 := ry.length
  have hsz : its.toArray.size + ys.toArray.size ≤ sizeLine := by
    rw [List.size_toArray, List.size_toArray]
    omega
  have hlong : ¬ (!its.toArray.isEmpty && Builtin.List.listTooLong (its.toArray.size + ys.toArray.size)) = true := by
    rw [notLongL hsz, Bool.and_false]
    exact Bool.false_ne_true
  refine call_meets PySem.F.slot_list_extend ⟨_, e, rfl⟩ PySem.F.entry_list_extend (PySem.F.args_list_extend_2 _ _)
    (extend_tup l b its.toArray ys.toArray n m dd sl hlong (by rw [List.size_toArray]; omega) (by omega)) ⟨e, ho, ?_⟩
  refine ⟨.non, _, I.lset (its' := its ++ ys) hH e (by simp) (r.append ry) ?_, rfl, q⟩
  rw [List.length_append]
  omega
end

/-! ### t[::-1] -/
section
variable {prog : Program} {w : World} {A : Around} {E : Value → Shared → Prop} {s : Shared}
theorem places_rev (n : Nat) : Builtin.Slice.slicePlaces ((n : Int) - 1) (-1) (-1) = n := by
  unfold Builtin.Slice.slicePlaces
  have h1 : ¬ ((-1 : Int) > 0) := by omega
  simp only [h1, if_false]
  by_cases h : (n : Int) - 1 > -1
  · rw [if_pos h]
    have e : ((n : Int) - 1 - -1 - 1) / (- -1) = (n : Int) - 1 := by
      rw [Int.neg_neg, Int.ediv_one]
      omega
    rw [e]
    omega
  · rw [if_neg h]
    omega
theorem fm_congr {α β : Type} {f g : α → Option β} : ∀ {l : List α}, (∀ k ∈ l, f k = g k) → l.filterMap f = l.filterMap g
  | [], _ => rfl
  | x :: l, h => by
    rw [List.filterMap_cons, List.filterMap_cons, h x List.mem_cons_self, fm_congr fun k hk => h k (List.mem_cons_of_mem _ hk)]
theorem range_pick {α : Type} : ∀ l : List α, (List.range l.length).filterMap (fun k => l[k]?) = l
  | [] => rfl
  | a :: l => by
    rw [List.length_cons, List.range_succ_eq_map, List.filterMap_cons, List.filterMap_map]
    have e : ((fun k => (a :: l)[k]?) ∘ Nat.succ) = fun k => l[k]? := by
      funext k
      rfl
    rw [e, range_pick l]
    rfl
theorem pick_rev (xs : Array Value) : ((List.range xs.size).filterMap fun (k : Nat) => xs[(((xs.size : Int) - 1) + (k : Int) * (-1)).toNat]?).toArray = xs.toList.reverse.toArray := by
  congr 1
  have el : xs.size = xs.toList.reverse.length := by simp
  have e1 : ((List.range xs.size).filterMap fun (k : Nat) => xs[(((xs.size : Int) - 1) + (k : Int) * (-1)).toNat]?) = (List.range xs.size).filterMap fun k => xs.toList.reverse[k]? := by
    refine fm_congr fun k hk => ?_
    have hk' := List.mem_range.mp hk
    rw [List.getElem?_reverse (by simpa using hk')]
    have e2 : (((xs.size : Int) - 1) + (k : Int) * (-1)).toNat = xs.toList.length - 1 - k := by
      rw [Array.length_toList]
      omega
    rw [e2, Array.getElem?_toList]
  rw [e1, el]
  exact range_pick _
theorem applied_rev {sl : Addr} {n : Nat} {vl vu vs : Value} {R : Int × Int × Nat → Shared → Prop} (hs : s.heap.IsSliceOf sl vl vu vs)
    (pl : IsPart vl none) (pu : IsPart vu none) (pv : IsPart vs (some (-1))) (hR : R ((n : Int) - 1, -1, n) s) :
    wpAny (model prog w) A (Builtin.Slice.sliceApplied (.ref sl) (pure (n : Int))) R E s := by
  obtain ⟨os, hos, hcs, hds⟩ := id hs
  unfold Builtin.Slice.sliceApplied Builtin.Slice.sliceFields
  refine wpAny_bind (wpAny_bind (wpAny_field hos hds (x := vl) rfl (wpAny_bind (wpAny_field hos hds (x := vu) rfl (wpAny_bind (wpAny_field hos hds (x := vs) rfl (wpAny_pure ?_)))))))
  refine wpAny_bind (HT.slicePart_ pv ?_)
  show wpAny _ _ (if ((-1 : Int) == 0) = true then _ else _) _ _ s
  rw [if_neg (by decide)]
  refine wpAny_bind (HT.slicePart_ pl (wpAny_bind (HT.slicePart_ pu (wpAny_bind (wpAny_pure ?_)))))
  show wpAny _ _ (pure ((n : Int) - 1, (-1 : Int), Builtin.Slice.slicePlaces ((n : Int) - 1) (-1) (-1))) _ _ s
  rw [places_rev]
  exact wpAny_pure hR
theorem getItem_tup_rev {t sl : Addr} {items : Array Value} {vl vu vs : Value} {Q : Value → Shared → Prop} (ht : IsTup s.heap t items)
    (hs : s.heap.IsSliceOf sl vl vu vs) (pl : IsPart vl none) (pu : IsPart vu none) (pv : IsPart vs (some (-1)))
    (h : Q (.ref s.heap.objs.size) { s with heap := s.heap.push { cls := .type "tuple", data := .seq items.toList.reverse.toArray } })
    (hsz : items.size ≤ sizeLine) : wpAny (model prog w) A (getItem (.ref t) (.ref sl)) Q E s := by
  have htake : sizeOk (.seq items.toList.reverse.toArray) := by
    show items.toList.reverse.toArray.size ≤ sizeLine
    rw [List.size_toArray, List.length_reverse, Array.length_toList]
    exact hsz
  obtain ⟨os, hos, hcs, hds⟩ := id hs
  have hTs : s.TypeIs (.ref sl) "slice" := ⟨os, hos, hcs⟩
  unfold getItem
  try with_reducible refine wpAny_holding ?_
  first | refine wpAny_bind (wpAny_pure ?_) | skip
  refine wpAny_bind (wpAny_sequenceKey ht.typeIs (by decide) ?_)
  refine wpAny_bind (wpAny_callSpecial?_slot (name := Str.ofString "__getitem__") ht.typeIs PyProof.Rows.slot_tuple_getitem
    (wpAny_call_entry PyProof.Rows.slot_tuple_getitem ht.typeIs entry_tuple_getitem ?_ (args_tuple_getitem _ _)))
  show wpAny _ _ (Builtin.Tuple.tupleItemsOf (.ref t) >>= _) _ _ s
  refine wpAny_bind (tupleItemsOf_ ht (wpAny_bind (wpAny_typeOf hTs ?_)))
  rw [if_pos (by decide)]
  refine wpAny_bind (applied_rev hs pl pu pv ?_)
  have hno : ¬ ((((items.size : Int) - 1) == 0 && (-1 : Int) == 1 && items.size == items.size) = true) := by
    intro q
    rw [Bool.and_eq_true, Bool.and_eq_true] at q
    exact absurd q.1.2 (by decide)
  show wpAny _ _ (if (((items.size : Int) - 1) == 0 && (-1 : Int) == 1 && items.size == items.size) = true then _ else _) _ _ s
  rw [if_neg hno, pick_rev]
  first
    | exact wpAny_bind (m := Builtin.Tuple.tupleExact _) (wpAny_newObj_type (wpAny_pure ⟨_, rfl, wpAny_pure h⟩) htake)
    | exact wpAny_bind (wpAny_bind (m := Builtin.Tuple.tupleExact _) (wpAny_newObj_type (wpAny_pure ⟨_, rfl, wpAny_pure h⟩) htake))
end
section
variable {X : Cx}
def tRevT (K : PySem.W.Frag) (te : TE) : TE := fun σ H Q => te σ H fun x H1 => ∃ a xs, x = .ref a ∧ SqT K H1 a xs ∧
  ∀ p, H1 p = none → Q (.ref p) (upd H1 p (.tup xs.reverse))
theorem pe_revT {e : Expr} {te : TE} {k : Nat} {p1 p2 p3 pos : Pos} (he : PE X e te) :
    PE X (.Subscript e (.Slice none none (some (.UnaryOp .USub (.Constant (.int 1) k p1) p2)) p3) pos) (tRevT X.K te) := by
  refine ⟨fun pins s σ H Q I h => Subscript_ (thn (he.run pins s σ H _ I h) ?_)⟩
  rintro v s1 ⟨x, H1, I1, r1, a, xs, rfl, hx, q⟩
  cases r1
  have hst : PO X (some (.UnaryOp .USub (.Constant (.int 1) k p1) p2)) (tPart (tUn (rU fun i => .int (-i)) (tC (.int 1)))) := po_some (pe_un un_neg pe_int)
  refine wpAny_Slice (thn (po_none.run pins s1 σ H1 (fun o H' => o = none ∧ H' = H1) I1 ⟨rfl, rfl⟩) ?_)
  rintro vl s2 ⟨l, H2, I2, pl, rfl, rfl⟩
  refine thn (po_none.run pins s2 σ H2 (fun o H' => o = none ∧ H' = H2) I2 ⟨rfl, rfl⟩) ?_
  rintro vu s3 ⟨u, H3, I3, pu, rfl, rfl⟩
  refine thn (hst.run pins s3 σ H3 (fun o H' => o = some (-1) ∧ H' = H3) I3 ⟨1, rfl, -1, rfl, rfl, rfl⟩) ?_
  rintro vs s4 ⟨o, H4, I4, ps, rfl, rfl⟩
  have I5 : Inv X pins σ H4 { s4 with heap := s4.heap.push { cls := .type "slice", data := .fields #[vl, vu, vs] } } :=
    I4.kept (t' := s4.toks) fun b ob q => Heap.get?_push_of_some _ q
  obtain ⟨its, r, ht, hz⟩ := I5.tuple hx
  have hlen := r.length
  show wpAny (model X.prog X.w) X.A (subscriptTail e _ (.ref a) (.ref s4.heap.objs.size)) _ _ _
  refine tail_any (ops := [.ref a, .ref s4.heap.objs.size]) ht.typeIs (PyProof.Rows.slot_tuple_getitem.lookup) ?_ (by with_unfolding_all rfl)
  refine getItem_tup_rev ht (Heap.IsSliceOf.new _ vl vu vs) pl pu ps ?_ (by rw [List.size_toArray]; omega)
  refine ⟨.ref _, _, I5.laid (t' := s4.toks) (o := .tup xs.reverse) (fun b ob q => Heap.get?_push_of_some _ q) (Nat.le_refl _) ?_, rfl, q _ (I5.hok.fresh (Nat.le_refl _))⟩
  refine ⟨by rw [List.length_reverse]; exact hz, its.reverse, r.reverse, ⟨_, Heap.get?_push_size _ rfl, rfl, 0, rfl⟩⟩
end

/-! ### xs != [], xs == [] -/
section
open PySem.SeqAt
open PySem.AutoSeq1 (wpAny_loadPart')
open PySem.MeetsSeq PySem.MeetsSeq2 PySem.MeetsSeq3
theorem list_ne_sizes (l b : Addr) (xs ys : Array Value) (n m : Nat) (sl sl2 : Array (Option Value)) (hc : (xs.size != ys.size) = true) :
    Meets (Builtin.«list.__ne__» ⟨[.ref l, .ref b], []⟩)
      (fun _ R s => s.heap.get? l = some { cls := .type "list", dict := none, data := .seq xs n, slots := sl } ∧
        s.heap.get? b = some { cls := .type "list", dict := none, data := .seq ys m, slots := sl2 } ∧ R (.ok (.ret (.bool true))) s) :=
  .of_wp fun prog w A R s h => by
    obtain ⟨hp, g, d, tk, os⟩ := s
    obtain ⟨hl, hb, h⟩ := h
    have f3 := AutoSeq1.sub_list_list
    wp_walk using wpAny_loadPart' hl, wpAny_loadPart' hb
    exact ⟨_, rfl, h⟩
theorem list_eq_sizes (l b : Addr) (xs ys : Array Value) (n m : Nat) (sl sl2 : Array (Option Value)) (hc : (xs.size != ys.size) = true) :
    Meets (Builtin.«list.__eq__» ⟨[.ref l, .ref b], []⟩)
      (fun _ R s => s.heap.get? l = some { cls := .type "list", dict := none, data := .seq xs n, slots := sl } ∧
        s.heap.get? b = some { cls := .type "list", dict := none, data := .seq ys m, slots := sl2 } ∧ R (.ok (.ret (.bool false))) s) :=
  .of_wp fun prog w A R s h => by
    obtain ⟨hp, g, d, tk, os⟩ := s
    obtain ⟨hl, hb, h⟩ := h
    have f3 := AutoSeq1.sub_list_list
    wp_walk using wpAny_loadPart' hl, wpAny_loadPart' hb
    exact ⟨_, rfl, h⟩
end
section
variable {X : Cx}
def rNeNil (K : PySem.W.Frag) : R2 := fun x y H Q => ∃ a b xs, x = .ref a ∧ y = .ref b ∧ SqL K H a xs ∧ SqL K H b [] ∧ Q (.bl (!xs.isEmpty)) H
def rEqNil (K : PySem.W.Frag) : R2 := fun x y H Q => ∃ a b xs, x = .ref a ∧ y = .ref b ∧ SqL K H a xs ∧ SqL K H b [] ∧ Q (.bl xs.isEmpty) H
theorem op_neNil {k : Nat} (hr : Room k X.A) : OpR X (compareOp .NotEq) (rNeNil X.K) := by
  intro pins s σ H x y v u Q I rx ry h
  obtain ⟨a, b, xs, rfl, rfl, ha, hb, q⟩ := h
  cases xs with
  | nil => exact op_neD hr.units pins s σ H _ _ v u Q I rx ry ⟨.list [], .list [], .lst ha .nil, .lst hb .nil, rfl, rfl, q⟩
  | cons z zs =>
    cases rx
    cases ry
    obtain ⟨its, r, ⟨⟨cls, dd, data, sl⟩, n, ho, hc, hdd, hd⟩, _⟩ := I.list ha
    obtain ⟨jts, r2, ⟨⟨cls2, dd2, data2, sl2⟩, n2, ho2, hc2, hdd2, hd2⟩, _⟩ := I.list hb
    simp only at hc hd hdd hc2 hd2 hdd2
    subst hc hd hdd hc2 hd2 hdd2
    cases r2
    have hz : (its.toArray.size != ([] : List Value).toArray.size) = true := by
      rw [List.size_toArray, ← r.length]
      rfl
    exact richCompare_meets_room (op := .NotEq) ⟨_, ho, rfl⟩ ⟨_, ho2, rfl⟩ PySem.F.slot_list_ne PySem.F.entry_list_ne (PySem.F.args_list_ne_2 _ _)
      (list_ne_sizes a b its.toArray ([] : List Value).toArray n n2 sl sl2 hz) ⟨ho, ho2, (fun z => nomatch z), ⟨.bl true, H, I, rfl, q⟩⟩ hr.units0
theorem op_eqNil {k : Nat} (hr : Room k X.A) : OpR X (compareOp .Eq) (rEqNil X.K) := by
  intro pins s σ H x y v u Q I rx ry h
  obtain ⟨a, b, xs, rfl, rfl, ha, hb, q⟩ := h
  cases xs with
  | nil => exact op_eqD hr.units pins s σ H _ _ v u Q I rx ry ⟨.list [], .list [], .lst ha .nil, .lst hb .nil, rfl, rfl, q⟩
  | cons z zs =>
    cases rx
    cases ry
    obtain ⟨its, r, ⟨⟨cls, dd, data, sl⟩, n, ho, hc, hdd, hd⟩, _⟩ := I.list ha
    obtain ⟨jts, r2, ⟨⟨cls2, dd2, data2, sl2⟩, n2, ho2, hc2, hdd2, hd2⟩, _⟩ := I.list hb
    simp only at hc hd hdd hc2 hd2 hdd2
    subst hc hd hdd hc2 hd2 hdd2
    cases r2
    have hz : (its.toArray.size != ([] : List Value).toArray.size) = true := by
      rw [List.size_toArray, ← r.length]
      rfl
    exact richCompare_meets_room (op := .Eq) ⟨_, ho, rfl⟩ ⟨_, ho2, rfl⟩ PySem.F.slot_list_eq PySem.F.entry_list_eq (PySem.F.args_list_eq_2 _ _)
      (list_eq_sizes a b its.toArray ([] : List Value).toArray n n2 sl sl2 hz) ⟨ho, ho2, (fun z => nomatch z), ⟨.bl false, H, I, rfl, q⟩⟩ hr.units0
end
end PK
namespace PK
open PySem PySem.Spec PyProof.Rows L2

/-- a def that may be called: its promise, its name, how its arguments come -/
structure Cal (P : Program) (w : World) (K : PySem.W.Frag) (mg : Str → Option Value) (base : Heap) (k : Nat) (x : Str) (f : Addr)
    (fd : FuncData) (ps : List Str) (sp : Sp) : Prop where
  ok : FnOk P w K mg base CX0 k f fd ps sp
  g : mg x = some (.ref f)
  kp : PySem.W.keepIn K (.ref f) = true
  b : Binds K fd ps []
structure CalG (P : Program) (w : World) (K : PySem.W.Frag) (mg : Str → Option Value) (base : Heap) (k : Nat) (x : Str) (f : Addr)
    (fd : FuncData) (ps : List Str) (sp : Sp) : Prop where
  ok : FnG P w K mg base CX0 k f fd ps sp
  g : mg x = some (.ref f)
  kp : PySem.W.keepIn K (.ref f) = true
  b : Binds K fd ps []

/-! ### the heap but for one object -/
/-- all that was tracked, but the object at a, is as it was -/
def Ext (a : Addr) (H H' : Hp) : Prop := ∀ b o, H b = some o → b ≠ a → H' b = some o
theorem Ext.refl (a : Addr) (H : Hp) : Ext a H H := fun _ _ h _ => h
theorem Ext.trans {a : Addr} {H H1 H2 : Hp} (x : Ext a H H1) (y : Ext a H1 H2) : Ext a H H2 := fun b o h n => y b o (x b o h n) n
theorem Ext.of {a : Addr} {H H' : Hp} (x : Same H H') : Ext a H H' := fun b o h _ => x b o h
theorem Ext.new {a p : Addr} {H H1 : Hp} {o : HO} (x : Ext a H H1) (np : H1 p = none) : Ext a H (upd H1 p o) := fun b u h n => by
  have h1 := x b u h n
  rw [upd_ne (ne_of_none h1 np)]
  exact h1
theorem Ext.at {a : Addr} {H H1 : Hp} {o : HO} (x : Ext a H H1) : Ext a H (upd H1 a o) := fun b u h n => by
  rw [upd_ne n]
  exact x b u h n
/-- a new object of ours changes -/
theorem Ext.own {a p : Addr} {H H1 : Hp} {o : HO} (x : Ext a H H1) (np : H p = none) : Ext a H (upd H1 p o) := fun b u h n => by
  rw [upd_ne (ne_of_none h np)]
  exact x b u h n
theorem Ext.free {a p : Addr} {H H1 : Hp} (x : Ext a H H1) (np : H1 p = none) (ne : p ≠ a) : H p = none := by
  cases q : H p with
  | none => rfl
  | some o =>
    rw [x p o q ne] at np
    cases np
theorem same_new {H H1 : Hp} {p : Addr} {o : HO} (x : Same H H1) (np : H1 p = none) : Same H (upd H1 p o) := fun b u h => by
  have h1 := x b u h
  rw [upd_ne (ne_of_none h1 np)]
  exact h1
theorem same_own {H H1 : Hp} {p : Addr} {o : HO} (x : Same H H1) (np : H p = none) : Same H (upd H1 p o) := fun b u h => by
  rw [upd_ne (ne_of_none h np)]
  exact x b u h

/-! ### what the law draws from -/
abbrev kC : Key := Sum.inr "cells"
abbrev kA : Key := Sum.inr "at"
abbrev kL : Key := Sum.inr "left"
abbrev kN : Key := Sum.inr "count"
def feed (c : Addr) (i l n : Int) : List (Key × V) := [(kC, .ref c), (kA, .int i), (kL, .int l), (kN, .int n)]
theorem feed_cells (c : Addr) (i l n : Int) : valV (feed c i l n) kC = some (.ref c) := rfl
theorem feed_at (c : Addr) (i l n : Int) : valV (feed c i l n) kA = some (.int i) := rfl
theorem feed_left (c : Addr) (i l n : Int) : valV (feed c i l n) kL = some (.int l) := rfl
theorem feed_count (c : Addr) (i l n : Int) : valV (feed c i l n) kN = some (.int n) := rfl
theorem feed_putA (c : Addr) (i l n j : Int) : putK (feed c i l n) kA (.int j) = feed c j l n := rfl
theorem feed_putL (c : Addr) (i l n j : Int) : putK (feed c i l n) kL (.int j) = feed c i j n := rfl
theorem feed_putN (c : Addr) (i l n j : Int) : putK (feed c i l n) kN (.int j) = feed c i l j := rfl
theorem feed_len (c : Addr) (i l n : Int) : (feed c i l n).length < sizeLine := by
  show 4 < sizeLine
  decide
theorem feed_merge (c : Addr) (i l n : Int) : mergeK [] (feed c i l n) = feed c i l n := rfl
/-- the feed at a: cells, all of them ints, and three numbers -/
structure Feed (H : Hp) (a : Addr) (c : Addr) (cs : List Int) (i l n : Int) : Prop where
  d : H a = some (.dK (feed c i l n))
  l : H c = some (.lst (cs.map V.int))
  i0 : 0 ≤ i
theorem Feed.ne {H : Hp} {a c : Addr} {cs : List Int} {i l n : Int} (f : Feed H a c cs i l n) : c ≠ a := ne_of f.l f.d (by intro z; cases z)
def IsFeed (H : Hp) (a c : Addr) : Prop := ∃ cs i l n, Feed H a c cs i l n
theorem Feed.new {H : Hp} {a c p : Addr} {cs : List Int} {i l n : Int} {o : HO} (f : Feed H a c cs i l n) (np : H p = none) : Feed (upd H p o) a c cs i l n :=
  ⟨by rw [upd_ne (ne_of_none f.d np)]; exact f.d, by rw [upd_ne (ne_of_none f.l np)]; exact f.l, f.i0⟩
theorem Feed.put {H : Hp} {a c : Addr} {cs : List Int} {i l n i' l' n' : Int} (f : Feed H a c cs i l n) (h : 0 ≤ i') : Feed (upd H a (.dK (feed c i' l' n'))) a c cs i' l' n' :=
  ⟨upd_same, by rw [upd_ne f.ne]; exact f.l, h⟩
theorem IsFeed.new {H : Hp} {a c p : Addr} {o : HO} (f : IsFeed H a c) (np : H p = none) : IsFeed (upd H p o) a c := by
  obtain ⟨cs, i, l, n, f⟩ := f
  exact ⟨cs, i, l, n, f.new np⟩
theorem IsFeed.keep {H H' : Hp} {a c : Addr} (f : IsFeed H a c) (h : Same H H') : IsFeed H' a c := by
  obtain ⟨cs, i, l, n, f⟩ := f
  exact ⟨cs, i, l, n, h _ _ f.d, h _ _ f.l, f.i0⟩
theorem IsFeed.some {H : Hp} {a c : Addr} (f : IsFeed H a c) : ∃ o, H a = some o := by
  obtain ⟨cs, i, l, n, f⟩ := f
  exact ⟨_, f.d⟩
theorem IsFeed.ne {H : Hp} {a c p : Addr} (f : IsFeed H a c) (np : H p = none) : p ≠ a ∧ p ≠ c := by
  obtain ⟨cs, i, l, n, f⟩ := f
  exact ⟨(ne_of_none f.d np).symm, (ne_of_none f.l np).symm⟩
/-- an object of ours that is neither the feed nor its cells changes -/
theorem IsFeed.own {H : Hp} {a c p : Addr} {o : HO} (f : IsFeed H a c) (h : p ≠ a ∧ p ≠ c) : IsFeed (upd H p o) a c := by
  obtain ⟨cs, i, l, n, f⟩ := f
  exact ⟨cs, i, l, n, by rw [upd_ne h.1.symm]; exact f.d, by rw [upd_ne h.2.symm]; exact f.l, f.i0⟩

/-- a draw: any number below the second -/
def spDraw : Sp := fun vs H Q _ => ∃ (a c : Addr) (m : Int), vs = [.ref a, .int m] ∧ IsFeed H a c ∧ 0 < m ∧ m ≤ 1000000 ∧
  ∀ (r : Int) (H' : Hp), 0 ≤ r → r < m → Ext a H H' → IsFeed H' a c → Q (.int r) H'

/-- the else of an if, said once -/
theorem if_else {tc : TT} {u v : TS} {D : Ends} {σ : L2.St} {H : Hp} (R : Hp → Prop) (hv : ∀ H', R H' → v D σ H')
    (h : (∀ H', R H' → v D σ H') → tIfS tc u v D σ H) : tIfS tc u v D σ H := h hv
end PK
namespace PK
open PySem PySem.Spec PyProof.Rows L2
/-- a small letter; a word: one to eight of them -/
def Lw (c : Nat) : Prop := 97 ≤ c ∧ c ≤ 122
structure Word (y : Str) : Prop where
  one : 1 ≤ y.length
  eight : y.length ≤ 8
  low : ∀ c ∈ y.cps.toList, Lw c
abbrev abc : Str := "abcdefghijklmnopqrstuvwxyz"
theorem abc_list : abc.cps.toList = List.range' 97 26 := by decide +kernel
theorem abc_len : abc.length ≤ sizeLine := by decide +kernel
theorem abc_at {i : Int} (h0 : 0 ≤ i) (h1 : i < 26) : ∃ c, atI abc.cps.toList i = some c ∧ Lw c := by
  refine ⟨97 + i.toNat, ?_, by omega, by omega⟩
  rw [abc_list]
  obtain ⟨n, rfl⟩ := Int.eq_ofNat_of_zero_le h0
  refine atI_nat ?_
  rw [Int.toNat_natCast, List.getElem?_range' (by omega)]
  rw [Nat.one_mul]
theorem len_one (c : Nat) : (⟨#[c]⟩ : Str).length = 1 := rfl
theorem word_one {c : Nat} (h : Lw c) : Word ⟨#[c]⟩ := ⟨Nat.le_refl 1, by rw [len_one]; omega, fun d hd => by
  have e : d = c := by simpa using hd
  rw [e]; exact h⟩
/-- a sign behind a word -/
theorem word_snoc {y : Str} {c : Nat} (h : Word y) (h8 : y.length < 8) (hc : Lw c) : Word (y ++ ⟨#[c]⟩) := by
  refine ⟨?_, ?_, fun d hd => ?_⟩
  · rw [strLen_append, len_one]; omega
  · rw [strLen_append, len_one]; omega
  · rw [mem_cps_append] at hd
    rcases hd with z | z
    · exact h.low d z
    · have e : d = c := by simpa using z
      rw [e]; exact hc
/-- a sign, and up to seven behind it -/
theorem word_join {c : Nat} {l : List Nat} (hc : Lw c) (hl : l.length ≤ 7) (h : ∀ d ∈ l, Lw d) : Word (⟨#[c]⟩ ++ Txt.join ⟨#[]⟩ (l.map fun k => (⟨#[k]⟩ : Str))) := by
  rw [TL.join_eq, join_ones]
  have e : (⟨l.toArray⟩ : Str).length = l.length := by simp [Str.length]
  refine ⟨?_, ?_, fun d hd => ?_⟩
  · rw [strLen_append, len_one]; omega
  · rw [strLen_append, len_one, e]; omega
  · rw [mem_cps_append] at hd
    rcases hd with z | z
    · have e : d = c := by simpa using z
      rw [e]; exact hc
    · exact h d (by simpa using z)

/-- so many words, a new list -/
def spNames : Sp := fun vs H Q _ => ∃ (a c : Addr) (m : Int), vs = [.ref a, .int m] ∧ IsFeed H a c ∧ 1 ≤ m ∧ m ≤ 8 ∧
  ∀ (p : Addr) (H' : Hp) (ws : List Str), H p = none → Ext a H H' → IsFeed H' a c → H' p = some (.lst (ws.map V.str)) → (ws.length : Int) = m →
    (∀ y ∈ ws, Word y) → Q (.ref p) H'
theorem strs_at {ws : List Str} {i : Nat} (h : i < ws.length) : (ws.map V.str)[i]? = some (.str ws[i]) := by
  rw [List.getElem?_map, List.getElem?_eq_getElem h]
  rfl
theorem strs_last {ws : List Str} (h : ws ≠ []) : atI (ws.map V.str) (-1) = some (.str (ws.getLast h)) := by
  have e : ws.map V.str = ws.dropLast.map V.str ++ [.str (ws.getLast h)] := by
    rw [← List.map_singleton (f := V.str), ← List.map_append, List.dropLast_concat_getLast]
  rw [e]
  exact atI_last _ _
end PK
namespace PK
open PySem PySem.Spec PyProof.Rows L2
/-- how many: from one to a thousand millions -/
def spMany : Sp := fun vs H Q _ => ∃ (a c : Addr), vs = [.ref a] ∧ IsFeed H a c ∧
  ∀ (r : Int) (H' : Hp), 1 ≤ r → r ≤ 1000000000 → Ext a H H' → IsFeed H' a c → Q (.int r) H'
end PK
namespace PK
open PySem PySem.Spec PyProof.Rows L2

/-! ### what never changes: tuples -/
def Tk : HO → Prop
  | .tup _ => True
  | .frz _ _ => True
  | _ => False
/-- the tuples (and what is locked) stay -/
def TKeep (H H' : Hp) : Prop := ∀ b u, Tk u → H b = some u → H' b = some u
theorem TKeep.refl (H : Hp) : TKeep H H := fun _ _ _ h => h
theorem TKeep.trans {H H1 H2 : Hp} (x : TKeep H H1) (y : TKeep H1 H2) : TKeep H H2 := fun b u t h => y b u t (x b u t h)
theorem TKeep.of {H H' : Hp} (x : Same H H') : TKeep H H' := fun b u _ h => x b u h
theorem TKeep.new {H : Hp} {p : Addr} {o : HO} (np : H p = none) : TKeep H (upd H p o) := fun b u _ h => by
  rw [upd_ne (ne_of_none h np)]
  exact h
theorem TKeep.lst {H : Hp} {p : Addr} {xs : List V} {o : HO} (hp : H p = some (.lst xs)) : TKeep H (upd H p o) := fun b u t h => by
  rw [upd_ne (ne_of h hp (by rintro rfl; exact t))]
  exact h
theorem TKeep.ext {H H' : Hp} {a : Addr} {kv : List (Key × V)} (ha : H a = some (.dK kv)) (x : Ext a H H') : TKeep H H' := fun b u t h =>
  x b u h (ne_of h ha (by rintro rfl; exact t))
theorem TKeep.feed {H H' : Hp} {a c : Addr} (f : IsFeed H a c) (x : Ext a H H') : TKeep H H' := by
  obtain ⟨cs, i, l, n, f⟩ := f
  exact TKeep.ext f.d x
theorem TKeep.sq {K : PySem.W.Frag} {H H' : Hp} {b : Addr} {xs : List V} (x : TKeep H H') (h : SqT K H b xs) : SqT K H' b xs := by
  rcases h with (h | ⟨o, h⟩) | h
  · exact Or.inl (Or.inl (x _ _ trivial h))
  · exact Or.inl (Or.inr ⟨o, x _ _ trivial h⟩)
  · exact Or.inr h
mutual
/-- data without lists and dicts -/
def flatT : PyData → Bool
  | .none | .bool _ | .int _ | .str _ => true
  | .tuple xs => flatTs xs
  | _ => false
def flatTs : List PyData → Bool
  | [] => true
  | x :: xs => flatT x && flatTs xs
end
mutual
theorem Dp.keepT {K : PySem.W.Frag} {H H' : Hp} (x : TKeep H H') : ∀ {d : PyData} {v : V}, flatT d = true → Dp K H v d → Dp K H' v d
  | .none, _, _, .non => .non
  | .bool _, _, _, .bl b => .bl b
  | .int _, _, _, .int i => .int i
  | .str _, _, _, .str y => .str y
  | .list _, _, h, _ => by simp [flatT] at h
  | .dict _, _, h, _ => by simp [flatT] at h
  | .tuple ds, _, h, .tup hs ha => .tup (x.sq hs) (DpAll.keepT x (by simpa [flatT] using h) ha)
theorem DpAll.keepT {K : PySem.W.Frag} {H H' : Hp} (x : TKeep H H') : ∀ {ds : List PyData} {vs : List V}, flatTs ds = true → DpAll K H vs ds → DpAll K H' vs ds
  | [], _, _, .nil => .nil
  | d :: ds, _, h, .cons h1 h2 => by
    have h' : flatT d = true ∧ flatTs ds = true := by simpa [flatTs] using h
    exact .cons (Dp.keepT x h'.1 h1) (DpAll.keepT x h'.2 h2)
end
mutual
theorem Dp.same {K : PySem.W.Frag} {H H' : Hp} (x : Same H H') : ∀ {d : PyData} {v : V}, Dp K H v d → Dp K H' v d
  | .none, _, .non => .non
  | .bool _, _, .bl b => .bl b
  | .int _, _, .int i => .int i
  | .str _, _, .str y => .str y
  | .list ds, _, .lst hs ha => .lst (x.seq hs) (DpAll.same x ha)
  | .tuple ds, _, .tup hs ha => .tup ((TKeep.of x).sq hs) (DpAll.same x ha)
theorem DpAll.same {K : PySem.W.Frag} {H H' : Hp} (x : Same H H') : ∀ {ds : List PyData} {vs : List V}, DpAll K H vs ds → DpAll K H' vs ds
  | [], _, .nil => .nil
  | d :: ds, _, .cons h1 h2 => .cons (Dp.same x h1) (DpAll.same x h2)
end
theorem DpAll.len {K : PySem.W.Frag} {H : Hp} : ∀ {vs : List V} {ds : List PyData}, DpAll K H vs ds → vs.length = ds.length
  | _, _, .nil => rfl
  | _, _, .cons _ h => by rw [List.length_cons, List.length_cons, DpAll.len h]
theorem DpAll.snoc {K : PySem.W.Frag} {H : Hp} {v : V} {d : PyData} (h : Dp K H v d) : ∀ {vs : List V} {ds : List PyData}, DpAll K H vs ds → DpAll K H (vs ++ [v]) (ds ++ [d])
  | _, _, .nil => .cons h .nil
  | _, _, .cons h1 h2 => .cons h1 (DpAll.snoc h h2)
theorem DpAll.app {K : PySem.W.Frag} {H : Hp} : ∀ {vs us : List V} {ds es : List PyData}, DpAll K H vs ds → DpAll K H us es → DpAll K H (vs ++ us) (ds ++ es)
  | _, _, _, _, .nil, h => h
  | _, _, _, _, .cons h1 h2, h => .cons h1 (DpAll.app h2 h)
theorem DpAll.get {K : PySem.W.Frag} {H : Hp} : ∀ {vs : List V} {ds : List PyData} {i : Nat} {d : PyData}, DpAll K H vs ds → ds[i]? = some d → ∃ v, vs[i]? = some v ∧ Dp K H v d
  | _, _, _, _, .nil, h => by simp at h
  | _, _, 0, _, .cons h1 _, h => ⟨_, rfl, by
    have e := Option.some.inj h
    rw [← e]; exact h1⟩
  | _, _, i + 1, _, .cons _ h2, h => by
    obtain ⟨v, e, r⟩ := DpAll.get (i := i) h2 (by simpa using h)
    exact ⟨v, by simpa using e, r⟩
theorem DpAll.getV {K : PySem.W.Frag} {H : Hp} : ∀ {vs : List V} {ds : List PyData} {i : Nat} {v : V}, DpAll K H vs ds → vs[i]? = some v → ∃ d, ds[i]? = some d ∧ Dp K H v d
  | _, _, _, _, .nil, h => by simp at h
  | _, _, 0, _, .cons h1 _, h => ⟨_, rfl, by
    have e := Option.some.inj h
    rw [← e]; exact h1⟩
  | _, _, i + 1, _, .cons _ h2, h => by
    obtain ⟨v, e, r⟩ := DpAll.getV (i := i) h2 (by simpa using h)
    exact ⟨v, by simpa using e, r⟩
theorem DpAll.take {K : PySem.W.Frag} {H : Hp} : ∀ (n : Nat) {vs : List V} {ds : List PyData}, DpAll K H vs ds → DpAll K H (vs.take n) (ds.take n)
  | 0, _, _, _ => .nil
  | _ + 1, _, _, .nil => .nil
  | n + 1, _, _, .cons h1 h2 => .cons h1 (DpAll.take n h2)
theorem DpAll.rev {K : PySem.W.Frag} {H : Hp} : ∀ {vs : List V} {ds : List PyData}, DpAll K H vs ds → DpAll K H vs.reverse ds.reverse
  | _, _, .nil => .nil
  | _, _, .cons h1 h2 => by
    rw [List.reverse_cons, List.reverse_cons]
    exact DpAll.snoc h1 (DpAll.rev h2)
theorem DpAll.ints {K : PySem.W.Frag} {H : Hp} : ∀ ns : List Int, DpAll K H (ns.map V.int) (ns.map PyData.int)
  | [] => .nil
  | n :: ns => .cons (.int n) (DpAll.ints ns)
theorem DpAll.strs {K : PySem.W.Frag} {H : Hp} : ∀ ns : List Str, DpAll K H (ns.map V.str) (ns.map PyData.str)
  | [] => .nil
  | n :: ns => .cons (.str n) (DpAll.strs ns)
theorem DpAll.of_ints {K : PySem.W.Frag} {H : Hp} : ∀ {ns : List Int} {vs : List V}, DpAll K H vs (ns.map PyData.int) → vs = ns.map V.int
  | [], _, .nil => rfl
  | n :: ns, _, .cons (.int _) h => by rw [DpAll.of_ints h]; rfl
theorem DpAll.of_strs {K : PySem.W.Frag} {H : Hp} : ∀ {ns : List Str} {vs : List V}, DpAll K H vs (ns.map PyData.str) → vs = ns.map V.str
  | [], _, .nil => rfl
  | n :: ns, _, .cons (.str _) h => by rw [DpAll.of_strs h]; rfl
theorem Dp.tupE {K : PySem.W.Frag} {H : Hp} {v : V} {ds : List PyData} (h : Dp K H v (.tuple ds)) : ∃ b xs, v = .ref b ∧ SqT K H b xs ∧ DpAll K H xs ds := by
  cases h with
  | tup hs ha => exact ⟨_, _, rfl, hs, ha⟩
theorem Dp.lstE {K : PySem.W.Frag} {H : Hp} {v : V} {ds : List PyData} (h : Dp K H v (.list ds)) : ∃ b xs, v = .ref b ∧ SqL K H b xs ∧ DpAll K H xs ds := by
  cases h with
  | lst hs ha => exact ⟨_, _, rfl, hs, ha⟩

/-! ### what can be shown, how deep and how long it is -/
structure Sh (d : PyData) (dp n : Nat) : Prop where
  ok : d.showable = true
  nd : d.hasDict = false
  dep : d.depth ≤ dp
  len : d.shown.length ≤ n
theorem Sh.mono {d : PyData} {a b n m : Nat} (h : Sh d a n) (h1 : a ≤ b) (h2 : n ≤ m) : Sh d b m := ⟨h.ok, h.nd, Nat.le_trans h.dep h1, Nat.le_trans h.len h2⟩
theorem Sh.all {dp n : Nat} : ∀ {ds : List PyData}, (∀ d ∈ ds, Sh d dp n) → PyData.showableAll ds = true ∧ PyData.hasDictAll ds = false ∧
    PyData.depthAll ds ≤ dp ∧ ((PyData.shownAll ds).map (·.length)).sum ≤ ds.length * n ∧ (PyData.shownAll ds).length = ds.length
  | [], _ => ⟨rfl, rfl, Nat.zero_le _, Nat.zero_le _, rfl⟩
  | d :: ds, h => by
    obtain ⟨h1, h2, h3, h4, h5⟩ := Sh.all (ds := ds) fun e he => h e (List.mem_cons_of_mem _ he)
    have q := h d List.mem_cons_self
    refine ⟨?_, ?_, ?_, ?_, ?_⟩
    · show (d.showable && PyData.showableAll ds) = true
      rw [q.ok, h1]
      rfl
    · show (d.hasDict || PyData.hasDictAll ds) = false
      rw [q.nd, h2]
      rfl
    · show max d.depth (PyData.depthAll ds) ≤ dp
      exact Nat.max_le.mpr ⟨q.dep, h3⟩
    · show (d.shown.length :: ((PyData.shownAll ds).map (·.length))).sum ≤ (d :: ds).length * n
      rw [List.sum_cons, List.length_cons, Nat.succ_mul]
      have := q.len
      omega
    · show (PyData.shownAll ds).length + 1 = ds.length + 1
      rw [h5]
theorem Sh.tuple {dp n m : Nat} {ds : List PyData} (h : ∀ d ∈ ds, Sh d dp n) (hm : ds.length ≤ m) : Sh (.tuple ds) (dp + 1) (m * n + 2 * m + 3) := by
  obtain ⟨h1, h2, h3, h4, h5⟩ := Sh.all h
  refine ⟨by simpa [PyData.showable] using h1, by simpa [PyData.hasDict] using h2, by simpa [PyData.depth] using h3, ?_⟩
  have e : (PyData.shown (.tuple ds)) = tupleText (PyData.shownAll ds) := by simp only [PyData.shown]
  rw [e]
  have l := tupleText_len_le (PyData.shownAll ds)
  rw [h5] at l
  have : ds.length * n ≤ m * n := Nat.mul_le_mul_right n hm
  omega
theorem Sh.list {dp n m : Nat} {ds : List PyData} (h : ∀ d ∈ ds, Sh d dp n) (hm : ds.length ≤ m) : Sh (.list ds) (dp + 1) (m * n + 2 * m + 3) := by
  obtain ⟨h1, h2, h3, h4, h5⟩ := Sh.all h
  refine ⟨by simpa [PyData.showable] using h1, by simpa [PyData.hasDict] using h2, by simpa [PyData.depth] using h3, ?_⟩
  have e : (PyData.shown (.list ds)) = listText (PyData.shownAll ds) := by simp only [PyData.shown]
  rw [e]
  have l := listText_len_le (PyData.shownAll ds)
  rw [h5] at l
  have : ds.length * n ≤ m * n := Nat.mul_le_mul_right n hm
  omega
theorem Sh.non : Sh .none 0 4 := ⟨rfl, rfl, Nat.le_refl _, by decide +kernel⟩
theorem Sh.bl (b : Bool) : Sh (.bool b) 0 5 := ⟨rfl, rfl, Nat.le_refl _, by cases b <;> decide +kernel⟩
theorem Sh.word {y : Str} (h : Word y) : Sh (.str y) 0 82 := by
  refine ⟨rfl, rfl, Nat.le_refl _, ?_⟩
  have e : (PyData.shown (.str y)) = reprText y := by simp only [PyData.shown]
  rw [e]
  have l := StrLaws.reprText_len y fun c hc => Nat.lt_of_le_of_lt (h.low c hc).2 (by decide)
  have := h.eight
  omega
/-- a number of at most 1920 bits -/
theorem Sh.intB {i : Int} {k : Nat} (hk : 0 < k) (h : i.natAbs.log2 < k) (hk2 : k ≤ 1920) : Sh (.int i) 0 (k + 1) := by
  refine ⟨decide_eq_true (Nat.lt_of_lt_of_le h hk2), rfl, Nat.le_refl _, ?_⟩
  have e : (PyData.shown (.int i)) = Str.ofString (toString i) := by simp only [PyData.shown]
  rw [e, PySem.ofString_length]
  exact int_text_length_le hk h
theorem Sh.int {i : Int} (h0 : 0 ≤ i) (h : i < 2 ^ 64) : Sh (.int i) 0 65 := by
  refine Sh.intB (k := 64) (by decide) ?_ (by decide)
  by_cases z : i.natAbs = 0
  · rw [z]; decide
  · exact (Nat.log2_lt z).mpr (by omega)
end PK
namespace PK
open PySem PySem.Spec PyProof.Rows L2

/-! ### wants, ways, rows, sheets as data -/
abbrev Want := Str × List Str × Int
abbrev Way := List Want
abbrev Row := List Way
abbrev Sheet := List Row
def wantD (x : Want) : PyData := .tuple [.str x.1, .tuple (x.2.1.map PyData.str), .int x.2.2]
def wayD (x : Way) : PyData := .tuple (x.map wantD)
def rowD (x : Row) : PyData := .tuple (x.map wayD)
def sheetD (x : Sheet) : PyData := .tuple (x.map rowD)
structure WantOk (x : Want) : Prop where
  form : Word x.1
  shades : ∀ y ∈ x.2.1, Word y
  few : x.2.1.length ≤ 8
  one : 1 ≤ x.2.2
  most : x.2.2 ≤ 1000000000
structure WayOk (n : Nat) (x : Way) : Prop where
  len : x.length ≤ n
  each : ∀ y ∈ x, WantOk y
structure RowOk (n : Nat) (x : Row) : Prop where
  some : 1 ≤ x.length
  len : x.length ≤ 3
  each : ∀ y ∈ x, WayOk n y
structure SheetOk (m n : Nat) (x : Sheet) : Prop where
  len : x.length ≤ m
  each : ∀ y ∈ x, RowOk n y
theorem flatTs_of {ds : List PyData} : (∀ d ∈ ds, flatT d = true) → flatTs ds = true := by
  induction ds with
  | nil => intro _; rfl
  | cons d ds ih =>
    intro h
    show (flatT d && flatTs ds) = true
    rw [h d List.mem_cons_self, ih fun e he => h e (List.mem_cons_of_mem _ he)]
    rfl
theorem flat_map {α : Type} {f : α → PyData} (hf : ∀ x, flatT (f x) = true) (l : List α) : flatTs (l.map f) = true :=
  flatTs_of fun d hd => by
    obtain ⟨x, _, rfl⟩ := List.mem_map.mp hd
    exact hf x
theorem flat_strs (l : List Str) : flatTs (l.map PyData.str) = true := flat_map (fun _ => rfl) l
theorem flat_ints (l : List Int) : flatTs (l.map PyData.int) = true := flat_map (fun _ => rfl) l
theorem flat_want (x : Want) : flatT (wantD x) = true := by
  show (flatT (.str x.1) && (flatT (.tuple (x.2.1.map PyData.str)) && (flatT (.int x.2.2) && true))) = true
  have e : flatT (.tuple (x.2.1.map PyData.str)) = true := by
    show flatTs _ = true
    exact flat_strs _
  rw [e]
  rfl
theorem flat_way (x : Way) : flatT (wayD x) = true := flat_map flat_want x
theorem flat_row (x : Row) : flatT (rowD x) = true := flat_map flat_way x
theorem flat_sheet (x : Sheet) : flatT (sheetD x) = true := flat_map flat_row x
/-- so many choices and wants as one likes, all of them short -/
theorem sh_want {x : Want} (h : WantOk x) : Sh (wantD x) 2 2457 := by
  have e1 : Sh (.tuple (x.2.1.map PyData.str)) 1 (8 * 82 + 2 * 8 + 3) := Sh.tuple (fun d hd => by
    obtain ⟨y, hy, rfl⟩ := List.mem_map.mp hd
    exact Sh.word (h.shades y hy)) (by rw [List.length_map]; exact h.few)
  refine (Sh.tuple (dp := 1) (n := 816) (m := 3) (fun d hd => ?_) (Nat.le_refl _)).mono (Nat.le_refl _) (by decide)
  rcases List.mem_cons.mp hd with rfl | hd
  · exact (Sh.word h.form).mono (by decide) (by decide)
  rcases List.mem_cons.mp hd with rfl | hd
  · exact e1.mono (by decide) (by decide)
  · rw [List.mem_singleton.mp hd]
    have := h.one
    have := h.most
    exact (Sh.int (by omega) (by omega)).mono (by decide) (by decide)
theorem sh_way {n : Nat} {x : Way} (h : WayOk n x) : Sh (wayD x) 3 (n * 2457 + 2 * n + 3) :=
  Sh.tuple (fun d hd => by
    obtain ⟨y, hy, rfl⟩ := List.mem_map.mp hd
    exact sh_want (h.each y hy)) (by rw [List.length_map]; exact h.len)
theorem sh_row {n : Nat} {x : Row} (h : RowOk n x) : Sh (rowD x) 4 (3 * (n * 2457 + 2 * n + 3) + 2 * 3 + 3) :=
  Sh.tuple (fun d hd => by
    obtain ⟨y, hy, rfl⟩ := List.mem_map.mp hd
    exact sh_way (h.each y hy)) (by rw [List.length_map]; exact h.len)
theorem sh_sheet {m n : Nat} {x : Sheet} (h : SheetOk m n x) : Sh (sheetD x) 5 (m * (3 * (n * 2457 + 2 * n + 3) + 2 * 3 + 3) + 2 * m + 3) :=
  Sh.tuple (fun d hd => by
    obtain ⟨y, hy, rfl⟩ := List.mem_map.mp hd
    exact sh_row (h.each y hy)) (by rw [List.length_map]; exact h.len)
def intsD (l : List Int) : PyData := .tuple (l.map PyData.int)
theorem flat_intsD (l : List Int) : flatT (intsD l) = true := flat_ints l

/-! ### all choices: two ways to count them -/
/-- as the program does it -/
def grow (told : List (List Int)) (L : Nat) : List (List Int) := told.flatMap fun c => (List.range L).map fun (p : Nat) => c ++ [((p : Nat) : Int)]
def choicesM (ls : List Nat) : List (List Int) := ls.foldl grow [[]]
/-- the figures of a number, the last row's first -/
def figStep (st : List Int × Nat) (L : Nat) : List Int × Nat := (((st.2 % L : Nat) : Int) :: st.1, st.2 / L)
def figs (ls : List Nat) (n : Nat) : List Int := (ls.reverse.foldl figStep ([], n)).1
theorem fig_acc : ∀ (ls : List Nat) (fs : List Int) (n : Nat), (ls.foldl figStep (fs, n)).1 = (ls.foldl figStep ([], n)).1 ++ fs
  | [], fs, n => by simp
  | L :: r, fs, n => by
    show (r.foldl figStep (((n % L : Nat) : Int) :: fs, n / L)).1 = (r.foldl figStep ([((n % L : Nat) : Int)], n / L)).1 ++ fs
    rw [fig_acc r (((n % L : Nat) : Int) :: fs), fig_acc r [((n % L : Nat) : Int)], List.append_assoc]
    rfl
theorem figs_snoc (ls : List Nat) (L n : Nat) : figs (ls ++ [L]) n = figs ls (n / L) ++ [((n % L : Nat) : Int)] := by
  unfold figs
  rw [List.reverse_append]
  show (ls.reverse.foldl figStep ([((n % L : Nat) : Int)], n / L)).1 = _
  rw [fig_acc]
theorem range_mul (N L : Nat) (hL : 0 < L) : List.range (N * L) = (List.range N).flatMap fun q => (List.range L).map fun p => q * L + p := by
  induction N with
  | zero => simp
  | succ N ih =>
    rw [List.range_succ, List.flatMap_append, ← ih, Nat.succ_mul, List.range_add]
    simp
def total (ls : List Nat) : Nat := ls.foldl (· * ·) 1
theorem total_snoc (ls : List Nat) (L : Nat) : total (ls ++ [L]) = total ls * L := by
  unfold total
  rw [List.foldl_append]
  rfl
theorem snocInd {α : Type} {P : List α → Prop} (h0 : P []) (h1 : ∀ l x, P l → P (l ++ [x])) : ∀ l, P l := by
  intro l
  have : ∀ l : List α, P l.reverse := by
    intro l
    induction l with
    | nil => exact h0
    | cons x l ih =>
      rw [List.reverse_cons]
      exact h1 _ _ ih
  have h := this l.reverse
  rwa [List.reverse_reverse] at h
theorem counted_choices : ∀ ls : List Nat, (∀ L ∈ ls, 0 < L) → (List.range (total ls)).map (figs ls) = choicesM ls := by
  refine snocInd (P := fun ls => (∀ L ∈ ls, 0 < L) → (List.range (total ls)).map (figs ls) = choicesM ls) (fun _ => rfl) ?_
  intro ls L ih h
  have hL := h L (by simp)
  have ih' := ih fun x hx => h x (by simp [hx])
  have e : choicesM (ls ++ [L]) = grow (choicesM ls) L := by
    unfold choicesM
    rw [List.foldl_append]
    rfl
  rw [e, ← ih', total_snoc, range_mul _ _ hL]
  unfold grow
  rw [List.map_flatMap, List.flatMap_map]
  congr 1
  funext q
  rw [List.map_map]
  refine List.map_congr_left fun p hp => ?_
  have hp' := List.mem_range.mp hp
  show figs (ls ++ [L]) (q * L + p) = _
  rw [figs_snoc]
  have e1 : (q * L + p) / L = q := by
    rw [Nat.mul_comm, Nat.mul_add_div hL, Nat.div_eq_of_lt hp']
    rfl
  have e2 : (q * L + p) % L = p := by
    rw [Nat.mul_comm, Nat.mul_add_mod, Nat.mod_eq_of_lt hp']
  rw [e1, e2]
end PK
namespace PK
open PySem PySem.Spec PyProof.Rows L2
/-- a list of words at p, some of them -/
structure Words (H : Hp) (p : Addr) (ws : List Str) : Prop where
  at_ : H p = some (.lst (ws.map V.str))
  some : ws ≠ []
  few : ws.length ≤ 8
  each : ∀ y ∈ ws, Word y
theorem Words.ext {H H' : Hp} {a c p : Addr} {ws : List Str} (w : Words H p ws) (f : IsFeed H a c) (x : Ext a H H') : Words H' p ws := by
  obtain ⟨cs, i, l, n, f⟩ := f
  exact ⟨x p _ w.at_ (ne_of w.at_ f.d (by intro z; cases z)), w.some, w.few, w.each⟩
theorem Words.new {H : Hp} {p q : Addr} {o : HO} {ws : List Str} (w : Words H p ws) (nq : H q = none) : Words (upd H q o) p ws :=
  ⟨by rw [upd_ne (ne_of_none w.at_ nq)]; exact w.at_, w.some, w.few, w.each⟩
theorem Words.same {H H' : Hp} {p : Addr} {ws : List Str} (w : Words H p ws) (x : Same H H') : Words H' p ws := ⟨x _ _ w.at_, w.some, w.few, w.each⟩
theorem Words.own {H : Hp} {p q : Addr} {o : HO} {ws : List Str} (w : Words H p ws) (ne : p ≠ q) : Words (upd H q o) p ws :=
  ⟨by rw [upd_ne ne]; exact w.at_, w.some, w.few, w.each⟩
theorem Words.pos {H : Hp} {p : Addr} {ws : List Str} (w : Words H p ws) : 0 < ws.length := by
  cases h : ws with
  | nil => exact absurd h w.some
  | cons _ _ => simp
def spWant (K : PySem.W.Frag) : Sp := fun vs H Q _ => ∃ (a c pf ps : Addr) (fs ss : List Str), vs = [.ref a, .ref pf, .ref ps] ∧ IsFeed H a c ∧ Words H pf fs ∧ Words H ps ss ∧
  ∀ (v : V) (H' : Hp) (x : Want), WantOk x → Ext a H H' → IsFeed H' a c → Dp K H' v (wantD x) → Q v H'
end PK
namespace PK
open PySem PySem.Spec PyProof.Rows L2
def spSheet (K : PySem.W.Frag) : Sp := fun vs H Q _ => ∃ (a c pf ps : Addr) (fs ss : List Str) (mo : Nat), vs = [.ref a, .ref pf, .ref ps, .int mo] ∧ IsFeed H a c ∧ Words H pf fs ∧ Words H ps ss ∧ mo ≤ 10 ∧
  ∀ (v : V) (H' : Hp) (x : Sheet), SheetOk 3 mo x → Ext a H H' → IsFeed H' a c → Dp K H' v (sheetD x) → Q v H'
/-- one more behind data of a list, the tuples kept -/
theorem dp_snoc {α : Type} {f : α → PyData} {K : PySem.W.Frag} {H H' : Hp} {vs : List V} {xs : List α} {v : V} {x : α} (hf : ∀ x, flatT (f x) = true) (h : DpAll K H vs (xs.map f)) (t : TKeep H H') (hv : Dp K H' v (f x)) :
    DpAll K H' (vs ++ [v]) ((xs ++ [x]).map f) := by
  rw [List.map_append]
  exact DpAll.snoc hv (DpAll.keepT t (flat_map hf xs) h)
theorem dp_move {α : Type} {f : α → PyData} {K : PySem.W.Frag} {H H' : Hp} {vs : List V} {xs : List α} (hf : ∀ x, flatT (f x) = true) (h : DpAll K H vs (xs.map f)) (t : TKeep H H') :
    DpAll K H' vs (xs.map f) := DpAll.keepT t (flat_map hf xs) h
theorem dp_lenM {α : Type} {f : α → PyData} {K : PySem.W.Frag} {H : Hp} {vs : List V} {xs : List α} (h : DpAll K H vs (xs.map f)) : vs.length = xs.length := by
  rw [DpAll.len h, List.length_map]
end PK
namespace PK
open PySem PySem.Spec PyProof.Rows L2
/-! ### places in the text -/
def retE (st : Stmt) : Expr := match (defBody st).getLast? with
  | some (.Return (some e) _) => e
  | _ => .Constant .none 0 ⟨0, 0, 0, 0⟩
def argE (e : Expr) (i : Nat) : Expr := match e with
  | .Call _ args _ _ => args.getD i (.Constant .none 0 ⟨0, 0, 0, 0⟩)
  | _ => .Constant .none 0 ⟨0, 0, 0, 0⟩
def lcScope (e : Expr) : Scope := match e with
  | .ListComp _ _ sc _ => sc
  | _ => { kind := .function, names := [], isGenerator := false, isCoroutine := false }
theorem take_snoc {α : Type} {l : List α} {i : Nat} {x : α} (h : l[i]? = some x) : l.take (i + 1) = l.take i ++ [x] := by
  rw [List.take_add_one, h]
  rfl
theorem Dp.wantE {K : PySem.W.Frag} {H : Hp} {v : V} {x : Want} (h : Dp K H v (wantD x)) :
    ∃ b t, v = .ref b ∧ SqT K H b [.str x.1, .ref t, .int x.2.2] ∧ SqT K H t (x.2.1.map V.str) := by
  obtain ⟨b, xs, rfl, hb, h1⟩ := Dp.tupE h
  cases h1 with
  | cons a1 h2 =>
    cases h2 with
    | cons a2 h3 =>
      cases h3 with
      | cons a3 h4 =>
        cases h4
        cases a1
        cases a3
        obtain ⟨t, ys, rfl, ht, hy⟩ := Dp.tupE a2
        rw [DpAll.of_strs hy] at ht
        exact ⟨b, t, rfl, hb, ht⟩
/-- the same way, made anew -/
def spCopy (K : PySem.W.Frag) : Sp := fun vs H Q _ => ∃ (v : V) (x : Way), vs = [v] ∧ Dp K H v (wayD x) ∧ x.length ≤ 100 ∧ (∀ y ∈ x, y.2.1.length ≤ 100) ∧
  ∀ (p : Addr) (us : List V) (H' : Hp), Same H H' → H' p = some (.tup us) → DpAll K H' us (x.map wantD) → Q (.ref p) H'
end PK
/-! The rules with the written part K said: within a comprehension the block's own context is not named. -/
namespace PK
open PySem PySem.Spec PyProof.Rows L2
def rTupOf (K : PySem.W.Frag) : List V → Hp → VK → Prop := fun xs H Q => ∃ p ys, xs = [.ref p] ∧
  ((SqL K H p ys ∧ ∀ l, H l = none → Q (.ref l) (upd H l (.tup ys))) ∨ (SqT K H p ys ∧ Q (.ref p) H))
def rLenOf (K : PySem.W.Frag) : List V → Hp → VK → Prop := fun xs H Q => ∃ p ys, xs = [.ref p] ∧ (SqL K H p ys ∨ SqT K H p ys) ∧ Q (.int ys.length) H
def rListOf (K : PySem.W.Frag) : List V → Hp → VK → Prop := fun xs H Q => ∃ p ys, xs = [.ref p] ∧ (SqL K H p ys ∨ SqT K H p ys) ∧
  ∀ l, H l = none → Q (.ref l) (upd H l (.lst ys))
def rRepr (K : PySem.W.Frag) : List V → Hp → VK → Prop := fun xs H Q => ∃ a d, xs = [.ref a] ∧ Dp K H (.ref a) d ∧ d.showable = true ∧ d.hasDict = false ∧ d.depth ≤ 100 ∧
  d.shown.length ≤ sizeLine ∧ Q (.str d.shown) H
section
variable {X : Cx} (K : PySem.W.Frag)
theorem k_tup (hK : X.K = K := by rfl) : CallR X (.type "tuple") (rTupOf K) := by subst hK; exact call_tuple_of
theorem k_len (hK : X.K = K := by rfl) : CallR X (.builtin "len") (rLenOf K) := by subst hK; exact call_len_seq
theorem k_list (hK : X.K = K := by rfl) : CallR X (.type "list") (rListOf K) := by subst hK; exact call_list_of
theorem k_repr {k : Nat} (hgd : X.A.guards = some []) (hr : Room k X.A) (hK : X.K = K := by rfl) : CallR X (.builtin "repr") (rRepr K) := by subst hK; exact call_repr hgd hr
theorem k_all (hc : X.calm = true) (hK : X.K = K := by rfl) : CallR X (.builtin "all") (rAll K) := by subst hK; exact cr_all hc
theorem k_sum (hc : X.calm = true) (hK : X.K = K := by rfl) : CallR X (.builtin "sum") (rSum K) := by subst hK; exact cr_sum hc
theorem k_sortedS (hK : X.K = K := by rfl) : CallR X (.builtin "sorted") (rSortedS K) := by subst hK; exact cr_sortedS
theorem kx_list (hK : X.K = K := by rfl) : IxR X (rIxL K) := by subst hK; exact ix_list
theorem kx_tup (hK : X.K = K := by rfl) : IxR X (rIxT K) := by subst hK; exact ix_tup
theorem ks_list (hK : X.K = K := by rfl) : SlR X (rSlL K) := by subst hK; exact sl_list
theorem ks_tup (hK : X.K = K := by rfl) : SlR X (rSlA K) := by subst hK; exact sl_tupA
theorem ko_catA (hK : X.K = K := by rfl) : OpR X (binaryOp .Add) (rCatA K) := by subst hK; exact op_catA
theorem ko_repT (hK : X.K = K := by rfl) : OpR X (binaryOp .Mult) (rRepT K) := by subst hK; exact op_repT
theorem ko_neNil {k : Nat} (hr : Room k X.A) (hK : X.K = K := by rfl) : OpR X (compareOp .NotEq) (rNeNil K) := by subst hK; exact op_neNil hr
theorem ko_eqNil {k : Nat} (hr : Room k X.A) (hK : X.K = K := by rfl) : OpR X (compareOp .Eq) (rEqNil K) := by subst hK; exact op_eqNil hr
theorem ko_eqD {k : Nat} (hr : Room k X.A) (hK : X.K = K := by rfl) : OpR X (compareOp .Eq) (rEqD K) := by subst hK; exact op_eqD hr.units
theorem ko_neD {k : Nat} (hr : Room k X.A) (hK : X.K = K := by rfl) : OpR X (compareOp .NotEq) (rNeD K) := by subst hK; exact op_neD hr.units
theorem km_ext (hK : X.K = K := by rfl) : MtM X "list.extend" (rExtT K) := by subst hK; exact mt_extT
theorem pk_list {tg l : Expr} {tl : TE} (hl : PE X l tl) (hK : X.K = K := by rfl) : PI X tg l (iList K tl) := by subst hK; exact pi_list hl
theorem pk_tup {tg l : Expr} {tl : TE} (hl : PE X l tl) (hK : X.K = K := by rfl) : PI X tg l (iTup K tl) := by subst hK; exact pi_tup hl
theorem pek_revT {e : Expr} {te : TE} {k : Nat} {p1 p2 p3 pos : Pos} (he : PE X e te) (hK : X.K = K := by rfl) :
    PE X (.Subscript e (.Slice none none (some (.UnaryOp .USub (.Constant (.int 1) k p1) p2)) p3) pos) (tRevT K te) := by subst hK; exact pe_revT he
theorem pek_revL {e : Expr} {te : TE} {k : Nat} {p1 p2 p3 pos : Pos} (he : PE X e te) (hK : X.K = K := by rfl) :
    PE X (.Subscript e (.Slice none none (some (.UnaryOp .USub (.Constant (.int 1) k p1) p2)) p3) pos) (tRevL K te) := by subst hK; exact pe_revL he
theorem pgk_tup {es : List Expr} {k n : Nat} {t : TGs} {pos : Pos} (hc : X.calm = true) (h : PGs X es t) (hK : X.K = K := by rfl)
    (hn : (assignEach es X.env).length = n := by rfl) (hst : (assignEach es X.env).findIdx? (·.1) = none := by rfl) : PG X (.Tuple es k pos) (gTup K n t) := by
  subst hK; exact pg_tup hc h hn hst
theorem pek_bm {T id : String} {name : Str} {r : V → List V → Hp → VK → Prop} {o e : Expr} {es : List Expr} {to : TE} {t : TA} {apos cpos : Pos}
    (h : PE X (.Call (.Attribute o name apos) (e :: es) [] cpos) (tBM X.K T r to t)) (hK : X.K = K := by rfl) :
    PE X (.Call (.Attribute o name apos) (e :: es) [] cpos) (tBM K T r to t) := by subst hK; exact h
end
end PK
namespace PK
open PySem PySem.Spec PyProof.Rows L2
section
open PySem.SeqAt
open PySem.AutoSeq1 (wpAny_loadPart')
open PySem.MeetsSeq PySem.MeetsSeq2 PySem.MeetsSeq3
theorem mul_one (l : Addr) (items : Array Value) (n : Nat) (dd : Option Addr) (sl : Array (Option Value)) (u : Tok) :
    Meets (Builtin.«tuple.__mul__» ⟨[.ref l, .int 1 u], []⟩) (fun _ R s => s.heap.get? l = some { cls := .type "tuple", dict := dd, data := .seq items n, slots := sl } ∧
      R (.ok (.ret (Value.ref l))) s) :=
  .of_wp fun prog w A R s h => by
    obtain ⟨hp, g, d, tk, os⟩ := s
    obtain ⟨hl, h⟩ := h
    have f1 := AutoSeq1.idx_int
    have c1 : (items.isEmpty || (1 : Int) == 1) = true := by simp
    wp_walk using wpAny_loadPart' hl
    exact ⟨_, rfl, h⟩
theorem mul_nought (l : Addr) (items : Array Value) (n : Nat) (dd : Option Addr) (sl : Array (Option Value)) (u : Tok) (c1 : (items.isEmpty || (0 : Int) == 1) = false) :
    Meets (Builtin.«tuple.__mul__» ⟨[.ref l, .int 0 u], []⟩) (fun _ R s => s.heap.get? l = some { cls := .type "tuple", dict := dd, data := .seq items n, slots := sl } ∧
      R (.ok (.ret (Value.ref s.heap.objs.size))) { s with heap := s.heap.push { cls := Value.type "tuple", data := Data.seq #[] } }) :=
  .of_wp fun prog w A R s h => by
    obtain ⟨hp, g, d, tk, os⟩ := s
    obtain ⟨hl, h⟩ := h
    have f1 := AutoSeq1.idx_int
    wp_walk using wpAny_loadPart' hl
    repeat (first
      | (refine wpAny_ite_false (decide_eq_false (by rw [c1]; exact Bool.false_ne_true)) ?_; wp_walk using wpAny_loadPart' hl))
    exact ⟨_, rfl, h⟩
end
/-- t * k, k from nought on -/
def rRepA (K : PySem.W.Frag) : R2 := fun x y H Q => ∃ l k xs, x = .ref l ∧ y = .int k ∧ SqT K H l xs ∧ xs ≠ [] ∧ 0 ≤ k ∧ k ≤ 1000 ∧ xs.length ≤ 1000 ∧
  (k = 1 → Q (.ref l) H) ∧ (k ≠ 1 → ∀ p, H p = none → Q (.ref p) (upd H p (.tup (List.replicate k.toNat xs).flatten)))
theorem ko_repA {X : Cx} (K : PySem.W.Frag) (hK : X.K = K := by rfl) : OpR X (binaryOp .Mult) (rRepA K) := by
  subst hK
  intro pins s σ H x y v u Q I rx ry h
  obtain ⟨l, k, xs, rfl, rfl, hT, hne, h0, h1, hz, q1, q2⟩ := h
  by_cases k2 : 2 ≤ k
  · exact op_repT pins s σ H _ _ v u Q I rx ry ⟨l, k, xs, rfl, rfl, hT, hne, k2, h1, hz, q2 (by omega)⟩
  · cases rx
    obtain ⟨t, rfl⟩ := ry
    obtain ⟨its, r, ⟨⟨cls, dd, data, sl⟩, ho, hc, n, hd⟩, hs⟩ := I.tuple hT
    simp only at hc hd
    subst hc hd
    have hle : its.length = xs.length := r.length.symm
    have hi : its.toArray.isEmpty = false := by
      cases its with
      | nil => exact absurd (List.eq_nil_of_length_eq_zero hle.symm) hne
      | cons _ _ => rfl
    have kk : k = 0 ∨ k = 1 := by omega
    rcases kk with rfl | rfl
    · refine wpAny_binaryOp_repeat_ref (T := "tuple") (U := "int") (by decide) ⟨_, ho, rfl⟩ (fun s' => typeIs_int s' 0 t) noFill_tuple_mul F.fills_int_mul F.slot_int_rmul repeat_tuple F.slot_int_index.lookup
        (call_meets F.slot_int_rmul (typeIs_int s 0 t) F.entry_int_rmul (F.args_int_rmul_2 _ _) (int_rmul_tuple 0 t l its.toArray n dd sl)
          ⟨ho, rfl, ⟨_, ho, rfl⟩, call_meets F.slot_tuple_mul ⟨_, ho, rfl⟩ F.entry_tuple_mul (F.args_tuple_mul_2 _ _) (mul_nought l its.toArray n dd sl t (by rw [hi]; rfl)) ⟨ho, ?_⟩⟩)
      refine ⟨.ref _, _, I.laid (t' := s.toks) (o := .tup []) (fun b ob q => Heap.get?_push_of_some _ q) (Nat.le_refl _) ?_, rfl, q2 (by decide) _ (I.hok.fresh (Nat.le_refl _))⟩
      exact ⟨Nat.zero_le _, [], .nil, ⟨_, Heap.get?_push_size _ rfl, rfl, 0, rfl⟩⟩
    · refine wpAny_binaryOp_repeat_ref (T := "tuple") (U := "int") (by decide) ⟨_, ho, rfl⟩ (fun s' => typeIs_int s' 1 t) noFill_tuple_mul F.fills_int_mul F.slot_int_rmul repeat_tuple F.slot_int_index.lookup
        (call_meets F.slot_int_rmul (typeIs_int s 1 t) F.entry_int_rmul (F.args_int_rmul_2 _ _) (int_rmul_tuple 1 t l its.toArray n dd sl)
          ⟨ho, rfl, ⟨_, ho, rfl⟩, call_meets F.slot_tuple_mul ⟨_, ho, rfl⟩ F.entry_tuple_mul (F.args_tuple_mul_2 _ _) (mul_one l its.toArray n dd sl t) ⟨ho, ?_⟩⟩)
      exact ⟨.ref l, H, I, rfl, q1 rfl⟩
end PK
namespace PK
open PySem PySem.Spec PyProof.Rows L2 RZ
/-- the second clause's own loop, to Nx -/
def Inner (J1 : It) (g1 : TG) (tt1 : TT) (te : TE) (vs1 : List Nat) (σ2 : L2.St) (D : Addr) (Nx : Hp → Prop) (H4 : Hp) : Prop :=
  ∃ W1 : Nat → Nat → Hp → Prop, (∃ m, W1 0 m H4) ∧ ∀ j k H, W1 j k H →
      (J1.stop j H ∧ Nx H) ∨ (J1.go j H ∧ ∃ Nx1 : Hp → Prop, (∀ H', Nx1 H' → ∃ k', k' < k ∧ W1 (j + 1) k' H') ∧
        ∀ x H', J1.yld j H x H' → g1 x (wipe σ2 vs1) H' fun σ3 H5 => wipe σ3 vs1 = wipe σ2 vs1 ∧ tt1 σ3 H5 fun b H6 =>
        if b = true then te σ3 H6 fun y H7 => ∃ acc, H7 D = some (.lst acc) ∧ acc.length < sizeLine ∧ Nx1 (upd H7 D (.lst (acc ++ [y]))) else Nx1 H6)
section
variable {J J1 : It} {n n1 : Nat} {G G1 : Hp → Prop} {Y Y1 : Nat → Hp → V → Hp → Prop}
theorem inner_it (w : Walk J1 n1 G1 Y1) {g1 : TG} {tt1 : TT} {te : TE} {vs1 : List Nat} {σ2 : L2.St} {D : Addr} {Nx : Hp → Prop} {H4 : Hp}
    (Pv : Nat → Hp → Prop) (h0 : Pv 0 H4) (hG : ∀ j H, j ≤ n1 → Pv j H → G1 H)
    (hs : ∀ j x H H', j < n1 → Pv j H → Y1 j H x H' → g1 x (wipe σ2 vs1) H' fun σ3 H5 => wipe σ3 vs1 = wipe σ2 vs1 ∧ tt1 σ3 H5 fun b H6 =>
        if b = true then te σ3 H6 fun y H7 => ∃ acc, H7 D = some (.lst acc) ∧ acc.length < sizeLine ∧ Pv (j + 1) (upd H7 D (.lst (acc ++ [y]))) else Pv (j + 1) H6)
    (hd : ∀ H, Pv n1 H → Nx H) : Inner J1 g1 tt1 te vs1 σ2 D Nx H4 := by
  refine ⟨fun j m H => m = n1 - j ∧ j ≤ n1 ∧ Pv j H, ⟨n1, rfl, Nat.zero_le _, h0⟩, ?_⟩
  rintro j m H ⟨rfl, hj, p⟩
  have q := hG j H hj p
  by_cases hlt : j < n1
  · exact Or.inr ⟨w.goes j H hlt q, Pv (j + 1), fun H' p' => ⟨n1 - (j + 1), by omega, rfl, hlt, p'⟩, fun x H' y => hs j x H H' hlt p (w.yields j H x H' hlt q y)⟩
  · have e : j = n1 := by omega
    subst e
    exact Or.inl ⟨w.stops H q, hd H p⟩
theorem outer_it (w : Walk J n G Y) {g g1 : TG} {tt tt1 : TT} {wi1 : TI} {te : TE} {vs vs1 : List Nat} {σ : L2.St} {D : Addr} {H1 : Hp} {Qd : Hp → Prop}
    (Pv : Nat → Hp → Prop) (h0 : Pv 0 (upd H1 D (.lst []))) (hG : ∀ i H, i ≤ n → Pv i H → G H)
    (hs : ∀ i x H H', i < n → Pv i H → Y i H x H' → g x (wipe σ vs) H' fun σ2 H2 => wipe σ2 vs = wipe σ vs ∧ tt σ2 H2 fun b H3 =>
      if b = true then wi1 σ2 H3 fun J1 H4 => Inner J1 g1 tt1 te vs1 σ2 D (Pv (i + 1)) H4 else Pv (i + 1) H3)
    (hd : ∀ H, Pv n H → Qd H) :
    ∃ W : Nat → Nat → Hp → Prop, (∃ m, W 0 m (upd H1 D (.lst []))) ∧ ∀ i m H, W i m H →
      (J.stop i H ∧ Qd H) ∨ (J.go i H ∧ ∃ Nx : Hp → Prop, (∀ H', Nx H' → ∃ m', m' < m ∧ W (i + 1) m' H') ∧
        ∀ x H', J.yld i H x H' → g x (wipe σ vs) H' fun σ2 H2 => wipe σ2 vs = wipe σ vs ∧ tt σ2 H2 fun b H3 =>
        if b = true then wi1 σ2 H3 fun J1 H4 => Inner J1 g1 tt1 te vs1 σ2 D Nx H4 else Nx H3) := by
  refine ⟨fun i m H => m = n - i ∧ i ≤ n ∧ Pv i H, ⟨n, rfl, Nat.zero_le _, h0⟩, ?_⟩
  rintro i m H ⟨rfl, hi, p⟩
  have q := hG i H hi p
  by_cases hlt : i < n
  · exact Or.inr ⟨w.goes i H hlt q, Pv (i + 1), fun H' p' => ⟨n - (i + 1), by omega, rfl, hlt, p'⟩, fun x H' y => hs i x H H' hlt p (w.yields i H x H' hlt q y)⟩
  · have e : i = n := by omega
    subst e
    exact Or.inl ⟨w.stops H q, hd H p⟩
end
/-- zip of two tuples of one length -/
theorem walk_zipT {K : PySem.W.Frag} {a b : Addr} {xs ys : List V} {n : Nat} (hn : n = min xs.length ys.length) :
    Walk (ItzT K a b) n (fun H => SqT K H a xs ∧ SqT K H b ys) (YPair (fun i => xs[i]?) (fun i => ys[i]?)) := by
  subst hn
  refine ⟨fun i _ hi q => ?_, fun _ q => ⟨xs, ys, q.1, q.2, by omega⟩, fun i H v H' _ q y => ?_⟩
  · have h1 : i < xs.length := by omega
    have h2 : i < ys.length := by omega
    exact ⟨xs, ys, xs[i], ys[i], q.1, q.2, by simp [h1], by simp [h2]⟩
  · obtain ⟨T, x, z, h1, h2, h3, h4, h5⟩ := y
    exact ⟨T, x, z, h1, h2, h3, h4 xs q.1, h5 ys q.2⟩
theorem pk_zip {X : Cx} (K : PySem.W.Frag) {e e2 : Expr} {ta : TA} {p pos tpos : Pos} {elts : List Expr} {kk : Nat} (hg : Gl X "zip") (hm : X.mg "zip" = none) (ha : PA X [e, e2] ta) (hK : X.K = K := by rfl)
    (hs : starEach [e, e2] X.env = (false, eval e X.env) :: starEach [e2] X.env := by rfl) (hpl : (backTo pos (starEach [e2] X.env)).any (·.1) = false := by rfl) :
    PI X (.Tuple elts kk tpos) (.Call (.Name "zip" p) [e, e2] [] pos) (iZipA K ta) := by
  subst hK; exact pi_zipA hg hm ha hs hpl
end PK
/-! Defs with defaults, called by places and by names. -/
namespace PK
open PySem PySem.Spec PyProof.Rows L2 RZ
/-- a def of the text with defaults dvs -/
abbrev FunDf (K : PySem.W.Frag) (x : Str) (st : Stmt) (dvs : List V) (f : Addr) (fd : FuncData) : Prop := FunD K x x (defArgs st) (defBody st) (defScope st) dvs [] f fd
theorem fund_mk {K : PySem.W.Frag} {x qual : Str} {st : Stmt} {f T : Addr} {oc : Value} {od an : Option Addr} {osl : Array (Option Value)} {kV doc pm cdv ct : Value} {o : Obj} {its : List Value} {n : Nat} {dvs : List V}
    (l : K.lookup f = some ⟨oc, od, .func (PySem.W.fnOf x qual (defArgs st) (defBody st) (defScope st) (.ref T) kV doc pm an cdv ct), osl⟩)
    (c : PySem.W.codeIn K cdv qual = true) (k : PySem.W.keepIn K (.ref f) = true) (lT : K.lookup T = some o) (oT : o.data = .seq its.toArray n) (r : Vals dvs its) (hd : dvs ≠ []) :
    FunD K x qual (defArgs st) (defBody st) (defScope st) dvs [] f (PySem.W.fnOf x qual (defArgs st) (defBody st) (defScope st) (.ref T) kV doc pm an cdv ct) :=
  ⟨⟨oc, od, .ref T, kV, doc, pm, an, cdv, ct, osl, rfl, l, c, Or.inr ⟨hd, T, o, its, n, rfl, lT, oT, r⟩, Or.inl rfl⟩, k⟩
/-- how such a call binds: n values by their places, ks the names of the others -/
def KB (K : PySem.W.Frag) (fd : FuncData) (ps : List Str) (n : Nat) (ks : List Str) (gV : List V → List V → List V) : Prop :=
  ∃ g : List Value → List Value → List Value, KBn K fd ps n ks g gV
theorem kb_of {K : PySem.W.Frag} {x qual : Str} {params : Arguments} {body : List Stmt} {scope : Scope} {dvs : List V} {f : Addr} {fd : FuncData} {ps : List Str}
    (F : FunD K x qual params body scope dvs [] f fd) (n : Nat) (ks : List Str) (g : {α : Type} → List α → List α → List α → List α) (hd : dvs ≠ [])
    (hrel : ∀ {vs ds zs : List V} {us its ws : List Value}, Vals vs us → Vals ds its → Vals zs ws → Vals (g vs ds zs) (g us its ws))
    (h : ∀ (T : Addr) (kV doc pm : Value) (an : Option Addr) (cdv ct : Value) (us its ws : List Value), us.length = n → its.length = dvs.length → ws.length = ks.length →
      (∃ k, bindArgs (PySem.W.fnOf x qual params body scope (.ref T) kV doc pm an cdv ct) ⟨us, ks.zip ws⟩ = seqItems? (.ref T) >>= k ∧ k (some its.toArray) = pure (ps.zip (g us its ws)))) :
    KB K fd ps n ks (fun vs zs => g vs dvs zs) := by
  obtain ⟨oc, od, dV, kV, doc, pm, an, cdv, ct, osl, rfl, lk, hcd, hD, hK⟩ := F.ex
  rcases hD with ⟨e, _⟩ | ⟨_, T, o, its, m, rfl, lT, oT, rT⟩
  · exact absurd e hd
  · refine ⟨fun us ws => g us its ws, fun s us ws X l1 l2 => ?_, fun r1 r2 => hrel r1 rT r2⟩
    obtain ⟨k, e1, e2⟩ := h T kV doc pm an cdv ct us its ws l1 rT.length.symm l2
    refine BindsTo.of_looks fun M => ?_
    rw [e1]
    exact looks_items X lT oT (PySem.W.Looks.of_pure e2)
/-- all are given: no default is looked at -/
theorem kb_all {K : PySem.W.Frag} {x qual : Str} {params : Arguments} {body : List Stmt} {scope : Scope} {dvs : List V} {f : Addr} {fd : FuncData} {ps : List Str}
    (F : FunD K x qual params body scope dvs [] f fd) (n : Nat) (ks : List Str) (g : {α : Type} → List α → List α → List α)
    (hrel : ∀ {vs zs : List V} {us ws : List Value}, Vals vs us → Vals zs ws → Vals (g vs zs) (g us ws))
    (h : ∀ (T kV doc pm : Value) (an : Option Addr) (cdv ct : Value) (us ws : List Value), us.length = n → ws.length = ks.length →
      bindArgs (PySem.W.fnOf x qual params body scope T kV doc pm an cdv ct) ⟨us, ks.zip ws⟩ = pure (ps.zip (g us ws))) :
    KB K fd ps n ks (fun vs zs => g vs zs) := by
  obtain ⟨oc, od, dV, kV, doc, pm, an, cdv, ct, osl, rfl, lk, hcd, hD, hK⟩ := F.ex
  exact ⟨fun us ws => g us ws, fun s us ws X l1 l2 => .of_eq (h dV kV doc pm an cdv ct us ws l1 l2), fun r1 r2 => hrel r1 r2⟩
section
variable {X : Cx} {CX : CXT} {k n : Nat} {f : Addr} {fd : FuncData} {ps ks : List Str} {sp : Sp} {E : XK} {x : Str} {p pos : Pos} {e : Expr} {es : List Expr} {kws : List Keyword} {t tk : TA} {gV : List V → List V → List V}
theorem pe_kb (F : FnOk X.prog X.w X.K X.mg X.base CX k f fd ps sp) (hr : Room k X.A) (hg : Gl X x) (hm : X.mg x = some (.ref f)) (hk : PySem.W.keepIn X.K (.ref f) = true) (hb : KB X.K fd ps n ks gV) (hx : Passes CX X E)
    (ha : PA X (e :: es) t) (hkw : PK X kws tk) (hall : (backToKw pos (keywordEach kws X.env)).all (·.1.isSome) = true := by rfl) (hks : (backToKw pos (keywordEach kws X.env)).filterMap (·.1) = ks := by rfl)
    (hdb : (x == ("__debug__" : Str)) = false := by decide) (he : starEach (e :: es) X.env = (false, eval e X.env) :: starEach es X.env := by rfl)
    (hpl : ((backTo pos (starEach (e :: es) X.env)).any (·.1) || (backToKw pos (keywordEach kws X.env)).any (·.1.isNone)) = false := by rfl) :
    PE X (.Call (.Name x p) (e :: es) kws pos) (tCallN n ks.length sp gV E t tk) := by
  obtain ⟨g, hb⟩ := hb
  exact pe_callN F hr hg hm hk hb hx ha hkw hall hks hdb he hpl
theorem pe_kb0 (F : FnOk X.prog X.w X.K X.mg X.base CX k f fd ps sp) (hr : Room k X.A) (hg : Gl X x) (hm : X.mg x = some (.ref f)) (hk : PySem.W.keepIn X.K (.ref f) = true) (hb : KB X.K fd ps n ks gV) (hx : Passes CX X E)
    (hkw : PK X kws tk) (hall : (backToKw pos (keywordEach kws X.env)).all (·.1.isSome) = true := by rfl) (hks : (backToKw pos (keywordEach kws X.env)).filterMap (·.1) = ks := by rfl)
    (hdb : (x == ("__debug__" : Str)) = false := by decide)
    (hpl : ((backTo pos (starEach [] X.env)).any (·.1) || (backToKw pos (keywordEach kws X.env)).any (·.1.isNone)) = false := by rfl) :
    PE X (.Call (.Name x p) [] kws pos) (tCallN n ks.length sp gV E tNil tk) := by
  obtain ⟨g, hb⟩ := hb
  refine ⟨fun pins s σ H Q I h => wpAny_Call_Name_kw (ld_glob I hg hm ?_ hdb)⟩
  refine PySem.W.callWith_KW0 (h₀ := X.base) I.ok.mod.kin hk hall (thn (hkw.run pos pins s σ H _ I h) ?_) hpl
  rintro ws s2 ⟨zs, H2, J, rz, l1, l2, q⟩
  refine ⟨J.kIn, ?_⟩
  rw [hks]
  exact run_fnN (us := []) F hr hb hx J .nil rz l1 l2 q
end
structure CalD (P : Program) (w : World) (K : PySem.W.Frag) (mg : Str → Option Value) (base : Heap) (k : Nat) (x : Str) (f : Addr)
    (fd : FuncData) (ps : List Str) (sp : Sp) : Prop where
  ok : FnOk P w K mg base CX0 k f fd ps sp
  g : mg x = some (.ref f)
  kp : PySem.W.keepIn K (.ref f) = true
/-! ### lengths of choices -/
theorem choices_len : ∀ ls : List Nat, ∀ c ∈ choicesM ls, c.length = ls.length := by
  refine snocInd (P := fun ls => ∀ c ∈ choicesM ls, c.length = ls.length) (fun c hc => ?_) ?_
  · have e : c = [] := by simpa [choicesM] using hc
    subst e
    rfl
  · intro ls L ih c hc
    have e : choicesM (ls ++ [L]) = grow (choicesM ls) L := by
      unfold choicesM
      rw [List.foldl_append]
      rfl
    rw [e] at hc
    unfold grow at hc
    obtain ⟨d, hd, hc⟩ := List.mem_flatMap.mp hc
    obtain ⟨p, _, rfl⟩ := List.mem_map.mp hc
    rw [List.length_append, List.length_append, ih d hd]
    rfl
theorem choices_in : ∀ ls : List Nat, ∀ c ∈ choicesM ls, ∀ (i : Nat) (p : Int), c[i]? = some p → ∃ L, ls[i]? = some L ∧ 0 ≤ p ∧ p < (L : Int) := by
  refine snocInd (P := fun ls => ∀ c ∈ choicesM ls, ∀ (i : Nat) (p : Int), c[i]? = some p → ∃ L, ls[i]? = some L ∧ 0 ≤ p ∧ p < (L : Int)) (fun c hc i p h => ?_) ?_
  · have e : c = [] := by simpa [choicesM] using hc
    rw [e] at h
    simp at h
  · intro ls L ih c hc i p h
    have e : choicesM (ls ++ [L]) = grow (choicesM ls) L := by
      unfold choicesM
      rw [List.foldl_append]
      rfl
    rw [e] at hc
    unfold grow at hc
    obtain ⟨d, hd, hc⟩ := List.mem_flatMap.mp hc
    obtain ⟨q, hq, rfl⟩ := List.mem_map.mp hc
    have ld := choices_len ls d hd
    by_cases hi : i < d.length
    · rw [List.getElem?_append_left hi] at h
      obtain ⟨M, hM, h0, h1⟩ := ih d hd i p h
      exact ⟨M, by rw [List.getElem?_append_left (by omega)]; exact hM, h0, h1⟩
    · rw [List.getElem?_append_right (by omega)] at h
      have hi2 : i - d.length = 0 := by
        have := (List.getElem?_eq_some_iff.mp h).1
        simp at this
        omega
      rw [hi2] at h
      have ep : (q : Int) = p := by simpa using h
      have hq' := List.mem_range.mp hq
      refine ⟨L, ?_, by omega, by omega⟩
      rw [List.getElem?_append_right (by omega)]
      have : i - ls.length = 0 := by omega
      rw [this]
      rfl
theorem total_le {ls : List Nat} {k : Nat} (h : ∀ L ∈ ls, L ≤ k) (hk : 1 ≤ k) : total ls ≤ k ^ ls.length := by
  revert h
  refine snocInd (P := fun ls => (∀ L ∈ ls, L ≤ k) → total ls ≤ k ^ ls.length) (fun _ => Nat.le_refl 1) ?_ ls
  intro ls L ih h
  rw [total_snoc, List.length_append]
  show total ls * L ≤ k ^ (ls.length + 1)
  rw [Nat.pow_succ]
  exact Nat.mul_le_mul (ih fun x hx => h x (by simp [hx])) (h L (by simp))
theorem choices_count (ls : List Nat) (h : ∀ L ∈ ls, 0 < L) : (choicesM ls).length = total ls := by
  rw [← counted_choices ls h, List.length_map, List.length_range]
theorem SheetOk.mono {a b c d : Nat} {x : Sheet} (h : SheetOk a b x) (h1 : a ≤ c) (h2 : b ≤ d) : SheetOk c d x :=
  ⟨Nat.le_trans h.len h1, fun r hr => ⟨(h.each r hr).some, (h.each r hr).len, fun w hw => ⟨Nat.le_trans ((h.each r hr).each w hw).len h2, ((h.each r hr).each w hw).each⟩⟩⟩
/-- the rule for a def that shows things and lets no exception out -/
theorem funG_ok {P : Program} {w : World} {K : PySem.W.Frag} {mg : Str → Option Value} {base : Heap} {k : Nat} {f : Addr} {fd : FuncData}
    {x qual : Str} {st : Stmt} {N ps : List Str} {sp : Sp} (F : Fun K x qual st f fd) (S : FnScope N ps (defScope st))
    (len : ∀ vs H Q E, sp vs H Q E → vs.length = ps.length)
    (hbody : ∀ (cdv : Value) (A : Around) (outer : List Env) (s : Shared) (H : Hp) (vs : List V) (Q : VK) (E : XK), A.guards = some [] →
      Room k (A.deeper (envOfC qual (defScope st) s.heap.objs.size f cdv)) → sp vs H Q E →
      ∃ t, PSs (cxOf CX0 P w K mg base N qual (defScope st) f cdv A outer s H E).nox (defBody st) t ∧
        t { nx := fun _ H' => Q .non H', rt := Q } (start N vs) H) : FnG P w K mg base CX0 (k + 1) f fd ps sp :=
  fnG_of F S len fun cdv A outer s H vs Q E hg hr h => by
    obtain ⟨t, ht, hq⟩ := hbody cdv A outer s H vs Q E hg hr h
    exact ⟨t, ht.nox, hq⟩
end PK
/-! The order of data; sorted and min of data; sorted of a dict with tuple keys. -/
namespace PK
open PySem PySem.Spec PyProof.Rows L2
/-! ### the order -/
abbrev dlt : PyData → PyData → Bool := PySem.W.dataLt
mutual
theorem eqv_eq : ∀ (x y : PyData), PySem.W.alike x y = true → PyData.eqv x y = true → x = y
  | .none, y, h, e => by cases y <;> simp [PySem.W.alike] at h <;> rfl
  | .bool _, y, h, e => by cases y <;> simp [PySem.W.alike] at h; simpa [PyData.eqv] using e
  | .int _, y, h, e => by cases y <;> simp [PySem.W.alike] at h; simpa [PyData.eqv] using e
  | .str _, y, h, e => by cases y <;> simp [PySem.W.alike] at h; simpa [PyData.eqv] using e
  | .list xs, y, h, e => by
    cases y with
    | list ys => rw [eqvAll_eq xs ys (by simpa [PySem.W.alike] using h) (by simpa [PyData.eqv] using e)]
    | _ => simp [PySem.W.alike] at h
  | .tuple xs, y, h, e => by
    cases y with
    | tuple ys => rw [eqvAll_eq xs ys (by simpa [PySem.W.alike] using h) (by simpa [PyData.eqv] using e)]
    | _ => simp [PySem.W.alike] at h
  | .dict _, y, h, e => by cases y <;> simp [PySem.W.alike] at h
theorem eqvAll_eq : ∀ (xs ys : List PyData), PySem.W.alikeAll xs ys = true → PyData.eqvAll xs ys = true → xs = ys
  | [], [], _, _ => rfl
  | [], _ :: _, _, e => by simp [PyData.eqvAll] at e
  | _ :: _, [], _, e => by simp [PyData.eqvAll] at e
  | x :: xs, y :: ys, h, e => by
    obtain ⟨h1, h2⟩ := PySem.W.alike_all_cons h
    rw [PySem.W.eqv_all_cons, Bool.and_eq_true] at e
    rw [eqv_eq x y h1 e.1, eqvAll_eq xs ys h2 e.2]
end
mutual
theorem eqv_refl : ∀ (x : PyData), flatT x = true → PyData.eqv x x = true
  | .none, _ => by simp [PyData.eqv]
  | .bool _, _ => by simp [PyData.eqv]
  | .int _, _ => by simp [PyData.eqv]
  | .str _, _ => by simp [PyData.eqv]
  | .list _, h => by simp [flatT] at h
  | .dict _, h => by simp [flatT] at h
  | .tuple xs, h => by
    rw [PyData.eqv]
    exact eqvAll_refl xs (by simpa [flatT] using h)
theorem eqvAll_refl : ∀ (xs : List PyData), flatTs xs = true → PyData.eqvAll xs xs = true
  | [], _ => by simp [PyData.eqvAll]
  | x :: xs, h => by
    have h' : flatT x = true ∧ flatTs xs = true := by simpa [flatTs] using h
    rw [PySem.W.eqv_all_cons, eqv_refl x h'.1, eqvAll_refl xs h'.2]
    rfl
end
theorem eqv_false {x y : PyData} (h : PySem.W.alike x y = true) (e : x ≠ y) : PyData.eqv x y = false := by
  cases q : PyData.eqv x y with
  | false => rfl
  | true => exact absurd (eqv_eq x y h q) e
theorem dlt_irr (x : PyData) : dlt x x = false := PyProof.Rows.lex_irrefl _
theorem dlt_tr {x y z : PyData} (h1 : dlt x y = true) (h2 : dlt y z = true) : dlt x z = true := PyProof.Rows.lex_trans _ _ _ h1 h2
theorem dlt_asym {x y : PyData} (h : dlt x y = true) : dlt y x = false := by
  cases q : dlt y x with
  | false => rfl
  | true =>
    have := dlt_tr h q
    rw [dlt_irr] at this
    cases this
theorem dlt_split {x z : PyData} (y : PyData) (h : dlt x z = true) : dlt x y = true ∨ dlt y z = true := PyProof.Rows.lex_negTrans _ _ _ h
theorem dlt_tot {x y : PyData} (h : PySem.W.alike x y = true) (e : x ≠ y) : dlt x y = true ∨ dlt y x = true := by
  cases q1 : dlt x y with
  | true => exact Or.inl rfl
  | false =>
    cases q2 : dlt y x with
    | true => exact Or.inr rfl
    | false =>
      have et := PyProof.Rows.lex_total _ _ q1 q2
      have f := (PySem.W.toks_eqv x y h).2 (eqv_false h e) [.inl 0] [.inl 1]
      rw [et, PySem.W.lex_pre, PyProof.Rows.lex_irrefl] at f
      exact absurd f (by decide)
/-- rising -/
def Rises (ds : List PyData) : Prop := ds.Pairwise fun x y => dlt x y = true
theorem rises_ext : ∀ {xs ys : List PyData}, Rises xs → Rises ys → (∀ d, d ∈ xs ↔ d ∈ ys) → xs = ys
  | [], [], _, _, _ => rfl
  | [], y :: _, _, _, h => nomatch (h y).mpr List.mem_cons_self
  | x :: _, [], _, _, h => nomatch (h x).mp List.mem_cons_self
  | x :: xs, y :: ys, h1, h2, h => by
    obtain ⟨a1, a2⟩ := List.pairwise_cons.mp h1
    obtain ⟨b1, b2⟩ := List.pairwise_cons.mp h2
    have e : x = y := by
      rcases List.mem_cons.mp ((h x).mp List.mem_cons_self) with q | q
      · exact q
      · rcases List.mem_cons.mp ((h y).mpr List.mem_cons_self) with q2 | q2
        · exact q2.symm
        · have c1 := b1 x q
          have c2 := dlt_asym (a1 y q2)
          rw [c1] at c2
          cases c2
    subst e
    have nx : x ∉ xs := fun q => by
      have := a1 x q
      rw [dlt_irr] at this
      cases this
    have ny : x ∉ ys := fun q => by
      have := b1 x q
      rw [dlt_irr] at this
      cases this
    rw [rises_ext a2 b2 fun d => ⟨fun hd => ?_, fun hd => ?_⟩]
    · rcases List.mem_cons.mp ((h d).mp (List.mem_cons_of_mem _ hd)) with q | q
      · subst q
        exact absurd hd nx
      · exact q
    · rcases List.mem_cons.mp ((h d).mpr (List.mem_cons_of_mem _ hd)) with q | q
      · subst q
        exact absurd hd ny
      · exact q
/-! ### sorted -/
def srt {α : Type} (rev : Bool) (k : α → PyData) (bs : List α) : List α := bs.mergeSort (PySem.W.dataLe rev k)
theorem srt_perm {α : Type} (rev : Bool) (k : α → PyData) (bs : List α) : (srt rev k bs).Perm bs := List.mergeSort_perm _ _
theorem srt_up {α : Type} (k : α → PyData) (bs : List α) : (srt false k bs).Pairwise fun x y => dlt (k y) (k x) = false := by
  have tr : ∀ a b c : α, PySem.W.dataLe false k a b = true → PySem.W.dataLe false k b c = true → PySem.W.dataLe false k a c = true := by
    intro a b c h1 h2
    rw [PySem.W.dataLe_eq] at h1 h2 ⊢
    simp only [cond_false, Bool.not_eq_true'] at h1 h2 ⊢
    cases q : PySem.W.dataLt (k c) (k a) with
    | false => rfl
    | true =>
      rcases dlt_split (k b) q with z | z
      · rw [show PySem.W.dataLt (k c) (k b) = true from z] at h2
        cases h2
      · rw [show PySem.W.dataLt (k b) (k a) = true from z] at h1
        cases h1
  have tot : ∀ a b : α, (PySem.W.dataLe false k a b || PySem.W.dataLe false k b a) = true := by
    intro a b
    rw [PySem.W.dataLe_eq]
    simp only [cond_false]
    cases q : PySem.W.dataLt (k b) (k a) with
    | false => rfl
    | true =>
      have := dlt_asym q
      rw [show PySem.W.dataLt (k a) (k b) = false from this]
      rfl
  refine (List.pairwise_mergeSort tr tot bs).imp fun {a b} h => ?_
  rw [PySem.W.dataLe_eq] at h
  simpa using h
/-- alike, all different: strictly rising -/
theorem srt_rises {α : Type} {k : α → PyData} {bs : List α} (ha : PySem.W.AllAlike (bs.map k)) (hn : (bs.map k).Nodup) : Rises ((srt false k bs).map k) := by
  have p := (srt_perm false k bs).map k
  have hn' : ((srt false k bs).map k).Nodup := p.nodup_iff.mpr hn
  have up : ((srt false k bs).map k).Pairwise fun x y => dlt y x = false := List.pairwise_map.mpr (srt_up k bs)
  have ha' : PySem.W.AllAlike ((srt false k bs).map k) := fun d hd e he => ha d (p.mem_iff.mp hd) e (p.mem_iff.mp he)
  generalize (srt false k bs).map k = ds at hn' up ha'
  have both : ds.Pairwise fun x y => x ≠ y ∧ dlt y x = false := by
    have := hn'
    unfold List.Nodup at this
    exact List.pairwise_and_iff.mpr ⟨this, up⟩
  clear up hn'
  unfold Rises
  induction ds with
  | nil => exact List.Pairwise.nil
  | cons d ds ih =>
    obtain ⟨h1, h2⟩ := List.pairwise_cons.mp both
    refine List.pairwise_cons.mpr ⟨fun e he => ?_, ih (fun a h b h' => ha' a (List.mem_cons_of_mem _ h) b (List.mem_cons_of_mem _ h')) h2⟩
    obtain ⟨q1, q2⟩ := h1 e he
    rcases dlt_tot (ha' d List.mem_cons_self e (List.mem_cons_of_mem _ he)) q1 with z | z
    · exact z
    · rw [z] at q2
      cases q2
/-! ### the rules -/
structure Cmpb (ds : List PyData) : Prop where
  al : PySem.W.AllAlike ds
  so : PySem.W.Sortable ds
  dp : ∀ d ∈ ds, d.depth ≤ 90
theorem dp_pairs {K : PySem.W.Frag} {H : Hp} : ∀ {bs : List (V × PyData)}, (∀ b ∈ bs, Dp K H b.1 b.2) → DpAll K H (bs.map (·.1)) (bs.map (·.2))
  | [], _ => .nil
  | b :: bs, h => .cons (h b List.mem_cons_self) (dp_pairs fun c hc => h c (List.mem_cons_of_mem _ hc))
theorem dp_zip {K : PySem.W.Frag} {H : Hp} : ∀ {xs : List V} {ds : List PyData}, DpAll K H xs ds → (∀ b ∈ xs.zip ds, Dp K H b.1 b.2) ∧ (xs.zip ds).map (·.1) = xs ∧ (xs.zip ds).map (·.2) = ds
  | _, _, .nil => ⟨fun _ h => (nomatch h), rfl, rfl⟩
  | x :: xs, d :: ds, .cons h1 h2 => by
    obtain ⟨a, b, c⟩ := dp_zip h2
    refine ⟨fun p hp => ?_, ?_, ?_⟩
    · rcases List.mem_cons.mp hp with rfl | q
      · exact h1
      · exact a p q
    · show x :: (xs.zip ds).map (·.1) = _
      rw [b]
    · show d :: (xs.zip ds).map (·.2) = _
      rw [c]
theorem each_vals {bs : List (V × PyData)} : ∀ {us : List Value}, Vals (bs.map (·.1)) us → PySem.W.EachIs (fun v b => RelV b.1 v) us bs := by
  induction bs with
  | nil =>
    intro us r
    cases r
    exact .nil
  | cons b bs ih =>
    intro us r
    cases r with
    | cons r1 r2 => exact .cons r1 (ih r2)
theorem vals_each {bs : List (V × PyData)} : ∀ {us : List Value}, PySem.W.EachIs (fun v b => RelV b.1 v) us bs → Vals (bs.map (·.1)) us
  | _, .nil => .nil
  | _, .cons r1 r2 => .cons r1 (vals_each r2)
theorem each_reads {X : Cx} {pins : List (Addr × Obj)} {σ : L2.St} {H : Hp} {s : Shared} (I : Inv X pins σ H s) : ∀ {bs : List (V × PyData)} {us : List Value}, PySem.W.EachIs (fun v b => RelV b.1 v) us bs → (∀ b ∈ bs, Dp X.K H b.1 b.2) →
    PySem.W.EachIs (fun v (b : V × PyData) => ∃ as, Reads s.heap v b.2 as) us bs
  | _, _, .nil, _ => .nil
  | _, _, .cons r1 r2, h => .cons (Dp.reads I _ _ _ (h _ List.mem_cons_self) r1) (each_reads I r2 fun b hb => h b (List.mem_cons_of_mem _ hb))
theorem vals_back : ∀ {xs : List V} {us : List Value} {i : Nat} {u : Value}, Vals xs us → us[i]? = some u → ∃ x, xs[i]? = some x ∧ RelV x u
  | _, _, _, _, .nil, h => by simp at h
  | x :: _, _, 0, u, .cons r _, h => ⟨x, rfl, by
    have e := Option.some.inj h
    rw [← e]; exact r⟩
  | _, _, i + 1, _, .cons _ r, h => by
    obtain ⟨x, e, q⟩ := vals_back (i := i) r (by simpa using h)
    exact ⟨x, by simpa using e, q⟩
section
variable {X : Cx}
/-- sorted(xs) of a list of data -/
def rSrt (K : PySem.W.Frag) : List V → Hp → VK → Prop := fun vs H Q => ∃ (a : Addr) (xs : List V) (ds : List PyData), vs = [.ref a] ∧ SqL K H a xs ∧ DpAll K H xs ds ∧ Cmpb ds ∧ xs.length ≤ sizeLine ∧
  ∀ p, H p = none → Q (.ref p) (upd H p (.lst ((srt false (·.2) (xs.zip ds)).map (·.1))))
theorem call_srt {k : Nat} (hr : Room k X.A) : CallR X (.builtin "sorted") (rSrt X.K) := by
  intro pins s σ H vs us Q I r h
  obtain ⟨a, xs, ds, rfl, hs, hd, hc, hz, q⟩ := h
  obtain ⟨its, rv, hl, _⟩ := I.list hs
  rw [Vals.ref1 r]
  obtain ⟨z1, z2, z3⟩ := dp_zip hd
  have e : PySem.W.EachIs (fun v (b : V × PyData) => RelV b.1 v) its (xs.zip ds) := each_vals (by rw [z2]; exact rv)
  have er := each_reads I e z1
  have hu := hr.un
  have lz : (xs.zip ds).length ≤ sizeLine := by
    have := congrArg List.length z2
    rw [List.length_map] at this
    omega
  refine PySem.W.sorted_data (enc := fun b : V × PyData => b.2) hl.isList e er (by rw [z3]; exact hc.al) (by rw [z3]; exact hc.so) lz (fun b hb => ?_) fun out lo eo => ?_
  · have := hc.dp b.2 (by rw [← z3]; exact List.mem_map.mpr ⟨b, hb, rfl⟩)
    omega
  · obtain ⟨ep, he'⟩ := PyProof.Rows.sortedAll_at s.heap its (List.toArray out)
    refine ⟨.ref _, upd H (s.heap.objs.size + 1) (.lst ((srt false (·.2) (xs.zip ds)).map (·.1))), I.laid (t' := s.toks) (fun _ _ => PyProof.Rows.sortedAll_old) (Nat.le_succ _) ⟨?_, out, ep, vals_each eo, he'⟩, rfl, q _ (I.hok.fresh (Nat.le_succ _))⟩
    rw [List.length_map, (srt_perm _ _ _).length_eq]
    exact lz
/-- min(xs) of a list of data -/
def rMinDt (K : PySem.W.Frag) : List V → Hp → VK → Prop := fun vs H Q => ∃ (a : Addr) (xs : List V) (d : PyData) (ds : List PyData), vs = [.ref a] ∧ SqL K H a xs ∧ DpAll K H xs (d :: ds) ∧ PySem.W.AlikeAll (d :: ds) ∧ (∀ e ∈ d :: ds, e.depth ≤ 90) ∧
  ∀ (i : Nat) (x : V), xs[i]? = some x → Dp K H x (PySem.W.minD d ds) → Q x H
theorem depthAll_le {n : Nat} : ∀ {ds : List PyData}, (∀ d ∈ ds, d.depth ≤ n) → PyData.depthAll ds ≤ n
  | [], _ => Nat.zero_le _
  | d :: ds, h => Nat.max_le.mpr ⟨h d List.mem_cons_self, depthAll_le fun e he => h e (List.mem_cons_of_mem _ he)⟩
theorem minD_at : ∀ (ds : List PyData) (d : PyData), (PySem.W.minD d ds = d ∨ PySem.W.minD d ds ∈ ds) ∧ dlt d (PySem.W.minD d ds) = false ∧ ∀ e ∈ ds, dlt e (PySem.W.minD d ds) = false
  | [], d => ⟨Or.inl rfl, dlt_irr d, fun _ h => (nomatch h)⟩
  | e :: ds, d => by
    show (PySem.W.minD (if dlt e d then e else d) ds = d ∨ _) ∧ _
    have ee : PySem.W.minD d (e :: ds) = PySem.W.minD (if dlt e d then e else d) ds := rfl
    rw [ee]
    cases q : dlt e d with
    | true =>
      obtain ⟨h1, h2, h3⟩ := minD_at ds e
      refine ⟨Or.inr ?_, ?_, fun f hf => ?_⟩
      · rcases h1 with z | z
        · show PySem.W.minD e ds ∈ _
          rw [z]; exact List.mem_cons_self
        · exact List.mem_cons_of_mem _ z
      · show dlt d (PySem.W.minD e ds) = false
        cases z : dlt d (PySem.W.minD e ds) with
        | false => rfl
        | true =>
          have := dlt_tr q z
          rw [h2] at this
          cases this
      · rcases List.mem_cons.mp hf with rfl | hf
        · exact h2
        · exact h3 f hf
    | false =>
      obtain ⟨h1, h2, h3⟩ := minD_at ds d
      refine ⟨?_, h2, fun f hf => ?_⟩
      · rcases h1 with z | z
        · exact Or.inl z
        · exact Or.inr (List.mem_cons_of_mem _ z)
      · rcases List.mem_cons.mp hf with rfl | hf
        · show dlt f (PySem.W.minD d ds) = false
          cases z : dlt f (PySem.W.minD d ds) with
          | false => rfl
          | true =>
            rcases dlt_split d z with y | y
            · rw [q] at y; cases y
            · rw [h2] at y; cases y
        · exact h3 f hf
theorem call_minDt {k : Nat} (hc : X.calm = true) (hr : Room k X.A) : CallR X (.builtin "min") (rMinDt X.K) := by
  intro pins s σ H vs us Q I r h
  obtain ⟨a, xs, d, ds, rfl, hs, hd, ha, hdp, q⟩ := h
  obtain ⟨its, rv, hl, _⟩ := I.list hs
  rw [Vals.ref1 r]
  obtain ⟨as, hR⟩ := Dp.readsAll I _ _ _ hd rv
  have hu := hr.un
  have hdd := depthAll_le hdp
  refine PySem.W.min_list_data (vs := its.toArray) (I.ok.hd hc) hl.isList (by simpa using hR) ha (by omega) fun i v h' tk bs hv rd hk => ?_
  have hv' : its[i]? = some v := by simpa using hv
  obtain ⟨x, hx, rx⟩ : ∃ x, xs[i]? = some x ∧ RelV x v := vals_back rv hv'
  refine ⟨x, H, I.kept hk, rx, q i x hx ?_⟩
  obtain ⟨e, he, de⟩ := DpAll.getV hd hx
  obtain ⟨as2, re⟩ := Dp.reads (I.kept (t' := tk) hk) _ _ _ de rx
  obtain ⟨m1, _⟩ := minD_at ds d
  have mm : PySem.W.minD d ds ∈ d :: ds := by
    rcases m1 with z | z
    · rw [z]; exact List.mem_cons_self
    · exact List.mem_cons_of_mem _ z
  have ee := PySem.W.alike_unique _ _ _ _ _ (ha.1 e (List.mem_of_getElem? he) _ mm) re rd
  rw [← ee]
  exact de
/-! ### a dict with tuple keys -/
def kD : Key → PyData
  | .inl i => .int i
  | .inr x => .str x
theorem dp_key {K : PySem.W.Frag} {H : Hp} : ∀ k : Key, Dp K H (kV k) (kD k)
  | .inl i => .int i
  | .inr x => .str x
theorem dp_keys {K : PySem.W.Frag} {H : Hp} : ∀ ks : List Key, DpAll K H (ks.map kV) (ks.map kD)
  | [] => .nil
  | k :: ks => .cons (dp_key k) (dp_keys ks)
abbrev tkD (k : List Key) : PyData := .tuple (k.map kD)
/-- sorted(d) of a dict whose keys are tuples -/
def rSrtT : List V → Hp → VK → Prop := fun vs H Q => ∃ (a : Addr) (kvs : List (List Key × V)), vs = [.ref a] ∧ Rd H a (.dT kvs) ∧ Cmpb (kvs.map fun p => tkD p.1) ∧
  ∀ (p : Addr) (L : List (V × PyData)), H p = none → (∃ bs : List Addr, IsKeys H kvs bs ∧ L = srt false (·.2) ((bs.map V.ref).zip (kvs.map fun p => tkD p.1))) → Q (.ref p) (upd H p (.lst (L.map (·.1))))
theorem keys_dp {K : PySem.W.Frag} {H : Hp} : ∀ {kvs : List (List Key × V)} {bs : List Addr}, IsKeys H kvs bs → DpAll K H (bs.map V.ref) (kvs.map fun p => tkD p.1)
  | _, _, .nil => .nil
  | p :: _, b :: _, .cons h t => .cons (.tup (SqT.of h) (dp_keys p.1)) (keys_dp t)
theorem call_srtT {k : Nat} (hcalm : X.calm = true) (hr : Room k X.A) : CallR X (.builtin "sorted") rSrtT := by
  intro pins s σ H xs us Q I r h
  obtain ⟨a, kvs, rfl, hd, hc, q⟩ := h
  rw [Vals.ref1 r]
  obtain ⟨z, hs, ks, pr, o, es, ep, ho, hx, hdt, he, hn⟩ := (show ObjOk X.prog X.w H s.heap a (.dT kvs) from hd.ok I.hok)
  have l1 : es.size = ks.length := size_of_entries he
  have l2 : kvs.length = ks.length := Paired.length pr
  have hu := hr.un
  refine Calls.call_function_entry PyProof.Rows.kind_sorted PyProof.Rows.plain_sorted PyProof.Rows.entry_sorted (PyProof.Rows.args_sorted1 _) ?_
  unfold Builtin.«sorted»
  refine wpAny_bind (m := checkCount "sorted" 1 1 _) (wpAny_pure ?_)
  refine wpAny_bind (PySem.W.kdu_collect (A := X.A.in1) (kdl_raw hs hx hdt) (I.ok.hd hcalm) ho (by omega) fun h' tk acc' kp it => ?_)
  have ea : acc'.toList = ks.map fun x => Value.ref x.2.1 := items_out (by rw [List.length_map, ← l1]; exact it) fun j v => by
    rintro ⟨en, hen, rfl⟩
    obtain ⟨b, hb, e2⟩ := Option.map_eq_some_iff.mp ((entry_at he j).symm.trans hen)
    rw [List.getElem?_map, hb, ← e2]
    rfl
  have eb : acc'.toList = (ks.map fun x => x.2.1).map Value.ref := by rw [ea, List.map_map]; all_goals rfl
  have rv : Vals ((ks.map fun x => x.2.1).map V.ref) acc'.toList := by rw [eb]; exact vals_refs _
  have ik := isKeys_of pr
  have hdp : DpAll X.K H ((ks.map fun x => x.2.1).map V.ref) (kvs.map fun p => tkD p.1) := keys_dp ik
  obtain ⟨z1, z2, z3⟩ := dp_zip hdp
  have I1 : Inv X pins σ H { s with heap := h', toks := tk } := I.kept kp
  have hal : acc'.toList.length = ks.length := by rw [Array.length_toList, it.1]; exact l1
  refine wpAny_bind (wpAny_newList ?_ (by omega))
  have hoL : (h'.push (seqObj "list" acc'.toList.toArray 0)).get? h'.objs.size = some (seqObj "list" acc'.toList.toArray 0) := Heap.get?_push_size _ rfl
  show wpAny _ _ _ _ _ { s with heap := h'.push (seqObj "list" acc'.toList.toArray 0), toks := tk }
  have e : PySem.W.EachIs (fun v (b : V × PyData) => RelV b.1 v) acc'.toList (((ks.map fun x => x.2.1).map V.ref).zip (kvs.map fun p => tkD p.1)) := each_vals (by rw [z2]; exact rv)
  have er := each_reads I1 e z1
  generalize hB : ((ks.map fun x => x.2.1).map V.ref).zip (kvs.map fun p => tkD p.1) = B at z1 z2 z3 e er
  have al : PySem.W.AllAlike (B.map fun b : V × PyData => b.2) := by rw [z3]; exact hc.al
  have so : PySem.W.Sortable (B.map fun b : V × PyData => b.2) := by rw [z3]; exact hc.so
  have er' : PySem.W.EachIs (fun v (b : V × PyData) => ∃ as, Reads (PySem.W.sortingHeap (h'.push (seqObj "list" acc'.toList.toArray 0)) h'.objs.size acc'.toList) v b.2 as) acc'.toList B :=
    er.mono fun v b ⟨as, rd⟩ => ⟨as, PyProof.Rows.Reads.keeps (fun b o eo => PySem.W.sortingHeap_old (Nat.ne_of_lt (Heap.lt_size eo)) (Heap.get?_push_of_some _ eo)) rd⟩
  refine wpAny_bind (wpAny_holding (wpAny_call_entry PyProof.Rows.slot_list_sort ⟨_, hoL, rfl⟩ PyProof.Rows.entry_list_sort
    (PySem.W.list_sort_vals (κ := PySem.W.dataKind (PySem.W.sortingHeap (h'.push (seqObj "list" acc'.toList.toArray 0)) h'.objs.size acc'.toList) (B.map fun b : V × PyData => b.2)) (s := { s with heap := h'.push (seqObj "list" acc'.toList.toArray 0), toks := tk }) hoL
      (PySem.W.SortsAt.data (s := { s with heap := PySem.W.sortingHeap (h'.push (seqObj "list" acc'.toList.toArray 0)) h'.objs.size acc'.toList, toks := tk })
        (PySem.W.each_map (R := fun v d => ∃ as, Reads (PySem.W.sortingHeap (h'.push (seqObj "list" acc'.toList.toArray 0)) h'.objs.size acc'.toList) v d as) (fun b : V × PyData => b.2) er') al so
        (PySem.W.bound_map fun b hb => by
          have := hc.dp b.2 (by rw [← z3]; exact List.mem_map.mpr ⟨b, hb, rfl⟩)
          show X.A.units + 2 + _ < _
          omega)) (by omega) ⟨_, rfl, ?_⟩)
    (PyProof.Rows.args_list_sort _)))
  have eo := PySem.W.sortVals_data (enc := fun b : V × PyData => b.2) false e er' al
  have lo : (PySem.W.sortVals (PySem.W.dataKind (PySem.W.sortingHeap (h'.push (seqObj "list" acc'.toList.toArray 0)) h'.objs.size acc'.toList) (B.map fun b : V × PyData => b.2)) false acc'.toList acc'.toList).length = acc'.toList.length := PySem.W.sortVals_length false rfl
  generalize PySem.W.sortVals (PySem.W.dataKind (PySem.W.sortingHeap (h'.push (seqObj "list" acc'.toList.toArray 0)) h'.objs.size acc'.toList) (B.map fun b : V × PyData => b.2)) false acc'.toList acc'.toList = out at eo lo
  obtain ⟨e', he'⟩ := PyProof.Rows.sortedHeap_at (vs := acc'.toList) (out := out.toArray) hoL
  refine wpAny_pure ⟨_, rfl, .ref h'.objs.size, upd H h'.objs.size (.lst ((srt false (·.2) B).map (·.1))), I1.laid (t' := tk) (fun b u e => ?_) (Nat.le_refl _)
    (show ObjOk X.prog X.w _ _ _ (.lst ((srt false (·.2) B).map (·.1))) from ⟨?_, out, e', vals_each eo, he'⟩), rfl, q _ _ (I1.hok.fresh (Nat.le_refl _)) ⟨_, ik, by rw [hB]⟩⟩
  · have hb : b < h'.objs.size := Heap.lt_size e
    rw [PyProof.Rows.sortedHeap_old (Nat.ne_of_lt hb) (by rw [size_push']; exact Nat.lt_succ_of_lt hb)]
    exact Heap.get?_push_of_some _ e
  · have := (vals_each eo).length
    unfold srt
    rw [this]
    omega
end
end PK
/-! Part rows: their sums, rising, each part once. -/
namespace PK
open PySem PySem.Spec PyProof.Rows L2
abbrev PKey := Str × Str
abbrev PRow := Str × Str × Int
def pk (r : PRow) : PKey := (r.1, r.2.1)
def pkD (k : PKey) : PyData := .tuple [.str k.1, .str k.2]
def prowD (r : PRow) : PyData := .tuple [.str r.1, .str r.2.1, .int r.2.2]
def rowsD (L : List PRow) : PyData := .tuple (L.map prowD)
theorem flat_pk (k : PKey) : flatT (pkD k) = true := rfl
theorem flat_prow (r : PRow) : flatT (prowD r) = true := rfl
theorem flatTs_map {α : Type} {f : α → PyData} (h : ∀ a, flatT (f a) = true) : ∀ l : List α, flatTs (l.map f) = true
  | [] => rfl
  | a :: l => by
    show (flatT (f a) && flatTs (l.map f)) = true
    rw [h a, flatTs_map h l]
    rfl
theorem flat_rows (L : List PRow) : flatT (rowsD L) = true := by
  show flatTs (L.map prowD) = true
  exact flatTs_map flat_prow L
theorem pkD_inj {a b : PKey} (h : pkD a = pkD b) : a = b := by
  unfold pkD at h
  injection h with h
  injection h with h1 h2
  injection h1 with h1
  injection h2 with h2 _
  injection h2 with h2
  exact Prod.ext h1 h2
theorem pkD_alike (a b : PKey) : PySem.W.alike (pkD a) (pkD b) = true := by simp [pkD, PySem.W.alike, PySem.W.alikeAll]
theorem pk_allAlike (ks : List PKey) : PySem.W.AllAlike (ks.map pkD) := PySem.W.AllAlike.of pkD_alike
theorem pk_cmpb (ks : List PKey) : Cmpb (ks.map pkD) := ⟨pk_allAlike ks, PySem.W.Sortable.tuples fun b => ⟨_, _, rfl⟩, fun d hd => by
  obtain ⟨k, _, rfl⟩ := List.mem_map.mp hd
  show 1 ≤ 90
  decide⟩
theorem nodup_mapD {ks : List PKey} (h : ks.Nodup) : (ks.map pkD).Nodup := by
  unfold List.Nodup at h ⊢
  refine List.pairwise_map.mpr (h.imp fun {a b} q e => q (pkD_inj e))
/-! ### how many -/
def cnt : List PRow → PKey → Int
  | [], _ => 0
  | r :: L, k => (if pk r = k then r.2.2 else 0) + cnt L k
theorem cnt_nil (k : PKey) : cnt [] k = 0 := rfl
theorem cnt_cons (r : PRow) (L : List PRow) (k : PKey) : cnt (r :: L) k = (if pk r = k then r.2.2 else 0) + cnt L k := rfl
theorem cnt_app : ∀ (L M : List PRow) (k : PKey), cnt (L ++ M) k = cnt L k + cnt M k
  | [], M, k => by rw [List.nil_append, cnt_nil]; omega
  | r :: L, M, k => by
    rw [List.cons_append, cnt_cons, cnt_cons, cnt_app L M k]
    omega
theorem cnt_perm {L M : List PRow} (h : L.Perm M) (k : PKey) : cnt L k = cnt M k := by
  induction h with
  | nil => rfl
  | cons r _ ih => rw [cnt_cons, cnt_cons, ih]
  | swap r q L => rw [cnt_cons, cnt_cons, cnt_cons, cnt_cons]; omega
  | trans _ _ i j => rw [i, j]
theorem cnt_none {L : List PRow} {k : PKey} (h : k ∉ L.map pk) : cnt L k = 0 := by
  induction L with
  | nil => rfl
  | cons r L ih =>
    rw [List.map_cons, List.mem_cons, not_or] at h
    rw [cnt_cons, if_neg (fun e => h.1 e.symm), ih h.2]
    rfl
/-- a drawn row: words, from 1 on -/
structure PRowOk (b : Int) (r : PRow) : Prop where
  f : Word r.1
  s : Word r.2.1
  lo : 1 ≤ r.2.2
  hi : r.2.2 ≤ b
structure RowsOk (n : Nat) (b : Int) (L : List PRow) : Prop where
  len : L.length ≤ n
  each : ∀ r ∈ L, PRowOk b r
theorem PRowOk.mono {b c : Int} {r : PRow} (h : PRowOk b r) (hb : b ≤ c) : PRowOk c r := ⟨h.f, h.s, h.lo, Int.le_trans h.hi hb⟩
theorem RowsOk.mono {n m : Nat} {b c : Int} {L : List PRow} (h : RowsOk n b L) (hn : n ≤ m) (hb : b ≤ c) : RowsOk m c L := ⟨Nat.le_trans h.len hn, fun r hr => (h.each r hr).mono hb⟩
theorem RowsOk.tail {n : Nat} {b : Int} {r : PRow} {L : List PRow} (h : RowsOk n b (r :: L)) : RowsOk n b L := ⟨by have := h.len; rw [List.length_cons] at this; omega, fun q hq => h.each q (List.mem_cons_of_mem _ hq)⟩
theorem cnt_nn {n : Nat} {b : Int} {L : List PRow} (h : RowsOk n b L) (k : PKey) : 0 ≤ cnt L k := by
  induction L with
  | nil => exact Int.le_refl 0
  | cons r L ih =>
    rw [cnt_cons]
    have h1 := (h.each r List.mem_cons_self).lo
    have h2 := ih h.tail
    split <;> omega
theorem cnt_pos {n : Nat} {b : Int} {L : List PRow} (h : RowsOk n b L) {k : PKey} (hk : k ∈ L.map pk) : 0 < cnt L k := by
  induction L with
  | nil => cases hk
  | cons r L ih =>
    rw [cnt_cons]
    have h1 := (h.each r List.mem_cons_self).lo
    have h2 := cnt_nn h.tail k
    rcases List.mem_cons.mp hk with e | e
    · rw [if_pos e.symm]; omega
    · have := ih h.tail e
      split <;> omega
theorem cnt_le {n : Nat} {b : Int} (hb : 0 ≤ b) {L : List PRow} (h : RowsOk n b L) (k : PKey) : cnt L k ≤ (L.length : Int) * b := by
  induction L with
  | nil => simp [cnt_nil]
  | cons r L ih =>
    rw [cnt_cons, List.length_cons]
    have h1 := (h.each r List.mem_cons_self).hi
    have h2 := ih h.tail
    have e : ((L.length + 1 : Nat) : Int) * b = (L.length : Int) * b + b := by
      rw [Int.natCast_add, Int.add_mul]
      simp
    rw [e]
    split <;> omega
theorem cnt_key {n : Nat} {b : Int} {L : List PRow} (h : RowsOk n b L) (k : PKey) : k ∈ L.map pk ↔ 0 < cnt L k := by
  refine ⟨cnt_pos h, fun q => ?_⟩
  by_cases z : k ∈ L.map pk
  · exact z
  · rw [cnt_none z] at q
    omega
/-! ### the sums, rising -/
def nub : List PKey → List PKey
  | [] => []
  | k :: ks => k :: (nub ks).filter fun q => decide (q ≠ k)
theorem mem_nub {k : PKey} : ∀ {ks : List PKey}, k ∈ nub ks ↔ k ∈ ks
  | [] => Iff.rfl
  | q :: ks => by
    show k ∈ q :: _ ↔ _
    rw [List.mem_cons, List.mem_cons, List.mem_filter, mem_nub (ks := ks)]
    by_cases e : k = q
    · simp [e]
    · simp [e]
theorem nodup_nub : ∀ ks : List PKey, (nub ks).Nodup
  | [] => List.nodup_nil
  | q :: ks => List.nodup_cons.mpr ⟨fun h => by
      have := (List.mem_filter.mp h).2
      simp at this, (nodup_nub ks).filter _⟩
def skeys (L : List PRow) : List PKey := srt false pkD (nub (L.map pk))
def sumR (L : List PRow) : List PRow := (skeys L).map fun k => (k.1, k.2, cnt L k)
theorem mem_skeys {L : List PRow} {k : PKey} : k ∈ skeys L ↔ k ∈ L.map pk := ((srt_perm false pkD _).mem_iff).trans mem_nub
theorem skeys_rises (L : List PRow) : Rises ((skeys L).map pkD) := srt_rises (pk_allAlike _) (nodup_mapD (nodup_nub _))
theorem sumR_keys (L : List PRow) : (sumR L).map pk = skeys L := by
  unfold sumR
  rw [List.map_map]
  exact List.map_id'' (fun k => rfl) _
theorem map_inj {ks ls : List PKey} : ks.map pkD = ls.map pkD → ks = ls := by
  induction ks generalizing ls with
  | nil => intro h; cases ls with
    | nil => rfl
    | cons => cases h
  | cons k ks ih =>
    intro h
    cases ls with
    | nil => cases h
    | cons l ls =>
      rw [List.map_cons, List.map_cons] at h
      injection h with h1 h2
      rw [pkD_inj h1, ih h2]
/-- rising keys that are just these -/
theorem skeys_of {L : List PRow} {ks : List PKey} (h : Rises (ks.map pkD)) (hm : ∀ k, k ∈ ks ↔ k ∈ L.map pk) : ks = skeys L := by
  refine map_inj (rises_ext h (skeys_rises L) fun d => ⟨fun hd => ?_, fun hd => ?_⟩)
  · obtain ⟨k, hk, rfl⟩ := List.mem_map.mp hd
    exact List.mem_map.mpr ⟨k, mem_skeys.mpr ((hm k).mp hk), rfl⟩
  · obtain ⟨k, hk, rfl⟩ := List.mem_map.mp hd
    exact List.mem_map.mpr ⟨k, (hm k).mpr (mem_skeys.mp hk), rfl⟩
theorem sumR_of {L M : List PRow} (h : Rises (M.map fun r => pkD (pk r))) (hm : ∀ k, k ∈ M.map pk ↔ k ∈ L.map pk) (hc : ∀ r ∈ M, r.2.2 = cnt L (pk r)) : M = sumR L := by
  have e : M.map pk = skeys L := skeys_of (by rw [List.map_map]; exact h) hm
  unfold sumR
  rw [← e, List.map_map]
  symm
  refine (List.map_congr_left (g := id) fun r hr => ?_).trans (List.map_id _)
  show (r.1, r.2.1, cnt L (pk r)) = r
  rw [← hc r hr]
theorem sumR_congr {L M : List PRow} (hm : ∀ k, k ∈ L.map pk ↔ k ∈ M.map pk) (hc : ∀ k, cnt L k = cnt M k) : sumR L = sumR M := by
  have e : skeys L = skeys M := skeys_of (skeys_rises L) fun k => mem_skeys.trans (hm k)
  unfold sumR
  rw [e]
  exact List.map_congr_left fun k _ => by rw [hc k]
/-- the same how many of each: the same sums -/
theorem sumR_eq {n m : Nat} {b c : Int} {L M : List PRow} (hL : RowsOk n b L) (hM : RowsOk m c M) (h : ∀ k, cnt L k = cnt M k) : sumR L = sumR M :=
  sumR_congr (fun k => by rw [cnt_key hL, cnt_key hM, h k]) h
theorem sumR_perm {L M : List PRow} (h : L.Perm M) : sumR L = sumR M := sumR_congr (fun k => (h.map pk).mem_iff) (cnt_perm h)
theorem cnt_once {f : PKey → Int} : ∀ {ks : List PKey}, ks.Nodup → ∀ k, cnt (ks.map fun k => (k.1, k.2, f k)) k = if k ∈ ks then f k else 0
  | [], _, k => by simp [cnt_nil]
  | q :: ks, h, k => by
    obtain ⟨h1, h2⟩ := List.nodup_cons.mp h
    rw [List.map_cons, cnt_cons, cnt_once h2 k]
    show (if (q.1, q.2) = k then f q else 0) + _ = _
    by_cases e : q = k
    · subst e
      rw [if_pos rfl, if_neg h1, if_pos List.mem_cons_self]
      omega
    · have e' : ¬ ((q.1, q.2) : PKey) = k := e
      rw [if_neg e']
      by_cases z : k ∈ ks
      · rw [if_pos z, if_pos (List.mem_cons_of_mem _ z)]; omega
      · rw [if_neg z, if_neg (fun y => by
          rcases List.mem_cons.mp y with y | y
          · exact e y.symm
          · exact z y)]
        rfl
theorem skeys_nodup (L : List PRow) : (skeys L).Nodup := (srt_perm false pkD _).nodup_iff.mpr (nodup_nub _)
theorem cnt_sumR (L : List PRow) (k : PKey) : cnt (sumR L) k = cnt L k := by
  unfold sumR
  rw [cnt_once (f := cnt L) (skeys_nodup L) k]
  by_cases z : k ∈ skeys L
  · rw [if_pos z]
  · rw [if_neg z, cnt_none (fun h => z (mem_skeys.mpr h))]
theorem sumR_len (L : List PRow) : (sumR L).length ≤ L.length := by
  unfold sumR
  rw [List.length_map]
  have h : ∀ ks : List PKey, (nub ks).length ≤ ks.length := by
    intro ks
    induction ks with
    | nil => exact Nat.le_refl _
    | cons k ks ih =>
      show ((nub ks).filter _).length + 1 ≤ ks.length + 1
      have := List.length_filter_le (fun q => decide (q ≠ k)) (nub ks)
      omega
  have e := (srt_perm false pkD (nub (L.map pk))).length_eq
  have := h (L.map pk)
  rw [List.length_map] at this
  unfold skeys
  omega
theorem sumR_ok {n : Nat} {b : Int} (hb : 0 ≤ b) {L : List PRow} (h : RowsOk n b L) : RowsOk n (n * b) (sumR L) := by
  refine ⟨Nat.le_trans (sumR_len L) h.len, fun r hr => ?_⟩
  unfold sumR at hr
  obtain ⟨k, hk, rfl⟩ := List.mem_map.mp hr
  have hk' := mem_skeys.mp hk
  obtain ⟨q, hq, rfl⟩ := List.mem_map.mp hk'
  have okq := h.each q hq
  refine ⟨okq.f, okq.s, ?_, ?_⟩
  · have := cnt_pos h hk'
    show 1 ≤ cnt L (pk q)
    omega
  · have h1 := cnt_le hb h (pk q)
    have h2 : (L.length : Int) * b ≤ (n : Int) * b := Int.mul_le_mul_of_nonneg_right (by have := h.len; omega) hb
    exact Int.le_trans h1 h2
theorem sumR_nil : sumR [] = [] := by
  have := sumR_len []
  exact List.eq_nil_of_length_eq_zero (Nat.le_zero.mp this)
theorem sumR_sumR (L : List PRow) : sumR (sumR L) = sumR L := by
  refine sumR_congr (fun k => ?_) (cnt_sumR L)
  rw [sumR_keys]
  exact mem_skeys
/-! ### shown -/
theorem sh_prow {b : Int} (hb : b < 2 ^ 64) {r : PRow} (h : PRowOk b r) : Sh (prowD r) 1 261 := by
  refine (Sh.tuple (dp := 0) (n := 82) (m := 3) (fun d hd => ?_) (by show 3 ≤ 3; decide)).mono (by decide) (by decide)
  rcases List.mem_cons.mp hd with rfl | hd
  · exact Sh.word h.f
  · rcases List.mem_cons.mp hd with rfl | hd
    · exact Sh.word h.s
    · rcases List.mem_cons.mp hd with rfl | hd
      · have := h.lo
        have := h.hi
        exact (Sh.int (by omega) (by omega)).mono (Nat.le_refl _) (by decide)
      · cases hd
theorem sh_rows {n : Nat} {b : Int} (hb : b < 2 ^ 64) {L : List PRow} (h : RowsOk n b L) : Sh (rowsD L) 2 (n * 261 + 2 * n + 3) :=
  Sh.tuple (fun d hd => by
    obtain ⟨r, hr, rfl⟩ := List.mem_map.mp hd
    exact sh_prow hb (h.each r hr)) (by rw [List.length_map]; exact h.len)
end PK
/-! A dict of how many, by part; what the heaps' defs promise. -/
namespace PK
open PySem PySem.Spec PyProof.Rows L2
abbrev kk (k : PKey) : List Key := [Sum.inr k.1, Sum.inr k.2]
theorem kk_inj {a b : PKey} (h : kk a = kk b) : a = b := by
  injection h with h1 h2
  injection h2 with h2 _
  injection h1 with h1
  injection h2 with h2
  exact Prod.ext h1 h2
def ent (ks : List PKey) (c : PKey → Int) : List (List Key × V) := ks.map fun k => (kk k, V.int (c k))
theorem ent_val (c : PKey → Int) (k : PKey) : ∀ ks : List PKey, valV (ent ks c) (kk k) = if k ∈ ks then some (.int (c k)) else none
  | [] => by simp [ent, valV_nil]
  | q :: ks => by
    show valV ((kk q, V.int (c q)) :: ent ks c) (kk k) = _
    by_cases e : q = k
    · subst e
      rw [valV_pos rfl, if_pos List.mem_cons_self]
    · rw [valV_neg (fun h => e (kk_inj h)), ent_val c k ks]
      by_cases z : k ∈ ks
      · rw [if_pos z, if_pos (List.mem_cons_of_mem _ z)]
      · rw [if_neg z, if_neg (fun y => by
          rcases List.mem_cons.mp y with y | y
          · exact e y.symm
          · exact z y)]
theorem ent_any (c : PKey → Int) (k : PKey) (ks : List PKey) : ((ent ks c).any fun kv => decide (kv.1 = kk k)) = decide (k ∈ ks) := by
  rw [Bool.eq_iff_iff, List.any_eq_true, decide_eq_true_eq]
  constructor
  · rintro ⟨kv, h1, h2⟩
    obtain ⟨q, hq, rfl⟩ := List.mem_map.mp h1
    have := kk_inj (of_decide_eq_true h2)
    subst this
    exact hq
  · intro h
    exact ⟨_, List.mem_map.mpr ⟨k, h, rfl⟩, decide_eq_true rfl⟩
/-- one more row of this part -/
theorem ent_put {ks : List PKey} {c c' : PKey → Int} {k : PKey} {n : Int} (h1 : c' k = n) (h2 : ∀ q, q ≠ k → c' q = c q) :
    putK (ent ks c) (kk k) (.int n) = ent (if k ∈ ks then ks else ks ++ [k]) c' := by
  unfold putK
  rw [ent_any]
  by_cases z : k ∈ ks
  · rw [if_pos (decide_eq_true z), if_pos z]
    unfold ent
    rw [List.map_map]
    refine List.map_congr_left fun q hq => ?_
    show (if kk q = kk k then (kk q, V.int n) else (kk q, V.int (c q))) = (kk q, V.int (c' q))
    by_cases e : q = k
    · subst e
      rw [if_pos rfl, h1]
    · rw [if_neg (fun h => e (kk_inj h)), h2 q e]
  · rw [if_neg (by simpa using z), if_neg z]
    unfold ent
    rw [List.map_append]
    congr 1
    · refine List.map_congr_left fun q hq => ?_
      have e : q ≠ k := fun e => z (by rw [← e]; exact hq)
      rw [h2 q e]
    · show _ = [(kk k, V.int (c' k))]
      rw [h1]
theorem ent_keys (ks : List PKey) (c : PKey → Int) : ((ent ks c).map fun p => tkD p.1) = ks.map pkD := by
  unfold ent
  rw [List.map_map]
  rfl
theorem Dp.prowE {K : PySem.W.Frag} {H : Hp} {v : V} {r : PRow} (h : Dp K H v (prowD r)) : ∃ b, v = .ref b ∧ SqT K H b [.str r.1, .str r.2.1, .int r.2.2] := by
  obtain ⟨b, xs, rfl, hb, ha⟩ := Dp.tupE h
  cases ha with
  | cons h1 h2 =>
    cases h2 with
    | cons h3 h4 =>
      cases h4 with
      | cons h5 h6 =>
        cases h6
        cases h1
        cases h3
        cases h5
        exact ⟨b, rfl, hb⟩
theorem Dp.pkE {K : PySem.W.Frag} {H : Hp} {v : V} {k : PKey} (h : Dp K H v (pkD k)) : ∃ b, v = .ref b ∧ SqT K H b [.str k.1, .str k.2] := by
  obtain ⟨b, xs, rfl, hb, ha⟩ := Dp.tupE h
  cases ha with
  | cons h1 h2 =>
    cases h2 with
    | cons h3 h4 =>
      cases h4
      cases h1
      cases h3
      exact ⟨b, rfl, hb⟩
theorem Dp.prow {K : PySem.W.Frag} {H : Hp} {b : Addr} {r : PRow} (h : SqT K H b [.str r.1, .str r.2.1, .int r.2.2]) : Dp K H (.ref b) (prowD r) := .tup h (.cons (.str _) (.cons (.str _) (.cons (.int _) .nil)))
theorem Dp.pk {K : PySem.W.Frag} {H : Hp} {b : Addr} {k : PKey} (h : SqT K H b [.str k.1, .str k.2]) : Dp K H (.ref b) (pkD k) := .tup h (.cons (.str _) (.cons (.str _) .nil))
theorem cnt_snoc {L : List PRow} {i : Nat} {r : PRow} (h : L[i]? = some r) (k : PKey) : cnt (L.take (i + 1)) k = cnt (L.take i) k + if PK.pk r = k then r.2.2 else 0 := by
  rw [take_snoc h, cnt_app, cnt_cons, cnt_nil]
  omega
/-! ### the promises -/
/-- added_rows: the sums, rising -/
def spAdded (K : PySem.W.Frag) : Sp := fun vs H Q _ => ∃ (v : V) (L : List PRow), vs = [v] ∧ Dp K H v (rowsD L) ∧ L.length ≤ 900 ∧
  ∀ (p : Addr) (us : List V) (H' : Hp), H p = none → Same H H' → H' p = some (.tup us) → DpAll K H' us ((sumR L).map prowD) → Q (.ref p) H'
/-- a heap's attributes -/
def hf (t : Addr) : List (Str × V) := putF "held" (.ref t) []
theorem hf_held (t : Addr) : (hf t).lookup ("held" : Str) = some (.ref t) := by
  unfold hf
  rw [lookup_putF, if_pos rfl]
theorem hf_no (t : Addr) {m : Str} (h : ¬ m = "held") : (hf t).lookup m = none := by
  unfold hf
  rw [lookup_putF, if_neg h]
  all_goals rfl
/-- a heap of these rows stands at p -/
def HeapAt (K : PySem.W.Frag) (C : Addr) (H : Hp) (p : Addr) (L : List PRow) : Prop := ∃ dx t, H p = some (.ins C dx (hf t)) ∧ Dp K H (.ref t) (rowsD L)
theorem HeapAt.same {K : PySem.W.Frag} {C : Addr} {H H' : Hp} {p : Addr} {L : List PRow} (h : HeapAt K C H p L) (s : Same H H') : HeapAt K C H' p L := by
  obtain ⟨dx, t, h1, h2⟩ := h
  exact ⟨dx, t, s _ _ h1, Dp.same s h2⟩
theorem HeapAt.ext {K : PySem.W.Frag} {C : Addr} {H H' : Hp} {p a c : Addr} {L : List PRow} (h : HeapAt K C H p L) (fe : IsFeed H a c) (x : Ext a H H') : HeapAt K C H' p L := by
  obtain ⟨dx, t, h1, h2⟩ := h
  obtain ⟨cs, i, l, n, fe'⟩ := id fe
  exact ⟨dx, t, x _ _ h1 (ne_of h1 fe'.d (by intro z; cases z)), Dp.keepT (TKeep.feed fe x) (flat_rows L) h2⟩
/-- __init__ -/
def spInit (K : PySem.W.Frag) (C : Addr) : Sp := fun vs H Q _ => ∃ (p dx : Addr) (x : V) (L : List PRow), vs = [.ref p, x] ∧ H p = some (.ins C dx []) ∧ ((x = .non ∧ L = []) ∨ Dp K H x (rowsD L)) ∧ L.length ≤ 900 ∧
  ∀ H' : Hp, (∀ b o, H b = some o → b ≠ p → H' b = some o) → HeapAt K C H' p (sumR L) → Q .non H'
/-- rows() -/
def spRows (K : PySem.W.Frag) (C : Addr) : Sp := fun vs H Q _ => ∃ (p : Addr) (L : List PRow), vs = [.ref p] ∧ HeapAt K C H p L ∧ L.length ≤ 900 ∧
  ∀ (v : V) (H' : Hp), Same H H' → Dp K H' v (rowsD L) → Q v H'
/-- what is known of the class -/
structure HCls (K : PySem.W.Frag) (mg : Str → Option Value) (C : Addr) : Prop where
  cl : Cls K C
  nh : NoAttr K C "held"
  mg : mg "Heap" = some (.ref C)
end PK
/-! A heap made: Heap(), Heap(x), Heap(rows=x). -/
namespace PK
open PySem PySem.Spec PyProof.Rows L2
/-- all that is known of the class and its __init__ -/
structure HMk (P : Program) (w : World) (K : PySem.W.Frag) (mg : Str → Option Value) (base : Heap) (k : Nat) (C f : Addr) (fd : FuncData) : Prop where
  c : HCls K mg C
  m : Mk K C f
  ok : FnOk P w K mg base CX0 k f fd ["self", "rows"] (spInit K C)
  b0 : ∃ ds, Vals [V.non] ds ∧ Binds K fd ["self", "rows"] ds
  b1 : KB K fd ["self", "rows"] 2 [] (fun vs _ => vs)
  bk : KB K fd ["self", "rows"] 1 ["rows"] (fun vs zs => vs ++ zs)
/-- of x: none, or rows -/
def mkHeap (K : PySem.W.Frag) (C : Addr) (x : V) (H : Hp) (Q : VK) : Prop := ∃ L : List PRow, ((x = .non ∧ L = []) ∨ Dp K H x (rowsD L)) ∧ L.length ≤ 900 ∧
  ∀ (p : Addr) (H' : Hp), H p = none → Same H H' → HeapAt K C H' p (sumR L) → Q (.ref p) H'
def tHeap0 (K : PySem.W.Frag) (C : Addr) : TE := fun _ H Q => mkHeap K C .non H Q
def tHeap (K : PySem.W.Frag) (C : Addr) (te : TE) : TE := fun σ H Q => te σ H fun x H1 => mkHeap K C x H1 Q
theorem mk_init {K : PySem.W.Frag} {C : Addr} {x : V} {H : Hp} {Q : VK} {E : XK} (h : mkHeap K C x H Q) (p dx : Addr) (np : H p = none) (nd : H dx = none) (ne : dx ≠ p) :
    spInit K C [.ref p, x] (upd (upd H dx (.own p)) p (.ins C dx [])) (fun v H2 => v = .non ∧ Q (.ref p) H2) E := by
  obtain ⟨L, hx, hL, q⟩ := h
  have s1 : Same H (upd (upd H dx (.own p)) p (.ins C dx [])) := fun b o e => by
    rw [upd_ne (ne_of_none e np), upd_ne (ne_of_none e nd)]
    exact e
  refine ⟨p, dx, x, L, rfl, upd_same, ?_, hL, fun H' kp hh => ⟨rfl, q p H' np (Same.made np nd kp) hh⟩⟩
  rcases hx with hx | hx
  · exact Or.inl hx
  · exact Or.inr (Dp.same s1 hx)
section
variable {X : Cx} {k : Nat} {C f : Addr} {fd : FuncData} {p pos : Pos} {e : Expr} {kw : Keyword} {te : TE}
theorem pe_heap0 (M : HMk X.prog X.w X.K X.mg X.base k C f fd) (hr : Room (k + 1) X.A) (hg : Gl X "Heap") : PE X (.Call (.Name "Heap" p) [] [] pos) (tHeap0 X.K C) := by
  refine ⟨fun pins s σ H Q I h => ?_⟩
  obtain ⟨ds, hd, hb⟩ := M.b0
  refine (pe_make0 M.m M.ok hr hg M.c.mg hb hd (E := fun _ _ _ => False) pass0).run pins s σ H Q I ?_
  exact fun x dx nx nd ne => mk_init h x dx nx nd ne
/-- the one argument -/
def one (R : V → Hp → Prop) : List V → Hp → Prop := fun vs H => match vs with
  | [x] => R x H
  | _ => False
theorem one_at {R : V → Hp → Prop} {vs : List V} {H : Hp} (h : one R vs H) : ∃ x, vs = [x] ∧ R x H := by
  match vs, h with
  | [x], h => exact ⟨x, rfl, h⟩
theorem pe_heap1 (M : HMk X.prog X.w X.K X.mg X.base k C f fd) (hr : Room (k + 1) X.A) (hg : Gl X "Heap") (ha : PE X e te)
    (he : starEach [e] X.env = (false, eval e X.env) :: starEach [] X.env := by rfl) (hpl : (backTo pos (starEach [] X.env)).any (·.1) = false := by rfl) :
    PE X (.Call (.Name "Heap" p) [e] [] pos) (tHeap X.K C te) := by
  refine ⟨fun pins s σ H Q I h => ?_⟩
  obtain ⟨g, hb⟩ := M.b1
  refine wpAny_Call_Name_kw (ld_glob I hg M.c.mg ?_ (by decide))
  refine PySem.W.callWith_K (h₀ := X.base) I.ok.mod.kin M.m.kp (thn ((pa_cons ha pa_nil he).run pos pins s σ H (one fun x H1 => mkHeap X.K C x H1 Q) I h) ?_) he hpl
  rintro us s1 ⟨vs, H1, I1, r, q⟩
  refine ⟨I1.kIn, ?_⟩
  obtain ⟨x, rfl, q⟩ := one_at q
  exact run_makeK (n := 1) (ks := []) (ws := []) (zs := []) M.m M.ok hr hb (E := fun _ _ _ => False) pass0 I1 r .nil rfl rfl fun p dx np nd ne => mk_init q p dx np nd ne
theorem pe_heapK (M : HMk X.prog X.w X.K X.mg X.base k C f fd) (hr : Room (k + 1) X.A) (hg : Gl X "Heap") {kpos : Pos} {nm : Option Str} (ha : PE X e te)
    (hall : (backToKw pos (keywordEach [⟨nm, e, kpos⟩] X.env)).all (·.1.isSome) = true := by rfl) (hks : (backToKw pos (keywordEach [⟨nm, e, kpos⟩] X.env)).filterMap (·.1) = [("rows" : Str)] := by rfl)
    (hpl : ((backTo pos (starEach [] X.env)).any (·.1) || (backToKw pos (keywordEach [⟨nm, e, kpos⟩] X.env)).any (·.1.isNone)) = false := by rfl) :
    PE X (.Call (.Name "Heap" p) [] [⟨nm, e, kpos⟩] pos) (tHeap X.K C te) := by
  refine ⟨fun pins s σ H Q I h => ?_⟩
  obtain ⟨g, hb⟩ := M.bk
  refine wpAny_Call_Name_kw (ld_glob I hg M.c.mg ?_ (by decide))
  refine PySem.W.callWith_KW0 (h₀ := X.base) I.ok.mod.kin M.m.kp hall (thn ((pk_cons ha pk_nil).run pos pins s σ H (one fun x H1 => mkHeap X.K C x H1 Q) I h) ?_) hpl
  rintro ws s1 ⟨zs, H1, I1, r, q⟩
  refine ⟨I1.kIn, ?_⟩
  obtain ⟨x, rfl, q⟩ := one_at q
  rw [hks]
  exact run_makeK (n := 0) (us := []) (vs := []) M.m M.ok hr hb (E := fun _ _ _ => False) pass0 I1 .nil r rfl rfl fun p dx np nd ne => mk_init q p dx np nd ne
theorem kheap0 (K : PySem.W.Frag) (M : HMk X.prog X.w K X.mg X.base k C f fd) (hr : Room (k + 1) X.A) (hg : Gl X "Heap") (hK : X.K = K := by rfl) : PE X (.Call (.Name "Heap" p) [] [] pos) (tHeap0 K C) := by
  subst hK
  exact pe_heap0 M hr hg
theorem kheap1 (K : PySem.W.Frag) (M : HMk X.prog X.w K X.mg X.base k C f fd) (hr : Room (k + 1) X.A) (hg : Gl X "Heap") (ha : PE X e te) (hK : X.K = K := by rfl)
    (he : starEach [e] X.env = (false, eval e X.env) :: starEach [] X.env := by rfl) (hpl : (backTo pos (starEach [] X.env)).any (·.1) = false := by rfl) :
    PE X (.Call (.Name "Heap" p) [e] [] pos) (tHeap K C te) := by
  subst hK
  exact pe_heap1 M hr hg ha he hpl
theorem kheapK (K : PySem.W.Frag) (M : HMk X.prog X.w K X.mg X.base k C f fd) (hr : Room (k + 1) X.A) (hg : Gl X "Heap") {kpos : Pos} {nm : Option Str} (ha : PE X e te) (hK : X.K = K := by rfl)
    (hall : (backToKw pos (keywordEach [⟨nm, e, kpos⟩] X.env)).all (·.1.isSome) = true := by rfl) (hks : (backToKw pos (keywordEach [⟨nm, e, kpos⟩] X.env)).filterMap (·.1) = [("rows" : Str)] := by rfl)
    (hpl : ((backTo pos (starEach [] X.env)).any (·.1) || (backToKw pos (keywordEach [⟨nm, e, kpos⟩] X.env)).any (·.1.isNone)) = false := by rfl) :
    PE X (.Call (.Name "Heap" p) [] [⟨nm, e, kpos⟩] pos) (tHeap K C te) := by
  subst hK
  exact pe_heapK M hr hg ha hall hks hpl
end
/-- a method that may be called, all its arguments given -/
structure MCal (P : Program) (w : World) (K : PySem.W.Frag) (mg : Str → Option Value) (base : Heap) (k : Nat) (C : Addr) (x : Str) (f : Addr) (fd : FuncData) (ps : List Str) (sp : Sp) : Prop where
  ok : FnOk P w K mg base CX0 k f fd ps sp
  m : Meth K C x f
  b : Binds K fd ps []
theorem HeapAt.no {K : PySem.W.Frag} {C : Addr} {H : Hp} {p : Addr} {L : List PRow} (h : HeapAt K C H p L) {m : Str} (hm : ¬ m = "held") : ∃ dx fs, H p = some (.ins C dx fs) ∧ fs.lookup m = none := by
  obtain ⟨dx, t, h1, _⟩ := h
  exact ⟨dx, _, h1, hf_no t hm⟩
end PK
/-! Drawn rows; sums by taking the least one by one; rows parted in two. -/
namespace PK
open PySem PySem.Spec PyProof.Rows L2
def spLRows (K : PySem.W.Frag) : Sp := fun vs H Q _ => ∃ (a c pf ps : Addr) (fs ss : List Str) (mo : Nat), vs = [.ref a, .ref pf, .ref ps, .int mo] ∧ IsFeed H a c ∧ Words H pf fs ∧ Words H ps ss ∧ mo ≤ 100 ∧
  ∀ (v : V) (H' : Hp) (L : List PRow), RowsOk mo 1000000000 L → (∀ r ∈ L, r.1 ∈ fs ∧ r.2.1 ∈ ss) → Ext a H H' → IsFeed H' a c → Dp K H' v (rowsD L) → Q v H'
theorem word_ok {y : Str} (h : Word y) : PyData.strOk y = true := by
  unfold PyData.strOk
  rw [Array.all_eq_true_iff_forall_mem]
  intro c hc
  have := (h.low c (by simpa using hc)).2
  exact decide_eq_true (by omega)
theorem pk_shaped {k : PKey} (h1 : Word k.1) (h2 : Word k.2) : SeqAt.shaped (pkD k) = true := by
  unfold SeqAt.shaped pkD
  simp only [PyData.canLay0, PyData.canLayAll0, word_ok h1, word_ok h2, Bool.and_self, Bool.true_and]
  rfl
theorem pk_eqv (a b : PKey) : PyData.eqv (pkD a) (pkD b) = decide (a = b) := by
  by_cases e : a = b
  · subst e
    rw [decide_eq_true rfl]
    exact eqv_refl _ (flat_pk a)
  · rw [decide_eq_false e]
    exact eqv_false (pkD_alike a b) fun z => e (pkD_inj z)
/-- the rows of one part -/
def ofPart (L : List PRow) (k : PKey) : List Int := (L.filter fun r => decide (pk r = k)).map fun r => r.2.2
theorem ofPart_sum (k : PKey) : ∀ L : List PRow, (ofPart L k).sum = cnt L k
  | [] => rfl
  | r :: L => by
    have ih := ofPart_sum k L
    unfold ofPart at ih ⊢
    rw [cnt_cons]
    by_cases e : pk r = k
    · rw [List.filter_cons_of_pos (by simpa using e), List.map_cons, List.sum_cons, ih, if_pos e]
    · rw [List.filter_cons_of_neg (by simpa using e), ih, if_neg e]
      omega
theorem ofPart_snoc {L : List PRow} {i : Nat} {r : PRow} (h : L[i]? = some r) (k : PKey) : ofPart (L.take (i + 1)) k = ofPart (L.take i) k ++ if pk r = k then [r.2.2] else [] := by
  unfold ofPart
  rw [take_snoc h, List.filter_append, List.map_append]
  congr 1
  by_cases e : pk r = k
  · rw [if_pos e, List.filter_cons_of_pos (by simpa using e)]
    rfl
  · rw [if_neg e, List.filter_cons_of_neg (by simpa using e)]
    rfl
theorem pk_alikeAll (ks : List PKey) : PySem.W.AlikeAll (ks.map pkD) := ⟨pk_allAlike ks, fun x hx => by
  obtain ⟨k, _, rfl⟩ := List.mem_map.mp hx
  intro z
  cases z⟩
/-- the least of keys -/
theorem least_key {k : PKey} {ks : List PKey} : ∃ m, m ∈ k :: ks ∧ PySem.W.minD (pkD k) (ks.map pkD) = pkD m ∧ ∀ q ∈ k :: ks, q ≠ m → dlt (pkD m) (pkD q) = true := by
  obtain ⟨h1, h2, h3⟩ := minD_at (ks.map pkD) (pkD k)
  have hm : ∃ m, m ∈ k :: ks ∧ PySem.W.minD (pkD k) (ks.map pkD) = pkD m := by
    rcases h1 with h1 | h1
    · exact ⟨k, List.mem_cons_self, h1⟩
    · obtain ⟨m, hm, e⟩ := List.mem_map.mp h1
      exact ⟨m, List.mem_cons_of_mem _ hm, e.symm⟩
  obtain ⟨m, hm, e⟩ := hm
  refine ⟨m, hm, e, fun q hq hne => ?_⟩
  rw [e] at h2 h3
  have hf : dlt (pkD q) (pkD m) = false := by
    rcases List.mem_cons.mp hq with rfl | hq
    · exact h2
    · exact h3 _ (List.mem_map.mpr ⟨q, hq, rfl⟩)
  rcases dlt_tot (pkD_alike m q) (fun z => hne (pkD_inj z).symm) with z | z
  · exact z
  · rw [z] at hf
    cases hf
/-- what has been found, what is left -/
structure Least (L M : List PRow) (ks : List PKey) : Prop where
  up : Rises (M.map fun r => pkD (pk r))
  ahead : ∀ r ∈ M, ∀ q ∈ ks, dlt (pkD (pk r)) (pkD q) = true
  all : ∀ k, k ∈ L.map pk ↔ k ∈ M.map pk ∨ k ∈ ks
  many : ∀ r ∈ M, r.2.2 = cnt L (pk r)
theorem Least.start (L : List PRow) : Least L [] (L.map pk) := ⟨List.Pairwise.nil, fun _ h => (nomatch h), fun k => ⟨Or.inr, fun h => h.resolve_left (fun z => nomatch z)⟩, fun _ h => (nomatch h)⟩
theorem Least.done {L M : List PRow} (h : Least L M []) : M = sumR L := sumR_of h.up (fun k => ⟨fun z => (h.all k).mpr (Or.inl z), fun z => ((h.all k).mp z).resolve_right (fun z => nomatch z)⟩) h.many
theorem Least.next {L M : List PRow} {ks : List PKey} {m : PKey} (h : Least L M ks) (hm : m ∈ ks) (hl : ∀ q ∈ ks, q ≠ m → dlt (pkD m) (pkD q) = true) :
    Least L (M ++ [(m.1, m.2, cnt L m)]) (ks.filter fun q => decide (q ≠ m)) := by
  refine ⟨?_, fun r hr q hq => ?_, fun k => ?_, fun r hr => ?_⟩
  · unfold Rises
    rw [List.map_append]
    refine List.pairwise_append.mpr ⟨h.up, List.pairwise_singleton _ _, fun d hd e he => ?_⟩
    obtain ⟨r, hr, rfl⟩ := List.mem_map.mp hd
    have : e = pkD m := List.mem_singleton.mp he
    rw [this]
    exact h.ahead r hr m hm
  · obtain ⟨q1, q2⟩ := List.mem_filter.mp hq
    rcases List.mem_append.mp hr with hr | hr
    · exact h.ahead r hr q q1
    · rw [List.mem_singleton.mp hr]
      exact hl q q1 (of_decide_eq_true q2)
  · rw [h.all k, List.map_append, List.mem_append, List.mem_filter]
    show _ ↔ (k ∈ M.map pk ∨ k ∈ [m]) ∨ _
    rw [List.mem_singleton, decide_eq_true_eq]
    by_cases e : k = m
    · subst e
      simp [hm]
    · simp [e]
  · rcases List.mem_append.mp hr with hr | hr
    · exact h.many r hr
    · rw [List.mem_singleton.mp hr]
      rfl
/-- the law's own sums -/
def spSummed (K : PySem.W.Frag) : Sp := fun vs H Q _ => ∃ (v : V) (L : List PRow) (n : Nat) (b : Int), vs = [v] ∧ Dp K H v (rowsD L) ∧ RowsOk n b L ∧ n ≤ 900 ∧
  ∀ (v : V) (H' : Hp), Same H H' → Dp K H' v (rowsD (sumR L)) → Q v H'
/-! ### rows parted in two -/
def parted1 (r : PRow) : List PRow := (if 1 < r.2.2 then [(r.1, r.2.1, r.2.2 / 2)] else []) ++ [(r.1, r.2.1, r.2.2 - r.2.2 / 2)]
def parted (L : List PRow) : List PRow := L.flatMap parted1
theorem parted_snoc {L : List PRow} {i : Nat} {r : PRow} (h : L[i]? = some r) : parted (L.take (i + 1)) = parted (L.take i) ++ parted1 r := by
  unfold parted
  rw [take_snoc h, List.flatMap_append]
  simp
theorem parted1_cnt {b : Int} {r : PRow} (h : PRowOk b r) (k : PKey) : cnt (parted1 r) k = if pk r = k then r.2.2 else 0 := by
  have := h.lo
  unfold parted1
  split
  · rw [List.singleton_append, cnt_cons, cnt_cons, cnt_nil]
    show (if pk r = k then r.2.2 / 2 else 0) + ((if pk r = k then r.2.2 - r.2.2 / 2 else 0) + 0) = _
    split <;> omega
  · rw [List.nil_append, cnt_cons, cnt_nil]
    show (if pk r = k then r.2.2 - r.2.2 / 2 else 0) + 0 = _
    split <;> omega
theorem parted1_ok {b : Int} {r : PRow} (h : PRowOk b r) : RowsOk 2 b (parted1 r) := by
  have := h.lo
  have := h.hi
  unfold parted1
  split
  · refine ⟨Nat.le_refl _, fun q hq => ?_⟩
    rcases List.mem_cons.mp hq with rfl | hq
    · exact ⟨h.f, h.s, by show 1 ≤ r.2.2 / 2; omega, by show r.2.2 / 2 ≤ b; omega⟩
    · rw [List.mem_singleton.mp hq]
      exact ⟨h.f, h.s, by show 1 ≤ r.2.2 - r.2.2 / 2; omega, by show r.2.2 - r.2.2 / 2 ≤ b; omega⟩
  · refine ⟨by show 1 ≤ 2; decide, fun q hq => ?_⟩
    rw [List.mem_singleton.mp hq]
    exact ⟨h.f, h.s, by show 1 ≤ r.2.2 - r.2.2 / 2; omega, by show r.2.2 - r.2.2 / 2 ≤ b; omega⟩
theorem parted_both {n : Nat} {b : Int} : ∀ {L : List PRow}, RowsOk n b L → RowsOk (2 * L.length) b (parted L) ∧ ∀ k, cnt (parted L) k = cnt L k
  | [], _ => ⟨⟨Nat.le_refl _, fun _ h => (nomatch h)⟩, fun _ => rfl⟩
  | r :: L, h => by
    obtain ⟨h1, h2⟩ := parted_both h.tail
    have okr := h.each r List.mem_cons_self
    have ok1 := parted1_ok okr
    have e : parted (r :: L) = parted1 r ++ parted L := by unfold parted; rw [List.flatMap_cons]
    rw [e]
    refine ⟨⟨?_, fun q hq => ?_⟩, fun k => ?_⟩
    · rw [List.length_append, List.length_cons]
      have := h1.len
      have := ok1.len
      omega
    · rcases List.mem_append.mp hq with hq | hq
      · exact ok1.each q hq
      · exact h1.each q hq
    · rw [cnt_app, h2 k, cnt_cons, parted1_cnt okr]
theorem sumR_parted {n : Nat} {b : Int} {L : List PRow} (h : RowsOk n b L) : sumR (parted L) = sumR L := sumR_eq (parted_both h).1 h (parted_both h).2
def spParted (K : PySem.W.Frag) : Sp := fun vs H Q _ => ∃ (v : V) (L : List PRow) (n : Nat) (b : Int), vs = [v] ∧ Dp K H v (rowsD L) ∧ RowsOk n b L ∧ n ≤ 400 ∧ b < 2 ^ 60 ∧
  ∀ (v : V) (H' : Hp), Same H H' → Dp K H' v (rowsD (parted L)) → Q v H'
end PK
namespace K02
open PySem PySem.Spec PyProof.Rows L2 PK
def topS (i : Nat) : Stmt := PySem.Challenge.pw_partkits_k02_heaps_by_rows.main.body.getD i (.Pass ⟨0, 0, 0, 0⟩)
abbrev NFeed : List Str := ["_law_script"]
theorem scFeed : FnScope NFeed ["_law_script"] (defScope (topS 5)) := ⟨rfl, rfl, rfl, by decide +kernel, rfl, by decide +kernel, by decide +kernel⟩
section
variable {P : Program} {w : World} {K : PySem.W.Frag} {mg : Str → Option Value} {base : Heap}
def spFeed (K : PySem.W.Frag) : Sp := fun vs H Q _ => ∃ (a : Addr) (ns : List Int), vs = [.ref a] ∧ SqL K H a (ns.map V.int) ∧
  ∀ p c H', H p = none → Same H H' → IsFeed H' p c → Q (.ref p) H'
theorem ok_feed {f : Addr} {fd : FuncData} {k : Nat} (F : Fun K "_law_feed" "_law_feed" (topS 5) f fd) (hL : mg "list" = none) :
    FnOk P w K mg base CX0 (k + 1) f fd ["_law_script"] (spFeed K) := by
  refine F.ok scFeed (fun vs H Q E h => ?_) (fun cdv A outer s H vs Q E hr h => ?_)
  · obtain ⟨a, ns, rfl, _⟩ := h
    rfl
  · obtain ⟨a, ns, rfl, hS, q⟩ := h
    refine ⟨_, (pss_one (ps_ret (pe_disp (pps_cons pe_str (pe_callTy (k_list K) (by rfl) hL (by decide +kernel) (pa_cons (pe_slice (ks_list K) (pv 0) po_none (po_some pe_int)) pa_nil)) (pps_cons pe_str pe_int (pps_cons pe_str pe_int (pps_cons pe_str pe_int pps_nil)))) (by rfl) (by rfl) (fun z => by cases z) (by decide)))), ?_⟩
    intro p np
    have sp : Same H (upd H p (.dK [])) := same_new (Same.refl H) np
    refine ⟨.ref a, rfl, 63, rfl, a, ns.map V.int, rfl, sp.seq hS, fun c nc => ?_⟩
    have ncp : c ≠ p := fun e => by
      rw [e, upd_same] at nc
      cases nc
    refine ⟨c, _, rfl, .inl (.inl (.inl upd_same)), fun d nd => ?_⟩
    have ndp : d ≠ p := fun e => by
      rw [e, upd_ne ncp.symm, upd_same] at nd
      cases nd
    refine ⟨?_, feed d 0 0 0, rfl, by show 4 ≤ 15; decide, ?_⟩
    · rw [upd_ne ndp.symm, upd_ne ncp.symm, upd_same]
    · rw [feed_merge]
      have s2 : Same H (upd (upd (upd H p (.dK [])) c (.lst (cutV (ns.map V.int) none (some 63)))) d (.lst (cutV (ns.map V.int) none (some 63)))) := same_new (same_new sp nc) nd
      refine q p d _ np (same_own s2 np) ⟨(ns.drop (HT.sIx ns.length 0 none)).take (HT.sIx ns.length ns.length (some 63) - HT.sIx ns.length 0 none), 0, 0, 0, upd_same, ?_, by decide⟩
      rw [upd_ne ndp, upd_same]
      unfold cutV
      rw [List.map_take, List.map_drop, List.length_map]
end
abbrev NDraw : List Str := ["_law_feed_here", "_law_many_here", "_law_figure", "_law_at", "_law_cell", "_law_mixed"]
theorem scDraw : FnScope NDraw ["_law_feed_here", "_law_many_here"] (defScope (topS 6)) := ⟨rfl, rfl, rfl, by decide +kernel, rfl, by decide +kernel, by decide +kernel⟩
section
variable {P : Program} {w : World} {K : PySem.W.Frag} {mg : Str → Option Value} {base : Heap}
theorem ok_draw {f : Addr} {fd : FuncData} {k : Nat} (F : Fun K "_law_draw" "_law_draw" (topS 6) f fd) (hl : mg "len" = none) :
    FnOk P w K mg base CX0 (k + 1) f fd ["_law_feed_here", "_law_many_here"] spDraw := by
  refine F.ok scDraw (fun vs H Q E h => ?_) (fun cdv A outer s H vs Q E hr h => ?_)
  · obtain ⟨a, c, m, rfl, _⟩ := h
    rfl
  · obtain ⟨a, c, m, rfl, ⟨cs, i, l, n, fd⟩, m0, m1, q⟩ := h
    have e0 : Ext a H H := Ext.refl a H
    refine ⟨_, (pss_cons (ps_dput (hu_of hr) (pv 0) pe_str (pe_op op_add (pe_dget (hu_of hr) (pv 0) pe_str (fun _ _ => rfl)) pe_int) rfl)
  (pss_cons (ps_if (pt_cmpR op_gt (pe_dget (hu_of hr) (pv 0) pe_str (fun _ _ => rfl)) pe_int (nomark _))
  (pss_cons (ps_set (i := 2) scDraw.nd rfl (.inl rfl) (pe_op op_mod (pe_dget (hu_of hr) (pv 0) pe_str (fun _ _ => rfl)) (pv 1)))
  (pss_cons (ps_dput (hu_of hr) (pv 0) pe_str (pe_op op_fdiv (pe_dget (hu_of hr) (pv 0) pe_str (fun _ _ => rfl)) (pv 1)) rfl)
  (pss_one (ps_ret (pv 2))))) pss_nil)
  (pss_cons (ps_set (i := 3) scDraw.nd rfl (.inl rfl) (pe_dget (hu_of hr) (pv 0) pe_str (fun _ _ => rfl)))
  (pss_cons (ps_dput (hu_of hr) (pv 0) pe_str (pe_op op_add (pv 3) pe_int) rfl)
  (Evl.pss_cut (ps_set (i := 4) scDraw.nd rfl (.inl rfl) (pe_ifExp (pt_cmpR (ko_neNil K hr) (pe_dget (hu_of hr) (pv 0) pe_str (fun _ _ => rfl)) (pe_lst pa_nil) (nomark _)) (pe_ix (kx_list K) (pe_dget (hu_of hr) (pv 0) pe_str (fun _ _ => rfl)) (pe_op op_mod (pv 3) (pe_callB (k_len K) (by rfl) hl PySem.boot_len (pa_cons (pe_dget (hu_of hr) (pv 0) pe_str (fun _ _ => rfl)) pa_nil))) (fun _ _ => rfl)) pe_int))
  (Evl.pss_cut (ps_if (PW.pt (pw_and (pt_cmpR op_ge (pv 4) (pe_op op_pow pe_int pe_int) (nomark _)) (pw_and1 (pt_cmpR op_lt (pv 3) (pe_callB (k_len K) (by rfl) hl PySem.boot_len (pa_cons (pe_dget (hu_of hr) (pv 0) pe_str (fun _ _ => rfl)) pa_nil)) (nomark _)))))
  (pss_cons (ps_dput (hu_of hr) (pv 0) pe_str (pe_op op_fdiv (pv 4) (pv 1)) rfl)
  (pss_one (ps_ret (pe_op op_mod (pv 4) (pv 1))))) pss_nil)
  (pss_cons (ps_set (i := 5) scDraw.nd rfl (.inl rfl) (pe_op op_mod (pe_op op_add (pe_op op_add (pe_op op_mod (pv 4) pe_int) (pe_op op_mul pe_int (pe_dget (hu_of hr) (pv 0) pe_str (fun _ _ => rfl)))) pe_int) pe_int))
  (pss_cons (ps_set (i := 5) scDraw.nd rfl (.inl rfl) (pe_op op_mod (pe_op op_add (pe_op op_add (pe_op op_mul (pv 5) (pv 5)) (pe_op op_mul pe_int (pe_dget (hu_of hr) (pv 0) pe_str (fun _ _ => rfl)))) pe_int) pe_int))
  (pss_one (ps_ret (pe_op op_mod (pe_op op_fdiv (pe_op op_mod (pe_op op_add (pe_op op_mul (pv 5) (pv 5)) (pe_op op_mul pe_int (pv 5))) pe_int) pe_int) (pv 1)))))))))))), ?_⟩
    refine ⟨.ref a, rfl, a, .int n, rfl, DGet.k (k := kN) fd.d, n, 1, rfl, rfl, .ref a, rfl, a, _, rfl, DPut.k (k := kN) fd.d (feed_len c i l n), ?_⟩
    rw [feed_putN]
    have f1 := fd.put (l' := l) (n' := n + 1) fd.i0
    have e1 : Ext a H (upd H a (.dK (feed c i l (n + 1)))) := e0.at
    generalize upd H a (.dK (feed c i l (n + 1))) = H1 at f1 e1
    refine ⟨.ref a, rfl, a, .int l, rfl, DGet.k (k := kL) f1.d, l, 0, rfl, rfl, _, rfl, ite2 (fun hl0 => ?_) (fun hl0 => ?_)⟩
    · have hl0 : 0 < l := of_decide_eq_true hl0
      refine ⟨.ref a, rfl, a, .int l, rfl, DGet.k (k := kL) f1.d, .int m, rfl, l, m, rfl, rfl, m0, ?_⟩
      refine ⟨.ref a, rfl, a, .int l, rfl, DGet.k (k := kL) f1.d, .int m, rfl, l, m, rfl, rfl, ⟨m0, by omega⟩, .ref a, rfl, a, _, rfl, DPut.k (k := kL) f1.d (feed_len c i l (n + 1)), ?_⟩
      rw [feed_putL]
      refine ⟨.int (l % m), rfl, q _ _ (Int.emod_nonneg _ (by omega)) (Int.emod_lt_of_pos _ m0) e1.at ?_⟩
      exact ⟨cs, _, _, _, f1.put f1.i0⟩
    · refine ⟨.ref a, rfl, a, .int i, rfl, DGet.k (k := kA) f1.d, .int i, rfl, i, 1, rfl, rfl, .ref a, rfl, a, _, rfl, DPut.k (k := kA) f1.d (feed_len c i l (n + 1)), ?_⟩
      rw [feed_putA]
      have i1 : 0 ≤ i + 1 := by have := f1.i0; omega
      have f2 := f1.put (l' := l) (n' := n + 1) i1
      have e2 : Ext a H (upd H1 a (.dK (feed c (i + 1) l (n + 1)))) := e1.at
      generalize upd H1 a (.dK (feed c (i + 1) l (n + 1))) = H2 at f2 e2
      -- the cell
      refine ⟨fun σ H3 => ∃ z, σ = [some (.ref a), some (.int m), none, some (.int i), some (.int z), none] ∧ Feed H3 a c cs (i + 1) l (n + 1) ∧ Ext a H H3, ?_, ?_⟩
      · refine ⟨.ref a, rfl, a, .ref c, rfl, DGet.k (k := kC) f2.d, Nat.zero_le _, fun p np => ⟨c, p, cs.map V.int, rfl, rfl, .inl (.inl ((f2.new np).l)), .inl (.inl upd_same), ?_⟩⟩
        have f3 := f2.new (o := .lst []) np
        have e3 : Ext a H (upd H2 p (.lst [])) := e2.new np
        generalize upd H2 p (.lst []) = H3 at f3 e3
        cases cs with
        | nil => exact ⟨_, rfl, iteF ⟨8, rfl, f3, e3⟩⟩
        | cons x r =>
          have hlen : (((x :: r).map V.int).length : Int) = ((r.length + 1 : Nat) : Int) := by
            rw [List.length_map, List.length_cons]
          refine ⟨_, rfl, iteT ⟨.ref a, rfl, a, .ref c, rfl, DGet.k (k := kC) f3.d, .int i, rfl, .ref a, rfl, a, .ref c, rfl, DGet.k (k := kC) f3.d, c, _, rfl, .inl (.inl (.inl f3.l)), i, _, rfl, rfl, ?_, ?_⟩⟩
          · rw [hlen]
            omega
          · have hb : (i % ((((x :: r).map V.int).length : Nat) : Int)).toNat < (x :: r).length := by
              rw [hlen, List.length_cons]
              have h1 := Int.emod_nonneg i (show ((r.length + 1 : Nat) : Int) ≠ 0 by omega)
              have h2 := Int.emod_lt_of_pos i (show (0 : Int) < ((r.length + 1 : Nat) : Int) by omega)
              omega
            have h0 : 0 ≤ i % ((((x :: r).map V.int).length : Nat) : Int) := Int.emod_nonneg _ (by rw [hlen]; omega)
            refine ⟨c, _, _, .int ((x :: r)[(i % ((((x :: r).map V.int).length : Nat) : Int)).toNat]), rfl, rfl, .inl (.inl f3.l), at_of (j := (i % ((((x :: r).map V.int).length : Nat) : Int)).toNat) (by omega) ?_, ?_⟩
            · rw [List.getElem?_map, List.getElem?_eq_getElem hb]
              rfl
            · exact ⟨_, rfl, f3, e3⟩
      · rintro σ H3 ⟨z, rfl, f3, e3⟩
        -- a great cell, or a lesser one
        refine ⟨fun σ H4 => σ = [some (.ref a), some (.int m), none, some (.int i), some (.int z), none] ∧ H4 = H3, ?_, ?_⟩
        · refine ⟨.int z, rfl, 10, 18, rfl, rfl, ⟨by decide, by decide, by decide⟩, _, _, rfl, rfl, _, rfl, ite2 (fun hz => ?_) (fun hz => iteF ⟨rfl, rfl⟩)⟩
          refine ⟨.int i, rfl, .ref a, rfl, a, .ref c, rfl, DGet.k (k := kC) f3.d, c, _, rfl, .inl (.inl (.inl f3.l)), _, _, rfl, rfl, _, rfl, ite2 (fun h2 => ?_) (fun h2 => ⟨rfl, rfl⟩)⟩
          refine ⟨.int z, rfl, .int m, rfl, z, m, rfl, rfl, ⟨m0, by omega⟩, .ref a, rfl, a, _, rfl, DPut.k (k := kL) f3.d (feed_len c (i + 1) l (n + 1)), ?_⟩
          rw [feed_putL]
          refine ⟨.int z, rfl, .int m, rfl, z, m, rfl, rfl, m0, q _ _ (Int.emod_nonneg _ (by omega)) (Int.emod_lt_of_pos _ m0) e3.at ?_⟩
          exact ⟨cs, _, _, _, f3.put f3.i0⟩
        · rintro σ H4 ⟨rfl, rfl⟩
          have fin : IsFeed H4 a c := ⟨cs, _, _, _, f3⟩
          refine ⟨.int z, rfl, z, 1000000033, rfl, rfl, (show (0 : Int) < 1000000033 by decide), .ref a, rfl, a, .int (n + 1), rfl, DGet.k (k := kN) f3.d, 70001, n + 1, rfl, rfl, .inl ⟨by decide, by decide⟩, _, _, rfl, rfl, _, 37, rfl, rfl, _, 2147483587, rfl, rfl, (show (0 : Int) < 2147483587 by decide), ?_⟩
          dsimp only
          have hx0 := Int.emod_nonneg (z % 1000000033 + 70001 * (n + 1) + 37) (show (2147483587 : Int) ≠ 0 by decide)
          have hx1 := Int.emod_lt_of_pos (z % 1000000033 + 70001 * (n + 1) + 37) (show (0 : Int) < 2147483587 by decide)
          generalize (z % 1000000033 + 70001 * (n + 1) + 37) % 2147483587 = x at hx0 hx1
          refine ⟨.int x, rfl, .int x, rfl, x, x, rfl, rfl, .inl ⟨by omega, by omega⟩, .ref a, rfl, a, .int (n + 1), rfl, DGet.k (k := kN) f3.d, 6700417, n + 1, rfl, rfl, .inl ⟨by decide, by decide⟩, _, _, rfl, rfl, _, 7, rfl, rfl, _, 2147483563, rfl, rfl, (show (0 : Int) < 2147483563 by decide), ?_⟩
          dsimp only
          have hy0 := Int.emod_nonneg (x * x + 6700417 * (n + 1) + 7) (show (2147483563 : Int) ≠ 0 by decide)
          have hy1 := Int.emod_lt_of_pos (x * x + 6700417 * (n + 1) + 7) (show (0 : Int) < 2147483563 by decide)
          generalize (x * x + 6700417 * (n + 1) + 7) % 2147483563 = y at hy0 hy1
          refine ⟨.int y, rfl, .int y, rfl, y, y, rfl, rfl, .inl ⟨by omega, by omega⟩, .int y, rfl, 17, y, rfl, rfl, .inl ⟨by decide, by decide⟩, _, _, rfl, rfl, _, 2147483549, rfl, rfl, (show (0 : Int) < 2147483549 by decide), _, 8, rfl, rfl, ⟨by decide, by decide⟩, .int m, rfl, _, m, rfl, rfl, m0, ?_⟩
          exact q _ _ (Int.emod_nonneg _ (by omega)) (Int.emod_lt_of_pos _ m0) e3 fin
end
end K02
namespace K02
open PySem PySem.Spec PyProof.Rows L2 PK
abbrev NNames : List Str := ["_law_feed_here", "_law_many_here", "_law_letters", "_law_found", "_law_at", "_law_k", "_law_tail", "_law_j"]
theorem scNames : FnScope NNames ["_law_feed_here", "_law_many_here"] (defScope (topS 7)) := ⟨rfl, rfl, rfl, by decide +kernel, rfl, by decide +kernel, by decide +kernel⟩
section
variable {P : Program} {w : World} {K : PySem.W.Frag} {mg : Str → Option Value} {base : Heap}
set_option maxHeartbeats 8000000 in
theorem ok_names {f fD : Addr} {fd fdD : FuncData} {k : Nat} (F : Fun K "_law_names" "_law_names" (topS 7) f fd)
    (D : Cal P w K mg base 1 "_law_draw" fD fdD ["_law_feed_here", "_law_many_here"] spDraw) (hl : mg "len" = none) (hR : mg "range" = none) :
    FnOk P w K mg base CX0 (k + 2) f fd ["_law_feed_here", "_law_many_here"] spNames := by
  refine F.ok scNames (fun vs H Q E h => ?_) (fun cdv A outer s H vs Q E hr h => ?_)
  · obtain ⟨a, c, m, rfl, _⟩ := h
    rfl
  · obtain ⟨a, c, m, rfl, fe, m0, m1, q⟩ := h
    refine ⟨_, (pss_cons (ps_set (i := 2) scNames.nd rfl (.inr rfl) pe_str)
  (pss_cons (ps_set (i := 3) scNames.nd rfl (.inl rfl) (pe_lst pa_nil))
  (pss_cons (ps_set (i := 4) scNames.nd rfl (.inl rfl) (pe_call D.ok (hr.mono (Nat.le_add_left 1 k)) (by rfl) D.g D.kp D.b .nil pass0 (pa_cons (pv 0) (pa_cons pe_int pa_nil))))
  (pss_cons (ps_for PassesOwn.never rfl (pi_range1 (by rfl) hR (pa_cons (pv 1) pa_nil)) (pg_name (i := 5) scNames.nd rfl (.inl rfl))
  (pss_one (ps_if (PW.pt (pw_and (pt_cmpR (ko_neNil K hr) (pv 3) (pe_lst pa_nil) (nomark _)) (pw_and (pt_cmpR op_lt (pe_callB call_len_str (by rfl) hl PySem.boot_len (pa_cons (pe_ix (kx_list K) (pv 3) (pe_un un_neg pe_int) (fun _ _ => rfl)) pa_nil)) pe_int (nomark _)) (pw_and1 (pt_cmpR op_eq (pe_call D.ok (hr.mono (Nat.le_add_left 1 k)) (by rfl) D.g D.kp D.b .nil pass0 (pa_cons (pv 0) (pa_cons pe_int pa_nil))) pe_int (nomark _))))))
  (pss_one (ps_expr (pe_bm PySem.F.plainAttrs_list PySem.F.slot_list_append PySem.F.type_list_append mt_append (pv 3) (pa_cons (pe_op op_add_str (pe_ix (kx_list K) (pv 3) (pe_un un_neg pe_int) (fun _ _ => rfl)) (pe_ix ix_str (pv 2) (pe_call D.ok (hr.mono (Nat.le_add_left 1 k)) (by rfl) D.g D.kp D.b .nil pass0 (pa_cons (pv 0) (pa_cons pe_int pa_nil))) (fun _ _ => rfl))) pa_nil)))) (pss_cons (ps_set (i := 4) scNames.nd rfl (.inl rfl) (pe_op op_add (pv 4) pe_int))
  (pss_cons (ps_setLc (i := 6) (own := [("_law_j", 7)]) rfl scNames.nd rfl rfl (sw_true rfl rfl rfl (by decide +kernel)) (pi_range1 (by rfl) hR (pa_cons (pe_ix (kx_list K) (pe_lst (pa_cons pe_int (pa_cons pe_int (pa_cons pe_int (pa_cons pe_int pa_nil))))) (pe_call D.ok (hr.mono (Nat.le_add_left 1 k)) (by rfl) D.g D.kp D.b .nil pass0 (pa_cons (pv 0) (pa_cons pe_int pa_nil))) (fun _ _ => rfl)) pa_nil)) (blkOk_by (N := NNames) (sc := defScope (topS 7)) (own := [("_law_j", 7)]) (by decide +kernel)) (fun _ _ _ _ _ => (pg_name (i := 7) scNames.nd rfl (.inl rfl))) (fun _ _ _ _ _ => pts_nil) (fun _ _ _ _ _ => (pe_ix ix_str (pv 2) (pe_call D.ok (hr.mono (Nat.le_add_left 1 k)) (by rfl) D.g D.kp D.b .nil pass0 (pa_cons (pv 0) (pa_cons pe_int pa_nil))) (fun _ _ => rfl))))
  (pss_one (ps_expr (pe_bm PySem.F.plainAttrs_list PySem.F.slot_list_append PySem.F.type_list_append mt_append (pv 3) (pa_cons (pe_op op_add_str (pe_ix ix_str (pv 2) (pe_op op_mod (pv 4) pe_int) (fun _ _ => rfl)) (pe_join pe_str (pv 6))) pa_nil)))))))))
  (pss_one (ps_ret (pv 3))))))), ?_⟩
    refine ⟨Nat.zero_le _, fun o no => ?_⟩
    have noc := fe.ne no
    have noa := noc.1
    have s1 : Ext a H (upd H o (.lst [])) := (Ext.refl a H).new no
    refine ⟨.ref a, rfl, a, c, 26, rfl, fe.new no, by decide, by decide, fun at0 H1 _ _ e1 f1 => ?_⟩
    have eo1 : H1 o = some (.lst []) := e1 o _ upd_same noa
    have x1 : Ext a H H1 := s1.trans e1
    refine ⟨.int m, rfl, m, rfl, by omega, by omega, for_range (lo := 0) (n := m.toNat) (fun k σ H2 => ∃ (ws : List Str) (z : Int) (y5 y6 : Option V),
      σ = [some (.ref a), some (.int m), some (.str abc), some (.ref o), some (.int z), y5, y6, none] ∧ ws.length = k ∧ (∀ y ∈ ws, Word y) ∧
      H2 o = some (.lst (ws.map V.str)) ∧ Ext a H H2 ∧ IsFeed H2 a c) ?_ ?_ ?_⟩
    · exact ⟨[], at0, none, none, rfl, rfl, fun _ h => (nomatch h), eo1, x1, f1⟩
    · rintro k σ H2 hk ⟨ws, z, y5, y6, rfl, hlen, hw, eo, x2, f2⟩
      have small : (ws.map V.str).length < sizeLine := by
        rw [List.length_map]
        exact small1000 (by omega)
      -- the new word stands at the end
      have put : ∀ (y : Str) (H3 : Hp), Word y → Ext a H2 H3 → IsFeed H3 a c → ∀ (z' : Int) (y6' : Option V), ∃ (ws' : List Str) (z2 : Int) (y5' y6'' : Option V),
          [some (.ref a), some (.int m), some (.str abc), some (.ref o), some (.int z'), some (V.int (0 + k)), y6', none] =
            [some (.ref a), some (.int m), some (.str abc), some (.ref o), some (.int z2), y5', y6'', none] ∧ ws'.length = k + 1 ∧ (∀ y ∈ ws', Word y) ∧
          upd H3 o (.lst (ws.map V.str ++ [.str y])) o = some (.lst (ws'.map V.str)) ∧ Ext a H (upd H3 o (.lst (ws.map V.str ++ [.str y]))) ∧ IsFeed (upd H3 o (.lst (ws.map V.str ++ [.str y]))) a c := by
        intro y H3 hy e3 f3 z' y6'
        refine ⟨ws ++ [y], z', _, y6', rfl, by rw [List.length_append, hlen]; rfl, fun v hv => ?_, ?_, (x2.trans e3).own no, ?_⟩
        · rcases List.mem_append.mp hv with h | h
          · exact hw v h
          · rw [List.mem_singleton.mp h]; exact hy
        · rw [upd_same, List.map_append]
          rfl
        · exact f3.own noc
      show tIfS _ _ _ _ _ _
      refine if_else (fun H3 => Ext a H2 H3 ∧ IsFeed H3 a c) (fun H3 ⟨e3, f3⟩ => ?_) (fun other => ?_)
      · -- another word: one to eight signs
        have eo3 := e3 o _ eo noa
        refine ⟨.int z, rfl, z, 1, rfl, rfl, Nat.le_trans (by decide : (4 : Nat) ≤ 4) (by decide : (4 : Nat) ≤ sizeLine), fun p np => ?_⟩
        have npc := f3.ne np
        refine ⟨.ref a, rfl, a, c, 4, rfl, f3.new np, by decide, by decide, fun r H4 r0 r1 e4 f4 => ?_⟩
        have ep4 : H4 p = some (.lst [.int 0, .int 0, .int 1, .int 7]) := e4 p _ upd_same npc.1
        have hr' : ∃ n : Nat, n ≤ 7 ∧ atI [V.int 0, .int 0, .int 1, .int 7] r = some (.int n) := by
          have : r = 0 ∨ r = 1 ∨ r = 2 ∨ r = 3 := by omega
          rcases this with rfl | rfl | rfl | rfl
          · exact ⟨0, by decide, rfl⟩
          · exact ⟨0, by decide, rfl⟩
          · exact ⟨1, by decide, rfl⟩
          · exact ⟨7, by decide, rfl⟩
        obtain ⟨n, n7, en⟩ := hr'
        refine ⟨p, _, r, .int n, rfl, rfl, .inl (.inl ep4), en, n, rfl, by omega, by omega, fun d nd => ?_⟩
        have x4 : Ext a H2 H4 := (e3.new np).trans e4
        have ndc := f4.ne nd
        have eo4 : H4 o = some (.lst (ws.map V.str)) := x4 o _ eo noa
        refine lc_range (lo := 0) (n := (n : Int).toNat) (fun j H5 => ∃ l : List Nat, l.length = j ∧ (∀ x ∈ l, Lw x) ∧ H5 d = some (.lst ((l.map fun x => (⟨#[x]⟩ : Str)).map V.str)) ∧ Ext a H4 H5 ∧ IsFeed H5 a c) ?_ ?_ ?_
        · exact ⟨[], rfl, fun _ h => (nomatch h), upd_same, (Ext.refl a H4).new nd, f4.new nd⟩
        · rintro j H5 hj ⟨l, ll, lw, ed, e5, f5⟩
          refine ⟨rfl, .str abc, rfl, .ref a, rfl, a, c, 26, rfl, f5, by decide, by decide, fun r H6 r0 r1 e6 f6 => ?_⟩
          obtain ⟨x, ex, hx⟩ := abc_at r0 r1
          refine ⟨abc, r, x, rfl, rfl, abc_len, ex, _, e6 d _ ed ndc.1, ?_, l ++ [x], by rw [List.length_append, ll]; rfl, fun v hv => ?_, ?_, (e5.trans e6).own nd, f6.own ndc⟩
          · rw [List.length_map, List.length_map]
            exact small1000 (by omega)
          · rcases List.mem_append.mp hv with h | h
            · exact lw v h
            · rw [List.mem_singleton.mp h]; exact hx
          · rw [upd_same, List.map_append, List.map_append]
            rfl
        · rintro H5 ⟨l, ll, lw, ed, e5, f5⟩
          have z0 := Int.emod_nonneg (z + 1) (show (26 : Int) ≠ 0 by decide)
          have z1 := Int.emod_lt_of_pos (z + 1) (show (0 : Int) < 26 by decide)
          obtain ⟨x, ex, hx⟩ := abc_at z0 z1
          have l7 : l.length ≤ 7 := by omega
          have x5 : Ext a H2 H5 := x4.trans e5
          have eo5 := x5 o _ eo noa
          have wd := word_join hx l7 lw
          refine ⟨.ref o, rfl, .inl ⟨rfl, _, .inl (.inl eo5)⟩, .str abc, rfl, .int (z + 1), rfl, z + 1, 26, rfl, rfl, (show (0 : Int) < 26 by decide), abc, _, x, rfl, rfl, abc_len, ex, ⟨_, rfl⟩, .ref d, rfl, _, d, _, rfl, rfl, .inl (.inl (.inl ed)), ?_, _, _, rfl, rfl, ?_, o, _, _, rfl, rfl, eo5, small, put _ H5 wd x5 f5 _ _⟩
          · have e0 : ((l.map fun x => (⟨#[x]⟩ : Str)).map (·.length)).sum = l.length := by
              rw [List.map_map]
              clear ed lw ll l7 wd
              induction l with
              | nil => rfl
              | cons y r ih =>
                rw [List.map_cons, List.sum_cons, ih]
                show 1 + r.length = r.length + 1
                omega
            rw [e0]
            have e1 : ((Str.ofString "").length : Nat) = 0 := rfl
            rw [List.length_map, e1]
            omega
          · have := wd.eight
            rw [strLen_append] at this
            exact Nat.le_trans this (by decide)
      · -- is there one, and short?
        refine ⟨.ref o, rfl, Nat.zero_le _, fun p np => ⟨o, p, ws.map V.str, rfl, rfl, .inl (.inl (by rw [upd_ne (ne_of_none eo np)]; exact eo)), .inl (.inl upd_same), ?_⟩⟩
        have x3 : Ext a H2 (upd H2 p (.lst [])) := (Ext.refl a H2).new np
        have f3 := f2.new (o := .lst []) np
        have eo3 := x3 o _ eo noa
        generalize upd H2 p (.lst []) = H3 at x3 f3 eo3
        by_cases hn : ws = []
        · subst hn
          exact ⟨_, rfl, iteF (iteF (other H3 ⟨x3, f3⟩))⟩
        · have he : (!(ws.map V.str).isEmpty) = true := by
            cases ws with
            | nil => exact absurd rfl hn
            | cons _ _ => rfl
          rw [he]
          have wl : Word (ws.getLast hn) := hw _ (List.getLast_mem hn)
          refine ⟨_, rfl, iteT ⟨.ref o, rfl, 1, rfl, o, _, -1, _, rfl, rfl, .inl (.inl eo3), strs_last hn, _, rfl, Nat.le_trans wl.eight (by decide), _, 8, rfl, rfl, _, rfl, ite2 (fun h8 => ?_) (fun h8 => iteF (other H3 ⟨x3, f3⟩))⟩⟩
          have h8 : ((ws.getLast hn).length : Int) < 8 := of_decide_eq_true h8
          refine ⟨.ref a, rfl, a, c, 3, rfl, f3, by decide, by decide, fun r H4 r0 r1 e4 f4 => ⟨rfl, _, rfl, ?_⟩⟩
          have x4 : Ext a H2 H4 := x3.trans e4
          refine ite2 (fun hr0 => ?_) (fun hr0 => other H4 ⟨x4, f4⟩)
          have eo4 := x4 o _ eo noa
          refine ⟨.ref o, rfl, .inl ⟨rfl, _, .inl (.inl eo4)⟩, .ref o, rfl, 1, rfl, o, _, -1, _, rfl, rfl, .inl (.inl eo4), strs_last hn, .str abc, rfl, .ref a, rfl, a, c, 26, rfl, f4, by decide, by decide, fun r2 H5 s0 s1 e5 f5 => ?_⟩
          obtain ⟨x, ex, hx⟩ := abc_at s0 s1
          have x5 : Ext a H2 H5 := x4.trans e5
          refine ⟨abc, r2, x, rfl, rfl, abc_len, ex, _, _, rfl, rfl, ?_, o, _, _, rfl, rfl, x5 o _ eo noa, small, put _ H5 (word_snoc wl (by omega) hx) x5 f5 _ _⟩
          rw [len_one]
          exact Nat.le_trans (show _ ≤ 9 by omega) (by decide)
    · rintro σ H2 ⟨ws, z, y5, y6, rfl, hlen, hw, eo, x2, f2⟩
      exact ⟨.ref o, rfl, q o H2 ws no x2 f2 eo (by omega) hw⟩
end
end K02
namespace K02
open PySem PySem.Spec PyProof.Rows L2 PK
abbrev NMany : List Str := ["_law_feed_here"]
theorem scMany : FnScope NMany ["_law_feed_here"] (defScope (topS 8)) := ⟨rfl, rfl, rfl, by decide +kernel, rfl, by decide +kernel, by decide +kernel⟩
section
variable {P : Program} {w : World} {K : PySem.W.Frag} {mg : Str → Option Value} {base : Heap}
theorem ok_many {f fD : Addr} {fd fdD : FuncData} {k : Nat} (F : Fun K "_law_many" "_law_many" (topS 8) f fd)
    (D : Cal P w K mg base 1 "_law_draw" fD fdD ["_law_feed_here", "_law_many_here"] spDraw) :
    FnOk P w K mg base CX0 (k + 2) f fd ["_law_feed_here"] spMany := by
  refine F.ok scMany (fun vs H Q E h => ?_) (fun cdv A outer s H vs Q E hr h => ?_)
  · obtain ⟨a, c, rfl, _⟩ := h
    rfl
  · obtain ⟨a, c, rfl, fe, q⟩ := h
    refine ⟨_, (pss_one (ps_ret (pe_ix (kx_list K) (pe_lst (pa_cons pe_int (pa_cons (pe_op op_add pe_int (pe_call D.ok (hr.mono (Nat.le_add_left 1 k)) (by rfl) D.g D.kp D.b .nil pass0 (pa_cons (pv 0) (pa_cons pe_int pa_nil)))) (pa_cons (pe_op op_sub (pe_op op_pow pe_int pe_int) (pe_call D.ok (hr.mono (Nat.le_add_left 1 k)) (by rfl) D.g D.kp D.b .nil pass0 (pa_cons (pv 0) (pa_cons pe_int pa_nil)))) (pa_cons (pe_op op_add pe_int (pe_call D.ok (hr.mono (Nat.le_add_left 1 k)) (by rfl) D.g D.kp D.b .nil pass0 (pa_cons (pv 0) (pa_cons (pe_op op_pow pe_int pe_int) pa_nil)))) pa_nil))))) (pe_call D.ok (hr.mono (Nat.le_add_left 1 k)) (by rfl) D.g D.kp D.b .nil pass0 (pa_cons (pv 0) (pa_cons pe_int pa_nil))) (fun _ _ => rfl)))), ?_⟩
    refine ⟨.ref a, rfl, a, c, 9, rfl, fe, by decide, by decide, fun r1 H1 a0 a1 e1 f1 => ⟨_, _, rfl, rfl, 10, 9, rfl, rfl, ⟨by decide, by decide, by decide⟩, .ref a, rfl, a, c, 3, rfl, f1, by decide, by decide, fun r2 H2 b0 b1 e2 f2 => ⟨_, _, rfl, rfl, .ref a, rfl, 10, 6, rfl, rfl, ⟨by decide, by decide, by decide⟩, a, c, _, rfl, f2, by decide, by decide, fun r3 H3 c0 c1 e3 f3 => ⟨_, _, rfl, rfl, by show 4 ≤ sizeLine; decide, fun p np => ?_⟩⟩⟩⟩
    have npc := f3.ne np
    refine ⟨.ref a, rfl, a, c, 4, rfl, f3.new np, by decide, by decide, fun r H4 r0 r4 e4 f4 => ?_⟩
    have x4 : Ext a H H4 := (((e1.trans e2).trans e3).new np).trans e4
    have ep := e4 p _ upd_same npc.1
    have hz : ∃ z : Int, 1 ≤ z ∧ z ≤ 1000000000 ∧ atI [V.int 1, .int (1 + r1), .int (10 ^ 9 - r2), .int (1 + r3)] r = some (.int z) := by
      have : r = 0 ∨ r = 1 ∨ r = 2 ∨ r = 3 := by omega
      have c1' : r3 < 1000000 := c1
      rcases this with rfl | rfl | rfl | rfl
      · exact ⟨1, by decide, by decide, rfl⟩
      · exact ⟨1 + r1, by omega, by omega, rfl⟩
      · exact ⟨10 ^ 9 - r2, by omega, by omega, rfl⟩
      · exact ⟨1 + r3, by omega, by omega, rfl⟩
    obtain ⟨z, z0, z1, ez⟩ := hz
    exact ⟨p, _, r, .int z, rfl, rfl, .inl (.inl ep), ez, q z H4 z0 z1 x4 f4⟩
end
end K02
namespace K02
open PySem PySem.Spec PyProof.Rows L2 PK
abbrev NLRows : List Str := ["_law_feed_here", "_law_forms", "_law_shades", "_law_most_now", "_law_found", "_law_k", "_law_form", "_law_shade"]
theorem scLRows : FnScope NLRows ["_law_feed_here", "_law_forms", "_law_shades", "_law_most_now"] (defScope (topS 9)) := ⟨rfl, rfl, rfl, by decide +kernel, rfl, by decide +kernel, by decide +kernel⟩
section
variable {P : Program} {w : World} {K : PySem.W.Frag} {mg : Str → Option Value} {base : Heap}
-- names: ["_law_feed_here", "_law_forms", "_law_shades", "_law_most_now", "_law_found", "_law_k", "_law_form", "_law_shade"] cells set()
theorem ok_lrows {f fD fM : Addr} {fd fdD fdM : FuncData} {k : Nat} (F : Fun K "_law_rows" "_law_rows" (topS 9) f fd)
    (D : Cal P w K mg base 1 "_law_draw" fD fdD ["_law_feed_here", "_law_many_here"] spDraw) (Mn : Cal P w K mg base 2 "_law_many" fM fdM ["_law_feed_here"] spMany)
    (hR : mg "range" = none) (hT : mg "tuple" = none) (hl : mg "len" = none) :
    FnOk P w K mg base CX0 (k + 3) f fd ["_law_feed_here", "_law_forms", "_law_shades", "_law_most_now"] (spLRows K) := by
  refine F.ok scLRows (fun vs H Q E h => ?_) (fun cdv A outer s H vs Q E hr h => ?_)
  · obtain ⟨a, c, pf, ps, fs, ss, mo, rfl, _⟩ := h
    rfl
  · obtain ⟨a, c, pf, ps, fs, ss, mo, rfl, fe, wf, ws, hmo, q⟩ := h
    have hp := wf.pos
    have hf := wf.few
    have hp' := ws.pos
    have hf' := ws.few
    have lf : ((fs.map V.str).length : Int) = (fs.length : Int) := by rw [List.length_map]
    have ls : ((ss.map V.str).length : Int) = (ss.length : Int) := by rw [List.length_map]
    refine ⟨_, (pss_cons (ps_set (i := 4) scLRows.nd rfl (.inl rfl) (pe_lst pa_nil))
  (pss_cons (ps_for PassesOwn.never rfl (pi_range1 (by rfl) hR (pa_cons (pe_call D.ok (hr.mono (Nat.le_add_left 1 (k + 1))) (by rfl) D.g D.kp D.b .nil pass0 (pa_cons (pv 0) (pa_cons (pe_op op_add (pv 3) pe_int) pa_nil))) pa_nil)) (pg_name (i := 5) scLRows.nd rfl (.inl rfl))
  (pss_cons (ps_set (i := 6) scLRows.nd rfl (.inl rfl) (pe_ix (kx_list K) (pv 1) (pe_call D.ok (hr.mono (Nat.le_add_left 1 (k + 1))) (by rfl) D.g D.kp D.b .nil pass0 (pa_cons (pv 0) (pa_cons (pe_callB (k_len K) (by rfl) hl PySem.boot_len (pa_cons (pv 1) pa_nil)) pa_nil))) (fun _ _ => rfl)))
  (pss_cons (ps_set (i := 7) scLRows.nd rfl (.inl rfl) (pe_ix (kx_list K) (pv 2) (pe_call D.ok (hr.mono (Nat.le_add_left 1 (k + 1))) (by rfl) D.g D.kp D.b .nil pass0 (pa_cons (pv 0) (pa_cons (pe_callB (k_len K) (by rfl) hl PySem.boot_len (pa_cons (pv 2) pa_nil)) pa_nil))) (fun _ _ => rfl)))
  (pss_one (ps_expr (pe_bm PySem.F.plainAttrs_list PySem.F.slot_list_append PySem.F.type_list_append mt_append (pv 4) (pa_cons (pe_tup (pa_cons (pv 6) (pa_cons (pv 7) (pa_cons (pe_call Mn.ok (hr.mono (Nat.le_add_left 2 k)) (by rfl) Mn.g Mn.kp Mn.b .nil pass0 (pa_cons (pv 0) pa_nil)) pa_nil)))) pa_nil)))))))
  (pss_one (ps_ret (pe_callTy (k_tup K) (by rfl) hT (by decide +kernel) (pa_cons (pv 4) pa_nil)))))), ?_⟩
    refine ⟨Nat.zero_le _, fun o no => ?_⟩
    have noc := fe.ne no
    have xo : Ext a H (upd H o (.lst [])) := (Ext.refl a H).new no
    refine ⟨.ref a, rfl, .int mo, rfl, mo, 1, rfl, rfl, a, c, _, rfl, fe.new no, by omega, by omega, fun n H1 n0 n4 e1 f1 => ⟨n, rfl, by omega, by omega, ?_⟩⟩
    have x1 : Ext a H H1 := xo.trans e1
    have o1 : H1 o = some (.lst []) := e1 o _ upd_same noc.1
    refine for_range (lo := 0) (n := n.toNat) (fun k σ H2 => ∃ (L : List PRow) (us : List V) (y5 y6 y7 : Option V),
      σ = [some (.ref a), some (.ref pf), some (.ref ps), some (.int mo), some (.ref o), y5, y6, y7] ∧ L.length = k ∧ (∀ r ∈ L, PRowOk 1000000000 r) ∧ (∀ r ∈ L, r.1 ∈ fs ∧ r.2.1 ∈ ss) ∧
      H2 o = some (.lst us) ∧ DpAll K H2 us (L.map prowD) ∧ Ext a H H2 ∧ IsFeed H2 a c) ⟨[], [], none, none, none, rfl, rfl, fun _ h => (nomatch h), fun _ h => (nomatch h), o1, .nil, x1, f1⟩ ?_ ?_
    · rintro k σ H2 hk ⟨L, us, y5, y6, y7, rfl, Ll, Lok, Lin, eo, du, x2, f2⟩
      have wf2 := wf.ext fe x2
      have ws2 := ws.ext fe x2
      refine ⟨.ref pf, rfl, .ref a, rfl, .ref pf, rfl, pf, _, rfl, .inl (.inl (.inl wf2.at_)), a, c, _, rfl, f2, by rw [lf]; omega, by rw [lf]; omega, fun r H3 r0 r1 e3 f3 => ?_⟩
      rw [lf] at r1
      have hr1 : r.toNat < fs.length := by omega
      have wf3 := wf2.ext f2 e3
      have ws3 := ws2.ext f2 e3
      refine ⟨pf, _, r, .str fs[r.toNat], rfl, rfl, .inl (.inl wf3.at_), at_of (j := r.toNat) (by omega) (strs_at hr1), ?_⟩
      refine ⟨.ref ps, rfl, .ref a, rfl, .ref ps, rfl, ps, _, rfl, .inl (.inl (.inl ws3.at_)), a, c, _, rfl, f3, by rw [ls]; omega, by rw [ls]; omega, fun r' H4 r0' r1' e4 f4 => ?_⟩
      rw [ls] at r1'
      have hr2 : r'.toNat < ss.length := by omega
      have ws4 := ws3.ext f3 e4
      refine ⟨ps, _, r', .str ss[r'.toNat], rfl, rfl, .inl (.inl ws4.at_), at_of (j := r'.toNat) (by omega) (strs_at hr2), ?_⟩
      have x4 : Ext a H2 H4 := e3.trans e4
      have eo4 := x4 o _ eo noc.1
      refine ⟨.ref o, rfl, .inl ⟨rfl, _, .inl (.inl eo4)⟩, .str fs[r.toNat], rfl, .str ss[r'.toNat], rfl, .ref a, rfl, a, c, rfl, f4, fun z H5 z0 z1 e5 f5 => ⟨by show 3 ≤ sizeLine; decide, fun u nu => ?_⟩⟩
      have x5 : Ext a H2 (upd H5 u (.tup [.str fs[r.toNat], .str ss[r'.toNat], .int z])) := (x4.trans e5).new nu
      have f6 := f5.new (o := .tup [.str fs[r.toNat], .str ss[r'.toNat], .int z]) nu
      have eu : (upd H5 u (.tup [.str fs[r.toNat], .str ss[r'.toNat], .int z])) u = some (.tup [.str fs[r.toNat], .str ss[r'.toNat], .int z]) := upd_same
      generalize upd H5 u (.tup [.str fs[r.toNat], .str ss[r'.toNat], .int z]) = H6 at x5 f6 eu
      have eo6 := x5 o _ eo noc.1
      have tk : TKeep H2 (upd H6 o (.lst (us ++ [.ref u]))) := (TKeep.feed f2 x5).trans (TKeep.lst eo6)
      have sz : us.length < sizeLine := by
        rw [dp_lenM du]
        exact small1000 (by omega)
      refine ⟨o, us, .ref u, rfl, rfl, eo6, sz, L ++ [(fs[r.toNat], ss[r'.toNat], z)], us ++ [.ref u], _, _, _, rfl, by rw [List.length_append, Ll]; rfl, fun y hy => ?_, fun y hy => ?_, upd_same, ?_, (x2.trans x5).own no, f6.own noc⟩
      · rcases List.mem_append.mp hy with h | h
        · exact Lok y h
        · rw [List.mem_singleton.mp h]; exact ⟨wf.each _ (List.getElem_mem hr1), ws.each _ (List.getElem_mem hr2), z0, z1⟩
      · rcases List.mem_append.mp hy with h | h
        · exact Lin y h
        · rw [List.mem_singleton.mp h]; exact ⟨List.getElem_mem hr1, List.getElem_mem hr2⟩
      · exact dp_snoc flat_prow du tk (Dp.prow (r := (fs[r.toNat], ss[r'.toNat], z)) (SqT.of (by rw [upd_ne (ne_of eu eo6 (by intro z; cases z))]; exact eu)))
    · rintro σ H2 ⟨L, us, y5, y6, y7, rfl, Ll, Lok, Lin, eo, du, x2, f2⟩
      refine ⟨.ref o, rfl, o, us, rfl, .inl ⟨.inl (.inl eo), fun t nt => ?_⟩⟩
      exact q (.ref t) _ L ⟨by omega, Lok⟩ Lin (x2.new nt) (f2.new nt) (.tup (SqT.of upd_same) (dp_move flat_prow du (TKeep.new nt)))
end
end K02
namespace K02
open PySem PySem.Spec PyProof.Rows L2 PK
abbrev NSummed : List Str := ["_law_lot", "_law_found", "_law_rest", "_law_row", "_law_part", "_law_one"]
theorem scSummed : FnScope NSummed ["_law_lot"] (defScope (topS 10)) := ⟨rfl, rfl, rfl, by decide +kernel, rfl, by decide +kernel, by decide +kernel⟩
section
variable {P : Program} {w : World} {K : PySem.W.Frag} {mg : Str → Option Value} {base : Heap}
-- names: ["_law_lot", "_law_found", "_law_rest", "_law_row", "_law_part", "_law_one"] cells {'_law_part'}
theorem ok_summed {f : Addr} {fd : FuncData} {k : Nat} (F : Fun K "_law_summed" "_law_summed" (topS 10) f fd) (hT : mg "tuple" = none) (hM : mg "min" = none) (hSu : mg "sum" = none) :
    FnOk P w K mg base CX0 (k + 1) f fd ["_law_lot"] (spSummed K) := by
  refine F.ok scSummed (fun vs H Q E h => ?_) (fun cdv A outer s H vs Q E hr h => ?_)
  · obtain ⟨v, L, n, b, rfl, _⟩ := h
    rfl
  · obtain ⟨v, L, n, bb, rfl, dv, okL, hn, q⟩ := h
    obtain ⟨b, us, rfl, hb, du⟩ := Dp.tupE dv
    have lus : us.length = L.length := dp_lenM du
    have lL := okL.len
    refine ⟨_, (pss_cons (ps_par (i := 1) (j := 2) (by rfl) scSummed.nd rfl rfl (by decide) rfl rfl (pa_cons (pe_lst pa_nil) (pa_cons (pe_lc (own := [("_law_row", 3)]) rfl scSummed.nd (pk_tup K (pv 0)) (blkOk_by (N := NSummed) (sc := defScope (topS 10)) (own := [("_law_row", 3)]) (by decide +kernel)) (fun _ _ _ _ _ => (pg_name (i := 3) scSummed.nd rfl (.inl rfl))) (fun _ _ _ _ _ => pts_nil) (fun _ _ _ _ _ => (pe_slice (ks_tup K) (pv 3) po_none (po_some pe_int)))) pa_nil)) (by rfl))
  (pss_cons (ps_while PassesOwn.never (pt_cmpR (ko_neNil K hr) (pv 2) (pe_lst pa_nil) (nomark _))
  (pss_cons (ps_set (i := 4) scSummed.nd rfl (.inr rfl) (pe_callB (call_minDt rfl hr) (by rfl) hM (by decide +kernel) (pa_cons (pv 2) pa_nil)))
  (pss_cons (ps_setLc (i := 2) (own := [("_law_one", 5)]) rfl scSummed.nd rfl rfl (sw_true rfl rfl rfl (by decide +kernel)) (pk_list K (pv 2)) (blkOk_by (N := NSummed) (sc := defScope (topS 10)) (own := [("_law_one", 5)]) (by decide +kernel)) (fun _ _ _ _ _ => (pg_name (i := 5) scSummed.nd rfl (.inl rfl))) (fun _ _ _ _ _ => pts_one (pt_cmpR (ko_neD K hr) (pv 5) (pv 4) (nomark _))) (fun _ _ _ _ _ => (pv 5)))
  (pss_one (ps_expr (pe_bm PySem.F.plainAttrs_list PySem.F.slot_list_append PySem.F.type_list_append mt_append (pv 1) (pa_cons (pe_op (ko_catA K) (pv 4) (pe_tup (pa_cons (pe_callB (k_sum K rfl) (by rfl) hSu (by decide +kernel) (pa_cons (pe_lc (own := [("_law_row", 3)]) rfl scSummed.nd (pk_tup K (pv 0)) (blkOk_by (N := NSummed) (sc := defScope (topS 10)) (own := [("_law_row", 3)]) (by decide +kernel)) (fun _ _ _ _ _ => (pg_name (i := 3) scSummed.nd rfl (.inl rfl))) (fun _ _ _ _ _ => pts_one (pt_cmpR (ko_eqD K hr) (pe_slice (ks_tup K) (pv 3) po_none (po_some pe_int)) (pv 4) (nomark _))) (fun _ _ _ _ _ => (pe_ix (kx_tup K) (pv 3) pe_int (fun _ _ => rfl)))) pa_nil)) pa_nil))) pa_nil)))))))
  (pss_one (ps_ret (pe_callTy (k_tup K) (by rfl) hT (by decide +kernel) (pa_cons (pv 1) pa_nil)))))), ?_⟩
    -- found, rest = [], [row[:2] for row in lot]
    refine ⟨Nat.zero_le _, fun o no => ?_⟩
    have s0 : Same H (upd H o (.lst [])) := same_new (Same.refl H) no
    have eo0 : (upd H o (.lst [])) o = some (.lst []) := upd_same
    generalize upd H o (.lst []) = H0 at s0 eo0
    refine ⟨.ref b, rfl, b, rfl, ⟨us, (TKeep.of s0).sq hb⟩, fun d nd => ?_⟩
    refine lc_tup (K := K) (a := b) (xs := us) (fun i H2 => ∃ zs : List V, H2 d = some (.lst zs) ∧ DpAll K H2 zs (((L.take i).map PK.pk).map pkD) ∧ Same H0 H2) ⟨[], upd_same, .nil, same_new (Same.refl H0) nd⟩ ?_ ?_ ?_
    · rintro i H2 _ ⟨zs, _, _, s2⟩
      exact (TKeep.of (s0.trans s2)).sq hb
    · rintro i v H2 hv ⟨zs, ed, dz, s2⟩
      obtain ⟨e, he, de⟩ := DpAll.getV du hv
      rw [List.getElem?_map] at he
      obtain ⟨r, hxi, rfl⟩ := Option.map_eq_some_iff.mp he
      obtain ⟨b1, rfl, hb1⟩ := Dp.prowE (Dp.same (s0.trans s2) de)
      have hi := (List.getElem?_eq_some_iff.mp hxi).1
      refine ⟨rfl, .ref b1, rfl, 2, rfl, b1, _, rfl, hb1, fun hw => ?_, fun hw p np => ?_⟩
      · exact absurd hw.2 (show ¬ (2 : Nat) = 3 by decide)
      · have s3 : Same H2 (upd H2 p (.tup [.str r.1, .str r.2.1])) := same_new (Same.refl H2) np
        have ep : (upd H2 p (.tup [.str r.1, .str r.2.1])) p = some (.tup [.str r.1, .str r.2.1]) := upd_same
        have ec : (cutV [V.str r.1, .str r.2.1, .int r.2.2] none (some 2)) = [.str r.1, .str r.2.1] := rfl
        rw [ec]
        generalize upd H2 p (.tup [.str r.1, .str r.2.1]) = H3 at s3 ep
        have ed3 := s3 _ _ ed
        have tk := TKeep.lst (o := .lst (zs ++ [.ref p])) ed3
        refine ⟨zs, ed3, ?_, zs ++ [.ref p], upd_same, ?_, same_own (s2.trans s3) nd⟩
        · rw [dp_lenM dz, List.length_map, List.length_take]
          exact small1000 (by omega)
        · rw [take_snoc hxi, List.map_append]
          exact dp_snoc (x := PK.pk r) flat_pk dz ((TKeep.of s3).trans tk) (Dp.pk (k := PK.pk r) (tk.sq (SqT.of ep)))
    · rintro H2 ⟨zs, ed, dz, s2⟩
      rw [lus, List.take_length] at dz
      refine ⟨_, _, rfl, ?_⟩
      -- the while
      refine ⟨fun m σ H3 => ∃ (M : List PRow) (ks : List PKey) (ms rs : List V) (d3 : Addr) (y3 y4 y5 : Option V), σ = [some (.ref b), some (.ref o), some (.ref d3), y3, y4, y5] ∧ rs.length = m ∧ m ≤ L.length ∧ M.length + m ≤ L.length ∧ (∀ q ∈ ks, q ∈ L.map PK.pk) ∧
        Same H H3 ∧ H3 o = some (.lst ms) ∧ DpAll K H3 ms (M.map prowD) ∧ H3 d3 = some (.lst rs) ∧ DpAll K H3 rs (ks.map pkD) ∧ Least L M ks, ⟨zs.length, [], L.map PK.pk, [], zs, d, none, none, none, rfl, rfl, ?_, ?_, fun q hq => hq, s0.trans s2, s2 _ _ eo0, .nil, ed, dz, Least.start L⟩, ?_⟩
      · rw [dp_lenM dz, List.length_map]; exact Nat.le_refl _
      · rw [dp_lenM dz, List.length_map]; simp
      rintro m σ H3 ⟨M, ks, ms, rs, d3, y3, y4, y5, rfl, lrs, hm, hMm, kin, s3, eo, dms, ed3, drs, lst⟩
      refine ⟨.ref d3, rfl, Nat.zero_le _, fun z nz => ⟨d3, z, rs, rfl, rfl, .inl (.inl (by rw [upd_ne (ne_of_none ed3 nz)]; exact ed3)), .inl (.inl upd_same), _, rfl, ?_⟩⟩
      have s4 : Same H3 (upd H3 z (.lst [])) := same_new (Same.refl H3) nz
      generalize upd H3 z (.lst []) = H4 at s4
      have ed4 := s4 _ _ ed3
      have eo4 := s4 _ _ eo
      have drs4 := DpAll.same s4 drs
      have dms4 := DpAll.same s4 dms
      have s04 : Same H H4 := s3.trans s4
      refine ite2 (fun hne => ?_) (fun hne => ?_)
      · -- the least, all others
        match rs, ks, drs, hne, lrs, drs4 with
        | [], _, _, hne, _, _ => cases hne
        | x0 :: rs', k0 :: ks', _, _, lrs, drs4 =>
        refine ⟨_, fun σ' H' h => h, ?_⟩
        refine ⟨.ref d3, rfl, d3, _, pkD k0, ks'.map pkD, rfl, .inl (.inl ed4), drs4, pk_alikeAll (k0 :: ks'), fun e he => ?_, fun i x hx dx => ?_⟩
        · exact (pk_cmpb (k0 :: ks')).dp e he
        obtain ⟨mk, hmk, emk, hlt⟩ := least_key (k := k0) (ks := ks')
        rw [emk] at dx
        have wk : ∀ q ∈ k0 :: ks', Word q.1 ∧ Word q.2 := fun q hq => by
          obtain ⟨r, hr, rfl⟩ := List.mem_map.mp (kin q hq)
          exact ⟨(okL.each r hr).f, (okL.each r hr).s⟩
        have shm : SeqAt.shaped (pkD mk) = true := pk_shaped (wk mk hmk).1 (wk mk hmk).2
        obtain ⟨bm, rfl, hbm⟩ := Dp.pkE dx
        -- rest = [one for one in rest if one != part]
        refine ⟨.ref d3, rfl, d3, rfl, ⟨_, .inl (.inl ed4)⟩, fun d5 nd5 => ?_⟩
        refine lc_list (K := K) (a := d3) (xs := x0 :: rs') (fun i H5 => ∃ zs : List V, H5 d5 = some (.lst zs) ∧ DpAll K H5 zs ((((k0 :: ks').take i).filter fun q => decide (q ≠ mk)).map pkD) ∧ Same H4 H5) ⟨[], upd_same, .nil, same_new (Same.refl H4) nd5⟩ ?_ ?_ ?_
        · rintro i H5 _ ⟨_, _, _, s5⟩
          exact .inl (.inl (s5 _ _ ed4))
        · rintro i v H5 hv ⟨zs5, ed5, dz5, s5⟩
          obtain ⟨e, he, de⟩ := DpAll.getV drs4 hv
          have he : ((k0 :: ks').map pkD)[i]? = some e := he
          rw [List.getElem?_map] at he
          obtain ⟨k1, hk1, rfl⟩ := Option.map_eq_some_iff.mp he
          have w1 := wk k1 (List.mem_of_getElem? hk1)
          have hi := (List.getElem?_eq_some_iff.mp hv).1
          have lz5 : zs5.length ≤ i := by
            rw [dp_lenM dz5]
            refine Nat.le_trans (List.length_filter_le _ _) ?_
            rw [List.length_take]
            exact Nat.min_le_left _ _
          refine ⟨rfl, v, rfl, .ref bm, rfl, pkD k1, pkD mk, Dp.same s5 de, Dp.same s5 (Dp.pk hbm), pk_shaped w1.1 w1.2, shm, _, rfl, ite2 (fun h1 => ?_) (fun h1 => ?_)⟩
          · have h1 : k1 ≠ mk := by
              rw [pk_eqv] at h1
              simpa using h1
            have tk := TKeep.lst (o := .lst (zs5 ++ [v])) ed5
            refine ⟨v, rfl, zs5, ed5, ?_, zs5 ++ [v], upd_same, ?_, same_own s5 nd5⟩
            · rw [List.length_cons] at hi lrs
              exact small1000 (by omega)
            · rw [take_snoc hk1, List.filter_append, List.filter_cons_of_pos (by simpa using h1)]
              exact dp_snoc (x := k1) flat_pk dz5 tk (Dp.keepT tk (flat_pk k1) (Dp.same s5 de))
          · have h1 : k1 = mk := by
              rw [pk_eqv] at h1
              simpa using h1
            refine ⟨zs5, ed5, ?_, s5⟩
            rw [take_snoc hk1, List.filter_append, List.filter_cons_of_neg (by simpa using h1), List.filter_nil, List.append_nil]
            exact dz5
        · rintro H5 ⟨zs5, ed5, dz5, s5⟩
          have lk : (x0 :: rs').length = (k0 :: ks').length := dp_lenM (f := pkD) (xs := k0 :: ks') drs4
          rw [lk, List.take_length] at dz5
          have eo5 := s5 _ _ eo4
          have hb5 := (TKeep.of (s04.trans s5)).sq hb
          -- found.append(part + (sum(..),))
          refine ⟨.ref o, rfl, .inl ⟨rfl, _, .inl (.inl eo5)⟩, .ref bm, rfl, .ref b, rfl, b, rfl, ⟨us, hb5⟩, fun d6 nd6 => ?_⟩
          refine lc_tup (K := K) (a := b) (xs := us) (fun i H6 => H6 d6 = some (.lst ((ofPart (L.take i) mk).map V.int)) ∧ Same H5 H6) ⟨upd_same, same_new (Same.refl H5) nd6⟩ ?_ ?_ ?_
          · rintro i H6 _ ⟨_, s6⟩
            exact (TKeep.of s6).sq hb5
          · rintro i v H6 hv ⟨ed6, s6⟩
            obtain ⟨e, he, de⟩ := DpAll.getV du hv
            rw [List.getElem?_map] at he
            obtain ⟨r, hxi, rfl⟩ := Option.map_eq_some_iff.mp he
            have okr := okL.each r (List.mem_of_getElem? hxi)
            have s06 : Same H H6 := (s04.trans s5).trans s6
            obtain ⟨b1, rfl, hb1⟩ := Dp.prowE (Dp.same s06 de)
            have hi := (List.getElem?_eq_some_iff.mp hxi).1
            refine ⟨rfl, .ref b1, rfl, 2, rfl, b1, _, rfl, hb1, fun hw => ?_, fun hw p np => ?_⟩
            · exact absurd hw.2 (show ¬ (2 : Nat) = 3 by decide)
            · have s7 : Same H6 (upd H6 p (.tup [.str r.1, .str r.2.1])) := same_new (Same.refl H6) np
              have ep : (upd H6 p (.tup [.str r.1, .str r.2.1])) p = some (.tup [.str r.1, .str r.2.1]) := upd_same
              have ec : (cutV [V.str r.1, .str r.2.1, .int r.2.2] none (some 2)) = [.str r.1, .str r.2.1] := rfl
              rw [ec]
              generalize upd H6 p (.tup [.str r.1, .str r.2.1]) = H7 at s7 ep
              have ed7 := s7 _ _ ed6
              refine ⟨.ref bm, rfl, pkD (PK.pk r), pkD mk, Dp.pk (k := PK.pk r) (SqT.of ep), Dp.same ((s5.trans s6).trans s7) (Dp.pk hbm), pk_shaped okr.f okr.s, shm, _, rfl, ite2 (fun h1 => ?_) (fun h1 => ?_)⟩
              · have h1 : PK.pk r = mk := by
                  rw [pk_eqv] at h1
                  simpa using h1
                refine ⟨.ref b1, rfl, b1, _, 2, .int r.2.2, rfl, rfl, (TKeep.of s7).sq hb1, at_of (j := 2) rfl rfl, _, ed7, ?_, ?_, same_own (s6.trans s7) nd6⟩
                · rw [List.length_map]
                  unfold ofPart
                  rw [List.length_map]
                  have h2 := List.length_filter_le (fun r => decide (PK.pk r = mk)) (L.take i)
                  rw [List.length_take] at h2
                  exact small1000 (by omega)
                · rw [upd_same, ofPart_snoc hxi, if_pos h1, List.map_append]
                  rfl
              · have h1 : ¬ PK.pk r = mk := by
                  rw [pk_eqv] at h1
                  simpa using h1
                refine ⟨?_, s6.trans s7⟩
                rw [ed7, ofPart_snoc hxi, if_neg h1, List.append_nil]
          · rintro H6 ⟨ed6, s6⟩
            rw [lus, List.take_length] at ed6
            refine ⟨d6, _, rfl, .inl (.inl ed6), ?_⟩
            rw [ofPart_sum]
            refine ⟨by show 1 ≤ sizeLine; decide, fun t nt => ?_⟩
            have s7 : Same H6 (upd H6 t (.tup [.int (cnt L mk)])) := same_new (Same.refl H6) nt
            have et : (upd H6 t (.tup [.int (cnt L mk)])) t = some (.tup [.int (cnt L mk)]) := upd_same
            generalize upd H6 t (.tup [.int (cnt L mk)]) = H7 at s7 et
            have s47 : Same H4 H7 := (s5.trans s6).trans s7
            refine ⟨bm, t, _, _, rfl, rfl, (TKeep.of s47).sq hbm, SqT.of et, by show 3 ≤ sizeLine; decide, fun h0 => (nomatch h0), fun _ h0 => (nomatch h0), fun _ _ u nu => ?_⟩
            have s8 : Same H7 (upd H7 u (.tup [.str mk.1, .str mk.2, .int (cnt L mk)])) := same_new (Same.refl H7) nu
            have eu : (upd H7 u (.tup [.str mk.1, .str mk.2, .int (cnt L mk)])) u = some (.tup [.str mk.1, .str mk.2, .int (cnt L mk)]) := upd_same
            have ec : [V.str mk.1, .str mk.2] ++ [.int (cnt L mk)] = [.str mk.1, .str mk.2, .int (cnt L mk)] := rfl
            rw [ec]
            generalize upd H7 u (.tup [.str mk.1, .str mk.2, .int (cnt L mk)]) = H8 at s8 eu
            have s48 : Same H4 H8 := s47.trans s8
            have s58 : Same H5 H8 := (s6.trans s7).trans s8
            have eo8 := s48 _ _ eo4
            have tk := TKeep.lst (o := .lst (ms ++ [.ref u])) eo8
            have lms : ms.length = M.length := dp_lenM dms
            have lf : zs5.length < m := by
              rw [dp_lenM dz5, ← lrs, lk]
              exact List.length_filter_lt_length_iff_exists.mpr ⟨mk, hmk, by simp⟩
            have ned : d5 ≠ o := ne_of_none eo4 nd5 |>.symm
            refine ⟨o, ms, .ref u, rfl, rfl, eo8, ?_, zs5.length, lf, M ++ [(mk.1, mk.2, cnt L mk)], (k0 :: ks').filter fun q => decide (q ≠ mk), ms ++ [.ref u], zs5, d5, _, _, _, rfl, rfl, by omega, ?_, fun q hq => kin q (List.mem_filter.mp hq).1, same_own (s04.trans s48) no, upd_same, ?_, ?_, ?_, lst.next hmk fun q hq hne => hlt q hq hne⟩
            · rw [lms]
              exact small1000 (by omega)
            · rw [List.length_append, List.length_singleton]; omega
            · exact dp_snoc flat_prow dms4 ((TKeep.of s48).trans tk) (Dp.prow (r := (mk.1, mk.2, cnt L mk)) (tk.sq (SqT.of eu)))
            · rw [upd_ne ned]
              exact s58 _ _ ed5
            · exact dp_move flat_pk dz5 ((TKeep.of s58).trans tk)
      · -- none is left
        match rs, ks, hne, drs with
        | _ :: _, _, hne, _ => exact absurd rfl hne
        | [], [], _, _ =>
        have eM := lst.done
        subst eM
        refine ⟨.ref o, rfl, o, ms, rfl, .inl ⟨.inl (.inl eo4), fun t nt => ?_⟩⟩
        exact q (.ref t) _ (same_new s04 nt) (.tup (SqT.of upd_same) (dp_move flat_prow dms4 (TKeep.new nt)))
end
end K02
namespace K02
open PySem PySem.Spec PyProof.Rows L2 PK
abbrev NParted : List Str := ["_law_lot", "_law_found", "_law_form", "_law_shade", "_law_many_here"]
theorem scParted : FnScope NParted ["_law_lot"] (defScope (topS 11)) := ⟨rfl, rfl, rfl, by decide +kernel, rfl, by decide +kernel, by decide +kernel⟩
section
variable {P : Program} {w : World} {K : PySem.W.Frag} {mg : Str → Option Value} {base : Heap}
-- names: ["_law_lot", "_law_found", "_law_form", "_law_shade", "_law_many_here"] cells set()
theorem ok_parted {f : Addr} {fd : FuncData} {k : Nat} (F : Fun K "_law_parted" "_law_parted" (topS 11) f fd) (hT : mg "tuple" = none) :
    FnOk P w K mg base CX0 (k + 1) f fd ["_law_lot"] (spParted K) := by
  refine F.ok scParted (fun vs H Q E h => ?_) (fun cdv A outer s H vs Q E hr h => ?_)
  · obtain ⟨v, L, n, b, rfl, _⟩ := h
    rfl
  · obtain ⟨v, L, n, bb, rfl, dv, okL, hn, hb', q⟩ := h
    obtain ⟨b, us, rfl, hb, du⟩ := Dp.tupE dv
    have lus : us.length = L.length := dp_lenM du
    have lL := okL.len
    refine ⟨_, (pss_cons (ps_set (i := 1) scParted.nd rfl (.inl rfl) (pe_lst pa_nil))
  (pss_cons (ps_for PassesOwn.never rfl (pk_tup K (pv 0)) (pgk_tup K (n := 3) rfl (pgs_cons (pg_name (i := 2) scParted.nd rfl (.inl rfl)) (pgs_cons (pg_name (i := 3) scParted.nd rfl (.inl rfl)) (pgs_cons (pg_name (i := 4) scParted.nd rfl (.inl rfl)) pgs_nil))))
  (Evl.pss_cut (ps_if (pt_cmpR op_gt (pv 4) pe_int (nomark _))
  (pss_one (ps_expr (pe_bm PySem.F.plainAttrs_list PySem.F.slot_list_append PySem.F.type_list_append mt_append (pv 1) (pa_cons (pe_tup (pa_cons (pv 2) (pa_cons (pv 3) (pa_cons (pe_op op_fdiv (pv 4) pe_int) pa_nil)))) pa_nil)))) pss_nil)
  (pss_one (ps_expr (pe_bm PySem.F.plainAttrs_list PySem.F.slot_list_append PySem.F.type_list_append mt_append (pv 1) (pa_cons (pe_tup (pa_cons (pv 2) (pa_cons (pv 3) (pa_cons (pe_op op_sub (pv 4) (pe_op op_fdiv (pv 4) pe_int)) pa_nil)))) pa_nil))))))
  (pss_one (ps_ret (pe_callTy (k_tup K) (by rfl) hT (by decide +kernel) (pa_cons (pv 1) pa_nil)))))), ?_⟩
    refine ⟨Nat.zero_le _, fun o no => ?_⟩
    have s0 : Same H (upd H o (.lst [])) := same_new (Same.refl H) no
    refine ⟨.ref b, rfl, b, rfl, ⟨us, (TKeep.of s0).sq hb⟩, for_tup (K := K) (a := b) (xs := us) (fun i σ H2 => ∃ (zs : List V) (y2 y3 y4 : Option V), σ = [some (.ref b), some (.ref o), y2, y3, y4] ∧ Same H H2 ∧
      H2 o = some (.lst zs) ∧ DpAll K H2 zs ((parted (L.take i)).map prowD)) ⟨[], none, none, none, rfl, s0, upd_same, .nil⟩ ?_ ?_ ?_⟩
    · rintro i σ H2 _ ⟨zs, y2, y3, y4, rfl, s2, _⟩
      exact (TKeep.of s2).sq hb
    · rintro i rv σ H2 hv ⟨zs, y2, y3, y4, rfl, s2, eo, dz⟩
      obtain ⟨e1, he, de⟩ := DpAll.getV du hv
      rw [List.getElem?_map] at he
      obtain ⟨r, hLi, rfl⟩ := Option.map_eq_some_iff.mp he
      obtain ⟨b1, rfl, hb1⟩ := Dp.prowE (Dp.same s2 de)
      have okr := okL.each r (List.mem_of_getElem? hLi)
      have lo := okr.lo
      have hi := okr.hi
      have lz : ∀ j ≤ 2, zs.length + j < sizeLine := fun j hj => by
        have okt : RowsOk 400 bb (L.take i) := ⟨by rw [List.length_take]; omega, fun q hq => okL.each q (List.mem_of_mem_take hq)⟩
        have h1 := (parted_both okt).1.len
        rw [dp_lenM dz]
        rw [List.length_take] at h1
        exact small1000 (by omega)
      refine ⟨b1, _, rfl, hb1, rfl, _, _, rfl, _, _, rfl, _, _, rfl, rfl, ?_⟩
      refine ⟨fun σ H3 => σ = [some (.ref b), some (.ref o), some (.str r.1), some (.str r.2.1), some (.int r.2.2)] ∧ ∃ zs3 : List V, H3 o = some (.lst zs3) ∧ zs3.length ≤ zs.length + 1 ∧ Same H H3 ∧ DpAll K H3 zs3 ((parted (L.take i) ++ if 1 < r.2.2 then [(r.1, r.2.1, r.2.2 / 2)] else []).map prowD), ?_, ?_⟩
      · refine ⟨.int r.2.2, rfl, _, _, rfl, rfl, _, rfl, ite2 (fun h1 => ?_) (fun h1 => ?_)⟩
        · have h1 : 1 < r.2.2 := of_decide_eq_true h1
          refine ⟨.ref o, rfl, .inl ⟨rfl, _, .inl (.inl eo)⟩, .str r.1, rfl, .str r.2.1, rfl, .int r.2.2, rfl, _, _, rfl, rfl, ⟨by decide, by decide⟩, by show 3 ≤ sizeLine; decide, fun u nu => ?_⟩
          have s3 : Same H2 (upd H2 u (.tup [.str r.1, .str r.2.1, .int (r.2.2 / 2)])) := same_new (Same.refl H2) nu
          have eu : (upd H2 u (.tup [.str r.1, .str r.2.1, .int (r.2.2 / 2)])) u = some (.tup [.str r.1, .str r.2.1, .int (r.2.2 / 2)]) := upd_same
          generalize upd H2 u (.tup [.str r.1, .str r.2.1, .int (r.2.2 / 2)]) = H3 at s3 eu
          have eo3 := s3 _ _ eo
          have tk := TKeep.lst (o := .lst (zs ++ [.ref u])) eo3
          refine ⟨o, zs, .ref u, rfl, rfl, eo3, lz 0 (by decide), rfl, zs ++ [.ref u], upd_same, by rw [List.length_append]; exact Nat.le_refl _, same_own (s2.trans s3) no, ?_⟩
          rw [if_pos h1]
          exact dp_snoc flat_prow dz ((TKeep.of s3).trans tk) (Dp.prow (r := (r.1, r.2.1, r.2.2 / 2)) (tk.sq (SqT.of eu)))
        · have h1 : ¬ 1 < r.2.2 := fun z => h1 (decide_eq_true z)
          refine ⟨rfl, zs, eo, Nat.le_succ _, s2, ?_⟩
          rw [if_neg h1, List.append_nil]
          exact dz
      · rintro σ H3 ⟨rfl, zs3, eo3, lz3, s3, dz3⟩
        refine ⟨.ref o, rfl, .inl ⟨rfl, _, .inl (.inl eo3)⟩, .str r.1, rfl, .str r.2.1, rfl, .int r.2.2, rfl, .int r.2.2, rfl, _, _, rfl, rfl, ⟨by decide, by decide⟩, _, _, rfl, rfl, by show 3 ≤ sizeLine; decide, fun u nu => ?_⟩
        have s4 : Same H3 (upd H3 u (.tup [.str r.1, .str r.2.1, .int (r.2.2 - r.2.2 / 2)])) := same_new (Same.refl H3) nu
        have eu : (upd H3 u (.tup [.str r.1, .str r.2.1, .int (r.2.2 - r.2.2 / 2)])) u = some (.tup [.str r.1, .str r.2.1, .int (r.2.2 - r.2.2 / 2)]) := upd_same
        generalize upd H3 u (.tup [.str r.1, .str r.2.1, .int (r.2.2 - r.2.2 / 2)]) = H4 at s4 eu
        have eo4 := s4 _ _ eo3
        have tk := TKeep.lst (o := .lst (zs3 ++ [.ref u])) eo4
        refine ⟨o, zs3, .ref u, rfl, rfl, eo4, Nat.lt_of_le_of_lt lz3 (lz 1 (by decide)), zs3 ++ [.ref u], _, _, _, rfl, same_own (s3.trans s4) no, upd_same, ?_⟩
        rw [parted_snoc hLi, show parted1 r = (if 1 < r.2.2 then [(r.1, r.2.1, r.2.2 / 2)] else []) ++ [(r.1, r.2.1, r.2.2 - r.2.2 / 2)] from rfl, ← List.append_assoc]
        exact dp_snoc flat_prow dz3 ((TKeep.of s4).trans tk) (Dp.prow (r := (r.1, r.2.1, r.2.2 - r.2.2 / 2)) (tk.sq (SqT.of eu)))
    · rintro σ H2 ⟨zs, y2, y3, y4, rfl, s2, eo, dz⟩
      rw [lus, List.take_length] at dz
      refine ⟨.ref o, rfl, o, zs, rfl, .inl ⟨.inl (.inl eo), fun t nt => ?_⟩⟩
      exact q (.ref t) _ (same_new s2 nt) (.tup (SqT.of upd_same) (dp_move flat_prow dz (TKeep.new nt)))
end
end K02
namespace K02
open PySem PySem.Spec PyProof.Rows L2 PK
abbrev NAdded : List Str := ["rows", "counts", "form", "shade", "many"]
theorem scAdded : FnScope NAdded ["rows"] (defScope (topS 2)) := ⟨rfl, rfl, rfl, by decide +kernel, rfl, by decide +kernel, by decide +kernel⟩
section
variable {P : Program} {w : World} {K : PySem.W.Frag} {mg : Str → Option Value} {base : Heap}
-- names: ["rows", "counts", "form", "shade", "many"] cells {'counts'}
theorem ok_added {f : Addr} {fd : FuncData} {k : Nat} (F : Fun K "added_rows" "added_rows" (topS 2) f fd) (hT : mg "tuple" = none) (hS : mg "sorted" = none) :
    FnOk P w K mg base CX0 (k + 1) f fd ["rows"] (spAdded K) := by
  refine F.ok scAdded (fun vs H Q E h => ?_) (fun cdv A outer s H vs Q E hr h => ?_)
  · obtain ⟨v, L, rfl, _⟩ := h
    rfl
  · obtain ⟨v, L, rfl, dv, hL, q⟩ := h
    obtain ⟨b, us, rfl, hb, du⟩ := Dp.tupE dv
    have lus : us.length = L.length := dp_lenM du
    refine ⟨_, (pss_cons (ps_set (i := 1) scAdded.nd rfl (.inr rfl) pe_dnewT)
  (pss_cons (ps_for PassesOwn.never rfl (pk_tup K (pv 0)) (pgk_tup K (n := 3) rfl (pgs_cons (pg_name (i := 2) scAdded.nd rfl (.inl rfl)) (pgs_cons (pg_name (i := 3) scAdded.nd rfl (.inl rfl)) (pgs_cons (pg_name (i := 4) scAdded.nd rfl (.inl rfl)) pgs_nil))))
  (pss_one (ps_dput (hu_of hr) (pv 1) (pe_tup (pa_cons (pv 2) (pa_cons (pv 3) pa_nil))) (pe_op op_add (pe_dget2 (hu_of hr) (pv 1) (pe_tup (pa_cons (pv 2) (pa_cons (pv 3) pa_nil))) pe_int ⟨rfl, rfl, rfl, rfl⟩) (pv 4)) rfl)))
  (pss_one (ps_ret (pe_callTy (k_tup K) (by rfl) hT (by decide +kernel) (pa_cons (pe_lc (own := [("form", 2), ("shade", 3)]) rfl scAdded.nd (pk_list K (pe_callB (call_srtT rfl hr) (by rfl) hS (by decide +kernel) (pa_cons (pv 1) pa_nil))) (blkOk_by (N := NAdded) (sc := defScope (topS 2)) (own := [("form", 2), ("shade", 3)]) (by decide +kernel)) (fun _ _ _ _ _ => (pgk_tup K (n := 2) rfl (pgs_cons (pg_name (i := 2) scAdded.nd rfl (.inl rfl)) (pgs_cons (pg_name (i := 3) scAdded.nd rfl (.inl rfl)) pgs_nil)))) (fun _ _ _ _ _ => pts_nil) (fun _ _ _ _ _ => (pe_tup (pa_cons (pv 2) (pa_cons (pv 3) (pa_cons (pe_dget (hu_of hr) (pv 1) (pe_tup (pa_cons (pv 2) (pa_cons (pv 3) pa_nil))) (fun _ _ => rfl)) pa_nil)))))) pa_nil)))))), ?_⟩
    -- counts = {}
    refine fun o no => ?_
    have s0 : Same H (upd H o (.dT [])) := same_new (Same.refl H) no
    refine ⟨.ref b, rfl, b, rfl, ⟨us, (TKeep.of s0).sq hb⟩, for_tup (K := K) (a := b) (xs := us) (fun i σ H2 => ∃ (ks : List PKey) (y2 y3 y4 : Option V), σ = [some (.ref b), some (.ref o), y2, y3, y4] ∧ Same H H2 ∧
      H2 o = some (.dT (ent ks (cnt (L.take i)))) ∧ ks.Nodup ∧ ks.length ≤ i ∧ ∀ k, k ∈ ks ↔ k ∈ (L.take i).map PK.pk) ?_ ?_ ?_ ?_⟩
    · exact ⟨[], none, none, none, rfl, s0, upd_same, List.nodup_nil, Nat.le_refl _, fun k => Iff.rfl⟩
    · rintro i σ H2 _ ⟨ks, y2, y3, y4, rfl, s2, _⟩
      exact (TKeep.of s2).sq hb
    · rintro i rv σ H2 hv ⟨ks, y2, y3, y4, rfl, s2, eo, nd, lk, mk⟩
      obtain ⟨e1, he, de⟩ := DpAll.getV du hv
      rw [List.getElem?_map] at he
      obtain ⟨r, hLi, rfl⟩ := Option.map_eq_some_iff.mp he
      obtain ⟨b1, rfl, hb1⟩ := Dp.prowE (Dp.same s2 de)
      have hi : i < L.length := (List.getElem?_eq_some_iff.mp hLi).1
      refine ⟨b1, _, rfl, hb1, rfl, _, _, rfl, _, _, rfl, _, _, rfl, rfl, ?_⟩
      refine ⟨.ref o, rfl, o, rfl, .inr ⟨_, .inl eo⟩, .str r.1, rfl, .str r.2.1, rfl, by show 2 ≤ sizeLine; decide, fun t nt => ?_⟩
      have eo1 : (upd H2 t (.tup [.str r.1, .str r.2.1])) o = some (.dT (ent ks (cnt (L.take i)))) := by rw [upd_ne (ne_of_none eo nt)]; exact eo
      have s3 : Same H (upd H2 t (.tup [.str r.1, .str r.2.1])) := same_new s2 nt
      have et : (upd H2 t (.tup [.str r.1, .str r.2.1])) t = some (.tup ((kk (PK.pk r)).map kV)) := upd_same
      generalize upd H2 t (.tup [.str r.1, .str r.2.1]) = H3 at eo1 s3 et
      refine ⟨_, DGet.t eo1 et, ?_⟩
      have hval : (valV (ent ks (cnt (L.take i))) (kk (PK.pk r))).getD (.int 0) = .int (cnt (L.take i) (PK.pk r)) := by
        rw [ent_val]
        by_cases z : PK.pk r ∈ ks
        · rw [if_pos z]
          rfl
        · rw [if_neg z, cnt_none (fun h => z ((mk _).mpr h))]
          rfl
      rw [hval]
      refine ⟨.int r.2.2, rfl, _, _, rfl, rfl, .ref o, rfl, .str r.1, rfl, .str r.2.1, rfl, by show 2 ≤ sizeLine; decide, fun t2 nt2 => ?_⟩
      have eo2 : (upd H3 t2 (.tup [.str r.1, .str r.2.1])) o = some (.dT (ent ks (cnt (L.take i)))) := by rw [upd_ne (ne_of_none eo1 nt2)]; exact eo1
      have s4 : Same H (upd H3 t2 (.tup [.str r.1, .str r.2.1])) := same_new s3 nt2
      have et2 : (upd H3 t2 (.tup [.str r.1, .str r.2.1])) t2 = some (.tup ((kk (PK.pk r)).map kV)) := upd_same
      generalize upd H3 t2 (.tup [.str r.1, .str r.2.1]) = H4 at eo2 s4 et2
      have lent : (ent ks (cnt (L.take i))).length < sizeLine := by
        unfold ent
        rw [List.length_map]
        exact small1000 (by omega)
      refine ⟨o, _, rfl, DPut.t eo2 et2 lent, ?_⟩
      refine ⟨if PK.pk r ∈ ks then ks else ks ++ [PK.pk r], _, _, _, rfl, same_own s4 no, ?_, ?_, ?_, fun k => ?_⟩
      · rw [upd_same, ent_put (c' := cnt (L.take (i + 1))) (by rw [cnt_snoc hLi, if_pos rfl]) (fun q hq => by rw [cnt_snoc hLi, if_neg (fun e => hq e.symm)]; omega)]
      · split
        · exact nd
        · rename_i z
          exact List.nodup_append.mpr ⟨nd, List.nodup_cons.mpr ⟨by simp, List.nodup_nil⟩, fun a ha b hb e => by
            rw [List.mem_singleton.mp hb] at e
            exact z (by rw [← e]; exact ha)⟩
      · split
        · omega
        · rw [List.length_append, List.length_singleton]; omega
      · rw [take_snoc hLi, List.map_append, List.mem_append, ← mk k]
        show _ ↔ k ∈ ks ∨ k ∈ [PK.pk r]
        rw [List.mem_singleton]
        split
        · rename_i z
          constructor
          · exact Or.inl
          · rintro (h | h)
            · exact h
            · rw [h]; exact z
        · rw [List.mem_append, List.mem_singleton]
    · rintro σ H2 ⟨ks, y2, y3, y4, rfl, s2, eo, nd, lk, mk⟩
      rw [lus, List.take_length] at eo mk
      refine ⟨.ref o, rfl, o, _, rfl, .inl eo, by rw [ent_keys]; exact pk_cmpb ks, fun sl Lp nsl ⟨bs, ik, eLp⟩ => ?_⟩
      have hdp : DpAll K H2 (bs.map V.ref) (ks.map pkD) := by
        have := keys_dp (K := K) ik
        rw [ent_keys] at this
        exact this
      rw [ent_keys] at eLp
      obtain ⟨z1, z2, z3⟩ := dp_zip hdp
      have hkeys : Lp.map (·.2) = (skeys L).map pkD := by
        have hr1 : Rises (Lp.map (·.2)) := by
          rw [eLp]
          exact srt_rises (by rw [z3]; exact pk_allAlike ks) (by rw [z3]; exact nodup_mapD nd)
        refine rises_ext hr1 (skeys_rises L) fun d => ?_
        rw [eLp, ((srt_perm false _ _).map _).mem_iff, z3, List.mem_map, List.mem_map]
        constructor
        · rintro ⟨k, hk, rfl⟩
          exact ⟨k, mem_skeys.mpr ((mk k).mp hk), rfl⟩
        · rintro ⟨k, hk, rfl⟩
          exact ⟨k, (mk k).mpr (mem_skeys.mp hk), rfl⟩
      have hdL : DpAll K H2 (Lp.map (·.1)) ((skeys L).map pkD) := by
        rw [← hkeys]
        exact dp_pairs fun p hp => z1 p (by rw [eLp] at hp; exact (srt_perm false _ _).mem_iff.mp hp)
      generalize Lp.map (·.1) = xs at hdL
      have s3 : Same H (upd H2 sl (.lst xs)) := same_new s2 nsl
      have eo3 : (upd H2 sl (.lst xs)) o = some (.dT (ent ks (cnt L))) := by rw [upd_ne (ne_of_none eo nsl)]; exact eo
      have esl : (upd H2 sl (.lst xs)) sl = some (.lst xs) := upd_same
      have hd3 := dp_move (f := pkD) flat_pk hdL (TKeep.new (o := .lst xs) nsl)
      generalize upd H2 sl (.lst xs) = H3 at s3 eo3 esl hd3
      have lks : (skeys L).length ≤ 900 := by
        have := sumR_len L
        unfold sumR at this
        rw [List.length_map] at this
        omega
      refine ⟨sl, rfl, ⟨xs, .inl (.inl esl)⟩, fun d ndd => ?_⟩
      refine lc_list (K := K) (a := sl) (xs := xs) (fun i H4 => ∃ zs : List V, H4 d = some (.lst zs) ∧ DpAll K H4 zs (((sumR L).take i).map prowD) ∧ Same H3 H4) ?_ ?_ ?_ ?_
      · exact ⟨[], upd_same, .nil, same_new (Same.refl H3) ndd⟩
      · rintro i H4 _ ⟨zs, _, _, s4⟩
        exact .inl (.inl (s4 _ _ esl))
      · rintro i v H4 hv ⟨zs, ed, dz, s4⟩
        obtain ⟨e1, he, de⟩ := DpAll.getV hd3 hv
        rw [List.getElem?_map] at he
        obtain ⟨k, hki, rfl⟩ := Option.map_eq_some_iff.mp he
        obtain ⟨b1, rfl, hb1⟩ := Dp.pkE (Dp.same s4 de)
        have hk : k ∈ ks := (mk k).mpr (mem_skeys.mp (List.mem_of_getElem? hki))
        have eo4 := s4 _ _ eo3
        refine ⟨b1, _, rfl, hb1, rfl, _, _, rfl, _, _, rfl, rfl, rfl, .str k.1, rfl, .str k.2, rfl, .ref o, rfl, .str k.1, rfl, .str k.2, rfl, by show 2 ≤ sizeLine; decide, fun t nt => ?_⟩
        have eo5 : (upd H4 t (.tup [.str k.1, .str k.2])) o = some (.dT (ent ks (cnt L))) := by rw [upd_ne (ne_of_none eo4 nt)]; exact eo4
        have ed5 : (upd H4 t (.tup [.str k.1, .str k.2])) d = some (.lst zs) := by rw [upd_ne (ne_of_none ed nt)]; exact ed
        have et : (upd H4 t (.tup [.str k.1, .str k.2])) t = some (.tup ((kk k).map kV)) := upd_same
        have s5 : Same H4 (upd H4 t (.tup [.str k.1, .str k.2])) := same_new (Same.refl H4) nt
        generalize upd H4 t (.tup [.str k.1, .str k.2]) = H5 at eo5 ed5 et s5
        have hg := DGet.t eo5 et
        rw [ent_val, if_pos hk] at hg
        refine ⟨o, _, rfl, hg, by show 3 ≤ sizeLine; decide, fun u nu => ?_⟩
        have ed6 : (upd H5 u (.tup [.str k.1, .str k.2, .int (cnt L k)])) d = some (.lst zs) := by rw [upd_ne (ne_of_none ed5 nu)]; exact ed5
        have eu : (upd H5 u (.tup [.str k.1, .str k.2, .int (cnt L k)])) u = some (.tup [.str k.1, .str k.2, .int (cnt L k)]) := upd_same
        have s6 : Same H4 (upd H5 u (.tup [.str k.1, .str k.2, .int (cnt L k)])) := same_new s5 nu
        generalize upd H5 u (.tup [.str k.1, .str k.2, .int (cnt L k)]) = H6 at ed6 eu s6
        have lz : zs.length < sizeLine := by
          rw [dp_lenM dz, List.length_take]
          have : (sumR L).length = (skeys L).length := by unfold sumR; rw [List.length_map]
          exact small1000 (by omega)
        have hsi : (sumR L)[i]? = some (k.1, k.2, cnt L k) := by
          unfold sumR
          rw [List.getElem?_map, hki]
          rfl
        refine ⟨zs, ed6, lz, zs ++ [.ref u], upd_same, ?_, same_own (s4.trans s6) ndd⟩
        rw [take_snoc hsi]
        have tkd := TKeep.lst (o := .lst (zs ++ [.ref u])) ed6
        exact dp_snoc flat_prow dz ((TKeep.of s6).trans tkd) (Dp.prow (r := (k.1, k.2, cnt L k)) (tkd.sq (SqT.of eu)))
      · rintro H4 ⟨zs, ed, dz, s4⟩
        have lx : xs.length = (sumR L).length := by
          rw [dp_lenM hd3]
          unfold sumR
          rw [List.length_map]
        rw [lx, List.take_length] at dz
        refine ⟨d, zs, rfl, .inl ⟨.inl (.inl ed), fun t nt => ?_⟩⟩
        have s5 := s3.trans s4
        exact q t zs _ (s5.free nt) (same_new s5 nt) upd_same (dp_move flat_prow dz (TKeep.new nt))
end
end K02
namespace K02
open PySem PySem.Spec PyProof.Rows L2 PK
abbrev NInit : List Str := ["self", "rows"]
theorem scInit : FnScope NInit ["self", "rows"] (defScope (inClass (topS 3) 0)) := ⟨rfl, rfl, rfl, by decide +kernel, rfl, by decide +kernel, by decide +kernel⟩
section
variable {P : Program} {w : World} {K : PySem.W.Frag} {mg : Str → Option Value} {base : Heap}
abbrev FunI (K : PySem.W.Frag) (f : Addr) (fd : FuncData) : Prop := FunD K "__init__" "Heap.__init__" (defArgs (inClass (topS 3) 0)) (defBody (inClass (topS 3) 0)) (defScope (inClass (topS 3) 0)) [.non] [] f fd
theorem ok_init {f fA C : Addr} {fd fdA : FuncData} {k : Nat} (F : FunI K f fd) (T : HCls K mg C)
    (Ad : Cal P w K mg base 1 "added_rows" fA fdA ["rows"] (spAdded K)) :
    FnOk P w K mg base CX0 (k + 2) f fd ["self", "rows"] (spInit K C) := by
  refine F.ok (CX := CX0) scInit (fun vs H Q E h => ?_) (fun cdv A outer s H vs Q E hr h => ?_)
  · obtain ⟨p, dx, x, L, rfl, _⟩ := h
    rfl
  · obtain ⟨p, dx, x, L, rfl, hp, hx, hL, q⟩ := h
    refine ⟨_, (pss_one (ps_fld (pv 0) (pe_call Ad.ok (hr.mono (Nat.le_add_left 1 k)) (by rfl) Ad.g Ad.kp Ad.b .nil pass0 (pa_cons (pe_ifExp (pt_cmpR op_isN (pv 1) pe_non (nomark _)) (pe_tup pa_nil) (pv 1)) pa_nil)) rfl)), ?_⟩
    refine ⟨x, rfl, rfl, _, rfl, ite2 (fun hn => ?_) (fun hn => ?_)⟩
    · have hn : x = .non := of_decide_eq_true hn
      refine ⟨Nat.zero_le _, fun e ne => ?_⟩
      have eL : L = [] := by
        rcases hx with ⟨_, h⟩ | h
        · exact h
        · rw [hn] at h
          cases h
      subst eL
      have s1 : Same H (upd H e (.tup [])) := same_new (Same.refl H) ne
      have d1 : Dp K (upd H e (.tup [])) (.ref e) (rowsD []) := .tup (SqT.of upd_same) .nil
      generalize upd H e (.tup []) = H1 at s1 d1
      refine ⟨.ref e, [], rfl, d1, hL, fun t us H2 nt s2 et du => ⟨_, rfl, p, C, dx, [], rfl, s2 _ _ (s1 _ _ hp), T.cl, T.nh, (by show 0 < 1000; decide), ?_⟩⟩
      have hp2 := s2 _ _ (s1 _ _ hp)
      have tp : t ≠ p := ne_of et hp2 (by intro z; cases z)
      have tk : TKeep H2 (upd H2 p (.ins C dx (putF "held" (.ref t) []))) := fun b o z h => by
        rw [upd_ne (ne_of h hp2 (by rintro rfl; exact z))]
        exact h
      refine q _ (fun b o e hb => ?_) ⟨dx, t, upd_same, .tup (SqT.of (by rw [upd_ne tp]; exact et)) (dp_move flat_prow du tk)⟩
      rw [upd_ne hb]
      exact s2 _ _ (s1 _ _ e)
    · have hn : ¬ x = .non := fun z => hn (decide_eq_true z)
      have hd : Dp K H x (rowsD L) := by
        rcases hx with ⟨h, _⟩ | h
        · exact absurd h hn
        · exact h
      refine ⟨x, rfl, x, L, rfl, hd, hL, fun t us H2 nt s2 et du => ⟨_, rfl, p, C, dx, [], rfl, s2 _ _ hp, T.cl, T.nh, (by show 0 < 1000; decide), ?_⟩⟩
      have hp2 := s2 _ _ hp
      have tp : t ≠ p := ne_of et hp2 (by intro z; cases z)
      have tk : TKeep H2 (upd H2 p (.ins C dx (putF "held" (.ref t) []))) := fun b o z h => by
        rw [upd_ne (ne_of h hp2 (by rintro rfl; exact z))]
        exact h
      refine q _ (fun b o e hb => ?_) ⟨dx, t, upd_same, .tup (SqT.of (by rw [upd_ne tp]; exact et)) (dp_move flat_prow du tk)⟩
      rw [upd_ne hb]
      exact s2 _ _ e
theorem kb_init2 {f : Addr} {fd : FuncData} (F : FunI K f fd) : KB K fd ["self", "rows"] 2 [] (fun vs _ => vs) :=
  kb_of F 2 [] (fun vs _ _ => vs) (by simp) (fun r _ _ => r) fun T kV doc pm an cdv ct us its ws h1 h2 h3 => by
    match us, its, ws, h1, h2, h3 with
    | [a, b], [c], [], _, _, _ => exact ⟨_, rfl, rfl⟩
theorem kb_initK {f : Addr} {fd : FuncData} (F : FunI K f fd) : KB K fd ["self", "rows"] 1 ["rows"] (fun vs zs => vs ++ zs) :=
  kb_of F 1 ["rows"] (fun vs _ zs => vs ++ zs) (by simp) (fun r _ q => r.append q) fun T kV doc pm an cdv ct us its ws h1 h2 h3 => by
    match us, its, ws, h1, h2, h3 with
    | [a], [c], [d], _, _, _ => exact ⟨_, rfl, rfl⟩
theorem b_init0 {f : Addr} {fd : FuncData} (F : FunI K f fd) : ∃ ds, Vals [V.non] ds ∧ Binds K fd ["self", "rows"] ds := by
  refine F.binds1 (ps := ["self", "rows"]) 1 0 (by simp) rfl fun T kV doc pm an cdv ct us its h1 h2 => ?_
  match us, its, h1, h2 with
  | [a], [c], _, _ => exact ⟨_, rfl, rfl⟩
end
end K02
namespace K02
open PySem PySem.Spec PyProof.Rows L2 PK
abbrev NRows : List Str := ["self", "form", "shade", "many"]
theorem scRows : FnScope NRows ["self"] (defScope (inClass (topS 3) 1)) := ⟨rfl, rfl, rfl, by decide +kernel, rfl, by decide +kernel, by decide +kernel⟩
section
variable {P : Program} {w : World} {K : PySem.W.Frag} {mg : Str → Option Value} {base : Heap}
-- names: ["self", "form", "shade", "many"] cells set()
theorem ok_rows {f C : Addr} {fd : FuncData} {k : Nat} (F : Fun K "rows" "Heap.rows" (inClass (topS 3) 1) f fd) (T : HCls K mg C) (hT : mg "tuple" = none) :
    FnOk P w K mg base CX0 (k + 1) f fd ["self"] (spRows K C) := by
  refine F.ok scRows (fun vs H Q E h => ?_) (fun cdv A outer s H vs Q E hr h => ?_)
  · obtain ⟨p, L, rfl, _⟩ := h
    rfl
  · obtain ⟨p, L, rfl, ⟨dx, t0, hp, dt⟩, hL, q⟩ := h
    obtain ⟨b, us, eb, hb, du⟩ := Dp.tupE dt
    cases eb
    have lus : us.length = L.length := dp_lenM du
    refine ⟨_, (pss_one (ps_ret (pe_callTy (k_tup K) (by rfl) hT (by decide +kernel) (pa_cons (pe_lc (own := [("form", 1), ("shade", 2), ("many", 3)]) rfl scRows.nd (pk_tup K (pe_fld (pv 0) rfl)) (blkOk_by (N := NRows) (sc := defScope (inClass (topS 3) 1)) (own := [("form", 1), ("shade", 2), ("many", 3)]) (by decide +kernel)) (fun _ _ _ _ _ => (pgk_tup K (n := 3) rfl (pgs_cons (pg_name (i := 1) scRows.nd rfl (.inl rfl)) (pgs_cons (pg_name (i := 2) scRows.nd rfl (.inl rfl)) (pgs_cons (pg_name (i := 3) scRows.nd rfl (.inl rfl)) pgs_nil))))) (fun _ _ _ _ _ => pts_nil) (fun _ _ _ _ _ => (pe_tup (pa_cons (pv 1) (pa_cons (pv 2) (pa_cons (pv 3) pa_nil)))))) pa_nil)))), ?_⟩
    refine ⟨.ref p, rfl, p, C, dx, _, _, rfl, hp, T.cl, T.nh, hf_held _, t0, rfl, ⟨us, hb⟩, fun d nd => ?_⟩
    refine lc_tup (K := K) (a := t0) (xs := us) (fun i H2 => ∃ zs : List V, H2 d = some (.lst zs) ∧ DpAll K H2 zs ((L.take i).map prowD) ∧ Same H H2) ?_ ?_ ?_ ?_
    · exact ⟨[], upd_same, .nil, same_new (Same.refl H) nd⟩
    · rintro i H2 _ ⟨zs, _, _, s2⟩
      exact (TKeep.of s2).sq hb
    · rintro i v H2 hv ⟨zs, ed, dz, s2⟩
      obtain ⟨e, he, de⟩ := DpAll.getV du hv
      rw [List.getElem?_map] at he
      obtain ⟨r, hxi, rfl⟩ := Option.map_eq_some_iff.mp he
      have hi := (List.getElem?_eq_some_iff.mp hxi).1
      obtain ⟨b1, rfl, hb1⟩ := Dp.prowE (Dp.same s2 de)
      refine ⟨b1, _, rfl, hb1, rfl, _, _, rfl, _, _, rfl, _, _, rfl, rfl, rfl, .str r.1, rfl, .str r.2.1, rfl, .int r.2.2, rfl, by show 3 ≤ sizeLine; decide, fun u nu => ?_⟩
      have ed6 : (upd H2 u (.tup [.str r.1, .str r.2.1, .int r.2.2])) d = some (.lst zs) := by rw [upd_ne (ne_of_none ed nu)]; exact ed
      have eu : (upd H2 u (.tup [.str r.1, .str r.2.1, .int r.2.2])) u = some (.tup [.str r.1, .str r.2.1, .int r.2.2]) := upd_same
      have s6 : Same H2 (upd H2 u (.tup [.str r.1, .str r.2.1, .int r.2.2])) := same_new (Same.refl H2) nu
      generalize upd H2 u (.tup [.str r.1, .str r.2.1, .int r.2.2]) = H6 at ed6 eu s6
      have lz : zs.length < sizeLine := by
        rw [dp_lenM dz, List.length_take]
        exact small1000 (by omega)
      refine ⟨zs, ed6, lz, zs ++ [.ref u], upd_same, ?_, same_own (s2.trans s6) nd⟩
      rw [take_snoc hxi]
      have tkd := TKeep.lst (o := .lst (zs ++ [.ref u])) ed6
      exact dp_snoc flat_prow dz ((TKeep.of s6).trans tkd) (Dp.prow (tkd.sq (SqT.of eu)))
    · rintro H2 ⟨zs, ed, dz, s2⟩
      rw [lus, List.take_length] at dz
      refine ⟨d, zs, rfl, .inl ⟨.inl (.inl ed), fun t nt => ?_⟩⟩
      exact q (.ref t) _ (same_new s2 nt) (.tup (SqT.of upd_same) (dp_move flat_prow dz (TKeep.new nt)))
end
end K02
namespace K02
open PySem PySem.Spec PyProof.Rows L2 PK
abbrev NLaw : List Str := ["_law_script", "_law_feed_here", "_law_forms", "_law_shades", "_law_lots", "_law_k", "_law_before", "_law_one", "_law_heaps", "_law_due", "_law_lot", "_law_turn"]
theorem scLaw : FnScope NLaw ["_law_script"] (defScope (topS 12)) := ⟨rfl, rfl, rfl, by decide +kernel, rfl, by decide +kernel, by decide +kernel⟩
section
variable {P : Program} {w : World} {K : PySem.W.Frag} {mg : Str → Option Value} {base : Heap}
def spLaw (K : PySem.W.Frag) : Sp := fun vs H Q _ => ∃ (a : Addr) (ns : List Int), vs = [.ref a] ∧ SqL K H a (ns.map V.int) ∧ ∀ H', Q (.bl true) H'
-- names: ["_law_script", "_law_feed_here", "_law_forms", "_law_shades", "_law_lots", "_law_k", "_law_before", "_law_one", "_law_heaps", "_law_due", "_law_lot", "_law_turn"] cells {'_law_shades', '_law_forms', '_law_feed_here'}
theorem ok_law {f fF fN fD fL fS fP fI fR C : Addr} {fd fdF fdN fdD fdL fdS fdP fdI fdR : FuncData} (F : Fun K "law" "law" (topS 12) f fd)
    (Fe : Cal P w K mg base 1 "_law_feed" fF fdF ["_law_script"] (spFeed K)) (D : Cal P w K mg base 1 "_law_draw" fD fdD ["_law_feed_here", "_law_many_here"] spDraw)
    (Nm : Cal P w K mg base 2 "_law_names" fN fdN ["_law_feed_here", "_law_many_here"] spNames) (Lr : Cal P w K mg base 3 "_law_rows" fL fdL ["_law_feed_here", "_law_forms", "_law_shades", "_law_most_now"] (spLRows K))
    (Su : Cal P w K mg base 1 "_law_summed" fS fdS ["_law_lot"] (spSummed K)) (Pt : Cal P w K mg base 1 "_law_parted" fP fdP ["_law_lot"] (spParted K))
    (Hm : HMk P w K mg base 2 C fI fdI) (Rw : MCal P w K mg base 1 C "rows" fR fdR ["self"] (spRows K C)) (hR : mg "range" = none) (hRp : mg "repr" = none) :
    FnG P w K mg base CX0 5 f fd ["_law_script"] (spLaw K) := by
  refine funG_ok F scLaw (fun vs H Q E h => ?_) (fun cdv A outer s H vs Q E hgd hr h => ?_)
  · obtain ⟨a, ns, rfl, _⟩ := h
    rfl
  · obtain ⟨a, ns, rfl, hS, q⟩ := h
    refine ⟨_, (pss_cons (ps_set (i := 1) scLaw.nd rfl (.inr rfl) (pe_call Fe.ok (hr.mono (by decide)) (by rfl) Fe.g Fe.kp Fe.b .nil pass0 (pa_cons (pv 0) pa_nil)))
  (pss_cons (ps_asg (pe_tup (pa_cons (pe_call Nm.ok (hr.mono (by decide)) (by rfl) Nm.g Nm.kp Nm.b .nil pass0 (pa_cons (pv 1) (pa_cons (pe_op op_add pe_int (pe_call D.ok (hr.mono (by decide)) (by rfl) D.g D.kp D.b .nil pass0 (pa_cons (pv 1) (pa_cons pe_int pa_nil)))) pa_nil))) (pa_cons (pe_call Nm.ok (hr.mono (by decide)) (by rfl) Nm.g Nm.kp Nm.b .nil pass0 (pa_cons (pv 1) (pa_cons (pe_op op_add pe_int (pe_call D.ok (hr.mono (by decide)) (by rfl) D.g D.kp D.b .nil pass0 (pa_cons (pv 1) (pa_cons pe_int pa_nil)))) pa_nil))) pa_nil))) (pgk_tup K (n := 2) rfl (pgs_cons (pg_name (i := 2) scLaw.nd rfl (.inr rfl)) (pgs_cons (pg_name (i := 3) scLaw.nd rfl (.inr rfl)) pgs_nil))))
  (pss_cons (ps_setLc (i := 4) (own := [("_law_k", 5)]) rfl scLaw.nd rfl rfl (sw_true rfl rfl rfl (by decide +kernel)) (pi_range1 (by rfl) hR (pa_cons pe_int pa_nil)) (blkOk_by (N := NLaw) (sc := defScope (topS 12)) (own := [("_law_k", 5)]) (by decide +kernel)) (fun _ _ _ _ _ => (pg_name (i := 5) scLaw.nd rfl (.inl rfl))) (fun _ _ _ _ _ => pts_nil) (fun _ _ _ _ _ => (pe_call Lr.ok (hr.mono (by decide)) (by rfl) Lr.g Lr.kp Lr.b .nil pass0 (pa_cons (pv 1) (pa_cons (pv 2) (pa_cons (pv 3) (pa_cons pe_int pa_nil)))))))
  (pss_cons (ps_set (i := 6) scLaw.nd rfl (.inl rfl) (pe_callB (k_repr K hgd hr) (by rfl) hRp (by decide +kernel) (pa_cons (pv 4) pa_nil)))
  (pss_cons (ps_for PassesOwn.never rfl (pk_tup K (pe_tup (pa_cons (kheap0 K Hm (hr.mono (by decide)) (by rfl)) (pa_cons (kheap1 K Hm (hr.mono (by decide)) (by rfl) pe_non) (pa_cons (kheapK K Hm (hr.mono (by decide)) (by rfl) pe_non) (pa_cons (kheap1 K Hm (hr.mono (by decide)) (by rfl) (pe_tup pa_nil)) (pa_cons (kheapK K Hm (hr.mono (by decide)) (by rfl) (pe_tup pa_nil)) pa_nil))))))) (pg_name (i := 7) scLaw.nd rfl (.inl rfl))
  (pss_one (ps_if (pt_cmpR op_ne (pe_callB (k_repr K hgd hr) (by rfl) hRp (by decide +kernel) (pa_cons (pe_meth0 (pv 7) Hm.c.cl Rw.m Rw.ok (hr.mono (by decide)) Rw.b .nil pass0) pa_nil)) pe_str (nomark _))
  (pss_one (ps_ret pe_bl)) pss_nil)))
  (pss_cons (ps_set (i := 8) scLaw.nd rfl (.inl rfl) (pe_lst (pa_cons (kheap1 K Hm (hr.mono (by decide)) (by rfl) (pe_ix (kx_list K) (pv 4) pe_int (fun _ _ => rfl))) (pa_cons (kheapK K Hm (hr.mono (by decide)) (by rfl) (pe_ix (kx_list K) (pv 4) pe_int (fun _ _ => rfl))) (pa_cons (kheap1 K Hm (hr.mono (by decide)) (by rfl) (pek_revT K (pe_ix (kx_list K) (pv 4) pe_int (fun _ _ => rfl)))) (pa_cons (kheap1 K Hm (hr.mono (by decide)) (by rfl) (pe_call Pt.ok (hr.mono (by decide)) (by rfl) Pt.g Pt.kp Pt.b .nil pass0 (pa_cons (pe_ix (kx_list K) (pv 4) pe_int (fun _ _ => rfl)) pa_nil))) pa_nil))))))
  (pss_cons (ps_setLc (i := 9) (own := [("_law_lot", 10)]) rfl scLaw.nd rfl rfl (sw_true rfl rfl rfl (by decide +kernel)) (pk_list K (pv 4)) (blkOk_by (N := NLaw) (sc := defScope (topS 12)) (own := [("_law_lot", 10)]) (by decide +kernel)) (fun _ _ _ _ _ => (pg_name (i := 10) scLaw.nd rfl (.inl rfl))) (fun _ _ _ _ _ => pts_nil) (fun _ _ _ _ _ => (pe_callB (k_repr K hgd hr) (by rfl) hRp (by decide +kernel) (pa_cons (pe_call Su.ok (hr.mono (by decide)) (by rfl) Su.g Su.kp Su.b .nil pass0 (pa_cons (pv 10) pa_nil)) pa_nil))))
  (pss_cons (ps_for PassesOwn.never rfl (pi_range1 (by rfl) hR (pa_cons pe_int pa_nil)) (pg_name (i := 11) scLaw.nd rfl (.inl rfl))
  (pss_one (ps_for PassesOwn.never rfl (pi_range1 (by rfl) hR (pa_cons pe_int pa_nil)) (pg_name (i := 5) scLaw.nd rfl (.inl rfl))
  (pss_one (ps_if (pt_cmpR op_ne (pe_callB (k_repr K hgd hr) (by rfl) hRp (by decide +kernel) (pa_cons (pe_meth0 (pe_ix (kx_list K) (pv 8) (pv 5) (fun _ _ => rfl)) Hm.c.cl Rw.m Rw.ok (hr.mono (by decide)) Rw.b .nil pass0) pa_nil)) (pe_ix (kx_list K) (pv 9) (pe_op op_mod (pv 5) pe_int) (fun _ _ => rfl)) (nomark _))
  (pss_one (ps_ret pe_bl)) pss_nil)))))
  (pss_one (ps_ret (pe_cmpR op_eq (pe_callB (k_repr K hgd hr) (by rfl) hRp (by decide +kernel) (pa_cons (pv 4) pa_nil)) (pv 6) (nomark _)))))))))))), ?_⟩
    refine ⟨.ref a, rfl, a, ns, rfl, hS, fun fe c H1 nfe s1 f1 => ?_⟩
    refine ⟨.ref fe, rfl, .ref fe, rfl, fe, c, 4, rfl, f1, by decide, by decide, fun r1 H2 a0 a1 e2 f2 => ⟨1, r1, rfl, rfl, fe, c, _, rfl, f2, by omega, by omega, fun pf H3 fs npf e3 f3 epf lpf wpf => ?_⟩⟩
    refine ⟨.ref fe, rfl, .ref fe, rfl, fe, c, 4, rfl, f3, by decide, by decide, fun r2 H4 b0 b1 e4 f4 => ⟨1, r2, rfl, rfl, fe, c, _, rfl, f4, by omega, by omega, fun ps H5 ss nps e5 f5 eps lps wps => ?_⟩⟩
    refine ⟨by show 2 ≤ sizeLine; decide, fun tp ntp => ?_⟩
    have npc := f5.ne ntp
    have f6 := f5.new (o := .tup [.ref pf, .ref ps]) ntp
    have x35 : Ext fe H3 H5 := e4.trans e5
    have wf5 : Words H5 pf fs := (Words.mk epf (by intro z; subst z; simp at lpf; omega) (by omega) wpf : Words H3 pf fs).ext f3 x35
    have ws5 : Words H5 ps ss := ⟨eps, by intro z; subst z; simp at lps; omega, by omega, wps⟩
    have wf6 := wf5.new (o := .tup [.ref pf, .ref ps]) ntp
    have ws6 := ws5.new (o := .tup [.ref pf, .ref ps]) ntp
    have etp : (upd H5 tp (.tup [.ref pf, .ref ps])) tp = some (.tup [.ref pf, .ref ps]) := upd_same
    generalize upd H5 tp (.tup [.ref pf, .ref ps]) = H6 at f6 wf6 ws6 etp
    refine ⟨tp, _, rfl, SqT.of etp, rfl, _, _, rfl, _, _, rfl, rfl, ?_⟩
    refine ⟨2, rfl, by decide, by decide, fun d nd => ?_⟩
    have ndc := f6.ne nd
    refine lc_range (lo := 0) (n := (2 : Int).toNat) (fun i H7 => ∃ (xs : List (List PRow)) (us : List V), xs.length = i ∧ (∀ x ∈ xs, RowsOk 8 1000000000 x ∧ ∀ r ∈ x, r.1 ∈ fs ∧ r.2.1 ∈ ss) ∧ H7 d = some (.lst us) ∧ DpAll K H7 us (xs.map rowsD) ∧ Ext fe H6 H7 ∧ IsFeed H7 fe c) ⟨[], [], rfl, fun _ h => (nomatch h), upd_same, .nil, (Ext.refl fe H6).new nd, f6.new nd⟩ ?_ ?_
    · rintro i H7 hi ⟨xs, us, xl, xok, ed, du, x7, f7⟩
      refine ⟨rfl, .ref fe, rfl, .ref pf, rfl, .ref ps, rfl, fe, c, pf, ps, fs, ss, 8, rfl, f7, wf6.ext f6 x7, ws6.ext f6 x7, by decide, fun v H8 x okx inx e8 f8 dv => ?_⟩
      have ed8 := e8 d _ ed ndc.1
      refine ⟨us, ed8, ?_, xs ++ [x], us ++ [v], by rw [List.length_append, xl]; rfl, fun y hy => ?_, upd_same, ?_, (x7.trans e8).own nd, f8.own ndc⟩
      · rw [dp_lenM du]
        exact small1000 (by have hi : i < 2 := hi; omega)
      · rcases List.mem_append.mp hy with h | h
        · exact xok y h
        · rw [List.mem_singleton.mp h]; exact ⟨okx, inx⟩
      · exact dp_snoc flat_rows du ((TKeep.feed f7 e8).trans (TKeep.lst ed8)) (Dp.keepT (TKeep.lst ed8) (flat_rows x) dv)
    · rintro H7 ⟨xs, us, xl, xok, ed, du, x7, f7⟩
      have xl : xs.length = 2 := xl
      obtain ⟨L0, L1, rfl⟩ : ∃ s1 s2, xs = [s1, s2] := by
        match xs, xl with
        | [p, q], _ => exact ⟨p, q, rfl⟩
      obtain ⟨ok0, in0⟩ := xok L0 (by simp)
      obtain ⟨ok1, in1⟩ := xok L1 (by simp)
      obtain ⟨v0, v1, rfl, dv0, dv1⟩ : ∃ v1 v2, us = [v1, v2] ∧ Dp K H7 v1 (rowsD L0) ∧ Dp K H7 v2 (rowsD L1) := by
        cases du with
        | cons h1 h2 =>
          cases h2 with
          | cons h2 h3 =>
            cases h3
            exact ⟨_, _, rfl, h1, h2⟩
      have sh0 : ∀ {L : List PRow}, RowsOk 8 1000000000 L → Sh (rowsD L) 2 5000 := fun h => (sh_rows (by decide) h).mono (Nat.le_refl _) (by decide)
      have shS : ∀ {L : List PRow}, RowsOk 8 1000000000 L → Sh (rowsD (sumR L)) 2 5000 := fun h => (sh_rows (b := ((8 : Nat) : Int) * 1000000000) (by decide) (sumR_ok (by decide) h)).mono (Nat.le_refl _) (by decide)
      have lS : ∀ {L : List PRow}, RowsOk 8 1000000000 L → (sumR L).length ≤ 900 := fun {L} h => by
        have := sumR_len L
        have := h.len
        omega
      have dl : ∀ {H' : Hp}, Same H7 H' → Dp K H' (.ref d) (.list ([L0, L1].map rowsD)) := fun s => .lst (SqL.of (s _ _ ed)) (.cons (Dp.same s dv0) (.cons (Dp.same s dv1) .nil))
      have shl : Sh (.list ([L0, L1].map rowsD)) 3 20000 := by
        refine (Sh.list (dp := 2) (n := 5000) (m := 2) (fun e he => ?_) (Nat.le_refl _)).mono (Nat.le_refl _) (by decide)
        obtain ⟨x, hx, rfl⟩ := List.mem_map.mp he
        exact sh0 (xok x hx).1
      -- before
      refine ⟨.ref d, rfl, d, _, rfl, dl (Same.refl _), shl.ok, shl.nd, Nat.le_trans shl.dep (by decide), Nat.le_trans shl.len (by decide), ?_⟩
      -- five heaps of none
      refine ⟨[], .inl ⟨rfl, rfl⟩, Nat.zero_le _, fun p0 G0 n0 t0 h0 => ⟨[], .inl ⟨rfl, rfl⟩, Nat.zero_le _, fun p1 G1 n1 t1 h1 => ⟨[], .inl ⟨rfl, rfl⟩, Nat.zero_le _, fun p2 G2 n2 t2 h2 => ?_⟩⟩⟩
      refine ⟨Nat.zero_le _, fun e3 ne3 => ⟨[], .inr (.tup (SqT.of upd_same) .nil), Nat.zero_le _, fun p3 G3 n3 t3 h3 => ?_⟩⟩
      have t3 : Same G2 G3 := (same_new (Same.refl G2) ne3).trans t3
      refine ⟨Nat.zero_le _, fun e4 ne4 => ⟨[], .inr (.tup (SqT.of upd_same) .nil), Nat.zero_le _, fun p4 G4 n4 t4 h4 => ?_⟩⟩
      have t4 : Same G3 G4 := (same_new (Same.refl G3) ne4).trans t4
      refine ⟨by show 5 ≤ sizeLine; decide, fun tt ntt => ?_⟩
      have t5 : Same G4 (upd G4 tt (.tup [.ref p0, .ref p1, .ref p2, .ref p3, .ref p4])) := same_new (Same.refl G4) ntt
      have et : (upd G4 tt (.tup [.ref p0, .ref p1, .ref p2, .ref p3, .ref p4])) tt = some (.tup [.ref p0, .ref p1, .ref p2, .ref p3, .ref p4]) := upd_same
      generalize upd G4 tt (.tup [.ref p0, .ref p1, .ref p2, .ref p3, .ref p4]) = G5 at t5 et
      have a4 := h4.same t5
      have a3 := h3.same (t4.trans t5)
      have a2 := h2.same ((t3.trans t4).trans t5)
      have a1 := h1.same (((t2.trans t3).trans t4).trans t5)
      have a0 := h0.same ((((t1.trans t2).trans t3).trans t4).trans t5)
      have t75 : Same H7 G5 := ((((t0.trans t1).trans t2).trans t3).trans t4).trans t5
      rw [sumR_nil] at a0 a1 a2 a3 a4
      have alln : ∀ v ∈ [V.ref p0, .ref p1, .ref p2, .ref p3, .ref p4], ∃ p, v = .ref p ∧ HeapAt K C G5 p [] := by
        intro v hv
        simp only [List.mem_cons, List.not_mem_nil, or_false] at hv
        rcases hv with rfl | rfl | rfl | rfl | rfl
        · exact ⟨_, rfl, a0⟩
        · exact ⟨_, rfl, a1⟩
        · exact ⟨_, rfl, a2⟩
        · exact ⟨_, rfl, a3⟩
        · exact ⟨_, rfl, a4⟩
      clear a0 a1 a2 a3 a4 h0 h1 h2 h3 h4
      generalize [V.ref p0, .ref p1, .ref p2, .ref p3, .ref p4] = vs5 at et alln
      have e0 : (rowsD []).shown = "()" := by decide +kernel
      have shn : Sh (rowsD []) 2 5000 := sh0 ⟨Nat.zero_le _, fun _ h => (nomatch h)⟩
      refine ⟨tt, rfl, ⟨vs5, SqT.of et⟩, for_tup (K := K) (a := tt) (xs := vs5) (fun i σ G => ∃ y7 : Option V, σ = [some (.ref a), some (.ref fe), some (.ref pf), some (.ref ps), some (.ref d), none, some (.str (PyData.list ([L0, L1].map rowsD)).shown), y7, none, none, none, none] ∧ Same G5 G) ⟨none, rfl, Same.refl _⟩ ?_ ?_ ?_⟩
      · rintro i σ G _ ⟨y7, rfl, tG⟩
        exact SqT.of (tG _ _ et)
      · rintro i v σ G hv ⟨y7, rfl, tG⟩
        obtain ⟨p, rfl, hp⟩ := alln v (List.mem_of_getElem? hv)
        have hp := hp.same tG
        obtain ⟨dx, fz, e1, e2⟩ := hp.no (m := "rows") (by decide +kernel)
        refine ⟨.ref p, rfl, p, dx, fz, rfl, e1, e2, p, [], rfl, hp, Nat.zero_le _, fun v' G' tG' dv' => ?_⟩
        obtain ⟨b', us', rfl, _⟩ := Dp.tupE dv'
        refine ⟨b', _, rfl, dv', shn.ok, shn.nd, Nat.le_trans shn.dep (by decide), Nat.le_trans shn.len (by decide), rfl, _, rfl, ?_⟩
        rw [e0, decide_eq_true rfl]
        exact iteF ⟨_, rfl, tG.trans tG'⟩
      · rintro σ G ⟨y7, rfl, tG⟩
        have tG7 : Same H7 G := t75.trans tG
        have edG := tG7 _ _ ed
        clear tG et t5 t75 alln
        -- the four heaps
        have at0 : atI [v0, v1] 0 = some v0 := at_of (j := 0) rfl rfl
        have at1 : atI [v0, v1] 1 = some v1 := at_of (j := 1) rfl rfl
        refine ⟨.ref d, rfl, d, _, 0, v0, rfl, rfl, .inl (.inl edG), at0, L0, .inr (Dp.same tG7 dv0), Nat.le_trans ok0.len (by decide), fun q0 A0 _ u0 g0 => ?_⟩
        have u0' := tG7.trans u0
        refine ⟨.ref d, rfl, d, _, 1, v1, rfl, rfl, .inl (.inl (u0' _ _ ed)), at1, L1, .inr (Dp.same u0' dv1), Nat.le_trans ok1.len (by decide), fun q1 A1 _ u1 g1 => ?_⟩
        have u1' := u0'.trans u1
        obtain ⟨b0, us0, rfl, hb0, du0⟩ := Dp.tupE dv0
        refine ⟨.ref d, rfl, d, _, 0, _, rfl, rfl, .inl (.inl (u1' _ _ ed)), at0, b0, us0, rfl, (TKeep.of u1').sq hb0, fun rv nrv => ⟨L0.reverse, .inr ?_, by rw [List.length_reverse]; exact Nat.le_trans ok0.len (by decide), fun q2 A2 _ u2 g2 => ?_⟩⟩
        · refine .tup (SqT.of upd_same) ?_
          rw [List.map_reverse]
          exact DpAll.rev (DpAll.same (u1'.trans (same_new (Same.refl _) nrv)) du0)
        have u2 : Same A1 A2 := (same_new (Same.refl A1) nrv).trans u2
        have u2' := u1'.trans u2
        refine ⟨.ref d, rfl, d, _, 1, v1, rfl, rfl, .inl (.inl (u2' _ _ ed)), at1, v1, L1, 8, 1000000000, rfl, Dp.same u2' dv1, ok1, by decide, by decide, fun vp A3 u3 dp => ⟨parted L1, .inr dp, ?_, fun q3 A4 _ u4 g3 => ?_⟩⟩
        · have h1 := (parted_both ok1).1.len
          have h2 := ok1.len
          omega
        have u4 : Same A2 A4 := u3.trans u4
        refine ⟨by show 4 ≤ sizeLine; decide, fun hl nhl => ?_⟩
        have u5 : Same A4 (upd A4 hl (.lst [.ref q0, .ref q1, .ref q2, .ref q3])) := same_new (Same.refl A4) nhl
        have ehl : (upd A4 hl (.lst [.ref q0, .ref q1, .ref q2, .ref q3])) hl = some (.lst [.ref q0, .ref q1, .ref q2, .ref q3]) := upd_same
        generalize upd A4 hl (.lst [.ref q0, .ref q1, .ref q2, .ref q3]) = A5 at u5 ehl
        have k0 := g0.same (((u1.trans u2).trans u4).trans u5)
        have k1 := g1.same ((u2.trans u4).trans u5)
        have k2 := g2.same (u4.trans u5)
        have k3 := g3.same u5
        rw [sumR_perm (List.reverse_perm L0)] at k2
        rw [sumR_parted ok1] at k3
        have u75 : Same H7 A5 := (u2'.trans u4).trans u5
        have allh : ∀ k : Nat, k < 4 → ∃ p, [V.ref q0, .ref q1, .ref q2, .ref q3][k]? = some (.ref p) ∧ HeapAt K C A5 p (if k % 2 = 0 then sumR L0 else sumR L1) := by
          intro k hk
          match k, hk with
          | 0, _ => exact ⟨_, rfl, k0⟩
          | 1, _ => exact ⟨_, rfl, k1⟩
          | 2, _ => exact ⟨_, rfl, k2⟩
          | 3, _ => exact ⟨_, rfl, k3⟩
        clear k0 k1 k2 k3 g0 g1 g2 g3
        generalize [V.ref q0, .ref q1, .ref q2, .ref q3] = hs at ehl allh
        -- what is due
        refine ⟨.ref d, rfl, d, rfl, ⟨_, .inl (.inl (u75 _ _ ed))⟩, fun dd ndd => ?_⟩
        refine lc_list (K := K) (a := d) (xs := [.ref b0, v1]) (fun i B => B dd = some (.lst ((([L0, L1].take i).map fun L => (rowsD (sumR L)).shown).map V.str)) ∧ Same A5 B) ⟨upd_same, same_new (Same.refl A5) ndd⟩ ?_ ?_ ?_
        · rintro i B _ ⟨_, uB⟩
          exact .inl (.inl (uB _ _ (u75 _ _ ed)))
        · rintro i v B hv ⟨edd, uB⟩
          have dd' : DpAll K B [.ref b0, v1] ([L0, L1].map rowsD) := .cons (Dp.same (u75.trans uB) (.tup hb0 du0)) (.cons (Dp.same (u75.trans uB) dv1) .nil)
          obtain ⟨e, he, de⟩ := DpAll.getV dd' hv
          rw [List.getElem?_map] at he
          obtain ⟨L, hLi, rfl⟩ := Option.map_eq_some_iff.mp he
          have okL := (xok L (List.mem_of_getElem? hLi)).1
          have sh := shS okL
          refine ⟨rfl, v, rfl, v, L, 8, 1000000000, rfl, de, okL, by decide, fun v' B' uB' dv' => ?_⟩
          obtain ⟨b', us', rfl, _⟩ := Dp.tupE dv'
          have edd' := uB' _ _ edd
          refine ⟨b', _, rfl, dv', sh.ok, sh.nd, Nat.le_trans sh.dep (by decide), Nat.le_trans sh.len (by decide), _, edd', ?_, ?_, same_own (uB.trans uB') ndd⟩
          · rw [List.length_map, List.length_map, List.length_take]
            exact small1000 (Nat.le_trans (Nat.min_le_right _ _) (by show 2 ≤ 1000; decide))
          · rw [upd_same, take_snoc hLi, List.map_append, List.map_append]
            rfl
        · rintro B ⟨edd, uB⟩
          have edd : B dd = some (.lst [.str (rowsD (sumR L0)).shown, .str (rowsD (sumR L1)).shown]) := edd
          have ehB := uB _ _ ehl
          -- the two turns
          refine ⟨2, rfl, by decide, by decide, for_range (lo := 0) (n := (2 : Int).toNat) (fun i σ D => ∃ y5 y11 : Option V, σ = [some (.ref a), some (.ref fe), some (.ref pf), some (.ref ps), some (.ref d), y5, some (.str (PyData.list ([L0, L1].map rowsD)).shown), y7, some (.ref hl), some (.ref dd), none, y11] ∧ Same B D) ⟨_, _, rfl, Same.refl _⟩ ?_ ?_⟩
          · rintro i σ D' _ ⟨y5, y11, rfl, uD⟩
            refine ⟨4, rfl, by decide, by decide, for_range (lo := 0) (n := (4 : Int).toNat) (fun j σ D2 => ∃ y5 : Option V, σ = [some (.ref a), some (.ref fe), some (.ref pf), some (.ref ps), some (.ref d), y5, some (.str (PyData.list ([L0, L1].map rowsD)).shown), y7, some (.ref hl), some (.ref dd), none, some (.int (0 + i))] ∧ Same B D2) ⟨_, rfl, uD⟩ ?_ ?_⟩
            · rintro j σ D2 hj ⟨y5', rfl, uD2⟩
              have hj : j < 4 := hj
              obtain ⟨p, hp, hpH⟩ := allh j hj
              have hpH := hpH.same (uB.trans uD2)
              obtain ⟨dx, fz, e1, e2⟩ := hpH.no (m := "rows") (by decide +kernel)
              have e0j : (0 : Int) + (j : Nat) = ((j : Nat) : Int) := Int.zero_add _
              have shj : Sh (rowsD (if j % 2 = 0 then sumR L0 else sumR L1)) 2 5000 := by
                split
                · exact shS ok0
                · exact shS ok1
              have lj : (if j % 2 = 0 then sumR L0 else sumR L1).length ≤ 900 := by
                split
                · exact lS ok0
                · exact lS ok1
              refine ⟨.ref hl, rfl, .int (0 + j), rfl, hl, hs, _, .ref p, rfl, rfl, .inl (.inl (uD2 _ _ ehB)), at_of e0j hp, p, dx, fz, rfl, e1, e2, p, _, rfl, hpH, lj, fun v' D3 uD3 dv' => ?_⟩
              obtain ⟨b', us', rfl, _⟩ := Dp.tupE dv'
              refine ⟨b', _, rfl, dv', shj.ok, shj.nd, Nat.le_trans shj.dep (by decide), Nat.le_trans shj.len (by decide), ?_⟩
              have hm : ∃ m : Nat, ((0 : Int) + (j : Nat)) % 2 = (m : Int) ∧ [V.str (rowsD (sumR L0)).shown, .str (rowsD (sumR L1)).shown][m]? = some (.str (rowsD (if j % 2 = 0 then sumR L0 else sumR L1)).shown) := by
                refine ⟨j % 2, by omega, ?_⟩
                have : j % 2 = 0 ∨ j % 2 = 1 := by omega
                rcases this with z | z
                · rw [z, if_pos rfl]
                  rfl
                · rw [z, if_neg (by decide)]
                  rfl
              obtain ⟨m, hm1, hm2⟩ := hm
              refine ⟨.ref dd, rfl, .int (0 + j), rfl, _, _, rfl, rfl, (show (0 : Int) < 2 by decide), dd, _, _, _, rfl, rfl, .inl (.inl (uD3 _ _ (uD2 _ _ edd))), at_of hm1 hm2, rfl, _, rfl, ?_⟩
              rw [decide_eq_true rfl]
              exact iteF ⟨_, rfl, uD2.trans uD3⟩
            · rintro σ D2 ⟨y5', rfl, uD2⟩
              exact ⟨_, _, rfl, uD2⟩
          · rintro σ D' ⟨y5, y11, rfl, uD⟩
            refine ⟨.ref d, rfl, d, _, rfl, dl ((u75.trans uB).trans uD), shl.ok, shl.nd, Nat.le_trans shl.dep (by decide), Nat.le_trans shl.len (by decide), _, rfl, rfl, ?_⟩
            rw [decide_eq_true rfl]
            exact q _
end
end K02
namespace K02
open PySem PySem.Spec PyProof.Rows L2 PK
theorem all_mk {l : PySem.W.OpenLaw} {w : World} {K : PySem.W.Frag} {h : Heap} {mg : Str → Option Value} {fa : Addr} (X : K.In h) (G : h.Ns mainGlobals mg) (hfa : mg "law" = some (.ref fa))
    {f_feed : Addr} {od_feed an_feed : Option Addr} {sl_feed : Array (Option Value)} {oc_feed kV_feed dc_feed pm_feed cd_feed ct_feed : Value}
    (a_feed : PySem.W.nsIn K mainGlobals "_law_feed" = some (some (.ref f_feed))) (l_feed : K.lookup f_feed = some ⟨oc_feed, od_feed, .func (PySem.W.fnOf "_law_feed" "_law_feed" (defArgs (topS 5)) (defBody (topS 5)) (defScope (topS 5)) .none kV_feed dc_feed pm_feed an_feed cd_feed ct_feed), sl_feed⟩) (c_feed : PySem.W.codeIn K cd_feed "_law_feed" = true) (k_feed : PySem.W.keepIn K (.ref f_feed) = true)
    {f_draw : Addr} {od_draw an_draw : Option Addr} {sl_draw : Array (Option Value)} {oc_draw kV_draw dc_draw pm_draw cd_draw ct_draw : Value}
    (a_draw : PySem.W.nsIn K mainGlobals "_law_draw" = some (some (.ref f_draw))) (l_draw : K.lookup f_draw = some ⟨oc_draw, od_draw, .func (PySem.W.fnOf "_law_draw" "_law_draw" (defArgs (topS 6)) (defBody (topS 6)) (defScope (topS 6)) .none kV_draw dc_draw pm_draw an_draw cd_draw ct_draw), sl_draw⟩) (c_draw : PySem.W.codeIn K cd_draw "_law_draw" = true) (k_draw : PySem.W.keepIn K (.ref f_draw) = true)
    {f_names : Addr} {od_names an_names : Option Addr} {sl_names : Array (Option Value)} {oc_names kV_names dc_names pm_names cd_names ct_names : Value}
    (a_names : PySem.W.nsIn K mainGlobals "_law_names" = some (some (.ref f_names))) (l_names : K.lookup f_names = some ⟨oc_names, od_names, .func (PySem.W.fnOf "_law_names" "_law_names" (defArgs (topS 7)) (defBody (topS 7)) (defScope (topS 7)) .none kV_names dc_names pm_names an_names cd_names ct_names), sl_names⟩) (c_names : PySem.W.codeIn K cd_names "_law_names" = true) (k_names : PySem.W.keepIn K (.ref f_names) = true)
    {f_many : Addr} {od_many an_many : Option Addr} {sl_many : Array (Option Value)} {oc_many kV_many dc_many pm_many cd_many ct_many : Value}
    (a_many : PySem.W.nsIn K mainGlobals "_law_many" = some (some (.ref f_many))) (l_many : K.lookup f_many = some ⟨oc_many, od_many, .func (PySem.W.fnOf "_law_many" "_law_many" (defArgs (topS 8)) (defBody (topS 8)) (defScope (topS 8)) .none kV_many dc_many pm_many an_many cd_many ct_many), sl_many⟩) (c_many : PySem.W.codeIn K cd_many "_law_many" = true) (k_many : PySem.W.keepIn K (.ref f_many) = true)
    {f_lrows : Addr} {od_lrows an_lrows : Option Addr} {sl_lrows : Array (Option Value)} {oc_lrows kV_lrows dc_lrows pm_lrows cd_lrows ct_lrows : Value}
    (a_lrows : PySem.W.nsIn K mainGlobals "_law_rows" = some (some (.ref f_lrows))) (l_lrows : K.lookup f_lrows = some ⟨oc_lrows, od_lrows, .func (PySem.W.fnOf "_law_rows" "_law_rows" (defArgs (topS 9)) (defBody (topS 9)) (defScope (topS 9)) .none kV_lrows dc_lrows pm_lrows an_lrows cd_lrows ct_lrows), sl_lrows⟩) (c_lrows : PySem.W.codeIn K cd_lrows "_law_rows" = true) (k_lrows : PySem.W.keepIn K (.ref f_lrows) = true)
    {f_summed : Addr} {od_summed an_summed : Option Addr} {sl_summed : Array (Option Value)} {oc_summed kV_summed dc_summed pm_summed cd_summed ct_summed : Value}
    (a_summed : PySem.W.nsIn K mainGlobals "_law_summed" = some (some (.ref f_summed))) (l_summed : K.lookup f_summed = some ⟨oc_summed, od_summed, .func (PySem.W.fnOf "_law_summed" "_law_summed" (defArgs (topS 10)) (defBody (topS 10)) (defScope (topS 10)) .none kV_summed dc_summed pm_summed an_summed cd_summed ct_summed), sl_summed⟩) (c_summed : PySem.W.codeIn K cd_summed "_law_summed" = true) (k_summed : PySem.W.keepIn K (.ref f_summed) = true)
    {f_parted : Addr} {od_parted an_parted : Option Addr} {sl_parted : Array (Option Value)} {oc_parted kV_parted dc_parted pm_parted cd_parted ct_parted : Value}
    (a_parted : PySem.W.nsIn K mainGlobals "_law_parted" = some (some (.ref f_parted))) (l_parted : K.lookup f_parted = some ⟨oc_parted, od_parted, .func (PySem.W.fnOf "_law_parted" "_law_parted" (defArgs (topS 11)) (defBody (topS 11)) (defScope (topS 11)) .none kV_parted dc_parted pm_parted an_parted cd_parted ct_parted), sl_parted⟩) (c_parted : PySem.W.codeIn K cd_parted "_law_parted" = true) (k_parted : PySem.W.keepIn K (.ref f_parted) = true)
    {f_added : Addr} {od_added an_added : Option Addr} {sl_added : Array (Option Value)} {oc_added kV_added dc_added pm_added cd_added ct_added : Value}
    (a_added : PySem.W.nsIn K mainGlobals "added_rows" = some (some (.ref f_added))) (l_added : K.lookup f_added = some ⟨oc_added, od_added, .func (PySem.W.fnOf "added_rows" "added_rows" (defArgs (topS 2)) (defBody (topS 2)) (defScope (topS 2)) .none kV_added dc_added pm_added an_added cd_added ct_added), sl_added⟩) (c_added : PySem.W.codeIn K cd_added "added_rows" = true) (k_added : PySem.W.keepIn K (.ref f_added) = true)
    {f_law : Addr} {od_law an_law : Option Addr} {sl_law : Array (Option Value)} {oc_law kV_law dc_law pm_law cd_law ct_law : Value}
    (a_law : PySem.W.nsIn K mainGlobals "law" = some (some (.ref f_law))) (l_law : K.lookup f_law = some ⟨oc_law, od_law, .func (PySem.W.fnOf "law" "law" (defArgs (topS 12)) (defBody (topS 12)) (defScope (topS 12)) .none kV_law dc_law pm_law an_law cd_law ct_law), sl_law⟩) (c_law : PySem.W.codeIn K cd_law "law" = true) (k_law : PySem.W.keepIn K (.ref f_law) = true)
    {C_heap : Addr} (a_heap : PySem.W.nsIn K mainGlobals "Heap" = some (some (.ref C_heap)))
    (pg_heap : PySem.W.plainGet K C_heap Str.empty = true) (hd_heap : PySem.W.hasDictIn K C_heap = true) (po_heap : PySem.W.plainOver K C_heap = true) (sa_heap : PySem.W.findIn K (.ref C_heap) "__setattr__" = some (some (.builtin "object.__setattr__"))) (mk_heap : PySem.W.makesIn K C_heap = true) (kc_heap : PySem.W.keepIn K (.ref C_heap) = true)
    (n_heap_held : PySem.W.findIn K (.ref C_heap) "held" = some none)
    {f_init : Addr} {od_init an_init : Option Addr} {sl_init : Array (Option Value)} {oc_init kV_init dc_init pm_init cd_init ct_init : Value}
    {T_init : Addr} {odT_init : Option Addr} {slT_init : Array (Option Value)} {nT_init : Nat} {ocT_init : Value}
    (a_init : PySem.W.findIn K (.ref C_heap) "__init__" = some (some (.ref f_init))) (i_init : PySem.W.isFn K (.ref f_init) = true) (l_init : K.lookup f_init = some ⟨oc_init, od_init, .func (PySem.W.fnOf "__init__" "Heap.__init__" (defArgs (inClass (topS 3) 0)) (defBody (inClass (topS 3) 0)) (defScope (inClass (topS 3) 0)) (.ref T_init) kV_init dc_init pm_init an_init cd_init ct_init), sl_init⟩) (t_init : K.lookup T_init = some ⟨ocT_init, odT_init, .seq #[.none] nT_init, slT_init⟩) (c_init : PySem.W.codeIn K cd_init "Heap.__init__" = true) (k_init : PySem.W.keepIn K (.ref f_init) = true)
    {f_rows : Addr} {od_rows an_rows : Option Addr} {sl_rows : Array (Option Value)} {oc_rows kV_rows dc_rows pm_rows cd_rows ct_rows : Value}
    (a_rows : PySem.W.findIn K (.ref C_heap) "rows" = some (some (.ref f_rows))) (i_rows : PySem.W.isFn K (.ref f_rows) = true) (l_rows : K.lookup f_rows = some ⟨oc_rows, od_rows, .func (PySem.W.fnOf "rows" "Heap.rows" (defArgs (inClass (topS 3) 1)) (defBody (inClass (topS 3) 1)) (defScope (inClass (topS 3) 1)) .none kV_rows dc_rows pm_rows an_rows cd_rows ct_rows), sl_rows⟩) (c_rows : PySem.W.codeIn K cd_rows "Heap.rows" = true) (k_rows : PySem.W.keepIn K (.ref f_rows) = true)
    (z_len : PySem.W.nsIn K mainGlobals "len" = some none)
    (z_list : PySem.W.nsIn K mainGlobals "list" = some none)
    (z_range : PySem.W.nsIn K mainGlobals "range" = some none)
    (z_tuple : PySem.W.nsIn K mainGlobals "tuple" = some none)
    (z_sorted : PySem.W.nsIn K mainGlobals "sorted" = some none)
    (z_repr : PySem.W.nsIn K mainGlobals "repr" = some none)
    (z_min : PySem.W.nsIn K mainGlobals "min" = some none)
    (z_sum : PySem.W.nsIn K mainGlobals "sum" = some none)
    : ∃ fd : FuncData, (∀ (s : Shared) (v : Value), BindsTo s fd ⟨[v], []⟩ [("_law_script", v)]) ∧ ∀ base : Heap, K.In base → base.Ns mainGlobals mg → FnG l.prog w K mg base CX0 5 fa fd ["_law_script"] (spLaw K) := by
  have e := hfa.symm.trans (PySem.W.mg_of X G a_law)
  cases e
  have F_feed := fun_mk (st := topS 5) l_feed c_feed k_feed
  have g_feed := PySem.W.mg_of X G a_feed
  have b_feed := F_feed.binds (ps := ["_law_script"]) fun _ _ _ _ _ _ us hl => match us, hl with | [_], _ => rfl
  have F_draw := fun_mk (st := topS 6) l_draw c_draw k_draw
  have g_draw := PySem.W.mg_of X G a_draw
  have b_draw := F_draw.binds (ps := ["_law_feed_here", "_law_many_here"]) fun _ _ _ _ _ _ us hl => match us, hl with | [_, _], _ => rfl
  have F_names := fun_mk (st := topS 7) l_names c_names k_names
  have g_names := PySem.W.mg_of X G a_names
  have b_names := F_names.binds (ps := ["_law_feed_here", "_law_many_here"]) fun _ _ _ _ _ _ us hl => match us, hl with | [_, _], _ => rfl
  have F_many := fun_mk (st := topS 8) l_many c_many k_many
  have g_many := PySem.W.mg_of X G a_many
  have b_many := F_many.binds (ps := ["_law_feed_here"]) fun _ _ _ _ _ _ us hl => match us, hl with | [_], _ => rfl
  have F_lrows := fun_mk (st := topS 9) l_lrows c_lrows k_lrows
  have g_lrows := PySem.W.mg_of X G a_lrows
  have b_lrows := F_lrows.binds (ps := ["_law_feed_here", "_law_forms", "_law_shades", "_law_most_now"]) fun _ _ _ _ _ _ us hl => match us, hl with | [_, _, _, _], _ => rfl
  have F_summed := fun_mk (st := topS 10) l_summed c_summed k_summed
  have g_summed := PySem.W.mg_of X G a_summed
  have b_summed := F_summed.binds (ps := ["_law_lot"]) fun _ _ _ _ _ _ us hl => match us, hl with | [_], _ => rfl
  have F_parted := fun_mk (st := topS 11) l_parted c_parted k_parted
  have g_parted := PySem.W.mg_of X G a_parted
  have b_parted := F_parted.binds (ps := ["_law_lot"]) fun _ _ _ _ _ _ us hl => match us, hl with | [_], _ => rfl
  have F_added := fun_mk (st := topS 2) l_added c_added k_added
  have g_added := PySem.W.mg_of X G a_added
  have b_added := F_added.binds (ps := ["rows"]) fun _ _ _ _ _ _ us hl => match us, hl with | [_], _ => rfl
  have F_law := fun_mk (st := topS 12) l_law c_law k_law
  have g_law := PySem.W.mg_of X G a_law
  have g_heap := PySem.W.mg_of X G a_heap
  have cl_heap : Cls K C_heap := ⟨pg_heap, hd_heap, po_heap, sa_heap⟩
  have F_init : FunD K "__init__" "Heap.__init__" (defArgs (inClass (topS 3) 0)) (defBody (inClass (topS 3) 0)) (defScope (inClass (topS 3) 0)) [.non] [] f_init _ := fund_mk (its := [.none]) l_init c_init k_init t_init rfl (.cons rfl .nil) (by simp)
  have m_init : Meth K C_heap "__init__" f_init := ⟨a_init, i_init, k_init⟩
  have F_rows := fun_mk (st := inClass (topS 3) 1) l_rows c_rows k_rows
  have b_rows := F_rows.binds (ps := ["self"]) fun _ _ _ _ _ _ us hl => match us, hl with | [_], _ => rfl
  have m_rows : Meth K C_heap "rows" f_rows := ⟨a_rows, i_rows, k_rows⟩
  have m_len := PySem.W.mg_none_of X G z_len
  have m_list := PySem.W.mg_none_of X G z_list
  have m_range := PySem.W.mg_none_of X G z_range
  have m_tuple := PySem.W.mg_none_of X G z_tuple
  have m_sorted := PySem.W.mg_none_of X G z_sorted
  have m_repr := PySem.W.mg_none_of X G z_repr
  have m_min := PySem.W.mg_none_of X G z_min
  have m_sum := PySem.W.mg_none_of X G z_sum
  refine ⟨PySem.W.fnOf "law" "law" (defArgs (topS 12)) (defBody (topS 12)) (defScope (topS 12)) .none kV_law dc_law pm_law an_law cd_law ct_law, fun s v => .of_eq rfl, fun base _ _ => ?_⟩
  have Fe : Cal l.prog w K mg base 1 "_law_feed" f_feed _ ["_law_script"] (spFeed K) := ⟨ok_feed F_feed m_list, g_feed, k_feed, b_feed⟩
  have D : Cal l.prog w K mg base 1 "_law_draw" f_draw _ ["_law_feed_here", "_law_many_here"] spDraw := ⟨ok_draw F_draw m_len, g_draw, k_draw, b_draw⟩
  have Nm : Cal l.prog w K mg base 2 "_law_names" f_names _ ["_law_feed_here", "_law_many_here"] spNames := ⟨ok_names F_names D m_len m_range, g_names, k_names, b_names⟩
  have Mn : Cal l.prog w K mg base 2 "_law_many" f_many _ ["_law_feed_here"] spMany := ⟨ok_many F_many D, g_many, k_many, b_many⟩
  have Lr : Cal l.prog w K mg base 3 "_law_rows" f_lrows _ ["_law_feed_here", "_law_forms", "_law_shades", "_law_most_now"] (spLRows K) := ⟨ok_lrows F_lrows D Mn m_range m_tuple m_len, g_lrows, k_lrows, b_lrows⟩
  have Su : Cal l.prog w K mg base 1 "_law_summed" f_summed _ ["_law_lot"] (spSummed K) := ⟨ok_summed F_summed m_tuple m_min m_sum, g_summed, k_summed, b_summed⟩
  have Pt : Cal l.prog w K mg base 1 "_law_parted" f_parted _ ["_law_lot"] (spParted K) := ⟨ok_parted F_parted m_tuple, g_parted, k_parted, b_parted⟩
  have Ad : Cal l.prog w K mg base 1 "added_rows" f_added _ ["rows"] (spAdded K) := ⟨ok_added F_added m_tuple m_sorted, g_added, k_added, b_added⟩
  have Hc : HCls K mg C_heap := ⟨cl_heap, n_heap_held, g_heap⟩
  have Hm : HMk l.prog w K mg base 2 C_heap f_init _ := ⟨Hc, ⟨mk_heap, a_init, i_init, kc_heap⟩, ok_init F_init Hc Ad, b_init0 F_init, kb_init2 F_init, kb_initK F_init⟩
  have Rw : MCal l.prog w K mg base 1 C_heap "rows" f_rows _ ["self"] (spRows K C_heap) := ⟨ok_rows F_rows Hc m_tuple, m_rows, b_rows⟩
  exact ok_law F_law Fe D Nm Lr Su Pt Hm Rw m_range m_repr
end K02

open PySem PySem.W PyProof.Rows
set_option maxHeartbeats 0 in
theorem PySem.Challenge.cw_partkits_k02_heaps_by_rows_holds : PySem.Challenge.rw_partkits_k02_heaps_by_rows.Holds := by
  w_on; o_law; k_head; (case hw => w_witness2)
  k_fill
  refine PK.walk_ofG (l := PySem.Challenge.rw_partkits_k02_heaps_by_rows) (n := 63) (k := 5) (x := "_law_script") (sp := fun w => K02.spLaw _) rfl (by decide) rfl ⟨rfl, by decide, by decide⟩ (fun w h Y => PySem.W.kIn_of Y) ?F (fun _ _ a ns hl _ hS => ⟨a, ns, rfl, hS, fun _ => rfl⟩)
  case F =>
    intro w mg fa h KX G hmg
    refine' K02.all_mk KX G hmg ?a_feed ?l_feed ?c_feed ?k_feed ?a_draw ?l_draw ?c_draw ?k_draw ?a_names ?l_names ?c_names ?k_names ?a_many ?l_many ?c_many ?k_many ?a_lrows ?l_lrows ?c_lrows ?k_lrows ?a_summed ?l_summed ?c_summed ?k_summed ?a_parted ?l_parted ?c_parted ?k_parted ?a_added ?l_added ?c_added ?k_added ?a_law ?l_law ?c_law ?k_law ?a_heap ?pg_heap ?hd_heap ?po_heap ?sa_heap ?mk_heap ?kc_heap ?n_heap_held ?a_init ?i_init ?l_init ?t_init ?c_init ?k_init ?a_rows ?i_rows ?l_rows ?c_rows ?k_rows ?z_len ?z_list ?z_range ?z_tuple ?z_sorted ?z_repr ?z_min ?z_sum
    (case a_feed => k_is)
    (case l_feed => k_is)
    (case c_feed => k_is)
    (case k_feed => k_is)
    (case a_draw => k_is)
    (case l_draw => k_is)
    (case c_draw => k_is)
    (case k_draw => k_is)
    (case a_names => k_is)
    (case l_names => k_is)
    (case c_names => k_is)
    (case k_names => k_is)
    (case a_many => k_is)
    (case l_many => k_is)
    (case c_many => k_is)
    (case k_many => k_is)
    (case a_lrows => k_is)
    (case l_lrows => k_is)
    (case c_lrows => k_is)
    (case k_lrows => k_is)
    (case a_summed => k_is)
    (case l_summed => k_is)
    (case c_summed => k_is)
    (case k_summed => k_is)
    (case a_parted => k_is)
    (case l_parted => k_is)
    (case c_parted => k_is)
    (case k_parted => k_is)
    (case a_added => k_is)
    (case l_added => k_is)
    (case c_added => k_is)
    (case k_added => k_is)
    (case a_law => k_is)
    (case l_law => k_is)
    (case c_law => k_is)
    (case k_law => k_is)
    (case a_heap => k_is)
    (case pg_heap => k_is)
    (case hd_heap => k_is)
    (case po_heap => k_is)
    (case sa_heap => k_is)
    (case mk_heap => k_is)
    (case kc_heap => k_is)
    (case n_heap_held => k_is)
    (case a_init => k_is)
    (case i_init => k_is)
    (case l_init => k_is)
    (case t_init => k_is)
    (case c_init => k_is)
    (case k_init => k_is)
    (case a_rows => k_is)
    (case i_rows => k_is)
    (case l_rows => k_is)
    (case c_rows => k_is)
    (case k_rows => k_is)
    (case z_len => k_is)
    (case z_list => k_is)
    (case z_range => k_is)
    (case z_tuple => k_is)
    (case z_sorted => k_is)
    (case z_repr => k_is)
    (case z_min => k_is)
    (case z_sum => k_is)
